package wire

import (
	"bytes"
	"math"

	"columbary/api"
)

// Reader has nothing left after a fault, so that every later read is a fault as well.
type Reader struct {
	left []byte
	bad  bool
}

// Read copies p, as the caller may modify it before it is read.
func Read(p []byte) *Reader {
	return &Reader{left: bytes.Clone(p)}
}

func Open(p []byte) (*Reader, api.Errno) {
	n := len(p) - seal
	if n < 0 {
		return nil, api.ErrForm
	}
	text := p[:n:n]
	if !bytes.Equal(p[n:], sealOf(text)) {
		return nil, api.ErrSum
	}
	return Read(text), api.OK
}

func (r *Reader) Uint(most uint64) uint64 {
	n := uint64(0)
	for shift := 0; ; shift += group {
		b := r.next()
		if shift > 0 && b == 0 || shift+group > 64 && b > 1 {
			r.fail()
		}
		if r.Bad() {
			return 0
		}
		n |= uint64(b&^more) << shift
		if b < more {
			break
		}
	}
	if n > most {
		r.fail()
		return 0
	}
	return n
}

func (r *Reader) Int() int64 {
	n := r.Uint(math.MaxUint64)
	return int64(n>>1) ^ -int64(n&1)
}

func (r *Reader) Text(most int) string {
	n := r.Uint(uint64(max(0, most)))
	if r.Bad() {
		return ""
	}
	if n > uint64(len(r.left)) {
		r.fail()
		return ""
	}
	s := string(r.left[:n])
	r.left = r.left[n:]
	return s
}

func (r *Reader) Value() api.Value {
	v := r.value(0)
	if r.Bad() {
		return api.Value{}
	}
	return v
}

func (r *Reader) Entity() api.Entity {
	typ, id := r.Text(api.MaxName), r.Text(api.MaxString)
	v := r.Value()
	if v.Kind != api.VObject || !increasing(v.K) {
		r.fail()
	}
	if r.Bad() {
		return api.Entity{}
	}
	return api.Entity{Type: typ, ID: id, K: v.K, L: v.L}
}

func (r *Reader) Bad() bool {
	return r == nil || r.bad
}

func (r *Reader) End() bool {
	return !r.Bad() && len(r.left) == 0
}

// next returns 0 if there is a fault.
func (r *Reader) next() byte {
	if r.Bad() || len(r.left) == 0 {
		r.fail()
		return 0
	}
	b := r.left[0]
	r.left = r.left[1:]
	return b
}

func (r *Reader) fail() {
	if r != nil {
		r.bad, r.left = true, nil
	}
}

// value returns anything after a fault. open counts the values that it is in: with those, also one without elements may be nested too deep.
func (r *Reader) value(open int) api.Value {
	if open == api.MaxNest {
		r.fail()
	}
	v := api.Value{Kind: byte(r.Uint(uint64(api.VRef)))}
	switch v.Kind {
	case api.VInt:
		v.N = r.Int()
	case api.VBool:
		v.N = r.Int()
		if v.N != 0 && v.N != 1 {
			r.fail()
		}
	case api.VText, api.VEnum, api.VVar, api.VRef:
		v.S = r.Text(api.MaxString)
	case api.VList, api.VObject:
		r.elements(&v, open+1)
	}
	return v
}

func (r *Reader) elements(v *api.Value, open int) {
	for range r.Uint(api.MaxList) {
		if v.Kind == api.VObject {
			v.K = append(v.K, r.Text(api.MaxName))
		}
		v.L = append(v.L, r.value(open))
		if r.Bad() {
			return
		}
	}
}

func increasing(names []string) bool {
	for i := range names {
		if i > 0 && names[i-1] >= names[i] {
			return false
		}
	}
	return true
}
