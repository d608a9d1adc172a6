package wire

import (
	"bytes"

	"columbary/api"
	"columbary/ledger"
)

const (
	group = 7          // bits of a number in each byte
	more  = 1 << group // what a byte has that is not a number's last
	seal  = 4          // bytes of a checksum
)

// Writer is ready for use as it is.
type Writer struct {
	text []byte
}

func (w *Writer) Uint(n uint64) *Writer {
	if w == nil {
		return nil
	}
	for ; n >= more; n >>= group {
		w.text = append(w.text, byte(n)|more)
	}
	w.text = append(w.text, byte(n))
	return w
}

// Int alternates between 0 and above and below 0, so that small numbers of both signs are short.
func (w *Writer) Int(n int64) *Writer {
	return w.Uint(uint64(n)<<1 ^ uint64(n>>63))
}

func (w *Writer) Text(s string) *Writer {
	if w == nil {
		return nil
	}
	w.Uint(uint64(len(s)))
	w.text = append(w.text, s...)
	return w
}

// place is a value that is being written, and its element that comes next.
type place struct {
	v    *api.Value
	next int
}

// Value keeps the way down to where it is by itself: a value may be nested deeper than calls can be.
func (w *Writer) Value(v api.Value) *Writer {
	if w == nil {
		return nil
	}
	w.begin(&v)
	way := []place{{v: &v}}
	for len(way) > 0 {
		last := &way[len(way)-1]
		if last.next == elements(last.v) {
			way = way[:len(way)-1]
			continue
		}
		if last.v.Kind == api.VObject {
			w.Text(last.v.K[last.next])
		}
		x := &last.v.L[last.next]
		last.next++
		w.begin(x)
		way = append(way, place{v: x})
	}
	return w
}

func (w *Writer) Entity(x api.Entity) *Writer {
	return w.Text(x.Type).Text(x.ID).Value(api.Value{Kind: api.VObject, K: x.K, L: x.L})
}

func (w *Writer) Done() []byte {
	if w == nil {
		return nil
	}
	return bytes.Clone(w.text)
}

// Sealed cuts off the spare room of what was written: later writes need it, and the checksum must not be there.
func (w *Writer) Sealed() []byte {
	if w == nil {
		return nil
	}
	n := len(w.text)
	return append(w.text[:n:n], sealOf(w.text)...)
}

// begin writes a value without its elements.
func (w *Writer) begin(v *api.Value) {
	w.Uint(uint64(v.Kind))
	switch v.Kind {
	case api.VInt, api.VBool:
		w.Int(v.N)
	case api.VText, api.VEnum, api.VVar, api.VRef:
		w.Text(v.S)
	case api.VList, api.VObject:
		w.Uint(uint64(elements(v)))
	}
}

// elements counts only what has a name, in an object.
func elements(v *api.Value) int {
	switch v.Kind {
	case api.VList:
		return len(v.L)
	case api.VObject:
		return min(len(v.K), len(v.L))
	}
	return 0
}

func sealOf(p []byte) []byte {
	sum := ledger.Sum(p)
	out := make([]byte, seal)
	for i := range seal {
		out[i] = byte(sum >> (8 * i))
	}
	return out
}
