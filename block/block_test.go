package block_test

import (
	"bytes"
	"math"
	"math/rand"
	"strings"
	"testing"

	"columbary/api"
	"columbary/block"
)

func disk(t *testing.T, n int) *block.Disk {
	t.Helper()
	d, e := block.New(n)
	if e != api.OK || d == nil {
		t.Fatalf("New(%d): %v, %d", n, d, e)
	}
	return d
}

// want checks that block i begins with text and is padded with zeros.
func want(t *testing.T, d *block.Disk, i int, text string) {
	t.Helper()
	p, e := d.Read(i)
	full := text + strings.Repeat("\x00", api.BlockSize-len(text))
	if e != api.OK || string(p) != full {
		t.Errorf("Read(%d) = %q, %d; want %q", i, p, e, text)
	}
}

func is(t *testing.T, what string, got, want api.Errno) {
	t.Helper()
	if got != want {
		t.Errorf("%s: error %d, want %d", what, got, want)
	}
}

func state(t *testing.T, d *block.Disk, on bool, wait, ops int) {
	t.Helper()
	if d.On() != on || d.Wait() != wait || d.Ops() != ops {
		t.Errorf("On, Wait, Ops = %v, %d, %d; want %v, %d, %d", d.On(), d.Wait(), d.Ops(), on, wait, ops)
	}
}

// P1.1: New and Len.
func TestNew(t *testing.T) {
	for _, n := range []int{1, 2, api.MaxBlocks - 1, api.MaxBlocks} {
		d := disk(t, n)
		if d.Len() != n {
			t.Errorf("Len = %d, want %d", d.Len(), n)
		}
		state(t, d, true, 0, 0)
		want(t, d, 0, "")
		want(t, d, n-1, "")
	}
	for _, n := range []int{0, -1, math.MinInt, api.MaxBlocks + 1, math.MaxInt} {
		if d, e := block.New(n); d != nil || e != api.ErrArg {
			t.Errorf("New(%d) = %v, %d", n, d, e)
		}
	}
}

// P1.1: what is written is read, padded, in its own block only.
func TestWriteRead(t *testing.T) {
	d := disk(t, 3)
	full := strings.Repeat("f", api.BlockSize)
	is(t, "Write", d.Write(1, []byte(full)), api.OK)
	want(t, d, 1, full)
	is(t, "Write", d.Write(1, []byte("ab")), api.OK)
	want(t, d, 0, "")
	want(t, d, 1, "ab")
	want(t, d, 2, "")
	state(t, d, true, 2, 2)
	is(t, "Write", d.Write(1, nil), api.OK)
	want(t, d, 1, "")
	is(t, "Write", d.Write(2, []byte("z")), api.OK)
	want(t, d, 2, "z")
	state(t, d, true, 4, 4)
}

// P1.1: Sync makes all pending writes durable.
func TestSync(t *testing.T) {
	d := disk(t, 2)
	d.Write(0, []byte("a"))
	d.Write(1, []byte("b"))
	is(t, "Sync", d.Sync(), api.OK)
	state(t, d, true, 0, 3)
	is(t, "Sync of nothing", d.Sync(), api.OK)
	state(t, d, true, 0, 4)
	is(t, "Restart", d.Restart(0, 0), api.OK)
	want(t, d, 0, "a")
	want(t, d, 1, "b")
	state(t, d, true, 0, 4)
}

// P1.1: the errors, in their order; what is rejected changes and counts nothing.
func TestErrors(t *testing.T) {
	d := disk(t, 2)
	long := make([]byte, api.BlockSize+1)
	d.Write(0, []byte("a"))
	for _, i := range []int{-1, 2, math.MinInt, math.MaxInt} {
		is(t, "Write beyond", d.Write(i, long), api.ErrArg)
		p, e := d.Read(i)
		is(t, "Read beyond", e, api.ErrArg)
		if p != nil {
			t.Errorf("Read(%d) = %q beside an error", i, p)
		}
	}
	is(t, "Write too long", d.Write(0, long), api.ErrLong)
	is(t, "Arm(-1)", d.Arm(-1), api.ErrArg)
	state(t, d, true, 1, 1)
	want(t, d, 0, "a")

	d.Arm(1)
	is(t, "Sync", d.Sync(), api.ErrCrash)
	is(t, "Write beyond, off", d.Write(2, long), api.ErrArg)
	is(t, "Write, off", d.Write(0, []byte("b")), api.ErrCrash)
	is(t, "Write too long, off", d.Write(0, long), api.ErrCrash)
	is(t, "Sync, off", d.Sync(), api.ErrCrash)
	is(t, "Arm(-1), off", d.Arm(-1), api.ErrArg)
	is(t, "Arm(math.MinInt), off", d.Arm(math.MinInt), api.ErrArg)
	_, e := d.Read(-1)
	is(t, "Read beyond, off", e, api.ErrArg)
	p, e := d.Read(0)
	is(t, "Read, off", e, api.ErrCrash)
	if p != nil {
		t.Errorf("Read = %q beside an error", p)
	}
	state(t, d, false, 1, 2)
	if d.Len() != 2 {
		t.Errorf("Len = %d", d.Len())
	}
}

// P1.1: the power fails in the n-th Write or Sync that is not rejected, whatever else is called.
func TestArmCounts(t *testing.T) {
	for n := 1; n <= 6; n++ {
		d := disk(t, 1)
		d.Write(0, []byte("before"))
		is(t, "Arm", d.Arm(n), api.OK)
		for k := 1; k <= n; k++ {
			d.Read(0)
			d.Read(1)
			d.Write(1, nil)
			d.Write(0, make([]byte, api.BlockSize+1))
			d.Arm(-1)
			due := api.OK
			if k == n {
				due = api.ErrCrash
			}
			if k%2 == 0 {
				is(t, "Sync", d.Sync(), due)
			} else {
				is(t, "Write", d.Write(0, []byte("x")), due)
			}
			if d.On() != (k < n) || d.Ops() != k+1 {
				t.Errorf("Arm(%d), operation %d: On %v, Ops %d", n, k, d.On(), d.Ops())
			}
		}
	}
}

// P1.1: the latest Arm counts, from then on; 0 disarms.
func TestArmAnew(t *testing.T) {
	d := disk(t, 1)
	d.Arm(2)
	is(t, "Write", d.Write(0, nil), api.OK)
	d.Arm(2)
	is(t, "Write", d.Write(0, nil), api.OK)
	is(t, "Arm(0)", d.Arm(0), api.OK)
	for range 5 {
		is(t, "Write", d.Write(0, nil), api.OK)
		is(t, "Sync", d.Sync(), api.OK)
	}
	d.Arm(math.MaxInt)
	is(t, "Write", d.Write(0, nil), api.OK)
	d.Arm(1)
	is(t, "Write", d.Write(0, nil), api.ErrCrash)
}

// P1.1: a Write in which the power fails becomes pending.
func TestCrashInWrite(t *testing.T) {
	for _, c := range []struct {
		keep, torn int
		want       string
	}{{0, 0, "old"}, {0, 1, "nld"}, {1, 0, "new"}} {
		d := disk(t, 1)
		d.Write(0, []byte("old"))
		d.Sync()
		d.Arm(1)
		is(t, "Write", d.Write(0, []byte("new")), api.ErrCrash)
		state(t, d, false, 1, 3)
		is(t, "Restart", d.Restart(c.keep, c.torn), api.OK)
		state(t, d, true, 0, 3)
		want(t, d, 0, c.want)
	}
}

// P1.1: a Sync in which the power fails has no effect.
func TestCrashInSync(t *testing.T) {
	for keep, text := range []string{"old", "one", "two"} {
		d := disk(t, 1)
		d.Write(0, []byte("old"))
		d.Sync()
		d.Write(0, []byte("one"))
		d.Write(0, []byte("two"))
		d.Arm(1)
		is(t, "Sync", d.Sync(), api.ErrCrash)
		state(t, d, false, 2, 5)
		d.Restart(keep, 0)
		want(t, d, 0, text)
	}
}

// P1.1, P1.2: Arm is accepted while the power is off; Restart disarms the disk, on or off.
func TestRestartDisarms(t *testing.T) {
	d := disk(t, 1)
	d.Arm(1)
	is(t, "Restart, on", d.Restart(0, 0), api.OK)
	is(t, "Write", d.Write(0, []byte("a")), api.OK)
	d.Arm(1)
	is(t, "Sync", d.Sync(), api.ErrCrash)
	is(t, "Arm, off", d.Arm(1), api.OK)
	if d.On() {
		t.Errorf("Arm turned the power on")
	}
	is(t, "Restart, off", d.Restart(1, 0), api.OK)
	is(t, "Sync", d.Sync(), api.OK)
	is(t, "Write", d.Write(0, []byte("b")), api.OK)
	state(t, d, true, 1, 4)
}

// P1.2: which of the pending writes a Restart keeps, and how much of the next one.
func TestRestart(t *testing.T) {
	for _, c := range []struct {
		keep, torn int
		want       [3]string
	}{
		{0, 0, [3]string{"abc", "", ""}},
		{0, 1, [3]string{"xbc", "", ""}},
		{0, -1, [3]string{"abc", "", ""}},
		{-1, 1, [3]string{"xbc", "", ""}},
		{math.MinInt, 0, [3]string{"abc", "", ""}},
		{1, 0, [3]string{"xw", "", ""}},
		{1, 2, [3]string{"xw", "pq", ""}},
		{2, 0, [3]string{"xw", "pqr", ""}},
		{2, 1, [3]string{"yw", "pqr", ""}},
		{3, 1, [3]string{"yz", "pqr", "u"}},
		{3, -5, [3]string{"yz", "pqr", ""}},
		{4, 0, [3]string{"yz", "pqr", "uv"}},
		{5, 7, [3]string{"yz", "pqr", "uv"}},
		{math.MaxInt, math.MaxInt, [3]string{"yz", "pqr", "uv"}},
	} {
		d := disk(t, 3)
		d.Write(0, []byte("abc"))
		d.Sync()
		for i, text := range []string{"xw", "pqr", "yz", "uv"} {
			d.Write([]int{0, 1, 0, 2}[i], []byte(text))
		}
		state(t, d, true, 4, 6)
		is(t, "Restart", d.Restart(c.keep, c.torn), api.OK)
		state(t, d, true, 0, 6)
		for i, text := range c.want {
			want(t, d, i, text)
		}
		d.Restart(9, 9) // what was lost stays lost, what was kept stays kept
		for i, text := range c.want {
			want(t, d, i, text)
		}
	}
}

// P1.2: a torn write brings its padding, too, as far as it came.
func TestTorn(t *testing.T) {
	old := strings.Repeat("o", api.BlockSize)
	full := "new" + strings.Repeat("\x00", api.BlockSize-3)
	for _, torn := range []int{math.MinInt, -1, 0, 1, 2, 3, 4, 40, api.BlockSize - 1, api.BlockSize, api.BlockSize + 1, math.MaxInt} {
		d := disk(t, 1)
		d.Write(0, []byte(old))
		d.Sync()
		d.Write(0, []byte("new"))
		d.Restart(0, torn)
		n := max(0, min(torn, api.BlockSize))
		want(t, d, 0, full[:n]+old[n:])
	}
}

// Example 1 of the chapter.
func TestExample(t *testing.T) {
	d := disk(t, 1)
	d.Write(0, []byte("ab"))
	d.Sync()
	d.Write(0, []byte("xy"))
	d.Restart(0, 1)
	want(t, d, 0, "xb")
}

// P1.2: a nil disk has nothing, whatever it is given.
func TestNil(t *testing.T) {
	var d *block.Disk
	for _, n := range []int{0, -1, 1, math.MaxInt, math.MinInt} {
		p, e := d.Read(n)
		is(t, "Read", e, api.ErrNone)
		if p != nil {
			t.Errorf("Read = %q", p)
		}
		is(t, "Write", d.Write(n, nil), api.ErrNone)
		is(t, "Write too long", d.Write(n, make([]byte, api.BlockSize+1)), api.ErrNone)
		is(t, "Arm", d.Arm(n), api.ErrNone)
		is(t, "Restart", d.Restart(n, n), api.ErrNone)
	}
	is(t, "Sync", d.Sync(), api.ErrNone)
	if d.Len() != 0 {
		t.Errorf("Len = %d", d.Len())
	}
	state(t, d, false, 0, 0)
}

// The rule of memory: arguments are neither kept nor changed, and results are new, with their spare capacity.
func TestMemory(t *testing.T) {
	d := disk(t, 2)
	room := []byte("abcdef")
	d.Write(0, room[:2])
	if string(room) != "abcdef" {
		t.Errorf("the argument is now %q", room)
	}
	room[0] = 'X'
	want(t, d, 0, "ab")
	p, _ := d.Read(0)
	q, _ := d.Read(0)
	for _, r := range [][]byte{p[:cap(p)], q[:cap(q)]} {
		for i := range r {
			r[i] = '!'
		}
		want(t, d, 0, "ab")
		want(t, d, 1, "")
	}
	d.Sync()
	d.Restart(0, 0)
	want(t, d, 0, "ab")
	p, _ = d.Read(0)
	p[0] = '!'
	if q[0] = '?'; p[0] != '!' {
		t.Errorf("two results share memory")
	}
	d.Restart(0, 0)
	want(t, d, 0, "ab")
}

// P1: every call ends without a panic, for extreme arguments, with the power on and off.
func TestEveryCallEnds(t *testing.T) {
	extremes := []int{math.MinInt, math.MinInt32, -1, 0, 1, 63, 64, 65, math.MaxInt32, math.MaxInt}
	for _, off := range []bool{false, true} {
		for _, a := range extremes {
			block.New(a)
			for _, b := range extremes {
				d := disk(t, 2)
				d.Write(1, []byte("p"))
				if off {
					d.Arm(1)
					d.Sync()
				}
				d.Read(a)
				d.Write(a, nil)
				d.Write(a, make([]byte, 1000))
				d.Arm(b)
				d.Sync()
				d.Restart(a, b)
				d.Read(b)
				state(t, d, true, 0, d.Ops())
			}
		}
	}
}

// model replays everything from the start instead of keeping what it comes to.
type model struct {
	durable [][]byte
	pending []func(b [][]byte, most int)
	ops     int
	fuse    int
	on      bool
}

func copies(b [][]byte) [][]byte {
	out := make([][]byte, len(b))
	for i := range b {
		out[i] = bytes.Clone(b[i])
	}
	return out
}

func newModel(n int) *model {
	m := &model{on: true}
	for range n {
		m.durable = append(m.durable, make([]byte, api.BlockSize))
	}
	return m
}

func (m *model) read(i int) ([]byte, api.Errno) {
	if i < 0 || i >= len(m.durable) {
		return nil, api.ErrArg
	}
	if !m.on {
		return nil, api.ErrCrash
	}
	now := copies(m.durable)
	for _, w := range m.pending {
		w(now, api.BlockSize)
	}
	return now[i], api.OK
}

func (m *model) op() api.Errno {
	m.ops++
	if m.fuse > 0 {
		m.fuse--
		m.on = m.fuse > 0
	}
	if !m.on {
		return api.ErrCrash
	}
	return api.OK
}

func (m *model) write(i int, p []byte) api.Errno {
	if _, e := m.read(i); e != api.OK {
		return e
	}
	if len(p) > api.BlockSize {
		return api.ErrLong
	}
	text := append(bytes.Clone(p), make([]byte, api.BlockSize-len(p))...)
	m.pending = append(m.pending, func(b [][]byte, most int) { copy(b[i], text[:most]) })
	return m.op()
}

func (m *model) sync() api.Errno {
	if !m.on {
		return api.ErrCrash
	}
	if e := m.op(); e != api.OK {
		return e
	}
	for _, w := range m.pending {
		w(m.durable, api.BlockSize)
	}
	m.pending = nil
	return api.OK
}

func (m *model) restart(keep, torn int) {
	for i, w := range m.pending {
		if i < keep {
			w(m.durable, api.BlockSize)
		} else if i == max(keep, 0) {
			w(m.durable, min(max(torn, 0), api.BlockSize))
		}
	}
	m.pending, m.fuse, m.on = nil, 0, true
}

func (m *model) same(t *testing.T, d *block.Disk) {
	t.Helper()
	if d.On() != m.on || d.Wait() != len(m.pending) || d.Ops() != m.ops || d.Len() != len(m.durable) {
		t.Fatalf("On, Wait, Ops = %v, %d, %d; want %v, %d, %d", d.On(), d.Wait(), d.Ops(), m.on, len(m.pending), m.ops)
	}
	for i := -1; i <= len(m.durable); i++ {
		p, e := d.Read(i)
		q, f := m.read(i)
		if !bytes.Equal(p, q) || e != f {
			t.Fatalf("Read(%d) = %q, %d; want %q, %d", i, p, e, q, f)
		}
	}
}

// step does the same to a disk and to its model.
func step(t *testing.T, r *rand.Rand, d *block.Disk, m *model) {
	t.Helper()
	switch k := r.Intn(20); {
	case k < 12:
		p := make([]byte, r.Intn(api.BlockSize+3))
		r.Read(p)
		i := r.Intn(len(m.durable)+2) - 1
		is(t, "Write", d.Write(i, p), m.write(i, p))
	case k < 15:
		is(t, "Sync", d.Sync(), m.sync())
	case k < 17:
		n := r.Intn(6) - 1
		due := api.OK
		if n < 0 {
			due = api.ErrArg
		} else {
			m.fuse = n
		}
		is(t, "Arm", d.Arm(n), due)
	default:
		keep, torn := r.Intn(9)-2, r.Intn(api.BlockSize+6)-3
		is(t, "Restart", d.Restart(keep, torn), api.OK)
		m.restart(keep, torn)
	}
	m.same(t, d)
}

// P1.1, P1.2: long scripts do to a disk what they do to a model of it.
func TestModel(t *testing.T) {
	for seed := range int64(300) {
		r := rand.New(rand.NewSource(seed))
		n := 1 + r.Intn(4)
		d, m := disk(t, n), newModel(n)
		for range 80 {
			step(t, r, d, m)
		}
		if t.Failed() {
			t.Fatalf("seed %d", seed)
		}
	}
}

// P2: the same calls tell the same, whatever is done to other disks meanwhile.
func TestSameCallsTellTheSame(t *testing.T) {
	script := func(d *block.Disk, k int) (string, api.Errno) {
		switch k % 7 {
		case 0, 1, 2:
			return "", d.Write(k%3, bytes.Repeat([]byte{byte(k)}, k%65))
		case 3:
			return "", d.Sync()
		case 4:
			return "", d.Arm(k % 5)
		case 5:
			p, e := d.Read(k % 3)
			return string(p), e
		}
		return "", d.Restart(k%4, k%67)
	}
	a, b, other := disk(t, 3), disk(t, 3), disk(t, 3)
	for k := range 500 {
		x, e := script(a, k)
		script(other, k*31+5)
		y, f := script(b, k)
		if x != y || e != f || a.On() != b.On() || a.Wait() != b.Wait() || a.Ops() != b.Ops() {
			t.Fatalf("step %d: %q, %d; then %q, %d", k, x, e, y, f)
		}
	}
}
