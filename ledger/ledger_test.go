package ledger_test

import (
	"bytes"
	"hash/crc32"
	"math"
	"math/rand"
	"strings"
	"testing"

	"columbary/api"
	"columbary/block"
	"columbary/ledger"
)

// stored is what a ledger should hold.
type stored struct {
	snapshot string
	records  []string
}

func (s stored) with(record string) stored {
	return stored{s.snapshot, append(s.records[:len(s.records):len(s.records)], record)}
}

func (s stored) need() int {
	n := ledger.Need(len(s.snapshot))
	for _, r := range s.records {
		n += ledger.Need(len(r))
	}
	return n
}

func (s stored) same(o stored) bool {
	if s.snapshot != o.snapshot || len(s.records) != len(o.records) {
		return false
	}
	for i := range s.records {
		if s.records[i] != o.records[i] {
			return false
		}
	}
	return true
}

func room(count int) int {
	return api.BlockSize * (count/2 - 1)
}

func disk(t *testing.T, n int) *block.Disk {
	t.Helper()
	d, e := block.New(n)
	if e != api.OK {
		t.Fatalf("block.New(%d): %d", n, e)
	}
	return d
}

func is(t *testing.T, what string, got, want api.Errno) {
	t.Helper()
	if got != want {
		t.Errorf("%s: error %d, want %d", what, got, want)
	}
}

func open(t *testing.T, d *block.Disk, at, count int) (*ledger.Ledger, stored) {
	t.Helper()
	l, p, records, e := ledger.Open(d, at, count)
	if e != api.OK || l == nil {
		t.Fatalf("Open(%d, %d) = %v, error %d", at, count, l, e)
	}
	s := stored{snapshot: string(p)}
	for _, r := range records {
		s.records = append(s.records, string(r))
	}
	return l, s
}

// holds checks what a ledger says of itself, and what is opened on its blocks.
func holds(t *testing.T, l *ledger.Ledger, d *block.Disk, at, count int, want stored) *ledger.Ledger {
	t.Helper()
	again, got := open(t, d, at, count)
	if !got.same(want) {
		t.Fatalf("opened %q, want %q", got, want)
	}
	for _, l := range []*ledger.Ledger{l, again} {
		if l.Len() != len(want.records) || l.Left() != room(count)-want.need() {
			t.Fatalf("Len, Left = %d, %d; want %d, %d", l.Len(), l.Left(), len(want.records), room(count)-want.need())
		}
	}
	return again
}

// P2.1.
func TestSum(t *testing.T) {
	for text, want := range map[string]uint32{"": 0, "a": 0xe8b7be43, "abc": 0x352441c2, "123456789": 0xcbf43926, "\x00": 0xd202ef8d, "\xff\xff\xff\xff": 0xffffffff} {
		if got := ledger.Sum([]byte(text)); got != want {
			t.Errorf("Sum(%q) = %08x, want %08x", text, got, want)
		}
	}
	r := rand.New(rand.NewSource(1))
	for n := range 300 {
		p := make([]byte, n)
		r.Read(p)
		if got, want := ledger.Sum(p), crc32.ChecksumIEEE(p); got != want {
			t.Errorf("Sum of %d bytes = %08x, want %08x", n, got, want)
		}
	}
	if ledger.Sum(nil) != 0 {
		t.Errorf("Sum(nil) = %08x", ledger.Sum(nil))
	}
}

// P2.1.
func TestNeed(t *testing.T) {
	for _, n := range []int{0, 1, 55, 56, 57, api.MaxRecord, math.MaxInt32 - 8, -8, -9} {
		if got := ledger.Need(n); got != n+8 {
			t.Errorf("Need(%d) = %d", n, got)
		}
	}
}

// P2.2: where there can be a ledger.
func TestOpen(t *testing.T) {
	d := disk(t, 12)
	for _, c := range []struct{ at, count int }{{0, 4}, {0, 12}, {8, 4}, {1, 10}, {3, 6}} {
		l, s := open(t, d, c.at, c.count)
		if !s.same(stored{}) || l.Len() != 0 || l.Left() != room(c.count)-8 {
			t.Errorf("Open(%d, %d) holds %q; Len %d, Left %d", c.at, c.count, s, l.Len(), l.Left())
		}
	}
	for _, c := range []struct{ at, count int }{
		{-1, 4}, {math.MinInt, 4}, {9, 4}, {12, 4}, {math.MaxInt, 4}, {0, 14}, {2, 12}, {math.MaxInt, math.MaxInt - 1},
		{0, 2}, {0, 3}, {0, 5}, {0, 11}, {0, 0}, {0, -2}, {0, -4}, {0, math.MinInt}, {0, math.MaxInt}, {0, math.MaxInt - 1},
	} {
		l, p, records, e := ledger.Open(d, c.at, c.count)
		if l != nil || p != nil || records != nil || e != api.ErrArg {
			t.Errorf("Open(%d, %d) = %v, %q, %q, %d", c.at, c.count, l, p, records, e)
		}
	}
	if d.Ops() != 0 {
		t.Errorf("Open wrote")
	}
}

// P2.2: the errors of Open, in their order.
func TestOpenErrors(t *testing.T) {
	for _, at := range []int{-1, 0} {
		l, p, records, e := ledger.Open(nil, at, 4)
		if l != nil || p != nil || records != nil || e != api.ErrNone {
			t.Errorf("Open without a disk = %v, %q, %q, %d", l, p, records, e)
		}
	}
	d := disk(t, 4)
	l, _ := open(t, d, 0, 4)
	is(t, "Append", l.Append([]byte("a")), api.OK)
	d.Arm(1)
	d.Sync()
	l, p, records, e := ledger.Open(d, 0, 4)
	if l != nil || p != nil || records != nil || e != api.ErrCrash {
		t.Errorf("Open without power = %v, %q, %q, %d", l, p, records, e)
	}
	_, _, _, e = ledger.Open(d, 1, 4)
	is(t, "Open beyond, without power", e, api.ErrArg)
}

// P2.2, and example 1 of the chapter.
func TestExample(t *testing.T) {
	d := disk(t, 6)
	l, _ := open(t, d, 0, 6)
	is(t, "Append", l.Append([]byte("a")), api.OK)
	l = holds(t, l, d, 0, 6, stored{"", []string{"a"}})
	is(t, "Append", l.Append([]byte("b")), api.OK)
	l = holds(t, l, d, 0, 6, stored{"", []string{"a", "b"}})
	is(t, "Snapshot", l.Snapshot([]byte("s")), api.OK)
	l = holds(t, l, d, 0, 6, stored{"s", nil})
	is(t, "Append", l.Append([]byte("c")), api.OK)
	holds(t, l, d, 0, 6, stored{"s", []string{"c"}})
}

// P2.2: what was stored is durable when the call answers.
func TestDurable(t *testing.T) {
	d := disk(t, 12)
	l, _ := open(t, d, 0, 12)
	want := stored{}
	for i := range 30 {
		text := strings.Repeat("x", i*3%41)
		if i%5 == 4 {
			is(t, "Snapshot", l.Snapshot([]byte(text)), api.OK)
			want = stored{text, nil}
		} else {
			is(t, "Append", l.Append([]byte(text)), api.OK)
			want = want.with(text)
		}
		if d.Wait() != 0 {
			t.Fatalf("%d writes are pending", d.Wait())
		}
		d.Restart(0, 0)
		holds(t, l, d, 0, 12, want)
	}
}

// P2.2: empty records are records, and an empty snapshot is one.
func TestEmpty(t *testing.T) {
	d := disk(t, 6)
	l, _ := open(t, d, 0, 6)
	is(t, "Append", l.Append(nil), api.OK)
	is(t, "Append", l.Append([]byte{}), api.OK)
	l = holds(t, l, d, 0, 6, stored{"", []string{"", ""}})
	is(t, "Snapshot", l.Snapshot(nil), api.OK)
	l = holds(t, l, d, 0, 6, stored{})
	is(t, "Append", l.Append(nil), api.OK)
	holds(t, l, d, 0, 6, stored{"", []string{""}})
}

// P2.2: how long records may be.
func TestLong(t *testing.T) {
	d := disk(t, 200)
	l, _ := open(t, d, 0, 200)
	text := strings.Repeat("r", api.MaxRecord)
	is(t, "Append of MaxRecord", l.Append([]byte(text)), api.OK)
	is(t, "Append of more", l.Append([]byte(text+"r")), api.ErrLong)
	l = holds(t, l, d, 0, 200, stored{"", []string{text}})
	is(t, "Append of more than there is room for", l.Append([]byte(text)), api.ErrFull)
	long := strings.Repeat("s", room(200)-8)
	is(t, "Snapshot of more than MaxRecord", l.Snapshot([]byte(long)), api.OK)
	l = holds(t, l, d, 0, 200, stored{long, nil})
	is(t, "Append of more, without room", l.Append([]byte(text+"r")), api.ErrLong)
	is(t, "Append without room", l.Append(nil), api.ErrFull)
	d.Arm(1)
	d.Sync()
	is(t, "Append of more, without power", l.Append([]byte(text+"r")), api.ErrLong)
	is(t, "Append without room and power", l.Append(nil), api.ErrFull)
	is(t, "Snapshot without room and power", l.Snapshot([]byte(long+"s")), api.ErrFull)
	is(t, "Snapshot without power", l.Snapshot([]byte(long)), api.ErrCrash)
	if l.Len() != 0 || l.Left() != 0 {
		t.Errorf("Len, Left = %d, %d", l.Len(), l.Left())
	}
}

// P2.2: the room is used up to its last byte, and not beyond.
func TestFull(t *testing.T) {
	for count := 4; count <= 10; count += 2 {
		for first := 0; first <= room(count)-16; first++ {
			d := disk(t, count)
			l, _ := open(t, d, 0, count)
			a := strings.Repeat("a", first)
			is(t, "Append", l.Append([]byte(a)), api.OK)
			left := room(count) - 8 - 8 - first
			if left >= 8 {
				is(t, "Append of too much", l.Append(make([]byte, left-7)), api.ErrFull)
				holds(t, l, d, 0, count, stored{"", []string{a}})
				b := strings.Repeat("b", left-8)
				is(t, "Append of all that is left", l.Append([]byte(b)), api.OK)
				l = holds(t, l, d, 0, count, stored{"", []string{a, b}})
			}
			before := l.Len()
			is(t, "Append without room", l.Append(nil), api.ErrFull)
			if l.Len() != before {
				t.Errorf("Len = %d", l.Len())
			}
			is(t, "Snapshot of too much", l.Snapshot(make([]byte, room(count)-7)), api.ErrFull)
			full := strings.Repeat("s", room(count)-8-first%20)
			is(t, "Snapshot", l.Snapshot([]byte(full)), api.OK)
			holds(t, l, d, 0, count, stored{full, nil})
		}
	}
}

// P2.2: what an earlier use of a half left there never comes back, wherever the log ends, whatever it looks like.
func TestNothingComesBack(t *testing.T) {
	const count = 10
	whole := room(count) - 8
	for _, fill := range []string{"\x01", "\x01\x00", "\x01\x00\x00\x00\x00\x00\x00\x00", "\x01\x01\x00\x00\x00\x00\x00\x00\x00"} {
		old := []byte(strings.Repeat(fill, whole)[:whole])
		for n := range whole + 1 {
			d := disk(t, count)
			l, _ := open(t, d, 0, count)
			is(t, "Snapshot", l.Snapshot(old), api.OK)
			is(t, "Snapshot", l.Snapshot(old), api.OK)
			want := stored{strings.Repeat("s", n), nil}
			is(t, "Snapshot", l.Snapshot([]byte(want.snapshot)), api.OK)
			l = holds(t, l, d, 0, count, want)
			for l.Left() >= 8 {
				record := strings.Repeat("r", min(l.Left()-8, 40+n%25))
				is(t, "Append", l.Append([]byte(record)), api.OK)
				want = want.with(record)
				l = holds(t, l, d, 0, count, want)
			}
		}
	}
}

// P2.2: a record may contain what stands on the blocks of the ledger.
func TestBlocksAsRecords(t *testing.T) {
	const count = 40
	d := disk(t, count)
	l, _ := open(t, d, 0, count)
	want := stored{}
	for i := range 200 {
		p, _ := d.Read(i % count)
		q, _ := d.Read((i*7 + 1) % count)
		text := append(p[i%9:], q...)
		if e := l.Append(text); e == api.ErrFull {
			is(t, "Snapshot", l.Snapshot(text), api.OK)
			want = stored{string(text), nil}
		} else {
			is(t, "Append", e, api.OK)
			want = want.with(string(text))
		}
		l = holds(t, l, d, 0, count, want)
	}
}

// P2.2: a ledger touches its own blocks only.
func TestNeighbours(t *testing.T) {
	d := disk(t, 20)
	for _, i := range []int{0, 1, 8, 9, 18, 19} {
		d.Write(i, bytes.Repeat([]byte{'n'}, api.BlockSize))
	}
	d.Sync()
	a, _ := open(t, d, 2, 6)
	b, _ := open(t, d, 10, 8)
	wantA, wantB := stored{}, stored{}
	for i := range 60 {
		text := strings.Repeat(string(rune('a'+i%26)), i*5%60)
		if e := a.Append([]byte(text)); e == api.ErrFull {
			is(t, "Snapshot", a.Snapshot([]byte(text)), api.OK)
			wantA = stored{text, nil}
		} else {
			wantA = wantA.with(text)
		}
		if e := b.Append([]byte(text + "b")); e == api.ErrFull {
			is(t, "Snapshot", b.Snapshot([]byte(text+"b")), api.OK)
			wantB = stored{text + "b", nil}
		} else {
			wantB = wantB.with(text + "b")
		}
		holds(t, a, d, 2, 6, wantA)
		holds(t, b, d, 10, 8, wantB)
	}
	for _, i := range []int{0, 1, 8, 9, 18, 19} {
		if p, _ := d.Read(i); string(p) != strings.Repeat("n", api.BlockSize) {
			t.Errorf("block %d is now %q", i, p)
		}
	}
}

// P2.2, P1: a nil ledger has nothing.
func TestNil(t *testing.T) {
	var l *ledger.Ledger
	is(t, "Append", l.Append(nil), api.ErrNone)
	is(t, "Append of too much", l.Append(make([]byte, api.MaxRecord+1)), api.ErrNone)
	is(t, "Snapshot", l.Snapshot(nil), api.ErrNone)
	if l.Len() != 0 || l.Left() != 0 {
		t.Errorf("Len, Left = %d, %d", l.Len(), l.Left())
	}
}

// The rule of memory: arguments are neither kept nor changed, and no two results share any.
func TestMemory(t *testing.T) {
	d := disk(t, 8)
	l, _ := open(t, d, 0, 8)
	spare := []byte("0123456789")
	is(t, "Snapshot", l.Snapshot(spare[:2]), api.OK)
	is(t, "Append", l.Append(spare[2:4]), api.OK)
	is(t, "Append", l.Append(spare[4:5]), api.OK)
	if string(spare) != "0123456789" {
		t.Errorf("the argument is now %q", spare)
	}
	clear(spare)
	want := stored{"01", []string{"23", "4"}}
	l = holds(t, l, d, 0, 8, want)

	_, p, records, _ := ledger.Open(d, 0, 8)
	all := append(records, p)
	for i, r := range all {
		r = r[:cap(r)]
		for k := range r {
			r[k] = byte('A' + i)
		}
	}
	for i, r := range all {
		if strings.Trim(string(r), string(rune('A'+i))) != "" {
			t.Errorf("result %d shares its memory: %q", i, r)
		}
	}
	holds(t, l, d, 0, 8, want)
}

// P1: whatever stands on the blocks, every call ends without a panic, and what is opened fits into the room.
func TestAnyBlocks(t *testing.T) {
	for seed := range int64(3000) {
		r := rand.New(rand.NewSource(seed))
		count := 4 + 2*r.Intn(4)
		d := disk(t, count)
		for i := range count {
			p := make([]byte, api.BlockSize)
			for k := range p {
				if r.Intn(3) == 0 {
					p[k] = []byte{1, 2, 8, 64, 255}[r.Intn(5)]
				}
			}
			d.Write(i, p)
		}
		d.Sync()
		l, s := open(t, d, 0, count)
		if s.need() > room(count) || l.Left() < 0 {
			t.Fatalf("seed %d: opened %q; Left %d", seed, s, l.Left())
		}
		if e := l.Append([]byte("r")); e == api.OK {
			s = s.with("r")
		}
		l = holds(t, l, d, 0, count, s)
		is(t, "Snapshot", l.Snapshot([]byte("s")), api.OK)
		holds(t, l, d, 0, count, stored{"s", nil})
	}
}

// P2: the same calls do the same.
func TestSameCallsDoTheSame(t *testing.T) {
	a, b := disk(t, 8), disk(t, 8)
	la, _ := open(t, a, 0, 8)
	lb, _ := open(t, b, 0, 8)
	for i := range 100 {
		p := bytes.Repeat([]byte{byte(i)}, i%70)
		call, other := la.Append, lb.Append
		if i%4 == 3 {
			call, other = la.Snapshot, lb.Snapshot
		}
		is(t, "the same call", call(p), other(p))
		for k := range 8 {
			x, _ := a.Read(k)
			y, _ := b.Read(k)
			if !bytes.Equal(x, y) || a.Ops() != b.Ops() {
				t.Fatalf("call %d, block %d: %q, %q", i, k, x, y)
			}
		}
	}
}
