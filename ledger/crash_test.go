package ledger_test

import (
	"math/rand"
	"strings"
	"testing"

	"columbary/api"
	"columbary/block"
	"columbary/ledger"
)

// op is one call: a snapshot, or else a record.
type op struct {
	snapshot bool
	text     string
}

func (o op) do(l *ledger.Ledger) api.Errno {
	if o.snapshot {
		return l.Snapshot([]byte(o.text))
	}
	return l.Append([]byte(o.text))
}

func (o op) after(s stored) stored {
	if o.snapshot {
		return stored{o.text, nil}
	}
	return s.with(o.text)
}

func of(n int, c string) string {
	return strings.Repeat(c, n)
}

// scripts go over block boundaries in all ways, with and without something behind the end of the log.
func scripts() [][]op {
	ones := "\x01\x00\x00\x00\x00\x00\x00\x00"
	return [][]op{
		{{false, "a"}, {false, "bc"}, {true, "s"}, {false, "c"}, {true, ""}, {false, ""}},
		{{false, of(40, "a")}, {false, of(40, "b")}, {false, of(80, "c")}},
		{{false, of(40, "a")}, {false, of(56, "b")}, {false, of(56, "c")}},
		{{true, of(184, "\x01")}, {true, of(23, ones)}, {true, of(56, "s")}, {false, of(56, "a")}, {false, of(48, "b")}},
		{{true, of(23, ones)}, {true, of(23, ones)}, {true, of(48, "s")}, {false, of(1, "a")}, {false, of(100, "b")}},
		{{false, of(150, "\x01")}, {true, of(120, "s")}, {true, ""}, {false, of(47, "\x01")}, {false, ""}, {false, of(100, "\x01")}},
	}
}

const blocks = 8

// prepared plays the ops up to one, which is armed to lose power in its n-th operation of the disk; false: it has fewer.
func prepared(t *testing.T, script []op, n int) (*block.Disk, *ledger.Ledger, stored, bool) {
	t.Helper()
	d := disk(t, blocks+2)
	l, s := open(t, d, 1, blocks)
	last := script[len(script)-1]
	for _, o := range script[:len(script)-1] {
		is(t, "a call with power", o.do(l), api.OK)
		s = o.after(s)
	}
	d.Arm(n)
	e := last.do(l)
	if e == api.OK {
		return d, l, last.after(s), false
	}
	is(t, "the call without power", e, api.ErrCrash)
	return d, l, s, true
}

// either opens the ledger: it holds what was, or all that the interrupted call would have stored.
func either(t *testing.T, d *block.Disk, was, would stored) (*ledger.Ledger, stored) {
	t.Helper()
	l, got := open(t, d, 1, blocks)
	if !got.same(was) && !got.same(would) {
		t.Fatalf("opened %q, want %q or %q", got, was, would)
	}
	return l, got
}

// crashes calls f for each way in which the last call of each script can be interrupted.
func crashes(t *testing.T, torn []int, f func(d *block.Disk, l *ledger.Ledger, was, would stored)) {
	for _, script := range scripts() {
		for end := 1; end <= len(script); end++ {
			for n := 1; ; n++ {
				d, _, was, failed := prepared(t, script[:end], n)
				if !failed {
					break
				}
				would := script[end-1].after(was)
				for keep := range d.Wait() + 1 {
					for _, k := range torn {
						d, l, was, _ := prepared(t, script[:end], n)
						d.Restart(keep, k)
						f(d, l, was, would)
					}
				}
			}
		}
	}
}

func bytesOfBlock() []int {
	var out []int
	for k := range api.BlockSize + 1 {
		out = append(out, k)
	}
	return out
}

// P2.3: after any loss of power in a call the ledger holds what was, or all of what would have been; and it goes on from there, however the log is continued.
func TestCrash(t *testing.T) {
	crashes(t, bytesOfBlock(), func(d *block.Disk, _ *ledger.Ledger, was, would stored) {
		l, s := either(t, d, was, would)
		d.Restart(0, 0)
		l = holds(t, l, d, 1, blocks, s)
		for _, n := range []int{0, 3} {
			if ledger.Need(n) <= l.Left() {
				o := op{false, of(n, "n")}
				is(t, "Append after the crash", o.do(l), api.OK)
				s = o.after(s)
				l = holds(t, l, d, 1, blocks, s)
			}
		}
		is(t, "Snapshot after the crash", l.Snapshot([]byte("z")), api.OK)
		holds(t, l, d, 1, blocks, stored{"z", nil})
	})
}

// P2.3: both may be: the call is lost if nothing of it arrived, and done if all did.
func TestCrashLosesAndKeeps(t *testing.T) {
	for _, script := range scripts() {
		for n := 1; ; n++ {
			d, _, was, failed := prepared(t, script, n)
			if !failed {
				break
			}
			wait := d.Wait()
			d.Restart(0, 0)
			if _, got := open(t, d, 1, blocks); !got.same(was) {
				t.Errorf("nothing arrived, and %q is stored, want %q", got, was)
			}
			d, l, _, _ := prepared(t, script, n)
			if _, _, _, e := ledger.Open(d, 1, blocks); e != api.ErrCrash {
				t.Errorf("Open without power: %d", e)
			}
			if l.Len() != len(was.records) || l.Left() != room(blocks)-was.need() {
				t.Errorf("without power Len, Left = %d, %d", l.Len(), l.Left())
			}
			is(t, "Append without power", l.Append(nil), api.ErrCrash)
			is(t, "Snapshot without power", l.Snapshot(nil), api.ErrCrash)
			d.Restart(wait, 0)
			if _, _, _, more := prepared(t, script, n+1); more {
				continue // not all of it had been written
			}
			if _, got := open(t, d, 1, blocks); !got.same(script[len(script)-1].after(was)) {
				t.Errorf("all arrived, and %q is stored", got)
			}
		}
	}
}

// P2.3: power is lost again in the next call, after each way in which it was lost in the one before.
func TestCrashTwice(t *testing.T) {
	r := rand.New(rand.NewSource(2))
	crashes(t, []int{0, 1, 5, 8, 9, 41, 64}, func(d *block.Disk, _ *ledger.Ledger, was, would stored) {
		l, s := either(t, d, was, would)
		o := op{r.Intn(3) == 0, of(r.Intn(60), "o")}
		if !o.snapshot && ledger.Need(len(o.text)) > l.Left() {
			o.snapshot = true
		}
		d.Arm(1 + r.Intn(5))
		e := o.do(l)
		d.Restart(r.Intn(5), r.Intn(api.BlockSize+1))
		if e == api.OK {
			holds(t, l, d, 1, blocks, o.after(s))
		} else {
			either(t, d, s, o.after(s))
		}
	})
}

// P2.3: a ledger that is used on after the power has returned, without another Open, knows what is stored, and stores durably.
func TestUsedOnAfterCrash(t *testing.T) {
	crashes(t, []int{0, 1, 8, 41, 64}, func(d *block.Disk, l *ledger.Ledger, was, would stored) {
		_, s := either(t, d, was, would)
		fits := ledger.Need(0) <= room(blocks)-s.need()
		switch k := len(s.records) % 3; {
		case k == 0 && fits:
			is(t, "Append after the crash", l.Append(nil), api.OK)
			s = s.with("")
		case k == 1:
			is(t, "Snapshot after the crash", l.Snapshot([]byte("z")), api.OK)
			s = stored{"z", nil}
		case !fits:
			is(t, "Append after the crash, without room", l.Append(nil), api.ErrFull)
		}
		holds(t, l, d, 1, blocks, s)
	})
}

// P2.3: Open may be interrupted as well: it is not, as it only reads, or it changes nothing.
func TestCrashInOpen(t *testing.T) {
	crashes(t, []int{0, 9, 64}, func(d *block.Disk, _ *ledger.Ledger, was, would stored) {
		_, s := either(t, d, was, would)
		d.Arm(1)
		if _, _, _, e := ledger.Open(d, 1, blocks); e != api.OK && e != api.ErrCrash {
			t.Errorf("Open: %d", e)
		}
		d.Restart(0, 1)
		l, _ := open(t, d, 1, blocks)
		holds(t, l, d, 1, blocks, s)
	})
}

// P2.3, P6: long scripts with crashes.
func TestCrashScripts(t *testing.T) {
	for seed := range int64(400) {
		r := rand.New(rand.NewSource(seed))
		d := disk(t, blocks+2)
		l, s := open(t, d, 1, blocks)
		for range 60 {
			o := op{r.Intn(6) == 0, of(r.Intn(1+r.Intn(90)), string(rune(r.Intn(3))))}
			if r.Intn(3) == 0 {
				d.Arm(1 + r.Intn(8))
			}
			switch e := o.do(l); e {
			case api.OK:
				s = o.after(s)
			case api.ErrFull:
				if ledger.Need(len(o.text)) <= room(blocks)-s.need() {
					t.Fatalf("seed %d: full, with %d bytes left", seed, l.Left())
				}
			case api.ErrCrash:
				if r.Intn(2) == 0 && (l.Len() != len(s.records) || l.Left() != room(blocks)-s.need()) {
					t.Fatalf("seed %d: without power Len, Left = %d, %d", seed, l.Len(), l.Left())
				}
				d.Restart(r.Intn(8)-1, r.Intn(api.BlockSize+1))
				again, got := either(t, d, s, o.after(s))
				s = got
				switch r.Intn(3) {
				case 0:
					l = again
				case 1:
					continue // the next call is the first one that the old ledger sees
				}
			default:
				t.Fatalf("seed %d: error %d", seed, e)
			}
			holds(t, l, d, 1, blocks, s)
		}
		if t.Failed() {
			t.Fatalf("seed %d", seed)
		}
	}
}
