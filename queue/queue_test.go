package queue_test

import (
	"fmt"
	"math"
	"math/rand"
	"slices"
	"testing"

	"columbary/api"
	"columbary/queue"
)

func made[T any](t *testing.T, most int, gone uint64) *queue.Queue[T] {
	t.Helper()
	q, e := queue.New[T](most, gone)
	if e != api.OK || q == nil {
		t.Fatalf("New(%d, %d): %v, %d", most, gone, q, e)
	}
	return q
}

// holds checks everything that a queue tells of itself.
func holds[T comparable](t *testing.T, q *queue.Queue[T], gone uint64, want ...T) {
	t.Helper()
	if got := q.All(); !slices.Equal(got, want) {
		t.Errorf("All = %v, want %v", got, want)
	}
	if q.Len() != len(want) || q.Gone() != gone {
		t.Errorf("Len, Gone = %d, %d; want %d, %d", q.Len(), q.Gone(), len(want), gone)
	}
}

func put[T any](t *testing.T, q *queue.Queue[T], x T, number uint64, want api.Errno) {
	t.Helper()
	if n, e := q.Put(x); n != number || e != want {
		t.Errorf("Put(%v) = %d, %d; want %d, %d", x, n, e, number, want)
	}
}

func take[T comparable](t *testing.T, q *queue.Queue[T], want T, we api.Errno) {
	t.Helper()
	if x, e := q.Take(); x != want || e != we {
		t.Errorf("Take = %v, %d; want %v, %d", x, e, want, we)
	}
}

func drop[T any](t *testing.T, q *queue.Queue[T], to uint64, want int, we api.Errno) {
	t.Helper()
	if n, e := q.Drop(to); n != want || e != we {
		t.Errorf("Drop(%d) = %d, %d; want %d, %d", to, n, e, want, we)
	}
}

// The chapter's example.
func TestExample(t *testing.T) {
	q := made[string](t, 2, 5)
	put(t, q, "a", 6, api.OK)
	put(t, q, "b", 7, api.OK)
	put(t, q, "c", 0, api.ErrBusy)
	drop(t, q, 6, 1, api.OK)
	holds(t, q, 6, "b")
}

// P4.1: New.
func TestNew(t *testing.T) {
	for _, most := range []int{1, 2, api.MaxQueue - 1, api.MaxQueue} {
		for _, gone := range []uint64{0, 1, 7, 1 << 60} {
			holds(t, made[int](t, most, gone), gone)
		}
	}
	for _, most := range []int{0, -1, math.MinInt, api.MaxQueue + 1, math.MaxInt} {
		if q, e := queue.New[int](most, 3); q != nil || e != api.ErrArg {
			t.Errorf("New(%d, 3) = %v, %d", most, q, e)
		}
	}
}

// P4.1: exactly most elements can wait, for each most; the one beyond changes nothing.
func TestMost(t *testing.T) {
	for most := 1; most <= api.MaxQueue; most++ {
		q := made[int](t, most, 10)
		var want []int
		for i := range most {
			put(t, q, i, uint64(11+i), api.OK)
			want = append(want, i)
		}
		put(t, q, -1, 0, api.ErrBusy)
		put(t, q, -1, 0, api.ErrBusy)
		holds(t, q, 10, want...)
		take(t, q, 0, api.OK)
		put(t, q, most, uint64(11+most), api.OK)
		put(t, q, -1, 0, api.ErrBusy)
		holds(t, q, 11, append(want[1:], most)...)
	}
}

// P4.1: elements come out in the order in which they went in; each removal is counted.
func TestTake(t *testing.T) {
	q := made[string](t, 3, 0)
	take(t, q, "", api.ErrNone)
	holds(t, q, 0)
	put(t, q, "a", 1, api.OK)
	put(t, q, "b", 2, api.OK)
	take(t, q, "a", api.OK)
	holds(t, q, 1, "b")
	put(t, q, "c", 3, api.OK)
	put(t, q, "", 4, api.OK)
	holds(t, q, 1, "b", "c", "")
	take(t, q, "b", api.OK)
	take(t, q, "c", api.OK)
	take(t, q, "", api.OK)
	take(t, q, "", api.ErrNone)
	take(t, q, "", api.ErrNone)
	holds(t, q, 4)
	put(t, q, "d", 5, api.OK)
	holds(t, q, 4, "d")
}

// P4.1: Drop up to each number, with some, all and no elements waiting.
func TestDrop(t *testing.T) {
	for _, gone := range []uint64{0, 1, 5, 1<<60 - 9} {
		for waiting := range 4 {
			last := gone + uint64(waiting)
			for k := -2; k <= waiting+2; k++ {
				to := gone + uint64(k)
				q := made[int](t, 4, gone)
				var all []int
				for i := range waiting {
					put(t, q, i, gone+uint64(1+i), api.OK)
					all = append(all, i)
				}
				switch {
				case to > last: // also what is below 0
					drop(t, q, to, 0, api.ErrArg)
					holds(t, q, gone, all...)
				case k <= 0:
					drop(t, q, to, 0, api.OK)
					holds(t, q, gone, all...)
				default:
					drop(t, q, to, k, api.OK)
					holds(t, q, to, all[k:]...)
					drop(t, q, to, 0, api.OK)
					put(t, q, 9, last+1, api.OK)
				}
			}
			q := made[int](t, 4, gone)
			drop(t, q, 0, 0, api.OK)
			drop(t, q, math.MaxUint64, 0, api.ErrArg)
			holds(t, q, gone)
		}
	}
}

// P4.1: what was removed makes room, and is never seen again.
func TestDropMakesRoom(t *testing.T) {
	q := made[int](t, 3, 0)
	for i := range 3 {
		put(t, q, i, uint64(1+i), api.OK)
	}
	drop(t, q, 2, 2, api.OK)
	put(t, q, 3, 4, api.OK)
	put(t, q, 4, 5, api.OK)
	put(t, q, 5, 0, api.ErrBusy)
	holds(t, q, 2, 2, 3, 4)
	drop(t, q, 5, 3, api.OK)
	holds(t, q, 5)
	take(t, q, 0, api.ErrNone)
}

// P4.1, P2: All changes nothing, and its slice is new memory, with its spare capacity.
func TestAll(t *testing.T) {
	q := made[int](t, 5, 1)
	if all := q.All(); len(all) != 0 {
		t.Errorf("All of an empty queue = %v", all)
	}
	for i := range 3 {
		q.Put(i)
	}
	a, b := q.All(), q.All()
	a[0] = 70
	_ = append(a[:1], 71, 72, 73, 74, 75)
	if !slices.Equal(b, []int{0, 1, 2}) {
		t.Errorf("a second All = %v, changed through the first", b)
	}
	holds(t, q, 1, 0, 1, 2)
	put(t, q, 3, 5, api.OK)
	if !slices.Equal(b, []int{0, 1, 2}) {
		t.Errorf("an earlier All = %v, changed by Put", b)
	}
	take(t, q, 0, api.OK)
	holds(t, q, 2, 1, 2, 3)
}

// P4.1: numbers up to 2^60.
func TestGreatNumbers(t *testing.T) {
	q := made[int](t, 2, 1<<60-2)
	put(t, q, 1, 1<<60-1, api.OK)
	put(t, q, 2, 1<<60, api.OK)
	put(t, q, 3, 0, api.ErrBusy)
	drop(t, q, 1<<60+1, 0, api.ErrArg)
	drop(t, q, 1<<60-1, 1, api.OK)
	take(t, q, 2, api.OK)
	holds(t, q, 1<<60)
}

// P1: calls with numbers for which nothing is specified end, and do not panic.
func TestBeyondNumbers(t *testing.T) {
	for k := range uint64(5) {
		for _, to := range []uint64{0, 1, 2, 3, 1 << 60, math.MaxUint64 - 1, math.MaxUint64} {
			q := made[int](t, 3, math.MaxUint64-k)
			q.Put(1)
			q.Put(2)
			q.Drop(to)
			q.All()
			q.Take()
			q.Drop(to)
		}
	}
}

type pair struct {
	name string
	n    int
}

// P4.1: elements of any type, and its zero value beside an error.
func TestTypes(t *testing.T) {
	p := made[pair](t, 2, 0)
	take(t, p, pair{}, api.ErrNone)
	put(t, p, pair{"a", 1}, 1, api.OK)
	put(t, p, pair{}, 2, api.OK)
	holds(t, p, 0, pair{"a", 1}, pair{})
	take(t, p, pair{"a", 1}, api.OK)

	i := made[any](t, 2, 0)
	take(t, i, nil, api.ErrNone)
	put[any](t, i, nil, 1, api.OK)
	put[any](t, i, "x", 2, api.OK)
	holds[any](t, i, 0, nil, "x")
	take(t, i, nil, api.OK)
	take[any](t, i, "x", api.OK)

	m := made[api.Mutation](t, 1, 0)
	put(t, m, api.Mutation{Seq: 1, Doc: "d", Vars: api.Value{Kind: api.VInt, N: 3}}, 1, api.OK)
	x, e := m.Take()
	if e != api.OK || x.Seq != 1 || x.Doc != "d" || x.Vars.N != 3 {
		t.Errorf("Take = %v, %d", x, e)
	}
}

// P4.1: a nil queue.
func TestNil(t *testing.T) {
	var q *queue.Queue[string]
	holds(t, q, 0)
	put(t, q, "a", 0, api.ErrNone)
	take(t, q, "", api.ErrNone)
	for _, to := range []uint64{0, 1, math.MaxUint64} {
		drop(t, q, to, 0, api.ErrNone)
	}
	holds(t, q, 0)
}

// P2: two queues do not know of each other.
func TestApart(t *testing.T) {
	a, b := made[int](t, 2, 0), made[int](t, 2, 4)
	put(t, a, 1, 1, api.OK)
	put(t, b, 2, 5, api.OK)
	put(t, a, 3, 2, api.OK)
	drop(t, a, 1, 1, api.OK)
	holds(t, a, 1, 3)
	holds(t, b, 4, 2)
}

// model is a queue as P4.1 tells of it.
type model struct {
	most int
	gone uint64
	l    []int
}

func (m *model) put(x int) (uint64, api.Errno) {
	if len(m.l) == m.most {
		return 0, api.ErrBusy
	}
	m.l = append(m.l, x)
	return m.gone + uint64(len(m.l)), api.OK
}

func (m *model) take() (int, api.Errno) {
	if len(m.l) == 0 {
		return 0, api.ErrNone
	}
	x := m.l[0]
	m.l = m.l[1:]
	m.gone++
	return x, api.OK
}

func (m *model) drop(to uint64) (int, api.Errno) {
	if to > m.gone+uint64(len(m.l)) {
		return 0, api.ErrArg
	}
	if to <= m.gone {
		return 0, api.OK
	}
	n := int(to - m.gone)
	m.l, m.gone = m.l[n:], to
	return n, api.OK
}

// P4.1: long runs of random calls, against the model.
func TestRandom(t *testing.T) {
	random := rand.New(rand.NewSource(4))
	for run := range 400 {
		m := &model{most: 1 + random.Intn(8), gone: uint64(random.Intn(3))}
		if run%10 == 0 {
			m.most, m.gone = api.MaxQueue, 1<<60-uint64(300+random.Intn(9))
		}
		q := made[int](t, m.most, m.gone)
		greedy := random.Intn(4)
		for step := range 200 {
			var got, want string
			switch k := random.Intn(5 + greedy); {
			case k == 0:
				x, e := q.Take()
				y, f := m.take()
				got, want = fmt.Sprint("Take ", x, e), fmt.Sprint("Take ", y, f)
			case k == 1:
				to := m.gone + uint64(random.Intn(len(m.l)+3)) - uint64(random.Intn(int(min(m.gone, 3))+1))
				x, e := q.Drop(to)
				y, f := m.drop(to)
				got, want = fmt.Sprint("Drop ", to, x, e), fmt.Sprint("Drop ", to, y, f)
			default:
				x, e := q.Put(step)
				y, f := m.put(step)
				got, want = fmt.Sprint("Put ", x, e), fmt.Sprint("Put ", y, f)
			}
			if got != want {
				t.Fatalf("run %d, step %d: %s, want %s", run, step, got, want)
			}
			holds(t, q, m.gone, m.l...)
		}
	}
}
