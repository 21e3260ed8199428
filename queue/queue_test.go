package queue_test

import (
	"math"
	"math/rand"
	"testing"

	"pennyweight/api"
	"pennyweight/queue"
)

// item is a number that waits, and its priority.
type item struct {
	x int
	p int64
}

// with are the numbers 0 to n - 1, of which these wait.
func with(t *testing.T, n int, l ...item) *queue.Queue {
	t.Helper()
	q := queue.New(n)
	for _, i := range l {
		push(t, q, i.x, i.p)
	}
	return q
}

func push(t *testing.T, q *queue.Queue, x int, p int64) {
	t.Helper()
	if e := q.Push(x, p); e != api.OK || !q.Has(x) {
		t.Fatalf("Push(%d, %d): error %d, does it wait? %v", x, p, e, q.Has(x))
	}
}

// pops takes all out, and holds them against these.
func pops(t *testing.T, q *queue.Queue, want ...item) {
	t.Helper()
	for n, i := range want {
		if q.Len() != len(want)-n || !q.Has(i.x) {
			t.Fatalf("%d wait, not %d; does %d? %v", q.Len(), len(want)-n, i.x, q.Has(i.x))
		}
		for range 2 {
			if x, p, ok := q.Top(); x != i.x || p != i.p || !ok {
				t.Fatalf("Top behind %d of %v: %d, %d, %v", n, want, x, p, ok)
			}
		}
		if x, p, ok := q.Pop(); x != i.x || p != i.p || !ok || q.Has(x) {
			t.Fatalf("Pop behind %d of %v: %d, %d, %v; does it wait? %v", n, want, x, p, ok, q.Has(x))
		}
	}
	empty(t, q)
}

func empty(t *testing.T, q *queue.Queue) {
	t.Helper()
	if q.Len() != 0 {
		t.Fatalf("%d wait", q.Len())
	}
	if x, p, ok := q.Top(); x != 0 || p != 0 || ok {
		t.Fatalf("Top of none: %d, %d, %v", x, p, ok)
	}
	if x, p, ok := q.Pop(); x != 0 || p != 0 || ok {
		t.Fatalf("Pop of none: %d, %d, %v", x, p, ok)
	}
	for _, x := range []int{0, 1, 2, -1} {
		if q.Has(x) || q.Drop(x) {
			t.Fatalf("%d waits", x)
		}
	}
	if q.Len() != 0 {
		t.Fatalf("then %d wait", q.Len())
	}
}

func noSuchNumber(t *testing.T, q *queue.Queue, numbers ...int) {
	t.Helper()
	n := q.Len()
	for _, x := range numbers {
		if e := q.Push(x, -5); e != api.ErrRange || q.Has(x) || q.Drop(x) || q.Len() != n {
			t.Errorf("there is no number %d: error %d, does it wait? %v; %d wait, not %d", x, e, q.Has(x), q.Len(), n)
		}
	}
}

func TestExample(t *testing.T) {
	pops(t, with(t, 3, item{2, 5}, item{1, 5}, item{0, 9}), item{1, 5}, item{2, 5}, item{0, 9})
}

func TestNoNumbers(t *testing.T) {
	for _, n := range []int{0, -1, -9, math.MinInt} {
		q := queue.New(n)
		if q == nil {
			t.Fatalf("New(%d) is nil", n)
		}
		empty(t, q)
		noSuchNumber(t, q, 0, 1, -1, n, n-1, n+1)
		q.Clear()
		empty(t, q)
	}
}

func TestNumbersThatThereAreNot(t *testing.T) {
	q := with(t, 4)
	noSuchNumber(t, q, 4, 5, -1, -2, math.MaxInt, math.MinInt)
	empty(t, q)
	push(t, q, 3, 1)
	push(t, q, 0, 2)
	noSuchNumber(t, q, 4, 5, -1, -2, math.MaxInt, math.MinInt)
	pops(t, q, item{3, 1}, item{0, 2})
}

func TestSamePriorities(t *testing.T) {
	for _, p := range []int64{0, 7, -7, math.MinInt64, math.MaxInt64} {
		q := queue.New(10)
		var want []item
		for i := range 10 {
			push(t, q, i*7%10, p)
			want = append(want, item{i, p})
		}
		pops(t, q, want...)
	}
}

func TestPriorities(t *testing.T) {
	q := with(t, 9, item{3, 4}, item{8, -4}, item{1, math.MaxInt64}, item{5, 0}, item{0, math.MinInt64}, item{2, math.MaxInt64 - 1}, item{7, math.MinInt64 + 1}, item{4, math.MinInt64}, item{6, math.MaxInt64})
	pops(t, q, item{0, math.MinInt64}, item{4, math.MinInt64}, item{7, math.MinInt64 + 1}, item{8, -4}, item{5, 0}, item{3, 4}, item{2, math.MaxInt64 - 1}, item{1, math.MaxInt64}, item{6, math.MaxInt64})
}

// Of each that waits: with a lesser, the same, and a greater priority than it
// had, it waits once, with that.
func TestPushOfOneThatWaits(t *testing.T) {
	for x := range 5 {
		for _, p := range []int64{-9, 9, 10, 15, 20, 25, 30, 35, 40, 45, 50, 55, math.MaxInt64} {
			q := with(t, 5, item{0, 10}, item{1, 20}, item{2, 30}, item{3, 40}, item{4, 50})
			push(t, q, x, p)
			if q.Len() != 5 {
				t.Fatalf("%d wait", q.Len())
			}
			rest := []item{}
			for y := range 5 {
				if y != x {
					rest = append(rest, item{y, int64(10 * (y + 1))})
				}
			}
			at := 0
			for at < 4 && (rest[at].p < p || rest[at].p == p && rest[at].x < x) {
				at++
			}
			want := append([]item{}, rest[:at]...)
			want = append(want, item{x, p})
			pops(t, q, append(want, rest[at:]...)...)
		}
	}
}

func TestPushBehindPop(t *testing.T) {
	q := with(t, 3, item{0, 1}, item{1, 2})
	if x, p, ok := q.Pop(); x != 0 || p != 1 || !ok {
		t.Errorf("%d, %d, %v", x, p, ok)
	}
	push(t, q, 0, 3)
	push(t, q, 2, -3)
	pops(t, q, item{2, -3}, item{1, 2}, item{0, 3})
	push(t, q, 1, 8)
	pops(t, q, item{1, 8})
}

// Drop of the first, of the last, of each between, and of those that were
// pushed first and last.
func TestDrop(t *testing.T) {
	all := []item{{4, 1}, {2, 2}, {6, 2}, {1, 5}, {0, 6}, {5, 8}}
	for n, i := range all {
		for turn := range all {
			q := queue.New(7)
			for m := range all {
				y := all[(m+turn)%len(all)]
				push(t, q, y.x, y.p)
			}
			if q.Drop(3) || q.Drop(7) || q.Drop(-1) || q.Len() != 6 {
				t.Fatal("one that doesn't wait was dropped")
			}
			if !q.Drop(i.x) || q.Has(i.x) || q.Len() != 5 || q.Drop(i.x) || q.Len() != 5 {
				t.Fatalf("Drop(%d) of %v: %d wait", i.x, all, q.Len())
			}
			var rest []item
			rest = append(rest, all[:n]...)
			pops(t, q, append(rest, all[n+1:]...)...)
		}
	}
}

func TestDropTheOnlyOne(t *testing.T) {
	q := with(t, 2, item{1, 5})
	if q.Drop(0) || !q.Drop(1) {
		t.Error("it wasn't there")
	}
	empty(t, q)
	push(t, q, 1, 6)
	pops(t, q, item{1, 6})
}

// The last of the heap goes up, not down, where it takes the place of one far
// behind, of another branch.
func TestDropLetsOneGoUp(t *testing.T) {
	q := with(t, 8, item{0, 1}, item{1, 50}, item{2, 2}, item{3, 60}, item{4, 70}, item{5, 3}, item{6, 4})
	if !q.Drop(3) {
		t.Error("it wasn't there")
	}
	pops(t, q, item{0, 1}, item{2, 2}, item{5, 3}, item{6, 4}, item{1, 50}, item{4, 70})
}

func TestClear(t *testing.T) {
	q := with(t, 4, item{2, 5}, item{0, 7}, item{3, 1})
	q.Clear()
	for x := range 4 {
		if q.Has(x) {
			t.Errorf("%d waits", x)
		}
	}
	empty(t, q)
	q.Clear()
	empty(t, q)
	push(t, q, 0, 9)
	push(t, q, 2, 9)
	push(t, q, 1, 8)
	noSuchNumber(t, q, 4, -1)
	if q.Has(3) {
		t.Error("3 waits")
	}
	pops(t, q, item{1, 8}, item{0, 9}, item{2, 9})
}

func TestNilQueue(t *testing.T) {
	var q *queue.Queue
	for _, x := range []int{0, 1, -1, math.MaxInt, math.MinInt} {
		if e := q.Push(x, 1); e != api.ErrNone || q.Has(x) || q.Drop(x) {
			t.Errorf("the number %d: error %d", x, e)
		}
	}
	q.Clear()
	empty(t, q)
}

func TestQueuesAreTheirOwn(t *testing.T) {
	q, r := with(t, 3, item{0, 1}), with(t, 3, item{0, 2}, item{1, 1})
	q.Drop(0)
	push(t, q, 2, 4)
	pops(t, r, item{1, 1}, item{0, 2})
	pops(t, q, item{2, 4})
}

func TestAnyManyNumbers(t *testing.T) {
	for _, n := range []int{1 << 31, 1 << 40, math.MaxInt} {
		q := with(t, n, item{n - 1, 1}, item{0, 1}, item{n / 2, -1})
		noSuchNumber(t, q, -1, math.MinInt)
		if n < math.MaxInt {
			noSuchNumber(t, q, n)
		}
		pops(t, q, item{n / 2, -1}, item{0, 1}, item{n - 1, 1})
	}
}

// plain is a queue without an order: the first is looked for each time.
type plain map[int]int64

func (l plain) top() (item, bool) {
	best, ok := item{}, false
	for x, p := range l {
		if !ok || p < best.p || p == best.p && x < best.x {
			best, ok = item{x, p}, true
		}
	}
	return best, ok
}

func compare(t *testing.T, q *queue.Queue, l plain, n int) {
	t.Helper()
	if q.Len() != len(l) {
		t.Fatalf("%d wait, not %d", q.Len(), len(l))
	}
	for x := -1; x <= n; x++ {
		if _, waits := l[x]; q.Has(x) != waits {
			t.Fatalf("does %d wait? %v", x, q.Has(x))
		}
	}
	want, waits := l.top()
	if x, p, ok := q.Top(); x != want.x || p != want.p || ok != waits {
		t.Fatalf("Top: %d, %d, %v, not %v, %v", x, p, ok, want, waits)
	}
}

func step(t *testing.T, r *rand.Rand, q *queue.Queue, l plain, n int) {
	t.Helper()
	x := r.Intn(n)
	switch k := r.Intn(100); {
	case k < 60:
		p := r.Int63n(2*int64(n)) - int64(n)
		push(t, q, x, p)
		l[x] = p
	case k < 75:
		want, waits := l.top()
		if y, p, ok := q.Pop(); y != want.x || p != want.p || ok != waits {
			t.Fatalf("Pop: %d, %d, %v, not %v, %v", y, p, ok, want, waits)
		}
		if waits {
			delete(l, want.x)
		}
	case k < 99:
		_, waits := l[x]
		if q.Drop(x) != waits {
			t.Fatalf("Drop(%d): %v", x, !waits)
		}
		delete(l, x)
	default:
		q.Clear()
		clear(l)
	}
}

func TestRandom(t *testing.T) {
	r := rand.New(rand.NewSource(1))
	for _, n := range []int{1, 2, 3, 5, 8, 20, 64} {
		for range 20 {
			q, l := queue.New(n), plain{}
			for range 400 {
				step(t, r, q, l, n)
				compare(t, q, l, n)
			}
			var rest []item
			for len(l) > 0 {
				i, _ := l.top()
				rest = append(rest, i)
				delete(l, i.x)
			}
			pops(t, q, rest...)
		}
	}
}
