package tuples_test

import (
	"math"
	"math/rand"
	"slices"
	"testing"

	"pennyweight/api"
	"pennyweight/table"
	"pennyweight/tuples"
)

const top = int64(api.MaxCost)

func made(t *testing.T, sizes []int, k, other int64) *tuples.Tuples {
	t.Helper()
	x, e := tuples.New(sizes, k, other)
	if e != api.OK || x == nil {
		t.Fatalf("New(%v, %d, %d): error %d", sizes, k, other, e)
	}
	return x
}

func put(t *testing.T, x *tuples.Tuples, c int64, tuple ...int) {
	t.Helper()
	if e := x.Put(tuple, c); e != api.OK {
		t.Fatalf("Put(%v, %d): error %d", tuple, c, e)
	}
}

func get(t *testing.T, x *tuples.Tuples, tuple []int) int64 {
	t.Helper()
	c, e := x.Get(tuple)
	if e != api.OK {
		t.Fatalf("Get(%v) of %v: error %d", tuple, x.Sizes(), e)
	}
	return c
}

// line is written by its cost first: line(5, 0, 1) is the cost 5 of 0 1.
func line(c int64, tuple ...int) tuples.Line {
	return tuples.Line{Tuple: tuple, Cost: c}
}

func sameLines(a, b []tuples.Line) bool {
	return slices.EqualFunc(a, b, func(x, y tuples.Line) bool {
		return x.Cost == y.Cost && slices.Equal(x.Tuple, y.Tuple)
	})
}

// all are all tuples of these sizes in their order.
func all(sizes []int) [][]int {
	if len(sizes) == 0 {
		return [][]int{{}}
	}
	var l [][]int
	for v := range sizes[0] {
		for _, rest := range all(sizes[1:]) {
			l = append(l, append([]int{v}, rest...))
		}
	}
	return l
}

func product(sizes []int) int {
	p := 1
	for _, n := range sizes {
		p *= n
	}
	return p
}

func count(costs []int64, c int64) int {
	n := 0
	for _, d := range costs {
		if d == c {
			n++
		}
	}
	return n
}

// check holds x against all of its costs.
func check(t *testing.T, x *tuples.Tuples, sizes []int, k, other int64, costs []int64) {
	t.Helper()
	var lines []tuples.Line
	for i, y := range all(sizes) {
		if c := get(t, x, y); c != costs[i] {
			t.Fatalf("%v: %v costs %d, not %d", sizes, y, c, costs[i])
		}
		if costs[i] != other {
			lines = append(lines, tuples.Line{Tuple: y, Cost: costs[i]})
		}
	}
	if x.Arity() != len(sizes) || !slices.Equal(x.Sizes(), sizes) || x.K() != k || x.Other() != other {
		t.Fatalf("%v, %d, %d: %d places, %v, %d, %d", sizes, k, other, x.Arity(), x.Sizes(), x.K(), x.Other())
	}
	if !sameLines(x.Lines(), lines) || x.Len() != len(lines) {
		t.Fatalf("%v: %d lines, %v, not %v", sizes, x.Len(), x.Lines(), lines)
	}
	u, e := x.Table()
	if e != api.OK || !slices.Equal(u.Shape().Sizes(), sizes) || u.K() != k || !slices.Equal(u.Entries(), costs) {
		t.Fatalf("%v: Table: %v of %v, error %d", sizes, u.Entries(), u.Shape().Sizes(), e)
	}
}

// unchanged answers a check that x tells what it tells now. It keeps copies, as
// what is told might be x's own.
func unchanged(t *testing.T, x *tuples.Tuples) func() {
	t.Helper()
	sizes, k, other, lines := slices.Clone(x.Sizes()), x.K(), x.Other(), slices.Clone(x.Lines())
	for i, l := range lines {
		lines[i].Tuple = slices.Clone(l.Tuple)
	}
	return func() {
		t.Helper()
		if !slices.Equal(x.Sizes(), sizes) || x.Arity() != len(sizes) || x.K() != k || x.Other() != other || !sameLines(x.Lines(), lines) || x.Len() != len(lines) {
			t.Errorf("%v %d %d %v became %v %d %d %v", sizes, k, other, lines, x.Sizes(), x.K(), x.Other(), x.Lines())
		}
	}
}

func smallSizes() [][]int {
	return [][]int{nil, {}, {1}, {2}, {32}, {2, 3}, {3, 2}, {1, 4}, {2, 1, 3}, {4, 3, 2}, {2, 2, 2, 2}, {1, 2, 1, 3, 2}, {2, 3, 1, 2, 2, 3}, {1, 1, 1, 1, 1, 1}}
}

// greatSizes have products beyond MaxTable.
func greatSizes() [][]int {
	return [][]int{{32, 32, 5}, {5, 32, 32}, {17, 16, 16}, {32, 32, 32}, {4, 4, 4, 4, 4, 5}, {32, 1, 32, 1, 32, 1}, {32, 32, 32, 32, 32, 32}}
}

func wrongTops() []int64 {
	return []int64{0, -1, math.MinInt64, top + 1, 2 * top, math.MaxInt64}
}

func wrongCosts(k int64) []int64 {
	return []int64{-1, -k, math.MinInt64, k + 1, math.MaxInt64}
}

// wrongTuples are of another length, or have a value outside.
func wrongTuples(sizes []int) [][]int {
	zeros := make([]int, len(sizes))
	l := [][]int{append(slices.Clone(zeros), 0), make([]int, 7), make([]int, 1000)}
	for p, n := range sizes {
		l = append(l, zeros[:p])
		for _, v := range []int{-1, n, n + 1, 32, 256, 1 << 32, math.MinInt, math.MaxInt} {
			x := slices.Clone(zeros)
			x[p] = v
			l = append(l, x)
		}
	}
	return l
}

func TestNew(t *testing.T) {
	for _, sizes := range smallSizes() {
		for _, k := range []int64{1, 10, top} {
			for _, other := range []int64{0, k / 2, k - 1, k} {
				check(t, made(t, sizes, k, other), sizes, k, other, slices.Repeat([]int64{other}, product(sizes)))
			}
		}
	}
}

func TestNewOfGreatProducts(t *testing.T) {
	for _, sizes := range greatSizes() {
		x := made(t, sizes, 9, 4)
		if x.Arity() != len(sizes) || !slices.Equal(x.Sizes(), sizes) || x.K() != 9 || x.Other() != 4 || x.Len() != 0 || len(x.Lines()) != 0 {
			t.Errorf("New(%v): %v, %d, %d, %v", sizes, x.Sizes(), x.K(), x.Other(), x.Lines())
		}
		last := make([]int, len(sizes))
		for i, n := range sizes {
			last[i] = n - 1
		}
		put(t, x, 7, last...)
		if get(t, x, last) != 7 || get(t, x, make([]int, len(sizes))) != 4 || !sameLines(x.Lines(), []tuples.Line{line(7, last...)}) {
			t.Errorf("%v: %v", sizes, x.Lines())
		}
	}
}

func TestNewWrong(t *testing.T) {
	for _, sizes := range [][]int{
		{0}, {33}, {-1}, {math.MinInt}, {math.MaxInt}, {1<<32 + 2}, {2, 0}, {0, 2}, {2, 33, 2}, {-2, -2}, {32, 32, 32, 0}, {33, 32, 32, 32},
		{2, 2, 2, 2, 2, 0}, {1, 1, 1, 1, 1, 1, 1}, {2, 2, 2, 2, 2, 2, 0}, slices.Repeat([]int{32}, 7), make([]int, 7), slices.Repeat([]int{1}, 1000),
	} {
		refuseNew(t, sizes, 10, 0, api.ErrArg)
		refuseNew(t, sizes, 10, 11, api.ErrArg)
		refuseNew(t, sizes, 0, 0, api.ErrArg)
	}
	for _, sizes := range [][]int{nil, {2, 3}, {32, 32, 32, 32, 32, 32}} {
		for _, k := range []int64{1, 10, top} {
			for _, other := range wrongCosts(k) {
				refuseNew(t, sizes, k, other, api.ErrRange)
			}
		}
		for _, k := range wrongTops() {
			for _, other := range []int64{0, 1, k, k - 1} {
				refuseNew(t, sizes, k, other, api.ErrRange)
			}
		}
	}
}

func refuseNew(t *testing.T, sizes []int, k, other int64, want api.Errno) {
	t.Helper()
	if x, e := tuples.New(sizes, k, other); x != nil || e != want {
		t.Errorf("New(%v, %d, %d): %v, error %d, not %d", sizes, k, other, x, e, want)
	}
}

// TestPut puts at random, and often the cost Other, or what was put already.
func TestPut(t *testing.T) {
	r := rand.New(rand.NewSource(1))
	for _, sizes := range smallSizes() {
		for _, other := range []int64{0, 1, 3} {
			x := made(t, sizes, 3, other)
			costs := slices.Repeat([]int64{other}, product(sizes))
			l := all(sizes)
			for range 40 {
				i, c := r.Intn(len(l)), r.Int63n(4)
				put(t, x, c, l[i]...)
				costs[i] = c
				check(t, x, sizes, 3, other, costs)
			}
		}
	}
}

func TestPutTwice(t *testing.T) {
	x := made(t, []int{2, 2}, 9, 1)
	for _, step := range []struct {
		c     int64
		tuple []int
		want  []tuples.Line
	}{
		{5, []int{1, 0}, []tuples.Line{line(5, 1, 0)}},
		{5, []int{1, 0}, []tuples.Line{line(5, 1, 0)}},
		{6, []int{1, 0}, []tuples.Line{line(6, 1, 0)}},
		{1, []int{0, 0}, []tuples.Line{line(6, 1, 0)}},
		{0, []int{0, 1}, []tuples.Line{line(0, 0, 1), line(6, 1, 0)}},
		{9, []int{1, 1}, []tuples.Line{line(0, 0, 1), line(6, 1, 0), line(9, 1, 1)}},
		{1, []int{1, 0}, []tuples.Line{line(0, 0, 1), line(9, 1, 1)}},
		{1, []int{1, 0}, []tuples.Line{line(0, 0, 1), line(9, 1, 1)}},
		{2, []int{1, 0}, []tuples.Line{line(0, 0, 1), line(2, 1, 0), line(9, 1, 1)}},
		{1, []int{0, 1}, []tuples.Line{line(2, 1, 0), line(9, 1, 1)}},
		{1, []int{1, 1}, []tuples.Line{line(2, 1, 0)}},
		{1, []int{1, 0}, nil},
	} {
		put(t, x, step.c, step.tuple...)
		if !sameLines(x.Lines(), step.want) || x.Len() != len(step.want) || get(t, x, step.tuple) != step.c {
			t.Fatalf("behind Put(%v, %d): %v", step.tuple, step.c, x.Lines())
		}
	}
}

func TestTuplesAndCostsThatThereCantBe(t *testing.T) {
	for _, sizes := range append(smallSizes(), greatSizes()...) {
		x := made(t, sizes, 10, 2)
		put(t, x, 5, make([]int, len(sizes))...)
		same := unchanged(t, x)
		for _, y := range wrongTuples(sizes) {
			if c, e := x.Get(y); c != 0 || e != api.ErrRange {
				t.Errorf("%v: Get(%v): %d, error %d", sizes, y, c, e)
			}
			for _, c := range []int64{0, 2, 3, 10, 11, -1} {
				if e := x.Put(y, c); e != api.ErrRange {
					t.Errorf("%v: Put(%v, %d): error %d", sizes, y, c, e)
				}
			}
		}
		for _, c := range wrongCosts(10) {
			if e := x.Put(make([]int, len(sizes)), c); e != api.ErrRange {
				t.Errorf("%v: Put(.., %d): error %d", sizes, c, e)
			}
		}
		same()
	}
}

func TestLinesInOrder(t *testing.T) {
	x := made(t, []int{32, 32, 32}, 9, 0)
	for _, y := range [][]int{{2, 0, 0}, {0, 31, 31}, {10, 0, 0}, {1, 0, 31}, {0, 0, 2}, {31, 31, 31}, {0, 0, 10}, {0, 2, 0}, {0, 0, 0}, {1, 1, 0}, {9, 30, 1}, {0, 10, 0}} {
		put(t, x, 3, y...)
	}
	want := [][]int{{0, 0, 0}, {0, 0, 2}, {0, 0, 10}, {0, 2, 0}, {0, 10, 0}, {0, 31, 31}, {1, 0, 31}, {1, 1, 0}, {2, 0, 0}, {9, 30, 1}, {10, 0, 0}, {31, 31, 31}}
	for i, l := range x.Lines() {
		if !slices.Equal(l.Tuple, want[i]) || l.Cost != 3 {
			t.Errorf("the line %d is %v, %d", i, l.Tuple, l.Cost)
		}
	}
	if x.Len() != len(want) {
		t.Errorf("%d lines", x.Len())
	}
}

// TestOrderOfPuts tells the same, in whatever order the tuples were put.
func TestOrderOfPuts(t *testing.T) {
	r := rand.New(rand.NewSource(2))
	sizes := []int{3, 4, 2, 3}
	costs := make([]int64, product(sizes))
	for i := range costs {
		costs[i] = r.Int63n(6)
	}
	for range 20 {
		x := made(t, sizes, 9, 2)
		for _, i := range r.Perm(len(costs)) {
			put(t, x, costs[i], all(sizes)[i]...)
		}
		check(t, x, sizes, 9, 2, costs)
	}
}

func TestNoSizes(t *testing.T) {
	x := made(t, nil, 9, 4)
	check(t, x, nil, 9, 4, []int64{4})
	put(t, x, 9)
	check(t, x, nil, 9, 4, []int64{9})
	if l := x.Lines(); len(l) != 1 || len(l[0].Tuple) != 0 || l[0].Cost != 9 {
		t.Errorf("%v", l)
	}
	put(t, x, 4)
	check(t, x, nil, 9, 4, []int64{4})
}

// TestTableUpToTheLimit has just MaxTable tuples, and more.
func TestTableUpToTheLimit(t *testing.T) {
	for _, sizes := range [][]int{{32, 32, 4}, {16, 16, 16}, {4, 4, 4, 4, 4, 4}, {1, 32, 1, 32, 1, 4}} {
		x := made(t, sizes, 9, 1)
		last := make([]int, len(sizes))
		for i, n := range sizes {
			last[i] = n - 1
		}
		put(t, x, 7, last...)
		put(t, x, 3, make([]int, len(sizes))...)
		costs := slices.Repeat([]int64{1}, api.MaxTable)
		costs[0], costs[api.MaxTable-1] = 3, 7
		check(t, x, sizes, 9, 1, costs)
	}
	for _, sizes := range greatSizes() {
		x := made(t, sizes, 9, 1)
		put(t, x, 3, make([]int, len(sizes))...)
		same := unchanged(t, x)
		if u, e := x.Table(); u != nil || e != api.ErrLarge {
			t.Errorf("%v: Table: %v, error %d", sizes, u, e)
		}
		same()
	}
}

func filled(t *testing.T, sizes []int, k int64, l ...int64) *table.Table {
	t.Helper()
	x, e := table.New(sizes, k, 0)
	if e != api.OK || x.Shape().Count() != len(l) {
		t.Fatalf("%d costs for %v, error %d", len(l), sizes, e)
	}
	for i, y := range x.Shape().All() {
		if e := x.Put(y, l[i]); e != api.OK {
			t.Fatalf("Put(%v, %d): error %d", y, l[i], e)
		}
	}
	return x
}

func TestOfByHand(t *testing.T) {
	for _, x := range []struct {
		sizes []int
		costs []int64
		other int64
	}{
		{nil, []int64{0}, 0},
		{nil, []int64{9}, 9},
		{[]int{1}, []int64{4}, 4},
		{[]int{2}, []int64{3, 3}, 3},
		{[]int{2}, []int64{7, 3}, 3},
		{[]int{2}, []int64{3, 7}, 3},
		{[]int{2}, []int64{0, 9}, 0},
		{[]int{3}, []int64{9, 0, 9}, 9},
		{[]int{3}, []int64{5, 4, 4}, 4},
		{[]int{3}, []int64{5, 4, 5}, 5},
		{[]int{3}, []int64{2, 1, 3}, 1},
		{[]int{2, 2}, []int64{6, 2, 6, 2}, 2},
		{[]int{2, 2}, []int64{6, 6, 2, 2}, 2},
		{[]int{2, 2}, []int64{1, 6, 6, 2}, 6},
		{[]int{2, 3}, []int64{1, 8, 5, 5, 8, 0}, 5},
		{[]int{2, 3}, []int64{1, 8, 5, 8, 5, 8}, 8},
		{[]int{3, 2}, []int64{1, 1, 2, 2, 3, 3}, 1},
		{[]int{3, 2}, []int64{0, 1, 2, 2, 3, 3}, 2},
	} {
		check(t, tuples.Of(filled(t, x.sizes, 9, x.costs...)), x.sizes, 9, x.other, x.costs)
	}
}

func TestOf(t *testing.T) {
	r := rand.New(rand.NewSource(3))
	for range 300 {
		sizes := smallSizes()[r.Intn(len(smallSizes()))]
		costs := make([]int64, product(sizes))
		for i := range costs {
			costs[i] = r.Int63n(4) * (top / 4)
		}
		other := top
		for _, c := range costs {
			if m, n := count(costs, c), count(costs, other); m > n || m == n && c < other {
				other = c
			}
		}
		u := filled(t, sizes, top, costs...)
		x := tuples.Of(u)
		check(t, x, sizes, top, other, costs)
		if !slices.Equal(u.Entries(), costs) {
			t.Fatalf("the table became %v", u.Entries())
		}
		if back, e := x.Table(); e != api.OK || !table.Same(u, back) {
			t.Fatalf("back again: %v, error %d", back.Entries(), e)
		}
	}
}

// TestOfTheGreatestTable has no cost twice but the last one.
func TestOfTheGreatestTable(t *testing.T) {
	costs := make([]int64, api.MaxTable)
	for i := range costs {
		costs[i] = int64(len(costs) - i)
	}
	costs[0] = 1
	sizes := []int{16, 16, 16}
	check(t, tuples.Of(filled(t, sizes, top, costs...)), sizes, top, 1, costs)
}

// TestSame holds it against all costs of tuples whose Others are any.
func TestSame(t *testing.T) {
	r := rand.New(rand.NewSource(4))
	alike := 0
	for range 20000 {
		sizes := [][]int{nil, {1}, {2}, {3}, {2, 2}, {1, 3}}[r.Intn(6)]
		a, b := strewn(t, r, sizes), strewn(t, r, sizes)
		want := true
		for _, y := range all(sizes) {
			want = want && get(t, a, y) == get(t, b, y)
		}
		sameA, sameB := unchanged(t, a), unchanged(t, b)
		if tuples.Same(a, b) != want || tuples.Same(b, a) != want {
			t.Fatalf("%v: Same of %d, %v and %d, %v is not %v", sizes, a.Other(), a.Lines(), b.Other(), b.Lines(), want)
		}
		sameA()
		sameB()
		if want && a.Other() != b.Other() {
			alike++
		}
	}
	if alike < 100 {
		t.Errorf("only %d were the same with other Others", alike)
	}
}

func strewn(t *testing.T, r *rand.Rand, sizes []int) *tuples.Tuples {
	t.Helper()
	x := made(t, sizes, 9, r.Int63n(2))
	for _, y := range all(sizes) {
		put(t, x, r.Int63n(2), y...)
	}
	return x
}

func TestSameByHand(t *testing.T) {
	of := func(sizes []int, k, other int64, lines ...tuples.Line) *tuples.Tuples {
		x := made(t, sizes, k, other)
		for _, l := range lines {
			put(t, x, l.Cost, l.Tuple...)
		}
		return x
	}
	a := of([]int{2, 2}, 9, 0, line(1, 0, 1), line(2, 1, 0), line(1, 1, 1))
	for i, x := range []struct {
		b    *tuples.Tuples
		want bool
	}{
		{a, true},
		{of([]int{2, 2}, 9, 0, line(1, 1, 1), line(2, 1, 0), line(1, 0, 1)), true},
		{of([]int{2, 2}, 9, 1, line(0, 0, 0), line(2, 1, 0)), true},
		{of([]int{2, 2}, 9, 5, line(0, 0, 0), line(1, 0, 1), line(2, 1, 0), line(1, 1, 1)), true},
		{of([]int{2, 2}, 9, 5, line(1, 0, 1), line(2, 1, 0), line(1, 1, 1)), false},
		{of([]int{2, 2}, 9, 1, line(2, 1, 0)), false},
		{of([]int{2, 2}, 9, 1, line(0, 0, 0)), false},
		{of([]int{2, 2}, 9, 0, line(1, 0, 1), line(2, 1, 0)), false},
		{of([]int{2, 2}, 9, 0, line(1, 0, 1), line(2, 1, 0), line(1, 1, 1), line(1, 0, 0)), false},
		{of([]int{2, 2}, 9, 0, line(1, 0, 1), line(3, 1, 0), line(1, 1, 1)), false},
		{of([]int{2, 2}, 9, 0), false},
		{of([]int{2, 2}, 10, 0, line(1, 0, 1), line(2, 1, 0), line(1, 1, 1)), false},
		{of([]int{2, 3}, 9, 0, line(1, 0, 1), line(2, 1, 0), line(1, 1, 1)), false},
		{of([]int{2, 2, 1}, 9, 0, line(1, 0, 1, 0), line(2, 1, 0, 0), line(1, 1, 1, 0)), false},
		{of([]int{4}, 9, 0, line(1, 1), line(2, 2), line(1, 3)), false},
		{nil, false},
	} {
		if tuples.Same(a, x.b) != x.want || tuples.Same(x.b, a) != x.want {
			t.Errorf("%d: Same of %v: not %v", i, x.b.Lines(), x.want)
		}
	}
	if !tuples.Same(nil, nil) {
		t.Error("two nil Tuples aren't the same")
	}
	if z := made(t, nil, 1, 0); tuples.Same(z, nil) || tuples.Same(nil, z) {
		t.Error("nil Tuples are some of no sizes")
	}
	if tuples.Same(made(t, []int{2, 3}, 9, 0), made(t, []int{3, 2}, 9, 0)) || tuples.Same(made(t, nil, 9, 0), made(t, []int{1}, 9, 0)) {
		t.Error("Tuples of other sizes are the same")
	}
}

func TestSameOfGreatProducts(t *testing.T) {
	sizes := []int{32, 32, 32, 32, 32, 32}
	a, b, c := made(t, sizes, 9, 0), made(t, sizes, 9, 0), made(t, sizes, 9, 1)
	if !tuples.Same(a, b) || tuples.Same(a, c) || tuples.Same(c, a) {
		t.Error("with nothing put")
	}
	put(t, a, 4, 31, 0, 31, 0, 31, 0)
	put(t, c, 4, 31, 0, 31, 0, 31, 0)
	if tuples.Same(a, b) || tuples.Same(b, a) || tuples.Same(a, c) {
		t.Error("with one put")
	}
	put(t, b, 4, 31, 0, 31, 0, 31, 0)
	if !tuples.Same(a, b) {
		t.Error("with both put")
	}
}

// TestSameOfMoreThanATable puts all tuples of more than a table may have.
func TestSameOfMoreThanATable(t *testing.T) {
	sizes := []int{32, 32, 5}
	a, b := made(t, sizes, 9, 0), made(t, sizes, 9, 1)
	l := all(sizes)
	for i, y := range l {
		put(t, a, int64(i%10), y...)
	}
	for i, y := range l[:len(l)-1] {
		put(t, b, int64(i%10), y...)
	}
	if tuples.Same(a, b) || tuples.Same(b, a) {
		t.Error("the last one isn't put")
	}
	put(t, b, int64((len(l)-1)%10), l[len(l)-1]...)
	if !tuples.Same(a, b) || !tuples.Same(b, a) {
		t.Error("all are put")
	}
}

func TestNil(t *testing.T) {
	var x *tuples.Tuples
	if x.Arity() != 0 || len(x.Sizes()) != 0 || x.K() != 0 || x.Other() != 0 || len(x.Lines()) != 0 || x.Len() != 0 {
		t.Errorf("%d, %v, %d, %d, %v, %d", x.Arity(), x.Sizes(), x.K(), x.Other(), x.Lines(), x.Len())
	}
	for _, y := range [][]int{nil, {0}, {-1}, make([]int, 9)} {
		if c, e := x.Get(y); c != 0 || e != api.ErrNone {
			t.Errorf("Get(%v): %d, error %d", y, c, e)
		}
		for _, c := range []int64{0, 1, -1, math.MaxInt64} {
			if e := x.Put(y, c); e != api.ErrNone {
				t.Errorf("Put(%v, %d): error %d", y, c, e)
			}
		}
	}
	if u, e := x.Table(); u != nil || e != api.ErrNone {
		t.Errorf("Table: %v, error %d", u, e)
	}
	if y := tuples.Of(nil); y != nil {
		t.Errorf("Of nil: %v", y.Lines())
	}
}

// TestNothingIsShared writes over all that was handed in and answered.
func TestNothingIsShared(t *testing.T) {
	sizes := []int{2, 3, 9, 9}
	x := made(t, sizes[:2], 9, 0)
	tuple := []int{1, 2, 9}
	put(t, x, 5, tuple[:2]...)
	put(t, x, 6, 0, 0)
	if !slices.Equal(sizes, []int{2, 3, 9, 9}) || !slices.Equal(tuple, []int{1, 2, 9}) {
		t.Errorf("%v and %v were written over", sizes, tuple)
	}
	same := unchanged(t, x)
	sizes[0], tuple[0] = 7, 0
	same()
	told := x.Sizes()
	told[1] = 8
	same()
	l := x.Lines()
	_ = append(l[0].Tuple, 7, 7, 7)
	l[0].Tuple[0], l[1].Tuple[1] = 4, 4
	if !slices.Equal(l[0].Tuple, []int{4, 0}) || !slices.Equal(l[1].Tuple, []int{1, 4}) {
		t.Errorf("the lines share: %v", l)
	}
	l[0].Cost = 1
	same()
	u, _ := x.Table()
	u.Put([]int{0, 0}, 1)
	same()
	y := tuples.Of(u)
	u.Put([]int{0, 1}, 9)
	put(t, y, 3, 1, 1)
	same()
	if get(t, y, []int{0, 1}) != 0 || get(t, y, []int{0, 0}) != 1 || u.Entries()[4] != 0 {
		t.Errorf("%v and %v", y.Lines(), u.Entries())
	}
	kept, _ := x.Table()
	put(t, x, 2, 0, 0)
	if kept.Entries()[0] != 6 {
		t.Errorf("the table became %v", kept.Entries())
	}
}

func TestExample(t *testing.T) {
	x := made(t, []int{2, 2}, 9, 0)
	put(t, x, 5, 0, 1)
	if !sameLines(x.Lines(), []tuples.Line{line(5, 0, 1)}) {
		t.Errorf("%v", x.Lines())
	}
}
