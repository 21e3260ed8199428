package table_test

import (
	"math"
	"math/rand"
	"slices"
	"testing"

	"pennyweight/api"
	"pennyweight/dom"
	"pennyweight/shape"
	"pennyweight/table"
)

const top = int64(api.MaxCost)

func made(t *testing.T, sizes []int, k, fill int64) *table.Table {
	t.Helper()
	x, e := table.New(sizes, k, fill)
	if e != api.OK || x == nil {
		t.Fatalf("New(%v, %d, %d): error %d", sizes, k, fill, e)
	}
	return x
}

func filled(t *testing.T, sizes []int, k int64, l ...int64) *table.Table {
	t.Helper()
	x := made(t, sizes, k, 0)
	if x.Shape().Count() != len(l) {
		t.Fatalf("%d costs for %v", len(l), sizes)
	}
	for i, y := range x.Shape().All() {
		if e := x.Put(y, l[i]); e != api.OK {
			t.Fatalf("Put(%v, %d): error %d", y, l[i], e)
		}
	}
	return x
}

// strewn has some costs of each kind: 0, K, and those between.
func strewn(t *testing.T, r *rand.Rand, sizes []int, k int64) *table.Table {
	t.Helper()
	n := made(t, sizes, k, 0).Shape().Count()
	l := make([]int64, n)
	for i := range l {
		if l[i] = r.Int63n(k + 1); r.Intn(4) == 0 {
			l[i] = k
		}
	}
	return filled(t, sizes, k, l...)
}

func full(t *testing.T, n int) dom.Set {
	t.Helper()
	d, e := dom.New(n)
	if e != api.OK {
		t.Fatalf("dom.New(%d): error %d", n, e)
	}
	return d
}

func get(t *testing.T, x *table.Table, tuple []int) int64 {
	t.Helper()
	c, e := x.Get(tuple)
	if e != api.OK {
		t.Fatalf("Get(%v) of %v: error %d", tuple, x.Shape().Sizes(), e)
	}
	return c
}

// unchanged answers a check that x is as it is now.
func unchanged(t *testing.T, x *table.Table) func() {
	t.Helper()
	sizes, k, l := x.Shape().Sizes(), x.K(), x.Entries()
	return func() {
		t.Helper()
		if !slices.Equal(x.Shape().Sizes(), sizes) || x.K() != k || !slices.Equal(x.Entries(), l) {
			t.Errorf("%v %d %v became %v %d %v", sizes, k, l, x.Shape().Sizes(), x.K(), x.Entries())
		}
	}
}

func sizesUsed() [][]int {
	return [][]int{nil, {1}, {2}, {32}, {2, 3}, {3, 2}, {2, 1, 3}, {4, 3, 2}, {2, 2, 2, 2}, {1, 2, 1, 3, 2}, {2, 3, 1, 2, 4, 3}}
}

func wrongTops() []int64 {
	return []int64{0, -1, math.MinInt64, top + 1, 2 * top, math.MaxInt64}
}

func wrongCosts(k int64) []int64 {
	return []int64{-1, -k, math.MinInt64, k + 1, math.MaxInt64}
}

// wrongTuples are of another length, or have a value outside.
func wrongTuples(sizes []int) [][]int {
	zeros := make([]int, len(sizes))
	l := [][]int{append(slices.Clone(zeros), 0), make([]int, 7), make([]int, 100)}
	for p, n := range sizes {
		l = append(l, zeros[:p])
		for _, v := range []int{-1, n, n + 1, math.MinInt, math.MaxInt} {
			x := slices.Clone(zeros)
			x[p] = v
			l = append(l, x)
		}
	}
	return l
}

func TestNew(t *testing.T) {
	for _, sizes := range sizesUsed() {
		for _, k := range []int64{1, 10, top} {
			for _, fill := range []int64{0, k / 2, k - 1, k} {
				x := made(t, sizes, k, fill)
				s, _ := shape.New(sizes)
				if !shape.Same(x.Shape(), s) || x.K() != k || !slices.Equal(x.Entries(), slices.Repeat([]int64{fill}, s.Count())) {
					t.Errorf("New(%v, %d, %d): %v, %d, %v", sizes, k, fill, x.Shape().Sizes(), x.K(), x.Entries())
				}
			}
		}
	}
}

func TestNewWrong(t *testing.T) {
	for _, k := range []int64{1, 10, top} {
		for _, fill := range wrongCosts(k) {
			refuseNew(t, []int{2, 3}, k, fill, api.ErrRange)
			refuseNew(t, nil, k, fill, api.ErrRange)
			refuseNew(t, []int{33}, k, fill, api.ErrArg)
			refuseNew(t, []int{32, 32, 32}, k, fill, api.ErrLarge)
		}
	}
	for _, k := range wrongTops() {
		for _, fill := range []int64{0, 1, k, k - 1} {
			refuseNew(t, []int{2, 3}, k, fill, api.ErrRange)
			refuseNew(t, []int{0}, k, fill, api.ErrArg)
			refuseNew(t, []int{32, 32, 5}, k, fill, api.ErrLarge)
		}
	}
	refuseNew(t, make([]int, 7), 10, 0, api.ErrArg)
	refuseNew(t, []int{1, -1}, 10, 0, api.ErrArg)
	refuseNew(t, []int{32, 32, 5}, 10, 0, api.ErrLarge)
}

func refuseNew(t *testing.T, sizes []int, k, fill int64, want api.Errno) {
	t.Helper()
	if x, e := table.New(sizes, k, fill); x != nil || e != want {
		t.Errorf("New(%v, %d, %d): %v, error %d, not %d", sizes, k, fill, x, e, want)
	}
}

func TestPutAndGet(t *testing.T) {
	for _, sizes := range sizesUsed() {
		x := made(t, sizes, 5000, 5000)
		want := x.Entries()
		for i, y := range x.Shape().All() {
			if e := x.Put(y, int64(i)); e != api.OK {
				t.Fatalf("Put(%v): error %d", y, e)
			}
			want[i] = int64(i)
			if !slices.Equal(x.Entries(), want) {
				t.Fatalf("behind Put(%v, %d): %v", y, i, x.Entries())
			}
		}
		for i, y := range x.Shape().All() {
			if c := get(t, x, y); c != int64(i) {
				t.Errorf("Get(%v): %d", y, c)
			}
		}
	}
	x := made(t, []int{2}, 10, 3)
	for _, c := range []int64{0, 1, 9, 10} {
		if e := x.Put([]int{1}, c); e != api.OK || !slices.Equal(x.Entries(), []int64{3, c}) {
			t.Errorf("Put(%d): %v, error %d", c, x.Entries(), e)
		}
	}
}

func TestMore(t *testing.T) {
	for _, a := range []int64{0, 1, 4, 9, 10} {
		for _, b := range []int64{0, 1, 6, 9, 10} {
			x := filled(t, []int{3}, 10, 2, a, 7)
			if e := x.More([]int{1}, b); e != api.OK || !slices.Equal(x.Entries(), []int64{2, min(a+b, 10), 7}) {
				t.Errorf("%d and %d more: %v, error %d", a, b, x.Entries(), e)
			}
		}
	}
	x := made(t, nil, top, top-1)
	if e := x.More(nil, top); e != api.OK || get(t, x, nil) != top {
		t.Errorf("%v, error %d", x.Entries(), e)
	}
}

func TestTuplesAndCostsThatThereCantBe(t *testing.T) {
	r := rand.New(rand.NewSource(1))
	for _, sizes := range sizesUsed() {
		x := strewn(t, r, sizes, 10)
		check := unchanged(t, x)
		for _, y := range wrongTuples(sizes) {
			if c, e := x.Get(y); c != 0 || e != api.ErrRange {
				t.Errorf("%v: Get(%v): %d, error %d", sizes, y, c, e)
			}
			for _, c := range []int64{0, 3, 10, 11, -1} {
				if p, m := x.Put(y, c), x.More(y, c); p != api.ErrRange || m != api.ErrRange {
					t.Errorf("%v: Put(%v, %d): error %d, More: error %d", sizes, y, c, p, m)
				}
			}
		}
		for _, y := range x.Shape().All() {
			for _, c := range wrongCosts(10) {
				if p, m := x.Put(y, c), x.More(y, c); p != api.ErrRange || m != api.ErrRange {
					t.Errorf("%v: Put(%v, %d): error %d, More: error %d", sizes, y, c, p, m)
				}
			}
		}
		check()
	}
}

func TestSame(t *testing.T) {
	a := filled(t, []int{2, 3}, 10, 1, 2, 3, 4, 5, 6)
	for _, x := range []struct {
		b    *table.Table
		want bool
	}{
		{filled(t, []int{2, 3}, 10, 1, 2, 3, 4, 5, 6), true},
		{a, true},
		{filled(t, []int{3, 2}, 10, 1, 2, 3, 4, 5, 6), false},
		{filled(t, []int{6}, 10, 1, 2, 3, 4, 5, 6), false},
		{filled(t, []int{2, 3, 1}, 10, 1, 2, 3, 4, 5, 6), false},
		{filled(t, []int{2, 3}, 11, 1, 2, 3, 4, 5, 6), false},
		{filled(t, []int{2, 3}, 10, 1, 2, 3, 4, 5, 7), false},
		{filled(t, []int{2, 3}, 10, 0, 2, 3, 4, 5, 6), false},
		{nil, false},
	} {
		if table.Same(a, x.b) != x.want || table.Same(x.b, a) != x.want {
			t.Errorf("Same of %v: not %v", x.b.Entries(), x.want)
		}
	}
	if !table.Same(nil, nil) {
		t.Error("two nil tables aren't the same")
	}
	if z := made(t, nil, 1, 0); table.Same(z, nil) || table.Same(nil, z) {
		t.Error("a nil table is one of no sizes")
	}
}

func TestCopy(t *testing.T) {
	r := rand.New(rand.NewSource(2))
	for _, sizes := range sizesUsed() {
		x := strewn(t, r, sizes, 10)
		zeros := make([]int, len(sizes))
		x.Put(zeros, 4)
		c := x.Copy()
		if !table.Same(x, c) || c == x {
			t.Fatalf("%v: the copy is %v %d %v", sizes, c.Shape().Sizes(), c.K(), c.Entries())
		}
		check := unchanged(t, x)
		c.Put(zeros, 5)
		check()
		check = unchanged(t, c)
		x.Put(zeros, 6)
		check()
		if table.Same(x, c) || get(t, x, zeros) != 6 || get(t, c, zeros) != 5 {
			t.Errorf("%v: %v and %v", sizes, x.Entries(), c.Entries())
		}
	}
}

// orders are all orders of n places.
func orders(n int) [][]int {
	if n == 0 {
		return [][]int{nil}
	}
	var l [][]int
	for _, o := range orders(n - 1) {
		for i := range n {
			l = append(l, slices.Insert(slices.Clone(o), i, n-1))
		}
	}
	return l
}

func TestTurn(t *testing.T) {
	r := rand.New(rand.NewSource(3))
	for _, sizes := range [][]int{nil, {4}, {2, 3}, {2, 3, 4}, {2, 1, 3, 2}, {3, 1, 2, 4, 2}} {
		x := strewn(t, r, sizes, 1000)
		check := unchanged(t, x)
		for _, order := range orders(len(sizes)) {
			given := slices.Clone(order)
			u, e := x.Turn(given)
			if e != api.OK || u.K() != 1000 || u.Shape().Arity() != len(sizes) || !slices.Equal(given, order) {
				t.Fatalf("%v: Turn(%v): error %d", sizes, order, e)
			}
			checkTurn(t, x, u, order)
		}
		check()
	}
}

// checkTurn makes of each tuple of x that of u, and asks for the same cost.
func checkTurn(t *testing.T, x, u *table.Table, order []int) {
	t.Helper()
	for i, p := range order {
		if u.Shape().Size(i) != x.Shape().Size(p) {
			t.Fatalf("%v turned by %v: %v", x.Shape().Sizes(), order, u.Shape().Sizes())
		}
	}
	for _, y := range x.Shape().All() {
		var z []int
		for _, p := range order {
			z = append(z, y[p])
		}
		if get(t, u, z) != get(t, x, y) {
			t.Errorf("turned by %v: %d of %v, %d of %v", order, get(t, x, y), y, get(t, u, z), z)
		}
	}
}

func TestTurnWrong(t *testing.T) {
	for _, x := range []struct {
		sizes []int
		order []int
	}{
		{nil, []int{0}},
		{nil, []int{-1}},
		{[]int{2}, nil},
		{[]int{2}, []int{1}},
		{[]int{2}, []int{-1}},
		{[]int{2}, []int{0, 0}},
		{[]int{2}, []int{0, 1}},
		{[]int{2, 2}, []int{0, 0}},
		{[]int{2, 2}, []int{1, 1}},
		{[]int{2, 2}, []int{0}},
		{[]int{2, 2}, []int{1, 2}},
		{[]int{2, 2}, []int{-1, 0}},
		{[]int{2, 2}, []int{0, math.MaxInt}},
		{[]int{2, 2}, []int{math.MinInt, 1}},
		{[]int{2, 3, 2}, []int{0, 1}},
		{[]int{2, 3, 2}, []int{0, 2, 0}},
		{[]int{2, 3, 2}, []int{2, 1, 2}},
		{[]int{2, 3, 2}, []int{0, 1, 3}},
		{[]int{2, 3, 2}, []int{0, 1, 2, 3}},
		{[]int{2, 3, 2}, []int{0, 1, 2, 2}},
	} {
		if u, e := made(t, x.sizes, 10, 1).Turn(x.order); u != nil || e != api.ErrArg {
			t.Errorf("%v: Turn(%v): %v, error %d", x.sizes, x.order, u, e)
		}
	}
}

func TestJoin(t *testing.T) {
	sizeOf := map[int]int{0: 2, 1: 3, 2: 2, 3: 1, 7: 4, 63: 2, math.MaxInt: 3}
	r := rand.New(rand.NewSource(4))
	lists := [][]int{nil, {0}, {2}, {0, 1}, {1, 2}, {0, 2}, {0, 1, 2}, {2, 3, 7}, {1, 7, 63}, {63, math.MaxInt}, {0, 1, 2, 3, 7, 63}, {7}}
	for _, at := range lists {
		for _, bt := range lists {
			if len(union(at, bt)) > api.MaxArity {
				continue
			}
			a := strewn(t, r, sizesOf(sizeOf, at), 100)
			b := strewn(t, r, sizesOf(sizeOf, bt), 100)
			checkA, checkB := unchanged(t, a), unchanged(t, b)
			checkJoin(t, a, at, b, bt)
			checkA()
			checkB()
		}
	}
}

func sizesOf(sizeOf map[int]int, vars []int) []int {
	var l []int
	for _, v := range vars {
		l = append(l, sizeOf[v])
	}
	return l
}

func union(at, bt []int) []int {
	var l []int
	for _, v := range append(slices.Clone(at), bt...) {
		if !slices.Contains(l, v) {
			l = append(l, v)
		}
	}
	slices.Sort(l)
	return l
}

func checkJoin(t *testing.T, a *table.Table, at []int, b *table.Table, bt []int) {
	t.Helper()
	at0, bt0 := slices.Clone(at), slices.Clone(bt)
	j, vars, e := table.Join(a, at, b, bt)
	if e != api.OK || !slices.Equal(vars, union(at, bt)) || j.K() != a.K() || j.Shape().Arity() != len(vars) {
		t.Fatalf("Join of %v and %v: %v, error %d", at, bt, vars, e)
	}
	for _, y := range j.Shape().All() {
		ca, cb := get(t, a, part(y, vars, at)), get(t, b, part(y, vars, bt))
		if c := get(t, j, y); c != min(ca+cb, a.K()) {
			t.Errorf("Join of %v and %v: %v costs %d, of %d and %d", at, bt, y, c, ca, cb)
		}
	}
	for i, v := range vars {
		vars[i] = v ^ 1
	}
	if !slices.Equal(at, at0) || !slices.Equal(bt, bt0) {
		t.Errorf("the variables became %v and %v", at, bt)
	}
}

func part(y, vars, some []int) []int {
	var l []int
	for _, v := range some {
		l = append(l, y[slices.Index(vars, v)])
	}
	return l
}

func TestJoinReachesTheTop(t *testing.T) {
	a := filled(t, []int{3}, top, 0, top-1, top)
	b := filled(t, []int{3}, top, 1, top-1, top)
	j, _, e := table.Join(a, []int{1}, b, []int{0})
	if e != api.OK || !slices.Equal(j.Entries(), []int64{1, top, top, top - 1, top, top, top, top, top}) {
		t.Errorf("%v, error %d", j.Entries(), e)
	}
	j, vars, e := table.Join(a, []int{5}, b, []int{5})
	if e != api.OK || !slices.Equal(vars, []int{5}) || !slices.Equal(j.Entries(), []int64{1, top, top}) {
		t.Errorf("%v, %v, error %d", vars, j.Entries(), e)
	}
	if j, vars, e = table.Join(a, []int{0}, a, []int{0}); e != api.OK || len(vars) != 1 || !slices.Equal(j.Entries(), []int64{0, top, top}) {
		t.Errorf("with itself: %v, %v, error %d", vars, j.Entries(), e)
	}
}

func TestJoinWrong(t *testing.T) {
	type side struct {
		sizes []int
		k     int64
		at    []int
	}
	for _, x := range []struct {
		a, b side
		want api.Errno
	}{
		{side{[]int{2, 2}, 10, []int{1, 1}}, side{[]int{2}, 10, []int{1}}, api.ErrArg},
		{side{[]int{2, 2}, 10, []int{2, 1}}, side{[]int{2}, 10, []int{1}}, api.ErrArg},
		{side{[]int{2, 2, 2}, 10, []int{1, 3, 2}}, side{[]int{2}, 10, []int{1}}, api.ErrArg},
		{side{[]int{2, 2}, 10, []int{-1, 1}}, side{[]int{2}, 10, []int{1}}, api.ErrArg},
		{side{[]int{2}, 10, []int{-1}}, side{[]int{2}, 10, []int{1}}, api.ErrArg},
		{side{[]int{2}, 10, []int{math.MinInt}}, side{[]int{2}, 10, []int{1}}, api.ErrArg},
		{side{[]int{2, 2}, 10, []int{1}}, side{[]int{2}, 10, []int{1}}, api.ErrArg},
		{side{[]int{2, 2}, 10, nil}, side{[]int{2}, 10, []int{1}}, api.ErrArg},
		{side{nil, 10, []int{0}}, side{[]int{2}, 10, []int{1}}, api.ErrArg},
		{side{[]int{2, 2}, 10, []int{1, 2, 3}}, side{[]int{2}, 10, []int{1}}, api.ErrArg},
		{side{[]int{2, 3}, 10, []int{1, 2}}, side{[]int{2}, 10, []int{2}}, api.ErrArg},
		{side{[]int{2, 3}, 10, []int{1, 2}}, side{[]int{3, 3}, 10, []int{1, 2}}, api.ErrArg},
		{side{[]int{2, 3}, 10, []int{1, 2}}, side{[]int{4, 5, 3}, 10, []int{0, 1, 2}}, api.ErrArg},
		{side{[]int{2}, 10, []int{1}}, side{[]int{2}, 11, []int{2}}, api.ErrRange},
		{side{[]int{2}, 10, []int{1}}, side{[]int{2}, 9, []int{1}}, api.ErrRange},
		{side{nil, 10, nil}, side{nil, 11, nil}, api.ErrRange},
		{side{[]int{2, 2}, 10, []int{1, 1}}, side{[]int{2}, 11, []int{1}}, api.ErrArg},
		{side{[]int{3}, 10, []int{1}}, side{[]int{2}, 11, []int{1}}, api.ErrArg},
		{side{[]int{2, 2}, 10, []int{1}}, side{[]int{2}, 11, []int{1}}, api.ErrArg},
		{side{[]int{2, 2}, 10, []int{1, 2, 3}}, side{[]int{2}, 11, []int{1}}, api.ErrArg},
		{side{[]int{2, 2, 2, 2}, 10, []int{0, 1, 2, 3}}, side{[]int{2, 2, 2}, 10, []int{4, 5, 6}}, api.ErrArg},
		{side{[]int{32, 32}, 10, []int{0, 1}}, side{[]int{5}, 10, []int{2}}, api.ErrLarge},
		{side{[]int{32, 32}, 10, []int{0, 1}}, side{[]int{32, 5}, 10, []int{1, 2}}, api.ErrLarge},
		{side{[]int{4, 4, 4, 4}, 10, []int{0, 1, 2, 3}}, side{[]int{4, 5}, 10, []int{4, 5}}, api.ErrLarge},
		{side{[]int{2, 2, 2, 2}, 10, []int{0, 1, 2, 3}}, side{[]int{2, 2, 2}, 11, []int{4, 5, 6}}, api.ErrRange},
		{side{[]int{32, 32}, 10, []int{0, 1}}, side{[]int{5}, 11, []int{2}}, api.ErrRange},
		{side{[]int{32, 32}, 10, []int{0, 1}}, side{[]int{5}, 11, []int{-2}}, api.ErrArg},
	} {
		a, b := made(t, x.a.sizes, x.a.k, 1), made(t, x.b.sizes, x.b.k, 1)
		refuseJoin(t, a, x.a.at, b, x.b.at, x.want)
		refuseJoin(t, b, x.b.at, a, x.a.at, x.want)
		refuseJoin(t, nil, x.a.at, b, x.b.at, api.ErrNone)
		refuseJoin(t, a, x.a.at, nil, x.b.at, api.ErrNone)
	}
	refuseJoin(t, nil, nil, nil, nil, api.ErrNone)
}

func refuseJoin(t *testing.T, a *table.Table, at []int, b *table.Table, bt []int, want api.Errno) {
	t.Helper()
	if j, vars, e := table.Join(a, at, b, bt); j != nil || vars != nil || e != want {
		t.Errorf("Join of %v at %v and %v at %v: %v, %v, error %d, not %d", a.Shape().Sizes(), at, b.Shape().Sizes(), bt, j, vars, e, want)
	}
}

// TestJoinUpToTheLimits joins to just as many variables and tuples as there may be.
func TestJoinUpToTheLimits(t *testing.T) {
	r := rand.New(rand.NewSource(5))
	checkJoin(t, strewn(t, r, []int{32, 32}, 100), []int{0, 2}, strewn(t, r, []int{4}, 100), []int{1})
	checkJoin(t, strewn(t, r, []int{4, 4, 4, 4}, 100), []int{1, 3, 5, 6}, strewn(t, r, []int{4, 4, 4, 4}, 100), []int{2, 3, 4, 5})
	checkJoin(t, strewn(t, r, []int{2, 1, 2, 2}, 100), []int{0, 1, 2, 3}, strewn(t, r, []int{1, 2}, 100), []int{4, 5})
}

func TestOut(t *testing.T) {
	r := rand.New(rand.NewSource(6))
	for _, sizes := range [][]int{{1}, {4}, {32}, {2, 3}, {3, 2, 4}, {4, 1, 3, 2}, {2, 3, 1, 2, 4, 3}} {
		// Few costs, so that several values often have the least.
		x := strewn(t, r, sizes, 3)
		check := unchanged(t, x)
		for pos, n := range sizes {
			for _, mask := range []uint64{0, 1, 2, 3, 4, 5, 6, 8, 10, 12, 14, 1 << 31, 1<<32 - 1} {
				d := full(t, n)
				for v := range n {
					if mask>>v&1 == 0 {
						d = d.Drop(v)
					}
				}
				checkOut(t, x, pos, d)
			}
		}
		check()
	}
}

func checkOut(t *testing.T, x *table.Table, pos int, d dom.Set) {
	t.Helper()
	sizes := x.Shape().Sizes()
	u, best, e := x.Out(pos, d)
	if e != api.OK || u.K() != x.K() || !slices.Equal(u.Shape().Sizes(), slices.Delete(sizes, pos, pos+1)) || len(best) != u.Shape().Count() {
		t.Fatalf("Out(%d): %v, error %d", pos, u.Shape().Sizes(), e)
	}
	for i, y := range u.Shape().All() {
		least, who := x.K(), -1
		for v := x.Shape().Size(pos) - 1; v >= 0; v-- {
			if c := get(t, x, slices.Insert(slices.Clone(y), pos, v)); d.Has(v) && c <= least {
				least, who = c, v
			}
		}
		if c := get(t, u, y); c != least || best[i] != who {
			t.Errorf("%v: Out(%d): %v costs %d by %d, not %d by %d", x.Entries(), pos, y, c, best[i], least, who)
		}
	}
}

func TestOutByHand(t *testing.T) {
	a := filled(t, []int{2, 2}, 10, 3, 5, 4, 1)
	b := filled(t, []int{3, 2}, 10, 10, 7, 10, 2, 10, 2)
	for _, x := range []struct {
		a    *table.Table
		pos  int
		d    dom.Set
		want []int64
		best []int
	}{
		{a, 1, full(t, 2), []int64{3, 1}, []int{0, 1}},
		{a, 0, full(t, 2), []int64{3, 1}, []int{0, 1}},
		{a, 0, full(t, 2).Drop(1), []int64{3, 5}, []int{0, 0}},
		{a, 0, full(t, 2).Drop(0), []int64{4, 1}, []int{1, 1}},
		{a, 0, full(t, 2).Only(-1), []int64{10, 10}, []int{-1, -1}},
		{b, 0, full(t, 3), []int64{10, 2}, []int{0, 1}},
		{b, 0, full(t, 3).Drop(0), []int64{10, 2}, []int{1, 1}},
		{b, 0, full(t, 3).Drop(1), []int64{10, 2}, []int{0, 2}},
		{b, 1, full(t, 2).Only(0), []int64{10, 10, 10}, []int{0, 0, 0}},
		{b, 1, full(t, 2).Only(0).Drop(0), []int64{10, 10, 10}, []int{-1, -1, -1}},
		{filled(t, []int{3}, 10, 4, 2, 2), 0, full(t, 3), []int64{2}, []int{1}},
	} {
		u, best, e := x.a.Out(x.pos, x.d)
		if e != api.OK || !slices.Equal(u.Entries(), x.want) || !slices.Equal(best, x.best) {
			t.Errorf("%v: Out(%d): %v, %v, error %d", x.a.Entries(), x.pos, u.Entries(), best, e)
		}
	}
}

func TestOutWrong(t *testing.T) {
	x := made(t, []int{2, 3}, 10, 1)
	z := made(t, nil, 10, 1)
	for _, pos := range []int{-1, 2, 3, 6, math.MinInt, math.MaxInt} {
		for _, d := range []dom.Set{{}, full(t, 1), full(t, 2), full(t, 3)} {
			refuseOut(t, x, pos, d, api.ErrArg)
		}
	}
	for _, d := range []dom.Set{{}, full(t, 1), full(t, 3), full(t, 32), full(t, 3).Only(-1)} {
		refuseOut(t, x, 0, d, api.ErrArg)
		refuseOut(t, z, 0, d, api.ErrArg)
		refuseOut(t, z, -1, d, api.ErrArg)
	}
	refuseOut(t, x, 1, full(t, 2), api.ErrArg)
	refuseOut(t, nil, 0, full(t, 2), api.ErrNone)
	refuseOut(t, nil, -1, dom.Set{}, api.ErrNone)
}

func refuseOut(t *testing.T, x *table.Table, pos int, d dom.Set, want api.Errno) {
	t.Helper()
	if u, best, e := x.Out(pos, d); u != nil || best != nil || e != want {
		t.Errorf("Out(%d) of %d values: %v, %v, error %d, not %d", pos, d.Size(), u, best, e, want)
	}
}

func TestNilTable(t *testing.T) {
	var x *table.Table
	if x.Shape() != (shape.Shape{}) || x.K() != 0 || x.Entries() != nil || x.Copy() != nil {
		t.Errorf("%v, %d, %v, %v", x.Shape(), x.K(), x.Entries(), x.Copy())
	}
	for _, y := range [][]int{nil, {0}, {-1}} {
		if c, e := x.Get(y); c != 0 || e != api.ErrNone {
			t.Errorf("Get(%v): %d, error %d", y, c, e)
		}
		for _, c := range []int64{0, 1, -1, math.MaxInt64} {
			if p, m := x.Put(y, c), x.More(y, c); p != api.ErrNone || m != api.ErrNone {
				t.Errorf("Put(%v, %d): error %d, More: error %d", y, c, p, m)
			}
		}
		if u, e := x.Turn(y); u != nil || e != api.ErrNone {
			t.Errorf("Turn(%v): %v, error %d", y, u, e)
		}
	}
}

// TestNothingIsShared writes over all that was handed in and answered.
func TestNothingIsShared(t *testing.T) {
	sizes := []int{2, 2, 9}
	x := made(t, sizes[:2], 10, 3)
	sizes[0], sizes[2] = 1, 9
	check := unchanged(t, x)
	x.Entries()[0] = 7
	x.Shape().Sizes()[0] = 7
	order := []int{0, 1, 5}
	u, _ := x.Turn(order[:2])
	j, vars, _ := table.Join(x, order[:2], x, order[:2])
	o, best, _ := x.Out(0, full(t, 2))
	check()
	for _, y := range []*table.Table{u, j} {
		y.Put([]int{0, 0}, 9)
	}
	o.Put([]int{0}, 9)
	check()
	order[0], vars[0], best[0] = 7, 8, 9
	if !slices.Equal(order, []int{7, 1, 5}) || !slices.Equal(j.Shape().Sizes(), []int{2, 2}) || !slices.Equal(best, []int{9, 0}) {
		t.Errorf("%v, %v, %v", order, j.Shape().Sizes(), best)
	}
	again, more, _ := x.Out(0, full(t, 2))
	if !slices.Equal(again.Entries(), []int64{3, 3}) || !slices.Equal(more, []int{0, 0}) {
		t.Errorf("%v, %v", again.Entries(), more)
	}
}
