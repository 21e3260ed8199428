package shape_test

import (
	"iter"
	"math"
	"slices"
	"testing"

	"pennyweight/api"
	"pennyweight/shape"
)

func made(t *testing.T, sizes []int) shape.Shape {
	t.Helper()
	s, e := shape.New(sizes)
	if e != api.OK {
		t.Fatalf("New(%v): error %d", sizes, e)
	}
	return s
}

// tuples are all of these sizes in their order, by another way than that of the
// package: the tuples of the places behind the first, once for each value.
func tuples(sizes []int) [][]int {
	if len(sizes) == 0 {
		return [][]int{{}}
	}
	var l [][]int
	for v := range sizes[0] {
		for _, rest := range tuples(sizes[1:]) {
			l = append(l, append([]int{v}, rest...))
		}
	}
	return l
}

// right are lists of sizes that there may be, each product up to MaxTable.
func right() [][]int {
	return [][]int{
		nil, {}, {1}, {2}, {31}, {32}, {1, 1}, {2, 3}, {3, 2}, {1, 5}, {5, 1}, {32, 32}, {2, 1, 3}, {4, 3, 2}, {2, 3, 4},
		{32, 32, 4}, {4, 32, 32}, {16, 16, 16}, {1, 32, 1, 32, 1, 4}, {1, 1, 1, 1, 1, 1}, {2, 3, 1, 2, 4, 3}, {4, 4, 4, 4, 4, 4},
		{17, 15, 16}, {2, 2, 2, 2, 2}, {32, 2, 2, 2, 4, 4},
	}
}

// outside are numbers that are no value, place or number of any shape.
func outside() []int {
	return []int{-1, -2, -32, math.MinInt, math.MinInt + 1, 4096, 4097, 1 << 32, math.MaxInt - 1, math.MaxInt}
}

func TestNew(t *testing.T) {
	for _, sizes := range right() {
		s := made(t, sizes)
		if s.Arity() != len(sizes) || !slices.Equal(s.Sizes(), sizes) || s.Count() != len(tuples(sizes)) {
			t.Errorf("New(%v): %d places, %v, %d tuples", sizes, s.Arity(), s.Sizes(), s.Count())
		}
		for i, n := range sizes {
			if s.Size(i) != n {
				t.Errorf("New(%v): Size(%d) is %d", sizes, i, s.Size(i))
			}
		}
	}
}

func TestNewWrong(t *testing.T) {
	for _, x := range []struct {
		sizes []int
		e     api.Errno
	}{
		{[]int{0}, api.ErrArg},
		{[]int{33}, api.ErrArg},
		{[]int{-1}, api.ErrArg},
		{[]int{math.MinInt}, api.ErrArg},
		{[]int{math.MaxInt}, api.ErrArg},
		{[]int{1<<32 + 2}, api.ErrArg},
		{[]int{2, 0}, api.ErrArg},
		{[]int{0, 2}, api.ErrArg},
		{[]int{2, 33, 2}, api.ErrArg},
		{[]int{-2, -2}, api.ErrArg},
		{[]int{2, 2, 2, 2, 2, 0}, api.ErrArg},
		{[]int{1, 1, 1, 1, 1, 1, 1}, api.ErrArg},
		{make([]int, 7), api.ErrArg},
		{slices.Repeat([]int{2}, 1000), api.ErrArg},
		{slices.Repeat([]int{32}, 7), api.ErrArg},
		{[]int{32, 32, 32, 0}, api.ErrArg},
		{[]int{33, 32, 32, 32}, api.ErrArg},
		{[]int{32, 32, 5}, api.ErrLarge},
		{[]int{5, 32, 32}, api.ErrLarge},
		{[]int{17, 16, 16}, api.ErrLarge},
		{[]int{32, 32, 32, 32, 32, 32}, api.ErrLarge},
		{[]int{4, 4, 4, 4, 4, 5}, api.ErrLarge},
	} {
		if s, e := shape.New(x.sizes); e != x.e || s != (shape.Shape{}) {
			t.Errorf("New(%v): %v, error %d", x.sizes, s.Sizes(), e)
		}
	}
}

// TestProduct goes up to MaxTable and over it by one more.
func TestProduct(t *testing.T) {
	for a := 1; a <= api.MaxDomain; a++ {
		for b := 1; b <= api.MaxDomain; b++ {
			for c := 1; c <= api.MaxDomain; c++ {
				s, e := shape.New([]int{a, b, c})
				if a*b*c > api.MaxTable {
					if e != api.ErrLarge || s != (shape.Shape{}) {
						t.Errorf("New(%d, %d, %d): %v, error %d", a, b, c, s.Sizes(), e)
					}
				} else if e != api.OK || s.Count() != a*b*c {
					t.Errorf("New(%d, %d, %d): %d tuples, error %d", a, b, c, s.Count(), e)
				}
			}
		}
	}
}

func TestZeroShape(t *testing.T) {
	var z shape.Shape
	if none := made(t, nil); !shape.Same(z, none) || !shape.Same(none, z) {
		t.Error("a zero Shape isn't that of no sizes")
	}
	if z.Arity() != 0 || len(z.Sizes()) != 0 || z.Count() != 1 {
		t.Errorf("%d places, %v, %d tuples", z.Arity(), z.Sizes(), z.Count())
	}
	for _, i := range append(outside(), 0, 1, 5, 6) {
		if z.Size(i) != 0 || z.Step(i) != 0 {
			t.Errorf("Size(%d) is %d, Step %d", i, z.Size(i), z.Step(i))
		}
	}
	for _, empty := range [][]int{nil, {}} {
		if i, e := z.Index(empty); i != 0 || e != api.OK {
			t.Errorf("Index(): %d, error %d", i, e)
		}
	}
	if x, e := z.Tuple(0); len(x) != 0 || e != api.OK {
		t.Errorf("Tuple(0): %v, error %d", x, e)
	}
	for _, i := range append(outside(), 1) {
		if x, e := z.Tuple(i); x != nil || e != api.ErrRange {
			t.Errorf("Tuple(%d): %v, error %d", i, x, e)
		}
	}
	n := 0
	for i, x := range z.All() {
		n++
		if i != 0 || len(x) != 0 {
			t.Errorf("All: %d, %v", i, x)
		}
	}
	if n != 1 {
		t.Errorf("All: %d times", n)
	}
}

func TestPlaces(t *testing.T) {
	for _, sizes := range right() {
		s := made(t, sizes)
		for _, i := range append(outside(), len(sizes), 6, 7) {
			if s.Size(i) != 0 || s.Step(i) != 0 {
				t.Errorf("%v: Size(%d) is %d, Step %d", sizes, i, s.Size(i), s.Step(i))
			}
		}
	}
}

func TestTuples(t *testing.T) {
	for _, sizes := range right() {
		s := made(t, sizes)
		for i, want := range tuples(sizes) {
			if x, e := s.Tuple(i); e != api.OK || !slices.Equal(x, want) {
				t.Errorf("%v: Tuple(%d) is %v, error %d", sizes, i, x, e)
			}
			if n, e := s.Index(want); e != api.OK || n != i {
				t.Errorf("%v: Index(%v) is %d, error %d", sizes, want, n, e)
			}
		}
		for _, i := range append(outside(), s.Count(), s.Count()+1) {
			if x, e := s.Tuple(i); x != nil || e != api.ErrRange {
				t.Errorf("%v: Tuple(%d) is %v, error %d", sizes, i, x, e)
			}
		}
	}
}

func TestStep(t *testing.T) {
	for _, sizes := range right() {
		s := made(t, sizes)
		for _, x := range tuples(sizes) {
			from, _ := s.Index(x)
			for p := range sizes {
				x[p]++
				if to, e := s.Index(x); e == api.OK && to-from != s.Step(p) {
					t.Errorf("%v: from %d to %d, but Step(%d) is %d", sizes, from, to, p, s.Step(p))
				}
				x[p]--
			}
		}
	}
	// Of places of one value no tuple tells the step.
	s := made(t, []int{1, 3, 1, 4, 1})
	for p, want := range []int{12, 4, 4, 1, 1} {
		if s.Step(p) != want {
			t.Errorf("Step(%d) is %d", p, s.Step(p))
		}
	}
}

func TestIndexWrong(t *testing.T) {
	for _, sizes := range right() {
		s := made(t, sizes)
		zeros := make([]int, len(sizes))
		refuse(t, s, append(slices.Clone(zeros), 0))
		refuse(t, s, make([]int, 7))
		refuse(t, s, make([]int, 1000))
		for p, n := range sizes {
			refuse(t, s, zeros[:p])
			for _, v := range append(outside(), n, n+1, 32) {
				x := slices.Clone(zeros)
				x[p] = v
				refuse(t, s, x)
				for q := range p {
					x[q] = sizes[q] - 1
				}
				refuse(t, s, x)
			}
		}
	}
}

func refuse(t *testing.T, s shape.Shape, x []int) {
	t.Helper()
	if i, e := s.Index(x); i != 0 || e != api.ErrRange {
		t.Errorf("%v: Index(%v) is %d, error %d", s.Sizes(), x, i, e)
	}
}

func TestAll(t *testing.T) {
	for _, sizes := range right() {
		checkAll(t, made(t, sizes).All(), tuples(sizes))
	}
}

func checkAll(t *testing.T, all iter.Seq2[int, []int], want [][]int) {
	t.Helper()
	n := 0
	for i, x := range all {
		if i != n || n >= len(want) || !slices.Equal(x, want[i]) {
			t.Fatalf("the %d. is %d, %v", n, i, x)
		}
		n++
	}
	if n != len(want) {
		t.Errorf("%d tuples, not %d", n, len(want))
	}
}

func TestAllStopsAndBeginsAgain(t *testing.T) {
	sizes := []int{2, 3, 2}
	all := made(t, sizes).All()
	last := -1
	for i := range all {
		last = i
		if i == 7 {
			break
		}
	}
	if last != 7 {
		t.Errorf("till %d", last)
	}
	checkAll(t, all, tuples(sizes))
	for range all {
		checkAll(t, all, tuples(sizes))
		break
	}
}

// TestAllIsEachAnew writes over what is given, and keeps it.
func TestAllIsEachAnew(t *testing.T) {
	sizes := []int{3, 2, 2}
	var kept [][]int
	for i, x := range made(t, sizes).All() {
		if !slices.Equal(x, tuples(sizes)[i]) {
			t.Fatalf("%d: %v", i, x)
		}
		kept = append(kept, x)
		for p := range x {
			x[p] = 100 + i
		}
		_ = append(x, -1)
	}
	for i, x := range kept {
		if !slices.Equal(x, []int{100 + i, 100 + i, 100 + i}) {
			t.Errorf("%d became %v", i, x)
		}
	}
}

func TestSame(t *testing.T) {
	for i, a := range right() {
		for j, b := range right() {
			if alike := slices.Equal(a, b); shape.Same(made(t, a), made(t, b)) != alike {
				t.Errorf("Same of %v (%d) and %v (%d) is not %v", a, i, b, j, alike)
			}
		}
	}
}

func TestNothingIsShared(t *testing.T) {
	sizes := []int{2, 3, 4, 9, 9}
	s := made(t, sizes[:3])
	if !slices.Equal(sizes, []int{2, 3, 4, 9, 9}) {
		t.Errorf("the sizes became %v", sizes)
	}
	sizes[0] = 7
	told := s.Sizes()
	told[1] = 8
	x, _ := s.Tuple(5)
	x[0] = 9
	y := []int{1, 2, 3, 4}
	s.Index(y[:3])
	if again, _ := s.Tuple(5); !slices.Equal(again, []int{0, 1, 1}) || !slices.Equal(s.Sizes(), []int{2, 3, 4}) || !slices.Equal(y, []int{1, 2, 3, 4}) {
		t.Errorf("%v of %v, %v", again, s.Sizes(), y)
	}
}

func TestExample(t *testing.T) {
	s := made(t, []int{2, 3})
	if i, e := s.Index([]int{1, 2}); s.Count() != 6 || i != 5 || e != api.OK || s.Step(0) != 3 {
		t.Errorf("Count %d, Index %d, error %d, Step %d", s.Count(), i, e, s.Step(0))
	}
}
