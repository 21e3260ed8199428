package dom_test

import (
	"math"
	"slices"
	"testing"

	"pennyweight/api"
	"pennyweight/dom"
)

// model is what a set is to be, by a list of yes and no.
type model struct {
	has []bool
}

func (m model) values() []int {
	var l []int
	for v, yes := range m.has {
		if yes {
			l = append(l, v)
		}
	}
	return l
}

func full(t *testing.T, n int) dom.Set {
	t.Helper()
	s, e := dom.New(n)
	if e != api.OK {
		t.Fatalf("New(%d): %d", n, e)
	}
	return s
}

// of makes the set of the values whose bits are set in mask.
func of(t *testing.T, n int, mask uint32) (dom.Set, model) {
	t.Helper()
	s, m := full(t, n), model{make([]bool, n)}
	for v := range n {
		if mask>>v&1 == 0 {
			s = s.Drop(v)
		} else {
			m.has[v] = true
		}
	}
	return s, m
}

// asked are values inside and outside of a set of size n.
func asked(n int) []int {
	l := []int{math.MinInt, math.MinInt + 1, -64, -32, -31, -2, -1}
	for v := range n {
		l = append(l, v)
	}
	return append(l, n, n+1, 31, 32, 33, 63, 64, 256, 1<<32, math.MaxInt-1, math.MaxInt)
}

// masks are some of the sets of size n: all of them, where they are few.
func masks(n int) []uint32 {
	if n <= 5 {
		l := make([]uint32, 1<<n)
		for i := range l {
			l[i] = uint32(i)
		}
		return l
	}
	all := uint32(1<<n - 1)
	return []uint32{0, all, 1, 1 << (n - 1), all >> 1, all &^ 1, 0x55555555 & all, 0xaaaaaaaa & all, 0x00ff00f0 & all}
}

var sizes = []int{1, 2, 3, 4, 5, 8, 31, 32}

func TestNew(t *testing.T) {
	for n := 1; n <= api.MaxDomain; n++ {
		s, e := dom.New(n)
		if e != api.OK || s.Size() != n || s.Len() != n || s.First() != 0 || s.Last() != n-1 {
			t.Errorf("New(%d): size %d, %d of them, from %d to %d, error %d", n, s.Size(), s.Len(), s.First(), s.Last(), e)
		}
		if !slices.Equal(slices.Collect(s.Values()), model{slices.Repeat([]bool{true}, n)}.values()) {
			t.Errorf("New(%d): %v", n, slices.Collect(s.Values()))
		}
	}
	for _, n := range []int{0, 33, 34, 64, -1, -32, 1 << 32, 1<<32 + 4, math.MaxInt, math.MinInt} {
		if s, e := dom.New(n); e != api.ErrArg || s != (dom.Set{}) {
			t.Errorf("New(%d): size %d, error %d", n, s.Size(), e)
		}
	}
}

func TestZeroSet(t *testing.T) {
	var z dom.Set
	if z.Size() != 0 || z.Len() != 0 || z.First() != -1 || z.Last() != -1 {
		t.Errorf("size %d, %d of them, from %d to %d", z.Size(), z.Len(), z.First(), z.Last())
	}
	if l := slices.Collect(z.Values()); len(l) != 0 {
		t.Errorf("Values: %v", l)
	}
	for _, v := range asked(0) {
		if z.Has(v) || z.Next(v) != -1 || z.Put(v) != z || z.Drop(v) != z || z.Only(v) != z {
			t.Errorf("something is there at %d", v)
		}
	}
	if s, e := dom.Inter(z, z); e != api.OK || s != z {
		t.Errorf("Inter: size %d, error %d", s.Size(), e)
	}
}

func TestAsks(t *testing.T) {
	for _, n := range sizes {
		for _, mask := range masks(n) {
			s, m := of(t, n, mask)
			checkAsks(t, s, m)
		}
	}
}

func checkAsks(t *testing.T, s dom.Set, m model) {
	t.Helper()
	n, l := len(m.has), m.values()
	first, last := -1, -1
	if len(l) > 0 {
		first, last = l[0], l[len(l)-1]
	}
	if s.Size() != n || s.Len() != len(l) || s.First() != first || s.Last() != last {
		t.Errorf("%v of %d: size %d, %d of them, from %d to %d", l, n, s.Size(), s.Len(), s.First(), s.Last())
	}
	if got := slices.Collect(s.Values()); !slices.Equal(got, l) {
		t.Errorf("%v of %d: Values %v", l, n, got)
	}
	for _, v := range asked(n) {
		if s.Has(v) != slices.Contains(l, v) {
			t.Errorf("%v of %d: Has(%d) is %v", l, n, v, s.Has(v))
		}
		above := -1
		if i := slices.IndexFunc(l, func(w int) bool { return w > v }); i >= 0 {
			above = l[i]
		}
		if s.Next(v) != above {
			t.Errorf("%v of %d: Next(%d) is %d", l, n, v, s.Next(v))
		}
	}
}

func TestChanges(t *testing.T) {
	for _, n := range sizes {
		for _, mask := range masks(n) {
			s, m := of(t, n, mask)
			for _, v := range asked(n) {
				checkChanges(t, s, m, v)
			}
			checkAsks(t, s, m)
		}
	}
}

func checkChanges(t *testing.T, s dom.Set, m model, v int) {
	t.Helper()
	n := len(m.has)
	with, without, only := slices.Clone(m.has), slices.Clone(m.has), make([]bool, n)
	if v >= 0 && v < n {
		with[v], without[v], only[v] = true, false, m.has[v]
	}
	checkAsks(t, s.Put(v), model{with})
	checkAsks(t, s.Drop(v), model{without})
	checkAsks(t, s.Only(v), model{only})
	if outside := v < 0 || v >= n; outside && (s.Put(v) != s || s.Drop(v) != s) {
		t.Errorf("%v of %d: not as it was behind %d", m.values(), n, v)
	}
}

func TestValuesStopAndBeginAgain(t *testing.T) {
	s, _ := of(t, 8, 0b10110101)
	seq := s.Values()
	s = s.Drop(4)
	var some []int
	for v := range seq {
		some = append(some, v)
		if v == 4 {
			break
		}
	}
	if !slices.Equal(some, []int{0, 2, 4}) {
		t.Errorf("till 4: %v", some)
	}
	if l := slices.Collect(seq); !slices.Equal(l, []int{0, 2, 4, 5, 7}) {
		t.Errorf("all: %v", l)
	}
}

func TestEqual(t *testing.T) {
	var sets []dom.Set
	var models []model
	for n := 1; n <= 5; n++ {
		for _, mask := range masks(n) {
			s, m := of(t, n, mask)
			sets, models = append(sets, s), append(models, m)
		}
	}
	for i, a := range sets {
		for j, b := range sets {
			if alike := slices.Equal(models[i].has, models[j].has); (a == b) != alike {
				t.Errorf("%v: %v == %v is %v", alike, models[i].has, models[j].has, a == b)
			}
		}
	}
}

// TestEqualByOtherWays comes to the same values in several ways.
func TestEqualByOtherWays(t *testing.T) {
	for _, n := range sizes {
		all := full(t, n)
		empty := all.Only(-1)
		up := empty
		for v := range n {
			up = up.Put(v)
		}
		if up != all || empty == all || empty == (dom.Set{}) {
			t.Errorf("size %d: not as it should be", n)
		}
		if all.Only(0) != empty.Put(0) || all.Drop(n-1).Put(n-1) != all || all.Put(n) != all || empty.Only(0) != empty {
			t.Errorf("size %d: the same values aren't equal", n)
		}
	}
}

func TestInter(t *testing.T) {
	for _, n := range sizes {
		for _, p := range masks(n) {
			for _, q := range masks(n) {
				a, _ := of(t, n, p)
				b, _ := of(t, n, q)
				both, m := of(t, n, p&q)
				got, e := dom.Inter(a, b)
				if e != api.OK || got != both {
					t.Errorf("Inter of %b and %b of %d: %v, error %d", p, q, n, slices.Collect(got.Values()), e)
				}
				checkAsks(t, got, m)
			}
		}
	}
}

func TestInterOfTwoSizes(t *testing.T) {
	for _, n := range append([]int{0}, sizes...) {
		for _, o := range append([]int{0}, sizes...) {
			if n == o {
				continue
			}
			var a, b dom.Set
			if n > 0 {
				a = full(t, n)
			}
			if o > 0 {
				b = full(t, o).Only(-1)
			}
			if s, e := dom.Inter(a, b); e != api.ErrArg || s != (dom.Set{}) {
				t.Errorf("sizes %d and %d: size %d, error %d", n, o, s.Size(), e)
			}
		}
	}
}

func TestExample(t *testing.T) {
	s := full(t, 4).Drop(1)
	if l := slices.Collect(s.Values()); !slices.Equal(l, []int{0, 2, 3}) || s.Next(0) != 2 {
		t.Errorf("%v, Next(0) is %d", l, s.Next(0))
	}
}
