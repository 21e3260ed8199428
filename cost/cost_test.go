package cost_test

import (
	"math"
	"slices"
	"testing"

	"pennyweight/api"
	"pennyweight/cost"
)

const top = int64(api.MaxCost)

var wrongTops = []int64{0, -1, math.MinInt64, top + 1, 2 * top, math.MaxInt64}

type call struct {
	name string
	do   func(a, b, k int64) (int64, api.Errno)
}

func calls() []call {
	return []call{{"Add", cost.Add}, {"Sub", cost.Sub}, {"Gap", cost.Gap}}
}

type listCall struct {
	name string
	do   func(l []int64, k int64) (int64, api.Errno)
}

func listCalls() []listCall {
	return []listCall{{"Sum", cost.Sum}, {"Least", cost.Least}}
}

func wrongCosts(k int64) []int64 {
	return []int64{-1, math.MinInt64, k + 1, math.MaxInt64}
}

func TestRight(t *testing.T) {
	for _, k := range []int64{1, 2, 9, top - 1, top} {
		if !cost.Right(k) {
			t.Errorf("Right(%d) is false", k)
		}
	}
	for _, k := range wrongTops {
		if cost.Right(k) {
			t.Errorf("Right(%d) is true", k)
		}
	}
}

func TestIn(t *testing.T) {
	for _, k := range []int64{1, 2, 9, top} {
		for _, a := range []int64{0, 1, k - 1, k} {
			if !cost.In(a, k) {
				t.Errorf("In(%d, %d) is false", a, k)
			}
		}
		for _, a := range wrongCosts(k) {
			if cost.In(a, k) {
				t.Errorf("In(%d, %d) is true", a, k)
			}
		}
	}
	for _, k := range wrongTops {
		for _, a := range []int64{0, 1, -1, k, k - 1, k / 2} {
			if cost.In(a, k) {
				t.Errorf("In(%d, %d) is true", a, k)
			}
		}
	}
}

func TestPairs(t *testing.T) {
	for _, x := range []struct {
		a, b, k, add, sub int64
		over              api.Errno
		gap               int64
	}{
		{5, 7, 10, 10, 0, api.ErrOver, 2},
		{7, 5, 10, 10, 2, api.OK, 0},
		{3, 4, 10, 7, 0, api.ErrOver, 1},
		{4, 6, 10, 10, 0, api.ErrOver, 2},
		{4, 5, 10, 9, 0, api.ErrOver, 1},
		{6, 6, 10, 10, 0, api.OK, 0},
		{0, 0, 10, 0, 0, api.OK, 0},
		{8, 0, 10, 8, 8, api.OK, 0},
		{0, 8, 10, 8, 0, api.ErrOver, 8},
		{9, 9, 10, 10, 0, api.OK, 0},
		{10, 0, 10, 10, 10, api.OK, 0},
		{10, 7, 10, 10, 10, api.OK, 0},
		{10, 10, 10, 10, 10, api.OK, 0},
		{3, 10, 10, 10, 0, api.ErrOver, 7},
		{0, 10, 10, 10, 0, api.ErrOver, 10},
		{0, 0, 1, 0, 0, api.OK, 0},
		{0, 1, 1, 1, 0, api.ErrOver, 1},
		{1, 0, 1, 1, 1, api.OK, 0},
		{1, 1, 1, 1, 1, api.OK, 0},
		{top, top, top, top, top, api.OK, 0},
		{top, 1, top, top, top, api.OK, 0},
		{top - 1, 1, top, top, top - 2, api.OK, 0},
		{top - 1, top - 1, top, top, 0, api.OK, 0},
		{top / 2, top/2 - 1, top, top - 1, 1, api.OK, 0},
		{0, top, top, top, 0, api.ErrOver, top},
	} {
		if c, e := cost.Add(x.a, x.b, x.k); c != x.add || e != api.OK {
			t.Errorf("Add(%d, %d, %d) = %d, %d", x.a, x.b, x.k, c, e)
		}
		if c, e := cost.Sub(x.a, x.b, x.k); c != x.sub || e != x.over {
			t.Errorf("Sub(%d, %d, %d) = %d, %d", x.a, x.b, x.k, c, e)
		}
		if c, e := cost.Gap(x.a, x.b, x.k); c != x.gap || e != api.OK {
			t.Errorf("Gap(%d, %d, %d) = %d, %d", x.a, x.b, x.k, c, e)
		}
	}
}

// TestSmallTops goes through all costs of the small tops, and holds the calls
// against each other: what is lacking, added, is enough, and what is added
// can be taken away again, but from the top.
func TestSmallTops(t *testing.T) {
	for k := int64(1); k <= 7; k++ {
		for a := range k + 1 {
			for b := range k + 1 {
				checkPair(t, a, b, k)
			}
		}
	}
}

func checkPair(t *testing.T, a, b, k int64) {
	t.Helper()
	sum, e := cost.Add(a, b, k)
	if e != api.OK || sum > k || sum < k && sum != a+b || sum == k && a+b < k {
		t.Errorf("Add(%d, %d, %d) = %d, %d", a, b, k, sum, e)
	}
	back, e := cost.Sub(sum, b, k)
	if e != api.OK || sum < k && back != a || sum == k && back != k {
		t.Errorf("Sub(%d, %d, %d) = %d, %d", sum, b, k, back, e)
	}
	gap, e := cost.Gap(a, b, k)
	if enough := a+gap >= b && (gap == 0 || a+gap-1 < b); e != api.OK || gap < 0 || !enough {
		t.Errorf("Gap(%d, %d, %d) = %d, %d", a, b, k, gap, e)
	}
	if rest, e := cost.Sub(a, b, k); a < k && a < b && (rest != 0 || e != api.ErrOver) {
		t.Errorf("Sub(%d, %d, %d) = %d, %d", a, b, k, rest, e)
	}
}

func TestPairsWrong(t *testing.T) {
	for _, c := range calls() {
		for _, k := range []int64{1, 10, top} {
			for _, right := range []int64{0, k - 1, k} {
				for _, wrong := range wrongCosts(k) {
					refusePair(t, c, wrong, right, k)
					refusePair(t, c, right, wrong, k)
					refusePair(t, c, wrong, wrong, k)
				}
			}
		}
		for _, k := range wrongTops {
			refusePair(t, c, 0, 0, k)
			refusePair(t, c, 0, 1, k)
			refusePair(t, c, k, k, k)
		}
	}
}

func refusePair(t *testing.T, c call, a, b, k int64) {
	t.Helper()
	if got, e := c.do(a, b, k); got != 0 || e != api.ErrRange {
		t.Errorf("%s(%d, %d, %d) = %d, %d", c.name, a, b, k, got, e)
	}
}

func TestLists(t *testing.T) {
	for _, x := range []struct {
		l             []int64
		k, sum, least int64
	}{
		{nil, 10, 0, 10},
		{[]int64{}, 1, 0, 1},
		{nil, top, 0, top},
		{[]int64{0}, 10, 0, 0},
		{[]int64{10}, 10, 10, 10},
		{[]int64{4}, 10, 4, 4},
		{[]int64{3, 4}, 10, 7, 3},
		{[]int64{4, 3}, 10, 7, 3},
		{[]int64{3, 4, 3}, 10, 10, 3},
		{[]int64{3, 4, 5}, 10, 10, 3},
		{[]int64{3, 2, 5}, 11, 10, 2},
		{[]int64{10, 10, 10}, 10, 10, 10},
		{[]int64{10, 0, 1}, 10, 10, 0},
		{[]int64{9, 9, 1}, 10, 10, 1},
		{[]int64{1, 1, 1}, 1, 1, 1},
		{[]int64{0, 0}, 1, 0, 0},
		{[]int64{top, top, top}, top, top, top},
		{[]int64{top - 1, 1}, top, top, 1},
		{[]int64{top - 2, 1}, top, top - 1, 1},
	} {
		if c, e := cost.Sum(x.l, x.k); c != x.sum || e != api.OK {
			t.Errorf("Sum(%v, %d) = %d, %d", x.l, x.k, c, e)
		}
		if c, e := cost.Least(x.l, x.k); c != x.least || e != api.OK {
			t.Errorf("Least(%v, %d) = %d, %d", x.l, x.k, c, e)
		}
	}
}

// TestSumLong would wrap round, if the sum were not held at the top meanwhile.
func TestSumLong(t *testing.T) {
	l := slices.Repeat([]int64{top}, 1<<16)
	if c, e := cost.Sum(l, top); c != top || e != api.OK {
		t.Errorf("Sum = %d, %d", c, e)
	}
	ones := slices.Repeat([]int64{1}, 1000)
	if c, e := cost.Sum(ones, 1001); c != 1000 || e != api.OK {
		t.Errorf("Sum = %d, %d", c, e)
	}
}

func TestListsWrong(t *testing.T) {
	for _, c := range listCalls() {
		for _, k := range []int64{1, 10, top} {
			for _, wrong := range wrongCosts(k) {
				refuseList(t, c, []int64{wrong}, k)
				refuseList(t, c, []int64{wrong, 0, k}, k)
				refuseList(t, c, []int64{0, k, wrong}, k)
				refuseList(t, c, []int64{k, k, wrong, 0}, k)
			}
		}
		for _, k := range wrongTops {
			refuseList(t, c, nil, k)
			refuseList(t, c, []int64{}, k)
			refuseList(t, c, []int64{0}, k)
			refuseList(t, c, []int64{k}, k)
		}
	}
}

func refuseList(t *testing.T, c listCall, l []int64, k int64) {
	t.Helper()
	if got, e := c.do(l, k); got != 0 || e != api.ErrRange {
		t.Errorf("%s(%v, %d) = %d, %d", c.name, l, k, got, e)
	}
}

func TestListsLeftAsTheyAre(t *testing.T) {
	whole := []int64{5, 1, 3, 7, 8}
	for _, c := range listCalls() {
		l := slices.Clone(whole)
		first, _ := c.do(l[:3], 10)
		again, _ := c.do(l[:3], 10)
		if !slices.Equal(l, whole) || first != again {
			t.Errorf("%s: %v, %d, %d", c.name, l, first, again)
		}
	}
}
