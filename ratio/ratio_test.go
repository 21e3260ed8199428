package ratio_test

import (
	"math"
	"math/big"
	"math/rand"
	"slices"
	"testing"

	"pennyweight/api"
	"pennyweight/ratio"
)

const (
	least    = math.SmallestNonzeroFloat64
	greatest = math.MaxFloat64
)

var (
	inf   = math.Inf(1)
	nan   = math.NaN()
	minus = math.Copysign(0, -1) // the nought below 0
	other = math.Float64frombits(0xfff0000000000001)
)

// same is to the last bit; all NaNs count as one.
func same(a, b float64) bool {
	return math.Float64bits(a) == math.Float64bits(b) || math.IsNaN(a) && math.IsNaN(b)
}

func sameList(a, b []float64) bool { return slices.EqualFunc(a, b, same) }

// weigh holds each weight, and the numbers that there are not, against these.
func weigh(t *testing.T, w *ratio.Weights, want ...float64) {
	t.Helper()
	if w.Len() != len(want) {
		t.Fatalf("%d weights, not %d", w.Len(), len(want))
	}
	for j, x := range want {
		if a := w.Of(j); !same(a, x) {
			t.Fatalf("Of(%d) = %v, not %v of %v", j, a, x, want)
		}
	}
	for _, j := range []int{-1, -2, math.MinInt, len(want), len(want) + 1, math.MaxInt} {
		if a := w.Of(j); !same(a, 0) {
			t.Fatalf("Of(%d) = %v of %d", j, a, len(want))
		}
	}
}

func bump(t *testing.T, w *ratio.Weights, j int, by float64) {
	t.Helper()
	if e := w.Bump(j, by); e != api.OK {
		t.Fatalf("Bump(%d, %v): error %d", j, by, e)
	}
}

// with are weights of these numbers (a nought as 0, not as -0).
func with(t *testing.T, want ...float64) *ratio.Weights {
	t.Helper()
	w := ratio.New(len(want))
	w.Decay(0)
	for j, x := range want {
		bump(t, w, j, x)
	}
	weigh(t, w, want...)
	return w
}

func sums(t *testing.T, w *ratio.Weights, want float64, l ...int) {
	t.Helper()
	if s := w.Sum(l); !same(s, want) {
		t.Errorf("Sum(%v) = %v, not %v", l, s, want)
	}
}

func TestRatio(t *testing.T) {
	for _, x := range []struct {
		size   int
		weight float64
		want   float64
	}{
		{3, 2, 1.5},
		{1, 3, 0x1.5555555555555p-2},
		{2, 3, 0x1.5555555555555p-1},
		{10, 0.1, 100},
		{7, 1, 7},
		{-3, 2, -1.5},
		{3, -2, -1.5},
		{-3, -2, 1.5},
		{0, 2, 0},
		{0, -2, minus},
		{3, 0, inf},
		{3, minus, -inf},
		{-3, 0, -inf},
		{-3, minus, inf},
		{0, 0, nan},
		{0, minus, nan},
		{3, inf, 0},
		{3, -inf, minus},
		{-3, inf, minus},
		{-3, -inf, 0},
		{0, inf, 0},
		{0, -inf, minus},
		{3, nan, nan},
		{0, nan, nan},
		{-3, nan, nan},
		{math.MaxInt, nan, nan},
		{1, least, inf},
		{-1, least, -inf},
		{0, least, 0},
		{1, greatest, 0x1p-1024},
		{3, greatest, 0x1.8p-1023},
		{0, greatest, 0},
		{-1, greatest, -0x1p-1024},
		{1<<53 - 1, 1, 1<<53 - 1},
		{1 << 53, 1, 1 << 53},
		{1<<53 + 1, 1, 1 << 53},
		{1<<53 + 3, 1, 1<<53 + 4},
		{-(1<<53 + 1), 1, -1 << 53},
		{1<<53 + 1, 1<<53 + 2, 0x1.ffffffffffffep-1},
		{math.MaxInt, 1, 1 << 63},
		{math.MinInt, 1, -1 << 63},
		{math.MaxInt, inf, 0},
		{math.MinInt, 0, -inf},
	} {
		if r := ratio.Ratio(x.size, x.weight); !same(r, x.want) {
			t.Errorf("Ratio(%d, %v) = %v, not %v", x.size, x.weight, r, x.want)
		}
	}
}

// exact is size, as the nearest float64, divided by weight, told as the nearest
// float64, and worked out with no float64 between.
func exact(size int, weight float64) float64 {
	a, _ := new(big.Rat).SetInt64(int64(size)).Float64()
	q := new(big.Rat).Quo(new(big.Rat).SetFloat64(a), new(big.Rat).SetFloat64(weight))
	r, _ := q.Float64()
	if size == 0 && weight < 0 {
		return minus
	}
	return r
}

func TestRatioIsExact(t *testing.T) {
	r := rand.New(rand.NewSource(1))
	for range 20000 {
		size := int(r.Uint64()) >> r.Intn(64)
		weight := math.Float64frombits(r.Uint64())
		if r.Intn(2) == 0 {
			weight = float64(r.Intn(2000)-1000) / 8
		}
		if weight == 0 || math.IsNaN(weight) || math.IsInf(weight, 0) {
			continue
		}
		if a, want := ratio.Ratio(size, weight), exact(size, weight); !same(a, want) {
			t.Fatalf("Ratio(%d, %v) = %v, not %v", size, weight, a, want)
		}
	}
}

// Numbers in classes: all of one class are equal, and each class stands ahead of
// the next one.
func classes() [][]float64 {
	return [][]float64{
		{-inf}, {-greatest}, {-2}, {-1}, {-0x1p-1022}, {-least}, {0, minus}, {least}, {0x1p-1022},
		{math.Nextafter(1, 0)}, {1}, {math.Nextafter(1, 2)}, {2}, {greatest}, {inf}, {nan, other, -nan, math.Float64frombits(0x7ff0000000000001)},
	}
}

func TestCmp(t *testing.T) {
	l := classes()
	for i, as := range l {
		for j, bs := range l {
			want := min(max(i-j, -1), 1)
			for _, a := range as {
				for _, b := range bs {
					if c := ratio.Cmp(a, b); c != want {
						t.Errorf("Cmp(%v, %v) = %d, not %d", a, b, c, want)
					}
				}
			}
		}
	}
}

func TestFirst(t *testing.T) {
	for _, x := range []struct {
		l    []float64
		want int
	}{
		{nil, -1},
		{[]float64{}, -1},
		{[]float64{7}, 0},
		{[]float64{nan}, 0},
		{[]float64{inf}, 0},
		{[]float64{nan, 1, minus, 0}, 2},
		{[]float64{0, minus}, 0},
		{[]float64{minus, 0}, 0},
		{[]float64{1, 0, minus}, 1},
		{[]float64{1, minus, 0}, 1},
		{[]float64{nan, nan}, 0},
		{[]float64{other, nan, nan}, 0},
		{[]float64{nan, inf}, 1},
		{[]float64{inf, nan}, 0},
		{[]float64{nan, -inf, nan}, 1},
		{[]float64{inf, inf, nan}, 0},
		{[]float64{nan, inf, inf, nan}, 1},
		{[]float64{3, 1, 2, 1}, 1},
		{[]float64{1, 1, 1}, 0},
		{[]float64{3, 2, 1}, 2},
		{[]float64{1, 2, 3}, 0},
		{[]float64{0, -least}, 1},
		{[]float64{least, 0, -inf, -inf, nan}, 2},
		{[]float64{-1, -2, -greatest}, 2},
	} {
		was := slices.Clone(x.l)
		if f := ratio.First(x.l); f != x.want {
			t.Errorf("First(%v) = %d, not %d", x.l, f, x.want)
		}
		if !sameList(was, x.l) {
			t.Errorf("First changes %v to %v", was, x.l)
		}
	}
}

// The first one that none is ahead of is looked for as the words tell it.
func TestFirstOfRandomLists(t *testing.T) {
	r := rand.New(rand.NewSource(2))
	all := slices.Concat(classes()...)
	for range 5000 {
		l := make([]float64, 1+r.Intn(6))
		for i := range l {
			l[i] = all[r.Intn(len(all))]
		}
		want := slices.IndexFunc(l, func(a float64) bool {
			return !slices.ContainsFunc(l, func(b float64) bool { return ratio.Cmp(b, a) < 0 })
		})
		if f := ratio.First(l); f != want {
			t.Fatalf("First(%v) = %d, not %d", l, f, want)
		}
	}
}

func TestNew(t *testing.T) {
	for _, n := range []int{0, -1, -9, math.MinInt} {
		w := ratio.New(n)
		if w == nil {
			t.Fatalf("New(%d) is nil", n)
		}
		weigh(t, w)
		if e := w.Bump(0, 1); e != api.ErrRange {
			t.Errorf("Bump of one of none: error %d", e)
		}
		w.Decay(2)
		sums(t, w, 0, 0, 1, -1)
		weigh(t, w)
		w.Grow(2)
		weigh(t, w, 1, 1)
	}
	weigh(t, ratio.New(1), 1)
	weigh(t, ratio.New(3), 1, 1, 1)
}

func TestBump(t *testing.T) {
	w := ratio.New(3)
	bump(t, w, 2, 2.5)
	weigh(t, w, 1, 1, 3.5)
	bump(t, w, 2, 0.5)
	weigh(t, w, 1, 1, 4)
	bump(t, w, 0, -3)
	weigh(t, w, -2, 1, 4)
	bump(t, w, 1, 0)
	bump(t, w, 0, minus)
	weigh(t, w, -2, 1, 4)
	bump(t, w, 1, 0x1p-53)
	weigh(t, w, -2, 1, 4)
	bump(t, w, 1, 0x1p-52)
	weigh(t, w, -2, math.Nextafter(1, 2), 4)
	bump(t, w, 0, 2)
	weigh(t, w, 0, math.Nextafter(1, 2), 4)
	bump(t, w, 0, minus)
	weigh(t, w, 0, math.Nextafter(1, 2), 4)
	bump(t, w, 0, least)
	weigh(t, w, least, math.Nextafter(1, 2), 4)
}

func TestBumpOfTheFarthest(t *testing.T) {
	w := with(t, greatest, greatest, 1, 1, 1)
	bump(t, w, 0, greatest)
	bump(t, w, 1, -greatest)
	bump(t, w, 2, -inf)
	bump(t, w, 3, inf)
	weigh(t, w, inf, 0, -inf, inf, 1)
	bump(t, w, 0, -inf)
	bump(t, w, 2, inf)
	bump(t, w, 3, inf)
	weigh(t, w, nan, 0, nan, inf, 1)
	bump(t, w, 0, 5)
	bump(t, w, 3, -greatest)
	weigh(t, w, nan, 0, nan, inf, 1)
}

func TestWrongBumps(t *testing.T) {
	w := with(t, 2, 3)
	for _, j := range []int{-1, -2, math.MinInt, 2, 3, math.MaxInt} {
		for _, by := range []float64{1, 0, -1, inf, -inf} {
			if e := w.Bump(j, by); e != api.ErrRange {
				t.Errorf("Bump(%d, %v): error %d", j, by, e)
			}
		}
		if e := w.Bump(j, nan); e != api.ErrArg {
			t.Errorf("Bump(%d, NaN): error %d", j, e)
		}
	}
	for j := range 2 {
		for _, by := range []float64{nan, other} {
			if e := w.Bump(j, by); e != api.ErrArg {
				t.Errorf("Bump(%d, NaN): error %d", j, e)
			}
		}
	}
	weigh(t, w, 2, 3)
	w.Grow(6)
	weigh(t, w, 2, 3, 1, 1, 1, 1)
}

func TestDecay(t *testing.T) {
	for _, x := range []struct{ by, one, six, below float64 }{
		{0.5, 0.5, 3, -1},
		{1, 1, 6, -2},
		{3, 3, 18, -6},
		{0, 0, 0, minus},
		{minus, minus, minus, 0},
		{-0.5, -0.5, -3, 1},
		{-1, -1, -6, 2},
		{inf, inf, inf, -inf},
		{-inf, -inf, -inf, inf},
		{nan, nan, nan, nan},
		{greatest, greatest, inf, -inf},
		{least, least, 6 * least, -2 * least},
		{0.1, 0.1, 0x1.3333333333334p-1, -0.2},
	} {
		w := ratio.New(4)
		bump(t, w, 1, 5)
		bump(t, w, 3, -3)
		w.Decay(x.by)
		weigh(t, w, x.one, x.six, x.one, x.below)
		bump(t, w, 2, 1)
		weigh(t, w, x.one, x.six, x.one+1, x.below)
	}
}

func TestDecayMoreThanOnce(t *testing.T) {
	w := ratio.New(2)
	bump(t, w, 1, 2)
	w.Decay(least)
	weigh(t, w, least, 3*least)
	w.Decay(0.5)
	weigh(t, w, 0, 2*least)
	w.Decay(inf)
	weigh(t, w, nan, inf)
	w.Decay(0)
	weigh(t, w, nan, nan)
	bump(t, w, 0, 1)
	weigh(t, w, nan, nan)
}

// A product is rounded ahead of the sum that follows.
func TestDecayAndBumpAreRoundedEach(t *testing.T) {
	w := ratio.New(2)
	bump(t, w, 0, 0x1p-30)
	w.Decay(1 + 0x1p-30)
	weigh(t, w, 1+0x1p-29, 1+0x1p-30)
	bump(t, w, 0, -(1 + 0x1p-29))
	weigh(t, w, 0, 1+0x1p-30)
}

func TestSum(t *testing.T) {
	w := ratio.New(2)
	sums(t, w, 0)
	sums(t, w, 2, 0, 1)
	bump(t, w, 1, 2.5)
	sums(t, w, 1, 0)
	sums(t, w, 3.5, 1)
	sums(t, w, 4.5, 0, 1)
	sums(t, w, 8, 0, 1, 1, 7)
	sums(t, w, 14, 1, 1, 1, 1)
	sums(t, w, 0, -1, 2, math.MaxInt, math.MinInt)
	sums(t, w, 1, -1, 0, 2)
	if s := w.Sum(nil); !same(s, 0) {
		t.Errorf("Sum of none: %v", s)
	}
	weigh(t, w, 1, 3.5)
}

func TestSumIsInTheOrderOfTheList(t *testing.T) {
	w := with(t, 0.1, 0.2, 0.3)
	sums(t, w, 0x1.3333333333334p-1, 0, 1, 2)
	sums(t, w, 0x1.3333333333333p-1, 2, 1, 0)
	w = with(t, 1, 0x1p-53, greatest, -greatest, inf, -inf)
	sums(t, w, 1, 0, 1, 1)
	sums(t, w, math.Nextafter(1, 2), 1, 1, 0)
	sums(t, w, inf, 2, 2, 3)
	sums(t, w, greatest, 2, 3, 2)
	sums(t, w, 0, 0, 2, 3)
	sums(t, w, inf, 4, 3, 3)
	sums(t, w, nan, 4, 5, 0)
	sums(t, w, -inf, 0, 5)
}

// It begins with 0, which -0 leaves as it is.
func TestSumOfNoughts(t *testing.T) {
	w := ratio.New(2)
	w.Decay(minus)
	weigh(t, w, minus, minus)
	sums(t, w, 0, 0)
	sums(t, w, 0, 0, 1, 0)
}

func TestSumOfNaN(t *testing.T) {
	w := with(t, 1, inf, 3)
	bump(t, w, 1, -inf)
	weigh(t, w, 1, nan, 3)
	sums(t, w, nan, 0, 1, 2)
	sums(t, w, nan, 1, 9)
	sums(t, w, 4, 0, 2)
}

func TestSumLeavesItsList(t *testing.T) {
	w := with(t, 1, 2, 3)
	l := []int{2, 0, 9, -1, 0, 77, 88}
	sums(t, w, 5, l[:5]...)
	if !slices.Equal(l, []int{2, 0, 9, -1, 0, 77, 88}) {
		t.Errorf("the list has become %v", l)
	}
}

func TestGrow(t *testing.T) {
	w := ratio.New(2)
	bump(t, w, 0, 4)
	w.Decay(0.5)
	for _, n := range []int{2, 1, 0, -1, math.MinInt} {
		w.Grow(n)
		weigh(t, w, 2.5, 0.5)
	}
	w.Grow(3)
	weigh(t, w, 2.5, 0.5, 1)
	w.Decay(0.5)
	weigh(t, w, 1.25, 0.25, 0.5)
	w.Grow(3)
	w.Grow(5)
	weigh(t, w, 1.25, 0.25, 0.5, 1, 1)
	bump(t, w, 4, 1)
	bump(t, w, 2, 1)
	w.Grow(6)
	weigh(t, w, 1.25, 0.25, 1.5, 1, 2, 1)
	w.Decay(3)
	weigh(t, w, 3.75, 0.75, 4.5, 3, 6, 3)
	sums(t, w, 13.5, 2, 3, 4)
	w.Grow(4)
	if e := w.Bump(6, 1); e != api.ErrRange {
		t.Errorf("error %d", e)
	}
	weigh(t, w, 3.75, 0.75, 4.5, 3, 6, 3)
}

func TestNilWeights(t *testing.T) {
	var w *ratio.Weights
	for _, j := range []int{0, 1, -1, math.MaxInt, math.MinInt} {
		for _, by := range []float64{1, 0, nan, inf} {
			if e := w.Bump(j, by); e != api.ErrNone {
				t.Errorf("Bump(%d, %v): error %d", j, by, e)
			}
		}
		w.Decay(float64(j))
		w.Grow(j)
		sums(t, w, 0, j, 0, j)
	}
	w.Decay(nan)
	sums(t, w, 0)
	weigh(t, w)
}

func TestWeightsAreTheirOwn(t *testing.T) {
	w, v := ratio.New(2), ratio.New(2)
	bump(t, w, 0, 1)
	w.Decay(4)
	bump(t, v, 1, 2)
	w.Grow(3)
	weigh(t, v, 1, 3)
	weigh(t, w, 8, 4, 1)
}

func TestAnyManyFunctions(t *testing.T) {
	for _, n := range []int{1 << 31, 1 << 40, math.MaxInt} {
		w := ratio.New(7)
		w.Decay(0.5)
		w.Grow(n)
		bump(t, w, n-1, 3)
		bump(t, w, n/2, -1)
		bump(t, w, 0, 1)
		w.Decay(2)
		w.Grow(n - 1)
		for j, want := range map[int]float64{-1: 0, 0: 3, 1: 1, 6: 1, 7: 2, n/2 - 1: 2, n / 2: 0, n/2 + 1: 2, n - 2: 2, n - 1: 8} {
			if a := w.Of(j); !same(a, want) {
				t.Errorf("Of(%d) of %d: %v, not %v", j, n, a, want)
			}
		}
		sums(t, w, 13, 0, 7, n-1, n/2)
		if w.Len() != n || n < math.MaxInt && (w.Bump(n, 1) != api.ErrRange || w.Of(n) != 0) {
			t.Errorf("%d, not %d", w.Len(), n)
		}
		if w = ratio.New(n); w.Len() != n || w.Of(n-1) != 1 || w.Of(n) != 0 {
			t.Errorf("New(%d): %d", n, w.Len())
		}
	}
}

// Many that are bumped, in either order, are soon done.
func TestManyBumps(t *testing.T) {
	const n = 200000
	w := ratio.New(n)
	for j := range n {
		bump(t, w, n-1-j, float64(j))
	}
	for j := range n {
		bump(t, w, j, 1)
	}
	for j := range n {
		if a := w.Of(j); a != float64(n+1-j) {
			t.Fatalf("Of(%d) = %v", j, a)
		}
	}
}

// plain is weights as a list.
type plain []float64

func (p *plain) grow(n int) {
	for len(*p) < n {
		*p = append(*p, 1)
	}
}

func (p plain) bump(j int, by float64) api.Errno {
	if math.IsNaN(by) {
		return api.ErrArg
	}
	if j < 0 || j >= len(p) {
		return api.ErrRange
	}
	p[j] += by
	return api.OK
}

func (p plain) sum(l []int) float64 {
	s := 0.0
	for _, j := range l {
		if 0 <= j && j < len(p) {
			s += p[j]
		}
	}
	return s
}

// number is one of the edges but seldom: behind an infinity or a NaN a weight is
// hardly ever a plain number again.
func number(r *rand.Rand) float64 {
	switch k := r.Intn(200); {
	case k < 150:
		return r.Float64() * 2
	case k < 170:
		return float64(r.Intn(9) - 4)
	case k < 195:
		return r.NormFloat64()
	case k < 198:
		return math.Float64frombits(r.Uint64())
	default:
		edges := slices.Concat(classes()...)
		return edges[r.Intn(len(edges))]
	}
}

func step(t *testing.T, r *rand.Rand, w *ratio.Weights, p *plain) {
	t.Helper()
	switch r.Intn(4) {
	case 0, 1:
		j, by := r.Intn(len(*p)+3)-1, number(r)
		if e, want := w.Bump(j, by), p.bump(j, by); e != want {
			t.Fatalf("Bump(%d, %v): error %d, not %d", j, by, e, want)
		}
	case 2:
		by := number(r)
		w.Decay(by)
		for j := range *p {
			(*p)[j] *= by
		}
	case 3:
		n := len(*p) + r.Intn(5) - 3
		w.Grow(n)
		p.grow(n)
	}
	l := make([]int, r.Intn(8))
	for i := range l {
		l[i] = r.Intn(len(*p)+3) - 1
	}
	if s, want := w.Sum(l), p.sum(l); !same(s, want) {
		t.Fatalf("Sum(%v) = %v, not %v", l, s, want)
	}
	weigh(t, w, *p...)
}

func TestRandom(t *testing.T) {
	r := rand.New(rand.NewSource(3))
	for range 1500 {
		n := r.Intn(6) - 1
		w, p := ratio.New(n), &plain{}
		p.grow(n)
		for range 60 {
			step(t, r, w, p)
		}
	}
}
