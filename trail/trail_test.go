package trail_test

import (
	"math"
	"math/rand"
	"slices"
	"testing"

	"pennyweight/api"
	"pennyweight/trail"
)

// with are cells with these numbers, and no mark.
func with(t *testing.T, numbers ...int64) *trail.Trail {
	t.Helper()
	x := trail.New(len(numbers))
	for i, v := range numbers {
		set(t, x, i, v)
	}
	return x
}

func set(t *testing.T, x *trail.Trail, i int, v int64) {
	t.Helper()
	if e := x.Set(i, v); e != api.OK || x.Get(i) != v {
		t.Fatalf("Set(%d, %d): error %d, then it is %d", i, v, e, x.Get(i))
	}
}

func mark(t *testing.T, x *trail.Trail) {
	t.Helper()
	d := x.Depth()
	if m := x.Mark(); m != d || x.Depth() != d+1 {
		t.Fatalf("Mark with %d open: %d, then %d are", d, m, x.Depth())
	}
}

func undo(t *testing.T, x *trail.Trail, m int) {
	t.Helper()
	if e := x.Undo(m); e != api.OK || x.Depth() != m {
		t.Fatalf("Undo(%d): error %d, then %d are open", m, e, x.Depth())
	}
}

func forget(t *testing.T, x *trail.Trail, m int) {
	t.Helper()
	before := x.Cells()
	if e := x.Forget(m); e != api.OK || x.Depth() != m {
		t.Fatalf("Forget(%d): error %d, then %d are open", m, e, x.Depth())
	}
	cells(t, x, before...)
}

func cells(t *testing.T, x *trail.Trail, want ...int64) {
	t.Helper()
	if l := x.Cells(); !slices.Equal(l, want) || x.Len() != len(want) {
		t.Fatalf("the %d cells %v, not %v", x.Len(), l, want)
	}
	for i, v := range want {
		if x.Get(i) != v {
			t.Fatalf("Get(%d) = %d, not %d", i, x.Get(i), v)
		}
	}
}

func weight(t *testing.T, x *trail.Trail, want int) {
	t.Helper()
	if w := x.Weight(); w != want {
		t.Fatalf("Weight() = %d, not %d", w, want)
	}
}

func noSuchCell(t *testing.T, x *trail.Trail, numbers ...int) {
	t.Helper()
	before, w := x.Cells(), x.Weight()
	for _, i := range numbers {
		if v, e := x.Get(i), x.Set(i, 3); v != 0 || e != api.ErrRange {
			t.Errorf("there is no cell %d of %d: it is %d, error %d", i, x.Len(), v, e)
		}
	}
	cells(t, x, before...)
	weight(t, x, w)
}

func noSuchMark(t *testing.T, x *trail.Trail, numbers ...int) {
	t.Helper()
	before, d, w := x.Cells(), x.Depth(), x.Weight()
	for _, m := range numbers {
		if e := x.Undo(m); e != api.ErrNone {
			t.Errorf("Undo(%d) with %d open: error %d", m, d, e)
		}
		if e := x.Forget(m); e != api.ErrNone {
			t.Errorf("Forget(%d) with %d open: error %d", m, d, e)
		}
	}
	cells(t, x, before...)
	if x.Depth() != d {
		t.Errorf("%d are open, not %d", x.Depth(), d)
	}
	weight(t, x, w)
}

func TestExample(t *testing.T) {
	x := with(t, 5)
	mark(t, x)
	set(t, x, 0, 7)
	undo(t, x, 0)
	cells(t, x, 5)
}

func TestCells(t *testing.T) {
	x := trail.New(3)
	cells(t, x, 0, 0, 0)
	set(t, x, 2, 4)
	cells(t, x, 0, 0, 4)
	set(t, x, 0, math.MinInt64)
	set(t, x, 1, math.MaxInt64)
	cells(t, x, math.MinInt64, math.MaxInt64, 4)
	set(t, x, 1, -1)
	set(t, x, 2, 0)
	cells(t, x, math.MinInt64, -1, 0)
	noSuchCell(t, x, 3, 4, -1, -2, math.MaxInt, math.MinInt)
	if e := x.Set(-1, 0); e != api.ErrRange {
		t.Errorf("error %d", e)
	}
}

func TestNoCells(t *testing.T) {
	for _, n := range []int{0, -1, -7, math.MinInt} {
		x := trail.New(n)
		if x == nil {
			t.Fatalf("New(%d) is nil", n)
		}
		cells(t, x)
		noSuchCell(t, x, 0, 1, -1, n, n-1)
		noSuchMark(t, x, 0, -1)
		mark(t, x)
		noSuchCell(t, x, 0)
		if i := x.Grow(2); i != 0 {
			t.Errorf("Grow: %d", i)
		}
		set(t, x, 1, 6)
		cells(t, x, 0, 6)
		undo(t, x, 0)
		cells(t, x)
		noSuchCell(t, x, 0, 1)
	}
}

func TestGrow(t *testing.T) {
	for _, marked := range []bool{false, true} {
		x := with(t, 5, 6)
		if marked {
			mark(t, x)
		}
		for _, n := range []int{0, -1, -2, -3, math.MinInt} {
			if i := x.Grow(n); i != 2 {
				t.Errorf("Grow(%d): %d", n, i)
			}
			cells(t, x, 5, 6)
		}
		noSuchCell(t, x, 2)
		if i := x.Grow(3); i != 2 {
			t.Errorf("Grow(3): %d", i)
		}
		cells(t, x, 5, 6, 0, 0, 0)
		set(t, x, 4, 9)
		if i, j := x.Grow(1), x.Grow(1); i != 5 || j != 6 {
			t.Errorf("Grow(1): %d, %d", i, j)
		}
		cells(t, x, 5, 6, 0, 0, 9, 0, 0)
		noSuchCell(t, x, 7, -1)
		if i := x.Grow(0); i != 7 {
			t.Errorf("Grow(0): %d", i)
		}
		weight(t, x, 0)
	}
}

func TestWhatCellsTellsIsNewMemory(t *testing.T) {
	x := with(t, 5, 6, 0)
	mark(t, x)
	set(t, x, 0, 7)
	l, m := x.Cells(), x.Cells()
	clear(l)
	_ = append(l, 77)
	if !slices.Equal(m, []int64{7, 6, 0}) {
		t.Errorf("another answer has changed: %v", m)
	}
	cells(t, x, 7, 6, 0)
	set(t, x, 1, 8)
	x.Grow(1)
	if !slices.Equal(m, []int64{7, 6, 0}) {
		t.Errorf("an earlier answer has changed: %v", m)
	}
	cells(t, x, 7, 8, 0, 0)
	undo(t, x, 0)
	cells(t, x, 5, 6, 0)
}

func TestMarks(t *testing.T) {
	x := with(t, 1, 2)
	if x.Depth() != 0 {
		t.Errorf("%d are open", x.Depth())
	}
	for m := range 5 {
		mark(t, x)
		set(t, x, 0, int64(10+m))
	}
	noSuchMark(t, x, 5, 6, -1, math.MaxInt, math.MinInt)
	undo(t, x, 4)
	cells(t, x, 13, 2)
	noSuchMark(t, x, 4)
	undo(t, x, 2)
	cells(t, x, 11, 2)
	noSuchMark(t, x, 2, 3, 4)
	mark(t, x)
	set(t, x, 1, 20)
	forget(t, x, 2)
	noSuchMark(t, x, 2, 3)
	forget(t, x, 0)
	noSuchMark(t, x, 0, 1, -1)
	cells(t, x, 11, 20)
	mark(t, x)
	undo(t, x, 0)
	cells(t, x, 11, 20)
	noSuchMark(t, x, 0)
}

// Cell 0 was set ahead of the marks alone, cell 1 behind the first, cell 2
// between them and behind the second, more than once, cell 3 behind the second.
func marked(t *testing.T) *trail.Trail {
	x := with(t, 1, 2, 3, 4)
	set(t, x, 0, 5)
	mark(t, x)
	set(t, x, 1, 6)
	set(t, x, 2, 7)
	set(t, x, 2, 8)
	mark(t, x)
	set(t, x, 2, 9)
	set(t, x, 2, 10)
	set(t, x, 3, 11)
	set(t, x, 2, 12)
	cells(t, x, 5, 6, 12, 11)
	weight(t, x, 4)
	return x
}

func TestUndo(t *testing.T) {
	x := marked(t)
	undo(t, x, 1)
	cells(t, x, 5, 6, 8, 4)
	weight(t, x, 2)
	set(t, x, 3, 13)
	set(t, x, 1, 14)
	weight(t, x, 3)
	undo(t, x, 0)
	cells(t, x, 5, 2, 3, 4)
	weight(t, x, 0)
	x = marked(t)
	undo(t, x, 0)
	cells(t, x, 5, 2, 3, 4)
	weight(t, x, 0)
	set(t, x, 2, 15)
	cells(t, x, 5, 2, 15, 4)
	weight(t, x, 0)
}

func TestForget(t *testing.T) {
	x := marked(t)
	forget(t, x, 1)
	cells(t, x, 5, 6, 12, 11)
	weight(t, x, 3)
	for i := range 4 {
		set(t, x, i, 20)
	}
	weight(t, x, 4)
	undo(t, x, 0)
	cells(t, x, 5, 2, 3, 4)
	weight(t, x, 0)
	x = marked(t)
	forget(t, x, 0)
	cells(t, x, 5, 6, 12, 11)
	weight(t, x, 0)
	noSuchMark(t, x, 0, 1)
	mark(t, x)
	set(t, x, 3, 21)
	weight(t, x, 1)
	undo(t, x, 0)
	cells(t, x, 5, 6, 12, 11)
}

// What was forgotten with a mark, or with several, is undone to the one ahead.
func TestForgottenIsUndone(t *testing.T) {
	for forgotten := 1; forgotten < 4; forgotten++ {
		for undone := range forgotten {
			x := with(t, 0, 100, 200, 300)
			states := [][]int64{}
			for m := range 4 {
				states = append(states, x.Cells())
				mark(t, x)
				set(t, x, 0, int64(m+1))
				set(t, x, m, int64(m+50))
			}
			forget(t, x, forgotten)
			set(t, x, 2, 7)
			undo(t, x, undone)
			cells(t, x, states[undone]...)
			for m := range undone {
				undo(t, x, undone-1-m)
				cells(t, x, states[undone-1-m]...)
			}
			weight(t, x, 0)
		}
	}
}

// Of one mark that was forgotten behind the other, each counts as if none of
// them had been there, but for the first.
func TestForgottenAgainAndAgain(t *testing.T) {
	x := with(t, 1, 2, 3)
	mark(t, x)
	set(t, x, 0, 10)
	mark(t, x)
	for k := range int64(20) {
		mark(t, x)
		set(t, x, 0, 20+k)
		set(t, x, 1, 20+k)
		mark(t, x)
		set(t, x, 1, 50+k)
		forget(t, x, 3)
		forget(t, x, 2)
		weight(t, x, 3)
	}
	forget(t, x, 1)
	weight(t, x, 2)
	mark(t, x)
	set(t, x, 1, 99)
	weight(t, x, 3)
	undo(t, x, 1)
	cells(t, x, 39, 69, 3)
	undo(t, x, 0)
	cells(t, x, 1, 2, 3)
}

// A cell that was set behind a mark that was undone isn't kept twice, nor less
// than once, for the one ahead of it.
func TestSetAgainBehindAnUndo(t *testing.T) {
	x := with(t, 1, 2)
	mark(t, x)
	set(t, x, 0, 3)
	mark(t, x)
	set(t, x, 0, 4)
	set(t, x, 1, 5)
	undo(t, x, 1)
	weight(t, x, 1)
	set(t, x, 0, 6)
	weight(t, x, 1)
	set(t, x, 1, 7)
	weight(t, x, 2)
	mark(t, x)
	set(t, x, 0, 8)
	weight(t, x, 3)
	undo(t, x, 1)
	cells(t, x, 6, 7)
	undo(t, x, 0)
	cells(t, x, 1, 2)
}

func TestGrownUndone(t *testing.T) {
	x := with(t, 1)
	mark(t, x)
	x.Grow(2)
	set(t, x, 1, 5)
	set(t, x, 2, 6)
	set(t, x, 2, 7)
	weight(t, x, 0)
	mark(t, x)
	set(t, x, 2, 8)
	x.Grow(1)
	set(t, x, 3, 9)
	weight(t, x, 1)
	undo(t, x, 1)
	cells(t, x, 1, 5, 7)
	noSuchCell(t, x, 3)
	weight(t, x, 0)
	set(t, x, 2, 10)
	weight(t, x, 0)
	undo(t, x, 0)
	cells(t, x, 1)
	noSuchCell(t, x, 1, 2, 3)
	// They are 0, whatever those that were undone had been.
	if i := x.Grow(3); i != 1 {
		t.Errorf("Grow(3): %d", i)
	}
	cells(t, x, 1, 0, 0, 0)
	mark(t, x)
	set(t, x, 3, 11)
	weight(t, x, 1)
	undo(t, x, 0)
	cells(t, x, 1, 0, 0, 0)
}

func TestGrownUndoneAtOnce(t *testing.T) {
	x := with(t, 1)
	mark(t, x)
	x.Grow(1)
	mark(t, x)
	set(t, x, 1, 5)
	set(t, x, 0, 6)
	weight(t, x, 2)
	undo(t, x, 0)
	cells(t, x, 1)
	x.Grow(1)
	cells(t, x, 1, 0)
	weight(t, x, 0)
}

func TestGrownForgotten(t *testing.T) {
	x := with(t, 1)
	mark(t, x)
	x.Grow(1)
	mark(t, x)
	set(t, x, 1, 5)
	x.Grow(1)
	set(t, x, 2, 6)
	mark(t, x)
	set(t, x, 0, 7)
	set(t, x, 1, 8)
	set(t, x, 2, 9)
	weight(t, x, 4)
	forget(t, x, 2)
	weight(t, x, 2)
	forget(t, x, 1)
	cells(t, x, 7, 8, 9)
	weight(t, x, 1)
	// Of a mark that is set now they count, as they are there already.
	mark(t, x)
	set(t, x, 1, 10)
	set(t, x, 2, 11)
	weight(t, x, 3)
	undo(t, x, 1)
	cells(t, x, 7, 8, 9)
	set(t, x, 2, 12)
	weight(t, x, 1)
	undo(t, x, 0)
	cells(t, x, 1)
	noSuchCell(t, x, 1, 2)
}

func TestGrownForgottenWithTheFirstMark(t *testing.T) {
	x := with(t, 1)
	mark(t, x)
	x.Grow(1)
	set(t, x, 1, 5)
	mark(t, x)
	set(t, x, 1, 6)
	forget(t, x, 0)
	cells(t, x, 1, 6)
	weight(t, x, 0)
	mark(t, x)
	set(t, x, 1, 7)
	weight(t, x, 1)
	undo(t, x, 0)
	cells(t, x, 1, 6)
}

func TestWeight(t *testing.T) {
	x := trail.New(3)
	weight(t, x, 0)
	set(t, x, 0, 1)
	x.Grow(1)
	weight(t, x, 0)
	mark(t, x)
	weight(t, x, 0)
	x.Set(4, 5)
	x.Get(0)
	weight(t, x, 0)
	for v := range int64(5) {
		set(t, x, 0, 2+v)
		weight(t, x, 1)
	}
	set(t, x, 3, 1)
	weight(t, x, 2)
	mark(t, x)
	weight(t, x, 2)
	set(t, x, 3, 2)
	set(t, x, 1, 3)
	set(t, x, 3, 4)
	weight(t, x, 4)
	x.Undo(2)
	x.Forget(2)
	x.Cells()
	weight(t, x, 4)
	forget(t, x, 1)
	weight(t, x, 3)
	undo(t, x, 0)
	weight(t, x, 0)
}

// A number that is set to what it was already may be kept, or not; it is not
// kept more than once.
func TestWeightOfTheSameNumber(t *testing.T) {
	x := with(t, 4, 4)
	mark(t, x)
	for range 3 {
		set(t, x, 0, 4)
		set(t, x, 1, 5)
		set(t, x, 1, 4)
	}
	if w := x.Weight(); w > 2 {
		t.Errorf("%d", w)
	}
	mark(t, x)
	set(t, x, 0, 6)
	undo(t, x, 1)
	cells(t, x, 4, 4)
	set(t, x, 0, 7)
	undo(t, x, 0)
	cells(t, x, 4, 4)
}

func TestNilTrail(t *testing.T) {
	var x *trail.Trail
	for range 2 {
		for _, i := range []int{0, 1, -1, math.MaxInt, math.MinInt} {
			if v, e := x.Get(i), x.Set(i, 5); v != 0 || e != api.ErrNone {
				t.Errorf("the cell %d: %d, error %d", i, v, e)
			}
			if n := x.Grow(i); n != 0 {
				t.Errorf("Grow(%d): %d", i, n)
			}
			if e, f := x.Undo(i), x.Forget(i); e != api.ErrNone || f != api.ErrNone {
				t.Errorf("the mark %d: errors %d, %d", i, e, f)
			}
		}
		if x.Len() != 0 || x.Depth() != 0 || x.Weight() != 0 || len(x.Cells()) != 0 || x.Mark() != 0 {
			t.Errorf("%d, %d, %d, %v", x.Len(), x.Depth(), x.Weight(), x.Cells())
		}
	}
}

func TestTrailsAreTheirOwn(t *testing.T) {
	x, y := with(t, 1, 2), with(t, 1, 2)
	mark(t, x)
	set(t, x, 0, 3)
	x.Grow(1)
	cells(t, y, 1, 2)
	noSuchMark(t, y, 0)
	weight(t, y, 0)
	undo(t, x, 0)
	cells(t, y, 1, 2)
}

func TestAnyManyCells(t *testing.T) {
	for _, n := range []int{1 << 31, 1 << 40, math.MaxInt - 1, math.MaxInt} {
		x := trail.New(n)
		if x.Len() != n || x.Get(n-1) != 0 || x.Get(n) != 0 || x.Set(n, 1) != api.ErrRange {
			t.Fatalf("New(%d) has %d cells", n, x.Len())
		}
		set(t, x, n-1, 4)
		mark(t, x)
		set(t, x, n-1, 5)
		set(t, x, 0, 6)
		if i := x.Grow(math.MaxInt); i != n || x.Len() < n {
			t.Errorf("Grow behind %d cells: %d, then %d", n, i, x.Len())
		}
		x.Cells()
		weight(t, x, 2)
		undo(t, x, 0)
		if x.Len() != n || x.Get(n-1) != 4 || x.Get(0) != 0 || x.Get(1) != 0 {
			t.Errorf("undone: %d cells, %d, %d", x.Len(), x.Get(n-1), x.Get(0))
		}
	}
}

// past is what a mark has to bring back, and which of its cells were set since,
// up to the next mark.
type past struct {
	cells []int64
	set   map[int]bool
}

// plain is a trail that copies all of its cells at each mark. Those ahead of
// base are as they were made.
type plain struct {
	base  int
	cells []int64
	marks []past
}

func (p *plain) set(i int, v int64) {
	p.cells[i] = v
	if d := len(p.marks); d > 0 && i < len(p.marks[d-1].cells) {
		p.marks[d-1].set[i] = true
	}
}

func (p *plain) forget(m int) {
	behind := p.marks[m:]
	p.marks = p.marks[:m]
	for _, b := range behind {
		for i := range b.set {
			p.set(i, p.cells[i])
		}
	}
}

// weights are the least and the most that may be kept: what differs from mark
// to mark, and what was set.
func (p *plain) weights() (int, int) {
	least, most := 0, 0
	for m, from := range p.marks {
		to := p.cells
		if m+1 < len(p.marks) {
			to = p.marks[m+1].cells
		}
		for i, v := range from.cells {
			if to[i] != v {
				least++
			}
		}
		most += len(from.set)
	}
	return least, most
}

// step does one thing to both.
func step(t *testing.T, r *rand.Rand, x *trail.Trail, p *plain) {
	t.Helper()
	switch k := r.Intn(20); {
	case k < 10 && len(p.cells) > 0:
		i, v := r.Intn(len(p.cells)), r.Int63n(4)-1
		p.set(i, v)
		set(t, x, p.base+i, v)
	case k < 13:
		n := r.Intn(4) - 1
		if i := x.Grow(n); i != p.base+len(p.cells) {
			t.Fatalf("Grow(%d): %d", n, i)
		}
		p.cells = append(p.cells, make([]int64, max(n, 0))...)
	case k < 17:
		mark(t, x)
		p.marks = append(p.marks, past{slices.Clone(p.cells), map[int]bool{}})
	case k < 18 && len(p.marks) > 0:
		m := r.Intn(len(p.marks))
		undo(t, x, m)
		p.cells, p.marks = p.marks[m].cells, p.marks[:m]
	case len(p.marks) > 0:
		m := r.Intn(len(p.marks))
		if e := x.Forget(m); e != api.OK {
			t.Fatalf("Forget(%d): error %d", m, e)
		}
		p.forget(m)
	}
}

func compare(t *testing.T, x *trail.Trail, p *plain) {
	t.Helper()
	if x.Len() != p.base+len(p.cells) || x.Depth() != len(p.marks) {
		t.Fatalf("%d cells, %d marks, not %d, %d", x.Len(), x.Depth(), p.base+len(p.cells), len(p.marks))
	}
	for i, v := range p.cells {
		if g := x.Get(p.base + i); g != v {
			t.Fatalf("the cell %d of %d is %d, not %d", p.base+i, x.Len(), g, v)
		}
	}
	if x.Get(x.Len()) != 0 || x.Get(p.base-1) != 0 || x.Set(x.Len(), 1) != api.ErrRange || x.Undo(x.Depth()) != api.ErrNone || x.Forget(-1) != api.ErrNone {
		t.Fatal("there are more than there are")
	}
	least, most := p.weights()
	if w := x.Weight(); w < least || w > most {
		t.Fatalf("%d are kept, not %d to %d", w, least, most)
	}
}

func TestRandom(t *testing.T) {
	r := rand.New(rand.NewSource(1))
	for range 800 {
		n := r.Intn(5)
		x, p := trail.New(n), &plain{cells: make([]int64, n)}
		for range 150 {
			step(t, r, x, p)
			compare(t, x, p)
			if !slices.Equal(x.Cells(), p.cells) {
				t.Fatalf("%v, not %v", x.Cells(), p.cells)
			}
		}
	}
}

// Far behind the first, cells are cells as well.
func TestRandomFarBehind(t *testing.T) {
	r := rand.New(rand.NewSource(2))
	for _, base := range []int{1<<21 - 3, 1<<21 - 2, 1 << 21, 1 << 32, math.MaxInt - 1000} {
		for range 4 {
			x, p := trail.New(base), &plain{base: base}
			for range 400 {
				step(t, r, x, p)
				compare(t, x, p)
			}
		}
	}
}

func TestCellsOfMany(t *testing.T) {
	const n = 1<<21 + 3
	x := trail.New(n)
	want := make([]int64, n)
	for _, i := range []int{0, 1<<21 - 1, 1 << 21, n - 1} {
		set(t, x, i, int64(i+1))
		want[i] = int64(i + 1)
	}
	if !slices.Equal(x.Cells(), want) {
		t.Error("the cells aren't those that were set")
	}
}
