package wcsp_test

import (
	"math"
	"math/rand"
	"slices"
	"strings"
	"testing"

	"pennyweight/api"
	"pennyweight/tuples"
	"pennyweight/wcsp"
)

const top = int64(api.MaxCost)

func made(t *testing.T, sizes []int, k, other int64, lines ...tuples.Line) *tuples.Tuples {
	t.Helper()
	x, e := tuples.New(sizes, k, other)
	if e != api.OK {
		t.Fatalf("New(%v, %d, %d): error %d", sizes, k, other, e)
	}
	for _, l := range lines {
		if e := x.Put(l.Tuple, l.Cost); e != api.OK {
			t.Fatalf("Put(%v): error %d", l, e)
		}
	}
	return x
}

func fun(x *tuples.Tuples, scope ...int) wcsp.Fun { return wcsp.Fun{Scope: scope, Tuples: x} }

// example is a file with a function of each arity up to 3.
func example(t *testing.T) *wcsp.File {
	t.Helper()
	return &wcsp.File{Name: "e", K: 20, Sizes: []int{2, 3, 2}, Funs: []wcsp.Fun{
		fun(made(t, nil, 20, 1)),
		fun(made(t, []int{3}, 20, 2, line(0, 1), line(20, 2)), 1),
		fun(made(t, []int{2, 3}, 20, 0, line(5, 1, 0), line(6, 0, 1)), 2, 1),
		fun(made(t, []int{2, 2, 3}, 20, 0, line(7, 1, 0, 1)), 0, 2, 1),
	}}
}

func val(t *testing.T, f *wcsp.File, a ...int) int64 {
	t.Helper()
	c, e := f.Val(a)
	if e != api.OK {
		t.Fatalf("Val(%v): error %d", a, e)
	}
	return c
}

func TestVal(t *testing.T) {
	f := read(t, "t 2 2 1 9 2 2\n2 0 1 0 1\n1 1 5\n")
	for _, x := range [][3]int{{0, 0, 0}, {0, 1, 0}, {1, 0, 0}, {1, 1, 5}} {
		if c := val(t, f, x[:2]...); c != int64(x[2]) {
			t.Errorf("Val(%v) = %d", x[:2], c)
		}
	}
	f = example(t)
	for _, x := range [][4]int{{0, 0, 0, 3}, {0, 0, 1, 8}, {1, 0, 1, 8}, {1, 1, 0, 14}, {0, 1, 0, 7}, {0, 1, 1, 1}, {0, 2, 0, 20}, {1, 2, 1, 20}} {
		if c := val(t, f, x[:3]...); c != int64(x[3]) {
			t.Errorf("Val(%v) = %d", x[:3], c)
		}
	}
	if c := val(t, read(t, "t 1 3 0 5 3"), 2); c != 0 {
		t.Errorf("of no functions: %d", c)
	}
}

func TestValReachesTheTop(t *testing.T) {
	half := func(k, c int64) wcsp.Fun { return fun(made(t, nil, k, c)) }
	for _, x := range []struct {
		k    int64
		l    []int64
		want int64
	}{{9, []int64{4, 4}, 8}, {9, []int64{4, 5}, 9}, {9, []int64{5, 5}, 9}, {9, []int64{9, 9, 9}, 9}, {9, []int64{9, 0}, 9}, {1, []int64{1, 1}, 1}, {top, []int64{top - 1, 0}, top - 1}, {top, []int64{top, top, top}, top}, {top, []int64{top - 1, 1}, top}} {
		f := &wcsp.File{Name: "t", K: x.k, Sizes: []int{1}}
		for _, c := range x.l {
			f.Funs = append(f.Funs, half(x.k, c))
		}
		if c := val(t, f, 0); c != x.want {
			t.Errorf("%v up to %d: %d", x.l, x.k, c)
		}
	}
}

func TestValOfNoSuchAssignment(t *testing.T) {
	f := example(t)
	for _, a := range [][]int{nil, {}, {0}, {0, 0}, {0, 0, 0, 0}, {2, 0, 0}, {-1, 0, 0}, {0, 3, 0}, {0, -1, 0}, {0, 0, 2}, {0, 0, -1}, {0, 0, math.MaxInt}, {math.MinInt, 0, 0}} {
		if c, e := f.Val(a); c != 0 || e != api.ErrRange {
			t.Errorf("Val(%v) = %d, error %d", a, c, e)
		}
	}
	f = read(t, "t 2 2 0 9 2 2")
	if c, e := f.Val([]int{0, 2}); c != 0 || e != api.ErrRange {
		t.Errorf("without functions: %d, error %d", c, e)
	}
}

func TestValOfAFileThatIsNotRight(t *testing.T) {
	f := example(t)
	f.Name = ""
	g := example(t)
	g.Name = strings.Repeat("n", api.MaxName+1)
	for _, a := range [][]int{{0, 0, 0}, nil, {5, 5, 5}} {
		if c, e := f.Val(a); c != 0 || e != api.ErrArg {
			t.Errorf("Val(%v) = %d, error %d", a, c, e)
		}
		if c, e := g.Val(a); c != 0 || e != api.ErrLarge {
			t.Errorf("Val(%v) = %d, error %d", a, c, e)
		}
	}
}

func TestValChangesNothing(t *testing.T) {
	f, a := example(t), []int{1, 1, 0, 77}
	was := f.Copy()
	val(t, f, a[:3]...)
	f.Right()
	if !slices.Equal(a, []int{1, 1, 0, 77}) || !alike(f, was) {
		t.Errorf("%v, %v", a, f)
	}
}

// alike holds the nil Tuples, too.
func alike(f, g *wcsp.File) bool {
	return f.Name == g.Name && f.K == g.K && slices.Equal(f.Sizes, g.Sizes) && slices.EqualFunc(f.Funs, g.Funs, func(x, y wcsp.Fun) bool {
		a, b := x.Tuples, y.Tuples
		return slices.Equal(x.Scope, y.Scope) && (a == nil) == (b == nil) && slices.Equal(a.Sizes(), b.Sizes()) && a.K() == b.K() && a.Other() == b.Other() && sameLines(a.Lines(), b.Lines())
	})
}

func TestRight(t *testing.T) {
	for _, f := range []*wcsp.File{example(t), {Name: "!", K: 1, Sizes: []int{1}}, {Name: "~~", K: top, Sizes: []int{32, 1}}} {
		if e := f.Right(); e != api.OK {
			t.Errorf("%v: error %d", f, e)
		}
	}
	// One object may stand for several functions.
	f := example(t)
	f.Funs = append(f.Funs, fun(f.Funs[2].Tuples, 0, 1), f.Funs[3])
	if e := f.Right(); e != api.OK || val(t, f, 1, 0, 0) != 8 {
		t.Errorf("error %d, %d", e, val(t, f, 1, 0, 0))
	}
}

func TestRightOfWhatReadCouldNotTell(t *testing.T) {
	for what, spoil := range map[string]func(*wcsp.File){
		"no name":                 func(f *wcsp.File) { f.Name = "" },
		"blanks":                  func(f *wcsp.File) { f.Name = " " },
		"two words":               func(f *wcsp.File) { f.Name = "a b" },
		"a blank ahead":           func(f *wcsp.File) { f.Name = " a" },
		"a blank behind":          func(f *wcsp.File) { f.Name = "a\n" },
		"a wrong byte":            func(f *wcsp.File) { f.Name = "a\x00" },
		"a wrong byte ahead":      func(f *wcsp.File) { f.Name = "\x7fa" },
		"bytes above":             func(f *wcsp.File) { f.Name = "\u00e4" },
		"no variable":             func(f *wcsp.File) { f.Sizes, f.Funs = nil, nil },
		"no variable, still":      func(f *wcsp.File) { f.Sizes, f.Funs = []int{}, f.Funs[:1] },
		"a size of 0":             func(f *wcsp.File) { f.Sizes, f.Funs = []int{2, 0}, nil },
		"a size below 0":          func(f *wcsp.File) { f.Sizes, f.Funs = []int{-1, 2}, nil },
		"a size of 33":            func(f *wcsp.File) { f.Sizes, f.Funs = []int{2, 33, 2}, nil },
		"a great size":            func(f *wcsp.File) { f.Sizes, f.Funs = []int{math.MaxInt}, nil },
		"a top of 0":              func(f *wcsp.File) { f.K, f.Funs = 0, nil },
		"a top below 0":           func(f *wcsp.File) { f.K, f.Funs = -1, nil },
		"a great top":             func(f *wcsp.File) { f.K, f.Funs = top+1, nil },
		"a variable below 0":      func(f *wcsp.File) { f.Funs[1].Scope[0] = -1 },
		"a variable of n":         func(f *wcsp.File) { f.Funs[1].Scope[0] = 3 },
		"a variable twice":        func(f *wcsp.File) { f.Sizes[1], f.Funs = 2, []wcsp.Fun{fun(made(t, []int{2, 2}, 20, 0), 1, 1)} },
		"a variable twice, apart": func(f *wcsp.File) { f.Funs[3].Scope[1] = 0 },
		"no scope":                func(f *wcsp.File) { f.Funs[1].Scope = nil },
		"a variable more":         func(f *wcsp.File) { f.Funs[0].Scope = []int{0} },
		"a great scope":           func(f *wcsp.File) { f.Funs[0].Scope = make([]int, 1<<20) },
		"nil Tuples":              func(f *wcsp.File) { f.Funs[2].Tuples = nil },
		"nil Tuples of nothing":   func(f *wcsp.File) { f.Funs[0].Tuples = nil },
		"other sizes":             func(f *wcsp.File) { f.Funs[1].Scope[0] = 0 },
		"sizes in another order":  func(f *wcsp.File) { f.Funs[2].Scope = []int{1, 2} },
		"a size less":             func(f *wcsp.File) { f.Sizes[1] = 2 },
		"another top":             func(f *wcsp.File) { f.Funs[0].Tuples = made(t, nil, 19, 1) },
		"another top of all":      func(f *wcsp.File) { f.K = 21 },
		"the last one":            func(f *wcsp.File) { f.Funs[3].Tuples = made(t, []int{2, 2}, 20, 1) },
	} {
		f := example(t)
		spoil(f)
		if e := f.Right(); e != api.ErrArg {
			t.Errorf("%s: error %d", what, e)
		}
		f.Name = strings.Repeat(f.Name, 1+api.MaxName)
		if e := f.Right(); e != api.ErrArg {
			t.Errorf("%s, and too long a name: error %d", what, e)
		}
	}
}

func TestRightBeyondTheLimits(t *testing.T) {
	plain := func() *wcsp.File { return &wcsp.File{Name: "t", K: 9, Sizes: []int{32, 32, 4, 5, 1}} }
	for what, x := range map[string]struct {
		within, beyond func(*wcsp.File)
	}{
		"name":      {func(f *wcsp.File) { f.Name = strings.Repeat("n", 64) }, func(f *wcsp.File) { f.Name = strings.Repeat("n", 65) }},
		"variables": {func(f *wcsp.File) { f.Sizes = slices.Repeat([]int{2}, 64) }, func(f *wcsp.File) { f.Sizes = slices.Repeat([]int{2}, 65) }},
		"functions": {func(f *wcsp.File) { f.Funs = slices.Repeat([]wcsp.Fun{fun(made(t, nil, 9, 1))}, 256) }, func(f *wcsp.File) { f.Funs = slices.Repeat([]wcsp.Fun{fun(made(t, nil, 9, 1))}, 257) }},
		"tuples":    {func(f *wcsp.File) { f.Funs = []wcsp.Fun{fun(made(t, []int{32, 4, 32}, 9, 1), 1, 2, 0)} }, func(f *wcsp.File) { f.Funs = []wcsp.Fun{fun(made(t, []int{32, 5, 32}, 9, 1), 1, 3, 0)} }},
		"many":      {func(f *wcsp.File) {}, func(f *wcsp.File) { f.Funs = []wcsp.Fun{fun(made(t, []int{32, 32, 4, 5, 1}, 9, 1), 0, 1, 2, 3, 4)} }},
	} {
		f := plain()
		if x.within(f); f.Right() != api.OK {
			t.Errorf("%s: error %d within the limit", what, f.Right())
		}
		f = plain()
		if x.beyond(f); f.Right() != api.ErrLarge {
			t.Errorf("%s: error %d beyond the limit", what, f.Right())
		}
		f.Funs = append(f.Funs, wcsp.Fun{})
		if f.Right() != api.ErrArg {
			t.Errorf("%s: error %d beyond the limit, and not so", what, f.Right())
		}
	}
	f := &wcsp.File{Name: "t", K: 9, Sizes: slices.Repeat([]int{32}, 6), Funs: []wcsp.Fun{fun(made(t, slices.Repeat([]int{32}, 6), 9, 1), 0, 1, 2, 3, 4, 5)}}
	if e := f.Right(); e != api.ErrLarge {
		t.Errorf("of 2^30 tuples: error %d", e)
	}
}

// full is a function of 4096 tuples, of which the first ones have lines of the
// cost c.
func full(t *testing.T, c int64, lines int, scope ...int) wcsp.Fun {
	t.Helper()
	x := made(t, []int{4, 4, 4, 4, 4, 4}, 9, 0)
	for i := range lines {
		x.Put([]int{i / 1024, i / 256 % 4, i / 64 % 4, i / 16 % 4, i / 4 % 4, i % 4}, c)
	}
	return fun(x, scope...)
}

func TestRightOfManyLines(t *testing.T) {
	f := &wcsp.File{Name: "t", K: 9, Sizes: []int{4, 4, 4, 4, 4, 4, 4, 3}}
	for c := range int64(4) {
		f.Funs = append(f.Funs, full(t, c+1, 4096, 0, 1, 2, 3, 4, 5))
	}
	check := func(what string, want api.Errno, last wcsp.Fun) {
		t.Helper()
		g := *f
		g.Funs = append(slices.Clone(f.Funs), last)
		if e := g.Right(); e != want {
			t.Errorf("16384 lines, and %s: error %d, not %d", what, e, want)
		}
		if c, e := g.Val([]int{3, 3, 3, 3, 3, 3, 0, 0}); e != want || e != api.OK && c != 0 {
			t.Errorf("16384 lines, and %s: Val is %d, error %d", what, c, e)
		}
	}
	check("none", api.OK, full(t, 5, 0, 6, 5, 4, 3, 2, 1))
	check("one more", api.ErrLarge, full(t, 5, 1, 6, 5, 4, 3, 2, 1))
	check("one of fewer places", api.ErrLarge, fun(made(t, []int{4, 4, 4, 4, 4}, 9, 0, line(1, 0, 0, 0, 0, 0)), 0, 1, 2, 3, 4))
	check("one of other sizes", api.ErrLarge, fun(made(t, []int{4, 4, 4, 4, 4, 3}, 9, 0, line(1, 0, 0, 0, 0, 0, 0)), 0, 1, 2, 3, 4, 7))
	check("one of no places", api.ErrLarge, fun(made(t, nil, 9, 0, line(1))))
	check("a function that isn't so", api.ErrArg, wcsp.Fun{Scope: []int{0}})
	// Those that a text could share are told once.
	check("one that could be shared", api.OK, full(t, 4, 1, 6, 5, 4, 3, 2, 1))
	check("all that could be shared", api.OK, full(t, 3, 4096, 6, 5, 4, 3, 2, 1))
}

func TestCopy(t *testing.T) {
	f := example(t)
	g := f.Copy()
	if g == f || !alike(f, g) || g.Right() != api.OK {
		t.Errorf("%v", g)
	}
	for what, change := range map[string]func(*wcsp.File){
		"name":      func(f *wcsp.File) { f.Name = "x" },
		"top":       func(f *wcsp.File) { f.K = 1 },
		"sizes":     func(f *wcsp.File) { f.Sizes[0] = 9 },
		"scope":     func(f *wcsp.File) { f.Funs[2].Scope[0] = 0 },
		"functions": func(f *wcsp.File) { f.Funs[0], f.Funs[3] = f.Funs[3], f.Funs[0] },
		"a line":    func(f *wcsp.File) { f.Funs[3].Tuples.Put([]int{0, 0, 0}, 1) },
		"no line":   func(f *wcsp.File) { f.Funs[1].Tuples.Put([]int{1}, 2) },
		"fewer":     func(f *wcsp.File) { f.Funs = append(f.Funs[:1], f.Funs[2:]...) },
		"nil":       func(f *wcsp.File) { f.Funs[1].Tuples = nil },
	} {
		f := example(t)
		g := f.Copy()
		if change(f); alike(f, example(t)) || !alike(g, example(t)) {
			t.Errorf("%s of the file is its copy's", what)
		}
		f = example(t)
		g = f.Copy()
		if change(g); alike(g, example(t)) || !alike(f, example(t)) {
			t.Errorf("%s of the copy is the file's", what)
		}
	}
}

func TestCopyLeavesSpareRoom(t *testing.T) {
	f := example(t)
	f.Sizes = append(make([]int, 0, 9), f.Sizes...)
	f.Funs = append(make([]wcsp.Fun, 0, 9), f.Funs...)
	g := f.Copy()
	g.Sizes = append(g.Sizes, 7)
	g.Funs = append(g.Funs, g.Funs[0])
	if s := f.Sizes[:4]; s[3] != 0 {
		t.Errorf("%v", s)
	}
	if l := f.Funs[:5]; l[4].Tuples != nil {
		t.Errorf("%v", l)
	}
}

func TestCopyOfAFileThatIsNotRight(t *testing.T) {
	for _, f := range []*wcsp.File{{}, {Name: "a b", K: -3, Sizes: []int{0, -1, 99}}, {Funs: []wcsp.Fun{{}, {Scope: []int{5, 5, -1}}, fun(made(t, []int{32, 32, 32}, top, top, line(0, 31, 31, 31)), 9)}}} {
		g := f.Copy()
		if g == nil || !alike(f, g) {
			t.Errorf("%v", g)
		}
	}
	f := &wcsp.File{Sizes: []int{2, 2}, Funs: []wcsp.Fun{fun(made(t, []int{2}, 9, 0), 0)}}
	f.Funs = append(f.Funs, f.Funs[0])
	g := f.Copy()
	g.Funs[0].Tuples.Put([]int{1}, 4)
	if c, _ := f.Funs[0].Tuples.Get([]int{1}); c != 0 {
		t.Errorf("the copy's function is the file's: %d", c)
	}
	if c, _ := g.Funs[1].Tuples.Get([]int{1}); c != 0 {
		t.Errorf("the copy's functions are one: %d", c)
	}
}

func TestNilFile(t *testing.T) {
	var f *wcsp.File
	for _, a := range [][]int{nil, {0}} {
		if c, e := f.Val(a); c != 0 || e != api.ErrNone {
			t.Errorf("Val: %d, error %d", c, e)
		}
	}
	if e := f.Right(); e != api.ErrNone {
		t.Errorf("Right: error %d", e)
	}
	if g := f.Copy(); g != nil {
		t.Errorf("Copy: %v", g)
	}
	if e := new(wcsp.File).Right(); e != api.ErrArg {
		t.Errorf("of an empty file: error %d", e)
	}
}

func TestValRandom(t *testing.T) {
	r := rand.New(rand.NewSource(3))
	for range 3000 {
		text := joined(r, words(r))
		want, _, e := expected(text)
		if e != api.OK {
			continue
		}
		f := read(t, text)
		g := f.Copy()
		if !alike(f, g) {
			t.Fatalf("the copy of %q is another file", text)
		}
		a := make([]int, len(f.Sizes))
		for i, n := range f.Sizes {
			a[i] = r.Intn(n)
		}
		if c, d := val(t, f, a...), val(t, g, a...); c != want.val(a) || c != d {
			t.Fatalf("Val(%v) of %q: %d, of its copy %d, not %d", a, text, c, d, want.val(a))
		}
	}
}
