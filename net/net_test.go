package net_test

import (
	"math"
	"math/rand"
	"slices"
	"strconv"
	"strings"
	"testing"

	"pennyweight/api"
	"pennyweight/net"
	"pennyweight/plain"
	"pennyweight/table"
	"pennyweight/tuples"
	"pennyweight/wcsp"
)

const top = int64(api.MaxCost)

// parts is all that a network is to tell of its functions.
type parts struct {
	zero   int64
	unary  [][]int64
	scopes [][]int
	tables [][]int64
}

func read(t *testing.T, text string) *wcsp.File {
	t.Helper()
	f, at, e := wcsp.Read([]byte(strings.ReplaceAll(text, ",", "")))
	if e != api.OK {
		t.Fatalf("Read(%.99q): place %d, error %d", text, at, e)
	}
	return f
}

func of(t *testing.T, f *wcsp.File) *net.Net {
	t.Helper()
	n, e := net.Of(f)
	if n == nil || e != api.OK {
		t.Fatalf("Of(%v): %v, error %d", f, n, e)
	}
	return n
}

func fun(t *testing.T, k, other int64, sizes []int, scope ...int) wcsp.Fun {
	t.Helper()
	x, e := tuples.New(sizes, k, other)
	if e != api.OK {
		t.Fatalf("New(%v, %d, %d): error %d", sizes, k, other, e)
	}
	return wcsp.Fun{Scope: scope, Tuples: x}
}

func equal[T comparable](a, b [][]T) bool { return slices.EqualFunc(a, b, slices.Equal[[]T]) }

func checkParts(t *testing.T, what string, n *net.Net, want parts) {
	t.Helper()
	told := parts{zero: n.Zero()}
	for i := range n.N() {
		told.unary = append(told.unary, n.Unary(i))
	}
	for j := range n.Funs() {
		told.scopes = append(told.scopes, n.Scope(j))
		told.tables = append(told.tables, n.Table(j).Entries())
		checkTable(t, what, n, j)
	}
	if told.zero != want.zero || !equal(told.unary, want.unary) || !equal(told.scopes, want.scopes) || !equal(told.tables, want.tables) {
		t.Errorf("%s: %v, not %v", what, told, want)
	}
}

// checkTable asks of a function's table the scope's sizes and the network's top.
func checkTable(t *testing.T, what string, n *net.Net, j int) {
	t.Helper()
	var sizes []int
	for _, v := range n.Scope(j) {
		sizes = append(sizes, n.Size(v))
	}
	if x := n.Table(j); !slices.Equal(x.Shape().Sizes(), sizes) || x.K() != n.K() {
		t.Errorf("%s: the table %d has the sizes %v, the top %d", what, j, x.Shape().Sizes(), x.K())
	}
}

func val(t *testing.T, n *net.Net, a ...int) int64 {
	t.Helper()
	c, e := n.Val(a)
	if e != api.OK {
		t.Fatalf("Val(%v): error %d", a, e)
	}
	return c
}

func TestExample(t *testing.T) {
	n := of(t, read(t, "t 2 2 1 9 2 2, 2 0 1 0 1, 1 1 5"))
	if n.Name() != "t" || n.K() != 9 || n.N() != 2 || n.Size(0) != 2 || n.Size(1) != 2 {
		t.Errorf("%q, %d, %d, %d, %d", n.Name(), n.K(), n.N(), n.Size(0), n.Size(1))
	}
	checkParts(t, "the example", n, parts{0, [][]int64{{0, 0}, {0, 0}}, [][]int{{0, 1}}, [][]int64{{0, 0, 0, 5}}})
	if !slices.Equal(n.Near(0), []int{0}) || !slices.Equal(n.Neighbors(0), []int{1}) || !slices.Equal(n.Neighbors(1), []int{0}) {
		t.Errorf("%v, %v, %v", n.Near(0), n.Neighbors(0), n.Neighbors(1))
	}
	for _, x := range [][3]int{{0, 0, 0}, {0, 1, 0}, {1, 0, 0}, {1, 1, 5}} {
		if c := val(t, n, x[:2]...); c != int64(x[2]) {
			t.Errorf("Val(%v) = %d", x[:2], c)
		}
	}
}

func TestNoFunctions(t *testing.T) {
	n := of(t, read(t, "?!~ 3 32 0 2147483648 1 32 7"))
	if n.Name() != "?!~" || n.K() != top || n.N() != 3 || n.Size(0) != 1 || n.Size(1) != 32 || n.Size(2) != 7 {
		t.Errorf("%q, %d, %d, %d, %d, %d", n.Name(), n.K(), n.N(), n.Size(0), n.Size(1), n.Size(2))
	}
	checkParts(t, "no functions", n, parts{unary: [][]int64{{0}, make([]int64, 32), make([]int64, 7)}})
	for i := range 3 {
		if len(n.Near(i)) != 0 || len(n.Neighbors(i)) != 0 {
			t.Errorf("%d stands with %v in %v", i, n.Neighbors(i), n.Near(i))
		}
	}
	if c := val(t, n, 0, 31, 6); c != 0 {
		t.Errorf("%d", c)
	}
	if f := n.File(); len(f.Funs) != 0 || !plain.Same(f, read(t, "?!~ 3 32 0 2147483648 1 32 7")) {
		t.Errorf("%v", f)
	}
}

func TestParts(t *testing.T) {
	none := [][]int64{{0, 0}, {0, 0, 0}}
	for what, x := range map[string]struct {
		text string
		want parts
	}{
		"no variable":            {"t 2 3 1 9 2 3, 0 5 0", parts{5, none, nil, nil}},
		"no variable, by a line": {"t 2 3 1 9 2 3, 0 5 1 4", parts{4, none, nil, nil}},
		"several of no variable": {"t 2 3 3 9 2 3, 0 1 0, 0 2 0, 0 9 1 3", parts{6, none, nil, nil}},
		"up to the top":          {"t 2 3 2 9 2 3, 0 5 0, 0 5 0", parts{9, none, nil, nil}},
		"no variable, nothing":   {"t 2 3 2 9 2 3, 0 0 0, 0 7 1 0", parts{0, none, nil, nil}},
		"one variable":           {"t 2 3 1 9 2 3, 1 1 2 1, 2 4", parts{0, [][]int64{{0, 0}, {2, 2, 4}}, nil, nil}},
		"several of one":         {"t 2 3 4 9 2 3, 1 1 2 1 2 4, 1 0 0 1 1 3, 1 1 0 1 0 6, 1 0 1 0", parts{0, [][]int64{{1, 4}, {8, 2, 4}}, nil, nil}},
		"one, up to the top":     {"t 2 3 3 9 2 3, 1 0 5 1 0 4, 1 0 4 1 1 5, 1 1 9 0", parts{0, [][]int64{{8, 9}, {9, 9, 9}}, nil, nil}},
		"one, nothing":           {"t 2 3 2 9 2 3, 1 0 0 0, 1 1 4 3 0 0 1 0 2 0", parts{0, none, nil, nil}},
		"a scope that falls":     {"t 2 3 1 9 2 3, 2 1 0 1 2, 2 0 4, 0 1 5", parts{0, none, [][]int{{0, 1}}, [][]int64{{1, 1, 4, 5, 1, 1}}}},
		"several orders":         {"t 2 3 3 9 2 3, 2 1 0 1 2 2 0 4 0 1 5, 2 0 1 0 2 0 1 3 1 0 6, 2 1 0 0 0", parts{0, none, [][]int{{0, 1}}, [][]int64{{1, 4, 4, 9, 1, 1}}}},
		"two, nothing":           {"t 2 3 2 9 2 3, 2 0 1 0 0, 2 1 0 0 1 1 1 0", parts{0, none, nil, nil}},
		"costs that are all":     {"t 2 3 2 1 2 3, 2 1 0 1 0, 0 1 0", parts{1, none, [][]int{{0, 1}}, [][]int64{{1, 1, 1, 1, 1, 1}}}},
		"all of them":            {"t 2 3 4 99 2 3, 2 0 1 0 1 1 2 7, 1 1 0 1 1 5, 0 3 0, 1 0 0 1 0 4", parts{3, [][]int64{{4, 0}, {0, 5, 0}}, [][]int{{0, 1}}, [][]int64{{0, 0, 0, 0, 0, 7}}}},
		"the greatest costs":     {"t 2 3 3 2147483648 2 3, 0 2147483647 0, 1 0 2147483647 1 1 9999999999, 2 1 0 0 1 0 1 2147483648", parts{top - 1, [][]int64{{top - 1, top}, {0, 0, 0}}, [][]int{{0, 1}}, [][]int64{{0, 0, 0, top, 0, 0}}}},
	} {
		n := of(t, read(t, x.text))
		checkParts(t, what, n, x.want)
	}
}

func TestManyVariables(t *testing.T) {
	// By arity, then by their scopes, by number: 2 is less than 10.
	n := of(t, read(t, "t 12 2 9 99 2 2 2 2 2 2 2 2 2 2 2 2,"+
		" 3 10 2 0 0 1, 1 0 0 7,"+
		" 2 10 2 0 1, 1 0 3,"+
		" 2 0 10 1 0,"+
		" 2 3 2 0 1, 0 1 2,"+
		" 2 10 3 0 0,"+
		" 3 2 0 10 0 1, 1 0 0 5,"+
		" 1 11 6 0,"+
		" 2 2 0 0 1, 1 0 4,"+
		" 4 0 1 2 3 0 0"))
	eight := make([]int64, 8)
	eight[1], eight[2] = 7, 5
	want := parts{0, slices.Repeat([][]int64{{0, 0}}, 12), [][]int{{0, 2}, {0, 10}, {2, 3}, {2, 10}, {0, 2, 10}}, [][]int64{{0, 4, 0, 0}, {1, 1, 1, 1}, {0, 0, 2, 0}, {0, 3, 0, 0}, eight}}
	want.unary[11] = []int64{6, 6}
	checkParts(t, "many", n, want)
	for i, x := range [][2][]int{{{0, 1, 4}, {2, 10}}, {}, {{0, 2, 3, 4}, {0, 3, 10}}, {{2}, {2}}, {}, {}, {}, {}, {}, {}, {{1, 3, 4}, {0, 2}}, {}} {
		if near, with := n.Near(i), n.Neighbors(i); !slices.Equal(near, x[0]) || !slices.Equal(with, x[1]) {
			t.Errorf("%d stands with %v in %v", i, with, near)
		}
	}
}

func TestNumbersThatThereAreNot(t *testing.T) {
	n := of(t, read(t, "t 2 3 2 9 2 3, 2 0 1 1 0, 1 1 1 0"))
	for _, i := range []int{-1, 2, 3, 64, math.MaxInt, math.MinInt} {
		if n.Size(i) != 0 || n.Unary(i) != nil || n.Near(i) != nil || len(n.Neighbors(i)) != 0 {
			t.Errorf("the variable %d: %d, %v, %v, %v", i, n.Size(i), n.Unary(i), n.Near(i), n.Neighbors(i))
		}
	}
	for _, j := range []int{-1, 1, 2, 256, math.MaxInt, math.MinInt} {
		if n.Scope(j) != nil || n.Table(j) != nil {
			t.Errorf("the function %d: %v, %v", j, n.Scope(j), n.Table(j))
		}
	}
}

func TestNilNetwork(t *testing.T) {
	var n *net.Net
	if n.Name() != "" || n.K() != 0 || n.N() != 0 || n.Zero() != 0 || n.Funs() != 0 || n.File() != nil {
		t.Errorf("%q, %d, %d, %d, %d, %v", n.Name(), n.K(), n.N(), n.Zero(), n.Funs(), n.File())
	}
	for _, i := range []int{-1, 0, 1} {
		if n.Size(i) != 0 || n.Unary(i) != nil || n.Scope(i) != nil || n.Table(i) != nil || n.Near(i) != nil || len(n.Neighbors(i)) != 0 {
			t.Errorf("the number %d of a nil network", i)
		}
	}
	for _, a := range [][]int{nil, {}, {0}, {-1, 5}} {
		if c, e := n.Val(a); c != 0 || e != api.ErrNone {
			t.Errorf("Val(%v) = %d, error %d", a, c, e)
		}
	}
}

func TestWrongFiles(t *testing.T) {
	many := slices.Repeat([]wcsp.Fun{fun(t, 9, 1, nil)}, api.MaxFuns+1)
	for want, l := range map[api.Errno][]*wcsp.File{
		api.ErrNone: {nil},
		api.ErrArg: {
			{}, {Name: "a b", K: 9, Sizes: []int{1}}, {Name: "t", K: 0, Sizes: []int{1}}, {Name: "t", K: top + 1, Sizes: []int{1}},
			{Name: "t", K: 9}, {Name: "t", K: 9, Sizes: []int{0}}, {Name: "t", K: 9, Sizes: []int{33}},
			{Name: "t", K: 9, Sizes: []int{1}, Funs: []wcsp.Fun{{}}},
			{Name: "t", K: 8, Sizes: []int{1}, Funs: many[:1]},
			{Name: "t", K: 9, Sizes: []int{2, 2}, Funs: []wcsp.Fun{fun(t, 9, 1, []int{2, 2}, 1, 1)}},
			{Name: "t", K: 9, Sizes: []int{2, 2}, Funs: []wcsp.Fun{fun(t, 9, 1, []int{2, 2}, 1, 2)}},
			{Name: "t", K: 9, Sizes: []int{2, 3}, Funs: []wcsp.Fun{fun(t, 9, 1, []int{2, 3}, 1, 0)}},
			{Name: "", K: 9, Sizes: []int{1}, Funs: many},
		},
		api.ErrLarge: {
			{Name: "t", K: 9, Sizes: []int{1}, Funs: many},
			{Name: strings.Repeat("n", 65), K: 9, Sizes: []int{1}}, {Name: "t", K: 9, Sizes: slices.Repeat([]int{1}, 65)},
			{Name: "t", K: 9, Sizes: []int{32, 32, 5}, Funs: []wcsp.Fun{fun(t, 9, 1, []int{32, 32, 5}, 0, 1, 2)}},
		},
	} {
		for _, f := range l {
			if n, e := net.Of(f); n != nil || e != want {
				t.Errorf("Of(%v): %v, error %d, not %d", f, n, e, want)
			}
		}
	}
}

func TestVal(t *testing.T) {
	n := of(t, read(t, "t 3 3 5 20 2 3 2, 0 1 0, 1 1 2 2 0 1 2 20, 2 2 1 0 2 1 0 5 0 1 6, 3 0 2 1 0 1 1 0 1 7, 1 1 0 1 1 2"))
	for _, x := range [][4]int{{0, 0, 0, 2}, {0, 0, 1, 7}, {1, 0, 1, 7}, {1, 1, 0, 18}, {0, 1, 0, 11}, {0, 1, 1, 5}, {0, 2, 0, 20}, {1, 2, 1, 20}} {
		if c := val(t, n, x[:3]...); c != int64(x[3]) {
			t.Errorf("Val(%v) = %d, not %d", x[:3], c, x[3])
		}
	}
}

func TestValReachesTheTop(t *testing.T) {
	// Zero, the unary cost of 0, that of 1, and that of both, up to K.
	for _, x := range [][6]int64{
		{9, 2, 2, 2, 2, 8}, {9, 2, 2, 2, 3, 9}, {9, 2, 2, 3, 3, 9}, {9, 9, 0, 0, 0, 9}, {9, 0, 9, 0, 0, 9}, {9, 0, 0, 0, 9, 9}, {9, 9, 9, 9, 9, 9}, {9, 0, 4, 4, 0, 8}, {9, 4, 0, 5, 0, 9}, {9, 0, 5, 0, 5, 9},
		{1, 0, 0, 0, 0, 0}, {1, 1, 1, 1, 1, 1}, {top, top - 1, 0, 0, 0, top - 1}, {top, top - 1, 0, 1, 0, top}, {top, top, top, top, top, top}, {top, top / 2, 0, 0, top/2 - 1, top - 1},
	} {
		f := &wcsp.File{Name: "t", K: x[0], Sizes: []int{1, 1}}
		f.Funs = append(f.Funs, fun(t, x[0], x[4], []int{1, 1}, 1, 0), fun(t, x[0], x[3], []int{1}, 1), fun(t, x[0], x[2], []int{1}, 0), fun(t, x[0], x[1], nil))
		if c := val(t, of(t, f), 0, 0); c != x[5] {
			t.Errorf("%v up to %d: %d, not %d", x[1:5], x[0], c, x[5])
		}
	}
}

func TestValOfNoSuchAssignment(t *testing.T) {
	for _, text := range []string{"t 3 3 0 9 2 3 2", "t 3 3 3 9 2 3 2, 0 9 0, 1 1 9 0, 3 2 1 0 4 0"} {
		n := of(t, read(t, text))
		for _, a := range [][]int{nil, {}, {0}, {0, 0}, {0, 0, 0, 0}, {2, 0, 0}, {-1, 0, 0}, {0, 3, 0}, {0, -1, 0}, {0, 0, 2}, {0, 0, -1}, {0, 0, math.MaxInt}, {math.MinInt, 0, 0}, {-1, 0}, {0, 0, 0, 9}} {
			if c, e := n.Val(a); c != 0 || e != api.ErrRange {
				t.Errorf("Val(%v) of %q: %d, error %d", a, text, c, e)
			}
		}
	}
}

func TestFile(t *testing.T) {
	for _, text := range []string{
		"t 2 2 0 9 2 2",
		"t 2 2 5 9 2 2, 2 1 0 0 1 0 1 4, 0 2 0, 2 0 1 1 1 0 0 0, 1 1 0 0, 1 0 3 1 0 0",
		"t 3 3 3 9 2 3 2, 3 2 1 0 5 2 0 0 1 1 1 2 0 4, 2 2 0 0 1 1 0 9, 1 1 1 2 0 2 1 2",
	} {
		f := read(t, text)
		c, _ := plain.Canon(f)
		n := of(t, f)
		g := n.File()
		if !alike(g, c) {
			t.Errorf("the file of %q: %v, not %v", text, g, c)
		}
		if again := of(t, g); !alike(again.File(), c) || !sameNets(again, n) {
			t.Errorf("the file of %q isn't that of its own network", text)
		}
	}
}

// alike holds the Others, too.
func alike(f, g *wcsp.File) bool {
	return plain.Same(f, g) && slices.EqualFunc(f.Funs, g.Funs, func(a, b wcsp.Fun) bool {
		return a.Tuples.Other() == b.Tuples.Other()
	})
}

func sameNets(m, n *net.Net) bool {
	if m.Name() != n.Name() || m.K() != n.K() || m.N() != n.N() || m.Zero() != n.Zero() || m.Funs() != n.Funs() {
		return false
	}
	for i := range n.N() {
		if m.Size(i) != n.Size(i) || !slices.Equal(m.Unary(i), n.Unary(i)) || !slices.Equal(m.Near(i), n.Near(i)) || !slices.Equal(m.Neighbors(i), n.Neighbors(i)) {
			return false
		}
	}
	for j := range n.Funs() {
		if !slices.Equal(m.Scope(j), n.Scope(j)) || !table.Same(m.Table(j), n.Table(j)) {
			return false
		}
	}
	return plain.Same(m.File(), n.File())
}

const mixed = "t 3 3 5 20 2 3 2, 0 1 0, 1 1 2 2 0 1 2 20, 2 2 1 0 2 1 0 5 0 1 6, 3 0 2 1 0 1 1 0 1 7, 2 0 1 0 1 1 1 3"

func TestWhatIsToldIsNewMemory(t *testing.T) {
	n, untouched := of(t, read(t, mixed)), of(t, read(t, mixed))
	for i := range n.N() {
		for _, l := range [][]int{n.Near(i), n.Neighbors(i)} {
			clear(l)
			clear(l[len(l):cap(l)])
		}
		clear(n.Unary(i))
		// The spare room, too, is the asker's own.
		_ = append(n.Unary(i), 77)
		_ = append(n.Near(i), 77)
	}
	for j := range n.Funs() {
		clear(n.Scope(j))
		_ = append(n.Scope(j), 77)
		x := n.Table(j)
		for _, tuple := range x.Shape().All() {
			x.Put(tuple, 13)
		}
	}
	if !sameNets(n, untouched) || val(t, n, 1, 1, 0) != val(t, untouched, 1, 1, 0) {
		t.Error("what was told, changed by the asker, is a change of the network")
	}
}

func TestTheFileToldIsNewMemory(t *testing.T) {
	n, untouched := of(t, read(t, mixed)), of(t, read(t, mixed))
	f := n.File()
	f.Name, f.K = "u", 1
	f.Sizes[0] = 1
	for _, g := range f.Funs {
		clear(g.Scope)
		for _, l := range g.Tuples.Lines() {
			g.Tuples.Put(l.Tuple, 13)
		}
	}
	clear(f.Funs)
	if !sameNets(n, untouched) {
		t.Error("the file that was told, changed, is a change of the network")
	}
	if f := n.File(); f == n.File() || f.Right() != api.OK {
		t.Errorf("%v", f)
	}
}

func TestWhatIsHandedInIsNotKept(t *testing.T) {
	f, untouched := read(t, mixed), of(t, read(t, mixed))
	n := of(t, f)
	if !alike(f, read(t, mixed)) {
		t.Errorf("Of changed the file: %v", f)
	}
	f.Name, f.K = "u", 1
	clear(f.Sizes)
	for _, g := range f.Funs {
		clear(g.Scope)
		for _, l := range g.Tuples.Lines() {
			g.Tuples.Put(l.Tuple, 13)
		}
	}
	clear(f.Funs)
	a := []int{1, 1, 0, 77}
	val(t, n, a[:3]...)
	if !slices.Equal(a, []int{1, 1, 0, 77}) {
		t.Errorf("Val changed the assignment: %v", a)
	}
	if !sameNets(n, untouched) {
		t.Error("a change of the file is one of the network")
	}
}

// Of a file that is canonical already Canon is no other file, but new memory.
func TestWhatIsCanonicalIsNotKept(t *testing.T) {
	f := of(t, read(t, mixed)).File()
	n, untouched := of(t, f), of(t, f)
	f.Sizes[0] = 1
	for _, g := range f.Funs {
		clear(g.Scope)
		g.Tuples.Put(make([]int, g.Tuples.Arity()), 13)
	}
	if !sameNets(n, untouched) || !sameNets(n, of(t, read(t, mixed))) {
		t.Error("a change of the file is one of the network")
	}
}

func TestTheGreatest(t *testing.T) {
	f := &wcsp.File{Name: strings.Repeat("n", api.MaxName), K: top, Sizes: slices.Repeat([]int{4}, api.MaxVars)}
	for j := range api.MaxFuns - 1 {
		g := fun(t, top, 1, []int{4, 4}, j%64, (j+1+j/64)%64)
		g.Tuples.Put([]int{3, 3}, top)
		f.Funs = append(f.Funs, g)
	}
	g := fun(t, top, 5, slices.Repeat([]int{4}, 6), 63, 50, 40, 30, 20, 10)
	g.Tuples.Put([]int{3, 0, 0, 0, 0, 1}, 8)
	f.Funs = append(f.Funs, g)
	n := of(t, f)
	if n.Funs() != api.MaxFuns || n.N() != api.MaxVars || n.Name() != f.Name {
		t.Fatalf("%d, %d, %q", n.Funs(), n.N(), n.Name())
	}
	var scopes [][]int
	for _, g := range f.Funs {
		scopes = append(scopes, slices.Sorted(slices.Values(g.Scope)))
	}
	slices.SortFunc(scopes[:api.MaxFuns-1], slices.Compare[[]int])
	checkStands(t, n, scopes)
	if with := n.Neighbors(63); !slices.Equal(with, []int{0, 1, 2, 10, 20, 30, 40, 50, 59, 60, 61, 62}) {
		t.Errorf("%v", with)
	}
	if x := n.Table(api.MaxFuns - 1); x.Shape().Count() != api.MaxTable || x.Entries()[1*1024+3] != 8 || x.Entries()[0] != 5 {
		t.Errorf("%v", x.Shape())
	}
	a := make([]int, api.MaxVars)
	if c := val(t, n, a...); c != 255+5 {
		t.Errorf("%d", c)
	}
	a[63], a[10] = 3, 1
	if c := val(t, n, a...); c != 255+8 {
		t.Errorf("%d", c)
	}
	if c := val(t, n, slices.Repeat([]int{3}, api.MaxVars)...); c != top {
		t.Errorf("%d", c)
	}
}

// Lines that were shared are not the same lines any more once their scopes rise,
// so that the canonical file may have more of them than a file may have.
func TestSharedLines(t *testing.T) {
	var b strings.Builder
	b.WriteString("t 5 16 6 2147483648 16 16 16 16 16 -3 0 1 2 0 4096\n")
	for i := range 4096 {
		for _, n := range []int{i / 256, i / 16 % 16, i % 16, 1000 + i} {
			b.WriteString(strconv.Itoa(n) + " ")
		}
	}
	b.WriteString("3 1 0 3 0 -1 3 3 2 0 0 -1 3 2 3 1 0 -1 3 4 1 0 0 -1 3 4 0 2 0 -1")
	f := read(t, b.String())
	n := of(t, f)
	if c, _ := plain.Canon(f); !alike(n.File(), c) || n.Funs() != 6 {
		t.Errorf("%d functions", n.Funs())
	}
	for _, a := range [][]int{{0, 0, 0, 0, 0}, {1, 2, 3, 4, 5}, {15, 0, 7, 9, 11}, {15, 15, 15, 15, 15}} {
		want, _ := f.Val(a)
		if c := val(t, n, a...); c != want {
			t.Errorf("Val(%v) = %d, not %d", a, c, want)
		}
	}
	if c, e := n.Val([]int{0, 0, 0, 0, 16}); c != 0 || e != api.ErrRange {
		t.Errorf("%d, error %d", c, e)
	}
}

// all are all tuples of these sizes in their order.
func all(sizes []int) [][]int {
	if len(sizes) == 0 {
		return [][]int{{}}
	}
	var l [][]int
	for v := range sizes[0] {
		for _, rest := range all(sizes[1:]) {
			l = append(l, append([]int{v}, rest...))
		}
	}
	return l
}

// sets are all rising lists of variables, those of fewer ahead.
func sets(n int) [][]int {
	var l [][]int
	for bits := range 1 << n {
		set := []int{}
		for v := range n {
			if bits>>v&1 == 1 {
				set = append(set, v)
			}
		}
		l = append(l, set)
	}
	slices.SortFunc(l, func(a, b []int) int {
		if len(a) != len(b) {
			return len(a) - len(b)
		}
		return slices.Compare(a, b)
	})
	return l
}

func at(l, places []int) []int {
	out := []int{}
	for _, p := range places {
		out = append(out, l[p])
	}
	return out
}

func random(t *testing.T, r *rand.Rand) *wcsp.File {
	t.Helper()
	f := &wcsp.File{Name: "r", K: 1 + r.Int63n(40)}
	for range 1 + r.Intn(5) {
		f.Sizes = append(f.Sizes, 1+r.Intn(3))
	}
	for range r.Intn(9) {
		scope := r.Perm(len(f.Sizes))[:r.Intn(min(len(f.Sizes), 4)+1)]
		greatest := min(f.K, r.Int63n(9))
		g := fun(t, f.K, r.Int63n(greatest+1), at(f.Sizes, scope), scope...)
		for _, x := range all(at(f.Sizes, scope)) {
			g.Tuples.Put(x, r.Int63n(greatest+1))
		}
		f.Funs = append(f.Funs, g)
	}
	return f
}

// summed is what the functions of just these variables cost in all, by the
// tuples of the rising scope.
func summed(f *wcsp.File, scope []int) []int64 {
	var costs []int64
	for _, x := range all(at(f.Sizes, scope)) {
		sum := int64(0)
		for _, g := range f.Funs {
			if !slices.Equal(slices.Sorted(slices.Values(g.Scope)), scope) {
				continue
			}
			var turned []int
			for _, v := range g.Scope {
				turned = append(turned, x[slices.Index(scope, v)])
			}
			c, _ := g.Tuples.Get(turned)
			sum = min(sum+c, f.K)
		}
		costs = append(costs, sum)
	}
	return costs
}

func partsOf(f *wcsp.File) parts {
	var p parts
	for _, scope := range sets(len(f.Sizes)) {
		costs := summed(f, scope)
		switch {
		case len(scope) == 0:
			p.zero = costs[0]
		case len(scope) == 1:
			p.unary = append(p.unary, costs)
		case slices.Max(costs) > 0:
			p.scopes = append(p.scopes, scope)
			p.tables = append(p.tables, costs)
		}
	}
	return p
}

func checkStands(t *testing.T, n *net.Net, scopes [][]int) {
	t.Helper()
	for i := range n.N() {
		near, with := []int{}, []int{}
		for j, scope := range scopes {
			if slices.Contains(scope, i) {
				near = append(near, j)
			}
		}
		for v := range n.N() {
			if v != i && slices.ContainsFunc(near, func(j int) bool { return slices.Contains(scopes[j], v) }) {
				with = append(with, v)
			}
		}
		if !slices.Equal(n.Near(i), near) || !slices.Equal(n.Neighbors(i), with) {
			t.Fatalf("%d of %v stands with %v in %v", i, scopes, n.Neighbors(i), n.Near(i))
		}
	}
}

func TestRandom(t *testing.T) {
	r := rand.New(rand.NewSource(1))
	for range 1500 {
		f := random(t, r)
		n := of(t, f)
		text, _ := plain.Print(f)
		want := partsOf(f)
		checkParts(t, string(text), n, want)
		checkStands(t, n, want.scopes)
		for _, a := range all(f.Sizes) {
			c, _ := f.Val(a)
			if d := val(t, n, a...); c != d {
				t.Fatalf("Val(%v) of %q: %d, not %d", a, text, d, c)
			}
		}
		if c, _ := plain.Canon(f); !alike(n.File(), c) || !sameNets(n, of(t, n.File())) {
			t.Fatalf("the file of %q: %v", text, n.File())
		}
		if t.Failed() {
			t.FailNow()
		}
	}
}
