package plain_test

import (
	"bytes"
	"math/rand"
	"slices"
	"strconv"
	"strings"
	"testing"

	"pennyweight/api"
	"pennyweight/plain"
	"pennyweight/tuples"
	"pennyweight/wcsp"
)

const top = int64(api.MaxCost)

func read(t *testing.T, text string) *wcsp.File {
	t.Helper()
	f, at, e := wcsp.Read([]byte(text))
	if e != api.OK {
		t.Fatalf("Read(%.99q): place %d, error %d", text, at, e)
	}
	return f
}

func printed(t *testing.T, f *wcsp.File) string {
	t.Helper()
	p, e := plain.Print(f)
	if e != api.OK {
		t.Fatalf("Print(%v): error %d", f, e)
	}
	return string(p)
}

func canon(t *testing.T, f *wcsp.File) *wcsp.File {
	t.Helper()
	g, e := plain.Canon(f)
	if e != api.OK || g == nil || g == f || g.Right() != api.OK {
		t.Fatalf("Canon(%v): %v, error %d", f, g, e)
	}
	return g
}

// canonText needs a text of a file, and answers that of its canonical one.
func canonText(t *testing.T, text string) string {
	t.Helper()
	return printed(t, canon(t, read(t, text)))
}

func fun(t *testing.T, k, other int64, sizes []int, scope ...int) wcsp.Fun {
	t.Helper()
	x, e := tuples.New(sizes, k, other)
	if e != api.OK {
		t.Fatalf("New(%v, %d, %d): error %d", sizes, k, other, e)
	}
	return wcsp.Fun{Scope: scope, Tuples: x}
}

func TestPrint(t *testing.T) {
	for _, x := range [][2]string{
		{"t 2 2 1 9 2 2, 2 0 1 0 1, 1 1 5", "t 2 2 1 9\n2 2\n2 0 1 0 1\n1 1 5\n"},
		{"?!~ 3 99 0 2147483648 1 32 007", "?!~ 3 32 0 2147483648\n1 32 7\n"},
		{"7 1 1 0 1 1", "7 1 1 0 1\n1\n"},
		{"t 1 2 2 9 2, 0 5 0, 0 1 1 3", "t 1 2 2 9\n2\n0 5 0\n0 1 1\n3\n"},
		{"t 3 4 3 9 2 4 3, 3 2 0 1 7 3 2 1 3 0 1 0 0 99 1 1 1 7, 1 1 99 0, -1 2 3 2 2 1 1 2", "t 3 4 3 9\n2 4 3\n3 2 0 1 7 2\n1 0 0 9\n2 1 3 0\n1 1 9 0\n1 2 3 2\n1 2\n2 1\n"},
		{"t 2 2 3 9 2 2, -1 1 0 2 0 1 1 2, 1 0 1 -1, -1 0 2 -1", "t 2 2 3 9\n2 2\n1 1 0 2\n0 1\n1 2\n1 0 1 1\n1 2\n1 0 2 1\n0 1\n"},
		{"t 1 12 1 99 12, 1 0 0 3 10 1 9 2 11 3", "t 1 12 1 99\n12\n1 0 0 3\n9 2\n10 1\n11 3\n"},
	} {
		f := read(t, strings.ReplaceAll(x[0], ",", ""))
		if p := printed(t, f); p != x[1] {
			t.Errorf("%q: %q, not %q", x[0], p, x[1])
		}
		if g := read(t, x[1]); !plain.Same(f, g) || printed(t, g) != x[1] {
			t.Errorf("%q is read again as %v", x[1], g)
		}
	}
}

// long is a file of two functions on 4096 tuples each, whose text is as long as
// told: lines are put till few bytes lack, and the name does the rest.
func long(t *testing.T, bytes int) *wcsp.File {
	t.Helper()
	f := &wcsp.File{Name: "n", K: 9, Sizes: []int{16, 16, 16}}
	for range 2 {
		f.Funs = append(f.Funs, fun(t, 9, 0, []int{16, 16, 16}, 0, 1, 2))
	}
	const longest = len("15 15 15 1\n")
	for n, lack := 0, bytes; lack > 60; lack = bytes - len(printed(t, f)) {
		for range lack / longest {
			f.Funs[n/4096].Tuples.Put([]int{n / 256 % 16, n / 16 % 16, n % 16}, 1)
			n++
		}
	}
	f.Name = strings.Repeat("n", 1+bytes-len(printed(t, f)))
	return f
}

func TestPrintTooLong(t *testing.T) {
	f := long(t, api.MaxBytes)
	p := printed(t, f)
	if len(p) != api.MaxBytes {
		t.Fatalf("%d bytes", len(p))
	}
	if !plain.Same(f, read(t, p)) {
		t.Error("what is as long as it may be isn't read again")
	}
	f.Name += "n"
	if p, e := plain.Print(f); p != nil || e != api.ErrLarge || f.Right() != api.OK {
		t.Errorf("of a byte more: %d bytes, error %d", len(p), e)
	}
	f.Funs = slices.Repeat(f.Funs[:1], api.MaxFuns)
	if p, e := plain.Print(f); p != nil || e != api.ErrLarge {
		t.Errorf("of far too many: %d bytes, error %d", len(p), e)
	}
	// Not at the last function alone is it too long.
	f.Funs = append(f.Funs[:2], fun(t, 9, 0, nil))
	if p, e := plain.Print(f); p != nil || e != api.ErrLarge {
		t.Errorf("with a short one behind: %d bytes, error %d", len(p), e)
	}
}

func TestPrintOfSharedLinesTooLong(t *testing.T) {
	f := long(t, api.MaxBytes)
	f.Funs = f.Funs[:1]
	text := strings.Replace(printed(t, f), " 1 9\n", " 9 9\n", 1)
	text = strings.Replace(text, "\n3 0 1 2", "\n-3 0 1 2", 1) + strings.Repeat("3 2 1 0 0 -1\n", 8)
	g := read(t, text)
	if p, e := plain.Print(g); p != nil || e != api.ErrLarge {
		t.Errorf("%d bytes, error %d", len(p), e)
	}
	if c := canon(t, g); len(c.Funs) != 1 || c.Funs[0].Tuples.Other() != 9 || c.Funs[0].Tuples.Len() != 0 {
		t.Errorf("%v", c)
	}
}

func wrongFiles(t *testing.T) map[api.Errno][]*wcsp.File {
	t.Helper()
	many := &wcsp.File{Name: "t", K: 9, Sizes: []int{1}, Funs: slices.Repeat([]wcsp.Fun{fun(t, 9, 1, nil)}, api.MaxFuns+1)}
	return map[api.Errno][]*wcsp.File{
		api.ErrNone: {nil},
		api.ErrArg: {
			{}, {Name: "a b", K: 9, Sizes: []int{1}}, {Name: "t", K: 0, Sizes: []int{1}}, {Name: "t", K: 9}, {Name: "t", K: 9, Sizes: []int{33}},
			{Name: "t", K: 9, Sizes: []int{1}, Funs: []wcsp.Fun{{}}},
			{Name: "t", K: 9, Sizes: []int{2, 2}, Funs: []wcsp.Fun{fun(t, 9, 1, []int{2, 2}, 1, 1)}},
			{Name: "", K: 9, Sizes: []int{1}, Funs: many.Funs},
		},
		api.ErrLarge: {
			many, {Name: strings.Repeat("n", 65), K: 9, Sizes: []int{1}}, {Name: "t", K: 9, Sizes: slices.Repeat([]int{1}, 65)},
			{Name: "t", K: 9, Sizes: []int{32, 32, 5}, Funs: []wcsp.Fun{fun(t, 9, 1, []int{32, 32, 5}, 0, 1, 2)}},
		},
	}
}

func TestWrongFiles(t *testing.T) {
	for want, l := range wrongFiles(t) {
		for _, f := range l {
			if p, e := plain.Print(f); p != nil || e != want {
				t.Errorf("Print(%v): %q, error %d, not %d", f, p, e, want)
			}
			if g, e := plain.Canon(f); g != nil || e != want {
				t.Errorf("Canon(%v): %v, error %d, not %d", f, g, e, want)
			}
			if !plain.Same(f, f) || f != nil && !plain.Same(f, f.Copy()) {
				t.Errorf("%v isn't the same as itself", f)
			}
		}
	}
}

func TestCanon(t *testing.T) {
	for what, x := range map[string][2]string{
		"no functions":             {"t 2 9 0 9 2 3", "t 2 3 0 9\n2 3\n"},
		"the example":              {"t 2 2 2 9 2 2, 2 1 0 0 1 0 1 4, 2 0 1 1 1 0 0 0", "t 2 2 1 9\n2 2\n2 0 1 1 2\n0 0 0\n1 0 5\n"},
		"a scope that falls":       {"t 2 3 1 9 2 3, 2 1 0 0 2 2 0 4 0 1 5", "t 2 3 1 9\n2 3\n2 0 1 0 2\n0 2 4\n1 0 5\n"},
		"a scope that turns":       {"t 3 4 1 9 2 3 4, 3 1 2 0 0 2 2 3 0 4 0 1 1 5", "t 3 4 1 9\n2 3 4\n3 0 1 2 0 2\n0 2 3 4\n1 0 1 5\n"},
		"no variables":             {"t 1 2 3 9 2, 0 2 0, 0 0 1 3, 0 1 0", "t 1 2 1 9\n2\n0 6 0\n"},
		"no variables at the top":  {"t 1 2 2 9 2, 0 5 0, 0 4 0", "t 1 2 1 9\n2\n0 9 0\n"},
		"nothing without a scope":  {"t 1 2 2 9 2, 0 0 0, 0 5 1 0", "t 1 2 0 9\n2\n"},
		"sums up to the top":       {"t 1 4 2 9 4, 1 0 5 2 0 3 1 9, 1 0 4 2 0 5 1 9", "t 1 4 1 9\n4\n1 0 9 1\n0 8\n"},
		"costs nothing":            {"t 2 2 4 9 2 2, 1 0 0 0, 1 0 3 2 0 0 1 0, 2 0 1 0 0, 1 1 0 1 1 1", "t 2 2 1 9\n2 2\n1 1 0 1\n1 1\n"},
		"costs the most":           {"t 1 2 1 1 2, 1 0 1 1 1 0", "t 1 2 1 1\n2\n1 0 0 1\n0 1\n"},
		"several most":             {"t 1 6 1 9 6, 1 0 5 5 0 2 1 8 2 8 3 2 4 1", "t 1 6 1 9\n6\n1 0 2 4\n1 8\n2 8\n4 1\n5 5\n"},
		"several most, all once":   {"t 1 3 1 9 3, 1 0 5 2 0 7 1 3", "t 1 3 1 9\n3\n1 0 3 2\n0 7\n2 5\n"},
		"more than the least":      {"t 1 4 1 9 4, 1 0 0 3 0 7 1 7 2 7", "t 1 4 1 9\n4\n1 0 7 1\n3 0\n"},
		"most of them were lines":  {"t 1 3 1 9 3, 1 0 4 3 0 6 1 6 2 6", "t 1 3 1 9\n3\n1 0 6 0\n"},
		"by arity, then by scope":  {"t 12 2 9 9 2 2 2 2 2 2 2 2 2 2 2 2, 2 2 1 1 0, 1 10 1 0, 3 0 1 2 1 0, 2 11 0 1 0, 1 2 1 0, 0 1 0, 2 10 0 1 0, 2 1 3 1 0, 2 0 2 1 0", "t 12 2 9 9\n2 2 2 2 2 2 2 2 2 2 2 2\n0 1 0\n1 2 1 0\n1 10 1 0\n2 0 2 1 0\n2 0 10 1 0\n2 0 11 1 0\n2 1 2 1 0\n2 1 3 1 0\n3 0 1 2 1 0\n"},
		"the same in many orders":  {"t 3 2 4 99 2 2 2, 3 0 1 2 0 1 0 0 1 1, 3 2 0 1 0 1 1 0 0 2, 1 1 0 1 1 7, 3 1 2 0 0 2 0 1 0 4 1 1 1 8", "t 3 2 2 99\n2 2 2\n1 1 0 1\n1 7\n3 0 1 2 0 2\n0 0 1 7\n1 1 1 8\n"},
		"shared, then put as one":  {"t 3 2 3 99 2 2 2, -2 0 1 0 1 0 1 5, 2 1 0 1 -1, 2 2 1 0 -1", "t 3 2 2 99\n2 2 2\n2 0 1 1 2\n0 1 6\n1 0 5\n2 1 2 0 1\n1 0 5\n"},
		"the greatest of all tops": {"t 1 2 2 2147483648 2, 1 0 2147483647 1 0 0, 1 0 1 0", "t 1 2 1 2147483648\n2\n1 0 1 1\n1 2147483648\n"},
	} {
		if p := canonText(t, strings.ReplaceAll(x[0], ",", "")); p != x[1] {
			t.Errorf("%s: %q, not %q", what, p, x[1])
		}
	}
}

func TestCanonIsNewMemory(t *testing.T) {
	f := read(t, "t 2 2 2 9 2 2 2 0 1 0 1 0 1 4 1 1 0 1 1 2")
	was := printed(t, f)
	g := canon(t, f)
	text := printed(t, g)
	h := canon(t, g)
	if printed(t, f) != was || printed(t, g) != text {
		t.Error("Canon changed what it was given")
	}
	f.Sizes[0], f.Funs[0].Scope[0] = 1, 1
	f.Funs[0].Tuples.Put([]int{0, 0}, 9)
	if printed(t, g) != text {
		t.Error("a change of the file is one of the canonical file")
	}
	g.Sizes[0], g.Funs[1].Scope[0] = 1, 1
	g.Funs[0].Tuples.Put([]int{0}, 9)
	if printed(t, h) != text {
		t.Error("a change of the canonical file is one of its own")
	}
}

func TestPrintIsNewMemory(t *testing.T) {
	f := read(t, "t 2 2 1 9 2 2 2 1 0 0 1 0 1 4")
	p, _ := plain.Print(f)
	was := bytes.Clone(p)
	q, _ := plain.Print(f)
	clear(p)
	if !bytes.Equal(q, was) || printed(t, f) != string(was) {
		t.Errorf("%q", q)
	}
}

func TestSame(t *testing.T) {
	const text = "t 2 2 2 9 2 2 1 0 0 1 1 5 2 0 1 3 1 0 1 4"
	f := read(t, text)
	for _, alike := range []string{
		text,
		"t 2 99 2 9 2 2 1 0 0 1 1 5 2 0 1 3 1 0 1 4",
		"t 2 2 2 9 2 2 1 0 5 1 0 0 2 0 1 3 1 0 1 4",
		"t 2 2 2 9 2 2 1 0 0 2 1 5 0 0 2 0 1 4 3 0 0 3 1 0 3 1 1 3",
		"t 2 2 2 9 2 2 1 0 8 2 1 5 0 0 2 0 1 8 4 0 0 3 0 1 4 1 0 3 1 1 3",
	} {
		if g := read(t, alike); !plain.Same(f, g) || !plain.Same(g, f) {
			t.Errorf("%q isn't the same", alike)
		}
	}
	for _, other := range []string{
		"u 2 2 2 9 2 2 1 0 0 1 1 5 2 0 1 3 1 0 1 4",
		"t 2 2 2 8 2 2 1 0 0 1 1 5 2 0 1 3 1 0 1 4",
		"t 3 2 2 9 2 2 2 1 0 0 1 1 5 2 0 1 3 1 0 1 4",
		"t 3 2 2 9 2 2 1 1 0 0 1 1 5 2 0 1 3 1 0 1 4",
		"t 2 2 2 9 2 2 1 1 0 1 1 5 2 0 1 3 1 0 1 4",
		"t 2 2 2 9 2 2 1 0 0 1 1 5 2 1 0 3 1 0 1 4",
		"t 2 2 2 9 2 2 1 0 0 1 1 6 2 0 1 3 1 0 1 4",
		"t 2 2 2 9 2 2 1 0 0 1 0 5 2 0 1 3 1 0 1 4",
		"t 2 2 2 9 2 2 1 0 0 1 1 5 2 0 1 2 1 0 1 4",
		"t 2 2 2 9 2 2 1 0 0 1 1 5 2 0 1 3 0",
		"t 2 2 2 9 2 2 2 0 1 3 1 0 1 4 1 0 0 1 1 5",
		"t 2 2 1 9 2 2 1 0 0 1 1 5",
		"t 2 2 3 9 2 2 1 0 0 1 1 5 2 0 1 3 1 0 1 4 0 0 0",
		"t 2 2 0 9 2 2",
	} {
		if g := read(t, other); plain.Same(f, g) || plain.Same(g, f) {
			t.Errorf("%q is the same", other)
		}
	}
	// Sizes count, though the functions are the same.
	if plain.Same(read(t, "t 2 3 0 9 2 3"), read(t, "t 2 3 0 9 3 2")) {
		t.Error("other sizes are the same")
	}
	if printed(t, f) != "t 2 2 2 9\n2 2\n1 0 0 1\n1 5\n2 0 1 3 1\n0 1 4\n" {
		t.Errorf("Same changed it: %q", printed(t, f))
	}
}

func TestSameOfFilesByHand(t *testing.T) {
	f := read(t, "t 1 2 1 9 2 1 0 0 0")
	if plain.Same(nil, f) || plain.Same(f, nil) || !plain.Same(nil, nil) || plain.Same(nil, new(wcsp.File)) {
		t.Error("nil files")
	}
	g := f.Copy()
	g.Funs[0].Tuples = nil
	if plain.Same(f, g) || plain.Same(g, f) || !plain.Same(g, g.Copy()) {
		t.Error("nil Tuples")
	}
	if !plain.Same(&wcsp.File{Sizes: []int{}, Funs: []wcsp.Fun{{Scope: []int{}}}}, &wcsp.File{Funs: []wcsp.Fun{{}}}) {
		t.Error("nil and empty lists aren't the same")
	}
	g = f.Copy()
	g.Funs[0] = fun(t, 8, 0, []int{2}, 0)
	if plain.Same(f, g) {
		t.Error("another top of a function is the same")
	}
}

// all are all tuples of these sizes in their order.
func all(sizes []int) [][]int {
	if len(sizes) == 0 {
		return [][]int{{}}
	}
	var l [][]int
	for v := range sizes[0] {
		for _, rest := range all(sizes[1:]) {
			l = append(l, append([]int{v}, rest...))
		}
	}
	return l
}

func numbers(l []int) string {
	text := ""
	for _, n := range l {
		text += " " + strconv.Itoa(n)
	}
	return text
}

// function is the text of a function with these costs, by the tuples' order.
func function(scope, sizes []int, costs []int64, other int64) string {
	lines, n := "", 0
	for i, x := range all(sizes) {
		if costs[i] != other {
			lines += strings.TrimPrefix(numbers(x)+" ", " ") + strconv.FormatInt(costs[i], 10) + "\n"
			n++
		}
	}
	return strconv.Itoa(len(scope)) + numbers(scope) + " " + strconv.FormatInt(other, 10) + " " + strconv.Itoa(n) + "\n" + lines
}

func mostly(costs []int64) int64 {
	times := map[int64]int{}
	for _, c := range costs {
		times[c]++
	}
	best := costs[0]
	for c, n := range times {
		if n > times[best] || n == times[best] && c < best {
			best = c
		}
	}
	return best
}

// network is a file by all of its costs.
type network struct {
	k     int64
	sizes []int
	funs  []costs
}

type costs struct {
	scope []int
	by    map[string]int64
}

func random(r *rand.Rand) network {
	n := network{k: 1 + r.Int63n(30)}
	for range 1 + r.Intn(4) {
		n.sizes = append(n.sizes, 1+r.Intn(3))
	}
	for range r.Intn(9) {
		c := costs{scope: r.Perm(len(n.sizes))[:r.Intn(len(n.sizes)+1)], by: map[string]int64{}}
		greatest := min(n.k, r.Int63n(12))
		for _, x := range all(n.sizesOf(c.scope)) {
			c.by[numbers(x)] = r.Int63n(greatest + 1)
		}
		n.funs = append(n.funs, c)
	}
	return n
}

func (n network) sizesOf(scope []int) []int {
	var l []int
	for _, v := range scope {
		l = append(l, n.sizes[v])
	}
	return l
}

func (n network) file(t *testing.T, r *rand.Rand) *wcsp.File {
	t.Helper()
	f := &wcsp.File{Name: "r", K: n.k, Sizes: slices.Clone(n.sizes)}
	for _, c := range n.funs {
		g := fun(t, n.k, r.Int63n(n.k+1), n.sizesOf(c.scope), slices.Clone(c.scope)...)
		for _, x := range all(n.sizesOf(c.scope)) {
			g.Tuples.Put(x, c.by[numbers(x)])
		}
		f.Funs = append(f.Funs, g)
	}
	return f
}

// canonical is the text that the canonical file is to have: each set of
// variables, by its number of them, is looked for in all functions.
func (n network) canonical() string {
	text, count := "", 0
	for _, scope := range sets(len(n.sizes)) {
		sums := make([]int64, len(all(n.sizesOf(scope))))
		for _, c := range n.funs {
			if !slices.Equal(slices.Sorted(slices.Values(c.scope)), scope) {
				continue
			}
			for i, x := range all(n.sizesOf(scope)) {
				var turned []int
				for _, v := range c.scope {
					turned = append(turned, x[slices.Index(scope, v)])
				}
				sums[i] = min(sums[i]+c.by[numbers(turned)], n.k)
			}
		}
		if slices.Max(sums) > 0 {
			count++
			text += function(scope, n.sizesOf(scope), sums, mostly(sums))
		}
	}
	head := "r " + strconv.Itoa(len(n.sizes)) + " " + strconv.Itoa(slices.Max(n.sizes)) + " " + strconv.Itoa(count) + " " + strconv.FormatInt(n.k, 10) + "\n"
	return head + strings.TrimPrefix(numbers(n.sizes), " ") + "\n" + text
}

// sets are all rising lists of variables, those of fewer ahead.
func sets(n int) [][]int {
	var l [][]int
	for bits := range 1 << n {
		set := []int{}
		for v := range n {
			if bits>>v&1 == 1 {
				set = append(set, v)
			}
		}
		l = append(l, set)
	}
	slices.SortFunc(l, func(a, b []int) int {
		if len(a) != len(b) {
			return len(a) - len(b)
		}
		return slices.Compare(a, b)
	})
	return l
}

func TestRandom(t *testing.T) {
	r := rand.New(rand.NewSource(1))
	for range 1500 {
		n := random(r)
		f := n.file(t, r)
		text := printed(t, f)
		again := read(t, text)
		if !plain.Same(f, again) || printed(t, again) != text {
			t.Fatalf("%q is read again as %q", text, printed(t, again))
		}
		for j, g := range again.Funs {
			if g.Tuples.Other() != f.Funs[j].Tuples.Other() {
				t.Fatalf("%q: the function %d has another Other", text, j)
			}
		}
		g := canon(t, f)
		if p := printed(t, g); p != n.canonical() {
			t.Fatalf("Canon of %q: %q, not %q", text, p, n.canonical())
		}
		if printed(t, f) != text {
			t.Fatalf("Canon changed %q", text)
		}
		for _, a := range all(n.sizes) {
			c, _ := f.Val(a)
			if d, e := g.Val(a); c != d || e != api.OK {
				t.Fatalf("Val(%v) of %q: %d, of its canonical file %d, error %d", a, text, c, d, e)
			}
		}
		r.Shuffle(len(n.funs), func(i, j int) { n.funs[i], n.funs[j] = n.funs[j], n.funs[i] })
		if h := canon(t, n.file(t, r)); !plain.Same(g, h) || printed(t, g) != printed(t, h) || !plain.Same(g, canon(t, g)) {
			t.Fatalf("%q in another order has another canonical file: %q", text, printed(t, h))
		}
	}
}

func TestCanonOfMuch(t *testing.T) {
	f := &wcsp.File{Name: "t", K: top, Sizes: []int{16, 16, 16, 2}}
	g := fun(t, top, 3, []int{16, 16, 16}, 2, 0, 1)
	g.Tuples.Put([]int{15, 0, 1}, top-1)
	f.Funs = slices.Repeat([]wcsp.Fun{g}, api.MaxFuns)
	if p := printed(t, canon(t, f)); p != "t 4 16 1 2147483648\n16 16 16 2\n3 0 1 2 768 1\n0 1 15 2147483648\n" {
		t.Errorf("%q", p)
	}
}
