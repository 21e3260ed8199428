package wcsp

import (
	"slices"
	"strings"

	"pennyweight/api"
	"pennyweight/scan"
	"pennyweight/tuples"
)

// fault is the first thing that was wrong.
type fault struct {
	place int
	errno api.Errno
}

// function is what was read of one: lines of the cost Other are among its
// lines, as they cost that of a function that shares them, too.
type function struct {
	scope []int
	other int64
	lines []tuples.Line
}

// reader reads a file's words. What is malformed is the fault, behind which it
// reads nothing more: each count ends there, as it may be far more than there
// are words. What is too large it notes beside it, and reads on.
type reader struct {
	*scan.Scan
	fault
	large  fault
	name   string
	k      int64
	sizes  []int
	funs   []function
	shared []function
	told   int64
}

// Read tells the file, or what is wrong with it.
func Read(p []byte) (*File, int, api.Errno) {
	if len(p) > api.MaxBytes {
		return nil, 0, api.ErrLarge
	}
	r := reader{Scan: scan.New(p)}
	r.readAll()
	switch {
	case !r.right():
		return nil, r.place, r.errno
	case !r.large.right():
		return nil, r.large.place, r.large.errno
	}
	return r.file(), len(p), api.OK
}

func (f *fault) right() bool { return f.errno == api.OK }

func (f *fault) note(place int, e api.Errno) {
	if f.right() {
		*f = fault{place: place, errno: e}
	}
}

func (r *reader) readAll() {
	name, at := r.word()
	// Its own memory: else the file would keep the whole text.
	r.name = strings.Clone(name)
	r.limit(int64(len(name)), api.MaxName, at)
	n, at := r.number(1, scan.Far)
	r.limit(n, api.MaxVars, at)
	greatest, _ := r.number(-scan.Far, scan.Far)
	funs, at := r.number(0, scan.Far)
	r.limit(funs, api.MaxFuns, at)
	r.k, at = r.number(1, scan.Far)
	r.limit(r.k, api.MaxCost, at)
	for i := int64(0); i < n && r.right(); i++ {
		size, at := r.number(1, greatest)
		r.limit(size, api.MaxDomain, at)
		r.sizes = append(r.sizes, int(size))
	}
	for i := int64(0); i < funs && r.right(); i++ {
		r.funs = append(r.funs, r.function())
	}
	r.end()
}

func (r *reader) function() function {
	arity, at := r.number(-scan.Far, scan.Far)
	g := function{scope: r.scope(max(arity, -arity))}
	r.limit(int64(len(g.scope)), api.MaxArity, at)
	r.limit(int64(count(picked(r.sizes, g.scope))), api.MaxTable, at)
	g.other, _ = r.cost()
	g.lines = r.lines(g.scope)
	// Behind its lines: it can't share its own.
	if arity < 0 {
		r.shared = append(r.shared, g)
	}
	return g
}

func (r *reader) scope(arity int64) []int {
	var scope []int
	for i := int64(0); i < arity && r.right(); i++ {
		v, at := r.number(0, int64(len(r.sizes))-1)
		if slices.Contains(scope, int(v)) {
			r.note(at, api.ErrForm)
		}
		scope = append(scope, int(v))
	}
	return scope
}

func (r *reader) lines(scope []int) []tuples.Line {
	m, at := r.number(-scan.Far, scan.Far)
	if m < 0 {
		return r.linesOf(-m, scope, at)
	}
	// No wrap-round: all numbers but the last one had their words. (So many words
	// are more than MaxBytes, as the limits stand: this one is never passed.)
	r.told += m
	r.limit(r.told, api.MaxTuples, at)
	var lines []tuples.Line
	seen := map[string]int{}
	for i := int64(0); i < m && r.right(); i++ {
		x := r.tuple(scope)
		c, at := r.cost()
		key := text(x)
		if seen[key]++; seen[key] > 1 {
			r.note(at, api.ErrForm)
		}
		lines = append(lines, tuples.Line{Tuple: x, Cost: c})
	}
	return lines
}

// linesOf are the lines of the shared function s.
func (r *reader) linesOf(s int64, scope []int, at int) []tuples.Line {
	if s > int64(len(r.shared)) {
		r.note(at, api.ErrForm)
		return nil
	}
	g := r.shared[s-1]
	if !slices.Equal(picked(r.sizes, g.scope), picked(r.sizes, scope)) {
		r.note(at, api.ErrForm)
	}
	return g.lines
}

func (r *reader) tuple(scope []int) []int {
	x := make([]int, 0, len(scope))
	for _, v := range scope {
		c, _ := r.number(0, int64(r.sizes[v])-1)
		x = append(x, int(c))
	}
	return x
}

func (r *reader) cost() (int64, int) {
	c, at := r.number(0, scan.Far)
	return min(c, r.k), at
}

func (r *reader) end() {
	if r.right() && r.More() {
		_, at := r.word()
		r.note(at, api.ErrForm)
	}
}

// number is the next word's, which is from low to high.
func (r *reader) number(low, high int64) (int64, int) {
	w, at := r.word()
	n, e := scan.Read(w)
	if e != api.OK || n < low || n > high {
		r.note(at, api.ErrForm)
		return 0, at
	}
	return n, at
}

func (r *reader) word() (string, int) {
	if !r.right() {
		return "", r.place
	}
	w, at, e := r.Word()
	switch e {
	case api.ErrText:
		r.note(at, api.ErrText)
	case api.ErrNone:
		r.note(at, api.ErrForm)
	}
	return w, at
}

func (r *reader) limit(n, most int64, at int) {
	if n > most {
		r.large.note(at, api.ErrLarge)
	}
}

// file builds what was read, once it is known to be right and not too large.
func (r *reader) file() *File {
	f := &File{Name: r.name, K: r.k, Sizes: r.sizes}
	for _, g := range r.funs {
		t, _ := tuples.New(picked(r.sizes, g.scope), r.k, g.other)
		for _, l := range g.lines {
			t.Put(l.Tuple, l.Cost)
		}
		f.Funs = append(f.Funs, Fun{Scope: g.scope, Tuples: t})
	}
	return f
}

// text is a key of a tuple, which may be longer than any array.
func text(tuple []int) string {
	words := make([]string, len(tuple))
	for i, v := range tuple {
		words[i] = scan.Write(int64(v))
	}
	return strings.Join(words, " ")
}
