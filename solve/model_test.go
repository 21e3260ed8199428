package solve_test

import (
	"fmt"
	"math/rand"
	"strings"
	"testing"

	"pennyweight/api"
	"pennyweight/search"
	"pennyweight/solve"
	"pennyweight/wcsp"
)

// someWords are those of a file of few assignments, functions of up to 4
// variables, some of which share their lines.
func someWords(r *rand.Rand) []string {
	var sizes []int
	product, n := 1, 1+r.Intn(5)
	for range n {
		size := 1 + r.Intn(3)
		if product*size > 60 {
			size = 1
		}
		product *= size
		sizes = append(sizes, size)
	}
	k := []int64{1, 2, 9, 20, 20, 1000, api.MaxCost}[r.Intn(7)]
	funs := r.Intn(2*n + 1)
	text := fmt.Sprint("t ", n, " ", 3+r.Intn(2), " ", funs, " ", k)
	for _, size := range sizes {
		text += fmt.Sprint(" ", size)
	}
	shared := 0
	for range funs {
		scope := r.Perm(n)[:r.Intn(min(n, 4)+1)]
		arity, lines := len(scope), fmt.Sprint(lines(r, k, sizes, scope))
		if arity > 0 && r.Intn(4) == 0 {
			shared++
			arity = -arity
		} else if shared > 0 && r.Intn(4) == 0 {
			lines = fmt.Sprint(" -", 1+r.Intn(shared))
		}
		text += fmt.Sprint(" ", arity)
		for _, v := range scope {
			text += fmt.Sprint(" ", v)
		}
		text += fmt.Sprint(" ", max(0, r.Int63n(6)-3), lines)
	}
	return strings.Fields(text)
}

// lines are how many lines of a function there are, and these.
func lines(r *rand.Rand, k int64, sizes, scope []int) string {
	text, count := "", 0
	tuple := make([]int, len(scope))
	for {
		if r.Intn(3) == 0 {
			count++
			for _, v := range tuple {
				text += fmt.Sprint(" ", v)
			}
			text += fmt.Sprint(" ", []int64{0, 1 + r.Int63n(4), 1 + r.Int63n(4), r.Int63n(k + 1), k, k + r.Int63n(9)}[r.Intn(6)])
		}
		at := len(tuple) - 1
		for at >= 0 && tuple[at] == sizes[scope[at]]-1 {
			tuple[at] = 0
			at--
		}
		if at < 0 {
			return fmt.Sprint(" ", count, text)
		}
		tuple[at]++
	}
}

// someFault does something to the words, which are perhaps no file any more.
func someFault(r *rand.Rand, words []string) []string {
	at := r.Intn(len(words))
	other := []string{"0", "1", "2", "3", "-1", "-2", "x", "7", "33", "65", "2147483648", "2147483649", "99999999999999999999", "-", "\x00", "2\x80"}
	switch r.Intn(7) {
	case 0:
		words[at] = other[r.Intn(len(other))]
	case 1:
		words = append(words[:at], words[at+1:]...)
	case 2:
		words = append(words[:at], append([]string{other[r.Intn(len(other))]}, words[at:]...)...)
	case 3:
		words = words[:at]
	case 4:
		words = append(words, other[r.Intn(len(other))])
	case 5:
		with := r.Intn(len(words))
		words[at], words[with] = words[with], words[at]
	case 6:
		words[0] = strings.Repeat("n", api.MaxName+r.Intn(2))
	}
	return words
}

func joined(r *rand.Rand, words []string) []byte {
	var p []byte
	for _, w := range words {
		p = append(p, w...)
		p = append(p, someOf(r, " \t\n\r"))
	}
	return p[:max(0, len(p)-r.Intn(2))]
}

func someOf(r *rand.Rand, bytes string) byte { return bytes[r.Intn(len(bytes))] }

// few is whether all assignments of a file can be gone through here.
func few(f *wcsp.File) bool {
	product := 1
	for _, size := range f.Sizes {
		product = min(product*size, 1<<20)
	}
	return product <= 200
}

func someOption(r *rand.Rand, budget int64) search.Options {
	return search.Options{
		Level:  r.Intn(5),
		Degree: r.Intn(5) - 1,
		Order:  r.Intn(3),
		Value:  r.Intn(2),
		Split:  r.Intn(2) == 0,
		Budget: budget,
	}
}

// kinds are how many answers of each tag there were, and how many spent ones told
// an assignment, that weren't the least.
type kinds struct {
	tags                [7]int
	spentBest, spentNot int
}

// check holds what is told of some bytes against the file's own reader, and all
// its assignments.
func (k *kinds) check(t *testing.T, p []byte, r *rand.Rand) {
	t.Helper()
	o := someOption(r, r.Int63n(5))
	wrong := o
	wrong.Level += 5
	alone(t, p, wrong, solve.Wrong, 0)
	k.tags[solve.Wrong]++
	f, at, e := wcsp.Read(p)
	switch e {
	case api.ErrForm, api.ErrText:
		alone(t, p, o, solve.Malformed, at)
		k.tags[solve.Malformed]++
		return
	case api.ErrLarge:
		alone(t, p, o, solve.TooLarge, at)
		k.tags[solve.TooLarge]++
		return
	}
	if !few(f) {
		return
	}
	lowest, count := least(t, f)
	whole := o
	whole.Budget = 2*count + 1
	if a := held(t, p, f, lowest, whole); a.Tag == solve.Spent {
		t.Fatalf("%q: %+v: %+v", p, whole, a)
	}
	for _, o := range []search.Options{o, whole} {
		a := held(t, p, f, lowest, o)
		k.tags[a.Tag]++
		if a.Tag == solve.Spent && a.Best != nil {
			k.spentBest++
			if a.Cost > lowest {
				k.spentNot++
			}
		}
	}
}

func (k *kinds) enough(t *testing.T, least int, tags ...int) {
	t.Helper()
	for _, tag := range tags {
		if k.tags[tag] < least {
			t.Errorf("so many of each tag: %v", k.tags)
		}
	}
}

func TestSomeTexts(t *testing.T) {
	r := rand.New(rand.NewSource(1))
	var seen kinds
	for range 8000 {
		words := someWords(r)
		seen.check(t, joined(r, words), r)
		for range 1 + r.Intn(2) {
			if len(words) > 0 {
				words = someFault(r, words)
			}
		}
		seen.check(t, joined(r, words), r)
	}
	seen.enough(t, 200, solve.Optimum, solve.Nothing, solve.Spent, solve.Malformed, solve.TooLarge, solve.Wrong)
	if min(seen.spentBest, seen.spentNot) < 50 {
		t.Errorf("of those spent %d told one, %d not the least", seen.spentBest, seen.spentNot)
	}
}

// Any bytes: at random; of those that are in files; and files with bytes that
// were changed.
func TestSomeBytes(t *testing.T) {
	r := rand.New(rand.NewSource(2))
	var seen kinds
	for range 20000 {
		p := make([]byte, r.Intn(40))
		for i := range p {
			p[i] = byte(r.Intn(256))
		}
		seen.check(t, p, r)
		for i := range p {
			p[i] = someOf(r, " \n0112-9t")
		}
		seen.check(t, p, r)
		p = []byte(example)
		for range 1 + r.Intn(3) {
			p[r.Intn(len(p))] = someOf(r, "  \n\x010012223-9\xffx")
		}
		seen.check(t, p, r)
	}
	seen.enough(t, 200, solve.Optimum, solve.Spent, solve.Malformed, solve.Wrong)
}
