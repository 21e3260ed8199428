package desk_test

import (
	"fmt"
	"math/rand"
	"slices"
	"strings"
	"testing"

	"pennyweight/api"
	"pennyweight/desk"
	"pennyweight/state"
)

// forms are the lines' words, and what stands behind each: a letter of somePart's a word.
var forms = []struct{ word, behind string }{
	{"project", "fpvc"}, {"project", "fpvc"}, {"extend", "fpvc"}, {"extend", "fpvc"},
	{"lower", "ic"}, {"raise", "ic"}, {"prune", "iv"}, {"prune", "iv"}, {"assign", "iv"},
	{"eliminate", "id"}, {"all", "d"}, {"undo", "m"}, {"undo", "m"}, {"undo", "m"}, {"enforce", "l"},
	{"mark", ""}, {"mark", ""}, {"zero", ""}, {"dom", "i"}, {"unary", "i"}, {"costs", "f"}, {"scopes", ""},
	{"val", "a"}, {"rebuild", "a"}, {"level", ""}, {"bound", ""}, {"elims", ""}, {"print", ""},
	{"solve", "ldovsb"},
}

func oneOf(r *rand.Rand, l ...string) string { return l[r.Intn(len(l))] }

// someNumber is mostly one of the list, or 0 to most if that is empty.
func someNumber(r *rand.Rand, most int, l ...int) string {
	switch at := r.Intn(20); {
	case at == 0:
		return oneOf(r, "-1", "5", "9", "10", "300", "999999999999", "-999999999999", "2147483648", "4294967296")
	case at < 17 && len(l) > 0:
		return fmt.Sprint(l[r.Intn(len(l))])
	}
	return fmt.Sprint(r.Intn(most + 1))
}

// somePart is what stands for a letter: a function, a place, a variable, a value or one
// of solve's orders, a cost, a degree, a level, solve's yes or no, a budget.
func somePart(r *rand.Rand, letter rune, s *state.State) string {
	switch letter {
	case 'f':
		return someNumber(r, 4, live(s)...)
	case 'p', 'v', 'o', 'm':
		return someNumber(r, 2, 0, 0, 1)
	case 'i':
		return someNumber(r, 4, stay(s)...)
	case 'c':
		return someNumber(r, 4, 0, 1, 1, 2)
	case 'd':
		return someNumber(r, 3)
	case 'l':
		return oneOf(r, levels...)
	case 's':
		return oneOf(r, "yes", "no")
	}
	return someNumber(r, 30)
}

func live(s *state.State) []int {
	var l []int
	for j := range s.Funs() {
		if s.Live(j) {
			l = append(l, j)
		}
	}
	return l
}

func stay(s *state.State) []int {
	var l []int
	for i := range s.N() {
		if !s.Gone(i) {
			l = append(l, i)
		}
	}
	return l
}

// someLine is a right line, mostly of what there is in a state, if there is one.
func someLine(r *rand.Rand, s *state.State) string {
	form := forms[r.Intn(len(forms))]
	words := []string{form.word}
	behind := form.behind
	if behind == "a" {
		behind = strings.Repeat("v", max(0, s.N()+[]int{0, 0, 0, 0, 0, 0, 0, 0, 1, -1}[r.Intn(10)]))
	}
	for _, letter := range behind {
		words = append(words, somePart(r, letter, s))
	}
	return strings.Join(words, " ")
}

// someFault does something to a line, which is perhaps none of the table any more.
func someFault(r *rand.Rand, line string) string {
	words := strings.Split(line, " ")
	at := r.Intn(len(words))
	other := oneOf(r, "0", "1", "-1", "-0", "00", "x", "yes", "nc", "zero", "load", "1234567890123", "", "\t", "\x00")
	switch r.Intn(6) {
	case 0:
		words[at] = other
	case 1:
		words = slices.Delete(words, at, at+1)
	case 2:
		words = slices.Insert(words, at, other)
	case 3:
		words = append(words, other)
	case 4:
		words[at] += oneOf(r, "\n", "\r", "\t", "\x00", "\xff", " ", "0", "x")
	case 5:
		p := []byte(line)
		p[r.Intn(len(p))] = byte(r.Intn(256))
		return string(p)
	}
	return strings.Join(words, " ")
}

// someText is of a network of n variables and few assignments, whose functions are of
// up to 4 variables.
func someText(r *rand.Rand, n int) string {
	k := []int64{1, 2, 9, 20, 300, api.MaxCost}[r.Intn(6)]
	var sizes []int
	text := fmt.Sprint(oneOf(r, "t", "a;b", "-", "0"), " ", n, " 3 ", r.Intn(2*n+2), " ", k)
	for range n {
		sizes = append(sizes, 1+r.Intn(5)%3)
		text += fmt.Sprint(" ", sizes[len(sizes)-1])
	}
	funs := 0
	fmt.Sscan(strings.Fields(text)[3], &funs)
	for range funs {
		text += someFun(r, k, sizes)
	}
	return text
}

func someFun(r *rand.Rand, k int64, sizes []int) string {
	scope := r.Perm(len(sizes))[:min(len(sizes), []int{0, 1, 1, 2, 2, 2, 2, 3, 4}[r.Intn(9)])]
	text := fmt.Sprint(" ", len(scope)) + spread(scope)
	var of []int
	for _, i := range scope {
		of = append(of, sizes[i])
	}
	tuples := tuplesOf(of)
	text += fmt.Sprint(" ", min(k, r.Int63n(3)), " ", len(tuples))
	for _, x := range tuples {
		text += spread(x) + fmt.Sprint(" ", []int64{0, 0, 0, 1, r.Int63n(5), r.Int63n(k + 1), k}[r.Intn(7)])
	}
	return text
}

// TestRandomLines has lines of the table, some of which aren't right, now and then
// behind another network that is loaded, or not.
func TestRandomLines(t *testing.T) {
	r := rand.New(rand.NewSource(1))
	oks, refused := map[string]int{}, map[string]int{}
	for range 1500 {
		p := pairOf(t)
		for range 40 {
			line := someLine(r, p.d.State())
			switch at := r.Intn(60); {
			case at < 2 || p.d.State() == nil && at < 40:
				line = "load " + someText(r, 1+r.Intn(4))
			case at == 3:
				line = "load " + someFault(r, someText(r, 1+r.Intn(4)))
			case at < 8:
				line = someFault(r, line)
			}
			p.do(line)
		}
		for word, count := range p.oks {
			oks[word] += count
		}
		for word, count := range p.refused {
			refused[word] += count
		}
	}
	for _, form := range forms {
		if oks[form.word] < 100 || refused[form.word] < 20 {
			t.Errorf("%s: %d times answered, %d times an error", form.word, oks[form.word], refused[form.word])
		}
	}
}

// TestRandomBytes has any bytes as lines, also of those alone that lines are made of.
func TestRandomBytes(t *testing.T) {
	r := rand.New(rand.NewSource(2))
	for range 300 {
		p := pairOf(t)
		for range 60 {
			line := make([]byte, r.Intn(12))
			r.Read(line)
			if kind := r.Intn(4); kind > 0 {
				for i := range line {
					line[i] = []string{" 01-9", "dom zero 01", "load val \n\t10"}[kind-1][int(line[i])%(2+3*kind)]
				}
			}
			switch r.Intn(8) {
			case 0:
				line = append([]byte("load "), line...)
			case 1:
				line = append([]byte(oneOf(r, "val ", "dom ", "enforce ", "solve nc ", "all ", "print")), line...)
			case 2:
				line = []byte("load " + someText(r, 1+r.Intn(3)))
			}
			p.do(string(line))
		}
	}
}

// TestRandomRuns has the same lines all at once, and one by one; and again.
func TestRandomRuns(t *testing.T) {
	r := rand.New(rand.NewSource(3))
	for range 500 {
		var lines, want []string
		p := pairOf(t)
		for at := range r.Intn(30) {
			line := someLine(r, p.d.State())
			if at == 2 || r.Intn(30) == 0 {
				line = "load " + someText(r, 1+r.Intn(3))
			} else if r.Intn(8) == 0 {
				line = strings.ReplaceAll(someFault(r, line), "\n", "\r")
			}
			lines, want = append(lines, line), append(want, p.do(line))
		}
		if len(lines) == 0 {
			want = []string{"error 4"}
		}
		for range 2 {
			if got := desk.Run(strings.Join(lines, "\n")); !slices.Equal(got, want) {
				t.Fatalf("Run(%.999q):\n%.999q, not\n%.999q", lines, got, want)
			}
		}
	}
}

// TestRandomRebuild takes out all that can be, and finds each assignment that is left
// again: it costs in the state ahead what it was told to cost.
func TestRandomRebuild(t *testing.T) {
	r := rand.New(rand.NewSource(4))
	found := 0
	for range 500 {
		p, n := pairOf(t), 1+r.Intn(4)
		p.do("load " + someText(r, n))
		p.do("enforce " + oneOf(r, levels...))
		p.do(fmt.Sprint("prune 0 ", r.Intn(3)))
		ahead := look(p.d.State())
		all := assignmentsOf(p.d.State())
		p.do(fmt.Sprint("all ", r.Intn(4)))
		for at := range all {
			told := p.do("rebuild" + spread(all[at]))
			val := p.do("val" + spread(all[at]))
			if !strings.HasPrefix(told, "rebuild ") {
				continue
			}
			found++
			again := slices.IndexFunc(all, func(a []int) bool { return told == "rebuild"+spread(a) })
			if want := fmt.Sprint("val ", ahead.vals[again]); val != want {
				t.Fatalf("%v costs %q: %q costs %q", all[at], val, told, want)
			}
		}
	}
	if found < 1000 {
		t.Errorf("found again: %d", found)
	}
}
