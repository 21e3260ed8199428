package desk_test

import (
	"fmt"
	"math/rand"
	"slices"
	"strings"
	"testing"

	"pennyweight/api"
	"pennyweight/desk"
	"pennyweight/table"
)

func does(t *testing.T, d *desk.Desk, line, want string) {
	t.Helper()
	if got := d.Do(line); got != want {
		t.Fatalf("Do(%q): %q, not %q", line, got, want)
	}
}

// TestStateIsThatOne works on the state by lines and by its own calls, in turns.
func TestStateIsThatOne(t *testing.T) {
	d := desk.New()
	if d.State() != nil {
		t.Fatal("a new desk has a state")
	}
	d.Do(small)
	s := d.State()
	if s == nil || d.State() != s {
		t.Fatalf("the states %p, %p", s, d.State())
	}
	does(t, d, "lower 0 3", "ok")
	if s.Zero() != 5 {
		t.Fatalf("Zero is %d", s.Zero())
	}
	s.SetZero(7)
	does(t, d, "zero", "zero 7")
	s.Mark()
	does(t, d, "mark", "mark 1")
	s.Drop(1, 0)
	s.SetUnary(1, 2, 4)
	does(t, d, "unary 1", "unary 1:0 2:4")
	does(t, d, "dom 1", "dom 1 2")
	s.SetCost(1, []int{1, 0}, 0)
	s.Kill(0)
	does(t, d, "scopes", "scopes 1:1,2")
	does(t, d, "costs 1", "costs 1,0:0 1,1:6 2,0:0 2,1:0")
	does(t, d, "undo 0", "ok")
	if s.Depth() != 0 || s.Dom(1).Len() != 3 || !s.Live(0) || s.Zero() != 7 || d.State() != s {
		t.Fatal(look(s))
	}
}

// TestWide has a function of as many variables, and of as many tuples, as there may be,
// two of one scope, and one that is killed.
func TestWide(t *testing.T) {
	p := pairOf(t)
	p.do("load w 6 4 0 99 4 4 4 4 4 4")
	costs, _ := table.New([]int{4, 4, 4, 4, 4, 4}, 99, 3)
	costs.Put([]int{3, 0, 1, 2, 0, 3}, 98)
	pairs, _ := table.New([]int{4, 4}, 99, 1)
	for _, s := range []interface {
		Add([]int, *table.Table) (int, api.Errno)
		Kill(int) api.Errno
		Drop(int, int) api.Errno
	}{p.d.State(), p.w.s} {
		s.Add([]int{2, 5}, pairs)
		s.Add([]int{0, 1, 2, 3, 4, 5}, costs)
		s.Add([]int{2, 5}, pairs)
		s.Add([]int{0, 1}, pairs)
		s.Kill(0)
		for i := range 6 {
			s.Drop(i, i%4)
		}
	}
	plain := func(line string) string {
		got, want := p.d.Do(line), p.w.do(line)
		if got != want {
			t.Fatalf("Do(%q): %.999q, not %.999q", line, got, want)
		}
		return got
	}
	for _, line := range []string{"costs 0", "costs 1", "costs 2", "costs 3", "costs 4", "scopes"} {
		plain(line)
	}
	if got := strings.Fields(plain("costs 1")); len(got) != 1+729 || got[1] != "1,0,0,0,1,0:3" || !slices.Contains(got, "3,0,1,2,1,3:3") {
		t.Fatal(got)
	}
	if got := plain("scopes"); got != "scopes 1:0,1,2,3,4,5 2:2,5 3:0,1" {
		t.Fatal(got)
	}
	if got := plain("costs 2"); got != "costs 0,0:1 0,2:1 0,3:1 1,0:1 1,2:1 1,3:1 3,0:1 3,2:1 3,3:1" {
		t.Fatal(got)
	}
}

// TestOneByOne has each line behind each other one.
func TestOneByOne(t *testing.T) {
	for _, first := range rightLines {
		for _, second := range rightLines {
			p := pairOf(t)
			for _, line := range []string{small, "mark", first, second, "level", "bound", "elims"} {
				p.do(line)
			}
		}
	}
}

func TestSolveOptions(t *testing.T) {
	p := pairOf(t)
	p.do(small)
	for _, level := range levels {
		for n := range 5 * 3 * 2 * 2 * 3 {
			split, budget := []string{"yes", "no"}[n/30%2], []int{0, 2, 25}[n/60]
			p.do(fmt.Sprint("solve ", level, " ", n%5-1, " ", n/5%3, " ", n/15%2, " ", split, " ", budget))
		}
	}
	if p.refused["solve"] > 0 || p.oks["solve"] != 900 {
		t.Fatal(p.oks, p.refused)
	}
	got := p.do("solve edac -1 0 0 no 25") // 2 times the assignments, and 1
	for _, level := range levels {
		if one := p.do("solve " + level + " 3 2 1 yes 25"); one != got || got != "optimum 7 0 0 1" {
			t.Fatal(got, one)
		}
	}
}

// TestSolveOrders tells apart what stands for the degree, the order, the value, and split:
// the least budget with which it is done isn't the same of all.
func TestSolveOrders(t *testing.T) {
	r := rand.New(rand.NewSource(6))
	least := func(p *pair, options string) int {
		for budget := 1; ; budget++ {
			if !strings.HasPrefix(p.do(fmt.Sprint("solve ", options, " ", budget)), "spent") {
				return budget
			}
		}
	}
	apart := make([]bool, 5)
	for range 200 {
		p := pairOf(t)
		p.do("load " + someText(r, 4))
		one := least(p, "none -1 0 0 no")
		for at, options := range []string{"edac -1 0 0 no", "none 2 0 0 no", "none -1 1 0 no", "none -1 0 1 no", "none -1 0 0 yes"} {
			apart[at] = apart[at] || least(p, options) != one
		}
	}
	if slices.Contains(apart, false) {
		t.Fatal(apart)
	}
}

func runs(t *testing.T, text string, want ...string) {
	t.Helper()
	for range 2 {
		if got := desk.Run(text); !slices.Equal(got, want) {
			t.Fatalf("Run(%.99q): %.99q, not %.99q", text, got, want)
		}
	}
}

func TestRun(t *testing.T) {
	runs(t, "", "error 4")
	runs(t, "\n", "error 4", "error 4")
	runs(t, "\n\n\n", "error 4", "error 4", "error 4", "error 4")
	runs(t, "zero", "error 2")
	runs(t, "zero\n", "error 2", "error 4")
	runs(t, "\nzero", "error 4", "error 2")
	runs(t, "load t 1 1 0 9 1\nzero", "ok", "zero 0")
	runs(t, "load t 1 1 0 9 1\n\nzero\n", "ok", "error 4", "zero 0", "error 4")
	runs(t, "load t 1 1 0 9 1\r\nzero\r\nzero", "ok", "error 4", "zero 0")
	runs(t, "load t 1 1\n0 9 1", "malformed 5", "error 4")
	runs(t, "mark", "error 2")
	runs(t, "load \nload", "malformed 0", "error 4")
	runs(t, "zero \n zero\nze\x00ro\nfoo", "error 4", "error 4", "error 4", "error 4")
	runs(t, strings.Repeat("\n", 1<<16), slices.Repeat([]string{"error 4"}, 1<<16+1)...)
}

// TestRunAlone has no state of an earlier Run, or of another desk.
func TestRunAlone(t *testing.T) {
	d := desk.New()
	does(t, d, small, "ok")
	runs(t, small+"\nmark\nlower 0 3\nzero", "ok", "mark 0", "ok", "zero 5")
	runs(t, "zero", "error 2")
	does(t, d, "zero", "zero 2")
	does(t, d, "mark", "mark 0")
	other := desk.New()
	does(t, other, "zero", "error 2")
	does(t, other, small, "ok")
	does(t, other, "all 3", "ok")
	does(t, d, "elims", "elims")
	does(t, other, "undo 0", "error 2")
	does(t, d, "undo 0", "ok")
}

// TestRunMemory writes over answers.
func TestRunMemory(t *testing.T) {
	text := small + "\nzero\nfoo"
	first, second := desk.Run(text), desk.Run(text)
	clear(first)
	_ = append(first[:0], "x")
	if !slices.Equal(second, []string{"ok", "zero 2", "error 4"}) {
		t.Fatal(second)
	}
	runs(t, text, second...)
}

// TestLongLines has as many numbers as one likes.
func TestLongLines(t *testing.T) {
	p := pairOf(t)
	p.do(small)
	for _, word := range []string{"val", "rebuild"} {
		if got := p.do(word + strings.Repeat(" 0", 1<<16)); got != "error 3" {
			t.Fatal(got)
		}
		if got := p.do(word + strings.Repeat(" 0", 1<<16) + " x"); got != "error 4" {
			t.Fatal(got)
		}
	}
	if got := p.do("zero" + strings.Repeat(" 0", 1<<16)); got != "error 4" {
		t.Fatal(got)
	}
	if got := p.do(strings.Repeat("x", 1<<20)); got != "error 4" {
		t.Fatal(got)
	}
}
