package desk_test

import (
	"fmt"
	"reflect"
	"regexp"
	"slices"
	"strconv"
	"strings"
	"testing"

	"pennyweight/ac"
	"pennyweight/api"
	"pennyweight/check"
	"pennyweight/dac"
	"pennyweight/desk"
	"pennyweight/dom"
	"pennyweight/edac"
	"pennyweight/elim"
	"pennyweight/move"
	"pennyweight/nc"
	"pennyweight/net"
	"pennyweight/plain"
	"pennyweight/search"
	"pennyweight/soft"
	"pennyweight/solve"
	"pennyweight/state"
	"pennyweight/wcsp"
)

// rightForm is of all right lines but those of load: N stands for a number, L for a level.
var rightForm = regexp.MustCompile(strings.NewReplacer(
	"N", `(?:0|-?[1-9][0-9]{0,11})`,
	"L", `(?:none|nc|ac|fdac|edac)`,
).Replace(`^(?:` + strings.Join([]string{
	`(?:project|extend) N N N N`,
	`(?:lower|raise|prune|assign|eliminate) N N`,
	`(?:all|undo|dom|unary|costs) N`,
	`enforce L`,
	`(?:mark|zero|scopes|level|bound|elims|print)`,
	`(?:val|rebuild)(?: N)*`,
	`solve L N N N (?:yes|no) N`,
}, "|") + `)$`))

var levels = []string{"none", "nc", "ac", "fdac", "edac"}

// askingWords are those of the lines that only ask.
var askingWords = []string{"zero", "dom", "unary", "costs", "scopes", "val", "rebuild", "level", "bound", "elims", "print", "solve"}

// safeWords are those of the lines that change no assignment's cost.
var safeWords = []string{"project", "extend", "lower", "raise", "prune", "enforce"}

// twin is a state, or none, on which the layers' very calls are told one by one.
type twin struct{ s *state.State }

func (w *twin) do(line string) string {
	if text, ok := strings.CutPrefix(line, "load "); ok {
		return w.load(text)
	}
	if !rightForm.MatchString(line) {
		return "error 4"
	}
	if w.s == nil {
		return "error 2"
	}
	l := strings.Split(line, " ")
	var n []int
	for _, x := range l[1:] {
		v, _ := strconv.ParseInt(x, 10, 64) // 0 of other words
		n = append(n, int(v))
	}
	if e, ok := change(w.s, l, n); ok && e != api.OK {
		return fmt.Sprint("error ", int(e))
	} else if ok {
		return "ok"
	}
	told, e := ask(w.s, l, n)
	if e != api.OK {
		return fmt.Sprint("error ", int(e))
	}
	return l[0] + told
}

func (w *twin) load(text string) string {
	f, at, e := wcsp.Read([]byte(text))
	if e == api.ErrLarge {
		return fmt.Sprint("large ", at)
	} else if e != api.OK {
		return fmt.Sprint("malformed ", at)
	}
	n, _ := net.Of(f)
	w.s = state.New(n)
	return "ok"
}

// change is the call of a line that is answered by ok: false, if it is another line.
func change(s *state.State, l []string, n []int) (api.Errno, bool) {
	switch l[0] {
	case "project":
		return move.Project(s, n[0], n[1], n[2], int64(n[3])), true
	case "extend":
		return move.Extend(s, n[0], n[1], n[2], int64(n[3])), true
	case "lower":
		return move.Lower(s, n[0], int64(n[1])), true
	case "raise":
		return move.Raise(s, n[0], int64(n[1])), true
	case "prune":
		return move.Prune(s, n[0], n[1]), true
	case "assign":
		return move.Assign(s, n[0], n[1]), true
	case "eliminate":
		return elim.Eliminate(s, n[0], n[1]), true
	case "all":
		_, e := elim.All(s, n[0])
		return e, true
	case "undo":
		return s.Undo(n[0]), true
	case "enforce":
		return enforce(s, l[1]), true
	}
	return api.OK, false
}

func enforce(s *state.State, level string) api.Errno {
	switch level {
	case "nc":
		return nc.Enforce(s)
	case "ac":
		return ac.Enforce(s)
	case "fdac":
		return dac.Enforce(s)
	case "edac":
		return edac.Enforce(s)
	}
	return api.OK
}

// ask is what is told behind a line's word.
func ask(s *state.State, l []string, n []int) (string, api.Errno) {
	switch l[0] {
	case "mark":
		return fmt.Sprint(" ", s.Mark()), api.OK
	case "zero":
		return fmt.Sprint(" ", s.Zero()), api.OK
	case "dom", "unary":
		return valuesOf(s, n[0], l[0] == "unary")
	case "costs":
		return costsOf(s, n[0])
	case "scopes":
		return scopesOf(s), api.OK
	case "val":
		c, e := s.Val(n)
		return fmt.Sprint(" ", c), e
	case "rebuild":
		a, e := elim.Rebuild(s, n)
		return spread(a), e
	case "level":
		return " " + levels[check.Of(s)], api.OK
	case "bound":
		c, e := soft.Bound(s)
		return fmt.Sprint(" ", c), e
	case "elims":
		return elimsOf(s), api.OK
	case "print":
		p, e := plain.Print(s.Net().File())
		return " " + strings.Join(strings.Split(string(p), "\n"), ";"), e
	}
	return "", api.ErrForm // solve's answer has no word of its own: see solved
}

func valuesOf(s *state.State, i int, costs bool) (string, api.Errno) {
	if i < 0 || i >= s.N() {
		return "", api.ErrArg
	}
	told := ""
	for v := range s.Net().Size(i) {
		if !s.Dom(i).Has(v) {
			continue
		}
		told += fmt.Sprint(" ", v)
		if costs {
			c, _ := s.Unary(i, v)
			told += fmt.Sprint(":", c)
		}
	}
	return told, api.OK
}

func costsOf(s *state.State, j int) (string, api.Errno) {
	if !s.Live(j) {
		return "", api.ErrArg
	}
	told, scope := "", s.Scope(j)
	for _, x := range tuplesOf(sizesOf(s, scope)) {
		left := true
		for p, v := range x {
			left = left && s.Dom(scope[p]).Has(v)
		}
		if left {
			c, _ := s.Cost(j, x)
			told += fmt.Sprint(" ", commas(x), ":", c)
		}
	}
	return told, api.OK
}

func scopesOf(s *state.State) string {
	told := ""
	for j := range s.Funs() {
		if s.Live(j) {
			told += fmt.Sprint(" ", j, ":", commas(s.Scope(j)))
		}
	}
	return told
}

func elimsOf(s *state.State) string {
	told := ""
	for _, e := range s.Elims() {
		told += fmt.Sprint(" ", e.Var, ":", commas(e.Scope), ":", commas(e.Best))
	}
	return told
}

func commas(l []int) string { return strings.ReplaceAll(strings.Trim(fmt.Sprint(l), "[]"), " ", ",") }

func spread(l []int) string {
	told := ""
	for _, n := range l {
		told += fmt.Sprint(" ", n)
	}
	return told
}

// solved is the answer of a right line of solve.
func solved(s *state.State, line string) string {
	l := strings.Split(line, " ")
	n := func(w string) int64 {
		v, _ := strconv.ParseInt(w, 10, 64)
		return v
	}
	o := search.Options{Level: slices.Index(levels, l[1]), Degree: int(n(l[2])), Order: int(n(l[3])), Value: int(n(l[4])), Split: l[5] == "yes", Budget: n(l[6])}
	p, e := plain.Print(s.Net().File())
	if e != api.OK {
		return fmt.Sprint("error ", int(e))
	}
	return solve.Solve(p, o).Text()
}

// told is what a state tells.
type told struct {
	zero   int64
	doms   []dom.Set
	gone   []bool
	unary  [][]int64
	live   []bool
	scopes [][]int
	costs  [][]int64 // by the tuples' numbers
	elims  []state.Elim
	depth  int
	vals   []int64 // by the assignments' numbers
	facts  []int64
}

// tuplesOf are all of variables of some sizes.
func tuplesOf(sizes []int) [][]int {
	if len(sizes) == 0 {
		return [][]int{{}}
	}
	var all [][]int
	for v := range sizes[0] {
		for _, rest := range tuplesOf(sizes[1:]) {
			all = append(all, append([]int{v}, rest...))
		}
	}
	return all
}

func sizesOf(s *state.State, scope []int) []int {
	var sizes []int
	for _, i := range scope {
		sizes = append(sizes, s.Net().Size(i))
	}
	return sizes
}

func assignmentsOf(s *state.State) [][]int {
	var vars []int
	for i := range s.N() {
		vars = append(vars, i)
	}
	return tuplesOf(sizesOf(s, vars))
}

func look(s *state.State) told {
	if s == nil {
		return told{}
	}
	l := told{zero: s.Zero(), elims: s.Elims(), depth: s.Depth(), facts: s.Facts()}
	for _, a := range assignmentsOf(s) {
		c, _ := s.Val(a)
		l.vals = append(l.vals, c)
	}
	for i := range s.N() {
		var costs []int64
		for v := range s.Net().Size(i) {
			c, _ := s.Unary(i, v)
			costs = append(costs, c)
		}
		l.doms, l.gone, l.unary = append(l.doms, s.Dom(i)), append(l.gone, s.Gone(i)), append(l.unary, costs)
	}
	for j := range s.Funs() {
		var costs []int64
		for _, x := range tuplesOf(sizesOf(s, s.Scope(j))) {
			c, _ := s.Cost(j, x)
			costs = append(costs, c)
		}
		l.live, l.scopes, l.costs = append(l.live, s.Live(j)), append(l.scopes, s.Scope(j)), append(l.costs, costs)
	}
	return l
}

// pair is a desk that is told lines, and a twin that is told the very calls. It knows
// what stood at each mark that is open, and how often each word was answered how.
type pair struct {
	*testing.T
	d       *desk.Desk
	w       twin
	marks   []told
	oks     map[string]int
	refused map[string]int
}

func pairOf(t *testing.T) *pair {
	return &pair{T: t, d: desk.New(), oks: map[string]int{}, refused: map[string]int{}}
}

// do does one line, and holds all that is promised of it against what is told ahead
// and behind.
func (p *pair) do(line string) string {
	p.Helper()
	was, before := p.d.State(), look(p.d.State())
	got, want := p.d.Do(line), p.w.do(line)
	word, _, _ := strings.Cut(line, " ")
	if word == "solve" && want == "error 4" && rightForm.MatchString(line) {
		want = solved(p.w.s, line)
	}
	if got != want {
		p.Fatalf("Do(%.99q): %q, not %q", line, got, want)
	}
	loaded := strings.HasPrefix(line, "load ") && got == "ok"
	if (p.d.State() != was) != loaded {
		p.Fatalf("Do(%.99q): %q, with the state %p, then %p", line, got, was, p.d.State())
	}
	behind := look(p.d.State())
	if other := look(p.w.s); !reflect.DeepEqual(behind, other) {
		p.Fatalf("behind Do(%.99q) is told\n%v, not\n%v", line, behind, other)
	}
	if strings.HasPrefix(got, "error ") {
		p.refused[word]++
	} else {
		p.oks[word]++
	}
	if loaded {
		p.marks = nil
	} else {
		p.holds(word, line, got, before, behind)
	}
	return got
}

// holds is of what is promised of a line that isn't a load that is ok.
func (p *pair) holds(word, line, got string, before, behind told) {
	p.Helper()
	wiped := word == "enforce" && got == "error 8"
	failed := strings.HasPrefix(got, "error ") || word == "load"
	if (failed && !wiped || slices.Contains(askingWords, word)) && !reflect.DeepEqual(behind, before) {
		p.Fatalf("Do(%.99q): %q, and is told\n%v, not\n%v", line, got, behind, before)
	}
	if slices.Contains(safeWords, word) && !reflect.DeepEqual(behind.vals, before.vals) {
		p.Fatalf("behind Do(%.99q) the assignments cost\n%v, not\n%v", line, behind.vals, before.vals)
	}
	n := 0
	fmt.Sscanf(line, word+" %d", &n)
	switch {
	case failed:
	case word == "enforce":
		p.level(line)
	case word == "eliminate":
		p.least(n, before.vals, behind.vals)
	case word == "mark":
		if got != fmt.Sprint("mark ", len(p.marks)) {
			p.Fatalf("%d marks are open: %q", len(p.marks), got)
		}
		p.marks = append(p.marks, before)
	case word == "undo":
		if !reflect.DeepEqual(behind, p.marks[n]) {
			p.Fatalf("behind Do(%q) is told\n%v, not\n%v", line, behind, p.marks[n])
		}
		p.marks = p.marks[:n]
	case word == "solve":
		p.solved(line, got)
	}
}

func (p *pair) level(line string) {
	p.Helper()
	want := slices.Index(levels, strings.TrimPrefix(line, "enforce "))
	if got := p.d.Do("level"); slices.Index(levels, strings.TrimPrefix(got, "level ")) < want {
		p.Fatalf("behind Do(%q): %q", line, got)
	}
}

// least holds the assignments' costs behind a variable was taken out against those ahead.
func (p *pair) least(i int, before, behind []int64) {
	p.Helper()
	all := assignmentsOf(p.d.State())
	lows := map[string]int64{}
	key := func(a []int) string {
		a = slices.Clone(a)
		a[i] = 0
		return fmt.Sprint(a)
	}
	for at, a := range all {
		if low, ok := lows[key(a)]; !ok || before[at] < low {
			lows[key(a)] = before[at]
		}
	}
	for at, a := range all {
		if behind[at] != lows[key(a)] {
			p.Fatalf("without %d %v costs %d, not %d", i, a, behind[at], lows[key(a)])
		}
	}
}

// solved holds what is told of a search against all assignments of the network.
func (p *pair) solved(line, got string) {
	p.Helper()
	n := p.d.State().Net()
	low := n.K()
	for _, a := range assignmentsOf(p.d.State()) {
		c, _ := n.Val(a)
		low = min(low, c)
	}
	var l []int64
	words := strings.Split(got, " ")
	for _, w := range words[1:] {
		c, _ := strconv.ParseInt(w, 10, 64)
		l = append(l, c)
	}
	if words[0] == "spent" {
		if l[0] > low || l[1] < low || l[1] > n.K() {
			p.Fatalf("%q: %q: the least is %d", line, got, low)
		}
		l = l[1:]
	} else if words[0] == "optimum" && (l[0] != low || low == n.K()) || words[0] == "nothing" && (l[0] != low || low < n.K()) {
		p.Fatalf("%q: %q: the least is %d", line, got, low)
	}
	if len(l) > 1 {
		var a []int
		for _, v := range l[1:] {
			a = append(a, int(v))
		}
		if c, e := n.Val(a); c != l[0] || e != api.OK {
			p.Fatalf("%q: %q: it costs %d", line, got, c)
		}
	}
}
