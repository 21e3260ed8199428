package solve_test

import (
	"bytes"
	"fmt"
	"math"
	"reflect"
	"strings"
	"testing"

	"pennyweight/api"
	"pennyweight/net"
	"pennyweight/search"
	"pennyweight/solve"
	"pennyweight/wcsp"
)

const (
	example = "t 2 2 1 9 2 2 2 0 1 0 1 1 1 5" // layer 7's
	most    = int64(math.MaxInt64)
)

// eachOption is each kind of options there is, with that budget.
func eachOption(budget int64) []search.Options {
	var all []search.Options
	for i := range 5 * 5 * 3 * 2 * 2 {
		all = append(all, search.Options{
			Level:  i % 5,
			Degree: i/5%5 - 1,
			Order:  i / 25 % 3,
			Value:  i / 75 % 2,
			Split:  i/150 > 0,
			Budget: budget,
		})
	}
	return all
}

// least is what the cheapest of all assignments of a file costs, and how many
// there are.
func least(t *testing.T, f *wcsp.File) (int64, int64) {
	t.Helper()
	lowest, count := f.K, int64(0)
	a := make([]int, len(f.Sizes))
	for {
		c, e := f.Val(a)
		if e != api.OK {
			t.Fatalf("Val(%v): error %d", a, e)
		}
		lowest, count = min(lowest, c), count+1
		at := len(a) - 1
		for at >= 0 && a[at] == f.Sizes[at]-1 {
			a[at] = 0
			at--
		}
		if at < 0 {
			return lowest, count
		}
		a[at]++
	}
}

// text is what Text is to tell.
func text(a solve.Answer) string {
	words := map[int][]any{
		solve.Optimum:   {"optimum", a.Cost},
		solve.Nothing:   {"nothing", a.Cost},
		solve.Spent:     {"spent", a.Low, a.Cost},
		solve.Malformed: {"malformed", a.At},
		solve.TooLarge:  {"large", a.At},
		solve.Wrong:     {"wrong"},
	}[a.Tag]
	if a.Tag == solve.Optimum || a.Tag == solve.Spent {
		for _, v := range a.Best {
			words = append(words, v)
		}
	}
	return strings.TrimSuffix(fmt.Sprintln(words...), "\n")
}

// told is what Solve answers, and Reason tells the same.
func told(t *testing.T, p []byte, o search.Options) solve.Answer {
	t.Helper()
	a := solve.Solve(p, o)
	if a.Text() != text(a) {
		t.Fatalf("%.99q: %+v: Text is %q, not %q", p, a, a.Text(), text(a))
	}
	_, at, e := wcsp.Read(p)
	if told, reason := solve.Reason(p); told != at || reason != e {
		t.Fatalf("%.99q: Reason is %d, %d, not %d, %d", p, told, reason, at, e)
	}
	return a
}

// alone needs an answer without a search: all it tells is the tag and the place.
func alone(t *testing.T, p []byte, o search.Options, tag, at int) {
	t.Helper()
	a := told(t, p, o)
	if a.Best != nil || a.Tag != tag || !reflect.DeepEqual(a, solve.Answer{Tag: tag, At: at}) {
		t.Fatalf("%.99q: %+v: %+v, not tag %d at %d", p, o, a, tag, at)
	}
}

// held needs a file and the least of all its assignments, and holds what is told
// of its text against what is promised.
func held(t *testing.T, p []byte, f *wcsp.File, lowest int64, o search.Options) solve.Answer {
	t.Helper()
	a := told(t, p, o)
	wrong := func(what string) {
		t.Helper()
		t.Fatalf("%s: %.200q: %+v: %+v, the least is %d of the top %d", what, p, o, a, lowest, f.K)
	}
	c, e := f.Val(a.Best)
	best := e == api.OK && c == a.Cost && c < f.K
	none := a.Best == nil && a.Cost == f.K
	switch {
	case a.At != 0:
		wrong("there is no place")
	case a.Nodes < 0 || a.Nodes > o.Budget || a.Nodes < 1 && o.Budget > 0:
		wrong("so many nodes there can't be")
	case a.Tag == solve.Optimum && (!best || a.Cost != lowest || a.Low != lowest):
		wrong("no optimum")
	case a.Tag == solve.Nothing && (!none || lowest != f.K || a.Low != f.K):
		wrong("there is one")
	case a.Tag == solve.Spent && (!best && !none || a.Cost < lowest || a.Low > lowest || a.Low < 0 || a.Nodes != o.Budget):
		wrong("not what the budget tells")
	case a.Tag < solve.Optimum || a.Tag > solve.Spent:
		wrong("another tag")
	}
	return a
}

func read(t *testing.T, p string) *wcsp.File {
	t.Helper()
	f, at, e := wcsp.Read([]byte(p))
	if e != api.OK {
		t.Fatalf("%.99q: error %d at %d", p, e, at)
	}
	return f
}

func TestExamples(t *testing.T) {
	f := read(t, example)
	for _, o := range eachOption(9) {
		a := held(t, []byte(example), f, 0, o)
		words := strings.Split(a.Text(), " ")
		if a.Tag != solve.Optimum || len(words) != 4 || words[0] != "optimum" || words[1] != "0" {
			t.Fatalf("%+v: %q", o, a.Text())
		}
		for _, p := range [][]byte{nil, {}} {
			if a := solve.Solve(p, o); a.Text() != "malformed 0" {
				t.Fatalf("%+v: %q", o, a.Text())
			}
		}
	}
}

// texts are right ones, and what their least is.
var texts = []struct {
	text  string
	least int64
}{
	{example, 0},
	{"t 2 2 1 9 2 2\n2 0 1 3 1\n1 1 0\n", 0},
	{"t 3 3 4 99 3 3 3 2 0 1 9 3 0 1 2 1 2 3 2 0 4 2 1 2 8 3 1 2 1 2 0 5 0 1 2 2 0 2 7 3 0 2 6 1 0 1 2 1 3 1 1 0 1 2 4", 9},
	{"t 5 2 1 50 2 2 2 2 2 5 4 2 0 1 3 40 2 1 0 1 0 1 7 1 1 1 1 1 8", 7},
	// Two functions share their lines, by scopes that don't rise.
	{"t 3 2 3 20 2 2 2 -2 2 0 4 2 0 1 6 1 0 3 2 1 2 5 -1 1 2 1 1 0 0", 7},
	// All of them cost the top.
	{"t 2 2 1 5 2 2 2 0 1 5 0", 5},
	{"t 2 2 1 5 2 2 2 0 1 99 0", 5},
	{"t 3 2 3 9 2 2 2 2 0 1 0 2 0 0 9 1 1 9 2 1 2 0 2 0 0 9 1 1 9 2 0 2 0 2 0 0 9 1 1 9", 9},
	{"t 2 2 2 9 2 2 0 4 0 0 5 0", 9},
	// One variable.
	{"t 1 1 0 9 1", 0},
	{"t 1 1 1 9 1 1 0 4 0", 4},
	{"t 1 1 1 9 1 1 0 9 0", 9},
	{"t 1 4 2 9 4 1 0 9 3 1 4 2 3 3 5 0 2 0", 5},
	// The top is 1.
	{"t 1 1 0 1 1", 0},
	{"t 1 2 1 1 2 0 1 0", 1},
	{"t 3 2 2 1 2 2 2 2 0 1 1 1 0 1 0 2 1 2 1 1 1 0 0", 0},
	{"t 3 2 2 1 2 2 2 2 0 1 1 1 0 1 0 2 1 2 1 1 0 1 0", 1},
	// The top is the greatest.
	{"t 2 2 2 2147483648 2 2 1 0 2147483647 1 0 2147483640 2 0 1 7 1 0 1 8", api.MaxCost - 1},
	{"t 2 2 2 2147483648 2 2 1 0 2147483647 1 0 2147483640 2 0 1 8 1 0 1 9", api.MaxCost},
}

func TestLeast(t *testing.T) {
	for _, x := range texts {
		p, f := []byte(x.text), read(t, x.text)
		lowest, count := least(t, f)
		if lowest != x.least {
			t.Fatalf("%q: the least is %d, not %d", x.text, lowest, x.least)
		}
		want := solve.Optimum
		if lowest == f.K {
			want = solve.Nothing
		}
		for _, budget := range []int64{2*count + 1, most} {
			for _, o := range eachOption(budget) {
				if a := held(t, p, f, lowest, o); a.Tag != want {
					t.Fatalf("%q: %+v: %+v", x.text, o, a)
				}
			}
		}
	}
}

func TestBudget(t *testing.T) {
	spent := 0
	for _, x := range texts {
		p, f := []byte(x.text), read(t, x.text)
		for _, o := range eachOption(0) {
			a := held(t, p, f, x.least, o)
			if a.Low = 0; !reflect.DeepEqual(a, solve.Answer{Tag: solve.Spent, Cost: f.K}) {
				t.Fatalf("%q: no budget: %+v: %+v", x.text, o, a)
			}
			o.Budget = 1
			held(t, p, f, x.least, o)
			o.Budget = most
			whole := held(t, p, f, x.least, o)
			o.Budget = whole.Nodes
			if a := held(t, p, f, x.least, o); !reflect.DeepEqual(a, whole) {
				t.Fatalf("%q: just enough: %+v: %+v, not %+v", x.text, o, a, whole)
			}
			o.Budget--
			if a := held(t, p, f, x.least, o); a.Tag != solve.Spent || a.Nodes != o.Budget {
				t.Fatalf("%q: one less: %+v: %+v", x.text, o, a)
			}
			if o.Budget > 0 {
				spent++
			}
		}
	}
	if spent < 300 {
		t.Errorf("only %d of them have more nodes than one", spent)
	}
}

// What is found so far is told, and what that costs, though it isn't the least:
// the four assignments cost 4, 4, 2 and 1.
func TestSpent(t *testing.T) {
	text := "t 2 2 2 99 2 2 2 0 1 0 2 0 0 4 1 1 1 2 1 0 0 2 0 1 2 1 0 4"
	f := read(t, text)
	dearer := 0
	for budget := range int64(6) {
		for _, o := range eachOption(budget) {
			a := held(t, []byte(text), f, 1, o)
			if a.Tag == solve.Spent && a.Best != nil && a.Cost > 1 {
				dearer++
			}
		}
	}
	if dearer == 0 {
		t.Error("the first one that was found was always the best")
	}
}

func TestSameAsSearch(t *testing.T) {
	for _, x := range texts {
		n, e := net.Of(read(t, x.text))
		if e != api.OK {
			t.Fatalf("%q: error %d", x.text, e)
		}
		for _, budget := range []int64{0, 1, 2, 5, most} {
			for _, o := range eachOption(budget) {
				r, e := search.Run(n, o)
				if e != api.OK {
					t.Fatalf("%q: %+v: error %d", x.text, o, e)
				}
				want := solve.Answer{Tag: solve.Spent, Best: r.Best, Cost: r.Cost, Low: r.Low, Nodes: r.Nodes}
				if r.Done && r.Found {
					want.Tag = solve.Optimum
				} else if r.Done {
					want.Tag = solve.Nothing
				}
				if a := told(t, []byte(x.text), o); !reflect.DeepEqual(a, want) {
					t.Fatalf("%q: %+v: %+v, but %+v", x.text, o, a, r)
				}
			}
		}
	}
}

// faults are texts that are no files, or too large.
var faults = []struct {
	text string
	tag  int
	at   int
	e    api.Errno
}{
	// At the first word.
	{"", solve.Malformed, 0, api.ErrForm},
	{" \t\r\n", solve.Malformed, 4, api.ErrForm},
	{"\x00", solve.Malformed, 0, api.ErrText},
	{"\xfft 1 1 0 9 1", solve.Malformed, 0, api.ErrText},
	{"t\x7f 1 1 0 9 1", solve.Malformed, 1, api.ErrText},
	{"t", solve.Malformed, 1, api.ErrForm},
	// In the midst.
	{"t x", solve.Malformed, 2, api.ErrForm},
	{"t 0 1 0 9", solve.Malformed, 2, api.ErrForm},
	{"t 1 1 -1 9 1", solve.Malformed, 6, api.ErrForm},
	{"t 1 1 0 0 1", solve.Malformed, 8, api.ErrForm},
	{"t 2 2 0 9 2 3", solve.Malformed, 12, api.ErrForm},
	{"t 2 2 1 9 2 2 2 0 0 0 0", solve.Malformed, 18, api.ErrForm},
	{"t 2 2 1 9 2 2 2 0 1 \xc3\xa4 0", solve.Malformed, 20, api.ErrText},
	{"t 2 2 1 9 2 2 2 0 1 0 2 1 1 5 1 1 6", solve.Malformed, 34, api.ErrForm},
	{"t 2 2 1 9 2 2 2 0 1 0 -1", solve.Malformed, 22, api.ErrForm},
	// At the end.
	{"t 2 2 1 9 2 2 2 0 1 0 1 1 1", solve.Malformed, 27, api.ErrForm},
	{"t 2 2 1 9 2 2 2 0 1 0 1 1 1 ", solve.Malformed, 28, api.ErrForm},
	{"t 2 2 1 9 2 2 2 0 1 0 1 1 1 -5", solve.Malformed, 28, api.ErrForm},
	{"t 2 2 1 9 2 2 2 0 1 0 1 1 1 5\x01", solve.Malformed, 29, api.ErrText},
	// Behind the last number.
	{"t 2 2 1 9 2 2 2 0 1 0 1 1 1 5 6", solve.Malformed, 30, api.ErrForm},
	{"t 1 1 0 9 1 \x01", solve.Malformed, 12, api.ErrText},
	{"t 1 1 0 9 1  t 1 1 0 9 1", solve.Malformed, 13, api.ErrForm},
	// Too large.
	{"t 65 1 0 9" + strings.Repeat(" 1", 65), solve.TooLarge, 2, api.ErrLarge},
	{"t 1 40 0 9 40", solve.TooLarge, 11, api.ErrLarge},
	{"t 1 1 257 9 1" + strings.Repeat(" 0 0 0", 257), solve.TooLarge, 6, api.ErrLarge},
	{"t 1 1 0 2147483649 1", solve.TooLarge, 8, api.ErrLarge},
	{strings.Repeat("t", 65) + " 1 1 0 9 1", solve.TooLarge, 0, api.ErrLarge},
	{"t 7 1 1 9 1 1 1 1 1 1 1 7 0 1 2 3 4 5 6 0 0", solve.TooLarge, 24, api.ErrLarge},
	{"t 3 32 1 9 32 32 32 3 0 1 2 0 0", solve.TooLarge, 20, api.ErrLarge},
	{" " + strings.Repeat("t", 65) + " 65 1 0 9" + strings.Repeat(" 1", 65), solve.TooLarge, 1, api.ErrLarge},
	{strings.Repeat("\x00", api.MaxBytes+1), solve.TooLarge, 0, api.ErrLarge},
	// Too large, and malformed behind that.
	{"t 65 1 0 9", solve.Malformed, 10, api.ErrForm},
	{"t 1 40 0 9 40 x", solve.Malformed, 14, api.ErrForm},
	{"t 1 40 0 9 40 \x01", solve.Malformed, 14, api.ErrText},
	{"t 1 1 0 2147483649 2", solve.Malformed, 19, api.ErrForm},
}

func TestFaults(t *testing.T) {
	for _, x := range faults {
		p := []byte(x.text)
		for _, o := range eachOption(7) {
			alone(t, p, o, x.tag, x.at)
		}
		for _, budget := range []int64{0, 1, most} {
			alone(t, p, search.Options{Level: 4, Budget: budget}, x.tag, x.at)
		}
		if at, e := solve.Reason(p); at != x.at || e != x.e {
			t.Errorf("%.99q: Reason is %d, %d", x.text, at, e)
		}
	}
	if at, e := solve.Reason(nil); at != 0 || e != api.ErrForm {
		t.Errorf("no bytes: Reason is %d, %d", at, e)
	}
	for _, x := range texts {
		for _, text := range []string{x.text, x.text + " \n"} {
			if at, e := solve.Reason([]byte(text)); at != len(text) || e != api.OK {
				t.Errorf("%q: Reason is %d, %d", text, at, e)
			}
		}
	}
}

// One field at a time isn't right: that counts ahead of all that is wrong with
// the bytes.
func TestWrong(t *testing.T) {
	fields := []struct {
		set         func(o *search.Options, x int)
		least, most int
	}{
		{func(o *search.Options, x int) { o.Level = x }, 0, 4},
		{func(o *search.Options, x int) { o.Degree = x }, -1, 3},
		{func(o *search.Options, x int) { o.Order = x }, 0, 2},
		{func(o *search.Options, x int) { o.Value = x }, 0, 1},
		{func(o *search.Options, x int) { o.Budget = int64(x) }, 0, math.MaxInt},
	}
	all := [][]byte{nil, {}, []byte(example), []byte(texts[5].text)}
	for _, x := range faults {
		all = append(all, []byte(x.text))
	}
	for at, field := range fields {
		for _, o := range []search.Options{{}, {Level: 4, Degree: 3, Order: 2, Value: 1, Split: true, Budget: 100}} {
			for _, x := range []int{math.MinInt, -9, -2, -1, 0, 1, 2, 3, 4, 5, 9, 1 << 32, math.MaxInt} {
				field.set(&o, x)
				for _, p := range all {
					a := told(t, p, o)
					right := field.least <= x && x <= field.most
					if right == (a.Tag == solve.Wrong) {
						t.Fatalf("field %d is %d: %.99q: %+v", at, x, p, a)
					}
					if !right {
						alone(t, p, o, solve.Wrong, 0)
					}
				}
			}
		}
	}
	worst := search.Options{Level: -1, Degree: -2, Order: -1, Value: -1, Budget: -1}
	for _, p := range all {
		alone(t, p, worst, solve.Wrong, 0)
	}
}

func TestGreatest(t *testing.T) {
	o := search.Options{Level: 4, Degree: 2, Order: 2, Value: 1, Budget: most}
	padded := []byte(example + strings.Repeat(" ", api.MaxBytes-len(example)))
	if a := held(t, padded, read(t, example), 0, o); len(padded) != api.MaxBytes || a.Tag != solve.Optimum {
		t.Errorf("%d bytes: %+v", len(padded), a)
	}
	alone(t, append(padded, ' '), o, solve.TooLarge, 0)
	alone(t, append(padded, 'x'), o, solve.TooLarge, 0)
	alone(t, append(padded[:api.MaxBytes-1:api.MaxBytes-1], 'x'), o, solve.Malformed, api.MaxBytes-1)

	full := []byte(row())
	f := read(t, string(full))
	for _, budget := range []int64{0, 1, 3} {
		o.Budget = budget
		held(t, full, f, 5*(api.MaxVars-1), o)
	}
	o.Budget = 1000
	if a := held(t, full, f, 5*(api.MaxVars-1), o); a.Tag != solve.Optimum {
		t.Errorf("a row: %s", a.Text())
	}
	alone(t, append(full, '\n'), o, solve.TooLarge, 0)
}

// row is a text of just MaxBytes: 64 variables in a row, each tuple of two of
// which costs 6 or more, but that of two values that are the same 5.
func row() string {
	var text strings.Builder
	text.WriteString(fmt.Sprint("row 64 11 63 1000000", strings.Repeat(" 11", api.MaxVars)))
	for i := range api.MaxVars - 1 {
		fmt.Fprint(&text, "\n2 ", i, " ", i+1, " 5 110")
		for v := range 11 {
			for w := range 11 {
				if v != w {
					fmt.Fprint(&text, " ", v, " ", w, " ", 6+(i+v*w)%70)
				}
			}
		}
	}
	return text.String() + strings.Repeat("\n", api.MaxBytes-text.Len())
}

func TestName(t *testing.T) {
	if solve.Optimum != 1 || solve.Nothing != 2 || solve.Spent != 3 || solve.Malformed != 4 || solve.TooLarge != 5 || solve.Wrong != 6 {
		t.Error("other constants")
	}
	names := map[int]string{1: "optimum", 2: "nothing", 3: "spent", 4: "malformed", 5: "large", 6: "wrong"}
	tags := []int{math.MinInt, math.MinInt + 1, -1 << 32, 1<<32 + 1, 256, 257, 1 << 62, math.MaxInt - 1, math.MaxInt}
	for tag := -20; tag < 20; tag++ {
		tags = append(tags, tag)
	}
	for _, tag := range tags {
		if solve.Name(tag) != names[tag] {
			t.Errorf("%d: %q", tag, solve.Name(tag))
		}
	}
}

// Answers made by hand: what their tag doesn't tell isn't told.
func TestText(t *testing.T) {
	const low, high = math.MinInt64, math.MaxInt64
	full := solve.Answer{At: 3, Best: []int{4, 0, -5}, Cost: 6, Low: 7, Nodes: 8}
	far := solve.Answer{At: math.MinInt, Best: []int{math.MinInt, math.MaxInt}, Cost: low, Low: high, Nodes: low}
	for _, x := range []struct {
		answer solve.Answer
		tag    int
		want   string
	}{
		{full, solve.Optimum, "optimum 6 4 0 -5"},
		{full, solve.Nothing, "nothing 6"},
		{full, solve.Spent, "spent 7 6 4 0 -5"},
		{full, solve.Malformed, "malformed 3"},
		{full, solve.TooLarge, "large 3"},
		{full, solve.Wrong, "wrong"},
		{far, solve.Optimum, "optimum -9223372036854775808 -9223372036854775808 9223372036854775807"},
		{far, solve.Nothing, "nothing -9223372036854775808"},
		{far, solve.Spent, "spent 9223372036854775807 -9223372036854775808 -9223372036854775808 9223372036854775807"},
		{far, solve.Malformed, "malformed -9223372036854775808"},
		{far, solve.TooLarge, "large -9223372036854775808"},
		{far, solve.Wrong, "wrong"},
		{solve.Answer{}, solve.Optimum, "optimum 0"},
		{solve.Answer{}, solve.Nothing, "nothing 0"},
		{solve.Answer{}, solve.Spent, "spent 0 0"},
		{solve.Answer{Best: []int{}}, solve.Spent, "spent 0 0"},
		{solve.Answer{}, solve.Malformed, "malformed 0"},
		{solve.Answer{}, solve.TooLarge, "large 0"},
		{solve.Answer{}, solve.Wrong, "wrong"},
		{solve.Answer{At: -1, Cost: -2, Low: -3}, solve.Spent, "spent -3 -2"},
		{solve.Answer{At: math.MaxInt}, solve.Malformed, "malformed 9223372036854775807"},
	} {
		x.answer.Tag = x.tag
		if got := x.answer.Text(); got != x.want {
			t.Errorf("%+v: %q, not %q", x.answer, got, x.want)
		}
	}
	for _, tag := range []int{math.MinInt, -1, 0, 7, 8, 1<<32 + 1, math.MaxInt} {
		for _, a := range []solve.Answer{{}, full, far} {
			if a.Tag = tag; a.Text() != "" {
				t.Errorf("%+v: %q", a, a.Text())
			}
		}
	}
}

// As many values as there are: each is told once.
func TestLongText(t *testing.T) {
	a := solve.Answer{Tag: solve.Optimum, Best: make([]int, 1<<20)}
	if got := a.Text(); got != "optimum 0"+strings.Repeat(" 0", 1<<20) {
		t.Errorf("%d bytes: %.99q", len(got), got)
	}
	if a.Best[0] = 7; a.Text()[:13] != "optimum 0 7 0" {
		t.Errorf("%.99q", a.Text())
	}
}

// What is handed in is neither changed nor kept, and an answer is nobody else's.
func TestMemory(t *testing.T) {
	all := []string{"t 2 2 0 9 2 3", "t 1 40 0 9 40"}
	for _, x := range texts {
		all = append(all, x.text)
	}
	for _, whole := range all {
		for _, o := range eachOption(3) {
			room := append([]byte(whole), "behind it"...)
			before := bytes.Clone(room)
			p := room[:len(whole)]
			first := told(t, p, o)
			if !bytes.Equal(room, before) {
				t.Fatalf("%q: it is %q now", before, room)
			}
			kept := first
			kept.Best = append([]int(nil), first.Best...)
			again := solve.Solve(p, o)
			if !reflect.DeepEqual(again, kept) {
				t.Fatalf("%q: %+v, then %+v", whole, kept, again)
			}
			for i := range again.Best {
				again.Best[i] = -7
			}
			clear(room)
			if !reflect.DeepEqual(first, kept) || first.Text() != text(kept) {
				t.Fatalf("%q: %+v became %+v", whole, kept, first)
			}
			if third := solve.Solve([]byte(whole), o); !reflect.DeepEqual(third, kept) {
				t.Fatalf("%q: %+v, then %+v", whole, kept, third)
			}
		}
	}
}
