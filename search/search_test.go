package search_test

import (
	"fmt"
	"math"
	"reflect"
	"slices"
	"strings"
	"testing"

	"pennyweight/api"
	"pennyweight/net"
	"pennyweight/plain"
	"pennyweight/search"
	"pennyweight/wcsp"
)

const (
	example = "t 2 2 1 9, 2 2, 2 0 1 0 1, 1 1 5" // layer 7's
	most    = int64(math.MaxInt64)
)

func made(t *testing.T, text string) *net.Net {
	t.Helper()
	f, at, e := wcsp.Read([]byte(strings.ReplaceAll(text, ",", "")))
	if e != api.OK {
		t.Fatalf("Read(%.99q): place %d, error %d", text, at, e)
	}
	n, e := net.Of(f)
	if e != api.OK {
		t.Fatalf("Of(%.99q): error %d", text, e)
	}
	return n
}

// eachOption is each kind of options there is, with that budget.
func eachOption(budget int64) []search.Options {
	var all []search.Options
	for i := range 5 * 5 * 3 * 2 * 2 {
		all = append(all, search.Options{
			Level:  i % 5,
			Degree: i/5%5 - 1,
			Order:  i / 25 % 3,
			Value:  i / 75 % 2,
			Split:  i/150 > 0,
			Budget: budget,
		})
	}
	return all
}

// assignmentsOf are all of a network.
func assignmentsOf(n *net.Net) [][]int {
	all := [][]int{nil}
	for i := range n.N() {
		var longer [][]int
		for _, a := range all {
			for v := range n.Size(i) {
				longer = append(longer, append(slices.Clone(a), v))
			}
		}
		all = longer
	}
	return all
}

func leastOf(t *testing.T, n *net.Net) int64 {
	t.Helper()
	least := n.K()
	for _, a := range assignmentsOf(n) {
		c, e := n.Val(a)
		if e != api.OK {
			t.Fatalf("Val(%v): error %d", a, e)
		}
		least = min(least, c)
	}
	return least
}

// enough is 2 times the product of all domains' sizes, and 1: false, if that is
// greater than any Budget.
func enough(n *net.Net) (int64, bool) {
	product := int64(1)
	for i := range n.N() {
		if product > most/2/int64(n.Size(i)) {
			return 0, false
		}
		product *= int64(n.Size(i))
	}
	return 2*product + 1, product < most/2
}

// run holds what is told of a run against all that is promised of it.
func run(t *testing.T, n *net.Net, least int64, o search.Options) search.Result {
	t.Helper()
	r, e := search.Run(n, o)
	if e != api.OK {
		t.Fatalf("%+v: error %d", o, e)
	}
	wrong := func(what string) {
		t.Helper()
		t.Fatalf("%s: %+v: told is %+v, the least %d of the top %d", what, o, r, least, n.K())
	}
	cost, e := n.Val(r.Best)
	switch {
	case r.Found && (e != api.OK || cost != r.Cost || cost >= n.K()):
		wrong("found is none that costs that")
	case !r.Found && (len(r.Best) > 0 || r.Cost != n.K()):
		wrong("not found, but told")
	case r.Cost < least || r.Low > least || r.Low < 0:
		wrong("there is no such least")
	case r.Done && (r.Cost != least || r.Low != least):
		wrong("done, but not the least")
	case r.Nodes > o.Budget || r.Nodes < 0 || !r.Done && r.Nodes != o.Budget:
		wrong("so many nodes there can't be")
	case o.Budget > 0 && r.Nodes < 1:
		wrong("the first one is always visited")
	case o.Budget == 0 && (r.Done || r.Found):
		wrong("nothing was visited")
	}
	if need, is := enough(n); is && o.Budget >= need && !r.Done {
		wrong("the budget is enough")
	}
	return r
}

func TestRight(t *testing.T) {
	n := made(t, example)
	edges := []struct {
		set         func(o *search.Options, x int)
		least, most int
	}{
		{func(o *search.Options, x int) { o.Level = x }, 0, 4},
		{func(o *search.Options, x int) { o.Degree = x }, -1, 3},
		{func(o *search.Options, x int) { o.Order = x }, 0, 2},
		{func(o *search.Options, x int) { o.Value = x }, 0, 1},
		{func(o *search.Options, x int) { o.Budget = int64(x) }, 0, math.MaxInt64},
	}
	for at, edge := range edges {
		for _, o := range []search.Options{{}, {Level: 4, Degree: 3, Order: 2, Value: 1, Split: true, Budget: most}} {
			for _, x := range []int{math.MinInt, math.MinInt + 1, -99, -2, -1, 0, 1, 2, 3, 4, 5, 6, 7, 99, 1 << 31, 1 << 32, math.MaxInt - 1, math.MaxInt} {
				edge.set(&o, x)
				right := edge.least <= x && x <= edge.most
				if o.Right() != right {
					t.Errorf("field %d: Right of %+v is %v", at, o, o.Right())
				}
				r, e := search.Run(n, o)
				switch {
				case right && e != api.OK:
					t.Errorf("%+v: error %d", o, e)
				case !right && (e != api.ErrArg || !reflect.DeepEqual(r, search.Result{})):
					t.Errorf("%+v: error %d, %+v", o, e, r)
				}
			}
		}
	}
	for _, o := range eachOption(0) {
		if !o.Right() {
			t.Errorf("%+v isn't right", o)
		}
	}
}

func TestConstants(t *testing.T) {
	if search.ByNumber != 0 || search.ByDomain != 1 || search.ByWeight != 2 || search.Rising != 0 || search.Cheapest != 1 {
		t.Fatal("other constants")
	}
	a, b := search.Options{Level: 3, Budget: 9}, search.Options{Level: 3, Budget: 9}
	if a != b {
		t.Fatal("options aren't compared by ==")
	}
}

func TestNoNetwork(t *testing.T) {
	wrong := search.Options{Level: 5, Degree: 4, Order: 3, Value: 2, Budget: -1}
	for _, o := range append(eachOption(9), wrong, search.Options{}, search.Options{Budget: -1}) {
		if r, e := search.Run(nil, o); e != api.ErrNone || !reflect.DeepEqual(r, search.Result{}) {
			t.Errorf("%+v: error %d, %+v", o, e, r)
		}
	}
}

func TestExample(t *testing.T) {
	n := made(t, example)
	for _, o := range eachOption(9) {
		if r := run(t, n, 0, o); !r.Done || !r.Found || r.Cost != 0 || len(r.Best) != 2 {
			t.Fatalf("%+v: %+v", o, r)
		}
	}
}

// allCost is a network of functions of these scopes, each tuple of which costs c.
func allCost(k, c int64, sizes []int, scopes ...[]int) string {
	text := fmt.Sprint("t ", len(sizes), " ", slices.Max(sizes), " ", len(scopes), " ", k, numbers(sizes))
	for _, scope := range scopes {
		text += fmt.Sprint(" ", len(scope), numbers(scope), " ", c, " 0")
	}
	return text
}

func numbers(l []int) string {
	text := ""
	for _, x := range l {
		text += fmt.Sprint(" ", x)
	}
	return text
}

// edges are networks and their least, by which of them no assignment is found, if
// that is the top.
var edges = []struct {
	text  string
	least int64
}{
	// Ordinary ones.
	{"t 3 2 3 20, 2 2 2, 2 0 1 0 2, 0 0 3, 1 1 4, 2 1 2 1 1, 0 0 0, 1 2 0 1, 1 2", 0},
	{"t 3 3 4 99, 3 3 3, 2 0 1 9 3, 0 1 2, 1 2 3, 2 0 4, 2 1 2 8 3, 1 2 1, 2 0 5, 0 1 2, 2 0 2 7 3, 0 2 6, 1 0 1, 2 1 3, 1 1 0 1, 2 4", 9},
	{"t 4 2 4 12, 2 2 2 2, 2 0 3 0 2, 0 0 2, 1 1 2, 2 1 3 0 2, 0 1 2, 1 0 2, 2 2 3 1 1, 0 0 0, 3 0 1 2 1 1, 1 1 1 0", 1},
	{"t 5 2 1 50, 2 2 2 2 2, 5 4 2 0 1 3 40 2, 1 0 1 0 1 7, 1 1 1 1 1 8", 7},
	{"t 6 2 1 50, 2 2 2 2 2 2, 6 0 1 2 3 4 5 49 1, 1 0 1 0 1 1 48", 48},
	// All assignments cost the top.
	{allCost(9, 9, []int{2, 3}, []int{0, 1}), 9},
	{allCost(9, 3, []int{2, 3, 2}, []int{0, 1}, []int{1, 2}, []int{0, 2}), 9},
	{allCost(9, 5, []int{2, 3, 2}, []int{0}, []int{2}), 9},
	{allCost(9, 9, []int{2, 2, 2}, []int{0, 1, 2}), 9},
	{"t 2 2 2 9, 2 2, 1 0 0 2, 0 9, 1 9, 1 1 0 0", 9},
	{"t 3 2 3 9, 2 2 2, 2 0 1 0 2, 0 0 9, 1 1 9, 2 1 2 0 2, 0 0 9, 1 1 9, 2 0 2 0 2, 0 0 9, 1 1 9", 9},
	{"t 2 2 2 9, 2 2, 1 0 0 1, 1 4, 2 0 1 5 1, 0 1 9", 5},
	// All but one.
	{"t 2 3 1 9, 3 3, 2 1 0 9 1, 2 1 8", 8},
	{"t 3 2 1 2, 2 2 2, 3 1 2 0 2 1, 1 0 1 1", 1},
	// One variable.
	{"t 1 1 0 9, 1", 0},
	{"t 1 1 1 9, 1, 1 0 4 0", 4},
	{"t 1 1 1 9, 1, 1 0 9 0", 9},
	{"t 1 4 1 9, 4, 1 0 9 3, 1 4, 2 3, 3 5", 3},
	{"t 1 4 2 9, 4, 1 0 9 3, 1 4, 2 3, 3 5, 0 2 0", 5},
	{"t 1 32 1 99, 32, 1 0 98 1, 31 97", 97},
	// Domains of one value.
	{"t 3 1 0 9, 1 1 1", 0},
	{allCost(9, 2, []int{1, 1, 1}, []int{0, 1}, []int{1, 2}, []int{0, 1, 2}), 6},
	{allCost(9, 3, []int{1, 1, 1}, []int{0, 1}, []int{1, 2}, []int{0, 1, 2}), 9},
	{allCost(9, 1, slices.Repeat([]int{1}, 64), []int{0, 63}, []int{1}), 2},
	{"t 4 3 3 20, 1 3 1 2, 2 0 1 0 2, 0 0 3, 0 1 4, 2 1 3 5 2, 2 1 1, 0 0 2, 3 0 2 3 1 1, 0 0 1 4", 5},
	// No functions.
	{"t 2 3 0 9, 2 3", 0},
	{"t 5 3 0 1, 1 2 3 2 1", 0},
	// A cost of no variable alone.
	{"t 2 2 1 9, 2 2, 0 4 0", 4},
	{"t 2 2 1 9, 2 2, 0 8 0", 8},
	{"t 2 2 1 9, 2 2, 0 9 0", 9},
	{"t 2 2 2 9, 2 2, 0 4 0, 0 5 0", 9},
	{"t 1 1 1 2147483648, 1, 0 2147483647 0", api.MaxCost - 1},
	{"t 1 1 1 2147483648, 1, 0 2147483648 0", api.MaxCost},
	// The top is 1.
	{"t 1 1 0 1, 1", 0},
	{"t 1 2 1 1, 2, 0 1 0", 1},
	{"t 3 2 2 1, 2 2 2, 2 0 1 1 1, 0 1 0, 2 1 2 1 1, 1 0 0", 0},
	{"t 3 2 2 1, 2 2 2, 2 0 1 1 1, 0 1 0, 2 1 2 1 1, 0 1 0", 1},
	// The top is the greatest.
	{"t 2 2 2 2147483648, 2 2, 1 0 2147483647 1, 0 2147483640, 2 0 1 7 1, 0 1 8", api.MaxCost - 1},
	{"t 2 2 2 2147483648, 2 2, 1 0 2147483647 1, 0 2147483640, 2 0 1 8 1, 0 1 9", api.MaxCost},
}

func TestLeast(t *testing.T) {
	for _, x := range edges {
		n := made(t, x.text)
		if least := leastOf(t, n); least != x.least {
			t.Fatalf("%.99q: the least is %d, not %d", x.text, least, x.least)
		}
		need, _ := enough(n)
		for _, budget := range []int64{need, most} {
			for _, o := range eachOption(budget) {
				r := run(t, n, x.least, o)
				if !r.Done || r.Found != (x.least < n.K()) {
					t.Fatalf("%.99q: %+v: %+v", x.text, o, r)
				}
			}
		}
		for _, budget := range []int64{0, 1, 2, need - 1} {
			for _, o := range eachOption(budget) {
				run(t, n, x.least, o)
			}
		}
	}
}

func TestNoBudget(t *testing.T) {
	for _, x := range edges {
		n := made(t, x.text)
		for _, o := range eachOption(0) {
			r, e := search.Run(n, o)
			r.Low = 0 // run holds it against the least
			if e != api.OK || !reflect.DeepEqual(r, search.Result{Cost: n.K()}) {
				t.Fatalf("%.99q: %+v: error %d, %+v", x.text, o, e, r)
			}
		}
	}
}

func printed(t *testing.T, n *net.Net) string {
	t.Helper()
	text, e := plain.Print(n.File())
	if e != api.OK {
		t.Fatalf("Print: error %d", e)
	}
	for j := range n.Funs() {
		text = fmt.Append(text, n.Scope(j), n.Table(j).Entries())
	}
	return string(fmt.Append(text, n.Zero(), n.K()))
}

// A network is as it was, and what is told hangs on nothing else, not on what was
// told, nor on what became of that.
func TestAgain(t *testing.T) {
	for _, x := range edges {
		n, other := made(t, x.text), made(t, x.text)
		before := printed(t, n)
		for _, o := range slices.Concat(eachOption(2), eachOption(most)) {
			first, _ := search.Run(n, o)
			again, _ := search.Run(n, o)
			fresh, _ := search.Run(other, o)
			if !reflect.DeepEqual(first, again) || !reflect.DeepEqual(first, fresh) {
				t.Fatalf("%.99q: %+v: %+v, then %+v, of another one %+v", x.text, o, first, again, fresh)
			}
			for i := range again.Best {
				again.Best[i] = -7
			}
			if third, _ := search.Run(n, o); !reflect.DeepEqual(first, third) {
				t.Fatalf("%.99q: %+v: %+v, then %+v", x.text, o, first, third)
			}
		}
		if printed(t, n) != before {
			t.Fatalf("%.99q: the network isn't as it was", x.text)
		}
	}
}
