package search_test

import (
	"fmt"
	"math/rand"
	"reflect"
	"testing"

	"pennyweight/api"
	"pennyweight/net"
	"pennyweight/search"
)

// someCost is 0, but of every so many: of these mostly little, seldom the top or
// beside it.
func someCost(r *rand.Rand, k int64, many int) int64 {
	if r.Intn(many) > 0 {
		return 0
	}
	if r.Intn(6) == 0 {
		return []int64{k, k, k - 1, r.Int63n(k + 1)}[r.Intn(4)]
	}
	return min(k, 1+r.Int63n(8))
}

// someText is a network of few assignments, with functions of each arity up to 6.
func someText(r *rand.Rand) string {
	var sizes []int
	product, n := 1, 1+r.Intn(6)
	for range n {
		size := 1 + r.Intn(4)
		if product*size > 100 {
			size = 1
		}
		product *= size
		sizes = append(sizes, size)
	}
	k := []int64{1, 2, 9, 20, 20, 1000, api.MaxCost}[r.Intn(7)]
	funs, many, arities := r.Intn(2*n+1), 1+r.Intn(3), []int{0, 1, 1, 2, 2, 2, 2, 2, 3, 3, 4, 5, 6}
	text := fmt.Sprint("t ", n, " 4 ", funs, " ", k, numbers(sizes))
	for range funs {
		scope := r.Perm(n)[:min(n, arities[r.Intn(len(arities))])]
		var lines []string
		for tuple := range tuplesOf(sizes, scope) {
			if c := someCost(r, k, many); c > 0 {
				lines = append(lines, fmt.Sprint(numbers(tuple), " ", c))
			}
		}
		text += fmt.Sprint(" ", len(scope), numbers(scope), " 0 ", len(lines))
		for _, line := range lines {
			text += line
		}
	}
	return text
}

func tuplesOf(sizes, scope []int) func(yield func([]int) bool) {
	return func(yield func([]int) bool) {
		tuple := make([]int, len(scope))
		for {
			if !yield(tuple) {
				return
			}
			at := len(scope) - 1
			for at >= 0 && tuple[at] == sizes[scope[at]]-1 {
				tuple[at] = 0
				at--
			}
			if at < 0 {
				return
			}
			tuple[at]++
		}
	}
}

func someOption(r *rand.Rand, budget int64) search.Options {
	return search.Options{
		Level:  r.Intn(5),
		Degree: r.Intn(5) - 1,
		Order:  r.Intn(3),
		Value:  r.Intn(2),
		Split:  r.Intn(2) == 0,
		Budget: budget,
	}
}

// kinds are of networks and runs: so that none of them is left out by chance.
type kinds struct {
	none, free, between, spent, spentFound, raised int
}

func (k *kinds) count(n *net.Net, least int64, r search.Result) {
	switch {
	case !r.Done && r.Found:
		k.spentFound++
	case !r.Done:
		k.spent++
	case least == n.K():
		k.none++
	case least == 0:
		k.free++
	default:
		k.between++
	}
	if !r.Done && r.Low > n.Zero() {
		k.raised++
	}
}

func (k kinds) enough(t *testing.T, least int) {
	t.Helper()
	if min(k.none, k.free, k.between, k.spent, k.spentFound, k.raised) < least {
		t.Errorf("so many of each kind: %+v", k)
	}
}

// All levels, degrees, orders, values, and both ways to split, of each network.
func TestAllOptions(t *testing.T) {
	r := rand.New(rand.NewSource(1))
	var seen kinds
	for range 60 {
		n := made(t, someText(r))
		least := leastOf(t, n)
		need, _ := enough(n)
		before := printed(t, n)
		for _, o := range eachOption(need) {
			seen.count(n, least, run(t, n, least, o))
			o.Budget = r.Int63n(6)
			seen.count(n, least, run(t, n, least, o))
		}
		if printed(t, n) != before {
			t.Fatalf("%s: the network isn't as it was", before)
		}
	}
	seen.enough(t, 20)
}

// More networks, each of some options.
func TestManyNetworks(t *testing.T) {
	r := rand.New(rand.NewSource(2))
	var seen kinds
	for range 3000 {
		n := made(t, someText(r))
		least := leastOf(t, n)
		need, _ := enough(n)
		for range 3 {
			seen.count(n, least, run(t, n, least, someOption(r, need)))
			seen.count(n, least, run(t, n, least, someOption(r, r.Int63n(need))))
			seen.count(n, least, run(t, n, least, someOption(r, r.Int63n(5))))
		}
	}
	seen.enough(t, 20)
}

// Of each Budget from 0 on, till it is enough: the Cost never rises.
func TestBudgets(t *testing.T) {
	r := rand.New(rand.NewSource(3))
	var seen kinds
	falls := 0
	for range 250 {
		n := made(t, someText(r))
		least := leastOf(t, n)
		need, _ := enough(n)
		o := someOption(r, 0)
		if r.Intn(2) == 0 {
			o.Level, o.Degree = 0, -1 // so there are the most nodes
		}
		last := n.K()
		for ; o.Budget <= need; o.Budget++ {
			told := run(t, n, least, o)
			seen.count(n, least, told)
			if told.Cost > last {
				t.Fatalf("%s: %+v: %+v, but %d with a Budget less", printed(t, n), o, told, last)
			}
			if told.Cost < last && o.Budget > 1 {
				falls++
			}
			last = told.Cost
			if again, _ := search.Run(n, o); !reflect.DeepEqual(again, told) {
				t.Fatalf("%s: %+v: %+v, then %+v", printed(t, n), o, told, again)
			}
		}
	}
	seen.enough(t, 20)
	if falls < 20 {
		t.Errorf("only %d times the Cost fell", falls)
	}
}
