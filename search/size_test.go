package search_test

import (
	"fmt"
	"slices"
	"testing"

	"pennyweight/api"
	"pennyweight/search"
)

// apart is the greatest network without functions of two variables, and its least:
// of each variable one value costs 1, the others more.
func apart() (string, int64) {
	text := "t 64 32 65 2147483648" + numbers(slices.Repeat([]int{api.MaxDomain}, api.MaxVars)) + " 0 5 0"
	for i := range api.MaxVars {
		text += fmt.Sprint(" 1 ", i, " ", 2+i%3, " 1 ", i%api.MaxDomain, " 1")
	}
	return text, 5 + api.MaxVars
}

// rows are so many variables in a row, each but 0 mostly dearer when it is as the
// one ahead of it, and what the least is, reckoned from the last one back.
func rows(vars, size int) (string, int64) {
	cost := func(i, v, w int) int64 {
		if v == w {
			return int64(3 + (i*v+w)%2)
		}
		return int64((i*7 + v*5 + w*3) % 4)
	}
	text := fmt.Sprint("t ", vars, " ", size, " ", vars-1, " 1000", numbers(slices.Repeat([]int{size}, vars)))
	behind := make([]int64, size)
	for i := range vars - 1 {
		text += fmt.Sprint(" 2 ", i, " ", i+1, " 0 ", size*size)
		for v := range size {
			for w := range size {
				text += fmt.Sprint(" ", v, " ", w, " ", cost(i, v, w))
			}
		}
	}
	for i := vars - 2; i >= 0; i-- {
		least := make([]int64, size)
		for v := range size {
			least[v] = 1000
			for w := range size {
				least[v] = min(least[v], cost(i, v, w)+behind[w])
			}
		}
		behind = least
	}
	return text, slices.Min(behind)
}

// someOptions are each seventh, not the same of each budget.
func someOptions(budget int64) []search.Options {
	var some []search.Options
	for at, o := range eachOption(budget) {
		if at%7 == int(budget%7) {
			some = append(some, o)
		}
	}
	return some
}

// There are more assignments than any int64 counts: so no Budget is known to be
// enough, but all else holds.
func TestManyAssignments(t *testing.T) {
	text, least := apart()
	n := made(t, text)
	if _, is := enough(n); is {
		t.Fatal("a Budget is enough")
	}
	for _, budget := range []int64{0, 1, 70, most - 1, most} {
		for _, o := range someOptions(budget) {
			run(t, n, least, o)
		}
	}
	for _, size := range []int{2, 4} {
		text, least := rows(api.MaxVars, size)
		n := made(t, text)
		for _, budget := range []int64{0, 1, 20} {
			for _, o := range someOptions(budget) {
				run(t, n, least, o)
			}
		}
	}
	// In a row all is had by what is lent, or by who is taken out.
	text, least = rows(api.MaxVars, 2)
	n = made(t, text)
	for _, o := range []search.Options{{Level: 3, Degree: -1}, {Level: 4, Degree: -1, Split: true}, {Degree: 1}, {Level: 2, Degree: 3, Order: 2, Value: 1}} {
		o.Budget = most
		if r := run(t, n, least, o); !r.Done {
			t.Fatalf("%+v: %+v", o, r)
		}
	}
}

// A network of the top alone, as great as can be: nobody goes through it.
func TestManyOfTheTop(t *testing.T) {
	sizes := slices.Repeat([]int{api.MaxDomain}, api.MaxVars)
	n := made(t, allCost(7, 7, sizes, []int{0, 63}, []int{5}))
	for _, o := range eachOption(40) {
		if r := run(t, n, 7, o); r.Found {
			t.Fatalf("%+v: %+v", o, r)
		}
	}
	n = made(t, allCost(7, 7, sizes, nil))
	for _, o := range eachOption(most) {
		if r := run(t, n, 7, o); !r.Done || r.Found {
			t.Fatalf("%+v: %+v", o, r)
		}
	}
}

// Of one value each there is one assignment: so 3 nodes are enough, however many
// variables there are; if one has two values, 5 are.
func TestOneAssignment(t *testing.T) {
	for two := range 4 {
		sizes := slices.Repeat([]int{1}, api.MaxVars)
		if two > 0 {
			sizes[two*21] = 2
		}
		for _, scope := range [][]int{{0, 1}, {3, 42}, {42}, {0, 1, 2, 21, 42, 63}, {63, 21, 0}} {
			n := made(t, allCost(99, 5, sizes, scope, []int{1, 2}, []int{21, 42}))
			need, _ := enough(n)
			for _, o := range eachOption(need) {
				if r := run(t, n, 15, o); !r.Done || !r.Found {
					t.Fatalf("%v: %+v: %+v", scope, o, r)
				}
			}
		}
	}
}
