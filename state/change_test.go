package state_test

import (
	"math"
	"reflect"
	"slices"
	"testing"

	"pennyweight/api"
	"pennyweight/state"
	"pennyweight/table"
)

func TestSet(t *testing.T) {
	s := made(t, three)
	want := look(t, s)
	for _, c := range []int64{9, 0, 8, 1, 9} {
		ok(t, s.SetZero(c))
		ok(t, s.SetUnary(1, 2, c))
		ok(t, s.SetUnary(2, 0, 9-c))
		ok(t, s.SetCost(0, []int{1, 0}, c))
		ok(t, s.SetCost(1, []int{1, 2, 1}, 9-c))
		want.zero, want.unary[1][2], want.unary[2][0], want.costs[0][3], want.costs[1][11] = c, c, 9-c, c, 9-c
		got := look(t, s)
		want.facts, want.vals = got.facts, got.vals
		alike(t, "set", got, want)
	}
}

func TestSetUpToTheGreatestTop(t *testing.T) {
	s := made(t, "t 2 1 1 2147483648 1 1, 2 0 1 1 0")
	for _, c := range []int64{top, 0, top - 1} {
		ok(t, s.SetZero(c))
		ok(t, s.SetUnary(1, 0, c))
		ok(t, s.SetCost(0, []int{0, 0}, c))
		if s.Zero() != c || unary(t, s, 1, 0) != c || costOf(t, s, 0, 0, 0) != c || unary(t, s, 0, 0) != 0 {
			t.Errorf("%v, not %d", look(t, s), c)
		}
	}
	if s.SetZero(top+1) != api.ErrRange || s.SetUnary(1, 0, top+1) != api.ErrRange || s.SetCost(0, []int{0, 0}, top+1) != api.ErrRange {
		t.Error("a cost above the top")
	}
}

func TestSetOfWhatIsNoCost(t *testing.T) {
	s := made(t, three)
	for _, c := range []int64{-1, 10, 11, top, math.MaxInt64, math.MinInt64} {
		refused(t, s, api.ErrRange, map[string]func() api.Errno{
			"SetZero":  func() api.Errno { return s.SetZero(c) },
			"SetUnary": func() api.Errno { return s.SetUnary(0, 1, c) },
			"SetCost":  func() api.Errno { return s.SetCost(0, []int{1, 1}, c) },
		})
	}
}

// The cost is wrong, too, of each second call: ErrArg is ahead.
func TestSetOfWhatThereIsNot(t *testing.T) {
	s := made(t, three)
	ok(t, s.Kill(0))
	for _, c := range []int64{1, -1, 10} {
		for _, x := range [][2]int{{-1, 0}, {3, 0}, {math.MaxInt, 0}, {math.MinInt, 0}, {0, -1}, {0, 2}, {1, 3}, {2, math.MaxInt}, {2, math.MinInt}} {
			refused(t, s, api.ErrArg, map[string]func() api.Errno{
				"SetUnary": func() api.Errno { return s.SetUnary(x[0], x[1], c) },
			})
		}
		for _, tuple := range [][]int{nil, {0}, {0, 0}, {0, 0, 0, 0}, {2, 0, 0}, {0, 3, 0}, {0, 0, -1}, {0, 0, math.MaxInt}} {
			refused(t, s, api.ErrArg, map[string]func() api.Errno{
				"SetCost": func() api.Errno { return s.SetCost(1, tuple, c) },
			})
		}
		for _, j := range []int{-1, 0, 2, math.MaxInt, math.MinInt} {
			for _, tuple := range [][]int{nil, {0, 0}, {0, 0, 0}} {
				refused(t, s, api.ErrArg, map[string]func() api.Errno{
					"SetCost": func() api.Errno { return s.SetCost(j, tuple, c) },
				})
			}
		}
	}
}

func TestDrop(t *testing.T) {
	s := made(t, three)
	for _, x := range []struct {
		v    int
		want []int
	}{{1, []int{0, 2}}, {1, []int{0, 2}}, {0, []int{2}}, {1, []int{2}}, {2, nil}, {2, nil}, {0, nil}} {
		ok(t, s.Drop(1, x.v))
		if l := values(s, 1); !slices.Equal(l, x.want) || s.Dom(1).Size() != 3 || s.Dom(0) != full(t, 2) || s.Dom(2) != full(t, 2) {
			t.Errorf("Drop(1, %d): %v, not %v", x.v, l, x.want)
		}
	}
	if val(t, s, 0, 0, 0) != 9 || s.Gone(1) || !slices.Equal(s.Near(1), []int{0, 1}) {
		t.Errorf("%v", look(t, s))
	}
	for _, x := range [][2]int{{-1, 0}, {3, 0}, {math.MaxInt, 0}, {math.MinInt, 0}, {0, -1}, {0, 2}, {1, 3}, {1, 64}, {2, math.MaxInt}, {2, math.MinInt}} {
		refused(t, s, api.ErrArg, map[string]func() api.Errno{
			"Drop": func() api.Errno { return s.Drop(x[0], x[1]) },
		})
	}
}

func TestDropOfTheLastOfManyValues(t *testing.T) {
	s := made(t, "t 2 32 0 9 32 1")
	for v := range 32 {
		if v != 30 {
			ok(t, s.Drop(0, v))
		}
	}
	if l := values(s, 0); !slices.Equal(l, []int{30}) || val(t, s, 30, 0) != 0 || val(t, s, 31, 0) != 9 {
		t.Errorf("%v", l)
	}
	ok(t, s.Drop(1, 0))
	if len(values(s, 1)) != 0 || s.Dom(1).Size() != 1 || val(t, s, 30, 0) != 9 {
		t.Errorf("%v", look(t, s))
	}
	ok(t, s.SetUnary(0, 31, 7))
	ok(t, s.SetUnary(0, 0, 9))
	if unary(t, s, 0, 31) != 7 || unary(t, s, 0, 0) != 9 || unary(t, s, 0, 30) != 0 {
		t.Errorf("%v", look(t, s))
	}
}

func TestCostsOfValuesThatAreDropped(t *testing.T) {
	s := made(t, three)
	ok(t, s.Drop(1, 2))
	ok(t, s.Drop(0, 1))
	if unary(t, s, 1, 2) != 9 || costOf(t, s, 0, 1, 2) != 9 || costOf(t, s, 1, 1, 2, 0) != 6 {
		t.Errorf("%v", look(t, s))
	}
	for _, c := range []int64{0, 9, 5} {
		ok(t, s.SetUnary(1, 2, c))
		ok(t, s.SetCost(0, []int{1, 2}, c))
		ok(t, s.SetCost(1, []int{0, 2, 1}, c))
		if unary(t, s, 1, 2) != c || costOf(t, s, 0, 1, 2) != c || costOf(t, s, 1, 0, 2, 1) != c {
			t.Errorf("%v", look(t, s))
		}
	}
	if s.SetUnary(1, 2, 10) != api.ErrRange || s.SetCost(0, []int{1, 2}, -1) != api.ErrRange {
		t.Error("no cost")
	}
}

func TestAdd(t *testing.T) {
	s := made(t, three)
	x := fill(t, 9, 2, 2, 2)
	ok(t, x.Put([]int{1, 0}, 9))
	j := add(t, s, x, 0, 2)
	ok(t, x.Put([]int{0, 0}, 7))
	if j != 2 || costOf(t, s, 2, 0, 0) != 2 || costOf(t, s, 2, 1, 0) != 9 || costOf(t, s, 2, 1, 1) != 2 {
		t.Errorf("%v", look(t, s))
	}
	if val(t, s, 0, 0, 0) != 8 || val(t, s, 1, 0, 0) != 9 || val(t, s, 1, 0, 1) != 8 {
		t.Errorf("%v", look(t, s))
	}
	ok(t, s.SetCost(2, []int{0, 1}, 0))
	if val(t, s, 0, 0, 1) != 6 || !reflect.DeepEqual(x.Entries(), []int64{7, 2, 9, 2}) {
		t.Errorf("%v; the table: %v", look(t, s), x.Entries())
	}
	scope := []int{0, 1, 2}
	if _, e := s.Add(scope, fill(t, 9, 1, 2, 3, 2)); e != api.OK || !slices.Equal(scope, []int{0, 1, 2}) {
		t.Errorf("error %d, the scope: %v", e, scope)
	}
	clear(scope)
	if l := s.Scope(3); !slices.Equal(l, []int{0, 1, 2}) || !slices.Equal(s.Near(2), []int{1, 2, 3}) {
		t.Errorf("the scope that was handed in was kept: %v", l)
	}
}

func TestAddOfTheGreatest(t *testing.T) {
	s := made(t, "t 7 4 0 2147483648 4 4 4 4 4 4 1")
	x := fill(t, top, 1, 4, 4, 4, 4, 4, 4)
	ok(t, x.Put([]int{3, 3, 3, 3, 3, 3}, top))
	ok(t, x.Put([]int{0, 0, 0, 0, 0, 0}, 0))
	for range 5 {
		add(t, s, x, 0, 1, 2, 3, 4, 5)
	}
	if val(t, s, 0, 0, 0, 0, 0, 0, 0) != 0 || val(t, s, 3, 3, 3, 3, 3, 2, 0) != 5 || val(t, s, 3, 3, 3, 3, 3, 3, 0) != top {
		t.Error("six variables")
	}
	add(t, s, fill(t, top, 3, 4, 4, 4, 4, 4, 1), 0, 1, 2, 3, 4, 6)
	if val(t, s, 0, 0, 0, 0, 0, 0, 0) != 3 || costOf(t, s, 5, 3, 3, 3, 3, 3, 0) != 3 || costOf(t, s, 4, 3, 3, 3, 3, 3, 3) != top {
		t.Error("one more of six")
	}
}

func TestAddOfWhatDoesNotFit(t *testing.T) {
	s := made(t, "t 9 3 1 9 2 2 2 2 2 2 2 3 1, 2 0 1 0 1 0 0 4")
	ok(t, s.Remove(state.Elim{Var: 6, Best: []int{0}}))
	two, wrong := fill(t, 9, 1, 2, 2), fill(t, 8, 1, 2, 2)
	for what, x := range map[string]struct {
		scope []int
		table *table.Table
	}{
		"no variables":       {nil, fill(t, 9, 1)},
		"one":                {[]int{0}, fill(t, 9, 1, 2)},
		"one, a table of 2":  {[]int{0}, two},
		"seven":              {[]int{0, 1, 2, 3, 4, 5, 8}, fill(t, 9, 1, 2, 2, 2, 2, 2, 2)},
		"falling":            {[]int{1, 0}, two},
		"one twice":          {[]int{1, 1}, two},
		"falling behind":     {[]int{0, 2, 1}, fill(t, 9, 1, 2, 2, 2)},
		"not there":          {[]int{0, 9}, two},
		"far from there":     {[]int{0, math.MaxInt}, two},
		"below 0":            {[]int{-1, 0}, two},
		"far below 0":        {[]int{math.MinInt, 0}, two},
		"gone":               {[]int{0, 6}, two},
		"nil":                {[]int{0, 1}, nil},
		"nil of nothing":     {nil, nil},
		"sizes greater":      {[]int{0, 1}, fill(t, 9, 1, 2, 3)},
		"sizes less":         {[]int{0, 7}, two},
		"sizes turned":       {[]int{0, 7}, fill(t, 9, 1, 3, 2)},
		"fewer sizes":        {[]int{0, 1, 2}, two},
		"more sizes":         {[]int{0, 1}, fill(t, 9, 1, 2, 2, 2)},
		"more sizes, of one": {[]int{0, 1}, fill(t, 9, 1, 2, 2, 1)},
		"another top":        {[]int{0, 1}, wrong},
		"a greater top":      {[]int{0, 1}, fill(t, 10, 1, 2, 2)},
		"all is wrong":       {[]int{9, -1, 6}, wrong},
	} {
		refused(t, s, api.ErrArg, map[string]func() api.Errno{what: func() api.Errno {
			j, e := s.Add(x.scope, x.table)
			if j != 0 {
				t.Errorf("%s: %d", what, j)
			}
			return e
		}})
	}
	add(t, s, fill(t, 9, 1, 2, 3), 0, 7)
	add(t, s, fill(t, 9, 1, 2, 1), 5, 8)
}

func TestKill(t *testing.T) {
	s := made(t, three)
	add(t, s, fill(t, 9, 2, 2, 2), 0, 2)
	ok(t, s.Kill(0))
	if s.Live(0) || !s.Live(1) || !s.Live(2) || s.Funs() != 3 || !slices.Equal(s.Scope(0), []int{0, 1}) {
		t.Errorf("%v", look(t, s))
	}
	if val(t, s, 0, 1, 0) != 9 || val(t, s, 0, 0, 0) != 8 {
		t.Errorf("%v", look(t, s))
	}
	for _, j := range []int{0, -1, 3, 4, math.MaxInt, math.MinInt} {
		refused(t, s, api.ErrArg, map[string]func() api.Errno{"Kill": func() api.Errno { return s.Kill(j) }})
	}
	ok(t, s.Kill(2))
	ok(t, s.Kill(1))
	if val(t, s, 0, 1, 0) != 8 || len(s.Near(0)) != 0 || s.Funs() != 3 || !slices.Equal(s.Scope(2), []int{0, 2}) {
		t.Errorf("%v", look(t, s))
	}
}

func TestNearAndFind(t *testing.T) {
	s := made(t, "t 4 2 2 9 2 2 2 2, 2 0 1 1 0, 2 1 2 1 0")
	two := fill(t, 9, 1, 2, 2)
	check := func(what string, near [][]int, find ...int) {
		t.Helper()
		for i, want := range near {
			if l := s.Near(i); !slices.Equal(l, want) {
				t.Errorf("%s: Near(%d) is %v, not %v", what, i, l, want)
			}
		}
		for p, scope := range [][]int{{0, 1}, {1, 2}, {0, 3}, {0, 1, 3}, {1, 0}, {0}, nil} {
			want := -1
			if p < len(find) {
				want = find[p]
			}
			if j := s.Find(scope); j != want {
				t.Errorf("%s: Find(%v) is %d, not %d", what, scope, j, want)
			}
		}
	}
	check("new", [][]int{{0}, {0, 1}, {1}, nil}, 0, 1)
	add(t, s, two, 0, 3)
	add(t, s, two, 0, 1)
	add(t, s, fill(t, 9, 1, 2, 2, 2), 0, 1, 3)
	add(t, s, two, 0, 1)
	check("added", [][]int{{0, 2, 3, 4, 5}, {0, 1, 3, 4, 5}, {1}, {2, 4}}, 0, 1, 2, 4)
	ok(t, s.Kill(0))
	check("the first is killed", [][]int{{2, 3, 4, 5}, {1, 3, 4, 5}, {1}, {2, 4}}, 3, 1, 2, 4)
	ok(t, s.Kill(4))
	ok(t, s.Kill(1))
	check("more are killed", [][]int{{2, 3, 5}, {3, 5}, nil, {2}}, 3, -1, 2)
	ok(t, s.Kill(3))
	add(t, s, two, 1, 2)
	check("one is added again", [][]int{{2, 5}, {5, 6}, {6}, {2}}, 5, 6, 2)
	ok(t, s.Kill(5))
	ok(t, s.Kill(2))
	check("one is left", [][]int{nil, {6}, {6}, nil}, -1, 6)
}

func TestRemove(t *testing.T) {
	s := made(t, "t 4 3 1 9 2 3 2 2, 2 0 1 1 0")
	ok(t, s.Drop(3, 1))
	ok(t, s.SetUnary(3, 0, 6))
	all := []state.Elim{
		{Var: 3, Scope: []int{0, 1}, Best: []int{0, 1, -1, 1, 0, 0}},
		{Var: 2, Scope: []int{1}, Best: []int{1, 0, -1}},
		{Var: 1, Best: []int{2}},
		{Var: 0, Best: []int{-1}},
	}
	for n, x := range all {
		if x.Var == 1 {
			ok(t, s.Kill(0))
		}
		ok(t, s.Remove(x))
		if l := s.Elims(); !s.Gone(x.Var) || !reflect.DeepEqual(l, all[:n+1]) {
			t.Errorf("%d is gone: %v, %v", x.Var, s.Gone(x.Var), l)
		}
		for i := range x.Var {
			if s.Gone(i) {
				t.Errorf("%d is gone", i)
			}
		}
	}
	if l := values(s, 3); !slices.Equal(l, []int{0}) || unary(t, s, 3, 0) != 6 {
		t.Errorf("of one that is gone: %v, %d", l, unary(t, s, 3, 0))
	}
	ok(t, s.SetUnary(3, 0, 9))
	ok(t, s.Drop(3, 0))
	if len(values(s, 3)) != 0 || unary(t, s, 3, 0) != 9 || s.SetUnary(3, 2, 0) != api.ErrArg || s.Drop(3, 2) != api.ErrArg {
		t.Errorf("of one that is gone: %v", look(t, s))
	}
}

func TestRemoveOfWhatIsWrong(t *testing.T) {
	s := made(t, "t 6 3 2 9 2 3 2 3 1 2, 2 0 1 0 1 0 0 4, 2 1 5 1 0")
	ok(t, s.Kill(1))
	ok(t, s.Remove(state.Elim{Var: 2, Scope: []int{0}, Best: []int{1, 1}}))
	for what, x := range map[string]state.Elim{
		"not there":                   {Var: 6, Best: []int{0}},
		"far from there":              {Var: math.MaxInt, Best: []int{0}},
		"below 0":                     {Var: -1, Best: []int{0}},
		"far below 0":                 {Var: math.MinInt, Best: []int{0}},
		"gone":                        {Var: 2, Best: []int{0}},
		"gone, as it was":             {Var: 2, Scope: []int{0}, Best: []int{1, 1}},
		"in a function, the first":    {Var: 0, Best: []int{0}},
		"in a function, the second":   {Var: 1, Best: []int{0}},
		"scope: not there":            {Var: 3, Scope: []int{6}, Best: []int{0, 0}},
		"scope: behind, not there":    {Var: 3, Scope: []int{0, math.MaxInt}, Best: []int{0, 0}},
		"scope: below 0":              {Var: 3, Scope: []int{-1}, Best: []int{0}},
		"scope: gone":                 {Var: 3, Scope: []int{2}, Best: []int{0, 0}},
		"scope: gone, with another":   {Var: 3, Scope: []int{0, 2}, Best: []int{0, 0, 0, 0}},
		"scope: the variable":         {Var: 3, Scope: []int{3}, Best: []int{0, 0, 0}},
		"scope: it, with another":     {Var: 3, Scope: []int{0, 3}, Best: []int{0, 0, 0, 0, 0, 0}},
		"scope: falls":                {Var: 3, Scope: []int{1, 0}, Best: []int{0, 0, 0, 0, 0, 0}},
		"scope: one twice":            {Var: 3, Scope: []int{0, 0}, Best: []int{0, 0, 0, 0}},
		"scope: falls behind":         {Var: 3, Scope: []int{0, 5, 4}, Best: []int{0, 0, 0, 0}},
		"best: none":                  {Var: 3},
		"best: too many of none":      {Var: 3, Best: []int{0, 0}},
		"best: too few":               {Var: 3, Scope: []int{0, 1}, Best: []int{0, 0, 0, 0, 0}},
		"best: too many":              {Var: 3, Scope: []int{0, 1}, Best: []int{0, 0, 0, 0, 0, 0, 0}},
		"best: none of one":           {Var: 3, Scope: []int{4}},
		"best: not there":             {Var: 3, Scope: []int{0}, Best: []int{0, 3}},
		"best: not of the scope":      {Var: 5, Scope: []int{1}, Best: []int{2, 0, 0}},
		"best: far from there":        {Var: 3, Scope: []int{0}, Best: []int{math.MaxInt, 0}},
		"best: below -1":              {Var: 3, Scope: []int{0}, Best: []int{0, -2}},
		"best: far below -1":          {Var: 3, Best: []int{math.MinInt}},
		"a zero Elim":                 {},
		"best: the first one's, more": {Var: 4, Scope: []int{0}, Best: []int{0, 1}},
	} {
		refused(t, s, api.ErrArg, map[string]func() api.Errno{what: func() api.Errno { return s.Remove(x) }})
	}
	ok(t, s.Remove(state.Elim{Var: 3, Scope: []int{0, 1, 4, 5}, Best: slices.Repeat([]int{2, -1, 0, 1}, 3)}))
}

func TestRemoveWithALongScope(t *testing.T) {
	s := made(t, "t 29 32 0 9 2 2 2 2 2 2 2 2 2 2 2 2 2 2 1 32 32 32 32 32 32 32 32 32 32 32 32 32 32")
	for what, x := range map[string]state.Elim{
		"as many as wrap round to none": {Var: 0, Scope: []int{15, 16, 17, 18, 19, 20, 21, 22, 23, 24, 25, 26, 27}},
		"and one of the others":         {Var: 0, Scope: []int{1, 15, 16, 17, 18, 19, 20, 21, 22, 23, 24, 25, 26, 27}, Best: []int{0}},
		"many, but one too few":         {Var: 0, Scope: []int{1, 2, 3, 4, 5, 6, 7, 8, 9, 10, 11, 12, 13}, Best: make([]int, 8191)},
	} {
		if e := s.Remove(x); e != api.ErrArg || s.Gone(0) {
			t.Errorf("%s: error %d", what, e)
		}
	}
	x := state.Elim{Var: 0, Scope: []int{1, 2, 3, 4, 5, 6, 7, 8, 9, 10, 11, 12, 13, 14}, Best: slices.Repeat([]int{1, -1}, 4096)}
	ok(t, s.Remove(x))
	if l := s.Elims(); !s.Gone(0) || !reflect.DeepEqual(l, []state.Elim{x}) {
		t.Errorf("%v, %v", s.Gone(0), l)
	}
}

func TestWhatWasToldOrHandedInIsChanged(t *testing.T) {
	s := made(t, three)
	ok(t, s.Kill(1))
	x := state.Elim{Var: 2, Scope: []int{0, 1}, Best: []int{0, 1, 0, 1, 0, -1}}
	ok(t, s.Remove(x))
	before := look(t, s)
	first := s.Elims()
	clear(x.Scope)
	clear(x.Best)
	alike(t, "what was handed to Remove", look(t, s), before)
	l := s.Elims()
	clear(l[0].Scope)
	clear(l[0].Best)
	l[0].Var = 7
	_ = append(l[:0:1], state.Elim{})
	alike(t, "Elims", look(t, s), before)
	clear(s.Scope(0))
	_ = append(s.Scope(0), 7)
	alike(t, "Scope", look(t, s), before)
	clear(s.Near(0))
	clear(s.Near(1))
	alike(t, "Near", look(t, s), before)
	clear(s.Facts())
	alike(t, "Facts", look(t, s), before)
	if !reflect.DeepEqual(first, before.elims) {
		t.Errorf("an earlier answer has changed: %v", first)
	}
}

func TestArgumentsStay(t *testing.T) {
	s := made(t, three)
	// With spare room, which isn't to be written either.
	list := func(l ...int) []int { return append(l, 77, 78)[:len(l)] }
	a, tuple, scope, find := list(1, 2, 0), list(1, 1), list(0, 1), list(0, 2)
	x := state.Elim{Var: 2, Scope: list(0, 1), Best: list(0, 1, 0, 1, 0, -1)}
	val(t, s, a...)
	s.Val(a)
	ok(t, s.SetCost(0, tuple, 3))
	s.Cost(0, tuple)
	add(t, s, fill(t, 9, 1, 2, 3), scope...)
	s.Find(find)
	ok(t, s.Kill(1))
	ok(t, s.Remove(x))
	s.Undo(0)
	for _, l := range []struct{ got, want []int }{
		{a, []int{1, 2, 0}}, {tuple, []int{1, 1}}, {scope, []int{0, 1}}, {find, []int{0, 2}}, {x.Scope, []int{0, 1}}, {x.Best, []int{0, 1, 0, 1, 0, -1}},
	} {
		if !slices.Equal(l.got, l.want) || !slices.Equal(l.got[:len(l.got)+2][len(l.got):], []int{77, 78}) {
			t.Errorf("%v, not %v", l.got[:len(l.got)+2], l.want)
		}
	}
}
