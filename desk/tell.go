package desk

import (
	"strings"

	"pennyweight/api"
	"pennyweight/check"
	"pennyweight/elim"
	"pennyweight/plain"
	"pennyweight/scan"
	"pennyweight/search"
	"pennyweight/shape"
	"pennyweight/soft"
	"pennyweight/solve"
	"pennyweight/state"
)

func done(e api.Errno) string {
	if e != api.OK {
		return failed(e)
	}
	return "ok"
}

func failed(e api.Errno) string { return told("error", number(int(e))) }

func mark(s *state.State) string { return told("mark", number(s.Mark())) }

func zero(s *state.State) string { return told("zero", scan.Write(s.Zero())) }

func values(s *state.State, i int) string {
	if !hasVar(s, i) {
		return failed(api.ErrArg)
	}
	var parts []string
	for v := range s.Dom(i).Values() {
		parts = append(parts, number(v))
	}
	return told("dom", parts...)
}

func unary(s *state.State, i int) string {
	if !hasVar(s, i) {
		return failed(api.ErrArg)
	}
	var parts []string
	for v := range s.Dom(i).Values() {
		c, _ := s.Unary(i, v)
		parts = append(parts, number(v)+":"+scan.Write(c))
	}
	return told("unary", parts...)
}

func costs(s *state.State, j int) string {
	if !s.Live(j) {
		return failed(api.ErrArg)
	}
	scope := s.Scope(j)
	var sizes []int
	for _, i := range scope {
		sizes = append(sizes, s.Net().Size(i))
	}
	all, _ := shape.New(sizes) // as the function's own table has it
	var parts []string
tuples:
	for _, t := range all.All() {
		for p, v := range t {
			if !s.Dom(scope[p]).Has(v) {
				continue tuples
			}
		}
		c, _ := s.Cost(j, t)
		parts = append(parts, list(t)+":"+scan.Write(c))
	}
	return told("costs", parts...)
}

func scopes(s *state.State) string {
	var parts []string
	for j := range s.Funs() {
		if s.Live(j) {
			parts = append(parts, number(j)+":"+list(s.Scope(j)))
		}
	}
	return told("scopes", parts...)
}

func val(s *state.State, a []int) string {
	c, e := s.Val(a)
	if e != api.OK {
		return failed(e)
	}
	return told("val", scan.Write(c))
}

func rebuilt(s *state.State, a []int) string {
	whole, e := elim.Rebuild(s, a)
	if e != api.OK {
		return failed(e)
	}
	return told("rebuild", texts(whole)...)
}

func level(s *state.State) string { return told("level", check.Name(check.Of(s))) }

func bound(s *state.State) string {
	c, _ := soft.Bound(s) // there is a state
	return told("bound", scan.Write(c))
}

func elims(s *state.State) string {
	var parts []string
	for _, e := range s.Elims() {
		parts = append(parts, number(e.Var)+":"+list(e.Scope)+":"+list(e.Best))
	}
	return told("elims", parts...)
}

func printed(s *state.State) string {
	text, e := plain.Print(s.Net().File())
	if e != api.OK {
		return failed(e)
	}
	return told("print", strings.ReplaceAll(string(text), "\n", ";"))
}

// solved is of the very text that is printed: the network, not what was done to the state.
func solved(s *state.State, o search.Options) string {
	text, e := plain.Print(s.Net().File())
	if e != api.OK {
		return failed(e)
	}
	return solve.Solve(text, o).Text()
}

func hasVar(s *state.State, i int) bool { return 0 <= i && i < s.N() }

func told(word string, parts ...string) string {
	return strings.Join(append([]string{word}, parts...), " ")
}

func number(n int) string { return scan.Write(int64(n)) }

func list(l []int) string { return strings.Join(texts(l), ",") }

func texts(l []int) []string {
	var out []string
	for _, n := range l {
		out = append(out, number(n))
	}
	return out
}
