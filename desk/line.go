package desk

import (
	"strings"

	"pennyweight/check"
	"pennyweight/script"
	"pennyweight/search"
	"pennyweight/state"
)

// answer is what a line asks for. It is done later: that a line is none of the
// table is told whether there is a state or not.
type answer func(s *state.State) string

// read is nil of a line that is none of the table.
func read(line string) answer {
	words := Words(line)
	// Joined again, they lack whatever else stands in the line.
	if len(words) == 0 || strings.Join(words, " ") != line {
		return nil
	}
	word, rest := words[0], words[1:]
	switch word {
	case "enforce":
		return enforcing(rest)
	case "solve":
		return solving(rest)
	}
	l, ok := numbers(rest)
	if !ok {
		return nil
	}
	if o, ok := operation(word, l); ok {
		return doing(o)
	}
	return asking(word, l)
}

func numbers(words []string) ([]int, bool) {
	var l []int
	for _, w := range words {
		n, ok := Small(w)
		if !ok {
			return nil, false
		}
		l = append(l, int(n))
	}
	return l, true
}

func doing(o script.Op) answer {
	return func(s *state.State) string { return done(script.Do(s, o)) }
}

func enforcing(words []string) answer {
	if len(words) != 1 {
		return nil
	}
	level, ok := levelOf(words[0])
	if !ok {
		return nil
	}
	return doing(script.Op{Kind: script.Enforce, A: level})
}

func solving(words []string) answer {
	if len(words) != 6 {
		return nil
	}
	level, named := levelOf(words[0])
	l, small := numbers([]string{words[1], words[2], words[3], words[5]})
	split := words[4]
	if !named || !small || split != "yes" && split != "no" {
		return nil
	}
	o := search.Options{Level: level, Degree: l[0], Order: l[1], Value: l[2], Split: split == "yes", Budget: int64(l[3])}
	return func(s *state.State) string { return solved(s, o) }
}

func levelOf(name string) (int, bool) {
	for level := check.None; level <= check.EDAC; level++ {
		if check.Name(level) == name {
			return level, true
		}
	}
	return 0, false
}

// operation is what layer 24 does of a word and numbers: false, if they are
// nothing of that.
func operation(word string, l []int) (script.Op, bool) {
	switch kind := kindOf(word); {
	case len(l) == 4 && (kind == script.Project || kind == script.Extend):
		return script.Op{Kind: kind, A: l[0], B: l[1], C: l[2], Cost: int64(l[3])}, true
	case len(l) == 2 && (kind == script.Lower || kind == script.Raise):
		return script.Op{Kind: kind, A: l[0], Cost: int64(l[1])}, true
	case len(l) == 2 && (kind == script.Prune || kind == script.Assign || kind == script.Eliminate):
		return script.Op{Kind: kind, A: l[0], B: l[1]}, true
	case len(l) == 1 && (kind == script.All || kind == script.Undo):
		return script.Op{Kind: kind, A: l[0]}, true
	}
	return script.Op{}, false
}

// kindOf is Kinds of a word that is no kind's name.
func kindOf(word string) int {
	kind := 0
	for kind < script.Kinds && script.Name(kind) != word {
		kind++
	}
	return kind
}

// asking is what a word asks of so many numbers: nil, if that is nothing.
func asking(word string, l []int) answer {
	switch {
	case word == "val":
		return func(s *state.State) string { return val(s, l) }
	case word == "rebuild":
		return func(s *state.State) string { return rebuilt(s, l) }
	case len(l) == 1:
		return askingOf(word, l[0])
	case len(l) == 0:
		return askingAll(word)
	}
	return nil
}

func askingOf(word string, n int) answer {
	switch word {
	case "dom":
		return func(s *state.State) string { return values(s, n) }
	case "unary":
		return func(s *state.State) string { return unary(s, n) }
	case "costs":
		return func(s *state.State) string { return costs(s, n) }
	}
	return nil
}

func askingAll(word string) answer {
	switch word {
	case "mark":
		return mark
	case "zero":
		return zero
	case "scopes":
		return scopes
	case "level":
		return level
	case "bound":
		return bound
	case "elims":
		return elims
	case "print":
		return printed
	}
	return nil
}
