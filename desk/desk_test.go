package desk_test

import (
	"slices"
	"strings"
	"testing"

	"pennyweight/desk"
)

// each has a value for each level, that enforcing it makes the state be of and of no other.
const each = "load t 3 2 3 9  2 2 2  1 2 1 1 0 3  2 0 2 0 1 1 1 9  2 1 2 0 3 0 1 9 1 0 1 1 1 2"

// plays holds lines, a line each, against the answers that stand behind an arrow: of a
// new desk, and of a Run.
func plays(t *testing.T, script string) {
	t.Helper()
	p := pairOf(t)
	var lines, want []string
	for _, one := range strings.Split(strings.TrimSpace(script), "\n") {
		line, answer, ok := strings.Cut(strings.TrimSpace(one), " -> ")
		if !ok {
			t.Fatalf("no answer: %q", one)
		}
		switch line {
		case "load small":
			line = small
		case "load each":
			line = each
		}
		if got := p.do(line); got != answer {
			t.Fatalf("Do(%q): %q, not %q", line, got, answer)
		}
		lines, want = append(lines, line), append(want, answer)
	}
	if got := desk.Run(strings.Join(lines, "\n")); !slices.Equal(got, want) {
		t.Fatalf("Run:\n%q, not\n%q", got, want)
	}
}

func TestExample(t *testing.T) {
	plays(t, `
		load t 1 2 1 9 2 1 0 0 2 0 1 1 2 -> ok
		enforce nc -> ok
		zero -> zero 1
		unary 0 -> unary 0:0 1:1`)
}

func TestAsked(t *testing.T) {
	plays(t, `
		load small -> ok
		zero -> zero 2
		dom 0 -> dom 0 1
		dom 1 -> dom 0 1 2
		dom 2 -> dom 0 1
		unary 0 -> unary 0:3 1:4
		unary 1 -> unary 0:0 1:0 2:9
		unary 2 -> unary 0:1 1:0
		scopes -> scopes 0:0,1 1:1,2
		costs 0 -> costs 0,0:2 0,1:9 0,2:2 1,0:2 1,1:2 1,2:2
		costs 1 -> costs 0,0:0 0,1:0 1,0:5 1,1:6 2,0:0 2,1:0
		level -> level none
		bound -> bound 5
		elims -> elims
		print -> print t 3 3 6 9;2 3 2;0 2 0;1 0 3 1;1 4;1 1 0 1;2 9;1 2 0 1;0 1;2 0 1 2 1;0 1 9;2 1 2 0 2;1 0 5;1 1 6;
		val 0 0 0 -> val 8
		val 0 1 0 -> val 9
		val 1 1 1 -> val 9
		val 1 2 1 -> val 9
		rebuild 1 2 0 -> rebuild 1 2 0
		mark -> mark 0
		mark -> mark 1`)
}

// TestWhatThereIsnt asks of the last right ones, too.
func TestWhatThereIsnt(t *testing.T) {
	plays(t, `
		load small -> ok
		dom -1 -> error 1
		dom 2 -> dom 0 1
		dom 3 -> error 1
		dom 999999999999 -> error 1
		dom -999999999999 -> error 1
		dom 4294967296 -> error 1
		unary -1 -> error 1
		unary 2 -> unary 0:1 1:0
		unary 3 -> error 1
		unary 999999999999 -> error 1
		unary -999999999999 -> error 1
		unary 4294967296 -> error 1
		costs -1 -> error 1
		costs 1 -> costs 0,0:0 0,1:0 1,0:5 1,1:6 2,0:0 2,1:0
		costs 2 -> error 1
		costs 999999999999 -> error 1
		costs -999999999999 -> error 1
		costs 4294967296 -> error 1
		val -> error 3
		val 0 0 -> error 3
		val 0 0 0 0 -> error 3
		val 1 2 1 -> val 9
		val 2 0 0 -> error 3
		val 0 3 0 -> error 3
		val 0 0 2 -> error 3
		val -1 0 0 -> error 3
		val 0 -1 0 -> error 3
		val 0 0 -1 -> error 3
		val 999999999999 0 0 -> error 3
		val 4294967296 0 0 -> error 3
		val 0 0 -999999999999 -> error 3
		rebuild -> error 3
		rebuild 0 0 -> error 3
		rebuild 0 0 0 0 -> error 3
		rebuild 1 2 1 -> rebuild 1 2 1
		rebuild 2 0 0 -> error 3
		rebuild 0 3 0 -> error 3
		rebuild 0 0 -1 -> error 3
		rebuild 999999999999 0 0 -> error 3
		rebuild 4294967296 0 0 -> error 3`)
}

func TestMoves(t *testing.T) {
	plays(t, `
		load small -> ok
		project 0 0 0 3 -> error 7
		project 0 0 0 10 -> error 3
		project 0 0 0 999999999999 -> error 3
		project 0 0 0 -1 -> error 3
		project 0 0 2 0 -> error 1
		project 0 2 0 0 -> error 1
		project 0 -1 0 0 -> error 1
		project 2 0 0 0 -> error 1
		project -1 0 0 0 -> error 1
		project 999999999999 0 0 0 -> error 1
		project 4294967296 0 0 0 -> error 1
		project 0 4294967296 0 0 -> error 1
		project 0 0 4294967296 0 -> error 1
		project 0 1 2 2 -> ok
		unary 1 -> unary 0:0 1:0 2:9
		costs 0 -> costs 0,0:2 0,1:9 0,2:0 1,0:2 1,1:2 1,2:0
		extend 0 0 1 3 -> ok
		extend 0 0 1 2 -> error 7
		extend 0 0 1 -1 -> error 3
		extend 0 0 1 10 -> error 3
		extend 0 0 2 1 -> error 1
		extend 1 2 0 1 -> error 1
		extend 2 0 0 1 -> error 1
		costs 0 -> costs 0,0:2 0,1:9 0,2:0 1,0:5 1,1:5 1,2:3
		unary 0 -> unary 0:3 1:1
		lower 0 2 -> error 7
		lower 0 1 -> ok
		zero -> zero 3
		unary 0 -> unary 0:2 1:0
		lower 0 10 -> error 3
		lower 3 0 -> error 1
		lower -1 0 -> error 1
		lower 4294967296 0 -> error 1
		lower 0 -1 -> error 3
		raise 0 4 -> error 7
		raise 1 3 -> ok
		zero -> zero 0
		unary 1 -> unary 0:3 1:3 2:9
		raise 0 10 -> error 3
		raise 3 0 -> error 1
		raise -999999999999 0 -> error 1
		prune 1 2 -> ok
		dom 1 -> dom 0 1
		unary 1 -> unary 0:3 1:3
		costs 0 -> costs 0,0:2 0,1:9 1,0:5 1,1:5
		costs 1 -> costs 0,0:0 0,1:0 1,0:5 1,1:6
		prune 1 2 -> error 1
		prune 1 0 -> error 7
		prune 1 3 -> error 1
		prune 3 0 -> error 1
		prune 4294967296 0 -> error 1
		prune 0 4294967296 -> error 1
		val 0 2 0 -> val 9
		val 0 0 0 -> val 8
		rebuild 0 2 0 -> error 3
		rebuild 0 0 0 -> rebuild 0 0 0
		assign 2 1 -> ok
		dom 2 -> dom 1
		costs 1 -> costs 0,1:0 1,1:6
		assign 2 0 -> error 1
		assign 2 2 -> error 1
		assign 3 0 -> error 1
		assign -1 0 -> error 1
		val 0 0 0 -> val 9
		rebuild 0 0 0 -> error 3
		rebuild 0 0 1 -> rebuild 0 0 1
		level -> level none
		bound -> bound 3
		elims -> elims`)
}

func TestMarks(t *testing.T) {
	plays(t, `
		load small -> ok
		undo 0 -> error 2
		undo -1 -> error 2
		undo 999999999999 -> error 2
		mark -> mark 0
		prune 1 2 -> ok
		mark -> mark 1
		lower 0 3 -> ok
		mark -> mark 2
		undo 3 -> error 2
		undo 4294967296 -> error 2
		undo 2 -> ok
		mark -> mark 2
		zero -> zero 5
		undo 1 -> ok
		undo 1 -> error 2
		zero -> zero 2
		dom 1 -> dom 0 1
		mark -> mark 1
		undo 0 -> ok
		undo 0 -> error 2
		dom 1 -> dom 0 1 2
		mark -> mark 0`)
}

func TestLevels(t *testing.T) {
	plays(t, `
		load each -> ok
		level -> level none
		bound -> bound 1
		enforce none -> ok
		level -> level none
		enforce nc -> ok
		level -> level nc
		bound -> bound 1
		enforce ac -> ok
		level -> level ac
		bound -> bound 2
		enforce fdac -> ok
		level -> level fdac
		bound -> bound 2
		enforce edac -> ok
		level -> level edac
		bound -> bound 3
		zero -> zero 3`)
}

func TestTakenOut(t *testing.T) {
	plays(t, `
		load small -> ok
		eliminate 1 1 -> error 12
		eliminate 1 4 -> error 1
		eliminate 1 -1 -> error 1
		eliminate 3 2 -> error 1
		eliminate -1 2 -> error 1
		eliminate 4294967296 2 -> error 1
		eliminate 1 4294967296 -> error 1
		eliminate 0 0 -> error 12
		all 4 -> error 1
		all -1 -> error 1
		all 999999999999 -> error 1
		all 4294967296 -> error 1
		elims -> elims
		mark -> mark 0
		eliminate 1 2 -> ok
		elims -> elims 1:0,2:0,0,0,0
		level -> level none
		bound -> bound 5
		scopes -> scopes 2:0,2
		costs 0 -> error 1
		costs 1 -> error 1
		costs 2 -> costs 0,0:2 0,1:2 1,0:2 1,1:2
		costs 3 -> error 1
		dom 1 -> dom 0 1 2
		unary 1 -> unary 0:0 1:0 2:9
		val 0 -7 1 -> val 7
		val 0 999999999999 1 -> val 7
		val 0 0 2 -> error 3
		rebuild 1 -7 0 -> rebuild 1 0 0
		rebuild 1 0 2 -> error 3
		eliminate 1 2 -> error 1
		lower 1 0 -> error 1
		prune 1 0 -> error 1
		project 0 0 0 0 -> error 1
		project 2 0 0 2 -> ok
		costs 2 -> costs 0,0:0 0,1:0 1,0:2 1,1:2
		all 0 -> ok
		elims -> elims 1:0,2:0,0,0,0
		all 1 -> ok
		elims -> elims 1:0,2:0,0,0,0 0:2:0,0 2::1
		scopes -> scopes
		costs 2 -> error 1
		zero -> zero 7
		level -> level edac
		bound -> bound 7
		val 5 -5 0 -> val 7
		rebuild 5 -5 0 -> rebuild 0 0 1
		val 5 -> error 3
		rebuild 5 -> error 3
		undo 0 -> ok
		elims -> elims
		scopes -> scopes 0:0,1 1:1,2
		zero -> zero 2
		eliminate 0 1 -> ok
		elims -> elims 0:1:0,1,0
		unary 1 -> unary 0:5 1:6 2:9
		all 3 -> ok
		elims -> elims 0:1:0,1,0 1:2:0,0 2::1
		print -> print t 3 3 6 9;2 3 2;0 2 0;1 0 3 1;1 4;1 1 0 1;2 9;1 2 0 1;0 1;2 0 1 2 1;0 1 9;2 1 2 0 2;1 0 5;1 1 6;`)
}

// TestNoneLeft has a variable without a value.
func TestNoneLeft(t *testing.T) {
	plays(t, `
		load t 2 2 2 9 2 1  0 9 0  2 0 1 0 1 0 0 3 -> ok
		prune 1 0 -> ok
		dom 1 -> dom
		unary 1 -> unary
		costs 0 -> costs
		val 0 0 -> val 9
		rebuild 0 0 -> error 3
		level -> level none
		bound -> bound 9
		lower 1 0 -> error 7
		enforce none -> ok
		enforce nc -> error 8
		eliminate 1 1 -> ok
		elims -> elims 1:0:-1,-1
		unary 0 -> unary 0:9 1:9
		rebuild 0 0 -> error 8
		print -> print t 2 2 2 9;2 1;0 9 0;2 0 1 0 1;0 0 3;`)
}

// TestNoFunctions has none at all, and only such as are of no variables or of one.
func TestNoFunctions(t *testing.T) {
	plays(t, `
		load only 1 1 0 9 1 -> ok
		scopes -> scopes
		costs 0 -> error 1
		zero -> zero 0
		unary 0 -> unary 0:0
		print -> print only 1 1 0 9;1;
		all 0 -> ok
		elims -> elims 0::0
		rebuild 5 -> rebuild 0
		bound -> bound 0
		load z;; 2 3 4 9 3 1  0 4 0  0 0 0  1 0 2 1 1 5  1 1 1 0 -> ok
		scopes -> scopes
		costs 0 -> error 1
		zero -> zero 4
		unary 0 -> unary 0:2 1:5 2:2
		unary 1 -> unary 0:1
		print -> print z;; 2 3 3 9;3 1;0 4 0;1 0 2 1;1 5;1 1 1 0;`)
}

func TestSolve(t *testing.T) {
	plays(t, `
		load small -> ok
		solve none -1 0 0 no 999999999999 -> optimum 7 0 0 1
		solve nc 0 1 1 yes 1000 -> optimum 7 0 0 1
		solve ac 1 2 0 no 1000 -> optimum 7 0 0 1
		solve fdac 2 0 1 yes 1000 -> optimum 7 0 0 1
		solve edac 3 1 0 no 1000 -> optimum 7 0 0 1
		solve edac 2 2 1 yes 0 -> spent 0 9
		solve none -1 0 0 no 0 -> spent 0 9
		solve nc -2 0 0 no 9 -> wrong
		solve nc 4 0 0 no 9 -> wrong
		solve nc 0 3 0 no 9 -> wrong
		solve nc 0 -1 0 no 9 -> wrong
		solve nc 0 0 2 no 9 -> wrong
		solve nc 0 0 -1 no 9 -> wrong
		solve nc 0 0 0 no -1 -> wrong
		solve nc 4294967296 0 0 no 9 -> wrong
		solve nc 0 4294967296 0 no 9 -> wrong
		solve nc 0 0 4294967296 no 9 -> wrong
		solve nc 0 0 0 no -999999999999 -> wrong
		assign 0 1 -> ok
		all 3 -> ok
		print -> print t 3 3 6 9;2 3 2;0 2 0;1 0 3 1;1 4;1 1 0 1;2 9;1 2 0 1;0 1;2 0 1 2 1;0 1 9;2 1 2 0 2;1 0 5;1 1 6;
		solve edac 2 2 1 yes 1000 -> optimum 7 0 0 1
		load t 1 2 1 5 2  1 0 7 0 -> ok
		solve nc 0 0 0 no 9 -> nothing 5
		print -> print t 1 2 1 5;2;1 0 5 0;`)
}
