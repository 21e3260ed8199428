package desk_test

import (
	"reflect"
	"slices"
	"strings"
	"testing"

	"pennyweight/desk"
)

// small has the functions 0 of 0, 1 and 1 of 1, 2; Zero is 2.
const small = "load t 3 3 6 9  2 3 2  0 2 0  1 0 3 1 1 4  1 1 0 1 2 9  1 2 0 1 0 1" +
	"  2 0 1 2 1 0 1 9  2 1 2 0 2 1 0 5 1 1 6"

// rightLines has each line of the table but load.
var rightLines = []string{
	"project 0 0 0 2", "extend 0 0 0 1", "lower 0 3", "raise 1 2", "prune 1 2", "assign 1 1", "eliminate 0 1", "all 1", "undo 0",
	"enforce none", "enforce nc", "enforce ac", "enforce fdac", "enforce edac", "mark", "zero", "dom 1", "unary 1", "costs 1", "scopes",
	"val 0 1 1", "rebuild 0 1 1", "level", "bound", "elims", "print", "solve nc -1 0 0 no 5", "solve edac 2 2 1 yes 0",
}

// openWords are of the lines with however many numbers.
var openWords = []string{"val", "rebuild"}

func open(line string) bool { return slices.Contains(openWords, strings.Split(line, " ")[0]) }

// loaded is a desk with the small network, and a mark.
func loaded(t *testing.T) *desk.Desk {
	t.Helper()
	d := desk.New()
	if d.Do(small) != "ok" || d.Do("mark") != "mark 0" {
		t.Fatal("it isn't loaded")
	}
	return d
}

// isNone takes it that a line is none of the table, with a state and without one.
func isNone(t *testing.T, line string) {
	t.Helper()
	for _, d := range []*desk.Desk{desk.New(), loaded(t)} {
		was, before := d.State(), look(d.State())
		if got := d.Do(line); got != "error 4" {
			t.Fatalf("Do(%.99q): %q", line, got)
		}
		if d.State() != was || !reflect.DeepEqual(look(d.State()), before) {
			t.Fatalf("behind Do(%.99q) is told other than ahead", line)
		}
	}
}

// isOne takes it that a line is of the table, whatever is answered.
func isOne(t *testing.T, line string) {
	t.Helper()
	d := desk.New()
	if got := d.Do(line); got != "error 2" || d.State() != nil {
		t.Fatalf("Do(%.99q) without a state: %q", line, got)
	}
	if got := loaded(t).Do(line); got == "error 4" || got == "error 2" && line != "undo 1" {
		t.Fatalf("Do(%.99q): %q", line, got)
	}
}

func TestForms(t *testing.T) {
	for _, line := range rightLines {
		isOne(t, line)
	}
	for _, line := range []string{"val", "val 0", "val 0 0 0 0", "val -1 5 999999999999", "rebuild", "rebuild 0", "rebuild 0 0 0 0", "rebuild -1 5 -999999999999"} {
		isOne(t, line)
	}
}

func TestFewerAndMoreWords(t *testing.T) {
	for _, line := range rightLines {
		words := strings.Split(line, " ")
		for at := range words {
			if fewer := strings.Join(slices.Delete(slices.Clone(words), at, at+1), " "); !open(line) || at == 0 {
				isNone(t, fewer)
			}
		}
		for at := range len(words) + 1 {
			for _, word := range []string{"0", "1", "-1", "x", "nc", "no", words[0]} {
				more := strings.Join(slices.Insert(slices.Clone(words), at, word), " ")
				if !open(line) || at == 0 && word != words[0] || !strings.ContainsAny(word, "01") {
					isNone(t, more)
				}
			}
		}
	}
	isNone(t, "solve")
	isNone(t, "solve nc")
	isNone(t, "project")
	isNone(t, "enforce")
	isNone(t, "0")
	isNone(t, "0 0 0")
}

func TestBlanks(t *testing.T) {
	isNone(t, "")
	for _, blanks := range []string{" ", "  ", "\t", "\n", "\r", "\x00", "\xff"} {
		isNone(t, blanks)
		for _, line := range rightLines {
			isNone(t, blanks+line)
			isNone(t, line+blanks)
			for at, b := range []byte(line) {
				if b == ' ' {
					isNone(t, line[:at]+" "+blanks+line[at+1:])
					isNone(t, line[:at]+blanks+" "+line[at+1:])
				}
			}
		}
	}
}

// TestOtherBetween has each byte in place of each blank. (Of val and rebuild a digit
// makes one number of two.)
func TestOtherBetween(t *testing.T) {
	for _, line := range rightLines {
		first := strings.Index(line, " ")
		for at, blank := range []byte(line) {
			for b := 0; b < 256 && blank == ' '; b++ {
				digit := '0' <= b && b <= '9'
				if b == ' ' || digit && at > first && open(line) {
					continue
				}
				isNone(t, line[:at]+string([]byte{byte(b)})+line[at+1:])
			}
		}
	}
}

func TestOtherWords(t *testing.T) {
	isNone(t, "load") // no blank
	isNone(t, "load\tt 1 1 0 9 1")
	isNone(t, "load\n")
	isNone(t, "loads t 1 1 0 9 1")
	isNone(t, " load t 1 1 0 9 1")
	isNone(t, "Load t 1 1 0 9 1")
	for _, line := range rightLines {
		word, rest, _ := strings.Cut(line, " ")
		for _, other := range []string{strings.ToUpper(word), strings.ToUpper(word[:1]) + word[1:], word + "s", word[1:], word[:len(word)-1], "x", "-", "0", "none", "nc", "kinds", "name", "do", "safe"} {
			if other = strings.TrimRight(other+" "+rest, " "); !rightForm.MatchString(other) {
				isNone(t, other)
			}
		}
	}
	for _, word := range []string{"project", "zero", "dom", "mark", "all", "lower", "val", "level"} {
		isNone(t, "foo "+word)
		isNone(t, word+" "+word)
	}
}

// otherNumbers aren't Small.
var otherNumbers = []string{"x", "-", "+1", "-0", "00", "01", "-01", "1234567890123", "-1234567890123", "0000000000001", "1.0", "1e1", "0x1", "\u0661", "1\x00", "nc", "no"}

func TestOtherNumbers(t *testing.T) {
	for _, line := range rightLines {
		words := strings.Split(line, " ")
		for at := 1; at < len(words); at++ {
			if _, ok := desk.Small(words[at]); !ok {
				continue // a level, yes or no
			}
			was := words[at]
			for _, words[at] = range otherNumbers {
				isNone(t, strings.Join(words, " "))
			}
			for _, words[at] = range []string{"-1", "12", "999999999999", "-999999999999", "123456789012"} {
				if strings.Join(words[:at], " ") != "undo" && !(words[0] == "solve" && at == 6) {
					isOne(t, strings.Join(words, " "))
				}
			}
			words[at] = was
		}
	}
}

func TestOtherLevels(t *testing.T) {
	for _, level := range []string{"x", "NC", "Nc", "0", "1", "4", "-1", "dac", "nce", "n", "None", "nc,ac", "yes"} {
		isNone(t, "enforce "+level)
		isNone(t, "solve "+level+" 0 0 0 no 5")
	}
	for _, split := range []string{"x", "Yes", "NO", "y", "n", "0", "1", "true", "yess", "es", "nc"} {
		isNone(t, "solve nc 0 0 0 "+split+" 5")
	}
}

// TestNilDesk has a right line, another one, and loads.
func TestNilDesk(t *testing.T) {
	var d *desk.Desk
	for _, line := range append(slices.Clone(rightLines), "", " ", "foo", "load", "load ", "load x", small, "\x00", "dom x") {
		if got := d.Do(line); got != "error 2" {
			t.Fatalf("Do(%.99q): %q", line, got)
		}
		if d.State() != nil {
			t.Fatal("it has a state")
		}
	}
}
