package desk_test

import (
	"fmt"
	"strings"
	"testing"

	"pennyweight/api"
	"pennyweight/desk"
)

const (
	tiny  = "t 2 2 1 9 2 2 2 0 1 0 1 1 1 5" // layer 7's example
	other = "o 1 3 1 7 3 1 0 1 0"
)

// loads tells a desk without a state, and one with a state that was worked on, to load a
// text: what isn't ok leaves both as they are.
func loads(t *testing.T, text, want string) {
	t.Helper()
	p := pairOf(t)
	if got := p.do("load " + text); got != want || (p.d.State() != nil) != (want == "ok") {
		t.Fatalf("load %.99q: %q, not %q", text, got, want)
	}
	p = pairOf(t)
	for _, line := range []string{"load " + other, "mark", "lower 0 0", "assign 0 2"} {
		p.do(line)
	}
	was := p.d.State()
	if got := p.do("load " + text); got != want {
		t.Fatalf("load %.99q behind another one: %q, not %q", text, got, want)
	}
	mark, kept := "mark 0", p.d.State() == was
	if kept {
		mark = "mark 1"
	}
	if got := p.do("mark"); got != mark || kept == (want == "ok") {
		t.Fatalf("load %.99q behind another one: %q", text, got)
	}
}

func TestLoad(t *testing.T) {
	for _, text := range []string{tiny, other, " " + tiny, tiny + " ", "\t" + tiny + "\r\n", strings.ReplaceAll(tiny, " ", "\n"), strings.ReplaceAll(tiny, " ", " \t "), "load 1 1 0 9 1", "load" + tiny} {
		loads(t, text, "ok")
	}
	for text, at := range map[string]int{
		"": 0, " ": 1, "   ": 3, "\n": 1, "\x00": 0, " \x00": 1, "\xff" + tiny: 0, "t": 1, "load": 4, "t x": 2, "t 0 1 0 9": 2, "t 1 1 0 0 1": 8,
		"t 2 2 0 9 2 3": 12, "t 2 2 1 9 2 2 2 0 0 0 0": 18, "t 2 2 1 9 2 2 2 0 1 \xc3\xa4 0": 20,
		tiny + " 6": 30, tiny + "\x01": 29, tiny + " \x01": 30, tiny + "\n" + tiny: 30, "t 1 40 0 9 40 x": 14, tiny[:27]: 27,
	} {
		loads(t, text, fmt.Sprint("malformed ", at))
	}
	for text, at := range map[string]int{
		"t 1 40 0 9 40":                                   11,
		" t  1  40 0 9 40 ":                               14,
		"t 65 1 0 9" + strings.Repeat(" 1", 65):           2,
		"t 1 1 0 2147483649 1":                            8,
		"t 1 1 257 9 1" + strings.Repeat(" 0 0 0", 257):   6,
		strings.Repeat("t", api.MaxName+1) + " 1 1 0 9 1": 0,
		"t 3 32 1 9 32 32 32 3 0 1 2 0 0":                 20,
	} {
		loads(t, text, fmt.Sprint("large ", at))
	}
}

// TestLoadEachByte has each byte alone, and ahead of, in the midst of, and behind a file.
func TestLoadEachByte(t *testing.T) {
	for n := range 256 {
		b := string([]byte{byte(n)})
		want := "malformed 0"
		if inOne(byte(n)) || parting(byte(n)) {
			want = "malformed 1"
		}
		loads(t, b, want)
		p := pairOf(t)
		for _, text := range []string{b + tiny, tiny[:7] + b + tiny[7:], tiny[:8] + b + tiny[8:], tiny + b} {
			p.do("load " + text)
		}
	}
}

func TestLoadGreatest(t *testing.T) {
	full := tiny + strings.Repeat(" ", api.MaxBytes-len(tiny))
	loads(t, full, "ok")
	loads(t, full+" ", "large 0")
	loads(t, full+"x", "large 0")
	loads(t, strings.Repeat("\x00", api.MaxBytes+1), "large 0")
	loads(t, full[:len(full)-1]+"x", fmt.Sprint("malformed ", api.MaxBytes-1))
	loads(t, strings.Repeat("n", api.MaxName)+tiny[1:], "ok")
}

// TestLoadAgain has networks loaded one behind the other: nothing of one is left in the next.
func TestLoadAgain(t *testing.T) {
	fresh := pairOf(t)
	fresh.do("load " + tiny)
	want := look(fresh.d.State())
	for _, ahead := range [][]string{nil, {"load " + other}, {"load " + tiny, "mark", "all 3"}, {small, "mark", "mark", "prune 1 2", "eliminate 1 2"}, {"load x"}} {
		p := pairOf(t)
		for _, line := range ahead {
			p.do(line)
		}
		p.do("load " + tiny)
		if got := look(p.d.State()); fmt.Sprint(got) != fmt.Sprint(want) {
			t.Fatalf("behind %q is told\n%v, not\n%v", ahead, got, want)
		}
		for line, want := range map[string]string{"undo 0": "error 2", "elims": "elims", "scopes": "scopes 0:0,1", "val 1 1": "val 5", "dom 2": "error 1"} {
			if got := p.do(line); got != want {
				t.Fatalf("Do(%q) behind %q: %q", line, ahead, got)
			}
		}
	}
}

// great is a network whose functions share their lines: printed it is more than MaxBytes.
func great() string {
	var text strings.Builder
	funs := 0
	for i := range 10 {
		for j := range i {
			funs++
			if i > 1 {
				fmt.Fprint(&text, " 2 ", j, " ", i, " 0 -1")
				continue
			}
			text.WriteString(" -2 0 1 0 961")
			for v := range 31 {
				for w := range 31 {
					fmt.Fprint(&text, " ", v, " ", w, " ", 1+(v+w)%5)
				}
			}
		}
	}
	return fmt.Sprint("g 10 31 ", funs, " 1000", strings.Repeat(" 31", 10), text.String())
}

func TestTooLargeToPrint(t *testing.T) {
	d := desk.New()
	for _, x := range [][2]string{
		{"load " + great(), "ok"}, {"print", "error 5"}, {"solve nc 0 0 0 no 0", "error 5"}, {"solve nc 9 0 0 no 0", "error 5"},
		{"zero", "zero 0"}, {"val" + strings.Repeat(" 1", 10), "val 135"}, {"solve nx 0 0 0 no 0", "error 4"},
	} {
		if got := d.Do(x[0]); got != x[1] {
			t.Fatalf("Do(%.99q): %q, not %q", x[0], got, x[1])
		}
	}
}

// TestPrintAgain loads what is printed: the same is printed again.
func TestPrintAgain(t *testing.T) {
	for _, line := range []string{small, each, "load " + tiny, "load " + other, "load ;;: 1 1 0 9 1", "load !~ 2 2 3 9 2 2  2 1 0 1 1 0 1 4  2 0 1 2 0  0 3 0"} {
		p := pairOf(t)
		p.do(line)
		printed := p.do("print")
		name := strings.Fields(line)[1]
		text := strings.TrimPrefix(printed, "print ")
		if !strings.HasPrefix(text, name+" ") || !strings.HasSuffix(text, ";") || strings.Contains(text, "\n") {
			t.Fatalf("%q is printed as %q", line, printed)
		}
		again := name + strings.ReplaceAll(text[len(name):], ";", "\n")
		if got := p.do("load " + again); got != "ok" {
			t.Fatalf("%q: %q", again, got)
		}
		if got := p.do("print"); got != printed {
			t.Fatalf("%q, then %q", printed, got)
		}
	}
}
