package desk_test

import (
	"math/rand"
	"regexp"
	"slices"
	"strconv"
	"strings"
	"testing"

	"pennyweight/desk"
)

// parting is whether a byte stands between words, in one whether it may stand in a word.
func parting(b byte) bool { return b == 0x20 || b == 0x09 || b == 0x0a || b == 0x0d }

func inOne(b byte) bool { return b >= 0x21 && b <= 0x7e }

func wordsAre(t *testing.T, line string, want ...string) {
	t.Helper()
	for range 2 {
		if got := desk.Words(line); !slices.Equal(got, want) {
			t.Fatalf("Words(%.99q): %.99q, not %.99q", line, got, want)
		}
	}
}

func TestWords(t *testing.T) {
	wordsAre(t, "")
	wordsAre(t, " ")
	wordsAre(t, "     ")
	wordsAre(t, " \t\n\r \r\n\t")
	wordsAre(t, "a", "a")
	wordsAre(t, "ab", "ab")
	wordsAre(t, " a", "a")
	wordsAre(t, "a ", "a")
	wordsAre(t, "a b", "a", "b")
	wordsAre(t, "   a    bc   d ", "a", "bc", "d")
	wordsAre(t, "\na\t\r b\n\nc", "a", "b", "c")
	wordsAre(t, "a\nb", "a", "b")
	wordsAre(t, "!~ -,:; 00", "!~", "-,:;", "00")
	wordsAre(t, "a b\x00", "a")
	wordsAre(t, "a b \x00", "a", "b")
	wordsAre(t, "a b \x00c d", "a", "b")
	wordsAre(t, "a b\x00c d", "a")
	wordsAre(t, "\x00a b")
	wordsAre(t, " \x00a b")
	wordsAre(t, "a\x00 b")
	wordsAre(t, "a \xc3\xa4 b", "a")
	wordsAre(t, "a b \xc2\xa0", "a", "b")
	wordsAre(t, "a\u2003b c")
	wordsAre(t, "a b\v", "a")
	wordsAre(t, "a b \f c", "a", "b")
}

func TestWordsEachByte(t *testing.T) {
	for n := range 256 {
		b := byte(n)
		at := string([]byte{b})
		switch {
		case parting(b):
			wordsAre(t, at)
			wordsAre(t, at+"ab c", "ab", "c")
			wordsAre(t, "a"+at+"b c", "a", "b", "c")
			wordsAre(t, "ab c"+at, "ab", "c")
			wordsAre(t, at+at+"ab"+at+at+"c"+at+at, "ab", "c")
		case inOne(b):
			wordsAre(t, at, at)
			wordsAre(t, at+"ab c", at+"ab", "c")
			wordsAre(t, "a"+at+"b c", "a"+at+"b", "c")
			wordsAre(t, "ab c"+at, "ab", "c"+at)
			wordsAre(t, "ab "+at+" c", "ab", at, "c")
		default:
			wordsAre(t, at)
			wordsAre(t, at+"ab c")
			wordsAre(t, "a"+at+"b c")
			wordsAre(t, "ab"+at+" c")
			wordsAre(t, "ab "+at+"c", "ab")
			wordsAre(t, "ab "+at+" c", "ab")
			wordsAre(t, "ab c"+at, "ab")
			wordsAre(t, "ab c "+at, "ab", "c")
		}
	}
}

// parted is what Words tells, by places: a word that a wrong byte stands right behind
// is none, and nothing behind that byte is one.
func parted(line string) []string {
	var words []string
	word := ""
	for i := range len(line) {
		switch b := line[i]; {
		case inOne(b):
			word += string(rune(b))
		case !parting(b):
			return words
		case word != "":
			words, word = append(words, word), ""
		}
	}
	if word != "" {
		words = append(words, word)
	}
	return words
}

func TestWordsRandom(t *testing.T) {
	r := rand.New(rand.NewSource(1))
	for range 20000 {
		line := make([]byte, r.Intn(30))
		for i := range line {
			if line[i] = "  \t\n\rabc01-9~!"[r.Intn(14)]; r.Intn(40) == 0 {
				line[i] = byte(r.Intn(256))
			}
		}
		wordsAre(t, string(line), parted(string(line))...)
	}
}

func TestWordsMany(t *testing.T) {
	wordsAre(t, strings.Repeat(" a", 1<<18), slices.Repeat([]string{"a"}, 1<<18)...)
	wordsAre(t, strings.Repeat(" ", 1<<20))
	wordsAre(t, strings.Repeat("a", 1<<20), strings.Repeat("a", 1<<20))
	wordsAre(t, strings.Repeat("a", 1<<20)+"\x7f")
}

func TestWordsMemory(t *testing.T) {
	first, second := desk.Words("a b"), desk.Words("a b")
	first[0], first[1] = "x", "y"
	_ = append(first[:1], "z")
	if !slices.Equal(second, []string{"a", "b"}) || !slices.Equal(desk.Words("a b"), second) {
		t.Fatal(first, second)
	}
}

func smallIs(t *testing.T, w string, want int64, right bool) {
	t.Helper()
	for range 2 {
		if n, ok := desk.Small(w); n != want || ok != right {
			t.Fatalf("Small(%.99q): %d, %v, not %d, %v", w, n, ok, want, right)
		}
	}
}

func TestSmall(t *testing.T) {
	for w, n := range map[string]int64{
		"0": 0, "1": 1, "9": 9, "10": 10, "100": 100, "-1": -1, "-9": -9, "-10": -10, "1234567890": 1234567890,
		"12345678901": 12345678901, "-12345678901": -12345678901,
		"123456789012": 123456789012, "-123456789012": -123456789012,
		"100000000000": 1e11, "999999999999": 1e12 - 1, "-999999999999": 1 - 1e12,
	} {
		smallIs(t, w, n, true)
	}
	for _, w := range []string{
		"", "-", "--", "--1", "-0", "-00", "00", "000", "01", "-01", "001", "00000000000", "0000000000000", "+", "+0", "+1", "1-", "1-1",
		"1234567890123", "-1234567890123", "1000000000000", "-1000000000000", "0123456789012", "-0123456789012", "012345678901",
		"4611686018427387904", "-4611686018427387904", "9223372036854775808", "99999999999999999999999999",
		"x", "1x", "x1", "-x", "1.0", "1e3", "0x1", "1_0", ".", "1,0", " ", " 1", "1 ", "1\n", "\t1", "- 1", "1 1", "\x00", "1\x00",
		"\xff", "\u0661", "\uff11", "\u22121", "inf", "NaN",
	} {
		smallIs(t, w, 0, false)
	}
	for digits := 1; digits < 40; digits++ {
		w := strings.Repeat("7", digits)
		n, _ := strconv.ParseInt(w, 10, 64)
		if digits > 12 {
			n = 0
		}
		smallIs(t, w, n, digits <= 12)
		smallIs(t, "-"+w, -n, digits <= 12)
		smallIs(t, "0"+w, 0, false)
	}
	smallIs(t, strings.Repeat("9", 1<<20), 0, false)
	smallIs(t, strings.Repeat("0", 1<<20)+"1", 0, false)
}

var smallForm = regexp.MustCompile(`^(?:0|-?[1-9][0-9]{0,11})$`)

func smallByForm(t *testing.T, w string) {
	t.Helper()
	n, right := int64(0), smallForm.MatchString(w)
	if right {
		n, _ = strconv.ParseInt(w, 10, 64)
	}
	smallIs(t, w, n, right)
}

// textsOf are all of so many bytes, each one of these.
func textsOf(bytes string, n int) []string {
	if n == 0 {
		return []string{""}
	}
	var all []string
	for _, text := range textsOf(bytes, n-1) {
		for _, b := range bytes {
			all = append(all, text+string(b))
		}
	}
	return all
}

func TestSmallShort(t *testing.T) {
	for n := range 6 {
		for _, w := range textsOf("-+019 x", n) {
			smallByForm(t, w)
		}
	}
}

func TestSmallRandom(t *testing.T) {
	r := rand.New(rand.NewSource(2))
	for range 20000 {
		w := make([]byte, r.Intn(16))
		for i := range w {
			if w[i] = "0123456789"[r.Intn(10)]; i == 0 && r.Intn(3) == 0 {
				w[i] = '-'
			} else if r.Intn(60) == 0 {
				w[i] = byte(r.Intn(256))
			}
		}
		smallByForm(t, string(w))
	}
}
