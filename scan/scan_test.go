package scan_test

import (
	"math"
	"math/big"
	"slices"
	"strings"
	"testing"

	"pennyweight/api"
	"pennyweight/scan"
)

// told is what Word tells, and where the scan stands then.
type told struct {
	word string
	at   int
	e    api.Errno
	read int
}

func inWord(b byte) bool { return b > 0x20 && b < 0x7f }

func isBlank(b byte) bool { return strings.IndexByte(" \t\n\r", b) >= 0 }

// expected is what Word is to tell of p one by one, the last one being that
// which is told from then on. It works by the first wrong byte, unlike the
// package.
func expected(p string) []told {
	end := told{at: len(p), e: api.ErrNone}
	wrong := slices.IndexFunc([]byte(p), func(b byte) bool { return !inWord(b) && !isBlank(b) })
	if wrong >= 0 {
		end = told{at: wrong, e: api.ErrText}
		p = p[:wrong]
	}
	var l []told
	for i := 0; i < len(p); i++ {
		if isBlank(p[i]) {
			continue
		}
		j := i
		for j < len(p) && !isBlank(p[j]) {
			j++
		}
		// What stands right ahead of the wrong byte isn't told.
		if end.e == api.ErrNone || j < len(p) {
			l = append(l, told{p[i:j], i, api.OK, j})
			end.read = j
		}
		i = j
	}
	return append(l, end)
}

// check goes through p, thrice over its end.
func check(t *testing.T, p string) {
	t.Helper()
	want := expected(p)
	end := want[len(want)-1]
	s := scan.New([]byte(p))
	if s == nil || s.At() != 0 {
		t.Fatalf("%q: read up to %d at the beginning", p, s.At())
	}
	for i, x := range append(want, end, end) {
		if more := x.e != api.ErrNone; s.More() != more || s.More() != more {
			t.Fatalf("%q: ahead of the word %d More isn't %v", p, i, more)
		}
		w, at, e := s.Word()
		if got := (told{w, at, e, s.At()}); got != x {
			t.Fatalf("%q: the word %d is %v, not %v", p, i, got, x)
		}
	}
	checkCount(t, p, len(want)-1, end)
}

func checkCount(t *testing.T, p string, words int, end told) {
	t.Helper()
	wantE := api.OK
	if end.e == api.ErrText {
		wantE = api.ErrText
	}
	if n, at, e := scan.Count([]byte(p)); n != words || at != end.at || e != wantE {
		t.Fatalf("Count(%q): %d, %d, error %d, not %d, %d, error %d", p, n, at, e, words, end.at, wantE)
	}
}

func TestNoBytes(t *testing.T) {
	for _, p := range [][]byte{nil, {}} {
		s := scan.New(p)
		for range 2 {
			if w, at, e := s.Word(); w != "" || at != 0 || e != api.ErrNone || s.More() || s.At() != 0 {
				t.Errorf("%q at %d, error %d", w, at, e)
			}
			if n, at, e := s.Int(); n != 0 || at != 0 || e != api.ErrNone {
				t.Errorf("%d at %d, error %d", n, at, e)
			}
		}
		if n, at, e := scan.Count(p); n != 0 || at != 0 || e != api.OK {
			t.Errorf("Count: %d, %d, error %d", n, at, e)
		}
	}
}

func TestBlanksAlone(t *testing.T) {
	for _, p := range []string{" ", "\t", "\n", "\r", "   ", " \t\r\n", "\n\n\n\n\n"} {
		check(t, p)
		s := scan.New([]byte(p))
		if w, at, e := s.Word(); w != "" || at != len(p) || e != api.ErrNone || s.More() || s.At() != 0 {
			t.Errorf("%q: %q at %d, error %d, read up to %d", p, w, at, e, s.At())
		}
	}
}

func TestByHand(t *testing.T) {
	for _, x := range []struct {
		p    string
		want []told
	}{
		{"a", []told{{"a", 0, api.OK, 1}, {"", 1, api.ErrNone, 1}}},
		{" ab  c ", []told{{"ab", 1, api.OK, 3}, {"c", 5, api.OK, 6}, {"", 7, api.ErrNone, 6}}},
		{"!\t~\r\n!~", []told{{"!", 0, api.OK, 1}, {"~", 2, api.OK, 3}, {"!~", 5, api.OK, 7}, {"", 7, api.ErrNone, 7}}},
		{"a\x7f", []told{{"", 1, api.ErrText, 0}}},
		{"a\x00b", []told{{"", 1, api.ErrText, 0}}},
		{"\x1fa", []told{{"", 0, api.ErrText, 0}}},
		{"  \xffa b", []told{{"", 2, api.ErrText, 0}}},
		{"a \x80", []told{{"a", 0, api.OK, 1}, {"", 2, api.ErrText, 1}}},
		{"a  \vb", []told{{"a", 0, api.OK, 1}, {"", 3, api.ErrText, 1}}},
		{"a bc\xc3\xa4 d", []told{{"a", 0, api.OK, 1}, {"", 4, api.ErrText, 1}}},
		{"a b\x00c\x01d", []told{{"a", 0, api.OK, 1}, {"", 3, api.ErrText, 1}}},
	} {
		s := scan.New([]byte(x.p))
		for i, want := range append(x.want, x.want[len(x.want)-1]) {
			w, at, e := s.Word()
			if got := (told{w, at, e, s.At()}); got != want {
				t.Errorf("%q: the word %d is %v, not %v", x.p, i, got, want)
			}
		}
		check(t, x.p)
	}
}

// TestEachByte puts each byte ahead of words, into them, behind them, and alone.
func TestEachByte(t *testing.T) {
	for b := range 256 {
		x := string([]byte{byte(b)})
		for _, p := range []string{x, x + "a", " " + x + "a", "a" + x, "a" + x + " ", "a" + x + "b", "a " + x, "a " + x + " ", "a  " + x + "b c", "a b" + x + x + "c", x + x, " " + x} {
			check(t, p)
		}
		n, at, e := scan.Count([]byte("a" + x + "b"))
		switch {
		case b >= 0x21 && b <= 0x7e:
			if n != 1 || at != 3 || e != api.OK {
				t.Errorf("byte %x is in no word", b)
			}
		case b == 0x20 || b == 9 || b == 0x0a || b == 0x0d:
			if n != 2 || at != 3 || e != api.OK {
				t.Errorf("byte %x parts no words", b)
			}
		default:
			if n != 0 || at != 1 || e != api.ErrText {
				t.Errorf("byte %x is not wrong", b)
			}
		}
	}
}

// TestShortTexts goes through all texts of a few bytes of each kind.
func TestShortTexts(t *testing.T) {
	texts := []string{""}
	for range 6 {
		var longer []string
		for _, p := range texts {
			for _, b := range []string{"a", "7", " ", "\n", "\x00"} {
				longer = append(longer, p+b)
			}
		}
		for _, p := range longer {
			check(t, p)
		}
		texts = longer
	}
}

func TestLongTexts(t *testing.T) {
	check(t, strings.Repeat("x", 100000))
	check(t, strings.Repeat(" ", 100000))
	check(t, strings.Repeat("ab ", 10000))
	check(t, strings.Repeat("\t", 10000)+strings.Repeat("x", 10000)+"\xff")
}

func TestRead(t *testing.T) {
	for _, x := range []struct {
		w    string
		want int64
	}{
		{"0", 0}, {"1", 1}, {"9", 9}, {"-1", -1}, {"-9", -9}, {"-0", 0}, {"00", 0}, {"-000", 0}, {"007", 7}, {"-0012", -12}, {"10", 10},
		{"1234567890", 1234567890}, {"2147483648", 1 << 31}, {"-2147483648", -1 << 31}, {"08", 8}, {"0000000000000000000000000000009", 9},
		{"4611686018427387903", scan.Far - 1}, {"4611686018427387904", scan.Far}, {"4611686018427387905", scan.Far}, {"4611686018427387909", scan.Far},
		{"4611686018427387910", scan.Far}, {"4611686018427387894", scan.Far - 10}, {"0004611686018427387903", scan.Far - 1},
		{"-4611686018427387903", -scan.Far + 1}, {"-4611686018427387904", -scan.Far}, {"-4611686018427387905", -scan.Far},
		{"9223372036854775807", scan.Far}, {"9223372036854775808", scan.Far}, {"-9223372036854775808", -scan.Far}, {"-9223372036854775809", -scan.Far},
		{"18446744073709551615", scan.Far}, {"18446744073709551616", scan.Far}, {"18446744073709551617", scan.Far}, {"-18446744073709551617", -scan.Far},
		{strings.Repeat("9", 500), scan.Far}, {"-" + strings.Repeat("9", 500), -scan.Far}, {"1" + strings.Repeat("0", 700), scan.Far},
		{strings.Repeat("0", 500), 0}, {strings.Repeat("0", 500) + "12", 12}, {"-" + strings.Repeat("0", 500) + "12", -12},
		{strings.Repeat("1844674407370955161", 40), scan.Far},
	} {
		if n, e := scan.Read(x.w); n != x.want || e != api.OK {
			t.Errorf("Read(%q): %d, error %d", x.w, n, e)
		}
	}
}

func TestReadWrong(t *testing.T) {
	for _, w := range []string{
		"", "-", "--", "--1", "-+1", "+", "+1", "+0", "1-", "-1-", "1-1", "a", "1a", "a1", "-a", "-1a", "1.", ".1", "1.0", "1e3", "0x1", "0b1", "0o7", "1_000", "_1", "0_1",
		" ", " 1", "1 ", "- 1", "1 2", "1\n", "\t1", "1\x00", "\x001", "/", ":", "1/", ":1", "0:0", "\xb2", "１", "٣", "−1", "Inf", "NaN", "0x",
		strings.Repeat("9", 500) + "a", strings.Repeat("9", 500) + "-", "-" + strings.Repeat("9", 500) + "+", "9" + strings.Repeat("0", 30) + "x0",
	} {
		if n, e := scan.Read(w); n != 0 || e != api.ErrForm {
			t.Errorf("Read(%q): %d, error %d", w, n, e)
		}
	}
	for b := range 256 {
		if b >= '0' && b <= '9' {
			continue
		}
		for _, w := range []string{string([]byte{byte(b)}), string([]byte{'1', byte(b)}), string([]byte{'-', byte(b), '2'}), string([]byte{'1', byte(b), '2'})} {
			if n, e := scan.Read(w); n != 0 || e != api.ErrForm {
				t.Errorf("Read(%q): %d, error %d", w, n, e)
			}
		}
	}
}

// TestReadAroundPowers holds it against great numbers, around all the powers of 2.
func TestReadAroundPowers(t *testing.T) {
	far := big.NewInt(scan.Far)
	for p := range 300 {
		for d := int64(-11); d <= 11; d++ {
			n := new(big.Int).Lsh(big.NewInt(1), uint(p))
			n.Add(n, big.NewInt(d))
			want := new(big.Int).Set(n)
			if want.CmpAbs(far) > 0 {
				want.SetInt64(scan.Far * int64(n.Sign()))
			}
			checkRead(t, n.String(), want.Int64())
			checkRead(t, n.Neg(n).String(), -want.Int64())
		}
	}
}

func checkRead(t *testing.T, w string, want int64) {
	t.Helper()
	if n, e := scan.Read(w); n != want || e != api.OK {
		t.Errorf("Read(%q): %d, error %d, not %d", w, n, e, want)
	}
}

func TestWrite(t *testing.T) {
	for _, x := range []struct {
		n    int64
		want string
	}{
		{0, "0"}, {1, "1"}, {-1, "-1"}, {9, "9"}, {10, "10"}, {-5, "-5"}, {-10, "-10"}, {1234567890, "1234567890"}, {1 << 31, "2147483648"},
		{scan.Far, "4611686018427387904"}, {-scan.Far, "-4611686018427387904"}, {scan.Far + 1, "4611686018427387905"},
		{math.MaxInt64, "9223372036854775807"}, {math.MinInt64, "-9223372036854775808"}, {math.MinInt64 + 1, "-9223372036854775807"},
	} {
		if w := scan.Write(x.n); w != x.want {
			t.Errorf("Write(%d): %q", x.n, w)
		}
	}
	for p := range 63 {
		for d := int64(-3); d <= 3; d++ {
			for _, n := range []int64{int64(1)<<p + d, -(int64(1)<<p + d)} {
				if back, e := scan.Read(scan.Write(n)); e != api.OK || back != min(max(n, -scan.Far), scan.Far) {
					t.Errorf("Read of Write of %d: %d, error %d", n, back, e)
				}
			}
		}
	}
}

func TestFar(t *testing.T) {
	if scan.Far != 1<<62 {
		t.Error("Far isn't 2 to the 62")
	}
}

// TestInt tells numbers, and goes on behind a word that is none.
func TestInt(t *testing.T) {
	type number struct {
		n    int64
		at   int
		e    api.Errno
		read int
	}
	for _, x := range []struct {
		p    string
		want []number
	}{
		{" 12\t-7 x", []number{{12, 1, api.OK, 3}, {-7, 4, api.OK, 6}, {0, 7, api.ErrForm, 8}, {0, 8, api.ErrNone, 8}}},
		{"12 -x", []number{{12, 0, api.OK, 2}, {0, 3, api.ErrForm, 5}, {0, 5, api.ErrNone, 5}}},
		{"x 5  ", []number{{0, 0, api.ErrForm, 1}, {5, 2, api.OK, 3}, {0, 5, api.ErrNone, 3}}},
		{"- +1 007", []number{{0, 0, api.ErrForm, 1}, {0, 2, api.ErrForm, 4}, {7, 5, api.OK, 8}, {0, 8, api.ErrNone, 8}}},
		{"99999999999999999999 -99999999999999999999", []number{{scan.Far, 0, api.OK, 20}, {-scan.Far, 21, api.OK, 42}, {0, 42, api.ErrNone, 42}}},
		{"1 2\x00 3", []number{{1, 0, api.OK, 1}, {0, 3, api.ErrText, 1}, {0, 3, api.ErrText, 1}}},
		{"1  \x7f", []number{{1, 0, api.OK, 1}, {0, 3, api.ErrText, 1}, {0, 3, api.ErrText, 1}}},
		{"x\xff", []number{{0, 1, api.ErrText, 0}, {0, 1, api.ErrText, 0}}},
		{"", []number{{0, 0, api.ErrNone, 0}, {0, 0, api.ErrNone, 0}}},
		{"\n", []number{{0, 1, api.ErrNone, 0}, {0, 1, api.ErrNone, 0}}},
	} {
		s := scan.New([]byte(x.p))
		for i, want := range x.want {
			n, at, e := s.Int()
			if got := (number{n, at, e, s.At()}); got != want {
				t.Errorf("%q: the number %d is %v, not %v", x.p, i, got, want)
			}
		}
	}
}

// TestWordsAndNumbersInTurn read on from where the other one stopped.
func TestWordsAndNumbersInTurn(t *testing.T) {
	s := scan.New([]byte("net 3 x 4"))
	w, _, _ := s.Word()
	n, at, e := s.Int()
	if w != "net" || n != 3 || at != 4 || e != api.OK {
		t.Errorf("%q, %d at %d, error %d", w, n, at, e)
	}
	if _, at, e := s.Int(); at != 6 || e != api.ErrForm || !s.More() {
		t.Errorf("at %d, error %d", at, e)
	}
	if w, at, e := s.Word(); w != "4" || at != 8 || e != api.OK || s.More() {
		t.Errorf("%q at %d, error %d", w, at, e)
	}
}

func TestCount(t *testing.T) {
	for _, x := range []struct {
		p  string
		n  int
		at int
		e  api.Errno
	}{
		{"", 0, 0, api.OK},
		{" \n", 0, 2, api.OK},
		{"a", 1, 1, api.OK},
		{" a b\tc\r\n", 3, 8, api.OK},
		{"a b\xffc", 1, 3, api.ErrText},
		{"a b \xffc", 2, 4, api.ErrText},
		{"\xff", 0, 0, api.ErrText},
		{"  \x01", 0, 2, api.ErrText},
		{"a b c\x01d\x02 e", 2, 5, api.ErrText},
	} {
		for range 2 {
			if n, at, e := scan.Count([]byte(x.p)); n != x.n || at != x.at || e != x.e {
				t.Errorf("Count(%q): %d, %d, error %d", x.p, n, at, e)
			}
		}
	}
}

func TestNil(t *testing.T) {
	var s *scan.Scan
	for range 2 {
		if w, at, e := s.Word(); w != "" || at != 0 || e != api.ErrNone {
			t.Errorf("Word: %q at %d, error %d", w, at, e)
		}
		if n, at, e := s.Int(); n != 0 || at != 0 || e != api.ErrNone {
			t.Errorf("Int: %d at %d, error %d", n, at, e)
		}
		if s.More() || s.At() != 0 {
			t.Errorf("More %v, At %d", s.More(), s.At())
		}
	}
}

// TestNothingIsKept writes over the bytes behind the calls.
func TestNothingIsKept(t *testing.T) {
	p := []byte("12 ab 34 \x00zz")
	whole := slices.Clone(p)
	s := scan.New(p[:8])
	scan.Count(p[:8])
	first, _, _ := s.Int()
	if !slices.Equal(p, whole) {
		t.Errorf("the bytes became %q", p)
	}
	for i := range p {
		p[i] = '9'
	}
	w, at, e := s.Word()
	n, _, _ := s.Int()
	for i := range p {
		p[i] = 0
	}
	if first != 12 || w != "ab" || at != 3 || e != api.OK || n != 34 || s.More() || s.At() != 8 {
		t.Errorf("%d, %q at %d, error %d, %d, read up to %d", first, w, at, e, n, s.At())
	}
}

// TestTwoScans of the same bytes don't touch each other.
func TestTwoScans(t *testing.T) {
	p := []byte("a b c")
	s, u := scan.New(p), scan.New(p)
	s.Word()
	s.Word()
	if w, at, _ := u.Word(); w != "a" || at != 0 || s.At() != 3 || u.At() != 1 {
		t.Errorf("%q at %d, %d, %d", w, at, s.At(), u.At())
	}
}

func TestExample(t *testing.T) {
	s := scan.New([]byte("12 -x"))
	if n, at, e := s.Int(); n != 12 || at != 0 || e != api.OK {
		t.Errorf("%d at %d, error %d", n, at, e)
	}
	if n, at, e := s.Int(); n != 0 || at != 3 || e != api.ErrForm {
		t.Errorf("%d at %d, error %d", n, at, e)
	}
}
