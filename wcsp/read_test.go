package wcsp_test

import (
	"bytes"
	"math/big"
	"math/rand"
	"slices"
	"strconv"
	"strings"
	"testing"

	"pennyweight/api"
	"pennyweight/scan"
	"pennyweight/tuples"
	"pennyweight/wcsp"
)

func read(t *testing.T, text string) *wcsp.File {
	t.Helper()
	f, at, e := wcsp.Read([]byte(text))
	if f == nil || at != len(text) || e != api.OK {
		t.Fatalf("Read(%.99q): %v, place %d, error %d", text, f, at, e)
	}
	if e := f.Right(); e != api.OK {
		t.Fatalf("what Read told of %.99q isn't right: error %d", text, e)
	}
	return f
}

// refused needs a text in which ^ stands ahead of the place that is to be told.
func refused(t *testing.T, marked string, want api.Errno) {
	t.Helper()
	place := strings.IndexByte(marked, '^')
	text := marked[:place] + marked[place+1:]
	if f, at, e := wcsp.Read([]byte(text)); f != nil || at != place || e != want {
		t.Errorf("Read(%.99q): %v, place %d, error %d, not %d, %d", text, f, at, e, place, want)
	}
}

// line is written by its cost first: line(5, 0, 1) is the cost 5 of 0 1.
func line(c int64, tuple ...int) tuples.Line { return tuples.Line{Tuple: tuple, Cost: c} }

func sameLines(a, b []tuples.Line) bool {
	return slices.EqualFunc(a, b, func(x, y tuples.Line) bool {
		return x.Cost == y.Cost && slices.Equal(x.Tuple, y.Tuple)
	})
}

func checkFun(t *testing.T, f *wcsp.File, j int, scope []int, other int64, lines ...tuples.Line) {
	t.Helper()
	g := f.Funs[j]
	sizes := []int{}
	for _, v := range scope {
		sizes = append(sizes, f.Sizes[v])
	}
	x := g.Tuples
	if !slices.Equal(g.Scope, scope) || !slices.Equal(x.Sizes(), sizes) || x.K() != f.K || x.Other() != other || !sameLines(x.Lines(), lines) {
		t.Errorf("the function %d: %v of %v, %d, %d, %v", j, g.Scope, x.Sizes(), x.K(), x.Other(), x.Lines())
	}
}

func TestReadExample(t *testing.T) {
	f := read(t, "t 2 2 1 9 2 2\n2 0 1 0 1\n1 1 5\n")
	if f.Name != "t" || f.K != 9 || !slices.Equal(f.Sizes, []int{2, 2}) || len(f.Funs) != 1 {
		t.Errorf("%v", f)
	}
	checkFun(t, f, 0, []int{0, 1}, 0, line(5, 1, 1))
}

func TestReadNoFunctions(t *testing.T) {
	f := read(t, " \n?!~ 3 32 0 2147483648\t1 32 007 \r\n")
	if f.Name != "?!~" || f.K != api.MaxCost || !slices.Equal(f.Sizes, []int{1, 32, 7}) || len(f.Funs) != 0 {
		t.Errorf("%v", f)
	}
	if f := read(t, "12 1 99999999999999999999 -0 1 1"); f.Name != "12" || len(f.Funs) != 0 {
		t.Errorf("%v", f)
	}
}

func TestReadFunctions(t *testing.T) {
	f := read(t, "t 3 4 5 9 4 2 3  0 5 0  -0 2 1 8  2 2 0 7 2 2 3 1 0 1 7  3 1 0 2 9 -0  1 1 01 2 1 0 0 02")
	if len(f.Funs) != 5 {
		t.Fatalf("%v", f)
	}
	checkFun(t, f, 0, nil, 5)
	checkFun(t, f, 1, nil, 2, line(8))
	checkFun(t, f, 2, []int{2, 0}, 7, line(1, 2, 3))
	checkFun(t, f, 3, []int{1, 0, 2}, 9)
	checkFun(t, f, 4, []int{1}, 1, line(2, 0), line(0, 1))
}

func TestReadCostsOfKAndMore(t *testing.T) {
	f := read(t, "t 1 4 3 9 4  1 0 8 4 0 9 1 10 2 99999999999999999999 3 8  1 0 10 1 0 9  0 4611686018427387904 0")
	checkFun(t, f, 0, []int{0}, 8, line(9, 0), line(9, 1), line(9, 2))
	checkFun(t, f, 1, []int{0}, 9)
	checkFun(t, f, 2, nil, 9)
}

func TestReadShared(t *testing.T) {
	// The second shares the first one's lines, the fourth the second one's, so
	// those of the first; the fifth shares the third one's, which is the second
	// of those that are shared; the last one is shared too, by none.
	f := read(t, "t 4 3 7 9 2 3 2 3"+
		" -2 0 1 0 2 1 2 4 0 0 3"+
		" -2 2 1 4 -1"+
		" 2 0 1 1 0"+
		" -2 0 3 3 -2"+
		" 2 2 3 9 -2"+
		" -1 1 2 1 1 2"+
		" 1 3 5 -4")
	checkFun(t, f, 0, []int{0, 1}, 0, line(3, 0, 0), line(4, 1, 2))
	checkFun(t, f, 1, []int{2, 1}, 4, line(3, 0, 0))
	checkFun(t, f, 2, []int{0, 1}, 1)
	checkFun(t, f, 3, []int{0, 3}, 3, line(4, 1, 2))
	checkFun(t, f, 4, []int{2, 3}, 9, line(3, 0, 0), line(4, 1, 2))
	checkFun(t, f, 5, []int{1}, 2)
	checkFun(t, f, 6, []int{3}, 5, line(2, 1))
}

func TestReadSharedIsEachOnesOwn(t *testing.T) {
	f := read(t, "t 2 2 2 9 2 2 -1 0 0 1 1 5 1 1 0 -1")
	if e := f.Funs[0].Tuples.Put([]int{1}, 7); e != api.OK {
		t.Fatal(e)
	}
	f.Funs[0].Scope[0] = 1
	checkFun(t, f, 1, []int{1}, 0, line(5, 1))
}

func TestReadKeepsNothing(t *testing.T) {
	p := []byte("name 2 2 1 9 2 2 2 0 1 0 1 1 1 5 ")
	was := bytes.Clone(p)
	f, _, _ := wcsp.Read(p)
	g, _, _ := wcsp.Read(p)
	if !bytes.Equal(p, was) {
		t.Errorf("%q", p)
	}
	for i := range p {
		p[i] = '1'
	}
	f.Sizes[0], f.Funs[0].Scope[1] = 1, 0
	f.Funs[0].Tuples.Put([]int{0, 0}, 1)
	f.Funs[0].Scope, f.Funs = nil, nil
	if g.Name != "name" || !slices.Equal(g.Sizes, []int{2, 2}) {
		t.Errorf("%v", g)
	}
	checkFun(t, g, 0, []int{0, 1}, 0, line(5, 1, 1))
}

func TestReadMalformedHeader(t *testing.T) {
	for _, s := range []string{
		"^", " \t\r\n^", "t^", "t ^x", "t ^0 2 0 5 2", "t ^-0 2 0 5 2", "t ^-1 2 0 5 2", "t ^+1 2 0 5 2", "t ^1.5 2 0 5 2", "t ^- 2 0 5 2",
		"t 1^", "t 1 ^x 0 5 2", "t 1 2^", "t 1 2 ^x 5 2", "t 1 2 ^-1 5 2", "t 1 2 0 ^", "t 1 2 0 ^x 2", "t 1 2 0 ^0 2", "t 1 2 0 ^-1 2", "t 1 2 0 ^-99999999999999999999 2",
		"t 1 2 0 5^", "t 2 2 0 5 2 ^", "t 2 2 0 5 2 ^x", "t 2 2 0 5 2 ^3", "t 2 2 0 5 ^3 2", "t 1 2 0 5 ^0", "t 1 2 0 5 ^-1", "t 1 2 0 5 ^--1",
		// A greatest size of less than 1 is a number, but no size is so.
		"t 1 0 0 5 ^1", "t 1 -1 0 5 ^1", "t 1 -1 0 5 ^-1", "t 1 -1 0 5^",
		"t 1 2 0 5 2 ^x", "t 1 2 0 5 2\n^0", "t 1 2 0 5 2 ^0 x", "t 1 2 0 5 2 ^0 \x00",
		// The first one counts, and much is asked for that isn't there.
		"t ^x y 2", "t ^0 2 x", "t 99999999999999999999 2 0 5 2^", "t 1 2 99999999999999999999 5 2^",
	} {
		refused(t, s, api.ErrForm)
	}
}

func TestReadMalformedFunctions(t *testing.T) {
	for _, s := range []string{
		"^", "^x", "^1- 0 0 0", "1^", "1 ^x 0 0", "1 ^2 0 0", "1 ^-1 0 0", "1 ^99999999999999999999", "2 0^", "2 0 ^0 0 0", "2 1 ^01 0 0", "-2 1 ^1 0 0", "3 0 1 ^2", "3 0 1 ^1", "3 0 1^", "99999999999999999999 0 1 ^0", "-99999999999999999999 1 ^1", "-99999999999999999999 1^",
		"1 0^", "1 0 ^x 0", "1 0 ^-1 0", "0^", "0 ^-1 0",
		"1 0 0^", "1 0 0 ^x", "1 0 0 ^-", "0 0^",
		"1 0 0 1^", "1 0 0 1 ^x 1", "1 0 0 1 ^-1 1", "1 0 0 1 ^2 1", "1 1 0 1 ^3 1", "2 1 0 0 1 2 ^2 1", "2 0 1 0 1 ^2 2 1", "1 0 0 2 1 1^", "1 0 0 99999999999999999999 1 1^",
		"1 0 0 1 0^", "1 0 0 1 0 ^x", "1 0 0 1 0 ^-1", "0 0 1^", "0 0 1 ^-1",
		"1 0 0 2 1 1 1 ^1", "1 0 0 2 1 1 1 ^2", "1 0 0 2 1 0 01 ^0", "1 0 0 2 1 1 1^", "1 0 0 2 1 1 1 ^x", "0 0 2 1 ^1", "-1 1 0 3 2 1 1 1 2 ^1", "2 1 0 0 3 0 1 5 1 0 5 0 1 ^5", "1 0 0 9 1 1 0 1 1 ^1",
		"1 0 0 0 ^1", "0 0 0 ^0", "0 0 0 ^x",
	} {
		refused(t, "t 2 3 1 9 2 3 "+s, api.ErrForm)
	}
	// A tuple that was there in another function is none that was there.
	read(t, "t 2 3 2 9 2 3 1 0 0 1 1 1 1 0 0 1 1 1")
	// 1 and 11 isn't 11 and 1.
	read(t, "t 2 12 1 9 12 12 2 0 1 0 2 1 11 1 11 1 1")
}

func TestReadMalformedShared(t *testing.T) {
	for _, s := range []string{
		"2 1 0 0 ^-1 0 0 0",                      // none is there
		"2 -1 0 0 ^-1 0 0 0",                     // itself
		"2 1 0 0 ^-1 -1 0 0 0",                   // one behind
		"2 -1 0 0 ^-2 -1 0 0 0",                  // likewise
		"2 -1 0 0 0 1 0 0 ^-2",                   // none of that number
		"2 -1 0 0 0 1 0 0 ^-4611686018427387904", // likewise
		"2 -1 0 0 0 1 0 0 ^-99999999999999999999",
		"3 1 0 0 0 -1 0 0 0 1 0 0 ^-2",   // the one that isn't shared has no number
		"3 1 0 0 0 -1 0 0 0 1 1 0 ^-1",   // other sizes
		"2 -2 0 1 0 0 2 1 0 0 ^-1",       // in another order
		"2 -2 0 1 0 0 1 0 0 ^-1",         // another arity
		"2 -1 0 0 0 2 0 1 0 ^-1",         // likewise
		"2 -1 0 0 0 0 0 ^-1",             // no variables
		"2 -1 0 0 0 1 0 0 -1 ^0",         // no lines follow
		"2 -1 0 0 2 0 1 0 ^1 1 0 0 -1",   // what is shared isn't right
		"3 -1 0 0 0 -1 1 0 0 1 1 0 ^-1",  // the second one is that with its sizes
		"3 -1 0 0 0 -1 0 0 -1 1 1 0 ^-2", // what is shared again has its sizes
		"1 0 0 ^-1",
	} {
		refused(t, "t 3 3 "+strings.Replace(s, " ", " 9 2 3 2 ", 1), api.ErrForm)
	}
	read(t, "t 3 3 3 9 2 3 2 -1 0 0 0 -1 1 0 0 1 1 0 -2")
}

func TestReadWrongBytes(t *testing.T) {
	for b := range 256 {
		if b == ' ' || b == '\t' || b == '\n' || b == '\r' || 0x21 <= b && b <= 0x7e {
			continue
		}
		w := string([]byte{byte(b)})
		for _, s := range []string{"^*", "t^* 1 2 0 5 2", "^*t 1 2 0 5 2", "t ^*1 2 0 5 2", "a^*b 1 2 0 5 2", "t 1^*1 2 0 5 2", "t 1 2 0 5 2^*", "t 1 2 0 5 2 ^*", "t 1 2 0 5 2\n^*\n", "t 1 2 0 5 2^*3", "t 1 2 0 5 ^* 2", "t 1 2 1 5 2 1 0 0 1 1 3^* ", "t 1 2 1 5 2 1 0^* 0 1 1 3", "t 1 2 1 5 2 0 0 0 ^*", "t 1 ^*", "t x^*", "t ^*x", "t 1 2 0 5 2 x^*"} {
			refused(t, strings.Replace(s, "*", w, 1), api.ErrText)
		}
		for _, s := range []string{"t ^x *", "t ^0 2 *", "t 1 2 0 5 2 ^2 *", "t 1 2 0 5 ^3 *"} {
			refused(t, strings.Replace(s, "*", w, 1), api.ErrForm)
		}
	}
}

func sized(n, size int) string { return strings.Repeat(" "+strconv.Itoa(size), n) }

func TestReadLarge(t *testing.T) {
	long := strings.Repeat("n", api.MaxName)
	read(t, long+" 1 2 0 5 2")
	refused(t, "^"+long+"n 1 2 0 5 2", api.ErrLarge)
	refused(t, " \n^"+long+"n 65 99 257 99999999999 33"+sized(64, 33)+strings.Repeat(" 0 0 0", 257), api.ErrLarge)

	read(t, "t 64 2 0 5"+sized(64, 2))
	refused(t, "t ^65 2 0 5"+sized(65, 2), api.ErrLarge)
	refused(t, "t ^65 99 0 5"+sized(65, 33), api.ErrLarge)

	read(t, "t 2 99 0 5 32 1")
	refused(t, "t 2 99 0 5 32 ^33", api.ErrLarge)
	refused(t, "t 3 99 0 5 32 ^33 34", api.ErrLarge)
	refused(t, "t 1 99999999999999999999 0 5 ^88888888888888888888", api.ErrLarge)

	if f := read(t, "t 1 1 256 5 1"+strings.Repeat(" 0 0 0", 256)); len(f.Funs) != api.MaxFuns {
		t.Errorf("%d functions", len(f.Funs))
	}
	refused(t, "t 1 1 ^257 5 1"+strings.Repeat(" 0 0 0", 257), api.ErrLarge)

	read(t, "t 1 1 0 2147483648 1")
	refused(t, "t 1 1 0 ^2147483649 1", api.ErrLarge)
	refused(t, "t 1 1 0 ^99999999999999999999 1", api.ErrLarge)
	refused(t, "t 1 33 ^257 2147483649 33"+strings.Repeat(" 0 0 0", 257), api.ErrLarge)
	refused(t, "t 1 33 256 ^2147483649 33"+strings.Repeat(" 0 0 0", 256), api.ErrLarge)
}

func TestReadLargeFunctions(t *testing.T) {
	head := "t 7 17 1 5 1 2 1 2 1 2 1 "
	read(t, head+"6 0 1 2 3 4 5 0 1 0 0 0 1 0 1 3")
	read(t, head+"-6 6 5 4 3 2 1 0 0")
	refused(t, head+"^7 0 1 2 3 4 5 6 0 1 0 0 0 0 0 0 0 3", api.ErrLarge)
	refused(t, head+"^-7 0 1 2 3 4 5 6 0 0", api.ErrLarge)

	head = "t 4 17 2 5 16 16 16 17 "
	read(t, head+"3 0 1 2 0 1 15 15 15 2 -3 2 0 1 0 0")
	refused(t, head+"3 0 1 2 0 0 ^3 1 3 2 0 1 0 0 0 9", api.ErrLarge)
	refused(t, head+"1 0 0 0 ^-3 1 3 2 0 1 15 16 15 9", api.ErrLarge)
	refused(t, head+"^4 0 1 2 3 0 0 -3 0 1 3 0 0", api.ErrLarge)
	refused(t, "t 2 4611686018427387904 1 5 ^4611686018427387904 4611686018427387904 2 0 1 0 1 4611686018427387903 4611686018427387903 1", api.ErrLarge)
	// Their product, if it is cut off to some bits, is 0.
	refused(t, "t 3 65536 1 5 ^65536 65536 65536 3 0 1 2 0 0", api.ErrLarge)
	read(t, "t 2 32 1 5 32 32 2 0 1 0 0")
}

func TestReadMalformedBehindLarge(t *testing.T) {
	long := strings.Repeat("n", api.MaxName+1)
	for _, s := range []string{
		long + " ^x", long + " 1 2 0 5^", long + " 1 2 0 5 2 ^1",
		"t 65 2 0 5" + sized(64, 2) + "^", "t 65 2 0 5" + sized(64, 2) + " ^3", "t 99999999999999999999^",
		"t 2 99 0 5 33 ^0", "t 1 33 0 5 33 ^1", "t 1 33 1 5 33 1 0 0 1 ^33 1",
		"t 1 1 257 5 1" + strings.Repeat(" 0 0 0", 256) + "^", "t 1 1 257 5 1" + strings.Repeat(" 0 0 0", 256) + " 1 0 ^-1 0", "t 1 1 257 5 1" + strings.Repeat(" 0 0 0", 257) + " ^0",
		"t 1 1 0 2147483649 ^0", "t 1 1 0 99999999999999999999 1 ^0",
		"t 7 1 1 5 1 1 1 1 1 1 1 7 0 1 2 3 4 5 ^0", "t 7 1 1 5 1 1 1 1 1 1 1 7 0 1 2 3 4 5 6 0 2 0 0 0 0 0 0 0 1 0 0 0 0 0 0 0 ^1", "t 7 1 1 5 1 1 1 1 1 1 1 7 0 1 2 3 4 5 6 0 ^-1", "t 7 1 2 5 1 1 1 1 1 1 1 -7 0 1 2 3 4 5 6 0 0 6 0 1 2 3 4 5 0 ^-1",
		"t 3 17 1 5 17 17 17 3 0 1 2 0 1 16 16 ^17 0", "t 3 17 1 5 17 17 17 3 0 1 2 0 4097 0 0 0 1 0 0 0 ^1", "t 3 17 2 5 17 17 17 -3 0 1 2 0 1 0 0 0 1 3 2 1 0 0 ^-2",
		"t 1 1 1 5 1 1 0 0 16385^", "t 1 1 1 5 1 1 0 0 16385 0 1 0 ^1", "t 1 1 1 5 1 1 0 0 16385 0 1 ^1",
	} {
		refused(t, s, api.ErrForm)
	}
	refused(t, long+" ^\x00", api.ErrText)
	refused(t, "t 1 33 0 5 33^\x00", api.ErrText)
	refused(t, "t 1 1 0 2147483649 1 ^\x7f", api.ErrText)
	refused(t, "t 1 1 0 2147483649 ^0 \x7f", api.ErrForm)
}

func TestReadBytes(t *testing.T) {
	text := "t 1 2 0 5 2"
	read(t, text+strings.Repeat(" ", api.MaxBytes-len(text)))
	refused(t, "^"+text+strings.Repeat(" ", api.MaxBytes-len(text)+1), api.ErrLarge)
	refused(t, "^"+strings.Repeat(" ", api.MaxBytes+1), api.ErrLarge)
	refused(t, "^"+strings.Repeat("\x00", api.MaxBytes+1), api.ErrLarge)
	refused(t, "^x x"+strings.Repeat("x", api.MaxBytes), api.ErrLarge)
	refused(t, strings.Repeat(" ", api.MaxBytes)+"^", api.ErrForm)
	refused(t, strings.Repeat(" ", api.MaxBytes-1)+"^\x00", api.ErrText)
	if f, at, e := wcsp.Read(nil); f != nil || at != 0 || e != api.ErrForm {
		t.Errorf("of nil: %v, %d, error %d", f, at, e)
	}
}

// sharedTable is 4096 lines of which each of times functions more tells none of
// its own.
func sharedTable(times int) string {
	var b strings.Builder
	b.WriteString("t 3 16 " + strconv.Itoa(times+1) + " 99 16 16 16 -3 0 1 2 98 4096\n")
	for x := range 4096 {
		for _, v := range []int{x / 256, x / 16 % 16, x % 16, x % 7} {
			b.WriteString(strconv.Itoa(v) + " ")
		}
	}
	for i := range times {
		b.WriteString("3 2 1 0 " + strconv.Itoa(i%8) + " -1\n")
	}
	return b.String()
}

func TestReadSharedLinesAreToldOnce(t *testing.T) {
	f := read(t, sharedTable(255))
	if n := f.Funs[0].Tuples.Len(); n != 4096 {
		t.Errorf("%d lines", n)
	}
	all := 0
	for _, g := range f.Funs {
		all += g.Tuples.Len()
	}
	if all <= 50*api.MaxTuples {
		t.Fatalf("only %d lines", all)
	}
	if c, e := f.Val([]int{0, 0, 1}); e != api.OK || c != 99 {
		t.Errorf("%d, error %d", c, e)
	}
	if c, e := f.Val([]int{0, 0, 0}); e != api.OK || c != 0 {
		t.Errorf("%d, error %d", c, e)
	}
}

// known is what the tests make of a text by themselves.
type known struct {
	name  string
	k     int64
	sizes []int64
	funs  []knownFun
}

type knownFun struct {
	scope []int64
	other int64
	costs map[string]int64
}

type place struct {
	at int
	e  api.Errno
}

type spot struct {
	word string
	at   int
}

// oracle goes through words that were all found ahead; it jumps out by a panic
// with a place.
type oracle struct {
	words []spot
	end   place
	large *place
}

func newOracle(p string) *oracle {
	o := &oracle{end: place{len(p), api.ErrForm}}
	wrong := strings.IndexFunc(p, func(r rune) bool { return r > 0x7e || r < 0x20 && !strings.ContainsRune("\t\n\r", r) })
	if wrong >= 0 {
		o.end = place{wrong, api.ErrText}
		// The word whose bytes the wrong one is at is none.
		p = p[:1+strings.LastIndexAny(p[:wrong], " \t\n\r")]
	}
	at := 0
	for w := range strings.FieldsFuncSeq(p, func(r rune) bool { return strings.ContainsRune(" \t\n\r", r) }) {
		at += strings.Index(p[at:], w)
		o.words = append(o.words, spot{w, at})
		at += len(w)
	}
	return o
}

func (o *oracle) next() spot {
	if len(o.words) == 0 {
		panic(o.end)
	}
	w := o.words[0]
	o.words = o.words[1:]
	return w
}

func (o *oracle) number(low, below int64) (int64, int) {
	w := o.next()
	n, ok := new(big.Int).SetString(w.word, 10)
	if !ok || strings.ContainsAny(w.word, "+_") {
		panic(place{w.at, api.ErrForm})
	}
	far := big.NewInt(scan.Far)
	if n.CmpAbs(far) > 0 {
		n.Mul(far, big.NewInt(int64(n.Sign())))
	}
	if n.Int64() < low || n.Int64() >= below {
		panic(place{w.at, api.ErrForm})
	}
	return n.Int64(), w.at
}

func (o *oracle) tooMany(at int) {
	if o.large == nil {
		o.large = &place{at, api.ErrLarge}
	}
}

func (o *oracle) fun(f *known, shared []knownFun) (knownFun, bool) {
	g := knownFun{costs: map[string]int64{}}
	arity, at := o.number(-scan.Far, scan.Far+1)
	product := big.NewInt(1)
	for len(g.scope) < int(max(arity, -arity)) {
		v, at := o.number(0, int64(len(f.sizes)))
		if slices.Contains(g.scope, v) {
			panic(place{at, api.ErrForm})
		}
		g.scope = append(g.scope, v)
		product.Mul(product, big.NewInt(f.sizes[v]))
	}
	if len(g.scope) > 6 || product.Cmp(big.NewInt(4096)) > 0 {
		o.tooMany(at)
	}
	c, _ := o.number(0, scan.Far+1)
	g.other = min(c, f.k)
	m, at := o.number(-scan.Far, scan.Far+1)
	if m < 0 {
		if -m > int64(len(shared)) {
			panic(place{at, api.ErrForm})
		}
		s := shared[-m-1]
		if len(s.scope) != len(g.scope) {
			panic(place{at, api.ErrForm})
		}
		for i, v := range g.scope {
			if f.sizes[v] != f.sizes[s.scope[i]] {
				panic(place{at, api.ErrForm})
			}
		}
		g.costs = s.costs
	}
	for ; m > 0; m-- {
		key := ""
		for _, v := range g.scope {
			x, _ := o.number(0, f.sizes[v])
			key += "," + strconv.FormatInt(x, 10)
		}
		c, at := o.number(0, scan.Far+1)
		if _, was := g.costs[key]; was {
			panic(place{at, api.ErrForm})
		}
		g.costs[key] = min(c, f.k)
	}
	return g, arity < 0
}

func (o *oracle) file() *known {
	f := &known{}
	w := o.next()
	f.name = w.word
	if len(w.word) > 64 {
		o.tooMany(w.at)
	}
	told := func(low, most int64) int64 {
		n, at := o.number(low, scan.Far+1)
		if n > most {
			o.tooMany(at)
		}
		return n
	}
	n := told(1, 64)
	greatest := told(-scan.Far, scan.Far)
	funs := told(0, 256)
	f.k = told(1, 1<<31)
	for ; n > 0; n-- {
		size, at := o.number(1, greatest+1)
		if size > 32 {
			o.tooMany(at)
		}
		f.sizes = append(f.sizes, size)
	}
	var shared []knownFun
	for ; funs > 0; funs-- {
		g, share := o.fun(f, shared)
		if share {
			shared = append(shared, g)
		}
		f.funs = append(f.funs, g)
	}
	if len(o.words) > 0 {
		panic(place{o.words[0].at, api.ErrForm})
	}
	if o.end.e == api.ErrText {
		panic(o.end)
	}
	return f
}

// expected is what Read is to tell of p.
func expected(p string) (f *known, at int, e api.Errno) {
	defer func() {
		if x, ok := recover().(place); ok {
			f, at, e = nil, x.at, x.e
		}
	}()
	o := newOracle(p)
	f = o.file()
	if o.large != nil {
		panic(*o.large)
	}
	return f, len(p), api.OK
}

// val adds natural numbers first.
func (f *known) val(a []int) int64 {
	sum := int64(0)
	for _, g := range f.funs {
		key := ""
		for _, v := range g.scope {
			key += "," + strconv.Itoa(a[v])
		}
		if c, ok := g.costs[key]; ok {
			sum += c
		} else {
			sum += g.other
		}
	}
	return min(sum, f.k)
}

func (f *known) alike(g *wcsp.File) bool {
	wide := func(l []int) []int64 {
		var w []int64
		for _, n := range l {
			w = append(w, int64(n))
		}
		return w
	}
	return g.Name == f.name && g.K == f.k && slices.Equal(wide(g.Sizes), f.sizes) && slices.EqualFunc(f.funs, g.Funs, func(x knownFun, y wcsp.Fun) bool {
		if !slices.Equal(wide(y.Scope), x.scope) || y.Tuples.K() != f.k || y.Tuples.Other() != x.other {
			return false
		}
		for i, v := range x.scope {
			if int64(y.Tuples.Sizes()[i]) != f.sizes[v] {
				return false
			}
		}
		n := 0
		for _, c := range x.costs {
			if c != x.other {
				n++
			}
		}
		for _, l := range y.Tuples.Lines() {
			key := ""
			for _, v := range l.Tuple {
				key += "," + strconv.Itoa(v)
			}
			if x.costs[key] != l.Cost {
				return false
			}
		}
		return y.Tuples.Len() == n
	})
}

// words are those of a text that is right, but that its functions may be large.
func words(r *rand.Rand) []string {
	n, greatest := 1+r.Intn(4), 1+r.Intn(4)
	if r.Intn(20) == 0 {
		greatest = 1 + r.Intn(40)
	}
	funs := r.Intn(6)
	l := []string{"t" + strconv.Itoa(r.Intn(9)), strconv.Itoa(n), strconv.Itoa(greatest), strconv.Itoa(funs), strconv.Itoa(1 + r.Intn(9))}
	var sizes []int
	for range n {
		sizes = append(sizes, 1+r.Intn(greatest))
		l = append(l, strconv.Itoa(sizes[len(sizes)-1]))
	}
	var shared [][]int
	for range funs {
		scope := r.Perm(n)[:r.Intn(n+1)]
		var own []int
		for _, v := range scope {
			own = append(own, sizes[v])
		}
		share := len(scope) > 0 && r.Intn(2) == 0
		arity := strconv.Itoa(len(scope))
		if share {
			arity = "-" + arity
		}
		l = append(l, arity)
		for _, v := range scope {
			l = append(l, strconv.Itoa(v))
		}
		l = append(l, strconv.Itoa(r.Intn(12)))
		if s := slices.IndexFunc(shared, func(x []int) bool { return slices.Equal(x, own) }); s >= 0 && r.Intn(2) == 0 {
			l = append(l, strconv.Itoa(-s-1))
		} else {
			l = append(l, lineWords(r, own)...)
		}
		if share {
			shared = append(shared, own)
		}
	}
	return l
}

func lineWords(r *rand.Rand, sizes []int) []string {
	apart := map[string]bool{}
	for range r.Intn(6) {
		x := ""
		for _, n := range sizes {
			x += strconv.Itoa(r.Intn(n)) + " "
		}
		apart[x] = true
	}
	l := []string{strconv.Itoa(len(apart))}
	for x := range apart {
		l = append(append(l, strings.Fields(x)...), strconv.Itoa(r.Intn(12)))
	}
	return l
}

func spoilt(r *rand.Rand, l []string) []string {
	pool := []string{"0", "1", "2", "3", "5", "-0", "-1", "-2", "-3", "007", "33", "65", "257", "x", "-", "1x", "2147483649", "4611686018427387904", "99999999999999999999", "-99999999999999999999", "7", strings.Repeat("9", 65)}
	for range r.Intn(3) {
		at := r.Intn(len(l) + 1)
		word := pool[r.Intn(len(pool))]
		switch {
		case r.Intn(3) == 0 || at == len(l):
			l = slices.Insert(l, at, word)
		case r.Intn(2) == 0 && len(l) > 1:
			l = slices.Delete(l, at, at+1)
		default:
			l[at] = word
		}
	}
	return l
}

func joined(r *rand.Rand, l []string) string {
	gaps := []string{" ", " ", " ", "\n", "\t", "\r\n", "  "}
	text := ""
	for i, w := range l {
		if i > 0 || r.Intn(4) == 0 {
			text += gaps[r.Intn(len(gaps))]
		}
		text += w
	}
	if r.Intn(2) == 0 {
		text += gaps[r.Intn(len(gaps))]
	}
	if r.Intn(12) == 0 {
		at := r.Intn(len(text) + 1)
		text = text[:at] + string([]byte{"\x00\x1f\x7f\xff\x0b"[r.Intn(5)]}) + text[at:]
	}
	return text
}

func TestReadRandom(t *testing.T) {
	r := rand.New(rand.NewSource(1))
	times := map[api.Errno]int{}
	for range 60000 {
		text := joined(r, spoilt(r, words(r)))
		want, at, e := expected(text)
		f, gotAt, gotE := wcsp.Read([]byte(text))
		if gotAt != at || gotE != e || (f == nil) != (want == nil) || f != nil && !want.alike(f) {
			t.Fatalf("Read(%q): %v, place %d, error %d, not %v, %d, %d", text, f, gotAt, gotE, want, at, e)
		}
		if f != nil && f.Right() != api.OK {
			t.Fatalf("what Read told of %q isn't right", text)
		}
		times[e]++
	}
	for _, e := range []api.Errno{api.OK, api.ErrForm, api.ErrText, api.ErrLarge} {
		if times[e] < 100 {
			t.Errorf("error %d only %d times", e, times[e])
		}
	}
}

func TestReadRandomBytes(t *testing.T) {
	r := rand.New(rand.NewSource(2))
	for range 20000 {
		p := make([]byte, r.Intn(60))
		for i := range p {
			p[i] = "0011223-  \n\tx\x00"[r.Intn(14)]
		}
		_, at, e := expected(string(p))
		if f, gotAt, gotE := wcsp.Read(p); gotAt != at || gotE != e || (f == nil) != (e != api.OK) {
			t.Fatalf("Read(%q): %v, place %d, error %d, not %d, %d", p, f, gotAt, gotE, at, e)
		}
	}
}
