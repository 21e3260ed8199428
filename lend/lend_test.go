package lend_test

import (
	"slices"
	"testing"

	"pennyweight/api"
	"pennyweight/lend"
	"pennyweight/net"
	"pennyweight/state"
	"pennyweight/wcsp"
)

func made(t *testing.T, text string) *state.State {
	t.Helper()
	f, at, e := wcsp.Read([]byte(text))
	if e != api.OK {
		t.Fatalf("Read(%.99q): place %d, error %d", text, at, e)
	}
	n, e := net.Of(f)
	if e != api.OK {
		t.Fatalf("Of(%.99q): error %d", text, e)
	}
	return state.New(n)
}

// costsOf are those of 0, of 1, and of the function of both, each of two values.
func costsOf(s *state.State) []int64 {
	var costs []int64
	for i := range 2 {
		for v := range 2 {
			c, _ := s.Unary(i, v)
			costs = append(costs, c)
		}
	}
	for n := range 4 {
		c, _ := s.Cost(0, []int{n / 2, n % 2})
		costs = append(costs, c)
	}
	return costs
}

func TestTo(t *testing.T) {
	for _, x := range []struct {
		what, text string
		pos        int
		want       []int64
		changed    bool
	}{
		{"to the lower one", "t 2 2 2 9 2 2 1 1 0 1 0 5 2 0 1 0 1 0 1 3", 0, []int64{3, 0, 2, 0, 0, 0, 3, 0}, true},
		{"to the higher one", "t 2 2 2 9 2 2 1 0 0 1 0 5 2 0 1 0 1 1 0 3", 1, []int64{2, 0, 3, 0, 0, 3, 0, 0}, true},
		{"to both values", "t 2 2 2 9 2 2 1 1 9 2 0 4 1 3 2 0 1 0 1 0 1 2", 0, []int64{4, 3, 0, 0, 0, 1, 1, 0}, true},
		{"where nothing is needed", "t 2 2 2 9 2 2 1 0 0 1 0 5 2 0 1 0 1 1 0 3", 0, []int64{5, 0, 0, 0, 0, 0, 3, 0}, false},
	} {
		s := made(t, x.text)
		if changed := lend.To(s, 0, x.pos); changed != x.changed {
			t.Errorf("%s: %v", x.what, changed)
		}
		if got := costsOf(s); !slices.Equal(got, x.want) {
			t.Errorf("%s: the costs are %v, not %v", x.what, got, x.want)
		}
	}
}

func TestToOfThree(t *testing.T) {
	s := made(t, "t 3 2 3 9 2 2 2 1 1 0 1 0 5 1 2 0 1 1 5 3 0 1 2 7 1 0 0 0 0")
	behind := s.Facts()
	for pos := range 3 {
		if lend.To(s, 0, pos) || !slices.Equal(s.Facts(), behind) {
			t.Errorf("to the place %d: something was given", pos)
		}
	}
}
