package move_test

import (
	"testing"

	"pennyweight/api"
	"pennyweight/move"
)

func TestExample(t *testing.T) {
	s := made(t, "t 2 2 1 9 2 2, 2 0 1 9 2 0 0 3 0 1 5")
	is(t, "Project", move.Project(s, 0, 0, 0, 3), api.OK)
	same(t, "the costs", costsOf(t, s, 0), 0, 2, 9, 9)
	same(t, "the unary costs", unaries(t, s, 0), 3, 0)
}

func TestRoomOfEachPlace(t *testing.T) {
	s := made(t, "t 3 3 2 9 2 3 2, 2 0 1 0 6 0 0 4 0 1 3 0 2 8 1 0 9 1 1 6 1 2 7, 3 0 1 2 9 4 0 0 0 7 0 2 1 5 1 1 1 2 1 2 0 6")
	for _, x := range []struct {
		j, pos, v int
		want      int64
	}{{0, 0, 0, 3}, {0, 0, 1, 6}, {0, 1, 0, 4}, {0, 1, 1, 3}, {0, 1, 2, 7}, {1, 0, 0, 5}, {1, 0, 1, 2}, {1, 1, 0, 7}, {1, 1, 1, 2}, {1, 1, 2, 5}, {1, 2, 0, 6}, {1, 2, 1, 2}} {
		room(t, s, x.j, x.pos, x.v, x.want)
	}
}

func TestRoomOfWhatIsLeft(t *testing.T) {
	s := made(t, three)
	room(t, s, 0, 0, 0, 0)
	ok(t, s.Drop(1, 0))
	room(t, s, 0, 0, 0, 0)
	room(t, s, 0, 0, 1, 0)
	ok(t, s.Drop(1, 2))
	room(t, s, 0, 0, 0, 5)
	room(t, s, 0, 0, 1, 0)
	room(t, s, 0, 1, 1, 0)
	ok(t, s.Drop(0, 1))
	room(t, s, 0, 1, 1, 5)
	room(t, s, 1, 2, 0, 1)
}

// Where another variable has no value left there is no tuple, but those of its
// own values none ask for.
func TestRoomOfNoTuple(t *testing.T) {
	s := made(t, three)
	for v := range 3 {
		ok(t, s.Drop(1, v))
	}
	for j, places := range [][]int{{0}, {0, 2}} {
		for _, pos := range places {
			room(t, s, j, pos, 0, 9)
			room(t, s, j, pos, 1, 9)
		}
	}
	if c, e := move.Room(s, 0, 1, 0); c != 0 || e != api.ErrArg {
		t.Errorf("of a value that isn't left: %d, error %d", c, e)
	}
	before := look(t, s)
	is(t, "Project", move.Project(s, 0, 0, 1, 9), api.OK)
	is(t, "Extend", move.Extend(s, 1, 2, 0, 4), api.OK)
	same(t, "the unary costs of 0", unaries(t, s, 0), 0, 9)
	same(t, "the unary costs of 2", unaries(t, s, 2), 0, 4)
	same(t, "the costs", costsOf(t, s, 0), before.costs[0]...)
	same(t, "the costs of three", costsOf(t, s, 1), before.costs[1]...)
}

func TestRoomOfTuplesThatCannotBe(t *testing.T) {
	s := made(t, "t 2 3 1 9 2 3, 2 0 1 9 1 1 1 8")
	room(t, s, 0, 0, 0, 9)
	room(t, s, 0, 0, 1, 8)
	room(t, s, 0, 1, 0, 9)
	room(t, s, 0, 1, 1, 8)
	for _, c := range []int64{0, 4, 9} {
		is(t, "Project", move.Project(s, 0, 0, 0, c), api.OK)
		same(t, "the costs", costsOf(t, s, 0), 9, 9, 9, 9, 8, 9)
	}
	same(t, "the unary costs", unaries(t, s, 0), 9, 0)
	is(t, "Project of 9", move.Project(s, 0, 0, 1, 9), api.ErrIllegal)
}

func TestProjectOfTheRoom(t *testing.T) {
	s := made(t, "t 3 3 1 20 2 3 2, 3 0 1 2 7 3 0 1 0 4 1 1 1 5 1 2 0 20")
	is(t, "one more", move.Project(s, 0, 1, 1, 5), api.ErrIllegal)
	is(t, "all", move.Project(s, 0, 1, 1, 4), api.OK)
	same(t, "the costs", costsOf(t, s, 0), 7, 7, 0, 3, 7, 7, 7, 7, 3, 1, 20, 7)
	same(t, "the unary costs", unaries(t, s, 1), 0, 4, 0)
	room(t, s, 0, 1, 1, 0)
	is(t, "0 of none", move.Project(s, 0, 1, 1, 0), api.OK)
	is(t, "1 of none", move.Project(s, 0, 1, 1, 1), api.ErrIllegal)
	is(t, "at the first place", move.Project(s, 0, 0, 1, 1), api.OK)
	same(t, "the costs", costsOf(t, s, 0), 7, 7, 0, 3, 7, 7, 6, 6, 2, 0, 20, 6)
	is(t, "at the last place", move.Project(s, 0, 2, 0, 0), api.OK)
	is(t, "at the last place", move.Project(s, 0, 2, 1, 1), api.ErrIllegal)
	same(t, "the costs", costsOf(t, s, 0), 7, 7, 0, 3, 7, 7, 6, 6, 2, 0, 20, 6)
	same(t, "the unary costs of 0", unaries(t, s, 0), 0, 1)
	same(t, "the unary costs of 2", unaries(t, s, 2), 0, 0)
}

func TestProjectUpToTheTop(t *testing.T) {
	s := made(t, "t 2 2 2 9 2 2, 2 0 1 6 1 0 1 9, 1 0 4 1 1 9")
	is(t, "Project", move.Project(s, 0, 0, 0, 4), api.OK)
	same(t, "below it", unaries(t, s, 0), 8, 9)
	is(t, "Project", move.Project(s, 0, 0, 0, 1), api.OK)
	same(t, "it", unaries(t, s, 0), 9, 9)
	is(t, "Project", move.Project(s, 0, 0, 0, 1), api.OK)
	is(t, "Project", move.Project(s, 0, 0, 1, 6), api.OK)
	same(t, "beyond it", unaries(t, s, 0), 9, 9)
	same(t, "the costs", costsOf(t, s, 0), 0, 9, 0, 0)
}

func TestExtend(t *testing.T) {
	s := made(t, "t 2 3 2 9 2 3, 2 0 1 0 3 0 0 4 0 1 3 1 2 9, 1 0 0 2 0 5 1 9")
	is(t, "one more", move.Extend(s, 0, 0, 0, 6), api.ErrIllegal)
	is(t, "some", move.Extend(s, 0, 0, 0, 2), api.OK)
	same(t, "the costs", costsOf(t, s, 0), 6, 5, 2, 0, 0, 9)
	same(t, "the unary costs", unaries(t, s, 0), 3, 9)
	is(t, "one more", move.Extend(s, 0, 0, 0, 4), api.ErrIllegal)
	is(t, "all", move.Extend(s, 0, 0, 0, 3), api.OK)
	same(t, "the costs, up to the top", costsOf(t, s, 0), 9, 8, 5, 0, 0, 9)
	same(t, "the unary costs", unaries(t, s, 0), 0, 9)
	is(t, "0 of none", move.Extend(s, 0, 0, 0, 0), api.OK)
	is(t, "1 of none", move.Extend(s, 0, 0, 0, 1), api.ErrIllegal)
	is(t, "beyond the top", move.Extend(s, 0, 0, 1, 5), api.OK)
	same(t, "the costs", costsOf(t, s, 0), 9, 8, 5, 5, 5, 9)
	same(t, "what can't be stays so", unaries(t, s, 0), 0, 9)
	is(t, "of the top", move.Extend(s, 0, 0, 1, 9), api.OK)
	same(t, "the costs", costsOf(t, s, 0), 9, 8, 5, 9, 9, 9)
	same(t, "what can't be stays so", unaries(t, s, 0), 0, 9)
	is(t, "at the other place", move.Extend(s, 0, 1, 2, 1), api.ErrIllegal)
}

func TestExtendAtEachPlace(t *testing.T) {
	s := made(t, "t 3 3 4 9 2 3 2, 3 0 1 2 1 0, 1 0 5 0, 1 1 5 0, 1 2 5 0")
	is(t, "Extend", move.Extend(s, 0, 1, 1, 2), api.OK)
	same(t, "the costs", costsOf(t, s, 0), 1, 1, 3, 3, 1, 1, 1, 1, 3, 3, 1, 1)
	is(t, "Extend", move.Extend(s, 0, 2, 1, 5), api.OK)
	same(t, "the costs", costsOf(t, s, 0), 1, 6, 3, 8, 1, 6, 1, 6, 3, 8, 1, 6)
	is(t, "Extend", move.Extend(s, 0, 0, 1, 3), api.OK)
	same(t, "the costs", costsOf(t, s, 0), 1, 6, 3, 8, 1, 6, 4, 9, 6, 9, 4, 9)
	same(t, "the unary costs of 0", unaries(t, s, 0), 5, 2)
	same(t, "the unary costs of 1", unaries(t, s, 1), 5, 3, 5)
	same(t, "the unary costs of 2", unaries(t, s, 2), 5, 0)
}

// Costs of tuples with values that aren't left stay as they are, whether they
// stand at the place that is asked for or at others.
func TestPlacesWithoutSomeValues(t *testing.T) {
	s := made(t, "t 3 3 2 9 2 3 2, 3 0 1 2 4 0, 1 1 3 0")
	ok(t, s.SetCost(0, []int{0, 0, 0}, 1))
	ok(t, s.SetCost(0, []int{0, 2, 1}, 0))
	ok(t, s.Drop(1, 0))
	ok(t, s.Drop(2, 1))
	room(t, s, 0, 0, 0, 4)
	is(t, "Project", move.Project(s, 0, 0, 0, 4), api.OK)
	same(t, "the costs", costsOf(t, s, 0), 1, 4, 0, 4, 0, 0, 4, 4, 4, 4, 4, 4)
	is(t, "Extend", move.Extend(s, 0, 1, 2, 3), api.OK)
	same(t, "the costs", costsOf(t, s, 0), 1, 4, 0, 4, 3, 0, 4, 4, 4, 4, 7, 4)
	same(t, "the unary costs of 0", unaries(t, s, 0), 4, 0)
	same(t, "the unary costs of 1", unaries(t, s, 1), 3, 3, 0)
	is(t, "what isn't left", move.Extend(s, 0, 1, 0, 3), api.ErrArg)
	is(t, "what isn't left", move.Project(s, 0, 2, 1, 0), api.ErrArg)
	is(t, "more than is left", move.Project(s, 0, 1, 1, 1), api.ErrIllegal)
}

// One function takes what another one of the same variables gave.
func TestFunctionsOfTheSameScope(t *testing.T) {
	s := made(t, "t 2 2 1 9 2 2, 2 0 1 5 0")
	j := add(t, s, 3, 0, 1)
	is(t, "Project", move.Project(s, 0, 1, 0, 5), api.OK)
	is(t, "Extend", move.Extend(s, j, 1, 0, 4), api.OK)
	same(t, "the one", costsOf(t, s, 0), 0, 5, 0, 5)
	same(t, "the other", costsOf(t, s, j), 7, 3, 7, 3)
	same(t, "the unary costs", unaries(t, s, 1), 1, 0)
	ok(t, s.Kill(0))
	is(t, "killed", move.Project(s, 0, 1, 1, 0), api.ErrArg)
	is(t, "Project", move.Project(s, j, 0, 1, 3), api.OK)
	same(t, "the other", costsOf(t, s, j), 7, 3, 4, 0)
}

func TestTheGreatestFunction(t *testing.T) {
	s := made(t, "t 6 4 1 2147483648 4 4 4 4 4 4, 6 0 1 2 3 4 5 9 1 3 3 3 3 3 3 2147483648")
	before := costsOf(t, s, 0)
	for pos := range 6 {
		for v := range 4 {
			room(t, s, 0, pos, v, 9)
		}
	}
	is(t, "Project", move.Project(s, 0, 5, 3, 9), api.OK)
	room(t, s, 0, 0, 3, 0)
	room(t, s, 0, 4, 0, 0)
	room(t, s, 0, 5, 2, 9)
	same(t, "the unary costs", unaries(t, s, 5), 0, 0, 0, 9)
	for n, c := range costsOf(t, s, 0) {
		if want := max(before[n]-9*int64(n%4/3), 0); n < 4095 && c != want || n == 4095 && c != top {
			t.Fatalf("the cost of the tuple %d is %d", n, c)
		}
	}
	is(t, "Extend", move.Extend(s, 0, 5, 3, 9), api.OK)
	same(t, "the costs", costsOf(t, s, 0), before...)
	same(t, "the unary costs", unaries(t, s, 5), 0, 0, 0, 0)
	is(t, "Project", move.Project(s, 0, 0, 3, top), api.ErrIllegal)
	is(t, "Project", move.Project(s, 0, 0, 3, top+1), api.ErrRange)
}
