package state

// Facts leaves out the functions' numbers, and all that is told of what isn't
// left, gone or killed: by how many calls it came to this doesn't count. Each
// list stands behind its length, or behind what tells it.
func (s *State) Facts() []int64 {
	if s == nil {
		return nil
	}
	facts := []int64{s.Zero()}
	for i := range s.N() {
		facts = s.withVar(facts, i)
	}
	for _, f := range s.live() {
		facts = s.withFun(facts, f)
	}
	// No function has so short a scope: so they end here.
	facts = withList(facts, nil)
	for _, e := range s.elims {
		facts = append(facts, int64(e.Var))
		facts = withList(withList(facts, e.Scope), e.Best)
	}
	return facts
}

func (s *State) withVar(facts []int64, i int) []int64 {
	facts = append(facts, s.cells.Get(s.vars[i]+goneAt), int64(s.dropped(i)))
	if s.Gone(i) {
		return facts
	}
	for v := range s.Dom(i).Values() {
		facts = append(facts, s.cells.Get(s.vars[i]+unaryAt+v))
	}
	return facts
}

func (s *State) withFun(facts []int64, f function) []int64 {
	facts = withList(facts, f.scope)
	for n, t := range f.shape.All() {
		if s.allLeft(f.scope, t) {
			facts = append(facts, s.cells.Get(f.first+costsAt+n))
		}
	}
	return facts
}

func (s *State) allLeft(scope, t []int) bool {
	for p, i := range scope {
		if !s.left(i, t[p]) {
			return false
		}
	}
	return true
}

func withList(facts []int64, l []int) []int64 {
	facts = append(facts, int64(len(l)))
	for _, v := range l {
		facts = append(facts, int64(v))
	}
	return facts
}
