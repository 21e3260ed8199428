// Package dom is layer 2: see shared/doc/02-dom.md.
package dom

import (
	"iter"
	"math/bits"

	"pennyweight/api"
)

// Set is values. No bit at size or above is ever set, so that == says whether
// two sets are alike.
type Set struct {
	size int
	has  uint32
}

// New to Inter: sets of values.
func New(n int) (Set, api.Errno) {
	if n < 1 || n > api.MaxDomain {
		return Set{}, api.ErrArg
	}
	return Set{size: n, has: below(n)}, api.OK
}

func (s Set) Size() int { return s.size }

func (s Set) Len() int { return bits.OnesCount32(s.has) }

func (s Set) Has(v int) bool { return s.fits(v) && s.has&bit(v) != 0 }

func (s Set) Put(v int) Set {
	if s.fits(v) {
		s.has |= bit(v)
	}
	return s
}

func (s Set) Drop(v int) Set {
	if s.fits(v) {
		s.has &^= bit(v)
	}
	return s
}

func (s Set) Only(v int) Set {
	only := Set{size: s.size}
	if s.Has(v) {
		only.has = bit(v)
	}
	return only
}

func (s Set) First() int {
	if s.has == 0 {
		return -1
	}
	return bits.TrailingZeros32(s.has)
}

func (s Set) Last() int { return bits.Len32(s.has) - 1 }

func (s Set) Next(v int) int {
	if v < 0 {
		return s.First()
	}
	// Asked ahead of v + 1, which wraps round at the greatest int.
	if !s.fits(v) {
		return -1
	}
	s.has &^= below(v + 1)
	return s.First()
}

func (s Set) Values() iter.Seq[int] {
	return func(yield func(int) bool) {
		for v := s.First(); v >= 0; v = s.Next(v) {
			if !yield(v) {
				return
			}
		}
	}
}

func Inter(a, b Set) (Set, api.Errno) {
	if a.size != b.size {
		return Set{}, api.ErrArg
	}
	return Set{size: a.size, has: a.has & b.has}, api.OK
}

// fits guards each shift: one by a number below 0 would panic.
func (s Set) fits(v int) bool { return 0 <= v && v < s.size }

func bit(v int) uint32 { return 1 << v }

// below leans on the wrap-round: of 32 the bit is 0, and 0 less 1 is all bits.
func below(n int) uint32 { return bit(n) - 1 }
