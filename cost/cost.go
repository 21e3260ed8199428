// Package cost is layer 1: see shared/doc/01-cost.md.
package cost

import (
	"slices"

	"pennyweight/api"
)

// Right to Gap: costs up to a top.
func Right(k int64) bool { return 1 <= k && k <= api.MaxCost }

func In(a, k int64) bool { return Right(k) && 0 <= a && a <= k }

func Add(a, b, k int64) (int64, api.Errno) {
	if !In(a, k) || !In(b, k) {
		return 0, api.ErrRange
	}
	return capped(a, b, k), api.OK
}

func Sub(a, b, k int64) (int64, api.Errno) {
	switch {
	case !In(a, k) || !In(b, k):
		return 0, api.ErrRange
	case a == k:
		// What can't be stays so, whatever cost is taken from it.
		return k, api.OK
	case b > a:
		return 0, api.ErrOver
	}
	return a - b, api.OK
}

func Sum(l []int64, k int64) (int64, api.Errno) {
	if !allIn(l, k) {
		return 0, api.ErrRange
	}
	sum := int64(0)
	for _, a := range l {
		sum = capped(sum, a, k)
	}
	return sum, api.OK
}

func Least(l []int64, k int64) (int64, api.Errno) {
	if !allIn(l, k) {
		return 0, api.ErrRange
	}
	least := k
	for _, a := range l {
		least = min(least, a)
	}
	return least, api.OK
}

func Gap(a, b, k int64) (int64, api.Errno) {
	if !In(a, k) || !In(b, k) {
		return 0, api.ErrRange
	}
	// Not by Sub, which would keep a b of k: a needs the plain difference.
	return max(b-a, 0), api.OK
}

// capped needs two costs up to k: they are small enough not to wrap round.
func capped(a, b, k int64) int64 { return min(a+b, k) }

// allIn asks for the top by itself, as an empty list has no cost to ask it of.
func allIn(l []int64, k int64) bool {
	return Right(k) && !slices.ContainsFunc(l, func(a int64) bool { return !In(a, k) })
}
