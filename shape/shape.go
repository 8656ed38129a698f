// Package shape is layer 1: see shared/doc/01-shape.md.
package shape

import (
	"math/bits"

	"mesne/api"
)

// mostLeast is the greatest number of which Least tells a power.
const mostLeast = 1 << 30

// bound is one of a machine's sizes, and what it may be.
type bound struct {
	size, least, most int
	power             bool
}

// bounds lays each size beside what it may be, so that none is checked by a rule of its own.
func bounds(c api.Config) [13]bound {
	return [13]bound{
		{c.Cores, 1, api.MostCores, false},
		{c.Homes, 1, api.MostHomes, true},
		{c.Sets, 1, api.MostSets, true},
		{c.Ways, 1, api.MostWays, false},
		{c.Words, 1, api.MostWords, true},
		{c.Lines, 1, api.MostLines, true},
		{c.Pointers, 0, 8, false},
		{c.Mshrs, 1, 8, false},
		{c.Buffer, 1, 16, false},
		{c.Writebacks, 1, 8, false},
		{c.Room[0], 1, api.MostRoom, false},
		{c.Room[1], 1, api.MostRoom, false},
		{c.Room[2], 1, api.MostRoom, false},
	}
}

// holds tells whether a size is what it may be.
func (b bound) holds() bool {
	return b.least <= b.size && b.size <= b.most && (!b.power || isPower(b.size))
}

// isPower tells whether a number is a power of two.
func isPower(n int) bool { return n > 0 && n&(n-1) == 0 }

// Check tells whether a machine's sizes may be.
func Check(c api.Config) api.Errno {
	for _, b := range bounds(c) {
		if !b.holds() {
			return api.ErrArg
		}
	}
	return api.OK
}

// Power tells which power of two a number is.
func Power(n int) (int, bool) {
	if !isPower(n) {
		return 0, false
	}
	return bits.TrailingZeros(uint(n)), true
}

// Least tells the least power of two that is no less.
func Least(n int) int {
	switch {
	case n < 1:
		return 1
	case n > mostLeast:
		return 0
	}
	// Of n - 1, so that a power of two is its own answer.
	return 1 << bits.Len(uint(n-1))
}

// Size tells how many addresses there are.
func Size(c api.Config) int {
	if Check(c) != api.OK {
		return 0
	}
	return c.Words * c.Lines
}
