package sharer_test

import (
	"math"
	"slices"
	"testing"

	"mesne/api"
	"mesne/sharer"
)

// wrong are sets that may not be, one for each way in which they may not, and some for several.
func wrong() []sharer.Set {
	return slices.Concat(wrongSizes(), wrongPointers(), wrongAll())
}

func wrongSizes() []sharer.Set {
	l := []sharer.Set{{}, {All: true}}
	for _, cores := range []int{0, 65, -1, 66, 128, 1 << 32, math.MinInt, math.MaxInt} {
		l = append(l, of(cores, 0), of(cores, 3), of(cores, 3, 0), of(cores, 8, 0, 1), all(cores, 3))
	}
	for _, most := range []int{-1, 9, -2, 10, 64, 1 << 32, math.MinInt, math.MaxInt} {
		l = append(l, of(1, most), of(16, most), of(16, most, 0), of(64, most, 0, 1, 2), all(16, most))
	}
	return append(l, of(16, 9, numbers(9)...), of(64, 16, numbers(12)...), of(0, 9, 0), of(65, -1))
}

func wrongPointers() []sharer.Set {
	return []sharer.Set{
		// Too many.
		of(4, 0, 0), of(1, 0, 0), of(4, 1, 0, 1), of(4, 2, 0, 1, 2), of(16, 8, numbers(9)...), of(64, 8, numbers(64)...), of(64, 7, numbers(8)...),
		// Falling.
		of(4, 2, 1, 0), of(4, 3, 0, 2, 1), of(4, 3, 1, 0, 2), of(64, 8, 0, 1, 2, 3, 4, 5, 63, 62), of(64, 8, 63, 1), of(4, 4, 3, 2, 1, 0),
		// Twice.
		of(4, 2, 0, 0), of(4, 2, 3, 3), of(4, 3, 0, 1, 1), of(4, 3, 1, 1, 2), of(4, 3, 1, 2, 1), of(64, 8, 0, 1, 2, 3, 4, 5, 63, 63),
		// Below the first core.
		of(4, 2, -1), of(4, 2, -1, 0), of(4, 2, 0, -1), of(64, 8, math.MinInt), of(64, 8, math.MinInt, 0, 1), of(4, 3, -2, -1),
		// Beyond the last one.
		of(4, 2, 4), of(4, 2, 0, 4), of(4, 2, 5), of(1, 1, 1), of(64, 8, 64), of(64, 8, 0, 1, 64), of(63, 8, 63), of(64, 8, math.MaxInt), of(64, 8, 1<<32), of(4, 3, 4, 5), of(4, 3, 5, 4),
	}
}

// wrongAll are sets that have all, and pointers beside these that might be without.
func wrongAll() []sharer.Set {
	var l []sharer.Set
	for _, s := range []sharer.Set{of(1, 1, 0), of(4, 2, 0), of(4, 2, 3), of(4, 2, 1, 3), of(4, 4, 0, 1, 2, 3), of(64, 8, 63), of(64, 8, numbers(8)...), of(4, 0, 0), of(4, 2, 4), of(4, 2, -1)} {
		s.All = true
		l = append(l, s)
	}
	return l
}

// P8.1: a set that may not be, in each way.
func TestMayNot(t *testing.T) {
	for _, s := range wrong() {
		ahead := copyOf(s)
		wantMay(t, s, false)
		wantSet(t, s, ahead)
	}
}

// P8.1: sets that may be at their edges: as many pointers as there may be, the first core and the last one, neighbours, and a list that is empty beside All.
func TestMay(t *testing.T) {
	for _, s := range []sharer.Set{
		of(1, 0), of(1, 1), of(1, 1, 0), of(1, 8, 0), of(2, 1, 1), of(2, 2, 0, 1), of(4, 2, 0, 3), of(4, 2, 2, 3), of(4, 3, 1, 2), of(64, 1, 63), of(64, 1, 0),
		of(64, 8, numbers(8)...), of(64, 8, 56, 57, 58, 59, 60, 61, 62, 63), of(8, 8, numbers(8)...), of(64, 8, 0, 63), all(1, 0), all(1, 8), all(64, 0), all(64, 8),
		{Cores: 4, Most: 2, Pointers: []int{}}, {Cores: 4, Most: 2, Pointers: []int{}, All: true}, {Cores: 4, Pointers: []int{}},
	} {
		wantMay(t, s, true)
	}
}

// mayBe is what the chapter says of a set that may be, over the marks that its pointers leave.
func mayBe(s sharer.Set) bool {
	var marks [api.MostCores]int
	for place, pointer := range s.Pointers {
		if pointer < 0 || pointer > s.Cores-1 || pointer > api.MostCores-1 {
			return false
		}
		marks[pointer] += 1 + place
	}
	next := 0
	for _, mark := range marks {
		if mark == 0 {
			continue
		}
		if mark != next+1 {
			return false
		}
		next++
	}
	return next == len(s.Pointers) && next <= s.Most && (!s.All || next == 0) && 1 <= s.Cores && s.Cores <= 64 && 0 <= s.Most && s.Most <= 8
}

// lists are all lists of so many numbers at most, from one up to another.
func lists(most, from, to int) [][]int {
	all := [][]int{nil}
	last := all
	for range most {
		var longer [][]int
		for _, l := range last {
			for n := from; n <= to; n++ {
				longer = append(longer, append(slices.Clone(l), n))
			}
		}
		all, last = append(all, longer...), longer
	}
	return all
}

// P8.1: of all small sets, and some that may not be, May and Add are as the chapter says, by another way.
func TestAllSmallSets(t *testing.T) {
	seen := 0
	for cores := -1; cores <= 4; cores++ {
		for most := -1; most <= 4; most++ {
			for _, pointers := range lists(4, -1, cores) {
				for _, spilt := range []bool{false, true} {
					s := sharer.Set{Cores: cores, Most: most, Pointers: pointers, All: spilt}
					wantMay(t, s, mayBe(s))
					if !mayBe(s) {
						wantAdd(t, s, 0, sharer.Set{}, api.ErrArg)
						continue
					}
					seen++
					for core := range cores {
						want, err := addedBy(s, core)
						wantAdd(t, s, core, want, err)
					}
				}
			}
		}
	}
	// For each number of cores and of pointers: as many as choices of no more of the cores than these, and one with All.
	if seen != (2+4*3)+(2+4+3*5)+(2+5+8+2*9)+(2+6+12+16+17) {
		t.Fatal(seen)
	}
}

// addedBy is what an Add of a core that there is tells, by sorting.
func addedBy(s sharer.Set, core int) (sharer.Set, api.Errno) {
	if s.All {
		return s, api.OK
	}
	l := append(slices.Clone(s.Pointers), core)
	slices.Sort(l)
	l = slices.Compact(l)
	if len(l) > s.Most {
		return all(s.Cores, s.Most), api.OK
	}
	return of(s.Cores, s.Most, l...), api.OK
}

// P8.1: to a set that may not be nothing is added; that is told ahead of there being no such core.
func TestAddToWrongSets(t *testing.T) {
	for _, s := range wrong() {
		for _, core := range slices.Concat(numbers(10), []int{62, 63}, outside(s.Cores), outside(64)) {
			wantAdd(t, s, core, sharer.Set{}, api.ErrArg)
		}
	}
}

// P8.1: a core that there is not is added to no set, whether it has room, is full, or has all.
func TestAddNoCore(t *testing.T) {
	for _, s := range []sharer.Set{of(1, 0), of(1, 1, 0), all(1, 0), of(4, 2), of(4, 2, 0), of(4, 2, 0, 3), all(4, 2), of(64, 8), of(64, 8, numbers(8)...), all(64, 8), of(63, 8, 62)} {
		for _, core := range outside(s.Cores) {
			wantAdd(t, s, core, sharer.Set{}, api.ErrName)
		}
	}
}

// R1: whatever set is asked or cleared, it ends, and the set stays as it was.
func TestWrongSetsEnd(t *testing.T) {
	for _, s := range wrong() {
		ahead := copyOf(s)
		sharer.Has(s, 0)
		sharer.Has(s, math.MaxInt)
		sharer.Targets(s)
		sharer.Targets(s, 0, -1)
		sharer.Clear(s)
		wantSet(t, s, ahead)
	}
}
