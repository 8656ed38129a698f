package array_test

import (
	"math"
	"slices"
	"testing"

	"mesne/api"
	"mesne/array"
	"mesne/shape"
)

// sizes are a machine's sizes, each with a way to set it.
func sizes() []func(c *api.Config, n int) {
	return []func(c *api.Config, n int){
		func(c *api.Config, n int) { c.Cores = n },
		func(c *api.Config, n int) { c.Homes = n },
		func(c *api.Config, n int) { c.Sets = n },
		func(c *api.Config, n int) { c.Ways = n },
		func(c *api.Config, n int) { c.Words = n },
		func(c *api.Config, n int) { c.Lines = n },
		func(c *api.Config, n int) { c.Pointers = n },
		func(c *api.Config, n int) { c.Mshrs = n },
		func(c *api.Config, n int) { c.Buffer = n },
		func(c *api.Config, n int) { c.Writebacks = n },
		func(c *api.Config, n int) { c.Room[0] = n },
		func(c *api.Config, n int) { c.Room[1] = n },
		func(c *api.Config, n int) { c.Room[2] = n },
	}
}

// P9.1: of a machine that may not be there is no array, whichever of its sizes is wrong, above or below.
func TestNewOfWrongSizes(t *testing.T) {
	wrong := []api.Config{{}, {Sets: 4, Ways: 2}}
	for _, base := range []api.Config{least(), example(), most()} {
		for i, set := range sizes() {
			before := len(wrong)
			for _, n := range []int{math.MinInt, -2, -1, 0, 3, 9, 17, 65, 128, 2048, 1 << 32, 1 << 62, math.MaxInt} {
				c := base
				set(&c, n)
				if shape.Check(c) != api.OK {
					wrong = append(wrong, c)
				}
			}
			if len(wrong)-before < 6 {
				t.Fatalf("size %d: %d wrong ones", i, len(wrong)-before)
			}
		}
	}
	for _, c := range wrong {
		if a, e := array.New(c); a != nil || e != api.ErrArg {
			t.Fatalf("%+v: %v, %d", c, a, e)
		}
	}
}

// arrays does something with arrays of several machines, empty, full, and with ways that kept a number; they are as they were behind it.
func arrays(t *testing.T, do func(a *array.Array, c api.Config)) {
	t.Helper()
	for _, c := range machines() {
		blank := empty(t, c)
		whole, lines := full(t, c)
		left, _ := full(t, c)
		for _, line := range lines {
			if line%3 != 1 {
				drop(t, left, line)
			}
		}
		for _, a := range []*array.Array{blank, whole, left} {
			before := content(t, a, c)
			do(a, c)
			wantSame(t, a, c, before)
		}
	}
}

// P9.1: a line that there is not is never found, has no way that is free, and isn't told.
func TestNoSuchLine(t *testing.T) {
	arrays(t, func(a *array.Array, c api.Config) {
		for _, line := range outside(c.Lines) {
			wantGone(t, a, line)
			wantFree(t, a, line, -1)
			if slices.Contains(a.Lines(), line) {
				t.Fatalf("%+v: line %d", c, line)
			}
		}
	})
}

// P9.1: there is no way outside the sets, nor outside their ways.
func TestNoSuchWay(t *testing.T) {
	arrays(t, func(a *array.Array, c api.Config) {
		for _, set := range outside(c.Sets) {
			for _, way := range slices.Concat(numbers(c.Ways), outside(c.Ways), []int{set}) {
				wantNoWay(t, a, set, way)
			}
		}
		for set := range c.Sets {
			for _, way := range outside(c.Ways) {
				wantNoWay(t, a, set, way)
			}
		}
	})
}

// P9.2: neither a line that there is not is laid, nor one in a way that there is not; that is told ahead of all else.
func TestLayOfNothing(t *testing.T) {
	arrays(t, func(a *array.Array, c api.Config) {
		for _, line := range outside(c.Lines) {
			for _, way := range slices.Concat(numbers(c.Ways), outside(c.Ways)) {
				wantLay(t, a, line, way, api.ErrArg)
			}
		}
		for line := range min(c.Lines, 2*c.Sets) {
			for _, way := range outside(c.Ways) {
				wantLay(t, a, line, way, api.ErrArg)
			}
		}
	})
}

// P9.2: a line that is there is laid nowhere, neither in a free way, in its own, nor in another's; that is told ahead of the way's being taken.
func TestLayTwice(t *testing.T) {
	c := example()
	for _, p := range []put{{way: 1, line: 2, locked: true}, {way: 1, line: 2, state: api.Shared}, {way: 1, line: 2, state: api.Modified, words: words(4, 1), locked: true}} {
		a := filled(t, c, p, put{way: 0, line: 6, state: api.Owned})
		before := content(t, a, c)
		for way := range c.Ways {
			wantLay(t, a, 2, way, api.ErrTwice)
		}
		wantLay(t, a, 2, 3, api.ErrArg)
		wantLay(t, a, 2, -1, api.ErrArg)
		wantSame(t, a, c, before)
	}
	a, lines := full(t, c)
	before := content(t, a, c)
	for _, line := range lines {
		for way := range c.Ways {
			wantLay(t, a, line, way, api.ErrTwice)
		}
	}
	wantSame(t, a, c, before)
}

// P9.2: no line is laid in a way that has another one, through its lock, its state, or both.
func TestLayInTaken(t *testing.T) {
	c := example()
	for _, state := range states() {
		for _, locked := range []bool{false, true} {
			a := filled(t, c, put{way: 2, line: 3, state: state, locked: locked})
			before := content(t, a, c)
			if state == api.Invalid && !locked {
				wantLay(t, a, 7, 2, api.OK)
				continue
			}
			wantLay(t, a, 7, 2, api.ErrFull)
			wantLay(t, a, 31, 2, api.ErrFull)
			wantSame(t, a, c, before)
			wantLay(t, a, 6, 2, api.OK)
			wantLay(t, a, 7, 1, api.OK)
		}
	}
}

// P9.2: of a line that isn't there nothing is set, nor locked, whether it never was, is no more, or there is none such; that is told ahead of a wrong state and of wrong words.
func TestSetOfNothing(t *testing.T) {
	bad := api.Words{7: 1}
	arrays(t, func(a *array.Array, c api.Config) {
		for _, line := range append(outside(c.Lines), numbers(c.Lines)...) {
			if _, _, ok := a.Find(line); ok {
				continue
			}
			for _, state := range []int{0, 1, 4, 5, -1} {
				wantSet(t, a, line, state, api.Words{}, api.ErrName)
				wantSet(t, a, line, state, bad, api.ErrName)
			}
			wantLock(t, a, line, true, api.ErrName)
			wantLock(t, a, line, false, api.ErrName)
		}
	})
}

// P9.2: to a state that there is not no line is set, below the first and behind the last.
func TestSetToNoState(t *testing.T) {
	if slices.Max(states()) != api.Modified || slices.Min(states()) != api.Invalid {
		t.Fatal(states())
	}
	arrays(t, func(a *array.Array, c api.Config) {
		for _, line := range a.Lines() {
			for _, state := range outside(len(states())) {
				wantSet(t, a, line, state, api.Words{}, api.ErrArg)
				wantSet(t, a, line, state, words(c.Words, 1), api.ErrArg)
				wantSet(t, a, line, state, api.Words{7: 1}, api.ErrArg)
			}
		}
	})
}

// P9.2: no line has words behind its own that aren't 0, in any state, also where it becomes Invalid.
func TestSetToTooManyWords(t *testing.T) {
	arrays(t, func(a *array.Array, c api.Config) {
		for _, line := range a.Lines()[:min(len(a.Lines()), 9)] {
			for place := c.Words; place < api.MostWords; place++ {
				for _, number := range []int{1, -1, math.MinInt, math.MaxInt} {
					long, lone := words(c.Words, 2), api.Words{}
					long[place], lone[place] = number, number
					for _, state := range states() {
						wantSet(t, a, line, state, long, api.ErrArg)
						wantSet(t, a, line, state, lone, api.ErrArg)
					}
				}
			}
		}
	})
}
