package array_test

import (
	"math"
	"slices"
	"testing"

	"mesne/api"
	"mesne/array"
)

// sized is a machine of so many sets, ways, words of a line, and lines.
func sized(sets, ways, words, lines int) api.Config {
	return api.Config{
		Cores: 3, Homes: 2, Sets: sets, Ways: ways, Words: words, Lines: lines,
		Pointers: 2, Mshrs: 2, Buffer: 5, Writebacks: 3, Room: [3]int{7, 9, 11},
	}
}

// example has lines enough for each set to be full, and for more.
func example() api.Config { return sized(4, 3, 4, 32) }

func least() api.Config {
	return api.Config{
		Cores: 1, Homes: 1, Sets: 1, Ways: 1, Words: 1, Lines: 1,
		Pointers: 0, Mshrs: 1, Buffer: 1, Writebacks: 1, Room: [3]int{1, 1, 1},
	}
}

func most() api.Config {
	return api.Config{
		Cores: 64, Homes: 16, Sets: 64, Ways: 8, Words: 8, Lines: 1024,
		Pointers: 8, Mshrs: 8, Buffer: 16, Writebacks: 8, Room: [3]int{64, 64, 64},
	}
}

// machines are of one set and of many, one way and many, more lines than ways and fewer; in some there are sets of which no line is.
func machines() []api.Config {
	return []api.Config{
		least(), most(), example(),
		sized(1, 1, 1, 2), sized(1, 1, 8, 8), sized(1, 8, 2, 4), sized(1, 8, 8, 1), sized(1, 8, 2, 16), sized(1, 2, 1, 1024),
		sized(2, 1, 4, 2), sized(2, 2, 1, 8), sized(4, 2, 2, 1), sized(4, 7, 8, 2), sized(8, 5, 1, 64), sized(16, 1, 2, 16),
		sized(64, 1, 4, 1), sized(64, 1, 1, 64), sized(64, 1, 8, 1024), sized(64, 8, 2, 32), sized(64, 8, 1, 128),
	}
}

// states are all, and what is beside them is none.
func states() []int { return []int{0, 1, 2, 3, 4} }

// readable are the states of a line that is there through its state.
func readable() []int { return []int{1, 2, 3, 4} }

// numbers are the first so many from 0 on.
func numbers(count int) []int {
	var l []int
	for n := range count {
		l = append(l, n)
	}
	return l
}

// outside are numbers that are none of the first so many from 0 on.
func outside(count int) []int {
	return []int{
		-1, count, -2, -3, count + 1, count + 2, 2*count + 1, -count, -count - 1, count + 64, count + 1024, -64, -1024,
		1 << 31, 1<<31 + 1, 1 << 32, 1<<32 + 1, 1 << 58, 1 << 61, 1<<61 + 1, 1 << 62, 1<<62 + 1, -1 << 31, -1 << 32, -1 << 61, -1 << 62,
		math.MinInt, math.MinInt + 1, math.MaxInt - 1, math.MaxInt,
	}
}

// words are a line's, so many, none of them 0, and others for another n.
func words(count, n int) api.Words {
	var w api.Words
	for i := range count {
		w[i] = 100*n + i + 1
	}
	if n%2 == 1 {
		w[0] = math.MinInt + n
	}
	return w
}

// empty is a new array.
func empty(t *testing.T, c api.Config) *array.Array {
	t.Helper()
	a, e := array.New(c)
	if a == nil || e != api.OK {
		t.Fatalf("%+v: %v, %d", c, a, e)
	}
	return a
}

// put is what a way of an array is made to have.
type put struct {
	way, line, state int
	words            api.Words
	locked           bool
}

// filled is a new array, into which these were put.
func filled(t *testing.T, c api.Config, these ...put) *array.Array {
	t.Helper()
	a := empty(t, c)
	for _, p := range these {
		lay(t, a, p)
	}
	return a
}

func lay(t *testing.T, a *array.Array, p put) {
	t.Helper()
	wantLay(t, a, p.line, p.way, api.OK)
	wantSet(t, a, p.line, p.state, p.words, api.OK)
	wantLock(t, a, p.line, p.locked, api.OK)
}

// drop lets a line that is there be there no more.
func drop(t *testing.T, a *array.Array, line int) {
	t.Helper()
	wantLock(t, a, line, true, api.OK)
	wantSet(t, a, line, api.Invalid, api.Words{}, api.OK)
	wantLock(t, a, line, false, api.OK)
}

// full is an array in which each way has a line, as long as there are lines, with states of all kinds; and those lines.
func full(t *testing.T, c api.Config) (*array.Array, []int) {
	t.Helper()
	a := empty(t, c)
	lines := numbers(min(c.Lines, c.Sets*c.Ways))
	for _, line := range lines {
		state := line % 5
		p := put{way: line / c.Sets, line: line, state: state, locked: state == 0 || line%3 == 0}
		if state != 0 {
			p.words = words(c.Words, line)
		}
		lay(t, a, p)
	}
	return a, lines
}

// content is all ways of an array, set behind set.
func content(t *testing.T, a *array.Array, c api.Config) []array.Way {
	t.Helper()
	var l []array.Way
	for set := range c.Sets {
		for way := range c.Ways {
			w, ok := a.At(set, way)
			if !ok {
				t.Fatalf("At %d %d: none", set, way)
			}
			l = append(l, w)
		}
	}
	return l
}

func wantSame(t *testing.T, a *array.Array, c api.Config, want []array.Way) {
	t.Helper()
	if l := content(t, a, c); !slices.Equal(l, want) {
		t.Fatalf("%+v, not %+v", l, want)
	}
}

func wantFind(t *testing.T, a *array.Array, line int, want array.Way, way int) {
	t.Helper()
	if w, number, ok := a.Find(line); w != want || number != way || !ok {
		t.Fatalf("Find %d: %+v, %d, %t, not %+v, %d", line, w, number, ok, want, way)
	}
}

func wantGone(t *testing.T, a *array.Array, line int) {
	t.Helper()
	if w, number, ok := a.Find(line); w != (array.Way{}) || number != 0 || ok {
		t.Fatalf("Find %d: %+v, %d, %t", line, w, number, ok)
	}
}

func wantAt(t *testing.T, a *array.Array, set, way int, want array.Way) {
	t.Helper()
	if w, ok := a.At(set, way); w != want || !ok {
		t.Fatalf("At %d %d: %+v, %t, not %+v", set, way, w, ok, want)
	}
}

func wantNoWay(t *testing.T, a *array.Array, set, way int) {
	t.Helper()
	if w, ok := a.At(set, way); w != (array.Way{}) || ok {
		t.Fatalf("At %d %d: %+v, %t", set, way, w, ok)
	}
}

func wantFree(t *testing.T, a *array.Array, line, want int) {
	t.Helper()
	if way := a.Free(line); way != want {
		t.Fatalf("Free %d: %d, not %d", line, way, want)
	}
}

func wantLines(t *testing.T, a *array.Array, want ...int) {
	t.Helper()
	if l := a.Lines(); !slices.Equal(l, want) {
		t.Fatalf("Lines: %v, not %v", l, want)
	}
}

func wantLay(t *testing.T, a *array.Array, line, way int, want api.Errno) {
	t.Helper()
	if e := a.Lay(line, way); e != want {
		t.Fatalf("Lay %d %d: %d, not %d", line, way, e, want)
	}
}

func wantSet(t *testing.T, a *array.Array, line, state int, words api.Words, want api.Errno) {
	t.Helper()
	if e := a.Set(line, state, words); e != want {
		t.Fatalf("Set %d %d %v: %d, not %d", line, state, words, e, want)
	}
}

func wantLock(t *testing.T, a *array.Array, line int, locked bool, want api.Errno) {
	t.Helper()
	if e := a.Lock(line, locked); e != want {
		t.Fatalf("Lock %d %t: %d, not %d", line, locked, e, want)
	}
}

// P9.1, P9.2: the chapter's example, call by call.
func TestExample(t *testing.T) {
	a := empty(t, example())
	w := api.Words{7, 0, -3, 2}
	wantLay(t, a, 5, 0, api.OK)
	wantFind(t, a, 5, array.Way{Line: 5, Locked: true}, 0)
	wantSet(t, a, 5, api.Shared, w, api.OK)
	wantFind(t, a, 5, array.Way{State: api.Shared, Line: 5, Words: w, Locked: true}, 0)
	wantLock(t, a, 5, false, api.OK)
	wantFind(t, a, 5, array.Way{State: api.Shared, Line: 5, Words: w}, 0)
	wantAt(t, a, 1, 0, array.Way{State: api.Shared, Line: 5, Words: w})
	wantLines(t, a, 5)
}

// P9.1: in a new array all ways are Invalid, of line 0, of words 0, not locked; no line is there, line 0 neither.
func TestNew(t *testing.T) {
	for _, c := range machines() {
		a := empty(t, c)
		wantLines(t, a)
		wantSame(t, a, c, make([]array.Way, c.Sets*c.Ways))
		for line := range c.Lines {
			wantGone(t, a, line)
			wantFree(t, a, line, 0)
		}
	}
}

// P9.2: a line that was laid is Invalid, of words 0, locked; so is one that comes behind another line in its way.
func TestLay(t *testing.T) {
	for _, c := range machines() {
		last := c.Ways - 1
		a := empty(t, c)
		for _, line := range []int{0, c.Lines - 1, c.Lines / 2} {
			wantLay(t, a, line, last, api.OK)
			wantFind(t, a, line, array.Way{Line: line, Locked: true}, last)
			wantSet(t, a, line, api.Modified, words(c.Words, 9), api.OK)
			wantSet(t, a, line, api.Invalid, api.Words{}, api.OK)
			wantLock(t, a, line, false, api.OK)
			wantGone(t, a, line)
		}
	}
}

// P9.1, P9.2: a line is laid in each way of its set, the first and the last among them, and touches no other.
func TestLayInEachWay(t *testing.T) {
	for _, c := range machines() {
		for way := range c.Ways {
			for _, line := range []int{0, 1, c.Sets - 1, c.Sets, c.Lines - 2, c.Lines - 1} {
				if line < 0 || line >= c.Lines {
					continue
				}
				a := empty(t, c)
				p := put{way: way, line: line, state: api.Owned, words: words(c.Words, 4), locked: true}
				lay(t, a, p)
				want := make([]array.Way, c.Sets*c.Ways)
				want[line%c.Sets*c.Ways+way] = array.Way{State: p.state, Line: line, Words: p.words, Locked: true}
				wantSame(t, a, c, want)
				wantLines(t, a, line)
			}
		}
	}
}

// P9.1: a line is there through its lock, through each state, and through both; through neither it isn't.
func TestThere(t *testing.T) {
	c := example()
	for _, line := range []int{0, 5, 31} {
		for _, state := range states() {
			for _, locked := range []bool{false, true} {
				p := put{way: 1, line: line, state: state, locked: locked}
				if state != api.Invalid {
					p.words = words(c.Words, state)
				}
				a := filled(t, c, p)
				want := array.Way{State: state, Line: line, Words: p.words, Locked: locked}
				wantAt(t, a, line%4, 1, want)
				if state == api.Invalid && !locked {
					wantGone(t, a, line)
					wantLines(t, a)
					continue
				}
				wantFind(t, a, line, want, 1)
				wantLines(t, a, line)
			}
		}
	}
}

// P9.2: a way whose line is there no more keeps its number, till another line is laid in it; then the line may be laid elsewhere.
func TestLineLeavesItsNumber(t *testing.T) {
	a := filled(t, example(), put{way: 0, line: 6, state: api.Shared, words: words(4, 1)}, put{way: 1, line: 10, state: api.Owned, words: words(4, 2)})
	wantSet(t, a, 6, api.Invalid, words(4, 3), api.OK)
	wantGone(t, a, 6)
	wantLines(t, a, 10)
	wantFree(t, a, 6, 0)
	wantAt(t, a, 2, 0, array.Way{Line: 6})
	wantLay(t, a, 6, 2, api.OK)
	wantAt(t, a, 2, 0, array.Way{Line: 6})
	wantFind(t, a, 6, array.Way{Line: 6, Locked: true}, 2)
	wantLines(t, a, 6, 10)
	wantFree(t, a, 6, 0)
	wantLay(t, a, 14, 0, api.OK)
	wantAt(t, a, 2, 0, array.Way{Line: 14, Locked: true})
	wantLock(t, a, 14, false, api.OK)
	wantAt(t, a, 2, 0, array.Way{Line: 14})
	wantGone(t, a, 14)
	wantLock(t, a, 6, false, api.OK)
	wantAt(t, a, 2, 2, array.Way{Line: 6})
	wantFind(t, a, 10, array.Way{State: api.Owned, Line: 10, Words: words(4, 2)}, 1)
	wantLines(t, a, 10)
}

// P9.2: what is asked of a line that two ways name is done to the one at which it is there, the way ahead or behind it.
func TestLineIsWhereItIsThere(t *testing.T) {
	for _, ways := range [][2]int{{0, 2}, {2, 0}} {
		a := empty(t, example())
		wantLay(t, a, 7, ways[0], api.OK)
		wantLock(t, a, 7, false, api.OK)
		wantLay(t, a, 7, ways[1], api.OK)
		wantSet(t, a, 7, api.Exclusive, words(4, 5), api.OK)
		wantLock(t, a, 7, false, api.OK)
		wantAt(t, a, 3, ways[0], array.Way{Line: 7})
		wantFind(t, a, 7, array.Way{State: api.Exclusive, Line: 7, Words: words(4, 5)}, ways[1])
		wantLines(t, a, 7)
	}
}

// P9.2: a line may be laid in its old way once more; nothing is left of what it had.
func TestLayAgain(t *testing.T) {
	a := filled(t, example(), put{way: 1, line: 9, state: api.Modified, words: words(4, 1)})
	wantSet(t, a, 9, api.Invalid, api.Words{}, api.OK)
	wantLay(t, a, 9, 1, api.OK)
	wantFind(t, a, 9, array.Way{Line: 9, Locked: true}, 1)
	wantLines(t, a, 9)
}

// P9.1: line 0 is found in the way in which it was laid, though all ways have its number.
func TestLineZero(t *testing.T) {
	for _, c := range machines() {
		for way := range c.Ways {
			a := empty(t, c)
			wantGone(t, a, 0)
			wantSet(t, a, 0, api.Shared, api.Words{}, api.ErrName)
			wantLock(t, a, 0, true, api.ErrName)
			wantLay(t, a, 0, way, api.OK)
			wantFind(t, a, 0, array.Way{Locked: true}, way)
			wantLines(t, a, 0)
			wantSet(t, a, 0, api.Shared, words(c.Words, 2), api.OK)
			wantAt(t, a, 0, way, array.Way{State: api.Shared, Words: words(c.Words, 2), Locked: true})
			wantLock(t, a, 0, false, api.OK)
			wantSet(t, a, 0, api.Invalid, api.Words{}, api.OK)
			wantSame(t, a, c, make([]array.Way, c.Sets*c.Ways))
		}
	}
}

// P9.1: the least free way is told: of all, of one in the middle, of none; a way that is Invalid but locked isn't free, nor one that isn't Invalid.
func TestFree(t *testing.T) {
	a := empty(t, sized(2, 4, 1, 32))
	wantFree(t, a, 3, 0)
	lay(t, a, put{way: 0, line: 1, state: api.Shared})
	wantFree(t, a, 3, 1)
	lay(t, a, put{way: 1, line: 5, locked: true})
	lay(t, a, put{way: 3, line: 7, state: api.Modified, locked: true})
	wantFree(t, a, 3, 2)
	wantFree(t, a, 31, 2)
	wantFree(t, a, 1, 2)
	wantFree(t, a, 0, 0)
	wantLay(t, a, 9, 2, api.OK)
	for _, line := range []int{1, 3, 5, 9, 31} {
		wantFree(t, a, line, -1)
	}
	wantFree(t, a, 30, 0)
	wantLock(t, a, 5, false, api.OK)
	wantFree(t, a, 3, 1)
	wantLock(t, a, 9, false, api.OK)
	wantFree(t, a, 3, 1)
	wantSet(t, a, 1, api.Invalid, api.Words{}, api.OK)
	wantFree(t, a, 3, 0)
	wantLock(t, a, 7, false, api.OK)
	wantLay(t, a, 11, 0, api.OK)
	wantLay(t, a, 13, 1, api.OK)
	wantFree(t, a, 3, 2)
}

// P9.1: the ways of one set are free or not, whatever those of the sets beside it are.
func TestFreeOfOneSet(t *testing.T) {
	c := example()
	for set := range c.Sets {
		a := empty(t, c)
		for way := range c.Ways {
			wantFree(t, a, 4*way+set, way)
			wantLay(t, a, 4*way+set, way, api.OK)
		}
		for line := range c.Lines {
			want := 0
			if line%4 == set {
				want = -1
			}
			wantFree(t, a, line, want)
		}
	}
}

// P9.2: a line has each state, and words in all numbers of its words, the greatest and the least among them.
func TestSet(t *testing.T) {
	for _, c := range machines() {
		line := c.Lines - 1
		a := filled(t, c, put{way: 0, line: line, locked: true})
		for n, state := range append(readable(), readable()...) {
			wantSet(t, a, line, state, words(c.Words, n), api.OK)
			wantFind(t, a, line, array.Way{State: state, Line: line, Words: words(c.Words, n), Locked: true}, 0)
		}
		for place := range c.Words {
			for _, number := range []int{math.MinInt, -1, 0, 1, math.MaxInt} {
				var w api.Words
				w[place] = number
				wantSet(t, a, line, api.Owned, w, api.OK)
				wantFind(t, a, line, array.Way{State: api.Owned, Line: line, Words: w, Locked: true}, 0)
			}
		}
		wantSet(t, a, line, api.Shared, api.Words{}, api.OK)
		wantFind(t, a, line, array.Way{State: api.Shared, Line: line, Locked: true}, 0)
	}
}

// P9.2: a line that becomes Invalid has words 0, whichever words are told, and whichever state it had.
func TestSetToInvalid(t *testing.T) {
	for _, c := range machines() {
		for _, state := range states() {
			a := filled(t, c, put{way: 0, line: 0, state: state, words: words(c.Words, 3), locked: true})
			wantSet(t, a, 0, api.Invalid, words(c.Words, 5), api.OK)
			wantFind(t, a, 0, array.Way{Locked: true}, 0)
			wantLock(t, a, 0, false, api.OK)
			wantAt(t, a, 0, 0, array.Way{})
			wantGone(t, a, 0)
		}
	}
}

// P9.2: a lock changes neither state nor words, and may be told twice.
func TestLock(t *testing.T) {
	c := example()
	for _, state := range readable() {
		a := filled(t, c, put{way: 2, line: 30, state: state, words: words(4, state)})
		for _, locked := range []bool{false, true, true, false, false, true} {
			wantLock(t, a, 30, locked, api.OK)
			wantFind(t, a, 30, array.Way{State: state, Line: 30, Words: words(4, state), Locked: locked}, 2)
		}
	}
	a := filled(t, c, put{way: 2, line: 30, locked: true})
	wantLock(t, a, 30, true, api.OK)
	wantFind(t, a, 30, array.Way{Line: 30, Locked: true}, 2)
	wantLock(t, a, 30, false, api.OK)
	wantGone(t, a, 30)
	wantLock(t, a, 30, false, api.ErrName)
	wantLock(t, a, 30, true, api.ErrName)
}

// P9.1: the lines of several sets, which were laid in falling order, in rising order, and in one of neither, are told rising.
func TestLines(t *testing.T) {
	c := example()
	for _, order := range [][]int{{31, 30, 21, 14, 9, 4, 2, 0}, {0, 2, 4, 9, 14, 21, 30, 31}, {9, 0, 31, 4, 30, 2, 21, 14}} {
		a := empty(t, c)
		for i, line := range order {
			wantLay(t, a, line, a.Free(line), api.OK)
			want := slices.Clone(order[:i+1])
			slices.Sort(want)
			wantLines(t, a, want...)
		}
		wantSet(t, a, 14, api.Modified, words(4, 1), api.OK)
		wantLock(t, a, 14, false, api.OK)
		wantLock(t, a, 21, false, api.OK)
		wantLock(t, a, 0, false, api.OK)
		wantLines(t, a, 2, 4, 9, 14, 30, 31)
	}
}

// P9.1, P9.3: a full array tells all its lines, each in its set.
func TestFull(t *testing.T) {
	for _, c := range machines() {
		a, lines := full(t, c)
		wantLines(t, a, lines...)
		for _, line := range lines {
			w, way, ok := a.Find(line)
			if !ok || way != line/c.Sets || w.Line != line || w.State != line%5 {
				t.Fatalf("%+v: Find %d: %+v, %d, %t", c, line, w, way, ok)
			}
			wantAt(t, a, line%c.Sets, way, w)
		}
		for line := len(lines); line < c.Lines; line++ {
			wantGone(t, a, line)
			wantFree(t, a, line, -1)
			for way := range c.Ways {
				wantLay(t, a, line, way, api.ErrFull)
			}
		}
		wantLines(t, a, lines...)
	}
}

// P9.3: where all lines that there are are laid wherever it can be done, as many are there as have room, each once, in its set.
func TestNoMoreLinesThanWays(t *testing.T) {
	for _, c := range machines() {
		a := empty(t, c)
		for line := range c.Lines {
			for way := range c.Ways {
				a.Lay(line, way)
				if way == line%c.Ways {
					a.Set(line, 1+line%4, words(c.Words, line))
				}
			}
		}
		lines := a.Lines()
		if len(lines) != min(c.Lines, c.Sets*c.Ways) {
			t.Fatalf("%+v: %v", c, lines)
		}
		places := make([]int, c.Lines)
		for i, w := range content(t, a, c) {
			if w.State != api.Invalid || w.Locked {
				places[w.Line]++
				if w.Line%c.Sets != i/c.Ways {
					t.Fatalf("%+v: line %d in set %d", c, w.Line, i/c.Ways)
				}
			}
		}
		for line, count := range places {
			if there := slices.Contains(lines, line); count > 1 || there != (count == 1) {
				t.Fatalf("%+v: line %d: %d times, %t", c, line, count, there)
			}
		}
	}
}
