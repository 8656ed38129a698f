package array_test

import (
	"slices"
	"testing"

	"mesne/api"
	"mesne/array"
)

// entry is what a line has that is there.
type entry struct {
	way, state int
	words      api.Words
	locked     bool
}

// record is an array by another way: the lines that are there, and what was laid last in each way.
type record struct {
	sizes api.Config
	there map[int]entry
	last  map[[2]int]int
}

func recordOf(c api.Config) *record {
	return &record{sizes: c, there: map[int]entry{}, last: map[[2]int]int{}}
}

func (r *record) has(line int) bool { return 0 <= line && line < r.sizes.Lines }

// taker tells the line that is there in a way.
func (r *record) taker(set, way int) (int, bool) {
	line, laid := r.last[[2]int{set, way}]
	e, there := r.there[line]
	return line, laid && there && e.way == way
}

func (r *record) at(set, way int) array.Way {
	line, taken := r.taker(set, way)
	if !taken {
		return array.Way{Line: line}
	}
	e := r.there[line]
	return array.Way{State: e.state, Line: line, Words: e.words, Locked: e.locked}
}

func (r *record) free(line int) int {
	for way := range r.sizes.Ways {
		if _, taken := r.taker(line%r.sizes.Sets, way); !taken {
			return way
		}
	}
	return -1
}

func (r *record) lay(line, way int) api.Errno {
	if !r.has(line) || way < 0 || way >= r.sizes.Ways {
		return api.ErrArg
	}
	if _, there := r.there[line]; there {
		return api.ErrTwice
	}
	set := line % r.sizes.Sets
	if _, taken := r.taker(set, way); taken {
		return api.ErrFull
	}
	r.last[[2]int{set, way}] = line
	r.there[line] = entry{way: way, locked: true}
	return api.OK
}

func (r *record) set(line, state int, words api.Words) api.Errno {
	e, there := r.there[line]
	if !there {
		return api.ErrName
	}
	for place, word := range words {
		if place >= r.sizes.Words && word != 0 {
			return api.ErrArg
		}
	}
	if !slices.Contains(states(), state) {
		return api.ErrArg
	}
	e.state, e.words = state, words
	r.keep(line, e)
	return api.OK
}

func (r *record) lock(line int, locked bool) api.Errno {
	e, there := r.there[line]
	if !there {
		return api.ErrName
	}
	e.locked = locked
	r.keep(line, e)
	return api.OK
}

func (r *record) keep(line int, e entry) {
	if e.state == 0 {
		e.words = api.Words{}
	}
	if e.state == 0 && !e.locked {
		delete(r.there, line)
		return
	}
	r.there[line] = e
}

func (r *record) lines() []int {
	var l []int
	for line := range r.sizes.Lines {
		if _, there := r.there[line]; there {
			l = append(l, line)
		}
	}
	return l
}

// wantRecord tells that an array is as a record, whichever way it is asked.
func wantRecord(t *testing.T, a *array.Array, r *record) {
	t.Helper()
	wantLines(t, a, r.lines()...)
	for set := range r.sizes.Sets {
		for way := range r.sizes.Ways {
			wantAt(t, a, set, way, r.at(set, way))
		}
	}
	for line := range r.sizes.Lines {
		wantFree(t, a, line, r.free(line))
		if e, there := r.there[line]; there {
			wantFind(t, a, line, array.Way{State: e.state, Line: line, Words: e.words, Locked: e.locked}, e.way)
		} else {
			wantGone(t, a, line)
		}
	}
}

// call is one that changes an array.
type call struct {
	kind, line, n int
	words         api.Words
}

// done tells what a call answers, of an array and of its record.
func (k call) done(a *array.Array, r *record) (got, want api.Errno) {
	switch k.kind {
	case 0:
		return a.Lay(k.line, k.n), r.lay(k.line, k.n)
	case 1:
		return a.Set(k.line, k.n, k.words), r.set(k.line, k.n, k.words)
	}
	return a.Lock(k.line, k.n == 1), r.lock(k.line, k.n == 1)
}

func wantDone(t *testing.T, a *array.Array, r *record, k call) {
	t.Helper()
	if got, want := k.done(a, r); got != want {
		t.Fatalf("%+v: %d, not %d", k, got, want)
	}
}

// fewCalls are all that matter of a small machine of one word.
func fewCalls(c api.Config) []call {
	var l []call
	for line := range c.Lines {
		for way := range c.Ways {
			l = append(l, call{kind: 0, line: line, n: way})
		}
		l = append(l,
			call{kind: 1, line: line, n: 0, words: api.Words{5}}, call{kind: 1, line: line, n: 4, words: api.Words{6}},
			call{kind: 2, line: line, n: 0}, call{kind: 2, line: line, n: 1})
	}
	return l
}

// runs goes through all runs of so many calls, the first one going ahead of the others.
func runs(ahead []call, calls []call, count int, do func(run []call)) {
	do(ahead)
	if count == 0 {
		return
	}
	for _, k := range calls {
		runs(append(slices.Clone(ahead), k), calls, count-1, do)
	}
}

// P9.1, P9.2, P9.3: all short runs of calls of small machines, as by the other way.
func TestAllShortRuns(t *testing.T) {
	for _, x := range []struct {
		c     api.Config
		count int
	}{{sized(1, 1, 1, 2), 5}, {sized(1, 2, 1, 2), 4}, {sized(2, 1, 1, 4), 4}} {
		runs(nil, fewCalls(x.c), x.count, func(run []call) {
			a, r := empty(t, x.c), recordOf(x.c)
			for _, k := range run {
				wantDone(t, a, r, k)
			}
			wantRecord(t, a, r)
		})
	}
}

// picker hands out numbers below others, the same ones each time.
func picker(seed uint64) func(below int) int {
	return func(below int) int {
		seed = seed*6364136223846793005 + 1442695040888963407
		return int((seed >> 33) % uint64(below))
	}
}

// picked is a call, of a line that there is or of one beside these, that may be wrong.
func picked(c api.Config, pick func(below int) int) call {
	k := call{kind: pick(3), line: pick(c.Lines+2) - 1}
	switch k.kind {
	case 0:
		k.n = pick(c.Ways+2) - 1
	case 1:
		k.n = pick(7) - 1
		k.words = words(c.Words, pick(100))
		if pick(6) == 0 {
			k.words[pick(api.MostWords)] = -1
		}
	case 2:
		k.n = pick(2)
	}
	return k
}

// P9.1, P9.2, P9.3: long runs of calls of all machines, wrong ones among them, as by the other way.
func TestLongRuns(t *testing.T) {
	for i, c := range machines() {
		pick := picker(uint64(i))
		a, r := empty(t, c), recordOf(c)
		for step := range 3000 {
			wantDone(t, a, r, picked(c, pick))
			if step%100 == 99 || step < 20 {
				wantRecord(t, a, r)
			}
		}
	}
}

// P9.1, R3: what Lines hands out shares nothing with the array, nor with what it hands out again.
func TestLinesShareNothing(t *testing.T) {
	for _, c := range machines() {
		a, lines := full(t, c)
		before := content(t, a, c)
		first, second := a.Lines(), a.Lines()
		first = first[:cap(first)]
		for i := range first {
			first[i] = -5
		}
		if !slices.Equal(second, lines) {
			t.Fatal(second)
		}
		wantSame(t, a, c, before)
		wantLines(t, a, lines...)
		drop(t, a, 0)
		if !slices.Equal(second, lines) {
			t.Fatal(second)
		}
	}
}

// P9.1, R3: what Find and At hand out shares nothing with the array.
func TestWaysShareNothing(t *testing.T) {
	c := example()
	want := array.Way{State: api.Owned, Line: 13, Words: words(4, 2)}
	a := filled(t, c, put{way: 1, line: 13, state: api.Owned, words: want.Words})
	found, _, _ := a.Find(13)
	at, _ := a.At(1, 1)
	found.State, found.Line, found.Words[0], found.Locked = 1, 9, 77, true
	at.State, at.Line, at.Words[3], at.Locked = 2, 5, 78, true
	wantFind(t, a, 13, want, 1)
	wantAt(t, a, 1, 1, want)
	found, _, _ = a.Find(13)
	at, _ = a.At(1, 1)
	wantSet(t, a, 13, api.Modified, words(4, 6), api.OK)
	wantLock(t, a, 13, true, api.OK)
	if found != want || at != want {
		t.Fatalf("%+v, %+v", found, at)
	}
}

// P9.1, R5: two arrays of one machine share nothing.
func TestTwoArraysShareNothing(t *testing.T) {
	for _, c := range machines() {
		pick := picker(3)
		a, b := empty(t, c), empty(t, c)
		r, s := recordOf(c), recordOf(c)
		for range 200 {
			wantDone(t, a, r, picked(c, pick))
			wantDone(t, b, s, picked(c, pick))
		}
		wantRecord(t, a, r)
		wantRecord(t, b, s)
		wantRecord(t, empty(t, c), recordOf(c))
	}
}

// R4: the same calls answer the same.
func TestSameCallsAnswerTheSame(t *testing.T) {
	c := example()
	var first []array.Way
	for round := range 3 {
		pick := picker(11)
		a, r := empty(t, c), recordOf(c)
		for range 500 {
			wantDone(t, a, r, picked(c, pick))
		}
		if round == 0 {
			first = content(t, a, c)
		}
		wantSame(t, a, c, first)
	}
}
