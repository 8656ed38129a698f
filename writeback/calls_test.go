package writeback_test

import (
	"slices"
	"testing"

	"mesne/api"
	"mesne/writeback"
)

// past is what was done to a line since it was put.
type past struct {
	line          int
	words         api.Words
	shares, gives int
}

// record is a buffer by another way: what was done to each line, by when it was put.
type record struct {
	room, puts int
	pasts      map[int]past
}

func newRecord(room int) *record { return &record{room: room, pasts: map[int]past{}} }

// when tells when a line was put; below 0, if it isn't there.
func (r *record) when(line int) int {
	for at, p := range r.pasts {
		if p.line == line {
			return at
		}
	}
	return -1
}

func (r *record) put(line int, words api.Words) api.Errno {
	if r.when(line) >= 0 {
		return api.ErrTwice
	}
	if len(r.pasts) >= r.room {
		return api.ErrFull
	}
	r.pasts[r.puts] = past{line: line, words: words}
	r.puts++
	return api.OK
}

// asked tells a line's words, and counts that they were asked for.
func (r *record) asked(line, shares, gives int) (api.Words, api.Errno) {
	at := r.when(line)
	if at < 0 {
		return api.Words{}, api.ErrName
	}
	p := r.pasts[at]
	if p.gives > 0 {
		return api.Words{}, api.ErrTable
	}
	p.shares += shares
	p.gives += gives
	r.pasts[at] = p
	return p.words, api.OK
}

func (r *record) drop(line int) api.Errno {
	at := r.when(line)
	if at < 0 {
		return api.ErrName
	}
	delete(r.pasts, at)
	return api.OK
}

func (r *record) entries() []writeback.Entry {
	var l []writeback.Entry
	for at := range r.puts {
		if p, ok := r.pasts[at]; ok {
			l = append(l, writeback.Entry{Line: p.line, Words: p.words, Live: p.gives == 0})
		}
	}
	return l
}

// wantRecord tells that a buffer is as a record.
func wantRecord(t *testing.T, b *writeback.Buffer, r *record) {
	t.Helper()
	wantEntries(t, b, r.entries()...)
	wantLeft(t, b, r.room-len(r.pasts))
}

// The kinds of calls.
const (
	put = iota
	share
	give
	drop
)

// call is one that may change a buffer.
type call struct {
	kind, line int
	words      api.Words
}

// wantDone makes a call of a buffer, which answers as its record does.
func wantDone(t *testing.T, b *writeback.Buffer, r *record, k call) {
	t.Helper()
	switch k.kind {
	case put:
		wantPut(t, b, k.line, k.words, r.put(k.line, k.words))
	case share:
		w, e := r.asked(k.line, 1, 0)
		wantShare(t, b, k.line, w, e)
	case give:
		w, e := r.asked(k.line, 0, 1)
		wantGive(t, b, k.line, w, e)
	case drop:
		wantDrop(t, b, k.line, r.drop(k.line))
	}
}

// fewCalls are all that matter of so many lines.
func fewCalls(lines int) []call {
	var l []call
	for line := range lines {
		l = append(l,
			call{kind: put, line: line, words: words(line)}, call{kind: put, line: line, words: words(line + 20)},
			call{kind: share, line: line}, call{kind: give, line: line}, call{kind: drop, line: line})
	}
	return l
}

// runs goes through all runs of so many calls, the first ones going ahead of the others.
func runs(ahead []call, calls []call, count int, do func(run []call)) {
	do(ahead)
	if count == 0 {
		return
	}
	for _, k := range calls {
		runs(append(slices.Clone(ahead), k), calls, count-1, do)
	}
}

// P11.1, P11.2, P11.3: all short runs of calls of small buffers, as by the other way.
func TestAllShortRuns(t *testing.T) {
	for _, x := range []struct{ room, lines, count int }{{1, 1, 6}, {1, 2, 4}, {2, 2, 4}, {2, 3, 4}, {3, 3, 4}} {
		runs(nil, fewCalls(x.lines), x.count, func(run []call) {
			b, r := empty(t, x.room), newRecord(x.room)
			for _, k := range run {
				wantDone(t, b, r, k)
			}
			wantRecord(t, b, r)
		})
	}
}

// picker hands out numbers below others, the same ones each time.
func picker(seed uint64) func(below int) int {
	return func(below int) int {
		seed = seed*6364136223846793005 + 1442695040888963407
		return int((seed >> 33) % uint64(below))
	}
}

// picked is a call, of one of so many lines, that may be wrong.
func picked(lines int, pick func(below int) int) call {
	return call{kind: pick(4), line: pick(lines) - 1, words: words(pick(100))}
}

// P11.1, P11.2, P11.3: long runs of calls of buffers of each room, wrong ones among them, as by the other way.
func TestLongRuns(t *testing.T) {
	for room := 1; room <= mostRoom; room++ {
		for _, lines := range []int{2, room + 1, 2*room + 3} {
			pick := picker(uint64(100*room + lines))
			b, r := empty(t, room), newRecord(room)
			most := 0
			for range 2000 {
				wantDone(t, b, r, picked(lines, pick))
				wantRecord(t, b, r)
				most = max(most, len(r.pasts))
			}
			if most != min(room, lines) {
				t.Fatalf("%d of %d lines: %d entries", room, lines, most)
			}
		}
	}
}

// P11.3: words that were put are shared as often as one likes, given once, and then neither, whatever is done to other lines meanwhile.
func TestGivenOnce(t *testing.T) {
	for seed := range uint64(20) {
		pick := picker(seed)
		b, r := holding(t, 4, 50), newRecord(3)
		at := pick(100)
		for step := range 100 {
			wantDone(t, b, r, picked(4, pick))
			switch {
			case step < at:
				wantShare(t, b, 50, words(50), api.OK)
			case step == at:
				wantGive(t, b, 50, words(50), api.OK)
			default:
				wantNeither(t, b, 50, api.ErrTable)
			}
			mine := writeback.Entry{Line: 50, Words: words(50), Live: step < at}
			wantEntries(t, b, append([]writeback.Entry{mine}, r.entries()...)...)
		}
	}
}

// P11.1, R3: what List hands out shares nothing with the buffer, nor with what it hands out again.
func TestListSharesNothing(t *testing.T) {
	b := mixed(t)
	first, second, want := b.List(), b.List(), b.List()
	first = first[:cap(first)]
	for i := range first {
		first[i] = writeback.Entry{Line: -7, Words: words(60), Live: true}
	}
	if !slices.Equal(second, want) {
		t.Fatalf("%+v", second)
	}
	wantEntries(t, b, want...)
	wantGive(t, b, 4, words(4), api.OK)
	wantDrop(t, b, 2, api.OK)
	wantPut(t, b, 9, words(9), api.OK)
	if !slices.Equal(second, want) {
		t.Fatalf("%+v", second)
	}
}

// P11.1, R3: what is appended to a list that was handed out is in no buffer.
func TestAppendedToList(t *testing.T) {
	b := holding(t, 4, 1, 2)
	_ = append(b.List(), live(3))
	_ = append(b.List()[:1], live(4))
	wantPut(t, b, 5, words(5), api.OK)
	wantEntries(t, b, live(1), live(2), live(5))
}

// P11.1, P11.2, R3: what Get, Share and Give hand out shares nothing with the buffer.
func TestEntriesShareNothing(t *testing.T) {
	b := holding(t, 2, 5)
	got, _ := b.Get(5)
	got.Line, got.Words[0], got.Live = 6, 77, false
	wantEntries(t, b, live(5))
	kept, _ := b.Get(5)
	shared, _ := b.Share(5)
	shared[1] = 78
	gave, _ := b.Give(5)
	if gave != words(5) || kept != live(5) {
		t.Fatalf("%v, %+v", gave, kept)
	}
	gave[7] = 79
	wantEntries(t, b, given(5))
	wantDrop(t, b, 5, api.OK)
	if kept != live(5) {
		t.Fatalf("%+v", kept)
	}
}

// P11.1, R3: words that were handed in may be changed behind that.
func TestWordsShareNothing(t *testing.T) {
	b := empty(t, 1)
	w := words(3)
	wantPut(t, b, 3, w, api.OK)
	w[0], w[7] = 0, 0
	wantEntries(t, b, live(3))
	wantShare(t, b, 3, words(3), api.OK)
}

// P11.1, R5: two buffers of one room share nothing.
func TestTwoBuffersShareNothing(t *testing.T) {
	for room := 1; room <= mostRoom; room++ {
		pick := picker(3)
		b, c := empty(t, room), empty(t, room)
		r, s := newRecord(room), newRecord(room)
		for range 300 {
			wantDone(t, b, r, picked(room+1, pick))
			wantDone(t, c, s, picked(room+1, pick))
		}
		wantRecord(t, b, r)
		wantRecord(t, c, s)
		wantRecord(t, empty(t, room), newRecord(room))
	}
}

// R4: the same calls answer the same.
func TestSameCallsAnswerTheSame(t *testing.T) {
	var first []writeback.Entry
	for round := range 3 {
		pick := picker(11)
		b, r := empty(t, 6), newRecord(6)
		for range 500 {
			wantDone(t, b, r, picked(9, pick))
		}
		if round == 0 {
			first = b.List()
		}
		wantEntries(t, b, first...)
	}
}
