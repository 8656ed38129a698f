package mshr_test

import (
	"slices"
	"testing"

	"mesne/api"
	"mesne/mshr"
)

// past is what a line's miss was opened for, and all that came to it since.
type past struct {
	line, kind, acks int
	// told are the words or the grant that came: one at most.
	told []call
	owes bool
}

func (p past) needs() int {
	if len(p.told) == 0 {
		return -1
	}
	return p.told[0].acks
}

func (p past) miss() mshr.Miss {
	m := mshr.Miss{Line: p.line, Kind: p.kind, Needs: p.needs(), Got: p.acks, Owes: p.owes}
	for _, k := range p.told {
		m.Own, m.Words, m.Granted = k.own, k.words, k.kind == grant
	}
	return m
}

// record is a file by another way: what came to each miss, one behind another.
type record struct {
	room  int
	pasts []past
}

func (r *record) at(line int) int {
	for i, p := range r.pasts {
		if p.line == line {
			return i
		}
	}
	return -1
}

func (r *record) open(line, kind int) api.Errno {
	if kind < 1 || kind > 2 {
		return api.ErrArg
	}
	if r.at(line) >= 0 {
		return api.ErrTwice
	}
	if len(r.pasts) >= r.room {
		return api.ErrFull
	}
	r.pasts = append(r.pasts, past{line: line, kind: kind})
	return api.OK
}

func (r *record) tell(k call) api.Errno {
	at := r.at(k.line)
	if at < 0 {
		return api.ErrName
	}
	p := r.pasts[at]
	bad := len(p.told) > 0 || k.acks < 0 || k.acks < p.acks
	bad = bad || k.own != 1 && k.own != 2 && k.own != 4
	bad = bad || p.kind == 2 && k.own != 4 || p.kind == 1 && k.own == 4
	bad = bad || k.acks > 0 && k.own != 4
	if bad {
		return api.ErrTable
	}
	r.pasts[at].told = []call{k}
	return api.OK
}

func (r *record) ack(line int) api.Errno {
	at := r.at(line)
	if at < 0 {
		return api.ErrName
	}
	p := r.pasts[at]
	if p.kind == 1 || len(p.told) > 0 && p.needs() <= p.acks {
		return api.ErrTable
	}
	r.pasts[at].acks++
	return api.OK
}

func (r *record) owe(line int) (mshr.Miss, bool) {
	at := r.at(line)
	if at < 0 {
		return mshr.Miss{}, false
	}
	p := r.pasts[at]
	if p.owes || len(p.told) == 0 || p.needs() != p.acks {
		return mshr.Miss{}, false
	}
	r.pasts[at].owes = true
	return p.miss(), true
}

func (r *record) close(line int) api.Errno {
	at := r.at(line)
	if at < 0 {
		return api.ErrName
	}
	if !r.pasts[at].owes {
		return api.ErrTable
	}
	r.pasts = append(slices.Clone(r.pasts[:at]), r.pasts[at+1:]...)
	return api.OK
}

func (r *record) misses() []mshr.Miss {
	var l []mshr.Miss
	for _, p := range r.pasts {
		l = append(l, p.miss())
	}
	return l
}

// wantRecord tells that a file is as a record, and as P10.4 asks.
func wantRecord(t *testing.T, f *mshr.File, r *record) {
	t.Helper()
	wantMisses(t, f, r.misses()...)
	at := slices.IndexFunc(r.pasts, func(p past) bool { return p.owes })
	if at < 0 {
		wantNoneOwing(t, f)
	} else {
		wantOwing(t, f, r.pasts[at].line)
	}
	for _, m := range f.List() {
		if m.Needs >= 0 && m.Got > m.Needs || m.Owes && m.Got != m.Needs {
			t.Fatalf("%+v", m)
		}
	}
}

// The kinds of calls.
const (
	open = iota
	data
	grant
	ack
	owe
	shut
)

// call is one that changes a file; what is opened is of the Kind that own tells.
type call struct {
	kind, line, acks, own int
	words                 api.Words
}

// wantDone makes a call of a file, which answers as its record does.
func wantDone(t *testing.T, f *mshr.File, r *record, k call) {
	t.Helper()
	switch k.kind {
	case open:
		wantOpen(t, f, k.line, k.own, r.open(k.line, k.own))
	case data:
		wantData(t, f, k.line, k.acks, k.own, k.words, r.tell(k))
	case grant:
		k.own, k.words = api.Modified, api.Words{}
		wantGrant(t, f, k.line, k.acks, r.tell(k))
	case ack:
		wantAck(t, f, k.line, r.ack(k.line))
	case owe:
		got, ok := f.Owe(k.line)
		if m, owes := r.owe(k.line); got != m || ok != owes {
			t.Fatalf("Owe %d: %+v, %v, not %+v, %v", k.line, got, ok, m, owes)
		}
	case shut:
		wantClose(t, f, k.line, r.close(k.line))
	}
}

// fewCalls are all that matter of so many lines.
func fewCalls(lines int) []call {
	var l []call
	for line := range lines {
		l = append(l,
			call{kind: open, line: line, own: 1}, call{kind: open, line: line, own: 2},
			call{kind: data, line: line, own: 1, words: words(1)}, call{kind: data, line: line, acks: 1, own: 4, words: words(2)},
			call{kind: grant, line: line}, call{kind: grant, line: line, acks: 2},
			call{kind: ack, line: line}, call{kind: owe, line: line}, call{kind: shut, line: line})
	}
	return l
}

// runs goes through all runs of so many calls, the first ones going ahead of the others.
func runs(ahead []call, calls []call, count int, do func(run []call)) {
	do(ahead)
	if count == 0 {
		return
	}
	for _, k := range calls {
		runs(append(slices.Clone(ahead), k), calls, count-1, do)
	}
}

// P10.1, P10.2, P10.3, P10.4: all short runs of calls of small files, as by the other way.
func TestAllShortRuns(t *testing.T) {
	for _, x := range []struct{ room, lines, count int }{{1, 1, 5}, {1, 2, 4}, {2, 2, 4}, {2, 3, 3}} {
		runs(nil, fewCalls(x.lines), x.count, func(run []call) {
			f, r := empty(t, x.room), &record{room: x.room}
			for _, k := range run {
				wantDone(t, f, r, k)
			}
			wantRecord(t, f, r)
		})
	}
}

// picker hands out numbers below others, the same ones each time.
func picker(seed uint64) func(below int) int {
	return func(below int) int {
		seed = seed*6364136223846793005 + 1442695040888963407
		return int((seed >> 33) % uint64(below))
	}
}

// picked is a call, of one of so many lines, that may be wrong.
func picked(lines int, pick func(below int) int) call {
	k := call{kind: pick(6), line: pick(lines) - 1, acks: pick(5) - 1, own: pick(6), words: words(pick(100))}
	if k.kind == open {
		k.own = pick(4)
	}
	return k
}

// P10.1, P10.2, P10.3, P10.4: long runs of calls of files of each room, wrong ones among them, as by the other way.
func TestLongRuns(t *testing.T) {
	for room := 1; room <= mostRoom; room++ {
		for _, lines := range []int{2, room + 1, 2*room + 3} {
			pick := picker(uint64(100*room + lines))
			f, r := empty(t, room), &record{room: room}
			most := 0
			for range 4000 {
				wantDone(t, f, r, picked(lines, pick))
				wantRecord(t, f, r)
				most = max(most, len(r.pasts))
			}
			if most != min(room, lines) {
				t.Fatalf("%d of %d lines: %d misses", room, lines, most)
			}
		}
	}
}

// P10.4: words or a grant and so many acks, in whichever order they come: with the last one all came, and not ahead of it.
func TestWhicheverOrder(t *testing.T) {
	for acks := range 7 {
		for at := range acks + 1 {
			for _, kind := range []int{data, grant} {
				f, r := opened(t, 1, api.GetM, 5), &record{room: 1}
				r.open(5, api.GetM)
				for step := range acks + 1 {
					wantNoOwe(t, f, 5)
					k := call{kind: ack, line: 5}
					if step == at {
						k = call{kind: kind, line: 5, acks: acks, own: api.Modified, words: words(step)}
					}
					wantDone(t, f, r, k)
				}
				wantOwe(t, f, r.misses()[0])
				wantNoOwe(t, f, 5)
				wantClose(t, f, 5, api.OK)
			}
		}
	}
}

// P10.1, R3: what List hands out shares nothing with the file, nor with what it hands out again.
func TestListSharesNothing(t *testing.T) {
	f := all(t)
	first, second, want := f.List(), f.List(), f.List()
	first = first[:cap(first)]
	for i := range first {
		first[i] = mshr.Miss{Line: -7, Kind: 9, Got: 5}
	}
	if !slices.Equal(second, want) {
		t.Fatalf("%+v", second)
	}
	wantMisses(t, f, want...)
	wantAck(t, f, 3, api.OK)
	wantClose(t, f, 2, api.OK)
	wantOpen(t, f, 9, api.GetS, api.OK)
	if !slices.Equal(second, want) {
		t.Fatalf("%+v", second)
	}
}

// P10.1, R3: what is appended to a list that was handed out is in no file.
func TestAppendedToList(t *testing.T) {
	f := opened(t, 4, api.GetS, 1, 2)
	_ = append(f.List(), fresh(3, api.GetM))
	_ = append(f.List()[:1], fresh(4, api.GetM))
	wantOpen(t, f, 5, api.GetS, api.OK)
	wantMisses(t, f, fresh(1, api.GetS), fresh(2, api.GetS), fresh(5, api.GetS))
}

// P10.1, P10.3, R3: what Get and Owe hand out shares nothing with the file.
func TestMissesShareNothing(t *testing.T) {
	f := opened(t, 2, api.GetM, 5)
	wantData(t, f, 5, 0, api.Modified, words(1), api.OK)
	want := mshr.Miss{Line: 5, Kind: api.GetM, Own: api.Modified, Words: words(1)}
	got, _ := f.Get(5)
	got.Line, got.Words[0], got.Owes = 6, 77, true
	wantMisses(t, f, want)
	kept, _ := f.Get(5)
	told, _ := f.Owe(5)
	if told != want || kept != want {
		t.Fatalf("%+v, %+v", told, kept)
	}
	told.Needs, told.Words[7] = 4, 78
	want.Owes = true
	wantMisses(t, f, want)
	wantClose(t, f, 5, api.OK)
	if kept.Line != 5 || kept.Words != words(1) {
		t.Fatalf("%+v", kept)
	}
}

// P10.2, R3: words that were handed in may be changed behind that.
func TestWordsShareNothing(t *testing.T) {
	f := opened(t, 1, api.GetS, 5)
	w := words(3)
	wantData(t, f, 5, 0, api.Exclusive, w, api.OK)
	w[0], w[7] = 0, 0
	wantMisses(t, f, mshr.Miss{Line: 5, Kind: api.GetS, Own: api.Exclusive, Words: words(3)})
}

// P10.1, R5: two files of one room share nothing.
func TestTwoFilesShareNothing(t *testing.T) {
	for room := 1; room <= mostRoom; room++ {
		pick := picker(3)
		f, g := empty(t, room), empty(t, room)
		r, s := &record{room: room}, &record{room: room}
		for range 300 {
			wantDone(t, f, r, picked(room+1, pick))
			wantDone(t, g, s, picked(room+1, pick))
		}
		wantRecord(t, f, r)
		wantRecord(t, g, s)
		wantRecord(t, empty(t, room), &record{room: room})
	}
}

// R4: the same calls answer the same.
func TestSameCallsAnswerTheSame(t *testing.T) {
	var first []mshr.Miss
	for round := range 3 {
		pick := picker(11)
		f, r := empty(t, 6), &record{room: 6}
		for range 500 {
			wantDone(t, f, r, picked(9, pick))
		}
		if round == 0 {
			first = f.List()
		}
		wantMisses(t, f, first...)
	}
}
