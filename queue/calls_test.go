package queue_test

import (
	"slices"
	"testing"

	"mesne/api"
	"mesne/queue"
)

// asked is a request, what was told to be sent for it, how much of that was, and whether it is gone.
type asked struct {
	m     api.Message
	sends []api.Message
	sent  int
	gone  bool
}

func (a asked) on() bool { return len(a.sends) > 0 }

func (a asked) entry() queue.Entry {
	return queue.Entry{M: a.m, Started: a.on(), Sends: a.sends[a.sent:]}
}

// record is a queue by another way: all that was ever asked, of which nothing is taken away, and which line is busy with what.
type record struct {
	room int
	all  []asked
	// lines are the requests of each line, by their numbers in all, the first one first.
	lines map[int][]int
}

func blank(room int) *record { return &record{room: room, lines: map[int][]int{}} }

// here are the numbers of those that aren't gone.
func (r *record) here() []int {
	var l []int
	for n, a := range r.all {
		if !a.gone {
			l = append(l, n)
		}
	}
	return l
}

// number is that of the request at a place.
func (r *record) number(at int) (int, bool) {
	for place, n := range r.here() {
		if place == at {
			return n, true
		}
	}
	return 0, false
}

func (r *record) ready(at int) bool {
	n, ok := r.number(at)
	return ok && !r.all[n].on() && r.lines[r.all[n].m.Line][0] == n
}

func (r *record) leave(n int) {
	line := r.all[n].m.Line
	r.all[n].gone = true
	r.lines[line] = r.lines[line][1:]
}

func (r *record) add(m api.Message) api.Errno {
	if m.Kind < 1 || m.Kind > 3 {
		return api.ErrArg
	}
	if len(r.here()) >= r.room {
		return api.ErrFull
	}
	r.lines[m.Line] = append(r.lines[m.Line], len(r.all))
	r.all = append(r.all, asked{m: m})
	return api.OK
}

func (r *record) start(at int, sends []api.Message) api.Errno {
	n, ok := r.number(at)
	if !ok {
		return api.ErrName
	}
	if !r.ready(at) || len(sends) == 0 {
		return api.ErrTable
	}
	r.all[n].sends = slices.Clone(sends)
	return api.OK
}

func (r *record) sent(at int) api.Errno {
	n, ok := r.number(at)
	if !ok {
		return api.ErrName
	}
	if r.all[n].sent == len(r.all[n].sends) {
		return api.ErrTable
	}
	r.all[n].sent++
	if r.all[n].m.Kind == api.Put && r.all[n].sent == len(r.all[n].sends) {
		r.leave(n)
	}
	return api.OK
}

func (r *record) finish(line, from int) api.Errno {
	if len(r.lines[line]) == 0 {
		return api.ErrTable
	}
	// Of all of a line only the first one can be on.
	n := r.lines[line][0]
	a := r.all[n]
	if !a.on() || a.sent < len(a.sends) || a.m.From != from || a.m.Kind == api.Put {
		return api.ErrTable
	}
	r.leave(n)
	return api.OK
}

func (r *record) entries() []queue.Entry {
	var l []queue.Entry
	for _, n := range r.here() {
		l = append(l, r.all[n].entry())
	}
	return l
}

// wantRecord tells that a queue is as a record, and as P15.4 asks.
func wantRecord(t *testing.T, q *queue.Queue, r *record) {
	t.Helper()
	l := r.entries()
	wantEntries(t, q, l...)
	wantLeft(t, q, r.room-len(l))
	seen := map[int]bool{}
	for at, e := range q.List() {
		wantReadyAt(t, q, at, r.ready(at))
		if e.Started && seen[e.M.Line] {
			t.Fatalf("%d is not the first of its line: %+v", at, q.List())
		}
		seen[e.M.Line] = true
	}
}

// The kinds of calls.
const (
	add = iota
	start
	sent
	finish
)

// call is one that changes a queue.
type call struct {
	kind, at, line, from int
	m                    api.Message
	sends                []api.Message
}

// wantDone makes a call of a queue, which answers as its record does; that is told.
func wantDone(t *testing.T, q *queue.Queue, r *record, k call) api.Errno {
	t.Helper()
	var e api.Errno
	switch k.kind {
	case add:
		e = r.add(k.m)
		wantAdd(t, q, k.m, e)
	case start:
		e = r.start(k.at, k.sends)
		wantStart(t, q, k.at, k.sends, e)
	case sent:
		e = r.sent(k.at)
		wantSent(t, q, k.at, e)
	case finish:
		e = r.finish(k.line, k.from)
		wantFinish(t, q, k.line, k.from, e)
	}
	return e
}

// fewCalls are all that matter of so many lines, and of places below so many.
func fewCalls(lines, places int) []call {
	var l []call
	for line := range lines {
		l = append(l, call{kind: finish, line: line, from: 1})
		for _, kind := range requests() {
			l = append(l, call{kind: add, m: request(kind, line, 1)})
		}
	}
	for at := range places {
		l = append(l, call{kind: start, at: at, sends: telling(3, 1)}, call{kind: start, at: at, sends: telling(5, 2)}, call{kind: sent, at: at})
	}
	return append(l, call{kind: finish, line: 0, from: 2})
}

// runs goes through all runs of so many calls, the first ones going ahead of the others.
func runs(ahead []call, calls []call, count int, do func(run []call)) {
	do(ahead)
	if count == 0 {
		return
	}
	for _, k := range calls {
		runs(append(slices.Clone(ahead), k), calls, count-1, do)
	}
}

// P15.1, P15.2, P15.3, P15.4: all short runs of calls of small queues, as by the other way.
func TestAllShortRuns(t *testing.T) {
	for _, x := range []struct{ room, lines, places, count int }{{1, 1, 2, 5}, {2, 1, 2, 4}, {2, 2, 2, 4}, {3, 2, 3, 3}} {
		runs(nil, fewCalls(x.lines, x.places), x.count, func(run []call) {
			q, r := empty(t, x.room), blank(x.room)
			for _, k := range run {
				wantDone(t, q, r, k)
			}
			wantRecord(t, q, r)
		})
	}
}

// picker hands out numbers below others, the same ones each time.
func picker(seed uint64) func(below int) int {
	return func(below int) int {
		seed = seed*6364136223846793005 + 1442695040888963407
		return int((seed >> 33) % uint64(below))
	}
}

// picked is a call, of one of so many lines, and of places of such a room, that may be wrong.
func picked(lines, room int, pick func(below int) int) call {
	k := call{kind: pick(4), at: pick(room+2) - 1, line: pick(lines), from: pick(3), sends: telling(pick(100), pick(4))}
	k.m = request(pick(5), pick(lines), pick(3))
	if pick(2) == 0 && k.kind == add {
		k.kind = sent
	}
	return k
}

// P15.1, P15.2, P15.3, P15.4: long runs of calls of queues of each room, wrong ones among them, as by the other way.
func TestLongRuns(t *testing.T) {
	for room := 1; room <= mostRoom; room++ {
		for _, lines := range []int{1, 3, room + 1} {
			pick := picker(uint64(100*room + lines))
			q, r := empty(t, room), blank(room)
			most, count := 0, map[int]int{}
			for range 1500 {
				k := picked(lines, room, pick)
				if wantDone(t, q, r, k) == api.OK {
					count[k.kind]++
				}
				wantRecord(t, q, r)
				most = max(most, len(q.List()))
			}
			for kind := range 4 {
				if count[kind] < 3 {
					t.Fatalf("room %d, %d lines: %v", room, lines, count)
				}
			}
			if most != room {
				t.Fatalf("room %d, %d lines: %d requests", room, lines, most)
			}
		}
	}
}

// P15.4: what is started, sent, and finished of one line leaves the entries of all others as they are, and in their order.
func TestOthersStay(t *testing.T) {
	pick := picker(5)
	q, r := empty(t, 8), blank(8)
	others := func(line int) []queue.Entry {
		return slices.DeleteFunc(q.List(), func(e queue.Entry) bool { return e.M.Line == line })
	}
	for range 3000 {
		k := picked(4, 8, pick)
		line := k.line
		if k.kind == start || k.kind == sent {
			e, _ := q.Get(k.at)
			line = e.M.Line
		}
		want := others(line)
		wantDone(t, q, r, k)
		if k.kind != add && !slices.EqualFunc(others(line), want, same) {
			t.Fatalf("%+v: %+v, not %+v", k, others(line), want)
		}
	}
}

// spoil changes all that a list of entries holds, and what lies behind its end.
func spoil(l []queue.Entry) {
	l = l[:cap(l)]
	for i := range l {
		spoilMessages(l[i].Sends)
		l[i] = queue.Entry{M: api.Message{Kind: 77, Line: -7}, Started: !l[i].Started, Sends: telling(70, 3)}
	}
}

func spoilMessages(l []api.Message) {
	l = l[:cap(l)]
	for i := range l {
		l[i] = api.Message{Kind: 88, Line: -8}
	}
}

// P15.2, R3: what was handed in to be sent may be changed behind that, and is as it was whatever the queue does.
func TestSendsShareNothing(t *testing.T) {
	list := make([]api.Message, 3, 8)
	copy(list, telling(1, 3))
	q := of(t, 5, 6)
	wantStart(t, q, 0, list, api.OK)
	wantStart(t, q, 1, list[:2], api.OK)
	wantSent(t, q, 0, api.OK)
	if !slices.Equal(list, telling(1, 3)) {
		t.Fatalf("%+v", list)
	}
	_ = append(list, told(9))
	spoilMessages(list)
	wantEntries(t, q,
		queue.Entry{M: request(api.GetM, 5, 0), Started: true, Sends: telling(2, 2)},
		queue.Entry{M: request(api.GetM, 6, 0), Started: true, Sends: telling(1, 2)})
}

// P15.1, R3: what List and Get hand out shares nothing with the queue, nor with what they hand out again, nor one list of it with another.
func TestAnswersShareNothing(t *testing.T) {
	q := all(t)
	want, kept := q.List(), q.List()
	spoil(q.List())
	for at := range want {
		e, _ := q.Get(at)
		spoil([]queue.Entry{e})
	}
	wantEntries(t, q, want...)
	for at := range want {
		l := q.List()
		spoilMessages(l[at].Sends)
		l[at] = want[at]
		if !slices.EqualFunc(l, want, same) {
			t.Fatalf("%d: %+v", at, l)
		}
	}
	wantSent(t, q, 4, api.OK)
	wantSent(t, q, 5, api.OK)
	wantFinish(t, q, 6, 0, api.OK)
	wantStart(t, q, 0, telling(8, 1), api.OK)
	if !slices.EqualFunc(kept, want, same) {
		t.Fatalf("%+v", kept)
	}
}

// P15.1, P15.2, R3: what is appended to a list that was handed out, or to a part of it, is in no queue, and in no other list.
func TestAppendedToAnswers(t *testing.T) {
	q := of(t, 5, 6)
	wantStart(t, q, 0, telling(1, 4), api.OK)
	for left := 4; left >= 1; left-- {
		want := []queue.Entry{
			{M: request(api.GetM, 5, 0), Started: true, Sends: telling(5-left, left)}, {M: request(api.GetM, 6, 0)},
		}
		e, _ := q.Get(0)
		l := q.List()
		_ = append(e.Sends, told(90))
		_ = append(e.Sends[:0], told(91))
		_ = append(l[0].Sends[:0], told(92))
		_ = append(l, queue.Entry{M: told(93)})
		_ = append(l[:1], queue.Entry{M: told(94)})
		wantEntries(t, q, want...)
		wantSent(t, q, 0, api.OK)
	}
	wantAdd(t, q, request(api.Put, 7, 1), api.OK)
	wantLines(t, q, 5, 6, 7)
}

// P15.2, R3: what was handed out while messages were still to be sent is the same when they are sent.
func TestKeptWhileSent(t *testing.T) {
	q := of(t, 5)
	wantStart(t, q, 0, telling(1, 3), api.OK)
	var kept []queue.Entry
	for range 3 {
		e, _ := q.Get(0)
		kept = append(kept, e)
		wantSent(t, q, 0, api.OK)
	}
	for n, e := range kept {
		if !slices.Equal(e.Sends, telling(1+n, 3-n)) {
			t.Fatalf("%d: %+v", n, e.Sends)
		}
	}
}

// R5: two queues of one room share nothing.
func TestTwoQueuesShareNothing(t *testing.T) {
	for room := 1; room <= mostRoom; room++ {
		pick := picker(3)
		q, p := empty(t, room), empty(t, room)
		r, s := blank(room), blank(room)
		for range 300 {
			wantDone(t, q, r, picked(room+1, room, pick))
			wantDone(t, p, s, picked(room+1, room, pick))
		}
		wantRecord(t, q, r)
		wantRecord(t, p, s)
		wantRecord(t, empty(t, room), blank(room))
	}
}

// R4: the same calls answer the same.
func TestSameCallsAnswerTheSame(t *testing.T) {
	var first []queue.Entry
	for round := range 3 {
		pick := picker(11)
		q, r := empty(t, 6), blank(6)
		for range 500 {
			wantDone(t, q, r, picked(4, 6, pick))
		}
		if round == 0 {
			first = q.List()
		}
		wantEntries(t, q, first...)
	}
}
