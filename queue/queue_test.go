package queue_test

import (
	"math"
	"slices"
	"testing"

	"mesne/api"
	"mesne/queue"
)

// mostRoom is the greatest room of a queue.
const mostRoom = 16

// requests are the Kinds of messages that wait at a home.
func requests() []int { return []int{api.GetS, api.GetM, api.Put} }

// numbers are the first so many from 0 on.
func numbers(count int) []int {
	var l []int
	for n := range count {
		l = append(l, n)
	}
	return l
}

// request is one of a line, from a core.
func request(kind, line, from int) api.Message {
	return api.Message{Kind: kind, Line: line, From: from, To: 1}
}

// told is a message that is to be sent, another one for another n.
func told(n int) api.Message {
	return api.Message{
		Kind: n%11 + 1, Line: n, From: n + 1, To: n + 2, Who: n + 3, Acks: n + 4, Own: n % 5,
		Words: api.Words{n, -n, math.MaxInt - n, 0, 4, 0, 6, math.MinInt + n},
	}
}

// telling are so many messages, the first of them that of n.
func telling(n, count int) []api.Message {
	var l []api.Message
	for i := range count {
		l = append(l, told(n+i))
	}
	return l
}

// empty is a new queue.
func empty(t *testing.T, room int) *queue.Queue {
	t.Helper()
	q, e := queue.New(room)
	if q == nil || e != api.OK {
		t.Fatalf("%d: %v, %d", room, q, e)
	}
	return q
}

// waiting is a new queue, with requests that wait.
func waiting(t *testing.T, room int, l ...api.Message) *queue.Queue {
	t.Helper()
	q := empty(t, room)
	for _, m := range l {
		wantAdd(t, q, m, api.OK)
	}
	return q
}

// of is a new queue of the greatest room, with GetM from core 0 of these lines.
func of(t *testing.T, lines ...int) *queue.Queue {
	t.Helper()
	q := empty(t, mostRoom)
	for _, line := range lines {
		wantAdd(t, q, request(api.GetM, line, 0), api.OK)
	}
	return q
}

func wantAdd(t *testing.T, q *queue.Queue, m api.Message, want api.Errno) {
	t.Helper()
	if e := q.Add(m); e != want {
		t.Fatalf("Add %+v: %d, not %d", m, e, want)
	}
}

// wantReady tells which of the first entries are ready.
func wantReady(t *testing.T, q *queue.Queue, want ...bool) {
	t.Helper()
	for at, ready := range want {
		wantReadyAt(t, q, at, ready)
	}
}

func wantReadyAt(t *testing.T, q *queue.Queue, at int, want bool) {
	t.Helper()
	if q.Ready(at) != want {
		t.Fatalf("Ready %d: not %v", at, want)
	}
}

func wantStart(t *testing.T, q *queue.Queue, at int, sends []api.Message, want api.Errno) {
	t.Helper()
	if e := q.Start(at, sends); e != want {
		t.Fatalf("Start %d: %d, not %d", at, e, want)
	}
}

func wantNext(t *testing.T, q *queue.Queue, at int, want api.Message) {
	t.Helper()
	if m, ok := q.Next(at); m != want || !ok {
		t.Fatalf("Next %d: %+v, %v, not %+v", at, m, ok, want)
	}
}

func wantNoNext(t *testing.T, q *queue.Queue, at int) {
	t.Helper()
	if m, ok := q.Next(at); m != (api.Message{}) || ok {
		t.Fatalf("Next %d: %+v, %v", at, m, ok)
	}
}

func wantSent(t *testing.T, q *queue.Queue, at int, want api.Errno) {
	t.Helper()
	if e := q.Sent(at); e != want {
		t.Fatalf("Sent %d: %d, not %d", at, e, want)
	}
}

func wantFinish(t *testing.T, q *queue.Queue, line, from int, want api.Errno) {
	t.Helper()
	if e := q.Finish(line, from); e != want {
		t.Fatalf("Finish %d %d: %d, not %d", line, from, e, want)
	}
}

// same tells whether two entries are the same.
func same(e, f queue.Entry) bool {
	return e.M == f.M && e.Started == f.Started && slices.Equal(e.Sends, f.Sends)
}

// wantEntries tells that a queue has these entries, in this order, and each of them at its place.
func wantEntries(t *testing.T, q *queue.Queue, want ...queue.Entry) {
	t.Helper()
	if l := q.List(); !slices.EqualFunc(l, want, same) {
		t.Fatalf("%+v, not %+v", l, want)
	}
	for at, e := range want {
		if got, ok := q.Get(at); !same(got, e) || !ok {
			t.Fatalf("Get %d: %+v, %v, not %+v", at, got, ok, e)
		}
		if len(e.Sends) == 0 {
			wantNoNext(t, q, at)
		} else {
			wantNext(t, q, at, e.Sends[0])
		}
	}
	wantNone(t, q, -1)
	wantNone(t, q, len(want))
}

// wantNone tells that there is no entry at a place.
func wantNone(t *testing.T, q *queue.Queue, at int) {
	t.Helper()
	if e, ok := q.Get(at); !same(e, queue.Entry{}) || ok {
		t.Fatalf("Get %d: %+v, %v", at, e, ok)
	}
	if q.Ready(at) {
		t.Fatalf("%d is ready", at)
	}
	wantNoNext(t, q, at)
}

func wantLeft(t *testing.T, q *queue.Queue, want int) {
	t.Helper()
	if got := q.Left(); got != want {
		t.Fatalf("Left: %d, not %d", got, want)
	}
}

// waits are entries of requests that aren't started.
func waits(l ...api.Message) []queue.Entry {
	var told []queue.Entry
	for _, m := range l {
		told = append(told, queue.Entry{M: m})
	}
	return told
}

// P15.1: the chapter's example.
func TestExample(t *testing.T) {
	for _, kind := range requests() {
		q := waiting(t, 3, request(kind, 5, 0), request(kind, 5, 1), request(kind, 6, 0))
		wantReady(t, q, true, false, true)
	}
}

// P15.1: a new queue of each room has no entries, and room for so many.
func TestNew(t *testing.T) {
	for room := 1; room <= mostRoom; room++ {
		q := empty(t, room)
		wantEntries(t, q)
		wantLeft(t, q, room)
	}
}

// P15.1: as many requests as the room are added, of each Kind, each behind all, and not started.
func TestAdd(t *testing.T) {
	for room := 1; room <= mostRoom; room++ {
		q := empty(t, room)
		var want []api.Message
		for i := range room {
			wantLeft(t, q, room-i)
			m := request(requests()[(room+i)%3], i/2, i%3)
			wantAdd(t, q, m, api.OK)
			want = append(want, m)
			wantEntries(t, q, waits(want...)...)
		}
		wantLeft(t, q, 0)
		wantAdd(t, q, request(api.GetS, 9, 9), api.ErrFull)
		wantEntries(t, q, waits(want...)...)
	}
}

// P15.1: all of a request is kept, also what no machine has: a queue doesn't know the machine.
func TestAddKeepsAll(t *testing.T) {
	for _, kind := range requests() {
		m := told(7)
		m.Kind, m.Line, m.Own = kind, math.MinInt, math.MaxInt
		q := waiting(t, 2, m, m)
		wantEntries(t, q, waits(m, m)...)
		wantReady(t, q, true, false)
	}
}

// P15.1: the same request may be added again: it is another entry.
func TestAddAgain(t *testing.T) {
	m := request(api.GetS, 4, 2)
	q := waiting(t, 3, m, m, m)
	wantEntries(t, q, waits(m, m, m)...)
	wantStart(t, q, 0, telling(1, 1), api.OK)
	wantSent(t, q, 0, api.OK)
	wantFinish(t, q, 4, 2, api.OK)
	wantEntries(t, q, waits(m, m)...)
	wantReady(t, q, true, false)
}

// P15.1: one alone is ready; so is one behind those of other lines; one behind another of its line isn't, whether that is started or not; and one that is started isn't.
func TestReady(t *testing.T) {
	wantReady(t, of(t, 3), true, false)
	wantReady(t, of(t, 3, 4, 0, 1), true, true, true, true, false)
	q := of(t, 3, 3, 4, 3, 4)
	wantReady(t, q, true, false, true, false, false)
	wantStart(t, q, 0, telling(1, 1), api.OK)
	wantReady(t, q, false, false, true, false, false)
	wantStart(t, q, 2, telling(1, 1), api.OK)
	wantReady(t, q, false, false, false, false, false)
	wantSent(t, q, 0, api.OK)
	wantReady(t, q, false, false, false, false, false)
	wantFinish(t, q, 3, 0, api.OK)
	wantReady(t, q, true, false, false, false)
}

// P15.1: lines are told apart by their whole number, and by nothing but that.
func TestReadyOfAnyLine(t *testing.T) {
	lines := []int{0, -1, 1, 1 << 31, 1 << 32, -1 << 32, math.MaxInt, math.MinInt}
	q := of(t, append(slices.Clone(lines), lines...)...)
	for at := range lines {
		wantReady(t, of(t, lines[at], lines[at]), true, false)
		if !q.Ready(at) || q.Ready(at+len(lines)) {
			t.Fatal(lines[at])
		}
	}
}

// P15.1, P15.4: of one line only the first is ready, whoever asked, and of whichever Kind it is.
func TestReadyWhoeverAsked(t *testing.T) {
	for _, first := range requests() {
		for _, second := range requests() {
			for from := range 2 {
				q := waiting(t, 2, request(first, 5, 0), request(second, 5, from))
				wantReady(t, q, true, false)
				wantStart(t, q, 1, telling(1, 1), api.ErrTable)
				wantStart(t, q, 0, telling(1, 1), api.OK)
				wantReady(t, q, false, false)
				wantStart(t, q, 1, telling(1, 1), api.ErrTable)
			}
		}
	}
}

// P15.2: each place is started: it alone, with what is still to be sent, one message and more.
func TestStart(t *testing.T) {
	for room := 1; room <= mostRoom; room++ {
		for at := range room {
			for _, count := range []int{1, 2, 3, 65} {
				var l []api.Message
				for line := range room {
					l = append(l, request(requests()[line%3], line, line))
				}
				q, want := waiting(t, room, l...), waits(l...)
				wantStart(t, q, at, telling(at, count), api.OK)
				want[at] = queue.Entry{M: l[at], Started: true, Sends: telling(at, count)}
				wantEntries(t, q, want...)
				for other := range room {
					wantReadyAt(t, q, other, other != at)
				}
			}
		}
	}
}

// P15.2: what is to be sent may be any messages, no message's Kind and the same ones twice among them.
func TestStartWithAnyMessages(t *testing.T) {
	sends := []api.Message{{}, told(3), told(3), {Kind: 99, Line: -1}, {}}
	q := of(t, 2)
	wantStart(t, q, 0, sends, api.OK)
	for at := range sends {
		wantEntries(t, q, queue.Entry{M: request(api.GetM, 2, 0), Started: true, Sends: sends[at:]})
		wantSent(t, q, 0, api.OK)
	}
	wantSent(t, q, 0, api.ErrTable)
}

// P15.2: of an entry that isn't started nothing is to be sent; of one that is, each message in turn; then none again.
func TestNextAndSent(t *testing.T) {
	for _, kind := range []int{api.GetS, api.GetM} {
		for _, count := range []int{1, 2, 3, 64} {
			q := waiting(t, 3, request(api.Put, 1, 0), request(kind, 5, 0), request(kind, 5, 1))
			wantNoNext(t, q, 1)
			wantSent(t, q, 1, api.ErrTable)
			wantStart(t, q, 1, telling(10, count), api.OK)
			for n := range count {
				wantNext(t, q, 1, told(10+n))
				wantNext(t, q, 1, told(10+n))
				wantSent(t, q, 1, api.OK)
			}
			wantNoNext(t, q, 1)
			wantSent(t, q, 1, api.ErrTable)
			want := waits(request(api.Put, 1, 0), request(kind, 5, 0), request(kind, 5, 1))
			want[1].Started = true
			wantEntries(t, q, want...)
			wantReady(t, q, true, false, false)
			wantLeft(t, q, 0)
		}
	}
}

// P15.2: a Put is gone with its last message, and not ahead of it; the others move up, and the next one of its line is ready.
func TestSentOfPut(t *testing.T) {
	for _, count := range []int{1, 2, 5} {
		for at := range 4 {
			l := []api.Message{request(api.GetS, 1, 0), request(api.GetM, 2, 1), request(api.GetS, 3, 0), request(api.GetM, 9, 1)}
			l[at] = request(api.Put, 9, 0)
			want := append(waits(l...), waits(request(api.GetS, 9, 1))...)
			q := waiting(t, 5, append(l, request(api.GetS, 9, 1))...)
			wantStart(t, q, at, telling(at, count), api.OK)
			for n := range count {
				want[at] = queue.Entry{M: l[at], Started: true, Sends: telling(at+n, count-n)}
				wantEntries(t, q, want...)
				wantLeft(t, q, 0)
				wantReadyAt(t, q, 4, false)
				wantSent(t, q, at, api.OK)
			}
			want = slices.Delete(want, at, at+1)
			wantEntries(t, q, want...)
			wantLeft(t, q, 1)
			wantReadyAt(t, q, 3, at == 3)
		}
	}
}

// P15.3: the one that may be finished, at each place, is gone alone; there is room for one more again.
func TestFinish(t *testing.T) {
	for _, kind := range []int{api.GetS, api.GetM} {
		for room := 1; room <= mostRoom; room++ {
			for at := range room {
				q := empty(t, room)
				for n := range room {
					wantAdd(t, q, request(kind, n, n%3), api.OK)
					wantStart(t, q, n, telling(n, 2), api.OK)
				}
				wantSent(t, q, at, api.OK)
				wantSent(t, q, at, api.OK)
				want := slices.Delete(q.List(), at, at+1)
				wantFinish(t, q, at, at%3, api.OK)
				wantEntries(t, q, want...)
				wantLeft(t, q, 1)
				wantFinish(t, q, at, at%3, api.ErrTable)
				wantAdd(t, q, request(api.Put, at, 7), api.OK)
				wantEntries(t, q, append(want, waits(request(api.Put, at, 7))...)...)
			}
		}
	}
}

// P15.3: where all of several are sent, that of the line and the core is finished, in whichever order they are told.
func TestFinishInAnyOrder(t *testing.T) {
	for _, order := range [][]int{{0, 1, 2, 3}, {3, 2, 1, 0}, {1, 3, 0, 2}, {2, 0, 3, 1}} {
		q := of(t, 0, 1, 2, 3)
		for at := range 4 {
			wantStart(t, q, at, telling(at, 1), api.OK)
			wantSent(t, q, at, api.OK)
		}
		left := numbers(4)
		for _, line := range order {
			wantFinish(t, q, line, 0, api.OK)
			left = slices.DeleteFunc(left, func(n int) bool { return n == line })
			wantLines(t, q, left...)
		}
	}
}

// wantLines tells that a queue has requests of these lines, in this order.
func wantLines(t *testing.T, q *queue.Queue, want ...int) {
	t.Helper()
	var got []int
	for _, e := range q.List() {
		got = append(got, e.M.Line)
	}
	if !slices.Equal(got, want) {
		t.Fatalf("%v, not %v", got, want)
	}
}

// P15.4: requests of a line are started in the order in which they came, one at a time, each when the one ahead of it is gone; those of other lines go on meanwhile.
func TestOneAfterTheOther(t *testing.T) {
	q := empty(t, mostRoom)
	for n := range 12 {
		wantAdd(t, q, request(requests()[n%3], n%2, n), api.OK)
	}
	wantStart(t, q, 1, telling(50, 3), api.OK)
	for n := 0; n < 12; n += 2 {
		at := slices.IndexFunc(q.List(), func(e queue.Entry) bool { return e.M.Line == 0 })
		if e, _ := q.Get(at); e.M.From != n {
			t.Fatalf("%+v, not from %d", e, n)
		}
		for other := range len(q.List()) {
			wantReadyAt(t, q, other, other == at)
		}
		wantStart(t, q, at, telling(n, 1), api.OK)
		wantSent(t, q, at, api.OK)
		if n%3 != 2 {
			wantFinish(t, q, 0, n, api.OK)
		}
	}
	wantLines(t, q, 1, 1, 1, 1, 1, 1)
	wantNext(t, q, 0, told(50))
}
