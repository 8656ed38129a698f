package queue_test

import (
	"math"
	"testing"

	"mesne/api"
	"mesne/queue"
)

// extremes are numbers far from those that are meant.
func extremes() []int {
	return []int{
		math.MinInt, math.MinInt + 1, -1 << 32, -1 << 31, -64, -17, -2, -1, 17, 18, 64, 1 << 31, 1<<31 + 1,
		1 << 32, 1<<32 + 1, 1<<32 + 2, 1<<32 + 3, 1<<32 + 16, 1 << 62, math.MaxInt - 1, math.MaxInt,
	}
}

// P15.1: there is no queue of a room below 1 or above 16.
func TestNewOfWrongRoom(t *testing.T) {
	for _, room := range append(extremes(), 0) {
		if q, e := queue.New(room); q != nil || e != api.ErrArg {
			t.Fatalf("%d: %v, %d", room, q, e)
		}
	}
}

// all is a queue with requests of all kinds of progress: those of lines 0 to 2 wait, of 3 to 5 are started, of 6 and 7 (which are no Put) all sent; behind these wait a Put of line 3 and one of line 6.
func all(t *testing.T) *queue.Queue {
	t.Helper()
	q := empty(t, 10)
	for line, kind := range []int{api.GetS, api.GetM, api.Put, api.GetS, api.GetM, api.Put, api.GetS, api.GetM} {
		wantAdd(t, q, request(kind, line, line%3), api.OK)
		if line < 3 {
			continue
		}
		wantStart(t, q, line, telling(line, 2), api.OK)
		wantSent(t, q, line, api.OK)
		if line > 5 {
			wantSent(t, q, line, api.OK)
		}
	}
	wantAdd(t, q, request(api.Put, 3, 5), api.OK)
	wantAdd(t, q, request(api.Put, 6, 5), api.OK)
	return q
}

// steady tells that a queue is behind something as it was ahead.
func steady(t *testing.T, q *queue.Queue, do func()) {
	t.Helper()
	before, left := q.List(), q.Left()
	do()
	wantEntries(t, q, before...)
	wantLeft(t, q, left)
}

// P15.1: what is no request doesn't wait; that is told ahead of the room.
func TestAddOfWrongKind(t *testing.T) {
	wrong := append(extremes(), 0, api.FwdS, api.FwdM, api.Inv, api.Data, api.Grant, api.Ack, api.PutAck, api.Done, 12)
	for _, q := range []*queue.Queue{empty(t, 1), of(t, 5), waiting(t, 1, request(api.GetS, 5, 0)), all(t)} {
		steady(t, q, func() {
			for _, kind := range wrong {
				wantAdd(t, q, request(kind, 5, 0), api.ErrArg)
				m := told(4)
				m.Kind = kind
				wantAdd(t, q, m, api.ErrArg)
			}
		})
	}
}

// P15.1: there are no more requests than the room, also where they are started and all is sent; one fewer leaves room for one.
func TestAddOfFull(t *testing.T) {
	for room := 1; room <= mostRoom; room++ {
		q := empty(t, room)
		for line := range room {
			wantAdd(t, q, request(api.GetS, line, 0), api.OK)
		}
		for at := range room + 1 {
			steady(t, q, func() {
				for _, kind := range requests() {
					wantAdd(t, q, request(kind, 0, 0), api.ErrFull)
					wantAdd(t, q, request(kind, 99, 3), api.ErrFull)
				}
			})
			if at < room {
				wantStart(t, q, at, telling(at, 1), api.OK)
				wantSent(t, q, at, api.OK)
			}
		}
		wantFinish(t, q, 0, 0, api.OK)
		wantLeft(t, q, 1)
		wantAdd(t, q, request(api.Put, 0, 0), api.OK)
		wantLeft(t, q, 0)
	}
}

// P15.1, P15.2: where there is no entry, nothing is told, nothing is ready, and nothing is started or sent; that is told ahead of what else is wrong.
func TestNoSuchPlace(t *testing.T) {
	for _, q := range []*queue.Queue{empty(t, 1), empty(t, mostRoom), of(t, 5), all(t)} {
		count := len(q.List())
		steady(t, q, func() {
			for _, at := range append(extremes(), count, count+1, mostRoom-1, mostRoom) {
				if at >= 0 && at < count {
					continue
				}
				wantNone(t, q, at)
				wantStart(t, q, at, telling(1, 2), api.ErrName)
				wantStart(t, q, at, nil, api.ErrName)
				wantStart(t, q, at, []api.Message{}, api.ErrName)
				wantSent(t, q, at, api.ErrName)
			}
		})
	}
}

// P15.2: what isn't ready isn't started: what is on, what all was sent for, and what waits behind one of its line.
func TestStartOfNoneReady(t *testing.T) {
	q := all(t)
	steady(t, q, func() {
		for at := 3; at < 10; at++ {
			wantReadyAt(t, q, at, false)
			wantStart(t, q, at, telling(7, 1), api.ErrTable)
			wantStart(t, q, at, telling(7, 3), api.ErrTable)
			wantStart(t, q, at, nil, api.ErrTable)
		}
	})
}

// P15.2: with nothing to be sent nothing is started, be it ready or not.
func TestStartWithNothing(t *testing.T) {
	for _, q := range []*queue.Queue{of(t, 5), of(t, 5, 5, 6), all(t)} {
		steady(t, q, func() {
			for at := range q.List() {
				wantStart(t, q, at, nil, api.ErrTable)
				wantStart(t, q, at, []api.Message{}, api.ErrTable)
				wantStart(t, q, at, telling(1, 2)[:0], api.ErrTable)
			}
		})
		wantReadyAt(t, q, 0, true)
		wantStart(t, q, 0, telling(1, 1), api.OK)
	}
}

// P15.2: of what isn't started, and of what all was sent for, nothing is sent.
func TestSentOfNothing(t *testing.T) {
	q := all(t)
	steady(t, q, func() {
		for _, at := range []int{0, 1, 2, 6, 7, 8, 9} {
			wantNoNext(t, q, at)
			wantSent(t, q, at, api.ErrTable)
		}
	})
}

// P15.3: nothing is finished of a queue without entries, of lines that have none, of other cores, of what isn't started, of a Put, and of what has messages still to be sent.
func TestFinishOfNone(t *testing.T) {
	q := all(t)
	for _, other := range []*queue.Queue{empty(t, 1), empty(t, mostRoom), q} {
		steady(t, other, func() {
			for _, line := range append(extremes(), numbers(10)...) {
				for _, from := range append(extremes(), numbers(6)...) {
					may := (line == 6 || line == 7) && from == line%3
					if !may || other != q {
						wantFinish(t, other, line, from, api.ErrTable)
					}
				}
			}
		})
	}
	wantFinish(t, q, 7, 1, api.OK)
	wantFinish(t, q, 6, 0, api.OK)
	wantLines(t, q, 0, 1, 2, 3, 4, 5, 3, 6)
}

// P15.3: a Put is never finished: not where it waits, nor where a message of it is still to be sent.
func TestFinishOfPut(t *testing.T) {
	q := waiting(t, 1, request(api.Put, 5, 2))
	steady(t, q, func() { wantFinish(t, q, 5, 2, api.ErrTable) })
	wantStart(t, q, 0, telling(1, 2), api.OK)
	for range 2 {
		steady(t, q, func() { wantFinish(t, q, 5, 2, api.ErrTable) })
		wantSent(t, q, 0, api.OK)
	}
	wantFinish(t, q, 5, 2, api.ErrTable)
	wantEntries(t, q)
}

// P15.3: with a message still to be sent, nothing is finished; with none, once.
func TestFinishTooEarly(t *testing.T) {
	for _, kind := range []int{api.GetS, api.GetM} {
		q := waiting(t, 2, request(kind, 5, 2), request(kind, 5, 2))
		steady(t, q, func() { wantFinish(t, q, 5, 2, api.ErrTable) })
		wantStart(t, q, 0, telling(1, 3), api.OK)
		for range 3 {
			steady(t, q, func() { wantFinish(t, q, 5, 2, api.ErrTable) })
			wantSent(t, q, 0, api.OK)
		}
		wantFinish(t, q, 5, 2, api.OK)
		wantEntries(t, q, waits(request(kind, 5, 2))...)
		steady(t, q, func() { wantFinish(t, q, 5, 2, api.ErrTable) })
	}
}

// P15.3: who asked is whom the request is from, not who it is to, nor its Who.
func TestFinishOfWhoAsked(t *testing.T) {
	m := api.Message{Kind: api.GetM, Line: 5, From: 2, To: 1, Who: 3}
	q := waiting(t, 1, m)
	wantStart(t, q, 0, telling(1, 1), api.OK)
	wantSent(t, q, 0, api.OK)
	steady(t, q, func() {
		for _, from := range []int{0, 1, 3, -2} {
			wantFinish(t, q, 5, from, api.ErrTable)
		}
	})
	wantFinish(t, q, 5, 2, api.OK)
}
