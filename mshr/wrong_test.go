package mshr_test

import (
	"math"
	"slices"
	"testing"

	"mesne/api"
	"mesne/mshr"
)

// extremes are numbers far from those that are meant.
func extremes() []int {
	return []int{
		math.MinInt, math.MinInt + 1, -1 << 32, -1 << 31, -64, -9, -2, -1, 9, 10, 12, 64, 1 << 31, 1<<31 + 1,
		1 << 32, 1<<32 + 1, 1<<32 + 2, 1<<32 + 4, 1 << 62, math.MaxInt - 1, math.MaxInt,
	}
}

// P10.1: there is no file of a room below 1 or above 8.
func TestNewOfWrongRoom(t *testing.T) {
	for _, room := range append(extremes(), 0) {
		if f, e := mshr.New(room); f != nil || e != api.ErrArg {
			t.Fatalf("%d: %v, %d", room, f, e)
		}
	}
}

// all is a file with misses of all kinds of progress: lines 0 to 7, and none else.
func all(t *testing.T) *mshr.File {
	t.Helper()
	f := opened(t, mostRoom, api.GetS, 0, 1, 2)
	for line := 3; line < 8; line++ {
		wantOpen(t, f, line, api.GetM, api.OK)
	}
	wantData(t, f, 1, 0, api.Shared, words(1), api.OK)
	bring(t, f, 2)
	wantAcks(t, f, 4, 2)
	wantGrant(t, f, 5, 2, api.OK)
	wantData(t, f, 6, 0, api.Modified, words(6), api.OK)
	wantGrant(t, f, 7, 1, api.OK)
	wantAck(t, f, 7, api.OK)
	f.Owe(7)
	return f
}

// steady tells that a file is behind something as it was ahead.
func steady(t *testing.T, f *mshr.File, do func()) {
	t.Helper()
	before := f.List()
	do()
	wantMisses(t, f, before...)
}

// P10.1: a miss is of no other Kind than GetS and GetM; that is told ahead of all else.
func TestOpenOfWrongKind(t *testing.T) {
	wrong := append(extremes(), 0, api.Put, api.FwdS, api.FwdM, api.Inv, api.Data, api.Grant)
	for _, f := range []*mshr.File{empty(t, 1), opened(t, 1, api.GetS, 5), opened(t, 2, api.GetM, 5), all(t)} {
		steady(t, f, func() {
			for _, kind := range wrong {
				for _, line := range []int{5, 6, 100, -1} {
					wantOpen(t, f, line, kind, api.ErrArg)
				}
			}
		})
	}
}

// P10.1: of a line there is one miss, of whichever Kind; that is told ahead of the room.
func TestOpenTwice(t *testing.T) {
	for _, f := range []*mshr.File{opened(t, 1, api.GetS, 5), opened(t, 2, api.GetM, 5), opened(t, 3, api.GetM, 1, 5, 2), all(t)} {
		steady(t, f, func() {
			for _, m := range f.List() {
				wantOpen(t, f, m.Line, api.GetS, api.ErrTwice)
				wantOpen(t, f, m.Line, api.GetM, api.ErrTwice)
			}
		})
	}
}

// P10.1: there are no more misses than the room, also where all of them owe.
func TestOpenOfFull(t *testing.T) {
	for room := 1; room <= mostRoom; room++ {
		for _, f := range []*mshr.File{opened(t, room, api.GetM, numbers(room)...), owing(t, room, numbers(room)...)} {
			steady(t, f, func() {
				for _, line := range append(extremes(), room) {
					wantOpen(t, f, line, api.GetS, api.ErrFull)
					wantOpen(t, f, line, api.GetM, api.ErrFull)
				}
			})
		}
	}
}

// P10.2, P10.3: of a line of which there is no miss, nothing is taken, nor owed, nor closed; that is told ahead of what else is wrong.
func TestNoSuchMiss(t *testing.T) {
	closed := owing(t, 3, 100, 8, -1)
	for _, line := range []int{100, 8, -1} {
		wantClose(t, closed, line, api.OK)
	}
	for _, f := range []*mshr.File{empty(t, 4), closed, all(t)} {
		steady(t, f, func() {
			for _, line := range append(extremes(), 8, 100) {
				for _, own := range append(numbers(6), -1) {
					wantData(t, f, line, 0, own, words(1), api.ErrName)
					wantData(t, f, line, -1, own, words(1), api.ErrName)
					wantData(t, f, line, 3, own, words(1), api.ErrName)
				}
				wantGrant(t, f, line, 0, api.ErrName)
				wantGrant(t, f, line, -1, api.ErrName)
				wantAck(t, f, line, api.ErrName)
				wantNoOwe(t, f, line)
				wantClose(t, f, line, api.ErrName)
				wantGone(t, f, line)
			}
		})
	}
}

// P10.2: each state with each Kind, and each with no acks and with some: those that aren't told together change nothing.
func TestDataOfEachState(t *testing.T) {
	for _, kind := range kinds() {
		for _, own := range append(extremes(), 0, 1, 2, 3, 4, 5, 6, 7, 8) {
			for _, acks := range []int{0, 1, 2, 64, math.MaxInt, -1, math.MinInt} {
				f := opened(t, 2, kind, 5, 6)
				reads := kind == api.GetS && slices.Contains(readings(), own) && acks == 0
				writes := kind == api.GetM && own == api.Modified && acks >= 0
				if reads || writes {
					wantData(t, f, 6, acks, own, words(1), api.OK)
					wantMisses(t, f, fresh(5, kind), mshr.Miss{Line: 6, Kind: kind, Needs: acks, Own: own, Words: words(1)})
					continue
				}
				steady(t, f, func() { wantData(t, f, 6, acks, own, words(1), api.ErrTable) })
			}
		}
	}
}

// P10.2: who will only read is granted nothing.
func TestGrantOfReaders(t *testing.T) {
	f := opened(t, 2, api.GetS, 5, 6)
	steady(t, f, func() {
		for _, acks := range append(extremes(), 0, 1, 2) {
			wantGrant(t, f, 5, acks, api.ErrTable)
			wantGrant(t, f, 6, acks, api.ErrTable)
		}
	})
}

// P10.2, P10.4: fewer acks than it got are not what it needs, nor is a number below 0; just as many are.
func TestFewerAcksThanItGot(t *testing.T) {
	for got := range 6 {
		f := opened(t, 1, api.GetM, 5)
		wantAcks(t, f, 5, got)
		steady(t, f, func() {
			for _, acks := range append(numbers(got), -1, -2, -got, -64, math.MinInt) {
				if acks == got {
					continue
				}
				wantData(t, f, 5, acks, api.Modified, words(1), api.ErrTable)
				wantGrant(t, f, 5, acks, api.ErrTable)
			}
		})
		g := opened(t, 1, api.GetM, 5)
		wantAcks(t, g, 5, got)
		wantData(t, f, 5, got, api.Modified, words(1), api.OK)
		wantGrant(t, g, 5, got, api.OK)
		wantOwe(t, f, mshr.Miss{Line: 5, Kind: api.GetM, Needs: got, Got: got, Own: api.Modified, Words: words(1)})
		wantOwe(t, g, mshr.Miss{Line: 5, Kind: api.GetM, Needs: got, Got: got, Own: api.Modified, Granted: true})
	}
}

// P10.2: words or a grant come once: where what it needs is known, neither does, whether acks are still to come, all came, or it owes.
func TestKnownAlready(t *testing.T) {
	f := all(t)
	steady(t, f, func() {
		for _, line := range []int{1, 2, 5, 6, 7} {
			for _, acks := range append(numbers(5), -1, 64) {
				for own := range 6 {
					wantData(t, f, line, acks, own, words(9), api.ErrTable)
				}
				wantGrant(t, f, line, acks, api.ErrTable)
			}
		}
	})
}

// P10.2: who will only read gets no acks, ahead of the words and behind them.
func TestAckOfReaders(t *testing.T) {
	f := all(t)
	steady(t, f, func() {
		for _, line := range []int{0, 1, 2} {
			wantAck(t, f, line, api.ErrTable)
		}
	})
}

// P10.2, P10.4: who got all acks that it needs gets no more, also where it needs none, and where it owes.
func TestAckTooMany(t *testing.T) {
	f := all(t)
	steady(t, f, func() {
		wantAck(t, f, 6, api.ErrTable)
		wantAck(t, f, 7, api.ErrTable)
	})
	wantAcks(t, f, 5, 2)
	steady(t, f, func() { wantAck(t, f, 5, api.ErrTable) })
	f.Owe(5)
	f.Owe(6)
	steady(t, f, func() {
		wantAck(t, f, 5, api.ErrTable)
		wantAck(t, f, 6, api.ErrTable)
	})
}

// P10.3: what doesn't owe yet isn't closed, whatever came.
func TestCloseTooEarly(t *testing.T) {
	f := all(t)
	steady(t, f, func() {
		for _, line := range []int{0, 1, 3, 4, 5, 6} {
			wantClose(t, f, line, api.ErrTable)
		}
	})
	wantClose(t, f, 7, api.OK)
	wantClose(t, f, 2, api.OK)
	wantLines(t, f, 0, 1, 3, 4, 5, 6)
}

// P10.3: what was asked in vain whether it owes is as it was.
func TestOweInVain(t *testing.T) {
	f := all(t)
	steady(t, f, func() {
		for _, line := range []int{0, 2, 3, 4, 5, 7, 8, -1} {
			wantNoOwe(t, f, line)
		}
	})
	wantOwing(t, f, 2)
}
