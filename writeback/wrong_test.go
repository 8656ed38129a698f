package writeback_test

import (
	"math"
	"testing"

	"mesne/api"
	"mesne/writeback"
)

// extremes are numbers far from those that are meant.
func extremes() []int {
	return []int{
		math.MinInt, math.MinInt + 1, -1 << 32, -1 << 31, -64, -9, -8, -2, -1, 9, 10, 12, 64, 1 << 31, 1<<31 + 1,
		1 << 32, 1<<32 + 1, 1<<32 + 2, 1<<32 + 8, 1 << 62, math.MaxInt - 1, math.MaxInt,
	}
}

// mixed is a full buffer of lines 0 to 7: those that are even are Live.
func mixed(t *testing.T) *writeback.Buffer {
	t.Helper()
	b := holding(t, mostRoom, numbers(mostRoom)...)
	for line := 1; line < mostRoom; line += 2 {
		wantGive(t, b, line, words(line), api.OK)
	}
	return b
}

// emptied is a buffer in which lines 100 and 8 were, one of them Live till the end.
func emptied(t *testing.T, room int) *writeback.Buffer {
	t.Helper()
	b := holding(t, room, 100, 8)
	wantGive(t, b, 8, words(8), api.OK)
	wantDrop(t, b, 100, api.OK)
	wantDrop(t, b, 8, api.OK)
	return b
}

// steady tells that a buffer is behind something as it was ahead.
func steady(t *testing.T, b *writeback.Buffer, do func()) {
	t.Helper()
	before, left := b.List(), b.Left()
	do()
	wantEntries(t, b, before...)
	wantLeft(t, b, left)
}

// P11.1: there is no buffer of a room below 1 or above 8.
func TestNewOfWrongRoom(t *testing.T) {
	for _, room := range append(extremes(), 0) {
		if b, e := writeback.New(room); b != nil || e != api.ErrArg {
			t.Fatalf("%d: %v, %d", room, b, e)
		}
	}
}

// P11.1: a line that is there isn't put again, with the same words or with others, Live or not; that is told ahead of the room.
func TestPutTwice(t *testing.T) {
	for _, b := range []*writeback.Buffer{holding(t, 1, 5), holding(t, 2, 5), holding(t, 4, 1, 5, -2), mixed(t)} {
		steady(t, b, func() {
			for _, e := range b.List() {
				wantPut(t, b, e.Line, e.Words, api.ErrTwice)
				wantPut(t, b, e.Line, words(77), api.ErrTwice)
				wantPut(t, b, e.Line, api.Words{}, api.ErrTwice)
			}
		})
	}
}

// P11.1, P11.3: a line whose words were given isn't put again till it was dropped: it stays as it is.
func TestPutOfGiven(t *testing.T) {
	b := holding(t, 3, 5, 6)
	wantGive(t, b, 5, words(5), api.OK)
	steady(t, b, func() { wantPut(t, b, 5, words(9), api.ErrTwice) })
	wantNeither(t, b, 5, api.ErrTable)
	wantDrop(t, b, 5, api.OK)
	wantPut(t, b, 5, words(9), api.OK)
	wantEntries(t, b, live(6), writeback.Entry{Line: 5, Words: words(9), Live: true})
}

// P11.1: there are no more entries than the room, also where none of them is Live; where one was dropped there is room again.
func TestPutOfFull(t *testing.T) {
	for room := 1; room <= mostRoom; room++ {
		b := holding(t, room, numbers(room)...)
		wantFull := func() {
			for _, line := range append(extremes(), 100) {
				wantPut(t, b, line, words(1), api.ErrFull)
				wantGone(t, b, line)
			}
		}
		steady(t, b, wantFull)
		for line := range room {
			wantGive(t, b, line, words(line), api.OK)
			steady(t, b, wantFull)
		}
		wantDrop(t, b, room/2, api.OK)
		wantPut(t, b, 100, words(1), api.OK)
		wantLeft(t, b, 0)
	}
}

// P11.2: of a line that isn't there, or isn't any more, nothing is shared, given or dropped.
func TestNoSuchLine(t *testing.T) {
	for _, b := range []*writeback.Buffer{empty(t, 1), empty(t, 8), emptied(t, 3), holding(t, 8, 0, 1), mixed(t)} {
		steady(t, b, func() {
			for _, line := range append(extremes(), 8, 100) {
				wantNeither(t, b, line, api.ErrName)
				wantDrop(t, b, line, api.ErrName)
				wantGone(t, b, line)
			}
		})
	}
}

// P11.2: line 0 isn't there till it was put.
func TestLineZero(t *testing.T) {
	for _, b := range []*writeback.Buffer{empty(t, 2), holding(t, 2, 3)} {
		steady(t, b, func() {
			wantNeither(t, b, 0, api.ErrName)
			wantDrop(t, b, 0, api.ErrName)
			wantGone(t, b, 0)
		})
	}
}

// P11.2, P11.3: what isn't Live is neither shared nor given, as often as one asks; it is dropped all the same.
func TestNotLive(t *testing.T) {
	b := mixed(t)
	steady(t, b, func() {
		for range 3 {
			for line := 1; line < mostRoom; line += 2 {
				wantNeither(t, b, line, api.ErrTable)
			}
		}
	})
	for line := 1; line < mostRoom; line += 2 {
		wantDrop(t, b, line, api.OK)
		wantNeither(t, b, line, api.ErrName)
	}
	wantEntries(t, b, live(0), live(2), live(4), live(6))
}
