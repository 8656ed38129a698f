package cache_test

import (
	"testing"

	"mesne/api"
	"mesne/array"
	"mesne/mshr"
)

// P14.2, P14.4, P14.5: the chapter's example.
func TestExample(t *testing.T) {
	u := simple(t)
	u.asks(5, api.GetM)
	u.takes(u.data(5, api.Modified, 0, words(4, 1)))
	u.has(5, api.Modified, words(4, 1), true)
	u.finishes(5)
	u.has(5, api.Modified, words(4, 1), false)
}

// P14.1: a new cache has nothing, of each core of each machine.
func TestNewIsEmpty(t *testing.T) {
	for _, c := range machines() {
		for core := range c.Cores {
			u := made(t, c, core)
			for at, w := range u.view().ways {
				if w != (array.Way{}) {
					t.Fatalf("%+v: way %d: %+v", c, at, w)
				}
			}
			u.misses()
			u.written()
			u.finishesNone()
			for line := range c.Lines {
				u.lacks(line)
			}
		}
	}
}

// P14.1: Way tells what lies where, Look the way that has a line, Misses and Written all, in order.
func TestWhatACacheTells(t *testing.T) {
	u := simple(t)
	u.brings(4, api.Shared, words(4, 1))
	u.brings(7, api.Modified, words(4, 2))
	u.asks(2, api.GetM)
	u.asks(7+2, api.GetS)
	u.hasWay(0, 0, array.Way{State: api.Shared, Line: 4, Words: words(4, 1)})
	u.hasWay(0, 1, array.Way{Line: 2, Locked: true})
	u.hasWay(1, 0, array.Way{State: api.Modified, Line: 7, Words: words(4, 2)})
	u.hasWay(1, 1, array.Way{Line: 9, Locked: true})
	u.has(4, api.Shared, words(4, 1), false)
	u.has(2, api.Invalid, api.Words{}, true)
	u.has(7, api.Modified, words(4, 2), false)
	u.has(9, api.Invalid, api.Words{}, true)
	u.lacks(0)
	u.lacks(1)
	u.misses(opened(2, api.GetM), opened(9, api.GetS))
	u.written()
	u.puts(1, 0, u.put(7, words(4, 2)))
	u.lacks(7)
	u.hasWay(1, 0, array.Way{Line: 7})
	u.written(entry(7, words(4, 2), true))
}

// P14.1: what is in the buffer and the misses stand in the order in which they came.
func TestInOrder(t *testing.T) {
	c := example()
	c.Writebacks = 3
	u := made(t, c, 1)
	for _, line := range []int{9, 3, 6} {
		u.buffers(line, true, words(4, line))
	}
	u.written(entry(9, words(4, 9), true), entry(3, words(4, 3), true), entry(6, words(4, 6), true))
	u.takes(u.fromHome(api.PutAck, 3))
	u.written(entry(9, words(4, 9), true), entry(6, words(4, 6), true))
	u.buffers(3, false, words(4, 1))
	u.written(entry(9, words(4, 9), true), entry(6, words(4, 6), true), entry(3, words(4, 1), false))
	for _, line := range []int{8, 1, 4} {
		u.asks(line, api.GetM)
	}
	u.misses(opened(8, api.GetM), opened(1, api.GetM), opened(4, api.GetM))
	u.takes(u.data(1, api.Modified, 0, words(4, 1)))
	u.finishes(1)
	u.misses(opened(8, api.GetM), opened(4, api.GetM))
	u.asks(5, api.GetS)
	u.misses(opened(8, api.GetM), opened(4, api.GetM), opened(5, api.GetS))
}

// P14.2: lines that aren't there are asked for, and laid, each in the least free way of its set; of the least line and the greatest, too.
func TestAskOfWhatIsNotThere(t *testing.T) {
	for _, c := range machines() {
		for _, kind := range []int{api.GetS, api.GetM} {
			for _, line := range []int{0, c.Lines / 2, c.Lines - 1} {
				u := made(t, c, c.Cores-1)
				u.asks(line, kind)
				u.hasWay(line%c.Sets, 0, array.Way{Line: line, Locked: true})
				u.has(line, api.Invalid, api.Words{}, true)
				u.misses(opened(line, kind))
				u.written()
				u.finishesNone()
			}
		}
	}
}

// P14.2: a set is filled way by way, other sets stay as they are, and a way in between that is free is taken first.
func TestAskTakesTheLeastFreeWay(t *testing.T) {
	u := made(t, sized(2, 2, 2, 4, 2, 16, 8, 8), 0)
	for way, line := range []int{1, 9, 5, 3} {
		u.brings(line, readables()[way], words(2, line))
		u.hasWay(1, way, array.Way{State: readables()[way], Line: line, Words: words(2, line)})
		u.hasWay(0, way, array.Way{})
	}
	u.evicts(1, 0)
	u.puts(1, 2, u.put(5, words(2, 5)))
	u.asks(11, api.GetS)
	u.hasWay(1, 0, array.Way{Line: 11, Locked: true})
	u.hasWay(1, 2, array.Way{Line: 5})
	u.asks(13, api.GetM)
	u.hasWay(1, 2, array.Way{Line: 13, Locked: true})
	u.asksInVain(15, api.GetM, api.ErrName)
	u.asks(14, api.GetM)
	u.hasWay(0, 0, array.Way{Line: 14, Locked: true})
}

// P14.2: a line that can be read only is asked for to be written; it keeps its way, its state and its words, and is locked.
func TestAskToWriteWhatIsThere(t *testing.T) {
	for _, state := range []int{api.Shared, api.Owned} {
		u := simple(t)
		u.brings(2, api.Shared, words(4, 1))
		u.brings(4, state, words(4, 2))
		u.asksInVain(4, api.GetS, api.ErrTwice)
		u.asks(4, api.GetM)
		u.has(4, state, words(4, 2), true)
		u.hasWay(0, 1, array.Way{State: state, Line: 4, Words: words(4, 2), Locked: true})
		u.misses(opened(4, api.GetM))
	}
}

// P14.2: it is asked for also where no way of its set is free.
func TestAskToWriteInAFullSet(t *testing.T) {
	u := made(t, sized(2, 1, 1, 1, 1, 2, 1, 1), 1)
	u.brings(1, api.Owned, words(1, 1))
	u.asksInVain(0, api.GetM, api.ErrName)
	u.asks(1, api.GetM)
	u.has(1, api.Owned, words(1, 1), true)
}

// P14.2: what can be read isn't asked for to be read, and what can be written, not at all.
func TestAskOfWhatIsHad(t *testing.T) {
	for _, state := range readables() {
		u := simple(t)
		u.brings(4, state, words(4, 2))
		u.asksInVain(4, api.GetS, api.ErrTwice)
		if state == api.Exclusive || state == api.Modified {
			u.asksInVain(4, api.GetM, api.ErrTwice)
		}
	}
}

// P14.2: a line of which there is a miss isn't asked for again, whatever came of it, and whether it can be read or not.
func TestAskOfAMiss(t *testing.T) {
	both := func(u user) {
		u.asksInVain(4, api.GetS, api.ErrTwice)
		u.asksInVain(4, api.GetM, api.ErrTwice)
	}
	for _, kind := range []int{api.GetS, api.GetM} {
		u := simple(t)
		u.asks(4, kind)
		both(u)
		own := api.Shared
		if kind == api.GetM {
			own = api.Modified
		}
		u.takes(u.data(4, own, 0, words(4, 1)))
		both(u)
	}
	for _, state := range []int{api.Shared, api.Owned} {
		u := simple(t)
		u.brings(4, state, words(4, 2))
		u.asks(4, api.GetM)
		both(u)
	}
	u := simple(t)
	u.asks(4, api.GetM)
	u.takes(u.data(4, api.Modified, 2, words(4, 1)), u.ack(4, 0))
	both(u)
}

// P14.2: a line that is in the buffer isn't asked for, Live or not, till it is dropped; then it is.
func TestAskOfTheBuffer(t *testing.T) {
	for _, live := range []bool{true, false} {
		for _, kind := range []int{api.GetS, api.GetM} {
			u := simple(t)
			u.buffers(4, live, words(4, 1))
			u.asksInVain(4, api.GetS, api.ErrTwice)
			u.asksInVain(4, api.GetM, api.ErrTwice)
			u.takes(u.fromHome(api.PutAck, 4))
			u.asks(4, kind)
			u.has(4, api.Invalid, api.Words{}, true)
		}
	}
}

// P14.2: a line that was there, and was let go, is asked for again, also where its way kept its number.
func TestAskOfWhatWasThere(t *testing.T) {
	u := simple(t)
	u.brings(4, api.Shared, words(4, 1))
	u.evicts(0, 0)
	u.hasWay(0, 0, array.Way{Line: 4})
	u.asks(4, api.GetS)
	u.hasWay(0, 0, array.Way{Line: 4, Locked: true})
	u.takes(u.data(4, api.Exclusive, 0, words(4, 2)))
	u.finishes(4)
	u.answers(u.forward(api.FwdM, 4, 3, 0), u.told(4, 3, api.Modified, 0, words(4, 2)))
	u.lacks(4)
	u.asks(4, api.GetM)
	u.has(4, api.Invalid, api.Words{}, true)
}

// P14.2: as many misses as may be, and none more; also one that owes is one, till it is closed.
func TestAskOfFullMisses(t *testing.T) {
	for count := 1; count <= 8; count++ {
		u := made(t, sized(2, 1, 16, 2, 1, 32, count, 1), 0)
		for line := range count {
			u.asks(line, api.GetM)
		}
		u.asksInVain(count, api.GetS, api.ErrFull)
		u.asksInVain(31, api.GetM, api.ErrFull)
		u.takes(u.data(0, api.Modified, 0, words(1, 1)))
		u.asksInVain(count, api.GetM, api.ErrFull)
		u.finishes(0)
		u.asks(count, api.GetM)
		u.asksInVain(31, api.GetS, api.ErrFull)
	}
}

// P14.2: a set without a free way: all are full, or locked, or some of both; an Invalid way that isn't locked is free.
func TestAskOfFullSets(t *testing.T) {
	u := simple(t)
	u.brings(0, api.Modified, words(4, 1))
	u.asks(2, api.GetS)
	u.asksInVain(4, api.GetS, api.ErrName)
	u.asksInVain(4, api.GetM, api.ErrName)
	u.asks(5, api.GetM)
	u.takes(u.data(2, api.Shared, 0, words(4, 2)))
	u.finishes(2)
	u.asksInVain(4, api.GetS, api.ErrName)
	u.evicts(0, 1)
	u.asks(4, api.GetS)
	u.has(4, api.Invalid, api.Words{}, true)
}

// P14.2: of several errors the first one is told.
func TestAskOfSeveralErrors(t *testing.T) {
	// One way, one miss, one writeback: line 3 is there, line 1 in the buffer.
	full := func() user {
		u := made(t, sized(2, 1, 1, 1, 1, 4, 1, 1), 0)
		u.buffers(1, true, words(1, 1))
		u.brings(3, api.Owned, words(1, 3))
		u.asks(3, api.GetM)
		return u
	}
	u := full()
	u.asksInVain(3, api.Put, api.ErrArg)    // and a miss
	u.asksInVain(1, api.FwdS, api.ErrArg)   // and in the buffer
	u.asksInVain(4, api.GetS, api.ErrArg)   // and full
	u.asksInVain(0, 0, api.ErrArg)          // and full, without a free way
	u.asksInVain(3, api.GetM, api.ErrTwice) // and full
	u.asksInVain(1, api.GetM, api.ErrTwice) // and full, without a free way
	u.asksInVain(1, api.GetS, api.ErrTwice)
	u.asksInVain(0, api.GetS, api.ErrFull) // and without a free way
	u.asksInVain(2, api.GetM, api.ErrFull)
	u.takes(u.grant(3, 0))
	u.asksInVain(3, api.GetM, api.ErrTwice) // also since it can be written
	u.finishes(3)
	u.asksInVain(3, api.GetM, api.ErrTwice)
	u.asksInVain(1, api.GetM, api.ErrTwice) // and without a free way
	u.asksInVain(2, api.GetM, api.ErrName)
}

// P14.3: a Shared line is gone without a word; its words are told to nobody, and it isn't in the buffer.
func TestEvictOfShared(t *testing.T) {
	for _, c := range machines() {
		u := made(t, c, 0)
		line := c.Lines - 1
		u.brings(line, api.Shared, words(c.Words, 1))
		u.evicts(line%c.Sets, 0)
		u.lacks(line)
		u.hasWay(line%c.Sets, 0, array.Way{Line: line})
		u.written()
		u.misses()
	}
}

// P14.3: an owned line goes to the buffer, and its words home.
func TestEvictOfOwned(t *testing.T) {
	for _, c := range machines() {
		for _, state := range owners() {
			if c.Cores == 1 && state == api.Owned {
				continue
			}
			u := made(t, c, c.Cores-1)
			line := c.Lines - 1
			u.brings(line, state, words(c.Words, 1))
			u.puts(line%c.Sets, 0, u.put(line, words(c.Words, 1)))
			u.lacks(line)
			u.hasWay(line%c.Sets, 0, array.Way{Line: line})
			u.written(entry(line, words(c.Words, 1), true))
			u.misses()
		}
	}
}

// P14.3: one of several ways is evicted, and the others stay as they are.
func TestEvictOfOneWay(t *testing.T) {
	u := made(t, sized(2, 1, 1, 4, 1, 8, 2, 4), 0)
	for way, state := range readables() {
		u.brings(way, state, words(1, way))
	}
	u.puts(0, 2, u.put(2, words(1, 2)))
	for way, state := range readables() {
		if way != 2 {
			u.has(way, state, words(1, way), false)
		}
	}
	u.lacks(2)
}

// P14.3: there are no such ways, or nothing is in them; a line that was evicted isn't evicted again.
func TestEvictOfNothing(t *testing.T) {
	u := simple(t)
	u.evictsInVain(0, 0, api.ErrName)
	u.evictsInVain(1, 1, api.ErrName)
	u.brings(4, api.Shared, words(4, 1))
	u.evicts(0, 0)
	u.evictsInVain(0, 0, api.ErrName)
	u.brings(4, api.Modified, words(4, 1))
	u.puts(0, 0, u.put(4, words(4, 1)))
	u.evictsInVain(0, 0, api.ErrName)
}

// P14.3: a locked way stays; one that is Invalid, too, is told to be none.
func TestEvictOfLocked(t *testing.T) {
	for _, state := range []int{api.Shared, api.Owned} {
		u := simple(t)
		u.brings(4, state, words(4, 1))
		u.asks(4, api.GetM)
		u.evictsInVain(0, 0, api.ErrTwice)
	}
	for _, kind := range []int{api.GetS, api.GetM} {
		u := simple(t)
		u.asks(4, kind)
		u.evictsInVain(0, 0, api.ErrName)
	}
	for _, own := range []int{api.Shared, api.Exclusive} {
		u := simple(t)
		u.asks(4, api.GetS)
		u.takes(u.data(4, own, 0, words(4, 1)))
		u.evictsInVain(0, 0, api.ErrTwice)
		u.finishes(4)
		if own == api.Shared {
			u.evicts(0, 0)
		} else {
			u.puts(0, 0, u.put(4, words(4, 1)))
		}
	}
}

// P14.3: without room in the buffer owned lines stay, and Shared ones go; with room again, they go, too.
func TestEvictOfFullBuffer(t *testing.T) {
	for room := 1; room <= 8; room++ {
		c := sized(2, 1, 1, 4, 1, 16, 2, room)
		for way, state := range readables() {
			u := made(t, c, 0)
			for line := range room {
				u.buffers(4+line, line%2 == 0, words(1, line))
			}
			for line, state := range readables() {
				u.brings(line, state, words(1, line))
			}
			if state == api.Shared {
				u.evicts(0, way)
				u.lacks(way)
				continue
			}
			u.evictsInVain(0, way, api.ErrFull)
			u.takes(u.fromHome(api.PutAck, 4))
			u.puts(0, way, u.put(way, words(1, way)))
		}
	}
}

// P14.3: of several errors the first one is told.
func TestEvictOfSeveralErrors(t *testing.T) {
	u := made(t, sized(2, 1, 1, 2, 1, 4, 2, 1), 0)
	u.buffers(3, true, words(1, 3))
	u.evictsInVain(0, 0, api.ErrName) // and without room
	u.evictsInVain(0, 2, api.ErrName)
	u.brings(0, api.Owned, words(1, 0))
	u.evictsInVain(0, 0, api.ErrFull)
	u.asks(0, api.GetM)
	u.evictsInVain(0, 0, api.ErrTwice) // and without room
	u.asks(1, api.GetS)
	u.evictsInVain(0, 1, api.ErrName) // and locked, and without room
}

// P14.2, P14.3: the most sizes: as many misses, ways and evicted lines as may be, of each set in turn.
func TestMostOfAll(t *testing.T) {
	c := most()
	u := made(t, c, 63)
	for line := range c.Sets * c.Ways {
		u.brings(line, api.Modified, words(8, line))
	}
	u.asksInVain(c.Lines-1, api.GetS, api.ErrName)
	for way := range c.Writebacks {
		line := 63 + way*c.Sets
		u.puts(63, way, u.put(line, words(8, line)))
	}
	u.evictsInVain(0, 0, api.ErrFull)
	var want []mshr.Miss
	for i := range c.Mshrs {
		line := 1023 - 64*i
		u.asks(line, api.GetS)
		want = append(want, opened(line, api.GetS))
		u.hasWay(63, i, array.Way{Line: line, Locked: true})
	}
	u.misses(want...)
	u.asksInVain(900, api.GetS, api.ErrFull)
}
