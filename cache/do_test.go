package cache_test

import (
	"testing"

	"mesne/api"
	"mesne/array"
	"mesne/mshr"
)

// P14.5: where no miss owes there is nothing to finish, whatever else came.
func TestFinishOfNone(t *testing.T) {
	u := simple(t)
	u.finishesNone()
	u.asks(4, api.GetS)
	u.finishesNone()
	u.asks(6, api.GetM)
	u.takes(u.ack(6, 0))
	u.finishesNone()
	u.brings(5, api.Owned, words(4, 1))
	u.asks(5, api.GetM)
	u.takes(u.grant(5, 2), u.ack(5, 3))
	u.finishesNone()
	u.takes(u.ack(5, 0))
	u.finishes(5)
	u.finishesNone()
}

// P14.5: of each machine, one that owes is closed, its line let go, and its home told.
func TestFinishOfOne(t *testing.T) {
	for _, c := range machines() {
		for _, line := range []int{0, c.Lines - 1} {
			u := made(t, c, c.Cores/2)
			u.asks(line, api.GetM)
			u.takes(u.data(line, api.Modified, 0, words(c.Words, 1)))
			u.has(line, api.Modified, words(c.Words, 1), true)
			u.finishes(line)
			u.has(line, api.Modified, words(c.Words, 1), false)
			u.misses()
			u.written()
			u.finishesNone()
		}
	}
}

// P14.5: of several that owe the first one is finished: the one that was asked for first, not the one that came first; those that don't owe are passed over.
func TestFinishOfSeveral(t *testing.T) {
	u := made(t, sized(3, 4, 4, 2, 2, 16, 4, 1), 2)
	for _, line := range []int{9, 3, 12, 6} {
		u.asks(line, api.GetM)
	}
	for _, line := range []int{6, 12, 9} {
		u.takes(u.data(line, api.Modified, 0, words(2, line)))
	}
	u.finishes(9)
	u.has(9, api.Modified, words(2, 9), false)
	u.has(12, api.Modified, words(2, 12), true)
	u.finishes(12)
	owed := mshr.Miss{Line: 6, Kind: api.GetM, Own: api.Modified, Words: words(2, 6), Owes: true}
	u.misses(opened(3, api.GetM), owed)
	u.takes(u.data(3, api.Modified, 0, words(2, 3)))
	u.finishes(3)
	u.finishes(6)
	u.finishesNone()
	u.misses()
	for _, line := range []int{9, 3, 12, 6} {
		u.has(line, api.Modified, words(2, line), false)
	}
}

// P14.5: a line that was let go is gone, if it is Invalid; else it can be evicted, and asked for.
func TestFinishLetsGo(t *testing.T) {
	u := simple(t)
	u.asks(4, api.GetS)
	u.takes(u.data(4, api.Shared, 0, words(4, 1)))
	u.evictsInVain(0, 0, api.ErrTwice)
	u.asksInVain(4, api.GetM, api.ErrTwice)
	u.finishes(4)
	u.asks(4, api.GetM)
	u.takes(u.data(4, api.Modified, 0, words(4, 1)))
	u.answers(u.forward(api.FwdM, 4, 0, 0), u.told(4, 0, api.Modified, 0, words(4, 1)))
	u.has(4, api.Invalid, api.Words{}, true)
	u.finishes(4)
	u.lacks(4)
	u.hasWay(0, 0, array.Way{Line: 4})
	u.asks(6, api.GetS)
	u.hasWay(0, 0, array.Way{Line: 6, Locked: true})
}

// P14.5: each word of a line is loaded, in each state that can be read, locked or not; nothing changes.
func TestLoads(t *testing.T) {
	for _, c := range machines() {
		for _, state := range readables() {
			if c.Cores == 1 && state == api.Owned {
				continue
			}
			u := made(t, c, 0)
			line := c.Lines - 1
			u.brings(line, state, words(c.Words, 5))
			for word := range c.Words {
				u.steady(func() { u.does(load(u.addr(line, word)), words(c.Words, 5)[word]) })
			}
		}
	}
	for _, state := range []int{api.Shared, api.Owned} {
		u := simple(t)
		u.brings(4, state, words(4, 5))
		u.asks(4, api.GetM)
		u.steady(func() { u.does(load(u.addr(4, 3)), words(4, 5)[3]) })
		u.takes(u.data(4, api.Modified, 1, words(4, 6)))
		u.steady(func() { u.does(load(u.addr(4, 3)), words(4, 5)[3]) })
		u.takes(u.ack(4, 0))
		u.steady(func() { u.does(load(u.addr(4, 3)), words(4, 6)[3]) })
	}
}

// P14.5: each word of a line is stored and swapped, in each state that can be written: the others stay, and the line is Modified then.
func TestStoresAndSwaps(t *testing.T) {
	for _, c := range machines() {
		for _, state := range []int{api.Exclusive, api.Modified} {
			for word := range c.Words {
				u := made(t, c, c.Cores-1)
				line := c.Lines - 1
				w := words(c.Words, 5)
				u.brings(line, state, w)
				u.does(store(u.addr(line, word), -7), 0)
				w[word] = -7
				u.has(line, api.Modified, w, false)
				u.does(swap(u.addr(line, word), 9), -7)
				w[word] = 9
				u.has(line, api.Modified, w, false)

				u = made(t, c, 0)
				w = words(c.Words, 5)
				u.brings(line, state, w)
				u.does(swap(u.addr(line, word), 1<<31-1), w[word])
				w[word] = 1<<31 - 1
				u.has(line, api.Modified, w, false)
				u.does(store(u.addr(line, word), -1<<31), 0)
				w[word] = -1 << 31
				u.has(line, api.Modified, w, false)
			}
		}
	}
}

// P14.5: a store of what is there already lets the line be Modified, too; so does a swap.
func TestStoreOfTheSame(t *testing.T) {
	for _, x := range []struct {
		op   func(addr, value int) api.Op
		told int
	}{{store, 0}, {swap, words(4, 2)[1]}} {
		u := simple(t)
		u.brings(4, api.Exclusive, words(4, 2))
		u.does(load(u.addr(4, 1)), words(4, 2)[1])
		u.has(4, api.Exclusive, words(4, 2), false)
		u.does(x.op(u.addr(4, 1), words(4, 2)[1]), x.told)
		u.has(4, api.Modified, words(4, 2), false)
	}
}

// P14.5: a line that is locked is written, if it can be, and stays locked; what its miss brought is told no more.
func TestStoreOfLocked(t *testing.T) {
	for _, own := range []int{api.Exclusive, api.Modified} {
		kind := api.GetS
		if own == api.Modified {
			kind = api.GetM
		}
		u := simple(t)
		u.asks(4, kind)
		u.takes(u.data(4, own, 0, words(4, 2)))
		u.does(store(u.addr(4, 0), 11), 0)
		w := words(4, 2)
		w[0] = 11
		u.has(4, api.Modified, w, true)
		u.finishes(4)
		u.has(4, api.Modified, w, false)
		u.puts(0, 0, u.put(4, w))
	}
}

// P14.5: what can't be read isn't loaded, and what can't be written isn't stored, nor swapped.
func TestDoOfWhatCannotBe(t *testing.T) {
	all := func(u user, line int) {
		for word := range u.c.Words {
			u.doesInVain(load(u.addr(line, word)), api.ErrName)
		}
	}
	writes := func(u user, line int) {
		for word := range u.c.Words {
			u.doesInVain(store(u.addr(line, word), 5), api.ErrName)
			u.doesInVain(swap(u.addr(line, word), 5), api.ErrName)
		}
	}
	both := func(u user, line int) { all(u, line); writes(u, line) }
	for _, c := range machines() {
		u := made(t, c, 0)
		both(u, 0)
		both(u, c.Lines-1)
		u.asks(0, api.GetM)
		both(u, 0)
	}
	u := simple(t)
	u.brings(4, api.Shared, words(4, 1))
	writes(u, 4)
	both(u, 5)
	both(u, 6)
	u.asks(4, api.GetM)
	writes(u, 4)
	u.takes(u.data(4, api.Modified, 1, words(4, 2)))
	writes(u, 4)
	u.takes(u.ack(4, 0))
	u.does(store(u.addr(4, 1), 5), 0)
	u.finishes(4)
	u.answers(u.forward(api.FwdS, 4, 0, 0), u.told(4, 0, api.Shared, 0, api.Words{201, 5, 203, 204}))
	writes(u, 4)
	u.asks(4, api.GetM)
	u.takes(u.grant(4, 1))
	writes(u, 4)
	u.takes(u.ack(4, 0))
	u.does(swap(u.addr(4, 1), 6), 5)
	u.finishes(4)
	u.puts(0, 0, u.put(4, api.Words{201, 6, 203, 204}))
	both(u, 4)
	u.brings(7, api.Shared, words(4, 7))
	u.evicts(1, 0)
	both(u, 7)
}

// P14.5: a store changes no other line.
func TestDoOfOneLine(t *testing.T) {
	u := simple(t)
	for _, line := range []int{4, 6, 5, 7} {
		u.brings(line, api.Exclusive, words(4, line))
	}
	u.does(store(u.addr(6, 0), 1), 0)
	u.does(swap(u.addr(5, 3), 2), words(4, 5)[3])
	u.has(4, api.Exclusive, words(4, 4), false)
	u.has(7, api.Exclusive, words(4, 7), false)
	u.has(6, api.Modified, api.Words{1, 602, 603, 604}, false)
	u.has(5, api.Modified, api.Words{-501, -502, -503, 2}, false)
}

// P14.3, P14.4, P14.5, P14.6: what was written last is what is told to others, and home.
func TestWhatWasWrittenLastIsTold(t *testing.T) {
	u := simple(t)
	u.brings(4, api.Exclusive, words(4, 2))
	w := words(4, 2)
	for i := range 4 {
		u.does(store(u.addr(4, i), 10+i), 0)
		w[i] = 10 + i
	}
	u.answers(u.forward(api.FwdS, 4, 0, 0), u.told(4, 0, api.Shared, 0, w))
	u.asks(4, api.GetM)
	u.takes(u.grant(4, 0))
	u.does(swap(u.addr(4, 2), 55), 12)
	w[2] = 55
	u.finishes(4)
	u.puts(0, 0, u.put(4, w))
	u.written(entry(4, w, true))
	u.answers(u.forward(api.FwdS, 4, 2, 0), u.told(4, 2, api.Shared, 0, w))
	u.answers(u.forward(api.FwdM, 4, 3, 1), u.told(4, 3, api.Modified, 1, w))
}

// P14.6: what one cache tells another one takes: a line goes from core to core, is written by each, and comes home by the last one, with all that was written.
func TestALineAsItGoes(t *testing.T) {
	c := example()
	var all []user
	for core := range c.Cores {
		all = append(all, made(t, c, core))
	}
	w := words(4, 2)
	first := all[0]
	first.brings(6, api.Exclusive, w)
	first.does(store(first.addr(6, 0), 1), 0)
	w[0] = 1
	for core := 1; core < c.Cores; core++ {
		from, to := all[core-1], all[core]
		to.asks(6, api.GetM)
		m := from.forward(api.FwdM, 6, core, 0)
		sent, sends, err := from.k.Take(m)
		if !sends || err != api.OK {
			t.Fatalf("%+v: %v, %d", m, sends, err)
		}
		to.takes(sent)
		to.finishes(6)
		from.lacks(6)
		to.does(swap(to.addr(6, core-1), 100+core), w[core-1])
		w[core-1] = 100 + core
		to.has(6, api.Modified, w, false)
	}
	last := all[c.Cores-1]
	last.puts(0, 0, last.put(6, w))
}

// P14.6: a reader comes, then who owned the line is granted it, and the reader tells that it let it go.
func TestGrantAsItGoes(t *testing.T) {
	c := example()
	owner, reader := made(t, c, 1), made(t, c, 3)
	owner.brings(6, api.Modified, words(4, 2))
	reader.asks(6, api.GetS)
	sent, _, _ := owner.k.Take(owner.forward(api.FwdS, 6, 3, 0))
	reader.takes(sent)
	reader.finishes(6)
	reader.does(load(reader.addr(6, 1)), 202)
	owner.asks(6, api.GetM)
	sent, _, _ = reader.k.Take(reader.forward(api.Inv, 6, 1, 0))
	owner.takes(sent)
	owner.has(6, api.Owned, words(4, 2), true)
	owner.takes(owner.grant(6, 1))
	owner.finishes(6)
	owner.has(6, api.Modified, words(4, 2), false)
	reader.lacks(6)
	reader.doesInVain(load(reader.addr(6, 1)), api.ErrName)
}
