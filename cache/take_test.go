package cache_test

import (
	"testing"

	"mesne/api"
	"mesne/mshr"
)

// P14.4: FwdS of an owned line: it is Owned then, and its words go to who asked, as often as one asks.
func TestFwdSOfOwned(t *testing.T) {
	for _, c := range machines() {
		if c.Cores == 1 {
			continue
		}
		for _, state := range owners() {
			u := made(t, c, c.Cores-1)
			line := c.Lines - 1
			u.brings(line, state, words(c.Words, 3))
			for _, who := range u.others() {
				u.answers(u.forward(api.FwdS, line, who, 0), u.told(line, who, api.Shared, 0, words(c.Words, 3)))
				u.has(line, api.Owned, words(c.Words, 3), false)
			}
		}
	}
}

// P14.4: FwdM of an owned line: it is gone, and its words, and the acks of the message, go to who asked, once.
func TestFwdMOfOwned(t *testing.T) {
	for _, c := range machines() {
		for _, state := range owners() {
			for who := range c.Cores - 1 {
				u := made(t, c, c.Cores-1)
				line := c.Lines - 1
				u.brings(line, state, words(c.Words, 3))
				u.answers(u.forward(api.FwdM, line, who, who), u.told(line, who, api.Modified, who, words(c.Words, 3)))
				u.lacks(line)
				u.written()
				u.hasNoEntry(u.forward(api.FwdM, line, who, who))
				u.hasNoEntry(u.forward(api.FwdS, line, who, 0))
			}
		}
	}
}

// P14.4: a line that isn't owned is told to nobody: Shared, Invalid and locked, gone, never there.
func TestForwardsOfWhatIsNotOwned(t *testing.T) {
	both := func(u user, line int) {
		u.hasNoEntry(u.forward(api.FwdS, line, 3, 0))
		u.hasNoEntry(u.forward(api.FwdM, line, 3, 0))
		u.hasNoEntry(u.forward(api.FwdM, line, 0, 4))
	}
	u := simple(t)
	both(u, 4)
	u.asks(4, api.GetS)
	both(u, 4)
	u.takes(u.data(4, api.Shared, 0, words(4, 1)))
	both(u, 4)
	u.finishes(4)
	both(u, 4)
	u.asks(4, api.GetM)
	both(u, 4)
	u.takes(u.data(4, api.Modified, 1, words(4, 2)))
	both(u, 4)
	u.takes(u.ack(4, 2))
	both(u, 5)
	u.finishes(4)
	u.answers(u.forward(api.FwdM, 4, 3, 0), u.told(4, 3, api.Modified, 0, words(4, 2)))
	both(u, 4)
}

// P14.4: an owned line is told also while it is locked; of FwdM it is Invalid then, and its way stays its own.
func TestForwardsOfLocked(t *testing.T) {
	for _, kind := range []int{api.FwdS, api.FwdM} {
		u := simple(t)
		u.brings(2, api.Shared, words(4, 1))
		u.brings(4, api.Owned, words(4, 2))
		u.asks(4, api.GetM)
		if kind == api.FwdS {
			u.answers(u.forward(kind, 4, 3, 0), u.told(4, 3, api.Shared, 0, words(4, 2)))
			u.has(4, api.Owned, words(4, 2), true)
		} else {
			u.answers(u.forward(kind, 4, 3, 2), u.told(4, 3, api.Modified, 2, words(4, 2)))
			u.has(4, api.Invalid, api.Words{}, true)
		}
		u.asksInVain(6, api.GetS, api.ErrName)
		u.misses(opened(4, api.GetM))
	}
}

// P14.4: a line whose miss owes is told as any other, and stays locked.
func TestForwardsOfWhatOwes(t *testing.T) {
	for _, own := range []int{api.Exclusive, api.Modified} {
		kind := api.GetS
		if own == api.Modified {
			kind = api.GetM
		}
		u := simple(t)
		u.asks(4, kind)
		u.takes(u.data(4, own, 0, words(4, 1)))
		u.answers(u.forward(api.FwdS, 4, 0, 0), u.told(4, 0, api.Shared, 0, words(4, 1)))
		u.has(4, api.Owned, words(4, 1), true)
		u.answers(u.forward(api.FwdM, 4, 2, 3), u.told(4, 2, api.Modified, 3, words(4, 1)))
		u.has(4, api.Invalid, api.Words{}, true)
		u.finishes(4)
		u.lacks(4)
	}
}

// P14.4: a line in the buffer that is Live: shared as often as one likes, given once, and then neither, till it is there again.
func TestForwardsOfTheBuffer(t *testing.T) {
	for _, state := range owners() {
		u := simple(t)
		u.brings(6, state, words(4, 1))
		u.puts(0, 0, u.put(6, words(4, 1)))
		for _, who := range u.others() {
			u.answers(u.forward(api.FwdS, 6, who, 0), u.told(6, who, api.Shared, 0, words(4, 1)))
			u.written(entry(6, words(4, 1), true))
			u.lacks(6)
		}
		u.answers(u.forward(api.FwdM, 6, 3, 2), u.told(6, 3, api.Modified, 2, words(4, 1)))
		u.written(entry(6, words(4, 1), false))
		u.hasNoEntry(u.forward(api.FwdS, 6, 3, 0))
		u.hasNoEntry(u.forward(api.FwdM, 6, 3, 0))
		u.takes(u.fromHome(api.PutAck, 6))
		u.written()
		u.hasNoEntry(u.forward(api.FwdM, 6, 3, 0))
		u.lacks(6)
	}
}

// P14.4: of several lines in the buffer the one that is asked for is told, and the others stay as they are.
func TestForwardsOfOneOfTheBuffer(t *testing.T) {
	u := simple(t)
	u.buffers(4, true, words(4, 1))
	u.buffers(5, true, words(4, 2))
	u.brings(8, api.Modified, words(4, 3))
	u.answers(u.forward(api.FwdM, 5, 3, 1), u.told(5, 3, api.Modified, 1, words(4, 2)))
	u.answers(u.forward(api.FwdS, 4, 2, 0), u.told(4, 2, api.Shared, 0, words(4, 1)))
	u.hasNoEntry(u.forward(api.FwdS, 5, 2, 0))
	u.written(entry(4, words(4, 1), true), entry(5, words(4, 2), false))
	u.has(8, api.Modified, words(4, 3), false)
}

// P14.4: Inv of a line that is Shared: it is gone; who asked is told.
func TestInvOfShared(t *testing.T) {
	for _, c := range machines() {
		for who := range c.Cores - 1 {
			u := made(t, c, c.Cores-1)
			line := c.Lines - 1
			u.brings(line, api.Shared, words(c.Words, 3))
			u.answers(u.forward(api.Inv, line, who, 0), u.acked(line, who))
			u.lacks(line)
			u.steady(func() { u.answers(u.forward(api.Inv, line, who, 0), u.acked(line, who)) })
		}
	}
}

// P14.4: Inv of a Shared line that is locked: it is Invalid, and locked still.
func TestInvOfLocked(t *testing.T) {
	u := simple(t)
	u.brings(4, api.Shared, words(4, 1))
	u.asks(4, api.GetM)
	u.answers(u.forward(api.Inv, 4, 0, 0), u.acked(4, 0))
	u.has(4, api.Invalid, api.Words{}, true)
	u.misses(opened(4, api.GetM))
	u.steady(func() { u.answers(u.forward(api.Inv, 4, 2, 0), u.acked(4, 2)) })
	u.takes(u.data(4, api.Modified, 0, words(4, 2)))
	u.has(4, api.Modified, words(4, 2), true)

	u = simple(t)
	u.asks(4, api.GetS)
	u.takes(u.data(4, api.Shared, 0, words(4, 1)))
	u.answers(u.forward(api.Inv, 4, 3, 0), u.acked(4, 3))
	u.has(4, api.Invalid, api.Words{}, true)
	u.finishes(4)
	u.lacks(4)
}

// P14.4: Inv of a line that is Invalid, gone, in the buffer, or never was there: who asked is told, and nothing changes.
func TestInvOfWhatIsNotThere(t *testing.T) {
	none := func(u user, line int) {
		for _, who := range u.others() {
			u.steady(func() { u.answers(u.forward(api.Inv, line, who, 0), u.acked(line, who)) })
		}
	}
	u := simple(t)
	none(u, 4)
	none(u, 15)
	u.brings(4, api.Shared, words(4, 1))
	none(u, 6)
	u.evicts(0, 0)
	none(u, 4)
	u.asks(4, api.GetM)
	none(u, 4)
	u.buffers(5, true, words(4, 2))
	none(u, 5)
	u.answers(u.forward(api.FwdM, 5, 2, 0), u.told(5, 2, api.Modified, 0, words(4, 2)))
	none(u, 5)
	u.written(entry(5, words(4, 2), false))
}

// P14.4: an owned line isn't let go by Inv, locked or not.
func TestInvOfOwned(t *testing.T) {
	for _, state := range owners() {
		u := simple(t)
		u.brings(4, state, words(4, 1))
		u.hasNoEntry(u.forward(api.Inv, 4, 3, 0))
		if state == api.Owned {
			u.asks(4, api.GetM)
			u.hasNoEntry(u.forward(api.Inv, 4, 3, 0))
			u.takes(u.grant(4, 1))
			u.hasNoEntry(u.forward(api.Inv, 4, 3, 0))
		}
	}
}

// P14.4: words to read: the line has them, and the state that they bring; from the home, or from another core.
func TestDataToRead(t *testing.T) {
	for _, c := range machines() {
		for _, own := range []int{api.Shared, api.Exclusive} {
			u := made(t, c, c.Cores-1)
			line := c.Lines - 1
			u.asks(line, api.GetS)
			u.takes(u.data(line, own, 0, words(c.Words, 2)))
			u.has(line, own, words(c.Words, 2), true)
			u.misses(mshr.Miss{Line: line, Kind: api.GetS, Own: own, Words: words(c.Words, 2), Owes: true})
			u.finishes(line)
			u.has(line, own, words(c.Words, 2), false)
		}
		if c.Cores > 1 {
			u := made(t, c, 0)
			u.asks(0, api.GetS)
			u.takes(api.Message{Kind: api.Data, From: 1, Who: 1, Own: api.Shared, Words: words(c.Words, 2)})
			u.has(0, api.Shared, words(c.Words, 2), true)
		}
	}
}

// orders are all orders of so many acks with one other message among them: the place of that.
func orders(acks int) []int { return numbers(acks + 1) }

// P14.4: words to write, and acks, in each order: the line is what it was till the last one came; then it is Modified, and has the words.
func TestDataAndAcks(t *testing.T) {
	for acks := range 4 {
		for _, at := range orders(acks) {
			for _, state := range []int{api.Invalid, api.Shared, api.Owned} {
				u := simple(t)
				had := api.Words{}
				if state != api.Invalid {
					had = words(4, 1)
					u.brings(4, state, had)
				}
				u.asks(4, api.GetM)
				u.comeInOrder(4, acks, at, u.data(4, api.Modified, acks, words(4, 2)), func() { u.has(4, state, had, true) })
				u.has(4, api.Modified, words(4, 2), true)
				u.misses(mshr.Miss{Line: 4, Kind: api.GetM, Needs: acks, Got: acks, Own: api.Modified, Words: words(4, 2), Owes: true})
				u.finishes(4)
				u.has(4, api.Modified, words(4, 2), false)
			}
		}
	}
}

// comeInOrder takes so many acks, from others one by one, with one message at a place among them; ahead of each, and of all, nothing owes.
func (u user) comeInOrder(line, acks, at int, m api.Message, ahead func()) {
	u.t.Helper()
	others := u.others()
	for step := range acks + 1 {
		ahead()
		u.finishesNone()
		switch {
		case step < at:
			u.takes(u.ack(line, others[step]))
		case step == at:
			u.takes(m)
		default:
			u.takes(u.ack(line, others[step-1]))
		}
	}
}

// P14.4: a grant, and acks, in each order: the line is Owned till the last one came; then it is Modified, with the words that it has.
func TestGrantAndAcks(t *testing.T) {
	for acks := range 5 {
		for _, at := range orders(acks) {
			u := simple(t)
			u.brings(4, api.Owned, words(4, 1))
			u.asks(4, api.GetM)
			u.comeInOrder(4, acks, at, u.grant(4, acks), func() { u.has(4, api.Owned, words(4, 1), true) })
			u.has(4, api.Modified, words(4, 1), true)
			u.misses(mshr.Miss{Line: 4, Kind: api.GetM, Needs: acks, Got: acks, Own: api.Modified, Granted: true, Owes: true})
			u.finishes(4)
			u.has(4, api.Modified, words(4, 1), false)
		}
	}
}

// P14.4: what comes of a miss is kept, ahead of what else is to come.
func TestWhatCameIsKept(t *testing.T) {
	u := simple(t)
	u.brings(4, api.Owned, words(4, 1))
	u.asks(4, api.GetM)
	u.asks(2, api.GetM)
	u.takes(u.ack(2, 0), u.ack(2, 3))
	u.misses(opened(4, api.GetM), mshr.Miss{Line: 2, Kind: api.GetM, Needs: -1, Got: 2})
	u.takes(u.grant(4, 2), u.ack(4, 2))
	u.takes(u.data(2, api.Modified, 3, words(4, 5)))
	u.misses(
		mshr.Miss{Line: 4, Kind: api.GetM, Needs: 2, Got: 1, Own: api.Modified, Granted: true},
		mshr.Miss{Line: 2, Kind: api.GetM, Needs: 3, Got: 2, Own: api.Modified, Words: words(4, 5)})
	u.has(4, api.Owned, words(4, 1), true)
	u.has(2, api.Invalid, api.Words{}, true)
	u.takes(u.ack(2, 4))
	u.has(2, api.Modified, words(4, 5), true)
	u.has(4, api.Owned, words(4, 1), true)
}

// P14.4: the most acks that there may be: one of each other core.
func TestAcksOfAllOthers(t *testing.T) {
	u := made(t, most(), 31)
	u.asks(1000, api.GetM)
	u.takes(u.data(1000, api.Modified, 63, words(8, 1)))
	for _, core := range u.others() {
		u.has(1000, api.Invalid, api.Words{}, true)
		u.takes(u.ack(1000, core))
	}
	u.has(1000, api.Modified, words(8, 1), true)
	u.hasNoEntry(u.ack(1000, 0))
}

// P14.4: words, grants and acks without a miss of their line: there never was one, it was closed, the line is there without one, or in the buffer.
func TestWithoutAMiss(t *testing.T) {
	all := func(u user, line int) {
		for _, own := range []int{api.Shared, api.Exclusive, api.Modified} {
			u.hasNoEntry(u.data(line, own, 0, words(4, 9)))
		}
		u.hasNoEntry(u.data(line, api.Modified, 2, words(4, 9)))
		u.hasNoEntry(u.grant(line, 0))
		u.hasNoEntry(u.grant(line, 2))
		u.hasNoEntry(u.ack(line, 3))
	}
	u := simple(t)
	all(u, 4)
	for way, state := range readables() {
		line := []int{4, 5, 6, 7}[way]
		u.brings(line, state, words(4, way))
		all(u, line)
	}
	all(u, 8)
	u = simple(t)
	u.buffers(4, true, words(4, 1))
	u.buffers(5, false, words(4, 1))
	all(u, 4)
	all(u, 5)
}

// P14.4: words that the miss didn't ask for, or that came twice.
func TestDataThatAMissRefuses(t *testing.T) {
	u := simple(t)
	u.asks(4, api.GetS)
	u.asks(6, api.GetM)
	u.hasNoEntry(u.data(4, api.Modified, 0, words(4, 1)))
	u.hasNoEntry(u.data(4, api.Shared, 1, words(4, 1)))
	u.hasNoEntry(u.data(4, api.Exclusive, 1, words(4, 1)))
	u.hasNoEntry(u.data(6, api.Shared, 0, words(4, 1)))
	u.hasNoEntry(u.data(6, api.Exclusive, 0, words(4, 1)))
	u.takes(u.ack(6, 0), u.ack(6, 2))
	u.hasNoEntry(u.data(6, api.Modified, 1, words(4, 1)))
	u.takes(u.data(6, api.Modified, 3, words(4, 1)))
	u.hasNoEntry(u.data(6, api.Modified, 3, words(4, 1)))
	u.hasNoEntry(u.data(6, api.Modified, 2, words(4, 1)))
	u.takes(u.ack(6, 3), u.data(4, api.Shared, 0, words(4, 2)))
	u.hasNoEntry(u.data(6, api.Modified, 3, words(4, 3)))
	u.hasNoEntry(u.data(4, api.Shared, 0, words(4, 3)))
	u.has(6, api.Modified, words(4, 1), true)
	u.has(4, api.Shared, words(4, 2), true)
}

// P14.4: a grant of a line that isn't Owned, though there is a miss of it, of each Kind; and of one that is, which the miss refuses.
func TestGrantThatIsRefused(t *testing.T) {
	u := simple(t)
	u.asks(4, api.GetM)
	u.hasNoEntry(u.grant(4, 0))
	u.asks(6, api.GetS)
	u.hasNoEntry(u.grant(6, 0))
	u.brings(5, api.Shared, words(4, 1))
	u.asks(5, api.GetM)
	u.hasNoEntry(u.grant(5, 0))
	u.hasNoEntry(u.grant(5, 3))

	u = simple(t)
	u.brings(4, api.Owned, words(4, 1))
	u.asks(4, api.GetM)
	u.takes(u.ack(4, 0), u.ack(4, 2))
	u.hasNoEntry(u.grant(4, 1))
	u.takes(u.grant(4, 3))
	u.hasNoEntry(u.grant(4, 3))
	u.hasNoEntry(u.data(4, api.Modified, 3, words(4, 1)))
	u.takes(u.ack(4, 3))
	u.hasNoEntry(u.grant(4, 3))

	// It was Owned when it was asked for; then another one got it.
	u = simple(t)
	u.brings(4, api.Owned, words(4, 1))
	u.asks(4, api.GetM)
	u.answers(u.forward(api.FwdM, 4, 0, 0), u.told(4, 0, api.Modified, 0, words(4, 1)))
	u.hasNoEntry(u.grant(4, 0))
	u.takes(u.data(4, api.Modified, 0, words(4, 2)))
	u.has(4, api.Modified, words(4, 2), true)

	// Words to read that came Exclusive, and were shared since: the line is Owned, but nobody asked to write.
	u = simple(t)
	u.asks(4, api.GetS)
	u.takes(u.data(4, api.Exclusive, 0, words(4, 1)))
	u.answers(u.forward(api.FwdS, 4, 0, 0), u.told(4, 0, api.Shared, 0, words(4, 1)))
	u.hasNoEntry(u.grant(4, 0))
}

// P14.4: acks that nobody waits for: of who only reads, and behind the last one.
func TestAckThatIsRefused(t *testing.T) {
	u := simple(t)
	u.brings(5, api.Owned, words(4, 1))
	u.asks(4, api.GetS)
	u.hasNoEntry(u.ack(4, 0))
	u.takes(u.data(4, api.Shared, 0, words(4, 1)))
	u.hasNoEntry(u.ack(4, 0))
	u.asks(6, api.GetM)
	u.takes(u.data(6, api.Modified, 0, words(4, 1)))
	u.hasNoEntry(u.ack(6, 0))
	u.asks(5, api.GetM)
	u.takes(u.ack(5, 0), u.grant(5, 1))
	u.hasNoEntry(u.ack(5, 2))
}

// P14.4: what a grant leaves are the words that the line has when the last ack came, also where it was shared meanwhile, or taken.
func TestGrantedWordsAreTheLatest(t *testing.T) {
	u := simple(t)
	u.brings(4, api.Modified, words(4, 1))
	u.does(store(u.addr(4, 2), 77), 0)
	w := words(4, 1)
	w[2] = 77
	u.answers(u.forward(api.FwdS, 4, 0, 0), u.told(4, 0, api.Shared, 0, w))
	u.asks(4, api.GetM)
	u.takes(u.grant(4, 1))
	u.answers(u.forward(api.FwdS, 4, 2, 0), u.told(4, 2, api.Shared, 0, w))
	u.takes(u.ack(4, 0))
	u.has(4, api.Modified, w, true)

	u = simple(t)
	u.brings(4, api.Owned, words(4, 1))
	u.asks(4, api.GetM)
	u.takes(u.grant(4, 1))
	u.answers(u.forward(api.FwdM, 4, 2, 0), u.told(4, 2, api.Modified, 0, words(4, 1)))
	u.takes(u.ack(4, 0))
	u.has(4, api.Modified, api.Words{}, true)
}

// P14.4: PutAck lets a line be in the buffer no more, Live or not; of one that isn't there, or is there no more, there is no entry.
func TestPutAck(t *testing.T) {
	for _, live := range []bool{true, false} {
		u := simple(t)
		u.buffers(4, live, words(4, 1))
		u.buffers(5, true, words(4, 2))
		u.hasNoEntry(u.fromHome(api.PutAck, 6))
		u.takes(u.fromHome(api.PutAck, 4))
		u.written(entry(5, words(4, 2), true))
		u.hasNoEntry(u.fromHome(api.PutAck, 4))
		u.takes(u.fromHome(api.PutAck, 5))
		u.written()
		u.hasNoEntry(u.fromHome(api.PutAck, 5))
	}
	u := simple(t)
	u.hasNoEntry(u.fromHome(api.PutAck, 4))
	u.brings(4, api.Modified, words(4, 1))
	u.hasNoEntry(u.fromHome(api.PutAck, 4))
	u.brings(5, api.Shared, words(4, 1))
	u.evicts(1, 0)
	u.hasNoEntry(u.fromHome(api.PutAck, 5))
}

// P14.4: a message of one line changes no other one.
func TestOtherLinesStay(t *testing.T) {
	u := simple(t)
	u.brings(4, api.Modified, words(4, 4))
	u.brings(5, api.Shared, words(4, 5))
	u.buffers(7, true, words(4, 7))
	u.asks(6, api.GetM)
	u.asks(9, api.GetS)
	others := func() {
		u.t.Helper()
		u.has(4, api.Modified, words(4, 4), false)
		u.has(9, api.Invalid, api.Words{}, true)
		u.written(entry(7, words(4, 7), true))
	}
	u.takes(u.ack(6, 0), u.data(6, api.Modified, 1, words(4, 6)))
	others()
	u.has(5, api.Shared, words(4, 5), false)
	u.answers(u.forward(api.FwdS, 6, 2, 0), u.told(6, 2, api.Shared, 0, words(4, 6)))
	others()
	u.answers(u.forward(api.Inv, 5, 2, 0), u.acked(5, 2))
	others()
	u.finishes(6)
	others()
	u.misses(opened(9, api.GetS))
}
