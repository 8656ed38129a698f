package home_test

import (
	"math"
	"slices"
	"testing"

	"mesne/api"
)

// P16.2: who reads a line that nobody has gets the memory's words, and may write them; the line is its own as soon as that is started.
func TestReadOfNobodys(t *testing.T) {
	for _, c := range machines() {
		x := made(t, c, 0)
		core := c.Cores - 1
		x.service(x.put(0, core, x.any(3)), x.putAck(0, core))
		x.service(x.ask(api.GetM, 0, core), x.data(0, core, api.Modified, 0, api.Words{}))
		x.service(x.put(0, core, x.any(4)), x.putAck(0, core))
		m := x.ask(api.GetS, 0, 0)
		x.accepts(m)
		x.has(0, x.known(-1), x.any(4))
		x.starts(0)
		x.has(0, x.known(0), x.any(4))
		x.queues(on(m, x.data(0, 0, api.Exclusive, 0, x.any(4))))
		x.sends(0, x.data(0, 0, api.Exclusive, 0, x.any(4)))
		x.queues(on(m))
		x.finishes(0, 0)
		x.queues()
		x.has(0, x.known(0), x.any(4))
	}
}

// P16.2: who writes a line that nobody has gets the memory's words.
func TestWriteOfNobodys(t *testing.T) {
	x := simple(t)
	x.service(x.ask(api.GetM, 5, 2), x.data(5, 2, api.Modified, 0, api.Words{}))
	x.has(5, x.known(2), api.Words{})
	x.service(x.put(5, 2, x.any(1)), x.putAck(5, 2))
	x.service(x.ask(api.GetM, 5, 3), x.data(5, 3, api.Modified, 0, x.any(1)))
	x.has(5, x.known(3), x.any(1))
}

// P16.2: who reads what is shared shares it; with more sharers than pointers, all may.
func TestReadOfShared(t *testing.T) {
	x := simple(t)
	x.service(x.ask(api.GetS, 5, 2), x.data(5, 2, api.Exclusive, 0, api.Words{}))
	x.service(x.ask(api.GetS, 5, 3), x.forward(api.FwdS, 5, 2, 3, 0))
	x.has(5, x.known(2, 3), api.Words{})
	x.service(x.put(5, 2, x.any(1)), x.putAck(5, 2))
	x.has(5, x.known(-1, 3), x.any(1))
	x.service(x.ask(api.GetS, 5, 0), x.data(5, 0, api.Shared, 0, x.any(1)))
	x.has(5, x.known(-1, 0, 3), x.any(1))
	x.service(x.ask(api.GetS, 5, 3), x.data(5, 3, api.Shared, 0, x.any(1)))
	x.has(5, x.known(-1, 0, 3), x.any(1))
	x.service(x.ask(api.GetS, 5, 1), x.data(5, 1, api.Shared, 0, x.any(1)))
	x.has(5, x.crowded(-1), x.any(1))
	x.service(x.ask(api.GetM, 5, 1), x.data(5, 1, api.Modified, 3, x.any(1)),
		x.forward(api.Inv, 5, 0, 1, 0), x.forward(api.Inv, 5, 2, 1, 0), x.forward(api.Inv, 5, 3, 1, 0))
	x.has(5, x.known(1), x.any(1))
}

// P16.2: who writes what another one owns, and others share, gets it of its owner, and they are told to let it go.
func TestWriteOfOwned(t *testing.T) {
	x := simple(t)
	x.serves(x.ask(api.GetM, 5, 2))
	x.serves(x.ask(api.GetS, 5, 0))
	x.serves(x.ask(api.GetS, 5, 3))
	x.has(5, x.known(2, 0, 3), api.Words{})
	x.service(x.ask(api.GetM, 5, 3), x.forward(api.FwdM, 5, 2, 3, 1), x.forward(api.Inv, 5, 0, 3, 0))
	x.has(5, x.known(3), api.Words{})
}

// P16.2: who owns what others share is granted it.
func TestWriteOfOnesOwn(t *testing.T) {
	x := simple(t)
	x.serves(x.ask(api.GetM, 5, 2))
	x.serves(x.ask(api.GetS, 5, 0))
	x.serves(x.ask(api.GetS, 5, 1))
	x.service(x.ask(api.GetM, 5, 2), x.grant(5, 2, 2), x.forward(api.Inv, 5, 0, 2, 0), x.forward(api.Inv, 5, 1, 2, 0))
	x.has(5, x.known(2), api.Words{})
	x.service(x.ask(api.GetM, 5, 2), x.grant(5, 2, 0))
}

// P16.2: with no pointers all may share what one shares; and with as many pointers as cores just those that do.
func TestPointers(t *testing.T) {
	x := made(t, sized(3, 1, 0, 1, 1, 1), 0)
	x.serves(x.ask(api.GetS, 0, 1))
	x.service(x.ask(api.GetS, 0, 2), x.forward(api.FwdS, 0, 1, 2, 0))
	x.has(0, x.crowded(1), api.Words{})
	x.service(x.ask(api.GetM, 0, 2), x.forward(api.FwdM, 0, 1, 2, 1), x.forward(api.Inv, 0, 0, 2, 0))
	y := made(t, most(), 15)
	y.serves(y.ask(api.GetM, 1023, 63))
	for n, core := range []int{40, 3, 62, 0, 17, 5, 33, 9} {
		y.service(y.ask(api.GetS, 1023, core), y.forward(api.FwdS, 1023, 63, core, 0))
		if e, _ := y.h.Entry(1023); len(e.Sharers.Pointers) != n+1 {
			t.Fatalf("%+v", e)
		}
	}
	y.has(1023, y.known(63, 0, 3, 5, 9, 17, 33, 40, 62), api.Words{})
	y.serves(y.ask(api.GetS, 1023, 1))
	y.has(1023, y.crowded(63), api.Words{})
	if l := y.serves(y.ask(api.GetM, 1023, 2)); len(l) != 63 || l[0] != y.forward(api.FwdM, 1023, 63, 2, 62) || l[62] != y.forward(api.Inv, 1023, 62, 2, 0) {
		t.Fatalf("%+v", l)
	}
}

// P16.2: the words of a Put are the memory's just where its core owns the line; else nothing is changed. Either is answered, and gone with that.
func TestPut(t *testing.T) {
	x := simple(t)
	x.service(x.put(5, 2, x.any(9)), x.putAck(5, 2))
	x.has(5, x.known(-1), api.Words{})
	x.serves(x.ask(api.GetM, 5, 2))
	x.serves(x.ask(api.GetS, 5, 1))
	x.service(x.put(5, 1, x.any(8)), x.putAck(5, 1))
	x.service(x.put(5, 3, x.any(7)), x.putAck(5, 3))
	x.has(5, x.known(2, 1), api.Words{})
	m := x.put(5, 2, x.any(6))
	x.accepts(m)
	x.has(5, x.known(2, 1), api.Words{})
	x.starts(0)
	x.has(5, x.known(-1, 1), x.any(6))
	x.queues(on(m, x.putAck(5, 2)))
	x.sends(0, x.putAck(5, 2))
	x.queues()
	x.service(x.put(5, 2, x.any(5)), x.putAck(5, 2))
	x.has(5, x.known(-1, 1), x.any(6))
	x.odd(0)
}

// P16.2: words of a Put may be the least and the greatest numbers, and 0.
func TestPutOfExtremes(t *testing.T) {
	c := sized(2, 1, 1, 8, 4, 1)
	for _, w := range []api.Words{{}, {math.MinInt32, math.MaxInt32, -1, 0, 1, 0, math.MaxInt32, math.MinInt32}, words(8, 3)} {
		x := made(t, c, 0)
		x.serves(x.ask(api.GetM, 3, 1))
		x.serves(x.put(3, 1, words(8, 9)))
		x.serves(x.ask(api.GetM, 3, 0))
		x.service(x.put(3, 0, w), x.putAck(3, 0))
		x.has(3, x.known(-1), w)
		x.service(x.ask(api.GetS, 3, 1), x.data(3, 1, api.Exclusive, 0, w))
	}
}

// P16.2: a line that another core has meanwhile isn't written by a Put that comes late.
func TestPutThatComesLate(t *testing.T) {
	x := simple(t)
	x.serves(x.ask(api.GetM, 5, 2))
	late := x.put(5, 2, x.any(1))
	x.accepts(x.ask(api.GetM, 5, 3), late)
	x.starts(0)
	x.has(5, x.known(3), api.Words{})
	x.idles(1, plenty())
	x.sends(0, x.forward(api.FwdM, 5, 2, 3, 0))
	x.finishes(5, 3)
	x.starts(0)
	x.sends(0, x.putAck(5, 2))
	x.has(5, x.known(3), api.Words{})
	x.queues()
}

// places are none, and far from those that are meant.
func places(count int) []int {
	return []int{
		-1, count, -2, count + 1, 16, 17, 64, -16, -64, 1 << 31, 1 << 32, 1<<32 + 1, 1 << 62, -1 << 31, -1 << 32,
		math.MinInt, math.MinInt + 1, math.MaxInt - 1, math.MaxInt,
	}
}

// P16.2: where there is no request, nothing is done, whatever the room.
func TestWorkOfNoPlace(t *testing.T) {
	full := simple(t)
	full.accepts(full.ask(api.GetS, 5, 1), full.ask(api.GetM, 7, 2), full.put(9, 2, full.any(1)), full.ask(api.GetS, 5, 0))
	for _, x := range []host{simple(t), made(t, least(), 0), made(t, most(), 7), full} {
		count := len(x.h.Queue())
		for _, at := range places(count) {
			for _, left := range [][3]int{none(), one(), plenty()} {
				x.idles(at, left)
			}
		}
	}
	for at := range 3 {
		full.starts(at)
		for _, at := range places(4) {
			full.idles(at, plenty())
		}
	}
}

// P16.2: the first, the last and any place between is started, and sent for, whatever the others are at.
func TestWorkOfEachPlace(t *testing.T) {
	c := sized(2, 1, 1, 1, 16, 16)
	for at := range 16 {
		x := made(t, c, 0)
		for line := range 16 {
			x.accepts(x.ask(api.GetM, line, 1))
		}
		x.starts(at)
		want := x.h.Queue()
		for other := range 16 {
			if want[other].Started != (other == at) {
				t.Fatalf("%d: %+v", at, want[other])
			}
		}
		x.sends(at, x.data(at, 1, api.Modified, 0, api.Words{}))
		want[at].Sends = nil
		x.queues(want...)
		x.finishes(at, 1)
		x.queues(slices.Delete(want, at, at+1)...)
		for line := range 16 {
			owner := -1
			if line == at {
				owner = 1
			}
			x.has(line, x.known(owner), api.Words{})
		}
	}
}

// P16.2: what waits behind another request of its line isn't started, whether that one is started or not, till it is gone; that of another line is.
func TestWorkOfOneBehindAnother(t *testing.T) {
	for _, first := range kinds() {
		for _, second := range kinds() {
			for _, core := range []int{1, 2} {
				x := simple(t)
				x.serves(x.ask(api.GetM, 5, 3))
				ahead, behind, other := x.request(first, 5, 1), x.request(second, 5, core), x.request(second, 7, core)
				x.accepts(ahead, behind, other)
				x.idles(1, plenty())
				x.starts(0)
				x.idles(1, plenty())
				x.starts(2)
				x.idles(1, plenty())
				for len(x.h.Queue()[0].Sends) > 1 {
					x.h.Work(0, plenty())
					x.idles(1, plenty())
				}
				x.h.Work(0, plenty())
				if first != api.Put {
					x.idles(1, plenty())
					x.finishes(5, 1)
				}
				if e := x.h.Queue()[0]; e.M != behind || e.Started {
					t.Fatalf("%+v", e)
				}
				owner, _ := x.h.Entry(5)
				x.starts(0)
				if second == api.GetS && owner.Owner == core {
					x.odd(1)
				} else {
					x.odd(0)
				}
			}
		}
	}
}

// P16.2: when all is sent, nothing more is done for a request, till it is gone.
func TestWorkOfWhatIsSent(t *testing.T) {
	for _, kind := range []int{api.GetS, api.GetM} {
		x := simple(t)
		m := x.ask(kind, 5, 2)
		x.accepts(m)
		x.starts(0)
		x.h.Work(0, plenty())
		x.queues(on(m))
		for _, left := range [][3]int{none(), one(), plenty(), room(0, 64), room(1, 64), room(2, 64)} {
			x.idles(0, left)
		}
		x.finishes(5, 2)
		x.idles(0, plenty())
	}
}

// P16.2: no room is needed to start a request, of whichever kind, or to let one be odd.
func TestStartNeedsNoRoom(t *testing.T) {
	for _, left := range [][3]int{none(), {-1, -1, -1}, {math.MinInt, math.MinInt, math.MinInt}, one(), plenty(), {math.MaxInt, math.MaxInt, math.MaxInt}} {
		for _, kind := range kinds() {
			x := simple(t)
			x.accepts(x.request(kind, 5, 2))
			x.works(0, left, api.Message{}, false, true)
			if l := x.h.Queue(); len(l) != 1 || !l[0].Started || len(l[0].Sends) != 1 {
				t.Fatalf("%+v", l)
			}
		}
		x := simple(t)
		x.serves(x.ask(api.GetS, 5, 2))
		x.accepts(x.ask(api.GetS, 5, 2))
		x.works(0, left, api.Message{}, false, true)
		x.queues()
		x.odd(1)
	}
}

// kept are homes in which one request, at place 0, has messages to be sent: of each kind that a home sends, and what these are.
func kept(t *testing.T) ([]host, [][]api.Message) {
	t.Helper()
	var hosts []host
	var sent [][]api.Message
	add := func(ahead []int, kind, core int, l func(x host) []api.Message) {
		x := simple(t)
		for _, reader := range ahead {
			x.serves(x.ask(api.GetS, 5, reader))
		}
		x.accepts(x.request(kind, 5, core))
		x.starts(0)
		hosts, sent = append(hosts, x), append(sent, l(x))
		x.mustBe(l(x)...)
	}
	add(nil, api.GetS, 1, func(x host) []api.Message { return []api.Message{x.data(5, 1, api.Exclusive, 0, api.Words{})} })
	add(nil, api.GetM, 1, func(x host) []api.Message { return []api.Message{x.data(5, 1, api.Modified, 0, api.Words{})} })
	add(nil, api.Put, 1, func(x host) []api.Message { return []api.Message{x.putAck(5, 1)} })
	add([]int{0}, api.Put, 0, func(x host) []api.Message { return []api.Message{x.putAck(5, 0)} })
	add([]int{0}, api.GetS, 1, func(x host) []api.Message { return []api.Message{x.forward(api.FwdS, 5, 0, 1, 0)} })
	add([]int{0, 2, 3}, api.GetM, 1, func(x host) []api.Message {
		return []api.Message{x.forward(api.FwdM, 5, 0, 1, 2), x.forward(api.Inv, 5, 2, 1, 0), x.forward(api.Inv, 5, 3, 1, 0)}
	})
	add([]int{0, 2, 3}, api.GetM, 0, func(x host) []api.Message {
		return []api.Message{x.grant(5, 0, 2), x.forward(api.Inv, 5, 2, 0, 0), x.forward(api.Inv, 5, 3, 0, 0)}
	})
	add([]int{3, 0, 1, 2}, api.GetM, 3, func(x host) []api.Message {
		return []api.Message{x.grant(5, 3, 3), x.forward(api.Inv, 5, 0, 3, 0), x.forward(api.Inv, 5, 1, 3, 0), x.forward(api.Inv, 5, 2, 3, 0)}
	})
	return hosts, sent
}

// P16.2: each message is sent just where there is room on its own network, for one or for more; room on others doesn't count, and numbers below 0 are none.
func TestRoomOfEachNetwork(t *testing.T) {
	for count := range 3 {
		enough := []int{1, 2, math.MaxInt}[count]
		hosts, sent := kept(t)
		for i, x := range hosts {
			for _, m := range sent[i] {
				own := network(m.Kind)
				for _, few := range []int{0, -1, -64, math.MinInt} {
					left := [3]int{64, 64, 64}
					left[own] = few
					x.idles(0, left)
					x.idles(0, room(own, few))
				}
				left := [3]int{math.MinInt, -1, -64}
				left[own] = enough
				x.works(0, left, m, true, true)
			}
		}
	}
}

// P16.2: what is to be sent is sent in its order, one message a Work, and what is still to be sent stands in the queue.
func TestSendsInOrder(t *testing.T) {
	hosts, sent := kept(t)
	for i, x := range hosts {
		entry, words := x.line(5), x.h.Queue()[0]
		for n, m := range sent[i] {
			x.queues(on(words.M, sent[i][n:]...))
			x.works(0, plenty(), m, true, true)
		}
		if words.M.Kind == api.Put {
			x.queues()
		} else {
			x.queues(on(words.M))
		}
		if now := x.line(5); now != entry {
			t.Fatalf("%s, not %s", now, entry)
		}
	}
}

// P16.2: who waits for room on one network is not passed by its later messages, of another one; requests of other lines go on meanwhile.
func TestNoRoomForTheFirst(t *testing.T) {
	x := simple(t)
	for core := range 3 {
		x.serves(x.ask(api.GetS, 5, core))
	}
	x.serves(x.ask(api.GetM, 7, 3))
	x.accepts(x.ask(api.GetM, 5, 0), x.ask(api.GetS, 7, 1))
	x.starts(0)
	x.starts(1)
	x.idles(0, room(1, 64))
	x.idles(1, room(2, 64))
	x.works(1, room(1, 1), x.forward(api.FwdS, 7, 3, 1, 0), true, true)
	x.idles(0, room(1, 64))
	x.works(0, room(2, 1), x.grant(5, 0, 2), true, true)
	x.idles(0, room(2, 64))
	x.works(0, room(1, 1), x.forward(api.Inv, 5, 1, 0, 0), true, true)
	x.works(0, room(1, 1), x.forward(api.Inv, 5, 2, 0, 0), true, true)
	x.finishes(7, 1)
	x.finishes(5, 0)
	x.queues()
}

// P16.2: messages of several requests are sent in any order among these.
func TestSendsInAnyOrder(t *testing.T) {
	for _, order := range [][]int{{0, 0, 0, 1, 1, 2}, {1, 0, 2, 0, 1, 0}, {2, 1, 0, 1, 0, 0}, {0, 1, 2, 1, 0, 0}} {
		x := made(t, sized(3, 1, 2, 2, 4, 3), 0)
		x.serves(x.ask(api.GetM, 0, 0))
		x.serves(x.ask(api.GetS, 0, 1))
		x.serves(x.ask(api.GetS, 0, 2))
		x.serves(x.ask(api.GetS, 1, 2))
		x.serves(x.ask(api.GetS, 1, 1))
		x.accepts(x.ask(api.GetM, 0, 0), x.ask(api.GetM, 1, 2), x.ask(api.GetM, 2, 1))
		sent := [][]api.Message{
			{x.grant(0, 0, 2), x.forward(api.Inv, 0, 1, 0, 0), x.forward(api.Inv, 0, 2, 0, 0)},
			{x.grant(1, 2, 1), x.forward(api.Inv, 1, 1, 2, 0)},
			{x.data(2, 1, api.Modified, 0, api.Words{})},
		}
		x.starts(2)
		x.starts(0)
		x.starts(1)
		for _, at := range order {
			x.sends(at, sent[at][0])
			sent[at] = sent[at][1:]
		}
		x.queues(on(x.ask(api.GetM, 0, 0)), on(x.ask(api.GetM, 1, 2)), on(x.ask(api.GetM, 2, 1)))
	}
}

// P16.2: a read of the owner itself is odd: it is gone at once, alone, and nothing else is changed.
func TestOdd(t *testing.T) {
	x := simple(t)
	x.serves(x.ask(api.GetM, 5, 2))
	x.serves(x.ask(api.GetS, 5, 1))
	other, strange, next := x.ask(api.GetS, 7, 2), x.ask(api.GetS, 5, 2), x.ask(api.GetM, 5, 2)
	x.accepts(other, strange, next, strange)
	x.starts(0)
	before := []string{x.line(5), x.line(7), x.line(9)}
	x.starts(1)
	x.odd(1)
	x.queues(on(other, x.data(7, 2, api.Exclusive, 0, api.Words{})), waits(next), waits(strange))
	if after := []string{x.line(5), x.line(7), x.line(9)}; !slices.Equal(after, before) {
		t.Fatalf("%v, not %v", after, before)
	}
	x.accepts(strange)
	x.finishesInVain(x.done(5, 2), api.ErrTable)
	x.starts(1)
	x.sends(1, x.grant(5, 2, 1), x.forward(api.Inv, 5, 1, 2, 0))
	x.finishes(5, 2)
	x.starts(1)
	x.odd(2)
	x.starts(1)
	x.odd(3)
	x.queues(on(other, x.data(7, 2, api.Exclusive, 0, api.Words{})))
	x.has(5, x.known(2), api.Words{})
}

// P16.2: how many were odd is told however many there were; other requests never are.
func TestOddCounts(t *testing.T) {
	for _, c := range machines() {
		x := made(t, c, 0)
		count := 0
		for round := range 60 {
			core := round / 2 % c.Cores
			if e, _ := x.h.Entry(0); e.Owner == core {
				before := x.line(0)
				x.accepts(x.ask(api.GetS, 0, core))
				x.starts(0)
				count++
				x.queues()
				if now := x.line(0); now != before {
					t.Fatalf("%s, not %s", now, before)
				}
			}
			x.odd(count)
			x.serves(x.request(kinds()[1+round%2], 0, core))
			x.odd(count)
		}
		if count != 30 {
			t.Fatalf("%+v: %d odd", c, count)
		}
	}
}

// P16.3: the request that may be done is gone, alone, wherever it stands; nothing that is known changes by it.
func TestDone(t *testing.T) {
	for _, kind := range []int{api.GetS, api.GetM} {
		for at := range 4 {
			x := simple(t)
			for line := range 4 {
				x.accepts(x.ask(kind, 2*line+1, line))
			}
			for place := range 4 {
				x.starts(place)
				x.works(place, plenty(), x.h.Queue()[place].Sends[0], true, true)
			}
			var lines []string
			for line := range 16 {
				lines = append(lines, x.line(line))
			}
			want := x.h.Queue()
			x.finishes(2*at+1, at)
			x.queues(slices.Delete(want, at, at+1)...)
			for line := range 16 {
				if now := x.line(line); now != lines[line] {
					t.Fatalf("%s, not %s", now, lines[line])
				}
			}
			x.finishesInVain(x.done(2*at+1, at), api.ErrTable)
			x.odd(0)
		}
	}
}

// P16.3: a request is done when all is sent for it, and not ahead of that; the next one of its line is done later, also of the same core.
func TestDoneWhenAllIsSent(t *testing.T) {
	x := simple(t)
	for core := range 4 {
		x.serves(x.ask(api.GetS, 5, core))
	}
	m := x.ask(api.GetM, 5, 1)
	x.accepts(m, m, x.ask(api.GetM, 7, 1))
	x.finishesInVain(x.done(5, 1), api.ErrTable)
	x.starts(0)
	for range 3 {
		x.finishesInVain(x.done(5, 1), api.ErrTable)
		x.works(0, plenty(), x.h.Queue()[0].Sends[0], true, true)
	}
	for _, core := range []int{0, 2, 3} {
		x.finishesInVain(x.done(5, core), api.ErrTable)
	}
	x.finishesInVain(x.done(7, 1), api.ErrTable)
	x.finishesInVain(x.done(3, 1), api.ErrTable)
	x.finishes(5, 1)
	x.queues(waits(m), waits(x.ask(api.GetM, 7, 1)))
	x.finishesInVain(x.done(5, 1), api.ErrTable)
}

// P16.3: a Put is never done: it is gone when it is answered.
func TestDoneOfPut(t *testing.T) {
	x := simple(t)
	x.accepts(x.put(5, 2, x.any(1)))
	x.finishesInVain(x.done(5, 2), api.ErrTable)
	x.starts(0)
	x.finishesInVain(x.done(5, 2), api.ErrTable)
	x.sends(0, x.putAck(5, 2))
	x.finishesInVain(x.done(5, 2), api.ErrTable)
	x.queues()
}

// P16.3: requests of several lines are done in any order.
func TestDoneInAnyOrder(t *testing.T) {
	for _, order := range [][]int{{0, 1, 2, 3}, {3, 2, 1, 0}, {1, 3, 0, 2}, {2, 0, 3, 1}} {
		x := simple(t)
		for n := range 4 {
			x.accepts(x.ask(api.GetM, 2*n+1, n))
			x.starts(n)
			x.works(n, plenty(), x.data(2*n+1, n, api.Modified, 0, api.Words{}), true, true)
		}
		left := numbers(4)
		for _, n := range order {
			x.finishes(2*n+1, n)
			left = slices.DeleteFunc(left, func(other int) bool { return other == n })
			for at, e := range x.h.Queue() {
				if len(x.h.Queue()) != len(left) || e.M.From != left[at] {
					t.Fatalf("%+v, not %v", x.h.Queue(), left)
				}
			}
		}
		x.queues()
	}
}
