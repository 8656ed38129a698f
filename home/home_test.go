package home_test

import (
	"slices"
	"testing"

	"mesne/api"
	"mesne/home"
	"mesne/queue"
	"mesne/split"
)

// P16.1, P16.2: the chapter's example.
func TestExample(t *testing.T) {
	x := made(t, sized(2, 1, 1, 1, 1, 1), 0)
	x.accepts(x.ask(api.GetS, 0, 1))
	x.works(0, one(), api.Message{}, false, true)
	x.works(0, one(), x.data(0, 1, api.Exclusive, 0, api.Words{}), true, true)
}

// P16.1: there is a home of each number from 0 to Homes - 1, of each machine, and of no other one.
func TestNew(t *testing.T) {
	for _, c := range machines() {
		for number := -1; number <= c.Homes; number++ {
			h, err := home.New(c, number)
			may := 0 <= number && number < c.Homes
			if may != (err == api.OK) || may != (h != nil) || !may && err != api.ErrArg {
				t.Fatalf("%+v, %d: %v, %d", c, number, h, err)
			}
		}
	}
}

// P16.1: a new home knows its lines, without owner and sharers, and of words 0; it has no requests, and none was odd.
func TestNewIsEmpty(t *testing.T) {
	for _, c := range machines() {
		for _, number := range []int{0, c.Homes / 2, c.Homes - 1} {
			x := made(t, c, number)
			x.queues()
			x.odd(0)
			for line := -3; line < c.Lines+20; line++ {
				if 0 <= line && line < c.Lines && line%c.Homes == number {
					x.has(line, x.known(-1), api.Words{})
				} else {
					x.lacks(line)
				}
			}
		}
	}
}

// P16.1: the lines that homes tell are those of split.Lines; each line is told by one of them.
func TestLinesOfAllHomes(t *testing.T) {
	for _, c := range machines() {
		told := 0
		for number := range c.Homes {
			x := made(t, c, number)
			var l []int
			for line := range c.Lines {
				if _, ok := x.h.Entry(line); ok {
					l = append(l, line)
				}
			}
			if !slices.Equal(l, split.Lines(c, number)) {
				t.Fatalf("%+v, %d: %v", c, number, l)
			}
			told += len(l)
		}
		if told != c.Lines {
			t.Fatalf("%+v: %d lines", c, told)
		}
	}
}

// P16.1: as many requests as the machine's Buffer wait, in the order in which they came; one more has the queue's error, also when others are started.
func TestAccept(t *testing.T) {
	for _, c := range machines() {
		x := made(t, c, 0)
		lines := split.Lines(c, 0)
		var want []queue.Entry
		for i := range c.Buffer {
			m := x.request(kinds()[i%3], lines[i%len(lines)], i%c.Cores)
			x.mustBe(m)
			x.accepts(m)
			want = append(want, waits(m))
			x.queues(want...)
		}
		for at := range min(c.Buffer, len(lines)) {
			for _, kind := range kinds() {
				x.acceptsInVain(x.request(kind, 0, 0), api.ErrFull)
				x.acceptsInVain(x.request(kind, lines[len(lines)-1], c.Cores-1), api.ErrFull)
			}
			x.starts(at)
		}
	}
}

// P16.1: each kind of request is accepted where one place is left, and refused where none is; a place is left again when a request is gone.
func TestAcceptOfTheLast(t *testing.T) {
	for _, kind := range kinds() {
		x := simple(t)
		x.accepts(x.ask(api.GetS, 1, 0), x.ask(api.GetM, 3, 1), x.put(5, 2, x.any(1)))
		x.accepts(x.request(kind, 7, 3))
		for _, other := range kinds() {
			x.acceptsInVain(x.request(other, 9, 3), api.ErrFull)
			x.acceptsInVain(x.request(other, 7, 3), api.ErrFull)
		}
		x.starts(2)
		x.acceptsInVain(x.request(kind, 9, 3), api.ErrFull)
		x.sends(2, x.putAck(5, 2))
		x.accepts(x.request(kind, 9, 3))
		x.acceptsInVain(x.request(kind, 9, 3), api.ErrFull)
		x.queues(waits(x.ask(api.GetS, 1, 0)), waits(x.ask(api.GetM, 3, 1)), waits(x.request(kind, 7, 3)), waits(x.request(kind, 9, 3)))
	}
}

// P16.1: the same request may come again: it waits behind the first one.
func TestAcceptAgain(t *testing.T) {
	for _, kind := range kinds() {
		x := simple(t)
		m := x.request(kind, 5, 2)
		x.accepts(m, m, m)
		x.queues(waits(m), waits(m), waits(m))
	}
}

// P16.1: to be accepted changes nothing that is known of lines.
func TestAcceptKnowsNothing(t *testing.T) {
	x := simple(t)
	for at, kind := range []int{api.GetS, api.GetM, api.Put, api.Put} {
		before := x.view()
		x.accepts(x.request(kind, 5, at))
		for line := range 16 {
			if line%2 == 1 {
				x.has(line, x.known(-1), api.Words{})
			}
		}
		if x.view() == before {
			t.Fatal("not accepted")
		}
	}
	x.odd(0)
}

// P16.1: what is known of each line, and its words, when a request of it was done, and behind others; all other lines are as they were.
func TestEntryAndLine(t *testing.T) {
	for _, c := range machines() {
		for _, number := range []int{0, c.Homes - 1} {
			x := made(t, c, number)
			for _, line := range split.Lines(c, number) {
				core := line % c.Cores
				x.serves(x.ask(api.GetM, line, core))
				x.has(line, x.known(core), api.Words{})
				if line%3 == 1 {
					x.serves(x.put(line, core, x.any(line)))
					x.has(line, x.known(-1), x.any(line))
				}
			}
			for line := range c.Lines {
				switch {
				case line%c.Homes != number:
					x.lacks(line)
				case line%3 == 1:
					x.has(line, x.known(-1), x.any(line))
				default:
					x.has(line, x.known(line%c.Cores), api.Words{})
				}
			}
			x.queues()
			x.odd(0)
		}
	}
}

// P16.1: the requests are told with what is still to be sent for each.
func TestQueue(t *testing.T) {
	x := simple(t)
	first, second, third := x.ask(api.GetS, 5, 1), x.ask(api.GetM, 5, 2), x.put(7, 3, x.any(2))
	x.accepts(first, second, third)
	x.queues(waits(first), waits(second), waits(third))
	x.starts(2)
	x.queues(waits(first), waits(second), on(third, x.putAck(7, 3)))
	x.starts(0)
	x.queues(on(first, x.data(5, 1, api.Exclusive, 0, api.Words{})), waits(second), on(third, x.putAck(7, 3)))
	x.sends(0, x.data(5, 1, api.Exclusive, 0, api.Words{}))
	x.queues(on(first), waits(second), on(third, x.putAck(7, 3)))
	x.sends(2, x.putAck(7, 3))
	x.queues(on(first), waits(second))
	x.finishes(5, 1)
	x.queues(waits(second))
	x.starts(0)
	x.queues(on(second, x.forward(api.FwdM, 5, 1, 2, 0)))
}
