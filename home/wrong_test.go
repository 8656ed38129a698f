package home_test

import (
	"math"
	"testing"

	"mesne/api"
	"mesne/home"
	"mesne/message"
	"mesne/shape"
)

// outside are numbers that are none of the first so many from 0 on.
func outside(count int) []int {
	return []int{
		-1, count, -2, count + 1, 2*count + 1, -count, count + 64, count + 1024, -64, -1024,
		1 << 31, 1<<31 + 1, 1 << 32, 1<<32 + 1, 1 << 61, 1 << 62, -1 << 31, -1 << 32, -1 << 62,
		math.MinInt, math.MinInt + 1, math.MaxInt - 1, math.MaxInt,
	}
}

// sizes are a machine's sizes, each with a way to set it.
func sizes() []func(c *api.Config, n int) {
	return []func(c *api.Config, n int){
		func(c *api.Config, n int) { c.Cores = n },
		func(c *api.Config, n int) { c.Homes = n },
		func(c *api.Config, n int) { c.Sets = n },
		func(c *api.Config, n int) { c.Ways = n },
		func(c *api.Config, n int) { c.Words = n },
		func(c *api.Config, n int) { c.Lines = n },
		func(c *api.Config, n int) { c.Pointers = n },
		func(c *api.Config, n int) { c.Mshrs = n },
		func(c *api.Config, n int) { c.Buffer = n },
		func(c *api.Config, n int) { c.Writebacks = n },
		func(c *api.Config, n int) { c.Room[0] = n },
		func(c *api.Config, n int) { c.Room[1] = n },
		func(c *api.Config, n int) { c.Room[2] = n },
	}
}

// P16.1: of a machine that may not be there is no home, whichever of its sizes is wrong, above or below, and whatever the number.
func TestNewOfWrongSizes(t *testing.T) {
	wrong := []api.Config{{}, {Cores: 3}, {Homes: 4}}
	for _, base := range []api.Config{least(), example(), most()} {
		for i, set := range sizes() {
			before := len(wrong)
			for _, n := range []int{math.MinInt, -2, -1, 0, 3, 9, 17, 65, 128, 2048, 1 << 32, 1 << 62, math.MaxInt} {
				c := base
				set(&c, n)
				if shape.Check(c) != api.OK {
					wrong = append(wrong, c)
				}
			}
			if len(wrong)-before < 6 {
				t.Fatalf("size %d: %d wrong ones", i, len(wrong)-before)
			}
		}
	}
	for _, c := range wrong {
		for _, number := range []int{0, 1, -1, 16, c.Homes - 1, c.Homes} {
			if h, err := home.New(c, number); h != nil || err != api.ErrArg {
				t.Fatalf("%+v, %d: %v, %d", c, number, h, err)
			}
		}
	}
}

// P16.1: a home has a number of the machine's.
func TestNewOfWrongNumbers(t *testing.T) {
	for _, c := range machines() {
		for _, number := range outside(c.Homes) {
			if h, err := home.New(c, number); h != nil || err != api.ErrArg {
				t.Fatalf("%+v, %d: %v, %d", c, number, h, err)
			}
		}
	}
}

// busy is a home whose queue is almost full, or full: one request waits, one waits behind another of its line, one is started, for one all is sent.
func busy(t *testing.T, full bool) host {
	t.Helper()
	c := example()
	c.Buffer = 6
	if full {
		c.Buffer = 5
	}
	x := made(t, c, 1)
	x.serves(x.ask(api.GetM, 5, 2))
	x.serves(x.put(5, 2, x.any(1)))
	x.serves(x.ask(api.GetM, 7, 0))
	x.serves(x.ask(api.GetS, 7, 1))
	x.accepts(x.ask(api.GetS, 5, 2), x.ask(api.GetM, 7, 3), x.ask(api.GetS, 7, 3), x.put(7, 2, x.any(2)), x.ask(api.GetM, 9, 1))
	x.starts(4)
	x.works(4, plenty(), x.data(9, 1, api.Modified, 0, api.Words{}), true, true)
	x.starts(1)
	return x
}

// P16.1: such homes take what is right, so that what is told of wrong ones below is told of what is wrong with them.
func TestRightMessages(t *testing.T) {
	for _, kind := range kinds() {
		for line := 1; line < 16; line += 2 {
			for core := range 4 {
				x := busy(t, false)
				m := x.request(kind, line, core)
				x.mustBe(m)
				x.accepts(m)
				busy(t, true).acceptsInVain(m, api.ErrFull)
			}
		}
	}
	for _, full := range []bool{true, false} {
		busy(t, full).finishes(9, 1)
	}
}

// homes are one without anything, those of few sizes and of many, and the busy ones.
func homes(t *testing.T) []host {
	t.Helper()
	return []host{simple(t), made(t, least(), 0), made(t, most(), 15), made(t, sized(2, 16, 1, 1, 2, 2), 9), busy(t, false), busy(t, true)}
}

// P16.1: lines of other homes, below 0, and behind the last are none.
func TestEntryAndLineOfNone(t *testing.T) {
	for _, x := range homes(t) {
		x.steady(func() {
			for _, line := range outside(x.c.Lines) {
				x.lacks(line)
			}
			for line := range x.c.Lines {
				if line%x.c.Homes != x.number {
					x.lacks(line)
				}
			}
		})
	}
}

// fields are those of a message, each with a way to set it.
func fields() []func(m *api.Message, n int) {
	l := []func(m *api.Message, n int){
		func(m *api.Message, n int) { m.Kind = n },
		func(m *api.Message, n int) { m.Line = n },
		func(m *api.Message, n int) { m.From = n },
		func(m *api.Message, n int) { m.To = n },
		func(m *api.Message, n int) { m.Who = n },
		func(m *api.Message, n int) { m.Acks = n },
		func(m *api.Message, n int) { m.Own = n },
	}
	for i := range api.MostWords {
		l = append(l, func(m *api.Message, n int) { m.Words[i] = n })
	}
	return l
}

// eachWrong goes through messages of which one field is wrong: they may not be on the machine.
func (x host) eachWrong(right api.Message, do func(m api.Message)) {
	x.t.Helper()
	x.mustBe(right)
	for field, set := range fields() {
		wrong := 0
		for _, n := range append(outside(16), numbers(13)...) {
			m := right
			set(&m, n)
			if !message.May(x.c, m) {
				do(m)
				wrong++
			}
		}
		if wrong < 5 {
			x.t.Fatalf("%+v: field %d: %d wrong ones", right, field, wrong)
		}
	}
}

// P16.1: a request of which one field is wrong isn't accepted; that is told ahead of there being no room.
func TestAcceptOfWrongFields(t *testing.T) {
	for _, full := range []bool{true, false} {
		x := busy(t, full)
		for _, right := range []api.Message{x.ask(api.GetS, 5, 2), x.ask(api.GetM, 11, 0), x.put(7, 3, x.any(3))} {
			x.eachWrong(right, func(m api.Message) { x.acceptsInVain(m, api.ErrArg) })
		}
		x.acceptsInVain(api.Message{}, api.ErrArg)
	}
}

// P16.1: what is of another network isn't accepted, be it to a home or to a core of its number.
func TestAcceptOfOtherNetworks(t *testing.T) {
	for _, x := range []host{simple(t), busy(t, false), busy(t, true)} {
		for line := 1; line < 16; line += 2 {
			from := api.Message{Kind: api.Data, Line: line, From: 3, To: 1, Who: 1, Own: api.Shared}
			for _, m := range []api.Message{
				x.forward(api.FwdS, line, 1, 2, 0), x.forward(api.FwdM, line, 1, 2, 1), x.forward(api.Inv, line, 1, 2, 0),
				x.data(line, 1, api.Modified, 0, x.any(1)), from, x.grant(line, 1, 2), x.putAck(line, 1),
				{Kind: api.Ack, Line: line, From: 3, To: 1}, x.done(line, 1), x.done(line, 2),
			} {
				x.mustBe(m)
				x.acceptsInVain(m, api.ErrArg)
			}
		}
	}
}

// P16.1: a request to another home isn't accepted, though it may be on the machine, and that home accepts it.
func TestAcceptOfWhatIsForAnotherHome(t *testing.T) {
	for _, c := range []api.Config{example(), most(), sized(3, 4, 1, 1, 8, 1)} {
		for number := range c.Homes {
			x := made(t, c, number)
			for line := range min(c.Lines, 40) {
				if line%c.Homes == number {
					continue
				}
				for _, kind := range kinds() {
					m := x.request(kind, line, 1)
					x.mustBe(m)
					if err := x.h.Accept(m); err != api.ErrArg {
						t.Fatalf("%d: %+v: %d", number, m, err)
					}
					m.To = number
					if err := x.h.Accept(m); err != api.ErrArg {
						t.Fatalf("%d: %+v: %d", number, m, err)
					}
				}
			}
			x.queues()
		}
	}
	full := busy(t, true)
	for _, kind := range kinds() {
		full.acceptsInVain(full.request(kind, 4, 1), api.ErrArg)
		made(t, full.c, 0).accepts(full.request(kind, 4, 1))
	}
}

// P16.3: a Done of which one field is wrong is refused, though the rest of it is right.
func TestDoneOfWrongFields(t *testing.T) {
	for _, full := range []bool{true, false} {
		x := busy(t, full)
		for _, right := range []api.Message{x.done(9, 1), x.done(7, 3), x.done(11, 0)} {
			x.eachWrong(right, func(m api.Message) { x.finishesInVain(m, api.ErrArg) })
		}
		x.finishesInVain(api.Message{}, api.ErrArg)
		x.finishes(9, 1)
	}
}

// P16.3: a message of any other kind is no Done, though it may be on the machine, also of a line and a core that may be done.
func TestDoneOfOtherKinds(t *testing.T) {
	x := busy(t, false)
	for _, line := range []int{5, 7, 9, 11} {
		for _, m := range []api.Message{
			x.ask(api.GetS, line, 1), x.ask(api.GetM, line, 1), x.put(line, 1, x.any(1)),
			x.forward(api.FwdS, line, 1, 2, 0), x.forward(api.FwdM, line, 1, 2, 1), x.forward(api.Inv, line, 1, 2, 0),
			x.data(line, 1, api.Modified, 0, x.any(1)), x.grant(line, 1, 0), x.putAck(line, 1),
			{Kind: api.Ack, Line: line, From: 3, To: 1}, {Kind: api.Data, Line: line, From: 3, To: 1, Who: 1, Own: api.Modified},
		} {
			x.mustBe(m)
			x.finishesInVain(m, api.ErrArg)
		}
	}
	x.finishes(9, 1)
}

// P16.3: a Done to another home is refused, whatever that home's requests are.
func TestDoneOfAnotherHome(t *testing.T) {
	c := sized(3, 4, 1, 1, 8, 1)
	for number := range 4 {
		x := made(t, c, number)
		x.accepts(x.ask(api.GetM, number, 1))
		x.starts(0)
		x.sends(0, x.data(number, 1, api.Modified, 0, api.Words{}))
		for line := range 8 {
			if line%4 != number {
				m := x.done(line, 1)
				x.mustBe(m)
				x.finishesInVain(m, api.ErrArg)
				m.To = number
				x.finishesInVain(m, api.ErrArg)
			}
		}
		x.finishesInVain(x.done(number+4, 1), api.ErrTable)
		x.finishes(number, 1)
	}
}

// P16.3: nothing is done of another line, of another core, of what isn't started, of what has messages still to be sent, and of a Put.
func TestDoneOfNone(t *testing.T) {
	for _, x := range []host{simple(t), busy(t, false), busy(t, true)} {
		for line := 1; line < 16; line += 2 {
			for core := range 4 {
				if may := line == 9 && core == 1 && len(x.h.Queue()) > 0; !may {
					m := x.done(line, core)
					x.mustBe(m)
					x.finishesInVain(m, api.ErrTable)
				}
			}
		}
	}
}
