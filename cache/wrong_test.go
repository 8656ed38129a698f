package cache_test

import (
	"math"
	"testing"

	"mesne/api"
	"mesne/array"
	"mesne/cache"
	"mesne/message"
	"mesne/shape"
)

// outside are numbers that are none of the first so many from 0 on.
func outside(count int) []int {
	return []int{
		-1, count, -2, count + 1, 2*count + 1, -count, count + 64, count + 1024, -64, -1024,
		1 << 31, 1<<31 + 1, 1 << 32, 1<<32 + 1, 1 << 61, 1 << 62, -1 << 31, -1 << 32, -1 << 62,
		math.MinInt, math.MinInt + 1, math.MaxInt - 1, math.MaxInt,
	}
}

// sizes are a machine's sizes, each with a way to set it.
func sizes() []func(c *api.Config, n int) {
	return []func(c *api.Config, n int){
		func(c *api.Config, n int) { c.Cores = n },
		func(c *api.Config, n int) { c.Homes = n },
		func(c *api.Config, n int) { c.Sets = n },
		func(c *api.Config, n int) { c.Ways = n },
		func(c *api.Config, n int) { c.Words = n },
		func(c *api.Config, n int) { c.Lines = n },
		func(c *api.Config, n int) { c.Pointers = n },
		func(c *api.Config, n int) { c.Mshrs = n },
		func(c *api.Config, n int) { c.Buffer = n },
		func(c *api.Config, n int) { c.Writebacks = n },
		func(c *api.Config, n int) { c.Room[0] = n },
		func(c *api.Config, n int) { c.Room[1] = n },
		func(c *api.Config, n int) { c.Room[2] = n },
	}
}

// P14.1: of a machine that may not be there is no cache, whichever of its sizes is wrong, above or below, and whatever the core.
func TestNewOfWrongSizes(t *testing.T) {
	wrong := []api.Config{{}, {Cores: 3}}
	for _, base := range []api.Config{least(), example(), most()} {
		for i, set := range sizes() {
			before := len(wrong)
			for _, n := range []int{math.MinInt, -2, -1, 0, 3, 9, 17, 65, 128, 2048, 1 << 32, 1 << 62, math.MaxInt} {
				c := base
				set(&c, n)
				if shape.Check(c) != api.OK {
					wrong = append(wrong, c)
				}
			}
			if len(wrong)-before < 6 {
				t.Fatalf("size %d: %d wrong ones", i, len(wrong)-before)
			}
		}
	}
	for _, c := range wrong {
		for _, core := range []int{0, 1, -1, 64, c.Cores - 1, c.Cores} {
			if k, err := cache.New(c, core); k != nil || err != api.ErrArg {
				t.Fatalf("%+v, %d: %v, %d", c, core, k, err)
			}
		}
	}
}

// P14.1: a cache is of a core of the machine.
func TestNewOfWrongCores(t *testing.T) {
	for _, c := range machines() {
		for _, core := range outside(c.Cores) {
			if k, err := cache.New(c, core); k != nil || err != api.ErrArg {
				t.Fatalf("%+v, %d: %v, %d", c, core, k, err)
			}
		}
	}
}

// crowded is a cache that has something of each kind: lines of all states, misses, and evicted lines.
func crowded(t *testing.T) user {
	t.Helper()
	u := made(t, sized(5, 4, 2, 4, 4, 32, 5, 3), 1)
	u.buffers(20, true, words(4, 20))
	u.buffers(21, false, words(4, 21))
	for i, state := range readables() {
		u.brings(2*i, state, words(4, i))
	}
	u.brings(3, api.Owned, words(4, 7))
	u.asks(3, api.GetM)
	u.takes(u.grant(3, 3), u.ack(3, 2))
	u.asks(5, api.GetM)
	u.takes(u.ack(5, 4))
	u.asks(7, api.GetS)
	return u
}

// caches are one without anything, one full of its kind, and the crowded one.
func caches(t *testing.T) []user {
	t.Helper()
	full := made(t, sized(2, 1, 1, 1, 1, 4, 1, 1), 0)
	full.buffers(1, true, words(1, 1))
	full.brings(3, api.Owned, words(1, 3))
	full.asks(3, api.GetM)
	return []user{simple(t), made(t, most(), 63), made(t, least(), 0), full, crowded(t)}
}

// P14.1: there is no such line, set or way.
func TestLookAndWayOfNone(t *testing.T) {
	for _, u := range caches(t) {
		u.steady(func() {
			for _, line := range outside(u.c.Lines) {
				u.lacks(line)
			}
			none := func(set, way int) {
				if w, ok := u.k.Way(set, way); w != (array.Way{}) || ok {
					t.Fatalf("Way %d, %d: %+v, %v", set, way, w, ok)
				}
			}
			for _, set := range outside(u.c.Sets) {
				none(set, 0)
				none(set, u.c.Ways-1)
				none(set, u.c.Ways)
			}
			for _, way := range outside(u.c.Ways) {
				none(0, way)
				none(u.c.Sets-1, way)
			}
		})
	}
}

// P14.2: lines that there are not, and kinds of which a line isn't asked for; whatever else is wrong.
func TestAskOfWrongLinesAndKinds(t *testing.T) {
	wrong := append(outside(12), 0, api.Put, api.FwdS, api.FwdM, api.Inv, api.Data, api.Grant, api.Ack, api.PutAck, api.Done, 256+api.GetS, 1<<32+api.GetM)
	for _, u := range caches(t) {
		for _, line := range outside(u.c.Lines) {
			u.asksInVain(line, api.GetS, api.ErrArg)
			u.asksInVain(line, api.GetM, api.ErrArg)
			u.asksInVain(line, api.Put, api.ErrArg)
		}
		for _, kind := range wrong {
			for _, line := range []int{0, u.c.Lines / 2, u.c.Lines - 1, u.c.Lines} {
				u.asksInVain(line, kind, api.ErrArg)
			}
		}
	}
	u := crowded(t)
	for line := range u.c.Lines {
		u.asksInVain(line, 0, api.ErrArg)
		u.asksInVain(line, api.Put, api.ErrArg)
	}
}

// P14.3: sets and ways that there are not.
func TestEvictOfWrongWays(t *testing.T) {
	for _, u := range caches(t) {
		for _, set := range outside(u.c.Sets) {
			u.evictsInVain(set, 0, api.ErrName)
			u.evictsInVain(set, u.c.Ways-1, api.ErrName)
			u.evictsInVain(set, -1, api.ErrName)
		}
		for _, way := range outside(u.c.Ways) {
			u.evictsInVain(0, way, api.ErrName)
			u.evictsInVain(u.c.Sets-1, way, api.ErrName)
		}
	}
}

// rights are messages that the crowded cache takes, some of each kind.
func rights(u user) []api.Message {
	from := u.data(7, api.Shared, 0, words(4, 9))
	from.From, from.Who = 3, 1
	return []api.Message{
		u.forward(api.FwdS, 2, 3, 0), u.forward(api.FwdS, 4, 0, 0), u.forward(api.FwdS, 6, 2, 0), u.forward(api.FwdS, 20, 4, 0), u.forward(api.FwdS, 3, 4, 0),
		u.forward(api.FwdM, 2, 3, 0), u.forward(api.FwdM, 4, 0, 4), u.forward(api.FwdM, 6, 2, 1), u.forward(api.FwdM, 20, 4, 2), u.forward(api.FwdM, 3, 4, 2),
		u.forward(api.Inv, 0, 3, 0), u.forward(api.Inv, 7, 0, 0), u.forward(api.Inv, 20, 2, 0), u.forward(api.Inv, 30, 2, 0),
		u.data(5, api.Modified, 1, words(4, 9)), u.data(5, api.Modified, 4, words(4, 9)), u.data(7, api.Shared, 0, words(4, 9)), u.data(7, api.Exclusive, 0, words(4, 9)), from,
		u.ack(3, 0), u.ack(5, 0),
		u.fromHome(api.PutAck, 20), u.fromHome(api.PutAck, 21),
	}
}

// P14.4: these are right, and each of them is taken: so what is told of wrong ones below is told of what is wrong with them.
func TestRightMessages(t *testing.T) {
	count := len(rights(crowded(t)))
	for i := range count {
		u := crowded(t)
		m := rights(u)[i]
		u.mustBe(m)
		if _, _, err := u.k.Take(m); err != api.OK {
			t.Fatalf("%+v: %d", m, err)
		}
	}
	u := made(t, example(), 1)
	u.brings(4, api.Owned, words(4, 1))
	u.asks(4, api.GetM)
	u.takes(u.grant(4, 0))
}

// fields are those of a message, each with a way to set it.
func fields() []func(m *api.Message, n int) {
	l := []func(m *api.Message, n int){
		func(m *api.Message, n int) { m.Kind = n },
		func(m *api.Message, n int) { m.Line = n },
		func(m *api.Message, n int) { m.From = n },
		func(m *api.Message, n int) { m.To = n },
		func(m *api.Message, n int) { m.Who = n },
		func(m *api.Message, n int) { m.Acks = n },
		func(m *api.Message, n int) { m.Own = n },
	}
	for i := range api.MostWords {
		l = append(l, func(m *api.Message, n int) { m.Words[i] = n })
	}
	return l
}

// P14.4: a message of which one field is wrong may not be on the machine, or isn't for the core: it is refused, though the rest of it is right.
func TestTakeOfWrongFields(t *testing.T) {
	u := crowded(t)
	for _, right := range append(rights(u), u.grant(3, 3), u.grant(4, 0)) {
		for field, set := range fields() {
			wrong := 0
			for _, n := range append(outside(32), numbers(13)...) {
				m := right
				set(&m, n)
				if !message.May(u.c, m) || m.To != u.core {
					u.takesInVain(m, api.ErrArg)
					wrong++
				}
			}
			if wrong < 5 {
				t.Fatalf("%+v: field %d: %d wrong ones", right, field, wrong)
			}
		}
	}
}

// P14.4: what goes to a home isn't the cache's, also where the home has the core's number.
func TestTakeOfWhatGoesToAHome(t *testing.T) {
	for _, kind := range []int{api.GetS, api.GetM, api.Put, api.Done} {
		for _, u := range []user{simple(t), crowded(t)} {
			for line := range 16 {
				for _, from := range numbers(u.c.Cores) {
					m := api.Message{Kind: kind, Line: line, From: from, To: u.home(line)}
					u.mustBe(m)
					u.takesInVain(m, api.ErrArg)
				}
			}
		}
	}
}

// P14.4: what is for another core isn't the cache's, though that core may take it; of each kind.
func TestTakeOfWhatIsForAnotherCore(t *testing.T) {
	u := crowded(t)
	for _, core := range u.others() {
		other := u
		other.core = core
		who := (core + 1) % u.c.Cores
		for line := range u.c.Lines {
			for _, m := range []api.Message{
				other.forward(api.FwdS, line, who, 0), other.forward(api.FwdM, line, who, 1), other.forward(api.Inv, line, who, 0),
				other.data(line, api.Shared, 0, words(4, 1)), other.data(line, api.Modified, 1, words(4, 1)),
				other.grant(line, 0), other.ack(line, who), other.fromHome(api.PutAck, line),
				u.told(line, core, api.Modified, 0, words(4, 1)), u.acked(line, core),
			} {
				u.mustBe(m)
				u.takesInVain(m, api.ErrArg)
			}
		}
	}
}

// P14.4: a message that may not be is refused ahead of there being no entry for it.
func TestTakeOfSeveralErrors(t *testing.T) {
	u := simple(t)
	u.hasNoEntry(u.forward(api.FwdM, 4, 3, 4))
	u.takesInVain(u.forward(api.FwdM, 4, 3, 5), api.ErrArg)
	u.takesInVain(u.forward(api.FwdM, 4, 1, 0), api.ErrArg)
	u.takesInVain(u.forward(api.FwdS, 4, 3, 1), api.ErrArg)
	u.takesInVain(u.data(4, api.Owned, 0, words(4, 1)), api.ErrArg)
	u.takesInVain(u.data(4, api.Shared, 0, words(5, 1)), api.ErrArg)
	u.takesInVain(u.ack(4, 1), api.ErrArg)
	u.takesInVain(u.data(16, api.Shared, 0, words(4, 1)), api.ErrArg)
	u.takesInVain(api.Message{}, api.ErrArg)
	other := u.fromHome(api.PutAck, 4)
	other.To = 2
	u.takesInVain(other, api.ErrArg)
}

// P14.5: operations that may not be, or that the machine hasn't, and fences; whatever the line of their address is.
func TestDoOfWrongOperations(t *testing.T) {
	for _, u := range caches(t) {
		for _, addr := range append(outside(u.c.Words*u.c.Lines), 8192) {
			u.doesInVain(load(addr), api.ErrArg)
			u.doesInVain(store(addr, 1), api.ErrArg)
			u.doesInVain(swap(addr, 1), api.ErrArg)
		}
		for _, addr := range []int{0, u.c.Words*u.c.Lines - 1} {
			u.doesInVain(api.Op{Kind: api.Load, Addr: addr, Value: 1}, api.ErrArg)
			u.doesInVain(api.Op{Kind: api.Fence, Addr: addr, Value: 1}, api.ErrArg)
			u.doesInVain(api.Op{Kind: api.Fence, Addr: addr}, api.ErrArg)
			for _, value := range []int{-1<<31 - 1, 1 << 31, math.MinInt, math.MaxInt} {
				u.doesInVain(store(addr, value), api.ErrArg)
				u.doesInVain(swap(addr, value), api.ErrArg)
			}
			for _, kind := range []int{0, -1, 5, 6, 256 + api.Load, 1<<32 + api.Store, math.MinInt, math.MaxInt} {
				u.doesInVain(api.Op{Kind: kind, Addr: addr}, api.ErrArg)
				u.doesInVain(api.Op{Kind: kind, Addr: addr, Value: 1}, api.ErrArg)
			}
		}
		u.doesInVain(api.Op{}, api.ErrArg)
	}
}

// P14.5: such operations are refused also where the line can be written.
func TestDoOfWrongOperationsOnALine(t *testing.T) {
	u := simple(t)
	u.brings(0, api.Modified, words(4, 1))
	u.brings(15, api.Exclusive, words(4, 1))
	u.doesInVain(api.Op{Kind: api.Fence}, api.ErrArg)
	u.doesInVain(api.Op{Kind: api.Load, Addr: 1, Value: 1}, api.ErrArg)
	u.doesInVain(store(0, 1<<31), api.ErrArg)
	u.doesInVain(swap(63, -1<<31-1), api.ErrArg)
	u.doesInVain(store(64, 1), api.ErrArg)
	u.doesInVain(load(-1), api.ErrArg)
	u.doesInVain(api.Op{Kind: 5, Addr: 1}, api.ErrArg)
	u.does(load(63), words(4, 1)[3])
	u.does(swap(0, 1), words(4, 1)[0])
}
