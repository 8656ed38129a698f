package net_test

import (
	"math"
	"slices"
	"testing"

	"mesne/api"
	"mesne/message"
	"mesne/net"
	"mesne/shape"
)

// roomed is a machine of ordinary sizes, whose networks have certain rooms.
func roomed(requests, forwards, responses int) api.Config {
	return api.Config{
		Cores: 4, Homes: 2, Sets: 4, Ways: 3, Words: 2, Lines: 8,
		Pointers: 2, Mshrs: 5, Buffer: 6, Writebacks: 7, Room: [3]int{requests, forwards, responses},
	}
}

func least() api.Config {
	return api.Config{
		Cores: 1, Homes: 1, Sets: 1, Ways: 1, Words: 1, Lines: 1,
		Pointers: 0, Mshrs: 1, Buffer: 1, Writebacks: 1, Room: [3]int{1, 1, 1},
	}
}

func most() api.Config {
	return api.Config{
		Cores: 64, Homes: 16, Sets: 64, Ways: 8, Words: 8, Lines: 1024,
		Pointers: 8, Mshrs: 8, Buffer: 16, Writebacks: 8, Room: [3]int{64, 64, 64},
	}
}

// machines are such on which there may be messages of all kinds.
func machines() []api.Config {
	return []api.Config{roomed(1, 1, 1), roomed(7, 9, 12), roomed(2, 64, 3), roomed(64, 1, 64), most()}
}

// kindsOf are the kinds of a network.
func kindsOf(network int) []int {
	switch network {
	case 0:
		return []int{api.GetS, api.GetM, api.Put}
	case 1:
		return []int{api.FwdS, api.FwdM, api.Inv}
	case 2:
		return []int{api.Data, api.Grant, api.Ack, api.PutAck, api.Done}
	}
	return nil
}

func networkOf(kind int) int {
	for network := range 3 {
		if slices.Contains(kindsOf(network), kind) {
			return network
		}
	}
	return -1
}

func kinds() []int { return slices.Concat(kindsOf(0), kindsOf(1), kindsOf(2)) }

// some is a message of a kind, of a line, that may be on a machine of two cores or more; those of different n below Cores are different ones.
func some(c api.Config, kind, line, n int) api.Message {
	core, other, home := n%c.Cores, (n+1)%c.Cores, line%c.Homes
	m := api.Message{Kind: kind, Line: line}
	switch kind {
	case api.GetS, api.GetM, api.Put, api.Done:
		m.From, m.To = core, home
	case api.FwdS, api.FwdM, api.Inv:
		m.From, m.To, m.Who = home, core, other
	case api.Grant, api.PutAck, api.Data:
		m.From, m.To = home, core
	case api.Ack:
		m.From, m.To = core, other
	}
	if kind == api.Data {
		m.Own = []int{api.Shared, api.Exclusive, api.Modified}[n%3]
		if n%2 == 1 {
			m.From, m.Who = other, 1
		}
	}
	if slices.Contains([]int{api.FwdM, api.Data, api.Grant}, kind) {
		m.Acks = n % c.Cores
	}
	if kind == api.Put || kind == api.Data {
		for i := range c.Words {
			m.Words[i] = 10*n - i
		}
	}
	return m
}

// several are messages of a network, of all its kinds and several lines, as many as are asked for.
func several(c api.Config, network, count int) []api.Message {
	k := kindsOf(network)
	var l []api.Message
	for i := range count {
		l = append(l, some(c, k[i%len(k)], (3*i+i/5)%c.Lines, i))
	}
	return l
}

// empty is a new net of a machine.
func empty(t *testing.T, c api.Config) *net.Net {
	t.Helper()
	n, e := net.New(c)
	if n == nil || e != api.OK {
		t.Fatalf("%+v: %v, %d", c, n, e)
	}
	return n
}

// loaded is a new net of a machine, with messages sent.
func loaded(t *testing.T, c api.Config, messages ...api.Message) *net.Net {
	t.Helper()
	n := empty(t, c)
	for _, m := range messages {
		wantSend(t, n, m, api.OK)
	}
	return n
}

// full is a net without room on any network, and what is on these.
func full(t *testing.T, c api.Config) (*net.Net, [3][]api.Message) {
	t.Helper()
	var on [3][]api.Message
	for network, room := range c.Room {
		on[network] = several(c, network, room)
	}
	return loaded(t, c, slices.Concat(on[:]...)...), on
}

func wantSend(t *testing.T, n *net.Net, m api.Message, want api.Errno) {
	t.Helper()
	if e := n.Send(m); e != want {
		t.Fatalf("Send %+v: %d, not %d", m, e, want)
	}
}

func wantTake(t *testing.T, n *net.Net, network, at int, want api.Message, err api.Errno) {
	t.Helper()
	if m, e := n.Take(network, at); m != want || e != err {
		t.Fatalf("Take %d %d: %+v, %d, not %+v, %d", network, at, m, e, want, err)
	}
}

func wantAt(t *testing.T, n *net.Net, network, at int, want api.Message, is bool) {
	t.Helper()
	if m, ok := n.At(network, at); m != want || ok != is {
		t.Fatalf("At %d %d: %+v, %t, not %+v, %t", network, at, m, ok, want, is)
	}
}

func wantList(t *testing.T, n *net.Net, network int, want []api.Message) {
	t.Helper()
	if l := n.List(network); !slices.Equal(l, want) {
		t.Fatalf("List %d: %+v, not %+v", network, l, want)
	}
}

func wantLeft(t *testing.T, n *net.Net, network, want int) {
	t.Helper()
	if left := n.Left(network); left != want {
		t.Fatalf("Left %d: %d, not %d", network, left, want)
	}
}

func wantEmpty(t *testing.T, n *net.Net, want bool) {
	t.Helper()
	if is := n.Empty(); is != want {
		t.Fatalf("Empty: %t", is)
	}
}

func wantOf(t *testing.T, n *net.Net, line int, want []api.Message) {
	t.Helper()
	if l := n.Of(line); !slices.Equal(l, want) {
		t.Fatalf("Of %d: %+v, not %+v", line, l, want)
	}
}

// wantNet tells that a machine's net has just these messages, whichever way it is asked.
func wantNet(t *testing.T, n *net.Net, c api.Config, want [3][]api.Message) {
	t.Helper()
	for network, l := range want {
		wantList(t, n, network, l)
		wantLeft(t, n, network, c.Room[network]-len(l))
		for at, m := range l {
			wantAt(t, n, network, at, m, true)
		}
		for _, at := range outside(len(l)) {
			wantAt(t, n, network, at, api.Message{}, false)
		}
	}
	for _, network := range outside(3) {
		wantNoNetwork(t, n, network)
	}
	wantLines(t, n, c, slices.Concat(want[:]...))
}

// wantLines tells that a machine's net has just these messages, as it is asked for lines.
func wantLines(t *testing.T, n *net.Net, c api.Config, want []api.Message) {
	t.Helper()
	wantEmpty(t, n, len(want) == 0)
	of := map[int][]api.Message{}
	for _, m := range want {
		of[m.Line] = append(of[m.Line], m)
	}
	for line := range c.Lines {
		wantOf(t, n, line, of[line])
	}
	for _, line := range outside(c.Lines) {
		wantOf(t, n, line, nil)
	}
}

// wantNoNetwork tells that a net says nothing of a network that there is not.
func wantNoNetwork(t *testing.T, n *net.Net, network int) {
	t.Helper()
	wantList(t, n, network, nil)
	wantLeft(t, n, network, 0)
	for _, at := range []int{-1, 0, 1, 2, 63, 64} {
		wantAt(t, n, network, at, api.Message{}, false)
	}
}

// outside are numbers that are none of the first so many from 0 on.
func outside(count int) []int {
	return []int{
		-1, count, -2, -3, -4, count + 1, count + 2, -count - 1, 2*count + 1, 1024, 4096, 1 << 16,
		1 << 31, 1 << 32, 1<<32 + 1, -1 << 31, -1 << 32, 1<<62 + 1, math.MinInt, math.MinInt + 1, math.MaxInt - 1, math.MaxInt,
	}
}

// P7.1: the chapter's example, send by send.
func TestExample(t *testing.T) {
	c := roomed(1, 1, 1)
	n := empty(t, c)
	get, inv := some(c, api.GetS, 0, 0), some(c, api.Inv, 0, 0)
	wantSend(t, n, get, api.OK)
	wantSend(t, n, some(c, api.GetM, 0, 0), api.ErrFull)
	wantSend(t, n, inv, api.OK)
	wantNet(t, n, c, [3][]api.Message{{get}, {inv}, nil})
}

// P7.1, P7.2: a new net has no messages, and the machine's room for each network.
func TestNew(t *testing.T) {
	for _, c := range append(machines(), least()) {
		wantNet(t, empty(t, c), c, [3][]api.Message{})
	}
	for network := range 3 {
		for _, room := range []int{1, 2, 3, 31, 32, 33, 63, 64} {
			c := roomed(5, 5, 5)
			c.Room[network] = room
			n := empty(t, c)
			for other := range 3 {
				wantLeft(t, n, other, c.Room[other])
			}
		}
	}
}

// size is one of a machine's sizes.
type size struct {
	name string
	of   func(c *api.Config) *int
}

func sizes() []size {
	return []size{
		{"Cores", func(c *api.Config) *int { return &c.Cores }},
		{"Homes", func(c *api.Config) *int { return &c.Homes }},
		{"Sets", func(c *api.Config) *int { return &c.Sets }},
		{"Ways", func(c *api.Config) *int { return &c.Ways }},
		{"Words", func(c *api.Config) *int { return &c.Words }},
		{"Lines", func(c *api.Config) *int { return &c.Lines }},
		{"Pointers", func(c *api.Config) *int { return &c.Pointers }},
		{"Mshrs", func(c *api.Config) *int { return &c.Mshrs }},
		{"Buffer", func(c *api.Config) *int { return &c.Buffer }},
		{"Writebacks", func(c *api.Config) *int { return &c.Writebacks }},
		{"Room 0", func(c *api.Config) *int { return &c.Room[0] }},
		{"Room 1", func(c *api.Config) *int { return &c.Room[1] }},
		{"Room 2", func(c *api.Config) *int { return &c.Room[2] }},
	}
}

func wantNoNew(t *testing.T, name string, c api.Config) {
	t.Helper()
	if n, e := net.New(c); n != nil || e != api.ErrArg {
		t.Errorf("%s: %+v: %v, %d", name, c, n, e)
	}
}

// P7.1: of sizes that may not be there is no net beside the error, whichever of them is wrong.
func TestNewOfWrongSizes(t *testing.T) {
	wantNoNew(t, "none", api.Config{})
	for _, x := range sizes() {
		for _, number := range []int{math.MinInt, -64, -1, 0, 1025, 2048, 4096, 1 << 16, 1 << 32, 1<<32 + 1, 1 << 62, math.MaxInt} {
			for _, c := range append(machines(), least()) {
				*x.of(&c) = number
				// Pointers alone may be 0.
				if x.name != "Pointers" || number != 0 {
					wantNoNew(t, x.name, c)
				}
			}
		}
	}
	for _, network := range []int{0, 1, 2} {
		c := roomed(64, 64, 64)
		c.Room[network] = 65
		wantNoNew(t, "a room of 65", c)
	}
}

// P7.1: just the sizes that may be have a net.
func TestNewAsSizesMayBe(t *testing.T) {
	for _, x := range sizes() {
		for number := -2; number <= 70; number++ {
			c := roomed(7, 8, 9)
			*x.of(&c) = number
			if shape.Check(c) != api.OK {
				wantNoNew(t, x.name, c)
			} else {
				empty(t, c)
			}
		}
	}
}

// P7.1, P7.2, P7.3: a message of each kind, alone: it is on its kind's network, of its line, and may be taken from there.
func TestSingleMessage(t *testing.T) {
	for _, c := range machines() {
		for _, kind := range kinds() {
			for _, line := range []int{0, 1, c.Lines - 1} {
				for i := range 4 {
					m := some(c, kind, line, i)
					n := loaded(t, c, m)
					var want [3][]api.Message
					want[networkOf(kind)] = []api.Message{m}
					wantNet(t, n, c, want)
					wantTake(t, n, networkOf(kind), 1, api.Message{}, api.ErrName)
					wantTake(t, n, networkOf(kind), 0, m, api.OK)
					wantNet(t, n, c, [3][]api.Message{})
					wantTake(t, n, networkOf(kind), 0, api.Message{}, api.ErrName)
				}
			}
		}
	}
}

// P7.1: a machine of one core has messages to and from its home alone.
func TestLeastMachine(t *testing.T) {
	c := least()
	get, grant := api.Message{Kind: api.GetM}, api.Message{Kind: api.Grant}
	n := loaded(t, c, get, grant)
	for _, kind := range append(kindsOf(1), api.Ack) {
		wantSend(t, n, api.Message{Kind: kind}, api.ErrArg)
	}
	wantSend(t, n, api.Message{Kind: api.Put, Words: api.Words{1}}, api.ErrFull)
	wantSend(t, n, api.Message{Kind: api.Data, Own: api.Exclusive, Words: api.Words{1}}, api.ErrFull)
	wantNet(t, n, c, [3][]api.Message{{get}, nil, {grant}})
}

// P7.1, P7.3: what is sent is behind all of its network, and those of others stay as they are.
func TestSendIsBehindAll(t *testing.T) {
	for _, c := range machines() {
		n := empty(t, c)
		var on [3][]api.Message
		for i := range 64 {
			for _, network := range []int{2, 0, 1} {
				if i < c.Room[network] {
					m := several(c, network, i+1)[i]
					wantSend(t, n, m, api.OK)
					on[network] = append(on[network], m)
				}
			}
			if i < 16 {
				wantNet(t, n, c, on)
			}
		}
		wantNet(t, n, c, on)
		for network := range 3 {
			wantLeft(t, n, network, 0)
		}
	}
}

// P7.1: the same message may be there twice, and each is taken once.
func TestSameMessageTwice(t *testing.T) {
	c := roomed(3, 3, 3)
	for _, kind := range kinds() {
		network := networkOf(kind)
		m, other := some(c, kind, 5, 1), some(c, kind, 5, 2)
		n := loaded(t, c, m, other, m)
		wantSend(t, n, m, api.ErrFull)
		var want [3][]api.Message
		want[network] = []api.Message{m, other, m}
		wantNet(t, n, c, want)
		wantTake(t, n, network, 2, m, api.OK)
		want[network] = []api.Message{m, other}
		wantNet(t, n, c, want)
		wantTake(t, n, network, 0, m, api.OK)
		wantTake(t, n, network, 0, other, api.OK)
		wantEmpty(t, n, true)
	}
}

// P7.1, P7.3: messages are taken from the first place, the middle and the last; the others stay in order, and those of other networks where they are.
func TestTake(t *testing.T) {
	for _, c := range []api.Config{roomed(5, 5, 5), roomed(6, 5, 9), roomed(64, 64, 64)} {
		for network := range 3 {
			for at := range 5 {
				on := [3][]api.Message{several(c, 0, 5), several(c, 1, 5), several(c, 2, 5)}
				n := loaded(t, c, slices.Concat(on[:]...)...)
				taken := on[network][at]
				wantTake(t, n, network, at, taken, api.OK)
				on[network] = slices.Delete(on[network], at, at+1)
				wantNet(t, n, c, on)
				wantSend(t, n, taken, api.OK)
				on[network] = append(on[network], taken)
				wantNet(t, n, c, on)
			}
		}
	}
}

// P7.1: all of a network may be taken, in whatever order.
func TestTakeAll(t *testing.T) {
	for _, c := range machines() {
		for _, place := range []func(count int) int{
			func(count int) int { return 0 },
			func(count int) int { return count / 2 },
			func(count int) int { return count - 1 },
		} {
			n, on := full(t, c)
			for _, network := range []int{1, 2, 0} {
				for len(on[network]) > 0 {
					at := place(len(on[network]))
					wantTake(t, n, network, at, on[network][at], api.OK)
					on[network] = slices.Delete(on[network], at, at+1)
					wantList(t, n, network, on[network])
				}
				wantNet(t, n, c, on)
			}
			wantEmpty(t, n, true)
		}
	}
}

// P7.1: places and networks that there are not: the zero message beside the error or the false, and the net as it was.
func TestNoSuchPlace(t *testing.T) {
	for _, c := range machines() {
		filled, on := full(t, c)
		for _, x := range []struct {
			n  *net.Net
			on [3][]api.Message
		}{
			{filled, on},
			{empty(t, c), [3][]api.Message{}},
			{loaded(t, c, on[1][0]), [3][]api.Message{1: {on[1][0]}}},
			{loaded(t, c, on[2][0], on[0][0]), [3][]api.Message{{on[0][0]}, nil, {on[2][0]}}},
		} {
			for network, l := range x.on {
				for _, at := range outside(len(l)) {
					wantTake(t, x.n, network, at, api.Message{}, api.ErrName)
				}
			}
			for _, network := range outside(3) {
				for _, at := range []int{-1, 0, 1, 2, 3, 63, 64, math.MinInt, math.MaxInt} {
					wantTake(t, x.n, network, at, api.Message{}, api.ErrName)
				}
			}
			wantNet(t, x.n, c, x.on)
		}
	}
}

// P7.1, P7.3: a network that is full takes no message of any of its kinds, and the net stays as it was; the others take theirs up to their own rooms.
func TestFull(t *testing.T) {
	for _, c := range append(machines(), roomed(1, 2, 3), roomed(3, 1, 2), roomed(2, 3, 1)) {
		for network, room := range c.Room {
			var on [3][]api.Message
			on[network] = several(c, network, room)
			n := loaded(t, c, on[network]...)
			for other := range 3 {
				for i := 0; len(on[other]) < c.Room[other]; i++ {
					wantFull(t, n, c, network)
					m := several(c, other, i+1)[i]
					wantSend(t, n, m, api.OK)
					on[other] = append(on[other], m)
				}
			}
			wantNet(t, n, c, on)
			for other := range 3 {
				wantFull(t, n, c, other)
			}
			wantNet(t, n, c, on)
		}
	}
}

// wantFull tells that a network takes no message of any of its kinds.
func wantFull(t *testing.T, n *net.Net, c api.Config, network int) {
	t.Helper()
	wantLeft(t, n, network, 0)
	for _, kind := range kindsOf(network) {
		for i := range 2 {
			wantSend(t, n, some(c, kind, i, i), api.ErrFull)
		}
	}
}

// P7.1, P7.2: a network that was full has room again, as much as was taken, whichever place it was, and no other one has more.
func TestRoomAgain(t *testing.T) {
	for _, c := range machines() {
		for network, room := range c.Room {
			for _, at := range []int{0, room / 2, room - 1} {
				n, on := full(t, c)
				for i := range 4 {
					wantTake(t, n, network, at, on[network][at], api.OK)
					on[network] = slices.Delete(on[network], at, at+1)
					wantLeft(t, n, network, 1)
					for other := range 3 {
						if other != network {
							wantFull(t, n, c, other)
						}
					}
					m := some(c, kindsOf(network)[i%3], i, i+1)
					wantSend(t, n, m, api.OK)
					on[network] = append(on[network], m)
					wantFull(t, n, c, network)
				}
				wantNet(t, n, c, on)
			}
		}
	}
}

// P7.2: List, Left, Empty and Of of messages of several lines on all networks, written out.
func TestAsked(t *testing.T) {
	c := roomed(3, 2, 4)
	get, put := api.Message{Kind: api.GetS, Line: 3, From: 2, To: 1}, api.Message{Kind: api.Put, Line: 4, From: 3, To: 0, Words: api.Words{-1, 7}}
	fwd, inv := api.Message{Kind: api.FwdM, Line: 4, From: 0, To: 1, Who: 3, Acks: 2}, api.Message{Kind: api.Inv, Line: 3, From: 1, To: 0, Who: 2}
	data, ack := api.Message{Kind: api.Data, Line: 3, From: 0, To: 2, Who: 1, Own: api.Shared, Words: api.Words{5}}, api.Message{Kind: api.Ack, Line: 4, From: 1, To: 3}
	done := api.Message{Kind: api.Done, Line: 3, From: 2, To: 1}
	n := loaded(t, c, done, inv, put, ack, data, get, fwd)
	wantEmpty(t, n, false)
	wantList(t, n, 0, []api.Message{put, get})
	wantList(t, n, 1, []api.Message{inv, fwd})
	wantList(t, n, 2, []api.Message{done, ack, data})
	wantLeft(t, n, 0, 1)
	wantLeft(t, n, 1, 0)
	wantLeft(t, n, 2, 1)
	wantOf(t, n, 3, []api.Message{get, inv, done, data})
	wantOf(t, n, 4, []api.Message{put, fwd, ack})
	for _, line := range []int{0, 1, 2, 5, 6, 7, -1, 8, -8, math.MinInt, math.MaxInt} {
		wantOf(t, n, line, nil)
	}
	wantTake(t, n, 2, 1, ack, api.OK)
	wantOf(t, n, 4, []api.Message{put, fwd})
	wantOf(t, n, 3, []api.Message{get, inv, done, data})
	wantNet(t, n, c, [3][]api.Message{{put, get}, {inv, fwd}, {done, data}})
}

// P7.2: a net isn't empty while any of its networks has a message, whichever this is.
func TestEmpty(t *testing.T) {
	for _, c := range machines() {
		for network := range 3 {
			n := loaded(t, c, several(c, network, 1)...)
			wantEmpty(t, n, false)
			wantTake(t, n, network, 0, several(c, network, 1)[0], api.OK)
			wantEmpty(t, n, true)
		}
		n, on := full(t, c)
		for network, l := range on {
			for _, m := range l {
				wantEmpty(t, n, false)
				wantTake(t, n, network, 0, m, api.OK)
			}
		}
		wantEmpty(t, n, true)
	}
}

// P7.2, P7.3: of any line all messages are told, of one that has all of them and of one that has a single one too.
func TestOf(t *testing.T) {
	c := roomed(6, 6, 10)
	for line := range c.Lines {
		var on [3][]api.Message
		for network := range 3 {
			for i, kind := range kindsOf(network) {
				on[network] = append(on[network], some(c, kind, line, i), some(c, kind, line, i+1))
			}
		}
		// They are sent so that no network is done with ahead of another one.
		n := empty(t, c)
		for i := range 10 {
			for _, network := range []int{2, 1, 0} {
				if i < len(on[network]) {
					wantSend(t, n, on[network][i], api.OK)
				}
			}
		}
		wantOf(t, n, line, slices.Concat(on[:]...))
		other := (line + 1) % c.Lines
		for network := range 3 {
			last := len(on[network]) - 1
			wantTake(t, n, network, last, on[network][last], api.OK)
			on[network][last] = some(c, kindsOf(network)[0], other, 0)
			wantSend(t, n, on[network][last], api.OK)
			wantNet(t, n, c, on)
		}
	}
}

// P7.2: to ask changes nothing.
func TestAskingChangesNothing(t *testing.T) {
	for _, c := range machines() {
		n, on := full(t, c)
		for range 3 {
			wantNet(t, n, c, on)
		}
	}
}

// blots are other ways to change a list that was handed out: its messages, what lies behind them, and by making it longer.
func blots() []func(l []api.Message) {
	blot := api.Message{Kind: -7, Line: -7, Words: api.Words{-7}}
	return []func(l []api.Message){
		func(l []api.Message) {
			for i := range l {
				l[i] = blot
			}
		},
		func(l []api.Message) {
			for i := range l[:cap(l)] {
				l[:cap(l)][i] = blot
			}
		},
		func(l []api.Message) { _ = append(l, blot) },
		func(l []api.Message) { _ = append(l[:len(l)/2], blot) },
		func(l []api.Message) { slices.Reverse(l) },
		func(l []api.Message) { clear(l) },
	}
}

// P7.2: what List and Of hand out shares nothing with the net, nor with what they handed out ahead of it.
func TestListsShareNothing(t *testing.T) {
	for _, c := range []api.Config{roomed(3, 3, 3), roomed(4, 5, 6), roomed(64, 64, 64)} {
		var on [3][]api.Message
		for network := range 3 {
			for i := range 3 {
				on[network] = append(on[network], some(c, kindsOf(network)[i], 6, i))
			}
		}
		all := slices.Concat(on[:]...)
		for _, blot := range blots() {
			n := loaded(t, c, all...)
			for network := range 3 {
				kept := n.List(network)
				blot(n.List(network))
				wantNet(t, n, c, on)
				if !slices.Equal(kept, on[network]) {
					t.Fatalf("network %d: a list became %+v", network, kept)
				}
			}
			kept := n.Of(6)
			blot(n.Of(6))
			wantNet(t, n, c, on)
			if !slices.Equal(kept, all) {
				t.Fatalf("of a line: a list became %+v", kept)
			}
		}
	}
}

// P7.2: lists stay as they were when the net changes.
func TestListsStay(t *testing.T) {
	c := roomed(4, 4, 4)
	for network := range 3 {
		first, second, third := some(c, kindsOf(network)[0], 2, 0), some(c, kindsOf(network)[1], 2, 1), some(c, kindsOf(network)[2], 2, 2)
		n := loaded(t, c, first, second)
		list, of := n.List(network), n.Of(2)
		wantTake(t, n, network, 0, first, api.OK)
		wantSend(t, n, third, api.OK)
		wantSend(t, n, first, api.OK)
		if want := []api.Message{first, second}; !slices.Equal(list, want) || !slices.Equal(of, want) {
			t.Fatalf("network %d: lists became %+v, %+v", network, list, of)
		}
		wantList(t, n, network, []api.Message{second, third, first})
		// Lists of an empty net share nothing either.
		bare := empty(t, c)
		blank := append(bare.List(network), third)
		wantSend(t, bare, first, api.OK)
		if blank[0] != third {
			t.Fatalf("network %d: a list became %+v", network, blank)
		}
		wantList(t, bare, network, []api.Message{first})
	}
}

// R3: a message that was sent is a value: to change the caller's own changes it not.
func TestMessagesAreValues(t *testing.T) {
	c := roomed(2, 2, 2)
	m := some(c, api.Put, 1, 3)
	was := m
	n := loaded(t, c, m)
	m.Line, m.Words[0] = 2, 99
	told, _ := n.At(0, 0)
	told.Words[1] = 99
	wantNet(t, n, c, [3][]api.Message{{was}, nil, nil})
	wantTake(t, n, 0, 0, was, api.OK)
}

// R5: nets are apart, also those of one machine: what one is asked changes no other.
func TestNetsAreApart(t *testing.T) {
	c, d := roomed(1, 1, 1), roomed(2, 2, 2)
	m := some(c, api.Inv, 3, 1)
	first, second, third := loaded(t, c, m), empty(t, c), loaded(t, d, m)
	wantNet(t, second, c, [3][]api.Message{})
	wantTake(t, third, 1, 0, m, api.OK)
	wantNet(t, first, c, [3][]api.Message{1: {m}})
	wantSend(t, second, m, api.OK)
	wantTake(t, first, 1, 0, m, api.OK)
	wantNet(t, second, c, [3][]api.Message{1: {m}})
	wantNet(t, third, d, [3][]api.Message{})
}

// P7.1: whether a message may be hangs on the net's own machine, whatever other nets there are.
func TestMachinesDiffer(t *testing.T) {
	small, large := roomed(2, 2, 2), most()
	fits := small
	fits.Lines = 16
	n, wide, longer := empty(t, small), empty(t, large), empty(t, fits)
	line := api.Message{Kind: api.GetS, Line: 9, From: 1, To: 1}
	wantSend(t, n, line, api.ErrArg)
	wantSend(t, longer, line, api.OK)
	wantSend(t, wide, line, api.ErrArg)
	line.To = 9
	wantSend(t, wide, line, api.OK)
	wantSend(t, n, line, api.ErrArg)
	word := api.Message{Kind: api.Put, Line: 1, From: 3, To: 1, Words: api.Words{1, 2, 3}}
	wantSend(t, n, word, api.ErrArg)
	wantSend(t, longer, word, api.ErrArg)
	wantSend(t, wide, word, api.OK)
	word.Words[2] = 0
	wantSend(t, n, word, api.OK)
	core := api.Message{Kind: api.Done, Line: 1, From: 4, To: 1}
	wantSend(t, n, core, api.ErrArg)
	wantSend(t, wide, core, api.OK)
	wantNet(t, n, small, [3][]api.Message{{word}, nil, nil})
}

// P7.1: whether a message may be is as chapter 5 tells it, of all small ones.
func TestSendAsMessagesMayBe(t *testing.T) {
	c := roomed(1, 1, 1)
	c.Cores, c.Lines = 2, 2
	n := empty(t, c)
	span := []int{-1, 0, 1, 2}
	for kind := -1; kind <= 13; kind++ {
		for _, line := range span {
			for _, from := range span {
				for _, to := range span {
					for _, who := range span {
						for _, acks := range span {
							for own := -1; own <= 5; own++ {
								m := api.Message{Kind: kind, Line: line, From: from, To: to, Who: who, Acks: acks, Own: own}
								wantSendAndTake(t, n, c, m)
							}
						}
					}
				}
			}
		}
	}
	wantNet(t, n, c, [3][]api.Message{})
}

// wantSendAndTake tells that an empty net takes a message if it may be, which is taken again, and else refuses it.
func wantSendAndTake(t *testing.T, n *net.Net, c api.Config, m api.Message) {
	t.Helper()
	if !message.May(c, m) {
		wantSend(t, n, m, api.ErrArg)
		return
	}
	wantSend(t, n, m, api.OK)
	wantTake(t, n, networkOf(m.Kind), 0, m, api.OK)
}
