package net_test

import (
	"slices"
	"testing"

	"mesne/api"
	"mesne/net"
)

// record is a net by another way: all that was ever sent stays in one list, and what was taken is crossed out.
type record struct {
	c    api.Config
	sent []api.Message
	gone []bool
}

// live are those of a network that are not crossed out, as the numbers of their sends.
func (r *record) live(network int) []int {
	var l []int
	for i, m := range r.sent {
		if !r.gone[i] && networkOf(m.Kind) == network {
			l = append(l, i)
		}
	}
	return l
}

// on are what each network has by the record.
func (r *record) on() [3][]api.Message {
	var on [3][]api.Message
	for network := range 3 {
		for _, i := range r.live(network) {
			on[network] = append(on[network], r.sent[i])
		}
	}
	return on
}

// doSend sends a message that may be, and puts it down in the record.
func (r *record) doSend(t *testing.T, n *net.Net, m api.Message) {
	t.Helper()
	network := networkOf(m.Kind)
	if len(r.live(network)) == r.c.Room[network] {
		wantSend(t, n, m, api.ErrFull)
		return
	}
	wantSend(t, n, m, api.OK)
	r.sent, r.gone = append(r.sent, m), append(r.gone, false)
}

// doTake takes the message of a place, and crosses it out.
func (r *record) doTake(t *testing.T, n *net.Net, network, at int) {
	t.Helper()
	live := r.live(network)
	for place, i := range live {
		if place == at {
			wantTake(t, n, network, at, r.sent[i], api.OK)
			r.gone[i] = true
			return
		}
	}
	wantTake(t, n, network, at, api.Message{}, api.ErrName)
}

// call is something that is done both to a net and to its record.
type call func(t *testing.T, n *net.Net, r *record)

// smallCalls are some sends, of two lines on all networks, and takes of each place and of some that there are not.
func smallCalls(c api.Config) []call {
	var l []call
	for _, m := range []api.Message{some(c, api.GetS, 0, 0), some(c, api.Put, 1, 1), some(c, api.FwdM, 1, 1), some(c, api.Ack, 0, 0), some(c, api.Data, 1, 1)} {
		l = append(l, func(t *testing.T, n *net.Net, r *record) {
			t.Helper()
			r.doSend(t, n, m)
		})
	}
	for _, place := range [][2]int{{-1, 0}, {0, 0}, {0, 1}, {1, 0}, {2, -1}, {2, 0}, {2, 1}, {3, 0}} {
		l = append(l, func(t *testing.T, n *net.Net, r *record) {
			t.Helper()
			r.doTake(t, n, place[0], place[1])
		})
	}
	return l
}

// P7.1, P7.2, P7.3: all short runs of calls of small nets, as by the other way.
func TestAllCallsOfSmallNets(t *testing.T) {
	const steps = 4
	for _, c := range []api.Config{roomed(1, 1, 1), roomed(2, 1, 2), roomed(1, 2, 3)} {
		c.Cores, c.Lines = 2, 2
		calls := smallCalls(c)
		runs := 1
		for range steps {
			runs *= len(calls)
		}
		for run := range runs {
			n, r := empty(t, c), &record{c: c}
			for range steps {
				calls[run%len(calls)](t, n, r)
				run /= len(calls)
			}
			on := r.on()
			for network := range 3 {
				wantList(t, n, network, on[network])
				wantLeft(t, n, network, c.Room[network]-len(on[network]))
			}
			wantLines(t, n, c, slices.Concat(on[:]...))
		}
	}
}

// picker hands out numbers below others, the same ones each time.
func picker(seed uint64) func(below int) int {
	return func(below int) int {
		seed = seed*6364136223846793005 + 1442695040888963407
		return int((seed >> 33) % uint64(below))
	}
}

// P7.1, P7.2, P7.3: many calls of greater nets, as by the other way.
func TestManyCalls(t *testing.T) {
	wide := most()
	wide.Lines = 16
	for i, c := range []api.Config{roomed(1, 1, 1), roomed(5, 3, 8), roomed(1, 30, 2), wide} {
		pick := picker(uint64(i))
		n, r := empty(t, c), &record{c: c}
		for step := range 1500 {
			// More is sent than taken in one stretch, and less in the next one.
			if pick(5) < 2+step/300%2 {
				all := kinds()
				r.doSend(t, n, some(c, all[pick(len(all))], pick(c.Lines), pick(c.Cores)))
			} else {
				network := pick(3)
				r.doTake(t, n, network, pick(len(r.live(network))+2)-1)
			}
			wantNet(t, n, c, r.on())
		}
	}
}

// P7.3: a network never has more than its room, and nothing but messages of its kinds, whatever is sent; what is sent is taken once, and nothing else is.
func TestRoomsAndKindsHold(t *testing.T) {
	for i, c := range machines() {
		pick := picker(uint64(100 + i))
		n := empty(t, c)
		sent, taken := map[api.Message]int{}, map[api.Message]int{}
		for range 4000 {
			m := some(c, pick(14)-1, pick(c.Lines+2)-1, pick(c.Cores))
			if n.Send(m) == api.OK {
				sent[m]++
			}
			if m, e := n.Take(pick(5)-1, pick(70)-1); e == api.OK {
				taken[m]++
			}
			for network, room := range c.Room {
				l := n.List(network)
				if len(l) > room || len(l)+n.Left(network) != room {
					t.Fatalf("network %d of room %d: %d, and %d left", network, room, len(l), n.Left(network))
				}
				for _, m := range l {
					if !slices.Contains(kindsOf(network), m.Kind) {
						t.Fatalf("network %d: %+v", network, m)
					}
				}
			}
		}
		for network := range 3 {
			for _, m := range n.List(network) {
				taken[m]++
			}
		}
		for m, times := range taken {
			if sent[m] != times {
				t.Fatalf("%+v: sent %d times, taken %d", m, sent[m], times)
			}
		}
		if len(sent) != len(taken) || len(sent) < 20 {
			t.Fatalf("%d messages sent, %d taken", len(sent), len(taken))
		}
	}
}

// R4, R5: the same calls answer the same.
func TestSameCallsAnswerTheSame(t *testing.T) {
	c := roomed(4, 3, 5)
	var first [3][]api.Message
	for round := range 3 {
		pick := picker(7)
		n := empty(t, c)
		for range 300 {
			all := kinds()
			n.Send(some(c, all[pick(len(all))], pick(c.Lines), pick(c.Cores)))
			n.Take(pick(3), pick(9))
		}
		on := [3][]api.Message{n.List(0), n.List(1), n.List(2)}
		if round == 0 {
			first = on
		}
		wantNet(t, n, c, first)
	}
}
