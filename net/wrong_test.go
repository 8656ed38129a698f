package net_test

import (
	"math"
	"slices"
	"testing"

	"mesne/api"
	"mesne/net"
)

// change is one way in which a message that may be becomes one that may not, and of which kinds it does.
type change struct {
	name  string
	kinds []int
	to    func(c api.Config, m *api.Message)
}

func without(l []int, not ...int) []int {
	return slices.DeleteFunc(slices.Clone(l), func(n int) bool { return slices.Contains(not, n) })
}

// changes are all of these ways that chapter 5 tells.
func changes() []change {
	return slices.Concat(kindChanges(), lineChanges(), endChanges(), whoChanges(), countChanges(), wordChanges())
}

func kindChanges() []change {
	var l []change
	for _, kind := range []int{math.MinInt, -1, 0, 12, 13, 255, 256, 1 << 32, 1<<32 + 1, math.MaxInt} {
		l = append(l, change{"no kind", kinds(), func(c api.Config, m *api.Message) { m.Kind = kind }})
	}
	return l
}

func lineChanges() []change {
	return []change{
		{"a line below the first", kinds(), func(c api.Config, m *api.Message) { m.Line = -1 }},
		{"a line far below, of the same home", kinds(), func(c api.Config, m *api.Message) { m.Line -= 4096 }},
		{"a line beyond the last", kinds(), func(c api.Config, m *api.Message) { m.Line = c.Lines }},
		{"a line beyond, of the same home", kinds(), func(c api.Config, m *api.Message) { m.Line += c.Lines * c.Homes }},
		{"the least line", kinds(), func(c api.Config, m *api.Message) { m.Line = math.MinInt }},
		{"the greatest line", kinds(), func(c api.Config, m *api.Message) { m.Line = math.MaxInt }},
	}
}

// endChanges are of a machine of no fewer cores than homes.
func endChanges() []change {
	toHome, fromHome := []int{api.GetS, api.GetM, api.Put, api.Done}, []int{api.FwdS, api.FwdM, api.Inv, api.Grant, api.PutAck}
	return []change{
		{"to another home", toHome, func(c api.Config, m *api.Message) { m.To = (m.To + 1) % c.Homes }},
		{"to no home", toHome, func(c api.Config, m *api.Message) { m.To += c.Homes }},
		{"from another home", fromHome, func(c api.Config, m *api.Message) { m.From = (m.From + 1) % c.Homes }},
		{"from no home", fromHome, func(c api.Config, m *api.Message) { m.From += c.Homes }},
		{"from below the first", kinds(), func(c api.Config, m *api.Message) { m.From = -1 }},
		{"from beyond the last", kinds(), func(c api.Config, m *api.Message) { m.From = c.Cores }},
		{"to below the first", kinds(), func(c api.Config, m *api.Message) { m.To = -1 }},
		{"to beyond the last", kinds(), func(c api.Config, m *api.Message) { m.To = c.Cores }},
		{"from whom it is to", []int{api.Ack}, func(c api.Config, m *api.Message) { m.From = m.To }},
		{"to whom it is from", []int{api.Ack}, func(c api.Config, m *api.Message) { m.To = m.From }},
		{"from a core to itself", []int{api.Data}, func(c api.Config, m *api.Message) { m.Who, m.From = 1, m.To }},
		{"from another home to a core", []int{api.Data}, func(c api.Config, m *api.Message) { m.Who, m.From = 0, (m.Line+1)%c.Homes }},
	}
}

func whoChanges() []change {
	forwards := []int{api.FwdS, api.FwdM, api.Inv}
	return []change{
		{"for a core below the first", forwards, func(c api.Config, m *api.Message) { m.Who = -1 }},
		{"for a core beyond the last", forwards, func(c api.Config, m *api.Message) { m.Who = c.Cores }},
		{"for whom it is to", forwards, func(c api.Config, m *api.Message) { m.Who = m.To }},
		{"from what is neither", []int{api.Data}, func(c api.Config, m *api.Message) { m.Who = 2 }},
		{"from below what is either", []int{api.Data}, func(c api.Config, m *api.Message) { m.Who = -1 }},
		{"for 1", without(kinds(), append(forwards, api.Data)...), func(c api.Config, m *api.Message) { m.Who = 1 }},
		{"for -1", without(kinds(), append(forwards, api.Data)...), func(c api.Config, m *api.Message) { m.Who = -1 }},
	}
}

func countChanges() []change {
	counted := []int{api.FwdM, api.Data, api.Grant}
	return []change{
		{"acks below 0", kinds(), func(c api.Config, m *api.Message) { m.Acks = -1 }},
		{"as many acks as cores", kinds(), func(c api.Config, m *api.Message) { m.Acks = c.Cores }},
		{"an ack of what counts none", without(kinds(), counted...), func(c api.Config, m *api.Message) { m.Acks = 1 }},
		{"a state below 0", kinds(), func(c api.Config, m *api.Message) { m.Own = -1 }},
		{"a state that is none", kinds(), func(c api.Config, m *api.Message) { m.Own = 5 }},
		{"Owned", kinds(), func(c api.Config, m *api.Message) { m.Own = api.Owned }},
		{"Invalid", []int{api.Data}, func(c api.Config, m *api.Message) { m.Own = api.Invalid }},
		{"Shared", without(kinds(), api.Data), func(c api.Config, m *api.Message) { m.Own = api.Shared }},
		{"Exclusive", without(kinds(), api.Data), func(c api.Config, m *api.Message) { m.Own = api.Exclusive }},
		{"Modified", without(kinds(), api.Data), func(c api.Config, m *api.Message) { m.Own = api.Modified }},
	}
}

// wordChanges are of a machine of fewer words than most.
func wordChanges() []change {
	worded := []int{api.Put, api.Data}
	return []change{
		{"a word that is too great", kinds(), func(c api.Config, m *api.Message) { m.Words[0] = 1 << 31 }},
		{"a last word that is too small", kinds(), func(c api.Config, m *api.Message) { m.Words[c.Words-1] = -1<<31 - 1 }},
		{"a word behind a line's", kinds(), func(c api.Config, m *api.Message) { m.Words[c.Words] = 1 }},
		{"the last one of all", kinds(), func(c api.Config, m *api.Message) { m.Words[api.MostWords-1] = -1 }},
		{"a word of what brings none", without(kinds(), worded...), func(c api.Config, m *api.Message) { m.Words[0] = 1 }},
	}
}

// hasEachWay tells whether a machine is such that each change of a message is one for the worse.
func hasEachWay(c api.Config) bool {
	return c.Cores > c.Homes && c.Homes > 1 && c.Words < api.MostWords
}

// wantNoSend tells that a net refuses messages of each kind that were changed for the worse, in each way.
func wantNoSend(t *testing.T, n *net.Net, c api.Config) {
	t.Helper()
	for _, x := range changes() {
		for _, kind := range x.kinds {
			for i := range 3 {
				m := some(c, kind, (i+5)%c.Lines, i)
				x.to(c, &m)
				if e := n.Send(m); e != api.ErrArg {
					t.Errorf("%s: Send %+v: %d", x.name, m, e)
				}
			}
		}
	}
}

// P7.1: a message that may not be is refused, in each way in which it may not be, by a net without messages, by one with some, and also where there is no room; the net stays as it was.
func TestWrongMessages(t *testing.T) {
	wide := most()
	wide.Words = 4
	for _, c := range []api.Config{roomed(1, 1, 1), roomed(7, 9, 12), roomed(64, 64, 64), wide} {
		if !hasEachWay(c) {
			t.Fatalf("%+v: of another kind", c)
		}
		n := empty(t, c)
		wantNoSend(t, n, c)
		wantNet(t, n, c, [3][]api.Message{})
		n, on := full(t, c)
		wantNoSend(t, n, c)
		wantNet(t, n, c, on)
		for network := range 3 {
			wantTake(t, n, network, 0, on[network][0], api.OK)
			on[network] = on[network][1:]
		}
		wantNoSend(t, n, c)
		wantNet(t, n, c, on)
	}
}

// P7.1: the message that is none at all is refused.
func TestZeroMessage(t *testing.T) {
	for _, c := range append(machines(), least()) {
		n := empty(t, c)
		wantSend(t, n, api.Message{}, api.ErrArg)
		wantNet(t, n, c, [3][]api.Message{})
	}
}
