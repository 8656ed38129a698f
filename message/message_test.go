package message_test

import (
	"math"
	"slices"
	"strings"
	"testing"

	"mesne/api"
	"mesne/message"
	"mesne/shape"
)

func least() api.Config {
	return api.Config{
		Cores: 1, Homes: 1, Sets: 1, Ways: 1, Words: 1, Lines: 1,
		Pointers: 0, Mshrs: 1, Buffer: 1, Writebacks: 1, Room: [3]int{1, 1, 1},
	}
}

// ordinary has no two sizes alike of those that a message hangs on.
func ordinary() api.Config {
	return api.Config{
		Cores: 3, Homes: 4, Sets: 4, Ways: 3, Words: 2, Lines: 8,
		Pointers: 2, Mshrs: 5, Buffer: 6, Writebacks: 7, Room: [3]int{9, 10, 11},
	}
}

// fewLines has a home without a line.
func fewLines() api.Config {
	c := ordinary()
	c.Cores, c.Homes, c.Words, c.Lines = 2, 4, 4, 2
	return c
}

func most() api.Config {
	return api.Config{
		Cores: 64, Homes: 16, Sets: 64, Ways: 8, Words: 8, Lines: 1024,
		Pointers: 8, Mshrs: 8, Buffer: 16, Writebacks: 8, Room: [3]int{64, 64, 64},
	}
}

func machines() []api.Config { return []api.Config{least(), ordinary(), fewLines(), most()} }

// law is what the chapter says of a kind. Ends are of a core, of the line's home, or, of Data, as Who tells.
type law struct {
	name      string
	net       int
	from, to  string
	asked     bool // Who is a core that isn't To
	acks, own bool
	words     bool
}

// laws are the kinds', in the order of their numbers from 1 on.
func laws() []law {
	return []law{
		{name: "GetS", net: 0, from: "core", to: "home"},
		{name: "GetM", net: 0, from: "core", to: "home"},
		{name: "Put", net: 0, from: "core", to: "home", words: true},
		{name: "FwdS", net: 1, from: "home", to: "core", asked: true},
		{name: "FwdM", net: 1, from: "home", to: "core", asked: true, acks: true},
		{name: "Inv", net: 1, from: "home", to: "core", asked: true},
		{name: "Data", net: 2, from: "who", to: "core", acks: true, own: true, words: true},
		{name: "Grant", net: 2, from: "home", to: "core", acks: true},
		{name: "Ack", net: 2, from: "other", to: "core"},
		{name: "PutAck", net: 2, from: "home", to: "core"},
		{name: "Done", net: 2, from: "core", to: "home"},
	}
}

func lawOf(kind int) (law, bool) {
	l := laws()
	if kind < 1 || kind > len(l) {
		return law{}, false
	}
	return l[kind-1], true
}

// upTo are the numbers from one to another.
func upTo(from, to int) []int {
	var l []int
	for n := from; n <= to; n++ {
		l = append(l, n)
	}
	return l
}

// without leaves a number out of some.
func without(l []int, n int) []int {
	return slices.DeleteFunc(slices.Clone(l), func(x int) bool { return x == n })
}

// ends are the numbers that an end of a message may be.
func ends(c api.Config, m api.Message, end string) []int {
	cores := upTo(0, c.Cores-1)
	home := m.Line
	for home >= c.Homes {
		home -= c.Homes
	}
	switch {
	case end == "core":
		return cores
	case end == "home", end == "who" && m.Who == 0:
		return []int{home}
	case end == "other", end == "who" && m.Who == 1:
		return without(cores, m.To)
	}
	return nil
}

// mayBe is May by another way: of each field all that it may be is listed.
func mayBe(c api.Config, m api.Message) bool {
	k, is := lawOf(m.Kind)
	if shape.Check(c) != api.OK || !is || !slices.Contains(upTo(0, c.Lines-1), m.Line) {
		return false
	}
	who, acks, own := []int{0}, []int{0}, []int{0}
	if k.asked {
		who = without(upTo(0, c.Cores-1), m.To)
	}
	if k.from == "who" {
		who = []int{0, 1}
	}
	if k.acks {
		acks = upTo(0, c.Cores-1)
	}
	if k.own {
		own = []int{1, 2, 4}
	}
	words := m.Words[:]
	if k.words {
		for _, n := range words[:c.Words] {
			if n < -1<<31 || n > 1<<31-1 {
				return false
			}
		}
		words = words[c.Words:]
	}
	return slices.Contains(ends(c, m, k.from), m.From) && slices.Contains(ends(c, m, k.to), m.To) &&
		slices.Contains(who, m.Who) && slices.Contains(acks, m.Acks) && slices.Contains(own, m.Own) &&
		!slices.ContainsFunc(words, func(n int) bool { return n != 0 })
}

// bytesOf are a message's bytes by another way: by dividing.
func bytesOf(c api.Config, m api.Message) string {
	b := []byte{byte(m.Kind), byte(m.Line / 256), byte(m.Line % 256), byte(m.From), byte(m.To), byte(m.Who), byte(m.Acks), byte(m.Own)}
	if k, _ := lawOf(m.Kind); k.words {
		for _, n := range m.Words[:c.Words] {
			if n < 0 {
				n += 4294967296
			}
			b = append(b, byte(n/16777216), byte(n/65536%256), byte(n/256%256), byte(n%256))
		}
	}
	return string(b)
}

// taken is Take by another way: a message is guessed of the bytes, and must have just these.
func taken(c api.Config, s string) (api.Message, api.Errno) {
	b := append([]byte(s), make([]byte, 40)...)
	m := api.Message{Kind: int(b[0]), Line: 256*int(b[1]) + int(b[2]), From: int(b[3]), To: int(b[4]), Who: int(b[5]), Acks: int(b[6]), Own: int(b[7])}
	if k, _ := lawOf(m.Kind); k.words {
		for i := range min(max(c.Words, 0), 8) {
			n := 0
			for _, x := range b[8+4*i : 12+4*i] {
				n = 256*n + int(x)
			}
			if n >= 2147483648 {
				n -= 4294967296
			}
			m.Words[i] = n
		}
	}
	if !mayBe(c, m) || bytesOf(c, m) != s {
		return api.Message{}, api.ErrForm
	}
	return m, api.OK
}

func wantMay(t *testing.T, c api.Config, m api.Message, want bool) {
	t.Helper()
	if may := message.May(c, m); may != want {
		t.Errorf("%+v on %+v: %t", m, c, may)
	}
}

func wantPut(t *testing.T, c api.Config, m api.Message, want string, err api.Errno) {
	t.Helper()
	if s, e := message.Put(c, m); s != want || e != err {
		t.Errorf("%+v on %+v: %x, %d, not %x, %d", m, c, s, e, want, err)
	}
}

func wantTake(t *testing.T, c api.Config, s string, want api.Message, err api.Errno) {
	t.Helper()
	if m, e := message.Take(c, s); m != want || e != err {
		t.Errorf("%x on %+v: %+v, %d, not %+v, %d", s, c, m, e, want, err)
	}
}

// wantBoth tells that a message may be, and that it and bytes tell one another.
func wantBoth(t *testing.T, c api.Config, m api.Message, s string) {
	t.Helper()
	wantMay(t, c, m, true)
	wantPut(t, c, m, s, api.OK)
	wantTake(t, c, s, m, api.OK)
}

// wantNone tells that a message may not be, so that it has no bytes, and those that would tell it tell none.
func wantNone(t *testing.T, c api.Config, m api.Message) {
	t.Helper()
	wantMay(t, c, m, false)
	wantPut(t, c, m, "", api.ErrArg)
	if tellable(c, m) {
		wantTake(t, c, bytesOf(c, m), api.Message{}, api.ErrForm)
	}
}

// tellable tells whether bytes might tell all of a message: each number is small enough, and words that they leave out are 0.
func tellable(c api.Config, m api.Message) bool {
	for _, n := range []int{m.Kind, m.Line / 256, m.From, m.To, m.Who, m.Acks, m.Own} {
		if n < 0 || n > 255 {
			return false
		}
	}
	told := 0
	if k, _ := lawOf(m.Kind); k.words {
		told = c.Words
	}
	for i, n := range m.Words {
		if n < -1<<31 || n > 1<<31-1 || i >= told && n != 0 {
			return false
		}
	}
	return m.Line >= 0
}

// wantAsListed tells that a message is judged, and told, as by the other way.
func wantAsListed(t *testing.T, c api.Config, m api.Message) {
	t.Helper()
	if mayBe(c, m) {
		wantBoth(t, c, m, bytesOf(c, m))
	} else {
		wantNone(t, c, m)
	}
}

// P5.1: the chapter's examples, and the network of each kind, written out.
func TestNet(t *testing.T) {
	for kind, want := range map[int]int{
		api.GetS: 0, api.GetM: 0, api.Put: 0,
		api.FwdS: 1, api.FwdM: 1, api.Inv: 1,
		api.Data: 2, api.Grant: 2, api.Ack: 2, api.PutAck: 2, api.Done: 2,
		0: -1, 12: -1, -1: -1, 13: -1, 255: -1, 256: -1, 257: -1, -255: -1, 1<<32 + 1: -1, math.MinInt: -1, math.MaxInt: -1,
	} {
		if n := message.Net(kind); n != want {
			t.Errorf("%d: %d, not %d", kind, n, want)
		}
	}
	for kind := -300; kind <= 300; kind++ {
		want := -1
		if k, is := lawOf(kind); is {
			want = k.net
		}
		if n := message.Net(kind); n != want {
			t.Errorf("%d: %d, not %d", kind, n, want)
		}
	}
}

// P5.1: requests and Done go to a home, all others, and what is no kind, do not.
func TestHome(t *testing.T) {
	for kind := -300; kind <= 300; kind++ {
		want := kind == api.GetS || kind == api.GetM || kind == api.Put || kind == api.Done
		if is := message.Home(kind); is != want {
			t.Errorf("%d: %t", kind, is)
		}
	}
	for _, kind := range []int{math.MinInt, math.MaxInt, 1<<32 + 1, 1<<32 + 11, -1 << 32} {
		if message.Home(kind) {
			t.Errorf("%d: true", kind)
		}
	}
}

// told is a message on a machine, and its bytes.
type told struct {
	c       api.Config
	message api.Message
	bytes   string
}

// tellings are written out by the chapter's words: one of each kind at least, ordinary ones and those at the edges.
func tellings() []told {
	return []told{
		{ordinary(), api.Message{Kind: api.GetS, Line: 5, From: 2, To: 1}, "\x01\x00\x05\x02\x01\x00\x00\x00"},
		{ordinary(), api.Message{Kind: api.GetM, Line: 7, From: 0, To: 3}, "\x02\x00\x07\x00\x03\x00\x00\x00"},
		{ordinary(), api.Message{Kind: api.Put, Line: 6, From: 1, To: 2, Words: api.Words{258, -2}}, "\x03\x00\x06\x01\x02\x00\x00\x00" + "\x00\x00\x01\x02" + "\xff\xff\xff\xfe"},
		{ordinary(), api.Message{Kind: api.FwdS, Line: 3, From: 3, To: 0, Who: 2}, "\x04\x00\x03\x03\x00\x02\x00\x00"},
		{ordinary(), api.Message{Kind: api.FwdM, Line: 4, From: 0, To: 2, Who: 1, Acks: 2}, "\x05\x00\x04\x00\x02\x01\x02\x00"},
		{ordinary(), api.Message{Kind: api.FwdM, Line: 4, From: 0, To: 0, Who: 2}, "\x05\x00\x04\x00\x00\x02\x00\x00"},
		{ordinary(), api.Message{Kind: api.Inv, Line: 1, From: 1, To: 1, Who: 0}, "\x06\x00\x01\x01\x01\x00\x00\x00"},
		{ordinary(), api.Message{Kind: api.Data, Line: 2, From: 2, To: 2, Acks: 1, Own: api.Shared, Words: api.Words{0, 16909060}}, "\x07\x00\x02\x02\x02\x00\x01\x01" + "\x00\x00\x00\x00" + "\x01\x02\x03\x04"},
		{ordinary(), api.Message{Kind: api.Data, Line: 0, From: 0, To: 0, Own: api.Exclusive}, "\x07\x00\x00\x00\x00\x00\x00\x02" + "\x00\x00\x00\x00\x00\x00\x00\x00"},
		{ordinary(), api.Message{Kind: api.Data, Line: 7, From: 0, To: 1, Who: 1, Acks: 2, Own: api.Modified, Words: api.Words{-2147483648, 2147483647}}, "\x07\x00\x07\x00\x01\x01\x02\x04" + "\x80\x00\x00\x00" + "\x7f\xff\xff\xff"},
		{ordinary(), api.Message{Kind: api.Grant, Line: 6, From: 2, To: 1, Acks: 2}, "\x08\x00\x06\x02\x01\x00\x02\x00"},
		{ordinary(), api.Message{Kind: api.Ack, Line: 5, From: 2, To: 0}, "\x09\x00\x05\x02\x00\x00\x00\x00"},
		{ordinary(), api.Message{Kind: api.PutAck, Line: 4, From: 0, To: 2}, "\x0a\x00\x04\x00\x02\x00\x00\x00"},
		{ordinary(), api.Message{Kind: api.Done, Line: 3, From: 0, To: 3}, "\x0b\x00\x03\x00\x03\x00\x00\x00"},
		{least(), api.Message{Kind: api.GetS}, "\x01\x00\x00\x00\x00\x00\x00\x00"},
		{least(), api.Message{Kind: api.Put, Words: api.Words{-1}}, "\x03\x00\x00\x00\x00\x00\x00\x00" + "\xff\xff\xff\xff"},
		{least(), api.Message{Kind: api.Data, Own: api.Modified, Words: api.Words{1}}, "\x07\x00\x00\x00\x00\x00\x00\x04" + "\x00\x00\x00\x01"},
		{most(), api.Message{Kind: api.GetM, Line: 1023, From: 63, To: 15}, "\x02\x03\xff\x3f\x0f\x00\x00\x00"},
		{most(), api.Message{Kind: api.FwdM, Line: 258, From: 2, To: 63, Who: 62, Acks: 63}, "\x05\x01\x02\x02\x3f\x3e\x3f\x00"},
		{most(), api.Message{Kind: api.Inv, Line: 256, From: 0, To: 0, Who: 63}, "\x06\x01\x00\x00\x00\x3f\x00\x00"},
		{
			most(), api.Message{Kind: api.Data, Line: 767, From: 62, To: 63, Who: 1, Acks: 63, Own: api.Shared, Words: api.Words{1, -1, 256, -256, 65536, -65536, 16777216, -16777216}},
			"\x07\x02\xff\x3e\x3f\x01\x3f\x01" + "\x00\x00\x00\x01\xff\xff\xff\xff\x00\x00\x01\x00\xff\xff\xff\x00\x00\x01\x00\x00\xff\xff\x00\x00\x01\x00\x00\x00\xff\x00\x00\x00",
		},
		{fewLines(), api.Message{Kind: api.Put, Line: 1, From: 0, To: 1, Words: api.Words{0, 0, 0, 9}}, "\x03\x00\x01\x00\x01\x00\x00\x00" + strings.Repeat("\x00", 15) + "\x09"},
	}
}

// P5.1, P5.2, P5.3: written out, there and back.
func TestTellings(t *testing.T) {
	for _, x := range tellings() {
		wantBoth(t, x.c, x.message, x.bytes)
	}
}

// changed is a message with one thing set.
func changed(m api.Message, set func(m *api.Message)) api.Message {
	set(&m)
	return m
}

// base is a message of a kind on the ordinary machine that may be: of line 6, of home 2, and of core 1, of which core 0 asks.
func base(kind int) api.Message {
	m := api.Message{Kind: kind, Line: 6, From: 2, To: 1}
	switch kind {
	case api.GetS, api.GetM, api.Put, api.Done:
		m.From, m.To = 1, 2
	case api.Data:
		m.Own = api.Shared
	}
	return m
}

func kinds() []int { return upTo(api.GetS, api.Done) }

// P5.1: each kind may be; one below the first, and one above the last, may not.
func TestMayOfKinds(t *testing.T) {
	for _, kind := range kinds() {
		wantBoth(t, ordinary(), base(kind), bytesOf(ordinary(), base(kind)))
		for _, other := range []int{0, 12, -1, kind + 256, kind - 256, -kind, kind + 1<<32, math.MinInt, math.MaxInt} {
			wantNone(t, ordinary(), changed(base(kind), func(m *api.Message) { m.Kind = other }))
		}
	}
	wantNone(t, ordinary(), api.Message{})
	wantNone(t, least(), api.Message{})
}

// P5.1: a line is from 0 to Lines - 1; its home goes with it.
func TestMayOfLines(t *testing.T) {
	for _, c := range machines() {
		for _, kind := range kinds() {
			if c.Cores == 1 && (kind == api.FwdS || kind == api.FwdM || kind == api.Inv || kind == api.Ack) {
				continue // there is no other core
			}
			at := func(line int) api.Message {
				m := base(kind)
				m.Line = line
				home := line & (c.Homes - 1)
				switch kind {
				case api.GetS, api.GetM, api.Put, api.Done:
					m.From, m.To = 0, home
				case api.Ack:
					m.From, m.To = 1, 0
				case api.FwdS, api.FwdM, api.Inv:
					m.From, m.To, m.Who = home, 0, 1
				default:
					m.From, m.To = home, 0
				}
				return m
			}
			for _, line := range []int{0, c.Lines / 2, c.Lines - 1} {
				wantBoth(t, c, at(line), bytesOf(c, at(line)))
			}
			for _, line := range []int{-1, c.Lines, c.Lines + 1, 2 * c.Lines, c.Lines + c.Homes, -c.Homes, -c.Lines, 1024, 1 << 16, 1<<16 + 1, 1 << 32, math.MinInt, math.MaxInt} {
				wantNone(t, c, at(line))
				wantNone(t, c, changed(at(0), func(m *api.Message) { m.Line = line }))
			}
		}
	}
}

// P5.1: what goes from a core to a home comes from any core, and goes to its line's home alone.
func TestMayOfWhatGoesToHomes(t *testing.T) {
	for _, kind := range []int{api.GetS, api.GetM, api.Put, api.Done} {
		for _, x := range []struct {
			from, to int
			want     bool
		}{
			{0, 2, true}, {1, 2, true}, {2, 2, true}, {3, 2, false}, {-1, 2, false}, {64, 2, false}, {256, 2, false}, {math.MinInt, 2, false}, {math.MaxInt, 2, false},
			{0, 0, false}, {0, 1, false}, {0, 3, false}, {0, 4, false}, {0, -1, false}, {0, 6, false}, {0, 258, false}, {0, -2, false},
		} {
			m := changed(base(kind), func(m *api.Message) { m.From, m.To = x.from, x.to })
			wantMay(t, ordinary(), m, x.want)
			wantAsListed(t, ordinary(), m)
		}
	}
}

// P5.1: what goes from a home to a core comes from its line's home alone, and goes to any core; that their numbers are one is nothing against it.
func TestMayOfWhatComesFromHomes(t *testing.T) {
	for _, kind := range []int{api.FwdS, api.FwdM, api.Inv, api.Data, api.Grant, api.PutAck} {
		for _, x := range []struct {
			from, to int
			want     bool
		}{
			{2, 1, true}, {2, 2, true}, {2, 3, false}, {2, -1, false}, {2, 64, false}, {2, 257, false}, {2, math.MinInt, false}, {2, math.MaxInt, false},
			{0, 1, false}, {1, 1, false}, {3, 1, false}, {4, 1, false}, {-1, 1, false}, {6, 1, false}, {258, 1, false}, {-2, 1, false},
		} {
			m := changed(base(kind), func(m *api.Message) { m.From, m.To = x.from, x.to })
			wantMay(t, ordinary(), m, x.want)
			wantAsListed(t, ordinary(), m)
		}
	}
	for _, kind := range []int{api.Data, api.Grant, api.PutAck} {
		wantMay(t, ordinary(), changed(base(kind), func(m *api.Message) { m.To = 0 }), true)
	}
}

// P5.1: Data comes from the line's home, if Who is 0, and from another core, if Who is 1.
func TestMayOfData(t *testing.T) {
	for _, x := range []struct {
		who, from, to int
		want          bool
	}{
		{0, 2, 0, true}, {0, 2, 1, true}, {0, 2, 2, true}, {0, 2, 3, false}, {0, 0, 1, false}, {0, 1, 0, false}, {0, 3, 0, false}, {0, 4, 0, false},
		{1, 0, 1, true}, {1, 1, 0, true}, {1, 2, 0, true}, {1, 2, 1, true}, {1, 0, 2, true}, {1, 0, 0, false}, {1, 1, 1, false}, {1, 2, 2, false},
		{1, 3, 0, false}, {1, 0, 3, false}, {1, -1, 0, false}, {1, 0, -1, false}, {1, 3, 3, false},
		{2, 2, 0, false}, {2, 0, 1, false}, {-1, 2, 0, false}, {-1, 0, 1, false}, {3, 2, 1, false}, {256, 2, 0, false}, {257, 0, 1, false}, {math.MinInt, 2, 0, false}, {math.MaxInt, 0, 1, false},
	} {
		m := changed(base(api.Data), func(m *api.Message) { m.Who, m.From, m.To = x.who, x.from, x.to })
		wantMay(t, ordinary(), m, x.want)
		wantAsListed(t, ordinary(), m)
	}
	// Alone a core has words from its home alone.
	wantMay(t, least(), api.Message{Kind: api.Data, Own: api.Shared}, true)
	wantMay(t, least(), api.Message{Kind: api.Data, Own: api.Shared, Who: 1}, false)
}

// P5.1: Ack goes from a core to another one.
func TestMayOfAck(t *testing.T) {
	for from := -2; from <= 5; from++ {
		for to := -2; to <= 5; to++ {
			m := changed(base(api.Ack), func(m *api.Message) { m.From, m.To = from, to })
			wantMay(t, ordinary(), m, from != to && 0 <= from && from < 3 && 0 <= to && to < 3)
			wantAsListed(t, ordinary(), m)
		}
	}
	wantMay(t, least(), api.Message{Kind: api.Ack}, false)
}

// P5.1: Who of a forward is a core that isn't To, From whichever home; of what is neither a forward nor Data it is 0.
func TestMayOfWho(t *testing.T) {
	for _, kind := range kinds() {
		for _, who := range []int{0, 1, 2, 3, -1, 4, 63, 64, 256, 257, 1 << 32, math.MinInt, math.MaxInt} {
			m := changed(base(kind), func(m *api.Message) { m.Who = who })
			want := who == 0
			switch kind {
			case api.FwdS, api.FwdM, api.Inv:
				want = who == 0 || who == 2 // To is 1
			case api.Data:
				want = who == 0 || who == 1 // From is 2, of a home and of a core
			}
			wantMay(t, ordinary(), m, want)
			wantAsListed(t, ordinary(), m)
		}
	}
	for _, kind := range []int{api.FwdS, api.FwdM, api.Inv} {
		for core := range 3 {
			wantNone(t, ordinary(), changed(base(kind), func(m *api.Message) { m.To, m.Who = core, core }))
		}
		wantNone(t, least(), api.Message{Kind: kind})
	}
}

// P5.1: acks are from 0 to Cores - 1 of FwdM, Data and Grant, and 0 of others.
func TestMayOfAcks(t *testing.T) {
	for _, kind := range kinds() {
		counts := kind == api.FwdM || kind == api.Data || kind == api.Grant
		for _, acks := range []int{0, 1, 2, 3, 4, -1, 64, 255, 256, 257, 1 << 32, math.MinInt, math.MaxInt} {
			m := changed(base(kind), func(m *api.Message) { m.Acks = acks })
			wantMay(t, ordinary(), m, acks == 0 || counts && 0 < acks && acks < 3)
			wantAsListed(t, ordinary(), m)
		}
	}
	for _, x := range []struct {
		acks int
		want bool
	}{{0, true}, {62, true}, {63, true}, {64, false}, {-1, false}} {
		wantMay(t, most(), api.Message{Kind: api.Data, Own: api.Shared, Acks: x.acks}, x.want)
		wantMay(t, most(), api.Message{Kind: api.Grant, Acks: x.acks}, x.want)
		wantMay(t, most(), api.Message{Kind: api.FwdM, Who: 1, Acks: x.acks}, x.want)
	}
	wantMay(t, least(), api.Message{Kind: api.Data, Own: api.Shared, Acks: 1}, false)
	wantMay(t, least(), api.Message{Kind: api.Grant, Acks: 1}, false)
}

// P5.1: Own is Shared, Exclusive or Modified of Data, by whomever it is sent, and 0 of others.
func TestMayOfOwn(t *testing.T) {
	for _, kind := range kinds() {
		for _, own := range []int{api.Invalid, api.Shared, api.Exclusive, api.Owned, api.Modified, 5, -1, 8, 256, 257, 1 << 32, math.MinInt, math.MaxInt} {
			m := changed(base(kind), func(m *api.Message) { m.Own = own })
			want := own == 0
			if kind == api.Data {
				want = own == api.Shared || own == api.Exclusive || own == api.Modified
				wantMay(t, ordinary(), changed(m, func(m *api.Message) { m.Who = 1 }), want)
			}
			wantMay(t, ordinary(), m, want)
			wantAsListed(t, ordinary(), m)
		}
	}
}

// P5.1: words of Put and Data are of 32 bits, and 0 behind a line's; of other kinds all are 0.
func TestMayOfWords(t *testing.T) {
	for _, count := range []int{1, 2, 4, 8} {
		c := ordinary()
		c.Words = count
		for _, kind := range kinds() {
			for at := range api.MostWords {
				for _, x := range []struct {
					word int
					fits bool
				}{
					{0, true}, {1, true}, {-1, true}, {-2147483648, true}, {2147483647, true}, {-2147483649, false}, {2147483648, false},
					{4294967295, false}, {4294967296, false}, {-4294967296, false}, {math.MinInt, false}, {math.MaxInt, false},
				} {
					m := changed(base(kind), func(m *api.Message) { m.Words[at] = x.word })
					want := x.word == 0 || x.fits && at < count && (kind == api.Put || kind == api.Data)
					wantMay(t, c, m, want)
					wantAsListed(t, c, m)
				}
			}
		}
	}
}

// all hands out each message of numbers up to one beyond what they may be on a machine, without words.
func all(c api.Config, try func(m api.Message)) {
	beyond := max(c.Cores, c.Homes)
	for kind := -1; kind <= 13; kind++ {
		for line := -1; line <= c.Lines; line++ {
			for from := -1; from <= beyond; from++ {
				for to := -1; to <= beyond; to++ {
					for who := -1; who <= c.Cores+1; who++ {
						for acks := -1; acks <= c.Cores; acks++ {
							for own := -1; own <= 5; own++ {
								try(api.Message{Kind: kind, Line: line, From: from, To: to, Who: who, Acks: acks, Own: own})
							}
						}
					}
				}
			}
		}
	}
}

// small are machines of which all messages are few.
func small() []api.Config {
	var l []api.Config
	for _, x := range [][3]int{{1, 1, 1}, {2, 1, 2}, {1, 2, 2}, {3, 2, 4}, {2, 4, 1}} {
		c := ordinary()
		c.Cores, c.Homes, c.Lines = x[0], x[1], x[2]
		l = append(l, c)
	}
	return l
}

// P5.1, P5.2, P5.3: all messages of small machines are judged as the chapter lists, and come back.
func TestAllMessagesOfSmallMachines(t *testing.T) {
	for _, c := range small() {
		may := 0
		all(c, func(m api.Message) {
			if mayBe(c, m) {
				may++
			}
			if k, _ := lawOf(m.Kind); k.words {
				m.Words = api.Words{7 * may, -may}
			}
			wantAsListed(t, c, m)
		})
		if may == 0 {
			t.Errorf("%+v: none may be", c)
		}
		if t.Failed() {
			return
		}
	}
}

// P5.3: no two messages have the same bytes.
func TestBytesAreOfOneMessage(t *testing.T) {
	for _, c := range small() {
		seen := map[string]api.Message{}
		all(c, func(m api.Message) {
			s, e := message.Put(c, m)
			if e != api.OK {
				return
			}
			if other, twice := seen[s]; twice {
				t.Fatalf("%+v and %+v: %x", other, m, s)
			}
			seen[s] = m
		})
	}
}

// size is one of a machine's sizes, and how it is set.
type size struct {
	name string
	set  func(c *api.Config, n int)
}

func sizes() []size {
	return []size{
		{"Cores", func(c *api.Config, n int) { c.Cores = n }},
		{"Homes", func(c *api.Config, n int) { c.Homes = n }},
		{"Sets", func(c *api.Config, n int) { c.Sets = n }},
		{"Ways", func(c *api.Config, n int) { c.Ways = n }},
		{"Words", func(c *api.Config, n int) { c.Words = n }},
		{"Lines", func(c *api.Config, n int) { c.Lines = n }},
		{"Pointers", func(c *api.Config, n int) { c.Pointers = n }},
		{"Mshrs", func(c *api.Config, n int) { c.Mshrs = n }},
		{"Buffer", func(c *api.Config, n int) { c.Buffer = n }},
		{"Writebacks", func(c *api.Config, n int) { c.Writebacks = n }},
		{"Room 0", func(c *api.Config, n int) { c.Room[0] = n }},
		{"Room 1", func(c *api.Config, n int) { c.Room[1] = n }},
		{"Room 2", func(c *api.Config, n int) { c.Room[2] = n }},
	}
}

// P5.1, P5.2: on a machine of sizes that may not be there is no message, and bytes tell none.
func TestSizesThatMayNotBe(t *testing.T) {
	for _, x := range sizes() {
		for _, n := range []int{math.MinInt, -1, 0, 3, 65, 66, 68, 1 << 11, 1 << 20, 1 << 32, 1 << 61, 1 << 62, math.MaxInt} {
			for _, y := range tellings() {
				c := y.c
				x.set(&c, n)
				if shape.Check(c) == api.OK {
					continue
				}
				wantMay(t, c, y.message, false)
				wantPut(t, c, y.message, "", api.ErrArg)
				wantTake(t, c, y.bytes, api.Message{}, api.ErrForm)
				for length := 8; length <= 44; length += 4 {
					wantTake(t, c, (y.bytes + strings.Repeat("\x00", 44))[:length], api.Message{}, api.ErrForm)
				}
			}
		}
	}
	for _, y := range tellings() {
		wantMay(t, api.Config{}, y.message, false)
		wantPut(t, api.Config{}, y.message, "", api.ErrArg)
		wantTake(t, api.Config{}, y.bytes, api.Message{}, api.ErrForm)
	}
}

// P5.2: no bytes, one too few and one too many, and other numbers of them, up to where words of the greatest line would end.
func TestTakeOfBytesOfOtherLengths(t *testing.T) {
	for _, c := range machines() {
		wantTake(t, c, "", api.Message{}, api.ErrForm)
	}
	for _, x := range tellings() {
		for _, more := range []string{"\x00", "\x01", "\xff"} {
			long := x.bytes + strings.Repeat(more, 300)
			for length := range long {
				if length != len(x.bytes) {
					wantTake(t, x.c, long[:length], api.Message{}, api.ErrForm)
				}
			}
			wantTake(t, x.c, more+x.bytes, api.Message{}, api.ErrForm)
		}
		wantTake(t, x.c, x.bytes+x.bytes, api.Message{}, api.ErrForm)
	}
}

// P5.2: how many words there are hangs on the machine: bytes of another one's lines tell none.
func TestTakeOfWordsOfOtherMachines(t *testing.T) {
	for _, kind := range []int{api.Put, api.Data} {
		for _, count := range []int{1, 2, 4, 8} {
			for _, other := range []int{1, 2, 4, 8} {
				c, d := ordinary(), ordinary()
				c.Words, d.Words = count, other
				s, e := message.Put(c, base(kind))
				if e != api.OK || len(s) != 8+4*count {
					t.Errorf("%d words: %x, %d", count, s, e)
				}
				if count == other {
					wantTake(t, d, s, base(kind), api.OK)
				} else {
					wantTake(t, d, s, api.Message{}, api.ErrForm)
				}
			}
		}
	}
}

// wantAsTaken tells that bytes are taken as by the other way, and that what is taken has just these.
func wantAsTaken(t *testing.T, c api.Config, s string) {
	t.Helper()
	want, err := taken(c, s)
	wantTake(t, c, s, want, err)
	if err == api.OK {
		wantPut(t, c, want, s, api.OK)
	}
}

// P5.2, P5.3: bytes near those of messages: with one byte other, one more and one less.
func TestBytesNearMessages(t *testing.T) {
	for _, x := range tellings() {
		for at := range x.bytes {
			wantAsTaken(t, x.c, x.bytes[:at])
			wantAsTaken(t, x.c, x.bytes[:at]+x.bytes[at+1:])
			for n := range 256 {
				one := string([]byte{byte(n)})
				wantAsTaken(t, x.c, x.bytes[:at]+one+x.bytes[at+1:])
				wantAsTaken(t, x.c, x.bytes[:at]+one+x.bytes[at:])
			}
		}
	}
}

// numbers are made one from another by a rule, so that each run tries the same.
func numbers() func(below int) int {
	x := uint64(1)
	return func(below int) int {
		x = x*6364136223846793005 + 1442695040888963407
		return int(x>>33) % below
	}
}

// some is a message of numbers, most of which are as they may be.
func some(c api.Config, next func(below int) int) api.Message {
	m := api.Message{Kind: 1 + next(11), Line: next(c.Lines), From: next(c.Cores), To: next(c.Cores)}
	k, _ := lawOf(m.Kind)
	home := m.Line % c.Homes
	switch {
	case k.to == "home":
		m.To = home
	case k.from == "home":
		m.From = home
	case k.from == "who":
		m.Who = next(2)
		m.Own = []int{1, 2, 4}[next(3)]
		if m.Who == 0 {
			m.From = home
		}
	}
	if k.asked {
		m.Who = next(c.Cores)
	}
	if k.acks {
		m.Acks = next(c.Cores)
	}
	for i := range c.Words {
		if k.words {
			m.Words[i] = 4*next(1<<30) + next(4) - 1<<31
		}
	}
	return m
}

// P5.1, P5.2, P5.3: messages of machines of all sizes come back from their bytes; those with one number other are judged as the chapter lists.
func TestMessagesOfManyMachines(t *testing.T) {
	next := numbers()
	may := make([]int, 12)
	for range 20000 {
		c := most()
		c.Cores, c.Homes, c.Words, c.Lines = 1+next(64), 1<<next(5), 1<<next(4), 1<<next(11)
		m := some(c, next)
		wantAsListed(t, c, m)
		if mayBe(c, m) {
			may[m.Kind]++
		}
		all := []*int{&m.Kind, &m.Line, &m.From, &m.To, &m.Who, &m.Acks, &m.Own, &m.Words[next(8)]}
		*all[next(len(all))] = next(80) - 8
		wantAsListed(t, c, m)
	}
	for kind, n := range may[1:] {
		if n < 100 {
			t.Errorf("kind %d: only %d may be", kind+1, n)
		}
	}
}

// R3, R4, R5: the same calls answer the same, whatever was asked between, and what is asked stays as it was.
func TestNothingIsKept(t *testing.T) {
	for range 3 {
		for _, x := range tellings() {
			m := x.message
			wantBoth(t, x.c, m, x.bytes)
			wantNone(t, x.c, changed(m, func(m *api.Message) { m.Line = -1 }))
			wantTake(t, x.c, x.bytes+"\x00", api.Message{}, api.ErrForm)
			if m != x.message {
				t.Errorf("%+v, not %+v", m, x.message)
			}
		}
	}
}
