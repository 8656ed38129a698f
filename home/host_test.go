package home_test

import (
	"fmt"
	"math"
	"slices"
	"strings"
	"testing"

	"mesne/api"
	"mesne/home"
	"mesne/message"
	"mesne/queue"
	"mesne/sharer"
	"mesne/table"
)

// host is a home that is tested.
type host struct {
	t      *testing.T
	h      *home.Home
	c      api.Config
	number int
}

// sized are a machine's sizes; those that a home doesn't hang on are least.
func sized(cores, homes, pointers, words, lines, buffer int) api.Config {
	return api.Config{
		Cores: cores, Homes: homes, Sets: 1, Ways: 1, Words: words, Lines: lines,
		Pointers: pointers, Mshrs: 1, Buffer: buffer, Writebacks: 1, Room: [3]int{1, 1, 1},
	}
}

func least() api.Config { return sized(1, 1, 0, 1, 1, 1) }

// example has two homes, and two pointers for four cores.
func example() api.Config { return sized(4, 2, 2, 4, 16, 4) }

func most() api.Config {
	c := sized(64, 16, 8, 8, 1024, 16)
	c.Sets, c.Ways, c.Mshrs, c.Writebacks, c.Room = 64, 8, 8, 8, [3]int{64, 64, 64}
	return c
}

// machines are of one home and of more, of few cores, pointers and lines and of many.
func machines() []api.Config {
	return []api.Config{
		least(), example(), most(), sized(2, 1, 0, 2, 4, 2), sized(3, 4, 1, 1, 8, 1), sized(5, 1, 8, 8, 16, 3), sized(64, 2, 0, 1, 2, 16),
		// Most of these homes have no line.
		sized(2, 16, 1, 1, 2, 2),
	}
}

func made(t *testing.T, c api.Config, number int) host {
	t.Helper()
	h, err := home.New(c, number)
	if h == nil || err != api.OK {
		t.Fatalf("%+v, %d: %v, %d", c, number, h, err)
	}
	return host{t: t, h: h, c: c, number: number}
}

// simple is home 1 of the example: its lines are 1, 3, 5 and so on.
func simple(t *testing.T) host {
	t.Helper()
	return made(t, example(), 1)
}

// words are so many, other ones for another seed, and 0 behind them.
func words(count, seed int) api.Words {
	var w api.Words
	for i := range count {
		w[i] = 100*seed + i + 1
		if i%2 == 1 {
			w[i] = math.MinInt32 + w[i]
		}
	}
	return w
}

// any are words of as many numbers as a line has.
func (x host) any(seed int) api.Words { return words(x.c.Words, seed) }

// ask is what a core asks of a line's home, without words.
func (x host) ask(kind, line, core int) api.Message {
	return api.Message{Kind: kind, Line: line, From: core, To: line & (x.c.Homes - 1)}
}

// put is a core's Put.
func (x host) put(line, core int, w api.Words) api.Message {
	m := x.ask(api.Put, line, core)
	m.Words = w
	return m
}

// request is one of a kind, with words if it is a Put.
func (x host) request(kind, line, core int) api.Message {
	if kind == api.Put {
		return x.put(line, core, x.any(line+core+1))
	}
	return x.ask(kind, line, core)
}

// done is what tells that a core has a line.
func (x host) done(line, core int) api.Message { return x.ask(api.Done, line, core) }

// to is a message from the home to a core.
func (x host) to(kind, line, core int) api.Message {
	return api.Message{Kind: kind, Line: line, From: x.number, To: core}
}

// data are the memory's words for a core.
func (x host) data(line, core, own, acks int, w api.Words) api.Message {
	m := x.to(api.Data, line, core)
	m.Own, m.Acks, m.Words = own, acks, w
	return m
}

// forward tells a core to do something for another one.
func (x host) forward(kind, line, core, who, acks int) api.Message {
	m := x.to(kind, line, core)
	m.Who, m.Acks = who, acks
	return m
}

func (x host) grant(line, core, acks int) api.Message {
	m := x.to(api.Grant, line, core)
	m.Acks = acks
	return m
}

func (x host) putAck(line, core int) api.Message { return x.to(api.PutAck, line, core) }

// none, one and plenty tell how much room there is on each network.
func none() [3]int { return [3]int{} }

func one() [3]int { return [3]int{1, 1, 1} }

func plenty() [3]int { return [3]int{64, 64, 64} }

// network is that of a kind, by another way.
func network(kind int) int {
	switch {
	case kind <= 3:
		return 0
	case kind <= 6:
		return 1
	}
	return 2
}

// room is room for so many on one network, and for none on the others.
func room(net, count int) [3]int {
	var left [3]int
	left[net] = count
	return left
}

// mustBe tells that a message of a test is one that may be, so that what is told of it is told of something else.
func (x host) mustBe(l ...api.Message) {
	x.t.Helper()
	for _, m := range l {
		if !message.May(x.c, m) {
			x.t.Fatalf("%+v may not be", m)
		}
	}
}

func (x host) accepts(l ...api.Message) {
	x.t.Helper()
	for _, m := range l {
		if err := x.h.Accept(m); err != api.OK {
			x.t.Fatalf("Accept %+v: %d", m, err)
		}
	}
}

// works makes a call of Work, which answers that.
func (x host) works(at int, left [3]int, want api.Message, sends, did bool) {
	x.t.Helper()
	m, s, d := x.h.Work(at, left)
	if m != want || s != sends || d != did {
		x.t.Fatalf("Work %d %v: %+v, %v, %v, not %+v, %v, %v", at, left, m, s, d, want, sends, did)
	}
}

// starts starts the request at a place, or lets it be odd; no room is needed for that, and nothing is to be sent.
func (x host) starts(at int) {
	x.t.Helper()
	x.works(at, none(), api.Message{}, false, true)
}

// sends lets messages be sent, one after the other, each with room for it alone.
func (x host) sends(at int, l ...api.Message) {
	x.t.Helper()
	x.mustBe(l...)
	for _, m := range l {
		x.works(at, room(network(m.Kind), 1), m, true, true)
	}
}

// idles does nothing, and changes nothing.
func (x host) idles(at int, left [3]int) {
	x.t.Helper()
	x.steady(func() { x.works(at, left, api.Message{}, false, false) })
}

func (x host) finishes(line, core int) {
	x.t.Helper()
	m := x.done(line, core)
	x.mustBe(m)
	if err := x.h.Done(m); err != api.OK {
		x.t.Fatalf("Done %+v: %d", m, err)
	}
}

// acceptsInVain and finishesInVain have an error, and change nothing.
func (x host) acceptsInVain(m api.Message, want api.Errno) {
	x.t.Helper()
	x.steady(func() {
		if err := x.h.Accept(m); err != want {
			x.t.Fatalf("Accept %+v: %d, not %d", m, err, want)
		}
	})
}

func (x host) finishesInVain(m api.Message, want api.Errno) {
	x.t.Helper()
	x.steady(func() {
		if err := x.h.Done(m); err != want {
			x.t.Fatalf("Done %+v: %d, not %d", m, err, want)
		}
	})
}

// serves does all that there is to be done for a request, which is accepted behind all others; what is sent is told.
func (x host) serves(m api.Message) []api.Message {
	x.t.Helper()
	at := len(x.h.Queue())
	x.accepts(m)
	x.starts(at)
	var sent []api.Message
	for {
		if l := x.h.Queue(); at == len(l) || len(l[at].Sends) == 0 {
			break
		}
		next, sends, did := x.h.Work(at, plenty())
		if !sends || !did {
			x.t.Fatalf("%+v: %+v, %v, %v", m, next, sends, did)
		}
		sent = append(sent, next)
	}
	if m.Kind != api.Put {
		x.finishes(m.Line, m.From)
	}
	return sent
}

// service serves requests, of which these are sent.
func (x host) service(m api.Message, want ...api.Message) {
	x.t.Helper()
	x.mustBe(want...)
	if got := x.serves(m); !slices.Equal(got, want) {
		x.t.Fatalf("%+v: %+v, not %+v", m, got, want)
	}
}

// known is what a home knows of a line: its owner, or -1, and its sharers.
func (x host) known(owner int, pointers ...int) table.Entry {
	return table.Entry{Owner: owner, Sharers: sharer.Set{Cores: x.c.Cores, Most: x.c.Pointers, Pointers: pointers}}
}

// crowded is that with all cores as sharers.
func (x host) crowded(owner int) table.Entry {
	e := x.known(owner)
	e.Sharers.All = true
	return e
}

func sameEntry(e, f table.Entry) bool {
	return e.Owner == f.Owner && e.Sharers.Cores == f.Sharers.Cores && e.Sharers.Most == f.Sharers.Most &&
		e.Sharers.All == f.Sharers.All && slices.Equal(e.Sharers.Pointers, f.Sharers.Pointers)
}

// has tells what is known of a line, and its words in memory.
func (x host) has(line int, want table.Entry, w api.Words) {
	x.t.Helper()
	if e, ok := x.h.Entry(line); !sameEntry(e, want) || !ok {
		x.t.Fatalf("Entry %d: %+v, %v, not %+v", line, e, ok, want)
	}
	if got, ok := x.h.Line(line); got != w || !ok {
		x.t.Fatalf("Line %d: %v, %v, not %v", line, got, ok, w)
	}
}

// lacks tells that a line is none of the home's.
func (x host) lacks(line int) {
	x.t.Helper()
	if e, ok := x.h.Entry(line); !sameEntry(e, table.Entry{}) || ok {
		x.t.Fatalf("Entry %d: %+v, %v", line, e, ok)
	}
	if w, ok := x.h.Line(line); w != (api.Words{}) || ok {
		x.t.Fatalf("Line %d: %v, %v", line, w, ok)
	}
}

// waits is the queue's entry of a request that isn't started, on that of one that is.
func waits(m api.Message) queue.Entry { return queue.Entry{M: m} }

func on(m api.Message, sends ...api.Message) queue.Entry {
	return queue.Entry{M: m, Started: true, Sends: sends}
}

func sameRequest(e, f queue.Entry) bool {
	return e.M == f.M && e.Started == f.Started && slices.Equal(e.Sends, f.Sends)
}

// queues tells all requests.
func (x host) queues(want ...queue.Entry) {
	x.t.Helper()
	if l := x.h.Queue(); !slices.EqualFunc(l, want, sameRequest) {
		x.t.Fatalf("%+v, not %+v", l, want)
	}
}

func (x host) odd(want int) {
	x.t.Helper()
	if got := x.h.Odd(); got != want {
		x.t.Fatalf("Odd: %d, not %d", got, want)
	}
}

// line is all that a home tells of a line.
func (x host) line(line int) string {
	e, known := x.h.Entry(line)
	w, has := x.h.Line(line)
	return fmt.Sprintln(line, e, known, w, has)
}

// view is all that a home tells.
func (x host) view() string {
	var b strings.Builder
	for line := -1; line <= x.c.Lines; line++ {
		b.WriteString(x.line(line))
	}
	return b.String() + fmt.Sprintln(x.h.Queue(), x.h.Odd())
}

// steady tells that a home is behind something as it was ahead.
func (x host) steady(do func()) {
	x.t.Helper()
	before := x.view()
	do()
	if now := x.view(); now != before {
		x.t.Fatalf("%s, not %s", now, before)
	}
}

// numbers are the first so many from 0 on.
func numbers(count int) []int {
	var l []int
	for n := range count {
		l = append(l, n)
	}
	return l
}

// kinds are those of requests.
func kinds() []int { return []int{api.GetS, api.GetM, api.Put} }
