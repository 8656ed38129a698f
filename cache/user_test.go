package cache_test

import (
	"slices"
	"testing"

	"mesne/api"
	"mesne/array"
	"mesne/cache"
	"mesne/message"
	"mesne/mshr"
	"mesne/writeback"
)

// example has homes, sets and cores enough to be told apart; the cache under test is core 1's.
func example() api.Config {
	return api.Config{
		Cores: 5, Homes: 4, Sets: 2, Ways: 2, Words: 4, Lines: 16,
		Pointers: 2, Mshrs: 3, Buffer: 5, Writebacks: 2, Room: [3]int{7, 9, 11},
	}
}

func least() api.Config {
	return api.Config{
		Cores: 1, Homes: 1, Sets: 1, Ways: 1, Words: 1, Lines: 1,
		Pointers: 0, Mshrs: 1, Buffer: 1, Writebacks: 1, Room: [3]int{1, 1, 1},
	}
}

func most() api.Config {
	return api.Config{
		Cores: 64, Homes: 16, Sets: 64, Ways: 8, Words: 8, Lines: 1024,
		Pointers: 8, Mshrs: 8, Buffer: 16, Writebacks: 8, Room: [3]int{64, 64, 64},
	}
}

// sized is a machine of so many cores, homes, sets, ways, words of a line, lines, misses and writebacks.
func sized(cores, homes, sets, ways, words, lines, misses, writebacks int) api.Config {
	return api.Config{
		Cores: cores, Homes: homes, Sets: sets, Ways: ways, Words: words, Lines: lines,
		Pointers: 1, Mshrs: misses, Buffer: 3, Writebacks: writebacks, Room: [3]int{2, 3, 4},
	}
}

// machines have one of each thing and more; in some there are more lines than ways, in some fewer, in some fewer lines than homes or sets.
func machines() []api.Config {
	return []api.Config{
		least(), most(), example(),
		sized(1, 1, 1, 1, 1, 2, 1, 1), sized(2, 1, 1, 1, 1, 2, 1, 1), sized(2, 1, 1, 1, 8, 4, 2, 1), sized(2, 2, 1, 2, 1, 4, 2, 2),
		sized(3, 1, 2, 1, 2, 8, 2, 1), sized(3, 4, 1, 4, 4, 8, 3, 2), sized(4, 2, 4, 2, 2, 16, 8, 8), sized(8, 16, 4, 1, 1, 8, 4, 3),
		sized(2, 16, 64, 1, 2, 1, 1, 1), sized(3, 2, 64, 8, 4, 32, 5, 2), sized(5, 4, 1, 8, 2, 32, 8, 1), sized(64, 1, 2, 3, 1, 16, 2, 4),
		sized(4, 8, 8, 1, 8, 1024, 3, 8),
	}
}

// words are so many, none of them 0, and others for another n.
func words(count, n int) api.Words {
	var w api.Words
	for i := range count {
		w[i] = 100*n + i + 1
		if n%2 == 1 {
			w[i] = -w[i]
		}
	}
	return w
}

func numbers(count int) []int {
	var l []int
	for n := range count {
		l = append(l, n)
	}
	return l
}

func states() []int {
	return []int{api.Invalid, api.Shared, api.Exclusive, api.Owned, api.Modified}
}

// readables are the states of a line that can be read.
func readables() []int { return states()[1:] }

// owners are those of a line for which the cache must answer.
func owners() []int { return states()[2:] }

// user is a cache under test, with what it is of.
type user struct {
	t    *testing.T
	k    *cache.Cache
	c    api.Config
	core int
}

// made is a new cache.
func made(t *testing.T, c api.Config, core int) user {
	t.Helper()
	k, err := cache.New(c, core)
	if k == nil || err != api.OK {
		t.Fatalf("New %+v, %d: %v, %d", c, core, k, err)
	}
	return user{t: t, k: k, c: c, core: core}
}

// simple is a new cache of core 1 of the example.
func simple(t *testing.T) user {
	t.Helper()
	return made(t, example(), 1)
}

// view is all that a cache tells.
type view struct {
	ways    []array.Way
	misses  []mshr.Miss
	written []writeback.Entry
}

func (v view) is(other view) bool {
	return slices.Equal(v.ways, other.ways) && slices.Equal(v.misses, other.misses) && slices.Equal(v.written, other.written)
}

func (u user) view() view {
	u.t.Helper()
	v := view{misses: u.k.Misses(), written: u.k.Written()}
	for set := range u.c.Sets {
		for way := range u.c.Ways {
			w, ok := u.k.Way(set, way)
			if !ok {
				u.t.Fatalf("Way %d, %d: none", set, way)
			}
			v.ways = append(v.ways, w)
		}
	}
	return v
}

// steady tells that a cache is behind something as it was ahead.
func (u user) steady(do func()) {
	u.t.Helper()
	before := u.view()
	do()
	if after := u.view(); !after.is(before) {
		u.t.Fatalf("%+v, not %+v", after, before)
	}
}

// home is that of a line.
func (u user) home(line int) int { return line % u.c.Homes }

// sent is a message of the cache to a line's home.
func (u user) sent(kind, line int) api.Message {
	return api.Message{Kind: kind, Line: line, From: u.core, To: u.home(line)}
}

// put is what the cache sends of an evicted line.
func (u user) put(line int, w api.Words) api.Message {
	m := u.sent(api.Put, line)
	m.Words = w
	return m
}

// told is Data that the cache sends to another core.
func (u user) told(line, to, own, acks int, w api.Words) api.Message {
	return api.Message{Kind: api.Data, Line: line, From: u.core, To: to, Who: 1, Acks: acks, Own: own, Words: w}
}

// acked is the Ack that it sends.
func (u user) acked(line, to int) api.Message {
	return api.Message{Kind: api.Ack, Line: line, From: u.core, To: to}
}

// fromHome is a message to the cache from a line's home.
func (u user) fromHome(kind, line int) api.Message {
	return api.Message{Kind: kind, Line: line, From: u.home(line), To: u.core}
}

// forward is one of the three, for another core.
func (u user) forward(kind, line, who, acks int) api.Message {
	m := u.fromHome(kind, line)
	m.Who, m.Acks = who, acks
	return m
}

// data is Data from the home.
func (u user) data(line, own, acks int, w api.Words) api.Message {
	m := u.fromHome(api.Data, line)
	m.Own, m.Acks, m.Words = own, acks, w
	return m
}

func (u user) grant(line, acks int) api.Message {
	m := u.fromHome(api.Grant, line)
	m.Acks = acks
	return m
}

// ack is an Ack from another core.
func (u user) ack(line, from int) api.Message {
	return api.Message{Kind: api.Ack, Line: line, From: from, To: u.core}
}

// asks asks for a line, as it may.
func (u user) asks(line, kind int) {
	u.t.Helper()
	if m, err := u.k.Ask(line, kind); m != u.sent(kind, line) || err != api.OK {
		u.t.Fatalf("Ask %d, %d: %+v, %d", line, kind, m, err)
	}
}

func (u user) asksInVain(line, kind int, want api.Errno) {
	u.t.Helper()
	u.steady(func() {
		if m, err := u.k.Ask(line, kind); m != (api.Message{}) || err != want {
			u.t.Fatalf("Ask %d, %d: %+v, %d, not %d", line, kind, m, err, want)
		}
	})
}

// evicts evicts a way of which nobody need be told.
func (u user) evicts(set, way int) {
	u.t.Helper()
	if m, sends, err := u.k.Evict(set, way); m != (api.Message{}) || sends || err != api.OK {
		u.t.Fatalf("Evict %d, %d: %+v, %v, %d", set, way, m, sends, err)
	}
}

// puts evicts a way whose words go home.
func (u user) puts(set, way int, want api.Message) {
	u.t.Helper()
	m, sends, err := u.k.Evict(set, way)
	if m != want || !sends || err != api.OK {
		u.t.Fatalf("Evict %d, %d: %+v, %v, %d, not %+v", set, way, m, sends, err, want)
	}
	u.mustBe(m)
}

func (u user) evictsInVain(set, way int, want api.Errno) {
	u.t.Helper()
	u.steady(func() {
		if m, sends, err := u.k.Evict(set, way); m != (api.Message{}) || sends || err != want {
			u.t.Fatalf("Evict %d, %d: %+v, %v, %d, not %d", set, way, m, sends, err, want)
		}
	})
}

// takes takes messages to which nothing is sent.
func (u user) takes(l ...api.Message) {
	u.t.Helper()
	for _, m := range l {
		u.mustBe(m)
		if sent, sends, err := u.k.Take(m); sent != (api.Message{}) || sends || err != api.OK {
			u.t.Fatalf("Take %+v: %+v, %v, %d", m, sent, sends, err)
		}
	}
}

// answers takes a message to which another one is sent.
func (u user) answers(m, want api.Message) {
	u.t.Helper()
	u.mustBe(m)
	u.mustBe(want)
	if sent, sends, err := u.k.Take(m); sent != want || !sends || err != api.OK {
		u.t.Fatalf("Take %+v: %+v, %v, %d, not %+v", m, sent, sends, err, want)
	}
}

func (u user) takesInVain(m api.Message, want api.Errno) {
	u.t.Helper()
	u.steady(func() {
		if sent, sends, err := u.k.Take(m); sent != (api.Message{}) || sends || err != want {
			u.t.Fatalf("Take %+v: %+v, %v, %d, not %d", m, sent, sends, err, want)
		}
	})
}

// hasNoEntry takes a message that may be, in vain.
func (u user) hasNoEntry(m api.Message) {
	u.t.Helper()
	u.mustBe(m)
	u.takesInVain(m, api.ErrTable)
}

// mustBe tells that a message may be on the machine.
func (u user) mustBe(m api.Message) {
	u.t.Helper()
	if !message.May(u.c, m) {
		u.t.Fatalf("%+v may not be", m)
	}
}

func (u user) finishes(line int) {
	u.t.Helper()
	if m, ok := u.k.Finish(); m != u.sent(api.Done, line) || !ok {
		u.t.Fatalf("Finish: %+v, %v, not of %d", m, ok, line)
	}
}

func (u user) finishesNone() {
	u.t.Helper()
	u.steady(func() {
		if m, ok := u.k.Finish(); m != (api.Message{}) || ok {
			u.t.Fatalf("Finish: %+v, %v", m, ok)
		}
	})
}

func (u user) does(x api.Op, want int) {
	u.t.Helper()
	if told, err := u.k.Do(x); told != want || err != api.OK {
		u.t.Fatalf("Do %+v: %d, %d, not %d", x, told, err, want)
	}
}

func (u user) doesInVain(x api.Op, want api.Errno) {
	u.t.Helper()
	u.steady(func() {
		if told, err := u.k.Do(x); told != 0 || err != want {
			u.t.Fatalf("Do %+v: %d, %d, not %d", x, told, err, want)
		}
	})
}

// has tells that a line is there.
func (u user) has(line, state int, w api.Words, locked bool) {
	u.t.Helper()
	want := array.Way{State: state, Line: line, Words: w, Locked: locked}
	if got, there := u.k.Look(line); got != want || !there {
		u.t.Fatalf("Look %d: %+v, %v, not %+v", line, got, there, want)
	}
	u.lies(line)
}

// lies tells that one way has a line, of its set.
func (u user) lies(line int) {
	u.t.Helper()
	count := 0
	for at, w := range u.view().ways {
		if w.Line != line || w.State == api.Invalid && !w.Locked {
			continue
		}
		count++
		if set := at / u.c.Ways; set != line%u.c.Sets {
			u.t.Fatalf("line %d lies in set %d", line, set)
		}
	}
	if count != 1 {
		u.t.Fatalf("line %d lies in %d ways", line, count)
	}
}

// lacks tells that a line isn't there.
func (u user) lacks(line int) {
	u.t.Helper()
	if got, there := u.k.Look(line); got != (array.Way{}) || there {
		u.t.Fatalf("Look %d: %+v, %v", line, got, there)
	}
}

func (u user) hasWay(set, way int, want array.Way) {
	u.t.Helper()
	if got, ok := u.k.Way(set, way); got != want || !ok {
		u.t.Fatalf("Way %d, %d: %+v, %v, not %+v", set, way, got, ok, want)
	}
}

func (u user) misses(want ...mshr.Miss) {
	u.t.Helper()
	if got := u.k.Misses(); !slices.Equal(got, want) {
		u.t.Fatalf("Misses: %+v, not %+v", got, want)
	}
}

func (u user) written(want ...writeback.Entry) {
	u.t.Helper()
	if got := u.k.Written(); !slices.Equal(got, want) {
		u.t.Fatalf("Written: %+v, not %+v", got, want)
	}
}

// reads lets a line be there to be read, Shared or Exclusive.
func (u user) reads(line, state int, w api.Words) {
	u.t.Helper()
	u.asks(line, api.GetS)
	u.takes(u.data(line, state, 0, w))
	u.finishes(line)
}

// brings lets a line that wasn't there be there in a state other than Invalid, unlocked.
func (u user) brings(line, state int, w api.Words) {
	u.t.Helper()
	switch state {
	case api.Shared, api.Exclusive:
		u.reads(line, state, w)
	case api.Owned:
		u.reads(line, api.Exclusive, w)
		who := u.other()
		u.answers(u.forward(api.FwdS, line, who, 0), u.told(line, who, api.Shared, 0, w))
	case api.Modified:
		u.asks(line, api.GetM)
		u.takes(u.data(line, api.Modified, 0, w))
		u.finishes(line)
	}
	u.has(line, state, w, false)
}

// other is the next core.
func (u user) other() int { return (u.core + 1) % u.c.Cores }

// others are all cores but that of the cache.
func (u user) others() []int {
	return slices.DeleteFunc(numbers(u.c.Cores), func(core int) bool { return core == u.core })
}

// buffers lets a line that wasn't there be in the buffer, Live or not.
func (u user) buffers(line int, live bool, w api.Words) {
	u.t.Helper()
	u.brings(line, api.Modified, w)
	u.puts(line%u.c.Sets, u.wayOf(line), u.put(line, w))
	if !live {
		who := u.other()
		u.answers(u.forward(api.FwdM, line, who, 0), u.told(line, who, api.Modified, 0, w))
	}
}

// wayOf tells which way of its set has a line that is there.
func (u user) wayOf(line int) int {
	u.t.Helper()
	for way := range u.c.Ways {
		if w, _ := u.k.Way(line%u.c.Sets, way); w.Line == line && (w.State != api.Invalid || w.Locked) {
			return way
		}
	}
	u.t.Fatalf("line %d is nowhere", line)
	return -1
}

// addr is that of a line's word.
func (u user) addr(line, word int) int { return line*u.c.Words + word }

func load(addr int) api.Op         { return api.Op{Kind: api.Load, Addr: addr} }
func store(addr, value int) api.Op { return api.Op{Kind: api.Store, Addr: addr, Value: value} }
func swap(addr, value int) api.Op  { return api.Op{Kind: api.Swap, Addr: addr, Value: value} }

// entry is one of the buffer.
func entry(line int, w api.Words, live bool) writeback.Entry {
	return writeback.Entry{Line: line, Words: w, Live: live}
}

// opened is a miss to which nothing came.
func opened(line, kind int) mshr.Miss { return mshr.Miss{Line: line, Kind: kind, Needs: -1} }
