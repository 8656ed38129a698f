package cache_test

import (
	"fmt"
	"maps"
	"slices"
	"testing"

	"mesne/api"
	"mesne/array"
	"mesne/message"
	"mesne/mshr"
	"mesne/writeback"
)

// held is what a line has that is there; whether it is locked, the misses tell.
type held struct {
	way, state int
	words      api.Words
}

// pending is a miss by another way: what came of it, Data or a Grant, and how many acks.
type pending struct {
	line, kind, acks int
	told             []api.Message
	owes             bool
}

// record is a cache by another way.
type record struct {
	c       api.Config
	core    int
	there   map[int]held
	last    map[[2]int]int // the line that was laid last in each way
	pending []pending
	kept    []writeback.Entry
}

func recordOf(c api.Config, core int) *record {
	return &record{c: c, core: core, there: map[int]held{}, last: map[[2]int]int{}}
}

// clone is the same record, which shares nothing with r.
func (r *record) clone() *record {
	other := *r
	other.there, other.last = maps.Clone(r.there), maps.Clone(r.last)
	other.pending, other.kept = slices.Clone(r.pending), slices.Clone(r.kept)
	return &other
}

func (r *record) missAt(line int) int {
	return slices.IndexFunc(r.pending, func(p pending) bool { return p.line == line })
}

func (r *record) keptAt(line int) int {
	return slices.IndexFunc(r.kept, func(e writeback.Entry) bool { return e.Line == line })
}

// taker tells the line that is there in a way.
func (r *record) taker(set, way int) (int, bool) {
	line, laid := r.last[[2]int{set, way}]
	h, there := r.there[line]
	return line, laid && there && h.way == way
}

func (r *record) free(line int) int {
	for way := range r.c.Ways {
		if _, taken := r.taker(line%r.c.Sets, way); !taken {
			return way
		}
	}
	return -1
}

// keep lets a line have a state and words; a line that has none, and no miss, is there no more.
func (r *record) keep(line, state int, w api.Words) {
	h := r.there[line]
	h.state, h.words = state, w
	if state == 0 {
		h.words = api.Words{}
	}
	if r.there[line] = h; state == 0 && r.missAt(line) < 0 {
		delete(r.there, line)
	}
}

// send is a message from the core.
func (r *record) send(kind, line, to int) api.Message {
	return api.Message{Kind: kind, Line: line, From: r.core, To: to}
}

// answer is what a call tells: a message, whether it is to be sent, a number, an error.
type answer struct {
	m     api.Message
	sends bool
	told  int
	err   api.Errno
}

func fails(err api.Errno) answer { return answer{err: err} }

func sends(m api.Message) answer { return answer{m: m, sends: true} }

func (r *record) ask(line, kind int) answer {
	if line < 0 || line >= r.c.Lines || kind < 1 || kind > 2 {
		return fails(api.ErrArg)
	}
	h, there := r.there[line]
	had := h.state > 0
	if kind == 2 {
		had = h.state == 2 || h.state == 4
	}
	if r.missAt(line) >= 0 || r.keptAt(line) >= 0 || had {
		return fails(api.ErrTwice)
	}
	if len(r.pending) >= r.c.Mshrs {
		return fails(api.ErrFull)
	}
	if !there {
		way := r.free(line)
		if way < 0 {
			return fails(api.ErrName)
		}
		r.there[line] = held{way: way}
		r.last[[2]int{line % r.c.Sets, way}] = line
	}
	r.pending = append(r.pending, pending{line: line, kind: kind})
	return sends(r.send(kind, line, line%r.c.Homes))
}

func (r *record) evict(set, way int) answer {
	line, taken := r.taker(set, way)
	h := r.there[line]
	if !taken || h.state == 0 {
		return fails(api.ErrName)
	}
	if r.missAt(line) >= 0 {
		return fails(api.ErrTwice)
	}
	if h.state == 1 {
		r.keep(line, 0, h.words)
		return answer{}
	}
	if len(r.kept) >= r.c.Writebacks {
		return fails(api.ErrFull)
	}
	r.keep(line, 0, h.words)
	r.kept = append(r.kept, writeback.Entry{Line: line, Words: h.words, Live: true})
	m := r.send(3, line, line%r.c.Homes)
	m.Words = h.words
	return sends(m)
}

// forward tells a line's words to who asked, and leaves the line in a state.
func (r *record) forward(m api.Message, state, own int) answer {
	sent := r.send(7, m.Line, m.Who)
	sent.Who, sent.Own, sent.Acks = 1, own, m.Acks
	if h := r.there[m.Line]; h.state >= 2 {
		sent.Words = h.words
		r.keep(m.Line, state, h.words)
		return sends(sent)
	}
	at := r.keptAt(m.Line)
	if at < 0 || !r.kept[at].Live {
		return fails(api.ErrTable)
	}
	sent.Words = r.kept[at].Words
	r.kept[at].Live = state != 0
	return sends(sent)
}

// come lets a miss have what came.
func (r *record) come(m api.Message) answer {
	at := r.missAt(m.Line)
	if at < 0 {
		return fails(api.ErrTable)
	}
	p := &r.pending[at]
	if m.Kind == 9 {
		if p.kind == 1 || len(p.told) > 0 && p.acks == p.told[0].Acks {
			return fails(api.ErrTable)
		}
		p.acks++
	} else {
		if len(p.told) > 0 || (p.kind == 2) != (m.Own == 4) || m.Acks < p.acks || m.Own != 4 && m.Acks > 0 {
			return fails(api.ErrTable)
		}
		p.told = []api.Message{m}
	}
	if len(p.told) > 0 && p.acks == p.told[0].Acks {
		p.owes = true
		r.land(p.told[0])
	}
	return answer{}
}

// land lets a line be what was told of it.
func (r *record) land(m api.Message) {
	if m.Kind == 8 {
		m.Words = r.there[m.Line].words
	}
	r.keep(m.Line, m.Own, m.Words)
}

func (r *record) take(m api.Message) answer {
	toCore := m.Kind >= 4 && m.Kind <= 10
	if !toCore || !message.May(r.c, m) || m.To != r.core {
		return fails(api.ErrArg)
	}
	h := r.there[m.Line]
	switch m.Kind {
	case 4:
		return r.forward(m, 3, 1)
	case 5:
		return r.forward(m, 0, 4)
	case 6:
		if h.state > 1 {
			return fails(api.ErrTable)
		}
		if h.state == 1 {
			r.keep(m.Line, 0, h.words)
		}
		return sends(r.send(9, m.Line, m.Who))
	case 8:
		if h.state != 3 {
			return fails(api.ErrTable)
		}
		// A grant has no state of its own: what it gives is to write.
		m.Own = 4
	case 10:
		at := r.keptAt(m.Line)
		if at < 0 {
			return fails(api.ErrTable)
		}
		r.kept = append(slices.Clone(r.kept[:at]), r.kept[at+1:]...)
		return answer{}
	}
	return r.come(m)
}

func (r *record) finish() answer {
	for at, p := range r.pending {
		if p.owes {
			r.pending = append(slices.Clone(r.pending[:at]), r.pending[at+1:]...)
			h := r.there[p.line]
			r.keep(p.line, h.state, h.words)
			return sends(r.send(11, p.line, p.line%r.c.Homes))
		}
	}
	return answer{}
}

func (r *record) do(x api.Op) answer {
	in := x.Value >= -1<<31 && x.Value < 1<<31
	if x.Kind < 1 || x.Kind > 3 || !in || x.Kind == 1 && x.Value != 0 || x.Addr < 0 || x.Addr >= r.c.Words*r.c.Lines {
		return fails(api.ErrArg)
	}
	line, word := x.Addr/r.c.Words, x.Addr%r.c.Words
	h := r.there[line]
	was := h.words[word]
	switch {
	case x.Kind == 1 && h.state > 0:
		return answer{told: was}
	case x.Kind != 1 && (h.state == 2 || h.state == 4):
		h.words[word] = x.Value
		r.keep(line, 4, h.words)
		if x.Kind == 2 {
			was = 0
		}
		return answer{told: was}
	}
	return fails(api.ErrName)
}

// view is what a cache of which it is the record tells.
func (r *record) view() view {
	v := view{written: slices.Clone(r.kept)}
	for set := range r.c.Sets {
		for way := range r.c.Ways {
			line, taken := r.taker(set, way)
			w := array.Way{Line: line}
			if taken {
				h := r.there[line]
				w.State, w.Words, w.Locked = h.state, h.words, r.missAt(line) >= 0
			}
			v.ways = append(v.ways, w)
		}
	}
	for _, p := range r.pending {
		m := mshr.Miss{Line: p.line, Kind: p.kind, Needs: -1, Got: p.acks, Owes: p.owes}
		for _, told := range p.told {
			m.Needs, m.Own, m.Words, m.Granted = told.Acks, told.Own, told.Words, told.Kind == 8
		}
		v.misses = append(v.misses, m)
	}
	return v
}

// The kinds of calls.
const (
	ask = iota
	evict
	take
	finish
	do
)

// call is one that changes a cache: a and b are a line and a kind, or a set and a way.
type call struct {
	kind, a, b int
	m          api.Message
	x          api.Op
}

// of makes a call of a cache.
func (k call) of(u user) answer {
	var a answer
	switch k.kind {
	case ask:
		a.m, a.err = u.k.Ask(k.a, k.b)
		a.sends = a.err == api.OK
	case evict:
		a.m, a.sends, a.err = u.k.Evict(k.a, k.b)
	case take:
		a.m, a.sends, a.err = u.k.Take(k.m)
	case finish:
		a.m, a.sends = u.k.Finish()
	case do:
		a.told, a.err = u.k.Do(k.x)
	}
	return a
}

// ofRecord makes it of a record.
func (k call) ofRecord(r *record) answer {
	switch k.kind {
	case ask:
		return r.ask(k.a, k.b)
	case evict:
		return r.evict(k.a, k.b)
	case take:
		return r.take(k.m)
	case finish:
		return r.finish()
	}
	return r.do(k.x)
}

// wantDone makes a call of a cache, which answers as its record does, and tells the answer.
func (u user) wantDone(r *record, k call) answer {
	u.t.Helper()
	got, want := k.of(u), k.ofRecord(r)
	if got != want {
		u.t.Fatalf("%+v: %+v, not %+v", k, got, want)
	}
	if got.sends {
		u.mustBe(got.m)
	}
	return got
}

// wantRecord tells that a cache is as a record, and as P14.6 asks.
func (u user) wantRecord(r *record) {
	u.t.Helper()
	got, want := u.view(), r.view()
	if !got.is(want) {
		u.t.Fatalf("%+v, not %+v", got, want)
	}
	u.wantSound(got)
}

// wantSound tells that lines are locked just as long as there are misses of them, and are in one place at most; and that nothing has more than its room.
func (u user) wantSound(v view) {
	u.t.Helper()
	seen := map[int]int{}
	locked := 0
	for _, w := range v.ways {
		missed := slices.ContainsFunc(v.misses, func(m mshr.Miss) bool { return m.Line == w.Line })
		if w.Locked {
			locked++
		}
		if w.Locked && !missed {
			u.t.Fatalf("%+v is locked, without a miss", w)
		}
		if w.Locked || w.State != api.Invalid {
			seen[w.Line]++
		}
	}
	if locked != len(v.misses) {
		u.t.Fatalf("%d locked ones, %d misses", locked, len(v.misses))
	}
	for _, e := range v.written {
		seen[e.Line]++
	}
	for line, count := range seen {
		if count > 1 {
			u.t.Fatalf("line %d is in %d places", line, count)
		}
	}
	if len(v.misses) > u.c.Mshrs || len(v.written) > u.c.Writebacks {
		u.t.Fatalf("%d misses, %d in the buffer", len(v.misses), len(v.written))
	}
}

// fewCalls are all that matter of a small machine of one word.
func fewCalls(u user) []call {
	l := []call{{kind: finish}}
	for way := range u.c.Ways {
		l = append(l, call{kind: evict, b: way})
	}
	who := u.other()
	for line := range u.c.Lines {
		for _, kind := range []int{api.GetS, api.GetM} {
			l = append(l, call{kind: ask, a: line, b: kind})
		}
		for _, m := range []api.Message{
			u.data(line, api.Shared, 0, words(1, 5)), u.data(line, api.Exclusive, 0, words(1, 5)),
			u.data(line, api.Modified, 0, words(1, 6)), u.data(line, api.Modified, 1, words(1, 6)),
			u.grant(line, 0), u.grant(line, 1), u.ack(line, who), u.fromHome(api.PutAck, line),
			u.forward(api.FwdS, line, who, 0), u.forward(api.FwdM, line, who, 1), u.forward(api.Inv, line, who, 0),
		} {
			l = append(l, call{kind: take, m: m})
		}
		for _, x := range []api.Op{load(line), store(line, 7), swap(line, 8)} {
			l = append(l, call{kind: do, x: x})
		}
	}
	return l
}

// state is a record, and calls that lead there.
type state struct {
	r    *record
	path []call
}

// isNear tells whether no miss has acks without end.
func (s state) isNear() bool {
	return !slices.ContainsFunc(s.r.pending, func(p pending) bool { return p.acks > 2 })
}

// reached is a cache behind a state's calls.
func (s state) reached(t *testing.T) user {
	t.Helper()
	u := made(t, s.r.c, s.r.core)
	for _, k := range s.path {
		k.of(u)
	}
	return u
}

// steps makes each call in a state, and tells the states that come of those that change something.
func (s state) steps(t *testing.T, calls []call) []state {
	t.Helper()
	var l []state
	u := s.reached(t)
	for _, k := range calls {
		r := s.r.clone()
		got := u.wantDone(r, k)
		u.wantRecord(r)
		if got.err == api.OK {
			l = append(l, state{r: r, path: append(slices.Clone(s.path), k)})
			// Behind an error the cache is still what it was; else it takes another one.
			u = s.reached(t)
		}
	}
	return l
}

// P14.2, P14.3, P14.4, P14.5, P14.6: in all states that small machines come to, each call is as by the other way; if it has an error, nothing changes.
func TestAllStates(t *testing.T) {
	for _, x := range []struct {
		c     api.Config
		least int
	}{
		{sized(3, 1, 1, 1, 1, 1, 1, 1), 100},
		{sized(2, 1, 1, 1, 1, 2, 1, 1), 2000},
		{sized(2, 2, 1, 2, 1, 2, 1, 2), 10000},
	} {
		calls := fewCalls(made(t, x.c, 1))
		work := []state{{r: recordOf(x.c, 1)}}
		seen := map[string]bool{fmt.Sprint(work[0].r.view()): true}
		for at := 0; at < len(work); at++ {
			for _, next := range work[at].steps(t, calls) {
				if key := fmt.Sprint(next.r.view()); next.isNear() && !seen[key] {
					seen[key] = true
					work = append(work, next)
				}
			}
		}
		if len(work) < x.least {
			t.Fatalf("%+v: %d states", x.c, len(work))
		}
	}
}

// picker hands out numbers below others, the same ones each time.
func picker(seed uint64) func(below int) int {
	return func(below int) int {
		seed = seed*6364136223846793005 + 1442695040888963407
		return int((seed >> 33) % uint64(below))
	}
}

// near is a line that has something to do with the cache, or one of a few that crowd in one set, so that calls meet.
func near(u user, r *record, pick func(below int) int) int {
	lines := slices.Sorted(maps.Keys(r.there))
	for _, e := range r.kept {
		lines = append(lines, e.Line)
	}
	if at := pick(len(lines) + 2); at < len(lines) {
		return lines[at]
	}
	return pick(2*u.c.Ways+1) * u.c.Sets % u.c.Lines
}

// picked is a call of some line; some of them, by so many in twenty, are such as do something for what is on its way, some may be wrong.
func picked(u user, r *record, help int, pick func(below int) int) call {
	if pick(20) < help {
		return helpful(u, r, pick)
	}
	line := near(u, r, pick)
	if pick(30) == 0 {
		line = pick(u.c.Lines+2) - 1
	}
	switch pick(9) {
	case 0, 1:
		return call{kind: ask, a: line, b: 1 + pick(2+pick(10)/9)}
	case 2:
		return call{kind: evict, a: (line + u.c.Sets) % u.c.Sets, b: pick(u.c.Ways+1) - pick(10)/9}
	case 3, 4:
		x := api.Op{Kind: 1 + pick(3), Addr: line*u.c.Words + pick(u.c.Words)}
		if x.Kind != api.Load || pick(10) == 0 {
			x.Value = pick(1000) - 500
		}
		return call{kind: do, x: x}
	case 5:
		return call{kind: finish}
	}
	return call{kind: take, m: pickedMessage(u, r, line, pick)}
}

// helpful is what some miss waits for, or an answer to what was evicted, or else a line that is asked for.
func helpful(u user, r *record, pick func(below int) int) call {
	if len(r.kept) > 0 && pick(4) == 0 {
		return call{kind: take, m: u.fromHome(api.PutAck, r.kept[pick(len(r.kept))].Line)}
	}
	if len(r.pending) == 0 {
		return call{kind: ask, a: near(u, r, pick), b: 1 + pick(2)}
	}
	p := r.pending[pick(len(r.pending))]
	w := words(u.c.Words, pick(50))
	switch {
	case p.owes:
		return call{kind: finish}
	case len(p.told) > 0:
		return call{kind: take, m: u.ack(p.line, u.other())}
	case p.kind == api.GetS:
		return call{kind: take, m: u.data(p.line, 1+pick(2), 0, w)}
	case r.there[p.line].state == api.Owned:
		return call{kind: take, m: u.grant(p.line, acksFor(u, r, p.line, pick))}
	}
	return call{kind: take, m: u.data(p.line, api.Modified, acksFor(u, r, p.line, pick), w)}
}

// gotOf is how many acks a line got so far.
func gotOf(r *record, line int) int {
	at := r.missAt(line)
	if at < 0 {
		return 0
	}
	return r.pending[at].acks
}

// acksFor are acks that a line may need: no fewer than it got.
func acksFor(u user, r *record, line int, pick func(below int) int) int {
	return min(gotOf(r, line)+pick(3), u.c.Cores-1)
}

// pickedMessage is a message to the cache; one in ten has a field that may be wrong.
func pickedMessage(u user, r *record, line int, pick func(below int) int) api.Message {
	who := pick(u.c.Cores)
	acks := acksFor(u, r, line, pick)
	brought := u.data(line, api.Modified, acks, words(u.c.Words, pick(50)))
	m := []api.Message{
		u.forward(api.FwdS, line, who, 0), u.forward(api.FwdM, line, who, acks), u.forward(api.Inv, line, who, 0), brought,
		u.data(line, 1+pick(2), 0, words(u.c.Words, pick(50))), u.grant(line, acks), u.ack(line, who), u.fromHome(api.PutAck, line),
	}[pick(8)]
	// Acks that are more than there are cores to send any would be waited for without end.
	if m.Kind == api.Ack && gotOf(r, line) >= min(3, u.c.Cores-1) {
		m = brought
	}
	if m.Kind == api.Data && pick(2) == 0 {
		m.From, m.Who = who, 1
	}
	if pick(10) == 0 {
		fields()[pick(len(fields()))](&m, pick(14)-1)
	}
	return m
}

// outcome is what a call, or a message, of some kind told: a message, an error, or neither.
type outcome struct {
	call, message int
	sends         bool
	err           api.Errno
}

// outcomes are all that there are of calls that may be: each must come of long runs.
func outcomes() []outcome {
	l := []outcome{
		{call: ask, sends: true}, {call: ask, err: api.ErrArg}, {call: ask, err: api.ErrTwice}, {call: ask, err: api.ErrFull}, {call: ask, err: api.ErrName},
		{call: evict}, {call: evict, sends: true}, {call: evict, err: api.ErrName}, {call: evict, err: api.ErrTwice}, {call: evict, err: api.ErrFull},
		{call: finish}, {call: finish, sends: true},
		{call: do}, {call: do, err: api.ErrArg}, {call: do, err: api.ErrName},
	}
	for kind := api.FwdS; kind <= api.PutAck; kind++ {
		l = append(l,
			outcome{take, kind, kind <= api.Inv, api.OK},
			outcome{take, kind, false, api.ErrArg},
			outcome{take, kind, false, api.ErrTable})
	}
	return l
}

// P14.1 to P14.6: long runs of calls of all machines, wrong ones among them, as by the other way.
func TestLongRuns(t *testing.T) {
	count := map[outcome]int{}
	for i, c := range machines() {
		for _, help := range []int{1, 4, 10} {
			pick := picker(uint64(100*i + help))
			core := pick(c.Cores)
			u, r := made(t, c, core), recordOf(c, core)
			for step := range 3000 {
				k := picked(u, r, help, pick)
				got := u.wantDone(r, k)
				count[outcome{k.kind, k.m.Kind, got.sends, got.err}]++
				if step%(c.Sets*c.Ways) == 0 || step < 20 {
					u.wantRecord(r)
				}
			}
			u.wantRecord(r)
		}
	}
	for _, o := range outcomes() {
		if count[o] < 100 {
			t.Fatalf("%+v: %d times", o, count[o])
		}
	}
}

// P14.6: what is told to others, and home, are the last words that the line was given, by what came and what was done since; each kind of calls does something now and then.
func TestWhatIsToldIsTheLatest(t *testing.T) {
	c := sized(4, 2, 2, 2, 2, 16, 3, 2)
	pick := picker(5)
	u, r := made(t, c, 2), recordOf(c, 2)
	latest := map[int]api.Words{}
	count := map[int]int{}
	for range 40000 {
		k := picked(u, r, 6, pick)
		before := u.k.Misses()
		got := u.wantDone(r, k)
		if got.sends {
			count[got.m.Kind]++
		}
		if got.m.Kind == api.Put || got.m.Kind == api.Data {
			if got.m.Words != latest[got.m.Line] {
				t.Fatalf("%+v: %v, not %v", k, got.m.Words, latest[got.m.Line])
			}
		}
		if got.err == api.OK {
			follow(u, k, before, latest)
		}
	}
	for _, kind := range []int{api.GetS, api.GetM, api.Put, api.Data, api.Ack, api.Done} {
		if count[kind] < 100 {
			t.Fatalf("kind %d was sent %d times", kind, count[kind])
		}
	}
}

// follow keeps what words a line was given last: by a store or swap, or by the last of what a miss waited for.
func follow(u user, k call, before []mshr.Miss, latest map[int]api.Words) {
	switch {
	case k.kind == do && k.x.Kind != api.Load:
		line := k.x.Addr / u.c.Words
		w := latest[line]
		w[k.x.Addr%u.c.Words] = k.x.Value
		latest[line] = w
	case k.kind == take && k.m.Kind == api.FwdM:
		// It is here no more: a grant that comes of it yet grants no words.
		if w, there := u.k.Look(k.m.Line); there && w.State == api.Invalid {
			latest[k.m.Line] = api.Words{}
		}
	case k.kind == take:
		for at, m := range u.k.Misses() {
			if m.Owes && !before[at].Owes && !m.Granted {
				latest[m.Line] = m.Words
			}
		}
	}
}

// P14.1, R3: what Misses and Written hand out shares nothing with the cache, nor with what they hand out again.
func TestListsShareNothing(t *testing.T) {
	u := crowded(t)
	before := u.view()
	u.steady(func() {
		misses, written := u.k.Misses(), u.k.Written()
		misses, written = misses[:cap(misses)], written[:cap(written)]
		for i := range misses {
			misses[i] = mshr.Miss{Line: -7, Kind: 9, Owes: true}
		}
		for i := range written {
			written[i] = writeback.Entry{Line: -7, Live: true}
		}
		_ = append(u.k.Misses()[:1], mshr.Miss{Line: 9})
		_ = append(u.k.Written()[:1], writeback.Entry{Line: 9})
	})
	kept := u.view()
	u.takes(u.ack(3, 0), u.ack(3, 3), u.fromHome(api.PutAck, 20))
	u.finishes(3)
	u.asks(9, api.GetS)
	if !kept.is(before) {
		t.Fatalf("%+v, not %+v", kept, before)
	}
}

// P14.1, R3: what Look, Way and the calls that send something hand out shares nothing with the cache.
func TestWaysAndMessagesShareNothing(t *testing.T) {
	u := simple(t)
	u.brings(4, api.Modified, words(4, 2))
	looked, _ := u.k.Look(4)
	way, _ := u.k.Way(0, 0)
	looked.State, looked.Line, looked.Words[0], looked.Locked = 1, 6, -1, true
	way.State, way.Line, way.Words[1], way.Locked = 2, 8, -2, true
	u.has(4, api.Modified, words(4, 2), false)
	sent, _, _ := u.k.Take(u.forward(api.FwdS, 4, 0, 0))
	sent.Words[0] = -3
	u.has(4, api.Owned, words(4, 2), false)
	sent, _, _ = u.k.Evict(0, 0)
	sent.Words[2] = -4
	u.written(entry(4, words(4, 2), true))
	m := u.data(6, api.Shared, 0, words(4, 6))
	u.asks(6, api.GetS)
	u.takes(m)
	m.Words[3] = -5
	u.has(6, api.Shared, words(4, 6), true)
}

// P14.1, R5: two caches share nothing, of one machine, of one core or two.
func TestTwoCachesShareNothing(t *testing.T) {
	for _, c := range machines() {
		pick := picker(3)
		first, second := made(t, c, 0), made(t, c, c.Cores-1)
		r, s := recordOf(c, 0), recordOf(c, c.Cores-1)
		for range 500 {
			first.wantDone(r, picked(first, r, 6, pick))
			second.wantDone(s, picked(second, s, 6, pick))
		}
		first.wantRecord(r)
		second.wantRecord(s)
		made(t, c, 0).wantRecord(recordOf(c, 0))
	}
}

// R4: the same calls answer the same.
func TestSameCallsAnswerTheSame(t *testing.T) {
	c := example()
	var first view
	for round := range 3 {
		pick := picker(11)
		u, r := made(t, c, 1), recordOf(c, 1)
		for range 800 {
			u.wantDone(r, picked(u, r, 6, pick))
		}
		if round == 0 {
			first = u.view()
		}
		if !u.view().is(first) {
			t.Fatalf("%+v, not %+v", u.view(), first)
		}
	}
}
