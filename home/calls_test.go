package home_test

import (
	"fmt"
	"maps"
	"math"
	"slices"
	"strings"
	"testing"

	"mesne/api"
	"mesne/message"
	"mesne/queue"
	"mesne/table"
)

// record is a home by another way: which requests were started, of each line, and which are here; what is known of a line is worked out of the former whenever it is asked.
type record struct {
	host
	began   map[int][]api.Message
	here    []queue.Entry
	strange int
}

func blank(x host) *record { return &record{host: x, began: map[int][]api.Message{}} }

func (r *record) own(line int) bool {
	return 0 <= line && line < r.c.Lines && line%r.c.Homes == r.number
}

// fold works out what a line's requests made of it: its entry, and its words, which are those of the last Put of its owner.
func (r *record) fold(line int) (table.Entry, api.Words) {
	e, w := r.known(-1), api.Words{}
	for _, m := range r.began[line] {
		turn, err := table.Next(e, m, w)
		if err != api.OK {
			r.t.Fatalf("%+v: %d", m, err)
		}
		if m.Kind == api.Put && e.Owner == m.From {
			w = m.Words
		}
		e = turn.Entry
	}
	return e, w
}

func (r *record) accept(m api.Message) api.Errno {
	if !message.May(r.c, m) || m.Kind > 3 || m.To != r.number {
		return api.ErrArg
	}
	if len(r.here) >= r.c.Buffer {
		return api.ErrFull
	}
	r.here = append(r.here, queue.Entry{M: m})
	return api.OK
}

// answer is what Work tells.
type answer struct {
	m          api.Message
	sends, did bool
}

// isFirst tells whether no request ahead of a place is of its line.
func (r *record) isFirst(at int) bool {
	for _, e := range r.here[:at] {
		if e.M.Line == r.here[at].M.Line {
			return false
		}
	}
	return true
}

func (r *record) work(at int, left [3]int) answer {
	if at < 0 || at >= len(r.here) || !r.isFirst(at) {
		return answer{}
	}
	e := &r.here[at]
	if !e.Started {
		known, w := r.fold(e.M.Line)
		turn, err := table.Next(known, e.M, w)
		if err != api.OK {
			r.here = slices.Delete(r.here, at, at+1)
			r.strange++
			return answer{did: true}
		}
		e.Started, e.Sends = true, turn.Sent
		r.began[e.M.Line] = append(r.began[e.M.Line], e.M)
		return answer{did: true}
	}
	if len(e.Sends) == 0 || left[network(e.Sends[0].Kind)] < 1 {
		return answer{}
	}
	m := e.Sends[0]
	if e.Sends = e.Sends[1:]; e.M.Kind == api.Put {
		r.here = slices.Delete(r.here, at, at+1)
	}
	return answer{m: m, sends: true, did: true}
}

func (r *record) finish(m api.Message) api.Errno {
	if !message.May(r.c, m) || m.Kind != api.Done || m.To != r.number {
		return api.ErrArg
	}
	for at, e := range r.here {
		if e.M.Line == m.Line && e.M.From == m.From && e.Started && len(e.Sends) == 0 {
			r.here = slices.Delete(r.here, at, at+1)
			return api.OK
		}
	}
	return api.ErrTable
}

// recorded is what a home tells, by the record.
func (r *record) recorded() string {
	var b strings.Builder
	for line := -1; line <= r.c.Lines; line++ {
		var e table.Entry
		var w api.Words
		if r.own(line) {
			e, w = r.fold(line)
		}
		fmt.Fprintln(&b, line, e, r.own(line), w, r.own(line))
	}
	return b.String() + fmt.Sprintln(r.here, r.strange)
}

// same tells that the home is as its record, and has no more requests than there is room for.
func (r *record) same() {
	r.t.Helper()
	if now, want := r.view(), r.recorded(); now != want || len(r.h.Queue()) > r.c.Buffer {
		r.t.Fatalf("%s, not %s", now, want)
	}
}

// The kinds of calls.
const (
	accept = iota
	work
	finish
)

// call is one that may change a home.
type call struct {
	kind, at int
	left     [3]int
	m        api.Message
}

// does makes a call of the home, which answers as its record does; whether something was done is told.
func (r *record) does(k call) bool {
	r.t.Helper()
	switch k.kind {
	case accept:
		err := r.accept(k.m)
		if got := r.h.Accept(k.m); got != err {
			r.t.Fatalf("%+v: %d, not %d", k, got, err)
		}
		return err == api.OK
	case work:
		want := r.work(k.at, k.left)
		var got answer
		if got.m, got.sends, got.did = r.h.Work(k.at, k.left); got != want {
			r.t.Fatalf("%+v: %+v, not %+v", k, got, want)
		}
		return want.did
	}
	err := r.finish(k.m)
	if got := r.h.Done(k.m); got != err {
		r.t.Fatalf("%+v: %d, not %d", k, got, err)
	}
	return err == api.OK
}

// fewCalls are all that matter of a home of few lines, cores and requests.
func fewCalls(x host) []call {
	var l []call
	for line := range x.c.Lines {
		for core := range x.c.Cores {
			for _, kind := range kinds() {
				l = append(l, call{kind: accept, m: x.request(kind, line, core)})
			}
			l = append(l, call{kind: finish, m: x.done(line, core)})
		}
	}
	for at := range x.c.Buffer {
		l = append(l, call{kind: work, at: at}, call{kind: work, at: at, left: room(1, 1)}, call{kind: work, at: at, left: room(2, 1)})
	}
	return append(l, call{kind: work, at: x.c.Buffer, left: plenty()})
}

// run makes calls of a new home, as its record does.
func run(t *testing.T, c api.Config, calls []call) *record {
	t.Helper()
	r := blank(made(t, c, 0))
	for _, k := range calls {
		r.does(k)
	}
	return r
}

// state tells states of a home apart that go on in other ways: how many were odd doesn't count.
func (r *record) state() string {
	all := r.recorded()
	return all[:strings.LastIndex(all, " ")]
}

// eachState goes through all states of a small home, each with calls that lead to it, as few as may be; no more than so many.
func eachState(t *testing.T, c api.Config, most int, do func(calls []call)) {
	t.Helper()
	ways := [][]call{nil}
	seen := map[string]bool{run(t, c, nil).state(): true}
	for n := 0; n < len(ways) && n < most; n++ {
		do(ways[n])
		for _, k := range fewCalls(made(t, c, 0)) {
			next := append(slices.Clone(ways[n]), k)
			if s := run(t, c, next).state(); !seen[s] {
				seen[s] = true
				ways = append(ways, next)
			}
		}
	}
}

// P16.1, P16.2, P16.3, P16.4: each call in each state of small homes (of the last one, which has too many, in the first ones), as by the other way; what does nothing changes nothing.
func TestAllSmallStates(t *testing.T) {
	for _, x := range []struct {
		c    api.Config
		most int
	}{
		{sized(1, 1, 0, 1, 1, 2), math.MaxInt},
		{sized(2, 1, 0, 1, 1, 1), math.MaxInt},
		{sized(2, 1, 1, 1, 1, 2), math.MaxInt},
		{sized(3, 1, 1, 1, 1, 1), math.MaxInt},
		{sized(2, 1, 1, 1, 2, 2), 800},
	} {
		calls := fewCalls(made(t, x.c, 0))
		eachState(t, x.c, x.most, func(ahead []call) {
			for _, k := range calls {
				r := run(t, x.c, ahead)
				before := r.view()
				did := r.does(k)
				r.same()
				if now := r.view(); did == (now == before) {
					t.Fatalf("%+v: %+v: %v: %s", ahead, k, did, now)
				}
			}
		})
	}
}

// served goes through all runs of so many requests, each of which is served whole.
func served(x host, l []api.Message, count int, do func(l []api.Message)) {
	do(l)
	if count == 0 {
		return
	}
	for core := range x.c.Cores {
		for _, kind := range kinds() {
			served(x, append(slices.Clone(l), x.request(kind, 0, core)), count-1, do)
		}
	}
}

// P16.4: what a line is behind all short runs of requests, each of which is served whole.
func TestAllServed(t *testing.T) {
	for _, c := range []api.Config{sized(2, 1, 0, 2, 1, 1), sized(3, 1, 1, 1, 1, 1), sized(3, 1, 8, 1, 1, 1)} {
		served(made(t, c, 0), nil, 4, func(l []api.Message) {
			r := blank(made(t, c, 0))
			for _, m := range l {
				r.serve(m)
			}
			r.same()
		})
	}
}

// serve serves a request, which nothing is ahead of.
func (r *record) serve(m api.Message) {
	r.t.Helper()
	r.does(call{kind: accept, m: m})
	for r.does(call{kind: work, left: plenty()}) {
	}
	r.does(call{kind: finish, m: r.done(m.Line, m.From)})
}

// picker hands out numbers below others, the same ones each time.
func picker(seed uint64) func(below int) int {
	return func(below int) int {
		seed = seed*6364136223846793005 + 1442695040888963407
		return int((seed >> 33) % uint64(below))
	}
}

// few is one of the first so many lines of the home.
func (r *record) few(count int, pick func(below int) int) int {
	return r.number + r.c.Homes*pick(min(count, (r.c.Lines-r.number+r.c.Homes-1)/r.c.Homes))
}

// place is that of a request; the first ones come more often, since more can be done for them.
func (r *record) place(pick func(below int) int) int { return pick(1 + pick(len(r.here))) }

// picked is a call that may be wrong. Of the home's lines the first few are picked, so that several requests meet.
func (r *record) picked(pick func(below int) int) call {
	line := r.few(4, pick)
	if pick(20) == 0 {
		line = pick(r.c.Lines+2) - 1
	}
	left := [3]int{pick(3) - 1, pick(4) - 1, pick(4) - 1}
	switch pick(6) {
	case 0:
		return call{kind: accept, m: r.wrong(r.request(kinds()[pick(3)], line, pick(min(r.c.Cores, 12))), pick)}
	case 1:
		return call{kind: accept, m: r.wrong(r.put(line, pick(min(r.c.Cores, 12)), r.any(pick(1000))), pick)}
	case 2, 3:
		return call{kind: finish, m: r.wrong(r.finished(line, pick), pick)}
	}
	if len(r.here) > 0 && pick(4) > 0 {
		return call{kind: work, at: r.place(pick), left: left}
	}
	return call{kind: work, at: pick(r.c.Buffer+2) - 1, left: left}
}

// finished is a Done, often one that is due.
func (r *record) finished(line int, pick func(below int) int) api.Message {
	if len(r.here) > 0 && pick(4) > 0 {
		e := r.here[r.place(pick)]
		return r.done(e.M.Line, e.M.From)
	}
	return r.done(line, pick(r.c.Cores))
}

// wrong lets a message be wrong, now and then.
func (r *record) wrong(m api.Message, pick func(below int) int) api.Message {
	if pick(12) == 0 {
		set := fields()[pick(len(fields()))]
		set(&m, pick(14)-1)
	}
	return m
}

// owner is a request of who owns a line: else few would be of the owner, where cores are many.
func (r *record) owner(pick func(below int) int) call {
	line := r.few(2, pick)
	e, _ := r.h.Entry(line)
	if pick(3) == 0 {
		return call{kind: accept, m: r.ask(api.GetS, line, max(e.Owner, 0))}
	}
	return call{kind: accept, m: r.put(line, max(e.Owner, 0), r.any(pick(1000)))}
}

// P16.1, P16.2, P16.3, P16.4: long runs of calls, wrong ones among them, of machines of all kinds, as by the other way.
func TestLongRuns(t *testing.T) {
	strange := 0
	for seed, c := range machines() {
		for _, number := range slices.Compact([]int{0, min(c.Homes, c.Lines) - 1}) {
			c.Lines = min(c.Lines, 64)
			r, pick := blank(made(t, c, number)), picker(uint64(100*seed+number))
			count, most := map[int]int{}, 0
			for step := range 10000 {
				k := r.picked(pick)
				if pick(15) == 0 {
					k = r.owner(pick)
				}
				if r.does(k) {
					count[k.kind]++
				}
				if step%25 == 0 {
					r.same()
				}
				most = max(most, len(r.here))
			}
			r.same()
			if slices.Min(slices.Collect(maps.Values(count))) < 10 || len(count) < 3 || most < c.Buffer {
				t.Fatalf("%+v: %v, at most %d", c, count, most)
			}
			strange += r.strange
		}
	}
	if strange < 100 {
		t.Fatalf("%d odd", strange)
	}
}

// P16.4: whatever is done for a request of one line, the entries and words of all other lines, and their requests, are as they were.
func TestOthersStay(t *testing.T) {
	r, pick := blank(made(t, sized(3, 2, 1, 2, 8, 6), 1)), picker(7)
	others := func(line int) string {
		var b strings.Builder
		for other := range r.c.Lines {
			if other != line {
				b.WriteString(r.line(other))
			}
		}
		l := slices.DeleteFunc(r.h.Queue(), func(e queue.Entry) bool { return e.M.Line == line })
		return b.String() + fmt.Sprintln(l)
	}
	for range 5000 {
		k := r.picked(pick)
		line := k.m.Line
		if k.kind == work && 0 <= k.at && k.at < len(r.here) {
			line = r.here[k.at].M.Line
		}
		before := others(line)
		r.does(k)
		if now := others(line); now != before {
			t.Fatalf("%+v: %s, not %s", k, now, before)
		}
	}
}

// crowd is a home that knows sharers, and has requests with messages still to be sent.
func crowd(t *testing.T) host {
	t.Helper()
	x := made(t, sized(8, 1, 4, 2, 8, 4), 0)
	for line := range 4 {
		for core := range 4 {
			x.serves(x.ask(api.GetS, line, (2*core+line)%8))
		}
	}
	x.accepts(x.ask(api.GetM, 0, 7), x.ask(api.GetM, 1, 1), x.ask(api.GetS, 2, 7), x.ask(api.GetM, 1, 6))
	x.starts(0)
	x.starts(1)
	x.works(1, plenty(), x.grant(1, 1, 3), true, true)
	return x
}

// blot writes over a list, and over what there is room for behind it.
func blot[T any](l []T, over T) {
	l = l[:cap(l)]
	for i := range l {
		l[i] = over
	}
}

// P16.1, R3: who changes what Entry told, or what lies behind it, or appends to it, changes no home, and no other answer.
func TestEntryShares(t *testing.T) {
	for line := range 4 {
		x := crowd(t)
		x.steady(func() {
			kept, _ := x.h.Entry(line)
			want := slices.Clone(kept.Sharers.Pointers)
			e, _ := x.h.Entry(line)
			_ = append(e.Sharers.Pointers, 7)
			_ = append(e.Sharers.Pointers[:0], 6)
			blot(e.Sharers.Pointers, -5)
			if !slices.Equal(kept.Sharers.Pointers, want) {
				t.Fatalf("%v, not %v", kept.Sharers.Pointers, want)
			}
		})
	}
}

// P16.1, R3: who changes what Queue told, also what is still to be sent, or appends to it, changes no home, and no other answer.
func TestQueueShares(t *testing.T) {
	x := crowd(t)
	x.steady(func() {
		kept, want := x.h.Queue(), fmt.Sprint(x.h.Queue())
		l := x.h.Queue()
		_ = append(l, waits(api.Message{Kind: -5}))
		_ = append(l[:1], waits(api.Message{Kind: -5}))
		for _, e := range l {
			_ = append(e.Sends, api.Message{Kind: -6})
			_ = append(e.Sends[:0], api.Message{Kind: -6})
			blot(e.Sends, api.Message{Kind: -7})
		}
		blot(l, waits(api.Message{Kind: -8}))
		if now := fmt.Sprint(kept); now != want {
			t.Fatalf("%s, not %s", now, want)
		}
	})
}

// P16.1, R3: one list that Queue told is changed, and the others of that answer stay.
func TestListsOfOneAnswer(t *testing.T) {
	x := crowd(t)
	want := x.h.Queue()
	for at := range want {
		l := x.h.Queue()
		blot(l[at].Sends, api.Message{Kind: -7})
		for other, e := range l {
			if other != at && !sameRequest(e, want[other]) {
				t.Fatalf("%d: %+v, not %+v", at, e, want[other])
			}
		}
	}
}

// P16.1, R3: what was told stays, whatever the home does then.
func TestHomeChangesNoAnswer(t *testing.T) {
	r, pick := blank(made(t, sized(6, 1, 4, 2, 8, 6), 0)), picker(3)
	type told struct {
		entry    table.Entry
		requests []queue.Entry
		asRead   string
	}
	var all []told
	for step := range 1500 {
		r.does(r.picked(pick))
		e, _ := r.h.Entry(step % 3)
		l := r.h.Queue()
		all = append(all, told{entry: e, requests: l, asRead: fmt.Sprint(e, l)})
	}
	for step, a := range all {
		if now := fmt.Sprint(a.entry, a.requests); now != a.asRead {
			t.Fatalf("%d: %s, not %s", step, now, a.asRead)
		}
	}
}

// R5: homes share nothing: not two of one number, nor two of one machine, nor those of other sizes.
func TestHomesShareNothing(t *testing.T) {
	c := sized(3, 2, 1, 2, 8, 3)
	var l []*record
	for _, number := range []int{0, 0, 1, 1} {
		l = append(l, blank(made(t, c, number)))
	}
	l = append(l, blank(made(t, example(), 1)), blank(made(t, sized(3, 1, 1, 2, 8, 3), 0)))
	pick := picker(9)
	for range 3000 {
		r := l[pick(len(l))]
		r.does(r.picked(pick))
		if pick(10) == 0 {
			for _, other := range l {
				other.same()
			}
		}
	}
	blank(made(t, c, 0)).same()
}

// R4: the same calls answer the same.
func TestSameCallsAnswerTheSame(t *testing.T) {
	var first string
	for round := range 3 {
		r, pick := blank(made(t, example(), 1)), picker(11)
		var b strings.Builder
		for range 800 {
			k := r.picked(pick)
			b.WriteString(fmt.Sprintln(k, r.does(k), r.view()))
		}
		if round == 0 {
			first = b.String()
		}
		if b.String() != first {
			t.Fatalf("round %d", round)
		}
	}
}

// P16.1, P16.2, P16.3: whatever is asked, nothing that is only asked changes a home.
func TestAskingChangesNothing(t *testing.T) {
	r, pick := blank(made(t, example(), 1)), picker(13)
	for range 600 {
		r.does(r.picked(pick))
		r.steady(func() {
			for line := -1; line < 17; line++ {
				r.h.Entry(line)
				r.h.Line(line)
			}
			r.h.Queue()
			r.h.Odd()
		})
	}
}
