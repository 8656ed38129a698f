package table_test

import (
	"math/bits"
	"slices"
	"testing"

	"mesne/api"
	"mesne/sharer"
	"mesne/table"
)

// record is an entry by another way: a bit for each core that a pointer tells.
type record struct {
	cores, most, owner int
	told               uint64
	all                bool
}

// recordOf is what a record has of an entry.
func recordOf(e table.Entry) record {
	r := record{cores: e.Sharers.Cores, most: e.Sharers.Most, owner: e.Owner, all: e.Sharers.All}
	for _, core := range e.Sharers.Pointers {
		r.told |= 1 << core
	}
	return r
}

// entry is the entry of which it is the record.
func (r record) entry() table.Entry {
	e := owned(r.owner, sharer.Set{Cores: r.cores, Most: r.most, All: r.all})
	for core := range r.cores {
		if r.told>>core&1 == 1 {
			e.Sharers.Pointers = append(e.Sharers.Pointers, core)
		}
	}
	return e
}

func (r record) shares(core int) bool { return r.all || r.told>>core&1 == 1 }

// add lets a core share, too.
func (r *record) add(core int) {
	if r.all {
		return
	}
	if r.told |= 1 << core; bits.OnesCount64(r.told) > r.most {
		r.told, r.all = 0, true
	}
}

// hears is what one core hears of a request by which another one, or itself, is to write: its kind, or 0.
func (r record) hears(core, who int) int {
	switch {
	case core == who && r.owner == who:
		return api.Grant
	case core == who && r.owner < 0:
		return api.Data
	case core == who:
		return 0
	case core == r.owner:
		return api.FwdM
	case r.shares(core):
		return api.Inv
	}
	return 0
}

// write goes from core to core, asking what each one hears.
func (r *record) write(m api.Message, words api.Words) []api.Message {
	var first, later []api.Message
	for core := range r.cores {
		sent := api.Message{Kind: r.hears(core, m.From), Line: m.Line, From: m.To, To: core}
		switch sent.Kind {
		case api.Inv:
			sent.Who = m.From
			later = append(later, sent)
		case api.FwdM:
			sent.Who = m.From
			first = append(first, sent)
		case api.Data:
			sent.Own, sent.Words = api.Modified, words
			first = append(first, sent)
		case api.Grant:
			first = append(first, sent)
		}
	}
	for i := range first {
		first[i].Acks = len(later)
	}
	*r = record{cores: r.cores, most: r.most, owner: m.From}
	return append(first, later...)
}

// read tells what is sent to, or on account of, who is to read.
func (r *record) read(m api.Message, words api.Words) []api.Message {
	sent := api.Message{Kind: api.Data, Line: m.Line, From: m.To, To: m.From, Own: api.Shared, Words: words}
	switch {
	case r.owner >= 0:
		sent = api.Message{Kind: api.FwdS, Line: m.Line, From: m.To, To: r.owner, Who: m.From}
		r.add(m.From)
	case r.all || r.told != 0:
		r.add(m.From)
	default:
		sent.Own = api.Exclusive
		r.owner = m.From
	}
	return []api.Message{sent}
}

// next tells what comes of a request, and has the entry then.
func (r *record) next(m api.Message, words api.Words) (table.Turn, api.Errno) {
	var want table.Turn
	switch m.Kind {
	case api.GetS:
		if r.owner == m.From {
			return table.Turn{}, api.ErrTable
		}
		want.Sent = r.read(m, words)
	case api.GetM:
		want.Sent = r.write(m, words)
	case api.Put:
		if want.Write = r.owner == m.From; want.Write {
			r.owner = -1
		}
		want.Sent = []api.Message{{Kind: api.PutAck, Line: m.Line, From: m.To, To: m.From}}
	}
	want.Entry = r.entry()
	return want, api.OK
}

// wantNext makes a call, which answers as the record does.
func wantNext(t *testing.T, e table.Entry, r *record, m api.Message, words api.Words) {
	t.Helper()
	want, err := r.next(m, words)
	if err != api.OK {
		wantRefused(t, e, m, err)
		return
	}
	wantTurn(t, e, m, words, want)
}

// smallEntries are all entries of so many cores and pointers.
func smallEntries(cores, most int) []table.Entry {
	var l []table.Entry
	for owner := -1; owner < cores; owner++ {
		l = append(l, record{cores: cores, most: most, owner: owner, all: true}.entry())
		for told := range uint64(1) << cores {
			if bits.OnesCount64(told) <= most {
				l = append(l, record{cores: cores, most: most, owner: owner, told: told}.entry())
			}
		}
	}
	return l
}

// eachTurn goes through what comes of each request at each small entry, and at some great ones.
func eachTurn(t *testing.T, do func(e table.Entry, m api.Message, got table.Turn)) {
	t.Helper()
	var l []table.Entry
	for cores := 1; cores <= 4; cores++ {
		for most := range 4 {
			l = append(l, smallEntries(cores, most)...)
		}
	}
	for _, s := range shares(64) {
		for _, owner := range []int{-1, 0, 1, 31, 63} {
			l = append(l, owned(owner, s))
		}
	}
	for _, e := range l {
		for _, kind := range requests() {
			for r := range e.Sharers.Cores {
				if got, err := table.Next(e, ask(kind, r), crowd(1)); err == api.OK {
					do(e, ask(kind, r), got)
				}
			}
		}
	}
}

// P13.1, P13.2: all requests at all entries of few cores, as by the other way.
func TestAllSmallEntries(t *testing.T) {
	for cores := 1; cores <= 5; cores++ {
		for most := range 7 {
			for _, e := range smallEntries(cores, most) {
				wantMay(t, e, true)
				for _, kind := range requests() {
					for r := range cores {
						record := recordOf(e)
						wantNext(t, e, &record, ask(kind, r), crowd(r))
					}
				}
			}
		}
	}
}

// picker hands out numbers below others, the same ones each time.
func picker(seed uint64) func(below int) int {
	return func(below int) int {
		seed = seed*6364136223846793005 + 1442695040888963407
		return int((seed >> 33) % uint64(below))
	}
}

// picked is a request of some core; one in eight isn't a request, or isn't of a core.
func picked(cores int, pick func(below int) int) api.Message {
	m := api.Message{Kind: requests()[pick(3)], Line: pick(1024), From: pick(cores), To: pick(16), Words: crowd(pick(9))}
	// Reads come more often than the others: else lines had few sharers.
	if pick(2) == 0 {
		m.Kind = api.GetS
	}
	switch pick(16) {
	case 0:
		m.Kind = wrongKinds()[pick(len(wrongKinds()))]
	case 1:
		m.From = outside(cores)[pick(len(outside(cores)))]
	}
	return m
}

// isRequest tells whether something may come of a message.
func isRequest(m api.Message, cores int) bool {
	return api.GetS <= m.Kind && m.Kind <= api.Put && 0 <= m.From && m.From < cores
}

// P13.1, P13.2, P13.3: long runs of requests, from a new entry on, of sizes of all kinds, as by the other way.
func TestLongRuns(t *testing.T) {
	for _, cores := range few() {
		for most := range 9 {
			pick := picker(uint64(100*cores + most))
			e, _ := table.New(cores, most)
			record := recordOf(e)
			for range 400 {
				m, words := picked(cores, pick), crowd(pick(9))
				if !isRequest(m, cores) {
					wantRefused(t, e, m, api.ErrArg)
					continue
				}
				wantNext(t, e, &record, m, words)
				if next, err := table.Next(e, m, words); err == api.OK {
					e = next.Entry
				}
				if e.Owner >= 0 && !e.Sharers.All && sharer.Has(e.Sharers, e.Owner) {
					t.Fatalf("%+v: who owns it shares it", e)
				}
			}
		}
	}
}

// blot writes over a list, and over what there is room for behind it.
func blot[T any](l []T, over T) {
	l = l[:cap(l)]
	for i := range l {
		l[i] = over
	}
}

// spoil writes over all lists of a turn.
func spoil(x table.Turn) {
	blot(x.Entry.Sharers.Pointers, -5)
	blot(x.Sent, api.Message{Kind: -5})
}

// copyOf is the same turn, with lists of its own.
func copyOf(x table.Turn) table.Turn {
	x.Entry.Sharers.Pointers = slices.Clone(x.Entry.Sharers.Pointers)
	x.Sent = slices.Clone(x.Sent)
	return x
}

// roomy is an entry whose list of pointers has room behind them, and that whole list.
func roomy(e table.Entry) (table.Entry, []int) {
	whole := slices.Repeat([]int{-77}, 12)
	copy(whole, e.Sharers.Pointers)
	e.Sharers.Pointers = whole[:len(e.Sharers.Pointers)]
	return e, whole
}

// P13.2, R3: the entry that is handed in stays as it was, what lies behind its pointers too; and the turn shares nothing with it.
func TestNextSharesNothing(t *testing.T) {
	for _, ahead := range smallEntries(4, 3) {
		for _, kind := range requests() {
			for r := range 4 {
				e, whole := roomy(ahead)
				before := slices.Clone(whole)
				got, _ := table.Next(e, ask(kind, r), crowd(1))
				if !slices.Equal(whole, before) || !sameEntry(e, ahead) {
					t.Fatalf("%+v: kind %d of %d: %+v, %v", ahead, kind, r, e, whole)
				}
				want := copyOf(got)
				blot(whole, 99)
				if !sameTurn(got, want) {
					t.Fatalf("%+v: kind %d of %d: %+v, not %+v", ahead, kind, r, got, want)
				}
				spoil(got)
				if slices.ContainsFunc(whole, func(n int) bool { return n != 99 }) {
					t.Fatalf("%+v: kind %d of %d: %v", ahead, kind, r, whole)
				}
			}
		}
	}
}

// P13.1, R3: May changes no entry, and a new one's list is its own.
func TestNewAndMayShareNothing(t *testing.T) {
	for _, ahead := range append(smallEntries(4, 3), owned(1, of(4, 3, 2, 1)), owned(9, of(4, 1, 1, 2))) {
		e, whole := roomy(ahead)
		before := slices.Clone(whole)
		if table.May(e); !slices.Equal(whole, before) {
			t.Fatalf("%+v: %v", ahead, whole)
		}
	}
	e, _ := table.New(4, 3)
	blot(e.Sharers.Pointers, -5)
	if again, err := table.New(4, 3); err != api.OK || !sameEntry(again, owned(-1, of(4, 3))) {
		t.Fatalf("%+v, %d", again, err)
	}
}

// P13.2, R3, R4, R5: the same call answers the same, whatever was asked meanwhile and done with the answers; two answers share nothing.
func TestSameCallsSameAnswers(t *testing.T) {
	entries := smallEntries(3, 2)
	answer := func(i int) (table.Turn, api.Errno) {
		return table.Next(entries[i/9], ask(requests()[i/3%3], i%3), crowd(i))
	}
	var turns []table.Turn
	for i := range 9 * len(entries) {
		got, _ := answer(i)
		turns = append(turns, copyOf(got))
		spoil(got)
	}
	for i, want := range slices.Backward(turns) {
		got, first := answer(i)
		other, second := answer(i)
		spoil(other)
		if first != second || !sameTurn(got, want) {
			t.Fatalf("%d: %+v, not %+v", i, got, want)
		}
	}
}
