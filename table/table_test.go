package table_test

import (
	"slices"
	"testing"

	"mesne/api"
	"mesne/message"
	"mesne/sharer"
	"mesne/split"
	"mesne/table"
)

// of is a set with these pointers.
func of(cores, most int, pointers ...int) sharer.Set {
	return sharer.Set{Cores: cores, Most: most, Pointers: pointers}
}

// all is a set of which each core may be one.
func all(cores, most int) sharer.Set {
	return sharer.Set{Cores: cores, Most: most, All: true}
}

// owned is an entry of that owner, or, of -1, of none.
func owned(owner int, s sharer.Set) table.Entry {
	return table.Entry{Owner: owner, Sharers: s}
}

// crowd are words that differ from each other, and from those of another seed.
func crowd(seed int) api.Words {
	var w api.Words
	for i := range w {
		w[i] = 1000*seed + 10*i + 1
	}
	return w
}

// ask is a request of line 11, to home 3.
func ask(kind, from int) api.Message {
	return api.Message{Kind: kind, Line: 11, From: from, To: 3}
}

// evict is a Put of line 11, to home 3, with words that are not the memory's.
func evict(from int) api.Message {
	m := ask(api.Put, from)
	m.Words = crowd(7)
	return m
}

// What a home sends for the requests above.
func data(to, own, acks int, words api.Words) api.Message {
	return api.Message{Kind: api.Data, Line: 11, From: 3, To: to, Acks: acks, Own: own, Words: words}
}

func fwdS(to, who int) api.Message {
	return api.Message{Kind: api.FwdS, Line: 11, From: 3, To: to, Who: who}
}

func fwdM(to, who, acks int) api.Message {
	return api.Message{Kind: api.FwdM, Line: 11, From: 3, To: to, Who: who, Acks: acks}
}

func grant(to, acks int) api.Message {
	return api.Message{Kind: api.Grant, Line: 11, From: 3, To: to, Acks: acks}
}

func putAck(to int) api.Message {
	return api.Message{Kind: api.PutAck, Line: 11, From: 3, To: to}
}

// invs are those to each of these cores.
func invs(who int, to ...int) []api.Message {
	var l []api.Message
	for _, core := range to {
		l = append(l, api.Message{Kind: api.Inv, Line: 11, From: 3, To: core, Who: who})
	}
	return l
}

// turn is one of these messages, after which the entry is e.
func turn(e table.Entry, sent ...api.Message) table.Turn {
	return table.Turn{Entry: e, Sent: sent}
}

func sameSet(a, b sharer.Set) bool {
	return a.Cores == b.Cores && a.Most == b.Most && a.All == b.All && slices.Equal(a.Pointers, b.Pointers)
}

func sameEntry(a, b table.Entry) bool { return a.Owner == b.Owner && sameSet(a.Sharers, b.Sharers) }

func sameTurn(a, b table.Turn) bool {
	return sameEntry(a.Entry, b.Entry) && slices.Equal(a.Sent, b.Sent) && a.Write == b.Write
}

// wantTurn tells what comes of a request where the memory has these words; the turn's entry may be.
func wantTurn(t *testing.T, e table.Entry, m api.Message, words api.Words, want table.Turn) {
	t.Helper()
	got, err := table.Next(e, m, words)
	if err != api.OK || !sameTurn(got, want) {
		t.Fatalf("%+v: Next %+v: %+v, %d, not %+v", e, m, got, err, want)
	}
	if !table.May(got.Entry) {
		t.Fatalf("%+v: Next %+v: %+v may not be", e, m, got.Entry)
	}
}

// wantRefused tells that nothing comes of a request.
func wantRefused(t *testing.T, e table.Entry, m api.Message, want api.Errno) {
	t.Helper()
	for _, words := range []api.Words{{}, crowd(5)} {
		got, err := table.Next(e, m, words)
		if err != want || got.Write || len(got.Sent) > 0 || !sameEntry(got.Entry, table.Entry{}) {
			t.Fatalf("%+v: Next %+v: %+v, %d, not %d", e, m, got, err, want)
		}
	}
}

func wantMay(t *testing.T, e table.Entry, want bool) {
	t.Helper()
	if got := table.May(e); got != want {
		t.Fatalf("May %+v: %v", e, got)
	}
}

// upTo are the numbers from one on, below another one.
func upTo(from, to int) []int {
	var l []int
	for n := from; n < to; n++ {
		l = append(l, n)
	}
	return l
}

// but are numbers without some.
func but(l []int, left ...int) []int {
	return slices.DeleteFunc(slices.Clone(l), func(n int) bool { return slices.Contains(left, n) })
}

// few are counts of cores: the least, the most, and some between.
func few() []int { return []int{1, 2, 3, 4, 5, 8, 17, 63, 64} }

// P13.1: a new entry has no owner and no sharers, of each size that may be.
func TestNew(t *testing.T) {
	for cores := 1; cores <= 64; cores++ {
		for pointers := 0; pointers <= 8; pointers++ {
			e, err := table.New(cores, pointers)
			if err != api.OK || !sameEntry(e, owned(-1, of(cores, pointers))) {
				t.Fatalf("New %d, %d: %+v, %d", cores, pointers, e, err)
			}
			wantMay(t, e, true)
		}
	}
}

// P13.1: an entry may be with each core as its owner, or none, whoever may share.
func TestMayOfOwners(t *testing.T) {
	for _, cores := range few() {
		for _, s := range []sharer.Set{of(cores, 0), of(cores, 8), of(cores, 1, cores-1), of(cores, 8, 0), all(cores, 0), all(cores, 8)} {
			for owner := -1; owner < cores; owner++ {
				wantMay(t, owned(owner, s), true)
			}
		}
	}
}

// P13.2: the chapter's example: 2 owns a line, 0 and 1 share it, and 1 is to write it.
func TestExample(t *testing.T) {
	e := owned(2, of(3, 2, 0, 1))
	m := api.Message{Kind: api.GetM, Line: 6, From: 1, To: 4}
	wantTurn(t, e, m, crowd(1), table.Turn{
		Entry: table.Entry{Owner: 1, Sharers: sharer.Set{Cores: 3, Most: 2}},
		Sent: []api.Message{
			{Kind: api.FwdM, Line: 6, From: 4, To: 2, Who: 1, Acks: 1},
			{Kind: api.Inv, Line: 6, From: 4, To: 0, Who: 1},
		},
	})
}

// P13.2: a line as it goes: read by one, by another, by a third one, written by that, by the first one, evicted by both.
func TestALineAsItGoes(t *testing.T) {
	e, _ := table.New(4, 2)
	steps := []struct {
		request api.Message
		owner   int
		sharers []int
		write   bool
		sent    []api.Message
	}{
		{ask(api.GetS, 1), 1, nil, false, []api.Message{data(1, api.Exclusive, 0, crowd(1))}},
		{ask(api.GetS, 3), 1, []int{3}, false, []api.Message{fwdS(1, 3)}},
		{ask(api.GetS, 2), 1, []int{2, 3}, false, []api.Message{fwdS(1, 2)}},
		{evict(3), 1, []int{2, 3}, false, []api.Message{putAck(3)}},
		{ask(api.GetM, 2), 2, nil, false, append([]api.Message{fwdM(1, 2, 1)}, invs(2, 3)...)},
		{ask(api.GetM, 2), 2, nil, false, []api.Message{grant(2, 0)}},
		{ask(api.GetM, 1), 1, nil, false, []api.Message{fwdM(2, 1, 0)}},
		{evict(2), 1, nil, false, []api.Message{putAck(2)}},
		{ask(api.GetS, 0), 1, []int{0}, false, []api.Message{fwdS(1, 0)}},
		{evict(1), -1, []int{0}, true, []api.Message{putAck(1)}},
		{ask(api.GetS, 1), -1, []int{0, 1}, false, []api.Message{data(1, api.Shared, 0, crowd(1))}},
		{ask(api.GetM, 0), 0, nil, false, append([]api.Message{data(0, api.Modified, 1, crowd(1))}, invs(0, 1)...)},
	}
	for _, x := range steps {
		want := turn(owned(x.owner, of(4, 2, x.sharers...)), x.sent...)
		want.Write = x.write
		wantTurn(t, e, x.request, crowd(1), want)
		next, _ := table.Next(e, x.request, crowd(1))
		e = next.Entry
	}
}

// P13.2: who reads a line that nobody owns and nobody may share has it Exclusive, and owns it.
func TestGetSOfAFreeLine(t *testing.T) {
	for _, cores := range few() {
		for _, most := range []int{0, 1, 8} {
			for r := range cores {
				wantTurn(t, owned(-1, of(cores, most)), ask(api.GetS, r), crowd(2),
					turn(owned(r, of(cores, most)), data(r, api.Exclusive, 0, crowd(2))))
			}
		}
	}
}

// P13.2: who reads a line that nobody owns, but some may share, is a sharer, too, who asked among them or not.
func TestGetSOfASharedLine(t *testing.T) {
	for _, x := range []struct {
		ahead sharer.Set
		r     int
		then  sharer.Set
	}{
		{of(4, 2, 1), 3, of(4, 2, 1, 3)},
		{of(4, 2, 1), 0, of(4, 2, 0, 1)},
		{of(4, 2, 1), 1, of(4, 2, 1)},
		{of(4, 1, 1), 1, of(4, 1, 1)},
		{of(4, 2, 0, 3), 3, of(4, 2, 0, 3)},
		{of(4, 2, 0, 3), 1, all(4, 2)},
		{of(4, 1, 2), 0, all(4, 1)},
		{all(4, 0), 0, all(4, 0)},
		{all(4, 2), 3, all(4, 2)},
		{of(1, 1, 0), 0, of(1, 1, 0)},
		{all(1, 0), 0, all(1, 0)},
		{of(64, 8, 0, 9, 18, 27, 36, 45, 54), 63, of(64, 8, 0, 9, 18, 27, 36, 45, 54, 63)},
		{of(64, 8, 0, 9, 18, 27, 36, 45, 54, 63), 54, of(64, 8, 0, 9, 18, 27, 36, 45, 54, 63)},
		{of(64, 8, 0, 9, 18, 27, 36, 45, 54, 63), 62, all(64, 8)},
		{all(64, 8), 63, all(64, 8)},
	} {
		wantTurn(t, owned(-1, x.ahead), ask(api.GetS, x.r), crowd(3),
			turn(owned(-1, x.then), data(x.r, api.Shared, 0, crowd(3))))
	}
}

// P13.2: of a line that another one owns, that one alone is told to send its words, and who asked is a sharer, too, also where there are not so many pointers.
func TestGetSOfAnOwnedLine(t *testing.T) {
	for _, x := range []struct {
		owner int
		ahead sharer.Set
		r     int
		then  sharer.Set
	}{
		{2, of(4, 2), 3, of(4, 2, 3)},
		{2, of(4, 2), 0, of(4, 2, 0)},
		{0, of(4, 2, 3), 1, of(4, 2, 1, 3)},
		{0, of(4, 2, 1, 3), 1, of(4, 2, 1, 3)},
		{0, of(4, 2, 1, 3), 2, all(4, 2)},
		{0, of(4, 2, 0), 2, of(4, 2, 0, 2)},
		{0, of(4, 2, 0, 2), 2, of(4, 2, 0, 2)},
		{3, of(4, 0), 1, all(4, 0)},
		{3, of(4, 1), 1, of(4, 1, 1)},
		{3, of(4, 1, 1), 2, all(4, 1)},
		{3, all(4, 1), 2, all(4, 1)},
		{0, of(2, 1), 1, of(2, 1, 1)},
		{63, of(64, 8, 1, 2, 3, 4, 5, 6, 7), 62, of(64, 8, 1, 2, 3, 4, 5, 6, 7, 62)},
		{0, of(64, 8, 1, 2, 3, 4, 5, 6, 7, 8), 63, all(64, 8)},
		{0, all(64, 0), 63, all(64, 0)},
	} {
		wantTurn(t, owned(x.owner, x.ahead), ask(api.GetS, x.r), crowd(3), turn(owned(x.owner, x.then), fwdS(x.owner, x.r)))
	}
}

// P13.2: there is no entry in the table for an owner who reads, whoever may share.
func TestGetSOfTheOwner(t *testing.T) {
	for _, cores := range few() {
		for _, s := range []sharer.Set{of(cores, 0), of(cores, 8), of(cores, 1, 0), of(cores, 8, cores-1), all(cores, 0), all(cores, 8)} {
			for owner := range cores {
				wantRefused(t, owned(owner, s), ask(api.GetS, owner), api.ErrTable)
			}
		}
	}
}

// shares are sets of which a line may be shared, each with who may.
func shares(cores int) map[int]sharer.Set {
	sets := map[int]sharer.Set{
		0: of(cores, 0), 1: of(cores, 1), 2: of(cores, 8), 3: of(cores, 1, 0), 4: of(cores, 1, cores-1), 5: of(cores, 8, cores/2),
		6: all(cores, 0), 7: all(cores, 1), 8: all(cores, 8), 9: of(cores, 8, upTo(0, min(cores, 8))...), 10: of(cores, 8, upTo(cores-min(cores, 8), cores)...),
	}
	if cores >= 4 {
		sets[11] = of(cores, 2, 1, cores-1)
		sets[12] = of(cores, 4, 0, 1, cores-2)
	}
	return sets
}

// who are those that may share.
func who(s sharer.Set) []int {
	if s.All {
		return upTo(0, s.Cores)
	}
	return s.Pointers
}

// P13.2: who writes a line that nobody owns has the memory's words; all who may share it, but who asked, are told to let it go, and counted; none is a sharer then.
func TestGetMOfALineWithoutOwner(t *testing.T) {
	for _, cores := range few() {
		for _, s := range shares(cores) {
			for r := range cores {
				others := but(who(s), r)
				sent := append([]api.Message{data(r, api.Modified, len(others), crowd(4))}, invs(r, others...)...)
				wantTurn(t, owned(-1, s), ask(api.GetM, r), crowd(4), turn(owned(r, of(cores, s.Most)), sent...))
			}
		}
	}
}

// P13.2: of a line that another one owns, that one is told to give its words; neither it nor who asked is told to let it go, or counted, also where they are sharers.
func TestGetMOfAnOwnedLine(t *testing.T) {
	for _, cores := range few() {
		for _, s := range shares(cores) {
			for _, owner := range []int{0, 1, cores / 2, cores - 1} {
				for r := range cores {
					if r == owner || owner >= cores {
						continue
					}
					others := but(who(s), r, owner)
					sent := append([]api.Message{fwdM(owner, r, len(others))}, invs(r, others...)...)
					wantTurn(t, owned(owner, s), ask(api.GetM, r), crowd(4), turn(owned(r, of(cores, s.Most)), sent...))
				}
			}
		}
	}
}

// P13.2: an owner who writes is granted it, with the acks of all who may share it; it is no sharer then, if it was one.
func TestGetMOfTheOwner(t *testing.T) {
	for _, cores := range few() {
		for _, s := range shares(cores) {
			for owner := range cores {
				others := but(who(s), owner)
				sent := append([]api.Message{grant(owner, len(others))}, invs(owner, others...)...)
				wantTurn(t, owned(owner, s), ask(api.GetM, owner), crowd(4), turn(owned(owner, of(cores, s.Most)), sent...))
			}
		}
	}
}

// P13.2: small entries with what each of them tells for GetM, number by number.
func TestGetMByNumbers(t *testing.T) {
	for _, x := range []struct {
		e    table.Entry
		r    int
		sent []api.Message
	}{
		{owned(-1, of(1, 0)), 0, []api.Message{data(0, api.Modified, 0, crowd(1))}},
		{owned(-1, all(1, 0)), 0, []api.Message{data(0, api.Modified, 0, crowd(1))}},
		{owned(0, all(1, 0)), 0, []api.Message{grant(0, 0)}},
		{owned(-1, of(4, 2, 1, 3)), 1, append([]api.Message{data(1, api.Modified, 1, crowd(1))}, invs(1, 3)...)},
		{owned(-1, of(4, 2, 1, 3)), 0, append([]api.Message{data(0, api.Modified, 2, crowd(1))}, invs(0, 1, 3)...)},
		{owned(-1, all(4, 2)), 2, append([]api.Message{data(2, api.Modified, 3, crowd(1))}, invs(2, 0, 1, 3)...)},
		{owned(3, all(4, 2)), 2, append([]api.Message{fwdM(3, 2, 2)}, invs(2, 0, 1)...)},
		{owned(3, of(4, 2, 2, 3)), 2, []api.Message{fwdM(3, 2, 0)}},
		{owned(3, of(4, 2, 0, 3)), 2, append([]api.Message{fwdM(3, 2, 1)}, invs(2, 0)...)},
		{owned(3, of(4, 2)), 2, []api.Message{fwdM(3, 2, 0)}},
		{owned(0, all(4, 2)), 0, append([]api.Message{grant(0, 3)}, invs(0, 1, 2, 3)...)},
		{owned(0, of(4, 2, 0, 1)), 0, append([]api.Message{grant(0, 1)}, invs(0, 1)...)},
		{owned(0, of(4, 2, 0)), 0, []api.Message{grant(0, 0)}},
	} {
		then := owned(x.r, of(x.e.Sharers.Cores, x.e.Sharers.Most))
		wantTurn(t, x.e, ask(api.GetM, x.r), crowd(1), turn(then, x.sent...))
	}
}

// P13.2: what the owner evicts is written to the memory, and nobody owns it then; the sharers stay.
func TestPutOfTheOwner(t *testing.T) {
	for _, cores := range few() {
		for _, s := range shares(cores) {
			for owner := range cores {
				want := turn(owned(-1, s), putAck(owner))
				want.Write = true
				wantTurn(t, owned(owner, s), evict(owner), crowd(4), want)
			}
		}
	}
}

// P13.2: what another one than the owner evicts, or one where there is no owner, changes nothing, and is answered.
func TestPutOfOthers(t *testing.T) {
	for _, cores := range few() {
		for _, s := range shares(cores) {
			for _, owner := range []int{-1, 0, 1, cores - 1} {
				for r := range cores {
					if r != owner && owner < cores {
						wantTurn(t, owned(owner, s), evict(r), crowd(4), turn(owned(owner, s), putAck(r)))
					}
				}
			}
		}
	}
}

// P13.2: what is sent is of the request's line, and from whom it went to, whatever numbers these are.
func TestLineAndHome(t *testing.T) {
	for _, line := range []int{0, 1, 1023, -1, 1 << 40} {
		for _, home := range []int{0, 1, 15, -1, 1 << 40} {
			for _, kind := range []int{api.GetS, api.GetM, api.Put} {
				for owner := -1; owner < 3; owner++ {
					m := api.Message{Kind: kind, Line: line, From: 1, To: home}
					got, err := table.Next(owned(owner, all(3, 1)), m, crowd(1))
					if kind == api.GetS && owner == 1 {
						continue
					}
					if err != api.OK || len(got.Sent) == 0 {
						t.Fatalf("%+v: %+v, %d", m, got, err)
					}
					for _, sent := range got.Sent {
						if sent.Line != line || sent.From != home {
							t.Fatalf("%+v: %+v", m, sent)
						}
					}
				}
			}
		}
	}
}

// P13.2: the rest of a request tells a home nothing: who asks for what is all.
func TestRestOfARequest(t *testing.T) {
	for _, e := range smallEntries(3, 2) {
		for _, kind := range []int{api.GetS, api.GetM, api.Put} {
			for r := range 3 {
				plain := ask(kind, r)
				odd := plain
				odd.Who, odd.Acks, odd.Own, odd.Words = 2, 9, api.Owned, crowd(8)
				want, first := table.Next(e, plain, crowd(1))
				got, second := table.Next(e, odd, crowd(1))
				if first != second || !sameTurn(want, got) {
					t.Fatalf("%+v: %+v: %+v, %d, not %+v, %d", e, odd, got, second, want, first)
				}
			}
		}
	}
}

// P13.2: the memory's words are sent as they are, whatever they are.
func TestWordsOfTheMemory(t *testing.T) {
	for _, w := range []api.Words{{}, {1}, {7: -1}, {1 << 40, -1 << 40, 5}, crowd(9)} {
		wantTurn(t, owned(-1, of(3, 1)), ask(api.GetS, 2), w, turn(owned(2, of(3, 1)), data(2, api.Exclusive, 0, w)))
		wantTurn(t, owned(-1, of(3, 1, 0)), ask(api.GetS, 2), w, turn(owned(-1, all(3, 1)), data(2, api.Shared, 0, w)))
		wantTurn(t, owned(-1, of(3, 1)), ask(api.GetM, 2), w, turn(owned(2, of(3, 1)), data(2, api.Modified, 0, w)))
		wantTurn(t, owned(1, of(3, 1)), ask(api.GetM, 2), w, turn(owned(2, of(3, 1)), fwdM(1, 2, 0)))
	}
}

// P13.2: what comes of a request that may be there may be there, too: what a kind of messages has not is 0.
func TestWhatIsSentMayBe(t *testing.T) {
	for _, homes := range []int{1, 4} {
		c := api.Config{
			Cores: 4, Homes: homes, Sets: 4, Ways: 2, Words: 4, Lines: 16, Pointers: 2, Mshrs: 2, Buffer: 4, Writebacks: 1, Room: [3]int{8, 8, 8},
		}
		words := api.Words{1, -2, 3, -4}
		for line := range c.Lines {
			home, _, _, err := split.Line(c, line)
			if err != api.OK {
				t.Fatal(err)
			}
			for _, e := range smallEntries(c.Cores, c.Pointers) {
				for _, m := range []api.Message{{Kind: api.GetS}, {Kind: api.GetM}, {Kind: api.Put, Words: words}} {
					m.Line, m.To = line, home
					for m.From = range c.Cores {
						wantSentMayBe(t, c, e, m, words)
					}
				}
			}
		}
	}
}

func wantSentMayBe(t *testing.T, c api.Config, e table.Entry, m api.Message, words api.Words) {
	t.Helper()
	if !message.May(c, m) {
		t.Fatalf("%+v may not be", m)
	}
	got, _ := table.Next(e, m, words)
	for _, sent := range got.Sent {
		if !message.May(c, sent) || message.Home(sent.Kind) {
			t.Fatalf("%+v: %+v: %+v may not be", e, m, sent)
		}
	}
}

// P13.3: at most one message of a turn asks for words, or tells some.
func TestWordsComeOnce(t *testing.T) {
	eachTurn(t, func(e table.Entry, m api.Message, got table.Turn) {
		words := 0
		for _, sent := range got.Sent {
			if sent.Kind == api.Data || sent.Kind == api.FwdS || sent.Kind == api.FwdM || sent.Words != (api.Words{}) {
				words++
			}
		}
		if words > 1 {
			t.Fatalf("%+v: %+v: %+v", e, m, got)
		}
	})
}

// P13.3: behind GetM who asked owns the line, none may share it, and each that might have it ahead, and none else, hears of it, once.
func TestWhoWritesHasItAlone(t *testing.T) {
	eachTurn(t, func(e table.Entry, m api.Message, got table.Turn) {
		if m.Kind != api.GetM {
			return
		}
		if got.Entry.Owner != m.From || len(sharer.Targets(got.Entry.Sharers)) > 0 {
			t.Fatalf("%+v: %+v: %+v", e, m, got)
		}
		heard := make([]int, e.Sharers.Cores)
		for _, sent := range got.Sent {
			heard[sent.To]++
		}
		for core, times := range heard {
			if had := core == e.Owner || sharer.Has(e.Sharers, core); core != m.From && times > 0 != had || times > 1 {
				t.Fatalf("%+v: %+v: %d hears %d times of it", e, m, core, times)
			}
		}
		if acks := len(got.Sent) - 1; got.Sent[0].Acks != acks {
			t.Fatalf("%+v: %+v: %+v", e, m, got)
		}
	})
}

// P13.3: who owns a line is no sharer, if it wasn't one ahead; no pointer tells it, and where all may be it is one as chapter 8 has it.
func TestWhoOwnsIsNoSharer(t *testing.T) {
	eachTurn(t, func(e table.Entry, m api.Message, got table.Turn) {
		owner := got.Entry.Owner
		if owner == -1 || sharer.Has(e.Sharers, owner) {
			return
		}
		if slices.Contains(got.Entry.Sharers.Pointers, owner) || !got.Entry.Sharers.All && sharer.Has(got.Entry.Sharers, owner) {
			t.Fatalf("%+v: %+v: %+v", e, m, got)
		}
	})
}
