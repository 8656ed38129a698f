package writeback_test

import (
	"math"
	"slices"
	"testing"

	"mesne/api"
	"mesne/writeback"
)

// mostRoom is the greatest room of a buffer.
const mostRoom = 8

// numbers are the first so many from 0 on.
func numbers(count int) []int {
	var l []int
	for n := range count {
		l = append(l, n)
	}
	return l
}

// lines are many, those that no machine has among them: a buffer doesn't know the machine.
func lines() []int {
	return []int{0, 1, 5, 1023, 1024, -1, 1 << 31, 1 << 32, -1 << 32, math.MaxInt, math.MinInt}
}

// words are a line's, none of them 0, and others for another n.
func words(n int) api.Words {
	var w api.Words
	for i := range w {
		w[i] = 100*n + i + 1
	}
	w[(n%api.MostWords+api.MostWords)%api.MostWords] = math.MinInt + 2 + n
	return w
}

// manyWords are several, of small numbers and great ones, and such as are 0 in part or all.
func manyWords() []api.Words {
	return []api.Words{
		{}, {1}, {0, 0, 0, 0, 0, 0, 0, 1}, {-1, 0, 1}, words(3),
		{math.MinInt, math.MaxInt, -1 << 32, 1 << 32, math.MinInt + 1, math.MaxInt - 1, -1 << 31, 1 << 31},
	}
}

// live is the entry of a line that was put with its own words, and is Live.
func live(line int) writeback.Entry {
	return writeback.Entry{Line: line, Words: words(line), Live: true}
}

// given is the same one, behind Give.
func given(line int) writeback.Entry { return writeback.Entry{Line: line, Words: words(line)} }

// empty is a new buffer.
func empty(t *testing.T, room int) *writeback.Buffer {
	t.Helper()
	b, e := writeback.New(room)
	if b == nil || e != api.OK {
		t.Fatalf("%d: %v, %d", room, b, e)
	}
	return b
}

// holding is a new buffer, with lines that were put, each with its own words.
func holding(t *testing.T, room int, lines ...int) *writeback.Buffer {
	t.Helper()
	b := empty(t, room)
	for _, line := range lines {
		wantPut(t, b, line, words(line), api.OK)
	}
	return b
}

func wantPut(t *testing.T, b *writeback.Buffer, line int, words api.Words, want api.Errno) {
	t.Helper()
	if e := b.Put(line, words); e != want {
		t.Fatalf("Put %d: %d, not %d", line, e, want)
	}
}

func wantShare(t *testing.T, b *writeback.Buffer, line int, words api.Words, want api.Errno) {
	t.Helper()
	if w, e := b.Share(line); w != words || e != want {
		t.Fatalf("Share %d: %v, %d, not %v, %d", line, w, e, words, want)
	}
}

func wantGive(t *testing.T, b *writeback.Buffer, line int, words api.Words, want api.Errno) {
	t.Helper()
	if w, e := b.Give(line); w != words || e != want {
		t.Fatalf("Give %d: %v, %d, not %v, %d", line, w, e, words, want)
	}
}

// wantNeither tells that a line's words are neither shared nor given.
func wantNeither(t *testing.T, b *writeback.Buffer, line int, want api.Errno) {
	t.Helper()
	wantShare(t, b, line, api.Words{}, want)
	wantGive(t, b, line, api.Words{}, want)
}

func wantDrop(t *testing.T, b *writeback.Buffer, line int, want api.Errno) {
	t.Helper()
	if e := b.Drop(line); e != want {
		t.Fatalf("Drop %d: %d, not %d", line, e, want)
	}
}

func wantLeft(t *testing.T, b *writeback.Buffer, want int) {
	t.Helper()
	if left := b.Left(); left != want {
		t.Fatalf("Left: %d, not %d", left, want)
	}
}

// wantEntries tells that a buffer has these entries, in this order, and each of them when it is asked for.
func wantEntries(t *testing.T, b *writeback.Buffer, want ...writeback.Entry) {
	t.Helper()
	if l := b.List(); !slices.Equal(l, want) {
		t.Fatalf("%+v, not %+v", l, want)
	}
	for _, e := range want {
		if got, ok := b.Get(e.Line); got != e || !ok {
			t.Fatalf("Get %d: %+v, %v", e.Line, got, ok)
		}
	}
}

func wantGone(t *testing.T, b *writeback.Buffer, line int) {
	t.Helper()
	if e, ok := b.Get(line); e != (writeback.Entry{}) || ok {
		t.Fatalf("Get %d: %+v, %v", line, e, ok)
	}
}

// P11.2, P11.3: the chapter's example.
func TestExample(t *testing.T) {
	b := empty(t, 1)
	wantPut(t, b, 5, words(7), api.OK)
	wantShare(t, b, 5, words(7), api.OK)
	wantGive(t, b, 5, words(7), api.OK)
	wantShare(t, b, 5, api.Words{}, api.ErrTable)
}

// P11.1: a new buffer of each room is empty, and all its room is left; no line is there.
func TestNew(t *testing.T) {
	for room := 1; room <= mostRoom; room++ {
		b := empty(t, room)
		wantEntries(t, b)
		wantLeft(t, b, room)
		for _, line := range lines() {
			wantGone(t, b, line)
		}
	}
}

// P11.1: as many lines as the room are put, each Live and behind all, and as much less is left.
func TestPut(t *testing.T) {
	for room := 1; room <= mostRoom; room++ {
		for first := range lines() {
			b := empty(t, room)
			var want []writeback.Entry
			for i := range room {
				line, w := lines()[(first+i*7)%len(lines())], words(first+i)
				wantGone(t, b, line)
				wantPut(t, b, line, w, api.OK)
				want = append(want, writeback.Entry{Line: line, Words: w, Live: true})
				wantEntries(t, b, want...)
				wantLeft(t, b, room-i-1)
			}
		}
	}
}

// P11.1: lines lie in the order in which they were put, whichever numbers they have.
func TestOrder(t *testing.T) {
	wantEntries(t, holding(t, 5, 3, -2, 9, 0, 1), live(3), live(-2), live(9), live(0), live(1))
	wantEntries(t, holding(t, 5, 9, 3, 1, 0, -2), live(9), live(3), live(1), live(0), live(-2))
}

// P11.1, P11.2: words are put, shared and given as they are, whichever numbers they are, also where another line has the same ones.
func TestAllWords(t *testing.T) {
	for _, w := range manyWords() {
		b := empty(t, 2)
		wantPut(t, b, 4, w, api.OK)
		wantPut(t, b, 6, w, api.OK)
		for _, line := range []int{6, 4} {
			wantShare(t, b, line, w, api.OK)
			wantGive(t, b, line, w, api.OK)
		}
		wantEntries(t, b, writeback.Entry{Line: 4, Words: w}, writeback.Entry{Line: 6, Words: w})
	}
}

// P11.2, P11.3: words are shared as often as one likes: the entry stays Live, and as it was.
func TestShare(t *testing.T) {
	b := holding(t, 3, 4, 9, 2)
	for range 100 {
		for _, line := range []int{9, 4, 4, 2} {
			wantShare(t, b, line, words(line), api.OK)
			wantEntries(t, b, live(4), live(9), live(2))
			wantLeft(t, b, 0)
		}
	}
}

// P11.2, P11.3: words are given once, shared ahead of that or not: behind it they are neither shared nor given, but are there.
func TestGive(t *testing.T) {
	for _, ahead := range numbers(4) {
		b := holding(t, 4, 4, 9, 2)
		for range ahead {
			wantShare(t, b, 9, words(9), api.OK)
		}
		wantGive(t, b, 9, words(9), api.OK)
		for range 3 {
			wantEntries(t, b, live(4), given(9), live(2))
			wantLeft(t, b, 1)
			wantNeither(t, b, 9, api.ErrTable)
		}
	}
}

// P11.2: entries of each place are given, in several orders: the others stay Live till their turn comes.
func TestGiveAll(t *testing.T) {
	for _, step := range []int{1, 3, 5, 7} {
		b := holding(t, mostRoom, numbers(mostRoom)...)
		want := b.List()
		for i := range mostRoom {
			line := i * step % mostRoom
			wantGive(t, b, line, words(line), api.OK)
			want[line].Live = false
			wantEntries(t, b, want...)
			wantLeft(t, b, 0)
		}
		for line := range mostRoom {
			wantNeither(t, b, line, api.ErrTable)
		}
	}
}

// P11.1, P11.2: an entry of each place is dropped, Live or not: it is gone, the others stay in their order, and as they were; the line may be put again, with other words, Live and behind all.
func TestDrop(t *testing.T) {
	for room := 1; room <= mostRoom; room++ {
		for at := range room {
			for _, gives := range [][]int{nil, {at}, {room - 1}, numbers(room)} {
				b := holding(t, room, numbers(room)...)
				for _, line := range gives {
					wantGive(t, b, line, words(line), api.OK)
				}
				want := slices.Delete(b.List(), at, at+1)
				wantDrop(t, b, at, api.OK)
				wantEntries(t, b, want...)
				wantLeft(t, b, 1)
				wantGone(t, b, at)
				wantNeither(t, b, at, api.ErrName)
				wantDrop(t, b, at, api.ErrName)
				wantPut(t, b, at, words(at+50), api.OK)
				want = append(want, writeback.Entry{Line: at, Words: words(at + 50), Live: true})
				wantEntries(t, b, want...)
				wantLeft(t, b, 0)
				wantShare(t, b, at, words(at+50), api.OK)
			}
		}
	}
}

// P11.1, P11.2: the first, one in the middle and the last are dropped, one behind another.
func TestDropSeveral(t *testing.T) {
	b := holding(t, 6, 10, 0, -3, 7, 5, 2)
	for _, x := range []struct {
		line int
		rest []writeback.Entry
	}{
		{10, []writeback.Entry{live(0), live(-3), live(7), live(5), live(2)}},
		{7, []writeback.Entry{live(0), live(-3), live(5), live(2)}},
		{2, []writeback.Entry{live(0), live(-3), live(5)}},
		{-3, []writeback.Entry{live(0), live(5)}},
		{0, []writeback.Entry{live(5)}},
		{5, nil},
	} {
		wantDrop(t, b, x.line, api.OK)
		wantEntries(t, b, x.rest...)
		wantLeft(t, b, 6-len(x.rest))
	}
	wantPut(t, b, 7, words(1), api.OK)
	wantEntries(t, b, writeback.Entry{Line: 7, Words: words(1), Live: true})
}

// P11.1, P11.2: all are dropped in several orders, and as many lines may be put as ahead of it, over and over.
func TestDropAll(t *testing.T) {
	for _, step := range []int{1, 3, 5, 7} {
		b := empty(t, mostRoom)
		for round := range 4 {
			for line := range mostRoom {
				wantPut(t, b, line, words(line+round), api.OK)
			}
			for i := range mostRoom {
				wantDrop(t, b, i*step%mostRoom, api.OK)
				wantLeft(t, b, i+1)
			}
			wantEntries(t, b)
		}
	}
}

// P11.1: how much is left hangs on what is there, not on what was given or shared.
func TestLeft(t *testing.T) {
	for room := 1; room <= mostRoom; room++ {
		b := empty(t, room)
		for line := range room {
			wantLeft(t, b, room-line)
			wantPut(t, b, line, words(line), api.OK)
			wantLeft(t, b, room-line-1)
			wantShare(t, b, line, words(line), api.OK)
			wantLeft(t, b, room-line-1)
			wantGive(t, b, line, words(line), api.OK)
			wantLeft(t, b, room-line-1)
		}
		for line := range room {
			wantDrop(t, b, line, api.OK)
			wantLeft(t, b, line+1)
		}
	}
}

// P11.1, P11.2: line 0, lines below 0, and those that no machine has are put, shared, given and dropped like any other one.
func TestAnyLine(t *testing.T) {
	for _, line := range lines() {
		b := empty(t, 2)
		wantPut(t, b, line, words(4), api.OK)
		wantShare(t, b, line, words(4), api.OK)
		wantEntries(t, b, writeback.Entry{Line: line, Words: words(4), Live: true})
		wantGive(t, b, line, words(4), api.OK)
		wantEntries(t, b, writeback.Entry{Line: line, Words: words(4)})
		wantNeither(t, b, line, api.ErrTable)
		wantDrop(t, b, line, api.OK)
		wantGone(t, b, line)
		wantEntries(t, b)
	}
}

// P11.3: what is done to other lines changes nothing of a line, Live or not.
func TestOtherLines(t *testing.T) {
	for _, mine := range []writeback.Entry{live(3), given(3)} {
		b := holding(t, 4, 1, 3)
		if !mine.Live {
			wantGive(t, b, 3, words(3), api.OK)
		}
		wantEntries(t, b, live(1), mine)
		wantShare(t, b, 1, words(1), api.OK)
		wantEntries(t, b, live(1), mine)
		wantPut(t, b, 4, words(4), api.OK)
		wantEntries(t, b, live(1), mine, live(4))
		wantGive(t, b, 1, words(1), api.OK)
		wantEntries(t, b, given(1), mine, live(4))
		wantDrop(t, b, 4, api.OK)
		wantEntries(t, b, given(1), mine)
		wantDrop(t, b, 1, api.OK)
		wantEntries(t, b, mine)
		wantPut(t, b, 1, words(8), api.OK)
		wantEntries(t, b, mine, writeback.Entry{Line: 1, Words: words(8), Live: true})
	}
}
