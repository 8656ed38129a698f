package mshr_test

import (
	"math"
	"slices"
	"testing"

	"mesne/api"
	"mesne/mshr"
)

// mostRoom is the greatest room of a file.
const mostRoom = 8

// kinds are those that a miss may be of.
func kinds() []int { return []int{api.GetS, api.GetM} }

// readings are the states that a miss of GetS may be told.
func readings() []int { return []int{api.Shared, api.Exclusive} }

// numbers are the first so many from 0 on.
func numbers(count int) []int {
	var l []int
	for n := range count {
		l = append(l, n)
	}
	return l
}

// lines are many, those that no machine has among them: a file doesn't know the machine.
func lines() []int {
	return []int{0, 1, 5, 1023, 1024, -1, 1 << 31, 1 << 32, -1 << 32, math.MaxInt, math.MinInt}
}

// words are a line's, none of them 0, and others for another n.
func words(n int) api.Words {
	var w api.Words
	for i := range w {
		w[i] = 100*n + i + 1
	}
	w[n%api.MostWords] = math.MinInt + n
	return w
}

// empty is a new file.
func empty(t *testing.T, room int) *mshr.File {
	t.Helper()
	f, e := mshr.New(room)
	if f == nil || e != api.OK {
		t.Fatalf("%d: %v, %d", room, f, e)
	}
	return f
}

// opened is a new file, with misses of a Kind.
func opened(t *testing.T, room, kind int, lines ...int) *mshr.File {
	t.Helper()
	f := empty(t, room)
	for _, line := range lines {
		wantOpen(t, f, line, kind, api.OK)
	}
	return f
}

// owing is a new file, with misses of which all came, and that owe.
func owing(t *testing.T, room int, lines ...int) *mshr.File {
	t.Helper()
	f := opened(t, room, api.GetS, lines...)
	for _, line := range lines {
		bring(t, f, line)
	}
	return f
}

// bring lets all come to a miss of GetS, and it owes.
func bring(t *testing.T, f *mshr.File, line int) {
	t.Helper()
	wantData(t, f, line, 0, api.Shared, words(1), api.OK)
	if _, ok := f.Owe(line); !ok {
		t.Fatalf("line %d doesn't owe", line)
	}
}

func wantOpen(t *testing.T, f *mshr.File, line, kind int, want api.Errno) {
	t.Helper()
	if e := f.Open(line, kind); e != want {
		t.Fatalf("Open %d %d: %d, not %d", line, kind, e, want)
	}
}

func wantData(t *testing.T, f *mshr.File, line, acks, own int, words api.Words, want api.Errno) {
	t.Helper()
	if e := f.Data(line, acks, own, words); e != want {
		t.Fatalf("Data %d %d %d: %d, not %d", line, acks, own, e, want)
	}
}

func wantGrant(t *testing.T, f *mshr.File, line, acks int, want api.Errno) {
	t.Helper()
	if e := f.Grant(line, acks); e != want {
		t.Fatalf("Grant %d %d: %d, not %d", line, acks, e, want)
	}
}

func wantAck(t *testing.T, f *mshr.File, line int, want api.Errno) {
	t.Helper()
	if e := f.Ack(line); e != want {
		t.Fatalf("Ack %d: %d, not %d", line, e, want)
	}
}

func wantAcks(t *testing.T, f *mshr.File, line, count int) {
	t.Helper()
	for range count {
		wantAck(t, f, line, api.OK)
	}
}

func wantClose(t *testing.T, f *mshr.File, line int, want api.Errno) {
	t.Helper()
	if e := f.Close(line); e != want {
		t.Fatalf("Close %d: %d, not %d", line, e, want)
	}
}

// wantOwe tells that a miss owes from now on.
func wantOwe(t *testing.T, f *mshr.File, want mshr.Miss) {
	t.Helper()
	if m, ok := f.Owe(want.Line); m != want || !ok {
		t.Fatalf("%+v, %v, not %+v", m, ok, want)
	}
}

func wantNoOwe(t *testing.T, f *mshr.File, line int) {
	t.Helper()
	if m, ok := f.Owe(line); m != (mshr.Miss{}) || ok {
		t.Fatalf("Owe %d: %+v, %v", line, m, ok)
	}
}

func wantOwing(t *testing.T, f *mshr.File, line int) {
	t.Helper()
	if got, ok := f.Owing(); got != line || !ok {
		t.Fatalf("Owing: %d, %v, not %d", got, ok, line)
	}
}

func wantNoneOwing(t *testing.T, f *mshr.File) {
	t.Helper()
	if line, ok := f.Owing(); line != 0 || ok {
		t.Fatalf("Owing: %d, %v", line, ok)
	}
}

// wantMisses tells that a file has these misses, in this order, and each of them when it is asked for.
func wantMisses(t *testing.T, f *mshr.File, want ...mshr.Miss) {
	t.Helper()
	if l := f.List(); !slices.Equal(l, want) {
		t.Fatalf("%+v, not %+v", l, want)
	}
	for _, m := range want {
		if got, ok := f.Get(m.Line); got != m || !ok {
			t.Fatalf("Get %d: %+v, %v", m.Line, got, ok)
		}
	}
}

func wantGone(t *testing.T, f *mshr.File, line int) {
	t.Helper()
	if m, ok := f.Get(line); m != (mshr.Miss{}) || ok {
		t.Fatalf("Get %d: %+v, %v", line, m, ok)
	}
}

// fresh is a miss to which nothing came yet.
func fresh(line, kind int) mshr.Miss { return mshr.Miss{Line: line, Kind: kind, Needs: -1} }

// wantLines tells that a file has misses of these lines, in this order.
func wantLines(t *testing.T, f *mshr.File, want ...int) {
	t.Helper()
	var got []int
	for _, m := range f.List() {
		got = append(got, m.Line)
	}
	if !slices.Equal(got, want) {
		t.Fatalf("%v, not %v", got, want)
	}
}

// P10.2, P10.3: the chapter's examples.
func TestExamples(t *testing.T) {
	f := empty(t, 1)
	wantOpen(t, f, 5, api.GetM, api.OK)
	wantAck(t, f, 5, api.OK)
	wantData(t, f, 5, 2, api.Modified, words(3), api.OK)
	wantNoOwe(t, f, 5)
	wantAck(t, f, 5, api.OK)
	wantOwe(t, f, mshr.Miss{Line: 5, Kind: api.GetM, Needs: 2, Got: 2, Own: api.Modified, Words: words(3)})
}

// P10.1: a new file of each room has no misses; none is told of any line.
func TestNew(t *testing.T) {
	for room := 1; room <= mostRoom; room++ {
		f := empty(t, room)
		wantMisses(t, f)
		wantNoneOwing(t, f)
		for _, line := range lines() {
			wantGone(t, f, line)
			wantNoOwe(t, f, line)
		}
	}
}

// P10.1: as many misses as the room are opened, of both Kinds, each behind all.
func TestOpen(t *testing.T) {
	for room := 1; room <= mostRoom; room++ {
		for first := range kinds() {
			f := empty(t, room)
			var want []mshr.Miss
			for i := range room {
				line, kind := lines()[(i*7)%len(lines())], kinds()[(first+i)%2]
				wantGone(t, f, line)
				wantOpen(t, f, line, kind, api.OK)
				want = append(want, fresh(line, kind))
				wantMisses(t, f, want...)
				wantNoneOwing(t, f)
			}
		}
	}
}

// P10.2: words that come to a miss of GetS, with each state that it may have: they are all that it needs.
func TestDataOfReaders(t *testing.T) {
	for _, own := range readings() {
		f := opened(t, 3, api.GetS, 4, 9, 2)
		wantData(t, f, 9, 0, own, words(own), api.OK)
		want := mshr.Miss{Line: 9, Kind: api.GetS, Own: own, Words: words(own)}
		wantMisses(t, f, fresh(4, api.GetS), want, fresh(2, api.GetS))
		wantNoneOwing(t, f)
		wantOwe(t, f, want)
	}
}

// P10.2: words that come to a miss of GetM, with none, one, and many acks to come.
func TestDataOfWriters(t *testing.T) {
	for _, acks := range []int{0, 1, 2, 63, 64, 1 << 40, math.MaxInt} {
		f := opened(t, 3, api.GetM, 4, 9, 2)
		wantData(t, f, 2, acks, api.Modified, words(4), api.OK)
		want := mshr.Miss{Line: 2, Kind: api.GetM, Needs: acks, Own: api.Modified, Words: words(4)}
		wantMisses(t, f, fresh(4, api.GetM), fresh(9, api.GetM), want)
		if acks > 0 {
			wantNoOwe(t, f, 2)
			continue
		}
		wantOwe(t, f, want)
	}
}

// P10.2: words may be 0, all of them.
func TestDataOfNoWords(t *testing.T) {
	f := opened(t, 1, api.GetS, 9)
	wantData(t, f, 9, 0, api.Exclusive, api.Words{}, api.OK)
	wantMisses(t, f, mshr.Miss{Line: 9, Kind: api.GetS, Own: api.Exclusive})
}

// P10.2: a miss of GetM is granted, with none, one, and many acks to come; it is told no words.
func TestGrant(t *testing.T) {
	for _, acks := range []int{0, 1, 2, 63, 64, 1 << 40, math.MaxInt} {
		f := opened(t, 3, api.GetM, 4, 9, 2)
		wantGrant(t, f, 4, acks, api.OK)
		want := mshr.Miss{Line: 4, Kind: api.GetM, Needs: acks, Own: api.Modified, Granted: true}
		wantMisses(t, f, want, fresh(9, api.GetM), fresh(2, api.GetM))
		if acks > 0 {
			wantNoOwe(t, f, 4)
			continue
		}
		wantOwe(t, f, want)
	}
}

// P10.2, P10.4: so many acks ahead of the words, or of the grant, and so many behind them: all came with the last one, and no more are taken.
func TestAcksOnBothSides(t *testing.T) {
	for _, granted := range []bool{false, true} {
		for ahead := range 66 {
			for _, behind := range []int{0, 1, 2, 64} {
				f := opened(t, 2, api.GetM, 3, 7)
				wantAcks(t, f, 7, ahead)
				wantMisses(t, f, fresh(3, api.GetM), mshr.Miss{Line: 7, Kind: api.GetM, Needs: -1, Got: ahead})
				wantNoOwe(t, f, 7)
				want := mshr.Miss{Line: 7, Kind: api.GetM, Needs: ahead + behind, Got: ahead, Own: api.Modified, Granted: granted}
				if granted {
					wantGrant(t, f, 7, ahead+behind, api.OK)
				} else {
					want.Words = words(2)
					wantData(t, f, 7, ahead+behind, api.Modified, words(2), api.OK)
				}
				for range behind {
					wantNoOwe(t, f, 7)
					wantAck(t, f, 7, api.OK)
					want.Got++
					wantMisses(t, f, fresh(3, api.GetM), want)
				}
				wantAck(t, f, 7, api.ErrTable)
				wantOwe(t, f, want)
			}
		}
	}
}

// P10.2: acks are of one line: the misses of others get none.
func TestAcksOfSeveralLines(t *testing.T) {
	f := opened(t, 8, api.GetM, numbers(8)...)
	for _, line := range numbers(8) {
		wantAcks(t, f, line, line)
	}
	for _, m := range f.List() {
		if m.Got != m.Line {
			t.Fatalf("%+v", m)
		}
	}
}

// P10.3, P10.4: a miss owes once; what is told is the miss as it was, not owing yet.
func TestOwe(t *testing.T) {
	f := opened(t, 3, api.GetM, 1, 2, 3)
	wantNoOwe(t, f, 2)
	wantGrant(t, f, 2, 1, api.OK)
	wantNoOwe(t, f, 2)
	wantAck(t, f, 2, api.OK)
	wantNoneOwing(t, f)
	want := mshr.Miss{Line: 2, Kind: api.GetM, Needs: 1, Got: 1, Own: api.Modified, Granted: true}
	wantOwe(t, f, want)
	want.Owes = true
	for range 3 {
		wantMisses(t, f, fresh(1, api.GetM), want, fresh(3, api.GetM))
		wantNoOwe(t, f, 2)
		wantOwing(t, f, 2)
	}
}

// P10.3: of which nobody asks whether it owes, it doesn't, though all came.
func TestOweIsAsked(t *testing.T) {
	f := opened(t, 1, api.GetS, 6)
	wantData(t, f, 6, 0, api.Shared, words(2), api.OK)
	wantNoneOwing(t, f)
	wantClose(t, f, 6, api.ErrTable)
	if m, ok := f.Get(6); m.Owes || !ok {
		t.Fatalf("%+v, %v", m, ok)
	}
}

// P10.3: Owing tells the first that owes by the order of opening, not of owing, wherever it stands.
func TestOwing(t *testing.T) {
	for room := 1; room <= mostRoom; room++ {
		f := opened(t, room, api.GetS, numbers(room)...)
		wantNoneOwing(t, f)
		for line := room - 1; line >= 0; line-- {
			bring(t, f, line)
			wantOwing(t, f, line)
		}
		for line := range room {
			wantOwing(t, f, line)
			wantClose(t, f, line, api.OK)
		}
		wantNoneOwing(t, f)
	}
	f := opened(t, 3, api.GetS, 8, 4, 6)
	bring(t, f, 4)
	wantOwing(t, f, 4)
	bring(t, f, 6)
	wantOwing(t, f, 4)
	wantClose(t, f, 4, api.OK)
	wantOwing(t, f, 6)
	bring(t, f, 8)
	wantOwing(t, f, 8)
}

// P10.3: that of a line below 0, and of line 0, is told like any other one's.
func TestOwingOfAnyLine(t *testing.T) {
	for _, line := range lines() {
		f := owing(t, 1, line)
		wantOwing(t, f, line)
		wantClose(t, f, line, api.OK)
		wantMisses(t, f)
	}
}

// P10.1, P10.3: a miss of each place is closed: the others stay in their order, and as they were; it may be opened again, behind all.
func TestClose(t *testing.T) {
	for room := 1; room <= mostRoom; room++ {
		for at := range room {
			f := empty(t, room)
			for line := range room {
				wantOpen(t, f, line, kinds()[(line+at)%2], api.OK)
			}
			kind := kinds()[0]
			if m, _ := f.Get(at); m.Kind == api.GetM {
				kind = kinds()[1]
				wantGrant(t, f, at, 0, api.OK)
			} else {
				wantData(t, f, at, 0, api.Exclusive, words(at), api.OK)
			}
			if _, ok := f.Owe(at); !ok {
				t.Fatal(room, at)
			}
			want := slices.Delete(f.List(), at, at+1)
			wantClose(t, f, at, api.OK)
			wantMisses(t, f, want...)
			wantGone(t, f, at)
			wantNoneOwing(t, f)
			wantClose(t, f, at, api.ErrName)
			wantOpen(t, f, at, kind, api.OK)
			wantMisses(t, f, append(want, fresh(at, kind))...)
			wantOpen(t, f, 100, kind, api.ErrFull)
		}
	}
}

// P10.1, P10.3: what all misses owe is closed in several orders, and there is room again.
func TestCloseAll(t *testing.T) {
	for _, order := range [][]int{{0, 1, 2, 3}, {3, 2, 1, 0}, {1, 3, 0, 2}, {2, 0, 3, 1}} {
		f := owing(t, 4, numbers(4)...)
		left := numbers(4)
		for _, line := range order {
			wantClose(t, f, line, api.OK)
			left = slices.DeleteFunc(left, func(n int) bool { return n == line })
			wantLines(t, f, left...)
		}
		for _, line := range order {
			wantOpen(t, f, line, api.GetM, api.OK)
		}
		wantLines(t, f, order...)
	}
}

// P10.1: a line's miss that was closed leaves nothing to the next one of the line, nor to one of another line.
func TestOpenAgain(t *testing.T) {
	f := opened(t, 1, api.GetM, 5)
	wantAcks(t, f, 5, 3)
	wantData(t, f, 5, 3, api.Modified, words(5), api.OK)
	f.Owe(5)
	wantClose(t, f, 5, api.OK)
	wantOpen(t, f, 5, api.GetS, api.OK)
	wantMisses(t, f, fresh(5, api.GetS))
	bring(t, f, 5)
	wantClose(t, f, 5, api.OK)
	wantOpen(t, f, 6, api.GetM, api.OK)
	wantMisses(t, f, fresh(6, api.GetM))
}
