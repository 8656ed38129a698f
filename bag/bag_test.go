package bag_test

import (
	"fmt"
	"math"
	"slices"
	"testing"

	"mesne/api"
	"mesne/bag"
)

// pair is a thing of several parts.
type pair struct {
	name  string
	parts [2]int
}

// filled is a new bag of a room, with things put in.
func filled[T comparable](t *testing.T, room int, things ...T) *bag.Bag[T] {
	t.Helper()
	b, e := bag.New[T](room)
	if b == nil || e != api.OK {
		t.Fatalf("room %d: %v, %d", room, b, e)
	}
	for _, x := range things {
		wantPut(t, b, x, api.OK)
	}
	return b
}

func wantPut[T comparable](t *testing.T, b *bag.Bag[T], x T, want api.Errno) {
	t.Helper()
	if e := b.Put(x); e != want {
		t.Fatalf("Put %v: %d, not %d", x, e, want)
	}
}

func wantTake[T comparable](t *testing.T, b *bag.Bag[T], at int, want T, err api.Errno) {
	t.Helper()
	if x, e := b.Take(at); x != want || e != err {
		t.Fatalf("Take %d: %v, %d, not %v, %d", at, x, e, want, err)
	}
}

func wantAt[T comparable](t *testing.T, b *bag.Bag[T], at int, want T, is bool) {
	t.Helper()
	if x, ok := b.At(at); x != want || ok != is {
		t.Fatalf("At %d: %v, %t, not %v, %t", at, x, ok, want, is)
	}
}

func wantFind[T comparable](t *testing.T, b *bag.Bag[T], x T, want int) {
	t.Helper()
	if at := b.Find(x); at != want {
		t.Fatalf("Find %v: %d, not %d", x, at, want)
	}
}

func wantLeft[T comparable](t *testing.T, b *bag.Bag[T], want int) {
	t.Helper()
	if n := b.Left(); n != want {
		t.Fatalf("Left: %d, not %d", n, want)
	}
}

func wantList[T comparable](t *testing.T, b *bag.Bag[T], want ...T) {
	t.Helper()
	if l := b.List(); !slices.Equal(l, want) {
		t.Fatalf("List: %v, not %v", l, want)
	}
}

// wantBag tells that a bag is of a room and has just these things, whichever way it is asked.
func wantBag[T comparable](t *testing.T, b *bag.Bag[T], room int, want ...T) {
	t.Helper()
	wantList(t, b, want...)
	wantLeft(t, b, room-len(want))
	var nothing T
	for _, at := range outside(len(want)) {
		wantAt(t, b, at, nothing, false)
	}
	for at, x := range want {
		wantAt(t, b, at, x, true)
		wantFind(t, b, x, slices.Index(want, x))
	}
}

// outside are places that so many things do not have.
func outside(count int) []int {
	return []int{
		-1, count, -2, count + 1, -count, 2*count + 1, 4096, 4097, 5000,
		1 << 31, 1 << 32, -1 << 31, -1 << 32, 1<<62 + 1, math.MinInt, math.MinInt + 1, math.MaxInt - 1, math.MaxInt,
	}
}

// upTo are the numbers from 1 on.
func upTo(n int) []int {
	var l []int
	for i := range n {
		l = append(l, i+1)
	}
	return l
}

// ofEachKind runs a test on five numbers, texts, structs and messages, of which none is a zero value or another one.
func ofEachKind(t *testing.T, numbers func(*testing.T, [5]int), texts func(*testing.T, [5]string), pairs func(*testing.T, [5]pair), messages func(*testing.T, [5]api.Message)) {
	t.Run("numbers", func(t *testing.T) { numbers(t, [5]int{7, -3, math.MaxInt, 1, math.MinInt}) })
	t.Run("texts", func(t *testing.T) { texts(t, [5]string{"a", "b", "ab", " ", "\x00\xff"}) })
	t.Run("pairs", func(t *testing.T) {
		pairs(t, [5]pair{{"a", [2]int{0, 1}}, {"a", [2]int{1, 0}}, {"b", [2]int{0, 1}}, {"", [2]int{0, 1}}, {"a", [2]int{}}})
	})
	t.Run("messages", func(t *testing.T) {
		messages(t, [5]api.Message{
			{Kind: api.GetS}, {Kind: api.GetM}, {Kind: api.GetM, Line: 1},
			{Kind: api.Put, Words: api.Words{1}}, {Kind: api.Put, Words: api.Words{0, 1}},
		})
	})
}

// P6.1: the chapter's example, call by call.
func TestExample(t *testing.T) {
	b := filled(t, 3, 5, 7, 5)
	wantBag(t, b, 3, 5, 7, 5)
	wantTake(t, b, 1, 7, api.OK)
	wantBag(t, b, 3, 5, 5)
}

// P6.1: rooms that may be, each an empty bag of just that room.
func TestNewAtEdges(t *testing.T) {
	for _, room := range []int{1, 2, 3, 63, 64, 65, 255, 256, 4095, 4096} {
		b := filled[int](t, room)
		wantBag(t, b, room)
		wantFind(t, b, 0, -1)
		for _, x := range upTo(room) {
			wantPut(t, b, x, api.OK)
		}
		wantPut(t, b, room+1, api.ErrFull)
		wantBag(t, b, room, upTo(room)...)
	}
}

// P6.1: rooms that may not be: no bag beside the error.
func TestNewOfWrongRooms(t *testing.T) {
	for _, room := range []int{
		0, -1, -2, -4096, 4097, 4098, 8192, 65536 + 1, 1 << 31, 1<<31 + 1, 1 << 32, 1<<32 + 1, 1<<32 + 4096, 1<<62 + 1,
		math.MinInt, math.MinInt + 1, math.MaxInt - 1, math.MaxInt,
	} {
		if b, e := bag.New[int](room); b != nil || e != api.ErrArg {
			t.Errorf("room %d: %v, %d", room, b, e)
		}
		if b, e := bag.New[string](room); b != nil || e != api.ErrArg {
			t.Errorf("room %d of texts: %v, %d", room, b, e)
		}
	}
}

// P6.1: what is put in is behind all, till there are as many as the room; a Put then changes nothing.
func TestPut(t *testing.T) {
	ofEachKind(t, putOf[int], putOf[string], putOf[pair], putOf[api.Message])
}

func putOf[T comparable](t *testing.T, x [5]T) {
	for room := 1; room <= 4; room++ {
		b := filled[T](t, room)
		wantBag(t, b, room)
		for i := range room {
			wantPut(t, b, x[i], api.OK)
			wantBag(t, b, room, x[:i+1]...)
		}
		for range 3 {
			wantPut(t, b, x[4], api.ErrFull)
			wantPut(t, b, x[0], api.ErrFull)
			wantBag(t, b, room, x[:room]...)
			wantFind(t, b, x[4], -1)
		}
	}
}

// P6.1: a zero value is a thing as any other.
func TestZeroValuesAreThings(t *testing.T) {
	b := filled(t, 2, 0, 0)
	wantBag(t, b, 2, 0, 0)
	wantPut(t, b, 0, api.ErrFull)
	wantTake(t, b, 1, 0, api.OK)
	wantTake(t, b, 1, 0, api.ErrName)
	wantBag(t, b, 2, 0)
	texts := filled(t, 4, "", "a", "")
	wantBag(t, texts, 4, "", "a", "")
	wantTake(t, texts, 0, "", api.OK)
	wantBag(t, texts, 4, "a", "")
}

// P6.1: things are taken from the first place, the middle and the last; the others stay in order.
func TestTake(t *testing.T) {
	ofEachKind(t, takeOf[int], takeOf[string], takeOf[pair], takeOf[api.Message])
}

func takeOf[T comparable](t *testing.T, x [5]T) {
	for _, room := range []int{5, 6, 4096} {
		for at := range x {
			b := filled(t, room, x[:]...)
			wantTake(t, b, at, x[at], api.OK)
			left := append(slices.Clone(x[:at]), x[at+1:]...)
			wantBag(t, b, room, left...)
			wantFind(t, b, x[at], -1)
			wantPut(t, b, x[at], api.OK)
			wantBag(t, b, room, append(left, x[at])...)
		}
	}
	b := filled(t, 5, x[:]...)
	for _, step := range []struct {
		at   int
		left []T
	}{
		{2, []T{x[0], x[1], x[3], x[4]}},
		{3, []T{x[0], x[1], x[3]}},
		{0, []T{x[1], x[3]}},
		{1, []T{x[1]}},
		{0, nil},
	} {
		want, _ := b.At(step.at)
		wantTake(t, b, step.at, want, api.OK)
		wantBag(t, b, 5, step.left...)
	}
}

// P6.1: a place that there is not, one below the first and one beyond the last among them: the zero value beside the error, and the bag as it was.
func TestTakeOfNoPlace(t *testing.T) {
	ofEachKind(t, noPlaceOf[int], noPlaceOf[string], noPlaceOf[pair], noPlaceOf[api.Message])
}

func noPlaceOf[T comparable](t *testing.T, x [5]T) {
	var nothing T
	for count := 0; count <= 5; count++ {
		for _, room := range []int{max(count, 1), count + 1, 4096} {
			b := filled(t, room, x[:count]...)
			for _, at := range outside(count) {
				wantTake(t, b, at, nothing, api.ErrName)
				wantAt(t, b, at, nothing, false)
			}
			wantBag(t, b, room, x[:count]...)
		}
	}
}

// P6.1: a bag with a single thing: only place 0 is there, and is gone when it is taken.
func TestSingleThing(t *testing.T) {
	b := filled(t, 1, "only")
	wantBag(t, b, 1, "only")
	wantTake(t, b, 1, "", api.ErrName)
	wantTake(t, b, -1, "", api.ErrName)
	wantTake(t, b, 0, "only", api.OK)
	wantTake(t, b, 0, "", api.ErrName)
	wantBag(t, b, 1)
	wantFind(t, b, "only", -1)
}

// P6.1: a bag that was full has room again, as much as was taken, whichever place it was.
func TestRoomAgain(t *testing.T) {
	for _, room := range []int{1, 2, 3, 4096} {
		for _, at := range []int{0, room / 2, room - 1} {
			b := filled(t, room, upTo(room)...)
			want := upTo(room)
			for i := range 5 {
				wantPut(t, b, -1, api.ErrFull)
				wantTake(t, b, at, want[at], api.OK)
				want = append(want[:at], want[at+1:]...)
				wantLeft(t, b, 1)
				want = append(want, -2-i)
				wantPut(t, b, -2-i, api.OK)
				wantLeft(t, b, 0)
				wantPut(t, b, -1, api.ErrFull)
				wantList(t, b, want...)
			}
			wantBag(t, b, room, want...)
		}
	}
}

// P6.2: At tells a thing and leaves it where it is.
func TestAtTakesNothing(t *testing.T) {
	b := filled(t, 4, 3, 1, 2)
	for range 3 {
		wantAt(t, b, 0, 3, true)
		wantAt(t, b, 1, 1, true)
		wantAt(t, b, 2, 2, true)
		wantAt(t, b, 3, 0, false)
		wantAt(t, b, -1, 0, false)
	}
	wantBag(t, b, 4, 3, 1, 2)
}

// P6.2: the first place of a thing that is there twice; -1 of one that isn't there.
func TestFind(t *testing.T) {
	ofEachKind(t, findOf[int], findOf[string], findOf[pair], findOf[api.Message])
}

func findOf[T comparable](t *testing.T, x [5]T) {
	var nothing T
	b := filled[T](t, 6)
	wantFind(t, b, nothing, -1)
	wantFind(t, b, x[0], -1)
	for _, y := range []T{x[0], x[1], x[2], x[1], x[0]} {
		wantPut(t, b, y, api.OK)
	}
	wantFind(t, b, x[0], 0)
	wantFind(t, b, x[1], 1)
	wantFind(t, b, x[2], 2)
	wantFind(t, b, x[3], -1)
	wantFind(t, b, nothing, -1)
	wantTake(t, b, 1, x[1], api.OK)
	wantFind(t, b, x[1], 2)
	wantFind(t, b, x[2], 1)
	wantTake(t, b, 0, x[0], api.OK)
	wantFind(t, b, x[0], 2)
	wantTake(t, b, 2, x[0], api.OK)
	wantFind(t, b, x[0], -1)
	wantFind(t, b, nothing, -1)
	wantBag(t, b, 6, x[2], x[1])
}

// P6.2: the last place of a great bag is found too, and a thing that was taken is not.
func TestFindInGreatBag(t *testing.T) {
	b := filled(t, 4096, upTo(4096)...)
	for _, x := range []int{1, 2, 2048, 4095, 4096} {
		wantFind(t, b, x, x-1)
	}
	wantFind(t, b, 0, -1)
	wantFind(t, b, 4097, -1)
	wantTake(t, b, 4095, 4096, api.OK)
	wantFind(t, b, 4096, -1)
	wantFind(t, b, 0, -1)
}

// P6.2: what List hands out is its own: neither it nor the bag changes with the other.
func TestListSharesNothing(t *testing.T) {
	for _, room := range []int{3, 4, 8, 4096} {
		b := filled(t, room, 1, 2, 3)
		first, second := b.List(), b.List()
		for i := range first {
			first[i] = -7
		}
		wantBag(t, b, room, 1, 2, 3)
		if !slices.Equal(second, []int{1, 2, 3}) {
			t.Fatalf("room %d: another list is %v", room, second)
		}
		// What lies behind a list, up to its capacity, is not the bag's either.
		for i := range second[:cap(second)] {
			second[:cap(second)][i] = -8
		}
		_ = append(b.List(), -9)
		if room > 3 {
			wantPut(t, b, 4, api.OK)
			_ = append(b.List()[:3], -9)
			wantTake(t, b, 3, 4, api.OK)
		}
		wantBag(t, b, room, 1, 2, 3)
		third := b.List()
		wantTake(t, b, 0, 1, api.OK)
		wantPut(t, b, 9, api.OK)
		if !slices.Equal(third, []int{1, 2, 3}) {
			t.Fatalf("room %d: a list became %v", room, third)
		}
		wantBag(t, b, room, 2, 3, 9)
	}
}

// P6.2: a list of no things, of a bag that never had any and of one that has none any more, is empty, and nothing is put in by way of it.
func TestListOfEmptyBag(t *testing.T) {
	b := filled[int](t, 4)
	_ = append(b.List(), 5)
	wantBag(t, b, 4)
	wantPut(t, b, 6, api.OK)
	wantTake(t, b, 0, 6, api.OK)
	l := append(b.List(), 5)
	wantPut(t, b, 7, api.OK)
	if l[0] != 5 {
		t.Fatalf("a list became %v", l)
	}
	wantBag(t, b, 4, 7)
}

// P6.2: to ask changes nothing.
func TestAskingChangesNothing(t *testing.T) {
	b := filled(t, 5, "c", "a", "b", "a")
	for range 3 {
		b.List()
		b.Left()
		b.At(1)
		b.At(9)
		b.Find("a")
		b.Find("z")
		wantBag(t, b, 5, "c", "a", "b", "a")
	}
}

// P6.2: a thing that cannot be held against others, in a bag of an interface's type, is put in and taken as any other, and is found nowhere.
func TestThingsThatCannotBeCompared(t *testing.T) {
	list, table := []int{1}, map[int]int{1: 1}
	b := filled[any](t, 8, list, 5, table, "a", [1]any{list}, 5, nil)
	for _, x := range []any{list, table, [1]any{list}, []int{1}, func() {}, struct{ x any }{table}} {
		wantFind(t, b, x, -1)
	}
	wantFind[any](t, b, 5, 1)
	wantFind[any](t, b, "a", 3)
	wantFind(t, b, nil, 6)
	wantFind[any](t, b, int64(5), -1)
	wantLeft(t, b, 1)
	if x, e := b.Take(0); fmt.Sprint(x) != "[1]" || e != api.OK {
		t.Fatalf("Take 0: %v, %d", x, e)
	}
	wantFind[any](t, b, 5, 0)
	wantLeft(t, b, 2)
	numbers := filled(t, 2, math.NaN(), 1)
	wantFind(t, numbers, math.NaN(), -1)
	wantFind(t, numbers, 1, 1)
}

// P6.3: things taken from the first place again and again come in the order in which they were put in.
func TestFirstPlaceIsInOrder(t *testing.T) {
	for _, room := range []int{1, 2, 7, 4096} {
		b := filled(t, room, upTo(room)...)
		for _, x := range upTo(room) {
			wantTake(t, b, 0, x, api.OK)
			wantLeft(t, b, x)
		}
		wantTake(t, b, 0, 0, api.ErrName)
		wantBag(t, b, room)
	}
}

// P6.3: so they do where more is put in meanwhile.
func TestFirstPlaceIsInOrderMeanwhile(t *testing.T) {
	b := filled[int](t, 5)
	put, taken := 0, 0
	for range 200 {
		for range 3 {
			if b.Left() > 0 {
				put++
				wantPut(t, b, put, api.OK)
			}
		}
		for range 2 {
			taken++
			wantTake(t, b, 0, taken, api.OK)
		}
	}
	for taken < put {
		taken++
		wantTake(t, b, 0, taken, api.OK)
	}
	wantBag(t, b, 5)
}

// P6.3: what is put in is taken once, whatever place it is taken from, and nothing else is.
func TestEachIsTakenOnce(t *testing.T) {
	const room = 50
	pick := picker(1)
	b := filled[int](t, room)
	var taken []int
	put := 0
	for range 5000 {
		if pick(2) == 0 {
			if b.Put(put) == api.OK {
				put++
			}
		} else if x, e := b.Take(pick(room)); e == api.OK {
			taken = append(taken, x)
		}
		if n := len(b.List()); n > room || n+b.Left() != room || n != put-len(taken) {
			t.Fatalf("%d things, %d left", n, b.Left())
		}
	}
	all := append(taken, b.List()...)
	slices.Sort(all)
	for i, x := range all {
		if i != x {
			t.Fatalf("of %d things number %d is %d", put, i, x)
		}
	}
	if len(all) != put {
		t.Fatalf("%d of %d things", len(all), put)
	}
}

// picker hands out numbers below others, the same ones each time.
func picker(seed uint64) func(n int) int {
	return func(n int) int {
		seed = seed*6364136223846793005 + 1442695040888963407
		return int((seed >> 33) % uint64(n))
	}
}

// record is a bag by another way: all that was ever put in stays, and what was taken is crossed out.
type record struct {
	room int
	put  []int
	gone []bool
}

// live are those of a record that are not crossed out, as the numbers of their puts.
func (r *record) live() []int {
	var l []int
	for i := range r.put {
		if !r.gone[i] {
			l = append(l, i)
		}
	}
	return l
}

// things are what a bag has by its record.
func (r *record) things() []int {
	var l []int
	for _, i := range r.live() {
		l = append(l, r.put[i])
	}
	return l
}

// doPut puts a thing both into a bag and down in its record.
func (r *record) doPut(t *testing.T, b *bag.Bag[int], x int) {
	t.Helper()
	if len(r.live()) == r.room {
		wantPut(t, b, x, api.ErrFull)
		return
	}
	wantPut(t, b, x, api.OK)
	r.put, r.gone = append(r.put, x), append(r.gone, false)
}

// doTake takes the thing of a place, and crosses it out.
func (r *record) doTake(t *testing.T, b *bag.Bag[int], at int) {
	t.Helper()
	live := r.live()
	if !slices.Contains(upTo(len(live)), at+1) {
		wantTake(t, b, at, 0, api.ErrName)
		return
	}
	wantTake(t, b, at, r.put[live[at]], api.OK)
	r.gone[live[at]] = true
}

// P6.1, P6.2, P6.3: all calls of small bags, one behind the other, as by the other way.
func TestAllCallsOfSmallBags(t *testing.T) {
	for room, steps := range map[int]int{1: 7, 2: 6, 3: 6} {
		// A call is Put of 8 or 9, or Take of a place from -1 to room.
		calls := 2 + room + 2
		count := 1
		for range steps {
			count *= calls
		}
		for n := range count {
			b, r := filled[int](t, room), &record{room: room}
			for range steps {
				if call := n % calls; call < 2 {
					r.doPut(t, b, 8+call)
				} else {
					r.doTake(t, b, call-3)
				}
				n /= calls
			}
			wantList(t, b, r.things()...)
			wantLeft(t, b, room-len(r.live()))
			for _, x := range []int{0, 8, 9} {
				wantFind(t, b, x, slices.Index(r.things(), x))
			}
		}
	}
}

// P6.1, P6.2, P6.3: many calls of greater bags, as by the other way.
func TestManyCalls(t *testing.T) {
	for _, room := range []int{1, 5, 64, 300} {
		pick := picker(uint64(room))
		b, r := filled[int](t, room), &record{room: room}
		for n := range 2000 {
			// More is put in than taken in one stretch, and less in the next one.
			if pick(5) < 2+n/400%2 {
				r.doPut(t, b, 1+pick(9))
			} else {
				r.doTake(t, b, pick(len(r.live())+2)-1)
			}
			wantBag(t, b, room, r.things()...)
		}
	}
}

// P6.3: bags are apart: what one is asked changes no other, of its type or another.
func TestBagsAreApart(t *testing.T) {
	a, b, texts := filled(t, 2, 1, 2), filled(t, 3, 1), filled(t, 2, "1")
	wantTake(t, a, 0, 1, api.OK)
	wantBag(t, b, 3, 1)
	wantBag(t, texts, 2, "1")
	wantPut(t, b, 4, api.OK)
	wantPut(t, b, 5, api.OK)
	wantPut(t, b, 6, api.ErrFull)
	wantBag(t, a, 2, 2)
	wantBag(t, texts, 2, "1")
	wantBag(t, b, 3, 1, 4, 5)
	wantBag(t, filled[int](t, 2), 2)
}

// P6.1: a thing that was put in is a value: to change the caller's own changes it not.
func TestThingsAreValues(t *testing.T) {
	b := filled[api.Message](t, 2)
	m := api.Message{Kind: api.Put, Words: api.Words{1, 2}}
	was := m
	wantPut(t, b, m, api.OK)
	m.Words[0] = 9
	wantBag(t, b, 2, was)
	wantFind(t, b, m, -1)
	x, _ := b.At(0)
	x.Words[1] = 9
	wantBag(t, b, 2, was)
}
