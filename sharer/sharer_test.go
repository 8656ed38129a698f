package sharer_test

import (
	"math"
	"slices"
	"testing"

	"mesne/api"
	"mesne/sharer"
)

// of is a set with pointers.
func of(cores, most int, pointers ...int) sharer.Set {
	return sharer.Set{Cores: cores, Most: most, Pointers: pointers}
}

// all is a set of which each core may be.
func all(cores, most int) sharer.Set { return sharer.Set{Cores: cores, Most: most, All: true} }

// sizes are numbers of cores and most pointers that may be, the edges among them.
func sizes() [][2]int {
	return [][2]int{
		{1, 0}, {1, 1}, {1, 2}, {1, 8}, {2, 0}, {2, 1}, {2, 2}, {2, 7}, {3, 2}, {3, 8}, {4, 2}, {5, 3}, {5, 4}, {5, 5}, {6, 1},
		{7, 8}, {8, 7}, {8, 8}, {9, 8}, {10, 8}, {16, 4}, {33, 6}, {63, 0}, {63, 8}, {64, 0}, {64, 1}, {64, 2}, {64, 7}, {64, 8},
	}
}

// numbers are the first so many from 0 on.
func numbers(count int) []int {
	var l []int
	for n := range count {
		l = append(l, n)
	}
	return l
}

// outside are numbers that are none of the first so many from 0 on.
func outside(count int) []int {
	return []int{
		-1, count, -2, -3, count + 1, count + 2, -count, -count - 1, 2*count + 1, count + 64, count + 128, count + 256, -64, -63, 255, 256, 1024,
		1 << 31, 1 << 32, 1<<32 + 1, -1 << 31, -1 << 32, 1<<62 + 1, math.MinInt, math.MinInt + 1, math.MaxInt - 1, math.MaxInt,
	}
}

// same tells whether two sets are one.
func same(a, b sharer.Set) bool {
	return a.Cores == b.Cores && a.Most == b.Most && a.All == b.All && slices.Equal(a.Pointers, b.Pointers)
}

// copyOf is the same set, with a list of its own.
func copyOf(s sharer.Set) sharer.Set {
	s.Pointers = slices.Clone(s.Pointers)
	return s
}

// empty is a new set.
func empty(t *testing.T, cores, most int) sharer.Set {
	t.Helper()
	s, e := sharer.New(cores, most)
	if e != api.OK || !same(s, of(cores, most)) {
		t.Fatalf("New %d %d: %+v, %d", cores, most, s, e)
	}
	return s
}

// added is a new set, to which cores were added.
func added(t *testing.T, cores, most int, these ...int) sharer.Set {
	t.Helper()
	s := empty(t, cores, most)
	for _, core := range these {
		next, e := sharer.Add(s, core)
		if e != api.OK {
			t.Fatalf("%+v: Add %d: %+v, %d", s, core, next, e)
		}
		s = next
	}
	return s
}

func wantSet(t *testing.T, got, want sharer.Set) {
	t.Helper()
	if !same(got, want) {
		t.Fatalf("%+v, not %+v", got, want)
	}
}

// wantAdd tells what an Add answers, and that the set stays as it was.
func wantAdd(t *testing.T, s sharer.Set, core int, want sharer.Set, err api.Errno) {
	t.Helper()
	ahead := copyOf(s)
	if got, e := sharer.Add(s, core); !same(got, want) || e != err {
		t.Fatalf("%+v: Add %d: %+v, %d, not %+v, %d", s, core, got, e, want, err)
	}
	wantSet(t, s, ahead)
}

func wantMay(t *testing.T, s sharer.Set, want bool) {
	t.Helper()
	if may := sharer.May(s); may != want {
		t.Fatalf("May %+v: %t", s, may)
	}
}

func wantHas(t *testing.T, s sharer.Set, core int, want bool) {
	t.Helper()
	if has := sharer.Has(s, core); has != want {
		t.Fatalf("%+v: Has %d: %t", s, core, has)
	}
}

func wantTargets(t *testing.T, s sharer.Set, but []int, want ...int) {
	t.Helper()
	if l := sharer.Targets(s, but...); !slices.Equal(l, want) {
		t.Fatalf("%+v: Targets but %v: %v, not %v", s, but, l, want)
	}
}

// wantSharers tells that just these cores, which rise, may be sharers of a set, whichever way it is asked.
func wantSharers(t *testing.T, s sharer.Set, these ...int) {
	t.Helper()
	wantMay(t, s, true)
	for core := range s.Cores {
		wantHas(t, s, core, slices.Contains(these, core))
	}
	for _, core := range outside(s.Cores) {
		wantHas(t, s, core, false)
	}
	wantTargets(t, s, nil, these...)
	wantSet(t, sharer.Clear(s), of(s.Cores, s.Most))
}

// P8.1: the chapter's example, add by add.
func TestExample(t *testing.T) {
	s := empty(t, 4, 2)
	wantAdd(t, s, 3, of(4, 2, 3), api.OK)
	wantAdd(t, of(4, 2, 3), 1, of(4, 2, 1, 3), api.OK)
	wantSharers(t, of(4, 2, 1, 3), 1, 3)
	wantAdd(t, of(4, 2, 1, 3), 0, all(4, 2), api.OK)
	wantSharers(t, all(4, 2), 0, 1, 2, 3)
}

// P8.1, P8.2: a new set has no sharers.
func TestNew(t *testing.T) {
	for _, size := range sizes() {
		wantSharers(t, empty(t, size[0], size[1]))
	}
}

// P8.1: from 1 to 64 cores and from 0 to 8 pointers there may be, and no others.
func TestNewAsSizesMayBe(t *testing.T) {
	for _, cores := range slices.Concat(numbers(70), outside(0), outside(64)) {
		for _, most := range slices.Concat(numbers(14), outside(0), outside(8)) {
			may := 1 <= cores && cores <= 64 && 0 <= most && most <= 8
			want, err := of(cores, most), api.OK
			if !may {
				want, err = sharer.Set{}, api.ErrArg
			}
			if s, e := sharer.New(cores, most); !same(s, want) || e != err {
				t.Fatalf("New %d %d: %+v, %d", cores, most, s, e)
			}
			wantMay(t, of(cores, most), may)
			wantMay(t, all(cores, most), may)
		}
	}
}

// P8.1: the edges of both sizes, written out.
func TestNewAtEdges(t *testing.T) {
	if api.MostCores != 64 {
		t.Fatal(api.MostCores)
	}
	for _, size := range [][2]int{{1, 0}, {1, 8}, {64, 0}, {64, 8}} {
		wantSharers(t, empty(t, size[0], size[1]))
	}
	for _, size := range [][2]int{{0, 0}, {0, 8}, {65, 0}, {65, 8}, {1, -1}, {1, 9}, {64, -1}, {64, 9}, {0, -1}, {65, 9}, {-1, 3}} {
		if s, e := sharer.New(size[0], size[1]); !same(s, sharer.Set{}) || e != api.ErrArg {
			t.Fatalf("New %v: %+v, %d", size, s, e)
		}
	}
}

// P8.1: a core is added ahead of all pointers, behind all, and between two.
func TestAddPlaces(t *testing.T) {
	wantAdd(t, of(6, 3, 2, 4), 0, of(6, 3, 0, 2, 4), api.OK)
	wantAdd(t, of(6, 3, 2, 4), 1, of(6, 3, 1, 2, 4), api.OK)
	wantAdd(t, of(6, 3, 2, 4), 3, of(6, 3, 2, 3, 4), api.OK)
	wantAdd(t, of(6, 3, 2, 4), 5, of(6, 3, 2, 4, 5), api.OK)
	wantAdd(t, of(64, 8, 10, 20, 30, 40, 50, 60, 62), 0, of(64, 8, 0, 10, 20, 30, 40, 50, 60, 62), api.OK)
	wantAdd(t, of(64, 8, 10, 20, 30, 40, 50, 60, 62), 41, of(64, 8, 10, 20, 30, 40, 41, 50, 60, 62), api.OK)
	wantAdd(t, of(64, 8, 10, 20, 30, 40, 50, 60, 62), 63, of(64, 8, 10, 20, 30, 40, 50, 60, 62, 63), api.OK)
}

// P8.1: a core that a set has is not added twice: the set is as it was, also if it is full.
func TestAddAgain(t *testing.T) {
	for _, s := range []sharer.Set{
		of(1, 1, 0), of(1, 8, 0), of(2, 1, 1), of(2, 2, 0, 1), of(5, 3, 0, 4), of(5, 3, 0, 2, 4), of(64, 1, 63), of(64, 4, 0, 1, 63),
		of(64, 8, 1, 3, 9, 27, 31, 32, 62, 63), of(8, 8, 0, 1, 2, 3, 4, 5, 6, 7),
	} {
		for _, core := range s.Pointers {
			wantAdd(t, s, core, s, api.OK)
		}
	}
}

// P8.1: where there is no more room for pointers, all may be, and there are no pointers.
func TestAddToFull(t *testing.T) {
	wantAdd(t, of(2, 1, 0), 1, all(2, 1), api.OK)
	wantAdd(t, of(2, 1, 1), 0, all(2, 1), api.OK)
	wantAdd(t, of(5, 3, 1, 2, 3), 0, all(5, 3), api.OK)
	wantAdd(t, of(5, 3, 0, 2, 4), 3, all(5, 3), api.OK)
	wantAdd(t, of(5, 3, 1, 2, 3), 4, all(5, 3), api.OK)
	wantAdd(t, of(9, 8, 0, 1, 2, 3, 4, 5, 6, 7), 8, all(9, 8), api.OK)
	wantAdd(t, of(64, 8, 0, 1, 2, 3, 4, 5, 6, 63), 62, all(64, 8), api.OK)
	wantAdd(t, of(64, 7, 0, 1, 2, 3, 4, 5, 6), 7, all(64, 7), api.OK)
	wantAdd(t, of(64, 8, 0, 1, 2, 3, 4, 5, 6), 7, of(64, 8, 0, 1, 2, 3, 4, 5, 6, 7), api.OK)
}

// P8.1: without room for any pointer, all may be as soon as one is added, whichever it is.
func TestAddWithoutPointers(t *testing.T) {
	for _, cores := range []int{1, 2, 3, 8, 9, 63, 64} {
		for core := range cores {
			wantAdd(t, empty(t, cores, 0), core, all(cores, 0), api.OK)
		}
	}
}

// P8.1: a set of which all may be stays so, whoever is added.
func TestAddToAll(t *testing.T) {
	for _, size := range sizes() {
		s := all(size[0], size[1])
		for core := range s.Cores {
			wantAdd(t, s, core, s, api.OK)
			wantSharers(t, s, numbers(s.Cores)...)
		}
	}
}

// P8.1: of a single core there is nothing to add behind it.
func TestSingleCore(t *testing.T) {
	for most := range 9 {
		s := of(1, most, 0)
		if most == 0 {
			s = all(1, 0)
		}
		wantAdd(t, empty(t, 1, most), 0, s, api.OK)
		wantAdd(t, s, 0, s, api.OK)
		wantSharers(t, s, 0)
		wantTargets(t, s, []int{0})
	}
}

// P8.1: core 0 and the last one may be added, and those beside them may not.
func TestAddAtEdges(t *testing.T) {
	for _, size := range sizes() {
		cores, most := size[0], size[1]
		s := empty(t, cores, most)
		for _, core := range []int{0, cores - 1} {
			want := of(cores, most, core)
			if most == 0 {
				want = all(cores, most)
			}
			wantAdd(t, s, core, want, api.OK)
		}
		for _, core := range outside(cores) {
			wantAdd(t, s, core, sharer.Set{}, api.ErrName)
		}
	}
}

// P8.1: sets of all numbers of cores from 0 on, added in rising order, in falling order, and in one of neither; those up to Most are pointers.
func TestAddOrders(t *testing.T) {
	for _, size := range sizes() {
		cores, most := size[0], size[1]
		for count := range cores + 1 {
			rising := numbers(count)
			falling := slices.Clone(rising)
			slices.Reverse(falling)
			want := of(cores, most, rising...)
			if count > most {
				want = all(cores, most)
			}
			for _, order := range [][]int{rising, falling, fromBothEnds(rising)} {
				wantSet(t, added(t, cores, most, order...), want)
			}
		}
	}
}

// fromBothEnds are a list's from its ends on, in turn, which neither rises nor falls.
func fromBothEnds(l []int) []int {
	var ends []int
	for i := range l {
		ends = append(ends, l[i/2])
		if i%2 == 1 {
			ends[i] = l[len(l)-1-i/2]
		}
	}
	return ends
}

// P8.2: whom a set with pointers has.
func TestHas(t *testing.T) {
	s := of(8, 4, 0, 3, 7)
	wantHas(t, s, 0, true)
	wantHas(t, s, 1, false)
	wantHas(t, s, 2, false)
	wantHas(t, s, 3, true)
	wantHas(t, s, 4, false)
	wantHas(t, s, 6, false)
	wantHas(t, s, 7, true)
	wantHas(t, s, 8, false)
	wantHas(t, s, -1, false)
}

// P8.2: of all that may be, each core that there is may be, and no other number.
func TestHasOfAll(t *testing.T) {
	for _, size := range sizes() {
		s := all(size[0], size[1])
		wantHas(t, s, 0, true)
		wantHas(t, s, s.Cores-1, true)
		for _, core := range outside(s.Cores) {
			wantHas(t, s, core, false)
		}
		wantSharers(t, s, numbers(s.Cores)...)
	}
}

// P8.2: the sharers of a set with pointers, but none, one, several, and all of them.
func TestTargets(t *testing.T) {
	s := of(9, 5, 0, 2, 5, 8)
	wantTargets(t, s, nil, 0, 2, 5, 8)
	wantTargets(t, s, []int{}, 0, 2, 5, 8)
	wantTargets(t, s, []int{0}, 2, 5, 8)
	wantTargets(t, s, []int{5}, 0, 2, 8)
	wantTargets(t, s, []int{8}, 0, 2, 5)
	wantTargets(t, s, []int{2, 5}, 0, 8)
	wantTargets(t, s, []int{8, 0}, 2, 5)
	wantTargets(t, s, []int{5, 0, 2}, 8)
	wantTargets(t, s, []int{0, 2, 5, 8})
	wantTargets(t, s, []int{8, 5, 2, 0})
	wantTargets(t, s, numbers(9))
}

// P8.2: those of all cores, but none, one, several, and all of them.
func TestTargetsOfAll(t *testing.T) {
	s := all(5, 2)
	wantTargets(t, s, nil, 0, 1, 2, 3, 4)
	wantTargets(t, s, []int{0}, 1, 2, 3, 4)
	wantTargets(t, s, []int{3}, 0, 1, 2, 4)
	wantTargets(t, s, []int{4}, 0, 1, 2, 3)
	wantTargets(t, s, []int{4, 1}, 0, 2, 3)
	wantTargets(t, s, []int{0, 1, 2, 3}, 4)
	wantTargets(t, s, []int{4, 2, 0, 1, 3})
	for _, size := range sizes() {
		s := all(size[0], size[1])
		wantTargets(t, s, nil, numbers(s.Cores)...)
		wantTargets(t, s, numbers(s.Cores))
		wantTargets(t, s, []int{0}, numbers(s.Cores)[1:]...)
		wantTargets(t, s, []int{s.Cores - 1}, numbers(s.Cores-1)...)
	}
}

// P8.2: a set without sharers has none to tell, whoever is left out.
func TestTargetsOfNone(t *testing.T) {
	for _, size := range sizes() {
		s := empty(t, size[0], size[1])
		wantTargets(t, s, nil)
		wantTargets(t, s, []int{0})
		wantTargets(t, s, numbers(s.Cores))
		wantTargets(t, s, outside(s.Cores))
	}
}

// P8.2: to leave out who is no sharer, what is no core, or one twice, leaves out no more.
func TestTargetsButOthers(t *testing.T) {
	s := of(9, 5, 0, 2, 5, 8)
	wantTargets(t, s, []int{1}, 0, 2, 5, 8)
	wantTargets(t, s, []int{7, 1, 3}, 0, 2, 5, 8)
	wantTargets(t, s, []int{9}, 0, 2, 5, 8)
	wantTargets(t, s, []int{-1}, 0, 2, 5, 8)
	wantTargets(t, s, outside(9), 0, 2, 5, 8)
	wantTargets(t, s, []int{2, 2}, 0, 5, 8)
	wantTargets(t, s, []int{2, 8, 2, 8, 8}, 0, 5)
	wantTargets(t, s, []int{-1, 5, 9, 5, 4, -1}, 0, 2, 8)
	wantTargets(t, all(4, 2), outside(4), 0, 1, 2, 3)
	wantTargets(t, all(4, 2), []int{2, 2, 4, -1, 2}, 0, 1, 3)
	wantTargets(t, all(64, 8), append(outside(64), 63), numbers(63)...)
	many := slices.Repeat(append(outside(9), 5, 1), 1000)
	wantTargets(t, s, many, 0, 2, 8)
}

// P8.2: Targets is as Has tells, of all sets of a few cores, whoever of them is left out.
func TestTargetsAsHas(t *testing.T) {
	const cores = 5
	for bits := range 1 << cores {
		sets := []sharer.Set{of(cores, 5, chosen(bits)...), of(cores, 8, chosen(bits)...), all(cores, bits%9)}
		for _, s := range sets {
			for out := range 1 << cores {
				var want []int
				for core := range cores {
					if sharer.Has(s, core) && out>>core%2 == 0 {
						want = append(want, core)
					}
				}
				wantTargets(t, s, chosen(out), want...)
			}
		}
	}
}

// chosen are the places at which a number has bits, rising.
func chosen(bits int) []int {
	var l []int
	for place := range 64 {
		if bits>>place%2 == 1 {
			l = append(l, place)
		}
	}
	return l
}

// P8.2, P8.3: whatever a set had, it is as a new one when it is cleared, and takes as many pointers.
func TestClear(t *testing.T) {
	for _, size := range sizes() {
		cores, most := size[0], size[1]
		for _, s := range []sharer.Set{of(cores, most), all(cores, most), added(t, cores, most, 0), added(t, cores, most, cores-1), added(t, cores, most, numbers(cores)...)} {
			ahead := copyOf(s)
			c := sharer.Clear(s)
			wantSet(t, c, empty(t, cores, most))
			wantSet(t, s, ahead)
			wantSharers(t, c)
			wantSet(t, sharer.Clear(c), c)
			few := numbers(min(cores, most))
			for _, core := range few {
				c, _ = sharer.Add(c, core)
			}
			wantSet(t, c, of(cores, most, few...))
		}
	}
}

// P8.3: who was added may be a sharer, whoever is added then, till the set is cleared.
func TestAddedStay(t *testing.T) {
	for _, size := range sizes() {
		cores, most := size[0], size[1]
		s := empty(t, cores, most)
		for count := range cores {
			// Steps of 5 go through all cores where 5 doesn't divide their number, and through some of them else.
			s, _ = sharer.Add(s, 5*count%cores)
			for before := range count + 1 {
				wantHas(t, s, 5*before%cores, true)
			}
		}
		wantSharers(t, sharer.Clear(s))
	}
}

// P8.3: with no more cores than pointers just those that were added are told, and never all.
func TestNoneElse(t *testing.T) {
	for cores := 1; cores <= 8; cores++ {
		for most := cores; most <= 8; most++ {
			for bits := range 1 << cores {
				these := chosen(bits)
				s := added(t, cores, most, fromBothEnds(these)...)
				wantSet(t, s, of(cores, most, these...))
				wantTargets(t, s, nil, these...)
			}
		}
	}
}
