package sharer_test

import (
	"slices"
	"testing"

	"mesne/api"
	"mesne/sharer"
)

// record is a set by another way: all that was ever added since it was cleared, in the order in which it was.
type record struct {
	cores, most int
	adds        []int
}

// distinct are those that were added, rising.
func (r record) distinct() []int {
	l := slices.Clone(r.adds)
	slices.Sort(l)
	return slices.Compact(l)
}

// set is what the record comes to.
func (r record) set() sharer.Set {
	if l := r.distinct(); len(l) <= r.most {
		return of(r.cores, r.most, l...)
	}
	return all(r.cores, r.most)
}

// sharers are those that may be, rising.
func (r record) sharers() []int {
	if l := r.distinct(); len(l) <= r.most {
		return l
	}
	return numbers(r.cores)
}

// P8.1, P8.2, P8.3: all short runs of adds, and of clearing among them, of small sets, as by the other way.
func TestAllRunsOfSmallSets(t *testing.T) {
	const steps = 5
	for cores := 1; cores <= 4; cores++ {
		for most := range 5 {
			for _, run := range lists(steps, 0, cores) {
				s, r := empty(t, cores, most), record{cores: cores, most: most}
				for _, core := range run {
					if core == cores {
						s, r.adds = sharer.Clear(s), nil
						continue
					}
					next, e := sharer.Add(s, core)
					if e != api.OK {
						t.Fatalf("%+v: Add %d: %d", s, core, e)
					}
					s, r.adds = next, append(r.adds, core)
				}
				wantSet(t, s, r.set())
				wantTargets(t, s, nil, r.sharers()...)
			}
		}
	}
}

// picker hands out numbers below others, the same ones each time.
func picker(seed uint64) func(below int) int {
	return func(below int) int {
		seed = seed*6364136223846793005 + 1442695040888963407
		return int((seed >> 33) % uint64(below))
	}
}

// P8.1, P8.2, P8.3: many adds to sets of all sizes, and some clearing, as by the other way; cores that there are not among them.
func TestManyRuns(t *testing.T) {
	for i, size := range sizes() {
		cores, most := size[0], size[1]
		pick := picker(uint64(i))
		s, r := empty(t, cores, most), record{cores: cores, most: most}
		for range 400 {
			if core := pick(cores+2) - 1; pick(8) == 0 {
				s, r.adds = sharer.Clear(s), nil
			} else if core < 0 || core == cores {
				wantAdd(t, s, core, sharer.Set{}, api.ErrName)
			} else {
				r.adds = append(r.adds, core)
				wantAdd(t, s, core, r.set(), api.OK)
				s, _ = sharer.Add(s, core)
			}
			wantSet(t, s, r.set())
			wantSharers(t, s, r.sharers()...)
			wantTargetsBut(t, s, r, []int{pick(cores), pick(cores+2) - 1, pick(cores)})
		}
	}
}

func wantTargetsBut(t *testing.T, s sharer.Set, r record, but []int) {
	t.Helper()
	for count := range len(but) + 1 {
		want := slices.DeleteFunc(slices.Clone(r.sharers()), func(core int) bool { return slices.Contains(but[:count], core) })
		wantTargets(t, s, but[:count], want...)
	}
}

// roomy is a set whose list has room behind its pointers, and that whole list.
func roomy(cores, most int, pointers ...int) (sharer.Set, []int) {
	whole := slices.Repeat([]int{-77}, 12)
	copy(whole, pointers)
	return of(cores, most, whole[:len(pointers)]...), whole
}

// P8.1, R3: the set to which a core is added stays as it was, what lies behind its pointers too, and the set that is handed out shares nothing with it.
func TestAddSharesNothing(t *testing.T) {
	for _, pointers := range [][]int{nil, {4}, {2, 4}, {1, 2, 4}, {1, 2, 4, 6, 7, 8}} {
		for core := range 10 {
			s, whole := roomy(10, 6, pointers...)
			ahead := slices.Clone(whole)
			more, e := sharer.Add(s, core)
			if e != api.OK || !slices.Equal(whole, ahead) || !slices.Equal(s.Pointers, pointers) {
				t.Fatalf("%v: Add %d: %d, and %v", pointers, core, e, whole)
			}
			want := copyOf(more)
			for i := range whole {
				whole[i] = 99
			}
			wantSet(t, more, want)
			blot(more.Pointers)
			if slices.Contains(whole, -5) {
				t.Fatalf("%v: Add %d: %v", pointers, core, whole)
			}
		}
	}
}

// blot writes over a list, and over what there is room for behind it.
func blot(l []int) {
	l = l[:cap(l)]
	for i := range l {
		l[i] = -5
	}
}

// P8.1, R3: sets that were made of one set, one behind the other or each of the same, share nothing.
func TestSetsAreApart(t *testing.T) {
	chain := []sharer.Set{empty(t, 8, 6)}
	for _, core := range []int{5, 2, 7, 0, 7, 3, 1, 6} {
		next, _ := sharer.Add(chain[len(chain)-1], core)
		chain = append(chain, next)
	}
	for core := range 8 {
		next, _ := sharer.Add(chain[2], core)
		chain = append(chain, next)
	}
	for i := range chain {
		var ahead []sharer.Set
		for _, s := range chain {
			ahead = append(ahead, copyOf(s))
		}
		blot(chain[i].Pointers)
		for j, s := range chain {
			if j != i {
				wantSet(t, s, ahead[j])
			}
		}
		copy(chain[i].Pointers, ahead[i].Pointers)
	}
}

// P8.2, R3: what Targets hands out shares nothing with the set, nor with those that are left out, and changes neither.
func TestTargetsShareNothing(t *testing.T) {
	for _, but := range [][]int{nil, {3}, {7, 1}, {9, 9, 2, -1}} {
		s, whole := roomy(10, 6, 1, 2, 4, 7, 9)
		left := append(make([]int, 0, 20), but...)
		behind := slices.Clone(left[:cap(left)])
		ahead := slices.Clone(whole)
		for _, set := range []sharer.Set{s, all(10, 6)} {
			first, second := sharer.Targets(set, left...), sharer.Targets(set, left...)
			want := slices.Clone(second)
			blot(first)
			if !slices.Equal(second, want) || !slices.Equal(whole, ahead) || !slices.Equal(left[:cap(left)], behind) || !slices.Equal(left, but) {
				t.Fatalf("but %v: %v, %v, %v", but, second, whole, left)
			}
		}
		kept := sharer.Targets(s, left...)
		want := slices.Clone(kept)
		blot(whole)
		blot(left)
		if !slices.Equal(kept, want) {
			t.Fatalf("but %v: %v, not %v", but, kept, want)
		}
	}
}

// P8.2, R3: Clear changes no set, and what it hands out takes cores on its own.
func TestClearSharesNothing(t *testing.T) {
	s, whole := roomy(10, 6, 1, 2, 4)
	ahead := slices.Clone(whole)
	c := sharer.Clear(s)
	// What there is room for behind its pointers, if there is any, is its own, too.
	blot(c.Pointers)
	c, _ = sharer.Add(c, 9)
	c, _ = sharer.Add(c, 0)
	wantSet(t, c, of(10, 6, 0, 9))
	blot(c.Pointers)
	if !slices.Equal(whole, ahead) {
		t.Fatal(whole)
	}
	wantSet(t, s, of(10, 6, 1, 2, 4))
}

// R6: a list of pointers that is empty is as none.
func TestEmptyIsNone(t *testing.T) {
	s := sharer.Set{Cores: 3, Most: 1, Pointers: []int{}}
	wantSharers(t, s)
	wantAdd(t, s, 2, of(3, 1, 2), api.OK)
	s.All = true
	wantSharers(t, s, 0, 1, 2)
	wantAdd(t, s, 2, all(3, 1), api.OK)
}

// R4, R5: the same calls answer the same, whatever was called ahead of them.
func TestSameCallsAnswerTheSame(t *testing.T) {
	var first []sharer.Set
	for round := range 3 {
		pick := picker(11)
		s := empty(t, 12, 5)
		var l []sharer.Set
		for range 60 {
			s, _ = sharer.Add(s, pick(12))
			if pick(7) == 0 {
				s = sharer.Clear(s)
			}
			l = append(l, s)
		}
		if round == 0 {
			first = l
		}
		if !slices.EqualFunc(l, first, same) {
			t.Fatalf("%v, not %v", l, first)
		}
	}
}
