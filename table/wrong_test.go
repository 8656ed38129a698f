package table_test

import (
	"math"
	"testing"

	"mesne/api"
	"mesne/sharer"
	"mesne/table"
)

// outside are numbers that are none of the first so many from 0 on.
func outside(count int) []int {
	return []int{
		-1, count, -2, -3, count + 1, count + 2, 2*count + 1, -count, -count - 1, count + 64, -64, count + 256, -256,
		1 << 31, 1<<31 + 1, 1 << 32, 1<<32 + 1, 1 << 62, -1 << 31, -1 << 32, -1 << 62,
		math.MinInt, math.MinInt + 1, math.MaxInt - 1, math.MaxInt,
	}
}

// wrongSets are sets of sharers that may not be, for each of the reasons that chapter 8 gives.
func wrongSets() []sharer.Set {
	return []sharer.Set{
		{}, {All: true}, of(0, 2), of(65, 2), of(-1, 2), of(math.MinInt, 2), of(math.MaxInt, 2), all(0, 2), all(65, 2), all(math.MaxInt, 0),
		of(4, -1), of(4, 9), of(4, math.MinInt), of(4, math.MaxInt), all(4, -1), all(4, 9),
		of(4, 0, 1), of(4, 1, 1, 2), of(4, 2, 0, 1, 2), of(64, 8, 0, 1, 2, 3, 4, 5, 6, 7, 8),
		of(4, 2, 1, 1), of(4, 2, 2, 1), of(4, 4, 0, 1, 3, 2), of(4, 4, 0, 2, 2, 3),
		of(4, 2, -1), of(4, 2, -1, 0), of(4, 2, math.MinInt), of(4, 2, 4), of(4, 2, 0, 4), of(4, 2, 64), of(4, 2, math.MaxInt), of(64, 8, 64), of(1, 1, 1),
		{Cores: 4, Most: 2, All: true, Pointers: []int{0}}, {Cores: 4, Most: 4, All: true, Pointers: []int{0, 1, 2, 3}},
	}
}

// wrongKinds are kinds that are no request's.
func wrongKinds() []int {
	return []int{
		0, -1, -2, -3, api.FwdS, api.FwdM, api.Inv, api.Data, api.Grant, api.Ack, api.PutAck, api.Done, 12, 13, 100,
		256 + api.GetS, 1<<32 + api.GetS, 1<<32 + api.GetM, math.MinInt, math.MinInt + api.Put, math.MaxInt,
	}
}

func requests() []int { return []int{api.GetS, api.GetM, api.Put} }

// P13.1: of numbers that sharer.New refuses there is no entry, and the error is the same.
func TestNewOfWrongNumbers(t *testing.T) {
	wrong := 0
	for _, cores := range append([]int{0, 1, 4, 64, 65}, outside(64)...) {
		for _, pointers := range append([]int{0, 1, 8, 9}, outside(8)...) {
			_, want := sharer.New(cores, pointers)
			e, err := table.New(cores, pointers)
			if err != want || err != api.OK && !sameEntry(e, table.Entry{}) {
				t.Fatalf("New %d, %d: %+v, %d, not %d", cores, pointers, e, err, want)
			}
			if may := 1 <= cores && cores <= 64 && 0 <= pointers && pointers <= 8; may != (err == api.OK) || !may && err != api.ErrArg {
				t.Fatalf("New %d, %d: %d", cores, pointers, err)
			}
			if err != api.OK {
				wrong++
			}
		}
	}
	if wrong < 300 {
		t.Fatalf("%d wrong ones", wrong)
	}
}

// P13.1: no entry has an owner that is no core, and isn't -1.
func TestMayOfWrongOwners(t *testing.T) {
	for _, cores := range few() {
		for _, s := range shares(cores) {
			for _, owner := range outside(cores) {
				wantMay(t, owned(owner, s), owner == -1)
			}
		}
	}
}

// P13.1: no entry has sharers that may not be, whoever owns it.
func TestMayOfWrongSharers(t *testing.T) {
	for _, s := range wrongSets() {
		for _, owner := range append(outside(4), 0, 1, 3, 63) {
			wantMay(t, owned(owner, s), false)
		}
	}
}

// P13.2: nothing comes of a request where the entry may not be, also where there would be none in the table.
func TestNextOfWrongEntries(t *testing.T) {
	for _, kind := range requests() {
		for _, r := range []int{0, 1, 3} {
			for _, s := range wrongSets() {
				for owner := -1; owner < 4; owner++ {
					wantRefused(t, owned(owner, s), ask(kind, r), api.ErrArg)
				}
			}
			for _, owner := range outside(4) {
				if owner != -1 {
					wantRefused(t, owned(owner, of(4, 2, 0, 3)), ask(kind, r), api.ErrArg)
					wantRefused(t, owned(owner, all(4, 2)), ask(kind, r), api.ErrArg)
				}
			}
		}
	}
}

// P13.2: nothing comes of a message that is no request.
func TestNextOfWrongKinds(t *testing.T) {
	for _, kind := range wrongKinds() {
		for _, e := range smallEntries(3, 2) {
			for r := range 3 {
				wantRefused(t, e, ask(kind, r), api.ErrArg)
			}
		}
	}
}

// P13.2: nothing comes of a request of one that is no core, also where -1, as the entry has it, is nobody.
func TestNextOfWrongAskers(t *testing.T) {
	for _, kind := range requests() {
		for _, cores := range few() {
			for _, s := range shares(cores) {
				for _, r := range outside(cores) {
					wantRefused(t, owned(-1, s), ask(kind, r), api.ErrArg)
					wantRefused(t, owned(cores-1, s), ask(kind, r), api.ErrArg)
				}
			}
		}
	}
}

// P13.2: several of these at once are one error.
func TestNextOfSeveralWrongs(t *testing.T) {
	for _, kind := range append(wrongKinds(), requests()...) {
		for _, owner := range outside(4) {
			// Who asks and who owns may be one, and yet no core.
			wantRefused(t, owned(owner, of(4, 2)), ask(kind, owner), api.ErrArg)
			wantRefused(t, owned(owner, of(4, 2, 4)), ask(kind, owner), api.ErrArg)
			wantRefused(t, owned(3, of(4, 2, 2, 1)), ask(kind, owner), api.ErrArg)
		}
	}
	for _, kind := range wrongKinds() {
		wantRefused(t, owned(2, of(4, 2, 2, 1)), ask(kind, 2), api.ErrArg)
		wantRefused(t, owned(4, of(4, 2)), ask(kind, 2), api.ErrArg)
		wantRefused(t, table.Entry{}, ask(kind, 0), api.ErrArg)
		wantRefused(t, table.Entry{}, api.Message{}, api.ErrArg)
	}
}

// P13.2: ErrTable is told where all else is right, and nowhere else.
func TestErrTableAlone(t *testing.T) {
	for _, cores := range few() {
		for _, s := range shares(cores) {
			for owner := -1; owner < cores; owner++ {
				for _, kind := range requests() {
					for _, r := range []int{0, cores / 2, cores - 1} {
						want := api.OK
						if kind == api.GetS && owner == r {
							want = api.ErrTable
						}
						if _, err := table.Next(owned(owner, s), ask(kind, r), crowd(1)); err != want {
							t.Fatalf("owner %d of %+v: kind %d of %d: %d", owner, s, kind, r, err)
						}
					}
				}
			}
		}
	}
}
