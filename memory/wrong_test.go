package memory_test

import (
	"math"
	"testing"

	"mesne/api"
	"mesne/memory"
	"mesne/shape"
)

// outside are numbers that are none of the first so many from 0 on.
func outside(count int) []int {
	return []int{
		-1, count, -2, -3, count + 1, count + 2, 2 * count, 2*count + 1, -count, -count - 1, count + 64, count + 8192, -64, -1024, -8192,
		1 << 31, 1<<31 + 1, 1 << 32, 1<<32 + 1, 1 << 58, 1 << 60, 1 << 61, 1<<61 + 1, 1 << 62, 1<<62 + 1, -1 << 31, -1 << 32, -1 << 61, -1 << 62,
		math.MinInt, math.MinInt + 1, math.MaxInt - 1, math.MaxInt,
	}
}

// sizes are a machine's sizes, each with a way to set it.
func sizes() []func(c *api.Config, n int) {
	return []func(c *api.Config, n int){
		func(c *api.Config, n int) { c.Cores = n },
		func(c *api.Config, n int) { c.Homes = n },
		func(c *api.Config, n int) { c.Sets = n },
		func(c *api.Config, n int) { c.Ways = n },
		func(c *api.Config, n int) { c.Words = n },
		func(c *api.Config, n int) { c.Lines = n },
		func(c *api.Config, n int) { c.Pointers = n },
		func(c *api.Config, n int) { c.Mshrs = n },
		func(c *api.Config, n int) { c.Buffer = n },
		func(c *api.Config, n int) { c.Writebacks = n },
		func(c *api.Config, n int) { c.Room[0] = n },
		func(c *api.Config, n int) { c.Room[1] = n },
		func(c *api.Config, n int) { c.Room[2] = n },
	}
}

// wrongSizes are sizes that may not be, each of them wrong in turn, above or below.
func wrongSizes(t *testing.T) []api.Config {
	t.Helper()
	wrong := []api.Config{{}, {Words: 4, Lines: 16}}
	for _, base := range []api.Config{least(), sized(4, 16), most()} {
		for i, set := range sizes() {
			before := len(wrong)
			for _, n := range []int{math.MinInt, -2, -1, 0, 3, 9, 17, 65, 128, 2048, 1 << 32, 1 << 62, math.MaxInt} {
				c := base
				set(&c, n)
				if shape.Check(c) != api.OK {
					wrong = append(wrong, c)
				}
			}
			if len(wrong)-before < 6 {
				t.Fatalf("size %d: %d wrong ones", i, len(wrong)-before)
			}
		}
	}
	return wrong
}

// wrongOps are operations that may not be, on no machine.
func wrongOps() []api.Op {
	l := []api.Op{
		{}, {Addr: 3}, {Value: 7}, {Kind: 5}, {Kind: 6}, {Kind: -1}, {Kind: 100}, {Kind: 1<<32 + api.Load}, {Kind: math.MinInt}, {Kind: math.MaxInt},
		{Kind: api.Fence, Addr: 1}, {Kind: api.Fence, Value: 1}, {Kind: api.Fence, Value: -1}, {Kind: api.Fence, Addr: -1}, {Kind: api.Fence, Addr: 2, Value: 2},
		{Kind: api.Load, Value: 1}, {Kind: api.Load, Value: -1}, {Kind: api.Load, Value: math.MaxInt}, {Kind: api.Load, Value: math.MinInt},
	}
	for _, v := range greatValues() {
		l = append(l, store(0, v), swap(0, v))
	}
	return l
}

// wantNotDone tells that an operation isn't done.
func wantNotDone(t *testing.T, m *memory.Memory, x api.Op) {
	t.Helper()
	if n, e := m.Do(x); n != 0 || e != api.ErrArg {
		t.Fatalf("Do %+v: %d, %d", x, n, e)
	}
}

// wantNotApplied tells that an operation is applied to no words.
func wantNotApplied(t *testing.T, c api.Config, x api.Op) {
	t.Helper()
	for _, words := range []api.Words{{}, crowd(3), words(1, 7)} {
		if w, n, e := memory.Apply(c, words, x); w != (api.Words{}) || n != 0 || e != api.ErrArg {
			t.Fatalf("Apply %+v %v %+v: %v, %d, %d", c, words, x, w, n, e)
		}
	}
}

// steady does something with memories of several machines, new and full, which are as they were behind it.
func steady(t *testing.T, do func(m *memory.Memory, c api.Config)) {
	t.Helper()
	for _, c := range machines() {
		m, all := full(t, c)
		do(m, c)
		wantContent(t, m, c, all)
		m = blank(t, c)
		do(m, c)
		wantContent(t, m, c, make([]int, addresses(c)))
	}
}

// P12.1: of a machine that may not be there is no memory, whichever of its sizes is wrong, above or below.
func TestNewOfWrongSizes(t *testing.T) {
	for _, c := range wrongSizes(t) {
		if m, e := memory.New(c); m != nil || e != api.ErrArg {
			t.Fatalf("%+v: %v, %d", c, m, e)
		}
	}
}

// P12.2: of a machine that may not be nothing is applied.
func TestApplyOfWrongSizes(t *testing.T) {
	for _, c := range wrongSizes(t) {
		for _, x := range []api.Op{load(0), store(0, 5), swap(0, -5), fence(), {}} {
			wantNotApplied(t, c, x)
		}
	}
}

// P12.1, P12.2: an operation that may not be is neither done nor applied.
func TestWrongOps(t *testing.T) {
	steady(t, func(m *memory.Memory, c api.Config) {
		for _, x := range wrongOps() {
			wantNotDone(t, m, x)
			wantNotApplied(t, c, x)
		}
	})
}

// P12.1, P12.2: an operation at an address that the machine hasn't is neither done nor applied, also if a greater machine has it.
func TestNoSuchAddress(t *testing.T) {
	steady(t, func(m *memory.Memory, c api.Config) {
		for _, addr := range append(outside(addresses(c)), 8192, 8193) {
			for _, x := range []api.Op{load(addr), store(addr, 0), store(addr, 9), swap(addr, 0), swap(addr, 9)} {
				wantNotDone(t, m, x)
				wantNotApplied(t, c, x)
			}
		}
		for addr := addresses(c); addr < 8192; addr += 31 {
			wantNotDone(t, m, store(addr, 9))
			wantNotApplied(t, c, store(addr, 9))
		}
	})
}

// P12.1: at an address that the machine hasn't the word is 0.
func TestWordOfNoAddress(t *testing.T) {
	steady(t, func(m *memory.Memory, c api.Config) {
		for _, addr := range outside(addresses(c)) {
			wantWord(t, m, addr, 0)
		}
	})
}

// P12.2: a fence is done, but not applied.
func TestApplyOfFence(t *testing.T) {
	steady(t, func(m *memory.Memory, c api.Config) {
		wantNotApplied(t, c, fence())
		wantDo(t, m, fence(), 0)
	})
}

// P12.2: a line that there is not is neither told nor written.
func TestNoSuchLine(t *testing.T) {
	steady(t, func(m *memory.Memory, c api.Config) {
		for _, line := range outside(c.Lines) {
			if w, e := m.Line(line); w != (api.Words{}) || e != api.ErrArg {
				t.Fatalf("Line %d: %v, %d", line, w, e)
			}
			for _, w := range []api.Words{{}, words(c.Words, 3), crowd(3)} {
				wantWrite(t, m, line, w, api.ErrArg)
			}
		}
	})
}

// P12.2: words of which one behind a line's is not 0 aren't written, whichever it is; those of a line of all words have none behind them.
func TestWriteOfTooMany(t *testing.T) {
	steady(t, func(m *memory.Memory, c api.Config) {
		for at := c.Words; at < api.MostWords; at++ {
			for _, v := range append(values()[1:], greatValues()...) {
				for _, w := range []api.Words{{}, words(c.Words, at)} {
					w[at] = v
					wantWrite(t, m, 0, w, api.ErrArg)
					wantWrite(t, m, c.Lines-1, w, api.ErrArg)
				}
			}
		}
	})
}

// P12.2: words that go on as far as there are any are only written, if a line has that many.
func TestWriteOfAllWords(t *testing.T) {
	for _, c := range machines() {
		m := blank(t, c)
		if c.Words < api.MostWords {
			wantWrite(t, m, 0, crowd(2), api.ErrArg)
			wantLine(t, m, 0, api.Words{})
			continue
		}
		wantWrite(t, m, 0, crowd(2), api.OK)
		wantLine(t, m, 0, crowd(2))
	}
}
