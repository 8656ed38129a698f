package memory_test

import (
	"slices"
	"testing"

	"mesne/api"
	"mesne/memory"
)

// event is that a word was let be a number.
type event struct{ line, at, value int }

// record is a memory by another way: all that was ever let be, in its order.
type record struct {
	sizes  api.Config
	events []event
}

// word is what a line's word was let be last.
func (r *record) word(line, at int) int {
	for _, v := range slices.Backward(r.events) {
		if v.line == line && v.at == at {
			return v.value
		}
	}
	return 0
}

// words are a line's.
func (r *record) words(line int) api.Words {
	var w api.Words
	for at := range r.sizes.Words {
		w[at] = r.word(line, at)
	}
	return w
}

// do tells what an operation tells.
func (r *record) do(x api.Op) int {
	line, at := x.Addr/r.sizes.Words, x.Addr%r.sizes.Words
	was := r.word(line, at)
	if x.Kind == api.Store || x.Kind == api.Swap {
		r.events = append(r.events, event{line, at, x.Value})
	}
	if x.Kind == api.Load || x.Kind == api.Swap {
		return was
	}
	return 0
}

func (r *record) write(line int, words api.Words) {
	for at := range r.sizes.Words {
		r.events = append(r.events, event{line, at, words[at]})
	}
}

// content is the word of each address.
func (r *record) content() []int {
	var l []int
	for line := range r.sizes.Lines {
		w := r.words(line)
		l = append(l, w[:r.sizes.Words]...)
	}
	return l
}

// call is an operation that is done or, if it has no kind, words of a line that are written.
type call struct {
	op    api.Op
	line  int
	words api.Words
}

// wantDone makes a call of a memory, which answers as its record does; an operation that isn't a fence is applied to its line's words first.
func wantDone(t *testing.T, m *memory.Memory, r *record, k call) {
	t.Helper()
	if k.op.Kind == 0 {
		r.write(k.line, k.words)
		wantWrite(t, m, k.line, k.words, api.OK)
		return
	}
	line := k.op.Addr / r.sizes.Words
	before := r.words(line)
	told := r.do(k.op)
	if k.op.Kind != api.Fence {
		wantApply(t, r.sizes, before, k.op, r.words(line), told)
	}
	wantDo(t, m, k.op, told)
	wantLine(t, m, line, r.words(line))
	wantWord(t, m, k.op.Addr, r.words(line)[k.op.Addr%r.sizes.Words])
}

// fewCalls are all that matter of a small machine.
func fewCalls(c api.Config) []call {
	l := []call{{op: fence()}}
	for addr := range addresses(c) {
		l = append(l, call{op: load(addr)}, call{op: store(addr, 5+addr)}, call{op: swap(addr, -5-addr)}, call{op: store(addr, 0)})
	}
	for line := range c.Lines {
		l = append(l, call{line: line, words: words(c.Words, line)})
	}
	return l
}

// runs goes through all runs of so many calls, the first ones going ahead of the others.
func runs(ahead []call, calls []call, count int, do func(run []call)) {
	do(ahead)
	if count == 0 {
		return
	}
	for _, k := range calls {
		runs(append(slices.Clone(ahead), k), calls, count-1, do)
	}
}

// P12.1, P12.2, P12.3: all short runs of calls of small memories, as by the other way.
func TestAllShortRuns(t *testing.T) {
	for _, x := range []struct{ words, lines, count int }{{1, 1, 4}, {1, 2, 3}, {2, 1, 3}, {2, 2, 3}} {
		c := sized(x.words, x.lines)
		runs(nil, fewCalls(c), x.count, func(run []call) {
			m, r := blank(t, c), &record{sizes: c}
			for _, k := range run {
				wantDone(t, m, r, k)
			}
			wantContent(t, m, c, r.content())
		})
	}
}

// picker hands out numbers below others, the same ones each time.
func picker(seed uint64) func(below int) int {
	return func(below int) int {
		seed = seed*6364136223846793005 + 1442695040888963407
		return int((seed >> 33) % uint64(below))
	}
}

// picked is a call, of one of the first so many addresses or their lines.
func picked(c api.Config, count int, pick func(below int) int) call {
	addr := pick(min(count, addresses(c)))
	switch pick(5) {
	case 0:
		return call{op: load(addr)}
	case 1:
		return call{op: store(addr, values()[pick(len(values()))])}
	case 2:
		return call{op: swap(addr, pick(2000)-1000)}
	case 3:
		return call{op: fence()}
	}
	return call{line: addr / c.Words, words: words(c.Words, pick(50))}
}

// P12.1, P12.2, P12.3: long runs of calls of many memories, as by the other way.
func TestLongRuns(t *testing.T) {
	for i, c := range machines() {
		pick := picker(uint64(i))
		m, r := blank(t, c), &record{sizes: c}
		for range 400 {
			wantDone(t, m, r, picked(c, 40, pick))
		}
		if addresses(c) <= 1024 {
			wantContent(t, m, c, r.content())
		}
	}
}

// P12.3: what is applied to a line's words, one operation behind the other, leaves what is left where they are done.
func TestAppliedIsDone(t *testing.T) {
	for i, c := range machines() {
		pick := picker(uint64(100 + i))
		m, all := full(t, c)
		line := pick(c.Lines)
		w := lineOf(c, all, line)
		for range 100 {
			x := picked(c, c.Words, pick).op
			if x.Kind == 0 || x.Kind == api.Fence {
				continue
			}
			x.Addr += line * c.Words
			left, told, e := memory.Apply(c, w, x)
			if e != api.OK {
				t.Fatalf("%+v: %d", x, e)
			}
			wantDo(t, m, x, told)
			wantLine(t, m, line, left)
			w = left
		}
	}
}

// P12.3: words that are handed on from one memory to another, line by line, are the other one's, at the same addresses.
func TestLinesTellAll(t *testing.T) {
	for _, c := range machines() {
		from, all := full(t, c)
		to := blank(t, c)
		for line := range c.Lines {
			w, _ := from.Line(line)
			wantWrite(t, to, line, w, api.OK)
		}
		wantContent(t, to, c, all)
	}
}

// P12.2, R3: what Line hands out and what was handed to Write may be changed: the memory stays as it is.
func TestWordsShareNothing(t *testing.T) {
	for _, c := range machines() {
		m := blank(t, c)
		w := words(c.Words, 3)
		wantWrite(t, m, 0, w, api.OK)
		w[0] = 0
		wantLine(t, m, 0, words(c.Words, 3))
		first, _ := m.Line(0)
		second, _ := m.Line(0)
		first[0], first[7] = -77, -78
		if second != words(c.Words, 3) {
			t.Fatalf("%v", second)
		}
		wantLine(t, m, 0, words(c.Words, 3))
		wantDo(t, m, store(0, 12), 0)
		if second != words(c.Words, 3) {
			t.Fatalf("%v", second)
		}
	}
}

// P12.2, R3: words to which something was applied are as they were.
func TestApplySharesNothing(t *testing.T) {
	c := sized(4, 4)
	w := crowd(5)
	left, _, _ := memory.Apply(c, w, store(6, 12))
	if w != crowd(5) || left[2] != 12 {
		t.Fatalf("%v, %v", w, left)
	}
	left[0] = 13
	if w != crowd(5) {
		t.Fatalf("%v", w)
	}
}

// P12.1, R5: two memories of one machine share nothing, nor does one that is made later.
func TestTwoMemoriesShareNothing(t *testing.T) {
	for i, c := range machines() {
		pick := picker(uint64(200 + i))
		m, n := blank(t, c), blank(t, c)
		r, s := &record{sizes: c}, &record{sizes: c}
		for range 100 {
			wantDone(t, m, r, picked(c, 20, pick))
			wantDone(t, n, s, picked(c, 20, pick))
		}
		if addresses(c) <= 1024 {
			wantContent(t, m, c, r.content())
			wantContent(t, n, c, s.content())
		}
		wantContent(t, blank(t, c), c, make([]int, addresses(c)))
	}
}

// R4: the same calls answer the same.
func TestSameCallsAnswerTheSame(t *testing.T) {
	c := sized(4, 16)
	var first []int
	for round := range 3 {
		pick := picker(11)
		m, r := blank(t, c), &record{sizes: c}
		for range 300 {
			wantDone(t, m, r, picked(c, 64, pick))
		}
		if round == 0 {
			first = content(m, c)
		}
		wantContent(t, m, c, first)
	}
}
