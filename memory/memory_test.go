package memory_test

import (
	"math"
	"slices"
	"testing"

	"mesne/api"
	"mesne/memory"
)

// sized is a machine of so many words of a line, and lines.
func sized(words, lines int) api.Config {
	return api.Config{
		Cores: 3, Homes: 2, Sets: 4, Ways: 3, Words: words, Lines: lines,
		Pointers: 2, Mshrs: 2, Buffer: 5, Writebacks: 3, Room: [3]int{7, 9, 11},
	}
}

func least() api.Config {
	return api.Config{
		Cores: 1, Homes: 1, Sets: 1, Ways: 1, Words: 1, Lines: 1,
		Pointers: 0, Mshrs: 1, Buffer: 1, Writebacks: 1, Room: [3]int{1, 1, 1},
	}
}

func most() api.Config {
	return api.Config{
		Cores: 64, Homes: 16, Sets: 64, Ways: 8, Words: 8, Lines: 1024,
		Pointers: 8, Mshrs: 8, Buffer: 16, Writebacks: 8, Room: [3]int{64, 64, 64},
	}
}

// machines are the least, the greatest, and such as have 1, 2, 4 and 8 words of a line, one line and many.
func machines() []api.Config {
	l := []api.Config{least(), most()}
	for _, words := range []int{1, 2, 4, 8} {
		for _, lines := range []int{1, 2, 4, 16} {
			l = append(l, sized(words, lines))
		}
	}
	return append(l, sized(1, 1024), sized(2, 512), sized(4, 64))
}

// addresses counts those of a machine.
func addresses(c api.Config) int { return c.Words * c.Lines }

// someOf are some of so many numbers from 0 on, the first and the last ones among them.
func someOf(count int) []int {
	var l []int
	for n := range count {
		if n < 20 || n >= count-20 || n%97 == 0 {
			l = append(l, n)
		}
	}
	return l
}

// values are some that operations may have.
func values() []int {
	return []int{0, 1, -1, 2, -7, 100, math.MaxInt32, math.MinInt32, math.MaxInt32 - 1, math.MinInt32 + 1, 1 << 16, -1 << 16}
}

// greatValues are some that operations may not have: only Write lays them.
func greatValues() []int {
	return []int{1 << 31, -1<<31 - 1, 1 << 32, -1 << 32, math.MaxInt, math.MinInt, math.MaxInt - 1, math.MinInt + 1}
}

func load(addr int) api.Op         { return api.Op{Kind: api.Load, Addr: addr} }
func store(addr, value int) api.Op { return api.Op{Kind: api.Store, Addr: addr, Value: value} }
func swap(addr, value int) api.Op  { return api.Op{Kind: api.Swap, Addr: addr, Value: value} }
func fence() api.Op                { return api.Op{Kind: api.Fence} }

// words are so many of a line, none of them 0, and others for another n.
func words(count, n int) api.Words {
	var w api.Words
	for i := range count {
		w[i] = 100*n + i + 1
	}
	w[n%count] = greatValues()[n%8]
	return w
}

// crowd are words none of which is 0, those behind a line's too.
func crowd(n int) api.Words { return words(api.MostWords, n) }

// blank is a new memory.
func blank(t *testing.T, c api.Config) *memory.Memory {
	t.Helper()
	m, e := memory.New(c)
	if m == nil || e != api.OK {
		t.Fatalf("%+v: %v, %d", c, m, e)
	}
	return m
}

// full is a memory each word of which has a number of its own, none of them 0; and these numbers, by their addresses.
func full(t *testing.T, c api.Config) (*memory.Memory, []int) {
	t.Helper()
	m := blank(t, c)
	var l []int
	for addr := range addresses(c) {
		l = append(l, 3*addr-7)
		wantDo(t, m, store(addr, l[addr]), 0)
	}
	return m, l
}

func wantDo(t *testing.T, m *memory.Memory, x api.Op, want int) {
	t.Helper()
	if n, e := m.Do(x); n != want || e != api.OK {
		t.Fatalf("Do %+v: %d, %d, not %d", x, n, e, want)
	}
}

func wantLine(t *testing.T, m *memory.Memory, line int, want api.Words) {
	t.Helper()
	if w, e := m.Line(line); w != want || e != api.OK {
		t.Fatalf("Line %d: %v, %d, not %v", line, w, e, want)
	}
}

func wantWrite(t *testing.T, m *memory.Memory, line int, words api.Words, want api.Errno) {
	t.Helper()
	if e := m.Write(line, words); e != want {
		t.Fatalf("Write %d %v: %d, not %d", line, words, e, want)
	}
}

func wantWord(t *testing.T, m *memory.Memory, addr, want int) {
	t.Helper()
	if n := m.Word(addr); n != want {
		t.Fatalf("Word %d: %d, not %d", addr, n, want)
	}
}

func wantApply(t *testing.T, c api.Config, words api.Words, x api.Op, left api.Words, told int) {
	t.Helper()
	if w, n, e := memory.Apply(c, words, x); w != left || n != told || e != api.OK {
		t.Fatalf("Apply %v %+v: %v, %d, %d, not %v, %d", words, x, w, n, e, left, told)
	}
}

// lineOf are a line's words, of those of all addresses.
func lineOf(c api.Config, all []int, line int) api.Words {
	var w api.Words
	for i := range c.Words {
		w[i] = all[line*c.Words+i]
	}
	return w
}

// content is the word of each address.
func content(m *memory.Memory, c api.Config) []int {
	var l []int
	for addr := range addresses(c) {
		l = append(l, m.Word(addr))
	}
	return l
}

// wantContent tells that a memory has these words, by address and by line.
func wantContent(t *testing.T, m *memory.Memory, c api.Config, want []int) {
	t.Helper()
	if l := content(m, c); !slices.Equal(l, want) {
		t.Fatalf("%+v: %v, not %v", c, l, want)
	}
	for line := range c.Lines {
		wantLine(t, m, line, lineOf(c, want, line))
	}
}

// P12.1, P12.3: the chapter's example.
func TestExample(t *testing.T) {
	for _, c := range machines() {
		if addresses(c) < 4 {
			continue
		}
		m := blank(t, c)
		wantDo(t, m, store(3, 7), 0)
		wantDo(t, m, swap(3, 9), 7)
		wantDo(t, m, load(3), 9)
	}
}

// P12.2, P12.3: the chapter's example, applied to a line's words.
func TestExampleApplied(t *testing.T) {
	c := sized(4, 2)
	wantApply(t, c, api.Words{1, 2, 3, 4}, store(3, 7), api.Words{1, 2, 3, 7}, 0)
	wantApply(t, c, api.Words{1, 2, 3, 7}, swap(3, 9), api.Words{1, 2, 3, 9}, 7)
	wantApply(t, c, api.Words{1, 2, 3, 9}, load(3), api.Words{1, 2, 3, 9}, 9)
}

// P12.1, P12.2: of a memory that was just made each word is 0, and so is each line's.
func TestNew(t *testing.T) {
	for _, c := range machines() {
		m := blank(t, c)
		wantContent(t, m, c, make([]int, addresses(c)))
		for _, addr := range someOf(addresses(c)) {
			wantDo(t, m, load(addr), 0)
		}
	}
}

// P12.1: a load tells the word at its address, and changes nothing.
func TestLoad(t *testing.T) {
	for _, c := range machines() {
		m, all := full(t, c)
		for addr := range addresses(c) {
			wantDo(t, m, load(addr), all[addr])
			wantDo(t, m, load(addr), all[addr])
		}
		wantContent(t, m, c, all)
	}
}

// P12.1: a store tells 0, not its value, nor what the word was; its value is the word, and all others are as they were.
func TestStore(t *testing.T) {
	for _, c := range machines() {
		m, all := full(t, c)
		for i, addr := range someOf(addresses(c)) {
			for _, v := range values() {
				wantDo(t, m, store(addr, v), 0)
				wantWord(t, m, addr, v)
			}
			all[addr] = values()[i%len(values())]
			wantDo(t, m, store(addr, all[addr]), 0)
		}
		wantContent(t, m, c, all)
	}
}

// P12.1: a swap tells what the word was; its value is the word, and all others are as they were.
func TestSwap(t *testing.T) {
	for _, c := range machines() {
		m, all := full(t, c)
		for i, addr := range someOf(addresses(c)) {
			for _, v := range append(values(), values()[i%len(values())]) {
				wantDo(t, m, swap(addr, v), all[addr])
				wantWord(t, m, addr, v)
				all[addr] = v
			}
		}
		wantContent(t, m, c, all)
	}
}

// P12.1: a swap that lets the word be what it is tells just that.
func TestSwapOfTheSame(t *testing.T) {
	for _, v := range values() {
		m := blank(t, least())
		wantDo(t, m, store(0, v), 0)
		wantDo(t, m, swap(0, v), v)
		wantDo(t, m, load(0), v)
	}
}

// P12.1: a fence tells 0, and changes nothing, not even the word at address 0, which is its own.
func TestFence(t *testing.T) {
	for _, c := range machines() {
		m, all := full(t, c)
		wantDo(t, m, fence(), 0)
		wantDo(t, m, fence(), 0)
		wantContent(t, m, c, all)
		wantDo(t, m, fence(), 0)
		wantDo(t, m, load(0), all[0])
	}
}

// P12.1: operations at the first address and at the last one don't meet, if there are two.
func TestFirstAndLast(t *testing.T) {
	for _, c := range machines() {
		last := addresses(c) - 1
		if last == 0 {
			continue
		}
		m, want := blank(t, c), make([]int, last+1)
		wantDo(t, m, store(0, 5), 0)
		wantDo(t, m, swap(last, -6), 0)
		wantDo(t, m, load(0), 5)
		wantDo(t, m, load(last), -6)
		want[0], want[last] = 5, -6
		wantContent(t, m, c, want)
	}
}

// P12.2: the first line's words are those from address 0 on, the last one's those up to the last address; behind these is 0.
func TestLine(t *testing.T) {
	for _, c := range machines() {
		m, all := full(t, c)
		first, last := lineOf(c, all, 0), lineOf(c, all, c.Lines-1)
		if first[0] != all[0] || last[c.Words-1] != all[len(all)-1] {
			t.Fatalf("%+v: %v, %v", c, first, last)
		}
		wantLine(t, m, 0, first)
		wantLine(t, m, c.Lines-1, last)
		wantContent(t, m, c, all)
	}
}

// P12.2: lines of words that were laid out by hand.
func TestLineByHand(t *testing.T) {
	m := blank(t, sized(2, 4))
	for addr := range 8 {
		wantDo(t, m, store(addr, 10+addr), 0)
	}
	wantLine(t, m, 0, api.Words{10, 11})
	wantLine(t, m, 1, api.Words{12, 13})
	wantLine(t, m, 3, api.Words{16, 17})
	wantWrite(t, m, 1, api.Words{-1, -2}, api.OK)
	wantWord(t, m, 1, 11)
	wantWord(t, m, 2, -1)
	wantWord(t, m, 3, -2)
	wantWord(t, m, 4, 14)
}

// P12.2, P12.3: words that are written are a line's, whatever numbers they are, and 0 again; all other lines are as they were.
func TestWrite(t *testing.T) {
	for _, c := range machines() {
		m, all := full(t, c)
		for _, line := range someOf(c.Lines) {
			for _, w := range []api.Words{{}, words(c.Words, line), words(c.Words, line+1)} {
				wantWrite(t, m, line, w, api.OK)
				wantLine(t, m, line, w)
				copy(all[line*c.Words:], w[:c.Words])
			}
			if line%3 == 0 {
				wantWrite(t, m, line, api.Words{}, api.OK)
				clear(all[line*c.Words : (line+1)*c.Words])
			}
		}
		wantContent(t, m, c, all)
		for _, addr := range someOf(addresses(c)) {
			wantDo(t, m, load(addr), all[addr])
		}
	}
}

// P12.1, P12.2: operations go on with words that were written, also with such as no operation could have stored.
func TestDoOfWritten(t *testing.T) {
	c := sized(4, 2)
	for _, v := range append(values(), greatValues()...) {
		m := blank(t, c)
		wantWrite(t, m, 1, api.Words{v, 1, v, v}, api.OK)
		wantDo(t, m, load(4), v)
		wantDo(t, m, swap(6, -3), v)
		wantDo(t, m, store(7, 8), 0)
		wantContent(t, m, c, []int{0, 0, 0, 0, v, 1, -3, 8})
	}
}

// P12.2: what is applied changes its own word alone, at each word of a line; numbers behind a line's stay as they are.
func TestApply(t *testing.T) {
	for _, c := range machines() {
		for _, addr := range someOf(addresses(c)) {
			at := addr % c.Words
			for i, v := range values() {
				before := crowd(addr + i)
				left := before
				left[at] = v
				wantApply(t, c, before, load(addr), before, before[at])
				wantApply(t, c, before, store(addr, v), left, 0)
				wantApply(t, c, before, swap(addr, v), left, before[at])
			}
		}
	}
}

// P12.2: words are taken as they are, whatever numbers they have.
func TestApplyToAnyWords(t *testing.T) {
	c := sized(2, 4)
	for _, v := range append(values(), greatValues()...) {
		before := api.Words{v, v, v, v, v, v, v, v}
		wantApply(t, c, before, load(5), before, v)
		wantApply(t, c, before, store(5, 12), api.Words{v, 12, v, v, v, v, v, v}, 0)
		wantApply(t, c, before, swap(4, 12), api.Words{12, v, v, v, v, v, v, v}, v)
	}
	wantApply(t, c, api.Words{}, load(7), api.Words{}, 0)
	wantApply(t, c, api.Words{}, swap(7, 0), api.Words{}, 0)
}

// P12.3: what was stored last is loaded, whatever was done at other addresses meanwhile.
func TestStoredLastIsLoaded(t *testing.T) {
	for _, c := range machines() {
		m := blank(t, c)
		for _, addr := range someOf(addresses(c)) {
			wantDo(t, m, store(addr, 1), 0)
			wantDo(t, m, store(addr, addr-50), 0)
			wantDo(t, m, store((addr+1)%addresses(c), 99), 0)
			if addresses(c) > 1 {
				wantDo(t, m, load(addr), addr-50)
			}
			wantDo(t, m, swap(addr, addr), m.Word(addr))
			wantDo(t, m, fence(), 0)
			wantDo(t, m, load(addr), addr)
		}
	}
}
