package split_test

import (
	"math"
	"slices"
	"testing"

	"mesne/api"
	"mesne/shape"
	"mesne/split"
)

// sized are sizes that may be, of so many words, homes, sets and lines.
func sized(words, homes, sets, lines int) api.Config {
	return api.Config{
		Cores: 3, Homes: homes, Sets: sets, Ways: 3, Words: words, Lines: lines,
		Pointers: 2, Mshrs: 2, Buffer: 5, Writebacks: 3, Room: [3]int{7, 9, 11},
	}
}

func example() api.Config { return sized(4, 2, 4, 16) }

// all are all the sizes that may be, as far as addresses hang on them.
func all() []api.Config {
	var l []api.Config
	for words := 1; words <= 8; words *= 2 {
		for homes := 1; homes <= 16; homes *= 2 {
			for sets := 1; sets <= 64; sets *= 2 {
				for lines := 1; lines <= 1024; lines *= 2 {
					l = append(l, sized(words, homes, sets, lines))
				}
			}
		}
	}
	return l
}

// wrong are sizes that may not be, one of them wrong in each but the first, with numbers that cut well beside such as do not.
func wrong() []api.Config {
	l := []api.Config{{}}
	for _, set := range []func(c *api.Config, n int){
		func(c *api.Config, n int) { c.Cores = n },
		func(c *api.Config, n int) { c.Homes = n },
		func(c *api.Config, n int) { c.Sets = n },
		func(c *api.Config, n int) { c.Ways = n },
		func(c *api.Config, n int) { c.Words = n },
		func(c *api.Config, n int) { c.Lines = n },
		func(c *api.Config, n int) { c.Pointers = n },
		func(c *api.Config, n int) { c.Mshrs = n },
		func(c *api.Config, n int) { c.Buffer = n },
		func(c *api.Config, n int) { c.Writebacks = n },
		func(c *api.Config, n int) { c.Room[0] = n },
		func(c *api.Config, n int) { c.Room[1] = n },
		func(c *api.Config, n int) { c.Room[2] = n },
	} {
		for _, n := range []int{math.MinInt, -4, -1, 0, 3, 2048, 1 << 40, math.MaxInt} {
			c := example()
			set(&c, n)
			if shape.Check(c) != api.OK {
				l = append(l, c)
			}
		}
	}
	return l
}

// outside are numbers that are none of the first so many.
func outside(count int) []int {
	return []int{
		math.MinInt, math.MinInt + 1, math.MinInt32, -count, -2, -1,
		count, count + 1, 2 * count, 1 << 31, 1 << 32, 1<<32 + 1, 1 << 56, 1 << 57, 1 << 58, 1<<58 + 1,
		1 << 61, 1 << 62, 1<<62 + 1, math.MaxInt - 1, math.MaxInt,
	}
}

func wantAddr(t *testing.T, c api.Config, addr, line, word int, err api.Errno) {
	t.Helper()
	if l, w, e := split.Addr(c, addr); l != line || w != word || e != err {
		t.Errorf("%v: Addr %d: %d, %d, %d, not %d, %d, %d", c, addr, l, w, e, line, word, err)
	}
}

func wantLine(t *testing.T, c api.Config, line, home, set, tag int, err api.Errno) {
	t.Helper()
	if h, s, g, e := split.Line(c, line); h != home || s != set || g != tag || e != err {
		t.Errorf("%v: Line %d: %d, %d, %d, %d, not %d, %d, %d, %d", c, line, h, s, g, e, home, set, tag, err)
	}
}

func wantJoin(t *testing.T, c api.Config, line, word, addr int, err api.Errno) {
	t.Helper()
	if a, e := split.Join(c, line, word); a != addr || e != err {
		t.Errorf("%v: Join %d, %d: %d, %d, not %d, %d", c, line, word, a, e, addr, err)
	}
}

func wantTagged(t *testing.T, c api.Config, set, tag, line int, err api.Errno) {
	t.Helper()
	if l, e := split.Tagged(c, set, tag); l != line || e != err {
		t.Errorf("%v: Tagged %d, %d: %d, %d, not %d, %d", c, set, tag, l, e, line, err)
	}
}

func wantLines(t *testing.T, c api.Config, home int, want ...int) {
	t.Helper()
	if l := split.Lines(c, home); !slices.Equal(l, want) {
		t.Errorf("%v: Lines %d: %v, not %v", c, home, l, want)
	}
}

// P2.1, P2.2: the chapter's example, and what it says the other way round.
func TestExample(t *testing.T) {
	c := example()
	wantAddr(t, c, 45, 11, 1, api.OK)
	wantLine(t, c, 11, 1, 3, 2, api.OK)
	wantJoin(t, c, 11, 1, 45, api.OK)
	wantTagged(t, c, 3, 2, 11, api.OK)
	wantLines(t, c, 0, 0, 2, 4, 6, 8, 10, 12, 14)
	wantLines(t, c, 1, 1, 3, 5, 7, 9, 11, 13, 15)
}

// P2.1: Addr at 0, at the last address, one beyond it, and below 0.
func TestAddrAtEdges(t *testing.T) {
	c := example()
	wantAddr(t, c, 0, 0, 0, api.OK)
	wantAddr(t, c, 3, 0, 3, api.OK)
	wantAddr(t, c, 4, 1, 0, api.OK)
	wantAddr(t, c, 63, 15, 3, api.OK)
	wantAddr(t, c, 64, 0, 0, api.ErrArg)
	wantAddr(t, c, -1, 0, 0, api.ErrArg)
	for _, c := range all() {
		size := c.Words * c.Lines
		wantAddr(t, c, 0, 0, 0, api.OK)
		wantAddr(t, c, size-1, c.Lines-1, c.Words-1, api.OK)
		for _, addr := range outside(size) {
			wantAddr(t, c, addr, 0, 0, api.ErrArg)
		}
	}
}

// P2.1: every address's line and word, by counting.
func TestAddrOfAll(t *testing.T) {
	for words := 1; words <= 8; words *= 2 {
		for lines := 1; lines <= 1024; lines *= 2 {
			c, addr := sized(words, 2, 4, lines), 0
			for line := range lines {
				for word := range words {
					wantAddr(t, c, addr, line, word, api.OK)
					addr++
				}
			}
		}
	}
}

// P2.1: Line at 0, at the last line, one beyond it, and below 0.
func TestLineAtEdges(t *testing.T) {
	c := example()
	wantLine(t, c, 0, 0, 0, 0, api.OK)
	wantLine(t, c, 1, 1, 1, 0, api.OK)
	wantLine(t, c, 3, 1, 3, 0, api.OK)
	wantLine(t, c, 4, 0, 0, 1, api.OK)
	wantLine(t, c, 15, 1, 3, 3, api.OK)
	wantLine(t, c, 16, 0, 0, 0, api.ErrArg)
	wantLine(t, c, -1, 0, 0, 0, api.ErrArg)
	for _, c := range all() {
		last := c.Lines - 1
		wantLine(t, c, 0, 0, 0, 0, api.OK)
		wantLine(t, c, last, last%c.Homes, last%c.Sets, last/c.Sets, api.OK)
		for _, line := range outside(c.Lines) {
			wantLine(t, c, line, 0, 0, 0, api.ErrArg)
		}
	}
}

// P2.1: every line's home, set and tag.
func TestLineOfAll(t *testing.T) {
	for _, c := range all() {
		for line := range c.Lines {
			wantLine(t, c, line, line%c.Homes, line%c.Sets, line/c.Sets, api.OK)
		}
	}
}

// P2.1: where there are more homes, or sets, than lines, a line is its own home, or set, and its tag is 0.
func TestLineOfFewLines(t *testing.T) {
	c := sized(2, 16, 64, 8)
	for line := range 8 {
		wantLine(t, c, line, line, line, 0, api.OK)
		wantTagged(t, c, line, 0, line, api.OK)
		wantTagged(t, c, line, 1, 0, api.ErrArg)
	}
	wantLine(t, c, 8, 0, 0, 0, api.ErrArg)
	for set := 8; set < 64; set++ {
		wantTagged(t, c, set, 0, 0, api.ErrArg)
	}
}

// P2.1: Join at the first and last line and word, beyond these, and below 0.
func TestJoinAtEdges(t *testing.T) {
	c := example()
	wantJoin(t, c, 0, 0, 0, api.OK)
	wantJoin(t, c, 0, 3, 3, api.OK)
	wantJoin(t, c, 15, 0, 60, api.OK)
	wantJoin(t, c, 15, 3, 63, api.OK)
	wantJoin(t, c, 16, 0, 0, api.ErrArg)
	wantJoin(t, c, -1, 0, 0, api.ErrArg)
	wantJoin(t, c, 0, 4, 0, api.ErrArg)
	wantJoin(t, c, 0, -1, 0, api.ErrArg)
	wantJoin(t, c, 1, -1, 0, api.ErrArg)
	wantJoin(t, c, -1, 4, 0, api.ErrArg)
	for _, c := range all() {
		wantJoin(t, c, 0, 0, 0, api.OK)
		wantJoin(t, c, c.Lines-1, c.Words-1, c.Lines*c.Words-1, api.OK)
		for _, line := range outside(c.Lines) {
			wantJoin(t, c, line, 0, 0, api.ErrArg)
			wantJoin(t, c, line, c.Words-1, 0, api.ErrArg)
		}
		for _, word := range outside(c.Words) {
			wantJoin(t, c, 0, word, 0, api.ErrArg)
			wantJoin(t, c, c.Lines-1, word, 0, api.ErrArg)
		}
	}
	for _, line := range outside(16) {
		for _, word := range outside(4) {
			wantJoin(t, c, line, word, 0, api.ErrArg)
		}
	}
}

// P2.1: Tagged at the first and last set and tag, beyond these, and below 0.
func TestTaggedAtEdges(t *testing.T) {
	c := example()
	wantTagged(t, c, 0, 0, 0, api.OK)
	wantTagged(t, c, 3, 0, 3, api.OK)
	wantTagged(t, c, 0, 3, 12, api.OK)
	wantTagged(t, c, 3, 3, 15, api.OK)
	wantTagged(t, c, 4, 0, 0, api.ErrArg)
	wantTagged(t, c, -1, 0, 0, api.ErrArg)
	wantTagged(t, c, -1, 1, 0, api.ErrArg)
	wantTagged(t, c, 0, 4, 0, api.ErrArg)
	wantTagged(t, c, 3, 4, 0, api.ErrArg)
	wantTagged(t, c, 0, -1, 0, api.ErrArg)
	wantTagged(t, c, 3, -1, 0, api.ErrArg)
	for _, set := range outside(4) {
		for _, tag := range append(outside(4), 0, 1, 2, 3) {
			wantTagged(t, c, set, tag, 0, api.ErrArg)
		}
	}
}

// P2.1: tags of which there is no line, great ones among them whose line would be too great for an int.
func TestTaggedWithoutLine(t *testing.T) {
	for _, c := range all() {
		tags := max(1, c.Lines/c.Sets)
		for _, set := range []int{0, c.Sets / 2, c.Sets - 1} {
			for _, tag := range outside(tags) {
				wantTagged(t, c, set, tag, 0, api.ErrArg)
			}
		}
		for _, set := range outside(c.Sets) {
			wantTagged(t, c, set, 0, 0, api.ErrArg)
			wantTagged(t, c, set, tags-1, 0, api.ErrArg)
		}
	}
}

// P2.2: the lines of a home at 0, of the last one, of one beyond it, and below 0.
func TestLinesAtEdges(t *testing.T) {
	c := sized(1, 4, 1, 16)
	wantLines(t, c, 0, 0, 4, 8, 12)
	wantLines(t, c, 2, 2, 6, 10, 14)
	wantLines(t, c, 3, 3, 7, 11, 15)
	wantLines(t, c, 4)
	wantLines(t, c, -1)
	for _, c := range all() {
		for _, home := range outside(c.Homes) {
			wantLines(t, c, home)
		}
	}
}

// P2.2: every home's lines, by steps of Homes; with more homes than lines, some have none.
func TestLinesOfAll(t *testing.T) {
	for _, c := range all() {
		for home := range c.Homes {
			var want []int
			for line := home; line < c.Lines; line += c.Homes {
				want = append(want, line)
			}
			wantLines(t, c, home, want...)
		}
	}
	few := sized(1, 16, 1, 4)
	wantLines(t, few, 3, 3)
	wantLines(t, few, 4)
	wantLines(t, few, 15)
	wantLines(t, few, 16)
}

// P2.2: an answer is its own: to change it changes no other.
func TestLinesAreTheirOwn(t *testing.T) {
	l := split.Lines(example(), 1)
	for i := range l {
		l[i] = -7
	}
	wantLines(t, example(), 1, 1, 3, 5, 7, 9, 11, 13, 15)
}

// P2.1, P2.2: none of the functions answers of sizes that may not be, at whatever number.
func TestSizesThatMayNotBe(t *testing.T) {
	for _, c := range wrong() {
		for _, n := range []int{math.MinInt, -1, 0, 1, 3, 11, 45, 1 << 62, math.MaxInt} {
			wantAddr(t, c, n, 0, 0, api.ErrArg)
			wantLine(t, c, n, 0, 0, 0, api.ErrArg)
			wantLines(t, c, n)
			for _, k := range []int{math.MinInt, -1, 0, 1, 2, math.MaxInt} {
				wantJoin(t, c, n, k, 0, api.ErrArg)
				wantTagged(t, c, n, k, 0, api.ErrArg)
			}
		}
	}
}

// P2.1: what an address is of hangs on none of the sizes that cut nothing.
func TestOtherSizesCutNothing(t *testing.T) {
	c := example()
	c.Cores, c.Ways, c.Pointers, c.Mshrs, c.Buffer, c.Writebacks = 64, 8, 0, 8, 16, 1
	c.Room = [3]int{64, 1, 64}
	wantAddr(t, c, 45, 11, 1, api.OK)
	wantLine(t, c, 11, 1, 3, 2, api.OK)
	wantJoin(t, c, 11, 1, 45, api.OK)
	wantTagged(t, c, 3, 2, 11, api.OK)
	wantLines(t, c, 1, 1, 3, 5, 7, 9, 11, 13, 15)
}

// P2.3: lines and words tell addresses, and the other way round.
func TestLinesAndWordsTellAddresses(t *testing.T) {
	for words := 1; words <= 8; words *= 2 {
		for lines := 1; lines <= 1024; lines *= 2 {
			c := sized(words, 4, 8, lines)
			for addr := range shape.Size(c) {
				line, word, e := split.Addr(c, addr)
				if e != api.OK {
					t.Errorf("%v: Addr %d: %d", c, addr, e)
				}
				wantJoin(t, c, line, word, addr, api.OK)
			}
			for line := range lines {
				for word := range words {
					addr, e := split.Join(c, line, word)
					if e != api.OK {
						t.Errorf("%v: Join %d, %d: %d", c, line, word, e)
					}
					wantAddr(t, c, addr, line, word, api.OK)
				}
			}
		}
	}
}

// P2.3: sets and tags tell lines, and the other way round; no other set and tag tells one.
func TestSetsAndTagsTellLines(t *testing.T) {
	for _, c := range all() {
		for line := range c.Lines {
			_, set, tag, e := split.Line(c, line)
			if e != api.OK {
				t.Errorf("%v: Line %d: %d", c, line, e)
			}
			wantTagged(t, c, set, tag, line, api.OK)
		}
	}
	for sets := 1; sets <= 64; sets *= 2 {
		for lines := 1; lines <= 1024; lines *= 4 {
			c, found := sized(1, 1, sets, lines), 0
			for set := range sets {
				for tag := range lines + 1 {
					line, e := split.Tagged(c, set, tag)
					if e != api.OK {
						continue
					}
					wantLine(t, c, line, 0, set, tag, api.OK)
					found++
				}
			}
			if found != lines {
				t.Errorf("%v: %d sets and tags tell lines", c, found)
			}
		}
	}
}

// P2.3: each line is of just one home, the one that Line tells.
func TestEachLineIsOfOneHome(t *testing.T) {
	for _, c := range all() {
		homes := make([][]int, c.Lines)
		for home := range c.Homes {
			for _, line := range split.Lines(c, home) {
				homes[line] = append(homes[line], home)
			}
		}
		for line, l := range homes {
			if home, _, _, e := split.Line(c, line); e != api.OK || !slices.Equal(l, []int{home}) {
				t.Errorf("%v: line %d is of %v, not %d", c, line, l, home)
			}
		}
	}
}
