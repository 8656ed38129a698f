package script_test

import (
	"math"
	"slices"
	"strings"
	"testing"

	"mesne/api"
	"mesne/program"
	"mesne/script"
	"mesne/shape"
)

func load(addr int) api.Op         { return api.Op{Kind: api.Load, Addr: addr} }
func store(addr, value int) api.Op { return api.Op{Kind: api.Store, Addr: addr, Value: value} }
func swap(addr, value int) api.Op  { return api.Op{Kind: api.Swap, Addr: addr, Value: value} }
func fence() api.Op                { return api.Op{Kind: api.Fence} }

func least() api.Config {
	return api.Config{
		Cores: 1, Homes: 1, Sets: 1, Ways: 1, Words: 1, Lines: 1,
		Pointers: 0, Mshrs: 1, Buffer: 1, Writebacks: 1, Room: [3]int{1, 1, 1},
	}
}

func ordinary() api.Config {
	return api.Config{
		Cores: 3, Homes: 2, Sets: 4, Ways: 3, Words: 8, Lines: 16,
		Pointers: 2, Mshrs: 5, Buffer: 6, Writebacks: 7, Room: [3]int{9, 10, 11},
	}
}

func most() api.Config {
	return api.Config{
		Cores: 64, Homes: 16, Sets: 64, Ways: 8, Words: 8, Lines: 1024,
		Pointers: 8, Mshrs: 8, Buffer: 16, Writebacks: 8, Room: [3]int{64, 64, 64},
	}
}

// greatest is the machine of one core that has the most addresses.
func greatest() api.Config {
	c := most()
	c.Cores = 1
	return c
}

// The same machines, by their bytes.
const (
	leastBytes    = "\x01\x00\x00\x01\x00\x00\x00\x01\x01\x01\x01\x01\x01"
	ordinaryBytes = "\x03\x01\x02\x03\x03\x04\x02\x05\x06\x07\x09\x0a\x0b"
	mostBytes     = "\x40\x04\x06\x08\x03\x0a\x08\x08\x10\x08\x40\x40\x40"
	greatestBytes = "\x01\x04\x06\x08\x03\x0a\x08\x08\x10\x08\x40\x40\x40"
)

// none are programs of so many cores, without operations.
func none(cores int) [][]api.Op { return make([][]api.Op, cores) }

// fences is the text of so many fences.
func fences(count int) string {
	return strings.TrimSuffix(strings.Repeat("F ", count), " ")
}

// told is a script, and its bytes.
type told struct {
	script script.Script
	bytes  string
}

// tellings are written out by the chapter's words: its example, ordinary ones, and those at the edges.
func tellings() []told {
	return []told{
		{script.Script{Config: least(), Programs: none(1)}, string([]byte{1, 0, 0, 1, 0, 0, 0, 1, 1, 1, 1, 1, 1, 0})},
		{script.Script{Config: ordinary(), Programs: none(3)}, ordinaryBytes + "\x00\x00\x00"},
		{script.Script{Config: most(), Programs: none(64)}, mostBytes + strings.Repeat("\x00", 64)},
		{script.Script{Config: least(), Programs: none(1), Picks: []script.Pick{{}}}, leastBytes + "\x00" + "\x00\x00\x00"},
		{script.Script{Config: least(), Programs: none(1), Picks: []script.Pick{{255, 255, 255}}}, leastBytes + "\x00" + "\xff\xff\xff"},
		{script.Script{Config: least(), Programs: none(1), Picks: []script.Pick{{1, 2, 3}, {0, 255, 128}}}, leastBytes + "\x00" + "\x01\x02\x03\x00\xff\x80"},
		{script.Script{Config: least(), Programs: [][]api.Op{{load(0), store(0, -5), swap(0, 6), fence()}}}, leastBytes + "\x0fL0 S0=-5 X0=6 F"},
		{
			script.Script{Config: ordinary(), Programs: [][]api.Op{{load(5), store(3, -7), fence()}, nil, {swap(127, 10)}}, Picks: []script.Pick{{7, 0, 9}}},
			ordinaryBytes + "\x0aL5 S3=-7 F" + "\x00" + "\x07X127=10" + "\x07\x00\x09",
		},
		{
			script.Script{Config: ordinary(), Programs: [][]api.Op{nil, nil, {fence()}}, Picks: []script.Pick{{255, 0, 0}, {0, 255, 0}, {0, 0, 255}, {70, 32, 70}}},
			ordinaryBytes + "\x00\x00\x01F" + "\xff\x00\x00\x00\xff\x00\x00\x00\xffF F",
		},
		// Texts of 127 and of 128 bytes, and of the longest.
		{script.Script{Config: least(), Programs: [][]api.Op{slices.Repeat([]api.Op{fence()}, 64)}}, leastBytes + "\x7f" + fences(64)},
		{
			script.Script{Config: least(), Programs: [][]api.Op{append(slices.Repeat([]api.Op{fence()}, 63), load(0))}, Picks: []script.Pick{{4, 5, 6}}},
			leastBytes + "\x81\x00" + fences(63) + " L0" + "\x04\x05\x06",
		},
		{
			script.Script{Config: greatest(), Programs: [][]api.Op{slices.Repeat([]api.Op{store(8191, -2147483648)}, 64)}},
			greatestBytes + "\x88\x7f" + strings.TrimSuffix(strings.Repeat("S8191=-2147483648 ", 64), " "),
		},
	}
}

func samePrograms(a, b [][]api.Op) bool {
	return slices.EqualFunc(a, b, slices.Equal[[]api.Op])
}

func same(a, b script.Script) bool {
	return a.Config == b.Config && samePrograms(a.Programs, b.Programs) && slices.Equal(a.Picks, b.Picks)
}

func wantRead(t *testing.T, b string, want script.Script, err api.Errno) {
	t.Helper()
	if s, e := script.Read(b); e != err || !same(s, want) {
		t.Errorf("%.120q (of %d bytes): %v, %d, not %v, %d", b, len(b), s, e, want, err)
	}
}

func wantNoScript(t *testing.T, b string, err api.Errno) {
	t.Helper()
	wantRead(t, b, script.Script{}, err)
}

func wantBytes(t *testing.T, s script.Script, want string, err api.Errno) {
	t.Helper()
	if b, e := script.Bytes(s); e != err || b != want {
		t.Errorf("%v: %q, %d, not %q, %d", s, b, e, want, err)
	}
}

// wantBoth tells that a script and bytes tell one another.
func wantBoth(t *testing.T, s script.Script, b string) {
	t.Helper()
	wantRead(t, b, s, api.OK)
	wantBytes(t, s, b, api.OK)
}

// P4.1, P4.2, P4.3: the chapter's example, ordinary scripts and those at the edges, both ways.
func TestTellings(t *testing.T) {
	for _, x := range tellings() {
		wantBoth(t, x.script, x.bytes)
	}
}

// P4.1: less than 13 bytes are too few, whatever they are; 13 end ahead of how many.
func TestReadOfFewBytes(t *testing.T) {
	for _, b := range []string{leastBytes, ordinaryBytes, mostBytes, strings.Repeat("\x00", 13), strings.Repeat("\xff", 13)} {
		for n := range 13 {
			wantNoScript(t, b[:n], api.ErrShort)
		}
	}
	wantNoScript(t, "", api.ErrShort)
	wantNoScript(t, leastBytes, api.ErrShort)
	wantNoScript(t, ordinaryBytes, api.ErrShort)
	wantNoScript(t, mostBytes, api.ErrShort)
	wantNoScript(t, strings.Repeat("\x00", 13), api.ErrArg)
	wantNoScript(t, strings.Repeat("\xff", 13), api.ErrArg)
}

// size is one of a machine's sizes, in the order of its bytes: the least and the greatest byte, whether it tells a power, and how the size is set.
type size struct {
	name        string
	least, most int
	power       bool
	set         func(c *api.Config, n int)
}

func sizes() []size {
	return []size{
		{"Cores", 1, 64, false, func(c *api.Config, n int) { c.Cores = n }},
		{"Homes", 0, 4, true, func(c *api.Config, n int) { c.Homes = n }},
		{"Sets", 0, 6, true, func(c *api.Config, n int) { c.Sets = n }},
		{"Ways", 1, 8, false, func(c *api.Config, n int) { c.Ways = n }},
		{"Words", 0, 3, true, func(c *api.Config, n int) { c.Words = n }},
		{"Lines", 0, 10, true, func(c *api.Config, n int) { c.Lines = n }},
		{"Pointers", 0, 8, false, func(c *api.Config, n int) { c.Pointers = n }},
		{"Mshrs", 1, 8, false, func(c *api.Config, n int) { c.Mshrs = n }},
		{"Buffer", 1, 16, false, func(c *api.Config, n int) { c.Buffer = n }},
		{"Writebacks", 1, 8, false, func(c *api.Config, n int) { c.Writebacks = n }},
		{"Room 0", 1, 64, false, func(c *api.Config, n int) { c.Room[0] = n }},
		{"Room 1", 1, 64, false, func(c *api.Config, n int) { c.Room[1] = n }},
		{"Room 2", 1, 64, false, func(c *api.Config, n int) { c.Room[2] = n }},
	}
}

// told tells the size that a byte tells, by doubling.
func (x size) told(n int) int {
	if !x.power {
		return n
	}
	s := 1
	for range n {
		s *= 2
	}
	return s
}

func with(b string, at, n int) string {
	return b[:at] + string([]byte{byte(n)}) + b[at+1:]
}

// P4.1, P4.2: each of the first 13 bytes, at all that it can be: those that may be set their own size, the others none.
func TestEachSizeByte(t *testing.T) {
	for _, base := range []told{{script.Script{Config: least()}, leastBytes}, {script.Script{Config: ordinary()}, ordinaryBytes}, {script.Script{Config: most()}, mostBytes}} {
		for at, x := range sizes() {
			for n := range 256 {
				b := with(base.bytes, at, n)
				if n < x.least || n > x.most {
					// Bytes that end too early, or have a wrong text, are told later than sizes that may not be.
					for _, behind := range []string{"", "\x80", "\x80\x00", "\x05F", "\x01?", strings.Repeat("\x00", 64)} {
						wantNoScript(t, b+behind, api.ErrArg)
					}
					continue
				}
				c := base.script.Config
				x.set(&c, x.told(n))
				wantBoth(t, script.Script{Config: c, Programs: none(c.Cores)}, b+strings.Repeat("\x00", c.Cores))
			}
		}
	}
}

// P4.1: a power of 20 and of 21, and those that an int may lose, wherever a power stands.
func TestReadOfGreatPowers(t *testing.T) {
	for at, x := range sizes() {
		for _, n := range []int{x.most + 1, 19, 20, 21, 22, 30, 31, 32, 33, 62, 63, 64, 65, 66, 127, 128, 254, 255} {
			if x.power {
				wantNoScript(t, with(leastBytes, at, n)+"\x00", api.ErrArg)
				wantNoScript(t, with(ordinaryBytes, at, n)+"\x00\x00\x00", api.ErrArg)
			}
		}
	}
}

// opOf is an operation whose text has so many bytes, from 1 to 17.
func opOf(length int) api.Op {
	digits := func(n int) int {
		v := 1
		for range n - 1 {
			v *= 10
		}
		return v
	}
	switch {
	case length == 1:
		return fence()
	case length <= 5:
		return load(digits(length - 1))
	case length <= 13:
		return store(1, digits(length-3))
	}
	return swap(digits(length-13), -1000000000)
}

// ofLength is a program whose text has so many bytes, from 1 to the longest, 1151: 64 operations of 17 bytes, and what is between.
func ofLength(length int) []api.Op {
	var l []api.Op
	for count := min(64, (length+1)/2); count > 0; count-- {
		n := min(17, length-2*(count-1))
		l = append(l, opOf(n))
		length -= n + 1
	}
	return l
}

// countOf tells how many by the chapter's words.
func countOf(n int) string {
	if n < 128 {
		return string([]byte{byte(n)})
	}
	return string([]byte{byte(n>>7 | 128), byte(n & 127)})
}

// P4.1, P4.2: programs of each length that a text has, with picks behind.
func TestTextsOfEachLength(t *testing.T) {
	picks := []script.Pick{{1, 2, 3}, {4, 5, 6}}
	for n := 1; n <= 1151; n++ {
		l := ofLength(n)
		text, e := program.Print(l)
		if e != api.OK || len(text) != n {
			t.Fatalf("%d: %q, %d", n, text, e)
		}
		wantBoth(t, script.Script{Config: greatest(), Programs: [][]api.Op{l}, Picks: picks}, greatestBytes+countOf(n)+text+"\x01\x02\x03\x04\x05\x06")
	}
}

// P4.1: how many in two bytes where one is enough, and with a second byte of 128 or more, whatever is behind.
func TestReadOfWrongCounts(t *testing.T) {
	behind := []string{"", "F", fences(64), strings.Repeat("F ", 10000)}
	for n := range 256 {
		second := string([]byte{byte(n)})
		for _, b := range behind {
			wantNoScript(t, leastBytes+"\x80"+second+b, api.ErrForm)
		}
		if n < 128 {
			continue
		}
		for first := 128; first < 256; first++ {
			wantNoScript(t, leastBytes+string([]byte{byte(first)})+second+behind[n%4], api.ErrForm)
		}
	}
}

// P4.1: bytes that end ahead of how many, and in it, of each core.
func TestReadOfBytesThatEndInCounts(t *testing.T) {
	for _, b := range []string{ordinaryBytes, ordinaryBytes + "\x00", ordinaryBytes + "\x00\x00", ordinaryBytes + "\x01F", ordinaryBytes + "\x01F\x01F"} {
		wantNoScript(t, b, api.ErrShort)
		for first := 128; first < 256; first++ {
			wantNoScript(t, b+string([]byte{byte(first)}), api.ErrShort)
		}
	}
}

// P4.1: bytes that end in a text, at each place: too short comes ahead of what the text is.
func TestReadOfBytesThatEndInTexts(t *testing.T) {
	for _, n := range []int{1, 2, 3, 126, 127, 128, 129, 1151, 4000, 4001, 16383} {
		for _, text := range []string{strings.Repeat("?", n), strings.Repeat("F ", n)[:n], strings.Repeat("\x00", n)} {
			for _, m := range []int{0, 1, 2, n / 2, n - 2, n - 1} {
				if 0 <= m && m < n {
					wantNoScript(t, leastBytes+countOf(n)+text[:m], api.ErrShort)
				}
			}
		}
	}
	wantNoScript(t, leastBytes+"\x02F", api.ErrShort)
	wantNoScript(t, leastBytes+"\x81\x00"+fences(64), api.ErrShort)
	wantNoScript(t, leastBytes+"\xff\x7f"+fences(64), api.ErrShort)
}

// P4.1: texts of no program, of too many operations, and too long: Parse's errors, in Parse's order.
func TestReadOfTextsThatDoNotParse(t *testing.T) {
	for _, x := range []struct {
		text string
		want api.Errno
	}{
		{"?", api.ErrForm}, {" ", api.ErrForm}, {"F ", api.ErrForm}, {" F", api.ErrForm}, {"f", api.ErrForm}, {"\x00", api.ErrForm}, {"\xff", api.ErrForm},
		{"L00", api.ErrForm}, {"L8192", api.ErrForm}, {"S0=-0", api.ErrForm}, {"S0=2147483648", api.ErrForm}, {"X0", api.ErrForm},
		{fences(64) + " ", api.ErrForm}, {fences(63) + " L", api.ErrForm}, {fences(65) + "?", api.ErrForm}, {strings.Repeat("?", 4000), api.ErrForm}, {strings.Repeat("F", 4000), api.ErrForm},
		{fences(65), api.ErrFull}, {fences(66), api.ErrFull}, {fences(64) + " L0", api.ErrFull}, {fences(2000), api.ErrFull}, {fences(1999) + " L0", api.ErrFull},
		{fences(2001), api.ErrFull}, {strings.Repeat("?", 4001), api.ErrFull}, {strings.Repeat("\x00", 16383), api.ErrFull},
		// An address that the machine has not is told later than what is no program.
		{"L8191 ?", api.ErrForm}, {"L8191 " + fences(64), api.ErrFull},
	} {
		for _, behind := range []string{"", "\x00\x00\x00", "\x00"} {
			wantNoScript(t, leastBytes+countOf(len(x.text))+x.text+behind, x.want)
		}
		wantNoScript(t, ordinaryBytes+"\x01F"+countOf(len(x.text))+x.text+"\x01F", x.want)
	}
}

// P4.1: of machines of each number of addresses the last one is, and the next one is not.
func TestReadOfProgramsThatDoNotFit(t *testing.T) {
	for words := range 4 {
		for lines := range 11 {
			b := with(with(leastBytes, 4, words), 5, lines)
			c := least()
			c.Words, c.Lines = 1<<words, 1<<lines
			end := c.Words * c.Lines
			for _, at := range []func(addr int) api.Op{load, func(addr int) api.Op { return store(addr, 1) }, func(addr int) api.Op { return swap(addr, -1) }} {
				text, _ := program.Print([]api.Op{fence(), at(end - 1)})
				wantBoth(t, script.Script{Config: c, Programs: [][]api.Op{{fence(), at(end - 1)}}}, b+countOf(len(text))+text)
				wantBytes(t, script.Script{Config: c, Programs: [][]api.Op{{fence(), at(end)}}}, "", api.ErrArg)
				if end == 8192 {
					continue // no text tells it
				}
				text, _ = program.Print([]api.Op{fence(), at(end), fence()})
				for _, behind := range []string{"", "\x01", "\x01\x02", "\x01\x02\x03"} {
					wantNoScript(t, b+countOf(len(text))+text+behind, api.ErrName)
				}
			}
		}
	}
}

// P4.1: one byte or two left behind the last pick, be there none, one or many; each of their numbers tells itself.
func TestReadOfPicks(t *testing.T) {
	for _, base := range []told{tellings()[0], tellings()[7], tellings()[10]} {
		b := base.bytes[:len(base.bytes)-3*len(base.script.Picks)]
		s := base.script
		s.Picks = nil
		for n := range 600 {
			wantRead(t, b, s, api.OK)
			wantNoScript(t, b+"\x00", api.ErrShort)
			wantNoScript(t, b+"\xff", api.ErrShort)
			wantNoScript(t, b+"\x00\x00", api.ErrShort)
			wantNoScript(t, b+"\x01F", api.ErrShort)
			p := script.Pick{n % 256, 255 - n%256, 5 * n % 256}
			s.Picks = append(s.Picks, p)
			b += string([]byte{byte(p.Kind), byte(p.A), byte(p.B)})
		}
		wantBoth(t, s, b)
	}
}

// P4.1, P4.2, R1: a great many picks.
func TestManyPicks(t *testing.T) {
	const many = 1 << 20
	picks := slices.Repeat([]script.Pick{{3, 2, 1}, {0, 255, 0}}, many/2)
	s := script.Script{Config: least(), Programs: none(1), Picks: picks}
	b := leastBytes + "\x00" + strings.Repeat("\x03\x02\x01\x00\xff\x00", many/2)
	if got, e := script.Read(b); e != api.OK || !same(got, s) {
		t.Errorf("%d picks, %d", len(got.Picks), e)
	}
	if got, e := script.Bytes(s); e != api.OK || got != b {
		t.Errorf("%d bytes, %d", len(got), e)
	}
	if got, e := script.Read(b + "\x03\x02"); e != api.ErrShort || !same(got, script.Script{}) {
		t.Errorf("%d picks, %d", len(got.Picks), e)
	}
}

// P4.1: where several things are wrong, the first core's come first, and picks last.
func TestReadOfSeveralThingsThatAreWrong(t *testing.T) {
	const (
		end      = ""
		inCount  = "\x81"
		inText   = "\x03F"
		twoBytes = "\x80\x01F"
		second   = "\x81\x80"
		noText   = "\x01?"
		noName   = "\x04L128"
		right    = "\x04L127"
	)
	tooMany := "\x81\x01" + fences(65)
	for _, x := range []struct {
		b    string
		want api.Errno
	}{
		{right + right + right, api.OK},
		{twoBytes + inText, api.ErrForm}, {second + end, api.ErrForm}, {second + inCount, api.ErrForm},
		{noText + end, api.ErrForm}, {noText + inCount, api.ErrForm}, {noText + noName + inText, api.ErrForm}, {noText + tooMany + right, api.ErrForm},
		{tooMany + end, api.ErrFull}, {tooMany + noText + noName, api.ErrFull}, {tooMany + twoBytes, api.ErrFull}, {tooMany + noName + right, api.ErrFull},
		{noName + end, api.ErrName}, {noName + inCount, api.ErrName}, {noName + inText, api.ErrName}, {noName + twoBytes, api.ErrName}, {noName + second, api.ErrName}, {noName + noText + right, api.ErrName}, {noName + tooMany, api.ErrName},
		{right + noName + noText, api.ErrName}, {right + noText + noName, api.ErrForm}, {right + tooMany + inText, api.ErrFull}, {right + inText, api.ErrShort},
		{right + right + noName + "\x01", api.ErrName}, {right + right + noText + "\x01", api.ErrForm}, {right + right + tooMany + "\x01\x02", api.ErrFull},
		{right + right + end, api.ErrShort}, {right + right + right + "\x01", api.ErrShort}, {right + right + right + "\x01\x02", api.ErrShort},
	} {
		s, e := script.Read(ordinaryBytes + x.b)
		if e != x.want || e != api.OK && !same(s, script.Script{}) {
			t.Errorf("%q: %v, %d, not %d", x.b, s, e, x.want)
		}
	}
}

// P4.2: sizes that may not be, each alone, beside programs that would be as many as they tell.
func TestBytesOfSizesThatMayNotBe(t *testing.T) {
	wantBytes(t, script.Script{}, "", api.ErrArg)
	wantBytes(t, script.Script{Programs: none(1)}, "", api.ErrArg)
	for _, x := range sizes() {
		for _, n := range []int{math.MinInt, -256, -1, 0, 3, 5, 9, 17, 65, 128, 256, 257, 2048, 1 << 20, 1 << 21, 1 << 32, 1<<32 + 1, math.MaxInt} {
			c := ordinary()
			x.set(&c, n)
			if shape.Check(c) == api.OK {
				continue
			}
			for _, programs := range [][][]api.Op{nil, none(1), none(3), none(65), none(257)} {
				wantBytes(t, script.Script{Config: c, Programs: programs}, "", api.ErrArg)
			}
		}
	}
}

// P4.2: programs more or fewer than Cores, also by many.
func TestBytesOfProgramsMoreOrFewer(t *testing.T) {
	for _, c := range []api.Config{least(), ordinary(), most()} {
		for n := range 260 {
			s := script.Script{Config: c, Programs: none(n)}
			b, e := script.Bytes(s)
			if n == c.Cores {
				if e != api.OK || len(b) != 13+n {
					t.Errorf("%d of %d: %q, %d", n, c.Cores, b, e)
				}
			} else if e != api.ErrArg || b != "" {
				t.Errorf("%d of %d: %q, %d", n, c.Cores, b, e)
			}
		}
	}
}

// P4.2: a program that doesn't fit, at each core.
func TestBytesOfProgramsThatDoNotFit(t *testing.T) {
	for core := range 3 {
		for _, l := range [][]api.Op{
			{load(128)}, {store(128, 0)}, {swap(8191, 0)}, {load(8192)}, {load(-1)}, {store(0, math.MaxInt32+1)}, {swap(0, math.MinInt32-1)},
			{{Kind: 0}}, {{Kind: 5}}, {{Kind: api.Load, Value: 1}}, {{Kind: api.Fence, Addr: 1}}, {{Kind: api.Fence, Value: 1}},
			{load(127), fence(), load(128)}, slices.Repeat([]api.Op{fence()}, 65), slices.Repeat([]api.Op{fence()}, 1000),
		} {
			programs := [][]api.Op{{load(127)}, {store(0, 1)}, {fence()}}
			s := script.Script{Config: ordinary(), Programs: programs, Picks: []script.Pick{{1, 2, 3}}}
			wantBytes(t, s, ordinaryBytes+"\x04L127\x04S0=1\x01F\x01\x02\x03", api.OK)
			programs[core] = l
			wantBytes(t, s, "", api.ErrArg)
		}
	}
}

// P4.2: each number of a pick below 0 and above 255, at each place among others; at 0 and 255 it may be.
func TestBytesOfPicks(t *testing.T) {
	for at := range 3 {
		for field := range 3 {
			for _, x := range []struct {
				n  int
				ok bool
			}{{0, true}, {1, true}, {127, true}, {128, true}, {254, true}, {255, true}, {-1, false}, {256, false}, {257, false}, {-256, false}, {-255, false}, {512, false}, {1 << 32, false}, {math.MinInt, false}, {math.MaxInt, false}} {
				picks := []script.Pick{{1, 2, 3}, {4, 5, 6}, {7, 8, 9}}
				*[]*int{&picks[at].Kind, &picks[at].A, &picks[at].B}[field] = x.n
				s := script.Script{Config: least(), Programs: none(1), Picks: picks}
				want := with(leastBytes+"\x00\x01\x02\x03\x04\x05\x06\x07\x08\x09", 14+3*at+field, x.n)
				if x.ok {
					wantBoth(t, s, want)
				} else {
					wantBytes(t, s, "", api.ErrArg)
				}
			}
		}
	}
}

// P4.2, R6: an empty list and none are one.
func TestEmptyAndNone(t *testing.T) {
	for _, s := range []script.Script{
		{Config: least(), Programs: [][]api.Op{nil}},
		{Config: least(), Programs: [][]api.Op{{}}},
		{Config: least(), Programs: [][]api.Op{nil}, Picks: []script.Pick{}},
		{Config: least(), Programs: [][]api.Op{{}}, Picks: []script.Pick{}},
	} {
		wantBoth(t, s, leastBytes+"\x00")
	}
	wantBytes(t, script.Script{Config: least(), Programs: [][]api.Op{}}, "", api.ErrArg)
}

// cuts is Read by another way: each error is asked of the whole of what is left, in the chapter's order.
func cuts(b string) (script.Script, api.Errno) {
	if len(b) < 13 {
		return script.Script{}, api.ErrShort
	}
	var s script.Script
	for i, x := range sizes() {
		if int(b[i]) < x.least || int(b[i]) > x.most {
			return script.Script{}, api.ErrArg
		}
		x.set(&s.Config, x.told(int(b[i])))
	}
	b = b[13:]
	for range s.Config.Cores {
		if len(b) == 0 || b[0] > 127 && len(b) == 1 {
			return script.Script{}, api.ErrShort
		}
		count, width := int(b[0]), 1
		if b[0] > 127 {
			count, width = int(b[0]&127)<<7+int(b[1]&127), 2
		}
		if !strings.HasPrefix(b, countOf(count)) {
			return script.Script{}, api.ErrForm
		}
		if len(b)-width < count {
			return script.Script{}, api.ErrShort
		}
		l, e := program.Parse(b[width : width+count])
		if e != api.OK {
			return script.Script{}, e
		}
		if !program.Fits(s.Config, l) {
			return script.Script{}, api.ErrName
		}
		s.Programs = append(s.Programs, l)
		b = b[width+count:]
	}
	if len(b)%3 != 0 {
		return script.Script{}, api.ErrShort
	}
	for i := 0; i < len(b); i += 3 {
		s.Picks = append(s.Picks, script.Pick{Kind: int(b[i]), A: int(b[i+1]), B: int(b[i+2])})
	}
	return s, api.OK
}

// wantAsCut tells that bytes are read as by the other way, and that what is read may be and tells the same bytes.
func wantAsCut(t *testing.T, b string) {
	t.Helper()
	want, err := cuts(b)
	wantRead(t, b, want, err)
	if err == api.OK {
		wantBytes(t, want, b, api.OK)
	}
}

// P4.1, P4.3: bytes near those of scripts: cut off at each place, with one byte other, one more, and one less.
func TestBytesNearScripts(t *testing.T) {
	for _, x := range tellings()[:9] {
		for at := range len(x.bytes) {
			wantAsCut(t, x.bytes[:at])
			wantAsCut(t, x.bytes[:at]+x.bytes[at+1:])
			for n := range 256 {
				one := string([]byte{byte(n)})
				wantAsCut(t, x.bytes[:at]+one+x.bytes[at+1:])
				wantAsCut(t, x.bytes[:at]+one+x.bytes[at:])
			}
		}
	}
}

// numbers are made one from another by a rule, so that each run tries the same.
func numbers() func(below int) int {
	x := uint64(1)
	return func(below int) int {
		x = x*6364136223846793005 + 1442695040888963407
		return int(x>>33) % below
	}
}

// P4.1, P4.3: what is behind the sizes made of pieces that are right or wrong, in whatever order.
func TestBytesOfPieces(t *testing.T) {
	pieces := []string{"\x00", "\x01F", "\x04L127", "\x04L128", "\x03F F", "\x01", "\x80", "\x81", "\x81\x00", "\x7f" + fences(64), "\x81\x00" + fences(63) + " L0", "\x81\x01" + fences(65), "\xff", "\x02\x03", "\x09\x08\x07", "F", " ", "\x06S1=-10", "\x05X2=33"}
	next := numbers()
	for range 20000 {
		b := with(ordinaryBytes, 0, 1+next(3))
		for range next(8) {
			b += pieces[next(len(pieces))]
		}
		wantAsCut(t, b)
	}
}

// some is a script that may be, of numbers.
func some(next func(below int) int) script.Script {
	var s script.Script
	for _, x := range sizes() {
		x.set(&s.Config, x.told(x.least+next(x.most-x.least+1)))
	}
	end := shape.Size(s.Config)
	for range s.Config.Cores {
		var l []api.Op
		for range next(65) {
			kinds := []api.Op{load(next(end)), store(next(end), next(1<<31)-1<<30), swap(next(end), -next(100)), fence()}
			l = append(l, kinds[next(4)])
		}
		s.Programs = append(s.Programs, l)
	}
	for range next(40) {
		s.Picks = append(s.Picks, script.Pick{Kind: next(256), A: next(256), B: next(256)})
	}
	return s
}

// P4.3: scripts of all sizes come back from their bytes.
func TestScriptsComeBack(t *testing.T) {
	next := numbers()
	for i := range 300 {
		s := some(next)
		b, e := script.Bytes(s)
		if e != api.OK {
			t.Fatalf("script %d: %d", i, e)
		}
		wantRead(t, b, s, api.OK)
		wantAsCut(t, b)
	}
}

// R3, R4, R5: what is asked stays as it was, what is answered is the caller's own, and nothing is kept from call to call.
func TestNothingIsSharedOrKept(t *testing.T) {
	x := tellings()[7]
	for range 3 {
		s := tellings()[7].script
		wantBytes(t, s, x.bytes, api.OK)
		if !same(s, x.script) {
			t.Fatalf("%v", s)
		}
		got, e := script.Read(x.bytes)
		again, _ := script.Read(x.bytes)
		if e != api.OK || !same(got, x.script) {
			t.Fatalf("%v, %d", got, e)
		}
		for i := range got.Programs {
			clear(got.Programs[i])
			_ = append(got.Programs[i], fence())
		}
		clear(got.Programs)
		clear(got.Picks)
		if !same(again, x.script) {
			t.Fatalf("%v", again)
		}
		wantNoScript(t, x.bytes+"\x00", api.ErrShort)
	}
}

// R3: no program of an answer lies in another one's memory.
func TestProgramsAreApart(t *testing.T) {
	got, e := script.Read(ordinaryBytes + "\x01F\x02L1\x02L2" + "\x01\x02\x03")
	if e != api.OK {
		t.Fatal(e)
	}
	for i := range got.Programs {
		_ = append(got.Programs[i], store(9, 9), store(9, 9))
	}
	if !samePrograms(got.Programs, [][]api.Op{{fence()}, {load(1)}, {load(2)}}) {
		t.Errorf("%v", got.Programs)
	}
}
