package program_test

import (
	"math"
	"regexp"
	"slices"
	"strconv"
	"strings"
	"testing"

	"mesne/api"
	"mesne/program"
	"mesne/shape"
)

func load(addr int) api.Op         { return api.Op{Kind: api.Load, Addr: addr} }
func store(addr, value int) api.Op { return api.Op{Kind: api.Store, Addr: addr, Value: value} }
func swap(addr, value int) api.Op  { return api.Op{Kind: api.Swap, Addr: addr, Value: value} }
func fence() api.Op                { return api.Op{Kind: api.Fence} }

// told is a text, and the program that it tells.
type told struct {
	text string
	ops  []api.Op
}

// tellings are written out by the chapter's words: its example, ordinary ones, and those at the edges.
func tellings() []told {
	return []told{
		{"", nil},
		{"L5 S3=-7 F", []api.Op{load(5), store(3, -7), fence()}},
		{"F", []api.Op{fence()}},
		{"F F", []api.Op{fence(), fence()}},
		{"L0", []api.Op{load(0)}},
		{"L9", []api.Op{load(9)}},
		{"L10", []api.Op{load(10)}},
		{"L8191", []api.Op{load(8191)}},
		{"S0=0", []api.Op{store(0, 0)}},
		{"X0=0", []api.Op{swap(0, 0)}},
		{"S8191=1", []api.Op{store(8191, 1)}},
		{"X8191=-1", []api.Op{swap(8191, -1)}},
		{"S7=-2147483648", []api.Op{store(7, -2147483648)}},
		{"S7=2147483647", []api.Op{store(7, 2147483647)}},
		{"X7=-2147483648", []api.Op{swap(7, -2147483648)}},
		{"X7=2147483647", []api.Op{swap(7, 2147483647)}},
		{"X100=100 L100 S100=-100", []api.Op{swap(100, 100), load(100), store(100, -100)}},
		{"F X1=2 F S3=4 F L5 F", []api.Op{fence(), swap(1, 2), fence(), store(3, 4), fence(), load(5), fence()}},
		{"S4095=1234567890 X4096=-1234567890", []api.Op{store(4095, 1234567890), swap(4096, -1234567890)}},
	}
}

func wantParse(t *testing.T, s string, want []api.Op, err api.Errno) {
	t.Helper()
	if l, e := program.Parse(s); e != err || !slices.Equal(l, want) {
		t.Errorf("%.80q (of %d bytes): %v, %d, not %v, %d", s, len(s), l, e, want, err)
	}
}

func wantPrint(t *testing.T, l []api.Op, want string, err api.Errno) {
	t.Helper()
	if s, e := program.Print(l); e != err || s != want {
		t.Errorf("%v: %q, %d, not %q, %d", l, s, e, want, err)
	}
}

// P3.1, P3.2, P3.3: texts and programs tell one another.
func TestTellings(t *testing.T) {
	for _, x := range tellings() {
		wantParse(t, x.text, x.ops, api.OK)
		wantPrint(t, x.ops, x.text, api.OK)
	}
}

// P3.1: texts of no program, each with one thing wrong.
func TestParseOfNoProgram(t *testing.T) {
	for _, s := range []string{
		// A 0 ahead of other digits, and -0.
		"L00", "L05", "L08191", "L0000000000005", "S00=1", "S03=1", "X03=1", "S3=00", "S3=07", "S3=-07", "X3=-00", "S3=-0", "X3=-0", "S3=-00",
		// One beyond each edge, and far beyond.
		"L8192", "S8192=0", "X8192=0", "L-1", "S-1=0", "X-1=0", "L-0", "L-5", "S-0=0",
		"S3=2147483648", "X3=2147483648", "S3=-2147483649", "X3=-2147483649",
		"L65536", "L4294967296", "L18446744073709551616", "L18446744073709551621", "L9223372036854775808",
		"S3=4294967296", "S3=4294967303", "S3=-4294967303", "S3=9223372036854775807", "S3=-9223372036854775808",
		"S3=18446744073709551623", "S3=-18446744073709551609", "S3=" + strings.Repeat("9", 3900), "L1" + strings.Repeat("0", 3900), "L" + strings.Repeat("0", 3900),
		"S3=-1" + strings.Repeat("0", 3900),
		// A sign where none may be.
		"+", "-", "L+5", "S+3=7", "S3=+7", "S3=--7", "S3=-+7", "S3=+-7", "S3=7-", "S3=-", "X3=-", "S3=1-1", "L5-", "L5-1", "-L5", "+F", "F-", "S3-=7", "S3-7", "S=-7", "S3=-7-",
		// A blank where none may be.
		" ", "  ", "   ", " F", "F ", "F  F", " L5", "L5 ", "L 5", "L5  F", "S 3=7", "S3 =7", "S3= 7", "S3=7 ", " S3=7", "S3=- 7", "S3=7  F", "L5 S3=-7  F", "L5 S3=-7 F ", " L5 S3=-7 F", "L1 2", "S3=1 2",
		// Other things between two operations, or nothing.
		"F\tF", "F\nF", "F\n", "\nF", "F\rF", "F\u00a0F", "F\u2003F", "F\x00F", "F\x00", "\x00", "F,F", "F;F", "FF", "L5F", "FL5", "S3=7F", "FS3=7", "L5S3=7", "L5L6", "X3=7X3=7", "F L5F",
		// Something left out, or too much.
		"L", "S", "X", "L ", "S ", "X ", "S3", "X3", "S3=", "X3=", "S=", "X=", "S=7", "X=7", "S=7=7", "S3==7", "X3=7=", "S3=7=7", "=", "3", "=7", "3=7", "L=", "L5=", "L5=0", "L5=7", "L=7", "F0", "F5", "F=", "F=0", "F0=0", "F5=7", "L F", "S3 F", "S3= F", "F L", "F S3", "F S3=", "F 3",
		// Letters of no operation, and small ones.
		"A", "A5", "l5", "s3=7", "x3=7", "f", "M5", "LL5", "SX3=7", "LF", "L5 s3=-7 F", "L5 S3=-7 f", "L5a", "L5x", "S3=7e1", "S3=0x7", "L0x5", "L5.", "L5.0", "S3=1_0", "L1_0", "S3=7L", "K5", "G", "E", "T3=7", "W3=7", "Y3=7", "R3=7",
		// Bytes that are no text, and runes that are like others.
		"\xff", "F\xff", "\xffF", "L\xff", "L5\xff", "S3\xff=7", "S3=\xff", "S3=7\xc0", "L\xc0\xb5", "F\x80F", "F\xa0F", "\xc6", "\xcc5", "\xc1\x8c5", "L\xb5", "L5\xe2\x82", "\ufffd", "L\ufffd", "F\ufffd",
		"L\uff15", "L\u0665", "\uff265", "\uff26", "\uff2c5", "S3\uff1d7", "S3=\u22127", "S3=\uff0d7", "\u0421", "\ufeffF", "F\ufeff", "\u014c5", "L\u0135", "\u0146", "F\u0120F", "S3=\u012d7", "S3\u013d7",
	} {
		wantParse(t, s, nil, api.ErrForm)
		// Ahead of, behind and amid other operations it is no better, as long as it stays one operation of no text.
		if !strings.Contains(s, " ") && len(s) < 100 {
			wantParse(t, s+" F", nil, api.ErrForm)
			wantParse(t, "F "+s, nil, api.ErrForm)
			wantParse(t, "L5 "+s+" X3=7", nil, api.ErrForm)
		}
	}
}

// repeated is the text of so many operations, each the same.
func repeated(op string, count int) string {
	return strings.TrimSuffix(strings.Repeat(op+" ", count), " ")
}

// P3.1: as many operations as there may be, and more: these are asked whether they are a program's text first.
func TestParseOfMany(t *testing.T) {
	for text, op := range map[string]api.Op{"F": fence(), "L8191": load(8191), "S8191=-2147483648": store(8191, -2147483648), "X0=0": swap(0, 0)} {
		wantParse(t, repeated(text, 63), slices.Repeat([]api.Op{op}, 63), api.OK)
		wantParse(t, repeated(text, 64), slices.Repeat([]api.Op{op}, 64), api.OK)
		for _, count := range []int{65, 66, 128, 200} {
			many := repeated(text, count)
			wantParse(t, many, nil, api.ErrFull)
			for _, wrong := range []string{many + " ", many + " L", many + " f", " " + many, many + "  F", many + " L8192", many + " S3=-0", "l5 " + many, many + "\xff", many + " F\n"} {
				wantParse(t, wrong, nil, api.ErrForm)
			}
		}
	}
}

// P3.1: a text of as many bytes as there may be, and of one more. The latter is too long, whatever it is.
func TestParseOfLongTexts(t *testing.T) {
	fences := repeated("F", 1999) // 3997 bytes
	for _, x := range []struct {
		s    string
		size int
		want api.Errno
	}{
		{repeated("F", 2000), 3999, api.ErrFull},
		{fences + " L5", 4000, api.ErrFull},
		{fences + " F ", 3999 + 1, api.ErrForm},
		{fences + " l5", 4000, api.ErrForm},
		{strings.Repeat(" ", 4000), 4000, api.ErrForm},
		{strings.Repeat("F", 4000), 4000, api.ErrForm},
		{"L" + strings.Repeat("1", 3999), 4000, api.ErrForm},
		{strings.Repeat("\xff", 4000), 4000, api.ErrForm},
		{strings.Repeat("\u00e9", 2000), 4000, api.ErrForm},
		{repeated("F", 2001), 4001, api.ErrFull},
		{fences + " L05", 4001, api.ErrFull},
		{strings.Repeat(" ", 4001), 4001, api.ErrFull},
		{strings.Repeat("F", 4001), 4001, api.ErrFull},
		{"L" + strings.Repeat("1", 4000), 4001, api.ErrFull},
		{strings.Repeat("\xff", 4001), 4001, api.ErrFull},
		// Bytes count, not runes.
		{strings.Repeat("\u00e9", 2000) + "F", 4001, api.ErrFull},
		{strings.Repeat("x", 1<<20), 1 << 20, api.ErrFull},
	} {
		if len(x.s) != x.size {
			t.Fatalf("%.20q: %d bytes, not %d", x.s, len(x.s), x.size)
		}
		wantParse(t, x.s, nil, x.want)
	}
}

// form is the chapter's text of an operation, but for how great its numbers are.
var form = regexp.MustCompile(`^(?:L(0|[1-9][0-9]*)|([SX])(0|[1-9][0-9]*)=(0|-?[1-9][0-9]*)|F)$`)

// byForm is Parse by another way: blanks part the text, a form tells each operation.
func byForm(s string) ([]api.Op, api.Errno) {
	if len(s) > 4000 {
		return nil, api.ErrFull
	}
	if s == "" {
		return nil, api.OK
	}
	var l []api.Op
	for _, word := range strings.Split(s, " ") {
		m := form.FindStringSubmatch(word)
		if m == nil {
			return nil, api.ErrForm
		}
		op, ok := byMatch(m)
		if !ok {
			return nil, api.ErrForm
		}
		l = append(l, op)
	}
	if len(l) > 64 {
		return nil, api.ErrFull
	}
	return l, api.OK
}

func byMatch(m []string) (api.Op, bool) {
	switch m[0][0] {
	case 'F':
		return fence(), true
	case 'L':
		addr, err := strconv.ParseUint(m[1], 10, 13)
		return load(int(addr)), err == nil
	}
	addr, err := strconv.ParseUint(m[3], 10, 13)
	value, err2 := strconv.ParseInt(m[4], 10, 32)
	if m[2] == "S" {
		return store(int(addr), int(value)), err == nil && err2 == nil
	}
	return swap(int(addr), int(value)), err == nil && err2 == nil
}

// wantAsByForm holds Parse against the other way; and what parses prints the same text again.
func wantAsByForm(t *testing.T, s string) {
	t.Helper()
	want, err := byForm(s)
	wantParse(t, s, want, err)
	if err == api.OK {
		wantPrint(t, want, s, api.OK)
	}
}

// P3.1, P3.3: all short texts of runes that operations are of, and some beside.
func TestParseOfAllShortTexts(t *testing.T) {
	runes := []string{"L", "S", "X", "F", "=", "-", " ", "0", "1", "9", "l"}
	texts := []string{""}
	for size := 0; size <= 5; size++ {
		var longer []string
		for _, s := range texts {
			wantAsByForm(t, s)
			for _, r := range runes {
				if size < 5 {
					longer = append(longer, s+r)
				}
			}
		}
		texts = longer
	}
}

// P3.1, P3.3: texts of programs, with each byte in turn left out, set to each other one, or with each one ahead of it.
func TestParseOfTextsWithOneByteOther(t *testing.T) {
	for _, x := range tellings() {
		for i := 0; i <= len(x.text); i++ {
			for b := range 256 {
				wantAsByForm(t, x.text[:i]+string([]byte{byte(b)})+x.text[i:])
				if i < len(x.text) {
					wantAsByForm(t, x.text[:i]+string([]byte{byte(b)})+x.text[i+1:])
				}
			}
			if i < len(x.text) {
				wantAsByForm(t, x.text[:i]+x.text[i+1:])
			}
		}
	}
}

// P3.1: each Addr, from below the least to well above the greatest.
func TestParseOfEachAddr(t *testing.T) {
	for addr := -20; addr <= 90000; addr++ {
		digits := strconv.Itoa(addr)
		if 0 <= addr && addr <= 8191 {
			wantParse(t, "L"+digits, []api.Op{load(addr)}, api.OK)
			wantParse(t, "S"+digits+"=-"+strconv.Itoa(addr+1), []api.Op{store(addr, -addr-1)}, api.OK)
			wantParse(t, "X"+digits+"="+digits, []api.Op{swap(addr, addr)}, api.OK)
			continue
		}
		for _, s := range []string{"L" + digits, "S" + digits + "=1", "X" + digits + "=1"} {
			wantParse(t, s, nil, api.ErrForm)
		}
	}
}

// values are such as lie near the edges, and near where numbers of fewer bits or digits end.
func values() []int {
	l := []int{math.MinInt, math.MinInt + 1, math.MaxInt - 1, math.MaxInt}
	for _, mid := range []int{0, 10, 100, 1 << 7, 1 << 8, 1 << 15, 1 << 16, 1000000000, 1 << 31, 1 << 32, 10000000000, 1 << 33, 1 << 62} {
		for n := mid - 3; n <= mid+3; n++ {
			l = append(l, n, -n)
		}
	}
	return l
}

func mayValue(n int) bool { return -2147483648 <= n && n <= 2147483647 }

// P3.1, P3.2: each of those Values, in texts and in operations.
func TestEachValue(t *testing.T) {
	for _, n := range values() {
		for letter, op := range map[string]api.Op{"S": store(3, n), "X": swap(3, n)} {
			s := letter + "3=" + strconv.Itoa(n)
			if mayValue(n) {
				wantParse(t, s, []api.Op{op}, api.OK)
				wantPrint(t, []api.Op{op}, s, api.OK)
			} else {
				wantParse(t, s, nil, api.ErrForm)
				wantPrint(t, []api.Op{op}, "", api.ErrArg)
			}
		}
	}
}

// mayByTheChapter is May, by the chapter's words.
func mayByTheChapter(x api.Op) bool {
	is := slices.Contains([]int{1, 2, 3, 4}, x.Kind)
	in := 0 <= x.Addr && x.Addr <= 8191 && mayValue(x.Value)
	bare := (x.Kind != 1 || x.Value == 0) && (x.Kind != 4 || x.Addr == 0 && x.Value == 0)
	return is && in && bare
}

func addrs() []int {
	return []int{math.MinInt, math.MinInt32, -8192, -2, -1, 0, 1, 2, 63, 64, 4095, 8190, 8191, 8192, 8193, 16384, 1 << 16, 1 << 31, 1 << 32, 1<<32 + 1, math.MaxInt}
}

// ops are operations of all kinds and of none, with all those Addrs and Values.
func ops() []api.Op {
	var l []api.Op
	for _, kind := range []int{math.MinInt, -4, -1, 0, 1, 2, 3, 4, 5, 6, 8, 'L', 'S', 'X', 'F', 256 + 1, 1<<32 + 1, math.MaxInt} {
		for _, addr := range addrs() {
			for _, value := range values() {
				l = append(l, api.Op{Kind: kind, Addr: addr, Value: value})
			}
		}
	}
	return l
}

// P3.2: operations that may be, and such as may not, written out.
func TestMayAtEdges(t *testing.T) {
	for _, x := range []struct {
		op   api.Op
		want bool
	}{
		{load(0), true}, {load(8191), true}, {load(8192), false}, {load(-1), false},
		{store(0, 0), true}, {store(8191, 1), true}, {store(8192, 1), false}, {store(-1, 1), false},
		{swap(0, 0), true}, {swap(8191, 1), true}, {swap(8192, 1), false}, {swap(-1, 1), false},
		{store(3, math.MinInt32), true}, {store(3, math.MinInt32-1), false}, {store(3, math.MaxInt32), true}, {store(3, math.MaxInt32+1), false},
		{swap(3, math.MinInt32), true}, {swap(3, math.MinInt32-1), false}, {swap(3, math.MaxInt32), true}, {swap(3, math.MaxInt32+1), false},
		{api.Op{Kind: api.Load, Addr: 5, Value: 1}, false}, {api.Op{Kind: api.Load, Addr: 5, Value: -1}, false},
		{fence(), true}, {api.Op{Kind: api.Fence, Addr: 1}, false}, {api.Op{Kind: api.Fence, Value: 1}, false}, {api.Op{Kind: api.Fence, Addr: 1, Value: 1}, false},
		{api.Op{}, false}, {api.Op{Kind: -1}, false}, {api.Op{Kind: 5}, false}, {api.Op{Kind: 5, Addr: 1, Value: 1}, false},
	} {
		if may := program.May(x.op); may != x.want {
			t.Errorf("%v: %t", x.op, may)
		}
	}
}

// P3.2, P3.3: whether an operation may be, prints, and fits the greatest machine, is one; and what prints parses to itself.
func TestMayAndPrintAndFitsAgree(t *testing.T) {
	for _, x := range ops() {
		want := mayByTheChapter(x)
		if may := program.May(x); may != want {
			t.Errorf("%v: May: %t", x, may)
		}
		if fits := program.Fits(machine(8, 1024), []api.Op{x}); fits != want {
			t.Errorf("%v: Fits: %t", x, fits)
		}
		s, e := program.Print([]api.Op{x})
		if want && e == api.OK && s != "" {
			wantParse(t, s, []api.Op{x}, api.OK)
		} else if want || e != api.ErrArg || s != "" {
			t.Errorf("%v: Print: %q, %d", x, s, e)
		}
	}
}

// P3.2: one operation that may not be is enough, wherever it stands.
func TestPrintOfOperationsThatMayNotBe(t *testing.T) {
	for _, wrong := range []api.Op{{}, {Kind: 5}, load(8192), load(-1), {Kind: api.Load, Value: 1}, store(0, 1<<31), swap(-1, 0), {Kind: api.Fence, Addr: 1}, {Kind: api.Fence, Value: 1}} {
		for _, count := range []int{1, 2, 3, 64} {
			for i := range count {
				l := slices.Repeat([]api.Op{fence()}, count)
				l[i] = wrong
				wantPrint(t, l, "", api.ErrArg)
				if program.Fits(machine(8, 1024), l) {
					t.Errorf("%v fits", l)
				}
			}
		}
		// Too many is named first.
		wantPrint(t, append(slices.Repeat([]api.Op{fence()}, 64), wrong), "", api.ErrFull)
		wantPrint(t, slices.Repeat([]api.Op{wrong}, 65), "", api.ErrFull)
	}
}

// P3.2, P3.3: as many operations as there may be print, and parse to themselves; one more is too many.
func TestPrintOfMany(t *testing.T) {
	for text, op := range map[string]api.Op{"F": fence(), "L8191": load(8191), "S8191=-2147483648": store(8191, -2147483648), "X0=0": swap(0, 0)} {
		for _, count := range []int{0, 1, 2, 63, 64, 65, 66, 1000, 100000} {
			l := slices.Repeat([]api.Op{op}, count)
			if count > 64 {
				wantPrint(t, l, "", api.ErrFull)
				continue
			}
			wantPrint(t, l, repeated(text, count), api.OK)
			wantParse(t, repeated(text, count), l, api.OK)
		}
	}
	wantPrint(t, nil, "", api.OK)
	wantPrint(t, []api.Op{}, "", api.OK)
}

// P3.3: programs of all that may be, of every length, come back from their texts.
func TestProgramsComeBack(t *testing.T) {
	var l []api.Op
	for _, x := range ops() {
		if !mayByTheChapter(x) {
			continue
		}
		l = append(l, x)
		s, e := program.Print(l)
		if e != api.OK {
			t.Fatalf("%v: %d", l, e)
		}
		wantParse(t, s, l, api.OK)
		if len(l) == 64 {
			l = nil
		}
	}
}

// machine is one of so many words of a line, and so many lines.
func machine(words, lines int) api.Config {
	return api.Config{
		Cores: 3, Homes: 2, Sets: 4, Ways: 3, Words: words, Lines: lines,
		Pointers: 2, Mshrs: 2, Buffer: 5, Writebacks: 3, Room: [3]int{7, 9, 11},
	}
}

func wantFits(t *testing.T, c api.Config, l []api.Op, want bool) {
	t.Helper()
	if fits := program.Fits(c, l); fits != want {
		t.Errorf("%v: %v: %t", c, l, fits)
	}
}

// P3.2: of each number of addresses the last one fits, and the next one does not; fences and no operation fit all.
func TestFitsAtTheLastAddress(t *testing.T) {
	for words := 1; words <= 8; words *= 2 {
		for lines := 1; lines <= 1024; lines *= 2 {
			c := machine(words, lines)
			size := words * lines
			wantFits(t, c, nil, true)
			wantFits(t, c, []api.Op{}, true)
			wantFits(t, c, []api.Op{fence()}, true)
			for _, at := range []func(addr int) api.Op{load, func(addr int) api.Op { return store(addr, math.MinInt32) }, func(addr int) api.Op { return swap(addr, math.MaxInt32) }} {
				wantFits(t, c, []api.Op{at(0)}, true)
				wantFits(t, c, []api.Op{at(size - 1)}, true)
				wantFits(t, c, []api.Op{at(size)}, false)
				wantFits(t, c, []api.Op{at(-1)}, false)
				wantFits(t, c, []api.Op{fence(), at(0), at(size - 1), fence()}, true)
				wantFits(t, c, []api.Op{fence(), at(0), at(size), fence()}, false)
				wantFits(t, c, []api.Op{at(size), fence()}, false)
			}
		}
	}
}

// P3.2: as many operations as there may be fit, and one more do not.
func TestFitsOfMany(t *testing.T) {
	for _, op := range []api.Op{fence(), load(0), store(63, -1), swap(63, 1)} {
		wantFits(t, machine(4, 16), slices.Repeat([]api.Op{op}, 64), true)
		wantFits(t, machine(4, 16), slices.Repeat([]api.Op{op}, 65), false)
		wantFits(t, machine(4, 16), slices.Repeat([]api.Op{op}, 1000), false)
	}
}

// P3.2: no program fits sizes that may not be, the empty one neither.
func TestFitsOfSizesThatMayNotBe(t *testing.T) {
	wrong := []api.Config{{}}
	for _, set := range []func(c *api.Config, n int){
		func(c *api.Config, n int) { c.Cores = n },
		func(c *api.Config, n int) { c.Homes = n },
		func(c *api.Config, n int) { c.Sets = n },
		func(c *api.Config, n int) { c.Ways = n },
		func(c *api.Config, n int) { c.Words = n },
		func(c *api.Config, n int) { c.Lines = n },
		func(c *api.Config, n int) { c.Pointers = n },
		func(c *api.Config, n int) { c.Mshrs = n },
		func(c *api.Config, n int) { c.Buffer = n },
		func(c *api.Config, n int) { c.Writebacks = n },
		func(c *api.Config, n int) { c.Room[0] = n },
		func(c *api.Config, n int) { c.Room[1] = n },
		func(c *api.Config, n int) { c.Room[2] = n },
	} {
		for _, n := range []int{math.MinInt, -1, 0, 3, 2048, math.MaxInt} {
			c := machine(4, 16)
			set(&c, n)
			if shape.Check(c) != api.OK {
				wrong = append(wrong, c)
			}
		}
	}
	for _, c := range wrong {
		wantFits(t, c, nil, false)
		wantFits(t, c, []api.Op{fence()}, false)
		wantFits(t, c, []api.Op{load(0)}, false)
	}
}

// R3, R4, R5: what is asked stays as it was, and what is answered is the caller's own.
func TestNothingIsSharedOrKept(t *testing.T) {
	l := []api.Op{load(5), store(3, -7), fence()}
	was := slices.Clone(l)
	for range 3 {
		wantPrint(t, l, "L5 S3=-7 F", api.OK)
		wantFits(t, machine(4, 16), l, true)
		got, e := program.Parse("L5 S3=-7 F")
		if e != api.OK || !slices.Equal(got, was) || !slices.Equal(l, was) {
			t.Fatalf("%v, %v, %d", got, l, e)
		}
		clear(got)
		wantParse(t, "L5 S3=-7 f", nil, api.ErrForm)
	}
}
