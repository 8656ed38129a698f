package shape_test

import (
	"math"
	"testing"

	"mesne/api"
	"mesne/shape"
)

// size is one of a machine's sizes, what it may be by the chapter, and how it is set.
type size struct {
	name        string
	least, most int
	power       bool
	set         func(c *api.Config, n int)
}

func sizes() []size {
	return []size{
		{"Cores", 1, 64, false, func(c *api.Config, n int) { c.Cores = n }},
		{"Homes", 1, 16, true, func(c *api.Config, n int) { c.Homes = n }},
		{"Sets", 1, 64, true, func(c *api.Config, n int) { c.Sets = n }},
		{"Ways", 1, 8, false, func(c *api.Config, n int) { c.Ways = n }},
		{"Words", 1, 8, true, func(c *api.Config, n int) { c.Words = n }},
		{"Lines", 1, 1024, true, func(c *api.Config, n int) { c.Lines = n }},
		{"Pointers", 0, 8, false, func(c *api.Config, n int) { c.Pointers = n }},
		{"Mshrs", 1, 8, false, func(c *api.Config, n int) { c.Mshrs = n }},
		{"Buffer", 1, 16, false, func(c *api.Config, n int) { c.Buffer = n }},
		{"Writebacks", 1, 8, false, func(c *api.Config, n int) { c.Writebacks = n }},
		{"Room 0", 1, 64, false, func(c *api.Config, n int) { c.Room[0] = n }},
		{"Room 1", 1, 64, false, func(c *api.Config, n int) { c.Room[1] = n }},
		{"Room 2", 1, 64, false, func(c *api.Config, n int) { c.Room[2] = n }},
	}
}

func least() api.Config {
	return api.Config{
		Cores: 1, Homes: 1, Sets: 1, Ways: 1, Words: 1, Lines: 1,
		Pointers: 0, Mshrs: 1, Buffer: 1, Writebacks: 1, Room: [3]int{1, 1, 1},
	}
}

func most() api.Config {
	return api.Config{
		Cores: 64, Homes: 16, Sets: 64, Ways: 8, Words: 8, Lines: 1024,
		Pointers: 8, Mshrs: 8, Buffer: 16, Writebacks: 8, Room: [3]int{64, 64, 64},
	}
}

func ordinary() api.Config {
	return api.Config{
		Cores: 3, Homes: 2, Sets: 4, Ways: 3, Words: 4, Lines: 16,
		Pointers: 2, Mshrs: 2, Buffer: 5, Writebacks: 3, Room: [3]int{7, 9, 11},
	}
}

func bases() []api.Config { return []api.Config{least(), ordinary(), most()} }

// powers are all powers of two that an int can be, by doubling.
func powers() []int {
	l := []int{1}
	for n := 1; n <= math.MaxInt/2; {
		n *= 2
		l = append(l, n)
	}
	return l
}

func placeOf(n int) (int, bool) {
	for k, p := range powers() {
		if p == n {
			return k, true
		}
	}
	return 0, false
}

func (s size) may(n int) bool {
	_, is := placeOf(n)
	return s.least <= n && n <= s.most && (!s.power || is)
}

// P1.1: sizes at their least, at their greatest, and ordinary ones may be.
func TestCheckOfSizesThatMayBe(t *testing.T) {
	for i, c := range bases() {
		if e := shape.Check(c); e != api.OK {
			t.Errorf("base %d: %d", i, e)
		}
	}
}

// P1.1: each size alone, through all that it may be and well beyond both ends.
func TestCheckOfEachSize(t *testing.T) {
	for i, base := range bases() {
		for _, s := range sizes() {
			tried := []int{math.MinInt, math.MinInt + 1, math.MinInt32, 1 << 32, 1<<32 + 1, 1 << 62, math.MaxInt}
			for n := -70; n <= 2*s.most+70; n++ {
				tried = append(tried, n)
			}
			for _, n := range tried {
				c := base
				s.set(&c, n)
				want := api.ErrArg
				if s.may(n) {
					want = api.OK
				}
				if e := shape.Check(c); e != want {
					t.Errorf("base %d, %s %d: %d, not %d", i, s.name, n, e, want)
				}
			}
		}
	}
}

// P1.1: the edges, each written out.
func TestCheckAtEdges(t *testing.T) {
	for _, s := range sizes() {
		for _, x := range []struct {
			n    int
			want api.Errno
		}{{s.least - 1, api.ErrArg}, {s.least, api.OK}, {s.most, api.OK}, {s.most + 1, api.ErrArg}, {2 * s.most, api.ErrArg}} {
			c := ordinary()
			s.set(&c, x.n)
			if e := shape.Check(c); e != x.want {
				t.Errorf("%s %d: %d, not %d", s.name, x.n, e, x.want)
			}
		}
	}
	for _, s := range sizes() {
		for n := 3; s.power && n < s.most; n = 2*n - 1 {
			c := ordinary()
			s.set(&c, n)
			if e := shape.Check(c); e != api.ErrArg {
				t.Errorf("%s %d is no power of two: %d", s.name, n, e)
			}
		}
	}
}

// P1.1: one wrong size is enough, and several are no better.
func TestCheckOfSeveralWrongSizes(t *testing.T) {
	if e := shape.Check(api.Config{}); e != api.ErrArg {
		t.Errorf("zero value: %d", e)
	}
	all := sizes()
	for i := range all {
		for j := range all[:i] {
			c := ordinary()
			all[i].set(&c, all[i].most+1)
			all[j].set(&c, all[j].least-1)
			if e := shape.Check(c); e != api.ErrArg {
				t.Errorf("%s and %s: %d", all[i].name, all[j].name, e)
			}
		}
	}
}

// P1.1: every power of two tells its place.
func TestPowerOfPowers(t *testing.T) {
	for want, n := range powers() {
		if k, is := shape.Power(n); k != want || !is {
			t.Errorf("%d: %d, %t", n, k, is)
		}
	}
	if k, is := shape.Power(8); k != 3 || !is {
		t.Errorf("8: %d, %t", k, is)
	}
}

// P1.1: other numbers tell 0 and false, those beside powers and below 0 among them.
func TestPowerOfOthers(t *testing.T) {
	others := []int{0, math.MinInt, math.MinInt + 1, math.MaxInt, math.MaxInt - 1}
	for _, p := range powers() {
		others = append(others, -p)
		if p > 2 {
			others = append(others, p-1, p+1, p+p/2)
		}
	}
	for _, n := range others {
		if k, is := shape.Power(n); k != 0 || is {
			t.Errorf("%d: %d, %t", n, k, is)
		}
	}
	for n := -5000; n <= 5000; n++ {
		want, wantIs := placeOf(n)
		if k, is := shape.Power(n); k != want || is != wantIs {
			t.Errorf("%d: %d, %t", n, k, is)
		}
	}
}

// P1.2: Least at the chapter's edges.
func TestLeastAtEdges(t *testing.T) {
	for _, x := range []struct{ n, want int }{
		{math.MinInt, 1}, {math.MinInt + 1, 1}, {-1 << 30, 1}, {-2, 1}, {-1, 1}, {0, 1},
		{1, 1}, {2, 2}, {3, 4}, {4, 4}, {5, 8}, {9, 16},
		{1<<29 - 1, 1 << 29}, {1 << 29, 1 << 29}, {1<<29 + 1, 1 << 30},
		{1<<30 - 1, 1 << 30}, {1 << 30, 1 << 30},
		{1<<30 + 1, 0}, {1<<31 - 1, 0}, {1 << 31, 0}, {1 << 32, 0}, {1<<32 + 1, 0},
		{1 << 62, 0}, {math.MaxInt - 1, 0}, {math.MaxInt, 0},
	} {
		if k := shape.Least(x.n); k != x.want {
			t.Errorf("%d: %d, not %d", x.n, k, x.want)
		}
	}
}

func leastByDoubling(n int) int {
	p := 1
	for p < n {
		p *= 2
	}
	return p
}

// near are numbers from 1 to 2^30: all small ones, and those about each power.
func near() []int {
	var l []int
	for n := 1; n <= 5000; n++ {
		l = append(l, n)
	}
	for p := 4096; p <= 1<<30; p *= 2 {
		for n := p - 70; n <= p+70; n++ {
			if n <= 1<<30 {
				l = append(l, n)
			}
		}
	}
	return l
}

// P1.2: Least is what doubling finds.
func TestLeastOfMany(t *testing.T) {
	for _, n := range near() {
		if k, want := shape.Least(n), leastByDoubling(n); k != want {
			t.Errorf("%d: %d, not %d", n, k, want)
		}
	}
}

// P1.2: Size is Words times Lines, whatever the other sizes are.
func TestSizeOfSizesThatMayBe(t *testing.T) {
	for i, base := range bases() {
		for _, words := range []int{1, 2, 4, 8} {
			for lines := 1; lines <= 1024; lines *= 2 {
				c := base
				c.Words, c.Lines = words, lines
				if n := shape.Size(c); n != words*lines {
					t.Errorf("base %d, %d words, %d lines: %d", i, words, lines, n)
				}
			}
		}
	}
	for i, want := range []int{1, 64, 8192} {
		if n := shape.Size(bases()[i]); n != want {
			t.Errorf("base %d: %d, not %d", i, n, want)
		}
	}
}

// P1.2: Size is 0, whichever size is wrong.
func TestSizeOfSizesThatMayNotBe(t *testing.T) {
	if n := shape.Size(api.Config{}); n != 0 {
		t.Errorf("zero value: %d", n)
	}
	for _, s := range sizes() {
		for _, n := range []int{math.MinInt, -1, s.least - 1, s.most + 1, 2 * s.most, math.MaxInt} {
			c := ordinary()
			s.set(&c, n)
			if s.may(n) {
				t.Fatalf("%s %d may be", s.name, n)
			}
			if k := shape.Size(c); k != 0 {
				t.Errorf("%s %d: %d", s.name, n, k)
			}
		}
		if c := ordinary(); s.power {
			s.set(&c, 3)
			if k := shape.Size(c); k != 0 {
				t.Errorf("%s 3: %d", s.name, k)
			}
		}
	}
}

// P1.3: powers of two, times one another, are such, and their places add up.
func TestPowersTimesPowers(t *testing.T) {
	l := powers()
	for i := range l {
		for j := 0; i+j < len(l); j++ {
			if k, is := shape.Power(l[i] * l[j]); k != i+j || !is {
				t.Errorf("%d times %d: %d, %t", l[i], l[j], k, is)
			}
		}
	}
	for _, words := range []int{1, 2, 4, 8} {
		for lines := 1; lines <= 1024; lines *= 2 {
			c := ordinary()
			c.Words, c.Lines = words, lines
			if _, is := shape.Power(shape.Size(c)); !is {
				t.Errorf("%d words, %d lines: %d is no power", words, lines, shape.Size(c))
			}
		}
	}
}

// P1.3: Least is a power of two, no less than n, less than twice n, and itself where n is one.
func TestLeastIsAPower(t *testing.T) {
	for _, n := range near() {
		k := shape.Least(n)
		if _, is := shape.Power(k); !is || k < n || k >= 2*n {
			t.Errorf("%d: %d", n, k)
		}
		if shape.Least(k) != k {
			t.Errorf("%d: %d, then %d", n, k, shape.Least(k))
		}
	}
}
