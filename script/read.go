package script

import (
	"mesne/api"
	"mesne/program"
	"mesne/shape"
)

const (
	sizesBytes = 13 // that tell a machine's sizes
	pickBytes  = 3  // that tell a pick
	// A greater power is that of no size, and might be that of no int.
	mostPower = 20
	// Below it one byte tells how many; from it on two do, each with seven of the number's bits.
	oneByte = 128
)

// taking hands out the next so many bytes; if there are fewer, it tells false, and stays where it was.
type taking func(count int) (string, bool)

// taker keeps its place in some bytes, so that none of those who read them need know of it.
func taker(b string) taking {
	place := 0
	return func(count int) (string, bool) {
		if count > len(b)-place {
			return "", false
		}
		from := place
		place += count
		return b[from:place], true
	}
}

// readSizes takes a machine's sizes.
func readSizes(next taking) (api.Config, api.Errno) {
	b, ok := next(sizesBytes)
	if !ok {
		return api.Config{}, api.ErrShort
	}
	c := api.Config{
		Cores:      int(b[0]),
		Homes:      ofPower(b[1]),
		Sets:       ofPower(b[2]),
		Ways:       int(b[3]),
		Words:      ofPower(b[4]),
		Lines:      ofPower(b[5]),
		Pointers:   int(b[6]),
		Mshrs:      int(b[7]),
		Buffer:     int(b[8]),
		Writebacks: int(b[9]),
		Room:       [3]int{int(b[10]), int(b[11]), int(b[12])},
	}
	if shape.Check(c) != api.OK {
		return api.Config{}, api.ErrArg
	}
	return c, api.OK
}

// ofPower tells the size of a power; of one too great 0, which no such size may be.
func ofPower(power byte) int {
	if power > mostPower {
		return 0
	}
	return 1 << power
}

// readPrograms takes a program of each core.
func readPrograms(c api.Config, next taking) ([][]api.Op, api.Errno) {
	var programs [][]api.Op
	for range c.Cores {
		l, err := readProgram(c, next)
		if err != api.OK {
			return nil, err
		}
		programs = append(programs, l)
	}
	return programs, api.OK
}

// readProgram takes the program of one core.
func readProgram(c api.Config, next taking) ([]api.Op, api.Errno) {
	count, err := readCount(next)
	if err != api.OK {
		return nil, err
	}
	text, ok := next(count)
	if !ok {
		return nil, api.ErrShort
	}
	l, err := program.Parse(text)
	if err != api.OK {
		return nil, err
	}
	if !program.Fits(c, l) {
		return nil, api.ErrName
	}
	return l, api.OK
}

// readCount takes how many bytes a program's text has.
func readCount(next taking) (int, api.Errno) {
	first, ok := next(1)
	if !ok {
		return 0, api.ErrShort
	}
	high := int(first[0])
	if high < oneByte {
		return high, api.OK
	}
	second, ok := next(1)
	if !ok {
		return 0, api.ErrShort
	}
	high -= oneByte
	low := int(second[0])
	// Without highest bits one byte is enough.
	if high == 0 || low >= oneByte {
		return 0, api.ErrForm
	}
	return high*oneByte + low, api.OK
}

// readPicks takes picks till nothing is left.
func readPicks(next taking) ([]Pick, api.Errno) {
	var picks []Pick
	for b, ok := next(pickBytes); ok; b, ok = next(pickBytes) {
		picks = append(picks, Pick{Kind: int(b[0]), A: int(b[1]), B: int(b[2])})
	}
	if _, left := next(1); left {
		return nil, api.ErrShort
	}
	return picks, api.OK
}
