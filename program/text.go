package program

import (
	"strconv"

	"mesne/api"
)

// The letters that operations begin with.
const (
	loadLetter  = 'L'
	storeLetter = 'S'
	swapLetter  = 'X'
	fenceLetter = 'F'
)

const (
	blank  = ' ' // between two operations
	equals = '=' // between an Addr and a Value
	minus  = '-' // ahead of a Value below 0
)

// kindOf tells the kind of operation that begins with a letter; 0, if none does.
func kindOf(letter rune) int {
	switch letter {
	case loadLetter:
		return api.Load
	case storeLetter:
		return api.Store
	case swapLetter:
		return api.Swap
	case fenceLetter:
		return api.Fence
	}
	return 0
}

// write tells the text of operations, each of which may be.
func write(l []api.Op) string {
	var text []byte
	for i, x := range l {
		if i > 0 {
			text = append(text, blank)
		}
		text = appendOp(text, x)
	}
	return string(text)
}

// appendOp lays an operation's text behind another one.
func appendOp(text []byte, x api.Op) []byte {
	switch x.Kind {
	case api.Load:
		return appendNumber(append(text, loadLetter), x.Addr)
	case api.Store:
		return appendBoth(append(text, storeLetter), x)
	case api.Swap:
		return appendBoth(append(text, swapLetter), x)
	}
	return append(text, fenceLetter)
}

// appendBoth lays an operation's Addr and Value behind a text.
func appendBoth(text []byte, x api.Op) []byte {
	return appendNumber(append(appendNumber(text, x.Addr), equals), x.Value)
}

func appendNumber(text []byte, n int) []byte { return strconv.AppendInt(text, int64(n), 10) }
