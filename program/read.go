package program

import (
	"math"

	"mesne/api"
)

// place is where in an operation's text a reader stands.
type place int

const (
	ahead   place = iota // of the operation's letter
	inAddr               // behind a letter that has an Addr
	inValue              // behind the =
	behind               // behind a fence's letter, where nothing more may be
)

// reader goes through a text rune by rune: what it has read, and the operation in which it stands.
type reader struct {
	read  []api.Op
	op    api.Op
	place place
	num   number
}

// read tells the operations of a text, however many, and whether it is a program's text.
func read(s string) ([]api.Op, bool) {
	// No other text has an operation that is left out.
	if s == "" {
		return nil, true
	}
	var d reader
	for _, r := range s {
		if !d.take(r) {
			return nil, false
		}
	}
	if !d.end() {
		return nil, false
	}
	return d.read, true
}

// take reads one rune, and tells whether it may stand there.
func (d *reader) take(r rune) bool {
	if r == blank {
		return d.end()
	}
	switch d.place {
	case ahead:
		return d.takeLetter(r)
	case inAddr:
		if r == equals {
			return d.takeEquals()
		}
		return d.num.takeDigit(r)
	case inValue:
		if r == minus {
			return d.num.takeMinus()
		}
		return d.num.takeDigit(r)
	}
	return false
}

// takeLetter begins an operation.
func (d *reader) takeLetter(r rune) bool {
	d.op.Kind = kindOf(r)
	d.place = inAddr
	if d.op.Kind == api.Fence {
		d.place = behind
	}
	return d.op.Kind != 0
}

// takeEquals ends the Addr of an operation that has a Value.
func (d *reader) takeEquals() bool {
	d.place = inValue
	return d.op.Kind != api.Load && d.endNumber(&d.op.Addr)
}

// end ends an operation, and makes ready for the next one.
func (d *reader) end() bool {
	whole := false
	switch d.place {
	case inAddr:
		whole = d.op.Kind == api.Load && d.endNumber(&d.op.Addr)
	case inValue:
		whole = d.endNumber(&d.op.Value)
	case behind:
		whole = true
	}
	if !whole || !May(d.op) {
		return false
	}
	d.read = append(d.read, d.op)
	d.op, d.place = api.Op{}, ahead
	return true
}

// endNumber puts the number that was read where it belongs, and tells whether it was one.
func (d *reader) endNumber(to *int) bool {
	n, ok := d.num.value()
	*to, d.num = n, number{}
	return ok
}

// mostNumber is as far from 0 as any number of an operation.
const mostNumber = -math.MinInt32

// number is one of which some digits were read.
type number struct {
	below0 bool
	digits int
	size   int // how far from 0 it is
}

// takeMinus reads a - ahead of the digits.
func (n *number) takeMinus() bool {
	first := !n.below0 && n.digits == 0
	n.below0 = true
	return first
}

// takeDigit reads a digit. One that makes the number too great for any operation is refused at once, since a text may have more digits than an int can hold.
func (n *number) takeDigit(r rune) bool {
	zeroAhead := n.digits > 0 && n.size == 0
	if r < '0' || r > '9' || zeroAhead {
		return false
	}
	n.digits++
	n.size = 10*n.size + int(r-'0')
	return n.size <= mostNumber
}

// value tells the number, and whether it is one.
func (n *number) value() (int, bool) {
	if n.digits == 0 || n.below0 && n.size == 0 {
		return 0, false
	}
	if n.below0 {
		return -n.size, true
	}
	return n.size, true
}
