package script

import (
	"mesne/api"
	"mesne/program"
	"mesne/shape"
)

// write tells the bytes of a script that may be.
func write(s Script) string {
	b := appendSizes(nil, s.Config)
	for _, l := range s.Programs {
		b = appendProgram(b, l)
	}
	for _, p := range s.Picks {
		b = append(b, byte(p.Kind), byte(p.A), byte(p.B))
	}
	return string(b)
}

// appendSizes lays a machine's sizes behind other bytes.
func appendSizes(b []byte, c api.Config) []byte {
	return append(b,
		byte(c.Cores),
		powerOf(c.Homes),
		powerOf(c.Sets),
		byte(c.Ways),
		powerOf(c.Words),
		powerOf(c.Lines),
		byte(c.Pointers),
		byte(c.Mshrs),
		byte(c.Buffer),
		byte(c.Writebacks),
		byte(c.Room[0]),
		byte(c.Room[1]),
		byte(c.Room[2]),
	)
}

// powerOf tells the power of a size that is one of two, since it may be.
func powerOf(size int) byte {
	power, _ := shape.Power(size)
	return byte(power)
}

// appendProgram lays a program behind other bytes. One that fits has a text, and that is shorter than two bytes can tell.
func appendProgram(b []byte, l []api.Op) []byte {
	text, _ := program.Print(l)
	return append(appendCount(b, len(text)), text...)
}

// appendCount lays how many bytes a text has behind other bytes.
func appendCount(b []byte, count int) []byte {
	if count < oneByte {
		return append(b, byte(count))
	}
	return append(b, byte(oneByte+count/oneByte), byte(count%oneByte))
}
