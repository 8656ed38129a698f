package message

import "mesne/api"

const (
	headBytes = 8 // ahead of words
	wordBytes = 4
	byteBits  = 8
)

// write tells the bytes of a message that may be: each of its numbers is one that so many bytes can tell.
func write(c api.Config, m api.Message) string {
	b := []byte{
		byte(m.Kind),
		byte(m.Line >> byteBits), byte(m.Line),
		byte(m.From), byte(m.To), byte(m.Who), byte(m.Acks), byte(m.Own),
	}
	r, _ := ruleOf(m.Kind)
	for _, n := range m.Words[:wordsOf(r, c)] {
		b = appendWord(b, n)
	}
	return string(b)
}

// appendWord lays a word behind other bytes.
func appendWord(b []byte, word int) []byte {
	// As a number of 32 bits one below 0 is 2^32 more.
	n := uint32(word)
	return append(b, byte(n>>(3*byteBits)), byte(n>>(2*byteBits)), byte(n>>byteBits), byte(n))
}

// read tells what bytes tell on a machine that may be, if they are just as many as their kind has; whether that may be is not asked.
func read(c api.Config, s string) (api.Message, bool) {
	if len(s) < headBytes {
		return api.Message{}, false
	}
	m := readHead(s)
	r, ok := ruleOf(m.Kind)
	if !ok {
		return api.Message{}, false
	}
	count := wordsOf(r, c)
	if len(s) != headBytes+wordBytes*count {
		return api.Message{}, false
	}
	for i := range count {
		m.Words[i] = readWord(s[headBytes+wordBytes*i:])
	}
	return m, true
}

// readHead tells what the bytes ahead of words tell.
func readHead(s string) api.Message {
	return api.Message{
		Kind: int(s[0]),
		Line: int(s[1])<<byteBits | int(s[2]),
		From: int(s[3]),
		To:   int(s[4]),
		Who:  int(s[5]),
		Acks: int(s[6]),
		Own:  int(s[7]),
	}
}

// readWord tells the word of the first bytes.
func readWord(s string) int {
	n := uint32(s[0])<<(3*byteBits) | uint32(s[1])<<(2*byteBits) | uint32(s[2])<<byteBits | uint32(s[3])
	// By way of the signed kind of the same bits, of which those of the upper half are below 0.
	return int(int32(n))
}
