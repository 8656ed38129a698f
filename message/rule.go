package message

import (
	"math"

	"mesne/api"
)

// The networks.
const (
	requests  = 0
	forwards  = 1
	responses = 2
)

// Who of Data tells who sent it.
const (
	byHome = 0
	byCore = 1
)

// rule is what messages of a kind must have, but for their lines and words: these are asked of all kinds in one way.
type rule interface {
	network() int
	toHome() bool
	// holds is asked only of a message of a line of a machine that may be.
	holds(c api.Config, m api.Message) bool
}

// worded is the rule of a kind that brings words; those of the others tell nothing of them.
type worded interface {
	words(c api.Config) int
}

// ruleOf tells a kind's rule, if it is a kind.
func ruleOf(kind int) (rule, bool) {
	switch kind {
	case api.GetS, api.GetM:
		return request{}, true
	case api.Put:
		return put{}, true
	case api.FwdS, api.Inv:
		return forward{}, true
	case api.FwdM:
		return forward{counts: true}, true
	case api.Data:
		return data{}, true
	case api.Grant:
		return answer{counts: true}, true
	case api.PutAck:
		return answer{}, true
	case api.Ack:
		return ack{}, true
	case api.Done:
		return done{}, true
	}
	return nil, false
}

// wordsOf tells how many words messages of a rule bring.
func wordsOf(r rule, c api.Config) int {
	if w, ok := r.(worded); ok {
		return w.words(c)
	}
	return 0
}

// request is the rule of what a core asks of a home.
type request struct{}

func (request) network() int { return requests }

func (request) toHome() bool { return true }

func (request) holds(c api.Config, m api.Message) bool {
	return fromCoreToHome(c, m) && isBare(m)
}

// put is the rule of a request that brings a line's words home.
type put struct{ request }

func (put) words(c api.Config) int { return c.Words }

// forward is the rule of what a home tells a core to do for another one.
type forward struct {
	// counts tells whether it hands on how many acks there must be.
	counts bool
}

func (forward) network() int { return forwards }

func (forward) toHome() bool { return false }

func (f forward) holds(c api.Config, m api.Message) bool {
	return fromHomeToCore(c, m) && isAnother(c, m.Who, m.To) && areAcks(c, m.Acks, f.counts) && m.Own == 0
}

// data is the rule of a line's words on their way to who asked for them.
type data struct{}

func (data) network() int { return responses }

func (data) toHome() bool { return false }

func (data) words(c api.Config) int { return c.Words }

func (data) holds(c api.Config, m api.Message) bool {
	return isSender(c, m) && areAcks(c, m.Acks, true) && isGiven(m.Own)
}

// isSender tells whether Data comes from such a one as its Who tells.
func isSender(c api.Config, m api.Message) bool {
	switch m.Who {
	case byHome:
		return fromHomeToCore(c, m)
	case byCore:
		return fromCoreToCore(c, m)
	}
	return false
}

// isGiven tells whether Data may give a state.
func isGiven(state int) bool {
	return state == api.Shared || state == api.Exclusive || state == api.Modified
}

// answer is the rule of what a home answers a core without words.
type answer struct {
	// counts tells whether it tells how many acks there must be.
	counts bool
}

func (answer) network() int { return responses }

func (answer) toHome() bool { return false }

func (a answer) holds(c api.Config, m api.Message) bool {
	return fromHomeToCore(c, m) && m.Who == 0 && areAcks(c, m.Acks, a.counts) && m.Own == 0
}

// ack is the rule of what a core that let a line go tells who asked for it.
type ack struct{}

func (ack) network() int { return responses }

func (ack) toHome() bool { return false }

func (ack) holds(c api.Config, m api.Message) bool {
	return fromCoreToCore(c, m) && isBare(m)
}

// done is the rule of what a core tells a home when it has what it asked for.
type done struct{}

func (done) network() int { return responses }

func (done) toHome() bool { return true }

func (done) holds(c api.Config, m api.Message) bool {
	return fromCoreToHome(c, m) && isBare(m)
}

// isBare tells whether a message tells nothing beside where it goes.
func isBare(m api.Message) bool { return m.Who == 0 && m.Acks == 0 && m.Own == 0 }

// fromCoreToHome tells whether a message goes from a core to its line's home.
func fromCoreToHome(c api.Config, m api.Message) bool {
	return isOneOf(m.From, c.Cores) && m.To == homeOf(c, m.Line)
}

// fromHomeToCore tells whether a message goes from its line's home to a core.
func fromHomeToCore(c api.Config, m api.Message) bool {
	return m.From == homeOf(c, m.Line) && isOneOf(m.To, c.Cores)
}

// fromCoreToCore tells whether a message goes from a core to another one.
func fromCoreToCore(c api.Config, m api.Message) bool {
	return isOneOf(m.To, c.Cores) && isAnother(c, m.From, m.To)
}

// homeOf tells a line's home.
func homeOf(c api.Config, line int) int { return line % c.Homes }

// isAnother tells whether a number is a core's, other than a certain one.
func isAnother(c api.Config, n, core int) bool { return isOneOf(n, c.Cores) && n != core }

// isOneOf tells whether a number is one of the first so many from 0 on.
func isOneOf(n, count int) bool { return 0 <= n && n < count }

// areAcks tells whether there may be so many acks: of what doesn't count them none, else one of each core but who asked.
func areAcks(c api.Config, acks int, counts bool) bool {
	if !counts {
		return acks == 0
	}
	return isOneOf(acks, c.Cores)
}

// areWords tells whether so many words, and no more, may be other than 0.
func areWords(words api.Words, count int) bool {
	for i, n := range words {
		if n < math.MinInt32 || n > math.MaxInt32 || i >= count && n != 0 {
			return false
		}
	}
	return true
}
