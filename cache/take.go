package cache

import (
	"mesne/api"
	"mesne/message"
	"mesne/mshr"
)

// byCore is the Who of Data that a core sends.
const byCore = 1

// Take takes a message.
func (k *Cache) Take(m api.Message) (api.Message, bool, api.Errno) {
	become := becomeOf(m.Kind)
	if become == nil || !message.May(k.sizes, m) || m.To != k.core {
		return api.Message{}, false, api.ErrArg
	}
	return become(k, m)
}

// becomeOf chooses what is to become of a message, by its kind; nil of what goes to a home, or is no message.
func becomeOf(kind int) func(*Cache, api.Message) (api.Message, bool, api.Errno) {
	switch kind {
	case api.FwdS:
		return (*Cache).share
	case api.FwdM:
		return (*Cache).give
	case api.Inv:
		return (*Cache).forget
	case api.Data:
		return (*Cache).fill
	case api.Grant:
		return (*Cache).grant
	case api.Ack:
		return (*Cache).count
	case api.PutAck:
		return (*Cache).drop
	}
	return nil
}

// nothing is what Take answers where there is nothing to be sent.
func nothing() (api.Message, bool, api.Errno) { return api.Message{}, false, api.OK }

// noEntry is what Take answers of a message that the cache has no entry for.
func noEntry() (api.Message, bool, api.Errno) { return api.Message{}, false, api.ErrTable }

// share sends a line's words to one who reads.
func (k *Cache) share(m api.Message) (api.Message, bool, api.Errno) {
	return k.tell(m, api.Owned, api.Shared, k.evicted.Share)
}

// give sends them to one who writes.
func (k *Cache) give(m api.Message) (api.Message, bool, api.Errno) {
	return k.tell(m, api.Invalid, api.Modified, k.evicted.Give)
}

// tell sends a line's words to who asked, which has it as own then; here it is left in a state. How a line is told that was evicted, buffered says.
func (k *Cache) tell(m api.Message, left, own int, buffered func(line int) (api.Words, api.Errno)) (api.Message, bool, api.Errno) {
	words, err := k.leave(m.Line, left, buffered)
	if err != api.OK {
		return noEntry()
	}
	sent := api.Message{Kind: api.Data, Line: m.Line, From: k.core, To: m.Who, Who: byCore, Acks: m.Acks, Own: own, Words: words}
	return sent, true, api.OK
}

// leave leaves an owned line in another state, and tells the words that it had; one that isn't owned may be in the buffer still.
func (k *Cache) leave(line, state int, buffered func(line int) (api.Words, api.Errno)) (api.Words, api.Errno) {
	w, _ := k.Look(line)
	if !owned(w) {
		return buffered(line)
	}
	k.lines.Set(line, state, w.Words)
	return w.Words, api.OK
}

// forget lets a shared line go, and tells who asked. One that is gone is answered for, too: its home isn't told of shared lines that are evicted.
func (k *Cache) forget(m api.Message) (api.Message, bool, api.Errno) {
	w, _ := k.Look(m.Line)
	if owned(w) {
		return noEntry()
	}
	if w.State == api.Shared {
		k.lines.Set(m.Line, api.Invalid, api.Words{})
	}
	return api.Message{Kind: api.Ack, Line: m.Line, From: k.core, To: m.Who}, true, api.OK
}

// fill hands words to their miss.
func (k *Cache) fill(m api.Message) (api.Message, bool, api.Errno) {
	return k.came(m.Line, k.misses.Data(m.Line, m.Acks, m.Own, m.Words))
}

// grant tells a miss that the words that are here may be written.
func (k *Cache) grant(m api.Message) (api.Message, bool, api.Errno) {
	if w, _ := k.Look(m.Line); w.State != api.Owned {
		return noEntry()
	}
	return k.came(m.Line, k.misses.Grant(m.Line, m.Acks))
}

// count tells a miss that one more let the line go.
func (k *Cache) count(m api.Message) (api.Message, bool, api.Errno) {
	return k.came(m.Line, k.misses.Ack(m.Line))
}

// came lets a line be what its miss says, once all came; err is what the miss said of what came last.
func (k *Cache) came(line int, err api.Errno) (api.Message, bool, api.Errno) {
	if err != api.OK {
		return noEntry()
	}
	if miss, all := k.misses.Owe(line); all {
		k.lines.Set(line, miss.Own, k.wordsOf(miss))
	}
	return nothing()
}

// wordsOf tells the words that a line has behind a miss: what was granted came without any.
func (k *Cache) wordsOf(miss mshr.Miss) api.Words {
	if !miss.Granted {
		return miss.Words
	}
	w, _ := k.Look(miss.Line)
	return w.Words
}

// drop lets an evicted line be forgotten, since its home knows.
func (k *Cache) drop(m api.Message) (api.Message, bool, api.Errno) {
	if k.evicted.Drop(m.Line) != api.OK {
		return noEntry()
	}
	return nothing()
}
