package bridge

import (
	"carousel/mac"
	"carousel/raps"
	"carousel/tagged"
)

// Where frames between nodes go at the level 0, and what else they have.
const (
	firstChecksTo   mac.Addr = 0x0180c2000030
	firstMessagesTo mac.Addr = 0x0119a7000001

	ringType = 0x8902
	ringPri  = 7
)

// Tick is what goes out at a tick.
func (b *Bridge) Tick(now int64) []Out {
	checks := b.check(now)
	b.tellFaults(now)
	return append(checks, b.speak(now)...)
}

// check is the checks that go out, where watches are to send.
func (b *Bridge) check(now int64) []Out {
	var outs []Out
	for port := range ringPorts {
		w, s := b.watches[port].Tick(now)
		b.watches[port] = w
		if s != "" {
			b.count(checksSent)
			outs = append(outs, b.goesOut(port, b.closed(b.checksTo(), s)))
		}
	}
	return outs
}

// tellFaults tells the node which lines are lost since long enough to count.
func (b *Bridge) tellFaults(now int64) {
	for port := range ringPorts {
		b.holds[port] = b.holds[port].Set(now, b.watches[port].Lost)
		b.becomes(b.Fault(now, port, b.holds[port].Counts(now)))
	}
}

// speak is the messages that go out, if the node speaks: out of shut ports, too.
func (b *Bridge) speak(now int64) []Out {
	n, speaks, empties := b.core.Tick(now)
	b.becomes(n, empties)
	if !speaks {
		return nil
	}
	// What a node says can be closed at the level of a plan that may be: there is no error.
	s, _ := raps.Close(b.Say, b.level)
	f := b.closed(b.messagesTo(), s)
	var outs []Out
	for port := range ringPorts {
		b.count(messagesSent)
		outs = append(outs, b.goesOut(port, f))
	}
	return outs
}

// closed is the bytes of a frame between nodes.
func (b *Bridge) closed(dst mac.Addr, body string) string {
	// Its fields are those of a plan that may be, and the body is short: there is no error.
	s, _ := tagged.Close(tagged.Frame{Dst: dst, Src: b.Me, Pri: ringPri, Vlan: b.ring, Type: ringType, Body: body})
	return s
}

// goesOut is a frame that goes out of a port, and is counted.
func (b *Bridge) goesOut(port int, s string) Out {
	b.count(went)
	return Out{Port: port, Bytes: s}
}

// checksTo is where checks go.
func (b *Bridge) checksTo() mac.Addr { return firstChecksTo + mac.Addr(b.level) }

// messagesTo is where messages go.
func (b *Bridge) messagesTo() mac.Addr { return firstMessagesTo + mac.Addr(b.level) }
