package bridge

import (
	"carousel/api"
	"carousel/filter"
	"carousel/raps"
	"carousel/relay"
	"carousel/tagged"
)

// Take is what goes out when a frame comes.
func (b *Bridge) Take(now int64, port int, s string) []Out {
	if port < api.West || port > api.Local {
		return nil
	}
	b.count(came)
	f, e := tagged.Open(s)
	if e != api.OK {
		return b.drops()
	}
	switch f.Vlan {
	case b.data:
		return b.takeData(now, port, f, s)
	case b.ring:
		return b.takeRing(now, port, f, s)
	}
	return b.drops()
}

// takeRing is what goes out when a frame comes on the nodes' own VLAN.
func (b *Bridge) takeRing(now int64, port int, f tagged.Frame, s string) []Out {
	if !ringPort(port) || f.Type != ringType {
		return b.drops()
	}
	switch f.Dst {
	case b.checksTo():
		return b.takeCheck(now, port, f.Body)
	case b.messagesTo():
		return b.takeMessage(now, port, f.Body, s)
	}
	return b.drops()
}

// takeCheck hears a check, which goes no further.
func (b *Bridge) takeCheck(now int64, port int, body string) []Out {
	w, e := b.watches[port].Hear(now, body)
	if e != api.OK {
		return b.drops()
	}
	b.watches[port] = w
	b.count(checksHeard)
	return nil
}

// takeMessage hears a message, and sends it on as it came.
func (b *Bridge) takeMessage(now int64, port int, body, s string) []Out {
	m, e := raps.Open(body, b.level)
	if e != api.OK {
		return b.drops()
	}
	b.count(messagesHeard)
	far := farPort(port)
	// Asked ahead of hearing: that may shut ports, or open them.
	goesOn := filter.Ring(b.Shut, port, far) && m.Node != b.Me
	b.becomes(b.Hear(now, port, m))
	if !goesOn {
		return nil
	}
	return []Out{b.goesOut(far, s)}
}

// takeData is what goes out when a frame of data comes.
func (b *Bridge) takeData(now int64, port int, f tagged.Frame, s string) []Out {
	table, ports, toAll, e := relay.Go(b.table, b.Shut, now, port, f)
	if e != api.OK {
		b.count(refused)
		return nil
	}
	b.table = table
	if toAll {
		b.count(flooded)
	}
	var outs []Out
	for _, out := range ports {
		if out == api.Local {
			b.count(toHost)
		}
		outs = append(outs, b.goesOut(out, s))
	}
	return outs
}

// drops counts a frame that is dropped; nothing goes out.
func (b *Bridge) drops() []Out {
	b.count(dropped)
	return nil
}

// farPort is the other one of both ring ports.
func farPort(port int) int { return api.West + api.East - port }
