package script

import (
	"strconv"

	"carousel/api"
	"carousel/event"
	"carousel/hosts"
	"carousel/req"
	"carousel/ring"
	"carousel/tale"
)

// Of each ring port of a node there is one way.
const waysOfNode = 2

// scene is a ring, and the board by which its letters are sent.
type scene struct {
	ring  *ring.Ring
	board *hosts.Board
}

// step does what a line does, and answers what is said of it.
type step func(x *scene) []string

// deed is a step that asks for the numbers of its line.
type deed func(x *scene, v []int64) []string

// does is a deed of which its error's word is said.
func does(do func(x *scene, v []int64) api.Errno) deed {
	return func(x *scene, v []int64) []string {
		e := do(x, v)
		x.board.Gather(x.ring)
		return []string{e.Word()}
	}
}

// atWay has an event happen to a way.
func atWay(k event.Kind) deed {
	return does(func(x *scene, v []int64) api.Errno {
		return x.ring.Do(event.Event{Kind: k, A: uint8(v[0])})
	})
}

// atLine has an event happen to both ways of a line.
func atLine(k event.Kind) deed {
	return does(func(x *scene, v []int64) api.Errno {
		i := int(v[0])
		node, end := x.ring.Plan().Far(i, api.East)
		// Of a line that there isn't no event can be made: the number of its way may have more bits than one of an event.
		if node < 0 {
			return api.ErrPort
		}
		// Both ways are there: neither has an error.
		e := x.ring.Do(event.Event{Kind: k, A: uint8(waysOfNode*i + api.East)})
		x.ring.Do(event.Event{Kind: k, A: uint8(waysOfNode*node + end)})
		return e
	})
}

// asks has an operator ask a request of a port.
func asks(k req.Kind) deed {
	return does(func(x *scene, v []int64) api.Errno {
		return x.order(k, v[0], v[1])
	})
}

// order has an operator ask a request of a node's port.
func (x *scene) order(k req.Kind, node, port int64) api.Errno {
	return x.ring.Do(event.Event{Kind: event.Order, A: uint8(node), B: uint8(port), C: uint8(k)})
}

// ticks has so many ticks go, behind each of which all comes that is on its way.
func (x *scene) ticks(n int64) api.Errno {
	for range n {
		if e := x.ring.Do(event.Event{Kind: event.Tick}); e != api.OK {
			// A tick that goes wrong doesn't go: there is none behind which all is to come.
			return e
		}
		// A Flow has no error.
		x.ring.Do(event.Event{Kind: event.Flow})
	}
	return api.OK
}

// came is how often a letter came at a host.
func (x *scene) came(l hosts.Letter, host int) []string {
	x.board.Gather(x.ring)
	return []string{strconv.Itoa(x.board.Came(l, host))}
}

// lines are how the ring stands.
func (x *scene) lines() []string { return tale.Lines(x.ring) }

// counts are a node's counters; of no node nothing is said.
func (x *scene) counts(i int) []string {
	s := tale.Counts(x.ring, i)
	if s == "" {
		return nil
	}
	return []string{s}
}

// letter is what the first numbers of a line tell: from where, to where, and which.
func letter(v []int64) hosts.Letter {
	return hosts.Letter{From: int(v[0]), To: int(v[1]), Number: uint32(v[2])}
}
