package hosts

import (
	"carousel/api"
	"carousel/event"
	"carousel/ring"
)

// Board is what was sent, and what came.
type Board struct {
	// Of each letter that was sent, by hosts, how often it came there.
	came    map[Letter]map[int]int
	strange int
}

// New is an empty board.
func New() *Board { return &Board{came: map[Letter]map[int]int{}} }

// Send has a host send a letter.
func (b *Board) Send(r *ring.Ring, l Letter) api.Errno {
	s, e := Write(r.Plan(), l)
	if e != api.OK {
		return e
	}
	if _, sent := b.came[l]; sent {
		return api.ErrState
	}
	// What can be written is from a node of the ring, so that this happens.
	r.Do(event.Event{Kind: event.Host, A: uint8(l.From), Bytes: s})
	b.came[l] = map[int]int{}
	return api.OK
}

// Gather counts what came.
func (b *Board) Gather(r *ring.Ring) {
	p := r.Plan()
	for host := range p.Nodes {
		for _, s := range r.Heard(host) {
			l, e := Read(p, s)
			came, sent := b.came[l]
			// Beside an error the letter is zero, and that one may have been sent.
			if e != api.OK || !sent {
				b.strange++
				continue
			}
			came[host]++
		}
	}
}

// Came is how often a letter came at a host.
func (b *Board) Came(l Letter, host int) int {
	// A letter that wasn't sent has no counts, and neither has what is no host: that reads as 0.
	return b.came[l][host]
}

// Strange is how many frames came that are no letters that were sent.
func (b *Board) Strange() int { return b.strange }
