package flush

import (
	"fmt"
	"math"
	"math/rand"
	"testing"

	"carousel/api"
	"carousel/mac"
	"carousel/raps"
)

// story is what the chapter says of a message, told apart from Pair: of each port, whether anything is kept, and what.
type story struct {
	some [2]bool
	node [2]mac.Addr
	east [2]bool
}

// comes is what becomes of a story, sentence by sentence, and whether tables are emptied.
func (s story) comes(port int, m raps.Msg) (story, bool) {
	if port < 0 || port > 1 {
		return s, false
	}
	// Of NR without Block the port's pair is forgotten.
	if m.Request == raps.NR && !m.Block {
		s.some[port], s.node[port], s.east[port] = false, 0, false
		return s, false
	}
	// If the port's pair is that one, nothing happens.
	if s.has(port, m) {
		return s, false
	}
	// Else it is the port's pair from now on, and tables are emptied, if the message isn't to Keep, and the other port's pair isn't that one.
	empties := !m.Keep && !s.has(1-port, m)
	s.some[port], s.node[port], s.east[port] = true, m.Node, m.East
	return s, empties
}

// has says whether a port's pair is a message's.
func (s story) has(port int, m raps.Msg) bool {
	return s.some[port] && s.node[port] == m.Node && s.east[port] == m.East
}

// pairs are a story's pairs.
func (s story) pairs() Pairs {
	var p Pairs
	for port := range p {
		p[port].Some, p[port].Node, p[port].East = s.some[port], s.node[port], s.east[port]
	}
	return p
}

// ports are the ring ports, and numbers that are none.
var ports = []int{
	0, 1, -1, 2, 3, -2, 7, -128, 127, 128, 255, 256, 257, 1 << 16, 1<<16 + 1, math.MinInt32, math.MaxInt32,
	1<<32 - 1, 1 << 32, 1<<32 + 1, -1 << 32, 1 - 1<<32, math.MinInt, math.MinInt + 1, math.MaxInt - 1, math.MaxInt,
}

// nodes are addresses, groups' among them, and numbers that are none.
var nodes = []mac.Addr{0, 1, 2, 3, 4, 1<<48 - 1, 1 << 40, 1 << 48, 1 << 63, math.MaxUint64}

// messages are those of any kind, known or not, with all that may stand in them, of some nodes.
func messages(of ...mac.Addr) []raps.Msg {
	var out []raps.Msg
	for kind := range 256 {
		for bits := range 8 {
			for _, node := range of {
				m := raps.Msg{Request: raps.Kind(kind), Block: bits&4 != 0, Keep: bits&2 != 0, East: bits&1 != 0, Node: node}
				out = append(out, m)
			}
		}
	}
	return out
}

// one is what is kept at one port.
type one struct {
	some, east bool
	node       mac.Addr
}

// stories are those in which no pair, one or both are kept, the same at both ports or not.
func stories(of ...mac.Addr) []story {
	ones := []one{{}}
	for _, node := range of {
		ones = append(ones, one{true, false, node}, one{true, true, node})
	}
	var out []story
	for _, w := range ones {
		for _, e := range ones {
			out = append(out, story{[2]bool{w.some, e.some}, [2]mac.Addr{w.node, e.node}, [2]bool{w.east, e.east}})
		}
	}
	return out
}

// hears holds Hear to what the chapter says, and answers what is kept then.
func hears(t *testing.T, s story, port int, m raps.Msg) story {
	t.Helper()
	p, was := s.pairs(), m
	want, wantEmpties := s.comes(port, m)
	got, empties := p.Hear(port, m)
	if got != want.pairs() || empties != wantEmpties {
		t.Fatalf("%+v: Hear(%d, %+v) = %+v, %v; want %+v, %v", p, port, m, got, empties, want.pairs(), wantEmpties)
	}
	if p != s.pairs() || m != was {
		t.Fatalf("what was handed in is %+v, %+v; it was %+v, %+v", p, m, s.pairs(), was)
	}
	return want
}

// keeps holds Hear to emptying nothing, and to leaving the pairs as they were.
func keeps(t *testing.T, p Pairs, port int, m raps.Msg) {
	t.Helper()
	if got, empties := p.Hear(port, m); got != p || empties {
		t.Fatalf("%+v: Hear(%d, %+v) = %+v, %v", p, port, m, got, empties)
	}
}

// empties holds Hear to an answer, and answers the pairs then.
func empties(t *testing.T, p Pairs, port int, m raps.Msg, want bool) Pairs {
	t.Helper()
	got, is := p.Hear(port, m)
	if is != want {
		t.Fatalf("%+v: Hear(%d, %+v) empties: %v", p, port, m, is)
	}
	return got
}

func TestExample(t *testing.T) { // P14.1: the chapter's example
	m := raps.Msg{Request: raps.SF, Node: 3}
	p := empties(t, Pairs{}, api.West, m, true)
	p = empties(t, p, api.East, m, false)
	told := Pair{Some: true, Node: 3}
	if p != (Pairs{told, told}) {
		t.Fatalf("%+v", p)
	}
}

func TestHear(t *testing.T) { // P14.1: every kind of message at both ring ports, whatever is kept ahead of it
	for _, s := range stories(0, 3, 4) {
		for _, m := range messages(0, 3, 4, 5) {
			hears(t, s, api.West, m)
			hears(t, s, api.East, m)
		}
	}
}

func TestNodes(t *testing.T) { // P14.1: nodes are told apart in all their bits, groups and numbers that are no address, too
	for _, s := range stories(nodes...) {
		for _, node := range nodes {
			for _, east := range []bool{false, true} {
				for _, keep := range []bool{false, true} {
					m := raps.Msg{Request: raps.SF, Node: node, East: east, Keep: keep}
					hears(t, s, api.West, m)
					hears(t, s, api.East, m)
				}
			}
		}
	}
	for bit := range 64 {
		p := empties(t, Pairs{}, api.West, raps.Msg{Request: raps.SF, Node: 0x123456789abc}, true)
		p = empties(t, p, api.West, raps.Msg{Request: raps.SF, Node: 0x123456789abc ^ 1<<bit}, true)
		empties(t, p, api.East, raps.Msg{Request: raps.SF, Node: 0x123456789abc}, true)
	}
}

func TestNoSuchPort(t *testing.T) { // P14.1: of a port that is neither 0 nor 1 the same pairs, false
	for _, s := range stories(0, 3) {
		for _, port := range ports[2:] {
			for _, m := range messages(3) {
				hears(t, s, port, m)
				keeps(t, s.pairs(), port, m)
			}
		}
	}
}

func TestNodeNought(t *testing.T) { // P14.1: a pair of the node 0 isn't none
	m := raps.Msg{Request: raps.SF}
	for port := range 2 {
		p := empties(t, Pairs{}, port, m, true)
		if p[port] != (Pair{Some: true}) || p[1-port] != (Pair{}) {
			t.Fatalf("%+v", p)
		}
		keeps(t, p, port, m)
	}
}

func TestForgets(t *testing.T) { // P14.1: NR without Block forgets the port's pair alone, with all its fields
	for _, s := range stories(0, 3, 4) {
		for _, m := range messages(0, 3, 4, 5) {
			if m.Request != raps.NR || m.Block {
				continue
			}
			for port := range 2 {
				p := empties(t, s.pairs(), port, m, false)
				if p[port] != (Pair{}) || p[1-port] != s.pairs()[1-port] {
					t.Fatalf("%+v: Hear(%d, %+v) = %+v", s.pairs(), port, m, p)
				}
			}
		}
	}
}

func TestHeardAnewBehindForgotten(t *testing.T) { // P14.1: what was forgotten is new again, but where the other port keeps it
	m, nothing := raps.Msg{Request: raps.SF, Node: 3, East: true}, raps.Msg{Request: raps.NR, Node: 9}
	for port := range 2 {
		p := empties(t, Pairs{}, port, m, true)
		p = empties(t, p, port, nothing, false)
		p = empties(t, p, port, m, true)
		p = empties(t, p, 1-port, m, false)
		p = empties(t, p, port, nothing, false)
		p = empties(t, p, port, m, false)
		p = empties(t, p, port, nothing, false)
		p = empties(t, p, 1-port, nothing, false)
		empties(t, p, 1-port, m, true)
	}
}

func TestBlockIsKept(t *testing.T) { // P14.1: NR with Block has a pair, as all others have
	for port := range 2 {
		p := empties(t, Pairs{}, port, raps.Msg{Request: raps.NR, Block: true, Node: 2}, true)
		if p[port] != (Pair{Some: true, Node: 2}) {
			t.Fatalf("%+v", p)
		}
		// The pair is the node and its port, whatever it asks for.
		keeps(t, p, port, raps.Msg{Request: raps.FS, Node: 2})
		keeps(t, p, port, raps.Msg{Request: raps.MS, Keep: true, Node: 2})
	}
}

func TestKeep(t *testing.T) { // P14.1: a message to Keep empties nothing, and its pair is kept
	m := raps.Msg{Request: raps.FS, Keep: true, Node: 3}
	for port := range 2 {
		p := empties(t, Pairs{}, port, m, false)
		if p[port] != (Pair{Some: true, Node: 3}) {
			t.Fatalf("%+v", p)
		}
		m := m
		m.Keep = false
		keeps(t, p, port, m)
		empties(t, p, 1-port, m, false)
		m.East = true
		empties(t, p, port, m, true)
	}
}

func TestAgain(t *testing.T) { // P14.2: the same message, heard again at that port, and then at the other one
	for _, s := range stories(0, 3, 4) {
		for _, m := range messages(0, 3, 4, 5) {
			for port := range 2 {
				p, _ := s.pairs().Hear(port, m)
				keeps(t, p, port, m)
				q := empties(t, p, 1-port, m, false)
				keeps(t, q, 1-port, m)
				keeps(t, q, port, m)
			}
		}
	}
}

// oneOfFew is a message of one of few nodes, so that what was told comes again and again.
func oneOfFew(from *rand.Rand) raps.Msg {
	kinds := []raps.Kind{raps.NR, raps.NR, raps.MS, raps.SF, raps.FS, 5}
	return raps.Msg{
		Request: kinds[from.Intn(len(kinds))],
		Block:   from.Intn(3) == 0,
		Keep:    from.Intn(3) == 0,
		East:    from.Intn(2) == 0,
		Node:    mac.Addr(from.Intn(3)),
	}
}

func TestWhateverWasHeard(t *testing.T) { // P14.1, P14.2: long rows of messages
	from := rand.New(rand.NewSource(14))
	for range 300 {
		s, p := story{}, Pairs{}
		for range 200 {
			port, m := ports[from.Intn(3)], oneOfFew(from)
			s = hears(t, s, port, m)
			p, _ = p.Hear(port, m)
			if p != s.pairs() {
				t.Fatalf("%+v, want %+v", p, s.pairs())
			}
			keeps(t, p, port, m)
			if port >= 0 {
				empties(t, p, 1-port, m, false)
			}
		}
	}
}

func TestNothingIsKept(t *testing.T) { // R5: an answer hangs on nothing that was heard with other pairs
	from := rand.New(rand.NewSource(5))
	all := stories(0, 3, 4)
	for range 100000 {
		hears(t, all[from.Intn(len(all))], ports[from.Intn(len(ports))], oneOfFew(from))
	}
}

func TestPairsStay(t *testing.T) { // R3: pairs that were handed in, or out, stay as they were
	var l []Pairs
	var words []string
	from, p := rand.New(rand.NewSource(3)), Pairs{}
	for range 500 {
		l, words = append(l, p), append(words, fmt.Sprint(p))
		p, _ = p.Hear(from.Intn(2), oneOfFew(from))
	}
	for i := range l {
		if fmt.Sprint(l[i]) != words[i] {
			t.Fatalf("%v, it was %s", l[i], words[i])
		}
	}
}

func TestAnything(t *testing.T) { // R1: whatever is handed in, every call ends, and none panics
	from := rand.New(rand.NewSource(1))
	number := func() uint64 { return from.Uint64() >> from.Intn(64) }
	pair := func() Pair {
		return Pair{Some: from.Intn(2) == 0, East: from.Intn(2) == 0, Node: mac.Addr(number())}
	}
	for range 100000 {
		p := Pairs{pair(), pair()}
		m := raps.Msg{Request: raps.Kind(number()), Block: from.Intn(2) == 0, Keep: from.Intn(2) == 0, East: from.Intn(2) == 0, Node: mac.Addr(number())}
		q, _ := p.Hear(int(number()), m)
		q.Hear(-int(number()), m)
		q.Hear(from.Intn(2), m)
	}
}
