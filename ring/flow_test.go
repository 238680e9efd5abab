package ring

import (
	"fmt"
	"slices"
	"testing"

	"carousel/api"
	"carousel/event"
	"carousel/mac"
	"carousel/plan"
	"carousel/req"
)

// cameSince is how many frames came at each node since some did.
func (x rig) cameSince(was seen) []uint64 {
	var l []uint64
	for i := range x.p.Nodes {
		l = append(l, x.Bridge(i).Counters()[0]-was.Nodes[i].Counters[0])
	}
	return l
}

// eastward is an open ring on which a frame goes round by east alone, from node i; westward the other way.
func eastward(t *testing.T, p plan.Plan, i int, s string) rig {
	t.Helper()
	x := opened(t, p)
	x.does(host(i, s), drop(2*i))
	return x
}

func westward(t *testing.T, p plan.Plan, i int, s string) rig {
	t.Helper()
	x := opened(t, p)
	x.does(host(i, s), drop(2*i+1))
	return x
}

func TestFlowNothing(t *testing.T) { // P23.1: where no frame is on its way nothing happens, whatever A, B, C and Bytes are
	x := begin(t, aPlan(4))
	x.does(tick(), flow(), down(2))
	was := x.sees()
	for _, n := range manyNumbers {
		x.does(event.Event{Kind: event.Flow, A: n, B: n, C: n, Bytes: string([]byte{n})})
		x.is("flow", was)
	}
}

func TestFlowTillNone(t *testing.T) { // P23.1: till no frame is on its way, what goes out on the way among them
	for _, nodes := range sizes {
		p := aPlan(nodes)
		x := begin(t, p)
		x.does(tick(), flow())
		x.has("flow", nil)
		for i := range nodes {
			c := x.Bridge(i).Counters()
			// Both far ends' checks, and messages of both neighbours, at least.
			if c[8] != 2 || c[6] < 2 {
				t.Errorf("node %d of %d: %v", i, nodes, c)
			}
		}
		// A frame from node 0 goes as far west as ports are open: to node 3, or 2, of which the port there is shut.
		y := opened(t, p)
		y.does(order(nodes-1, west, int(req.FS)), host(0, toAll(p, "a")), flow())
		y.has("round", nil)
		want := map[int][]string{}
		for i := 1; i < nodes; i++ {
			want[i] = []string{toAll(p, "a")}
		}
		y.hears("round", want)
	}
}

func TestFlowFarAround(t *testing.T) { // P23.1: way by way, by rising numbers: a frame that goes east comes all around in one round
	for _, nodes := range sizes {
		p := aPlan(nodes)
		x := eastward(t, p, 0, toAll(p, "a"))
		was := x.sees()
		x.does(flow())
		// Way 1 is the first of all; from the last one it goes there again, behind its turn: at each node once a round.
		x.has("east", map[int][]string{1: {toAll(p, "a")}})
		for i, n := range x.cameSince(was) {
			if n != Rounds {
				t.Errorf("east, node %d of %d: %d came", i, nodes, n)
			}
			if l := x.Heard(i); len(l) != Rounds {
				t.Errorf("east, host %d of %d heard %d", i, nodes, len(l))
			}
		}
	}
	// From node 2 of four: in the first round it comes at nodes 3 and 0, and is then on the first way.
	x := eastward(t, aPlan(4), 2, toAll(aPlan(4), "a"))
	was := x.sees()
	x.does(flow())
	x.has("east from 2", map[int][]string{1: {toAll(x.p, "a")}})
	if l := x.cameSince(was); !slices.Equal(l, []uint64{64, 63, 63, 64}) {
		t.Error(l)
	}
}

func TestFlowWest(t *testing.T) { // P23.1: a frame that goes west goes one way a round, but from way 0 two: the last one's turn is behind it
	for _, nodes := range sizes {
		p := aPlan(nodes)
		x := westward(t, p, 0, toAll(p, "a"))
		was := x.sees()
		x.does(flow())
		// Where it is, round by round, by hand.
		at, want := 0, make([]uint64, nodes)
		step := func() {
			at = (at + nodes - 1) % nodes
			want[at]++
		}
		for range 64 {
			first := at == 0
			step()
			if first {
				step()
			}
		}
		if l := x.cameSince(was); !slices.Equal(l, want) {
			t.Errorf("%d nodes: came %v, want %v", nodes, l, want)
		}
		x.has("west", map[int][]string{2 * at: {toAll(p, "a")}})
	}
	// Of three nodes it goes around in two rounds; of four 84 ways in 63 rounds, and two more.
	x := westward(t, aPlan(3), 0, toAll(aPlan(3), "a"))
	was := x.sees()
	x.does(flow())
	if l := x.cameSince(was); !slices.Equal(l, []uint64{32, 32, 32}) || x.Way(0).Len() != 1 {
		t.Error(l)
	}
	x = westward(t, aPlan(4), 0, toAll(aPlan(4), "a"))
	was = x.sees()
	x.does(flow())
	if l := x.cameSince(was); !slices.Equal(l, []uint64{21, 21, 22, 22}) || x.Way(4).Len() != 1 {
		t.Error(l)
	}
}

func TestFlowRounds(t *testing.T) { // P23.1: frames that never rest stop at 64 rounds, and what is on its way then is still there
	p := aPlan(3)
	x := opened(t, p)
	a, b, c := toAll(p, "a"), toAll(p, "b"), toAll(p, "c")
	x.does(host(0, a), host(0, b), host(1, c))
	was := x.sees()
	x.does(flow())
	// East all three go around once a round, but that a and b begin ahead of c, and come behind it from then on:
	// 191 at node 1, 192 at the others. West they go around in two rounds: 96 at each.
	if l := x.cameSince(was); !slices.Equal(l, []uint64{288, 287, 288}) {
		t.Error(l)
	}
	there := map[int][]string{0: {a, b}, 1: {c, a, b}, 2: {c}}
	x.has("64 rounds", there)
	// It goes on where it stopped.
	was = x.sees()
	x.does(flow())
	if l := x.cameSince(was); !slices.Equal(l, []uint64{288, 288, 288}) {
		t.Error(l)
	}
	x.has("64 more", there)
	// Once a line is cut they rest.
	x.does(down(0), down(5), flow())
	x.has("cut", nil)
}

func TestFlowLong(t *testing.T) { // P23.1: of the greatest ring, up to where a port is shut, and no further
	// Westward, of sixteen nodes, fifteen rounds lead around; a port that is shut ends it there.
	p := aPlan(16)
	for _, shutAt := range []int{0, 1, 8, 15} {
		x := westward(t, p, 0, toAll(p, "a"))
		x.does(order(shutAt, east, int(req.FS)))
		was := x.sees()
		x.does(flow())
		x.has("shut", nil)
		total := uint64(0)
		for _, n := range x.cameSince(was) {
			total += n
		}
		if want := uint64(16 - shutAt); total != want {
			t.Errorf("shut at %d: %d came, want %d", shutAt, total, want)
		}
	}
}

func TestFlowTurns(t *testing.T) { // P23.1: when its turn comes, as many as are on a way come: those that came there in that round, too
	p := aPlan(4)
	p.Queue = 2
	x := opened(t, p)
	a, b, c := toAll(p, "a"), toAll(p, "b"), toAll(p, "c")
	// On way 1 a and b; on way 3 c alone, with room for one more: b is lost behind a, ahead of the turn of way 3.
	x.does(host(0, a), host(0, b), host(1, c), drop(0), drop(0), drop(2), down(5), flow())
	x.has("flow", nil)
	x.hears("flow", map[int][]string{1: {a, b}, 2: {c, a}})
	// The other way round, against the rising numbers: way 4's turn is behind those of 2, and in the next round it is ahead.
	y := opened(t, p)
	y.does(host(3, a), host(3, b), host(2, c), drop(7), drop(7), drop(5), down(2), flow())
	y.has("flow", nil)
	y.hears("flow", map[int][]string{2: {a, b}, 1: {c, a, b}})
}

func TestFlowDown(t *testing.T) { // P23.1: ways that are down take nothing while it flows
	for _, nodes := range sizes {
		for d := range 2 * nodes {
			p := aPlan(nodes)
			x := opened(t, p)
			i := d / 2
			s := toAll(p, "a")
			x.does(down(d), down(otherWay(nodes, d)), host(i, s), flow())
			// The other way around it comes to each other node once, and on to none.
			want := map[int][]string{}
			for k := range nodes {
				if k != i {
					want[k] = []string{s}
				}
			}
			x.has(fmt.Sprintf("the line of way %d down", d), nil)
			x.hears(fmt.Sprintf("the line of way %d down", d), want)
			// Down one way alone: a frame that goes that way round comes as far as there, and no further.
			y := opened(t, p)
			far, end := farEnd(nodes, d)
			y.does(down(d), host(far, s), drop(2*far+end), flow())
			delete(want, far)
			if far != i {
				want[i] = []string{s}
			}
			y.has(fmt.Sprintf("way %d down", d), nil)
			y.hears(fmt.Sprintf("way %d down", d), want)
		}
	}
}

// storm makes a ring loop by events alone: nodes that were forced once hear of it behind their guard, when it is over.
func storm(t *testing.T) rig {
	t.Helper()
	p := aPlan(3)
	p.Interval, p.Gap, p.Period = 1000, 1000, 1000
	x := begin(t, p)
	for i := range 3 {
		x.does(order(i, west, int(req.FS)))
	}
	// Each says so; then each is cleared, and none has heard the others.
	x.does(tick())
	for i := range 3 {
		x.does(order(i, west, int(req.Clear)))
	}
	for range p.Guard + 1 {
		x.does(tick())
	}
	return x
}

func TestStorm(t *testing.T) { // P23.1: a ring that loops, by events alone: a frame in it never rests, and the ticks go on
	x := storm(t)
	x.does(flow())
	for i := range 3 {
		if n := x.Bridge(i).Node(); n.Shut != [2]bool{} {
			t.Fatalf("node %d: %+v", i, n)
		}
	}
	x.does(host(0, data(x.p, mac.All, x.p.Host(0), "a")))
	x.heardAll()
	for range 3 {
		x.does(flow())
		on := 0
		for d := range 6 {
			on += x.Way(d).Len()
		}
		heard := x.heardAll()
		if on < 2 || len(heard[1]) < 64 {
			t.Errorf("%d frames are on their way, heard %d", on, len(heard[1]))
		}
		if e := x.Do(tick()); e != api.OK {
			t.Error(e)
		}
	}
}
