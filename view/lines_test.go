package view

import (
	"fmt"
	"slices"
	"testing"

	"carousel/api"
	"carousel/chart"
	"carousel/event"
	"carousel/req"
)

// eachRing calls a function with each plan of these sizes, each node the Owner once.
func eachRing(do func(nodes, owner int)) {
	for _, nodes := range sizes {
		for owner := range nodes {
			do(nodes, owner)
		}
	}
}

func TestNewLines(t *testing.T) { // P24.1: behind New all are up, and all shut but that of the neighbour's east port
	eachRing(func(nodes, owner int) {
		x := begin(t, aPlan(nodes, owner))
		want := all(nodes, isClosed, map[int]Line{(owner + 1) % nodes: isOpen})
		x.is("new", want)
		x.is("new, asked again", want)
		if l := Lines(x.Ring); len(l) != nodes || len(Parts(l)) != nodes-1 || Loops(l) || Whole(l) {
			t.Errorf("%v: parts %v", l, Parts(l))
		}
	})
}

func TestWaysOfLines(t *testing.T) { // P24.1: each way down alone, both of a line, and up again: that line isn't up, all others are
	eachRing(func(nodes, owner int) {
		x := opened(t, aPlan(nodes, owner))
		x.is("opened", all(nodes, isOpen, nil))
		for i := range nodes {
			east, back := ends(nodes, i)
			cut := all(nodes, isOpen, map[int]Line{i: isDown})
			x.does(down(east))
			x.is("the way east down", cut)
			x.does(down(back))
			x.is("both down", cut)
			x.does(up(east))
			x.is("the way back down", cut)
			x.does(up(back))
			x.is("both up again", all(nodes, isOpen, nil))
			x.does(down(back))
			x.is("the way back down alone", cut)
			x.does(down(east), up(back))
			x.is("the way east down, the way back up again", cut)
			x.does(up(east))
			x.is("up again", all(nodes, isOpen, nil))
		}
		// One line behind the other, till none is up, and back.
		want := all(nodes, isOpen, nil)
		for d := range 2 * nodes {
			x.does(down(d))
			want[lineOf(nodes, d)] = isDown
			x.is("down so far", want)
		}
		for d := range 2 * nodes {
			x.does(up(d))
			// The last line's way back is way 0: it is up when its other one is, as way 2 nodes less 1.
			if line := lineOf(nodes, d); d%2 == 0 && d > 0 || d == 2*nodes-1 {
				want[line] = isOpen
			}
			x.is("up so far", want)
		}
	})
}

func TestPortsOfLines(t *testing.T) { // P24.1: a port shut at one end alone, at the other, at both and at none, of each line
	eachRing(func(nodes, owner int) {
		for i := range nodes {
			behind := (i + 1) % nodes
			here, there := order(i, api.East, req.FS), order(behind, api.West, req.FS)
			for name, orders := range map[string][]event.Event{"here": {here}, "there": {there}, "both": {here, there}, "none": nil} {
				x := opened(t, aPlan(nodes, owner))
				x.does(orders...)
				one := isOpen
				if len(orders) > 0 {
					one = isClosed
				}
				ports := [2]bool{x.Bridge(i).Node().Shut[api.East], x.Bridge(behind).Node().Shut[api.West]}
				if want := [2]bool{slices.Contains(orders, here), slices.Contains(orders, there)}; ports != want {
					t.Fatalf("%s: %v, want %v", name, ports, want)
				}
				x.is("shut: "+name, all(nodes, isOpen, map[int]Line{i: one}))
				// That it is down is told beside that it is shut.
				east, back := ends(nodes, i)
				x.does(down([]int{east, back}[i%2]))
				one.Up = false
				x.is("shut, and down: "+name, all(nodes, isOpen, map[int]Line{i: one}))
			}
		}
	})
}

func TestBothPortsOfANode(t *testing.T) { // P24.1: a node on both of whose ports a fault stands: both its lines are shut
	eachRing(func(nodes, owner int) {
		for i := range nodes {
			x := begin(t, aPlan(nodes, owner))
			// What comes to it is lost: its lines are lost there alone, and the others open theirs.
			ahead, _ := ends(nodes, (i+nodes-1)%nodes)
			_, behind := ends(nodes, i)
			for range 20 {
				x.does(tick())
				for x.Way(ahead).Len() > 0 {
					x.does(drop(ahead))
				}
				for x.Way(behind).Len() > 0 {
					x.does(drop(behind))
				}
				x.does(flow())
			}
			if n := x.Bridge(i).Node(); n.Shut != [2]bool{true, true} {
				t.Fatalf("node %d of %d: %+v", i, nodes, n)
			}
			want := all(nodes, isOpen, map[int]Line{i: isClosed, (i + nodes - 1) % nodes: isClosed})
			x.is("both ports shut", want)
			if parts := Parts(want); len(parts) != 2 {
				t.Fatal(parts)
			}
		}
	})
}

// watched has events happen, each of them behind which the ring doesn't loop and its lines are as they are to be.
func (x rig) watched(events ...event.Event) {
	x.t.Helper()
	for _, v := range events {
		x.does(v)
		l := Lines(x.Ring)
		x.is(shown(v), x.reads())
		if Loops(l) {
			x.t.Fatalf("%d nodes, the owner %d, at %d, behind %s: it loops", x.p.Nodes, x.p.Owner, x.Now(), shown(v))
		}
	}
}

// runs has so many ticks go, behind each of which all comes.
func (x rig) runs(ticks int) {
	x.t.Helper()
	for range ticks {
		x.watched(tick(), flow())
	}
}

// atRest holds a ring to its rest: all nodes idle, the owner's east line alone not open.
func (x rig) atRest(name string) {
	x.t.Helper()
	for i := range x.p.Nodes {
		if n := x.Bridge(i).Node(); n.State != chart.Idle {
			x.t.Fatalf("%s: %d nodes, node %d: %+v", name, x.p.Nodes, i, n)
		}
	}
	x.is(name, all(x.p.Nodes, isOpen, map[int]Line{x.p.Owner: isClosed}))
	x.hang(name, 1)
}

// hang holds a ring to hanging together in so many parts, and not to loop.
func (x rig) hang(name string, parts int) {
	x.t.Helper()
	l := Lines(x.Ring)
	if Loops(l) || Whole(l) != (parts == 1) || len(Parts(l)) != parts {
		x.t.Fatalf("%s: %d nodes, the owner %d, at %d: %v, parts %v", name, x.p.Nodes, x.p.Owner, x.Now(), l, Parts(l))
	}
}

func TestCutAndMended(t *testing.T) { // P24.1, W2, W3: till it has come to rest, behind a cut of each line, and mended
	eachRing(func(nodes, owner int) {
		x := begin(t, aPlan(nodes, owner))
		x.runs(30)
		x.atRest("at first")
		for i := range nodes {
			// Of sixteen nodes not all of the 256 pairs, for time: each owner with some lines, each line with some owners.
			if nodes > 4 && (i+owner)%5 != 0 {
				continue
			}
			east, back := ends(nodes, i)
			x.watched(down(east), down(back))
			whole, other := 2, isOpen
			if i == owner {
				whole, other = 1, isDownShut
			}
			// Nothing is told for longer than seven halves of the Interval, and that has stood as long as the Hold.
			for range 9 {
				x.hang("cut, not known", whole)
				x.runs(1)
			}
			x.runs(2)
			x.hang("cut, and known", 1)
			x.is("cut, and known", all(nodes, isOpen, map[int]Line{owner: other, i: isDownShut}))
			x.runs(20)
			x.is("cut, later on", all(nodes, isOpen, map[int]Line{i: isDownShut}))
			x.watched(up(back), up(east))
			x.is("mended", all(nodes, isOpen, map[int]Line{i: isClosed}))
			x.runs(40)
			x.atRest("mended, later on")
		}
	})
}

func TestCutOneWay(t *testing.T) { // P24.1, W2, W3: one way alone is cut: its far end shuts, and the ring is whole again
	for _, nodes := range sizes {
		x := begin(t, aPlan(nodes, 1))
		x.runs(30)
		for d := range 2 * nodes {
			i := lineOf(nodes, d)
			x.watched(down(d))
			x.runs(15)
			x.hang(fmt.Sprintf("way %d down", d), 1)
			x.is(fmt.Sprintf("way %d down", d), all(nodes, isOpen, map[int]Line{i: isDownShut}))
			x.watched(up(d))
			x.runs(40)
			x.atRest("up again")
		}
	}
}

func TestOrdered(t *testing.T) { // P24.1: an operator's switch shuts one line in place of the owner's, and takes it back
	for _, nodes := range sizes {
		x := begin(t, aPlan(nodes, 1))
		x.runs(30)
		for i := range nodes {
			for port, line := range []int{(i + nodes - 1) % nodes, i} {
				for _, k := range []req.Kind{req.FS, req.MS} {
					x.watched(order(i, port, k))
					x.runs(2)
					x.is(k.String(), all(nodes, isOpen, map[int]Line{line: isClosed}))
					x.hang(k.String(), 1)
					x.watched(order(i, api.West, req.Clear))
					x.runs(40)
					x.atRest("cleared")
				}
			}
		}
	}
}

func TestLinesMayBeWrittenInto(t *testing.T) { // R3: lines that were answered turn neither the ring nor a later answer
	x, twin := begin(t, aPlan(4, 1)), begin(t, aPlan(4, 1))
	for range 20 {
		x.does(tick(), flow())
		twin.does(tick(), flow())
		kept, spoilt := Lines(x.Ring), Lines(x.Ring)
		for i := range spoilt[:cap(spoilt)] {
			spoilt[:cap(spoilt)][i] = Line{Up: !kept[i%len(kept)].Up, Shut: !kept[i%len(kept)].Shut}
		}
		_ = append(spoilt[:0], isDownShut)
		want := twin.reads()
		if !slices.Equal(kept, want) {
			t.Fatalf("%v, want %v", kept, want)
		}
		x.is("written into", want)
	}
	x.like("at last", twin)
	// What was answered stays when the ring turns.
	was := Lines(x.Ring)
	want := slices.Clone(was)
	x.does(down(0), order(2, api.East, req.FS), tick())
	if !slices.Equal(was, want) || slices.Equal(was, Lines(x.Ring)) {
		t.Errorf("%v, was %v, is by now %v", was, want, Lines(x.Ring))
	}
}
