package tale

import (
	"fmt"
	"slices"
	"strings"
	"testing"

	"carousel/api"
	"carousel/req"
)

// newLines are the lines of a new ring.
func newLines(nodes, owner int) []string {
	l := []string{"tick 0"}
	for i := range nodes {
		switch i {
		case owner:
			l = append(l, fmt.Sprintf("node %d owner pending none east nr", i))
		case (owner + 1) % nodes:
			l = append(l, fmt.Sprintf("node %d neighbour pending none west nr", i))
		default:
			l = append(l, fmt.Sprintf("node %d plain pending none east nr", i))
		}
	}
	for i := range nodes {
		// The neighbour's west port is shut, and the far end's west port isn't: that line alone is open.
		if i == (owner+1)%nodes {
			l = append(l, fmt.Sprintf("line %d up open", i))
		} else {
			l = append(l, fmt.Sprintf("line %d up shut", i))
		}
	}
	return append(l, fmt.Sprintf("ring parts %d", nodes-1))
}

func TestNewRings(t *testing.T) { // P26.1, P26.2: of 3 to 16 nodes, each node the owner: all lines
	eachRing(func(nodes, owner int) {
		x := begin(t, aPlan(nodes, owner))
		x.says("new", newLines(nodes, owner)...)
		if l := Lines(x.Ring); len(l) != 2*nodes+2 {
			t.Errorf("%d lines of %d nodes", len(l), nodes)
		}
	})
}

func TestNewRingsWritten(t *testing.T) { // P26.1: the same, written out: the chapter's example, the smallest ring, and the greatest one
	begin(t, aPlan(4, 0)).says("the example",
		"tick 0",
		"node 0 owner pending none east nr",
		"node 1 neighbour pending none west nr",
		"node 2 plain pending none east nr",
		"node 3 plain pending none east nr",
		"line 0 up shut", "line 1 up open", "line 2 up shut", "line 3 up shut",
		"ring parts 3",
	)
	begin(t, aPlan(3, 0)).says("three nodes",
		"tick 0",
		"node 0 owner pending none east nr",
		"node 1 neighbour pending none west nr",
		"node 2 plain pending none east nr",
		"line 0 up shut", "line 1 up open", "line 2 up shut",
		"ring parts 2",
	)
	begin(t, aPlan(3, 1)).says("node 1 the owner",
		"tick 0",
		"node 0 plain pending none east nr",
		"node 1 owner pending none east nr",
		"node 2 neighbour pending none west nr",
		"line 0 up shut", "line 1 up shut", "line 2 up open",
		"ring parts 2",
	)
	begin(t, aPlan(3, 2)).says("node 2 the owner",
		"tick 0",
		"node 0 neighbour pending none west nr",
		"node 1 plain pending none east nr",
		"node 2 owner pending none east nr",
		"line 0 up open", "line 1 up shut", "line 2 up shut",
		"ring parts 2",
	)
	begin(t, aPlan(16, 15)).says("sixteen nodes",
		"tick 0",
		"node 0 neighbour pending none west nr",
		"node 1 plain pending none east nr",
		"node 2 plain pending none east nr",
		"node 3 plain pending none east nr",
		"node 4 plain pending none east nr",
		"node 5 plain pending none east nr",
		"node 6 plain pending none east nr",
		"node 7 plain pending none east nr",
		"node 8 plain pending none east nr",
		"node 9 plain pending none east nr",
		"node 10 plain pending none east nr",
		"node 11 plain pending none east nr",
		"node 12 plain pending none east nr",
		"node 13 plain pending none east nr",
		"node 14 plain pending none east nr",
		"node 15 owner pending none east nr",
		"line 0 up open", "line 1 up shut", "line 2 up shut", "line 3 up shut",
		"line 4 up shut", "line 5 up shut", "line 6 up shut", "line 7 up shut",
		"line 8 up shut", "line 9 up shut", "line 10 up shut", "line 11 up shut",
		"line 12 up shut", "line 13 up shut", "line 14 up shut", "line 15 up shut",
		"ring parts 15",
	)
}

func TestTicks(t *testing.T) { // P26.1: the tick, above 9, above 99 and above 999 too
	x := begin(t, aPlan(3, 0))
	for n := range 1025 {
		x.has("the tick", 0, fmt.Sprintf("tick %d", n))
		x.does(tick())
	}
	x.has("the tick", 0, "tick 1025")
}

func TestAtRest(t *testing.T) { // P26.1: idle; plain, owner, neighbour; none and east; silent, rb keep; up open, up shut; whole
	x := rested(t, aPlan(4, 1))
	x.says("at rest",
		"tick 30",
		"node 0 plain idle none none silent",
		"node 1 owner idle none east rb keep",
		"node 2 neighbour idle none west silent",
		"node 3 plain idle none none silent",
		"line 0 up open", "line 1 up shut", "line 2 up open", "line 3 up open",
		"ring whole 1",
	)
}

func TestCut(t *testing.T) { // P26.1: protect; sf; down shut, whether a port is shut or not; parts; pending; rb without keep
	x := rested(t, aPlan(4, 1))
	x.cut(3)
	// No port is shut there, and the line isn't open all the same.
	x.says("cut",
		"tick 30",
		"node 0 plain idle none none silent",
		"node 1 owner idle none east rb keep",
		"node 2 neighbour idle none west silent",
		"node 3 plain idle none none silent",
		"line 0 up open", "line 1 up shut", "line 2 up open", "line 3 down shut",
		"ring parts 2",
	)
	x.runs(15)
	x.says("cut, and known",
		"tick 45",
		"node 0 plain protect none west sf",
		"node 1 owner protect none none silent",
		"node 2 neighbour protect none none silent",
		"node 3 plain protect none east sf",
		"line 0 up open", "line 1 up open", "line 2 up open", "line 3 down shut",
		"ring whole 1",
	)
	x.mend(3)
	x.says("mended",
		"tick 45",
		"node 0 plain protect none west sf",
		"node 1 owner protect none none silent",
		"node 2 neighbour protect none none silent",
		"node 3 plain protect none east sf",
		"line 0 up open", "line 1 up open", "line 2 up open", "line 3 up shut",
		"ring whole 1",
	)
	x.runs(10)
	// Behind the guard the node of the lower address hears that the other one blocks a port, too.
	x.says("mended, and known",
		"tick 55",
		"node 0 plain pending none none silent",
		"node 1 owner pending none none silent",
		"node 2 neighbour pending none none silent",
		"node 3 plain pending none east nr",
		"line 0 up open", "line 1 up open", "line 2 up open", "line 3 up shut",
		"ring whole 1",
	)
	x.runs(30)
	x.says("at rest again",
		"tick 85",
		"node 0 plain idle none none silent",
		"node 1 owner idle none east rb",
		"node 2 neighbour idle none west silent",
		"node 3 plain idle none none silent",
		"line 0 up open", "line 1 up shut", "line 2 up open", "line 3 up open",
		"ring whole 1",
	)
}

func TestCutAtTheOwner(t *testing.T) { // P26.1: sf keep, of both nodes whose port was shut ahead of the fault
	x := rested(t, aPlan(3, 0))
	x.cut(0)
	x.runs(15)
	x.says("cut",
		"tick 45",
		"node 0 owner protect none east sf keep",
		"node 1 neighbour protect none west sf keep",
		"node 2 plain protect none none silent",
		"line 0 down shut", "line 1 up open", "line 2 up open",
		"ring whole 1",
	)
}

func TestBothShut(t *testing.T) { // P26.1: both, of the ports that are shut
	for _, nodes := range []int{3, 16} {
		for i := range nodes {
			x := rested(t, aPlan(nodes, (i+1)%nodes))
			x.cut(i)
			x.cut((i + nodes - 1) % nodes)
			x.runs(15)
			x.has("both cut", 1+i, fmt.Sprintf("node %d plain protect none both sf", i))
			x.has("both cut", -1, "ring parts 2")
		}
	}
}

func TestForced(t *testing.T) { // P26.1: forced, fs, and manual, ms, as Own and as what is said, with keep and without
	for _, c := range []struct {
		k          req.Kind
		state, own string
	}{{req.FS, "forced", "fs"}, {req.MS, "manual", "ms"}} {
		for _, d := range []struct {
			node, port int
			want       string
		}{
			{0, api.West, "node 0 plain STATE OWN west OWN"},
			{0, api.East, "node 0 plain STATE OWN east OWN"},
			{1, api.West, "node 1 owner STATE OWN west OWN"},
			{1, api.East, "node 1 owner STATE OWN east OWN keep"},
			{2, api.West, "node 2 neighbour STATE OWN west OWN keep"},
			{2, api.East, "node 2 neighbour STATE OWN east OWN"},
			{3, api.West, "node 3 plain STATE OWN west OWN"},
			{3, api.East, "node 3 plain STATE OWN east OWN"},
		} {
			x := rested(t, aPlan(4, 1))
			x.does(order(d.node, d.port, c.k))
			want := strings.ReplaceAll(strings.ReplaceAll(d.want, "STATE", c.state), "OWN", c.own)
			x.has("ordered", 1+d.node, want)
			x.runs(2)
			// The others were told of it: that is none of their own.
			for i, role := range []string{"plain", "owner", "neighbour", "plain"} {
				if i != d.node {
					want = fmt.Sprintf("node %d %s %s none none silent", i, role, c.state)
				} else {
					want = strings.ReplaceAll(strings.ReplaceAll(d.want, "STATE", c.state), "OWN", c.own)
				}
				x.has("told", 1+i, want)
			}
			x.has("told", -1, "ring whole 1")
			x.does(order(d.node, api.West, req.Clear))
			x.has("cleared", 1+d.node, strings.ReplaceAll(strings.Replace(strings.ReplaceAll(d.want, "OWN keep", "OWN"), "STATE OWN", "pending none", 1), "OWN", "nr"))
		}
	}
}

func TestTwoForced(t *testing.T) { // P26.1: two forced nodes part the ring; nodes' words are told each by itself
	x := rested(t, aPlan(3, 0))
	x.does(order(1, api.East, req.FS), order(2, api.East, req.FS))
	x.runs(2)
	x.says("two forced",
		"tick 32",
		"node 0 owner forced none none silent",
		"node 1 neighbour forced fs east fs",
		"node 2 plain forced fs east fs",
		"line 0 up open", "line 1 up shut", "line 2 up shut",
		"ring parts 2",
	)
}

func TestLoops(t *testing.T) { // P26.1: loop, ahead of whole, where all lines are open; one line down, and it is whole, two, and it isn't
	eachRing(func(nodes, owner int) {
		x := begin(t, aPlan(nodes, owner))
		x.opens()
		want := []string{"tick 0"}
		for i := range nodes {
			role := map[int]string{owner: "owner", (owner + 1) % nodes: "neighbour"}[i]
			if role == "" {
				role = "plain"
			}
			want = append(want, fmt.Sprintf("node %d %s forced none none silent", i, role))
		}
		for i := range nodes {
			want = append(want, fmt.Sprintf("line %d up open", i))
		}
		x.says("opened", append(want, "ring loop 1")...)
		x.cut(owner)
		want[1+nodes+owner] = fmt.Sprintf("line %d down shut", owner)
		x.says("one line down", append(want, "ring whole 1")...)
		other := (owner + 1) % nodes
		x.does(down(2*other + 1))
		want[1+nodes+other] = fmt.Sprintf("line %d down shut", other)
		x.says("one way more down", append(want, "ring parts 2")...)
	})
}

func TestComesToLoop(t *testing.T) { // P26.1: loop, of a ring that was brought to it by events alone
	x := begin(t, aPlan(4, 1))
	x.runs(19)
	// The owner goes home; what it says at that tick is held on its way west, and lost on all others.
	x.does(tick())
	held := 2
	for d := range 8 {
		for d != held && x.Way(d).Len() > 0 {
			x.does(drop(d))
		}
	}
	x.has("held", 2, "node 1 owner idle none east rb keep")
	through := func() {
		t.Helper()
		x.does(tick())
		for range 8 {
			for d := range 8 {
				for n := x.Way(d).Len(); d != held && n > 0; n-- {
					x.does(deliver(d))
				}
			}
		}
	}
	// Node 3, which hears nothing of it, is forced, and tells the owner by the way round the neighbour, which is to open first.
	x.does(order(3, api.West, req.FS))
	for range 3 {
		through()
	}
	x.has("the owner was told", 2, "node 1 owner forced none none silent")
	x.does(order(3, api.West, req.Clear))
	// Beyond the guard, and before the owner's wait to block is over.
	for range 6 {
		through()
	}
	x.has("cleared", 2, "node 1 owner pending none none silent")
	x.has("cleared", 4, "node 3 plain pending none west nr")
	x.has("cleared", -1, "ring whole 1")
	// Now what was said long ago comes to node 0, and from there to node 3.
	for _, d := range []int{held, 0} {
		for x.Way(d).Len() > 0 {
			x.does(deliver(d))
		}
	}
	x.has("what was held came", 4, "node 3 plain idle none none silent")
	x.has("it loops", -1, "ring loop 1")
}

func TestPartsByNumber(t *testing.T) { // P26.1: each number of parts from 2 on, up to as many as nodes; 1 where it is whole
	eachRing(func(nodes, owner int) {
		if nodes > 4 && owner%5 != 0 {
			return
		}
		x := begin(t, aPlan(nodes, owner))
		x.opens()
		for i := range nodes {
			// From another line on in each ring.
			x.cut((owner + i) % nodes)
			want := fmt.Sprintf("ring parts %d", i+1)
			if i == 0 {
				want = "ring whole 1"
			}
			x.has("cut so far", -1, want)
			x.has("cut so far", 1+nodes+(owner+i)%nodes, fmt.Sprintf("line %d down shut", (owner+i)%nodes))
		}
		for i := range nodes {
			x.mend(i)
			want := fmt.Sprintf("ring parts %d", nodes-i-1)
			switch nodes - i - 1 {
			case 1:
				want = "ring whole 1"
			case 0:
				want = "ring loop 1"
			}
			x.has("mended so far", -1, want)
		}
	})
}

func TestWaysOfALine(t *testing.T) { // P26.1: a line is down, whichever of its ways is, and which it is stands in that line alone
	eachRing(func(nodes, owner int) {
		x := begin(t, aPlan(nodes, owner))
		x.opens()
		was := Lines(x.Ring)
		for i := range nodes {
			east, back := ends(nodes, i)
			for _, d := range []int{east, back} {
				x.does(down(d))
				want := slices.Clone(was)
				want[1+nodes+i] = fmt.Sprintf("line %d down shut", i)
				want[len(want)-1] = "ring whole 1"
				x.says(fmt.Sprintf("way %d down", d), want...)
				x.does(up(d))
				x.says(fmt.Sprintf("way %d up again", d), was...)
			}
		}
	})
}

func TestMayBeWrittenInto(t *testing.T) { // R3: lines that were answered turn neither the ring nor a later answer
	x, twin := begin(t, aPlan(4, 1)), begin(t, aPlan(4, 1))
	for range 40 {
		x.does(tick(), flow())
		twin.does(tick(), flow())
		kept, spoilt := Lines(x.Ring), Lines(x.Ring)
		was := slices.Clone(kept)
		for i := range spoilt[:cap(spoilt)] {
			spoilt[:cap(spoilt)][i] = "spoilt"
		}
		_ = append(spoilt[:0], "spoilt", "too")
		if !slices.Equal(kept, was) {
			t.Fatalf("%q, was %q", kept, was)
		}
		x.says("written into", was...)
	}
	x.like("at last", twin)
	// What was answered stays when the ring turns.
	kept := Lines(x.Ring)
	was := slices.Clone(kept)
	x.does(down(0), order(2, api.East, req.FS), tick())
	if !slices.Equal(kept, was) || slices.Equal(kept, Lines(x.Ring)) {
		t.Errorf("%q, was %q, is by now %q", kept, was, Lines(x.Ring))
	}
}
