package tale

import (
	"fmt"
	"math/rand"
	"slices"
	"strings"
	"testing"

	"carousel/api"
	"carousel/chart"
	"carousel/erps"
	"carousel/event"
	"carousel/plan"
	"carousel/raps"
	"carousel/req"
)

func drawPlan(r *rand.Rand) plan.Plan {
	nodes := 3 + r.Intn(4)
	if r.Intn(10) == 0 {
		nodes = 3 + r.Intn(14)
	}
	p := aPlan(nodes, r.Intn(nodes))
	p.Level, p.Data = uint8(r.Intn(8)), uint16(1+r.Intn(4094))
	p.Ring = p.Data%4094 + 1
	p.Interval, p.Hold, p.Guard = int64(1+r.Intn(4)), int64(r.Intn(4)), int64(1+r.Intn(4))
	p.Rest, p.Wait, p.Gap, p.Period = int64(1+r.Intn(12)), int64(1+r.Intn(8)), int64(1+r.Intn(3)), int64(1+r.Intn(6))
	p.Age, p.Room, p.Revert = int64(1+r.Intn(20)), 1+r.Intn(6), r.Intn(3) > 0
	p.Queue = []int{1, 2, 3, 6, 100}[r.Intn(5)]
	return p
}

// drawBytes is a frame of a host, a message as nodes send them, or any bytes.
func drawBytes(r *rand.Rand, p plan.Plan) string {
	switch r.Intn(4) {
	case 0:
		return told(p, raps.Msg{Request: raps.SF, Node: p.Node(r.Intn(p.Nodes))})
	case 1:
		b := make([]byte, []int{0, 1, 17, 18, api.MaxFrame, api.MaxFrame + 1}[r.Intn(6)])
		r.Read(b)
		return string(b)
	}
	return data(p, r.Intn(p.Nodes))
}

// drawEvent is an event of any Kind, of numbers most of which there are.
func drawEvent(r *rand.Rand, p plan.Plan) event.Event {
	way, node := r.Intn(2*p.Nodes), r.Intn(p.Nodes)
	if r.Intn(20) == 0 {
		way, node = 2*p.Nodes, p.Nodes
	}
	switch pick := r.Intn(100); {
	case pick < 28:
		return tick()
	case pick < 50:
		return flow()
	case pick < 62:
		return deliver(way)
	case pick < 67:
		return drop(way)
	case pick < 72:
		return down(way)
	case pick < 80:
		return up(way)
	case pick < 92:
		k := []req.Kind{req.Clear, req.Clear, req.FS, req.MS, req.MS, req.Kind(r.Intn(256))}[r.Intn(6)]
		return order(node, []int{api.West, api.East, api.West, api.East, r.Intn(256)}[r.Intn(5)], k)
	case pick < 98:
		return host(node, drawBytes(r, p))
	}
	return event.Event{Kind: event.Kind(r.Intn(256)), A: uint8(r.Intn(256)), B: uint8(r.Intn(256)), C: uint8(r.Intn(256)), Bytes: drawBytes(r, p)}
}

// reads is a ring's lines, as the chapter tells them a second time: of the nodes, and of the ways that were set down.
func (x rig) reads() []string {
	n := x.p.Nodes
	l := []string{fmt.Sprintf("tick %d", x.Now())}
	for i := range n {
		l = append(l, readNode(i, x.p, x.Bridge(i).Node()))
	}
	open := 0
	for i := range n {
		east, back := ends(n, i)
		line := fmt.Sprintf("line %d", i)
		isUp := !x.cuts[east] && !x.cuts[back]
		if isUp {
			line += " up"
		} else {
			line += " down"
		}
		if isUp && !x.Bridge(i).Node().Shut[api.East] && !x.Bridge((i + 1) % n).Node().Shut[api.West] {
			open++
			line += " open"
		} else {
			line += " shut"
		}
		l = append(l, line)
	}
	switch open {
	case n:
		return append(l, "ring loop 1")
	case n - 1:
		return append(l, "ring whole 1")
	}
	// Each line that isn't open parts it once, but for the first.
	return append(l, fmt.Sprintf("ring parts %d", n-open))
}

func readNode(i int, p plan.Plan, n erps.Node) string {
	role := "plain"
	if i == p.Owner {
		role = "owner"
	} else if i == p.Owner+1 || i == 0 && p.Owner == p.Nodes-1 {
		role = "neighbour"
	}
	state := "protect"
	switch n.State {
	case chart.Idle:
		state = "idle"
	case chart.Manual:
		state = "manual"
	case chart.Forced:
		state = "forced"
	case chart.Pending:
		state = "pending"
	}
	own := "none"
	switch n.Own {
	case req.FS:
		own = "fs"
	case req.MS:
		own = "ms"
	}
	shut := "none"
	west, east := n.Shut[api.West], n.Shut[api.East]
	switch {
	case west && east:
		shut = "both"
	case west:
		shut = "west"
	case east:
		shut = "east"
	}
	says := "silent"
	if n.Burst.On {
		says = saying(n.Say)
	}
	return fmt.Sprintf("node %d %s %s %s %s %s", i, role, state, own, shut, says)
}

// meet counts what was told, each part of each line by itself.
func meet(met map[string]int, l []string) {
	for _, s := range l {
		words := strings.Split(s, " ")
		switch words[0] {
		case "node":
			met["role "+words[2]]++
			met["state "+words[3]]++
			met["own "+words[4]]++
			met["shut "+words[5]]++
			met["says "+strings.Join(words[6:], " ")]++
		case "line":
			met["line "+words[2]+" "+words[3]]++
		case "ring":
			met[s]++
		}
	}
}

func TestDrawnRings(t *testing.T) { // P26.1, P26.2: drawn events of every Kind, over drawn plans, held to a second reading; asking turns nothing
	t.Parallel()
	met := map[string]int{}
	for seed := range int64(300) {
		r := rand.New(rand.NewSource(seed))
		p := drawPlan(r)
		// Of the twin nothing is asked.
		x, twin := begin(t, p), begin(t, p)
		if r.Intn(5) == 0 {
			x.opens()
			twin.opens()
		}
		for k := range 120 {
			v := drawEvent(r, p)
			e := x.try(v)
			if f := twin.try(v); f != e {
				t.Fatalf("run %d, event %d, %s: %v and %v", seed, k, shown(v), e, f)
			}
			met[fmt.Sprintf("%v: %v", v.Kind, e)]++
			name := fmt.Sprintf("run %d, event %d, %s", seed, k, shown(v))
			x.says(name, x.reads()...)
			l := Lines(x.Ring)
			if len(l) != 2*p.Nodes+2 || !slices.Equal(l, Lines(x.Ring)) {
				t.Fatalf("%s: %d lines: %q, and then %q", name, len(l), l, Lines(x.Ring))
			}
			meet(met, l)
			x.counted(name)
		}
		x.like(fmt.Sprintf("run %d", seed), twin)
	}
	for _, k := range []string{
		"tick: ok", "deliver: ok", "drop: ok", "down: ok", "up: ok", "order: ok", "host: ok", "flow: ok",
		"none: name", "deliver: port", "deliver: none", "order: state",
		"role plain", "role owner", "role neighbour",
		"state idle", "state protect", "state manual", "state forced", "state pending",
		"own none", "own fs", "own ms", "shut none", "shut west", "shut east", "shut both",
		"says silent", "says nr", "says rb", "says rb keep", "says ms", "says ms keep", "says sf", "says sf keep", "says fs", "says fs keep",
		"line up open", "line up shut", "line down shut",
		"ring loop 1", "ring whole 1", "ring parts 2", "ring parts 3", "ring parts 4", "ring parts 5",
	} {
		if met[k] < 20 {
			t.Errorf("%s was met %d times", k, met[k])
		}
	}
	// Where a node has something to say, it says nothing of this; and a line that is down isn't open.
	for _, k := range []string{"says nr keep", "says none", "says none keep", "line down open"} {
		if met[k] != 0 {
			t.Errorf("%s was met %d times", k, met[k])
		}
	}
}

func TestSameRingSameTale(t *testing.T) { // R5: another ring to which the same happened is told the same, however often it is asked
	for seed := range int64(30) {
		r := rand.New(rand.NewSource(seed))
		p := drawPlan(r)
		x, twin := begin(t, p), begin(t, p)
		for range 100 {
			v := drawEvent(r, p)
			x.try(v)
			twin.try(v)
			Lines(x.Ring)
		}
		want := Lines(x.Ring)
		for range 30 {
			twin.says("the other one", want...)
		}
		for i := range p.Nodes {
			if got, other := Counts(x.Ring, i), Counts(twin.Ring, i); got != other {
				t.Errorf("run %d: %q and %q", seed, got, other)
			}
		}
	}
}
