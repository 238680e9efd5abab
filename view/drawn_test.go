package view

import (
	"fmt"
	"math/rand"
	"testing"

	"carousel/api"
	"carousel/event"
	"carousel/plan"
	"carousel/raps"
	"carousel/req"
)

func drawPlan(r *rand.Rand) plan.Plan {
	nodes := 3 + r.Intn(4)
	if r.Intn(10) == 0 {
		nodes = 16
	}
	p := aPlan(nodes, r.Intn(nodes))
	p.Level, p.Data = uint8(r.Intn(8)), uint16(1+r.Intn(4094))
	p.Ring = p.Data%4094 + 1
	p.Interval, p.Hold, p.Guard = int64(1+r.Intn(4)), int64(r.Intn(4)), int64(1+r.Intn(4))
	p.Rest, p.Wait, p.Gap, p.Period = int64(1+r.Intn(12)), int64(1+r.Intn(8)), int64(1+r.Intn(3)), int64(1+r.Intn(6))
	p.Age, p.Room, p.Revert = int64(1+r.Intn(20)), 1+r.Intn(6), r.Intn(3) > 0
	p.Queue = []int{1, 2, 3, 6, 100}[r.Intn(5)]
	return p
}

// drawBytes is a frame of a host, a message as nodes send them, or any bytes.
func drawBytes(r *rand.Rand, p plan.Plan) string {
	switch r.Intn(4) {
	case 0:
		return told(p, raps.Msg{Request: raps.SF, Node: p.Node(r.Intn(p.Nodes))})
	case 1:
		b := make([]byte, []int{0, 1, 17, 18, api.MaxFrame, api.MaxFrame + 1}[r.Intn(6)])
		r.Read(b)
		return string(b)
	}
	return data(p, r.Intn(p.Nodes))
}

// drawEvent is an event of any Kind, of numbers most of which there are.
func drawEvent(r *rand.Rand, p plan.Plan) event.Event {
	way, node := r.Intn(2*p.Nodes), r.Intn(p.Nodes)
	if r.Intn(20) == 0 {
		way, node = 2*p.Nodes, p.Nodes
	}
	switch pick := r.Intn(100); {
	case pick < 26:
		return tick()
	case pick < 44:
		return flow()
	case pick < 60:
		return deliver(way)
	case pick < 65:
		return drop(way)
	case pick < 70:
		return down(way)
	case pick < 78:
		return up(way)
	case pick < 90:
		k := []req.Kind{req.Clear, req.Clear, req.FS, req.MS, req.Kind(r.Intn(256))}[r.Intn(5)]
		return order(node, []int{api.West, api.East, api.West, api.East, r.Intn(256)}[r.Intn(5)], k)
	case pick < 98:
		return host(node, drawBytes(r, p))
	}
	return event.Event{Kind: event.Kind(r.Intn(256)), A: uint8(r.Intn(256)), B: uint8(r.Intn(256)), C: uint8(r.Intn(256)), Bytes: drawBytes(r, p)}
}

func TestDrawnRings(t *testing.T) { // P24.1 to P24.3: drawn events of every Kind, over drawn plans, held to the chapter; asking turns nothing
	met := map[string]int{}
	for seed := range int64(300) {
		r := rand.New(rand.NewSource(seed))
		p := drawPlan(r)
		// Of the twin nothing is asked.
		x, twin := begin(t, p), begin(t, p)
		if r.Intn(5) == 0 {
			x.opens()
			twin.opens()
		}
		for k := range 100 {
			v := drawEvent(r, p)
			e := x.try(v)
			if f := twin.try(v); f != e {
				t.Fatalf("run %d, event %d, %s: %v and %v", seed, k, shown(v), e, f)
			}
			met[fmt.Sprintf("%v: %v", v.Kind, e)]++
			x.is(fmt.Sprintf("run %d, event %d, %s", seed, k, shown(v)), x.reads())
			l := Lines(x.Ring)
			parts := len(holds(t, l))
			if k%20 == 0 {
				goes(t, l)
			}
			for _, line := range l {
				met[fmt.Sprintf("up %v, shut %v", line.Up, line.Shut)]++
			}
			switch {
			case Loops(l):
				met["loops"]++
			case parts == 1:
				met["whole"]++
			default:
				met["parts"]++
			}
		}
		x.like(fmt.Sprintf("run %d", seed), twin)
	}
	for _, k := range []string{
		"tick: ok", "deliver: ok", "drop: ok", "down: ok", "up: ok", "order: ok", "host: ok", "flow: ok",
		"none: name", "deliver: port", "deliver: none", "order: state",
		"up true, shut false", "up true, shut true", "up false, shut false", "up false, shut true",
		"loops", "whole", "parts",
	} {
		if met[k] < 20 {
			t.Errorf("%s was met %d times", k, met[k])
		}
	}
}

// settled is a drawn plan by which a ring comes back to rest: none of its queues is ever full, and its waits are long.
func settled(r *rand.Rand) plan.Plan {
	p := drawPlan(r)
	p.Revert, p.Queue = true, api.MaxQueue
	p.Rest = p.Guard + 2*p.Gap + p.Period + 1 + r.Int63n(10)
	return p
}

// comes has all come that is on its way, one frame behind the other, the ways in any order.
func (x rig) comes(r *rand.Rand) {
	x.t.Helper()
	for {
		var on []int
		for d := range 2 * x.p.Nodes {
			if x.Way(d).Len() > 0 {
				on = append(on, d)
			}
		}
		if len(on) == 0 {
			return
		}
		x.watched(deliver(on[r.Intn(len(on))]))
	}
}

func TestOneCutOnePath(t *testing.T) { // W2, W3: one cut of a drawn line, one way or both: whole in time, back at rest, and it never loops
	for seed := range int64(150) {
		r := rand.New(rand.NewSource(seed))
		p := settled(r)
		x := begin(t, p)
		name := fmt.Sprintf("run %d", seed)
		step := func() {
			x.watched(tick())
			x.comes(r)
		}
		back := 4*p.Rest + 4*p.Interval + p.Hold + p.Guard
		for range back + r.Int63n(10) {
			step()
		}
		x.atRest(name)

		i := r.Intn(p.Nodes)
		east, west := ends(p.Nodes, i)
		cut := [][]int{{east}, {west}, {east, west}, {west, east}}[r.Intn(4)]
		for _, d := range cut {
			x.watched(down(d))
		}
		// The line is lost at the first tick beyond seven halves of the Interval, and the fault counts a Hold later. What the
		// owner said at that tick may come behind what is said of the fault: that is said again a Gap later.
		for range 7*p.Interval/2 + 1 + p.Hold + p.Gap {
			step()
		}
		x.hang(name+": cut", 1)
		x.is(name+": cut", all(p.Nodes, isOpen, map[int]Line{i: isDownShut}))
		for range r.Int63n(40) {
			step()
			x.hang(name+": cut, later on", 1)
		}

		for _, d := range cut {
			x.watched(up(d))
		}
		for range back {
			step()
			x.hang(name+": mended", 1)
		}
		x.atRest(name + ": mended")
	}
}
