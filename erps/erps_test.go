package erps

import (
	"math"
	"testing"

	"carousel/api"
	"carousel/burst"
	"carousel/chart"
	"carousel/flush"
	"carousel/mac"
	"carousel/plan"
	"carousel/raps"
	"carousel/req"
	"carousel/timer"
)

// Five nodes stand in the ring of these tests, so that a plain one has others above it and below.
const (
	ownerAt     = 2
	neighbourAt = 3
	plainAt     = 1
	otherAt     = 4
	nodeCount   = 5

	below mac.Addr = 0x020000000001
	above mac.Addr = 0x020000000009

	guardTicks = 4
	restTicks  = 20
	blockTicks = 15
	gapTicks   = 2
	perTicks   = 7

	greatestTick = 1<<40 - 1<<21
)

func aPlan(revert bool) plan.Plan {
	return plan.Plan{
		Nodes: nodeCount, Owner: ownerAt, Level: 7, Data: 10, Ring: 20,
		Interval: 2, Hold: 3, Guard: guardTicks, Rest: restTicks, Wait: blockTicks, Gap: gapTicks, Period: perTicks, Age: 100,
		Room: 16, Queue: 100, Revert: revert,
	}
}

// begun is a node of the ring that began at tick 0.
func begun(t *testing.T, i int, revert bool) Node {
	t.Helper()
	n, e := New(aPlan(revert), i, 0)
	if e != api.OK {
		t.Fatalf("New of node %d: %v", i, e)
	}
	return n
}

// call is one call of a node; whether tables are emptied.
type call func(n Node) (Node, bool)

func ordered(now int64, k req.Kind, port int) call {
	return func(n Node) (Node, bool) {
		m, empties, e := n.Order(now, k, port)
		if e != api.OK {
			panic(e)
		}
		return m, empties
	}
}

func faulted(now int64, port int, bad bool) call {
	return func(n Node) (Node, bool) { return n.Fault(now, port, bad) }
}

func heard(now int64, port int, m raps.Msg) call {
	return func(n Node) (Node, bool) { return n.Hear(now, port, m) }
}

// ticked is a Tick, of which speaking doesn't matter.
func ticked(now int64) call {
	return func(n Node) (Node, bool) {
		m, _, empties := n.Tick(now)
		return m, empties
	}
}

// behind is a node behind some calls.
func behind(n Node, calls ...call) Node {
	for _, c := range calls {
		n, _ = c(n)
	}
	return n
}

// What others tell in these tests.
func forced(node mac.Addr) raps.Msg   { return raps.Msg{Request: raps.FS, Node: node} }
func failed(node mac.Addr) raps.Msg   { return raps.Msg{Request: raps.SF, Node: node} }
func switched(node mac.Addr) raps.Msg { return raps.Msg{Request: raps.MS, Node: node} }
func resting(node mac.Addr) raps.Msg  { return raps.Msg{Request: raps.NR, Block: true, Node: node} }
func nothing(node mac.Addr) raps.Msg  { return raps.Msg{Request: raps.NR, Node: node} }

// idle is a node of the ring that is Idle since tick 50.
func idle(t *testing.T, i int, revert bool) Node {
	t.Helper()
	n := begun(t, i, revert)
	switch {
	case i == ownerAt && revert:
		n = behind(n, ticked(50))
	case i == ownerAt:
		n = behind(n, ordered(50, req.Clear, api.West))
	default:
		n = behind(n, heard(50, api.West, resting(above)))
	}
	if n.State != chart.Idle {
		t.Fatalf("node %d isn't Idle: %+v", i, n)
	}
	// What was heard on the way here would hide what is heard later.
	n.Pairs = flush.Pairs{}
	return n
}

// change is what is to be another in a node.
type change func(n *Node)

func state(s chart.State) change  { return func(n *Node) { n.State = s } }
func shut(west, east bool) change { return func(n *Node) { n.Shut = [2]bool{west, east} } }
func bad(west, east bool) change  { return func(n *Node) { n.Bad = [2]bool{west, east} } }
func own(k req.Kind) change       { return func(n *Node) { n.Own = k } }
func stopped(name int) change     { return func(n *Node) { n.Bank = n.Bank.Stop(name) } }
func spoke(said int, next int64) change {
	return func(n *Node) { n.Burst.Said, n.Burst.Next = said, next }
}

func started(name int, now, length int64) change {
	return func(n *Node) { n.Bank, _ = n.Bank.Start(name, now, length) }
}

func says(now int64, k raps.Kind, block, keep, east bool) change {
	return func(n *Node) {
		n.Say = raps.Msg{Request: k, Block: block, Keep: keep, East: east, Node: n.Me}
		n.Burst = burst.Burst{Gap: n.Burst.Gap, Period: n.Burst.Period, Next: now, On: true}
	}
}

func silent(n *Node) {
	n.Say = raps.Msg{}
	n.Burst = burst.Burst{Gap: n.Burst.Gap, Period: n.Burst.Period}
}

func paired(port int, m raps.Msg) change {
	return func(n *Node) { n.Pairs[port] = flush.Pair{Some: true, East: m.East, Node: m.Node} }
}

func forgot(port int) change { return func(n *Node) { n.Pairs[port] = flush.Pair{} } }

// wanted is a node with what is to be another in it.
func wanted(n Node, changes ...change) Node {
	for _, c := range changes {
		c(&n)
	}
	return n
}

// is holds what a call answers to the node as it was, but for what is to be another in it, and to whether tables are emptied.
func is(t *testing.T, name string, n Node, c call, empties bool, changes ...change) Node {
	t.Helper()
	was := n
	got, yes := c(n)
	if want := wanted(was, changes...); got != want || yes != empties {
		t.Errorf("%s: of\n%+v\ncame\n%+v, %v, want\n%+v, %v", name, was, got, yes, want, empties)
	}
	if n != was {
		t.Errorf("%s: the node is\n%+v\nit was\n%+v", name, n, was)
	}
	return got
}

// stays holds what a call answers to the node as it was.
func stays(t *testing.T, name string, n Node, c call) {
	t.Helper()
	is(t, name, n, c, false)
}

// refused holds Order to an error, beside which the node is as it was.
func refused(t *testing.T, name string, n Node, now int64, k req.Kind, port int, want api.Errno) {
	t.Helper()
	if m, empties, e := n.Order(now, k, port); m != n || empties || e != want {
		t.Errorf("%s: Order(%d, %v, %d) of\n%+v\n= %+v, %v, %v, want it as it was, and %v", name, now, k, port, n, m, empties, e, want)
	}
}

func TestExample(t *testing.T) { // P17.1, P17.3
	n := begun(t, plainAt, true)
	if n.State != chart.Pending || n.Shut != [2]bool{false, true} {
		t.Errorf("begun: %+v", n)
	}
	if n, _ = n.Hear(1, api.West, resting(above)); n.State != chart.Idle || n.Shut != [2]bool{} {
		t.Errorf("told: %+v", n)
	}
}

func TestNew(t *testing.T) { // P17.1: each role, of plans that revert and that don't, at both bounds of ticks
	for _, now := range []int64{0, 1, 77, greatestTick - 1, greatestTick} {
		for i := range nodeCount {
			for _, revert := range []bool{false, true} {
				want := Node{
					Me: below + mac.Addr(i), Role: plan.Plain, Rpl: -1, Revert: revert, Guard: guardTicks, Rest: restTicks, Wait: blockTicks,
					State: chart.Pending, Shut: [2]bool{false, true}, Own: req.None,
					Burst: burst.Burst{Gap: gapTicks, Period: perTicks, Next: now, On: true},
				}
				switch i {
				case ownerAt:
					want.Role, want.Rpl = plan.Owner, api.East
				case neighbourAt:
					want.Role, want.Rpl, want.Shut = plan.Neighbour, api.West, [2]bool{true, false}
				}
				want.Say = raps.Msg{Request: raps.NR, East: want.Shut[api.East], Node: want.Me}
				if i == ownerAt && revert {
					want.Bank, _ = timer.Bank{}.Start(1, now, restTicks)
				}
				n, e := New(aPlan(revert), i, now)
				if n != want || e != api.OK {
					t.Errorf("New(revert %v, %d, %d) = %+v, %v, want %+v", revert, i, now, n, e, want)
				}
			}
		}
	}
}

func TestNewEverywhere(t *testing.T) { // P17.1: rings of every size and owner
	for nodes := 3; nodes <= 16; nodes++ {
		for owner := range nodes {
			p := aPlan(true)
			p.Nodes, p.Owner = nodes, owner
			for i := range nodes {
				role, rpl, shut := plan.Plain, -1, [2]bool{false, true}
				switch i {
				case owner:
					role, rpl = plan.Owner, api.East
				case (owner + 1) % nodes:
					role, rpl, shut = plan.Neighbour, api.West, [2]bool{true, false}
				}
				n, e := New(p, i, 5)
				if e != api.OK || n.Me != p.Node(i) || n.Role != role || n.Rpl != rpl || n.Shut != shut || n.Bank.Runs(1) != (role == plan.Owner) {
					t.Errorf("%d nodes, owner %d: New of %d = %+v, %v", nodes, owner, i, n, e)
				}
			}
		}
	}
}

func TestNewNumbers(t *testing.T) { // P17.1: each number of the node is the plan's own, with the least and the greatest
	p := aPlan(true)
	p.Guard, p.Rest, p.Wait, p.Gap, p.Period = 1<<20, 1, 1<<20-1, 1<<20-2, 1
	n, e := New(p, ownerAt, greatestTick)
	if e != api.OK || n.Guard != 1<<20 || n.Rest != 1 || n.Wait != 1<<20-1 || n.Burst.Gap != 1<<20-2 || n.Burst.Period != 1 || n.Bank.Due(1) != greatestTick+1 {
		t.Errorf("%+v, %v", n, e)
	}
	p.Rest = 1 << 20
	if n, e = New(p, ownerAt, greatestTick); e != api.OK || n.Bank.Due(1) != greatestTick+1<<20 {
		t.Errorf("%+v, %v", n, e)
	}
}

// begins holds New to an error.
func begins(t *testing.T, p plan.Plan, i int, now int64, want api.Errno) {
	t.Helper()
	n, e := New(p, i, now)
	if e != want || (e == api.OK) == (n == Node{}) {
		t.Errorf("New(%+v, %d, %d) = %+v, %v, want %v", p, i, now, n, e, want)
	}
}

func TestNewWrong(t *testing.T) { // P17.1, R2: each alone, and several at once
	right := aPlan(true)
	plans := map[api.Errno]plan.Plan{api.OK: right, api.ErrTag: right, api.ErrRange: right}
	noVlan, noGap := right, right
	noVlan.Data, noGap.Gap = 0, 0
	plans[api.ErrTag], plans[api.ErrRange] = noVlan, noGap
	nodes := []int{0, nodeCount - 1, -1, nodeCount, nodeCount + 1, -2, math.MinInt64, math.MaxInt64, 1 << 32, -1 << 32, 1<<32 + 1}
	ticks := []int64{0, greatestTick, -1, greatestTick + 1, -2, math.MinInt64, math.MaxInt64, 1 << 40, 1<<40 + 1, -1 << 40}
	for wrong, p := range plans {
		for a, i := range nodes {
			for b, now := range ticks {
				want := wrong
				if want == api.OK && (a > 1 || b > 1) {
					want = api.ErrRange
				}
				begins(t, p, i, now, want)
			}
		}
	}
	begins(t, plan.Plan{}, 0, 0, api.ErrRange)
	small := right
	small.Nodes, small.Owner, small.Ring = 3, 0, small.Data
	begins(t, small, 3, -1, api.ErrTag)
	small.Ring = 20
	begins(t, small, 2, 0, api.OK)
	begins(t, small, 3, 0, api.ErrRange)
}

func TestOrderWrong(t *testing.T) { // P17.2: what may not be ordered, ports that are no ring ports, each alone and both at once
	kinds := []req.Kind{-1, -2, math.MinInt64, math.MaxInt64, 15, 255, 256, 1 << 32, 1<<32 + 1, 1<<32 + 7}
	for k := req.Clear; k <= req.None; k++ {
		if k != req.Clear && k != req.FS && k != req.MS {
			kinds = append(kinds, k)
		}
	}
	ports := []int{-1, 2, 3, -2, math.MinInt64, math.MaxInt64, 1 << 32, 1<<32 + 1, -1 << 32}
	for _, n := range []Node{begun(t, ownerAt, true), begun(t, plainAt, false), idle(t, neighbourAt, true)} {
		for _, k := range kinds {
			for _, port := range append(ports, api.West, api.East) {
				refused(t, "kind", n, 60, k, port, api.ErrName)
			}
		}
		for _, port := range ports {
			refused(t, "port", n, 60, req.FS, port, api.ErrPort)
			refused(t, "port", n, 60, req.MS, port, api.ErrPort)
		}
	}
	// A port that is none is named ahead of a request that isn't taken.
	n := behind(begun(t, plainAt, true), ordered(1, req.FS, api.West))
	refused(t, "both", n, 2, req.MS, api.Local, api.ErrPort)
	refused(t, "not taken", n, 2, req.MS, api.East, api.ErrState)
	// Of Clear no port is asked.
	for _, port := range append(ports, api.West, api.East) {
		is(t, "clear", begun(t, ownerAt, true), ordered(3, req.Clear, port), false,
			state(chart.Idle), says(3, raps.NR, true, true, true), stopped(1))
		refused(t, "clear", idle(t, plainAt, true), 60, req.Clear, port, api.ErrState)
	}
}

func TestFaultWrong(t *testing.T) { // P17.2: of what was so, or is no ring port, nothing
	for _, n := range []Node{begun(t, ownerAt, true), begun(t, plainAt, true), idle(t, neighbourAt, true)} {
		for _, port := range []int{-1, 2, 3, -2, math.MinInt64, math.MaxInt64, 1 << 32, 1<<32 + 1, -1 << 32} {
			stays(t, "no ring port", n, faulted(60, port, true))
			stays(t, "no ring port", n, faulted(60, port, false))
		}
		for _, port := range []int{api.West, api.East} {
			stays(t, "not bad", n, faulted(60, port, false))
			stays(t, "bad twice", behind(n, faulted(60, port, true)), faulted(61, port, true))
			gone := behind(n, faulted(60, port, true), faulted(61, port, false))
			stays(t, "gone twice", gone, faulted(62, port, false))
		}
	}
}

func TestHearWrong(t *testing.T) { // P17.3: at ports that are no ring ports, and the node's own message
	for _, n := range []Node{begun(t, plainAt, true), idle(t, plainAt, true), begun(t, ownerAt, true)} {
		for _, m := range []raps.Msg{forced(above), failed(below), switched(above), resting(above), nothing(above)} {
			for _, port := range []int{-1, 2, 3, math.MinInt64, math.MaxInt64, 1 << 32, 1<<32 + 1} {
				stays(t, "no ring port", n, heard(60, port, m))
			}
			m.Node = n.Me
			for _, port := range []int{api.West, api.East} {
				stays(t, "its own", n, heard(60, port, m))
			}
		}
	}
}

func TestGuard(t *testing.T) { // P17.3: while the guard runs nothing is heard; at the tick at which it is over it stops, and all is
	n := behind(begun(t, plainAt, true), faulted(10, api.West, true), faulted(20, api.West, false))
	if n.Bank.Due(0) != 20+guardTicks {
		t.Fatalf("%+v", n)
	}
	for now := int64(20); now < 20+guardTicks; now++ {
		n = behind(n, ticked(now))
		for _, m := range []raps.Msg{forced(above), failed(above), switched(above), resting(above), nothing(above)} {
			stays(t, "guarded", n, heard(now, api.West, m))
			stays(t, "guarded", n, heard(now, api.East, m))
		}
	}
	// The bank's timer runs till it is popped.
	stays(t, "not popped", n, heard(20+guardTicks, api.West, forced(above)))
	n = is(t, "popped", n, ticked(20+guardTicks), false, stopped(0), spoke(3, 20+guardTicks+perTicks))
	is(t, "heard", n, heard(20+guardTicks, api.West, forced(above)), true,
		state(chart.Forced), shut(false, false), silent, paired(api.West, forced(above)))
	// The node isn't kept from what is asked of it here.
	n = behind(begun(t, plainAt, true), faulted(10, api.West, true), faulted(20, api.West, false))
	is(t, "fault", n, faulted(21, api.East, true), true,
		state(chart.Protect), shut(false, true), bad(false, true), says(21, raps.SF, false, false, true))
	is(t, "order", n, ordered(21, req.FS, api.West), false,
		state(chart.Forced), shut(true, false), own(req.FS), says(21, raps.FS, false, true, false))
}

// anyNumbers are nodes, ticks and ports that no call answers and none is to be given.
func anyNumbers() ([]Node, []int64, []int) {
	far := []int{math.MinInt64, -1 << 32, -2, -1, 0, 1, 2, 3, 4, 7, 8, 14, 255, 1 << 32, math.MaxInt64}
	var nodes []Node
	for _, f := range far {
		for s := chart.State(-1); s <= 5; s++ {
			for role := -1; role <= 3; role++ {
				n := Node{Role: role, Rpl: f, State: s, Own: req.Kind(f), Guard: int64(f), Rest: int64(f), Wait: int64(f), Revert: true}
				n.Burst = burst.Burst{Gap: int64(f), Period: int64(f), Next: int64(-f), On: true, Said: f}
				m := n
				m.Own, m.Bad = req.None, [2]bool{true, true}
				nodes = append(nodes, n, m)
			}
		}
	}
	return nodes, []int64{math.MinInt64, -1, 0, 5, greatestTick + 1, 1 << 40, math.MaxInt64}, far
}

func TestAnything(t *testing.T) { // R1: whatever is handed in, calls end, and none panics
	nodes, ticks, ports := anyNumbers()
	for _, n := range nodes {
		for _, now := range ticks {
			for k := req.Kind(-1); k <= 15; k++ {
				n.ask(asking{now: now, kind: k, port: ports[int(k+1)%len(ports)]})
			}
			for _, port := range ports {
				n.Order(now, req.Clear, port)
				n.Order(now, req.FS, port)
				n.Order(now, req.MS, port)
				n.Fault(now, port, true)
				n.Fault(now, port, false)
				for k := range 16 {
					n.Hear(now, port, raps.Msg{Request: raps.Kind(k), Block: k%2 == 0, Node: mac.Addr(k) << 60})
				}
			}
			n.Bank, _ = n.Bank.Start(1, 0, 1)
			n.Bank, _ = n.Bank.Start(2, 0, 1)
			n.Bank, _ = n.Bank.Start(7, 0, 1)
			n.Tick(now)
		}
	}
}
