package bridge

import (
	"math"
	"slices"
	"testing"

	"carousel/api"
	"carousel/chart"
	"carousel/erps"
	"carousel/fdb"
	"carousel/plan"
	"carousel/raps"
	"carousel/req"
)

func TestNew(t *testing.T) { // P20.1: each role, of plans that revert and that don't, at both bounds of ticks
	for _, now := range []int64{0, 1, 77, greatestTick - 1, greatestTick} {
		for i := range nodeCount {
			for _, revert := range []bool{false, true} {
				p := aPlan()
				p.Revert = revert
				x := begin(t, p, i, now)
				if n, e := erps.New(p, i, now); e != api.OK || x.Node() != n {
					t.Errorf("New(%d, %d): %+v, want %+v, %v", i, now, x.Node(), n, e)
				}
				if l := x.Counters(); !slices.Equal(l, make([]uint64, 16)) {
					t.Errorf("New(%d, %d): counters %v", i, now, l)
				}
				x.has()
				x.isLost(now, false, false)
			}
		}
	}
}

func TestWatchesBegin(t *testing.T) { // P20.1: at that tick: they are to send then, and heard then
	for _, now := range []int64{0, 1, 77, 1 << 33, greatestTick - 100} {
		x := begin(t, aPlan(), plainAt, now)
		x.ticks(now, more{7: 2, 9: 2}, x.firstOuts()...)
		x.does(now+1, now+2, now+lostBehind-1)
		x.isLost(now+lostBehind-1, false, false)
		x.does(now + lostBehind)
		x.isLost(now+lostBehind, true, true)
	}
}

func TestBeginsBehindItsFirstTick(t *testing.T) { // P20.1: a bridge that is ticked late sends then, once
	x := begin(t, aPlan(), plainAt, 10)
	x.ticks(15, more{7: 2, 9: 2}, x.firstOuts()...)
	x.ticks(16, more{})
	x.ticks(17, more{7: 2, 9: 2}, x.outs(1, false, false, x.saysNothing())...)
}

// saysNothing is what a node begins to say.
func (x rig) saysNothing() *raps.Msg {
	m := nothing(x.i)
	m.East = x.i != (x.p.Owner+1)%x.p.Nodes
	return &m
}

// outs are the so-manieth checks, of which each tells whether its line is lost, and a message, if there is one.
func (x rig) outs(count int, lostWest, lostEast bool, m *raps.Msg) []Out {
	l := []Out{
		{west, checkFrame(x.p, x.i, checkOf(x.p, x.i, west, count, lostWest)).bytes()},
		{east, checkFrame(x.p, x.i, checkOf(x.p, x.i, east, count, lostEast)).bytes()},
	}
	if m != nil {
		l = append(l, x.message(*m)...)
	}
	return l
}

// message is what goes out where the node speaks.
func (x rig) message(m raps.Msg) []Out { return toPorts(told(x.p, m), west, east) }

// firstOuts are what goes out at a bridge's first tick.
func (x rig) firstOuts() []Out { return x.outs(0, false, false, x.saysNothing()) }

// begins holds New to an error.
func begins(t *testing.T, p plan.Plan, i int, now int64, want api.Errno) {
	t.Helper()
	b, e := New(p, i, now)
	if e != want || (e == api.OK) != (b != nil) {
		t.Errorf("New(%+v, %d, %d) = %v, %v, want %v", p, i, now, b, e, want)
	}
}

func TestNewWrong(t *testing.T) { // P20.1, R2: layer 17's errors, each alone, and several at once
	right := aPlan()
	plans := map[api.Errno]plan.Plan{api.OK: right, api.ErrTag: right, api.ErrRange: right}
	noVlan, noGap := right, right
	noVlan.Data, noGap.Gap = 0, 0
	plans[api.ErrTag], plans[api.ErrRange] = noVlan, noGap
	nodes := []int{0, nodeCount - 1, -1, nodeCount, nodeCount + 1, math.MinInt64, math.MaxInt64, 1 << 32, -1 << 32, 1<<32 + 1}
	ticks := []int64{0, greatestTick, -1, greatestTick + 1, math.MinInt64, math.MaxInt64, 1 << 40, 1<<40 + 1, -1 << 40}
	for wrong, p := range plans {
		for a, i := range nodes {
			for b, now := range ticks {
				want := wrong
				if want == api.OK && (a > 1 || b > 1) {
					want = api.ErrRange
				}
				begins(t, p, i, now, want)
			}
		}
	}
}

func TestNewOfWrongPlans(t *testing.T) { // P20.1: each number of a plan that may not be, one beyond its bounds
	for _, turn := range []func(p *plan.Plan){
		func(p *plan.Plan) { p.Nodes = 2 }, func(p *plan.Plan) { p.Nodes = 17 },
		func(p *plan.Plan) { p.Owner = -1 }, func(p *plan.Plan) { p.Owner = p.Nodes },
		func(p *plan.Plan) { p.Level = 8 },
		func(p *plan.Plan) { p.Interval = 0 }, func(p *plan.Plan) { p.Interval = 1<<20 + 1 },
		func(p *plan.Plan) { p.Hold = -1 }, func(p *plan.Plan) { p.Hold = 1<<20 + 1 },
		func(p *plan.Plan) { p.Guard = 0 }, func(p *plan.Plan) { p.Rest = 0 }, func(p *plan.Plan) { p.Wait = 0 },
		func(p *plan.Plan) { p.Period = 0 }, func(p *plan.Plan) { p.Age = 0 }, func(p *plan.Plan) { p.Age = 1<<20 + 1 },
		func(p *plan.Plan) { p.Room = 0 }, func(p *plan.Plan) { p.Room = 1025 },
		func(p *plan.Plan) { p.Queue = 0 }, func(p *plan.Plan) { p.Queue = 257 },
		func(p *plan.Plan) { *p = plan.Plan{} },
	} {
		p := aPlan()
		turn(&p)
		begins(t, p, 0, 0, api.ErrRange)
		begins(t, p, -1, -1, api.ErrRange)
	}
	for _, turn := range []func(p *plan.Plan){
		func(p *plan.Plan) { p.Data = 4095 }, func(p *plan.Plan) { p.Ring = 0 }, func(p *plan.Plan) { p.Ring = 4095 },
		func(p *plan.Plan) { p.Ring = p.Data },
	} {
		p := aPlan()
		turn(&p)
		begins(t, p, 0, 0, api.ErrTag)
		begins(t, p, 5, -1, api.ErrTag)
		p.Room = 0
		begins(t, p, 0, 0, api.ErrTag)
		p.Level = 8
		begins(t, p, 0, 0, api.ErrRange)
	}
}

func TestOrder(t *testing.T) { // P20.1: layer 17's Order: what is taken is the node's, and tables are emptied where it says so
	for _, port := range []int{west, east} {
		for _, k := range []req.Kind{req.FS, req.MS} {
			x := idle(t, aPlan(), plainAt)
			x.knows(1, 0, 1, 4)
			want, empties, e := x.Node().Order(7, k, port)
			if !empties || e != api.OK {
				t.Fatal(want, empties, e)
			}
			x.turns("order", more{5: 1}, func() { x.asks(7, k, port) })
			if x.Node() != want {
				t.Fatalf("%+v, want %+v", x.Node(), want)
			}
			x.has()
			// The port is shut already: what was learned since is kept.
			x.knows(8, 0)
			if k == req.FS {
				x.turns("again", more{}, func() { x.asks(9, k, port) })
				x.has(fdb.Row{Vlan: x.p.Data, Addr: x.p.Host(0), Port: local, Seen: 8})
			}
			x.turns("clear", more{}, func() { x.asks(10, req.Clear, -1) })
			x.has(fdb.Row{Vlan: x.p.Data, Addr: x.p.Host(0), Port: local, Seen: 8})
			if n := x.Node(); n.State != chart.Pending || n.Own != req.None || !n.Bank.Runs(0) || n.Bank.Due(0) != 14 {
				t.Fatalf("%+v", n)
			}
		}
	}
}

func TestOrderClearEmpties(t *testing.T) { // P20.1: an owner that goes home from where its east port is open
	x := begin(t, aPlan(), ownerAt, 0)
	x.turns("order", more{5: 1}, func() { x.asks(1, req.MS, west) })
	x.turns("clear", more{}, func() { x.asks(2, req.Clear, west) })
	x.knows(3, 1, 2)
	x.turns("clear again", more{5: 1}, func() { x.asks(4, req.Clear, west) })
	x.has()
	if n := x.Node(); n.State != chart.Idle || n.Shut != [2]bool{false, true} {
		t.Fatalf("%+v", n)
	}
}

func TestOrderWrong(t *testing.T) { // P20.1: each of layer 17's errors, beside which nothing changes
	x := begin(t, aPlan(), plainAt, 0)
	x.knows(1, 0, 1)
	was := x.sees()
	wrong := func(k req.Kind, port int, want api.Errno) {
		t.Helper()
		x.turns("order", more{}, func() {
			if e := x.Order(2, k, port); e != want {
				t.Errorf("Order(%v, %d) = %v, want %v", k, port, e, want)
			}
		})
		x.isAs("order", was)
	}
	for _, k := range []req.Kind{-1, req.RemoteFS, req.SF, req.ClearSF, req.RemoteMS, req.RestOver, req.RestRuns, req.BlockOver, req.RemoteIdle, req.RemoteNone, req.None, 15, math.MinInt64, math.MaxInt64} {
		for _, port := range []int{west, east, local, -1, math.MaxInt64} {
			wrong(k, port, api.ErrName)
		}
	}
	for _, port := range []int{local, 3, -1, math.MinInt64, math.MaxInt64, 1 << 32} {
		wrong(req.FS, port, api.ErrPort)
		wrong(req.MS, port, api.ErrPort)
		wrong(req.Clear, port, api.ErrState)
	}
	x.asks(3, req.FS, west)
	was = x.sees()
	wrong(req.MS, east, api.ErrState)
	wrong(req.MS, local, api.ErrPort)
}

func TestPromoted(t *testing.T) { // P20.2, Ways: what the node can the bridge can, too; the bridge is as it was
	x := idle(t, aPlan(), plainAt)
	x.knows(1, 0)
	was := x.sees()
	x.turns("fault", more{}, func() {
		want, yes := x.Node().Fault(2, east, true)
		if n, empties := x.Fault(2, east, true); n != want || empties != yes || !n.Bad[east] {
			t.Errorf("%+v, %v, want %+v, %v", n, empties, want, yes)
		}
	})
	x.turns("hear", more{}, func() {
		want, yes := x.Node().Hear(2, east, failed(4))
		if n, empties := x.Hear(2, east, failed(4)); n != want || empties != yes || n.State != chart.Protect {
			t.Errorf("%+v, %v, want %+v, %v", n, empties, want, yes)
		}
	})
	x.isAs("promoted", was)
	if x.Me != x.p.Node(plainAt) || x.State != chart.Idle || x.Shut != [2]bool{} || x.Own != req.None {
		t.Errorf("%v %v %v %v", x.Me, x.State, x.Shut, x.Own)
	}
}

func TestLostOfAnyNumber(t *testing.T) { // P20.2: false of what is no ring port, while both lines are lost
	x := begin(t, aPlan(), plainAt, 0)
	x.does(0, lostBehind)
	x.isLost(lostBehind, true, true)
	for _, port := range []int{local, 3, -1, -2, 255, 256, 257, 1 << 32, 1<<32 + 1, -1 << 32, math.MinInt, math.MinInt + 1, math.MaxInt} {
		if x.Lost(port) {
			t.Errorf("Lost(%d)", port)
		}
	}
}

func TestRows(t *testing.T) { // P20.2, P20.1: the table has the plan's Room and Age, and old rows stand in it, too
	x := idle(t, aPlan(), plainAt)
	toAll := dataFrame(x.p, 0xffffffffffff, hostAddr(4))
	var want []fdb.Row
	for k := range 6 {
		toAll.src = hostAddr(k)
		x.takes(int64(10+k), west, toAll.bytes(), more{4: 1, 10: 1}, toPorts(toAll.bytes(), east, local)...)
		if k < x.p.Room {
			want = append(want, fdb.Row{Vlan: x.p.Data, Addr: x.p.Host(k), Port: west, Seen: int64(10 + k)})
		}
		x.has(want...)
	}
	x.has(want...)
	to := dataFrame(x.p, hostAddr(1), hostAddr(0)).bytes()
	x.takes(110, local, to, more{}, toPorts(to, west)...)
	x.takes(111, local, to, more{4: 1}, toPorts(to, west, east)...)
	want[0].Port, want[0].Seen = local, 111
	x.has(want...)
	x.ticks(5000, more{5: 0, 9: 2}, x.outs(0, false, false, nil)...)
	x.has(want...)
}

func TestAnswersAreNew(t *testing.T) { // P20.2, R3: who writes into answers turns nothing
	x := idle(t, aPlan(), plainAt)
	x.knows(1, 0, 1, 4)
	x.lives(2, 5, west)
	was := x.sees()
	counters, rows, outs := x.Counters(), x.Rows(), x.Take(6, west, dataFrame(x.p, 0xffffffffffff, hostAddr(3)).bytes())
	if len(counters) != 16 || len(rows) != 3 || len(outs) != 2 {
		t.Fatal(counters, rows, outs)
	}
	for k := range counters[:cap(counters)] {
		counters[:cap(counters)][k] = 99
	}
	for k := range rows[:cap(rows)] {
		rows[:cap(rows)][k] = fdb.Row{Vlan: 9, Addr: 9, Port: 9, Seen: 9}
	}
	for k := range outs[:cap(outs)] {
		outs[:cap(outs)][k] = Out{Port: 9, Bytes: "9"}
	}
	n := x.Node()
	n.Shut, n.State, n.Pairs[0].Some = [2]bool{true, true}, chart.Forced, false
	want := slices.Clone(was.counters)
	for k, m := range map[int]uint64{0: 1, 1: 2, 4: 1, 10: 1} {
		want[k] += m
	}
	if got := x.Counters(); !slices.Equal(got, want) {
		t.Errorf("counters %v, want %v", got, want)
	}
	was.rows = append(was.rows, fdb.Row{Vlan: x.p.Data, Addr: x.p.Host(3), Port: west, Seen: 6})
	slices.SortFunc(was.rows, func(a, b fdb.Row) int { return int(a.Addr) - int(b.Addr) })
	x.isAs("written into", was)
	again := dataFrame(x.p, 0xffffffffffff, hostAddr(3)).bytes()
	x.takes(6, west, again, more{4: 1, 10: 1}, toPorts(again, east, local)...)
	ticked := x.Tick(6)
	for k := range ticked[:cap(ticked)] {
		ticked[:cap(ticked)][k] = Out{Port: 9, Bytes: "9"}
	}
	x.ticks(8, more{9: 2}, x.outs(3, false, false, nil)...)
}

func TestBridgesAreApart(t *testing.T) { // R5: what happens to one bridge happens to no other one of the same plan
	x, y := idle(t, aPlan(), plainAt), idle(t, aPlan(), plainAt)
	was := y.sees()
	x.knows(1, 0, 1)
	x.does(0, 3, lostBehind, countBehind)
	x.Take(12, west, "")
	x.Order(13, req.FS, east)
	y.isAs("the other one", was)
	if got := y.Counters(); !slices.Equal(got, was.counters) {
		t.Errorf("counters %v, want %v", got, was.counters)
	}
}
