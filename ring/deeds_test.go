package ring

import (
	"fmt"
	"reflect"
	"slices"
	"testing"

	"carousel/api"
	"carousel/bridge"
	"carousel/chart"
	"carousel/event"
	"carousel/fdb"
	"carousel/mac"
	"carousel/plan"
	"carousel/req"
)

// manyNumbers are of what an event's bytes may be.
var manyNumbers = []uint8{0, 1, 2, 3, 7, 8, 15, 16, 31, 32, 127, 128, 254, 255}

// fails holds an event to an error, beside which nothing changes: the ring stays like one to which it wasn't done.
func (x rig) fails(twin rig, v event.Event, want api.Errno) {
	x.t.Helper()
	if e := x.Do(v); e != want {
		x.t.Fatalf("Do(%s) = %v, want %v", shown(v), e, want)
	}
	x.is("behind "+shown(v), twin.sees())
}

// twins are two rings to which the same was done: frames are on some ways, hosts heard some, tables know some.
func twins(t *testing.T, p plan.Plan) (x, twin rig) {
	t.Helper()
	made := func() rig {
		y := opened(t, p)
		y.does(tick(), tick(), down(0), up(0), down(3))
		// On each way but those a check is ahead.
		y.does(host(1, toAll(p, "a")), deliver(2), deliver(2), host(2, toAll(p, "b")), deliver(5), deliver(5))
		return y
	}
	y := made()
	on, heard := 0, 0
	for d := range 2 * p.Nodes {
		on += y.Way(d).Len()
	}
	for i := range p.Nodes {
		heard += len(y.Heard(i))
	}
	if heard != 2 || on < 5 || len(y.Bridge(0).Rows()) != 1 || y.Way(3).Up() {
		t.Fatal(y.sees().text())
	}
	return made(), made()
}

func TestNoKind(t *testing.T) { // P23.1, P23.2: ErrName of each other Kind, whatever A, B, C and Bytes are
	x, twin := twins(t, aPlan(4))
	for k := 8; k <= 255; k++ {
		for _, n := range manyNumbers {
			x.fails(twin, event.Event{Kind: event.Kind(k), A: n, B: manyNumbers[k%14], C: n, Bytes: string([]byte{n})}, api.ErrName)
		}
	}
	x.fails(twin, event.Event{Kind: 8, A: 1, Bytes: toAll(x.p, "a")}, api.ErrName)
	x.like("at last", twin)
}

func TestNoWay(t *testing.T) { // P23.1, P23.2: ErrPort, where there is no such way
	for _, nodes := range sizes {
		x, twin := twins(t, aPlan(nodes))
		for a := 2 * nodes; a <= 255; a++ {
			for k, make := range []func(int) event.Event{deliver, drop, down, up} {
				v := make(a)
				v.B, v.C, v.Bytes = uint8(k), uint8(a), toAll(x.p, "a")
				x.fails(twin, v, api.ErrPort)
			}
		}
		x.like("at last", twin)
	}
}

func TestNoNode(t *testing.T) { // P23.1, P23.2: ErrPort, where there is no such node, ahead of what the bridge's Order tells
	for _, nodes := range sizes {
		x, twin := twins(t, aPlan(nodes))
		for a := nodes; a <= 255; a++ {
			x.fails(twin, host(a, toAll(x.p, "a")), api.ErrPort)
			x.fails(twin, host(a, ""), api.ErrPort)
			for _, v := range []event.Event{order(a, west, 0), order(a, east, 1), order(a, local, 7), order(a, 255, 2), order(a, west, 255)} {
				x.fails(twin, v, api.ErrPort)
			}
		}
		x.like("at last", twin)
	}
}

func TestNoFrame(t *testing.T) { // P23.1, P23.2: ErrNone of a way on which no frame is, up or down
	for _, nodes := range sizes {
		x, twin := begin(t, aPlan(nodes)), begin(t, aPlan(nodes))
		for d := range 2 * nodes {
			x.fails(twin, deliver(d), api.ErrNone)
			x.fails(twin, drop(d), api.ErrNone)
			x.does(down(d))
			twin.does(down(d))
			x.fails(twin, deliver(d), api.ErrNone)
			x.fails(twin, drop(d), api.ErrNone)
			if d%2 == 0 {
				x.does(up(d))
				twin.does(up(d))
				x.fails(twin, deliver(d), api.ErrNone)
			}
		}
		// Frames on all other ways are none of this one.
		y, yTwin := begin(t, aPlan(nodes)), begin(t, aPlan(nodes))
		for d := range 2 * nodes {
			for _, z := range []rig{y, yTwin} {
				z.does(tick(), tick(), tick(), tick(), tick(), down(d), up(d))
			}
			y.fails(yTwin, deliver(d), api.ErrNone)
			y.fails(yTwin, drop(d), api.ErrNone)
		}
		y.like("at last", yTwin)
	}
}

func TestOrderWrong(t *testing.T) { // P23.1, P23.2: each error that the bridge's Order tells
	x, twin := begin(t, aPlan(4)), begin(t, aPlan(4))
	for _, z := range []rig{x, twin} {
		z.does(again(3, tick())...)
		z.does(order(0, west, int(req.FS)))
	}
	for i := range 4 {
		for c := range 256 {
			k := req.Kind(c)
			if k == req.Clear || k == req.FS || k == req.MS {
				continue
			}
			for _, port := range []int{west, east, local, 255} {
				x.fails(twin, order(i, port, c), api.ErrName)
			}
		}
		for _, port := range []int{local, 3, 4, 128, 255} {
			x.fails(twin, order(i, port, int(req.FS)), api.ErrPort)
			x.fails(twin, order(i, port, int(req.MS)), api.ErrPort)
		}
	}
	for _, port := range []int{west, east, local, 255} {
		// Node 1 is the owner; others have nothing that may be cleared.
		x.fails(twin, order(2, port, int(req.Clear)), api.ErrState)
		x.fails(twin, order(3, port, int(req.Clear)), api.ErrState)
	}
	x.fails(twin, order(0, east, int(req.MS)), api.ErrState)
	x.like("at last", twin)
}

func TestFull(t *testing.T) { // P23.1, P23.2: ErrFull of Tick at tick 2^20, and not one tick earlier
	p := aPlan(3)
	p.Interval, p.Period, p.Gap = maxTicks, maxTicks, maxTicks
	x, twin := begin(t, p), begin(t, p)
	for now := range int64(maxTicks) {
		if e := x.Do(tick()); e != api.OK || x.Now() != now+1 {
			t.Fatalf("at %d: %v, and then %d", now, e, x.Now())
		}
		twin.Do(event.Event{Kind: event.Tick, A: 9, B: 99, C: 255, Bytes: "tick"})
	}
	for _, n := range manyNumbers {
		x.fails(twin, event.Event{Kind: event.Tick, A: n, B: n, C: n, Bytes: string([]byte{n})}, api.ErrFull)
	}
	if x.Now() != maxTicks {
		t.Error(x.Now())
	}
	x.fails(twin, event.Event{Kind: 8}, api.ErrName)
	x.fails(twin, deliver(6), api.ErrPort)
	// All else goes on at that tick.
	x.does(deliver(0), drop(1), down(2), up(2), order(0, west, int(req.FS)), host(1, toAll(p, "a")), flow())
	if n := x.Bridge(0).Node(); n.State != chart.Forced || x.Now() != maxTicks {
		t.Errorf("tick %d, %+v", x.Now(), n)
	}
	if rows := x.Bridge(1).Rows(); !slices.Equal(rows, row(p, local, maxTicks)) {
		t.Error(rows)
	}
}

func TestTick(t *testing.T) { // P23.1: the tick is one more, and what goes out of each bridge is pushed on its ways
	for _, nodes := range sizes {
		p := aPlan(nodes)
		x := begin(t, p)
		var alone []*bridge.Bridge
		for i := range nodes {
			b, _ := bridge.New(p, i, 0)
			alone = append(alone, b)
		}
		want := map[int][]string{}
		for now := int64(1); now <= 40; now++ {
			x.does(event.Event{Kind: event.Tick, A: uint8(now), B: 200, C: 3, Bytes: "tick"})
			for i, b := range alone {
				for _, o := range b.Tick(now) {
					want[2*i+o.Port] = append(want[2*i+o.Port], o.Bytes)
				}
				if got, w := seesBridge(x.Bridge(i)), seesBridge(b); !reflect.DeepEqual(got, w) {
					t.Fatalf("node %d at %d: %+v, want %+v", i, now, got, w)
				}
			}
			if x.Now() != now {
				t.Fatalf("at %d, want %d", x.Now(), now)
			}
			x.has(fmt.Sprintf("at %d", now), want)
		}
		x.hears("ticks", nil)
		if len(want[0]) < 30 || len(want) != 2*nodes {
			t.Errorf("%d frames on way 0, %d ways", len(want[0]), len(want))
		}
	}
}

func TestTickFullAndDown(t *testing.T) { // P23.1: a way that is full or down takes nothing, and what it doesn't take is lost
	for _, nodes := range sizes {
		for d := range 2 * nodes {
			p := aPlan(nodes)
			p.Queue = 3
			x, free := begin(t, p), begin(t, aPlan(nodes))
			x.does(down(d))
			for now := range 5 {
				x.does(tick())
				free.does(tick())
				if w := x.Way(d); w.Up() || w.Len() != 0 {
					t.Fatalf("way %d, at %d: %d", d, now, w.Len())
				}
			}
			x.does(up(d))
			want := map[int][]string{}
			for k := range 2 * nodes {
				if k != d {
					want[k] = framesOf(free.Way(k))[:3]
				}
			}
			x.has("full, and down", want)
			// A bridge counts what went out, whether it was taken or not.
			for i := range nodes {
				if got, w := seesBridge(x.Bridge(i)), seesBridge(free.Bridge(i)); !reflect.DeepEqual(got, w) {
					t.Errorf("node %d: %+v, want %+v", i, got, w)
				}
			}
		}
	}
}

// row is what a node learned of the host of toAll.
func row(p plan.Plan, port int, now int64) []fdb.Row {
	return []fdb.Row{{Vlan: p.Data, Addr: someAddr(1), Port: port, Seen: now}}
}

func TestDeliverAndDrop(t *testing.T) { // P23.1: of each way, both ports of each node: where its first frame comes, and where it doesn't
	for _, nodes := range sizes {
		for d := range 2 * nodes {
			i, port := d/2, d%2
			x, still := begin(t, aPlan(nodes)), begin(t, aPlan(nodes))
			frames := []string{toAll(x.p, "a"), toAll(x.p, "b"), toAll(x.p, "c")}
			for _, z := range []rig{x, still} {
				z.does(again(i, tick())...)
				for k := range 2 * nodes {
					z.does(down(k), up(k))
				}
				z.opens()
				z.does(host(i, frames[0]), host(i, frames[1]), host(i, frames[2]))
			}
			x.has("sent", map[int][]string{2 * i: frames, 2*i + 1: frames})
			far, end := farEnd(nodes, d)
			onward := 2*far + 1 - end

			x.does(deliver(d))
			name := fmt.Sprintf("deliver %d of %d nodes", d, nodes)
			x.has(name, map[int][]string{d: frames[1:], 2*i + 1 - port: frames, onward: frames[:1]})
			x.hears(name, map[int][]string{far: frames[:1]})
			for k := range nodes {
				want := seesBridge(still.Bridge(k))
				if k == far {
					want.Rows = row(x.p, end, int64(i))
					want.Counters[0]++
					want.Counters[1] += 2
					want.Counters[4]++
					want.Counters[10]++
				}
				if got := seesBridge(x.Bridge(k)); !reflect.DeepEqual(got, want) {
					t.Fatalf("%s: node %d: %+v, want %+v", name, k, got, want)
				}
			}

			was := x.sees()
			was.Ways[d].Frames = frames[2:]
			x.does(drop(d))
			x.is(name+", then drop", was)
			x.hears(name+", then drop", nil)
			x.does(deliver(d))
			x.has(name+", then the last", map[int][]string{2*i + 1 - port: frames, onward: {frames[0], frames[2]}})
			x.hears(name+", then the last", map[int][]string{far: frames[2:]})
			x.does(drop(onward), drop(onward))
			x.has(name+", dropped", map[int][]string{2*i + 1 - port: frames})
		}
	}
}

func TestDownAndUp(t *testing.T) { // P23.1: of each way: its frames are lost, and no other way turns
	for _, nodes := range sizes {
		x := begin(t, aPlan(nodes))
		x.does(tick())
		want := x.sees()
		turn := func(v event.Event, d int, is wayIs) {
			t.Helper()
			x.does(v)
			want.Ways[d] = is
			x.is(shown(v), want)
		}
		for d := range 2 * nodes {
			frames := want.Ways[d].Frames
			turn(up(d), d, wayIs{true, frames})
			turn(down(d), d, wayIs{false, nil})
			turn(down(d), d, wayIs{false, nil})
			if back := otherWay(nodes, d); x.Way(back).Up() != (back > d || back%4 == 0) {
				t.Errorf("of way %d the other one, %d: up %v", d, back, x.Way(back).Up())
			}
			if d%4 != 0 {
				continue
			}
			turn(up(d), d, wayIs{true, nil})
			turn(up(d), d, wayIs{true, nil})
		}
		x.hears("down and up", nil)
		// Ways that are up again take frames again; those that are down don't.
		x.does(tick(), tick())
		for d := range 2 * nodes {
			if w := x.Way(d); w.Up() != (d%4 == 0) || (w.Len() > 0) != w.Up() {
				t.Errorf("way %d: up %v, %d frames", d, w.Up(), w.Len())
			}
		}
	}
}

func TestOtherWay(t *testing.T) { // the test's own: a way that leads back leads back
	for _, nodes := range sizes {
		for d := range 2 * nodes {
			if back := otherWay(nodes, d); otherWay(nodes, back) != d || back == d || back%2 == d%2 {
				t.Errorf("%d nodes: of %d %d", nodes, d, back)
			}
		}
	}
}

func TestOrder(t *testing.T) { // P23.1: the bridge's Order of that node, request and port, at the ring's tick, and of no other
	for _, nodes := range sizes {
		for i := range nodes {
			for _, now := range []int64{0, 1, 7, 30} {
				for _, port := range []int{west, east, local, 3, 255} {
					for _, k := range []req.Kind{req.Clear, req.FS, req.MS, req.SF, req.None, 255} {
						orders(t, nodes, i, now, port, k)
					}
				}
			}
		}
	}
}

func orders(t *testing.T, nodes, i int, now int64, port int, k req.Kind) {
	t.Helper()
	x := begin(t, aPlan(nodes))
	alone, _ := bridge.New(x.p, i, 0)
	for n := int64(1); n <= now; n++ {
		x.does(tick())
		alone.Tick(n)
	}
	want := x.sees()
	e := alone.Order(now, k, port)
	if got := x.Do(event.Event{Kind: event.Order, A: uint8(i), B: uint8(port), C: uint8(k), Bytes: "order"}); got != e {
		t.Fatalf("node %d at %d: Order(%v, %d) = %v, want %v", i, now, k, port, got, e)
	}
	want.Nodes[i] = seesBridge(alone)
	x.is("ordered", want)
	// What the node says from then on is that bridge's, too.
	x.does(tick())
	var last string
	for _, o := range alone.Tick(now + 1) {
		if o.Port == west {
			last = o.Bytes
		}
	}
	if l := framesOf(x.Way(2 * i)); last != "" && (len(l) == 0 || l[len(l)-1] != last) {
		t.Errorf("node %d at %d: %x, want %x at last", i, now, l, last)
	}
	x.hears("ordered", nil)
}

func TestHost(t *testing.T) { // P23.1: a frame comes at Local of that node, and what goes out goes out
	for _, nodes := range sizes {
		for i := range nodes {
			x := opened(t, aPlan(nodes))
			p := x.p
			west, east := 2*i, 2*i+1
			all := data(p, mac.All, p.Host(i), "all")
			x.does(host(i, all))
			x.has("to all", map[int][]string{west: {all}, east: {all}})
			x.does(drop(west), drop(east))

			// Its host is known now: another one's frame to it goes there, from the east.
			next := (i + 1) % nodes
			to := data(p, p.Host(i), p.Host(next), "to")
			x.does(host(next, to))
			x.has("unknown", map[int][]string{2 * next: {to}, 2*next + 1: {to}})
			x.does(deliver(2*next), drop(2*next+1))
			x.has("known", nil)
			x.hears("known", map[int][]string{i: {to}})

			// The other one is known now, too, at the east port.
			back := data(p, p.Host(next), p.Host(i), "back")
			x.does(host(i, back))
			x.has("back", map[int][]string{east: {back}})
			x.does(deliver(east))
			x.hears("back", map[int][]string{next: {back}})

			// To the host itself: nowhere.
			x.does(host(i, data(p, p.Host(i), someAddr(1), "own")))
			x.has("own", nil)
			x.hears("own", nil)
		}
	}
}

func TestHostWrong(t *testing.T) { // P23.1, W5: frames that are wrong are the bridge's to drop: there is no error
	p := aPlan(4)
	x, alone := opened(t, p), opened(t, p)
	fit := toAll(p, string(make([]byte, maxFrame-18)))
	if len(fit) != maxFrame {
		t.Fatal(len(fit))
	}
	wrong := []string{
		"", "x", fit[:17], fit + "z", string(make([]byte, 5000)), string(make([]byte, 100)),
		data(plan.Plan{Data: 11}, mac.All, someAddr(1), "other"), data(plan.Plan{Data: p.Ring}, mac.All, someAddr(1), "ring"),
	}
	x.does(tick())
	alone.does(tick())
	for _, s := range append(wrong, framesOf(x.Way(0))...) {
		want := x.sees()
		want.Nodes[2].Counters[0]++
		want.Nodes[2].Counters[2]++
		x.does(event.Event{Kind: event.Host, A: 2, B: 77, C: 88, Bytes: s})
		x.is("wrong", want)
		x.hears("wrong", nil)
	}
	x.does(host(2, fit))
	if l := framesOf(x.Way(5)); l[len(l)-1] != fit {
		t.Errorf("the longest frame: %d frames", len(l))
	}
	// Through a shut port nothing goes: of a ring that begins these are the east ones, of node 2 the west one.
	y := begin(t, p)
	for i := range 4 {
		y.does(host(i, toAll(p, "a")))
	}
	a := []string{toAll(p, "a")}
	y.has("shut", map[int][]string{0: a, 2: a, 5: a, 6: a})
	// What comes at one is refused.
	y.does(deliver(0), deliver(2), deliver(5), deliver(6))
	y.has("refused", nil)
	heard := y.heardAll()
	if !slices.EqualFunc(heard, [][]string{nil, nil, a, a}, slices.Equal) {
		t.Errorf("heard %x", heard)
	}
	for i := range 4 {
		if n := y.Bridge(i).Counters()[3]; n != []uint64{1, 0, 0, 1}[i] {
			t.Errorf("node %d refused %d", i, n)
		}
	}
}
