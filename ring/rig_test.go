package ring

import (
	"fmt"
	"reflect"
	"slices"
	"testing"

	"carousel/api"
	"carousel/bridge"
	"carousel/erps"
	"carousel/event"
	"carousel/fdb"
	"carousel/mac"
	"carousel/plan"
	"carousel/raps"
	"carousel/tagged"
	"carousel/wire"
)

const (
	west  = api.West
	east  = api.East
	local = api.Local

	maxTicks = 1 << 20
	maxFrame = 1600
)

// sizes are of rings: the smallest, the greatest, and some between.
var sizes = []int{3, 4, 5, 16}

// farOff are numbers that no node and no way of any ring has.
var farOff = []int{-1, -2, -16, -32, -256, -1 << 31, -1 << 63, 32, 33, 255, 256, 257, 512, 1 << 16, 1 << 31, 1 << 32, 1<<32 + 1, 1<<63 - 1}

func aPlan(nodes int) plan.Plan {
	return plan.Plan{
		Nodes: nodes, Owner: 1, Level: 7, Data: 10, Ring: 20,
		Interval: 2, Hold: 3, Guard: 4, Rest: 20, Wait: 15, Gap: 1, Period: 5, Age: 100,
		Room: 16, Queue: 100, Revert: true,
	}
}

// The far end of a way, as the chapter of plans tells it, worked out here by itself.
func farEnd(nodes, d int) (node, port int) {
	i := d / 2
	if d%2 == 0 {
		if i == 0 {
			return nodes - 1, east
		}
		return i - 1, east
	}
	if i == nodes-1 {
		return 0, west
	}
	return i + 1, west
}

// otherWay is the other way of the same line: it leads back.
func otherWay(nodes, d int) int {
	node, port := farEnd(nodes, d)
	return 2*node + port
}

func tick() event.Event         { return event.Event{Kind: event.Tick} }
func flow() event.Event         { return event.Event{Kind: event.Flow} }
func deliver(d int) event.Event { return event.Event{Kind: event.Deliver, A: uint8(d)} }
func drop(d int) event.Event    { return event.Event{Kind: event.Drop, A: uint8(d)} }
func down(d int) event.Event    { return event.Event{Kind: event.Down, A: uint8(d)} }
func up(d int) event.Event      { return event.Event{Kind: event.Up, A: uint8(d)} }
func order(i, port, k int) event.Event {
	return event.Event{Kind: event.Order, A: uint8(i), B: uint8(port), C: uint8(k)}
}
func host(i int, s string) event.Event {
	return event.Event{Kind: event.Host, A: uint8(i), Bytes: s}
}

// again is so many of an event.
func again(n int, v event.Event) []event.Event { return slices.Repeat([]event.Event{v}, n) }

// someAddr is the address of a host that stands nowhere in the ring.
func someAddr(n int) mac.Addr { return 0x0a0000000000 + mac.Addr(n) }

// data is a frame of data.
func data(p plan.Plan, dst, src mac.Addr, body string) string {
	s, e := tagged.Close(tagged.Frame{Dst: dst, Src: src, Pri: 3, Vlan: p.Data, Type: 0x0800, Body: body})
	if e != api.OK {
		panic(e)
	}
	return s
}

// toAll is a frame of data to all, from a host that stands nowhere.
func toAll(p plan.Plan, body string) string { return data(p, mac.All, someAddr(1), body) }

// told is a message of a node, as it goes from node to node.
func told(p plan.Plan, m raps.Msg) string {
	body, e := raps.Close(m, p.Level)
	if e != api.OK {
		panic(e)
	}
	s, e := tagged.Close(tagged.Frame{Dst: 0x0119a7000001 + mac.Addr(p.Level), Src: m.Node, Pri: 7, Vlan: p.Ring, Type: 0x8902, Body: body})
	if e != api.OK {
		panic(e)
	}
	return s
}

// isCheck and isMessage tell frames between nodes of the level 7 by where they go.
func isCheck(s string) bool   { return len(s) > 18 && s[:6] == "\x01\x80\xc2\x00\x00\x37" }
func isMessage(s string) bool { return len(s) > 18 && s[:6] == "\x01\x19\xa7\x00\x00\x08" }

// rig is a ring, and the test for which it is held to what it is to do.
type rig struct {
	*Ring
	t *testing.T
	p plan.Plan
}

func begin(t *testing.T, p plan.Plan) rig {
	t.Helper()
	r, e := New(p)
	if e != api.OK || r == nil {
		t.Fatalf("New(%+v) = %v, %v", p, r, e)
	}
	return rig{Ring: r, t: t, p: p}
}

// does holds events to happening.
func (x rig) does(events ...event.Event) {
	x.t.Helper()
	for k, v := range events {
		if e := x.Do(v); e != api.OK {
			x.t.Fatalf("Do of %d, %s: %v", k, shown(v), e)
		}
	}
}

func shown(v event.Event) string {
	return fmt.Sprintf("%v(%d) %d %d %d %.40x (%d)", v.Kind, v.Kind, v.A, v.B, v.C, v.Bytes, len(v.Bytes))
}

// opened is a ring none of whose ports is shut: each node was told, by none of them, that another one is forced. It loops.
func opened(t *testing.T, p plan.Plan) rig {
	t.Helper()
	x := begin(t, p)
	x.opens()
	return x
}

func (x rig) opens() {
	x.t.Helper()
	for i := range x.p.Nodes {
		x.Bridge(i).Take(x.Now(), west, told(x.p, raps.Msg{Request: raps.FS, Node: 0x0200000000ff}))
		if x.Bridge(i).Node().Shut != [2]bool{} {
			x.t.Fatalf("node %d: %+v", i, x.Bridge(i).Node())
		}
	}
}

// framesOf are the frames on a wire, the first one first.
func framesOf(w wire.Wire) []string {
	var l []string
	for {
		left, s, ok := w.Pop()
		if !ok {
			return l
		}
		l = append(l, s)
		w = left
	}
}

// wayIs is how a way stands.
type wayIs struct {
	Up     bool
	Frames []string
}

// nodeIs is how a bridge stands, as far as it can be seen.
type nodeIs struct {
	Node     erps.Node
	Rows     []fdb.Row
	Lost     [2]bool
	Counters []uint64
}

func seesBridge(b *bridge.Bridge) nodeIs {
	rows := b.Rows()
	if len(rows) == 0 {
		rows = nil
	}
	return nodeIs{b.Node(), rows, [2]bool{b.Lost(west), b.Lost(east)}, b.Counters()}
}

// seen is what can be seen of a ring, but for what hosts heard: who asks for that turns it.
type seen struct {
	Now   int64
	Plan  plan.Plan
	Ways  []wayIs
	Nodes []nodeIs
}

func (x rig) sees() seen {
	s := seen{Now: x.Now(), Plan: x.Plan()}
	for d := range 2 * x.p.Nodes {
		s.Ways = append(s.Ways, wayIs{x.Way(d).Up(), framesOf(x.Way(d))})
	}
	for i := range x.p.Nodes {
		s.Nodes = append(s.Nodes, seesBridge(x.Bridge(i)))
	}
	return s
}

// is holds a ring to what it should look like.
func (x rig) is(name string, want seen) {
	x.t.Helper()
	if got := x.sees(); !reflect.DeepEqual(got, want) {
		x.t.Fatalf("%s: seen\n%s, want\n%s", name, got.text(), want.text())
	}
}

func (s seen) text() string {
	out := fmt.Sprintf("tick %d, %+v\n", s.Now, s.Plan)
	for d, w := range s.Ways {
		out += fmt.Sprintf("way %d: up %v, %d frames: %.200x\n", d, w.Up, len(w.Frames), w.Frames)
	}
	for i, n := range s.Nodes {
		out += fmt.Sprintf("node %d: %+v\n", i, n)
	}
	return out
}

// heardAll asks for what each host heard.
func (x rig) heardAll() [][]string {
	var l [][]string
	for i := range x.p.Nodes {
		l = append(l, x.Heard(i))
	}
	return l
}

// hears holds each host to what it heard since it was asked last: those that aren't told, to nothing.
func (x rig) hears(name string, want map[int][]string) {
	x.t.Helper()
	for i := range x.p.Nodes {
		if l := x.Heard(i); !slices.Equal(l, want[i]) {
			x.t.Fatalf("%s: host %d heard %x, want %x", name, i, l, want[i])
		}
	}
}

// has holds ways to the frames on them: those that aren't told, to none.
func (x rig) has(name string, want map[int][]string) {
	x.t.Helper()
	for d := range 2 * x.p.Nodes {
		if l := framesOf(x.Way(d)); !slices.Equal(l, want[d]) || x.Way(d).Len() != len(l) {
			x.t.Fatalf("%s: way %d has %d: %x, want %x", name, d, x.Way(d).Len(), l, want[d])
		}
	}
}

// like holds a ring to another one, what was heard and is asked for now among it.
func (x rig) like(name string, y rig) {
	x.t.Helper()
	x.is(name, y.sees())
	want := map[int][]string{}
	for i, l := range y.heardAll() {
		want[i] = l
	}
	x.hears(name, want)
}
