package tale

import (
	"fmt"
	"reflect"
	"slices"
	"testing"

	"carousel/api"
	"carousel/erps"
	"carousel/event"
	"carousel/fdb"
	"carousel/mac"
	"carousel/plan"
	"carousel/raps"
	"carousel/req"
	"carousel/ring"
	"carousel/tagged"
)

const (
	minInt = -1 << 63
	maxInt = 1<<63 - 1
)

func aPlan(nodes, owner int) plan.Plan {
	return plan.Plan{
		Nodes: nodes, Owner: owner, Level: 7, Data: 10, Ring: 20,
		Interval: 2, Hold: 3, Guard: 4, Rest: 20, Wait: 20, Gap: 1, Period: 5, Age: 100,
		Room: 16, Queue: 100, Revert: true,
	}
}

// eachRing calls a function with the nodes of each ring that may be, each node the Owner once.
func eachRing(do func(nodes, owner int)) {
	for nodes := 3; nodes <= api.MaxNodes; nodes++ {
		for owner := range nodes {
			do(nodes, owner)
		}
	}
}

func tick() event.Event         { return event.Event{Kind: event.Tick} }
func flow() event.Event         { return event.Event{Kind: event.Flow} }
func deliver(d int) event.Event { return event.Event{Kind: event.Deliver, A: uint8(d)} }
func drop(d int) event.Event    { return event.Event{Kind: event.Drop, A: uint8(d)} }
func down(d int) event.Event    { return event.Event{Kind: event.Down, A: uint8(d)} }
func up(d int) event.Event      { return event.Event{Kind: event.Up, A: uint8(d)} }
func order(i, port int, k req.Kind) event.Event {
	return event.Event{Kind: event.Order, A: uint8(i), B: uint8(port), C: uint8(k)}
}
func host(i int, s string) event.Event {
	return event.Event{Kind: event.Host, A: uint8(i), Bytes: s}
}

func shown(v event.Event) string {
	return fmt.Sprintf("%v(%d) %d %d %d (%d)", v.Kind, v.Kind, v.A, v.B, v.C, len(v.Bytes))
}

// data is a frame of data from the host of a node to all.
func data(p plan.Plan, from int) string {
	s, e := tagged.Close(tagged.Frame{Dst: mac.All, Src: p.Host(from), Vlan: p.Data, Type: 0x0800, Body: "a"})
	if e != api.OK {
		panic(e)
	}
	return s
}

// told is a message of a node, as it goes from node to node.
func told(p plan.Plan, m raps.Msg) string {
	body, e := raps.Close(m, p.Level)
	if e != api.OK {
		panic(e)
	}
	s, e := tagged.Close(tagged.Frame{Dst: 0x0119a7000001 + mac.Addr(p.Level), Src: m.Node, Pri: 7, Vlan: p.Ring, Type: 0x8902, Body: body})
	if e != api.OK {
		panic(e)
	}
	return s
}

// rig is a ring, which of its ways were set down, and the test for which its lines are held to what they are to be.
type rig struct {
	*ring.Ring
	t    *testing.T
	p    plan.Plan
	cuts []bool
}

func begin(t *testing.T, p plan.Plan) rig {
	t.Helper()
	r, e := ring.New(p)
	if e != api.OK {
		t.Fatalf("New(%+v): %v", p, e)
	}
	return rig{Ring: r, t: t, p: p, cuts: make([]bool, 2*p.Nodes)}
}

// rested is a ring of a plan as aPlan's, as it is when it has come to rest.
func rested(t *testing.T, p plan.Plan) rig {
	t.Helper()
	x := begin(t, p)
	x.runs(30)
	return x
}

// opens has each node be told, by none of them, that another one is forced: no port is shut then.
func (x rig) opens() {
	for i := range x.p.Nodes {
		x.Bridge(i).Take(x.Now(), api.West, told(x.p, raps.Msg{Request: raps.FS, Node: 0x0200000000ff}))
	}
}

// try has an event happen, or not.
func (x rig) try(v event.Event) api.Errno {
	e := x.Do(v)
	if e == api.OK && (v.Kind == event.Down || v.Kind == event.Up) {
		x.cuts[v.A] = v.Kind == event.Down
	}
	return e
}

// does holds events to happening.
func (x rig) does(events ...event.Event) {
	x.t.Helper()
	for _, v := range events {
		if e := x.try(v); e != api.OK {
			x.t.Fatalf("Do(%s): %v", shown(v), e)
		}
	}
}

// runs has so many ticks go, behind each of which all comes.
func (x rig) runs(ticks int) {
	x.t.Helper()
	for range ticks {
		x.does(tick(), flow())
	}
}

// ends are the ways of a line: the one that leads east, and the one that leads back.
func ends(nodes, line int) (east, back int) {
	if line == nodes-1 {
		return 2*nodes - 1, 0
	}
	return 2*line + 1, 2*line + 2
}

// cut sets both ways of a line down.
func (x rig) cut(line int) {
	x.t.Helper()
	east, back := ends(x.p.Nodes, line)
	x.does(down(east), down(back))
}

// mend sets both ways of a line up.
func (x rig) mend(line int) {
	x.t.Helper()
	east, back := ends(x.p.Nodes, line)
	x.does(up(east), up(back))
}

// says holds a ring's lines to what they are to be.
func (x rig) says(name string, want ...string) {
	x.t.Helper()
	got := Lines(x.Ring)
	if slices.Equal(got, want) {
		return
	}
	for i := range min(len(got), len(want)) {
		if got[i] != want[i] {
			x.t.Errorf("%s: line %d of all is %q, want %q", name, i, got[i], want[i])
		}
	}
	x.t.Fatalf("%s: %d nodes, the owner %d, at %d:\n%q, want\n%q", name, x.p.Nodes, x.p.Owner, x.Now(), got, want)
}

// has holds one line of all to what it is to be: 0 is the tick's, those of nodes come behind it, then those of lines; -1 is the last one.
func (x rig) has(name string, at int, want string) {
	x.t.Helper()
	l := Lines(x.Ring)
	if at < 0 {
		at += len(l)
	}
	if l[at] != want {
		x.t.Fatalf("%s: %d nodes, the owner %d: line %d of all is %q, want %q; all are\n%q", name, x.p.Nodes, x.p.Owner, at, l[at], want, l)
	}
}

// seen is what can be seen of a ring, but for what hosts heard: who asks for that turns it.
type seen struct {
	Now   int64
	Plan  plan.Plan
	Up    []bool
	On    [][]string
	Nodes []erps.Node
	Rows  [][]fdb.Row
	Lost  [][2]bool
	Count [][]uint64
}

func (x rig) sees() seen {
	s := seen{Now: x.Now(), Plan: x.Plan()}
	for d := range 2 * x.p.Nodes {
		var frames []string
		left, f, ok := x.Way(d).Pop()
		for ok {
			// As digits, so that it may be shown.
			frames = append(frames, fmt.Sprintf("%x", f))
			left, f, ok = left.Pop()
		}
		s.Up, s.On = append(s.Up, x.Way(d).Up()), append(s.On, frames)
	}
	for i := range x.p.Nodes {
		b := x.Bridge(i)
		s.Nodes, s.Rows = append(s.Nodes, b.Node()), append(s.Rows, append([]fdb.Row(nil), b.Rows()...))
		s.Lost = append(s.Lost, [2]bool{b.Lost(api.West), b.Lost(api.East)})
		s.Count = append(s.Count, b.Counters())
	}
	return s
}

// like holds a ring to another one, what its hosts heard among it.
func (x rig) like(name string, y rig) {
	x.t.Helper()
	if got, want := x.sees(), y.sees(); !reflect.DeepEqual(got, want) {
		x.t.Fatalf("%s: seen\n%+v, want\n%+v", name, got, want)
	}
	for i := range x.p.Nodes {
		if got, want := x.Heard(i), y.Heard(i); !slices.Equal(got, want) {
			x.t.Fatalf("%s: host %d heard %x, want %x", name, i, got, want)
		}
	}
}
