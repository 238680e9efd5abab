package hosts

import (
	"fmt"
	"math/rand"
	"reflect"
	"testing"

	"carousel/api"
	"carousel/erps"
	"carousel/event"
	"carousel/fdb"
	"carousel/mac"
	"carousel/plan"
	"carousel/raps"
	"carousel/req"
	"carousel/ring"
	"carousel/tagged"
)

// sizes are of rings: the smallest, the greatest, and one between.
var sizes = []int{3, 4, 16}

const (
	minInt = -1 << 63
	maxInt = 1<<63 - 1
)

// noNodes are numbers that no node of any ring has, and that don't stand for all either.
var noNodes = []int{-2, -3, -16, -17, -128, -256, -1 << 31, -1 << 32, minInt, minInt + 1, 16, 17, 255, 256, 257, 1 << 16, 1 << 31, 1<<32 - 1, 1 << 32, maxInt, maxInt - 1}

// someNumbers are of letters: the least, the greatest, and some whose bytes are unlike.
var someNumbers = []uint32{0, 1, 255, 256, 258, 0x01020304, 0x41424344, 0x80000000, 0xfffffffe, 0xffffffff}

func aPlan(nodes, owner int) plan.Plan {
	return plan.Plan{
		Nodes: nodes, Owner: owner, Level: 7, Data: 10, Ring: 20,
		Interval: 2, Hold: 3, Guard: 4, Rest: 20, Wait: 20, Gap: 1, Period: 5, Age: 100,
		Room: 16, Queue: 100, Revert: true,
	}
}

// drawPlan is a plan that may be, of any numbers, by which frames may be lost.
func drawPlan(r *rand.Rand, maxNodes int) plan.Plan {
	p := aPlan(3+r.Intn(maxNodes-2), 0)
	p.Owner, p.Level = r.Intn(p.Nodes), uint8(r.Intn(8))
	p.Data = uint16(1 + r.Intn(4094))
	p.Ring = p.Data%4094 + 1
	p.Interval, p.Hold, p.Guard = 1+r.Int63n(4), r.Int63n(4), 1+r.Int63n(4)
	p.Rest, p.Wait, p.Gap, p.Period = 1+r.Int63n(12), 1+r.Int63n(8), 1+r.Int63n(3), 1+r.Int63n(6)
	p.Age, p.Room, p.Revert = 1+r.Int63n(20), 1+r.Intn(6), r.Intn(3) > 0
	p.Queue = []int{1, 2, 3, 6, 100}[r.Intn(5)]
	return p
}

// badPlan is a plan that may not be, and what its Check says.
type badPlan struct {
	plan plan.Plan
	want api.Errno
}

// badPlans are of each thing that may be wrong with a plan.
func badPlans() []badPlan {
	with := func(want api.Errno, turn func(p *plan.Plan)) badPlan {
		p := aPlan(4, 1)
		turn(&p)
		return badPlan{p, want}
	}
	l := []badPlan{{plan.Plan{}, api.ErrRange}}
	for _, n := range []int{minInt, -1, 0, 2, 17, maxInt} {
		l = append(l, with(api.ErrRange, func(p *plan.Plan) { p.Nodes = n }))
	}
	for _, n := range []int{minInt, -1, 4, maxInt} {
		l = append(l, with(api.ErrRange, func(p *plan.Plan) { p.Owner = n }))
	}
	l = append(l, with(api.ErrRange, func(p *plan.Plan) { p.Level = 8 }), with(api.ErrRange, func(p *plan.Plan) { p.Level, p.Data = 8, 0 }))
	for _, n := range []uint16{0, 4095, 20, 65535} {
		l = append(l, with(api.ErrTag, func(p *plan.Plan) { p.Data = n }), with(api.ErrTag, func(p *plan.Plan) { p.Data, p.Queue = n, 0 }))
	}
	for _, n := range []uint16{0, 4095, 10, 65535} {
		l = append(l, with(api.ErrTag, func(p *plan.Plan) { p.Ring = n }))
	}
	for _, ticks := range []func(p *plan.Plan) *int64{
		func(p *plan.Plan) *int64 { return &p.Interval }, func(p *plan.Plan) *int64 { return &p.Guard },
		func(p *plan.Plan) *int64 { return &p.Rest }, func(p *plan.Plan) *int64 { return &p.Wait },
		func(p *plan.Plan) *int64 { return &p.Gap }, func(p *plan.Plan) *int64 { return &p.Period },
		func(p *plan.Plan) *int64 { return &p.Age }, func(p *plan.Plan) *int64 { return &p.Hold },
	} {
		for _, n := range []int64{minInt, -1, 1<<20 + 1, maxInt} {
			l = append(l, with(api.ErrRange, func(p *plan.Plan) { *ticks(p) = n }))
		}
	}
	for _, n := range []int{minInt, 0, 1025, maxInt} {
		l = append(l, with(api.ErrRange, func(p *plan.Plan) { p.Room = n }))
	}
	for _, n := range []int{minInt, 0, 257, maxInt} {
		l = append(l, with(api.ErrRange, func(p *plan.Plan) { p.Queue = n }))
	}
	return l
}

func TestBadPlans(t *testing.T) { // the test's own: of each of these plans Check says what is written beside it
	for _, b := range badPlans() {
		if e := b.plan.Check(); e != b.want {
			t.Errorf("%+v: %v, want %v", b.plan, e, b.want)
		}
	}
	for seed := range int64(300) {
		r := rand.New(rand.NewSource(seed))
		for _, p := range []plan.Plan{drawPlan(r, 16), settled(r, 16)} {
			if e := p.Check(); e != api.OK {
				t.Errorf("%+v: %v", p, e)
			}
		}
	}
}

func tick() event.Event         { return event.Event{Kind: event.Tick} }
func flow() event.Event         { return event.Event{Kind: event.Flow} }
func deliver(d int) event.Event { return event.Event{Kind: event.Deliver, A: uint8(d)} }
func drop(d int) event.Event    { return event.Event{Kind: event.Drop, A: uint8(d)} }
func down(d int) event.Event    { return event.Event{Kind: event.Down, A: uint8(d)} }
func up(d int) event.Event      { return event.Event{Kind: event.Up, A: uint8(d)} }
func order(i, port int, k req.Kind) event.Event {
	return event.Event{Kind: event.Order, A: uint8(i), B: uint8(port), C: uint8(k)}
}
func host(i int, s string) event.Event {
	return event.Event{Kind: event.Host, A: uint8(i), Bytes: s}
}

func shown(v event.Event) string {
	return fmt.Sprintf("%v(%d) %d %d %d %.40x (%d)", v.Kind, v.Kind, v.A, v.B, v.C, v.Bytes, len(v.Bytes))
}

// hostBytes are the bytes of the address of a node's host.
func hostBytes(i int) string { return "\x06\x00\x00\x00\x00" + string([]byte{byte(1 + i)}) }

// frameOf is a letter's frame, as the chapter tells it a second time: byte by byte.
func frameOf(p plan.Plan, l Letter) string {
	to := "\xff\xff\xff\xff\xff\xff"
	if l.To != -1 {
		to = hostBytes(l.To)
	}
	n := l.Number
	s := []byte(to + hostBytes(l.From) + "\x81\x00")
	s = append(s, byte(p.Data>>8), byte(p.Data), 8, 0, byte(n>>24), byte(n>>16), byte(n>>8), byte(n))
	return string(s) + "ABCD"
}

// taggedOf is a letter's frame, open, so that a test may turn one thing of it.
func taggedOf(t *testing.T, p plan.Plan, l Letter) tagged.Frame {
	t.Helper()
	f, e := tagged.Open(frameOf(p, l))
	if e != api.OK {
		t.Fatal(e)
	}
	return f
}

// closed is a frame's bytes.
func closed(t *testing.T, f tagged.Frame) string {
	t.Helper()
	s, e := tagged.Close(f)
	if e != api.OK {
		t.Fatalf("Close(%+v): %v", f, e)
	}
	return s
}

// told is a message of a node, as it goes from node to node.
func told(t *testing.T, p plan.Plan, m raps.Msg) string {
	t.Helper()
	body, e := raps.Close(m, p.Level)
	if e != api.OK {
		t.Fatal(e)
	}
	return closed(t, tagged.Frame{Dst: 0x0119a7000001 + mac.Addr(p.Level), Src: m.Node, Pri: 7, Vlan: p.Ring, Type: 0x8902, Body: body})
}

// rig is a ring, and the test for which it is held to what it is to do.
type rig struct {
	*ring.Ring
	t *testing.T
	p plan.Plan
}

func begin(t *testing.T, p plan.Plan) rig {
	t.Helper()
	r, e := ring.New(p)
	if e != api.OK {
		t.Fatalf("New(%+v): %v", p, e)
	}
	return rig{Ring: r, t: t, p: p}
}

// does holds events to happening.
func (x rig) does(events ...event.Event) {
	x.t.Helper()
	for _, v := range events {
		if e := x.Do(v); e != api.OK {
			x.t.Fatalf("Do(%s): %v", shown(v), e)
		}
	}
}

// rested is a ring of a plan, as it is so many ticks behind its beginning, which is at rest then.
func rested(t *testing.T, p plan.Plan) rig {
	t.Helper()
	x := begin(t, p)
	for range 30 {
		x.does(tick(), flow())
	}
	return x
}

// taught is a ring at rest, of which each node knows where each host is; hosts heard nothing that they weren't asked for.
func taught(t *testing.T, p plan.Plan) rig {
	t.Helper()
	x := rested(t, p)
	for i := range p.Nodes {
		x.does(host(i, frameOf(p, Letter{i, -1, 0xabcdef01})), flow())
	}
	for i := range p.Nodes {
		if l := x.Heard(i); len(l) != p.Nodes-1 {
			t.Fatalf("host %d heard %x", i, l)
		}
	}
	return x
}

// seen is what can be seen of a ring, but for what hosts heard: who asks for that turns it.
type seen struct {
	Now   int64
	Plan  plan.Plan
	Up    []bool
	On    [][]string
	Nodes []erps.Node
	Rows  [][]fdb.Row
	Lost  [][2]bool
	Count [][]uint64
}

func (x rig) sees() seen {
	s := seen{Now: x.Now(), Plan: x.Plan()}
	for d := range 2 * x.p.Nodes {
		var frames []string
		left, f, ok := x.Way(d).Pop()
		for ok {
			// As digits, so that it may be shown.
			frames = append(frames, fmt.Sprintf("%x", f))
			left, f, ok = left.Pop()
		}
		s.Up, s.On = append(s.Up, x.Way(d).Up()), append(s.On, frames)
	}
	for i := range x.p.Nodes {
		b := x.Bridge(i)
		s.Nodes, s.Rows = append(s.Nodes, b.Node()), append(s.Rows, append([]fdb.Row(nil), b.Rows()...))
		s.Lost = append(s.Lost, [2]bool{b.Lost(api.West), b.Lost(api.East)})
		s.Count = append(s.Count, b.Counters())
	}
	return s
}

// like holds a ring to another one.
func (x rig) like(name string, y rig) {
	x.t.Helper()
	if got, want := x.sees(), y.sees(); !reflect.DeepEqual(got, want) {
		x.t.Fatalf("%s: seen\n%+v, want\n%+v", name, got, want)
	}
}
