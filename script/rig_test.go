package script

import (
	"fmt"
	"math/rand"
	"slices"
	"strings"
	"testing"

	"carousel/api"
	"carousel/event"
	"carousel/plan"
	"carousel/req"
	"carousel/ring"
	"carousel/tale"
)

const (
	minInt = -1 << 63
	maxInt = 1<<63 - 1
)

// sizes are of rings: the smallest, the greatest, and one between.
var sizes = []int{3, 4, 16}

func aPlan(nodes, owner int) plan.Plan {
	return plan.Plan{
		Nodes: nodes, Owner: owner, Level: 7, Data: 10, Ring: 20,
		Interval: 2, Hold: 3, Guard: 4, Rest: 20, Wait: 20, Gap: 1, Period: 5, Age: 100,
		Room: 16, Queue: 100, Revert: true,
	}
}

// quiet is a plan of a ring in which next to nothing is said, so that many ticks go soon.
func quiet(nodes, owner int) plan.Plan {
	p := aPlan(nodes, owner)
	p.Interval, p.Gap, p.Period, p.Age = api.MaxTime, api.MaxTime, api.MaxTime, api.MaxTime
	return p
}

// eachRing calls a function with plans of rings of each size, some of whose nodes are the Owner.
func eachRing(do func(p plan.Plan)) {
	for _, nodes := range sizes {
		for _, owner := range []int{0, 1, nodes - 1} {
			do(aPlan(nodes, owner))
		}
	}
}

// badPlan is a plan that may not be, and what its Check says.
type badPlan struct {
	plan plan.Plan
	want string
}

// badPlans are of each thing that may be wrong with a plan, and of several at once.
func badPlans() []badPlan {
	var l []badPlan
	wrong := func(want string, turns ...func(p *plan.Plan)) {
		p := aPlan(4, 1)
		for _, turn := range turns {
			turn(&p)
		}
		l = append(l, badPlan{p, want})
	}
	level := func(p *plan.Plan) { p.Level = 8 }
	data := func(p *plan.Plan) { p.Data = 4095 }
	queue := func(p *plan.Plan) { p.Queue = 257 }
	for _, n := range []int{minInt, -1, 0, 2, 17, maxInt} {
		wrong("range", func(p *plan.Plan) { p.Nodes = n })
	}
	for _, n := range []int{minInt, -1, 4, maxInt} {
		wrong("range", func(p *plan.Plan) { p.Owner = n })
	}
	for _, n := range []uint16{0, 4095, 20, 65535} {
		wrong("tag", func(p *plan.Plan) { p.Data = n })
	}
	for _, n := range []uint16{0, 4095, 10, 65535} {
		wrong("tag", func(p *plan.Plan) { p.Ring = n })
	}
	for _, ticks := range []func(p *plan.Plan) *int64{
		func(p *plan.Plan) *int64 { return &p.Interval }, func(p *plan.Plan) *int64 { return &p.Guard },
		func(p *plan.Plan) *int64 { return &p.Rest }, func(p *plan.Plan) *int64 { return &p.Wait },
		func(p *plan.Plan) *int64 { return &p.Gap }, func(p *plan.Plan) *int64 { return &p.Period },
		func(p *plan.Plan) *int64 { return &p.Age }, func(p *plan.Plan) *int64 { return &p.Hold },
	} {
		for _, n := range []int64{minInt, -1, 1<<20 + 1, maxInt} {
			wrong("range", func(p *plan.Plan) { *ticks(p) = n })
		}
	}
	for _, n := range []int{minInt, 0, 1025, maxInt} {
		wrong("range", func(p *plan.Plan) { p.Room = n })
	}
	for _, n := range []int{minInt, 0, 257, maxInt} {
		wrong("range", func(p *plan.Plan) { p.Queue = n })
	}
	wrong("range", level)
	wrong("range", level, data)
	wrong("range", level, data, queue)
	wrong("tag", data, queue)
	return append(l, badPlan{plan.Plan{}, "range"})
}

// drawPlan is a plan that may be, of any numbers, by which frames may be lost.
func drawPlan(r *rand.Rand) plan.Plan {
	nodes := 3 + r.Intn(4)
	if r.Intn(10) == 0 {
		nodes = 3 + r.Intn(14)
	}
	p := aPlan(nodes, r.Intn(nodes))
	p.Level, p.Data = uint8(r.Intn(8)), uint16(1+r.Intn(4094))
	p.Ring = p.Data%4094 + 1
	p.Interval, p.Hold, p.Guard = 1+r.Int63n(4), r.Int63n(4), 1+r.Int63n(4)
	p.Rest, p.Wait, p.Gap, p.Period = 1+r.Int63n(12), 1+r.Int63n(8), 1+r.Int63n(3), 1+r.Int63n(6)
	p.Age, p.Room, p.Revert = 1+r.Int63n(20), 1+r.Intn(6), r.Intn(3) > 0
	p.Queue = []int{1, 2, 3, 6, 100, 256}[r.Intn(6)]
	return p
}

// text is lines as a script.
func text(lines ...string) string { return strings.Join(lines, "\n") }

// oks are so many lines of which nothing is wrong.
func oks(n int) []string { return slices.Repeat([]string{"ok"}, n) }

// shown is as much of a text as may be shown.
func shown(s string) string {
	if len(s) > 2000 {
		return fmt.Sprintf("%q .. (%d)", s[:2000], len(s))
	}
	return fmt.Sprintf("%q", s)
}

// says holds what a script says to what it is to say.
func says(t *testing.T, p plan.Plan, script string, want ...string) {
	t.Helper()
	got := Run(script, p)
	if slices.Equal(got, want) {
		return
	}
	for i := range min(len(got), len(want)) {
		if got[i] != want[i] {
			t.Errorf("line %d of what is said is %q, want %q", i, got[i], want[i])
			break
		}
	}
	t.Fatalf("%d nodes, the owner %d: %s says\n%s, want\n%s", p.Nodes, p.Owner, shown(script), shown(text(got...)), shown(text(want...)))
}

// ends holds the last lines of what a script says to what they are to be.
func ends(t *testing.T, p plan.Plan, script string, want ...string) {
	t.Helper()
	got := Run(script, p)
	if len(got) < len(want) || !slices.Equal(got[len(got)-len(want):], want) {
		t.Fatalf("%d nodes, the owner %d: %s says\n%s, want at its end\n%s", p.Nodes, p.Owner, shown(script), shown(text(got...)), shown(text(want...)))
	}
}

func tick() event.Event         { return event.Event{Kind: event.Tick} }
func flow() event.Event         { return event.Event{Kind: event.Flow} }
func deliver(d int) event.Event { return event.Event{Kind: event.Deliver, A: uint8(d)} }
func drop(d int) event.Event    { return event.Event{Kind: event.Drop, A: uint8(d)} }
func down(d int) event.Event    { return event.Event{Kind: event.Down, A: uint8(d)} }
func up(d int) event.Event      { return event.Event{Kind: event.Up, A: uint8(d)} }
func order(i, port int, k req.Kind) event.Event {
	return event.Event{Kind: event.Order, A: uint8(i), B: uint8(port), C: uint8(k)}
}
func host(i int, s string) event.Event {
	return event.Event{Kind: event.Host, A: uint8(i), Bytes: s}
}

// ticks are so many ticks, behind each of which all comes.
func ticks(n int) []event.Event { return slices.Repeat([]event.Event{tick(), flow()}, n) }

// waysOf are the ways of a line: the one that leads east, and the one that leads back.
func waysOf(nodes, line int) (east, back int) {
	if line == nodes-1 {
		return 2*nodes - 1, 0
	}
	return 2*line + 1, 2*line + 2
}

// hostBytes are the bytes of the address of a node's host.
func hostBytes(i int) string { return "\x06\x00\x00\x00\x00" + string([]byte{byte(1 + i)}) }

// frameOf is a letter's frame, byte by byte; to -1 is to all.
func frameOf(p plan.Plan, from, to int, n uint32) string {
	dst := "\xff\xff\xff\xff\xff\xff"
	if to != -1 {
		dst = hostBytes(to)
	}
	s := []byte(dst + hostBytes(from) + "\x81\x00")
	s = append(s, byte(p.Data>>8), byte(p.Data), 8, 0, byte(n>>24), byte(n>>16), byte(n>>8), byte(n))
	return string(s) + "ABCD"
}

// begin is a new ring.
func begin(t *testing.T, p plan.Plan) *ring.Ring {
	t.Helper()
	r, e := ring.New(p)
	if e != api.OK {
		t.Fatalf("New(%+v): %v", p, e)
	}
	return r
}

// behind is a new ring to which these events happened.
func behind(t *testing.T, p plan.Plan, events ...event.Event) *ring.Ring {
	t.Helper()
	r := begin(t, p)
	for k, v := range events {
		if e := r.Do(v); e != api.OK {
			t.Fatalf("event %d, %v %d %d %d: %v", k, v.Kind, v.A, v.B, v.C, e)
		}
	}
	return r
}

// stand is how a ring stands: its lines, and the counters of each of its nodes.
func stand(r *ring.Ring) []string {
	l := tale.Lines(r)
	for i := range r.Plan().Nodes {
		l = append(l, tale.Counts(r, i))
	}
	return l
}

// asked are the lines of a script that are answered by how the ring stands.
func asked(nodes int) string {
	l := []string{"lines"}
	for i := range nodes {
		l = append(l, fmt.Sprintf("counts %d", i))
	}
	return text(l...)
}
