package ring

import (
	"fmt"
	"math/rand"
	"slices"
	"testing"

	"carousel/api"
	"carousel/bridge"
	"carousel/event"
	"carousel/mac"
	"carousel/plan"
	"carousel/raps"
	"carousel/req"
)

// lane is a way, as the chapter tells it: frames in a list.
type lane struct {
	cut    bool
	frames []string
}

// model is a ring, as the chapter tells it a second time, of bridges alone.
type model struct {
	p     plan.Plan
	now   int64
	nodes []*bridge.Bridge
	lanes []lane
	heard [][]string
	// What was met: frames that were lost, and Flows that stopped while frames were on their way.
	lost, stopped int
}

func newModel(t *testing.T, p plan.Plan) *model {
	t.Helper()
	m := &model{p: p, lanes: make([]lane, 2*p.Nodes), heard: make([][]string, p.Nodes)}
	for i := range p.Nodes {
		b, e := bridge.New(p, i, 0)
		if e != api.OK {
			t.Fatal(e)
		}
		m.nodes = append(m.nodes, b)
	}
	return m
}

func (m *model) out(i int, l []bridge.Out) {
	for _, o := range l {
		switch d := &m.lanes[2*i+o.Port%2]; {
		case o.Port == local:
			m.heard[i] = append(m.heard[i], o.Bytes)
		case d.cut || len(d.frames) == m.p.Queue:
			m.lost++
		default:
			d.frames = append(d.frames, o.Bytes)
		}
	}
}

func (m *model) comes(d int) {
	s := m.lanes[d].frames[0]
	m.lanes[d].frames = m.lanes[d].frames[1:]
	i, port := farEnd(m.p.Nodes, d)
	m.out(i, m.nodes[i].Take(m.now, port, s))
}

func (m *model) resting() bool {
	return !slices.ContainsFunc(m.lanes, func(l lane) bool { return len(l.frames) > 0 })
}

func (m *model) flow() {
	for round := 1; round <= 64 && !m.resting(); round++ {
		for d := 0; d < len(m.lanes); d++ {
			for n := len(m.lanes[d].frames); n > 0; n-- {
				m.comes(d)
			}
		}
	}
	if !m.resting() {
		m.stopped++
	}
}

// fault is the error that the chapter names first, but for the bridge's Order's.
func (m *model) fault(v event.Event) api.Errno {
	a := int(v.A)
	switch k := int(v.Kind); {
	case k > 7:
		return api.ErrName
	case k >= 1 && k <= 4 && a >= 2*m.p.Nodes, k >= 5 && k <= 6 && a >= m.p.Nodes:
		return api.ErrPort
	case k == 0 && m.now == 1<<20:
		return api.ErrFull
	case k >= 1 && k <= 2 && len(m.lanes[a].frames) == 0:
		return api.ErrNone
	}
	return api.OK
}

func (m *model) do(v event.Event) api.Errno {
	if e := m.fault(v); e != api.OK {
		return e
	}
	a := int(v.A)
	switch v.Kind {
	case 0:
		m.now++
		for i, b := range m.nodes {
			m.out(i, b.Tick(m.now))
		}
	case 1:
		m.comes(a)
	case 2:
		m.lanes[a].frames = m.lanes[a].frames[1:]
	case 3:
		m.lanes[a] = lane{cut: true}
	case 4:
		m.lanes[a].cut = false
	case 5:
		return m.nodes[a].Order(m.now, req.Kind(v.C), int(v.B))
	case 6:
		m.out(a, m.nodes[a].Take(m.now, local, v.Bytes))
	case 7:
		m.flow()
	}
	return api.OK
}

func (m *model) sees() seen {
	s := seen{Now: m.now, Plan: m.p}
	for _, d := range m.lanes {
		w := wayIs{Up: !d.cut}
		w.Frames = append(w.Frames, d.frames...)
		s.Ways = append(s.Ways, w)
	}
	for _, b := range m.nodes {
		s.Nodes = append(s.Nodes, seesBridge(b))
	}
	return s
}

// run is a drawn run: a ring, its model, a ring of the same plan to which nothing is done that has an error, and what is drawn from.
type run struct {
	t    *testing.T
	r    *rand.Rand
	m    *model
	x    rig
	twin rig
}

func drawPlan(r *rand.Rand) plan.Plan {
	p := aPlan(3 + r.Intn(4))
	if r.Intn(12) == 0 {
		p.Nodes = 16
	}
	p.Owner, p.Level = r.Intn(p.Nodes), uint8(r.Intn(8))
	p.Data = uint16(1 + r.Intn(4094))
	p.Ring = p.Data%4094 + 1
	p.Interval, p.Hold, p.Guard = int64(1+r.Intn(4)), int64(r.Intn(4)), int64(1+r.Intn(4))
	p.Rest, p.Wait, p.Gap, p.Period = int64(1+r.Intn(12)), int64(1+r.Intn(8)), int64(1+r.Intn(3)), int64(1+r.Intn(6))
	p.Age, p.Room, p.Revert = int64(1+r.Intn(20)), 1+r.Intn(6), r.Intn(3) > 0
	p.Queue = []int{1, 2, 3, 6, 100}[r.Intn(5)]
	return p
}

func drawRun(t *testing.T, seed int64) *run {
	r := rand.New(rand.NewSource(seed))
	p := drawPlan(r)
	d := &run{t: t, r: r, m: newModel(t, p), x: begin(t, p), twin: begin(t, p)}
	if r.Intn(6) == 0 {
		d.x.opens()
		d.twin.opens()
		for _, b := range d.m.nodes {
			b.Take(0, west, told(p, raps.Msg{Request: raps.FS, Node: 0x0200000000ff}))
		}
	}
	return d
}

// drawBytes is a frame of a host, right or nearly so, a message as nodes send them, or any bytes.
func (d *run) drawBytes() string {
	p := d.m.p
	dst, src := p.Host(d.r.Intn(p.Nodes)), p.Host(d.r.Intn(p.Nodes))
	if d.r.Intn(3) == 0 {
		dst = mac.All
	}
	s := []byte(data(p, dst, src, string([]byte{byte(d.r.Intn(256))})))
	switch d.r.Intn(12) {
	case 0:
		s[d.r.Intn(len(s))] ^= 1 << d.r.Intn(8)
	case 1:
		s = s[:d.r.Intn(len(s))]
	case 2:
		s = make([]byte, []int{0, 1, 17, 18, maxFrame, maxFrame + 1, 4000}[d.r.Intn(7)])
		d.r.Read(s)
	case 3:
		s = []byte(told(p, raps.Msg{Request: raps.SF, Node: p.Node(d.r.Intn(p.Nodes))}))
	}
	return string(s)
}

// drawEvent is an event of any Kind, of numbers most of which there are.
func (d *run) drawEvent() event.Event {
	n := d.m.p.Nodes
	pick := d.r.Intn(100)
	way, node := d.r.Intn(2*n), d.r.Intn(n)
	if d.r.Intn(15) == 0 {
		way, node = []int{2 * n, 255, d.r.Intn(256)}[d.r.Intn(3)], []int{n, 255, d.r.Intn(256)}[d.r.Intn(3)]
	}
	all := event.Event{A: uint8(d.r.Intn(256)), B: uint8(d.r.Intn(256)), C: uint8(d.r.Intn(256)), Bytes: d.drawBytes()}
	switch {
	case pick < 24:
		all.Kind = event.Tick
		return all
	case pick < 40:
		all.Kind = event.Flow
		return all
	case pick < 58:
		return deliver(way)
	case pick < 63:
		return drop(way)
	case pick < 66:
		return down(way)
	case pick < 72:
		return up(way)
	case pick < 80:
		kinds := []req.Kind{req.Clear, req.Clear, req.FS, req.MS, req.Kind(d.r.Intn(256))}
		return order(node, []int{west, east, west, east, d.r.Intn(256)}[d.r.Intn(5)], int(kinds[d.r.Intn(5)]))
	case pick < 97:
		return host(node, d.drawBytes())
	}
	all.Kind = event.Kind(d.r.Intn(256))
	return all
}

// met is what drawn runs met.
type met map[string]int

// step does a drawn event to all three rings, and holds them to each other.
func (d *run) step(name string, m met) {
	d.t.Helper()
	v := d.drawEvent()
	want := d.m.do(v)
	if e := d.x.Do(v); e != want {
		d.t.Fatalf("%s: Do(%s) = %v, want %v", name, shown(v), e, want)
	}
	if want == api.OK {
		d.twin.does(v)
	}
	m[fmt.Sprintf("%v: %v", v.Kind, want)]++
	now := d.m.sees()
	d.x.is(name+": "+shown(v), now)
	d.twin.is(name+", the twin: "+shown(v), now)
	if d.r.Intn(12) == 0 {
		d.asks(d.r.Intn(d.m.p.Nodes), name, m)
	}
}

// asks holds what a host heard since it was asked last to the model, once, and then to nothing.
func (d *run) asks(i int, name string, m met) {
	d.t.Helper()
	want := d.m.heard[i]
	d.m.heard[i] = nil
	for who, y := range map[string]rig{"the ring": d.x, "the twin": d.twin} {
		if l := y.Heard(i); !slices.Equal(l, want) {
			d.t.Fatalf("%s: %s: host %d heard %x, want %x", name, who, i, l, want)
		}
		if l := y.Heard(i); len(l) != 0 {
			d.t.Fatalf("%s: %s: host %d heard again %x", name, who, i, l)
		}
	}
	m["heard"] += len(want)
}

func TestDrawnRuns(t *testing.T) { // P23.1, P23.2: drawn events of every Kind over drawn plans, each step held to the chapter
	m := met{}
	for seed := range int64(400) {
		d := drawRun(t, seed)
		for k := range 90 {
			d.step(fmt.Sprintf("run %d, event %d", seed, k), m)
			for _, b := range d.m.nodes {
				m[b.Node().State.String()]++
			}
		}
		for i := range d.m.p.Nodes {
			d.asks(i, fmt.Sprintf("run %d", seed), m)
		}
		m["lost"] += d.m.lost
		m["stopped"] += d.m.stopped
	}
	for _, k := range []string{
		"tick: ok", "deliver: ok", "drop: ok", "down: ok", "up: ok", "order: ok", "host: ok", "flow: ok",
		"none: name", "deliver: port", "drop: port", "down: port", "up: port", "order: port", "host: port",
		"deliver: none", "drop: none", "order: name", "order: state",
		"idle", "protect", "manual", "forced", "pending", "heard", "lost", "stopped",
	} {
		if m[k] < 5 {
			t.Errorf("%s was met %d times", k, m[k])
		}
	}
}

func TestLikeRings(t *testing.T) { // P23.2: the same events lead to the same ring; two rings of one plan don't turn each other
	for seed := range int64(60) {
		d := drawRun(t, 1000+seed)
		p := d.m.p
		var mine, others []event.Event
		for range 60 {
			v, w := d.drawEvent(), d.drawEvent()
			mine, others = append(mine, v), append(others, w)
			d.m.do(v)
		}
		x, y, between, alone := begin(t, p), begin(t, p), begin(t, p), begin(t, p)
		for k, v := range mine {
			e := x.Do(v)
			between.Do(others[k])
			if f := y.Do(v); f != e {
				t.Fatalf("run %d: Do(%s) = %v and %v", seed, shown(v), e, f)
			}
			x.is(fmt.Sprintf("run %d, event %d", seed, k), y.sees())
		}
		x.like("at last", y)
		for _, v := range others {
			alone.Do(v)
		}
		between.like("alone", alone)
	}
}

func TestWhateverComes(t *testing.T) { // R1, W5: any Kinds, numbers and Bytes: no call panics, each one ends
	for seed := range int64(80) {
		d := drawRun(t, 2000+seed)
		for range 200 {
			v := event.Event{Kind: event.Kind(d.r.Intn(256)), A: uint8(d.r.Intn(256)), B: uint8(d.r.Intn(256)), C: uint8(d.r.Intn(256)), Bytes: d.drawBytes()}
			if d.r.Intn(3) > 0 {
				v.Kind %= 9
				v.A %= uint8(2*d.m.p.Nodes + 1)
			}
			want := d.m.do(v)
			if e := d.x.Do(v); e != want {
				t.Fatalf("run %d: Do(%s) = %v, want %v", seed, shown(v), e, want)
			}
			for _, n := range []int{d.r.Intn(64) - 16, int(d.r.Uint64())} {
				d.x.Bridge(n)
				d.x.Way(n)
			}
		}
		d.x.is(fmt.Sprintf("run %d", seed), d.m.sees())
	}
}
