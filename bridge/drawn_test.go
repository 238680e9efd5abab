package bridge

import (
	"fmt"
	"math/rand"
	"slices"
	"testing"

	"carousel/api"
	"carousel/erps"
	"carousel/fdb"
	"carousel/hold"
	"carousel/mac"
	"carousel/plan"
	"carousel/raps"
	"carousel/req"
	"carousel/tagged"
	"carousel/watch"
)

// model is a bridge, as the chapter tells it, step by step, of the layers below it.
type model struct {
	p                  plan.Plan
	i                  int
	now                int64
	node               erps.Node
	westLine, eastLine watch.Watch
	westHold, eastHold hold.Hold
	table              fdb.Table
	counters           [16]uint64
	out                []Out
}

func newModel(p plan.Plan, i int, now int64) *model {
	m := &model{p: p, i: i, now: now}
	m.node, _ = erps.New(p, i, now)
	m.westLine, _ = watch.New(p.Level, uint16(2*i+1), 4, p.Group(), p.Interval, now)
	m.eastLine, _ = watch.New(p.Level, uint16(2*i+2), 4, p.Group(), p.Interval, now)
	m.westHold, _ = hold.New(p.Hold)
	m.eastHold = m.westHold
	m.table, _ = fdb.New(p.Room, p.Age)
	return m
}

func (m *model) goes(port int, s string) {
	m.counters[1]++
	m.out = append(m.out, Out{port, s})
}

func (m *model) emptied(yes bool) {
	if yes {
		m.counters[5]++
		m.table, _ = fdb.New(m.p.Room, m.p.Age)
	}
}

func (m *model) sends(port int, body string) {
	if body != "" {
		m.counters[9]++
		m.goes(port, laid{0x0180c2000030 + uint64(m.p.Level), uint64(m.node.Me), 7, false, uint64(m.p.Ring), 0x8902, body}.bytes())
	}
}

func (m *model) tick() {
	var body string
	var yes, speaks bool
	m.westLine, body = m.westLine.Tick(m.now)
	m.sends(west, body)
	m.eastLine, body = m.eastLine.Tick(m.now)
	m.sends(east, body)

	m.westHold = m.westHold.Set(m.now, m.westLine.Lost)
	m.node, yes = m.node.Fault(m.now, west, m.westHold.Counts(m.now))
	m.emptied(yes)
	m.eastHold = m.eastHold.Set(m.now, m.eastLine.Lost)
	m.node, yes = m.node.Fault(m.now, east, m.eastHold.Counts(m.now))
	m.emptied(yes)

	m.node, speaks, yes = m.node.Tick(m.now)
	m.emptied(yes)
	if speaks {
		m.counters[7] += 2
		s := told(m.p, m.node.Say)
		m.goes(west, s)
		m.goes(east, s)
	}
}

func (m *model) take(port int, s string) {
	if port != west && port != east && port != local {
		return
	}
	m.counters[0]++
	f, e := tagged.Open(s)
	kept := *m
	switch {
	case e == api.OK && f.Vlan == m.p.Data:
		m.data(port, f, s)
	case e == api.OK && f.Vlan == m.p.Ring && port != local && f.Type == 0x8902 && m.heard(port, f, s):
	default:
		*m = kept
		m.counters[2]++
	}
}

// heard is whether what nodes send each other was heard.
func (m *model) heard(port int, f tagged.Frame, s string) bool {
	line := map[int]*watch.Watch{west: &m.westLine, east: &m.eastLine}[port]
	switch uint64(f.Dst) - uint64(m.p.Level) {
	case 0x0180c2000030:
		var e api.Errno
		*line, e = line.Hear(m.now, f.Body)
		m.counters[8]++
		return e == api.OK
	case 0x0119a7000001:
		msg, e := raps.Open(f.Body, m.p.Level)
		if e != api.OK {
			return false
		}
		m.counters[6]++
		before := m.node.Shut
		n, yes := m.node.Hear(m.now, port, msg)
		m.node = n
		m.emptied(yes)
		if before == [2]bool{false, false} && msg.Node != n.Me {
			m.goes(1-port, s)
		}
		return true
	}
	return false
}

func (m *model) data(port int, f tagged.Frame, s string) {
	shut := m.node.Shut
	if isShutAt(shut, port) {
		m.counters[3]++
		return
	}
	m.table, _ = m.table.Learn(m.now, f.Vlan, f.Src, port)
	outs := allFrom[shut][port]
	at, known := m.table.Look(m.now, f.Vlan, f.Dst)
	if known && f.Dst>>40&1 == 0 {
		i := slices.Index(outs, at)
		outs = outs[max(i, 0) : i+1]
	} else {
		m.counters[4]++
	}
	for _, out := range outs {
		m.goes(out, s)
		if out == local {
			m.counters[10]++
		}
	}
}

func (m *model) order(k req.Kind, port int) api.Errno {
	n, yes, e := m.node.Order(m.now, k, port)
	if e == api.OK {
		m.node = n
		m.emptied(yes)
	}
	return e
}

// run is a drawn run: a bridge, its model, a bridge to which nothing comes that is wrong, and what is drawn from.
type run struct {
	t       *testing.T
	r       *rand.Rand
	m       *model
	x       rig
	twin    rig
	counted [16]bool
}

func drawRun(t *testing.T, seed int64) *run {
	r := rand.New(rand.NewSource(seed))
	p := aPlan()
	p.Nodes = 3 + r.Intn(4)
	p.Owner, p.Level = r.Intn(p.Nodes), uint8(r.Intn(8))
	p.Data = uint16(1 + r.Intn(4094))
	p.Ring = p.Data%4094 + 1
	p.Interval, p.Hold, p.Guard = int64(1+r.Intn(4)), int64(r.Intn(5)), int64(1+r.Intn(4))
	p.Rest, p.Wait, p.Gap, p.Period = int64(1+r.Intn(12)), int64(1+r.Intn(8)), int64(1+r.Intn(3)), int64(1+r.Intn(6))
	p.Age, p.Room, p.Revert = int64(1+r.Intn(20)), 1+r.Intn(6), r.Intn(3) > 0
	i, now := r.Intn(p.Nodes), int64(r.Intn(3))*(greatestTick-1000)/2
	return &run{t: t, r: r, m: newModel(p, i, now), x: begin(t, p, i, now), twin: begin(t, p, i, now)}
}

// drawFrame is a frame that is right, or nearly so.
func (d *run) drawFrame(port int) laid {
	p := d.m.p
	node := d.r.Intn(p.Nodes)
	switch c := d.r.Intn(10); {
	case c < 4:
		node = (d.m.i + 1) % p.Nodes
		if port == west {
			node = (d.m.i + p.Nodes - 1) % p.Nodes
		}
		f := checkOf(p, node, 1-port&1, d.r.Intn(3), d.r.Intn(3) == 0)
		if d.r.Intn(6) == 0 {
			f.end = uint64(1 + d.r.Intn(2*p.Nodes))
		}
		return checkFrame(p, node, f)
	case c < 6:
		kinds := []raps.Kind{raps.NR, raps.NR, raps.MS, raps.SF, raps.FS}
		m := raps.Msg{Request: kinds[d.r.Intn(len(kinds))], Keep: d.r.Intn(3) == 0, East: d.r.Intn(2) == 0, Node: mac.Addr(nodeAddr(node))}
		if m.Request == raps.NR {
			m.Block = d.r.Intn(2) == 0
		}
		return messageFrame(p, uint64(m.Node), m)
	}
	dsts := []uint64{uint64(mac.All), hostAddr(0), hostAddr(1), hostAddr(2), hostAddr(3), 0x0119a7000006}
	return dataFrame(p, dsts[d.r.Intn(len(dsts))], hostAddr(d.r.Intn(4)))
}

// drawBytes are right bytes, right ones of which some were turned, or any bytes.
func (d *run) drawBytes(port int) string {
	b := []byte(d.drawFrame(port).bytes())
	switch d.r.Intn(8) {
	case 0:
		for range 1 + d.r.Intn(3) {
			b[d.r.Intn(len(b))] ^= byte(1 << d.r.Intn(8))
		}
	case 1:
		at := d.r.Intn(len(b) + 1)
		b = append(b[:at], make([]byte, d.r.Intn(3)*d.r.Intn(800))...)
	case 2:
		b = make([]byte, d.r.Intn(120))
		d.r.Read(b)
		if head := []byte(d.drawFrame(port).bytes()[:18]); d.r.Intn(2) == 0 {
			b = append(head, b...)
		}
	}
	return string(b)
}

// drawPort is a port, now and then a number that is none.
func (d *run) drawPort() int {
	if d.r.Intn(20) == 0 {
		return noPorts[d.r.Intn(len(noPorts))]
	}
	return d.r.Intn(3)
}

// step makes one drawn call of the bridge and of its model, and of the twin, if nothing was wrong; what it was.
func (d *run) step() string {
	d.m.out = nil
	switch c := d.r.Intn(10); {
	case c < 3:
		d.m.now += int64(d.r.Intn(3))
		d.m.tick()
		outs := d.x.Tick(d.m.now)
		isOuts(d.t, "tick", outs, d.m.out)
		isOuts(d.t, "tick of the twin", d.twin.Tick(d.m.now), outs)
		return fmt.Sprint("Tick ", d.m.now)
	case c < 9:
		port := d.drawPort()
		s := d.drawBytes(port)
		d.m.take(port, s)
		d.takes(port, s)
		return fmt.Sprintf("Take %d %x", port, s)
	}
	k, port := []req.Kind{req.Clear, req.Clear, req.FS, req.MS, req.MS, req.Kind(d.r.Intn(16))}[d.r.Intn(6)], d.drawPort()
	want := d.m.order(k, port)
	if e := d.x.Order(d.m.now, k, port); e != want {
		d.t.Fatalf("Order(%d, %v, %d) = %v, want %v", d.m.now, k, port, e, want)
	}
	if want == api.OK {
		d.twin.asks(d.m.now, k, port)
	}
	return fmt.Sprint("Order ", k, port)
}

// takes lets a frame come, and holds what goes out to the model and to P20.3.
func (d *run) takes(port int, s string) {
	d.t.Helper()
	shut, was := d.x.Node().Shut, d.x.sees()
	outs := d.x.Take(d.m.now, port, s)
	isOuts(d.t, "take", outs, d.m.out)
	got := d.x.Counters()
	isWrong := got[2] != was.counters[2] || got[3] != was.counters[3]
	if isWrong || got[8] != was.counters[8] {
		isOuts(d.t, "wrong, or a check", outs, nil)
	}
	if isWrong {
		d.x.isAs("wrong", was)
		return
	}
	if got[6] == was.counters[6] {
		for _, o := range outs {
			if isShutAt(shut, o.Port) || isShutAt(shut, port) || o.Port == port {
				d.t.Fatalf("data from %d go out of %d, shut %v", port, o.Port, shut)
			}
		}
	}
	isOuts(d.t, "take of the twin", d.twin.Take(d.m.now, port, s), outs)
}

// holds holds the bridge to the model, and the twin to the bridge.
func (d *run) holds(name string) {
	d.t.Helper()
	want := seen{node: d.m.node, rows: d.m.table.Rows(), lost: [2]bool{d.m.westLine.Lost, d.m.eastLine.Lost}}
	d.x.isAs(name, want)
	d.twin.isAs(name+", the twin", want)
	got, twin := d.x.Counters(), d.twin.Counters()
	if !slices.Equal(got, d.m.counters[:]) {
		d.t.Fatalf("%s: counters\n%v, want\n%v", name, got, d.m.counters)
	}
	for k, n := range got {
		d.counted[k] = d.counted[k] || n > 0
		if twin[k] != n && k != 0 && k != 2 && k != 3 {
			d.t.Fatalf("%s: counters\n%v, of the twin\n%v", name, got, twin)
		}
	}
}

func TestDrawnRuns(t *testing.T) { // P20.1 to P20.3: drawn runs, held against the chapter step by step
	var counted [16]bool
	states := map[string]bool{}
	for seed := range int64(800) {
		d := drawRun(t, seed)
		d.holds(fmt.Sprintf("run %d", seed))
		for i := range 120 {
			name := d.step()
			d.holds(fmt.Sprintf("run %d, call %d: %s", seed, i, name))
			states[fmt.Sprint(d.m.node.State, d.m.node.Role, d.m.node.Shut, d.m.westLine.Lost, d.m.eastLine.Lost)] = true
		}
		for k, yes := range d.counted {
			counted[k] = counted[k] || yes
		}
	}
	for k, yes := range counted {
		if yes != (k <= 10) {
			t.Errorf("counter %d turned: %v", k, yes)
		}
	}
	if len(states) < 150 {
		t.Errorf("%d ways in which a bridge stands were reached", len(states))
	}
}
