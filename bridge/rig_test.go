package bridge

import (
	"fmt"
	"maps"
	"slices"
	"strings"
	"testing"

	"carousel/api"
	"carousel/chart"
	"carousel/erps"
	"carousel/fdb"
	"carousel/mac"
	"carousel/plan"
	"carousel/raps"
	"carousel/req"
)

// Five nodes stand in the ring of these tests.
const (
	west  = api.West
	east  = api.East
	local = api.Local

	plainAt     = 1
	ownerAt     = 2
	neighbourAt = 3
	nodeCount   = 5

	// With the Interval 2 a line on which nothing is heard is lost 8 ticks later, and held 3 more it counts.
	lostBehind  = 8
	countBehind = 11

	checkType    = 0x8902
	greatestTick = 1<<40 - 1<<21
)

func aPlan() plan.Plan {
	return plan.Plan{
		Nodes: nodeCount, Owner: ownerAt, Level: 5, Data: 0x123, Ring: 0xabc,
		Interval: 2, Hold: 3, Guard: 4, Rest: 20, Wait: 15, Gap: 2, Period: 7, Age: 100,
		Room: 4, Queue: 100, Revert: true,
	}
}

// big is a number of so many bytes, the highest first.
func big(n uint64, size int) string {
	b := make([]byte, size)
	for i := range size {
		b[size-1-i] = byte(n >> (8 * i))
	}
	return string(b)
}

func bit(yes bool, at int) uint64 {
	if yes {
		return 1 << at
	}
	return 0
}

// noughts are so many bytes that are 0.
func noughts(size int) string { return string(make([]byte, size)) }

// laid is a frame of which each part is told; its bytes are laid here by hand.
type laid struct {
	dst, src        uint64
	pri             uint64
	drop            bool
	vlan, frameType uint64
	body            string
}

func (f laid) bytes() string {
	return big(f.dst, 6) + big(f.src, 6) + "\x81\x00" + big(f.pri<<13|bit(f.drop, 12)|f.vlan, 2) + big(f.frameType, 2) + f.body
}

func nodeAddr(i int) uint64 { return 0x020000000001 + uint64(i) }
func hostAddr(i int) uint64 { return 0x060000000001 + uint64(i) }

// check is what a port tells.
type check struct {
	level, period, count, end uint64
	lost                      bool
	group                     string
}

func (c check) body() string {
	group := c.group + noughts(48-len(c.group))
	return big(c.level<<5, 1) + "\x01" + big(bit(c.lost, 7)|c.period, 1) + "\x46" + big(c.count, 4) + big(c.end, 2) + group + noughts(17)
}

// checkOf is what a port of a node tells as its so-manieth check.
func checkOf(p plan.Plan, i, port, count int, lost bool) check {
	return check{level: uint64(p.Level), period: 4, count: uint64(count), end: uint64(2*i + port + 1), lost: lost, group: "carousel"}
}

// checkFrame is a check, on its way from a node.
func checkFrame(p plan.Plan, i int, c check) laid {
	return laid{dst: 0x0180c2000030 + uint64(p.Level), src: nodeAddr(i), pri: 7, vlan: uint64(p.Ring), frameType: checkType, body: c.body()}
}

// farCheck is the check that the far end of a node's port sends.
func farCheck(p plan.Plan, i, port int) string {
	node, end := (i+1)%p.Nodes, west
	if port == west {
		node, end = (i+p.Nodes-1)%p.Nodes, east
	}
	return checkFrame(p, node, checkOf(p, node, end, 0, false)).bytes()
}

func messageBody(level uint8, m raps.Msg) string {
	return big(uint64(level)<<5|1, 1) + "\x28\x00\x20" + big(uint64(m.Request)<<4, 1) +
		big(bit(m.Block, 7)|bit(m.Keep, 6)|bit(m.East, 5), 1) + big(uint64(m.Node), 6) + noughts(25)
}

// messageFrame is a message, on its way from a node.
func messageFrame(p plan.Plan, src uint64, m raps.Msg) laid {
	return laid{dst: 0x0119a7000001 + uint64(p.Level), src: src, pri: 7, vlan: uint64(p.Ring), frameType: checkType, body: messageBody(p.Level, m)}
}

// told is the bytes of a message of a node, as it sends it.
func told(p plan.Plan, m raps.Msg) string { return messageFrame(p, uint64(m.Node), m).bytes() }

func dataFrame(p plan.Plan, dst, src uint64) laid {
	return laid{dst: dst, src: src, pri: 3, vlan: uint64(p.Data), frameType: 0x0800, body: "abcd"}
}

func failed(i int) raps.Msg { return raps.Msg{Request: raps.SF, Node: mac.Addr(nodeAddr(i))} }
func resting(i int) raps.Msg {
	return raps.Msg{Request: raps.NR, Block: true, Node: mac.Addr(nodeAddr(i))}
}
func nothing(i int) raps.Msg { return raps.Msg{Request: raps.NR, Node: mac.Addr(nodeAddr(i))} }

// outsText tells what goes out.
func outsText(l []Out) string {
	var b strings.Builder
	for _, o := range l {
		fmt.Fprintf(&b, "%d: %x\n", o.Port, o.Bytes)
	}
	return b.String()
}

// rig is a bridge, and the test for which it is held to what it is to do.
type rig struct {
	*Bridge
	t *testing.T
	p plan.Plan
	i int
}

func begin(t *testing.T, p plan.Plan, i int, now int64) rig {
	t.Helper()
	b, e := New(p, i, now)
	if e != api.OK || b == nil {
		t.Fatalf("New(%+v, %d, %d) = %v, %v", p, i, now, b, e)
	}
	return rig{Bridge: b, t: t, p: p, i: i}
}

// more is by how much counters are to turn, by their numbers.
type more map[int]uint64

// and is two of them together.
func (m more) and(l more) more {
	out := maps.Clone(m)
	for k, n := range l {
		out[k] += n
	}
	return out
}

// turns holds a call to how it turns the sixteen counters.
func (x rig) turns(name string, m more, call func()) {
	x.t.Helper()
	want := x.Counters()
	call()
	for k, n := range m {
		want[k] += n
	}
	if got := x.Counters(); len(got) != 16 || !slices.Equal(got, want) {
		x.t.Fatalf("%s: counters\n%v, want\n%v", name, got, want)
	}
}

// ticks holds a tick to what goes out, and to how it turns the counters.
func (x rig) ticks(now int64, m more, want ...Out) {
	x.t.Helper()
	x.turns("tick", m.and(more{1: uint64(len(want))}), func() { isOuts(x.t, "tick", x.Tick(now), want) })
}

// takes holds a frame that comes to what goes out, and to how it turns the counters; that it came is one of them.
func (x rig) takes(now int64, port int, s string, m more, want ...Out) {
	x.t.Helper()
	x.turns("take", m.and(more{0: 1, 1: uint64(len(want))}), func() { isOuts(x.t, "take", x.Take(now, port, s), want) })
}

// does ticks, whatever goes out.
func (x rig) does(ticks ...int64) {
	for _, now := range ticks {
		x.Tick(now)
	}
}

// hears lets the far end's check come at ports.
func (x rig) hears(now int64, ports ...int) {
	x.t.Helper()
	for _, port := range ports {
		x.takes(now, port, farCheck(x.p, x.i, port), more{8: 1})
	}
}

// lives ticks, ahead of which the far ends' checks come at ports: their lines stay whole.
func (x rig) lives(from, to int64, ports ...int) {
	x.t.Helper()
	for now := from; now <= to; now++ {
		x.hears(now, ports...)
		x.Tick(now)
	}
}

// asks holds an order to being taken.
func (x rig) asks(now int64, k req.Kind, port int) {
	x.t.Helper()
	if e := x.Order(now, k, port); e != api.OK {
		x.t.Fatalf("Order(%d, %v, %d): %v", now, k, port, e)
	}
}

// has holds the table to having just these rows.
func (x rig) has(want ...fdb.Row) {
	x.t.Helper()
	if l := x.Rows(); !slices.Equal(l, want) {
		x.t.Fatalf("Rows() = %v, want %v", l, want)
	}
}

// knows lets a frame of data come at Local from each of some addresses, which are learned there.
func (x rig) knows(now int64, hosts ...int) {
	x.t.Helper()
	for _, i := range hosts {
		x.Take(now, local, dataFrame(x.p, 0xffffffffffff, hostAddr(i)).bytes())
	}
	if len(x.Rows()) < len(hosts) {
		x.t.Fatalf("Rows() = %v", x.Rows())
	}
}

// isLost holds both lines to being lost or not.
func (x rig) isLost(now int64, atWest, atEast bool) {
	x.t.Helper()
	if x.Lost(west) != atWest || x.Lost(east) != atEast {
		x.t.Fatalf("at %d: lost: %v, %v, want %v, %v", now, x.Lost(west), x.Lost(east), atWest, atEast)
	}
}

func isOuts(t *testing.T, name string, got, want []Out) {
	t.Helper()
	if !slices.Equal(got, want) {
		t.Fatalf("%s:\n%s, want\n%s", name, outsText(got), outsText(want))
	}
}

// toPorts is a frame that goes out of ports.
func toPorts(s string, ports ...int) []Out {
	var l []Out
	for _, port := range ports {
		l = append(l, Out{Port: port, Bytes: s})
	}
	return l
}

// seen is what can be seen of a bridge.
type seen struct {
	node     erps.Node
	rows     []fdb.Row
	lost     [2]bool
	counters []uint64
}

func (x rig) sees() seen {
	return seen{node: x.Node(), rows: x.Rows(), lost: [2]bool{x.Lost(west), x.Lost(east)}, counters: x.Counters()}
}

// isAs holds a bridge to what was seen, but for the counters.
func (x rig) isAs(name string, want seen) {
	x.t.Helper()
	got := x.sees()
	if got.node != want.node || got.lost != want.lost || !slices.Equal(got.rows, want.rows) {
		x.t.Fatalf("%s: seen\n%+v, want\n%+v", name, got, want)
	}
}

// idle is a bridge whose node is Idle; of a plain one neither port is shut.
func idle(t *testing.T, p plan.Plan, i int) rig {
	t.Helper()
	x := begin(t, p, i, 0)
	if i == p.Owner {
		x.asks(0, req.Clear, west)
	} else {
		x.Take(0, west, told(p, resting(p.Owner)))
	}
	if x.Node().State != chart.Idle {
		t.Fatalf("%+v", x.Node())
	}
	return x
}

// shutAs is a plain bridge at tick countBehind, of whose ring ports these are shut.
func shutAs(t *testing.T, p plan.Plan, shut [2]bool) rig {
	t.Helper()
	x := idle(t, p, plainAt)
	both := [2]bool{true, true}
	if shut != both {
		x.lives(0, countBehind, west, east)
	} else {
		x.does(0, lostBehind, countBehind)
	}
	switch shut {
	case [2]bool{true, false}:
		x.asks(countBehind, req.FS, west)
	case [2]bool{false, true}:
		x.asks(countBehind, req.FS, east)
	}
	if x.Node().Shut != shut {
		t.Fatalf("want %v shut: %+v", shut, x.Node())
	}
	return x
}

// shuts are the four ways in which two ring ports are shut or not.
var shuts = [][2]bool{{false, false}, {true, false}, {false, true}, {true, true}}
