package bridge

import (
	"encoding/hex"
	"strings"
	"testing"

	"carousel/api"
	"carousel/chart"
	"carousel/mac"
	"carousel/plan"
	"carousel/raps"
	"carousel/req"
)

// spelt is the bytes of a text of hexadecimal digits, with blanks between.
func spelt(t *testing.T, s string) string {
	t.Helper()
	b, e := hex.DecodeString(strings.ReplaceAll(s, " ", ""))
	if e != nil {
		t.Fatal(e)
	}
	return string(b)
}

func TestExample(t *testing.T) { // P20.1: the first tick, byte by byte: a check out of each ring port, and a message out of each
	x := begin(t, aPlan(), plainAt, 0)
	check := func(end string) string {
		return spelt(t, "0180c2000035 020000000002 8100 eabc 8902 a0010446 00000000 "+end+" 6361726f7573656c"+strings.Repeat("00", 57))
	}
	message := spelt(t, "0119a7000006 020000000002 8100 eabc 8902 a1280020 00 20 020000000002"+strings.Repeat("00", 25))
	x.ticks(0, more{7: 2, 9: 2}, Out{west, check("0003")}, Out{east, check("0004")}, Out{west, message}, Out{east, message})
}

func TestFirstTickOfEveryNode(t *testing.T) { // P20.1: at each Level, of rings of each size: what goes out, where it goes to, and what it tells
	for level := range uint8(8) {
		for nodes := 3; nodes <= 16; nodes++ {
			p := aPlan()
			p.Level, p.Nodes, p.Owner = level, nodes, (int(level)+1)%nodes
			p.Data, p.Ring = uint16(nodes), 4094-uint16(level)
			for i := range nodes {
				x := begin(t, p, i, 3)
				x.ticks(3, more{7: 2, 9: 2}, x.firstOuts()...)
			}
		}
	}
}

func TestTicksInARow(t *testing.T) { // P20.1: checks each Interval, messages as the burst says, none between; the same tick again, nothing
	p := aPlan()
	p.Interval, p.Gap, p.Period = 3, 2, 7
	x := begin(t, p, plainAt, 0)
	messages := map[int64]bool{0: true, 2: true, 4: true, 11: true, 18: true, 25: true, 32: true, 39: true}
	for now := range int64(40) {
		x.hears(now, west, east)
		m, want := more{}, []Out(nil)
		if now%3 == 0 {
			m[9], want = 2, x.outs(int(now/3), false, false, nil)
		}
		if messages[now] {
			m[7], want = 2, append(want, x.message(*x.saysNothing())...)
		}
		x.ticks(now, m, want...)
		x.ticks(now, more{})
	}
}

func TestTicksFarApart(t *testing.T) { // P20.1: one check and one message of each port, however long ago the last one was
	x := idle(t, aPlan(), ownerAt)
	m := resting(ownerAt)
	m.Keep, m.East = true, true
	for k, now := range []int64{0, 100, 5000, 1 << 21, 1 << 33, greatestTick - 1<<20, greatestTick} {
		x.hears(now, west, east)
		x.ticks(now, more{7: 2, 9: 2}, x.outs(k, false, false, &m)...)
		x.ticks(now, more{})
	}
}

func TestSilentNode(t *testing.T) { // P20.1: one that is silent says nothing, and its watches send all the same
	x := idle(t, aPlan(), plainAt)
	for now := range int64(30) {
		x.hears(now, west, east)
		if now%2 == 0 {
			x.ticks(now, more{9: 2}, x.outs(int(now/2), false, false, nil)...)
		} else {
			x.ticks(now, more{})
		}
	}
}

func TestSpeaksOutOfShutPorts(t *testing.T) { // P20.1: what it says goes out of both ring ports, whichever of them is shut
	for _, shut := range shuts[1:] {
		x := shutAs(t, aPlan(), shut)
		// What it says begins at that tick: with both shut, it was told there already.
		m := raps.Msg{Request: raps.FS, East: shut[east], Node: x.p.Node(plainAt)}
		now := int64(countBehind)
		if shut[west] && shut[east] {
			m.Request = raps.SF
			now += x.p.Gap
		}
		var got []Out
		for _, o := range x.Tick(now) {
			if strings.HasPrefix(o.Bytes, "\x01\x19") {
				got = append(got, o)
			}
		}
		isOuts(t, "messages", got, x.message(m))
	}
}

func TestWestAloneIsLost(t *testing.T) { // P20.1: as below, of the one line
	oneLineIsLost(t, west)
}

func TestEastAloneIsLost(t *testing.T) { // P20.1: as below, of the other line
	oneLineIsLost(t, east)
}

// oneLineIsLost holds a bridge to losing a line at the tick when it is lost, telling so from the next check on, shutting its port
// when that counts, and to hearing of its being whole again.
func oneLineIsLost(t *testing.T, port int) {
	x := idle(t, aPlan(), plainAt)
	x.knows(0, 0, 1)
	far := 1 - port
	var atWest, atEast bool
	for now := range int64(countBehind + 10) {
		x.hears(now, far)
		m, want := more{}, []Out(nil)
		if now%2 == 0 {
			m[9], want = 2, x.outs(int(now/2), atWest, atEast, nil)
		}
		// It tells the line as it was ahead of that tick.
		atWest, atEast = now >= lostBehind && port == west, now >= lostBehind && port == east
		if now == countBehind {
			m[5] = 1
		}
		if now == countBehind || now == countBehind+2 || now == countBehind+4 {
			m[7], want = 2, append(want, x.message(raps.Msg{Request: raps.SF, East: port == east, Node: x.p.Node(plainAt)})...)
		}
		x.ticks(now, m, want...)
		x.isLost(now, atWest, atEast)
		if n := x.Node(); n.Bad[port] != (now >= countBehind) || n.Shut != n.Bad || n.Bad[far] {
			t.Fatalf("at %d: %+v", now, n)
		}
		if rows := len(x.Rows()); (rows == 0) != (now >= countBehind) {
			t.Fatalf("at %d: %d rows", now, rows)
		}
	}
	x.isWholeAgain(countBehind+10, port)
}

// isWholeAgain lets a port's line be whole again: it isn't lost from then on, and the node is told at the next tick.
func (x rig) isWholeAgain(now int64, port int) {
	x.t.Helper()
	was := x.Node()
	x.hears(now, west, east)
	x.isLost(now, false, false)
	if x.Node() != was || !was.Bad[port] || was.State != chart.Protect {
		x.t.Fatalf("%+v, want %+v", x.Node(), was)
	}
	x.Tick(now)
	n := x.Node()
	if n.Bad != [2]bool{} || n.State != chart.Pending || n.Say.Request != raps.NR || !n.Bank.Runs(0) || n.Shut != was.Shut {
		x.t.Fatalf("%+v", n)
	}
	x.lives(now+1, now+4, west, east)
	x.isLost(now+4, false, false)
}

func TestWholeAheadOfCounting(t *testing.T) { // P20.1: a line that is lost, and whole again ahead of the hold's Length: the node hears nothing of it
	x := idle(t, aPlan(), plainAt)
	was := x.Node()
	for round := range int64(4) {
		start := round * countBehind
		x.does(start)
		for now := start + 1; now < start+countBehind; now++ {
			x.does(now)
			x.isLost(now, now >= start+lostBehind, now >= start+lostBehind)
		}
		x.hears(start+countBehind, west, east)
		x.does(start + countBehind)
		x.isLost(start+countBehind, false, false)
	}
	was.Burst = x.Node().Burst
	if x.Node() != was {
		t.Fatalf("%+v, want %+v", x.Node(), was)
	}
}

func TestHoldOfThePlan(t *testing.T) { // P20.1: a fault counts when it has stood as long as the plan's Hold says, the same tick too
	for _, length := range []int64{0, 1, 2, 7, 100, 1 << 20} {
		for port := range 2 {
			p := aPlan()
			p.Hold = length
			x := idle(t, p, plainAt)
			x.does(0, lostBehind-1, lostBehind)
			x.hears(lostBehind, 1-port)
			if bad := x.Node().Bad[port]; bad != (length == 0) {
				t.Fatalf("Hold %d: bad: %v", length, bad)
			}
			x.does(lostBehind + max(length-1, 0))
			if bad := x.Node().Bad[port]; bad != (length == 0) {
				t.Fatalf("Hold %d: bad: %v", length, bad)
			}
			x.does(lostBehind + length)
			if bad := x.Node().Bad[port]; !bad {
				t.Fatalf("Hold %d: it doesn't count", length)
			}
		}
	}
}

func TestIntervalOfThePlan(t *testing.T) { // P20.1: beyond three Intervals and a half a line is lost, of odd and even ones
	for interval, last := range map[int64]int64{1: 3, 2: 7, 3: 10, 4: 14, 1 << 20: 3670016} {
		p := aPlan()
		p.Interval = interval
		x := begin(t, p, plainAt, 0)
		x.does(0, 1, last-1, last)
		x.isLost(last, false, false)
		x.hears(last, east)
		x.does(last + 1)
		x.isLost(last+1, true, false)
	}
}

func TestBothLinesAtOnce(t *testing.T) { // P20.1: West's fault is told ahead of East's, each empties tables, and what is said is East's
	x := idle(t, aPlan(), plainAt)
	x.does(0, 2, 4, 6, lostBehind, 10)
	x.knows(10, 0)
	m := raps.Msg{Request: raps.SF, East: true, Node: x.p.Node(plainAt)}
	x.ticks(countBehind, more{5: 2, 7: 2}, x.message(m)...)
	x.has()
	if n := x.Node(); n.Shut != [2]bool{true, true} || n.Bad != [2]bool{true, true} || n.Say != m {
		t.Fatalf("%+v", n)
	}
}

func TestBothLinesWholeAtOnce(t *testing.T) { // P20.1: one is gone first: while the other stands the node asks for nothing
	x := shutAs(t, aPlan(), [2]bool{true, true})
	x.hears(12, west, east)
	x.turns("tick", more{1: 2, 7: 2}, func() { x.Tick(12) })
	want := nothing(plainAt)
	if n := x.Node(); n.State != chart.Pending || n.Bad != [2]bool{} || n.Say != want || n.Shut != [2]bool{true, true} {
		t.Fatalf("%+v", n)
	}
}

func TestFaultAheadOfWaits(t *testing.T) { // P20.1: a fault is told ahead of the node's own tick: a wait that is over then is stopped
	for port := range 2 {
		p := aPlan()
		p.Rest = countBehind
		x := begin(t, p, ownerAt, 0)
		x.lives(0, countBehind-1, 1-port)
		x.does(countBehind)
		n := x.Node()
		if n.State != chart.Protect || n.Bank.Runs(1) || n.Say.Request != raps.SF || !n.Shut[port] {
			t.Fatalf("%+v", n)
		}
		if got := x.Counters()[5]; got != uint64(1-port) {
			t.Fatalf("emptied %d times", got)
		}
	}
}

func TestWaitIsOver(t *testing.T) { // P20.1: the owner goes home at its time, says so at that very tick, and empties tables if its port was open
	x := begin(t, aPlan(), ownerAt, 0)
	x.lives(0, 0, west, east)
	x.takes(1, west, told(x.p, failed(0)), more{5: 1, 6: 1})
	x.takes(1, west, told(x.p, nothing(0)), more{6: 1}, Out{east, told(x.p, nothing(0))})
	x.lives(1, 20, west, east)
	x.knows(20, 0, 1)
	if n := x.Node(); n.State != chart.Pending || n.Bank.Due(1) != 21 || len(x.Rows()) != 2 {
		t.Fatalf("%+v", n)
	}
	x.hears(21, west, east)
	m := resting(ownerAt)
	m.East = true
	x.ticks(21, more{5: 1, 7: 2}, x.message(m)...)
	x.has()
	if n := x.Node(); n.State != chart.Idle || n.Shut != [2]bool{false, true} {
		t.Fatalf("%+v", n)
	}

	// From the beginning on its port is shut: tables are kept.
	x = begin(t, aPlan(), ownerAt, 0)
	x.lives(0, 19, west, east)
	x.knows(19, 0, 1)
	x.hears(20, west, east)
	m.Keep = true
	x.ticks(20, more{7: 2, 9: 2}, x.outs(10, false, false, &m)...)
	if len(x.Rows()) != 2 {
		t.Fatal(x.Rows())
	}
}

func TestSpeaksAfterAnOrder(t *testing.T) { // P20.1: what it says from an order on goes out at the tick
	x := idle(t, aPlan(), neighbourAt)
	x.lives(0, 6, west, east)
	x.asks(6, req.MS, east)
	m := raps.Msg{Request: raps.MS, East: true, Node: x.p.Node(neighbourAt)}
	x.ticks(6, more{7: 2}, x.message(m)...)
	x.asks(7, req.Clear, west)
	m = raps.Msg{Request: raps.NR, East: true, Node: x.p.Node(neighbourAt)}
	x.ticks(7, more{7: 2}, x.message(m)...)
}

// joined is all bridges of a ring, of which what goes out of ring ports comes at once at the far ends.
type joined struct {
	t   *testing.T
	p   plan.Plan
	all []*Bridge
	cut [nodeCount]bool
}

func join(t *testing.T, p plan.Plan) *joined {
	j := &joined{t: t, p: p}
	for i := range p.Nodes {
		b, e := New(p, i, 0)
		if e != api.OK {
			t.Fatal(e)
		}
		j.all = append(j.all, b)
	}
	return j
}

// carry lets what goes out of a node come at the far ends, unless the line is cut, and what goes out there likewise.
func (j *joined) carry(now int64, i int, outs []Out) {
	for _, o := range outs {
		node, end, line := (i+1)%j.p.Nodes, west, i
		if o.Port == west {
			node, end, line = (i+j.p.Nodes-1)%j.p.Nodes, east, (i+j.p.Nodes-1)%j.p.Nodes
		}
		if o.Port != local && !j.cut[line] {
			j.carry(now, node, j.all[node].Take(now, end, o.Bytes))
		}
	}
}

func (j *joined) tick(now int64) {
	for i, b := range j.all {
		j.carry(now, i, b.Tick(now))
	}
}

// shut tells which ring ports of all nodes are shut, West of each ahead of its East.
func (j *joined) shut() string {
	var s strings.Builder
	for _, b := range j.all {
		for _, yes := range b.Node().Shut {
			s.WriteString(map[bool]string{false: "o", true: "x"}[yes])
		}
		s.WriteString(" ")
	}
	return s.String()
}

func (j *joined) isShut(name, want string) {
	j.t.Helper()
	if got := j.shut(); strings.TrimSpace(got) != want {
		j.t.Fatalf("%s: shut %s, want %s", name, got, want)
	}
}

func TestRing(t *testing.T) { // P20.1 to P20.3: a ring comes to rest, a line is cut and whole again, and it comes to rest anew
	j := join(t, aPlan())
	for now := range int64(60) {
		j.tick(now)
	}
	j.isShut("at rest", "oo oo ox xo oo")
	j.cut[4] = true
	for now := int64(60); now < 100; now++ {
		j.tick(now)
	}
	j.isShut("cut", "xo oo oo oo ox")
	j.cut[4] = false
	for now := int64(100); now < 160; now++ {
		j.tick(now)
	}
	j.isShut("at rest again", "oo oo ox xo oo")
	for i, b := range j.all {
		if c := b.Counters(); c[2] != 0 || c[3] != 0 || b.Node().State != chart.Idle || b.Lost(west) || b.Lost(east) {
			t.Errorf("node %d: %v, %+v", i, c, b.Node())
		}
	}
	lone := dataFrame(j.p, uint64(mac.All), hostAddr(0)).bytes()
	j.carry(160, 0, j.all[0].Take(160, local, lone))
	for i, b := range j.all {
		want := map[bool]uint64{false: 1, true: 0}[i == 0]
		if c := b.Counters(); c[10] != want {
			t.Errorf("node %d: %d frames to its host", i, c[10])
		}
	}
}
