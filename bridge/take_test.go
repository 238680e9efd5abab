package bridge

import (
	"fmt"
	"math"
	"slices"
	"strings"
	"testing"

	"carousel/api"
	"carousel/chart"
	"carousel/fdb"
	"carousel/mac"
	"carousel/plan"
	"carousel/raps"
	"carousel/req"
)

// noPorts are numbers that are no ports, those among them whose low bits are a port's.
var noPorts = []int{
	-1, 3, -2, -3, 4, 255, 256, 257, 258, 1 << 16, 1 << 32, 1<<32 + 1, 1<<32 + 2, -1 << 32, 1 - 1<<32,
	math.MinInt, math.MinInt + 1, math.MinInt + 2, math.MaxInt - 1, math.MaxInt,
}

func TestNoPort(t *testing.T) { // P20.1: at what is no port nothing happens, and no counter turns
	x := idle(t, aPlan(), plainAt)
	x.knows(1, 0, 4)
	was := x.sees()
	for _, port := range noPorts {
		for _, s := range []string{
			"", "x", told(x.p, failed(0)), farCheck(x.p, plainAt, west), farCheck(x.p, plainAt, east),
			dataFrame(x.p, hostAddr(0), hostAddr(3)).bytes(), dataFrame(x.p, uint64(mac.All), hostAddr(3)).bytes(),
		} {
			x.turns("take", more{}, func() { isOuts(t, "take", x.Take(2, port, s), nil) })
			x.isAs("take", was)
		}
	}
	// No watch heard of it: the lines are lost when they are.
	x.does(lostBehind)
	x.isLost(lostBehind, true, true)
}

// unopened are frames that can't be opened (layer 3), made of right ones.
func unopened(p plan.Plan) map[string]string {
	out := map[string]string{"none": "", "a byte": "x", "short": noughts(17)}
	for name, f := range map[string]laid{
		"data":    dataFrame(p, uint64(mac.All), hostAddr(0)),
		"check":   checkFrame(p, 0, checkOf(p, 0, east, 0, false)),
		"message": messageFrame(p, nodeAddr(0), failed(0)),
	} {
		s := f.bytes()
		out[name+" short"] = s[:17]
		out[name+" long"] = s + noughts(1601-len(s))
		out[name+" without a tag"] = s[:12] + "\x81\x01" + s[14:]
		turned := f
		turned.src |= 1 << 40
		out[name+" of a group"] = turned.bytes()
		turned = f
		turned.frameType = 1535
		out[name+" of no type"] = turned.bytes()
	}
	return out
}

// strange are frames that can be opened, and are neither data nor a check nor a message.
func strange(p plan.Plan) map[string]string {
	out := map[string]string{}
	for name, f := range map[string]laid{
		"data":    dataFrame(p, uint64(mac.All), hostAddr(0)),
		"check":   checkFrame(p, 0, checkOf(p, 0, east, 0, false)),
		"message": messageFrame(p, nodeAddr(0), failed(0)),
	} {
		for _, vlan := range []uint16{p.Data - 1, p.Data + 1, p.Ring - 1, p.Ring + 1, 1, 4094, 0, 4095, p.Data ^ 0x800} {
			f.vlan = uint64(vlan)
			out[fmt.Sprintf("%s of the VLAN %d", name, vlan)] = f.bytes()
		}
		f.vlan = uint64(p.Ring)
		for _, frameType := range []uint64{0x8901, 0x8903, 0x0902, 0x8802, 0x0600, 0xffff} {
			f.frameType = frameType
			out[fmt.Sprintf("%s of the type %x", name, frameType)] = f.bytes()
		}
		f.frameType = checkType
		for _, dst := range elsewhere(p) {
			f.dst = dst
			out[fmt.Sprintf("%s to %012x", name, dst)] = f.bytes()
		}
	}
	return out
}

// elsewhere are addresses to which neither checks nor messages go.
func elsewhere(p plan.Plan) []uint64 {
	l := []uint64{uint64(mac.All), 0, nodeAddr(plainAt), hostAddr(plainAt), 0x0180c2000038, 0x0180c200002f, 0x0119a7000000, 0x0119a7000009, 0x0180c2000030 | 1<<16, 0x0019a7000001 + uint64(p.Level)}
	for level := range uint64(8) {
		if level != uint64(p.Level) {
			l = append(l, 0x0180c2000030+level, 0x0119a7000001+level)
		}
	}
	return l
}

// with is bytes with another one at a place.
func with(s string, at int, b byte) string { return s[:at] + string([]byte{b}) + s[at+1:] }

// unheardChecks are frames that go where checks go, at a port of the plain node, and that its watch doesn't hear.
func unheardChecks(p plan.Plan, port int) map[string]string {
	right := checkOf(p, 0, east, 7, false)
	out := map[string]string{}
	turn := func(name string, turn func(c *check)) {
		c := right
		turn(&c)
		out["check of "+name] = checkFrame(p, 0, c).bytes()
	}
	for level := range uint64(8) {
		if level != uint64(p.Level) {
			turn(fmt.Sprintf("the level %d", level), func(c *check) { c.level = level })
		}
	}
	for _, period := range []uint64{0, 1, 3, 5, 7, 8 | 4, 64 | 4} {
		turn(fmt.Sprintf("the flags %d", period), func(c *check) { c.period = period })
	}
	for _, end := range []uint64{0, 8192, 1<<13 | 1} {
		turn(fmt.Sprintf("the end %d", end), func(c *check) { c.end = end })
	}
	turn("its own end", func(c *check) { c.end = uint64(2*plainAt + port + 1) })
	for _, group := range []string{"", "carouse", "Carousel", "carousel1", strings.Repeat("x", 48)} {
		turn("the group "+group, func(c *check) { c.group = group })
	}
	body := right.body()
	for name, b := range map[string]string{
		"no bytes": "", "few bytes": body[:3], "bytes wanting": body[:74], "another version": with(body, 0, body[0]|1),
		"another code": with(body, 1, 2), "another offset": with(body, 3, 69) + noughts(4), "another end": with(body, 74, 1),
		"noughts that aren't": with(body, 73, 1), "a message's body": messageBody(p.Level, failed(0)),
	} {
		f := checkFrame(p, 0, right)
		f.body = b
		out["check with "+name] = f.bytes()
	}
	return out
}

// unopenedMessages are frames that go where messages go, and that can't be opened there.
func unopenedMessages(p plan.Plan) map[string]string {
	out := map[string]string{}
	put := func(name, body string) {
		f := messageFrame(p, nodeAddr(0), failed(0))
		f.body = body
		out["message with "+name] = f.bytes()
	}
	for level := range uint8(8) {
		if level != p.Level {
			put(fmt.Sprintf("the level %d", level), messageBody(level, failed(0)))
		}
	}
	body := messageBody(p.Level, failed(0))
	put("no bytes", "")
	put("few bytes", body[:3])
	put("bytes wanting", body[:36])
	put("another version", with(body, 0, body[0]&^1))
	put("another code", with(body, 1, 41))
	put("flags", with(body, 2, 1))
	put("another offset", with(body, 3, 31))
	put("another end", with(body, 36, 1))
	put("a sub-code", with(body, 4, body[4]|1))
	put("a bit that isn't 0", with(body, 5, 1))
	put("noughts that aren't", with(body, 35, 1))
	for k := range 16 {
		if k != 0 && k != 7 && k != 11 && k != 13 {
			put(fmt.Sprintf("the request %d", k), with(body, 4, byte(k<<4)))
		}
	}
	put("Block beside SF", with(body, 5, 0x80))
	put("a group's node", with(body, 6, 3))
	put("a check's body", checkOf(p, 0, east, 0, false).body())
	return out
}

// all is several lists of frames, by their names.
func all(l ...map[string]string) map[string]string {
	out := map[string]string{}
	for _, m := range l {
		for name, s := range m {
			out[name] = s
		}
	}
	return out
}

// wrongAt are frames that are dropped at a port of the plain node.
func wrongAt(p plan.Plan, port int) map[string]string {
	out := all(unopened(p), strange(p), unheardChecks(p, port), unopenedMessages(p))
	if port == local {
		out["message at Local"] = told(p, failed(0))
		out["message at Local, its own"] = told(p, failed(plainAt))
		out["check at Local"] = checkFrame(p, 0, checkOf(p, 0, east, 0, false)).bytes()
	}
	return out
}

func TestDropped(t *testing.T) { // P20.1, P20.3: each way of being dropped turns counters 0 and 2 alone, and nothing goes out
	for _, level := range []uint8{0, 1, 5, 7} {
		p := aPlan()
		p.Level = level
		x := idle(t, p, plainAt)
		x.knows(0, 0, 4)
		for port := range 3 {
			was := x.sees()
			for name, s := range wrongAt(p, port) {
				x.turns(name, more{0: 1, 2: 1}, func() { isOuts(t, name, x.Take(1, port, s), nil) })
				x.isAs(name, was)
			}
		}
	}
}

func TestDroppedIsAsNone(t *testing.T) { // P20.3: behind what was dropped all goes on as if it hadn't come
	for port := range 3 {
		for name, s := range wrongAt(aPlan(), port) {
			x, y := idle(t, aPlan(), plainAt), idle(t, aPlan(), plainAt)
			for now := range int64(countBehind + 1) {
				x.takes(now, port, s, more{2: 1})
				isOuts(t, name, x.Tick(now), y.Tick(now))
				x.isAs(name, y.sees())
			}
			want := y.Counters()
			want[0] += countBehind + 1
			want[2] += countBehind + 1
			if got := x.Counters(); !slices.Equal(got, want) {
				t.Fatalf("%s: counters %v, want %v", name, got, want)
			}
		}
	}
}

// heardChecks are checks that a port of the plain node hears.
func heardChecks(p plan.Plan, port int) []laid {
	right := checkOf(p, 0, east, 0, false)
	f := checkFrame(p, 0, right)
	l := []laid{f}
	for _, turn := range []func(c *check){
		func(c *check) { c.lost = true }, func(c *check) { c.count = 1<<32 - 1 }, func(c *check) { c.end = 8191 },
		func(c *check) { c.end = uint64(2*plainAt + 1 - port + 1) },
	} {
		c := right
		turn(&c)
		l = append(l, checkFrame(p, 0, c))
	}
	for _, turn := range []func(f *laid){
		func(f *laid) { f.src = 0 }, func(f *laid) { f.src = nodeAddr(plainAt) }, func(f *laid) { f.pri = 0 }, func(f *laid) { f.drop = true },
		func(f *laid) { f.body += "x" }, func(f *laid) { f.body += strings.Repeat("\xff", 1600-18-75) },
	} {
		g := f
		turn(&g)
		l = append(l, g)
	}
	return l
}

func TestCheckIsHeard(t *testing.T) { // P20.1, P20.3: it turns counters 0 and 8, keeps its port's line whole, and goes no further, whichever port is shut
	for _, shut := range shuts {
		for port := range 2 {
			for _, f := range heardChecks(aPlan(), port) {
				x := shutAs(t, aPlan(), shut)
				x.knows(countBehind, 0, 4)
				was := x.sees()
				was.lost[port] = false
				x.takes(countBehind, port, f.bytes(), more{8: 1})
				x.isAs("check", was)
				x.Tick(countBehind + lostBehind - 1)
				if x.Lost(port) {
					t.Fatalf("lost ahead of its time: %x", f.bytes())
				}
				x.Tick(countBehind + lostBehind)
				if !x.Lost(port) {
					t.Fatalf("not lost: %x", f.bytes())
				}
			}
		}
	}
}

func TestCheckIsHeardThere(t *testing.T) { // P20.1: at the port at which it comes, and at no other one
	for port := range 2 {
		x := idle(t, aPlan(), plainAt)
		x.does(0, lostBehind)
		x.isLost(lostBehind, true, true)
		x.hears(lostBehind, port)
		x.isLost(lostBehind, port != west, port != east)
	}
}

func TestMessageIsHeard(t *testing.T) { // P20.1: counter 6; the node is what layer 17's Hear answers, and tables are emptied where it says so
	for port := range 2 {
		for _, m := range []raps.Msg{failed(0), {Request: raps.FS, Node: 2}, {Request: raps.MS, East: true, Node: 2}, resting(0), nothing(4), {Request: raps.SF, Keep: true, Node: 8}} {
			x := idle(t, aPlan(), plainAt)
			x.knows(0, 0, 4)
			want, empties := x.Node().Hear(1, port, m)
			turned, rows := more{6: 1}, 2
			if empties {
				turned[5], rows = 1, 0
			}
			x.takes(1, port, told(x.p, m), turned, Out{1 - port, told(x.p, m)})
			if x.Node() != want || len(x.Rows()) != rows {
				t.Fatalf("%+v: %+v, want %+v; %v", m, x.Node(), want, x.Rows())
			}
			// What it was told there already empties nothing.
			x.knows(1, 0, 4)
			x.takes(2, port, told(x.p, m), more{6: 1}, Out{1 - port, told(x.p, m)})
			x.takes(2, 1-port, told(x.p, m), more{6: 1}, Out{port, told(x.p, m)})
			if len(x.Rows()) != 2 {
				t.Fatal(x.Rows())
			}
		}
	}
}

func TestMessageGoesOnAsItCame(t *testing.T) { // P20.1: byte by byte, whatever of it plays no part
	for _, turn := range []func(f *laid){
		func(f *laid) {}, func(f *laid) { f.src = 0 }, func(f *laid) { f.src = nodeAddr(plainAt) }, func(f *laid) { f.pri = 0 }, func(f *laid) { f.pri, f.drop = 3, true },
		func(f *laid) { f.body += "x" }, func(f *laid) { f.body += strings.Repeat("\xff", 1600-18-37) },
	} {
		for port := range 2 {
			for level := range uint8(8) {
				p := aPlan()
				p.Level = level
				x := idle(t, p, plainAt)
				f := messageFrame(p, nodeAddr(0), failed(0))
				turn(&f)
				x.takes(1, port, f.bytes(), more{5: 1, 6: 1}, Out{1 - port, f.bytes()})
				if x.Node().State != chart.Protect {
					t.Fatalf("%x: %+v", f.bytes(), x.Node())
				}
			}
		}
	}
}

func TestMessageAtShutPorts(t *testing.T) { // P20.1: with a ring port shut it is heard, and goes no further
	for _, shut := range shuts {
		for port := range 2 {
			x := shutAs(t, aPlan(), shut)
			m := nothing(4)
			want, empties := x.Node().Hear(countBehind, port, m)
			if empties {
				t.Fatal("emptied")
			}
			var outs []Out
			if shut == [2]bool{} {
				outs = toPorts(told(x.p, m), 1-port)
			}
			x.takes(countBehind, port, told(x.p, m), more{6: 1}, outs...)
			if x.Node() != want {
				t.Fatalf("%+v, want %+v", x.Node(), want)
			}
		}
	}
}

func TestItsOwnMessage(t *testing.T) { // P20.1: counter 6, and that is all: the node hears nothing, and it goes no further
	for port := range 2 {
		for _, m := range []raps.Msg{failed(plainAt), resting(plainAt), nothing(plainAt), {Request: raps.FS, Node: failed(plainAt).Node}} {
			x := idle(t, aPlan(), plainAt)
			x.knows(0, 0, 4)
			was := x.sees()
			f := messageFrame(x.p, nodeAddr(0), m)
			x.takes(1, port, f.bytes(), more{6: 1})
			x.isAs("its own", was)
		}
	}
}

func TestMessageByWhichPortsAreOpened(t *testing.T) { // P20.1: it goes no further, as a port was shut ahead of it; the next one goes
	for i, open := range map[int]raps.Msg{plainAt: resting(ownerAt), ownerAt: failed(0), neighbourAt: failed(0)} {
		for port := range 2 {
			x := begin(t, aPlan(), i, 0)
			x.takes(1, port, told(x.p, open), more{5: 1, 6: 1})
			if x.Node().Shut != [2]bool{} {
				t.Fatalf("%+v", x.Node())
			}
			x.takes(1, port, told(x.p, open), more{6: 1}, Out{1 - port, told(x.p, open)})
		}
	}
}

func TestMessageByWhichPortsAreShut(t *testing.T) { // P20.1: it goes on, as none was shut ahead of it; the next one doesn't
	for port := range 2 {
		x := begin(t, aPlan(), neighbourAt, 0)
		x.takes(1, port, told(x.p, failed(0)), more{5: 1, 6: 1})
		x.takes(2, port, told(x.p, resting(ownerAt)), more{5: 1, 6: 1}, Out{1 - port, told(x.p, resting(ownerAt))})
		if n := x.Node(); n.Shut != [2]bool{true, false} || n.State != chart.Idle {
			t.Fatalf("%+v", n)
		}
		x.takes(2, port, told(x.p, resting(ownerAt)), more{6: 1})
	}
}

func TestGuardedMessage(t *testing.T) { // P20.1: while the guard runs it is counted, and the node hears nothing
	x := shutAs(t, aPlan(), [2]bool{true, false})
	x.asks(12, req.Clear, west)
	x.knows(12, 0, 4)
	was := x.sees()
	x.takes(13, east, told(x.p, failed(0)), more{6: 1})
	x.isAs("guarded", was)
}

// allFrom are the ports to which data pass, by the two ring ports that may be shut and the one they come from.
var allFrom = map[[2]bool][3][]int{
	{false, false}: {{1, 2}, {0, 2}, {0, 1}},
	{true, false}:  {{}, {2}, {1}},
	{false, true}:  {{2}, {}, {0}},
	{true, true}:   {{}, {}, {}},
}

// dataCount is how counters turn beside 0 and 1, where data go to ports.
func dataCount(outs []int) more {
	if slices.Contains(outs, local) {
		return more{10: 1}
	}
	return more{}
}

// isShutAt says whether a port is shut.
func isShutAt(shut [2]bool, port int) bool { return port != local && shut[port] }

func TestDataToAll(t *testing.T) { // P20.1: to groups and to addresses that aren't known, at each port, whichever is shut: counter 4, and 10 of Local
	for _, shut := range shuts {
		for in := range 3 {
			for _, dst := range []uint64{uint64(mac.All), 0x0119a7000006, 0x0180c2000035, hostAddr(3), nodeAddr(plainAt), 0} {
				x := shutAs(t, aPlan(), shut)
				s := dataFrame(x.p, dst, hostAddr(0)).bytes()
				if isShutAt(shut, in) {
					x.takes(12, in, s, more{3: 1})
					x.has()
					continue
				}
				outs := allFrom[shut][in]
				x.takes(12, in, s, dataCount(outs).and(more{4: 1}), toPorts(s, outs...)...)
				x.has(fdb.Row{Vlan: x.p.Data, Addr: x.p.Host(0), Port: in, Seen: 12})
			}
		}
	}
}

func TestDataToOne(t *testing.T) { // P20.1: to one that is known: its port alone, or none
	for _, shut := range shuts {
		for in := range 3 {
			for at := range 3 {
				if isShutAt(shut, at) {
					continue
				}
				x := shutAs(t, aPlan(), shut)
				x.Take(11, at, dataFrame(x.p, uint64(mac.All), hostAddr(4)).bytes())
				learned := fdb.Row{Vlan: x.p.Data, Addr: x.p.Host(4), Port: at, Seen: 11}
				s := dataFrame(x.p, hostAddr(4), hostAddr(0)).bytes()
				if isShutAt(shut, in) {
					x.takes(12, in, s, more{3: 1})
					x.has(learned)
					continue
				}
				var outs []int
				if at != in {
					outs = []int{at}
				}
				x.takes(12, in, s, dataCount(outs), toPorts(s, outs...)...)
				x.has(fdb.Row{Vlan: x.p.Data, Addr: x.p.Host(0), Port: in, Seen: 12}, learned)
			}
		}
	}
}

func TestDataToOneBehindAShutPort(t *testing.T) { // P20.1, P20.3: known at a port that was shut since, it goes nowhere, and not to all
	x := begin(t, aPlan(), neighbourAt, 0)
	x.takes(1, east, told(x.p, failed(0)), more{5: 1, 6: 1})
	learn := dataFrame(x.p, uint64(mac.All), hostAddr(0)).bytes()
	x.takes(2, west, learn, more{4: 1, 10: 1}, toPorts(learn, east, local)...)
	rest := resting(ownerAt)
	rest.Keep = true
	x.takes(3, west, told(x.p, rest), more{6: 1}, Out{east, told(x.p, rest)})
	s := dataFrame(x.p, hostAddr(0), hostAddr(3)).bytes()
	for _, in := range []int{east, local} {
		x.takes(4, in, s, more{})
	}
	x.takes(4, west, s, more{3: 1})
	x.has(
		fdb.Row{Vlan: x.p.Data, Addr: x.p.Host(0), Port: west, Seen: 2},
		fdb.Row{Vlan: x.p.Data, Addr: x.p.Host(3), Port: local, Seen: 4})
}

func TestDataAsItCame(t *testing.T) { // P20.1: whatever of a frame plays no part, it goes as it came, and is data by its Vlan alone
	for _, turn := range []func(f *laid){
		func(f *laid) { f.frameType = checkType }, func(f *laid) { f.frameType = 1536 }, func(f *laid) { f.pri, f.drop = 7, true }, func(f *laid) { f.body = "" },
		func(f *laid) { f.body = strings.Repeat("\xa5", 1600-18) }, func(f *laid) { f.body = messageBody(5, failed(0)); f.frameType = checkType },
		func(f *laid) { f.src = nodeAddr(plainAt) },
	} {
		for _, dst := range []uint64{uint64(mac.All), 0x0119a7000006, 0x0180c2000035} {
			x := idle(t, aPlan(), plainAt)
			f := dataFrame(x.p, dst, hostAddr(0))
			turn(&f)
			was := x.Node()
			x.takes(1, east, f.bytes(), more{4: 1, 10: 1}, toPorts(f.bytes(), west, local)...)
			x.has(fdb.Row{Vlan: x.p.Data, Addr: mac.Addr(f.src), Port: east, Seen: 1})
			if x.Node() != was {
				t.Fatalf("%+v, want %+v", x.Node(), was)
			}
		}
	}
}

func TestThereAndBack(t *testing.T) { // P20.1: a host that was heard is answered at its port alone, till the plan's Age is over
	x := idle(t, aPlan(), plainAt)
	there, back := dataFrame(x.p, uint64(mac.All), hostAddr(3)).bytes(), dataFrame(x.p, hostAddr(3), hostAddr(plainAt)).bytes()
	x.takes(5, west, there, more{4: 1, 10: 1}, toPorts(there, east, local)...)
	x.takes(5, local, back, more{}, toPorts(back, west)...)
	x.takes(104, local, back, more{}, toPorts(back, west)...)
	x.takes(105, local, back, more{4: 1}, toPorts(back, west, east)...)
	other := dataFrame(x.p, hostAddr(plainAt), hostAddr(4)).bytes()
	x.takes(106, east, other, more{10: 1}, toPorts(other, local)...)
}

func TestEmptiedByEach(t *testing.T) { // P20.1: tables are emptied of all rows, whichever port they are at: by a message, by an order, by a fault
	for name, call := range map[string]func(x rig){
		"message": func(x rig) { x.Take(lostBehind, west, told(x.p, failed(0))) },
		"order":   func(x rig) { x.asks(lostBehind, req.MS, west) },
		"fault":   func(x rig) { x.Tick(lostBehind) },
	} {
		p := aPlan()
		p.Hold = 0
		x := idle(t, p, plainAt)
		x.hears(1, east)
		for port := range 3 {
			x.Take(lostBehind-1, port, dataFrame(p, uint64(mac.All), hostAddr(port)).bytes())
		}
		was := x.Counters()[5]
		call(x)
		x.has()
		if got := x.Counters()[5]; got != was+1 {
			t.Errorf("%s: emptied %d times", name, got-was)
		}
	}
}

func TestAnything(t *testing.T) { // R1, R6: whatever is handed in, at whatever ticks, calls end, and none panics
	ticks := []int64{math.MinInt64, math.MinInt64 + 1, -1 << 50, -1, 0, 9, 50, greatestTick + 1, 1 << 40, 1<<40 + 1, 1 << 50, math.MaxInt64 - 1, math.MaxInt64}
	for _, p := range []plan.Plan{aPlan(), {}} {
		for _, first := range ticks {
			for i := -1; i <= nodeCount; i++ {
				b, e := New(p, i, first)
				if e != api.OK {
					if b != nil {
						t.Fatal(b, e)
					}
					continue
				}
				anyCalls(rig{Bridge: b, t: t, p: p, i: i}, ticks)
			}
		}
	}
}

func anyCalls(x rig, ticks []int64) {
	for _, now := range ticks {
		x.Tick(now)
		for _, port := range append([]int{west, east, local}, noPorts...) {
			for _, s := range []string{
				"", told(x.p, failed(0)), told(x.p, resting(ownerAt)), told(x.p, nothing(4)), farCheck(x.p, x.i, west), farCheck(x.p, x.i, east),
				dataFrame(x.p, hostAddr(0), hostAddr(3)).bytes(), dataFrame(x.p, uint64(mac.All), hostAddr(0)).bytes(), noughts(5000),
			} {
				x.Take(now, port, s)
			}
			for _, k := range []req.Kind{math.MinInt64, -1, req.Clear, req.FS, req.MS, req.None, math.MaxInt64} {
				x.Order(now, k, port)
			}
			x.Lost(port)
		}
		x.Tick(now)
		x.Node()
		x.Rows()
		x.Counters()
	}
}
