package relay

import (
	"math"
	"math/rand"
	"slices"
	"testing"

	"carousel/api"
	"carousel/fdb"
	"carousel/mac"
	"carousel/tagged"
)

const (
	west  = api.West
	east  = api.East
	local = api.Local

	room    = 8
	age     = 100
	maxTick = 1 << 40
	farOff  = 1 << 50
)

// shuts are the four ways in which two ring ports are shut or not.
var shuts = [][2]bool{{false, false}, {true, false}, {false, true}, {true, true}}

// noPorts are numbers that are no ports, those among them whose low bits are a port's.
var noPorts = []int{
	-1, 3, -2, -3, 4, 5, 255, 256, 257, 258, 1 << 16, 1<<16 + 1, 1 << 32, 1<<32 + 1, 1<<32 + 2, -1 << 32, 1 - 1<<32,
	math.MinInt, math.MinInt + 1, math.MinInt + 2, math.MaxInt - 1, math.MaxInt,
}

// groups are addresses of groups.
var groups = []mac.Addr{mac.All, 1 << 40, 0x0119a7000001, 0x0180c2000030, 0x030000000000, 0xffffffffff00}

// noAddrs are numbers that are no addresses, of which some would be a group's by their low bits.
var noAddrs = []mac.Addr{1 << 48, 1<<48 + 1, 1<<48 | 1<<40, 1 << 63, math.MaxUint64}

// allFrom are the ports to which data pass, by the two ring ports that may be shut and the one they come from:
// written down whole. Of a shut one, and of no port, nothing passes.
var allFrom = map[[2]bool][3][]int{
	{false, false}: {{1, 2}, {0, 2}, {0, 1}},
	{true, false}:  {{}, {2}, {1}},
	{false, true}:  {{2}, {}, {0}},
	{true, true}:   {{}, {}, {}},
}

// isOpen says whether a port isn't shut.
func isOpen(shut [2]bool, port int) bool { return port == local || !shut[port] }

// ins are the open ports.
func ins(shut [2]bool) []int {
	var l []int
	for port := range 3 {
		if isOpen(shut, port) {
			l = append(l, port)
		}
	}
	return l
}

// empty is a table without rows.
func empty(t *testing.T, room int, age int64) fdb.Table {
	t.Helper()
	x, e := fdb.New(room, age)
	if e != api.OK {
		t.Fatalf("New(%d, %d) = %v", room, age, e)
	}
	return x
}

// known is a table that has just these rows.
func known(t *testing.T, room int, l ...fdb.Row) fdb.Table {
	t.Helper()
	x := empty(t, room, age)
	for _, r := range l {
		y, e := x.Learn(r.Seen, r.Vlan, r.Addr, r.Port)
		if e != api.OK {
			t.Fatalf("Learn of %v = %v", r, e)
		}
		x = y
	}
	return x
}

// has holds a table to having just these rows, in this order.
func has(t *testing.T, x fdb.Table, want ...fdb.Row) {
	t.Helper()
	if l := x.Rows(); !slices.Equal(l, want) {
		t.Fatalf("Rows() = %v, want %v", l, want)
	}
}

// frame is one of the VLAN 1.
func frame(dst, src mac.Addr) tagged.Frame {
	return tagged.Frame{Dst: dst, Src: src, Vlan: 1, Type: 0x0800, Body: "ab"}
}

// goesTo holds Go to ports and to whether they are all, and the table that was handed in to its rows; it is the table then.
func goesTo(t *testing.T, x fdb.Table, shut [2]bool, now int64, in int, f tagged.Frame, flooded bool, want ...int) fdb.Table {
	t.Helper()
	was := x.Rows()
	y, outs, all, e := Go(x, shut, now, in, f)
	if e != api.OK || all != flooded || !slices.Equal(outs, want) {
		t.Fatalf("Go(%v, %d, %d, %+v) of %v = %v, %v, %v, want %v, %v", shut, now, in, f, was, outs, all, e, want, flooded)
	}
	has(t, x, was...)
	return y
}

// toAll holds Go to all ports to which data pass.
func toAll(t *testing.T, x fdb.Table, shut [2]bool, now int64, in int, f tagged.Frame) fdb.Table {
	t.Helper()
	return goesTo(t, x, shut, now, in, f, true, allFrom[shut][in]...)
}

// toOne holds Go to a port alone, where data pass to it, or else to none.
func toOne(t *testing.T, x fdb.Table, shut [2]bool, now int64, in int, f tagged.Frame, port int) fdb.Table {
	t.Helper()
	if slices.Contains(allFrom[shut][in], port) {
		return goesTo(t, x, shut, now, in, f, false, port)
	}
	return goesTo(t, x, shut, now, in, f, false)
}

// refuses holds Go to an error, and to the table as it was.
func refuses(t *testing.T, x fdb.Table, shut [2]bool, now int64, in int, f tagged.Frame, want api.Errno) {
	t.Helper()
	was := x.Rows()
	y, outs, all, e := Go(x, shut, now, in, f)
	if e != want || all || len(outs) != 0 {
		t.Fatalf("Go(%v, %d, %d, %+v) = %v, %v, %v, want %v", shut, now, in, f, outs, all, e, want)
	}
	has(t, x, was...)
	has(t, y, was...)
}

func TestExample(t *testing.T) { // P19.1: nothing learned, none shut, from West to a host: East and Local
	x := goesTo(t, empty(t, room, age), [2]bool{}, 0, west, frame(4, 2), true, east, local)
	has(t, x, fdb.Row{Vlan: 1, Addr: 2, Port: west})
}

func TestThereAndBack(t *testing.T) { // P19.1, P19.2: a host that was heard is answered at its port alone
	x := goesTo(t, empty(t, room, age), [2]bool{}, 5, west, frame(mac.All, 2), true, east, local)
	x = goesTo(t, x, [2]bool{}, 6, local, frame(2, 4), false, west)
	x = goesTo(t, x, [2]bool{}, 7, west, frame(4, 2), false, local)
	has(t, x, fdb.Row{Vlan: 1, Addr: 2, Port: west, Seen: 7}, fdb.Row{Vlan: 1, Addr: 4, Port: local, Seen: 6})
}

func TestPortOfAnyNumber(t *testing.T) { // P19.1: numbers that are no ports, whichever port is shut and whatever the frame is
	x := known(t, room, fdb.Row{Vlan: 1, Addr: 4, Port: east, Seen: 3})
	for _, shut := range shuts {
		for _, in := range noPorts {
			for _, f := range []tagged.Frame{{}, frame(4, 2), frame(mac.All, 2), frame(6, 4), frame(mac.All, mac.All)} {
				refuses(t, x, shut, 4, in, f, api.ErrPort)
			}
		}
	}
}

func TestShutPort(t *testing.T) { // P19.1: refused where the port isn't open, and at no other one
	x := known(t, room, fdb.Row{Vlan: 1, Addr: 4, Port: local, Seen: 3})
	for _, shut := range shuts {
		for in := range 3 {
			for _, f := range []tagged.Frame{frame(4, 2), frame(6, 2), frame(mac.All, 2), frame(6, 4), frame(4, mac.All), {}} {
				if !isOpen(shut, in) {
					refuses(t, x, shut, 4, in, f, api.ErrState)
					continue
				}
				if _, _, _, e := Go(x, shut, 4, in, f); e != api.OK {
					t.Errorf("Go(%v, %d, %+v): %v", shut, in, f, e)
				}
			}
		}
	}
}

func TestRefusedOnFullAndEmptyTables(t *testing.T) { // P19.1: as it was, of tables without rows, full ones and the zero one
	full := known(t, 2, fdb.Row{Vlan: 1, Addr: 2, Port: west}, fdb.Row{Vlan: 1, Addr: 4, Port: local})
	for _, x := range []fdb.Table{{}, empty(t, room, age), full} {
		refuses(t, x, [2]bool{true, false}, 9, west, frame(4, 2), api.ErrState)
		refuses(t, x, [2]bool{true, true}, 9, east, frame(4, 6), api.ErrState)
		refuses(t, x, [2]bool{true, true}, 9, 3, frame(4, 6), api.ErrPort)
		refuses(t, x, [2]bool{}, 9, -1, frame(4, 6), api.ErrPort)
	}
}

func TestRefusedTableGoesOn(t *testing.T) { // P19.1: the table beside an error looks up and learns what it did before
	x := known(t, 2, fdb.Row{Vlan: 1, Addr: 2, Port: west, Seen: 5})
	for _, in := range []int{west, 3} {
		y, _, _, e := Go(x, [2]bool{true, false}, 6, in, frame(2, 4))
		if e == api.OK {
			t.Fatal(in, e)
		}
		if port, ok := y.Look(104, 1, 2); !ok || port != west {
			t.Fatal(port, ok)
		}
		if _, ok := y.Look(105, 1, 2); ok {
			t.Fatal("the age is not as it was")
		}
		if y, e = y.Learn(7, 1, 4, local); e != api.OK {
			t.Fatal(e)
		}
		if _, e = y.Learn(7, 1, 6, local); e != api.ErrFull {
			t.Fatal("the room is not as it was:", e)
		}
	}
}

func TestLearnsWhatIsNew(t *testing.T) { // P19.1: the Vlan, the Src, that port and that tick, whichever port it goes to
	for _, shut := range shuts {
		for _, in := range ins(shut) {
			for _, now := range []int64{0, 1, 77, 1 << 31, 1<<32 + 5, maxTick - 1, maxTick} {
				for _, vlan := range []uint16{1, 2, 255, 256, 4093, 4094} {
					for _, src := range []mac.Addr{0, 2, 0x060000000001, 0xfeffffffffff} {
						f := tagged.Frame{Dst: mac.All, Src: src, Vlan: vlan}
						y := toAll(t, empty(t, room, age), shut, now, in, f)
						has(t, y, fdb.Row{Vlan: vlan, Addr: src, Port: in, Seen: now})
					}
				}
			}
		}
	}
}

func TestLearnsAnew(t *testing.T) { // P19.1: what was learned at a port, at this one or another one, is learned at this one now
	for _, shut := range shuts {
		for _, in := range ins(shut) {
			for before := range 3 {
				other := fdb.Row{Vlan: 1, Addr: 8, Port: before, Seen: 6}
				x := known(t, 2, fdb.Row{Vlan: 1, Addr: 2, Port: before, Seen: 5}, other)
				y := toAll(t, x, shut, 9, in, frame(mac.All, 2))
				has(t, y, fdb.Row{Vlan: 1, Addr: 2, Port: in, Seen: 9}, other)
			}
		}
	}
}

func TestLearnsOfEachVlan(t *testing.T) { // P19.1: an address of one VLAN is none of another one
	x := known(t, room, fdb.Row{Vlan: 1, Addr: 2, Port: west, Seen: 5}, fdb.Row{Vlan: 3, Addr: 2, Port: west, Seen: 6})
	y := toAll(t, x, [2]bool{}, 7, east, tagged.Frame{Dst: mac.All, Src: 2, Vlan: 2})
	has(t, y,
		fdb.Row{Vlan: 1, Addr: 2, Port: west, Seen: 5},
		fdb.Row{Vlan: 2, Addr: 2, Port: east, Seen: 7},
		fdb.Row{Vlan: 3, Addr: 2, Port: west, Seen: 6})
}

func TestLearnsWhereItGoesNowhere(t *testing.T) { // P19.1: what goes to no port is learned all the same
	x := known(t, room, fdb.Row{Vlan: 1, Addr: 4, Port: west, Seen: 5})
	y := goesTo(t, x, [2]bool{true, false}, 7, local, frame(4, 2), false)
	has(t, y, fdb.Row{Vlan: 1, Addr: 2, Port: local, Seen: 7}, fdb.Row{Vlan: 1, Addr: 4, Port: west, Seen: 5})
	y = goesTo(t, x, [2]bool{true, true}, 7, local, frame(mac.All, 2), true)
	has(t, y, fdb.Row{Vlan: 1, Addr: 2, Port: local, Seen: 7}, fdb.Row{Vlan: 1, Addr: 4, Port: west, Seen: 5})
}

func TestSrcThatIsNotLearned(t *testing.T) { // P19.1: an error of Learn changes nothing, and the frame goes
	row := fdb.Row{Vlan: 1, Addr: 4, Port: east, Seen: 5}
	x := known(t, room, row)
	for _, src := range slices.Concat(groups, noAddrs) {
		for _, shut := range shuts {
			for _, in := range ins(shut) {
				has(t, toOne(t, x, shut, 6, in, frame(4, src), east), row)
				has(t, toAll(t, x, shut, 6, in, frame(6, src)), row)
				has(t, toAll(t, x, shut, 6, in, frame(mac.All, src)), row)
				has(t, toAll(t, x, shut, 6, in, frame(src, src)), row)
			}
		}
	}
}

func TestVlanThatIsNotLearned(t *testing.T) { // P19.1: nothing is learned of such a VLAN, so that none is looked up
	row := fdb.Row{Vlan: 1, Addr: 4, Port: east, Seen: 5}
	x := known(t, room, row)
	for _, vlan := range []uint16{0, 4095, 4096, 4097, 8190, math.MaxUint16} {
		for _, shut := range shuts {
			for _, in := range ins(shut) {
				for _, dst := range []mac.Addr{4, 6, mac.All, 2} {
					has(t, toAll(t, x, shut, 6, in, tagged.Frame{Dst: dst, Src: 2, Vlan: vlan}), row)
				}
			}
		}
	}
}

func TestFullTable(t *testing.T) { // P19.1: no row more, no error, and the frame goes; a row that is there is learned anew
	a := fdb.Row{Vlan: 1, Addr: 4, Port: east, Seen: 5}
	b := fdb.Row{Vlan: 1, Addr: 6, Port: local, Seen: 6}
	x := known(t, 2, a, b)
	for _, shut := range shuts {
		for _, in := range ins(shut) {
			has(t, toOne(t, x, shut, 7, in, frame(4, 2), east), a, b)
			has(t, toOne(t, x, shut, 7, in, frame(6, 2), local), a, b)
			has(t, toAll(t, x, shut, 7, in, frame(8, 2)), a, b)
			has(t, toAll(t, x, shut, 7, in, frame(2, 2)), a, b)
			has(t, toAll(t, x, shut, 7, in, frame(mac.All, 2)), a, b)
			has(t, toAll(t, x, shut, 7, in, frame(mac.All, 6)), a, fdb.Row{Vlan: 1, Addr: 6, Port: in, Seen: 7})
		}
	}
}

func TestFullOfOldRows(t *testing.T) { // P19.1: old rows stand in a full table, too; one that is learned again isn't old
	a := fdb.Row{Vlan: 1, Addr: 4, Port: east, Seen: 5}
	x := known(t, 1, a)
	has(t, toAll(t, x, [2]bool{}, 500, west, frame(4, 2)), a)
	y := toAll(t, x, [2]bool{}, 500, west, frame(8, 4))
	has(t, y, fdb.Row{Vlan: 1, Addr: 4, Port: west, Seen: 500})
	toOne(t, y, [2]bool{}, 599, local, frame(4, 2), west)
}

func TestRoomIsKept(t *testing.T) { // P19.1: till the table is full each Src is learned, and none behind that
	for _, size := range []int{1, 2, 5, api.MaxTable} {
		x := empty(t, size, age)
		for i := range size + 2 {
			x = toAll(t, x, [2]bool{}, 7, i%3, frame(mac.All, mac.Addr(i)))
			if l := x.Rows(); len(l) != min(i+1, size) {
				t.Fatalf("%d rows behind %d frames, of room for %d", len(l), i+1, size)
			}
		}
	}
}

func TestToGroups(t *testing.T) { // P19.1: to all ports to which data pass from that one, rising, and told so
	x := known(t, room, fdb.Row{Vlan: 1, Addr: 4, Port: east, Seen: 5})
	for _, shut := range shuts {
		for _, in := range ins(shut) {
			for _, dst := range groups {
				toAll(t, x, shut, 6, in, frame(dst, 2))
			}
		}
	}
}

func TestToOneThatIsNotKnown(t *testing.T) { // P19.1: one that isn't in the table, is there of another VLAN alone, or is no address
	x := known(t, room,
		fdb.Row{Vlan: 2, Addr: 4, Port: east, Seen: 5},
		fdb.Row{Vlan: 4094, Addr: 4, Port: west, Seen: 5},
		fdb.Row{Vlan: 1, Addr: 5, Port: local, Seen: 5})
	for _, shut := range shuts {
		for _, in := range ins(shut) {
			for _, dst := range append([]mac.Addr{4, 6, 0, 0xfeffffffffff, 1<<32 | 5}, noAddrs...) {
				toAll(t, x, shut, 6, in, frame(dst, 2))
			}
		}
	}
}

func TestToOneThatIsOld(t *testing.T) { // P19.1: one tick ahead of its age it is gone to, at it and behind it to all
	for port := range 3 {
		x := known(t, room, fdb.Row{Vlan: 1, Addr: 4, Port: port, Seen: 50})
		for _, shut := range shuts {
			for _, in := range ins(shut) {
				for _, now := range []int64{50, 51, 148, 149} {
					toOne(t, x, shut, now, in, frame(4, 2), port)
				}
				for _, now := range []int64{150, 151, 1 << 32, 1<<32 + 50, maxTick} {
					toAll(t, x, shut, now, in, frame(4, 2))
				}
			}
		}
	}
}

func TestToOneThatIsKnown(t *testing.T) { // P19.1, P19.2: to its port alone, if data pass; to none, if it is shut or that very port
	for port := range 3 {
		x := known(t, room, fdb.Row{Vlan: 1, Addr: 4, Port: port, Seen: 5}, fdb.Row{Vlan: 2, Addr: 4, Port: (port + 1) % 3, Seen: 5})
		for _, shut := range shuts {
			for _, in := range ins(shut) {
				y := toOne(t, x, shut, 6, in, frame(4, 2), port)
				has(t, y,
					fdb.Row{Vlan: 1, Addr: 2, Port: in, Seen: 6},
					fdb.Row{Vlan: 1, Addr: 4, Port: port, Seen: 5},
					fdb.Row{Vlan: 2, Addr: 4, Port: (port + 1) % 3, Seen: 5})
			}
		}
	}
}

func TestToItself(t *testing.T) { // P19.1: a Dst that is the Src is looked up in the table then: learned at that very port
	for _, shut := range shuts {
		for _, in := range ins(shut) {
			at := fdb.Row{Vlan: 1, Addr: 2, Port: in, Seen: 6}
			has(t, goesTo(t, empty(t, room, age), shut, 6, in, frame(2, 2), false), at)
			for before := range 3 {
				x := known(t, room, fdb.Row{Vlan: 1, Addr: 2, Port: before, Seen: 5})
				has(t, goesTo(t, x, shut, 6, in, frame(2, 2), false), at)
			}
			old := known(t, room, fdb.Row{Vlan: 1, Addr: 2, Port: (in + 1) % 3})
			at.Seen = 5000
			has(t, goesTo(t, old, shut, 5000, in, frame(2, 2), false), at)
		}
	}
}

func TestNoPortIsLeft(t *testing.T) { // P19.1: it goes to all, and is told so, even if that is none
	shut := [2]bool{true, true}
	for _, dst := range []mac.Addr{mac.All, 0x0119a7000001, 4} {
		y := goesTo(t, empty(t, room, age), shut, 3, local, frame(dst, 2), true)
		has(t, y, fdb.Row{Vlan: 1, Addr: 2, Port: local, Seen: 3})
	}
}

func TestOtherFieldsDoNotMatter(t *testing.T) { // P19.1: where a frame goes hangs on its Dst, its Src and its Vlan alone
	x := known(t, room, fdb.Row{Vlan: 1, Addr: 4, Port: east, Seen: 5})
	long := string(make([]byte, 5000))
	for _, f := range []tagged.Frame{
		{}, {Pri: 7}, {Pri: 8}, {Pri: 255}, {Drop: true}, {Type: 1535}, {Type: 1536}, {Type: 0x8902}, {Type: math.MaxUint16},
		{Body: "x"}, {Body: long}, {Pri: 255, Drop: true, Type: math.MaxUint16, Body: long},
	} {
		f.Src, f.Vlan = 2, 1
		f.Dst = 4
		goesTo(t, x, [2]bool{}, 6, west, f, false, east)
		f.Dst = 6
		goesTo(t, x, [2]bool{}, 6, west, f, true, east, local)
		f.Dst = mac.All
		goesTo(t, x, [2]bool{}, 6, west, f, true, east, local)
	}
}

// model is the document's table, as a list.
type model struct {
	room int
	age  int64
	rows []fdb.Row
}

// find is where in the list the row of a VLAN and an address stands; -1, if there is none.
func (m model) find(vlan uint16, a mac.Addr) int {
	return slices.IndexFunc(m.rows, func(r fdb.Row) bool { return r.Vlan == vlan && r.Addr == a })
}

// learn makes the list know a Src, if it may be learned.
func (m *model) learn(r fdb.Row) {
	lowest := r.Addr >> 40 & 1
	if r.Vlan == 0 || r.Vlan >= 4095 || r.Addr>>48 != 0 || lowest == 1 {
		return
	}
	if i := m.find(r.Vlan, r.Addr); i >= 0 {
		m.rows[i] = r
	} else if len(m.rows) < m.room {
		m.rows = append(m.rows, r)
	}
}

// goes is where the document says that a frame goes.
func (m model) goes(shut [2]bool, now int64, in int, f tagged.Frame) (outs []int, flooded bool) {
	i := m.find(f.Vlan, f.Dst)
	if i >= 0 && now-m.rows[i].Seen < m.age {
		if port := m.rows[i].Port; port != in && isOpen(shut, port) {
			outs = append(outs, port)
		}
		return outs, false
	}
	return allFrom[shut][in], true
}

// sorted are the model's rows in the order of Rows.
func (m model) sorted() []fdb.Row {
	l := slices.Clone(m.rows)
	slices.SortFunc(l, func(a, b fdb.Row) int {
		if a.Vlan != b.Vlan {
			return int(a.Vlan) - int(b.Vlan)
		}
		if a.Addr < b.Addr {
			return -1
		}
		return 1
	})
	return l
}

// drawn is a frame of few addresses and VLANs, some of them wrong, so that many of a row of them meet.
func drawn(r *rand.Rand) tagged.Frame {
	addrs := []mac.Addr{2, 4, 6, 8, 10, 1, 3, mac.All, 0x0119a7000001, 1 << 48, 2 | 1<<48}
	vlans := []uint16{1, 2, 1, 2, 4094, 0, 4095}
	return tagged.Frame{Dst: addrs[r.Intn(len(addrs))], Src: addrs[r.Intn(len(addrs))], Vlan: vlans[r.Intn(len(vlans))]}
}

func TestDrawnRows(t *testing.T) { // P19.1, P19.2: rows of frames, as ports are shut and opened and rows grow old, as the model says
	for seed := range 300 {
		r := rand.New(rand.NewSource(int64(seed)))
		m := &model{room: 1 + r.Intn(8), age: 1 + r.Int63n(12)}
		x := empty(t, m.room, m.age)
		now, shut := int64(r.Intn(3)), [2]bool{}
		for range 150 {
			now += int64(r.Intn(3))
			if r.Intn(6) == 0 {
				shut = shuts[r.Intn(4)]
			}
			in, f := r.Intn(5)-1, drawn(r)
			switch {
			case in < 0 || in > 2:
				refuses(t, x, shut, now, in, f, api.ErrPort)
				continue
			case !isOpen(shut, in):
				refuses(t, x, shut, now, in, f, api.ErrState)
				continue
			}
			m.learn(fdb.Row{Vlan: f.Vlan, Addr: f.Src, Port: in, Seen: now})
			outs, flooded := m.goes(shut, now, in, f)
			x = goesTo(t, x, shut, now, in, f, flooded, outs...)
			has(t, x, m.sorted()...)
		}
	}
}

// learnedAt is the port at which an address was learned last, of frames that came one by one; -1, if at none.
func learnedAt(came []fdb.Row, f tagged.Frame) int {
	for _, r := range slices.Backward(came) {
		if r.Vlan == f.Vlan && r.Addr == f.Dst {
			return r.Port
		}
	}
	return -1
}

func TestWhatWasLearnedIsGoneTo(t *testing.T) { // P19.2: and no other port; nothing goes back, or through a shut port
	for seed := range 200 {
		r := rand.New(rand.NewSource(int64(seed)))
		// Room for all, and nothing grows old: what came last is known from the frames alone.
		x, shut := empty(t, api.MaxTable, api.MaxTime), [2]bool{}
		var came []fdb.Row
		for now := range int64(100) {
			if r.Intn(8) == 0 {
				shut = shuts[r.Intn(4)]
			}
			l := ins(shut)
			in := l[r.Intn(len(l))]
			f := frame(mac.Addr(2*r.Intn(6)), mac.Addr(2*r.Intn(6)))
			came = append(came, fdb.Row{Vlan: f.Vlan, Addr: f.Src, Port: in})
			y, outs, flooded, e := Go(x, shut, now, in, f)
			if e != api.OK || slices.Contains(outs, in) || !slices.IsSorted(outs) {
				t.Fatalf("from %d: %v, %v", in, outs, e)
			}
			at := learnedAt(came, f)
			if flooded != (at < 0) {
				t.Fatalf("learned at %d, but flooded is %v", at, flooded)
			}
			for _, out := range outs {
				if !isOpen(shut, out) || at >= 0 && out != at {
					t.Fatalf("%v: learned at %d, goes to %v", shut, at, outs)
				}
			}
			if at >= 0 && at != in && isOpen(shut, at) && len(outs) != 1 {
				t.Fatalf("%v: learned at %d, goes to %v", shut, at, outs)
			}
			x = y
		}
	}
}

func TestTablesStayAsTheyWere(t *testing.T) { // R3: the table that is handed in serves on, whatever is made of it
	row := fdb.Row{Vlan: 1, Addr: 4, Port: east, Seen: 5}
	x := known(t, room, row)
	y, _, _, _ := Go(x, [2]bool{}, 6, west, frame(4, 2))
	z, _, _, _ := Go(x, [2]bool{}, 7, local, frame(4, 6))
	w, _, _, _ := Go(y, [2]bool{}, 8, local, frame(4, 4))
	has(t, x, row)
	has(t, y, fdb.Row{Vlan: 1, Addr: 2, Port: west, Seen: 6}, row)
	has(t, z, row, fdb.Row{Vlan: 1, Addr: 6, Port: local, Seen: 7})
	has(t, w, fdb.Row{Vlan: 1, Addr: 2, Port: west, Seen: 6}, fdb.Row{Vlan: 1, Addr: 4, Port: local, Seen: 8})
	toOne(t, x, [2]bool{}, 9, west, frame(4, 8), east)
	toAll(t, x, [2]bool{}, 9, local, frame(2, 8))
}

func TestAnswersAreNew(t *testing.T) { // R3: who writes into an answer, or behind its end, changes no other one, earlier or later
	x := known(t, room, fdb.Row{Vlan: 1, Addr: 4, Port: east, Seen: 5})
	type came struct {
		in   int
		dst  mac.Addr
		want []int
	}
	list := []came{
		{west, 4, []int{east}}, {local, 4, []int{east}}, {east, 4, nil}, {west, 6, []int{east, local}},
		{local, mac.All, []int{west, east}}, {east, mac.All, []int{west, local}},
	}
	outsOf := func(c came) []int {
		_, outs, _, _ := Go(x, [2]bool{}, 6, c.in, frame(c.dst, 2))
		return outs
	}
	for _, a := range list {
		for _, b := range list {
			earlier := outsOf(a)
			written := outsOf(b)
			for i := range written[:cap(written)] {
				written[:cap(written)][i] = 9
			}
			if !slices.Equal(earlier, a.want) {
				t.Errorf("%v by a write into an answer of %v: %v", a, b, earlier)
			}
			if later := outsOf(a); !slices.Equal(later, a.want) {
				t.Errorf("%v behind a write into an answer of %v: %v", a, b, later)
			}
		}
	}
}

func TestWhatComesBeforeDoesNotMatter(t *testing.T) { // R5: the same call has the same answer, whatever was asked between
	x := known(t, room, fdb.Row{Vlan: 1, Addr: 4, Port: east, Seen: 5})
	for _, shut := range shuts {
		for in := -1; in <= 3; in++ {
			for _, dst := range []mac.Addr{4, 2, 6, mac.All} {
				Go(x, shut, 50, in, frame(dst, 10))
				goesTo(t, x, [2]bool{}, 6, west, frame(4, 2), false, east)
				goesTo(t, x, [2]bool{}, 6, west, frame(6, 2), true, east, local)
			}
		}
	}
}

func TestZeroTable(t *testing.T) { // R1: a table without room learns nothing, and a frame goes to all
	for _, shut := range shuts {
		for _, in := range ins(shut) {
			for _, dst := range []mac.Addr{2, 4, mac.All, 1 << 48} {
				has(t, toAll(t, fdb.Table{}, shut, 6, in, frame(dst, 2)))
			}
		}
	}
}

func TestAnyTick(t *testing.T) { // R1, R6: at ticks that aren't promised the call ends, and nothing panics
	x := known(t, room, fdb.Row{Vlan: 1, Addr: 4, Port: east, Seen: 5})
	for _, now := range []int64{-1, math.MinInt64, math.MinInt64 + 1, -farOff, farOff, maxTick + 1, math.MaxInt64 - 1, math.MaxInt64} {
		for _, shut := range shuts {
			for _, in := range append([]int{west, east, local}, noPorts...) {
				for _, f := range []tagged.Frame{frame(4, 2), frame(2, 4), frame(2, 2), frame(mac.All, 4), {}} {
					y, _, _, _ := Go(x, shut, now, in, f)
					Go(y, shut, now, in, f)
				}
			}
		}
	}
}
