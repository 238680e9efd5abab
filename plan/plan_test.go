package plan

import (
	"fmt"
	"math"
	"math/rand"
	"strings"
	"testing"

	"carousel/api"
	"carousel/ccm"
	"carousel/mac"
)

const maxTime = 1 << 20

// farOff are numbers that no field, no node and no port may have.
var farOff = []int64{
	-1, -2, -3, -16, -17, -4094, -maxTime, -1 << 31, -1<<31 - 1, -1 << 32, 1 - 1<<32, 5 - 1<<32, -1 << 40, math.MinInt64, math.MinInt64 + 1,
	maxTime + 1, maxTime + 2, 2 * maxTime, 1<<31 - 1, 1 << 31, 1<<32 - 1, 1 << 32, 1<<32 + 1, 1<<32 + 5, 1 << 40, 1<<48 + 5,
	math.MaxInt64 - 1, math.MaxInt64,
}

// right is a plan of which nothing is wrong.
func right() Plan { return ringOf(5, 2) }

// ringOf is a plan of so many nodes, of which that one is the owner.
func ringOf(nodes, owner int) Plan {
	return Plan{
		Nodes: nodes, Owner: owner, Level: 7, Data: 10, Ring: 20,
		Interval: 2, Hold: 3, Guard: 4, Rest: 20, Wait: 15, Gap: 1, Period: 5, Age: 100,
		Room: 16, Queue: 100, Revert: true,
	}
}

// rings are plans of every size and every owner.
func rings() []Plan {
	var out []Plan
	for nodes := 3; nodes <= 16; nodes++ {
		for owner := range nodes {
			out = append(out, ringOf(nodes, owner))
		}
	}
	return out
}

// number is one of a plan's numbers: how it is set, from where to where it may be, and what it is if it isn't so.
type number struct {
	name      string
	set       func(p *Plan, n int64)
	low, high int64
	wrong     api.Errno
	// What its type holds beside what it may be, if that isn't all of 64 bits.
	others []int64
}

// numbers are all of a plan's numbers, in the order of the chapter's errors.
func numbers() []number {
	vlans := []int64{0, 4095, 4096, 4097, 8192, 32767, 32768, 65534, 65535}
	return []number{
		{"Nodes", func(p *Plan, n int64) { p.Nodes = int(n) }, 3, 16, api.ErrRange, nil},
		{"Owner", func(p *Plan, n int64) { p.Owner = int(n) }, 0, 2, api.ErrRange, nil}, // of a plan of three nodes
		{"Level", func(p *Plan, n int64) { p.Level = uint8(n) }, 0, 7, api.ErrRange, []int64{8, 9, 15, 16, 127, 128, 254, 255}},
		{"Data", func(p *Plan, n int64) { p.Data = uint16(n) }, 1, 4094, api.ErrTag, vlans},
		{"Ring", func(p *Plan, n int64) { p.Ring = uint16(n) }, 1, 4094, api.ErrTag, vlans},
		{"Interval", func(p *Plan, n int64) { p.Interval = n }, 1, maxTime, api.ErrRange, nil},
		{"Guard", func(p *Plan, n int64) { p.Guard = n }, 1, maxTime, api.ErrRange, nil},
		{"Rest", func(p *Plan, n int64) { p.Rest = n }, 1, maxTime, api.ErrRange, nil},
		{"Wait", func(p *Plan, n int64) { p.Wait = n }, 1, maxTime, api.ErrRange, nil},
		{"Gap", func(p *Plan, n int64) { p.Gap = n }, 1, maxTime, api.ErrRange, nil},
		{"Period", func(p *Plan, n int64) { p.Period = n }, 1, maxTime, api.ErrRange, nil},
		{"Age", func(p *Plan, n int64) { p.Age = n }, 1, maxTime, api.ErrRange, nil},
		{"Hold", func(p *Plan, n int64) { p.Hold = n }, 0, maxTime, api.ErrRange, nil},
		{"Room", func(p *Plan, n int64) { p.Room = int(n) }, 1, 1024, api.ErrRange, nil},
		{"Queue", func(p *Plan, n int64) { p.Queue = int(n) }, 1, 256, api.ErrRange, nil},
	}
}

// wrongs are numbers that this one may not be: those beside its bounds first.
func (n number) wrongs() []int64 {
	if n.others != nil {
		return n.others
	}
	return append([]int64{n.low - 1, n.high + 1, n.low - 2, n.high + 2}, farOff...)
}

// broken are plans in which one number isn't so, each with its error, and one in which both VLANs are one.
func broken() map[string]Plan {
	out := map[string]Plan{"Data is Ring": ringOf(3, 1), "zero": {}}
	p := out["Data is Ring"]
	p.Ring = p.Data
	out["Data is Ring"] = p
	for _, n := range numbers() {
		for _, w := range n.wrongs() {
			p := ringOf(3, 1)
			n.set(&p, w)
			out[fmt.Sprintf("%s %d", n.name, w)] = p
		}
	}
	return out
}

// checks holds Check to an error.
func checks(t *testing.T, p Plan, want api.Errno) {
	t.Helper()
	was := p
	if e := p.Check(); e != want {
		t.Errorf("%+v: Check() = %v, want %v", p, e, want)
	}
	if p != was {
		t.Errorf("the plan is %+v, it was %+v", p, was)
	}
}

// nothing holds the calls of a node and a port to what they answer of others.
func nothing(t *testing.T, p Plan, i, port int) {
	t.Helper()
	if far, end := p.Far(i, port); far != -1 || end != -1 {
		t.Fatalf("%+v: Far(%d, %d) = %d, %d", p, i, port, far, end)
	}
	if n := p.End(i, port); n != 0 {
		t.Fatalf("%+v: End(%d, %d) = %d", p, i, port, n)
	}
}

// noNode holds the calls of a node to what they answer of others.
func noNode(t *testing.T, p Plan, i int) {
	t.Helper()
	if a := p.Node(i); a != 0 {
		t.Fatalf("%+v: Node(%d) = %v", p, i, a)
	}
	if a := p.Host(i); a != 0 {
		t.Fatalf("%+v: Host(%d) = %v", p, i, a)
	}
	if role, port := p.Role(i); role != Plain || port != -1 {
		t.Fatalf("%+v: Role(%d) = %d, %d", p, i, role, port)
	}
	for _, port := range []int{-1, api.West, api.East, api.Local, 3} {
		nothing(t, p, i, port)
	}
}

func TestExample(t *testing.T) { // P16.2: the chapter's example
	if node, end := ringOf(4, 1).Far(3, api.East); node != 0 || end != api.West {
		t.Fatal(node, end)
	}
}

func TestRoles(t *testing.T) { // P16.2: the roles' numbers
	if Plain != 0 || Owner != 1 || Neighbour != 2 {
		t.Fatal(Plain, Owner, Neighbour)
	}
}

func TestCheckOfRings(t *testing.T) { // P16.1: plans of every size and every owner may be
	for _, p := range rings() {
		checks(t, p, api.OK)
		p.Revert = false
		checks(t, p, api.OK)
	}
}

func TestCheckOfEachNumber(t *testing.T) { // P16.1: each number at both of its bounds, one beyond each, and far off
	for _, n := range numbers() {
		for _, may := range []int64{n.low, n.low + 1, (n.low + n.high) / 2, n.high - 1, n.high} {
			p := ringOf(3, 1)
			n.set(&p, may)
			checks(t, p, api.OK)
		}
		for _, w := range n.wrongs() {
			p := ringOf(3, 1)
			n.set(&p, w)
			checks(t, p, n.wrong)
		}
	}
}

func TestCheckOfNamedEdges(t *testing.T) { // P16.1: each edge as it is written out
	edges := []struct {
		name   string
		change func(p *Plan)
		want   api.Errno
	}{
		{"Nodes 2", func(p *Plan) { p.Nodes, p.Owner = 2, 0 }, api.ErrRange},
		{"Nodes 3", func(p *Plan) { p.Nodes = 3 }, api.OK},
		{"Nodes 16", func(p *Plan) { p.Nodes = 16 }, api.OK},
		{"Nodes 17", func(p *Plan) { p.Nodes = 17 }, api.ErrRange},
		{"Level 7", func(p *Plan) { p.Level = 7 }, api.OK},
		{"Level 8", func(p *Plan) { p.Level = 8 }, api.ErrRange},
		{"Data 0", func(p *Plan) { p.Data = 0 }, api.ErrTag},
		{"Data 1", func(p *Plan) { p.Data = 1 }, api.OK},
		{"Data 4094", func(p *Plan) { p.Data = 4094 }, api.OK},
		{"Data 4095", func(p *Plan) { p.Data = 4095 }, api.ErrTag},
		{"Ring 0", func(p *Plan) { p.Ring = 0 }, api.ErrTag},
		{"Ring 1", func(p *Plan) { p.Ring = 1 }, api.OK},
		{"Ring 4094", func(p *Plan) { p.Ring = 4094 }, api.OK},
		{"Ring 4095", func(p *Plan) { p.Ring = 4095 }, api.ErrTag},
		{"one VLAN", func(p *Plan) { p.Ring = p.Data }, api.ErrTag},
		{"Hold -1", func(p *Plan) { p.Hold = -1 }, api.ErrRange},
		{"Hold 0", func(p *Plan) { p.Hold = 0 }, api.OK},
		{"Hold 2^20", func(p *Plan) { p.Hold = 1 << 20 }, api.OK},
		{"Hold 2^20 and 1", func(p *Plan) { p.Hold = 1<<20 + 1 }, api.ErrRange},
		{"Room 0", func(p *Plan) { p.Room = 0 }, api.ErrRange},
		{"Room 1", func(p *Plan) { p.Room = 1 }, api.OK},
		{"Room 1024", func(p *Plan) { p.Room = 1024 }, api.OK},
		{"Room 1025", func(p *Plan) { p.Room = 1025 }, api.ErrRange},
		{"Queue 0", func(p *Plan) { p.Queue = 0 }, api.ErrRange},
		{"Queue 1", func(p *Plan) { p.Queue = 1 }, api.OK},
		{"Queue 256", func(p *Plan) { p.Queue = 256 }, api.OK},
		{"Queue 257", func(p *Plan) { p.Queue = 257 }, api.ErrRange},
	}
	for _, edge := range edges {
		p := right()
		edge.change(&p)
		if e := p.Check(); e != edge.want {
			t.Errorf("%s: Check() = %v, want %v", edge.name, e, edge.want)
		}
	}
	for _, n := range numbers() {
		for _, edge := range []struct {
			ticks int64
			want  api.Errno
		}{{0, api.ErrRange}, {1, api.OK}, {1 << 20, api.OK}, {1<<20 + 1, api.ErrRange}} {
			if n.low != 1 || n.high != maxTime {
				continue // it is no ticks, or Hold
			}
			p := right()
			n.set(&p, edge.ticks)
			if e := p.Check(); e != edge.want {
				t.Errorf("%s %d: Check() = %v, want %v", n.name, edge.ticks, e, edge.want)
			}
		}
	}
}

func TestCheckOfOwners(t *testing.T) { // P16.1: the owner is one of the plan's nodes, whatever its size
	for nodes := 3; nodes <= 16; nodes++ {
		for owner := -3; owner <= 20; owner++ {
			want := api.OK
			if owner < 0 || owner > nodes-1 {
				want = api.ErrRange
			}
			checks(t, ringOf(nodes, owner), want)
		}
		for _, owner := range farOff {
			checks(t, ringOf(nodes, int(owner)), api.ErrRange)
		}
	}
	// A size that may not be has no owner that makes it one that may.
	for _, nodes := range append([]int64{0, 1, 2, 17, 18, 32}, farOff...) {
		for _, owner := range []int64{nodes - 1, 0, 1, 2, nodes / 2, nodes} {
			checks(t, ringOf(int(nodes), int(owner)), api.ErrRange)
		}
	}
}

func TestCheckOfEachLevel(t *testing.T) { // P16.1: every level that its type holds
	for level := range 256 {
		p := right()
		p.Level = uint8(level)
		want := api.OK
		if level > 7 {
			want = api.ErrRange
		}
		checks(t, p, want)
	}
}

func TestCheckOfVlans(t *testing.T) { // P16.1: every VLAN that its type holds, and any two of some
	vlan := func(data, ring int) {
		t.Helper()
		p := right()
		p.Data, p.Ring = uint16(data), uint16(ring)
		want := api.OK
		if data == 0 || data > 4094 || ring == 0 || ring > 4094 || data == ring {
			want = api.ErrTag
		}
		checks(t, p, want)
	}
	for n := range 65536 {
		vlan(n, 20)
		vlan(10, n)
		vlan(n, n)
	}
	some := []int{0, 1, 2, 10, 2047, 2048, 4093, 4094, 4095, 4096, 4097, 65535}
	for _, data := range some {
		for _, ring := range some {
			vlan(data, ring)
		}
	}
}

// fault makes a plan wrong: where it stands in the chapter's order of errors, and with which error.
type fault struct {
	name  string
	at    int
	make  func(p *Plan)
	wrong api.Errno
}

// faults are all numbers beside and beyond their bounds, and both VLANs the same.
func faults() []fault {
	at := map[string]int{"Nodes": 0, "Owner": 0, "Level": 0, "Data": 1, "Ring": 1}
	out := []fault{{"Data is Ring", 1, func(p *Plan) { p.Ring = p.Data }, api.ErrTag}}
	for _, n := range numbers() {
		place, early := at[n.name]
		if !early {
			place = 2
		}
		ws := n.wrongs()
		for _, w := range []int64{ws[0], ws[1], ws[len(ws)-1]} {
			out = append(out, fault{fmt.Sprintf("%s %d", n.name, w), place, func(p *Plan) { n.set(p, w) }, n.wrong})
		}
	}
	return out
}

func TestCheckOfTwoFaults(t *testing.T) { // P16.1, R2: of two faults the one that the chapter names first
	all := faults()
	for _, one := range all {
		for _, other := range all {
			p := ringOf(3, 1)
			one.make(&p)
			other.make(&p)
			want := one.wrong
			if other.at < one.at {
				want = other.wrong
			}
			if e := p.Check(); e != want {
				t.Errorf("%s, %s: Check() = %v, want %v", one.name, other.name, e, want)
			}
		}
	}
}

func TestCheckOfSeveralFaults(t *testing.T) { // P16.1, R2: of any number of faults likewise
	from := rand.New(rand.NewSource(16))
	all := faults()
	for range 20000 {
		p := ringOf(3, 1)
		first, want := 3, api.OK
		var names []string
		for range from.Intn(5) {
			f := all[from.Intn(len(all))]
			f.make(&p)
			names = append(names, f.name)
			if f.at < first {
				first, want = f.at, f.wrong
			}
		}
		// A later fault of one number may stand over an earlier one, but it is one of the same place.
		if e := p.Check(); e != want {
			t.Fatalf("%v: Check() = %v, want %v", names, e, want)
		}
	}
	everything := ringOf(3, 1)
	for _, f := range all {
		f.make(&everything)
	}
	checks(t, everything, api.ErrRange)
	everything.Nodes, everything.Owner, everything.Level = 3, 1, 7
	checks(t, everything, api.ErrTag)
	everything.Data, everything.Ring = 1, 2
	checks(t, everything, api.ErrRange)
	checks(t, Plan{}, api.ErrRange)
}

// addrOf is an address by its bytes, of which but the first and the last are 0.
func addrOf(t *testing.T, first byte, last int) mac.Addr {
	t.Helper()
	a, e := mac.Of(string([]byte{first, 0, 0, 0, 0, byte(last)}))
	if e != api.OK {
		t.Fatal(e)
	}
	return a
}

func TestAddresses(t *testing.T) { // P16.2: Node is 02:00:00:00:00:01 and i more, Host 06:00:00:00:00:01 and i more
	for _, p := range rings() {
		for i := range p.Nodes {
			if a := p.Node(i); a != addrOf(t, 2, i+1) {
				t.Fatalf("%+v: Node(%d) = %v", p, i, a)
			}
			if a := p.Host(i); a != addrOf(t, 6, i+1) {
				t.Fatalf("%+v: Host(%d) = %v", p, i, a)
			}
		}
	}
	p := ringOf(16, 0)
	if p.Node(0).String() != "02:00:00:00:00:01" || p.Host(0).String() != "06:00:00:00:00:01" {
		t.Fatal(p.Node(0), p.Host(0))
	}
	if p.Node(15).String() != "02:00:00:00:00:10" || p.Host(15).String() != "06:00:00:00:00:10" {
		t.Fatal(p.Node(15), p.Host(15))
	}
}

func TestRole(t *testing.T) { // P16.2: the owner and East, the node behind it and West, all others plain and -1
	for _, p := range rings() {
		for i := range p.Nodes {
			wantRole, wantPort := 0, -1
			switch {
			case i == p.Owner:
				wantRole, wantPort = 1, 1
			case i == p.Owner+1, i == 0 && p.Owner == p.Nodes-1:
				wantRole, wantPort = 2, 0
			}
			if role, port := p.Role(i); role != wantRole || port != wantPort {
				t.Fatalf("%+v: Role(%d) = %d, %d; want %d, %d", p, i, role, port, wantRole, wantPort)
			}
		}
	}
}

func TestFar(t *testing.T) { // P16.2: the east port of a node is on one line with the west port of the node behind it
	for _, p := range rings() {
		for i := range p.Nodes {
			behind := i + 1
			if i == p.Nodes-1 {
				behind = 0
			}
			if node, end := p.Far(i, api.East); node != behind || end != api.West {
				t.Fatalf("%+v: Far(%d, East) = %d, %d", p, i, node, end)
			}
			if node, end := p.Far(behind, api.West); node != i || end != api.East {
				t.Fatalf("%+v: Far(%d, West) = %d, %d", p, behind, node, end)
			}
		}
	}
}

func TestEnd(t *testing.T) { // P16.2: twice i, the port, and 1, together: one behind the other, from 1 on
	for _, p := range rings() {
		want := uint16(1)
		for i := range p.Nodes {
			for _, port := range []int{api.West, api.East} {
				if n := p.End(i, port); n != want {
					t.Fatalf("%+v: End(%d, %d) = %d, want %d", p, i, port, n, want)
				}
				want++
			}
		}
	}
}

func TestOtherNodes(t *testing.T) { // P16.2: of nodes that aren't the plan's, at every port
	for _, p := range rings() {
		for _, i := range []int{-1, -2, -p.Nodes, p.Nodes, p.Nodes + 1, 2 * p.Nodes, 16, 17, 255, 256, 257, 1 << 16} {
			if i < 0 || i >= p.Nodes {
				noNode(t, p, i)
			}
		}
		for _, i := range farOff {
			noNode(t, p, int(i))
		}
	}
}

func TestOtherPorts(t *testing.T) { // P16.2: of ports that aren't a ring's, at every node
	ports := []int{-1, -2, api.Local, 3, 4, 16, 255, 256, 257, 1 << 16, 1<<16 + 1}
	for _, port := range farOff {
		ports = append(ports, int(port))
	}
	for _, p := range rings() {
		for i := range p.Nodes {
			for _, port := range ports {
				nothing(t, p, i, port)
			}
		}
	}
}

func TestOtherPlans(t *testing.T) { // P16.2: of plans that may not be, at nodes that such a ring would have, and at others
	for name, p := range broken() {
		if p.Check() == api.OK {
			t.Fatal(name)
		}
		for i := -2; i < 20; i++ {
			noNode(t, p, i)
		}
		for _, i := range farOff {
			noNode(t, p, int(i))
		}
		// The node that it names as its owner, the one behind it, and those about its end.
		for _, i := range []int{p.Owner, p.Owner + 1, p.Nodes - 1, p.Nodes, p.Nodes / 2} {
			noNode(t, p, i)
		}
	}
}

func TestOtherNumbersPlayNoPart(t *testing.T) { // P16.2: of what calls answer all but Nodes and Owner is no matter, while the plan may be
	q := Plan{
		Nodes: 5, Owner: 2, Level: 0, Data: 4094, Ring: 1,
		Interval: maxTime, Hold: 0, Guard: 1, Rest: maxTime, Wait: 1, Gap: maxTime, Period: 1, Age: maxTime,
		Room: 1024, Queue: 1,
	}
	checks(t, q, api.OK)
	for i := range 5 {
		p := right()
		pr, pp := p.Role(i)
		qr, qp := q.Role(i)
		if p.Node(i) != q.Node(i) || p.Host(i) != q.Host(i) || pr != qr || pp != qp {
			t.Fatal(i)
		}
		for _, port := range []int{api.West, api.East} {
			pn, pe := p.Far(i, port)
			qn, qe := q.Far(i, port)
			if pn != qn || pe != qe || p.End(i, port) != q.End(i, port) {
				t.Fatal(i, port)
			}
		}
	}
}

func TestGroup(t *testing.T) { // P16.2: Name of carousel, of any plan
	want := "carousel" + strings.Repeat("\x00", 40)
	if want != ccm.Name("carousel") {
		t.Fatalf("%q", ccm.Name("carousel"))
	}
	plans := append(rings(), Plan{})
	for _, p := range broken() {
		plans = append(plans, p)
	}
	for _, p := range plans {
		if s := p.Group(); s != want {
			t.Fatalf("%+v: Group() = %q", p, s)
		}
	}
}

func TestFarOfFar(t *testing.T) { // P16.3: the far end's far end is the port itself, and no port is its own far end
	for _, p := range rings() {
		for i := range p.Nodes {
			for _, port := range []int{api.West, api.East} {
				node, end := p.Far(i, port)
				if node == i || end == port {
					t.Fatalf("%+v: Far(%d, %d) = %d, %d", p, i, port, node, end)
				}
				if n, q := p.Far(node, end); n != i || q != port {
					t.Fatalf("%+v: Far(%d, %d) = %d, %d, whose far end is %d, %d", p, i, port, node, end, n, q)
				}
			}
		}
	}
}

func TestAround(t *testing.T) { // P16.3: going east, or west, as often as there are nodes leads back, by every node once
	for _, p := range rings() {
		for _, port := range []int{api.West, api.East} {
			for from := range p.Nodes {
				met := map[int]bool{}
				at := from
				for range p.Nodes {
					at, _ = p.Far(at, port)
					met[at] = true
				}
				if at != from || len(met) != p.Nodes {
					t.Fatalf("%+v: from %d by %d: at %d, by %v", p, from, port, at, met)
				}
			}
		}
	}
}

func TestUnlike(t *testing.T) { // P16.3: addresses and ends of a ring are unlike, no address is a group's, and no end is 0
	for _, p := range rings() {
		addrs, ends := map[mac.Addr]bool{}, map[uint16]bool{}
		for i := range p.Nodes {
			for _, a := range []mac.Addr{p.Node(i), p.Host(i)} {
				if addrs[a] || a == 0 || !a.May() || a.Group() {
					t.Fatalf("%+v: node %d: %v", p, i, a)
				}
				addrs[a] = true
			}
			for _, port := range []int{api.West, api.East} {
				n := p.End(i, port)
				if ends[n] || n == 0 || n > 8191 {
					t.Fatalf("%+v: End(%d, %d) = %d", p, i, port, n)
				}
				ends[n] = true
			}
		}
	}
}

func TestOneOwner(t *testing.T) { // P16.3: each ring has one owner and one neighbour, which stands behind it, on its line
	for _, p := range rings() {
		var owners, neighbours []int
		for i := range p.Nodes {
			switch role, _ := p.Role(i); role {
			case Owner:
				owners = append(owners, i)
			case Neighbour:
				neighbours = append(neighbours, i)
			}
		}
		if len(owners) != 1 || len(neighbours) != 1 || owners[0] != p.Owner {
			t.Fatalf("%+v: owners %v, neighbours %v", p, owners, neighbours)
		}
		_, ownerPort := p.Role(owners[0])
		_, neighbourPort := p.Role(neighbours[0])
		if node, end := p.Far(owners[0], ownerPort); node != neighbours[0] || end != neighbourPort {
			t.Fatalf("%+v: behind the owner is %d, %d; the neighbour is %d, %d", p, node, end, neighbours[0], neighbourPort)
		}
	}
}

func TestMessagesOfEnds(t *testing.T) { // P16.3: the ends, the group and the level of a plan are such that ports may tell each other
	for _, p := range rings() {
		for i := range p.Nodes {
			for _, port := range []int{api.West, api.East} {
				if _, e := ccm.Close(ccm.Msg{Period: 4, End: p.End(i, port), Group: p.Group()}, p.Level); e != api.OK {
					t.Fatalf("%+v: End(%d, %d) = %d: %v", p, i, port, p.End(i, port), e)
				}
			}
		}
	}
}

func TestNothingIsKept(t *testing.T) { // R5: a call that is made twice answers the same, whatever was called between
	type answers struct {
		check                 api.Errno
		node, host            mac.Addr
		role, own, far, other int
		end                   uint16
		group                 string
	}
	of := func(p Plan, i, port int) answers {
		a := answers{check: p.Check(), node: p.Node(i), host: p.Host(i), end: p.End(i, port), group: p.Group()}
		a.role, a.own = p.Role(i)
		a.far, a.other = p.Far(i, port)
		return a
	}
	from := rand.New(rand.NewSource(5))
	all, others := rings(), broken()
	for range 200 {
		p := all[from.Intn(len(all))]
		i, port := from.Intn(p.Nodes), from.Intn(2)
		was, first := p, of(p, i, port)
		for _, q := range others {
			of(q, from.Intn(20)-2, from.Intn(4)-1)
		}
		if again := of(p, i, port); again != first || p != was {
			t.Fatalf("%+v: of %d, %d: %+v, then %+v", was, i, port, first, again)
		}
	}
}

func TestAnything(t *testing.T) { // R1: whatever is handed in, every call ends, and none panics
	from := rand.New(rand.NewSource(1))
	all := append([]int64{0, 1, 2, 3, 4, 7, 8, 15, 16, 17, 256, 257, 1024, 1025, 4094, 4095, maxTime}, farOff...)
	some := func() int64 { return all[from.Intn(len(all))] }
	for range 50000 {
		var p Plan
		for _, n := range numbers() {
			n.set(&p, some())
		}
		i, port := int(some()), int(some())
		p.Check()
		p.Node(i)
		p.Host(i)
		p.Role(i)
		p.Far(i, port)
		p.End(i, port)
		p.Group()
	}
}
