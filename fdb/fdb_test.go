package fdb

import (
	"cmp"
	"math"
	"math/rand"
	"slices"
	"testing"

	"carousel/api"
	"carousel/mac"
)

const (
	maxRoom = 1024
	maxTime = 1 << 20
	maxTick = 1 << 40
	farOff  = 1 << 50
	lastOne = 0xfeffffffffff // the greatest address that is no group's
)

var (
	wrongVlans = []uint16{0, 4095, 4096, 4097, 8190, math.MaxUint16}
	// Groups' addresses, and numbers that are none.
	wrongAddrs = []mac.Addr{mac.All, 1 << 40, 0x0119a7000001, 0x0180c2000030, 1 << 48, 1<<48 + 1, 1<<48 | 1<<40, 1 << 63, math.MaxUint64}
	wrongPorts = []int{-1, 3, 4, -2, 256, 1 << 32, math.MinInt, math.MaxInt}
)

// empty is a table without rows.
func empty(t *testing.T, room int, age int64) Table {
	t.Helper()
	x, e := New(room, age)
	if e != api.OK {
		t.Fatalf("New(%d, %d) = %v", room, age, e)
	}
	rows(t, x)
	return x
}

// rows holds a table to having just these rows, in this order.
func rows(t *testing.T, x Table, want ...Row) {
	t.Helper()
	if l := x.Rows(); !slices.Equal(l, want) {
		t.Fatalf("Rows() = %v, want %v", l, want)
	}
}

// learned is the table that knows one more, or knows it anew.
func learned(t *testing.T, x Table, r Row) Table {
	t.Helper()
	y, e := x.Learn(r.Seen, r.Vlan, r.Addr, r.Port)
	if e != api.OK {
		t.Fatalf("Learn(%d, %d, %v, %d) = %v", r.Seen, r.Vlan, r.Addr, r.Port, e)
	}
	return y
}

// filled is a table of just that room, full of rows.
func filled(t *testing.T, age int64, l ...Row) Table {
	t.Helper()
	x := empty(t, len(l), age)
	for _, r := range l {
		x = learned(t, x, r)
	}
	return x
}

// refused holds Learn to an error, and to answering the table as it was.
func refused(t *testing.T, x Table, r Row, want api.Errno) {
	t.Helper()
	was := x.Rows()
	y, e := x.Learn(r.Seen, r.Vlan, r.Addr, r.Port)
	if e != want {
		t.Fatalf("Learn(%d, %d, %#x, %d) = %v, want %v", r.Seen, r.Vlan, uint64(r.Addr), r.Port, e, want)
	}
	rows(t, x, was...)
	rows(t, y, was...)
	for _, r := range was {
		finds(t, y, r.Seen, r)
	}
}

// finds holds Look to telling a row's port.
func finds(t *testing.T, x Table, now int64, r Row) {
	t.Helper()
	if port, ok := x.Look(now, r.Vlan, r.Addr); port != r.Port || !ok {
		t.Fatalf("Look(%d, %d, %v) = %d, %v, want %d", now, r.Vlan, r.Addr, port, ok, r.Port)
	}
}

// misses holds Look to telling nothing.
func misses(t *testing.T, x Table, now int64, vlan uint16, a mac.Addr) {
	t.Helper()
	if port, ok := x.Look(now, vlan, a); port != -1 || ok {
		t.Fatalf("Look(%d, %d, %#x) = %d, %v, want -1", now, vlan, uint64(a), port, ok)
	}
}

func TestExample(t *testing.T) { // P11.1, P11.2
	x := learned(t, empty(t, 4, 10), Row{1, 8, 0, 0})
	x = learned(t, x, Row{1, 8, 1, 0})
	finds(t, x, 0, Row{1, 8, 1, 0})
	rows(t, x, Row{1, 8, 1, 0})
}

func TestNew(t *testing.T) { // P11.1: each room and age that is so, alone and both wrong
	rooms := map[int]bool{-1: false, 0: false, 1: true, 2: true, 1023: true, 1024: true, 1025: false, 2048: false, 1 << 32: false, math.MinInt: false, math.MaxInt: false}
	ages := map[int64]bool{-1: false, 0: false, 1: true, 2: true, maxTime - 1: true, maxTime: true, maxTime + 1: false, 1 << 32: false, 1<<32 + 1: false, math.MinInt64: false, math.MaxInt64: false}
	for room, roomOk := range rooms {
		for age, ageOk := range ages {
			want := api.ErrRange
			if roomOk && ageOk {
				want = api.OK
			}
			x, e := New(room, age)
			if e != want {
				t.Fatalf("New(%d, %d) = %v, want %v", room, age, e, want)
			}
			rows(t, x)
			misses(t, x, 0, 1, 8)
			if e != api.OK && (x.room != 0 || x.age != 0 || x.rows != nil) {
				t.Fatalf("New(%d, %d) = %v, %v", room, age, x, e)
			}
			if e == api.OK {
				y := learned(t, x, Row{1, 8, 1, 7})
				finds(t, y, 7+age-1, Row{1, 8, 1, 7})
				misses(t, y, 7+age, 1, 8)
			}
		}
	}
}

func TestRoom(t *testing.T) { // P11.1, P11.3: as many rows as Room, and no more
	for _, room := range []int{1, 2, 3, 17, maxRoom - 1, maxRoom} {
		x := empty(t, room, 5)
		var want []Row
		for i := range room {
			if n := len(x.Rows()); n != i {
				t.Fatalf("%d rows, want %d", n, i)
			}
			r := Row{uint16(1 + i), mac.Addr(2 * i), i % 3, int64(i)}
			x = learned(t, x, r)
			want = append(want, r)
		}
		rows(t, x, want...)
		refused(t, x, Row{4094, 8, 0, int64(room)}, api.ErrFull)
		refused(t, x, Row{1, 1, 0, int64(room)}, api.ErrFull)
	}
}

func TestLearn(t *testing.T) { // P11.1: the edges of VLANs, addresses, ports and ticks
	for _, vlan := range []uint16{1, 2, 100, 4093, 4094} {
		for _, a := range []mac.Addr{0, 1, 0x020000000001, 0x00ffffffffff, 1 << 47, lastOne - 1, lastOne} {
			for port := range 3 {
				for _, now := range []int64{0, 1, maxTick - 1, maxTick} {
					r := Row{vlan, a, port, now}
					x := learned(t, empty(t, 1, 10), r)
					rows(t, x, r)
					finds(t, x, now, r)
				}
			}
		}
	}
}

func TestLearnWrong(t *testing.T) { // P11.1: each thing wrong alone, and several together, by the first
	held := Row{1, 8, 1, 3}
	full := filled(t, 5, held)
	roomy := learned(t, empty(t, 2, 5), held)
	vlans := append([]uint16{1, 4094}, wrongVlans...)
	addrs := append([]mac.Addr{9, lastOne}, wrongAddrs...)
	ports := append([]int{0, 2}, wrongPorts...)
	for i, vlan := range vlans {
		for j, a := range addrs {
			for k, port := range ports {
				r := Row{vlan, a, port, 4}
				want := api.OK
				switch {
				case i > 1:
					want = api.ErrRange
				case j > 1:
					want = api.ErrForm
				case k > 1:
					want = api.ErrPort
				}
				if want == api.OK {
					refused(t, full, r, api.ErrFull)
					learned(t, roomy, r)
					continue
				}
				refused(t, full, r, want)
				refused(t, roomy, r, want)
				refused(t, empty(t, 1, 5), r, want)
			}
		}
	}
}

func TestLearnWrongOfKnown(t *testing.T) { // P11.1: a row that is there keeps its port and tick beside an error
	held := Row{1, 8, 1, 3}
	for _, x := range []Table{filled(t, 5, held), learned(t, empty(t, 2, 5), held)} {
		for _, port := range wrongPorts {
			refused(t, x, Row{1, 8, port, 4}, api.ErrPort)
		}
		for _, vlan := range wrongVlans {
			refused(t, x, Row{vlan, 8, 1, 4}, api.ErrRange)
		}
		// Beyond 48 bits and 12 bits nothing is cut off.
		refused(t, x, Row{1, 8 | 1<<48, 1, 4}, api.ErrForm)
		refused(t, x, Row{1 | 1<<12, 8, 1, 4}, api.ErrRange)
	}
}

func TestFull(t *testing.T) { // P11.1: old rows count, too; one that is there is learned again
	x := filled(t, 2, Row{1, 4, 0, 0}, Row{1, 6, 1, 1}, Row{2, 4, 2, 50})
	for _, now := range []int64{50, 51, 52, 1000, maxTick} {
		refused(t, x, Row{1, 8, 0, now}, api.ErrFull)
		refused(t, x, Row{2, 6, 0, now}, api.ErrFull)
		refused(t, x, Row{3, 4, 0, now}, api.ErrFull)
		again := Row{1, 4, 2, now}
		y := learned(t, x, again)
		rows(t, y, again, Row{1, 6, 1, 1}, Row{2, 4, 2, 50})
		finds(t, y, now, again)
	}
	// Where rows are gone, there is room for as many.
	y := learned(t, x.Sweep(50), Row{3, 8, 0, 50})
	y = learned(t, y, Row{3, 4, 0, 50})
	rows(t, y, Row{2, 4, 2, 50}, Row{3, 4, 0, 50}, Row{3, 8, 0, 50})
	refused(t, y, Row{3, 2, 0, 50}, api.ErrFull)
	y = learned(t, x.Flush(1), Row{3, 8, 0, 50})
	rows(t, y, Row{1, 4, 0, 0}, Row{2, 4, 2, 50}, Row{3, 8, 0, 50})
	refused(t, y, Row{1, 6, 0, 50}, api.ErrFull)
}

func TestLearnAgain(t *testing.T) { // P11.1, P11.3: at another port, at a later tick, and both: one row, the last
	x := learned(t, empty(t, 3, 5), Row{7, 8, 0, 10})
	x = learned(t, x, Row{7, 6, 2, 10})
	for _, r := range []Row{{7, 8, 1, 10}, {7, 8, 1, 12}, {7, 8, 2, 14}, {7, 8, 2, 14}, {7, 8, 0, 30}, {7, 8, 1, maxTick}} {
		x = learned(t, x, r)
		rows(t, x, Row{7, 6, 2, 10}, r)
		finds(t, x, r.Seen, r)
		finds(t, x, r.Seen+4, r)
		misses(t, x, r.Seen+5, 7, 8)
	}
	misses(t, x, 15, 7, 6)
	finds(t, x, 14, Row{7, 6, 2, 10})
}

func TestLook(t *testing.T) { // P11.2: one tick ahead of, at and behind that at which a row is old, and far off
	for _, age := range []int64{1, 2, 10, 1000, maxTime} {
		for _, seen := range []int64{0, 1, 17, maxTime, maxTick - 1, maxTick} {
			r := Row{5, 8, 2, seen}
			x := learned(t, empty(t, 1, age), r)
			end := seen + age
			for _, now := range []int64{-farOff, -farOff + 1, -maxTick, -maxTime, -1, 0, seen - age, seen - 1, seen, end - 1} {
				if now < end {
					finds(t, x, now, r)
				}
			}
			for _, now := range []int64{end, end + 1, end + 2, end + maxTime, end + maxTick, farOff - 1, farOff} {
				misses(t, x, now, 5, 8)
			}
		}
	}
}

func TestLookElsewhere(t *testing.T) { // P11.2: of a VLAN or an address that isn't there
	x := learned(t, empty(t, 4, 10), Row{5, 8, 2, 0})
	x = learned(t, x, Row{6, 4, 1, 0})
	for _, now := range []int64{-farOff, -1, 0, 9, 10, farOff} {
		for _, vlan := range append([]uint16{1, 4, 7, 5 | 1<<12, 4094}, wrongVlans...) {
			misses(t, x, now, vlan, 8)
			misses(t, x, now, vlan, 4)
		}
		for _, a := range append([]mac.Addr{0, 7, 9, 8 | 1<<40, 8 | 1<<48, lastOne}, wrongAddrs...) {
			misses(t, x, now, 5, a)
			misses(t, x, now, 6, a)
		}
		misses(t, x, now, 5, 4)
		misses(t, x, now, 6, 8)
		misses(t, empty(t, 4, 10), now, 5, 8)
	}
}

func TestSweep(t *testing.T) { // P11.2: rows on both sides of the tick at which they are old
	l := []Row{{1, 2, 0, 0}, {1, 4, 1, 9}, {2, 2, 2, 10}, {2, 6, 0, 11}, {3, 2, 1, 20}}
	x := filled(t, 10, l...)
	for now := int64(20); now < 40; now++ {
		var want []Row
		for _, r := range l {
			if now < r.Seen+10 {
				want = append(want, r)
			}
		}
		y := x.Sweep(now)
		rows(t, y, want...)
		rows(t, y.Sweep(now), want...)
		rows(t, x, l...)
		for _, r := range want {
			finds(t, y, now, r)
		}
	}
	rows(t, x.Sweep(maxTick))
	rows(t, empty(t, 3, 10).Sweep(maxTick))
	// Swept early, late, and at the last of ticks.
	for _, seen := range []int64{0, 1, maxTick - maxTime, maxTick - 1, maxTick} {
		r := Row{5, 8, 2, seen}
		for _, age := range []int64{1, maxTime} {
			y := learned(t, empty(t, 1, age), r)
			rows(t, y.Sweep(seen), r)
			rows(t, y.Sweep(seen+age-1), r)
			if seen+age <= maxTick {
				rows(t, y.Sweep(seen+age))
			}
		}
	}
}

func TestFlush(t *testing.T) { // P11.2: each port, one of no row, a negative one, one beyond 2; whatever is old
	l := []Row{{1, 2, 0, 0}, {1, 4, 2, 9}, {2, 2, 2, 10}, {2, 6, 0, 11}, {3, 2, 1, 20}}
	x := filled(t, 10, l...)
	rows(t, x.Flush(0), l[1], l[2], l[4])
	rows(t, x.Flush(1), l[0], l[1], l[2], l[3])
	rows(t, x.Flush(2), l[0], l[3], l[4])
	rows(t, x.Flush(1).Flush(1), l[0], l[1], l[2], l[3])
	rows(t, x.Flush(0).Flush(2), l[4])
	rows(t, x.Flush(0).Flush(1).Flush(2))
	for _, port := range []int{3, 4, 256, 1 << 32, math.MaxInt} {
		rows(t, x.Flush(port), l...)
	}
	for _, port := range []int{-1, -2, -3, math.MinInt} {
		rows(t, x.Flush(port))
		rows(t, empty(t, 3, 10).Flush(port))
	}
	for port := range 3 {
		rows(t, empty(t, 3, 10).Flush(port))
	}
	rows(t, x, l...)
	// What is left is looked up as ever, what is gone isn't, and may be learned again.
	y := x.Flush(2)
	finds(t, y, 20, l[3])
	misses(t, y, 9, 1, 4)
	rows(t, learned(t, y, Row{1, 4, 1, 21}), l[0], Row{1, 4, 1, 21}, l[3], l[4])
}

// manyRows are rows by rising VLANs, and of one by rising addresses, with both wide apart and close together.
func manyRows() []Row {
	var l []Row
	for i, vlan := range []uint16{1, 2, 255, 256, 257, 2048, 4093, 4094} {
		for j, a := range []mac.Addr{0, 1, 2, 255, 256, 1 << 32, 1 << 41, 1 << 47, lastOne} {
			l = append(l, Row{vlan, a, (i + j) % 3, int64(i*j + j)})
		}
	}
	return l
}

func TestRows(t *testing.T) { // P11.2: by VLANs and then by addresses, whatever the order in which they were learned
	l := manyRows()
	r := rand.New(rand.NewSource(1))
	for range 100 {
		x := empty(t, len(l)+r.Intn(2), 1)
		for _, i := range r.Perm(len(l)) {
			x = learned(t, x, l[i])
		}
		for range 3 {
			rows(t, x, l...)
		}
	}
	slices.Reverse(l)
	x := filled(t, 1, l...)
	slices.Reverse(l)
	rows(t, x, l...)
}

func TestManyRows(t *testing.T) { // P11.2, P11.3: from none to as many as there may be
	r := rand.New(rand.NewSource(2))
	x := empty(t, maxRoom, 5)
	var want []Row
	for i := range maxRoom {
		if i%64 == 0 || i == maxRoom-1 {
			rows(t, x, want...)
		}
		row := Row{uint16(1 + r.Intn(40)), mac.Addr(r.Intn(1 << 20)), r.Intn(3), int64(i)}
		x = learned(t, x, row)
		want = learn(want, row)
	}
	rows(t, x, want...)
	rows(t, x.Sweep(maxRoom), kept(want, func(r Row) bool { return r.Seen+5 > maxRoom })...)
}

func TestTablesStay(t *testing.T) { // P11.1: each earlier table is as it was behind each call
	l := []Row{{1, 2, 0, 0}, {1, 4, 1, 9}, {2, 2, 2, 10}}
	x := empty(t, 4, 10)
	tables := []Table{x}
	for _, r := range l {
		x = learned(t, x, r)
		tables = append(tables, x)
	}
	stay := func() {
		t.Helper()
		for i, y := range tables {
			rows(t, y, l[:i]...)
			for _, r := range l[:i] {
				finds(t, y, r.Seen+9, r)
			}
			for _, r := range l[i:] {
				misses(t, y, r.Seen, r.Vlan, r.Addr)
			}
		}
	}
	for _, y := range tables {
		learned(t, y, Row{1, 4, 2, 30})
		stay()
		learned(t, y, Row{5, 8, 2, 30})
		stay()
		y.Learn(30, 0, 4, 2)
		y.Learn(30, 1, mac.All, 2)
		y.Learn(30, 1, 4, 3)
		stay()
		y.Sweep(19)
		y.Sweep(maxTick)
		stay()
		for port := -1; port < 4; port++ {
			y.Flush(port)
			stay()
		}
		y.Look(maxTick, 1, 2)
		y.Rows()
		stay()
	}
}

func TestBranches(t *testing.T) { // P11.1: two tables made of one know nothing of each other
	x := learned(t, empty(t, 3, 10), Row{1, 2, 0, 0})
	made := []Table{x, x.Sweep(0), x.Flush(3), x.Flush(1)}
	y, _ := x.Learn(1, 1, 2, 3)
	for _, y := range append(made, y) {
		a := learned(t, y, Row{1, 4, 1, 1})
		b := learned(t, y, Row{1, 2, 2, 2})
		c := learned(t, a, Row{1, 6, 2, 2})
		rows(t, a, Row{1, 2, 0, 0}, Row{1, 4, 1, 1})
		rows(t, b, Row{1, 2, 2, 2})
		rows(t, c, Row{1, 2, 0, 0}, Row{1, 4, 1, 1}, Row{1, 6, 2, 2})
		rows(t, y, Row{1, 2, 0, 0})
	}
}

func TestHandedOut(t *testing.T) { // R3: what Rows handed out is new memory, and stays as it was
	l := []Row{{1, 2, 0, 0}, {1, 4, 1, 9}, {2, 2, 2, 10}}
	x := learned(t, filled(t, 10, l[:2]...).Flush(3), Row{1, 4, 1, 9})
	out := x.Rows()
	learned(t, x, Row{1, 4, 2, 30})
	x.Sweep(maxTick)
	x.Flush(-1)
	x.Rows()
	if !slices.Equal(out, l[:2]) {
		t.Fatalf("a call changed what Rows handed out: %v", out)
	}
	other := x.Rows()
	for i := range out {
		out[i] = Row{9, 9, 9, 9}
	}
	_ = append(out[:1], Row{8, 8, 8, 8})
	rows(t, x, l[:2]...)
	if !slices.Equal(other, l[:2]) {
		t.Fatalf("two answers of Rows share memory: %v", other)
	}
	for _, r := range l[:2] {
		finds(t, x, r.Seen, r)
	}
	misses(t, x, 0, 9, 9)
}

// learn is rows with one more, or with one anew: another way than the package's, to hold it against.
func learn(l []Row, r Row) []Row {
	l = append(kept(l, func(o Row) bool { return o.Vlan != r.Vlan || o.Addr != r.Addr }), r)
	slices.SortFunc(l, func(a, b Row) int {
		return cmp.Compare(uint64(a.Vlan)<<48|uint64(a.Addr), uint64(b.Vlan)<<48|uint64(b.Addr))
	})
	return l
}

// kept is the rows that stay.
func kept(l []Row, stays func(Row) bool) []Row {
	var out []Row
	for _, r := range l {
		if stays(r) {
			out = append(out, r)
		}
	}
	return out
}

func TestManyCalls(t *testing.T) { // P11.1 to P11.3: ticks going on, held against a list of rows
	r := rand.New(rand.NewSource(3))
	for range 300 {
		room, age := 1+r.Intn(8), int64(1+r.Intn(12))
		x, now := empty(t, room, age), int64(r.Intn(20))
		var want []Row
		for range 150 {
			row := Row{uint16(1 + r.Intn(3)), mac.Addr(2 * r.Intn(5)), r.Intn(3), now}
			switch r.Intn(12) {
			case 0:
				x = x.Sweep(now)
				want = kept(want, func(o Row) bool { return now-o.Seen < age })
			case 1:
				port := r.Intn(5) - 1
				x = x.Flush(port)
				want = kept(want, func(o Row) bool { return port >= 0 && o.Port != port })
			default:
				if more := learn(want, row); len(more) > room {
					refused(t, x, row, api.ErrFull)
				} else {
					x, want = learned(t, x, row), more
					finds(t, x, now, row)
				}
			}
			rows(t, x, want...)
			holds(t, x, now, age, want)
			now += int64(r.Intn(3))
		}
	}
}

// holds looks up every VLAN and address that TestManyCalls learns, and one more of each.
func holds(t *testing.T, x Table, now, age int64, want []Row) {
	t.Helper()
	for vlan := range uint16(5) {
		for a := range mac.Addr(12) {
			i := slices.IndexFunc(want, func(r Row) bool { return r.Vlan == vlan && r.Addr == a && now-r.Seen < age })
			if i < 0 {
				misses(t, x, now, vlan, a)
			} else {
				finds(t, x, now, want[i])
			}
		}
	}
}

func TestAnything(t *testing.T) { // R1: whatever is handed in, every call ends, and none panics
	numbers := []int64{math.MinInt64, math.MinInt64 + 1, -farOff - 1, -1, 0, 1, maxTick + 1, farOff + 1, math.MaxInt64 - 1, math.MaxInt64}
	wrong, _ := New(0, 0)
	for _, x := range []Table{{}, wrong, empty(t, 3, 1), empty(t, maxRoom, maxTime)} {
		for _, now := range numbers {
			for _, n := range numbers {
				y, _ := x.Learn(now, uint16(n), mac.Addr(n), int(n))
				y, _ = y.Learn(now, 1, 8, 1)
				y.Look(n, uint16(n), mac.Addr(n))
				y.Look(n, 1, 8)
				y.Sweep(n).Rows()
				y.Flush(int(n)).Rows()
			}
		}
	}
	// Beyond the bounds of what is promised a question is no other one.
	x := learned(t, empty(t, 1, 5), Row{1, 8, 1, 10})
	finds(t, x, math.MinInt64, Row{1, 8, 1, 10})
	misses(t, x, math.MaxInt64, 1, 8)
}
