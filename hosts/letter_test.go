package hosts

import (
	"fmt"
	"math/rand"
	"strings"
	"testing"

	"carousel/api"
	"carousel/mac"
	"carousel/plan"
	"carousel/tagged"
)

// writes holds Write to a letter's bytes, and Read to the letter.
func writes(t *testing.T, p plan.Plan, l Letter) {
	t.Helper()
	want := frameOf(p, l)
	if s, e := Write(p, l); e != api.OK || s != want || len(s) != 26 {
		t.Fatalf("Write of %+v, of %d nodes = %x, %v, want %x", l, p.Nodes, s, e, want)
	}
	if got, e := Read(p, want); e != api.OK || got != l {
		t.Fatalf("Read(%x) = %+v, %v, want %+v", want, got, e, l)
	}
}

// refuses holds Write to an error.
func refuses(t *testing.T, p plan.Plan, l Letter, want api.Errno) {
	t.Helper()
	if s, e := Write(p, l); e != want || s != "" {
		t.Fatalf("Write of %+v, of %d nodes = %x, %v, want %v", l, p.Nodes, s, e, want)
	}
}

// noLetter holds Read to an error.
func noLetter(t *testing.T, name string, p plan.Plan, s string, want api.Errno) {
	t.Helper()
	if l, e := Read(p, s); e != want || l != (Letter{}) {
		t.Fatalf("%s: Read(%.60x) = %+v, %v, want %v", name, s, l, e, want)
	}
}

func TestExample(t *testing.T) { // the chapter's example: the letter 7 from 0 to 1: its frame has 26 bytes
	s, e := Write(aPlan(4, 1), Letter{From: 0, To: 1, Number: 7})
	if want := "\x06\x00\x00\x00\x00\x02\x06\x00\x00\x00\x00\x01\x81\x00\x00\x0a\x08\x00\x00\x00\x00\x07ABCD"; s != want || e != api.OK {
		t.Errorf("%x, %v, want %x", s, e, want)
	}
}

func TestEachLetter(t *testing.T) { // P25.1, P25.3: each From with each To, to all and to itself among them, of many Numbers
	r := rand.New(rand.NewSource(25))
	for _, nodes := range sizes {
		for from := range nodes {
			for to := -1; to < nodes; to++ {
				for _, n := range append([]uint32{r.Uint32(), r.Uint32()}, someNumbers...) {
					writes(t, aPlan(nodes, 1), Letter{From: from, To: to, Number: n})
				}
			}
		}
	}
}

func TestDataOfLetters(t *testing.T) { // P25.1: the plan's Data is the frame's, and nothing else of a plan is to be seen
	for _, vlan := range []uint16{1, 2, 255, 256, 2748, 4093, 4094} {
		for seed := range int64(20) {
			p := drawPlan(rand.New(rand.NewSource(seed)), 16)
			p.Data, p.Ring = vlan, vlan%4094+1
			writes(t, p, Letter{From: 2, To: int(seed)%4 - 1, Number: uint32(vlan)})
		}
	}
}

func TestWriteRange(t *testing.T) { // P25.1: ErrRange: From isn't a node, or To neither a node nor -1
	for _, nodes := range []int{3, 4, 7, 15, 16} {
		p := aPlan(nodes, 1)
		for _, n := range append([]int{nodes}, noNodes...) {
			refuses(t, p, Letter{From: n, To: 0}, api.ErrRange)
			refuses(t, p, Letter{From: n, To: -1, Number: 7}, api.ErrRange)
			refuses(t, p, Letter{From: 0, To: n, Number: 7}, api.ErrRange)
			refuses(t, p, Letter{From: nodes - 1, To: n}, api.ErrRange)
			refuses(t, p, Letter{From: n, To: n}, api.ErrRange)
		}
		refuses(t, p, Letter{From: -1, To: 0}, api.ErrRange)
		refuses(t, p, Letter{From: -1, To: -1}, api.ErrRange)
		for n := nodes; n <= 300; n++ {
			refuses(t, p, Letter{From: n, To: 1}, api.ErrRange)
			refuses(t, p, Letter{From: 1, To: n}, api.ErrRange)
		}
		writes(t, p, Letter{From: nodes - 1, To: 0})
		writes(t, p, Letter{From: 0, To: nodes - 1})
	}
}

func TestPlanFirst(t *testing.T) { // P25.1: the plan's error is told ahead of all others, by Write and by Read
	long := strings.Repeat("x", 1601)
	for _, b := range badPlans() {
		for _, l := range []Letter{{0, 1, 7}, {0, -1, 7}, {-1, 0, 7}, {4, 0, 7}, {0, 4, 7}, {0, -2, 7}, {minInt, maxInt, 7}} {
			refuses(t, b.plan, l, b.want)
		}
		noLetter(t, "a letter", b.plan, frameOf(aPlan(4, 1), Letter{0, 1, 7}), b.want)
		for _, s := range []string{"", "x", long, long[:100], frameOf(aPlan(4, 1), Letter{0, 15, 7}), frameOf(b.plan, Letter{0, 1, 7})} {
			noLetter(t, "no letter", b.plan, s, b.want)
		}
	}
}

func TestOpenFirst(t *testing.T) { // P25.1: what layer 3's Open says is told ahead of ErrForm
	p := aPlan(4, 1)
	s := frameOf(p, Letter{1, 2, 258})
	for n := range 18 {
		noLetter(t, "short", p, s[:n], api.ErrShort)
		noLetter(t, "short, of noughts", p, strings.Repeat("\x00", n), api.ErrShort)
	}
	noLetter(t, "long", p, s+strings.Repeat("A", 1601-26), api.ErrLong)
	for _, n := range []int{1601, 1602, 3200, 65536, 1 << 20} {
		noLetter(t, "long, of noughts", p, strings.Repeat("\x00", n), api.ErrLong)
	}
	turned := func(at int, with string) string { return s[:at] + with + s[at+len(with):] }
	for _, mark := range []string{"\x81\x01", "\x80\x00", "\x00\x00", "\x88\xa8", "\xff\xff"} {
		noLetter(t, "the mark", p, turned(12, mark), api.ErrTag)
	}
	noLetter(t, "from a group", p, turned(6, "\x07"), api.ErrForm)
	noLetter(t, "from all", p, turned(6, "\xff\xff\xff\xff\xff\xff"), api.ErrForm)
	noLetter(t, "the VLAN 0", p, turned(14, "\x00\x00"), api.ErrRange)
	noLetter(t, "the VLAN 4095", p, turned(14, "\x0f\xff"), api.ErrRange)
	noLetter(t, "the type 1535", p, turned(16, "\x05\xff"), api.ErrType)
	noLetter(t, "the type 0", p, turned(16, "\x00\x00"), api.ErrType)
	// Each of them, though the body is none of a letter's either.
	noLetter(t, "the mark, short", p, turned(12, "\x81\x01")[:20], api.ErrTag)
	noLetter(t, "the VLAN 0, short", p, turned(14, "\x00\x00")[:18], api.ErrRange)
	noLetter(t, "the type 0, long", p, turned(16, "\x00\x00")+"x", api.ErrType)
}

// strangeAddrs are addresses that are no host's of a plan, though they are nearly one's, and no group's.
func strangeAddrs(p plan.Plan) []mac.Addr {
	first := mac.Addr(0x060000000001)
	l := []mac.Addr{0, 1, first - 1, first + mac.Addr(p.Nodes), first + 255, first + 1<<32, first - 1<<41, 0x0a0000000001, 0xfeffffffffff}
	for i := range p.Nodes {
		l = append(l, p.Node(i), first|mac.Addr(i)<<8|1<<20)
	}
	for i := p.Nodes; i < 16; i++ {
		l = append(l, aPlan(16, 1).Host(i))
	}
	return l
}

// alike are a letter's frames that differ from it in one thing alone.
func alike(t *testing.T, p plan.Plan, l Letter) map[string][]tagged.Frame {
	t.Helper()
	m := map[string][]tagged.Frame{}
	with := func(name string, turn func(f *tagged.Frame)) {
		f := taggedOf(t, p, l)
		turn(&f)
		if f != taggedOf(t, p, l) {
			m[name] = append(m[name], f)
		}
	}
	for _, a := range strangeAddrs(p) {
		with("Dst", func(f *tagged.Frame) { f.Dst = a })
		with("Src", func(f *tagged.Frame) { f.Src = a })
	}
	for _, a := range []mac.Addr{mac.All - 1, mac.All ^ 1<<47, 0x0119a7000008, 0x0180c2000037, 0x070000000001, 1 << 40} {
		with("a group's Dst", func(f *tagged.Frame) { f.Dst = a })
	}
	for n := range uint8(8) {
		with("Pri", func(f *tagged.Frame) { f.Pri = n })
	}
	with("Drop", func(f *tagged.Frame) { f.Drop = true })
	for _, n := range []uint16{1, 9, 11, p.Ring, 522, 2058, 4094} {
		with("Vlan", func(f *tagged.Frame) { f.Vlan = n })
	}
	for _, n := range []uint16{1536, 2047, 2049, 2304, 0x8902, 34816, 65535} {
		with("Type", func(f *tagged.Frame) { f.Type = n })
	}
	body := taggedOf(t, p, l).Body
	for n := range len(body) {
		with("Body, shorter", func(f *tagged.Frame) { f.Body = body[:n] })
		with("Body, cut ahead", func(f *tagged.Frame) { f.Body = body[n+1:] })
	}
	for _, more := range []string{"x", "\x00", "D", "ABCD", strings.Repeat("\x00", 38), strings.Repeat("x", 1574)} {
		with("Body, longer", func(f *tagged.Frame) { f.Body = body + more })
		with("Body, longer ahead", func(f *tagged.Frame) { f.Body = more + body })
	}
	for at := 4; at < 8; at++ {
		for c := range 256 {
			with("the last bytes", func(f *tagged.Frame) { f.Body = body[:at] + string([]byte{byte(c)}) + body[at+1:] })
		}
	}
	return m
}

func TestReadForm(t *testing.T) { // P25.1: ErrForm of a frame that differs from a letter's in one thing alone
	for _, nodes := range sizes {
		for _, l := range []Letter{{0, 1, 7}, {nodes - 1, -1, 0}, {1, 1, 0xffffffff}, {2, 0, 0x41424344}, {0, 0, 0}} {
			p := aPlan(nodes, 1)
			frames := alike(t, p, l)
			for name, list := range frames {
				for _, f := range list {
					noLetter(t, fmt.Sprintf("%s, like %+v", name, l), p, closed(t, f), api.ErrForm)
				}
			}
			if len(frames) != 12 {
				t.Errorf("%d things", len(frames))
			}
		}
	}
	// Host by host: what a ring of more nodes writes is read by one of fewer where both have its nodes.
	for nodes := 3; nodes <= 16; nodes++ {
		for i := range 16 {
			from, to := Letter{i, 0, 7}, Letter{0, i, 7}
			small := aPlan(nodes, 1)
			if i >= nodes {
				noLetter(t, "from another ring's", small, frameOf(small, from), api.ErrForm)
				noLetter(t, "to another ring's", small, frameOf(small, to), api.ErrForm)
				continue
			}
			writes(t, small, from)
			writes(t, small, to)
		}
	}
}

func drawLetter(r *rand.Rand, p plan.Plan) Letter {
	l := Letter{From: r.Intn(p.Nodes), To: r.Intn(p.Nodes+1) - 1, Number: r.Uint32()}
	if r.Intn(2) == 0 {
		l.Number = someNumbers[r.Intn(len(someNumbers))]
	}
	return l
}

// reads holds Read to a second reading of the chapter: bytes are a letter's, if its frame has just these.
func reads(t *testing.T, p plan.Plan, s string) api.Errno {
	t.Helper()
	_, want := tagged.Open(s)
	letter := Letter{}
	if want == api.OK {
		want = api.ErrForm
		for from := range p.Nodes {
			for to := -1; to < p.Nodes && len(s) == 26; to++ {
				l := Letter{from, to, uint32(s[18])<<24 | uint32(s[19])<<16 | uint32(s[20])<<8 | uint32(s[21])}
				if s == frameOf(p, l) {
					want, letter = api.OK, l
				}
			}
		}
	}
	if l, e := Read(p, s); e != want || l != letter {
		t.Fatalf("of %d nodes, the VLAN %d: Read(%.60x) = %+v, %v, want %+v, %v", p.Nodes, p.Data, s, l, e, letter, want)
	}
	if want != api.OK {
		return want
	}
	if back, e := Write(p, letter); e != api.OK || back != s {
		t.Fatalf("%x was read, %x, %v is written", s, back, e)
	}
	return api.OK
}

func TestDrawnLetters(t *testing.T) { // P25.3: what is written is read as it was, what is read is written as it was, of drawn bytes, too
	met := map[api.Errno]int{}
	bits := map[api.Errno]int{}
	for seed := range int64(400) {
		r := rand.New(rand.NewSource(seed))
		p, other := drawPlan(r, 16), drawPlan(r, 16)
		l := drawLetter(r, p)
		writes(t, p, l)
		s := frameOf(p, l)
		// Of another plan's bytes it is as the chapter tells it.
		met[reads(t, other, s)]++
		for at := range 8 * len(s) {
			b := []byte(s)
			b[at/8] ^= 1 << (at % 8)
			bits[reads(t, p, string(b))]++
		}
		for range 20 {
			b := []byte(s)
			for range 1 + r.Intn(3) {
				b[r.Intn(len(b))] = byte(r.Intn(256))
			}
			met[reads(t, p, string(b))]++
			b = make([]byte, []int{r.Intn(30), r.Intn(1700), 26}[r.Intn(3)])
			r.Read(b)
			copy(b, s[:r.Intn(len(s)+1)])
			met[reads(t, p, string(b))]++
		}
	}
	for _, m := range []map[api.Errno]int{met, bits} {
		for _, e := range []api.Errno{api.OK, api.ErrForm, api.ErrTag, api.ErrType} {
			if m[e] < 20 {
				t.Errorf("%v was met %d times", e, m[e])
			}
		}
	}
	if met[api.ErrShort] < 20 || met[api.ErrLong] < 20 {
		t.Error(met)
	}
	// Of 208 bits it is the 32 of the Number, and some of addresses, that tell another letter.
	if bits[api.OK] < 400*32 {
		t.Error(bits)
	}
}

func TestNoTwoAlike(t *testing.T) { // P25.3: no two letters of a plan have one frame
	for _, nodes := range sizes {
		met := map[string]Letter{}
		for from := range nodes {
			for to := -1; to < nodes; to++ {
				for _, n := range someNumbers {
					l := Letter{from, to, n}
					s, _ := Write(aPlan(nodes, 1), l)
					if was, ok := met[s]; ok {
						t.Fatalf("%+v and %+v are %x", was, l, s)
					}
					met[s] = l
				}
			}
		}
		if len(met) != nodes*(nodes+1)*len(someNumbers) {
			t.Error(len(met))
		}
	}
}

func TestLettersEnd(t *testing.T) { // R1: no call panics, and each one ends, whatever plan, letter and bytes are
	r := rand.New(rand.NewSource(1))
	numbers := append([]int{-1, 0, 1, 2, 3, 15}, noNodes...)
	pick := func() int { return numbers[r.Intn(len(numbers))] }
	for range 20000 {
		p := drawPlan(r, 16)
		switch r.Intn(4) {
		case 0:
			p.Nodes, p.Owner = pick(), pick()
		case 1:
			p = plan.Plan{
				Nodes: pick(), Owner: pick(), Level: uint8(pick()), Data: uint16(pick()), Ring: uint16(pick()),
				Interval: int64(pick()), Hold: int64(pick()), Guard: int64(pick()), Rest: int64(pick()), Wait: int64(pick()),
				Gap: int64(pick()), Period: int64(pick()), Age: int64(pick()), Room: pick(), Queue: pick(),
			}
		}
		l := Letter{From: pick(), To: pick(), Number: r.Uint32()}
		s, e := Write(p, l)
		mayFrom := l.From >= 0 && l.From < p.Nodes
		mayTo := l.To >= -1 && l.To < p.Nodes
		want := p.Check()
		if want == api.OK && (!mayFrom || !mayTo) {
			want = api.ErrRange
		}
		if e != want || (e == api.OK) != (s != "") {
			t.Fatalf("Write(%+v, %+v) = %x, %v, want %v", p, l, s, e, want)
		}
		b := make([]byte, r.Intn(60))
		r.Read(b)
		if l, e := Read(p, string(b)); e == api.OK || l != (Letter{}) {
			t.Fatalf("Read(%+v, %x) = %+v, %v", p, b, l, e)
		}
	}
}
