package script

import (
	"fmt"
	"math/rand"
	"reflect"
	"slices"
	"testing"

	"carousel/api"
	"carousel/ccm"
	"carousel/erps"
	"carousel/event"
	"carousel/fdb"
	"carousel/mac"
	"carousel/plan"
	"carousel/raps"
	"carousel/req"
	"carousel/ring"
	"carousel/tagged"
)

const (
	cameCounter    = 0
	droppedCounter = 2
	local          = api.Local
)

// told is a frame between nodes: of a message that another node is forced, which turns all that hear it.
func told(p plan.Plan) tagged.Frame {
	m := raps.Msg{Request: raps.FS, Node: 0x0200000000ff}
	body, e := raps.Close(m, p.Level)
	if e != api.OK {
		panic(e)
	}
	return tagged.Frame{Dst: 0x0119a7000001 + mac.Addr(p.Level), Src: m.Node, Pri: 7, Vlan: p.Ring, Type: 0x8902, Body: body}
}

// check is a frame between ports, as none of the ring sends it: of an End that there isn't, so that each port may hear it.
func check(p plan.Plan) tagged.Frame {
	body, e := ccm.Close(ccm.Msg{Period: 4, End: 99, Group: p.Group()}, p.Level)
	if e != api.OK {
		panic(e)
	}
	return tagged.Frame{Dst: 0x0180c2000030 + mac.Addr(p.Level), Src: 0x0200000000ff, Pri: 7, Vlan: p.Ring, Type: 0x8902, Body: body}
}

// with is a frame's bytes, one of which is another one.
func with(s string, at int, b byte) string { return s[:at] + string([]byte{b}) + s[at+1:] }

// The places of what stands in a frame, by its bytes.
const (
	tagAt     = 12
	vlanAt    = 14
	typeAt    = 16
	levelAt   = 18
	codeAt    = 19
	flagsAt   = 20
	offsetAt  = 21
	contentAt = 22
)

// wrongOnes are frames that are wrong in one thing alone, by what it is; s is the right one, of that version and code.
func wrongOnes(p plan.Plan, s string, version, code byte) map[string][]string {
	l := map[string][]string{}
	add := func(name, s string) { l[name] = append(l[name], s) }
	for n := range len(s) {
		add("short", s[:n])
	}
	for b := range 32 {
		if byte(b) != version {
			add("version", with(s, levelAt, p.Level<<5|byte(b)))
		}
	}
	for b := range 256 {
		if byte(b) != code {
			add("code", with(s, codeAt, byte(b)))
		}
		if byte(b) != s[offsetAt] {
			add("offset", with(s, offsetAt, byte(b)))
		}
	}
	for level := range byte(8) {
		if level != p.Level {
			add("level", with(s, levelAt, level<<5|version))
			// Also where it goes to that level.
			add("level", with(with(s, levelAt, level<<5|version), 5, s[5]-p.Level+level))
			add("level", with(s, 5, s[5]-p.Level+level))
		}
	}
	for _, vlan := range []uint16{0, 1, p.Ring - 1, p.Ring + 1, p.Ring ^ 256, p.Ring ^ 2048, 4094, 4095} {
		if vlan != p.Ring && vlan != p.Data {
			add("vlan", with(with(s, vlanAt, s[vlanAt]&0xf0|byte(vlan>>8)), vlanAt+1, byte(vlan)))
		}
	}
	add("flags", with(s, flagsAt, s[flagsAt]|0x20))
	add("content", with(s, len(s)-2, 1))
	add("end", with(s, len(s)-1, 1))
	add("type", with(s, typeAt+1, 3))
	add("type", with(s, typeAt, 0))
	add("tag", with(s, tagAt, 0x88))
	add("group", with(s, 6, s[6]|1))
	add("long", s+string(make([]byte, 1601-len(s))))
	return l
}

// wrongFrames are all that are wrong, whichever port they come at.
func wrongFrames(t *testing.T, p plan.Plan) []string {
	t.Helper()
	var l []string
	for _, x := range []struct {
		f             tagged.Frame
		version, code byte
	}{{told(p), 1, 40}, {check(p), 0, 1}} {
		s, e := tagged.Close(x.f)
		if e != api.OK {
			t.Fatal(e)
		}
		for _, more := range wrongOnes(p, s, x.version, x.code) {
			l = append(l, more...)
		}
		if x.code == 40 {
			l = append(l, with(s, contentAt, 0x10), with(s, contentAt, 0xd1), with(s, contentAt+1, 0x80), with(s, contentAt+2, 1))
			continue
		}
		// Of another group, of another Period, of an End that is none.
		l = append(l, with(s, contentAt+6, 'x'), with(s, flagsAt, 5), with(s, flagsAt, 0), with(with(s, contentAt+4, 0), contentAt+5, 0))
	}
	return l
}

// rightFrames are those two, of which nothing is wrong but at the local port.
func rightFrames(t *testing.T, p plan.Plan) []string {
	t.Helper()
	a, e := tagged.Close(told(p))
	b, f := tagged.Close(check(p))
	if e != api.OK || f != api.OK {
		t.Fatal(e, f)
	}
	return []string{a, b}
}

// nodeIs is how a node stands, but for the counters that frames that are wrong change.
type nodeIs struct {
	Node  erps.Node
	Rows  []fdb.Row
	Lost  [2]bool
	Count []uint64
}

// seen is what can be seen of a ring, but for these counters, and for what hosts heard.
type seen struct {
	Now   int64
	Up    []bool
	On    [][]string
	Nodes []nodeIs
}

func sees(r *ring.Ring) seen {
	s := seen{Now: r.Now()}
	for d := range 2 * r.Plan().Nodes {
		var frames []string
		left, f, ok := r.Way(d).Pop()
		for ok {
			frames = append(frames, fmt.Sprintf("%x", f))
			left, f, ok = left.Pop()
		}
		s.Up, s.On = append(s.Up, r.Way(d).Up()), append(s.On, frames)
	}
	for i := range r.Plan().Nodes {
		b := r.Bridge(i)
		count := b.Counters()
		count[cameCounter], count[droppedCounter] = 0, 0
		s.Nodes = append(s.Nodes, nodeIs{b.Node(), append([]fdb.Row(nil), b.Rows()...), [2]bool{b.Lost(api.West), b.Lost(api.East)}, count})
	}
	return s
}

// pair are a ring to which frames come that are wrong, and one to which none do; how many came to each node.
type pair struct {
	t    *testing.T
	p    plan.Plan
	x, y *ring.Ring
	came []uint64
}

func pairOf(t *testing.T, p plan.Plan) *pair {
	t.Helper()
	return &pair{t: t, p: p, x: begin(t, p), y: begin(t, p), came: make([]uint64, p.Nodes)}
}

// does has events happen to both, which answer the same.
func (d *pair) does(events ...event.Event) {
	d.t.Helper()
	for _, v := range events {
		if e, f := d.x.Do(v), d.y.Do(v); e != f {
			d.t.Fatalf("%v %d %d %d: %v and %v", v.Kind, v.A, v.B, v.C, e, f)
		}
	}
}

// harms has a frame that is wrong come at a port: nothing goes out.
func (d *pair) harms(i, port int, s string) {
	d.t.Helper()
	if port == local {
		if e := d.x.Do(host(i, s)); e != api.OK {
			d.t.Fatalf("%x: %v", s, e)
		}
	} else if l := d.x.Bridge(i).Take(d.x.Now(), port, s); len(l) != 0 {
		d.t.Fatalf("at port %d of node %d, behind %x, %d went out", port, i, s, len(l))
	}
	d.came[i]++
}

// like holds both rings to being alike, but for two counters of the one, which are more by what came and was wrong.
func (d *pair) like(name string) {
	d.t.Helper()
	if got, want := sees(d.x), sees(d.y); !reflect.DeepEqual(got, want) {
		d.t.Fatalf("%s: seen\n%+v, want\n%+v", name, got, want)
	}
	for i := range d.p.Nodes {
		got, want := d.x.Bridge(i).Counters(), d.y.Bridge(i).Counters()
		want[cameCounter] += d.came[i]
		want[droppedCounter] += d.came[i]
		if !slices.Equal(got, want) {
			d.t.Fatalf("%s: node %d has counted %v, want %v", name, i, got, want)
		}
		if got, want := d.x.Heard(i), d.y.Heard(i); !slices.Equal(got, want) {
			d.t.Fatalf("%s: host %d heard %x, want %x", name, i, got, want)
		}
	}
}

// floods has all that is wrong come at each port of each node.
func (d *pair) floods(name string) {
	d.t.Helper()
	wrong, right := wrongFrames(d.t, d.p), rightFrames(d.t, d.p)
	for i := range d.p.Nodes {
		for port := range 3 {
			for _, s := range wrong {
				d.harms(i, port, s)
			}
		}
		// What nodes tell each other is wrong where a host sends it.
		for _, s := range right {
			d.harms(i, local, s)
		}
	}
	d.like(name)
}

func TestRightFrames(t *testing.T) { // the test's own: of the frames that are made wrong by one thing, nothing else is wrong
	for _, level := range []uint8{0, 3, 7} {
		p := aPlan(4, 1)
		p.Level = level
		for k, s := range rightFrames(t, p) {
			for port := range 2 {
				r := begin(t, p)
				r.Bridge(0).Take(0, port, s)
				if l := r.Bridge(0).Counters(); l[cameCounter] != 1 || l[droppedCounter] != 0 || l[6+2*k] != 1 {
					t.Fatalf("level %d, frame %d: %v", level, k, l)
				}
			}
		}
	}
}

func TestWrongFrames(t *testing.T) { // W5: frames that are wrong (short, of another version, code, level or VLAN, ..) change counters alone, in a whole ring, at each port, however it stands
	t.Parallel()
	for k, p := range []plan.Plan{aPlan(3, 0), aPlan(4, 1), aPlan(5, 4)} {
		p.Level = []uint8{7, 0, 3}[k]
		d := pairOf(t, p)
		d.floods("new")
		d.does(ticks(30)...)
		d.floods("at rest")
		d.does(tick(), host(0, frameOf(p, 0, -1, 7)), host(1, frameOf(p, 1, 2, 7)))
		d.floods("frames on their way")
		d.does(flow())
		d.floods("they came")
		d.does(down(1), down(2))
		d.does(ticks(15)...)
		d.floods("cut")
		d.does(up(1), up(2))
		d.does(ticks(3)...)
		d.floods("mended")
		d.does(ticks(60)...)
		d.does(order(1, api.West, req.FS))
		d.does(ticks(3)...)
		d.floods("forced")
		d.does(order(1, api.West, req.Clear))
		d.does(ticks(60)...)
		d.floods("at rest again")
		d.does(slices.Concat([]event.Event{host(2, frameOf(p, 2, 0, 9)), flow()}, ticks(20))...)
		d.like("at last")
	}
}

func TestWrongFramesAmongEvents(t *testing.T) { // W5: likewise, some at a time, among drawn events: a ring to which they come goes as one to which none do
	t.Parallel()
	for seed := range int64(60) {
		r := rand.New(rand.NewSource(seed))
		p := drawPlan(r)
		d := pairOf(t, p)
		wrong := wrongFrames(t, p)
		for k := range 150 {
			way, i := r.Intn(2*p.Nodes), r.Intn(p.Nodes)
			switch r.Intn(12) {
			case 0:
				d.does(down(way))
			case 1, 2:
				d.does(up(way))
			case 3:
				d.does(order(i, r.Intn(2), []req.Kind{req.FS, req.MS, req.Clear, req.Clear}[r.Intn(4)]))
			case 4, 5:
				d.does(host(i, frameOf(p, i, r.Intn(p.Nodes+1)-1, uint32(k))))
			case 6, 7:
				d.does(deliver(way))
			default:
				d.does(ticks(1 + r.Intn(3))...)
			}
			for range r.Intn(30) {
				d.harms(r.Intn(p.Nodes), r.Intn(3), wrong[r.Intn(len(wrong))])
			}
			d.like(fmt.Sprintf("run %d, event %d", seed, k))
		}
	}
}

func TestWrongFramesKeepNothingAlive(t *testing.T) { // W5: checks that are wrong don't keep a line from being lost, and messages that are wrong don't hold a wait up
	p := aPlan(4, 1)
	d := pairOf(t, p)
	wrong := wrongFrames(t, p)
	d.does(ticks(30)...)
	d.does(down(1), down(2))
	for k := range 100 {
		d.does(tick(), flow())
		for i := range p.Nodes {
			for port := range 3 {
				d.harms(i, port, wrong[(7*k+i+port)%len(wrong)])
			}
		}
		d.like(fmt.Sprintf("tick %d", k))
		if k == 60 {
			d.does(up(1), up(2))
		}
	}
	if n := d.x.Bridge(2).Node(); n.Shut != [2]bool{true, false} {
		t.Errorf("%+v", n)
	}
}
