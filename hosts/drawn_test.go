package hosts

import (
	"fmt"
	"math/rand"
	"slices"
	"testing"

	"carousel/api"
	"carousel/event"
	"carousel/plan"
	"carousel/raps"
	"carousel/req"
)

// comer is a letter that came at a host.
type comer struct {
	l    Letter
	host int
}

// notes are a board, as the chapter tells it a second time: of what was sent, and of what came, one by one.
type notes struct {
	sent    []Letter
	came    []comer
	strange int
}

// fault is Send's error.
func (n *notes) fault(p plan.Plan, l Letter) api.Errno {
	switch {
	case !isOf(p, l):
		return api.ErrRange
	case slices.Contains(n.sent, l):
		return api.ErrState
	}
	return api.OK
}

// isOf says whether a letter may be of a plan's nodes.
func isOf(p plan.Plan, l Letter) bool {
	return l.From >= 0 && l.From < p.Nodes && l.To >= -1 && l.To < p.Nodes
}

// gather counts what came to a ring's hosts, frame by frame: it is a letter's that was sent, or strange.
func (n *notes) gather(x rig) {
	for i := range x.p.Nodes {
		for _, s := range x.Heard(i) {
			k := slices.IndexFunc(n.sent, func(l Letter) bool { return isOf(x.p, l) && frameOf(x.p, l) == s })
			if k < 0 {
				n.strange++
				continue
			}
			n.came = append(n.came, comer{n.sent[k], i})
		}
	}
}

// times is how often a letter came at a host.
func (n *notes) times(l Letter, host int) int {
	k := 0
	for _, c := range n.came {
		if c.l == l && c.host == host {
			k++
		}
	}
	return k
}

// run is a drawn run: rings, twins of theirs to which no board sends, boards, and what is noted of them.
type run struct {
	t        *testing.T
	r        *rand.Rand
	x, twins []rig
	boards   []*Board
	notes    []*notes
	letters  []Letter
	answers  []string
}

func drawRun(t *testing.T, seed int64) *run {
	r := rand.New(rand.NewSource(seed))
	d := &run{t: t, r: r}
	p := drawPlan(r, 6)
	if r.Intn(10) == 0 {
		p = drawPlan(r, 16)
	}
	for k := range 1 + r.Intn(2) {
		if k > 0 && r.Intn(2) == 0 {
			p = drawPlan(r, 6)
		}
		d.x, d.twins = append(d.x, begin(t, p)), append(d.twins, begin(t, p))
		if r.Intn(3) == 0 {
			continue
		}
		// No port is shut: each node was told that one is forced which isn't there.
		for i := range p.Nodes {
			s := told(t, p, raps.Msg{Request: raps.FS, Node: 0x0200000000ff})
			d.x[k].Bridge(i).Take(0, api.West, s)
			d.twins[k].Bridge(i).Take(0, api.West, s)
		}
		// Where it may loop, frames come very often: with small queues alone.
		if p.Queue > 3 || r.Intn(3) > 0 {
			d.both(k, down(r.Intn(2*p.Nodes)))
		}
	}
	for range 1 + r.Intn(2) {
		d.boards, d.notes = append(d.boards, New()), append(d.notes, &notes{})
	}
	return d
}

// both has an event happen to a ring and to its twin.
func (d *run) both(k int, v event.Event) {
	d.t.Helper()
	e, f := d.x[k].Do(v), d.twins[k].Do(v)
	if e != f {
		d.t.Fatalf("%s: %v and %v", shown(v), e, f)
	}
	d.answers = append(d.answers, e.Word())
}

// drawLetter is a letter of a ring's nodes, or nearly; one in some was met already.
func (d *run) drawLetter(p plan.Plan) Letter {
	if len(d.letters) > 0 && d.r.Intn(3) == 0 {
		return d.letters[d.r.Intn(len(d.letters))]
	}
	l := Letter{d.r.Intn(p.Nodes), d.r.Intn(p.Nodes+1) - 1, uint32(d.r.Intn(2))}
	switch d.r.Intn(12) {
	case 0:
		l.From = append([]int{-1, p.Nodes}, noNodes...)[d.r.Intn(2+len(noNodes))]
	case 1:
		l.To = append([]int{p.Nodes}, noNodes...)[d.r.Intn(1+len(noNodes))]
	case 2:
		l.Number = someNumbers[d.r.Intn(len(someNumbers))]
	}
	d.letters = append(d.letters, l)
	return l
}

// drawBytes is a frame that a host sends by itself: a letter's, one that differs from it in one bit or byte, another one, or none.
func (d *run) drawBytes(p plan.Plan) string {
	l := d.drawLetter(p)
	// Of nodes that this plan hasn't, too, but of some that a ring may have.
	l.From &= 15
	if l.To > 15 || l.To < 0 {
		l.To = -1
	}
	b := []byte(frameOf(p, l))
	switch d.r.Intn(8) {
	case 0:
		b[d.r.Intn(len(b))] ^= 1 << d.r.Intn(8)
	case 1:
		b[18+d.r.Intn(8)] = byte(d.r.Intn(256))
	case 2:
		b = append(b, make([]byte, d.r.Intn(20))...)
	case 3:
		b = b[:d.r.Intn(len(b))]
	case 4:
		b = make([]byte, []int{0, 17, 18, 26, api.MaxFrame, api.MaxFrame + 1}[d.r.Intn(6)])
		d.r.Read(b)
	case 5:
		return told(d.t, p, raps.Msg{Request: raps.SF, Node: p.Node(d.r.Intn(p.Nodes))})
	}
	return string(b)
}

// drawEvent is an event of any Kind, of numbers most of which there are.
func (d *run) drawEvent(p plan.Plan) event.Event {
	way, node := d.r.Intn(2*p.Nodes), d.r.Intn(p.Nodes)
	if d.r.Intn(20) == 0 {
		way, node = 2*p.Nodes, p.Nodes
	}
	switch pick := d.r.Intn(100); {
	case pick < 20:
		return tick()
	case pick < 50:
		return flow()
	case pick < 65:
		return deliver(way)
	case pick < 68:
		return drop(way)
	case pick < 70:
		return down(way)
	case pick < 75:
		return up(way)
	case pick < 78:
		k := []req.Kind{req.Clear, req.FS, req.MS, req.Kind(d.r.Intn(256))}[d.r.Intn(4)]
		return order(node, []int{api.West, api.East, d.r.Intn(256)}[d.r.Intn(3)], k)
	case pick < 98:
		return host(node, d.drawBytes(p))
	}
	return event.Event{Kind: event.Kind(d.r.Intn(256)), A: uint8(d.r.Intn(256)), Bytes: d.drawBytes(p)}
}

// step does one thing to a ring or a board, and to what is noted of it.
func (d *run) step(met map[string]int) {
	d.t.Helper()
	k, j := d.r.Intn(len(d.x)), d.r.Intn(len(d.boards))
	x, twin, b, n := d.x[k], d.twins[k], d.boards[j], d.notes[j]
	switch d.r.Intn(5) {
	case 0:
		l := d.drawLetter(x.p)
		want := n.fault(x.p, l)
		if want == api.OK {
			twin.does(host(l.From, frameOf(x.p, l)))
			n.sent = append(n.sent, l)
		}
		x.sends(b, l, want)
		met["send: "+want.Word()]++
		d.answers = append(d.answers, want.Word())
	case 1:
		b.Gather(x.Ring)
		n.gather(twin)
	default:
		d.both(k, d.drawEvent(x.p))
	}
	x.like("stepped", twin)
}

// holds holds boards to what is noted of them.
func (d *run) holds(name string, met map[string]int) {
	d.t.Helper()
	for j, b := range d.boards {
		for _, l := range d.letters {
			for i := -1; i < 17; i++ {
				got, want := b.Came(l, i), d.notes[j].times(l, i)
				if got != want {
					d.t.Fatalf("%s: board %d: %+v came %d times at host %d, want %d", name, j, l, got, i, want)
				}
				met[fmt.Sprintf("came: %d", min(2, got))]++
				d.answers = append(d.answers, fmt.Sprint(got))
			}
		}
		if got, want := b.Strange(), d.notes[j].strange; got != want {
			d.t.Fatalf("%s: board %d: %d are strange, want %d", name, j, got, want)
		}
		met["strange"] += b.Strange()
		d.answers = append(d.answers, fmt.Sprint(b.Strange()))
	}
}

// runs has a drawn run go, and answers all that was answered in it.
func runs(t *testing.T, seed int64, met map[string]int) []string {
	t.Helper()
	d := drawRun(t, seed)
	for k := range 150 {
		d.step(met)
		if k%10 == 0 {
			d.holds(fmt.Sprintf("run %d, step %d", seed, k), met)
		}
	}
	d.holds(fmt.Sprintf("run %d, at last", seed), met)
	return d.answers
}

func TestDrawnBoards(t *testing.T) { // P25.2: drawn letters and drawn events of every Kind, over drawn plans, held to a second reading of the chapter
	t.Parallel()
	met := map[string]int{}
	for seed := range int64(120) {
		answers := runs(t, seed, met)
		// The same once more: what is answered hangs on nothing else.
		if seed%5 == 0 && !slices.Equal(runs(t, seed, met), answers) {
			t.Fatalf("run %d: other answers", seed)
		}
	}
	for _, k := range []string{"send: ok", "send: range", "send: state", "came: 0", "came: 1", "came: 2", "strange"} {
		if met[k] < 100 {
			t.Errorf("%s was met %d times", k, met[k])
		}
	}
}

func TestAnyBytes(t *testing.T) { // R1, W5: of bytes that are no frame no call panics, and they are counted, if they come, as strange ones
	r := rand.New(rand.NewSource(5))
	x := rested(t, aPlan(4, 1))
	b := New()
	x.sends(b, Letter{}, api.OK)
	for n := range 3000 {
		s := make([]byte, r.Intn(1700))
		r.Read(s)
		if n%3 > 0 && len(s) > 18 {
			copy(s, frameOf(x.p, Letter{r.Intn(4), -1, 0})[:18])
			s[5] = byte(r.Intn(256))
		}
		x.does(host(r.Intn(4), string(s)))
		x.gathered(b)
	}
	if b.Strange() < 1000 {
		t.Error(b.Strange())
	}
	x.came("at last", b, Letter{}, nil)
}
