package hosts

import (
	"fmt"
	"math/rand"
	"testing"

	"carousel/api"
	"carousel/chart"
	"carousel/event"
	"carousel/plan"
	"carousel/req"
	"carousel/view"
)

// settled is a drawn plan by which a ring comes back to rest: none of its queues is ever full, and its waits are just as long as W3 asks, or longer.
func settled(r *rand.Rand, maxNodes int) plan.Plan {
	p := drawPlan(r, maxNodes)
	p.Revert, p.Queue = true, api.MaxQueue
	p.Hold = []int64{0, 1, 2, 7}[r.Intn(4)]
	p.Rest, p.Wait = waits(p)+r.Int63n(6), waits(p)+r.Int63n(6)
	p.Age, p.Room = []int64{1, 2, 20, 400}[r.Intn(4)], []int{1, 2, 5, 40}[r.Intn(4)]
	return p
}

// waits is the least wait that is longer than the guard and what is said twice behind that.
func waits(p plan.Plan) int64 { return p.Guard + 2*max(p.Gap, p.Period) + 1 }

// desk is a ring in which nothing is lost and which isn't to loop, and a board on which its letters are counted.
type desk struct {
	rig
	b    *Board
	next uint32
	// Where it is nil all that is on its way comes by a Flow, else frame by frame, the ways in any order.
	r *rand.Rand
}

func open(t *testing.T, p plan.Plan, r *rand.Rand) *desk {
	t.Helper()
	return &desk{rig: begin(t, p), b: New(), r: r}
}

// where tells of a fault which ring it was, and when.
func (d *desk) where() string { return fmt.Sprintf("at %d, of %+v", d.Now(), d.p) }

// watched has events happen, behind each of which the ring doesn't loop.
func (d *desk) watched(events ...event.Event) {
	d.t.Helper()
	for _, v := range events {
		d.does(v)
		if l := view.Lines(d.Ring); view.Loops(l) {
			d.t.Fatalf("behind %s it loops, %s", shown(v), d.where())
		}
	}
}

// busy are the ways on which frames are.
func (d *desk) busy() []int {
	var l []int
	for k := range 2 * d.p.Nodes {
		if d.Way(k).Len() > 0 {
			l = append(l, k)
		}
	}
	return l
}

// arrives has all come that is on its way.
func (d *desk) arrives() {
	d.t.Helper()
	if d.r == nil {
		d.watched(flow())
		return
	}
	for l := d.busy(); len(l) > 0; l = d.busy() {
		d.watched(deliver(l[d.r.Intn(len(l))]))
	}
}

// runs has so many ticks go, behind each of which all comes.
func (d *desk) runs(ticks int64) {
	d.t.Helper()
	for range ticks {
		d.watched(tick())
		d.arrives()
	}
}

// back is a time in which a ring whose last fault is gone comes to rest.
func (d *desk) back() int64 {
	p := d.p
	return 4*p.Interval + p.Hold + p.Guard + 2*max(p.Gap, p.Period) + p.Rest + p.Wait + 1
}

// heard is the time in which a line that is cut is lost everywhere: it is lost beyond seven halves of the Interval, and counts a Hold
// later. What the owner said at that tick may come behind what is said of the fault: that is said again a Gap later.
func (d *desk) heard() int64 { return 7*d.p.Interval/2 + 1 + d.p.Hold + d.p.Gap }

// alone holds a ring to one line's not being open, and none else, and to all nodes' being in that state.
func (d *desk) alone(name string, line int, state chart.State) {
	d.t.Helper()
	l := view.Lines(d.Ring)
	for i := range l {
		if l[i].Open() != (i != line) {
			d.t.Fatalf("%s: the lines %v, not open is to be %d, %s", name, l, line, d.where())
		}
		if n := d.Bridge(i).Node(); n.State != state {
			d.t.Fatalf("%s: the state %v of node %d, %s", name, n.State, i, d.where())
		}
	}
	if !view.Whole(l) || view.Loops(l) {
		d.t.Fatalf("%s: %v, %s", name, l, d.where())
	}
}

// atRest holds a ring to its rest.
func (d *desk) atRest(name string) {
	d.t.Helper()
	d.alone(name, d.p.Owner, chart.Idle)
}

// stays has ticks go, at each of which it is as it was.
func (d *desk) stays(name string, line int, state chart.State) {
	d.t.Helper()
	for range 2*d.back() + 1 {
		d.runs(1)
		d.alone(name, line, state)
	}
}

// posts has a host send a letter that no other one is like.
func (d *desk) posts(from, to int) Letter {
	d.t.Helper()
	l := Letter{from, to, d.next}
	d.next++
	d.sends(d.b, l, api.OK)
	return l
}

// delivered holds a letter to W4: it came to whom it was sent just once, to nobody twice, to its sender never.
func (d *desk) delivered(name string, l Letter) {
	d.t.Helper()
	for i := range d.p.Nodes {
		n := d.b.Came(l, i)
		to := i == l.To || l.To == -1 && i != l.From
		if n > 1 || to && n != 1 || i == l.From && n != 0 {
			d.t.Fatalf("%s: %+v came %d times at host %d, %s", name, l, n, i, d.where())
		}
	}
	if n := d.b.Strange(); n != 0 {
		d.t.Fatalf("%s: %d are strange, %s", name, n, d.where())
	}
}

// letter is one that is sent, and comes.
func (d *desk) letter(name string, from, to int) {
	d.t.Helper()
	l := d.posts(from, to)
	d.arrives()
	d.b.Gather(d.Ring)
	d.delivered(name, l)
}

// toOne is a letter from each node to each other one, and toAll one from each to all.
func (d *desk) toOne(name string) {
	d.t.Helper()
	for from := range d.p.Nodes {
		for _, to := range others(d.p.Nodes, from) {
			d.letter(name, from, to)
		}
	}
}

func (d *desk) toAll(name string) {
	d.t.Helper()
	for from := range d.p.Nodes {
		d.letter(name, from, -1)
	}
}

// letters are all of them: ahead of what is learned by those to all, and behind.
func (d *desk) letters(name string) {
	d.t.Helper()
	d.toOne(name)
	d.toAll(name)
	d.toOne(name)
}

// flight has many letters on their way at once, with ticks among them, frames coming in any order; at last all came.
func (d *desk) flight(name string, r *rand.Rand) {
	d.t.Helper()
	var sent []Letter
	// Checks come late, too, but not so late that a line is lost.
	ticks := 2 * d.p.Interval
	for range 12 {
		from := r.Intn(d.p.Nodes)
		to := others(d.p.Nodes, from)[r.Intn(d.p.Nodes-1)]
		if r.Intn(3) == 0 {
			to = -1
		}
		sent = append(sent, d.posts(from, to))
		for range r.Intn(12) {
			if l := d.busy(); len(l) > 0 {
				d.watched(deliver(l[r.Intn(len(l))]))
			}
		}
		if ticks > 0 && r.Intn(4) == 0 {
			d.watched(tick())
			ticks--
		}
		if r.Intn(4) == 0 {
			d.b.Gather(d.Ring)
		}
	}
	d.arrives()
	d.b.Gather(d.Ring)
	for _, l := range sent {
		d.delivered(name, l)
	}
}

// cut takes both ways of a line down, and mend up again.
func (d *desk) cut(line int)  { d.ways(line, down) }
func (d *desk) mend(line int) { d.ways(line, up) }

func (d *desk) ways(line int, turn func(way int) event.Event) {
	d.t.Helper()
	d.watched(turn(2*line+1), turn(2*((line+1)%d.p.Nodes)))
}

// tables are plans of one ring whose tables are small, whose rows are soon old, and none of both.
func tables(nodes, owner int) []plan.Plan {
	var l []plan.Plan
	for _, room := range []int{1, 2, nodes} {
		for _, age := range []int64{1, 3, 100} {
			p := aPlan(nodes, owner)
			p.Room, p.Age = room, age
			l = append(l, p)
		}
	}
	return l
}

func TestLettersAtRest(t *testing.T) { // W4: each letter comes, ahead of what is learned and behind, with ticks between; whatever tables have room for
	t.Parallel()
	for nodes := 3; nodes <= 16; nodes++ {
		for k, p := range tables(nodes, nodes-1) {
			p.Owner = (nodes + k) % nodes
			d := open(t, p, nil)
			d.runs(d.back())
			d.atRest("at rest")
			d.letters("at once")
			d.runs(1)
			d.letters("a tick later")
			for from := range nodes {
				d.letter("between ticks", from, (from+1)%nodes)
				d.runs(1)
				d.letter("between ticks", (from+1)%nodes, from)
				d.letter("between ticks", from, -1)
				d.runs(2)
			}
			d.runs(p.Age)
			d.toOne("when all is old")
			d.atRest("at last")
		}
	}
}

func TestLettersBehindACut(t *testing.T) { // W4, W2: likewise of rings one of whose lines is cut
	t.Parallel()
	for nodes := 3; nodes <= 16; nodes++ {
		for k, p := range tables(nodes, 0) {
			p.Owner = k % nodes
			line := (nodes/2 + 2*k) % nodes
			d := open(t, p, nil)
			d.runs(d.back())
			d.atRest("at rest")
			// Tables know how it was.
			d.toAll("at rest")
			d.cut(line)
			d.runs(d.heard())
			d.alone("cut", line, chart.Protect)
			d.letters("cut")
			d.runs(1)
			d.letters("cut, a tick later")
			d.runs(p.Age)
			d.toOne("when all is old")
			d.alone("at last", line, chart.Protect)
		}
	}
}

func TestLettersOnTheirWay(t *testing.T) { // W4: many at once, of drawn rings at rest, cut and mended, frames coming in any order
	t.Parallel()
	for seed := range int64(250) {
		r := rand.New(rand.NewSource(seed))
		d := open(t, settled(r, 16), r)
		d.runs(d.back())
		d.atRest("at rest")
		for range 3 {
			d.flight("at rest", r)
		}
		line := r.Intn(d.p.Nodes)
		d.cut(line)
		d.runs(d.heard())
		d.alone("cut", line, chart.Protect)
		for range 3 {
			d.flight("cut", r)
		}
		d.mend(line)
		d.runs(d.back())
		d.atRest("mended")
		for range 3 {
			d.flight("mended", r)
		}
	}
}

// cutPlans are of rings of 3 to 8 nodes, each node the owner, with a Hold and without.
func cutPlans(do func(p plan.Plan, seed int64)) {
	seed := int64(0)
	for nodes := 3; nodes <= 8; nodes++ {
		for owner := range nodes {
			for _, hold := range []int64{0, 1, 5} {
				seed++
				p := aPlan(nodes, owner)
				p.Hold, p.Interval = hold, 1+seed%4
				p.Queue = api.MaxQueue
				do(p, seed)
			}
		}
	}
}

// drawnOr is a source to draw from for each other seed, else none.
func drawnOr(seed int64) *rand.Rand {
	if seed%2 == 0 {
		return nil
	}
	return rand.New(rand.NewSource(seed))
}

func TestOneCutOnePath(t *testing.T) { // W2: each line cut once: all come to Protect and hang together in time, it never loops, letters come, and it stays so
	t.Parallel()
	cutPlans(func(p plan.Plan, seed int64) {
		for line := range p.Nodes {
			d := open(t, p, drawnOr(seed))
			d.runs(d.back())
			d.atRest("at rest")
			if line%2 == 0 {
				// Tables know how it was.
				d.toAll("at rest")
			}
			d.cut(line)
			d.runs(d.heard())
			d.alone("cut", line, chart.Protect)
			d.toOne("cut")
			d.stays("cut, later on", line, chart.Protect)
			d.toAll("cut, later on")
		}
	})
}

func TestOneCutNotToRevert(t *testing.T) { // W2: likewise of a ring that comes to rest when its owner is told to
	t.Parallel()
	cutPlans(func(p plan.Plan, seed int64) {
		p.Revert = false
		d := open(t, p, drawnOr(seed))
		d.runs(d.back())
		d.watched(order(p.Owner, api.West, req.Clear))
		d.runs(p.Gap + p.Period)
		d.atRest("at rest")
		line := int(seed) % p.Nodes
		d.cut(line)
		d.runs(d.heard())
		d.alone("cut", line, chart.Protect)
		d.toOne("cut")
		d.stays("cut, later on", line, chart.Protect)
	})
}

func TestDrawnCuts(t *testing.T) { // W2, W3: drawn rings, one line cut, both ways or one, and mended: whole in time, back at rest, never a loop
	t.Parallel()
	for seed := range int64(250) {
		r := rand.New(rand.NewSource(seed))
		d := open(t, settled(r, 16), drawnOr(seed))
		d.runs(d.back() + r.Int63n(10))
		d.atRest("at first")
		line := r.Intn(d.p.Nodes)
		east, west := 2*line+1, 2*((line+1)%d.p.Nodes)
		ways := [][]int{{east}, {west}, {east, west}, {west, east}}[r.Intn(4)]
		for _, k := range ways {
			d.watched(down(k))
		}
		d.runs(d.heard())
		for range r.Int63n(30) {
			d.alone("cut", line, chart.Protect)
			d.runs(1)
		}
		d.alone("cut", line, chart.Protect)
		for _, k := range ways {
			d.watched(up(k))
		}
		d.runs(d.back())
		d.atRest("mended")
		d.toOne("mended")
		d.stays("mended, later on", d.p.Owner, chart.Idle)
	}
}

func TestRestFromTheBeginning(t *testing.T) { // W3: a ring comes to rest, never loops on its way, letters come, and it stays so
	t.Parallel()
	for nodes := 3; nodes <= 16; nodes++ {
		for owner := range nodes {
			for k := range int64(2) {
				p := aPlan(nodes, owner)
				p.Queue, p.Gap, p.Period = api.MaxQueue, 1+k*int64(owner%3), 1+int64((owner+nodes)%6)
				p.Rest, p.Wait = waits(p)+k, waits(p)+k
				d := open(t, p, drawnOr(k))
				d.runs(d.back())
				d.atRest("at rest")
				d.toOne("at rest")
				d.stays("later on", owner, chart.Idle)
				d.toAll("later on")
			}
		}
	}
}

func TestRestBehindACut(t *testing.T) { // W3: each line cut and mended: back at rest, never a loop, letters come, also when tables know how it was, and it stays so
	t.Parallel()
	cutPlans(func(p plan.Plan, seed int64) {
		p.Rest, p.Wait = waits(p), waits(p)
		d := open(t, p, drawnOr(seed))
		d.runs(d.back())
		for line := range p.Nodes {
			d.cut(line)
			d.runs(d.heard() + seed%5)
			d.alone("cut", line, chart.Protect)
			d.toAll("cut")
			d.mend(line)
			d.runs(d.back())
			d.atRest("mended")
			d.toOne("mended")
			d.toAll("mended")
		}
		d.stays("later on", p.Owner, chart.Idle)
	})
}

// lineOf is the line at which a port of a node is.
func (d *desk) lineOf(i, port int) int { return (i + d.p.Nodes - 1 + port) % d.p.Nodes }

// eachSwitch has an operator shut each port of each node, and take it back: it calls a function while the switch stands, and another one when the ring is at rest again.
func (d *desk) eachSwitch(k req.Kind, stands, rests func()) {
	d.t.Helper()
	for i := range d.p.Nodes {
		for port := range 2 {
			d.watched(order(i, port, k))
			d.runs(2*d.p.Gap + 1)
			state := chart.Forced
			if k == req.MS {
				state = chart.Manual
			}
			d.alone("a switch stands", d.lineOf(i, port), state)
			stands()
			d.watched(order(i, api.West, req.Clear))
			d.runs(d.back())
			d.atRest("cleared")
			rests()
		}
	}
}

func TestRestBehindASwitch(t *testing.T) { // W3: a switch at each port of each node, cleared: back at rest, never a loop, letters come, and it stays so
	t.Parallel()
	cutPlans(func(p plan.Plan, seed int64) {
		p.Rest, p.Wait = waits(p), waits(p)
		d := open(t, p, drawnOr(seed))
		d.runs(d.back())
		d.atRest("at first")
		// Tables know how it is at rest.
		d.toAll("at first")
		for _, k := range []req.Kind{req.FS, req.MS} {
			d.eachSwitch(k, func() {}, func() {
				d.toOne("cleared")
				d.toAll("cleared")
			})
		}
		d.stays("later on", p.Owner, chart.Idle)
	})
	for _, owner := range []int{0, 7, 15} {
		d := open(t, aPlan(16, owner), nil)
		d.runs(d.back())
		d.eachSwitch(req.FS, func() {}, func() { d.toAll("cleared") })
		d.toOne("at last")
	}
}

func TestLettersWhileASwitchStands(t *testing.T) { // W4: of a ring one of whose ports is shut by an operator, and of one at rest behind that
	t.Parallel()
	cutPlans(func(p plan.Plan, seed int64) {
		if seed%5 != 0 {
			return
		}
		p.Age = 30
		p.Rest, p.Wait = waits(p), waits(p)
		d := open(t, p, drawnOr(seed))
		d.runs(d.back())
		for _, k := range []req.Kind{req.FS, req.MS} {
			// The node that was switched empties no table when the owner goes home, as it knows the owner's pair from the last rest:
			// what it learned meanwhile leads astray till it is learned again, from what goes to all, or is old.
			d.eachSwitch(k, func() { d.letters("a switch stands") }, func() { d.toAll("cleared"); d.letters("cleared") })
			d.eachSwitch(k, func() { d.letters("a switch stands") }, func() { d.runs(p.Age); d.letters("cleared, and all is old") })
		}
	})
}
