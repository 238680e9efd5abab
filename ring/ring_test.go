package ring

import (
	"math"
	"reflect"
	"slices"
	"testing"

	"carousel/api"
	"carousel/bridge"
	"carousel/event"
	"carousel/plan"
	"carousel/wire"
)

func TestExample(t *testing.T) { // the chapter's example: a Tick of four nodes, on each way a check and a message
	x := begin(t, aPlan(4))
	x.does(tick())
	for d := range 8 {
		if l := framesOf(x.Way(d)); len(l) != 2 || !isCheck(l[0]) || !isMessage(l[1]) {
			t.Errorf("way %d: %x", d, l)
		}
	}
	if Rounds != 64 {
		t.Error(Rounds)
	}
}

func TestNew(t *testing.T) { // P23.1: rings of 3, 4, 5 and 16 nodes, each node the Owner once
	for _, nodes := range sizes {
		for owner := range nodes {
			p := aPlan(nodes)
			p.Owner, p.Revert, p.Level, p.Queue = owner, owner%2 == 0, uint8(owner%8), 1+owner
			x := begin(t, p)
			if x.Now() != 0 || x.Plan() != p {
				t.Fatalf("tick %d, %+v, want %+v", x.Now(), x.Plan(), p)
			}
			x.has("new", nil)
			x.hears("new", nil)
			for d := range 2 * nodes {
				if !x.Way(d).Up() {
					t.Errorf("way %d is down", d)
				}
			}
			isBegun(t, x)
		}
	}
}

// isBegun holds each bridge of a new ring to the one that its own layer makes, now and later on.
func isBegun(t *testing.T, x rig) {
	t.Helper()
	for i := range x.p.Nodes {
		b, e := bridge.New(x.p, i, 0)
		if e != api.OK {
			t.Fatal(e)
		}
		was := x.Bridge(i)
		if got, want := seesBridge(was), seesBridge(b); !reflect.DeepEqual(got, want) {
			t.Fatalf("node %d: %+v, want %+v", i, got, want)
		}
		for now := range int64(30) {
			if got, want := was.Tick(now), b.Tick(now); !slices.Equal(got, want) {
				t.Fatalf("node %d at %d: %x, want %x", i, now, got, want)
			}
			if got, want := seesBridge(was), seesBridge(b); !reflect.DeepEqual(got, want) {
				t.Fatalf("node %d at %d: %+v, want %+v", i, now, got, want)
			}
		}
		if x.Bridge(i) != was {
			t.Errorf("node %d has another bridge", i)
		}
		for j := range i {
			if x.Bridge(j) == was {
				t.Errorf("nodes %d and %d have one bridge", i, j)
			}
		}
	}
}

// beginsNot holds New to an error, and the pointer beside it to being nil.
func beginsNot(t *testing.T, p plan.Plan, want api.Errno) {
	t.Helper()
	if e := p.Check(); e != want {
		t.Fatalf("%+v: %v, want %v", p, e, want)
	}
	if r, e := New(p); r != nil || e != want {
		t.Errorf("New(%+v) = %v, %v, want nil, %v", p, r, e, want)
	}
}

func TestNewWrong(t *testing.T) { // P23.1, R2: each error of the plan's Check, and nil
	ranges := []func(p *plan.Plan){
		func(p *plan.Plan) { *p = plan.Plan{} },
		func(p *plan.Plan) { p.Nodes = 2 }, func(p *plan.Plan) { p.Nodes = 17 }, func(p *plan.Plan) { p.Nodes = 0 },
		func(p *plan.Plan) { p.Nodes = -1 }, func(p *plan.Plan) { p.Nodes = math.MaxInt }, func(p *plan.Plan) { p.Nodes = math.MinInt },
		func(p *plan.Plan) { p.Owner = -1 }, func(p *plan.Plan) { p.Owner = p.Nodes }, func(p *plan.Plan) { p.Level = 8 },
		func(p *plan.Plan) { p.Interval = 0 }, func(p *plan.Plan) { p.Interval = maxTicks + 1 },
		func(p *plan.Plan) { p.Hold = -1 }, func(p *plan.Plan) { p.Hold = maxTicks + 1 },
		func(p *plan.Plan) { p.Guard = 0 }, func(p *plan.Plan) { p.Rest = 0 }, func(p *plan.Plan) { p.Wait = maxTicks + 1 },
		func(p *plan.Plan) { p.Gap = 0 }, func(p *plan.Plan) { p.Period = 0 }, func(p *plan.Plan) { p.Age = 0 },
		func(p *plan.Plan) { p.Room = 0 }, func(p *plan.Plan) { p.Room = 1025 },
		func(p *plan.Plan) { p.Queue = 0 }, func(p *plan.Plan) { p.Queue = 257 }, func(p *plan.Plan) { p.Queue = -1 },
		func(p *plan.Plan) { p.Queue = math.MaxInt },
	}
	tags := []func(p *plan.Plan){
		func(p *plan.Plan) { p.Data = 0 }, func(p *plan.Plan) { p.Data = 4095 }, func(p *plan.Plan) { p.Ring = 0 },
		func(p *plan.Plan) { p.Ring = 4095 }, func(p *plan.Plan) { p.Ring = p.Data },
	}
	for _, nodes := range sizes {
		for _, turn := range ranges {
			p := aPlan(nodes)
			turn(&p)
			beginsNot(t, p, api.ErrRange)
		}
		for _, turn := range tags {
			p := aPlan(nodes)
			turn(&p)
			beginsNot(t, p, api.ErrTag)
			p.Queue = 0
			beginsNot(t, p, api.ErrTag)
			p.Level = 8
			beginsNot(t, p, api.ErrRange)
		}
	}
}

func TestQueue(t *testing.T) { // P23.1: as many frames as the Queue are on a way, and what comes then is lost
	for _, queue := range []int{1, 2, 3, 100, 255, 256} {
		p := aPlan(3)
		p.Queue = queue
		x := opened(t, p)
		var want []string
		for k := range queue + 3 {
			s := toAll(p, string([]byte{byte(k), byte(k >> 8)}))
			x.does(host(2, s))
			want = append(want, s)
		}
		x.has("full", map[int][]string{4: want[:queue], 5: want[:queue]})
		// One goes, one more is taken.
		x.does(drop(4), host(2, want[0]), host(2, want[1]))
		x.has("full again", map[int][]string{4: append(slices.Clone(want[1:queue]), want[0]), 5: want[:queue]})
	}
}

func TestNumbersThatAreNone(t *testing.T) { // P23.1: Bridge, Way and Heard of numbers that nothing has
	for _, nodes := range sizes {
		x := opened(t, aPlan(nodes))
		x.does(tick(), host(0, toAll(x.p, "a")), deliver(1))
		was := x.sees()
		for _, n := range append([]int{nodes, nodes + 1, 2 * nodes, 2*nodes + 1}, farOff...) {
			if n < 0 || n >= nodes {
				if b := x.Bridge(n); b != nil {
					t.Errorf("Bridge(%d) of %d nodes = %v", n, nodes, b)
				}
				if l := x.Heard(n); len(l) != 0 {
					t.Errorf("Heard(%d) of %d nodes = %x", n, nodes, l)
				}
			}
			if n < 0 || n >= 2*nodes {
				if w := x.Way(n); !reflect.DeepEqual(w, wire.Wire{}) {
					t.Errorf("Way(%d) of %d nodes: up %v, %d frames", n, nodes, w.Up(), w.Len())
				}
			}
		}
		for d := range 2 * nodes {
			if w := x.Way(d); !w.Up() || w.Len() < 1 {
				t.Errorf("Way(%d): up %v, %d frames", d, w.Up(), w.Len())
			}
		}
		x.is("asked", was)
		// Who asked for what is none has taken nothing from who is.
		if l := x.Heard(1); nodes > 1 && len(l) != 0 {
			t.Errorf("a check was heard by a host: %x", l)
		}
	}
}

func TestHeard(t *testing.T) { // P23.1: what came since it was asked last, in order, and nothing when it is asked again at once
	for _, nodes := range sizes {
		for i := range nodes {
			x := opened(t, aPlan(nodes))
			from := (i + 1) % nodes // its west way leads to node i
			frames := []string{toAll(x.p, "a"), toAll(x.p, "b"), toAll(x.p, "a"), toAll(x.p, "c")}
			for _, s := range frames {
				x.does(host(from, s))
			}
			d := 2 * from
			x.does(deliver(d))
			x.hears("one", map[int][]string{i: frames[:1]})
			x.hears("one, again", nil)
			x.does(deliver(d), deliver(d))
			x.hears("two", map[int][]string{i: frames[1:3]})
			x.hears("two, again", nil)
			x.does(deliver(d))
			// Another one that asks takes nothing from it.
			for j := range nodes {
				if j != i && len(x.Heard(j)) != 0 {
					t.Errorf("host %d heard", j)
				}
			}
			x.hears("the last", map[int][]string{i: frames[3:]})
			x.hears("the last, again", nil)
		}
	}
}

func TestAnswersMayBeWrittenInto(t *testing.T) { // R3: who writes into what was answered turns nothing
	x, y := opened(t, aPlan(4)), opened(t, aPlan(4))
	var events []event.Event
	for k := range 9 {
		events = append(events, host(2, toAll(x.p, string(rune('a'+k)))))
	}
	spoil := func(l []string) {
		for k := range l[:cap(l)] {
			l[:cap(l)][k] = "spoilt"
		}
		_ = append(l, "spoilt")
	}
	x.does(events...)
	y.does(events...)
	for k := range 9 {
		// The node behind node 2 hears one more each time, the one ahead of it all at once.
		x.does(deliver(4), deliver(5))
		y.does(deliver(4), deliver(5))
		l := x.Heard(3)
		if want := y.Heard(3); len(l) != 1 || !slices.Equal(l, want) {
			t.Fatalf("%d: %x, want %x", k, l, want)
		}
		spoil(l)
		// A way that was answered, too, may be turned: it is another one.
		w, _ := x.Way(5).Push("spoilt")
		w, _, _ = w.Pop()
		w.Set(false)
		x.is("written into", y.sees())
	}
	for k := range 3 {
		x.does(host(0, toAll(x.p, string(rune('k'+k)))), deliver(0))
		y.does(host(0, toAll(x.p, string(rune('k'+k)))), deliver(0))
	}
	spoil(x.Heard(3))
	y.Heard(3)
	x.like("at last", y)
}

func TestHeardStays(t *testing.T) { // R3: what was answered stays as it was when more comes, and who writes into it then turns nothing
	x := opened(t, aPlan(3))
	frames := make([]string, 7)
	for k := range frames {
		frames[k] = toAll(x.p, string(rune('a'+k)))
		x.does(host(0, frames[k]))
	}
	var answers [][]string
	for k := 1; k <= 3; k++ {
		x.does(again(k, deliver(1))...)
		answers = append(answers, x.Heard(1))
	}
	// One alone: it would have room behind the three that were answered last.
	x.does(deliver(1))
	for k, want := range [][]string{frames[:1], frames[1:3], frames[3:6]} {
		if !slices.Equal(answers[k], want) {
			t.Errorf("answer %d is %x by now, want %x", k, answers[k], want)
		}
		l := answers[k]
		for n := range l[:cap(l)] {
			l[:cap(l)][n] = "spoilt"
		}
	}
	x.hears("the last", map[int][]string{1: frames[6:]})
}

func TestAnsweredWaysStay(t *testing.T) { // R3, P23.2: a way that was answered stays as it was, and no push onto it comes to the ring
	x := opened(t, aPlan(3))
	x.does(host(0, toAll(x.p, "a")), host(0, toAll(x.p, "b")))
	w := x.Way(1)
	mine, _ := w.Push("mine")
	x.does(host(0, toAll(x.p, "c")))
	other, _ := w.Push("other")
	x.does(deliver(1), host(0, toAll(x.p, "d")))
	is := func(name string, w wire.Wire, want ...string) {
		t.Helper()
		if l := framesOf(w); !slices.Equal(l, want) {
			t.Errorf("%s: %x, want %x", name, l, want)
		}
	}
	a, b, c, d := toAll(x.p, "a"), toAll(x.p, "b"), toAll(x.p, "c"), toAll(x.p, "d")
	is("first", w, a, b)
	is("mine", mine, a, b, "mine")
	is("other", other, a, b, "other")
	is("the ring's", x.Way(1), b, c, d)
	x.does(down(1))
	is("first, behind down", w, a, b)
	if !w.Up() || x.Way(1).Up() {
		t.Error("up")
	}
}
