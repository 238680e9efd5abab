package hosts

import (
	"strings"
	"testing"

	"carousel/api"
	"carousel/event"
	"carousel/mac"
	"carousel/plan"
	"carousel/req"
	"carousel/tagged"
)

// sends holds Send to an error, or to none.
func (x rig) sends(b *Board, l Letter, want api.Errno) {
	x.t.Helper()
	if e := b.Send(x.Ring, l); e != want {
		x.t.Fatalf("Send(%+v) of %d nodes = %v, want %v", l, x.p.Nodes, e, want)
	}
}

// came holds a board to how often a letter came at each host: at those that aren't told, never.
func (x rig) came(name string, b *Board, l Letter, want map[int]int) {
	x.t.Helper()
	for i := -2; i < 20; i++ {
		if n := b.Came(l, i); n != want[i] {
			x.t.Fatalf("%s: %+v came %d times at host %d, want %d", name, l, n, i, want[i])
		}
	}
	for _, i := range noNodes {
		if n := b.Came(l, i); n != 0 {
			x.t.Fatalf("%s: %+v came %d times at %d, which is no host", name, l, n, i)
		}
	}
}

// odd holds a board to how many frames were strange.
func (x rig) odd(name string, b *Board, want int) {
	x.t.Helper()
	if n := b.Strange(); n != want {
		x.t.Fatalf("%s: %d are strange, want %d", name, n, want)
	}
}

// once is how often a letter comes that comes to each of these hosts just once.
func once(l ...int) map[int]int {
	m := map[int]int{}
	for _, i := range l {
		m[i] = 1
	}
	return m
}

// others are all hosts of a ring but one.
func others(nodes, but int) []int {
	var l []int
	for i := range nodes {
		if i != but {
			l = append(l, i)
		}
	}
	return l
}

// gathered has all come that is on its way, and be counted.
func (x rig) gathered(b *Board) {
	x.t.Helper()
	x.does(flow())
	b.Gather(x.Ring)
}

func TestNewBoard(t *testing.T) { // P25.2: nothing was sent, nothing came, nothing was strange
	b := New()
	x := rested(t, aPlan(4, 1))
	for from := -1; from < 5; from++ {
		for to := -1; to < 5; to++ {
			x.came("new", b, Letter{from, to, 0}, nil)
		}
	}
	x.came("new", b, Letter{}, nil)
	x.odd("new", b, 0)
	b.Gather(x.Ring)
	x.odd("nothing came", b, 0)
	// Each call answers a board of its own.
	x.sends(b, Letter{0, 1, 0}, api.OK)
	x.gathered(b)
	x.came("new", New(), Letter{0, 1, 0}, nil)
	x.sends(New(), Letter{0, 1, 0}, api.OK)
}

func TestSendIsHost(t *testing.T) { // P25.2: a letter that is sent comes from From's host, and nothing else happens
	for _, nodes := range sizes {
		x, twin := rested(t, aPlan(nodes, 1)), rested(t, aPlan(nodes, 1))
		b := New()
		for from := range nodes {
			for to := -1; to < nodes; to++ {
				l := Letter{from, to, uint32(100*from + to)}
				x.sends(b, l, api.OK)
				twin.does(host(from, frameOf(x.p, l)))
				x.like("sent", twin)
				if from%2 == 0 {
					x.does(flow())
					twin.does(flow())
				}
				for i := range nodes {
					if got, want := x.Heard(i), twin.Heard(i); strings.Join(got, "") != strings.Join(want, "") {
						t.Fatalf("%+v: host %d heard %x, want %x", l, i, got, want)
					}
				}
			}
		}
	}
	// Out of a port that is shut nothing goes, and it was sent all the same.
	x := begin(t, aPlan(3, 0))
	x.does(order(1, api.West, req.FS))
	b := New()
	x.sends(b, Letter{1, 0, 7}, api.OK)
	if x.Way(2).Len() != 0 || x.Way(3).Len() != 1 {
		t.Error(x.Way(2).Len(), x.Way(3).Len())
	}
	x.does(down(3))
	x.gathered(b)
	x.came("lost", b, Letter{1, 0, 7}, nil)
	x.sends(b, Letter{1, 0, 7}, api.ErrState)
}

func TestSendWrong(t *testing.T) { // P25.2: Write's errors, by the ring's plan; behind them neither the board nor the ring has changed
	for _, nodes := range sizes {
		x, twin := taught(t, aPlan(nodes, 1)), taught(t, aPlan(nodes, 1))
		b, other := New(), New()
		known := Letter{0, 1, 7}
		x.sends(b, known, api.OK)
		twin.sends(other, known, api.OK)
		x.gathered(b)
		twin.gathered(other)
		for _, n := range append([]int{nodes, nodes + 1}, noNodes...) {
			wrong := []Letter{{n, 0, 7}, {n, -1, 7}, {0, n, 7}, {n, n, 7}, {-1, 0, 7}, {-1, -1, 7}}
			for _, l := range wrong {
				x.sends(b, l, api.ErrRange)
				x.sends(b, l, api.ErrRange)
				x.came("wrong", b, l, nil)
			}
		}
		x.like("wrong", twin)
		x.gathered(b)
		x.came("wrong", b, known, once(1))
		x.odd("wrong", b, 0)
	}
}

func TestSendRangeFirst(t *testing.T) { // P25.2: Write's error ahead of ErrState: that letter was sent in a ring of more nodes
	b := New()
	big, small := taught(t, aPlan(16, 1)), taught(t, aPlan(3, 1))
	for _, l := range []Letter{{0, 3, 7}, {3, 0, 7}, {15, -1, 7}, {15, 15, 7}} {
		small.sends(b, l, api.ErrRange)
		big.sends(b, l, api.OK)
		big.sends(b, l, api.ErrState)
		small.sends(b, l, api.ErrRange)
	}
	// A board is of no ring: what was sent in one was sent by it.
	big.sends(b, Letter{0, 1, 7}, api.OK)
	small.sends(b, Letter{0, 1, 7}, api.ErrState)
	big.gathered(b)
	big.came("the big one", b, Letter{0, 3, 7}, once(3))
	small.gathered(b)
	big.odd("both", b, 0)
}

func TestSendTwice(t *testing.T) { // P25.2: ErrState of a letter that this board has sent, whether it came, was gathered, or neither
	for _, l := range []Letter{{0, 1, 7}, {1, 0, 0}, {2, -1, 1<<32 - 1}, {3, 3, 7}, {0, 0, 0}} {
		x, twin := rested(t, aPlan(4, 1)), rested(t, aPlan(4, 1))
		b, other := New(), New()
		twice := func(name string) {
			t.Helper()
			x.sends(b, l, api.ErrState)
			x.like(name, twin)
		}
		x.sends(b, l, api.OK)
		twin.sends(other, l, api.OK)
		twice("sent")
		x.does(flow())
		twin.does(flow())
		twice("came")
		b.Gather(x.Ring)
		other.Gather(twin.Ring)
		twice("gathered")
		for range 10 {
			x.does(tick(), flow())
			twin.does(tick(), flow())
			twice("later on")
		}
		x.gathered(b)
		for i := range 4 {
			if got, want := b.Came(l, i), other.Came(l, i); got != want {
				t.Errorf("%+v came %d times at host %d, want %d", l, got, i, want)
			}
		}
		x.odd("twice", b, 0)
	}
}

func TestOtherLetters(t *testing.T) { // P25.2: letters that differ in From, To or Number alone are others
	x := taught(t, aPlan(4, 1))
	b := New()
	same := Letter{1, 2, 7}
	x.sends(b, same, api.OK)
	for _, l := range []Letter{{0, 2, 7}, {3, 2, 7}, {2, 2, 7}, {1, 0, 7}, {1, 3, 7}, {1, 1, 7}, {1, -1, 7}, {1, 2, 6}, {1, 2, 8}, {1, 2, 0}, {1, 2, 7 | 1<<31}, {2, 1, 7}} {
		x.came("ahead", b, l, nil)
		x.sends(b, l, api.OK)
		x.sends(b, l, api.ErrState)
	}
	x.sends(b, same, api.ErrState)
	x.gathered(b)
	x.came("the first one", b, same, once(2))
	x.came("another Number", b, Letter{1, 2, 8}, once(2))
	x.came("to all", b, Letter{1, -1, 7}, once(0, 2, 3))
	x.came("from another one", b, Letter{3, 2, 7}, once(2))
	x.odd("others", b, 0)
}

func TestTwoBoards(t *testing.T) { // P25.2: two boards may send the same letter, each once; who gathers counts
	x := taught(t, aPlan(4, 1))
	a, b := New(), New()
	l := Letter{0, 2, 7}
	x.sends(a, l, api.OK)
	x.sends(b, l, api.OK)
	x.sends(a, l, api.ErrState)
	x.sends(b, l, api.ErrState)
	x.gathered(a)
	x.came("gathered", a, l, map[int]int{2: 2})
	x.gathered(b)
	x.came("nothing is left", b, l, nil)
	x.odd("its own", a, 0)
	x.odd("its own", b, 0)
	// What another board sent is strange.
	x.sends(a, Letter{0, 2, 8}, api.OK)
	x.gathered(b)
	x.odd("another one's", b, 1)
	x.came("another one's", b, Letter{0, 2, 8}, nil)
	x.came("another one's", a, Letter{0, 2, 8}, nil)
	x.gathered(a)
	x.odd("gathered already", a, 0)
	x.sends(b, Letter{0, 2, 8}, api.OK)
	x.came("sent behind", b, Letter{0, 2, 8}, nil)
}

func TestComesOnce(t *testing.T) { // P25.2: a letter to one, to all and to oneself, from each host and at each; asked again at once nothing more is counted
	for nodes := 3; nodes <= 16; nodes++ {
		x := rested(t, aPlan(nodes, nodes/2))
		b := New()
		// Each host is known from then on.
		for from := range nodes {
			x.sends(b, Letter{from, -1, 0}, api.OK)
			x.came("sent", b, Letter{from, -1, 0}, nil)
			x.does(flow())
			x.came("came", b, Letter{from, -1, 0}, nil)
			b.Gather(x.Ring)
			x.came("to all", b, Letter{from, -1, 0}, once(others(nodes, from)...))
			b.Gather(x.Ring)
			x.gathered(b)
			x.came("to all, again", b, Letter{from, -1, 0}, once(others(nodes, from)...))
		}
		for from := range nodes {
			for to := range nodes {
				x.sends(b, Letter{from, to, 7}, api.OK)
				x.gathered(b)
				b.Gather(x.Ring)
				want := once(to)
				if from == to {
					want = nil
				}
				x.came("to one", b, Letter{from, to, 7}, want)
			}
		}
		for from := range nodes {
			x.came("to all, later on", b, Letter{from, -1, 0}, once(others(nodes, from)...))
		}
		x.odd("letters alone", b, 0)
	}
}

func TestComesTwice(t *testing.T) { // P25.2: a frame that comes twice counts twice
	for _, nodes := range sizes {
		x := rested(t, aPlan(nodes, 1))
		b := New()
		one, all := Letter{0, 2, 7}, Letter{2, -1, 7}
		x.sends(b, all, api.OK)
		x.sends(b, one, api.OK)
		x.does(host(0, frameOf(x.p, one)), host(2, frameOf(x.p, all)))
		x.gathered(b)
		two := map[int]int{}
		for _, i := range others(nodes, 2) {
			two[i] = 2
		}
		x.came("to all, twice", b, all, two)
		if n := b.Came(one, 2); n != 2 {
			t.Errorf("to one, twice: %d", n)
		}
		// Sent by another host it is that letter's frame all the same.
		x.does(host(1, frameOf(x.p, all)))
		x.gathered(b)
		for _, i := range others(nodes, 1) {
			two[i]++
		}
		x.came("from elsewhere", b, all, two)
		x.odd("letters alone", b, 0)
	}
}

func TestFloods(t *testing.T) { // P25.2: a letter to one that nobody knows comes to all others, and is counted at each of them
	for _, nodes := range sizes {
		x := rested(t, aPlan(nodes, 1))
		b := New()
		x.sends(b, Letter{0, 2, 7}, api.OK)
		x.gathered(b)
		x.came("unknown", b, Letter{0, 2, 7}, once(others(nodes, 0)...))
		x.sends(b, Letter{2, 0, 7}, api.OK)
		x.gathered(b)
		x.came("known", b, Letter{2, 0, 7}, once(0))
		x.sends(b, Letter{0, 2, 8}, api.OK)
		x.gathered(b)
		x.came("known by now", b, Letter{0, 2, 8}, once(2))
		x.odd("letters alone", b, 0)
	}
}

func TestStrangeLetters(t *testing.T) { // P25.2: frames of letters that this board didn't send, or hadn't sent when they were gathered
	for _, nodes := range sizes {
		x := rested(t, aPlan(nodes, 1))
		b := New()
		l := Letter{0, -1, 7}
		x.does(host(0, frameOf(x.p, l)))
		x.gathered(b)
		x.came("not sent", b, l, nil)
		x.odd("not sent", b, nodes-1)
		x.sends(b, l, api.OK)
		x.came("sent behind", b, l, nil)
		x.gathered(b)
		x.came("sent, and came", b, l, once(others(nodes, 0)...))
		x.odd("sent, and came", b, nodes-1)

		// On its way when the letter is sent, it is that letter's: looked at is when it is gathered.
		other := Letter{1, -1, 7}
		x.does(host(1, frameOf(x.p, other)), flow())
		x.sends(b, other, api.OK)
		b.Gather(x.Ring)
		x.came("ahead of the letter", b, other, once(others(nodes, 1)...))
		x.gathered(b)
		two := map[int]int{}
		for _, i := range others(nodes, 1) {
			two[i] = 2
		}
		x.came("and the letter", b, other, two)
		x.odd("and the letter", b, nodes-1)

		// Unlike a letter that was sent in one thing alone.
		for _, l := range []Letter{{1, -1, 8}, {2, -1, 7}} {
			x.does(host(l.From, frameOf(x.p, l)))
			x.gathered(b)
			x.came("another one", b, l, nil)
		}
		x.odd("others", b, 3*(nodes-1))
		// Of what a greater ring's plan writes.
		apart := x.p
		apart.Nodes = 16
		x.does(host(2, frameOf(apart, Letter{15, -1, 7})))
		x.gathered(b)
		x.odd("another plan's", b, 3*(nodes-1)+nodes-1)
	}
}

func TestStrangeFrames(t *testing.T) { // P25.2: frames that come to hosts and are no letter's
	x := rested(t, aPlan(4, 1))
	b := New()
	zero := Letter{0, 0, 0}
	l := Letter{0, -1, 0}
	// The zero letter was sent: beside an error of Read none is meant by it.
	x.sends(b, zero, api.OK)
	x.sends(b, l, api.OK)
	x.gathered(b)
	x.odd("ahead", b, 0)
	strange := 0
	for _, turn := range []func(f *tagged.Frame){
		func(f *tagged.Frame) { f.Body = "" },
		func(f *tagged.Frame) { f.Body = f.Body[:7] },
		func(f *tagged.Frame) { f.Body += "x" },
		func(f *tagged.Frame) { f.Body = strings.Repeat("x", 1582) },
		func(f *tagged.Frame) { f.Body = "\x00\x00\x00\x00ABCE" },
		func(f *tagged.Frame) { f.Pri = 1 },
		func(f *tagged.Frame) { f.Drop = true },
		func(f *tagged.Frame) { f.Type = 2049 },
		func(f *tagged.Frame) { f.Src = 0x0a0000000001 },
		func(f *tagged.Frame) { f.Src = x.p.Node(0) },
		func(f *tagged.Frame) { f.Src = x.p.Host(3) + 1 },
		func(f *tagged.Frame) { f.Dst = mac.All - 2 },
		func(f *tagged.Frame) { f.Dst = x.p.Host(3) + 2 },
		func(f *tagged.Frame) { f.Dst = 0x0a0000000002 },
	} {
		f := taggedOf(t, x.p, l)
		turn(&f)
		x.does(host(0, closed(t, f)))
		x.gathered(b)
		strange += 3
		x.odd("a frame", b, strange)
	}
	x.came("strange ones", b, l, once(1, 2, 3))
	x.came("strange ones", b, zero, nil)
	// What is no frame, and what isn't of Data, is dropped: it comes to nobody.
	for _, s := range []string{"", "x", frameOf(x.p, l)[:17], strings.Repeat("x", 1600), strings.Repeat("\xff", 1601), frameOf(plan.Plan{Data: 11}, l), frameOf(plan.Plan{Data: 20}, l)} {
		x.does(host(0, s))
		x.gathered(b)
	}
	x.odd("no frames", b, strange)
	x.came("at last", b, l, once(1, 2, 3))
}

func TestBoardIsItsOwn(t *testing.T) { // R3, R5: what a board counts hangs on no ring but those that are gathered, in whatever order they are
	a, b := rested(t, aPlan(3, 0)), rested(t, aPlan(5, 2))
	one, two := New(), New()
	letters := []Letter{{0, -1, 7}, {1, -1, 7}, {2, -1, 7}}
	for _, l := range letters {
		a.sends(one, l, api.OK)
		a.does(flow())
		b.does(host(l.From, frameOf(b.p, l)), flow())
	}
	c, d := rested(t, aPlan(3, 0)), rested(t, aPlan(5, 2))
	for _, l := range letters {
		c.sends(two, l, api.OK)
		c.does(flow())
		d.does(host(l.From, frameOf(d.p, l)), flow())
	}
	one.Gather(a.Ring)
	one.Gather(b.Ring)
	two.Gather(d.Ring)
	two.Gather(c.Ring)
	for _, l := range letters {
		want := map[int]int{}
		for _, nodes := range []int{3, 5} {
			for _, i := range others(nodes, l.From) {
				want[i]++
			}
		}
		a.came("one behind the other", one, l, want)
		a.came("the other way round", two, l, want)
	}
	a.odd("both", one, 0)
	a.odd("both", two, 0)
}

func TestBoardsEnd(t *testing.T) { // R1: no call panics, whatever numbers a letter has; and a ring's end of ticks is no letter's
	b := New()
	x := begin(t, aPlan(3, 0))
	numbers := append([]int{-1, 0, 1, 2, 3}, noNodes...)
	for _, from := range numbers {
		for _, to := range numbers {
			l := Letter{from, to, 7}
			b.Send(x.Ring, l)
			b.Gather(x.Ring)
			for _, i := range numbers {
				b.Came(l, i)
			}
		}
	}
	p := aPlan(3, 0)
	p.Interval, p.Period, p.Gap = 1<<20, 1<<20, 1<<20
	y := begin(t, p)
	for y.Do(event.Event{Kind: event.Tick}) == api.OK {
	}
	y.sends(b, Letter{1, -1, 99}, api.OK)
	y.gathered(b)
	y.odd("behind all ticks", b, 0)
}
