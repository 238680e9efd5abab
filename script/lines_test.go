package script

import (
	"fmt"
	"slices"
	"strings"
	"testing"

	"carousel/api"
	"carousel/event"
	"carousel/plan"
	"carousel/req"
)

func TestExample(t *testing.T) { // P27.1: the chapter's example, of rings of each size; and the same with a line feed behind
	eachRing(func(p plan.Plan) {
		says(t, p, "tick 1\ncame 0 1 0 1", "ok", "0")
		says(t, p, "tick 1\ncame 0 1 0 1\n", "ok", "0")
	})
}

func TestAtRest(t *testing.T) { // P27.1: tick, lines, counts: written out
	says(t, aPlan(4, 1), text("lines", "counts 3", "tick 30", "lines", "counts 0", "counts 1", "counts 2", "counts 3"),
		"tick 0",
		"node 0 plain pending none east nr", "node 1 owner pending none east nr",
		"node 2 neighbour pending none west nr", "node 3 plain pending none east nr",
		"line 0 up shut", "line 1 up shut", "line 2 up open", "line 3 up shut",
		"ring parts 3",
		"counts 3 0 0 0 0 0 0 0 0 0 0 0 0 0 0 0 0",
		"ok",
		"tick 30",
		"node 0 plain idle none none silent", "node 1 owner idle none east rb keep",
		"node 2 neighbour idle none west silent", "node 3 plain idle none none silent",
		"line 0 up open", "line 1 up shut", "line 2 up open", "line 3 up open",
		"ring whole 1",
		"counts 0 46 47 0 0 0 0 16 2 30 30 0 0 0 0 0 0",
		"counts 1 43 50 0 0 0 0 13 20 30 30 0 0 0 0 0 0",
		"counts 2 49 42 0 0 0 0 19 12 30 30 0 0 0 0 0 0",
		"counts 3 46 45 0 0 0 0 16 12 30 30 0 0 0 0 0 0",
	)
}

func TestCutAndMend(t *testing.T) { // P27.1: cut and mend, what they do at once and later on: written out
	says(t, aPlan(4, 1), text("tick 30", "cut 3", "lines", "tick 15", "lines", "mend 3", "lines", "tick 40", "lines"),
		"ok", "ok",
		"tick 30",
		"node 0 plain idle none none silent", "node 1 owner idle none east rb keep",
		"node 2 neighbour idle none west silent", "node 3 plain idle none none silent",
		"line 0 up open", "line 1 up shut", "line 2 up open", "line 3 down shut",
		"ring parts 2",
		"ok",
		"tick 45",
		"node 0 plain protect none west sf", "node 1 owner protect none none silent",
		"node 2 neighbour protect none none silent", "node 3 plain protect none east sf",
		"line 0 up open", "line 1 up open", "line 2 up open", "line 3 down shut",
		"ring whole 1",
		"ok",
		"tick 45",
		"node 0 plain protect none west sf", "node 1 owner protect none none silent",
		"node 2 neighbour protect none none silent", "node 3 plain protect none east sf",
		"line 0 up open", "line 1 up open", "line 2 up open", "line 3 up shut",
		"ring whole 1",
		"ok",
		"tick 85",
		"node 0 plain idle none none silent", "node 1 owner idle none east rb",
		"node 2 neighbour idle none west silent", "node 3 plain idle none none silent",
		"line 0 up open", "line 1 up shut", "line 2 up open", "line 3 up open",
		"ring whole 1",
	)
}

func TestOrders(t *testing.T) { // P27.1: fs, ms, clear, of the west port and of the east one: written out
	says(t, aPlan(4, 1), text("tick 30", "ms 3 west", "lines", "tick 3", "fs 3 east", "lines", "clear 3", "lines", "fs 0 west", "lines"),
		"ok", "ok",
		"tick 30",
		"node 0 plain idle none none silent", "node 1 owner idle none east rb keep",
		"node 2 neighbour idle none west silent", "node 3 plain manual ms west ms",
		"line 0 up open", "line 1 up shut", "line 2 up shut", "line 3 up open",
		"ring parts 2",
		"ok", "ok",
		"tick 33",
		"node 0 plain manual none none silent", "node 1 owner manual none none silent",
		"node 2 neighbour manual none none silent", "node 3 plain forced fs east fs",
		"line 0 up open", "line 1 up open", "line 2 up open", "line 3 up shut",
		"ring whole 1",
		"ok",
		"tick 33",
		"node 0 plain manual none none silent", "node 1 owner manual none none silent",
		"node 2 neighbour manual none none silent", "node 3 plain pending none east nr",
		"line 0 up open", "line 1 up open", "line 2 up open", "line 3 up shut",
		"ring whole 1",
		"ok",
		"tick 33",
		"node 0 plain forced fs west fs", "node 1 owner manual none none silent",
		"node 2 neighbour manual none none silent", "node 3 plain pending none east nr",
		"line 0 up open", "line 1 up open", "line 2 up open", "line 3 up shut",
		"ring whole 1",
	)
}

func TestTicksFlow(t *testing.T) { // P27.1: of tick behind each tick all comes; 0 of them does nothing, many are as many of one
	eachRing(func(p plan.Plan) {
		for _, n := range []int{0, 1, 2, 7, 30, 99, 100, 101} {
			want := stand(behind(t, p, ticks(n)...))
			says(t, p, text(fmt.Sprintf("tick %d", n), asked(p.Nodes)), append(oks(1), want...)...)
			says(t, p, strings.Repeat("tick 1\n", n)+asked(p.Nodes), append(oks(n), want...)...)
			says(t, p, text("tick 0", fmt.Sprintf("tick %d", n), "tick 0", asked(p.Nodes)), append(oks(3), want...)...)
		}
	})
}

func TestTickHasLettersCome(t *testing.T) { // P27.1: of tick 0 nothing comes; of tick 1 all does
	says(t, aPlan(4, 1), text("tick 30", "send 0 2 7", "tick 0", "came 0 2 7 2", "tick 1", "came 0 2 7 2"), "ok", "ok", "ok", "0", "ok", "1")
}

func TestManyTicks(t *testing.T) { // P27.1: 999 and 1000 ticks
	for _, n := range []int{999, 1000} {
		l := Run(fmt.Sprintf("tick %d\nlines", n), quiet(16, 3))
		if l[0] != "ok" || l[1] != fmt.Sprintf("tick %d", n) {
			t.Error(l)
		}
	}
}

// stepOf is lines, and the events that they are.
type stepOf struct {
	line   string
	events []event.Event
}

// stepsOf are lines of which nothing is wrong, of a ring at rest in which frames are on those ways that are busy.
func stepsOf(p plan.Plan, busy []int) []stepOf {
	l := []stepOf{
		{"tick 0", nil}, {"tick 1", ticks(1)}, {"tick 9", ticks(9)},
		{"flow", []event.Event{flow()}},
		{"lines\ncounts 200", nil},
	}
	for _, d := range busy {
		l = append(l,
			stepOf{fmt.Sprintf("deliver %d", d), []event.Event{deliver(d)}},
			stepOf{fmt.Sprintf("drop %d", d), []event.Event{drop(d)}})
	}
	for d := range 2 * p.Nodes {
		l = append(l,
			stepOf{fmt.Sprintf("down %d", d), []event.Event{down(d)}},
			stepOf{fmt.Sprintf("up %d", d), []event.Event{up(d)}},
			stepOf{fmt.Sprintf("down %d\ntick 9\nup %d", d, d), slices.Concat([]event.Event{down(d)}, ticks(9), []event.Event{up(d)})})
	}
	for i := range p.Nodes {
		east, back := waysOf(p.Nodes, i)
		l = append(l,
			stepOf{fmt.Sprintf("cut %d", i), []event.Event{down(east), down(back)}},
			stepOf{fmt.Sprintf("mend %d", i), nil},
			stepOf{fmt.Sprintf("cut %d\ntick 9\nmend %d", i, i), slices.Concat([]event.Event{down(east), down(back)}, ticks(9), []event.Event{up(east), up(back)})})
		for port, word := range []string{"west", "east"} {
			fs, ms, clear := order(i, port, req.FS), order(i, port, req.MS), order(i, api.West, req.Clear)
			l = append(l,
				stepOf{fmt.Sprintf("fs %d %s", i, word), []event.Event{fs}},
				stepOf{fmt.Sprintf("ms %d %s", i, word), []event.Event{ms}},
				stepOf{fmt.Sprintf("fs %d %s\ntick 2\nclear %d", i, word, i), []event.Event{fs, tick(), flow(), tick(), flow(), clear}},
				stepOf{fmt.Sprintf("ms %d %s\nclear %d", i, word, i), []event.Event{ms, clear}})
		}
	}
	return l
}

func TestLinesAreEvents(t *testing.T) { // P27.1: each line does to the ring what its events do, at once and later on
	t.Parallel()
	eachRing(func(p plan.Plan) {
		if p.Nodes == 16 && p.Owner != 1 {
			return
		}
		ahead, events := "tick 30", ticks(30)
		for i := range p.Nodes {
			ahead += fmt.Sprintf("\nsend %d all 1\nsend %d %d 2", i, i, (i+2)%p.Nodes)
			events = append(events, host(i, frameOf(p, i, -1, 1)), host(i, frameOf(p, i, (i+2)%p.Nodes, 2)))
		}
		r := behind(t, p, events...)
		var busy []int
		for d := range 2 * p.Nodes {
			if r.Way(d).Len() > 0 {
				busy = append(busy, d)
			}
		}
		// All ways but those of the line that is shut.
		if len(busy) != 2*p.Nodes-2 {
			t.Fatalf("frames are on %v", busy)
		}
		for _, s := range stepsOf(p, busy) {
			later := []string{ahead, s.line, asked(p.Nodes), "flow", asked(p.Nodes), "tick 6", asked(p.Nodes), "tick 50", asked(p.Nodes)}
			r := behind(t, p, slices.Concat(events, s.events)...)
			want := stand(r)
			for _, more := range [][]event.Event{{flow()}, ticks(6), ticks(50)} {
				for _, v := range more {
					r.Do(v)
				}
				want = append(append(want, "ok"), stand(r)...)
			}
			got := Run(text(later...), p)
			// What is said ahead of that is held to by other tests.
			if at := len(got) - len(want); at < 0 || !slices.Equal(got[at:], want) {
				t.Fatalf("%d nodes, the owner %d: behind %q said is\n%s, want\n%s", p.Nodes, p.Owner, s.line, text(got...), text(want...))
			}
		}
	})
}

// linesAtEnd is how each line of a ring stands behind a script.
func linesAtEnd(p plan.Plan, script string) []string {
	l := Run(script+"\nlines", p)
	return l[len(l)-1-p.Nodes : len(l)-1]
}

func TestBothWaysOfALine(t *testing.T) { // P27.1: cut takes both ways of each line down and mend takes both up, also behind down or up of one of them alone
	t.Parallel()
	eachRing(func(p plan.Plan) {
		was := linesAtEnd(p, "tick 30")
		for i := range p.Nodes {
			east, back := waysOf(p.Nodes, i)
			is := fmt.Sprintf("line %d up open", i)
			if i == p.Owner {
				is = fmt.Sprintf("line %d up shut", i)
			}
			isDown := fmt.Sprintf("line %d down shut", i)
			for _, c := range []struct{ lines, want string }{
				{fmt.Sprintf("cut %d", i), isDown},
				{fmt.Sprintf("cut %d\ncut %d", i, i), isDown},
				{fmt.Sprintf("cut %d\nmend %d", i, i), is},
				{fmt.Sprintf("mend %d", i), is},
				// One way that is up again leaves the other one down; both are the line.
				{fmt.Sprintf("cut %d\nup %d", i, east), isDown},
				{fmt.Sprintf("cut %d\nup %d", i, back), isDown},
				{fmt.Sprintf("cut %d\nup %d\nup %d", i, east, back), is},
				{fmt.Sprintf("cut %d\nup %d\nmend %d", i, east, i), is},
				{fmt.Sprintf("cut %d\nup %d\nmend %d", i, back, i), is},
				{fmt.Sprintf("down %d", east), isDown},
				{fmt.Sprintf("down %d", back), isDown},
				{fmt.Sprintf("down %d\nmend %d", east, i), is},
				{fmt.Sprintf("down %d\nmend %d", back, i), is},
				{fmt.Sprintf("down %d\ndown %d\nmend %d", back, east, i), is},
				{fmt.Sprintf("down %d\ncut %d\nup %d", east, i, east), isDown},
				{fmt.Sprintf("down %d\ncut %d\nup %d", back, i, back), isDown},
			} {
				// No other line is touched.
				want := slices.Clone(was)
				want[i] = c.want
				if got := linesAtEnd(p, "tick 30\n"+c.lines); !slices.Equal(got, want) {
					t.Fatalf("%d nodes, the owner %d: behind %q: %q, want %q", p.Nodes, p.Owner, c.lines, got, want)
				}
			}
		}
	})
}

func TestCutLosesFrames(t *testing.T) { // P27.1: what is on both ways of a line that is cut is lost, what is on other ones isn't; mended, nothing comes back
	eachRing(func(p plan.Plan) {
		for i := range p.Nodes {
			east, back := waysOf(p.Nodes, i)
			j := (i + 1) % p.Nodes
			if i == p.Owner {
				continue
			}
			ahead := fmt.Sprintf("tick 30\nsend %d all 1\nsend %d all 2\n", i, j)
			says(t, p, ahead+fmt.Sprintf("deliver %d\ndeliver %d\ncame %d all 1 %d\ncame %d all 2 %d", east, back, i, j, j, i),
				"ok", "ok", "ok", "ok", "ok", "1", "1")
			says(t, p, ahead+fmt.Sprintf("cut %d\nmend %d\ndeliver %d\ndeliver %d\nflow\ncame %d all 1 %d\ncame %d all 2 %d", i, i, east, back, i, j, j, i),
				"ok", "ok", "ok", "ok", "ok", "none", "none", "ok", "0", "0")
			says(t, p, ahead+fmt.Sprintf("mend %d\ndeliver %d\ndeliver %d", i, east, back), "ok", "ok", "ok", "ok", "ok", "ok")
		}
	})
}

func TestDeliverAndDrop(t *testing.T) { // P27.1: deliver and drop of a way's first frame, one by one; the other ways are as they were
	says(t, aPlan(4, 1), text("tick 30", "send 0 2 7", "send 0 all 8",
		"deliver 0", "came 0 all 8 3", "deliver 0", "came 0 all 8 3", "deliver 0",
		"drop 6", "deliver 6", "came 0 2 7 2", "came 0 all 8 2", "drop 6", "deliver 6",
		"drop 1", "drop 1", "drop 1", "came 0 all 8 1", "flow", "came 0 all 8 1"),
		"ok", "ok", "ok",
		"ok", "0", "ok", "1", "none",
		"ok", "ok", "0", "1", "none", "none",
		"ok", "ok", "none", "0", "ok", "0")
}

func TestDownAndUp(t *testing.T) { // P27.1: what is on a way that goes down is lost, and on one that goes up nothing is
	p := aPlan(4, 1)
	says(t, p, text("tick 30", "send 0 2 7", "down 0", "deliver 0", "up 0", "deliver 0", "deliver 1", "down 0", "send 0 all 8", "deliver 0", "up 0", "send 0 all 9", "deliver 0", "came 0 all 9 3"),
		"ok", "ok", "ok", "none", "ok", "none", "ok", "ok", "ok", "none", "ok", "ok", "ok", "1")
	says(t, p, text("tick 30", "send 0 2 7", "up 0", "deliver 0", "down 1", "down 1", "deliver 1"), "ok", "ok", "ok", "ok", "ok", "ok", "none")
}

func TestCountsOfNoNode(t *testing.T) { // P27.1: of counts of a node that there isn't no line is said; of each other one its own
	eachRing(func(p plan.Plan) {
		for i := range 256 {
			var want []string
			if i < p.Nodes {
				want = []string{fmt.Sprintf("counts %d 0 0 0 0 0 0 0 0 0 0 0 0 0 0 0 0", i)}
			}
			says(t, p, fmt.Sprintf("counts %d", i), want...)
		}
	})
}

func TestAskingDoesNothing(t *testing.T) { // P27.1: came, lines and counts change nothing
	eachRing(func(p plan.Plan) {
		asks := "\nlines\ncounts 0\ncame 0 1 2 1\ncame 0 all 2 1\ncame 200 all 1 200\ncounts 255\n"
		lines := []string{"tick 25", "send 0 1 2", "deliver 1", "cut 2", "tick 9", "send 0 all 2", "fs 1 east", "tick 2", "mend 2", "clear 1", "tick 60"}
		want := stand(readingOf(p, text(lines...)).r)
		ends(t, p, text(lines...)+"\n"+asked(p.Nodes), want...)
		ends(t, p, strings.Join(lines, asks)+asks+asked(p.Nodes), want...)
	})
}
