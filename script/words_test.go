package script

import (
	"fmt"
	"strings"
	"testing"

	"carousel/plan"
)

func TestTicksBeyondTheLast(t *testing.T) { // P27.1: full, of the first tick that goes wrong, which is the last one; tick 0 is ok there, too
	t.Parallel()
	p := quiet(3, 1)
	most := strings.Repeat("tick 1000\n", 1048)
	want := oks(1048)
	says(t, p, most+text("tick 575", "tick 1", "lines"), append(want, append(oks(2), Run(most+"tick 576\nlines", p)[1049:]...)...)...)
	ends(t, p, most+text("tick 576", "tick 0", "tick 1", "tick 1", "tick 1000", "tick 0", "flow"), "ok", "ok", "full", "full", "full", "ok", "ok")
	// Of more ticks than are left, those that are left go.
	for _, n := range []int{577, 578, 1000} {
		l := Run(most+fmt.Sprintf("tick %d\nlines\ntick 0\ntick 1", n), p)
		if l[1047] != "ok" || l[1048] != "full" || l[1049] != "tick 1048576" || l[len(l)-2] != "ok" || l[len(l)-1] != "full" {
			t.Errorf("tick %d: %q", n, l[1047:])
		}
	}
	if l := Run(most+"tick 575\nlines\ntick 2\nlines", p); l[1049] != "tick 1048575" || l[1057] != "full" || l[1058] != "tick 1048576" {
		t.Errorf("%q", l[1048:])
	}
}

func TestTickThatGoesWrong(t *testing.T) { // P27.1: nothing is done behind a tick that goes wrong: what is on its way stays there
	t.Parallel()
	p := quiet(3, 1)
	most := strings.Repeat("tick 1000\n", 1048)
	ends(t, p, most+text("tick 575", "send 0 2 7", "tick 1", "came 0 2 7 2", "send 0 2 8", "tick 3", "came 0 2 8 2", "flow", "came 0 2 8 2"),
		"ok", "ok", "ok", "1", "ok", "full", "0", "ok", "1")
}

func TestNoSuchWay(t *testing.T) { // P27.1: port, of each way that there isn't, up to 255; none, of each way on which nothing is
	eachRing(func(p plan.Plan) {
		for d := range 256 {
			want := []string{"none", "none", "ok", "ok"}
			if d >= 2*p.Nodes {
				want = []string{"port", "port", "port", "port"}
			}
			want = append(want, stand(begin(t, p))...)
			says(t, p, text(fmt.Sprintf("deliver %d\ndrop %d\ndown %d\nup %d", d, d, d, d), asked(p.Nodes)), want...)
		}
	})
}

func TestNoSuchLine(t *testing.T) { // P27.1: port, of each line that there isn't, up to 255, the number of whose way has more bits than one of an event; no other one is touched
	eachRing(func(p plan.Plan) {
		for i := range 256 {
			s := fmt.Sprintf("cut %d\nmend %d\ncut %d\n", i, i, i)
			if i < p.Nodes {
				ends(t, p, s+"deliver 0", "ok", "ok", "ok", "none")
				continue
			}
			says(t, p, s+asked(p.Nodes), append([]string{"port", "port", "port"}, stand(begin(t, p))...)...)
		}
		// Where all lines are cut, none is mended by one that there isn't.
		var cut string
		for i := range p.Nodes {
			cut += fmt.Sprintf("cut %d\n", i)
		}
		want := Run(cut+asked(p.Nodes), p)[p.Nodes:]
		for i := p.Nodes; i < 256; i++ {
			ends(t, p, cut+fmt.Sprintf("mend %d\n", i)+asked(p.Nodes), append([]string{"port"}, want...)...)
		}
	})
}

func TestOrdersOfNoNode(t *testing.T) { // P27.1: port, of each node that there isn't, up to 255, of either port
	eachRing(func(p plan.Plan) {
		for i := range 256 {
			for _, s := range []string{"fs %d west", "fs %d east", "ms %d west", "ms %d east", "clear %d"} {
				want := "ok"
				switch {
				case i >= p.Nodes:
					want = "port"
				case s == "clear %d" && i != p.Owner:
					// A node that isn't the owner has nothing to clear while it is Pending.
					want = "state"
				}
				says(t, p, fmt.Sprintf(s, i), want)
			}
		}
	})
}

func TestOrdersThatAreNotTaken(t *testing.T) { // P27.1: state, where something higher stands, and of clear where there is nothing to clear; beside it nothing changes
	eachRing(func(p plan.Plan) {
		for i := range p.Nodes {
			for _, port := range []string{"west", "east"} {
				fs, ms, clear := fmt.Sprintf("fs %d %s", i, port), fmt.Sprintf("ms %d %s", i, port), fmt.Sprintf("clear %d", i)
				ends(t, p, text("tick 30", fs, ms, fs, clear), "ok", "state", "ok", "ok")
				// While a line is cut, a fault stands at both its ends.
				east, west := fmt.Sprintf("cut %d", i), fmt.Sprintf("cut %d", (i+p.Nodes-1)%p.Nodes)
				ends(t, p, text("tick 30", east, "tick 15", ms, fs, ms), "state", "ok", "state")
				ends(t, p, text("tick 30", west, "tick 15", ms, fs, ms), "state", "ok", "state")
				was := Run(text("tick 30", fs, asked(p.Nodes)), p)
				says(t, p, text("tick 30", fs, ms, asked(p.Nodes)), append([]string{"ok", "ok", "state"}, was[2:]...)...)
			}
		}
	})
}

func TestSendWords(t *testing.T) { // P27.1: range, of nodes that there aren't, up to 255; state, of a letter that was sent; beside both nothing changes
	eachRing(func(p plan.Plan) {
		for i := range 256 {
			want := "ok"
			if i >= p.Nodes {
				want = "range"
			}
			says(t, p, fmt.Sprintf("send %d 0 7", i), want)
			says(t, p, fmt.Sprintf("send %d all 7", i), want)
			says(t, p, fmt.Sprintf("send 0 %d 7", i), want)
			says(t, p, fmt.Sprintf("send %d %d 7\nsend %d %d 7", i, i, i, i), want, map[string]string{"ok": "state", "range": "range"}[want])
		}
		says(t, p, "send 255 255 7", "range")
		says(t, p, "send 255 0 7", "range")
		was := stand(readingOf(p, "send 0 all 7\nflow").r)
		says(t, p, "send 0 all 7\nsend 0 all 7\nsend 255 1 7\nsend 0 255 7\nsend 0 all 7\nflow\n"+asked(p.Nodes),
			append([]string{"ok", "state", "range", "range", "state", "ok"}, was...)...)
	})
	// Also when it came, or was lost.
	says(t, aPlan(3, 0), "tick 30\nsend 1 2 7\nflow\ncame 1 2 7 2\nsend 1 2 7\ndown 3\nsend 1 2 8\nsend 1 2 8\nup 3\ntick 9\nsend 1 2 8\ncame 1 2 8 2",
		"ok", "ok", "ok", "1", "state", "ok", "ok", "state", "ok", "ok", "state", "0")
}

func TestCameOfNothing(t *testing.T) { // P27.1: 0, of a letter that wasn't sent, of nodes and hosts that there aren't, up to 255, and of all of them
	eachRing(func(p plan.Plan) {
		// All know where host 1 is: no other one hears what is sent to it.
		s := "tick 30\nsend 1 all 6\nflow\nsend 0 1 7\nsend 0 all 8\nflow\n"
		ahead := oks(6)
		for i := range 256 {
			host := "0"
			if i > 0 && i < p.Nodes {
				host = "1"
			}
			one := "0"
			if i == 1 {
				one = "1"
			}
			says(t, p, s+fmt.Sprintf("came 0 all 8 %d\ncame 0 1 7 %d\ncame 0 %d 7 1\ncame %d all 8 1\ncame %d %d 7 %d\ncame %d all 8 %d\n", i, i, i, i, i, i, i, i, i),
				append(ahead, host, one, one, map[bool]string{true: "1", false: "0"}[i == 0], "0", "0")...)
		}
	})
	says(t, aPlan(3, 0), "came 0 all 0 0\ncame 0 0 0 0\ncame 255 255 4294967295 255\ncame 255 all 4294967295 255", "0", "0", "0", "0")
}
