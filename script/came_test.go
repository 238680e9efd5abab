package script

import (
	"fmt"
	"testing"

	"carousel/plan"
)

func TestCameTwiceAsked(t *testing.T) { // P27.1: a letter that came is counted once, however often it is asked for, and whatever is done behind it
	eachRing(func(p plan.Plan) {
		says(t, p, text("tick 30", "send 0 1 7", "came 0 1 7 1", "flow", "came 0 1 7 1", "came 0 1 7 1", "flow", "came 0 1 7 1", "tick 5", "came 0 1 7 1", "lines", "send 0 1 7", "came 0 1 7 1"),
			append(append([]string{"ok", "ok", "0", "ok", "1", "1", "ok", "1", "ok", "1"}, linesBehind(p, 35, "send 0 1 7")...), "state", "1")...)
	})
}

// linesBehind are the lines of a ring at rest some ticks behind a letter that went at 30.
func linesBehind(p plan.Plan, at int, sent string) []string {
	return Run(text("tick 30", sent, "flow", fmt.Sprintf("tick %d", at-30), "lines"), p)[4:]
}

func TestLetterToEach(t *testing.T) { // P27.1: a letter to one comes to it once, ahead of what is learned and behind; at its sender it is 0; to itself it doesn't come
	eachRing(func(p plan.Plan) {
		for from := range p.Nodes {
			for to := range p.Nodes {
				want := "1"
				if from == to {
					want = "0"
				}
				one := fmt.Sprintf("send %d %d 9\nflow\ncame %d %d 9 %d\ncame %d %d 9 %d", from, to, from, to, to, from, to, from)
				says(t, p, "tick 30\n"+one, "ok", "ok", "ok", want, "0")
				// Where both hosts are known, too.
				says(t, p, fmt.Sprintf("tick 30\nsend %d all 1\nflow\nsend %d all 2\nflow\n", to, from)+one, append(oks(7), want, "0")...)
			}
		}
	})
}

func TestLetterToAll(t *testing.T) { // P27.1: a letter to all comes once at each host, and 0 times at its sender's
	eachRing(func(p plan.Plan) {
		for from := range p.Nodes {
			s, want := fmt.Sprintf("tick 30\nsend %d all 4294967295\nflow\n", from), oks(3)
			for host := range p.Nodes {
				s += fmt.Sprintf("came %d all 4294967295 %d\n", from, host)
				want = append(want, map[bool]string{true: "0", false: "1"}[host == from])
			}
			says(t, p, s, want...)
		}
	})
}

func TestLettersThatDiffer(t *testing.T) { // P27.1: letters that differ in From, in To (all among them) or in Number alone are told apart
	p := aPlan(4, 1)
	// All know where each host is, so that each letter to one comes to that one alone.
	ahead := "tick 30\nsend 0 all 0\nflow\nsend 1 all 0\nflow\nsend 2 all 0\nflow\nsend 3 all 0\nflow\n"
	ask := "came 0 2 7 2\ncame 1 2 7 2\ncame 0 3 7 2\ncame 0 3 7 3\ncame 0 all 7 2\ncame 0 all 7 3\ncame 0 2 8 2\ncame 0 2 7 3\n"
	for letter, came := range map[string][]string{
		"0 2 7":   {"1", "0", "0", "0", "0", "0", "0", "0"},
		"1 2 7":   {"0", "1", "0", "0", "0", "0", "0", "0"},
		"0 3 7":   {"0", "0", "0", "1", "0", "0", "0", "0"},
		"0 all 7": {"0", "0", "0", "0", "1", "1", "0", "0"},
		"0 2 8":   {"0", "0", "0", "0", "0", "0", "1", "0"},
	} {
		says(t, p, ahead+"send "+letter+"\nflow\n"+ask, append(oks(11), came...)...)
	}
	// All of them at once; each of them is another letter.
	says(t, p, ahead+"send 0 2 7\nsend 1 2 7\nsend 0 3 7\nsend 0 all 7\nsend 0 2 8\nflow\n"+ask, append(oks(15), "1", "1", "0", "1", "1", "1", "1", "0")...)
	// What wasn't sent hasn't come, whatever else did.
	says(t, p, ahead+"send 0 all 7\nflow\ncame 0 1 7 1\ncame 0 2 7 2\ncame 0 0 7 0\ncame 1 all 7 2\ncame 0 all 6 2\ncame 0 all 7 200", append(oks(11), "0", "0", "0", "0", "0", "0")...)
}

func TestWhatComesBy(t *testing.T) { // P27.1: what comes by tick, by flow and by deliver; what is on its way, or was dropped, hasn't come
	p := aPlan(4, 1)
	for by, want := range map[string]string{
		"tick 1": "1", "tick 2": "1", "flow": "1", "deliver 0": "1", "deliver 0\nflow": "1",
		"tick 0": "0", "lines": "0", "counts 3": "0", "deliver 1": "0", "drop 0": "0", "down 0": "0", "cut 3": "0", "drop 0\nflow": "0", "cut 3\ntick 20": "0",
		"drop 1\nflow": "1", "up 0\nflow": "1", "mend 3\nflow": "1", "cut 0\nflow": "1", "fs 3 east\nflow": "0", "fs 3 west\nflow": "1",
	} {
		ends(t, p, "tick 30\nsend 0 3 7\n"+by+"\ncame 0 3 7 3", want)
	}
}

func TestLetterThatComesTwice(t *testing.T) { // P27.1: how often a letter came: one that goes round while another port is shut comes twice to one host
	says(t, aPlan(4, 1), text("tick 30", "fs 0 west", "tick 3",
		"send 1 all 9", "deliver 2", "came 1 all 9 0", "came 1 all 9 2",
		"fs 0 east", "flow", "came 1 all 9 0", "came 1 all 9 1", "came 1 all 9 2", "came 1 all 9 3", "came 1 all 9 0"),
		"ok", "ok", "ok", "ok", "ok", "1", "0", "ok", "ok", "2", "0", "1", "1", "2")
}

func TestLettersOverACut(t *testing.T) { // P27.1: letters come on the path that is left, as soon as it is open, and behind the mending
	eachRing(func(p plan.Plan) {
		for line := range p.Nodes {
			from, to := line, (line+1)%p.Nodes
			says(t, p, text("tick 30", fmt.Sprintf("cut %d", line), "tick 15",
				fmt.Sprintf("send %d %d 1", from, to), "flow", fmt.Sprintf("came %d %d 1 %d", from, to, to),
				fmt.Sprintf("mend %d", line), "tick 60",
				fmt.Sprintf("send %d all 2", to), "tick 1", fmt.Sprintf("came %d all 2 %d", to, from), fmt.Sprintf("came %d all 2 %d", to, to)),
				"ok", "ok", "ok", "ok", "ok", "1", "ok", "ok", "ok", "ok", "1", "0")
		}
	})
}

func TestLettersOfOthers(t *testing.T) { // P27.1: each script has letters of its own: what one sends another one hasn't sent
	p := aPlan(4, 1)
	for range 3 {
		says(t, p, "tick 30\nsend 0 2 7\nflow\ncame 0 2 7 2", "ok", "ok", "ok", "1")
		says(t, p, "tick 30\ncame 0 2 7 2\nflow\ncame 0 2 7 2", "ok", "0", "ok", "0")
	}
}
