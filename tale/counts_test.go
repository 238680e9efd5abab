package tale

import (
	"fmt"
	"slices"
	"strconv"
	"strings"
	"testing"

	"carousel/api"
	"carousel/req"
)

// noNodes are numbers that no node of any ring has.
var noNodes = []int{-1, -2, -256, minInt, minInt + 1, api.MaxNodes, api.MaxNodes + 1, 255, 256, 1 << 31, 1 << 32, maxInt, maxInt - 1}

func TestCountsOfNewRings(t *testing.T) { // P26.1: of each node of a new ring sixteen noughts; of what is no node nothing
	eachRing(func(nodes, owner int) {
		x := begin(t, aPlan(nodes, owner))
		for i := range nodes {
			if got, want := Counts(x.Ring, i), fmt.Sprintf("counts %d", i)+" 0 0 0 0 0 0 0 0 0 0 0 0 0 0 0 0"; got != want {
				t.Fatalf("%q, want %q", got, want)
			}
		}
		for _, i := range append([]int{nodes, nodes + 1}, noNodes...) {
			if got := Counts(x.Ring, i); got != "" {
				t.Fatalf("of %d nodes, Counts(%d) = %q", nodes, i, got)
			}
		}
	})
}

func TestCountsInOrder(t *testing.T) { // P26.1: each counter that there is, at its place, above 9 and above 99 too
	x := begin(t, aPlan(3, 0))
	x.does(tick())
	for i := range 3 {
		// Two checks and two messages went out.
		if got, want := Counts(x.Ring, i), fmt.Sprintf("counts %d 0 4 0 0 0 0 0 2 0 2 0 0 0 0 0 0", i); got != want {
			t.Errorf("%q, want %q", got, want)
		}
	}
	// Node 1 hears a check and two messages; node 2's it takes by its east port, which is shut.
	x.does(deliver(1), deliver(1), deliver(4), deliver(4))
	if got, want := Counts(x.Ring, 1), "counts 1 4 4 0 0 0 0 2 2 2 2 0 0 0 0 0 0"; got != want {
		t.Errorf("%q, want %q", got, want)
	}
	x.runs(30)
	x.does(order(1, api.East, req.FS))
	x.runs(2)
	y := x.Bridge(1).Counters()
	// What is no frame is dropped; a frame goes to all, out of one ring port, and is refused when it comes back by the other one.
	for range 250 {
		x.does(host(1, "x"))
	}
	x.does(host(1, data(x.p, 1)), flow())
	got := strings.Fields(Counts(x.Ring, 1))
	for at, more := range map[int]uint64{0: 252, 1: 1, 2: 250, 3: 1, 4: 1, 5: 0, 6: 0, 7: 0, 8: 0, 9: 0, 10: 0, 15: 0} {
		if want := strconv.FormatUint(y[at]+more, 10); got[2+at] != want {
			t.Errorf("counter %d is %s, want %s", at, got[2+at], want)
		}
	}
	if got := strings.Fields(Counts(x.Ring, 2)); len(got) != 18 || got[12] != "1" {
		t.Errorf("the other one's host was handed it: %q", got)
	}
}

// counted holds what is told of all nodes' counters to the counters, one by one.
func (x rig) counted(name string) {
	x.t.Helper()
	for i := range x.p.Nodes {
		s := Counts(x.Ring, i)
		words := strings.Split(s, " ")
		if len(words) != 18 || words[0] != "counts" || words[1] != fmt.Sprint(i) {
			x.t.Fatalf("%s: Counts(%d) = %q", name, i, s)
		}
		for k, want := range x.Bridge(i).Counters() {
			got, err := strconv.ParseUint(words[2+k], 10, 64)
			if err != nil || got != want || words[2+k] != strconv.FormatUint(got, 10) {
				x.t.Fatalf("%s: counter %d of node %d is %q, want %d; %v", name, k, i, words[2+k], want, err)
			}
		}
	}
	for _, i := range []int{-1, x.p.Nodes, 255, minInt, maxInt} {
		if s := Counts(x.Ring, i); s != "" {
			x.t.Fatalf("%s: of %d nodes, Counts(%d) = %q", name, x.p.Nodes, i, s)
		}
	}
}

func TestCountsAskedTwice(t *testing.T) { // R5, R3: asked again they say the same, and the ring is as it was
	x, twin := rested(t, aPlan(4, 1)), rested(t, aPlan(4, 1))
	var first []string
	for range 20 {
		var l []string
		for i := -1; i <= 4; i++ {
			l = append(l, Counts(x.Ring, i))
		}
		if first == nil {
			first = l
		}
		if !slices.Equal(l, first) {
			t.Fatalf("%q, and then %q", first, l)
		}
	}
	x.like("asked", twin)
}
