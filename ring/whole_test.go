package ring

import (
	"fmt"
	"slices"
	"testing"

	"carousel/chart"
	"carousel/mac"
	"carousel/raps"
	"carousel/req"
)

// runs has so many ticks go, and behind each of them all come.
func (x rig) runs(ticks int) {
	x.t.Helper()
	for range ticks {
		x.does(tick(), flow())
	}
}

// shut are the lines of which a port is shut.
func (x rig) shut() []int {
	var l []int
	for i := range x.p.Nodes {
		if x.Bridge(i).Node().Shut[east] || x.Bridge((i + 1) % x.p.Nodes).Node().Shut[west] {
			l = append(l, i)
		}
	}
	return l
}

// together holds a frame to all of each host to coming to each other one, just once.
func (x rig) together(name string) {
	x.t.Helper()
	x.heardAll()
	for i := range x.p.Nodes {
		s := data(x.p, mac.All, x.p.Host(i), name)
		want := map[int][]string{}
		for k := range x.p.Nodes {
			if k != i {
				want[k] = []string{s}
			}
		}
		x.does(host(i, s), flow())
		x.has(name, nil)
		x.hears(fmt.Sprintf("%s, of %d", name, i), want)
	}
}

// atRest holds a ring to its rest: all nodes idle, the owner's east line alone shut.
func (x rig) atRest(name string) {
	x.t.Helper()
	for i := range x.p.Nodes {
		if n := x.Bridge(i).Node(); n.State != chart.Idle {
			x.t.Fatalf("%s: node %d: %+v", name, i, n)
		}
	}
	if l := x.shut(); !slices.Equal(l, []int{x.p.Owner}) {
		x.t.Fatalf("%s: shut are %v", name, l)
	}
	x.together(name)
}

func TestCutAndMended(t *testing.T) { // P23.1, W2 to W4: a ring comes to rest, lives with each line cut, and comes back
	for _, nodes := range sizes {
		x := begin(t, aPlan(nodes))
		x.runs(30)
		x.atRest("at first")
		for line := range nodes {
			d := 2*line + 1
			x.does(down(d), down(otherWay(nodes, d)))
			x.runs(15)
			if l := x.shut(); !slices.Equal(l, []int{line}) {
				t.Fatalf("%d nodes, line %d cut: shut are %v", nodes, line, l)
			}
			for _, i := range []int{line, (line + 1) % nodes} {
				if n := x.Bridge(i).Node(); n.State != chart.Protect || n.Say.Request != raps.SF {
					t.Fatalf("%d nodes, line %d cut: node %d: %+v", nodes, line, i, n)
				}
			}
			x.together("cut")
			x.does(up(d), up(otherWay(nodes, d)))
			x.runs(40)
			x.atRest("mended")
		}
	}
}

func TestForcedAndCleared(t *testing.T) { // P23.1: an operator shuts a port, and takes it back
	for _, nodes := range sizes {
		x := begin(t, aPlan(nodes))
		x.runs(30)
		for i := range nodes {
			for _, port := range []int{west, east} {
				for _, k := range []req.Kind{req.FS, req.MS} {
					line := (i + nodes - 1 + port) % nodes
					x.does(order(i, port, int(k)))
					x.runs(2)
					if l := x.shut(); !slices.Equal(l, []int{line}) {
						t.Fatalf("%v at %d of %d: shut are %v, want %d", k, port, i, l, line)
					}
					x.together("forced")
					x.does(order(i, west, int(req.Clear)))
					x.runs(40)
					x.atRest("cleared")
				}
			}
		}
	}
}
