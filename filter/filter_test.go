package filter

import (
	"math"
	"slices"
	"testing"

	"carousel/api"
)

// shuts are the four ways in which two ring ports are shut or not.
var shuts = [][2]bool{{false, false}, {true, false}, {false, true}, {true, true}}

// numbers are the ports, and numbers that are none, those among them whose low bits are a port's.
var numbers = []int{
	0, 1, 2, 3, -1, -2, -3, 4, 5, 127, 128, -128, 255, 256, 257, 258, 1 << 16, 1<<16 + 1, 1<<16 + 2,
	math.MaxInt32, math.MinInt32, 1<<32 - 1, 1 << 32, 1<<32 + 1, 1<<32 + 2, -1 << 32, 1 - 1<<32, 2 - 1<<32,
	math.MinInt, math.MinInt + 1, math.MinInt + 2, math.MaxInt - 1, math.MaxInt,
}

// told is what the chapter says of one way in which ring ports are shut, written down whole.
type told struct {
	shut [2]bool
	open [3]bool
	// data and ring say to which ports, of the rows' ones, something passes.
	data, ring [3][3]bool
	outs       [3][]int
}

const (
	x = true
	o = false
)

// table is all that passes at ports.
var table = []told{
	{
		shut: [2]bool{o, o},
		open: [3]bool{x, x, x},
		data: [3][3]bool{{o, x, x}, {x, o, x}, {x, x, o}},
		ring: [3][3]bool{{o, x, o}, {x, o, o}, {o, o, o}},
		outs: [3][]int{{1, 2}, {0, 2}, {0, 1}},
	},
	{
		shut: [2]bool{x, o},
		open: [3]bool{o, x, x},
		data: [3][3]bool{{o, o, o}, {o, o, x}, {o, x, o}},
		outs: [3][]int{{}, {2}, {1}},
	},
	{
		shut: [2]bool{o, x},
		open: [3]bool{x, o, x},
		data: [3][3]bool{{o, o, x}, {o, o, o}, {x, o, o}},
		outs: [3][]int{{2}, {}, {0}},
	},
	{
		shut: [2]bool{x, x},
		open: [3]bool{o, o, x},
		outs: [3][]int{{}, {}, {}},
	},
}

// isPort says whether a number is a port.
func isPort(n int) bool { return n >= 0 && n <= 2 }

// passes says what a table of pairs of ports says of two numbers: of those that are no ports nothing passes.
func passes(pairs [3][3]bool, in, out int) bool {
	return isPort(in) && isPort(out) && pairs[in][out]
}

// goes are the ports to which data pass, by the table.
func (w told) goes(in int) []int {
	if !isPort(in) {
		return nil
	}
	return w.outs[in]
}

func TestExample(t *testing.T) { // P18.1: West shut: Outs of East is Local alone
	if l := Outs([2]bool{true, false}, api.East); !slices.Equal(l, []int{api.Local}) {
		t.Fatal(l)
	}
}

func TestEachWayIsTold(t *testing.T) { // the table has each of the four ways once
	for i, shut := range shuts {
		if table[i].shut != shut {
			t.Fatal(i, table[i].shut)
		}
	}
}

func TestOpen(t *testing.T) { // P18.1: ports that aren't shut, and no number that is no port
	for _, w := range table {
		for _, port := range numbers {
			want := isPort(port) && w.open[port]
			if got := Open(w.shut, port); got != want {
				t.Errorf("Open(%v, %d) = %v", w.shut, port, got)
			}
		}
	}
}

func TestLocalIsNeverShut(t *testing.T) { // P18.1: with ring ports shut or not, the local one is open
	for _, shut := range shuts {
		if !Open(shut, api.Local) {
			t.Errorf("Open(%v, Local) = false", shut)
		}
	}
}

func TestData(t *testing.T) { // P18.1: every pair of ports, and of numbers that are none, at either end or both
	for _, w := range table {
		for _, in := range numbers {
			for _, out := range numbers {
				if got := Data(w.shut, in, out); got != passes(w.data, in, out) {
					t.Errorf("Data(%v, %d, %d) = %v", w.shut, in, out, got)
				}
			}
		}
	}
}

func TestRing(t *testing.T) { // P18.1: ring ports alone, not one, and both open
	for _, w := range table {
		for _, in := range numbers {
			for _, out := range numbers {
				if got := Ring(w.shut, in, out); got != passes(w.ring, in, out) {
					t.Errorf("Ring(%v, %d, %d) = %v", w.shut, in, out, got)
				}
			}
		}
	}
}

func TestOuts(t *testing.T) { // P18.1: the ports to which data pass; of a shut port, and of no port, none
	for _, w := range table {
		for _, in := range numbers {
			if got := Outs(w.shut, in); !slices.Equal(got, w.goes(in)) {
				t.Errorf("Outs(%v, %d) = %v", w.shut, in, got)
			}
		}
	}
}

func TestOutsRise(t *testing.T) { // P18.1: rising, and no port twice
	for _, shut := range shuts {
		for _, in := range numbers {
			l := Outs(shut, in)
			for i := 1; i < len(l); i++ {
				if l[i] <= l[i-1] {
					t.Errorf("Outs(%v, %d) = %v", shut, in, l)
				}
			}
		}
	}
}

func TestNothingPassesToItself(t *testing.T) { // P18.1: a port and itself, a number and itself
	for _, shut := range shuts {
		for _, n := range numbers {
			if Data(shut, n, n) || Ring(shut, n, n) || slices.Contains(Outs(shut, n), n) {
				t.Errorf("%v: from %d to itself", shut, n)
			}
		}
	}
}

func TestNoMessageAtLocal(t *testing.T) { // P18.1: no message goes to the local port, or comes from there
	for _, shut := range shuts {
		for _, n := range numbers {
			if Ring(shut, api.Local, n) || Ring(shut, n, api.Local) {
				t.Errorf("%v: a message between Local and %d", shut, n)
			}
		}
	}
}

func TestOutsAreDatas(t *testing.T) { // P18.1: Outs names just those ports to which Data says yes
	for _, shut := range shuts {
		for _, in := range numbers {
			l := Outs(shut, in)
			for _, out := range numbers {
				if slices.Contains(l, out) != Data(shut, in, out) {
					t.Errorf("Outs(%v, %d) = %v, Data to %d is %v", shut, in, l, out, Data(shut, in, out))
				}
			}
		}
	}
}

func TestBothWays(t *testing.T) { // P18.2: data pass both ways, or neither; so do messages, by what Ring says
	for _, shut := range shuts {
		for _, a := range numbers {
			for _, b := range numbers {
				if Data(shut, a, b) != Data(shut, b, a) || Ring(shut, a, b) != Ring(shut, b, a) {
					t.Errorf("%v: one way alone between %d and %d", shut, a, b)
				}
				if slices.Contains(Outs(shut, a), b) != slices.Contains(Outs(shut, b), a) {
					t.Errorf("%v: Outs one way alone between %d and %d", shut, a, b)
				}
			}
		}
	}
}

func TestNoMessageWithAShutPort(t *testing.T) { // P18.2: with a shut ring port no message passes
	for _, shut := range shuts {
		for _, in := range numbers {
			for _, out := range numbers {
				if (shut[0] || shut[1]) && Ring(shut, in, out) {
					t.Errorf("Ring(%v, %d, %d)", shut, in, out)
				}
			}
		}
	}
}

func TestOutsAreNew(t *testing.T) { // R3: who writes into an answer, or behind its end, changes no other one, earlier or later
	for _, w := range table {
		for in := range 3 {
			for _, other := range table {
				for from := range 3 {
					earlier := Outs(w.shut, in)
					written := Outs(other.shut, from)
					for i := range written[:cap(written)] {
						written[:cap(written)][i] = 9
					}
					if !slices.Equal(earlier, w.outs[in]) {
						t.Errorf("Outs(%v, %d) = %v, by a write into Outs(%v, %d)", w.shut, in, earlier, other.shut, from)
					}
					if later := Outs(w.shut, in); !slices.Equal(later, w.outs[in]) {
						t.Errorf("Outs(%v, %d) = %v, behind a write into Outs(%v, %d)", w.shut, in, later, other.shut, from)
					}
				}
			}
		}
	}
}

func TestNothingIsKept(t *testing.T) { // R5: answers hang on arguments alone, whatever was asked ahead of them
	for _, before := range table {
		for _, w := range table {
			for in := range 3 {
				Outs(before.shut, in)
				Open(before.shut, in)
				for out := range 3 {
					Ring(before.shut, in, out)
					if Data(w.shut, in, out) != w.data[in][out] || Ring(w.shut, in, out) != w.ring[in][out] || Open(w.shut, out) != w.open[out] {
						t.Errorf("%v behind %v: %d, %d", w.shut, before.shut, in, out)
					}
				}
				if !slices.Equal(Outs(w.shut, in), w.outs[in]) {
					t.Errorf("Outs(%v, %d) behind %v", w.shut, in, before.shut)
				}
			}
		}
	}
}
