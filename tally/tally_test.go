package tally

import (
	"math"
	"math/big"
	"math/rand"
	"slices"
	"sync"
	"testing"
)

const most = math.MaxUint64

// wrongNumbers are of no counter.
var wrongNumbers = []int{-1, 16, 17, 32, -16, 256, 1 << 32, math.MinInt, math.MaxInt}

// amounts are at the edges of what may be added.
var amounts = []uint64{0, 1, 2, 5, 1 << 31, 1 << 32, 1<<63 - 1, 1 << 63, 1<<63 + 1, most - 2, most - 1, most}

// added is a and b together in numbers without an end, cut at 2^64 - 1: another way than the package's.
func added(a, b uint64) uint64 {
	n := new(big.Int).Add(new(big.Int).SetUint64(a), new(big.Int).SetUint64(b))
	if !n.IsUint64() {
		return most
	}
	return n.Uint64()
}

// holds says by All and by Get what the counters are.
func holds(t *testing.T, x *Tally, want []uint64) {
	t.Helper()
	if l := x.All(); !slices.Equal(l, want) {
		t.Fatalf("All() = %v, want %v", l, want)
	}
	for k, n := range want {
		if got := x.Get(k); got != n {
			t.Fatalf("Get(%d) = %d, want %d", k, got, n)
		}
	}
	for _, k := range wrongNumbers {
		if got := x.Get(k); got != 0 {
			t.Fatalf("Get(%d) = %d, want 0", k, got)
		}
	}
}

func TestNew(t *testing.T) { // P7.1
	if Size != 16 {
		t.Fatal(Size)
	}
	x, y := New(), New()
	holds(t, x, make([]uint64, 16))
	x.Add(0, 3)
	holds(t, y, make([]uint64, 16))
	holds(t, New(), make([]uint64, 16))
}

func TestExample(t *testing.T) { // P7.1
	x := New()
	x.Add(3, 5)
	x.Add(3, most-2)
	if n := x.Get(3); n != most {
		t.Fatal(n)
	}
}

func TestEachCounterAlone(t *testing.T) { // P7.1
	for k := range Size {
		x := New()
		want := make([]uint64, Size)
		for _, n := range []uint64{7, 0, 1, 1 << 40} {
			x.Add(k, n)
			want[k] += n
			holds(t, x, want)
		}
	}
}

func TestNoCounter(t *testing.T) { // P7.1, R1
	x := New()
	want := make([]uint64, Size)
	for k := range Size {
		want[k] = uint64(k) + 1
		x.Add(k, want[k])
	}
	for _, k := range wrongNumbers {
		for _, n := range amounts {
			x.Add(k, n)
			holds(t, x, want)
		}
	}
}

func TestEdges(t *testing.T) { // P7.1: up to 2^64 - 1, and no further
	for _, a := range amounts {
		for _, b := range amounts {
			for _, c := range amounts {
				x := New()
				want := make([]uint64, Size)
				for _, n := range []uint64{a, b, c} {
					x.Add(15, n)
					want[15] = added(want[15], n)
					holds(t, x, want)
				}
			}
		}
	}
}

func TestFullStays(t *testing.T) { // P7.1: whatever is added behind that
	x := New()
	x.Add(4, most-1)
	x.Add(4, 1)
	for _, n := range amounts {
		x.Add(4, n)
		if got := x.Get(4); got != most {
			t.Fatalf("Add(4, %d) of a full one: %d", n, got)
		}
	}
	x.Reset()
	x.Add(4, 1)
	if got := x.Get(4); got != 1 {
		t.Fatalf("behind Reset: %d", got)
	}
}

func TestReset(t *testing.T) { // P7.1
	x := New()
	want := make([]uint64, Size)
	for round := range 3 {
		for k := range Size {
			want[k] = uint64(100*round + k + 1)
			x.Add(k, want[k])
		}
		if l := x.Reset(); !slices.Equal(l, want) {
			t.Fatalf("Reset() = %v, want %v", l, want)
		}
		holds(t, x, make([]uint64, Size))
		if l := x.Reset(); !slices.Equal(l, make([]uint64, Size)) {
			t.Fatalf("Reset() once more = %v", l)
		}
	}
}

func TestAnswersAreNew(t *testing.T) { // R3, R5
	x := New()
	x.Add(0, 5)
	a, b := x.All(), x.All()
	a[0], b[1] = 9, 9
	if got := x.Get(0); got != 5 {
		t.Fatal("an answer of All is the tally's own", got)
	}
	if b[0] != 5 || a[1] != 0 {
		t.Fatal("two answers share memory", a, b)
	}
	c := x.Reset()
	c[2] = 9
	x.Add(0, 1)
	if c[0] != 5 || x.Get(2) != 0 {
		t.Fatal("an answer of Reset is the tally's own", c)
	}
}

func TestManyCalls(t *testing.T) { // P7.1, P7.2: one behind the other, in any order
	r := rand.New(rand.NewSource(1))
	for range 300 {
		x := New()
		want := make([]uint64, Size)
		for range 100 {
			k := r.Intn(20) - 2
			n := r.Uint64() >> r.Intn(64)
			switch r.Intn(40) {
			case 0:
				if l := x.Reset(); !slices.Equal(l, want) {
					t.Fatalf("Reset() = %v, want %v", l, want)
				}
				want = make([]uint64, Size)
			default:
				x.Add(k, n)
				if k >= 0 && k < Size {
					want[k] = added(want[k], n)
				}
			}
		}
		holds(t, x, want)
	}
}

// together runs so many at the same time, begun at once, and waits till all are done.
func together(workers int, work func(i int)) {
	var all sync.WaitGroup
	begin := make(chan bool)
	for i := range workers {
		all.Go(func() {
			<-begin
			work(i)
		})
	}
	close(begin)
	all.Wait()
}

func TestAddTogether(t *testing.T) { // P7.2: nothing gets lost
	const workers, rounds = 16, 3000
	x := New()
	together(workers, func(i int) {
		for j := range rounds {
			x.Add(7, uint64(i+1))
			x.Add(j%Size, 1)
			x.Add(Size+i, 1)
		}
	})
	want := make([]uint64, Size)
	for j := range rounds {
		want[j%Size] += workers
	}
	want[7] += rounds * workers * (workers + 1) / 2
	holds(t, x, want)
}

func TestFillTogether(t *testing.T) { // P7.2: up to 2^64 - 1, and never back
	const workers, rounds = 8, 20000
	for _, n := range []uint64{1 << 60, 1 << 63, most, most / (workers * rounds)} {
		x := New()
		together(workers, func(i int) {
			last := uint64(0)
			for range rounds {
				x.Add(1, n)
				got := x.Get(1)
				if got < last {
					t.Errorf("a counter fell from %d to %d", last, got)
					return
				}
				last = got
			}
		})
		want := uint64(most)
		if n == most/(workers*rounds) {
			want = n * workers * rounds
		}
		if got := x.Get(1); got != want {
			t.Fatalf("%d together: %d, want %d", n, got, want)
		}
	}
}

func TestResetTogether(t *testing.T) { // P7.2: what is added stands in just one Reset's answer, or stays
	const adders, resetters, rounds = 6, 2, 20000
	x := New()
	told := make([][Size]uint64, resetters)
	together(adders+resetters, func(i int) {
		for j := range rounds {
			if i < adders {
				// Mostly one counter, so that calls meet there.
				x.Add(15, 1)
				x.Add(j%Size, uint64(i+1))
				continue
			}
			for k, n := range x.Reset() {
				told[i-adders][k] += n
			}
		}
	})
	got := x.Reset()
	for _, l := range told {
		for k, n := range l {
			got[k] += n
		}
	}
	want := make([]uint64, Size)
	for j := range rounds {
		want[j%Size] += adders * (adders + 1) / 2
	}
	want[15] += rounds * adders
	if !slices.Equal(got, want) {
		t.Fatalf("%v in all, want %v", got, want)
	}
	holds(t, x, make([]uint64, Size))
}
