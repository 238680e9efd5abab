package timer

import (
	"cmp"
	"math"
	"math/rand"
	"slices"
	"testing"

	"carousel/api"
)

const (
	maxTick = 1 << 40
	maxTime = 1 << 20
)

// wrongNames are of no timer.
var wrongNames = []int{-1, 8, 9, 16, -8, 256, 1 << 32, math.MinInt, math.MaxInt}

// model is when each timer that runs is due: another way than the package's, to hold it against.
type model map[int]int64

// order is the timers that run, as they are to be popped.
func (m model) order() []int {
	var l []int
	for name := range m {
		l = append(l, name)
	}
	slices.SortFunc(l, func(a, b int) int { return cmp.Or(cmp.Compare(m[a], m[b]), cmp.Compare(a, b)) })
	return l
}

// holds asks a bank all that doesn't change it.
func holds(t *testing.T, b Bank, m model) {
	t.Helper()
	for name := range Size {
		due, is := m[name]
		if !is {
			due = -1
		}
		if b.Runs(name) != is || b.Due(name) != due {
			t.Fatalf("Runs(%d) = %v, Due = %d, want %v, %d", name, b.Runs(name), b.Due(name), is, due)
		}
	}
	for _, name := range wrongNames {
		if b.Runs(name) || b.Due(name) != -1 {
			t.Fatalf("Runs(%d) = %v, Due = %d", name, b.Runs(name), b.Due(name))
		}
	}
	tick, is := b.Next()
	if l := m.order(); len(l) == 0 && (tick != 0 || is) || len(l) > 0 && (tick != m[l[0]] || !is) {
		t.Fatalf("Next() = %d, %v, of %v", tick, is, m)
	}
}

// started is the bank with one more that runs.
func started(t *testing.T, b Bank, name int, now, length int64) Bank {
	t.Helper()
	c, e := b.Start(name, now, length)
	if e != api.OK {
		t.Fatalf("Start(%d, %d, %d) = %v", name, now, length, e)
	}
	return c
}

// popped is the bank without the one that Pop is to answer.
func popped(t *testing.T, b Bank, now int64, want int) Bank {
	t.Helper()
	name, c, ok := b.Pop(now)
	if name != want || !ok {
		t.Fatalf("Pop(%d) = %d, %v, want %d", now, name, ok, want)
	}
	return c
}

func popsNot(t *testing.T, b Bank, now int64) {
	t.Helper()
	if name, c, ok := b.Pop(now); name != -1 || c != b || ok {
		t.Fatalf("Pop(%d) = %d, %v, %v, want -1 and the bank", now, name, c, ok)
	}
}

// full is a bank in which all run.
func full(t *testing.T) (Bank, model) {
	t.Helper()
	var b Bank
	m := model{}
	for name := range Size {
		m[name] = int64(100 - 10*name)
		b = started(t, b, name, m[name], 0)
	}
	return b, m
}

func TestZeroBank(t *testing.T) { // P8.1, P8.2
	if Size != 8 {
		t.Fatal(Size)
	}
	var b Bank
	holds(t, b, model{})
	for _, now := range []int64{math.MinInt64, -1, 0, 1, maxTick, math.MaxInt64} {
		popsNot(t, b, now)
	}
	for name := range Size {
		if b.Stop(name) != b {
			t.Fatalf("Stop(%d) changed the zero bank", name)
		}
	}
}

func TestExample(t *testing.T) { // P8.1, P8.2
	b := started(t, Bank{}, 2, 10, 5)
	holds(t, b, model{2: 15})
	popsNot(t, b, 14)
	holds(t, popped(t, b, 15, 2), model{})
}

func TestStart(t *testing.T) { // P8.1: each timer, at the edges of ticks and lengths
	cases := []struct{ now, length, due int64 }{
		{0, 0, 0},
		{0, 1, 1},
		{1, 0, 1},
		{7, 11, 18},
		{0, maxTime, maxTime},
		{5, maxTime - 1, maxTime + 4},
		{maxTick - maxTime, maxTime, maxTick},
		{maxTick - maxTime, maxTime - 1, maxTick - 1},
		{maxTick - maxTime + 1, maxTime, maxTick},
		{maxTick - 1, 0, maxTick - 1},
		{maxTick - 1, 1, maxTick},
		{maxTick - 1, 2, maxTick},
		{maxTick - 1, maxTime, maxTick},
		{maxTick, 0, maxTick},
		{maxTick, 1, maxTick},
		{maxTick, maxTime, maxTick},
	}
	for _, c := range cases {
		for name := range Size {
			b := started(t, Bank{}, name, c.now, c.length)
			holds(t, b, model{name: c.due})
			popsNot(t, b, c.due-1)
			holds(t, popped(t, b, c.due, name), model{})
			all, m := full(t)
			m[name] = c.due
			holds(t, started(t, all, name, c.now, c.length), m)
		}
	}
}

func TestStartAgain(t *testing.T) { // P8.1: whether it ran or not, be it due earlier or later then
	b := started(t, Bank{}, 4, 10, 20)
	for _, due := range []int64{40, 12, 30, 30, 0} {
		b = started(t, b, 4, due, 0)
		holds(t, b, model{4: due})
	}
	b = started(t, b.Stop(4), 4, 3, 4)
	holds(t, b, model{4: 7})
	b = started(t, popped(t, b, 7, 4), 4, 7, 0)
	popsNot(t, popped(t, b, 7, 4), maxTick)
}

func TestStartWrong(t *testing.T) { // P8.1: ErrName ahead of ErrRange; the bank is as it was
	all, m := full(t)
	banks := []struct {
		bank Bank
		want model
	}{{Bank{}, model{}}, {started(t, Bank{}, 3, 5, 5), model{3: 10}}, {all, m}}
	ticks := []int64{0, maxTick, -1, maxTick + 1, math.MinInt64, math.MaxInt64}
	lengths := []int64{0, maxTime, -1, maxTime + 1, maxTick, math.MinInt64, math.MaxInt64}
	for _, x := range banks {
		wrong := func(name int, now, length int64, want api.Errno) {
			t.Helper()
			b, e := x.bank.Start(name, now, length)
			if b != x.bank || e != want {
				t.Fatalf("Start(%d, %d, %d) = %v, %v, want %v", name, now, length, b, e, want)
			}
			holds(t, b, x.want)
		}
		for i, now := range ticks {
			for j, length := range lengths {
				for _, name := range wrongNames {
					wrong(name, now, length, api.ErrName)
				}
				if i < 2 && j < 2 {
					continue
				}
				for name := range Size {
					wrong(name, now, length, api.ErrRange)
				}
			}
		}
	}
}

func TestStop(t *testing.T) { // P8.1
	b, _ := full(t)
	for _, name := range wrongNames {
		if b.Stop(name) != b {
			t.Fatalf("Stop(%d) changed the bank", name)
		}
	}
	for name := range Size {
		_, m := full(t)
		delete(m, name)
		c := b.Stop(name)
		holds(t, c, m)
		if c.Stop(name) != c {
			t.Fatalf("Stop(%d) changed a bank in which it doesn't run", name)
		}
	}
}

func TestBankStays(t *testing.T) { // P8.1: whatever is made of it
	b, m := full(t)
	was := b
	for name := range Size {
		started(t, b, name, 500, 5)
		b.Stop(name)
	}
	b.Pop(maxTick)
	if b != was {
		t.Fatal("a call changed its bank")
	}
	holds(t, b, m)
}

func TestPopBounds(t *testing.T) { // P8.2: asked at any number
	b := started(t, started(t, Bank{}, 5, 0, 0), 6, maxTick, 0)
	for _, now := range []int64{math.MinInt64, math.MinInt64 + 1, -maxTick, -1} {
		popsNot(t, b, now)
	}
	for _, now := range []int64{0, 1, maxTick, maxTick + 1, math.MaxInt64} {
		holds(t, popped(t, b, now, 5), model{6: maxTick})
	}
	b = b.Stop(5)
	for _, now := range []int64{math.MinInt64, 0, maxTick - 1} {
		popsNot(t, b, now)
	}
	for _, now := range []int64{maxTick, maxTick + 1, math.MaxInt64} {
		holds(t, popped(t, b, now, 6), model{})
	}
}

func TestPopPairs(t *testing.T) { // P8.2, P8.3: each two names, either due first, or both at once
	for a := range Size {
		for c := range Size {
			if a == c {
				continue
			}
			b := started(t, started(t, Bank{}, a, 10, 0), c, 11, 0)
			popsNot(t, b, 9)
			popsNot(t, popped(t, b, 10, a), 10)
			popsNot(t, popped(t, popped(t, b, 11, a), 11, c), maxTick)
			b = started(t, started(t, Bank{}, a, 10, 0), c, 4, 6)
			popsNot(t, b, 9)
			popsNot(t, popped(t, popped(t, b, 10, min(a, c)), 10, max(a, c)), maxTick)
		}
	}
}

func TestPopOrder(t *testing.T) { // P8.3: many that are over, with equal ticks among them
	r := rand.New(rand.NewSource(1))
	for range 3000 {
		var b Bank
		m := model{}
		for range r.Intn(12) {
			name, now, length := r.Intn(Size), int64(r.Intn(3)), int64(r.Intn(3))
			b = started(t, b, name, now, length)
			m[name] = now + length
		}
		for _, name := range m.order() {
			popsNot(t, b, m[name]-1)
			if r.Intn(2) == 0 {
				b = popped(t, b, m[name], name)
			} else {
				b = popped(t, b, maxTick, name)
			}
			delete(m, name)
			holds(t, b, m)
		}
		popsNot(t, b, maxTick)
	}
}

func TestManyCalls(t *testing.T) { // P8.1 to P8.3: ticks going on, timers started and stopped meanwhile
	r := rand.New(rand.NewSource(2))
	for range 200 {
		var b Bank
		m := model{}
		now := int64(0)
		for range 200 {
			name, length := r.Intn(Size), int64(r.Intn(20))
			switch r.Intn(6) {
			case 0:
				b = b.Stop(name)
				delete(m, name)
			case 1, 2:
				b = started(t, b, name, now, length)
				m[name] = now + length
			default:
				now += int64(r.Intn(4))
			}
			for l := m.order(); len(l) > 0 && m[l[0]] <= now; l = m.order() {
				b = popped(t, b, now, l[0])
				delete(m, l[0])
			}
			popsNot(t, b, now)
			holds(t, b, m)
		}
	}
}
