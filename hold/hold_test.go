package hold

import (
	"math"
	"math/rand"
	"testing"

	"carousel/api"
)

const (
	maxTick = 1 << 40
	maxTime = 1 << 20
	farOff  = 1 << 50
)

var lengths = []int64{0, 1, 2, 3, 1000, maxTime - 1, maxTime}

// plain is a hold without a fault.
func plain(t *testing.T, length int64) Hold {
	t.Helper()
	h, e := New(length)
	if h != (Hold{Length: length}) || e != api.OK {
		t.Fatalf("New(%d) = %+v, %v", length, h, e)
	}
	return h
}

// rests holds a hold to having no fault.
func rests(t *testing.T, h Hold, length int64) {
	t.Helper()
	if h != (Hold{Length: length}) {
		t.Fatalf("%+v, want none, of %d", h, length)
	}
	if when, ok := h.When(); when != 0 || ok {
		t.Fatalf("%+v: When() = %d, %v", h, when, ok)
	}
	for _, now := range []int64{-farOff, -1, 0, 1, length, maxTime, maxTick, farOff} {
		if h.Counts(now) {
			t.Fatalf("%+v counts at %d", h, now)
		}
	}
}

// stands holds a hold to having a fault since a tick.
func stands(t *testing.T, h Hold, length, since int64) {
	t.Helper()
	if h != (Hold{Length: length, Since: since, Fault: true}) {
		t.Fatalf("%+v, want one of %d since %d", h, length, since)
	}
	from := since + length
	if when, ok := h.When(); when != from || !ok {
		t.Fatalf("%+v: When() = %d, %v", h, when, ok)
	}
	for _, now := range []int64{-farOff, -farOff + 1, -maxTick, -1, from - maxTick, from - 2, from - 1} {
		if h.Counts(now) {
			t.Fatalf("%+v counts at %d", h, now)
		}
	}
	for _, now := range []int64{from, from + 1, from + 2, from + maxTick, farOff - 1, farOff} {
		if !h.Counts(now) {
			t.Fatalf("%+v doesn't count at %d", h, now)
		}
	}
}

func TestExample(t *testing.T) { // P10.1
	h := plain(t, 3).Set(10, true)
	if h.Counts(12) || !h.Counts(13) {
		t.Errorf("%+v", h)
	}
}

func TestNew(t *testing.T) { // P10.1: Length 0, 2^20, and what isn't so
	for _, length := range lengths {
		rests(t, plain(t, length), length)
	}
	for _, length := range []int64{math.MinInt64, math.MinInt64 + 1, -maxTime, -2, -1, maxTime + 1, 1 << 32, maxTick, math.MaxInt64} {
		if h, e := New(length); h != (Hold{}) || e != api.ErrRange {
			t.Errorf("New(%d) = %+v, %v", length, h, e)
		}
	}
}

func TestSet(t *testing.T) { // P10.1: a fault at the edges of ticks, of any length
	for _, length := range lengths {
		for _, now := range []int64{0, 1, 2, 17, maxTime, maxTick - 1, maxTick} {
			h := plain(t, length).Set(now, true)
			stands(t, h, length, now)
			rests(t, h.Set(now, false), length)
			rests(t, plain(t, length).Set(now, false), length)
		}
	}
}

func TestSetAgain(t *testing.T) { // P10.1: where one stood already, it stands since when it did
	for _, length := range lengths {
		for _, began := range []int64{0, 1, 10, maxTick - 100} {
			h := plain(t, length).Set(began, true)
			for _, now := range []int64{began, began + 1, began + length, began + length + 1, maxTick} {
				again := h.Set(now, true)
				stands(t, again, length, began)
				stands(t, again.Set(now, true), length, began)
			}
		}
	}
}

func TestGoesAhead(t *testing.T) { // P10.2: a fault that goes ahead of its time never counts
	for _, length := range []int64{1, 2, 3, 1000, maxTime} {
		h := plain(t, length).Set(10, true)
		last := 10 + length - 1
		if h.Counts(last) {
			t.Fatalf("%+v counts at %d", h, last)
		}
		h = h.Set(last, false)
		rests(t, h, length)
		// What comes then stands since then, not since the first.
		stands(t, h.Set(last, true), length, last)
		stands(t, h.Set(last+5, true), length, last+5)
	}
}

func TestStays(t *testing.T) { // P10.2: a fault that stays counts from just then on, asked at each tick
	for length := range int64(30) {
		h := plain(t, length)
		for now := int64(7); now < 50; now++ {
			h = h.Set(now, true)
			if h.Counts(now) != (now >= 7+length) {
				t.Fatalf("length %d: Counts(%d) = %v", length, now, h.Counts(now))
			}
		}
		rests(t, h.Set(50, false), length)
	}
}

func TestNoLength(t *testing.T) { // P10.2: held no tick, a fault counts at once
	h := plain(t, 0).Set(0, true)
	stands(t, h, 0, 0)
	rests(t, h.Set(0, false), 0)
}

func TestWithoutFault(t *testing.T) { // P10.1: none stands, whatever Since is
	for _, since := range []int64{0, 1, 10, maxTick} {
		h := Hold{Length: 3, Since: since}
		if when, ok := h.When(); when != 0 || ok || h.Counts(farOff) {
			t.Errorf("%+v: When() = %d, %v", h, when, ok)
		}
		rests(t, h.Set(since, false), 3)
		stands(t, h.Set(since+1, true), 3, since+1)
	}
}

func TestManySets(t *testing.T) { // P10.1, P10.2: faults that come and go, held against all that was set
	r := rand.New(rand.NewSource(1))
	for range 2000 {
		length := int64(r.Intn(8))
		h, now := plain(t, length), int64(r.Intn(20))
		var ticks []int64
		for range 60 {
			fault := r.Intn(4) > 0
			h = h.Set(now, fault)
			if fault {
				ticks = append(ticks, now)
				stands(t, h, length, ticks[0])
			} else {
				ticks = nil
				rests(t, h, length)
			}
			now += int64(r.Intn(4))
		}
	}
}

func TestAnything(t *testing.T) { // R1: whatever is handed in, every call ends, and none panics
	numbers := []int64{math.MinInt64, math.MinInt64 + 1, -1, 0, 1, maxTick + 1, farOff + 1, math.MaxInt64 - 1, math.MaxInt64}
	for _, length := range numbers {
		for _, since := range numbers {
			for _, fault := range []bool{false, true} {
				h := Hold{Length: length, Since: since, Fault: fault}
				h.When()
				for _, now := range numbers {
					h.Set(now, fault)
					h.Set(now, !fault)
					h.Counts(now)
				}
			}
		}
	}
	// Beyond the bounds of what is promised a question is no other one.
	h := plain(t, 3).Set(10, true)
	if h.Counts(math.MinInt64) || !h.Counts(math.MaxInt64) {
		t.Errorf("%+v", h)
	}
}
