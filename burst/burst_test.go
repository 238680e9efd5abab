package burst

import (
	"math"
	"math/rand"
	"slices"
	"testing"

	"carousel/api"
)

const (
	maxTime = 1 << 20
	maxTick = 1 << 40
)

var (
	times      = []int64{1, 2, 3, 5, 1000, maxTime - 1, maxTime}
	wrongTimes = []int64{
		0, -1, -2, -5, -maxTime, maxTime + 1, maxTime + 2, 2 * maxTime, 1 << 31, 1<<32 - 1, 1 << 32, 1<<32 + 1, maxTick, 1<<48 + 5,
		-1 << 32, 1 - 1<<32, math.MinInt64, math.MinInt64 + 1, math.MaxInt64 - 1, math.MaxInt64,
	}
	ticks = []int64{0, 1, 2, 17, maxTime, maxTick - 2*maxTime, maxTick - 1, maxTick}
)

// silent is a silent burst.
func silent(t *testing.T, gap, period int64) Burst {
	t.Helper()
	b, e := New(gap, period)
	if b != (Burst{Gap: gap, Period: period}) || e != api.OK {
		t.Fatalf("New(%d, %d) = %+v, %v", gap, period, b, e)
	}
	return b
}

// says holds a burst's tick to speaking, and answers the burst then, all of which is told ahead.
func says(t *testing.T, b Burst, now, next int64, said int) Burst {
	t.Helper()
	was := b
	c, yes := b.Tick(now)
	if want := (Burst{Gap: b.Gap, Period: b.Period, Next: next, On: true, Said: said}); !yes || c != want {
		t.Fatalf("%+v: Tick(%d) = %+v, %v; want %+v, true", b, now, c, yes, want)
	}
	if b != was {
		t.Fatalf("%+v, it was %+v", b, was)
	}
	return c
}

// rests holds a burst's tick to saying nothing, and to leaving it as it was.
func rests(t *testing.T, b Burst, now int64) {
	t.Helper()
	if c, yes := b.Tick(now); yes || c != b {
		t.Fatalf("%+v: Tick(%d) = %+v, %v", b, now, c, yes)
	}
}

// heard are the ticks at which a burst speaks that is ticked at each from one to another one.
func heard(b Burst, from, to int64) []int64 {
	var out []int64
	for now := from; now <= to; now++ {
		c, yes := b.Tick(now)
		if yes {
			out = append(out, now)
		}
		b = c
	}
	return out
}

// due are the ticks at which one is to speak that was begun at a tick, up to another one.
func due(gap, period, begun, to int64) []int64 {
	out := []int64{begun, begun + gap, begun + 2*gap}
	for now := begun + 2*gap + period; now <= to; now += period {
		out = append(out, now)
	}
	return slices.DeleteFunc(out, func(now int64) bool { return now > to })
}

func TestExample(t *testing.T) { // P15.1, P15.2: the chapter's example
	b := silent(t, 2, 5).Begin(10)
	if l := heard(b, 10, 24); !slices.Equal(l, []int64{10, 12, 14, 19, 24}) {
		t.Fatal(l)
	}
}

func TestNew(t *testing.T) { // P15.1: a silent burst of each Gap and Period that may be
	for _, gap := range times {
		for _, period := range times {
			b := silent(t, gap, period)
			for _, now := range ticks {
				rests(t, b, now)
			}
		}
	}
}

func TestWrongTimes(t *testing.T) { // P15.1: ErrRange, if the Gap or the Period isn't so, or both
	refused := func(gap, period int64) {
		t.Helper()
		if b, e := New(gap, period); b != (Burst{}) || e != api.ErrRange {
			t.Errorf("New(%d, %d) = %+v, %v", gap, period, b, e)
		}
	}
	for _, wrong := range wrongTimes {
		for _, right := range times {
			refused(wrong, right)
			refused(right, wrong)
		}
		for _, other := range wrongTimes {
			refused(wrong, other)
		}
	}
}

func TestBegin(t *testing.T) { // P15.1: begun at now, whatever it was
	for _, now := range ticks {
		want := Burst{Gap: 3, Period: 7, Next: now, On: true}
		for _, on := range []bool{false, true} {
			for said := range 4 {
				for _, next := range ticks {
					b := Burst{Gap: 3, Period: 7, Next: next, On: on, Said: said}
					was := b
					if c := b.Begin(now); c != want || b != was {
						t.Fatalf("%+v: Begin(%d) = %+v, and it is %+v", was, now, c, b)
					}
				}
			}
		}
		says(t, want, now, now+3, 1)
	}
}

func TestBegunAhead(t *testing.T) { // P15.1: a burst that was begun at a tick says nothing ahead of it
	b := silent(t, 2, 5).Begin(10)
	for now := range int64(10) {
		rests(t, b, now)
	}
	says(t, b, 10, 12, 1)
}

func TestBegunAgain(t *testing.T) { // P15.2: a burst that is begun anew speaks as if it had said nothing
	b := silent(t, 2, 5).Begin(10)
	for now := int64(10); now <= 40; now++ {
		again := b.Begin(now)
		if l := heard(again, now, now+30); !slices.Equal(l, due(2, 5, now, now+30)) {
			t.Fatalf("begun anew at %d: %v", now, l)
		}
		b, _ = b.Tick(now)
	}
}

func TestEnd(t *testing.T) { // P15.1: silent, with Said and Next 0, whatever it was
	want := silent(t, 3, 7)
	for _, on := range []bool{false, true} {
		for said := range 4 {
			for _, next := range ticks {
				b := Burst{Gap: 3, Period: 7, Next: next, On: on, Said: said}
				was := b
				if c := b.End(); c != want || c.End() != want || b != was {
					t.Fatalf("%+v: End() = %+v, and it is %+v", was, c, b)
				}
				for _, now := range ticks {
					rests(t, b.End(), now)
				}
			}
		}
	}
}

func TestTick(t *testing.T) { // P15.1: ahead of Next, at it and behind it, silent and on, with each Said
	// What is waited, and what is said then, by Said ahead of it.
	waits, then := []int64{3, 3, 7, 7}, []int{1, 2, 3, 3}
	for said := range 4 {
		for _, next := range ticks {
			b := Burst{Gap: 3, Period: 7, Next: next, On: true, Said: said}
			off := b
			off.On = false
			for _, late := range []int64{-maxTick, -maxTime, -7, -3, -2, -1, 0, 1, 2, 3, 7, 8, 100, maxTime, maxTick} {
				now := next + late
				if now < 0 || now > maxTick {
					continue
				}
				rests(t, off, now)
				if late < 0 {
					rests(t, b, now)
				} else {
					says(t, b, now, now+waits[said], then[said])
				}
			}
		}
	}
}

func TestLongest(t *testing.T) { // P15.1, P15.2: the least and the greatest Gap and Period, at the edges of ticks
	for _, gap := range times {
		for _, period := range times {
			for _, begun := range ticks {
				b := silent(t, gap, period).Begin(begun)
				next := begun
				for i, wait := range []int64{gap, gap, period, period, period} {
					if next > maxTick {
						break
					}
					if next > 0 {
						rests(t, b, next-1)
					}
					b = says(t, b, next, next+wait, min(i+1, 3))
					rests(t, b, next)
					next += wait
				}
			}
		}
	}
}

func TestEachTick(t *testing.T) { // P15.2: at the begin, a Gap and two Gaps behind it, and then each Period
	for gap := int64(1); gap <= 12; gap++ {
		for period := int64(1); period <= 12; period++ {
			for _, begun := range []int64{0, 1, 10, maxTime, maxTick - 1000} {
				to := min(begun+2*gap+40*period, maxTick)
				b := silent(t, gap, period).Begin(begun)
				from := max(begun-5, 0)
				if l := heard(b, from, to); !slices.Equal(l, due(gap, period, begun, to)) {
					t.Fatalf("New(%d, %d).Begin(%d): %v", gap, period, begun, l)
				}
			}
		}
	}
}

func TestUpToTheLastTick(t *testing.T) { // P15.2: the last tick is one like others
	b := silent(t, 2, 5).Begin(maxTick - 9)
	if l := heard(b, maxTick-9, maxTick); !slices.Equal(l, []int64{maxTick - 9, maxTick - 7, maxTick - 5, maxTick}) {
		t.Fatal(l)
	}
	b = silent(t, maxTime, maxTime).Begin(maxTick)
	says(t, b, maxTick, maxTick+maxTime, 1)
}

func TestLateAndSeldom(t *testing.T) { // P15.1: what is ticked late speaks once, and waits from then on
	b := silent(t, 2, 5).Begin(10)
	b = says(t, b, 30, 32, 1)
	rests(t, b, 30)
	rests(t, b, 31)
	b = says(t, b, 33, 35, 2)
	b = says(t, b, 1000, 1005, 3)
	rests(t, b, 1004)
	b = says(t, b, 1009, 1014, 3)
	says(t, b, maxTick, maxTick+5, 3)
}

// told is a burst's story: how long it waits, how often it spoke since it was begun, and when last.
type told struct {
	gap, period int64
	on          bool
	times       int
	begun, last int64
}

// speaks says whether it is to speak at a tick.
func (s told) speaks(now int64) bool {
	switch {
	case !s.on:
		return false
	case s.times == 0:
		return now >= s.begun
	case s.times < 3:
		return now >= s.last+s.gap
	}
	return now >= s.last+s.period
}

func TestAnyOrder(t *testing.T) { // P15.1: begun, ended and ticked in any order, now and then
	from := rand.New(rand.NewSource(15))
	for range 3000 {
		s := told{gap: 1 + from.Int63n(9), period: 1 + from.Int63n(9)}
		b, now := silent(t, s.gap, s.period), from.Int63n(50)
		for range 120 {
			switch from.Intn(12) {
			case 0:
				s.on, s.times, s.begun = true, 0, now
				b = b.Begin(now)
			case 1:
				s.on = false
				b = b.End()
				if b != silent(t, s.gap, s.period) {
					t.Fatalf("%+v", b)
				}
			default:
				want := s.speaks(now)
				c, yes := b.Tick(now)
				if yes != want || !yes && c != b {
					t.Fatalf("%+v, %+v: Tick(%d) = %+v, %v", s, b, now, c, yes)
				}
				if b = c; yes {
					s.times, s.last = s.times+1, now
				}
				if b.On != s.on || s.on && b.Said != min(s.times, 3) {
					t.Fatalf("%+v, want %+v", b, s)
				}
			}
			now += from.Int63n(4)
		}
	}
}

func TestNothingIsKept(t *testing.T) { // R5: a call that is made twice answers the same, whatever was called between
	from := rand.New(rand.NewSource(5))
	b := silent(t, 2, 5).Begin(10)
	for range 1000 {
		other := silent(t, 1+from.Int63n(9), 1+from.Int63n(9)).Begin(from.Int63n(20))
		for now := range int64(30) {
			other, _ = other.Tick(now)
		}
		other.End()
		if l := heard(b, 10, 24); !slices.Equal(l, []int64{10, 12, 14, 19, 24}) {
			t.Fatal(l)
		}
	}
}

func TestAnything(t *testing.T) { // R1: whatever is handed in, every call ends, and none panics
	numbers := append(append([]int64{}, wrongTimes...), ticks...)
	for _, gap := range numbers {
		for _, period := range numbers {
			New(gap, period)
			for _, next := range numbers {
				for _, said := range []int{math.MinInt, -1, 0, 1, 2, 3, 4, math.MaxInt} {
					b := Burst{Gap: gap, Period: period, Next: next, On: true, Said: said}
					b.Begin(next).Tick(gap)
					b.End().Tick(gap)
					b.Tick(period)
				}
			}
		}
	}
}
