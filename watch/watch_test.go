package watch

import (
	"math"
	"math/rand"
	"strings"
	"testing"

	"carousel/api"
	"carousel/ccm"
)

const (
	maxTick = 1 << 40
	maxTime = 1 << 20
)

// fullGroup is a group of which no byte is 0.
var fullGroup = strings.Repeat("\xa5", 47) + "z"

// intervals are odd ones and even ones, with the least and the greatest.
var intervals = []int64{1, 2, 3, 4, 5, 6, 7, 8, 9, 100, 101, maxTime - 1, maxTime}

// plain is a watch of the interval that began at a tick.
func plain(t *testing.T, interval, now int64) Watch {
	t.Helper()
	w, e := New(5, 3, 4, fullGroup, interval, now)
	if e != api.OK {
		t.Fatalf("New of the interval %d at %d: %v", interval, now, e)
	}
	return w
}

// far is what the far end of a plain watch tells.
func far() ccm.Msg { return ccm.Msg{Period: 4, Count: 9, End: 4, Group: fullGroup} }

// closed is a message's bytes.
func closed(t *testing.T, m ccm.Msg, level uint8) string {
	t.Helper()
	s, e := ccm.Close(m, level)
	if e != api.OK {
		t.Fatalf("ccm.Close(%+v, %d): %v", m, level, e)
	}
	return s
}

// heard is what a watch is when it hears bytes in which nothing is wrong.
func heard(t *testing.T, w Watch, now int64, s string) Watch {
	t.Helper()
	want := w
	want.Heard, want.Lost = now, false
	m, _ := ccm.Open(s, w.Level)
	want.Far = m.Lost
	got, e := w.Hear(now, s)
	if got != want || e != api.OK {
		t.Fatalf("Hear(%d, %q) = %+v, %v, want %+v", now, s, got, e, want)
	}
	return got
}

func hearsNot(t *testing.T, w Watch, now int64, s string, want api.Errno) {
	t.Helper()
	if got, e := w.Hear(now, s); got != w || e != want {
		t.Fatalf("%+v: Hear(%d, %q) = %+v, %v, want %v", w, now, s, got, e, want)
	}
}

// silent is the watch at a tick at which it sends nothing.
func silent(t *testing.T, w Watch, now int64, lost bool) Watch {
	t.Helper()
	want := w
	want.Lost = lost
	got, s := w.Tick(now)
	if got != want || s != "" {
		t.Fatalf("%+v: Tick(%d) = %+v, %q, want %+v and nothing", w, now, got, s, want)
	}
	return got
}

// sends is the watch at a tick at which it sends.
func sends(t *testing.T, w Watch, now int64, lost bool) Watch {
	t.Helper()
	want := w
	want.Sent, want.Next, want.Lost = w.Sent+1, now+w.Interval, lost
	got, s := w.Tick(now)
	if got != want {
		t.Fatalf("%+v: Tick(%d) = %+v, want %+v", w, now, got, want)
	}
	told := ccm.Msg{Lost: w.Lost, Period: w.Period, Count: uint32(w.Sent % (1 << 32)), End: w.End, Group: w.Group}
	if m, e := ccm.Open(s, w.Level); m != told || e != api.OK || s != closed(t, told, w.Level) {
		t.Fatalf("%+v: Tick(%d) sends %q: %+v, %v, want %+v", w, now, s, m, e, told)
	}
	return got
}

func TestExample(t *testing.T) { // P9.2
	w, _ := plain(t, 2, 0).Tick(7)
	if w.Lost {
		t.Error("lost at 7")
	}
	if w, _ = w.Tick(8); !w.Lost {
		t.Error("not lost at 8")
	}
}

func TestNew(t *testing.T) { // P9.1: what begins, at the edges
	groups := []string{fullGroup, ccm.Name(""), ccm.Name("g"), strings.Repeat("\xff", 48)}
	for i, level := range []uint8{0, 1, 5, 7} {
		for _, end := range []uint16{1, 2, 4096, 8191} {
			for period := uint8(1); period <= 7; period++ {
				for _, interval := range []int64{1, 2, maxTime - 1, maxTime} {
					for _, now := range []int64{0, 1, maxTick - 1, maxTick} {
						want := Watch{Level: level, End: end, Period: period, Group: groups[i], Interval: interval, Heard: now, Next: now}
						w, e := New(level, end, period, groups[i], interval, now)
						if w != want || e != api.OK {
							t.Fatalf("%+v, %v, want %+v", w, e, want)
						}
						sends(t, w, now, false)
					}
				}
			}
		}
	}
}

// parts is what New is given, and the error that is to come of it.
type parts struct {
	level    uint8
	end      uint16
	period   uint8
	group    string
	interval int64
	now      int64
}

func (p parts) begins(t *testing.T, want api.Errno) {
	t.Helper()
	w, e := New(p.level, p.end, p.period, p.group, p.interval, p.now)
	if e != want || (e == api.OK) == (w == Watch{}) {
		t.Errorf("New of %+v = %+v, %v, want %v", p, w, e, want)
	}
}

func right() parts { return parts{7, 8191, 7, fullGroup, maxTime, maxTick} }

func TestNewWrong(t *testing.T) { // P9.1: each thing wrong alone, on both sides of its edges
	for level := range 256 {
		p, want := right(), api.OK
		if p.level = uint8(level); level > 7 {
			want = api.ErrRange
		}
		p.begins(t, want)
	}
	for end := range 65536 {
		p, want := right(), api.OK
		if p.end = uint16(end); end < 1 || end > 8191 {
			want = api.ErrRange
		}
		p.begins(t, want)
	}
	for period := range 256 {
		p, want := right(), api.OK
		if p.period = uint8(period); period < 1 || period > 7 {
			want = api.ErrRange
		}
		p.begins(t, want)
	}
	for _, n := range []int{0, 1, 47, 48, 49, 96, 48 + 256, 48 + 65536} {
		p, want := right(), api.OK
		if p.group = strings.Repeat("g", n); n != 48 {
			want = api.ErrForm
		}
		p.begins(t, want)
	}
	for _, n := range []int64{math.MinInt64, -maxTime, -1, 0, 1, maxTime, maxTime + 1, 1<<32 + 1, maxTick, math.MaxInt64} {
		p, want := right(), api.OK
		if p.interval = n; n < 1 || n > maxTime {
			want = api.ErrRange
		}
		p.begins(t, want)
	}
	for _, n := range []int64{math.MinInt64, -maxTick, -1, 0, 1, maxTick, maxTick + 1, math.MaxInt64} {
		p, want := right(), api.OK
		if p.now = n; n < 0 || n > maxTick {
			want = api.ErrRange
		}
		p.begins(t, want)
	}
}

func TestNewFirstError(t *testing.T) { // P9.1, R2: all that may be wrong, together
	for bits := range 1 << 6 {
		for _, group := range []string{"", fullGroup[1:], fullGroup + "z"} {
			p, want := right(), api.OK
			if bits&1 != 0 {
				p.now, want = -1, api.ErrRange
			}
			if bits&2 != 0 {
				p.interval, want = 0, api.ErrRange
			}
			if bits&4 != 0 {
				p.group, want = group, api.ErrForm
			}
			if bits&8 != 0 {
				p.period, want = 8, api.ErrRange
			}
			if bits&16 != 0 {
				p.end, want = 0, api.ErrRange
			}
			if bits&32 != 0 {
				p.level, want = 8, api.ErrRange
			}
			p.begins(t, want)
		}
	}
}

func TestTickSends(t *testing.T) { // P9.1: at, ahead of and behind the tick at which it is to send
	for _, interval := range []int64{2, 3, 10, maxTime} {
		w := sends(t, plain(t, interval, 50), 50, false)
		if w.Next != 50+interval {
			t.Fatalf("to send at %d", w.Next)
		}
		silent(t, w, 50, false)
		silent(t, w, 51, false)
		silent(t, w, w.Next-1, false)
		sends(t, w, w.Next, false)
		// One that was to send sends once, and is to send an Interval behind that tick.
		late := sends(t, w, w.Next+1, false)
		if late.Next != 51+2*interval {
			t.Fatalf("to send at %d", late.Next)
		}
		silent(t, late, late.Next-1, false)
		late = sends(t, w, 50+3*interval, false)
		if late.Sent != 2 {
			t.Fatalf("sent %d", late.Sent)
		}
		silent(t, late, 50+3*interval, false)
		sends(t, late, 50+4*interval, true)
	}
}

func TestTickAtOnce(t *testing.T) { // P9.1: several at the same tick, and where it has heard meanwhile
	w := plain(t, 1, 7)
	w = sends(t, w, 7, false)
	w = silent(t, w, 7, false)
	w = heard(t, w, 7, closed(t, far(), 5))
	w = silent(t, w, 7, false)
	w = sends(t, w, 8, false)
	silent(t, w, 8, false)
	// A watch that has not sent since it began does at its first tick, however late.
	sends(t, plain(t, 1, 7), maxTick, true)
}

func TestTickLast(t *testing.T) { // P9.1: at the last ticks
	w := sends(t, plain(t, maxTime, maxTick-1), maxTick-1, false)
	if w = silent(t, w, maxTick, false); w.Next != maxTick-1+maxTime {
		t.Fatal(w.Next)
	}
	w = sends(t, plain(t, 1, maxTick-4), maxTick-1, false)
	sends(t, w, maxTick, true)
	w = sends(t, plain(t, 1, maxTick-3), maxTick-1, false)
	sends(t, w, maxTick, false)
}

func TestTickTellsLost(t *testing.T) { // P9.1: Lost as it was ahead of the tick, not as it is then
	w := sends(t, plain(t, 4, 0), 15, true) // says that it isn't lost, and is
	w = silent(t, w, 18, true)
	w = sends(t, w, 19, true) // says that it is
	w = heard(t, w, 19, closed(t, far(), 5))
	w = silent(t, w, 20, false)
	w = sends(t, w, 23, false)
	// What the far end says of the line isn't what the watch says.
	m := far()
	m.Lost = true
	w = heard(t, w, 24, closed(t, m, 5))
	sends(t, w, 27, false)
}

func TestCount(t *testing.T) { // P9.1: how many it sent, modulo 2^32
	w := plain(t, 1, 0)
	for now := range int64(300) {
		if w.Sent != uint64(now) {
			t.Fatalf("sent %d at %d", w.Sent, now)
		}
		w = sends(t, w, now, now >= 4)
	}
	for _, n := range []uint64{1<<31 - 1, 1<<32 - 2, 1 << 33, 1<<33 + 7, 1<<40 - 1} {
		w := plain(t, 1, 0)
		w.Sent = n
		for now := range int64(4) {
			w = sends(t, w, now, false)
		}
		if w.Sent != n+4 {
			t.Fatalf("sent %d", w.Sent)
		}
	}
	w = plain(t, 1, 0)
	w.Sent = 1<<32 + 5
	_, s := w.Tick(0)
	if m, _ := ccm.Open(s, 5); m.Count != 5 {
		t.Fatalf("Count %d", m.Count)
	}
}

func TestSentBytes(t *testing.T) { // P9.1: byte by byte, at each level and Period
	for level := range uint8(8) {
		for period := uint8(1); period <= 7; period++ {
			w, e := New(level, 0x1234, period, ccm.Name("g"), 9, 5)
			if e != api.OK {
				t.Fatal(e)
			}
			head := "\x00\x00\x00\x00\x12\x34g" + strings.Repeat("\x00", 64)
			if _, s := w.Tick(5); s != string([]byte{level << 5, 1, period, 70})+head {
				t.Errorf("sends %q", s)
			}
			w.Lost = true
			if _, s := w.Tick(5); s != string([]byte{level << 5, 1, 0x80 | period, 70})+head {
				t.Errorf("lost, sends %q", s)
			}
		}
	}
}

// beyond is the first tick at which a line is lost on which nothing came since a tick: counted up, not reckoned.
func beyond(since, interval int64) int64 {
	half, n := 7*interval, int64(0)
	for half >= 0 {
		half -= 2
		n++
	}
	return since + n
}

func TestLost(t *testing.T) { // P9.2: the first tick beyond three Intervals and a half, odd and even ones
	for _, interval := range intervals {
		for _, began := range []int64{0, 1, 1000, maxTick - 4*maxTime} {
			at := beyond(began, interval)
			w := plain(t, interval, began)
			for _, now := range []int64{began, began + 1, at - 2, at - 1} {
				if w, _ = w.Tick(now); w.Lost {
					t.Fatalf("interval %d, begun at %d: lost at %d", interval, began, now)
				}
				if alone, _ := plain(t, interval, began).Tick(now); alone.Lost {
					t.Fatalf("interval %d, begun at %d: lost at %d alone", interval, began, now)
				}
			}
			for _, now := range []int64{at, at + 1, at + interval, maxTick} {
				if alone, _ := w.Tick(now); !alone.Lost {
					t.Fatalf("interval %d, begun at %d: not lost at %d alone", interval, began, now)
				}
			}
			for _, now := range []int64{at, at, at + 1, maxTick} {
				if w, _ = w.Tick(now); !w.Lost {
					t.Fatalf("interval %d, begun at %d: not lost at %d", interval, began, now)
				}
			}
		}
	}
}

func TestLostBounds(t *testing.T) { // P9.2: known numbers
	known := []struct{ interval, last int64 }{{1, 3}, {2, 7}, {3, 10}, {4, 14}, {5, 17}, {6, 21}, {7, 24}, {1 << 20, 3670016}, {1<<20 - 1, 3670012}}
	for _, k := range known {
		if w, _ := plain(t, k.interval, 9).Tick(9 + k.last); w.Lost {
			t.Errorf("interval %d: lost behind %d", k.interval, k.last)
		}
		if w, _ := plain(t, k.interval, 9).Tick(9 + k.last + 1); !w.Lost {
			t.Errorf("interval %d: not lost behind %d", k.interval, k.last+1)
		}
	}
}

func TestWholeAgain(t *testing.T) { // P9.2: when it hears; and lost anew, reckoned from then
	s := closed(t, far(), 5)
	for _, interval := range intervals {
		w := plain(t, interval, 10)
		at := beyond(10, interval)
		if w, _ = w.Tick(at); !w.Lost {
			t.Fatal("not lost")
		}
		now := at + 5
		w = heard(t, w, now, s)
		for _, n := range []int64{now, now + 1, beyond(now, interval) - 1} {
			if w, _ = w.Tick(n); w.Lost {
				t.Fatalf("interval %d: lost at %d, heard at %d", interval, n, now)
			}
		}
		if w, _ = w.Tick(beyond(now, interval)); !w.Lost {
			t.Fatalf("interval %d: not lost", interval)
		}
		if w = heard(t, w, maxTick, s); w.Lost {
			t.Fatal("lost")
		}
	}
}

func TestLostStays(t *testing.T) { // P9.1, P9.2: hearing what is wrong makes no line whole
	w, _ := plain(t, 2, 0).Tick(8)
	other := far()
	other.Period = 5
	hearsNot(t, w, 8, closed(t, other, 5), api.ErrRange)
	// Nothing but a tick makes a line lost, however late it hears.
	if w = heard(t, plain(t, 2, 0), 1000, closed(t, far(), 5)); w.Lost {
		t.Error("lost")
	}
	if w, _ = w.Tick(1000); w.Lost {
		t.Error("lost")
	}
}

func TestHear(t *testing.T) { // P9.1: any Count, any other End, whatever is behind; Far as the message says
	w, _ := plain(t, 2, 0).Tick(8)
	for _, lost := range []bool{false, true} {
		for _, end := range []uint16{1, 2, 4, 5, 259, 4099, 8191} {
			for _, count := range []uint32{0, 1, math.MaxUint32} {
				m := ccm.Msg{Lost: lost, Period: 4, Count: count, End: end, Group: fullGroup}
				for _, behind := range []string{"", "\x00", "\xff", "zzz"} {
					got := heard(t, w, 9, closed(t, m, 5)+behind)
					if got.Far != lost || got.Lost || got.Heard != 9 {
						t.Fatalf("%+v", got)
					}
				}
			}
		}
	}
	// Far follows the last message that it heard, and no other.
	m := far()
	m.Lost = true
	w = heard(t, w, 9, closed(t, m, 5))
	w = silent(t, w, 9, false)
	m.Lost, m.End = false, 3
	hearsNot(t, w, 9, closed(t, m, 5), api.ErrName)
	if w = heard(t, w, 9, closed(t, far(), 5)); w.Far {
		t.Error("Far")
	}
}

func TestHearWrong(t *testing.T) { // P9.1, R2: another level, Group and Period, its own End, alone and together
	lost, _ := plain(t, 2, 0).Tick(8)
	lost.Far = true
	for _, w := range []Watch{plain(t, 2, 0), lost} {
		for bits := range 1 << 4 {
			m, level, want := far(), uint8(5), api.OK
			if bits&1 != 0 {
				m.Period, want = 5, api.ErrRange
			}
			if bits&2 != 0 {
				m.End, want = 3, api.ErrName
			}
			if bits&4 != 0 {
				m.Group, want = ccm.Name("other"), api.ErrForm
			}
			if bits&8 != 0 {
				level, want = 4, api.ErrLevel
			}
			s := closed(t, m, level)
			if want == api.OK {
				heard(t, w, 20, s)
			} else {
				hearsNot(t, w, 20, s, want)
			}
			// What can't be opened is told ahead of all.
			hearsNot(t, w, 20, s[:len(s)-1], api.ErrShort)
			hearsNot(t, w, 20, s[:len(s)-1]+"\x01", api.ErrForm)
		}
	}
}

func TestHearEach(t *testing.T) { // P9.1: each other level, Period, and byte of the Group
	w := plain(t, 2, 0)
	for level := range uint8(8) {
		if level != 5 {
			hearsNot(t, w, 1, closed(t, far(), level), api.ErrLevel)
		}
	}
	for period := uint8(1); period <= 7; period++ {
		m := far()
		if m.Period = period; period != 4 {
			hearsNot(t, w, 1, closed(t, m, 5), api.ErrRange)
		}
	}
	for at := range 48 {
		m := far()
		m.Group = fullGroup[:at] + "\x00" + fullGroup[at+1:]
		hearsNot(t, w, 1, closed(t, m, 5), api.ErrForm)
	}
	for end := uint16(1); end <= 8191; end++ {
		m := far()
		if m.End = end; end == 3 {
			hearsNot(t, w, 1, closed(t, m, 5), api.ErrName)
		} else {
			heard(t, w, 1, closed(t, m, 5))
		}
	}
	// What it sends itself it doesn't hear; what its far end sends it does.
	_, own := w.Tick(0)
	hearsNot(t, w, 0, own, api.ErrName)
	v, e := New(5, 4, 4, fullGroup, 2, 0)
	if e != api.OK {
		t.Fatal(e)
	}
	heard(t, v, 0, own)
}

func TestHearUnreadable(t *testing.T) { // P9.1: bytes that can't be opened; layer 6's error, the watch as it was
	w, _ := plain(t, 2, 0).Tick(8)
	s := closed(t, far(), 5)
	for n := range len(s) {
		hearsNot(t, w, 9, s[:n], api.ErrShort)
	}
	turned := []struct {
		at   int
		c    byte
		want api.Errno
	}{
		{0, 5<<5 | 1, api.ErrForm},
		{1, 40, api.ErrCode},
		{2, 0x00, api.ErrRange},
		{2, 0x0c, api.ErrForm},
		{3, 71, api.ErrShort},
		{8, 0x20, api.ErrForm},
		{9, 0, api.ErrRange},
		{58, 1, api.ErrForm},
		{74, 1, api.ErrForm},
	}
	for _, c := range turned {
		hearsNot(t, w, 9, s[:c.at]+string([]byte{c.c})+s[c.at+1:], c.want)
	}
	r := rand.New(rand.NewSource(1))
	for range 20000 {
		b := []byte(s)
		for range 1 + r.Intn(3) {
			b[r.Intn(len(b))] ^= 1 << r.Intn(8)
		}
		m, want := ccm.Open(string(b), 5)
		if want == api.OK {
			want = wrongOf(m)
		}
		if want == api.OK {
			heard(t, w, 9, string(b))
		} else {
			hearsNot(t, w, 9, string(b), want)
		}
	}
}

// wrongOf is what a plain watch has against a message that was opened.
func wrongOf(m ccm.Msg) api.Errno {
	if m.Group != fullGroup {
		return api.ErrForm
	}
	if m.End == 3 {
		return api.ErrName
	}
	if m.Period != 4 {
		return api.ErrRange
	}
	return api.OK
}

func TestMessagesComeInTime(t *testing.T) { // P9.2: one at least each three Intervals and a half
	r := rand.New(rand.NewSource(2))
	s := closed(t, far(), 5)
	for _, interval := range intervals {
		last := beyond(0, interval) - 1
		w, now := plain(t, interval, 0), int64(0)
		for range 300 {
			next := now + last
			if r.Intn(2) == 0 {
				next = now + r.Int63n(last+1)
			}
			for range 3 {
				tick := now + r.Int63n(next-now+1)
				if w, _ = w.Tick(tick); w.Lost {
					t.Fatalf("interval %d: lost at %d, heard at %d", interval, tick, now)
				}
				now, next = tick, max(tick, next)
			}
			now = next
			if w, _ = w.Tick(now); w.Lost {
				t.Fatalf("interval %d: lost at %d, heard at %d", interval, now, w.Heard)
			}
			w = heard(t, w, now, s)
		}
	}
}

func TestManyCalls(t *testing.T) { // P9.1, P9.2: ticks that leave some out, messages right and wrong meanwhile
	r := rand.New(rand.NewSource(3))
	for range 300 {
		interval := int64(1 + r.Intn(12))
		now := int64(r.Intn(50))
		w := plain(t, interval, now)
		lastHeard, toSend := now, now
		for range 200 {
			if r.Intn(4) == 0 {
				m := far()
				m.Lost, m.End, m.Period = r.Intn(2) == 0, uint16(3+r.Intn(2)), uint8(3+r.Intn(2))
				if e := wrongOf(m); e != api.OK {
					hearsNot(t, w, now, closed(t, m, 5), e)
					continue
				}
				w, lastHeard = heard(t, w, now, closed(t, m, 5)), now
				continue
			}
			now += int64(r.Intn(2 * int(interval)))
			lost := w.Lost || now >= beyond(lastHeard, interval)
			if now < toSend {
				w = silent(t, w, now, lost)
			} else {
				w, toSend = sends(t, w, now, lost), now+interval
			}
		}
	}
}

func TestTwoEnds(t *testing.T) { // P9.2: a line that is cut for a while, and its ends
	a, _ := New(5, 3, 4, fullGroup, 3, 0)
	b, _ := New(5, 4, 4, fullGroup, 3, 0)
	for now := range int64(60) {
		var fromA, fromB string
		a, fromA = a.Tick(now)
		b, fromB = b.Tick(now)
		// Cut from 20 to 39: heard last at 18, lost at 29; sent next at 42.
		cut := now >= 20 && now < 40
		if fromB != "" && !cut {
			a, _ = a.Hear(now, fromB)
		}
		if fromA != "" && !cut {
			b, _ = b.Hear(now, fromA)
		}
		if lost := now >= 29 && now < 42; a.Lost != lost || b.Lost != lost {
			t.Fatalf("at %d: lost %v, %v", now, a.Lost, b.Lost)
		}
		// What they said at 42 they said as lost ones; at 45 no more.
		if said := now >= 42 && now < 45; a.Far != said || b.Far != said {
			t.Fatalf("at %d: Far %v, %v", now, a.Far, b.Far)
		}
	}
}

func TestAnything(t *testing.T) { // R1: whatever is handed in, every call ends, and none panics
	numbers := []int64{math.MinInt64, math.MinInt64 + 1, -maxTick, -1, 0, 1, maxTick + 1, math.MaxInt64}
	watches := []Watch{{}, plain(t, 1, 0), {Level: 255, End: 65535, Period: 255, Group: "g", Interval: math.MinInt64, Heard: math.MinInt64, Next: math.MaxInt64, Sent: math.MaxUint64}}
	for _, w := range watches {
		for _, now := range numbers {
			w.Tick(now)
			w.Hear(now, "")
			w.Hear(now, closed(t, far(), 5))
			w.Hear(now, strings.Repeat("\x00", 75))
		}
	}
	// Bytes that can't be opened change nothing at any number, either.
	for _, now := range numbers {
		hearsNot(t, watches[1], now, "", api.ErrShort)
	}
}
