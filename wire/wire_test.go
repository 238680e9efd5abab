package wire

import (
	"math"
	"slices"
	"strconv"
	"strings"
	"testing"

	"carousel/api"
)

const maxQueue = 256

// Rooms that may be: the least, the greatest, and some in between.
var rooms = []int{1, 2, 3, 4, 5, 17, 100, maxQueue - 1, maxQueue}

// model is a wire, as the chapter tells it.
type model struct {
	room   int
	down   bool
	frames []string
}

// made is a wire that is up, without frames, and what it should be.
func made(t *testing.T, room int) (Wire, model) {
	t.Helper()
	w, e := New(room)
	if e != api.OK {
		t.Fatalf("New(%d) = %v", room, e)
	}
	m := model{room: room}
	whole(t, w, m)
	return w, m
}

// filled is a wire that is up, with these frames on their way.
func filled(t *testing.T, room int, l ...string) (Wire, model) {
	t.Helper()
	w, m := made(t, room)
	for _, s := range l {
		w, m = pushed(t, w, m, s)
	}
	return w, m
}

// names are so many frames, no two alike.
func names(n int) []string {
	var l []string
	for i := range n {
		l = append(l, "frame "+strconv.Itoa(i))
	}
	return l
}

// tells holds Up and Len to what they should be.
func tells(t *testing.T, w Wire, m model) {
	t.Helper()
	if w.Up() == m.down || w.Len() != len(m.frames) {
		t.Fatalf("Up() = %v, Len() = %d, want %v, %d", w.Up(), w.Len(), !m.down, len(m.frames))
	}
}

// reads holds a wire to having just these frames, in this order.
func reads(t *testing.T, w Wire, m model) {
	t.Helper()
	tells(t, w, m)
	for i, want := range m.frames {
		next, s, ok := w.Pop()
		if s != want || !ok {
			t.Fatalf("Pop() of frame %d = %q, %v, want %q", i, s, ok, want)
		}
		w = next
		tells(t, w, model{m.room, m.down, m.frames[i+1:]})
	}
	if next, s, ok := w.Pop(); s != "" || ok || next.Len() != 0 || next.Up() == m.down {
		t.Fatalf("Pop() of none = %q, %v", s, ok)
	}
}

// whole holds a wire to its frames, and to taking as many more as its room leaves, once it is up.
func whole(t *testing.T, w Wire, m model) {
	t.Helper()
	reads(t, w, m)
	if m.down {
		if _, ok := w.Push("late"); ok {
			t.Fatal("a frame is taken where it is down")
		}
	}
	u := w.Set(true)
	for n := len(m.frames); n < m.room; n++ {
		next, ok := u.Push("more")
		if !ok || next.Len() != n+1 {
			t.Fatalf("of %d: with %d Push = %v, with %d", m.room, n, ok, next.Len())
		}
		u = next
	}
	if next, ok := u.Push("too much"); ok || next.Len() != m.room {
		t.Fatalf("of %d: Push where it is full = %v, with %d", m.room, ok, next.Len())
	}
	reads(t, w, m)
}

// pushed is a wire with a frame more, where there is room for it, and it is up.
func pushed(t *testing.T, w Wire, m model, s string) (Wire, model) {
	t.Helper()
	x, ok := w.Push(s)
	if !ok {
		t.Fatalf("Push(%q) = false, with %d of %d", s, len(m.frames), m.room)
	}
	tells(t, w, m)
	m.frames = append(slices.Clone(m.frames), s)
	tells(t, x, m)
	return x, m
}

// refused holds Push to taking nothing, and to answering the wire as it was.
func refused(t *testing.T, w Wire, m model) {
	t.Helper()
	for _, s := range []string{"", "x", "frame 0", strings.Repeat("z", 5000)} {
		x, ok := w.Push(s)
		if ok {
			t.Fatalf("%d bytes are taken with %d of %d, down %v", len(s), len(m.frames), m.room, m.down)
		}
		whole(t, x, m)
		whole(t, w, m)
	}
}

// popped is a wire without its first frame, where it has one.
func popped(t *testing.T, w Wire, m model) (Wire, model) {
	t.Helper()
	x, s, ok := w.Pop()
	if s != m.frames[0] || !ok {
		t.Fatalf("Pop() = %q, %v, want %q", s, ok, m.frames[0])
	}
	tells(t, w, m)
	m.frames = m.frames[1:]
	tells(t, x, m)
	return x, m
}

// set is a wire that is up, or down.
func set(t *testing.T, w Wire, m model, up bool) (Wire, model) {
	t.Helper()
	x := w.Set(up)
	tells(t, w, m)
	if m.down == up {
		m = model{room: m.room, down: !up}
	}
	tells(t, x, m)
	return x, m
}

func TestExample(t *testing.T) { // P21.1, P21.2
	w, m := filled(t, 2, "a", "b")
	reads(t, w, model{room: 2, frames: []string{"a", "b"}})
	popped(t, w, m)
}

func TestNew(t *testing.T) { // P21.1: each Room that may be: up, without frames, and so many have room
	for _, room := range rooms {
		w, e := New(room)
		if e != api.OK || !w.Up() || w.Len() != 0 {
			t.Fatalf("New(%d) = %v, Up() = %v, Len() = %d", room, e, w.Up(), w.Len())
		}
		whole(t, w, model{room: room})
	}
}

func TestNewWrong(t *testing.T) { // P21.1: what is no Room, numbers that would be one if they were cut off, too
	for _, room := range []int{0, maxQueue + 1, -1, -2, -maxQueue, 2 * maxQueue, 1 << 16, 1 << 32, 1<<32 + 1, 1<<63 - maxQueue, math.MinInt, math.MinInt + 1, math.MaxInt} {
		w, e := New(room)
		if e != api.ErrRange {
			t.Fatalf("New(%d) = %v", room, e)
		}
		if w.room != 0 || w.up || w.frames != nil {
			t.Fatalf("New(%d) = %v beside the error", room, w)
		}
		// Beside the error stands a wire that was never begun.
		reads(t, w, model{down: true})
		for _, up := range []bool{true, false} {
			x := w.Set(up)
			x, _ = x.Push("x")
			x.Pop()
		}
		reads(t, w, model{down: true})
	}
}

func TestPush(t *testing.T) { // P21.1: with room, till there is none any more; behind the others
	for _, room := range rooms {
		w, m := made(t, room)
		for _, s := range names(room) {
			w, m = pushed(t, w, m, s)
			reads(t, w, m)
		}
		reads(t, w, model{room: room, frames: names(room)})
		refused(t, w, m)
	}
}

func TestPushDown(t *testing.T) { // P21.1: down, without frames ahead of it, with some, and full
	for _, room := range []int{1, 2, 5, maxQueue} {
		for _, n := range []int{0, 1, room - 1, room} {
			w, m := filled(t, room, names(n)...)
			w, m = set(t, w, m, false)
			whole(t, w, model{room: room, down: true})
			refused(t, w, m)
		}
	}
}

func TestPushAny(t *testing.T) { // P21.1, P21.2: any text is a frame, empty and long ones, too, and ones that are alike
	l := []string{"", "", "\x00", "a", "a", strings.Repeat("b", api.MaxFrame), strings.Repeat("c", api.MaxFrame+1), "", strings.Repeat("d", 1<<20), "\xff\xfe", "ab\x00c", "ä€", "a", ""}
	w, m := filled(t, len(l), l...)
	reads(t, w, model{room: len(l), frames: l})
	refused(t, w, m)
	for i, s := range l {
		one, m := filled(t, 1, s)
		reads(t, one, model{room: 1, frames: l[i : i+1]})
		refused(t, one, m)
	}
}

func TestPopNone(t *testing.T) { // P21.1: of none: as it was, empty, false; up and down, ahead of frames and behind them
	for _, room := range []int{1, 3, maxQueue} {
		w, m := made(t, room)
		behind, _ := filled(t, room, "x")
		behind, _, _ = behind.Pop()
		down, gone := set(t, w, m, false)
		lost, _ := filled(t, room, "x")
		lost = lost.Set(false)
		again := lost.Set(true)
		for i, u := range []Wire{w, behind, again, down, lost} {
			want := m
			if i > 2 {
				want = gone
			}
			x, s, ok := u.Pop()
			if s != "" || ok {
				t.Fatalf("wire %d: Pop() = %q, %v", i, s, ok)
			}
			whole(t, x, want)
			whole(t, u, want)
		}
	}
}

func TestPop(t *testing.T) { // P21.1, P21.2: of one, of several; the wire itself keeps them
	for _, room := range rooms {
		w, m := filled(t, room, names(room)...)
		for i := range room {
			x, n := popped(t, w, m)
			whole(t, x, model{room: room, frames: names(room)[i+1:]})
			reads(t, w, m)
			w, m = x, n
		}
		whole(t, w, model{room: room})
	}
}

func TestPopEmptyText(t *testing.T) { // P21.1: an empty text is a frame like others: Pop tells it by true
	w, m := filled(t, 3, "", "a", "")
	for _, want := range []string{"", "a", ""} {
		if _, s, ok := w.Pop(); s != want || !ok {
			t.Fatalf("Pop() = %q, %v, want %q", s, ok, want)
		}
		w, m = popped(t, w, m)
	}
	if _, s, ok := w.Pop(); s != "" || ok {
		t.Fatalf("Pop() of none = %q, %v", s, ok)
	}
}

func TestPopMakesRoom(t *testing.T) { // P21.1, P21.2: one that is full takes another frame behind a Pop, again and again
	for _, room := range []int{1, 2, 3, 5, maxQueue} {
		l := names(3 * room)
		w, m := filled(t, room, l[:room]...)
		for i := room; i < len(l); i++ {
			if _, ok := w.Push("x"); ok {
				t.Fatalf("of %d: a frame more is taken", room)
			}
			w, m = popped(t, w, m)
			w, m = pushed(t, w, m, l[i])
		}
		reads(t, w, model{room: room, frames: l[2*room:]})
		refused(t, w, m)
	}
}

func TestSetUp(t *testing.T) { // P21.1: up where it is up: frames that are on their way stay so
	for _, room := range []int{1, 2, 5, maxQueue} {
		for _, n := range []int{0, 1, room - 1, room} {
			w, m := filled(t, room, names(n)...)
			whole(t, w.Set(true), model{room: room, frames: names(n)})
			whole(t, w.Set(true).Set(true), m)
			whole(t, w, m)
		}
	}
}

func TestSetDown(t *testing.T) { // P21.1: down: all frames are lost; down again: nothing; up again: none, and room as before
	for _, room := range []int{1, 2, 5, maxQueue} {
		for _, n := range []int{0, 1, room - 1, room} {
			w, m := filled(t, room, names(n)...)
			down := w.Set(false)
			whole(t, down, model{room: room, down: true})
			whole(t, down.Set(false), model{room: room, down: true})
			up := down.Set(true)
			whole(t, up, model{room: room})
			whole(t, up.Set(true), model{room: room})
			whole(t, up.Set(false), model{room: room, down: true})
			whole(t, down, model{room: room, down: true})
			whole(t, w, m)
		}
	}
}

func TestSetAndPush(t *testing.T) { // P21.2: what is pushed behind a loss is popped, what was lost never
	for _, room := range []int{1, 2, 5, maxQueue} {
		w, m := filled(t, room, names(room)...)
		w, m = set(t, w, m, false)
		w, m = set(t, w, m, true)
		w, m = pushed(t, w, m, "new")
		whole(t, w, model{room: room, frames: []string{"new"}})
		w, m = popped(t, w, m)
		whole(t, w, model{room: room})
	}
}
