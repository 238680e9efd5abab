package wire

import (
	"math/rand"
	"slices"
	"strconv"
	"testing"
)

// both is a wire, and what it should be.
type both struct {
	w Wire
	m model
}

// wires are all that came out of one, the earlier ones, too.
type wires []both

func (l *wires) keep(w Wire, m model) (Wire, model) {
	*l = append(*l, both{w, m})
	return w, m
}

// stay holds all of them to what they were when they came.
func (l wires) stay(t *testing.T) {
	t.Helper()
	for _, b := range l {
		reads(t, b.w, b.m)
	}
}

// call is a step that makes a wire of another one.
type call func(t *testing.T, w Wire, m model) (Wire, model)

// push is the call of Push, whatever the wire is.
func push(s string) call {
	return func(t *testing.T, w Wire, m model) (Wire, model) {
		t.Helper()
		if !m.down && len(m.frames) < m.room {
			return pushed(t, w, m, s)
		}
		x, ok := w.Push(s)
		if ok {
			t.Fatalf("Push(%q) = true, with %d of %d, down %v", s, len(m.frames), m.room, m.down)
		}
		tells(t, x, m)
		return x, m
	}
}

// pop is the call of Pop, whatever the wire is.
func pop(t *testing.T, w Wire, m model) (Wire, model) {
	t.Helper()
	if len(m.frames) > 0 {
		return popped(t, w, m)
	}
	x, s, ok := w.Pop()
	if s != "" || ok {
		t.Fatalf("Pop() of none = %q, %v", s, ok)
	}
	tells(t, x, m)
	return x, m
}

func goUp(t *testing.T, w Wire, m model) (Wire, model) {
	t.Helper()
	return set(t, w, m, true)
}

func goDown(t *testing.T, w Wire, m model) (Wire, model) {
	t.Helper()
	return set(t, w, m, false)
}

// row is calls, one behind the other, each of what the one ahead of it answered.
func row(l ...call) call {
	return func(t *testing.T, w Wire, m model) (Wire, model) {
		t.Helper()
		for _, c := range l {
			w, m = c(t, w, m)
		}
		return w, m
	}
}

func TestTwoOutOfOne(t *testing.T) { // P21.1: two that come out of one don't hang on each other, in each order
	several := row(pop, push("p"), pop, pop, push("q"), push("r"), pop, push("s"))
	calls := []call{
		push("x"), push("y"), push(""), pop, goDown, goUp, several,
		row(push("x"), push("y")), row(pop, push("x")), row(pop, push("y")), row(push("x"), pop), row(push("y"), pop),
		row(pop, pop, push("x")), row(pop, push("x"), push("y")), row(pop, push("y"), push("x")),
		row(push("x"), goDown), row(goDown, push("x")), row(goDown, goUp, push("x")), row(goDown, goUp, push("y"), push("x")),
		row(several, goDown, goUp, push("x")), row(several, several), row(several, push("x")), row(several, push("y")),
	}
	for _, room := range []int{1, 2, 3, 4, 5, 9} {
		for n := range room + 1 {
			for _, first := range calls {
				for _, second := range calls {
					var l wires
					w, m := l.keep(filled(t, room, names(n)...))
					x, xm := l.keep(first(t, w, m))
					y, ym := l.keep(second(t, w, m))
					l.stay(t)
					// And those that come out of these two, where each has gone on.
					l.keep(push("of the first")(t, x, xm))
					l.keep(push("of the second")(t, y, ym))
					l.keep(push("of the one")(t, w, m))
					l.keep(several(t, x, xm))
					l.keep(several(t, y, ym))
					l.stay(t)
				}
			}
		}
	}
}

func TestManyOutOfOne(t *testing.T) { // P21.1: as many as like out of one, with however many frames
	for n := range maxQueue {
		var l wires
		w, m := l.keep(filled(t, maxQueue, names(n)...))
		for i := range 4 {
			l.keep(pushed(t, w, m, "out of one "+strconv.Itoa(i)))
		}
		l.stay(t)
	}
}

func TestEachRow(t *testing.T) { // P21.1, P21.2: each row of six calls, those that begin alike out of one wire
	for _, room := range []int{1, 2, 3, 5} {
		var l wires
		count := 0
		w, m := l.keep(made(t, room))
		eachRow(t, &l, w, m, 6, &count)
		l.stay(t)
		for _, b := range l[:200] {
			whole(t, b.w, b.m)
		}
	}
}

func eachRow(t *testing.T, l *wires, w Wire, m model, deep int, count *int) {
	if deep == 0 {
		return
	}
	// Two frames are pushed: what the first led to is there already when the second comes.
	for _, c := range []call{push("one " + strconv.Itoa(*count)), pop, goDown, goUp, push("two " + strconv.Itoa(*count))} {
		*count++
		x, n := l.keep(c(t, w, m))
		eachRow(t, l, x, n, deep-1, count)
		reads(t, x, n)
	}
	reads(t, w, m)
}

// drawnCall is any call; where many are pushed, the wire gets full, where many are popped, empty.
func drawnCall(r *rand.Rand, pushes int, s string) call {
	switch n := r.Intn(100); {
	case n < pushes:
		return push(s)
	case n < 96:
		return pop
	case n < 98:
		return goDown
	}
	return goUp
}

func TestDrawn(t *testing.T) { // P21.1, P21.2: drawn rows, step by step, and all earlier wires again at the end
	for seed := range int64(400) {
		r := rand.New(rand.NewSource(seed))
		room := rooms[r.Intn(len(rooms))]
		if r.Intn(2) == 0 {
			room = 1 + r.Intn(maxQueue)
		}
		var l wires
		w, m := l.keep(filled(t, room, names(r.Intn(room+1))...))
		pushes := 50
		for i := range 600 {
			if r.Intn(40) == 0 {
				pushes = 10 + r.Intn(85)
			}
			if r.Intn(10) == 0 { // it goes on from an earlier one
				b := l[r.Intn(len(l))]
				w, m = b.w, b.m
			}
			s := strconv.Itoa(i)
			if r.Intn(10) == 0 {
				s = ""
			}
			w, m = l.keep(drawnCall(r, pushes, s)(t, w, m))
			if m.down && r.Intn(3) == 0 { // few calls tell anything of a wire that is down
				w, m = l.keep(goUp(t, w, m))
			}
		}
		whole(t, w, m)
		l.stay(t)
	}
}

func TestInAndOut(t *testing.T) { // P21.2: what isn't lost is popped once, in the order in which it was pushed
	for seed := range int64(300) {
		r := rand.New(rand.NewSource(seed))
		room := rooms[r.Intn(len(rooms))]
		w, _ := made(t, room)
		var in, out []string
		for i := range 2000 {
			switch n := r.Intn(1000); {
			case n < 520:
				var ok bool
				if w, ok = w.Push(strconv.Itoa(i)); ok {
					in = append(in, strconv.Itoa(i))
				}
			case n < 998:
				var s string
				var ok bool
				if w, s, ok = w.Pop(); ok {
					out = append(out, s)
				}
			case n < 999: // those on their way are the last that were taken
				in = in[:len(in)-w.Len()]
				w = w.Set(false).Set(true)
			default:
				w = w.Set(true)
			}
			if len(in) != len(out)+w.Len() || w.Len() > room {
				t.Fatalf("room %d: %d in, %d out, %d on their way", room, len(in), len(out), w.Len())
			}
		}
		for w.Len() > 0 {
			x, s, ok := w.Pop()
			if !ok {
				t.Fatalf("Pop() = false, with %d", w.Len())
			}
			w, out = x, append(out, s)
		}
		if !slices.Equal(in, out) {
			t.Fatalf("room %d: %d in, %d out, not the same in order", room, len(in), len(out))
		}
	}
}
