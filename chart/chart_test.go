package chart

import (
	"math"
	"math/rand"
	"slices"
	"strings"
	"sync"
	"testing"

	"carousel/req"
)

// listed is the chart, word by word as the chapter lists it.
const listed = `
| any | FS | either | TakeFS StopWaits | Forced |
| Idle Protect Manual Pending | RemoteFS | either | OpenAll Silence StopWaits | Forced |
| Idle Protect Manual Pending | SF | either | TakeSF StopWaits | Protect |
| Protect | ClearSF | either | Guard SayNone Rest | Pending |
| Idle Protect Manual Pending | RemoteSF | either | OpenSound Silence StopWaits | Protect |
| Idle Pending | RemoteMS | either | OpenSound Silence StopWaits | Manual |
| Manual | RemoteMS | yes | Guard SayNone BlockWait | Pending |
| Manual | RemoteMS | no | OpenSound Silence | Manual |
| Idle Pending | MS | either | TakeMS StopWaits | Manual |
| Manual Forced | Clear | yes | Guard SayNone BlockWait | Pending |
| Pending | Clear, RestOver, BlockOver | either | Home StopWaits | Idle |
| any | RemoteIdle | no | HomeFar | Idle |
| Idle Pending | RemoteNone | either | Yield | as it was |
| Protect | RemoteNone | either | Rest | Pending |
| Manual Forced | RemoteNone | no | BlockWait | Pending |
`

// Each name stands at its number, each word likewise.
var (
	stateNames   = []string{"Idle", "Protect", "Manual", "Forced", "Pending"}
	requestNames = []string{"Clear", "FS", "RemoteFS", "SF", "ClearSF", "RemoteSF", "RemoteMS", "MS", "RestOver", "RestRuns", "BlockOver", "BlockRuns", "RemoteIdle", "RemoteNone"}
	actNames     = []string{"TakeFS", "TakeSF", "TakeMS", "OpenSound", "Silence", "Guard", "SayNone", "Rest", "BlockWait", "StopWaits", "Home", "HomeFar", "Yield", "OpenAll"}

	stateList = strings.Split("idle protect manual forced pending", " ")
	actList   = strings.Split("take-fs take-sf take-ms open-sound silence guard say-none rest block-wait stop-waits home home-far yield open-all", " ")
)

// asked is what the chart is read by.
type asked struct {
	s    State
	k    req.Kind
	mine bool
}

// told is what the chart tells.
type told struct {
	acts []Act
	next State
}

// numbers are the numbers of names; it is a fault of the test, if there is no such name.
func numbers(t *testing.T, names, among []string) []int {
	t.Helper()
	var out []int
	for _, name := range names {
		n := slices.Index(among, name)
		if n < 0 {
			t.Fatalf("no such name: %q", name)
		}
		out = append(out, n)
	}
	return out
}

// read is the listed chart; what isn't in it has no row.
func read(t *testing.T) map[asked]told {
	t.Helper()
	out := map[asked]told{}
	for _, line := range strings.Split(strings.TrimSpace(listed), "\n") {
		cells := strings.Split(strings.Trim(line, "| "), " | ")
		from := strings.Fields(strings.Replace(cells[0], "any", strings.Join(stateNames, " "), 1))
		var acts []Act
		for _, a := range numbers(t, strings.Fields(cells[3]), actNames) {
			acts = append(acts, Act(a))
		}
		for _, s := range numbers(t, from, stateNames) {
			next := s
			if cells[4] != "as it was" {
				next = numbers(t, cells[4:5], stateNames)[0]
			}
			for _, k := range numbers(t, strings.Split(cells[1], ", "), requestNames) {
				for _, mine := range sidesOf[cells[2]] {
					at := asked{State(s), req.Kind(k), mine}
					if _, twice := out[at]; twice {
						t.Fatalf("two rows of %+v", at)
					}
					out[at] = told{acts, State(next)}
				}
			}
		}
	}
	return out
}

// sidesOf are the sides of a row's word.
var sidesOf = map[string][]bool{"either": {false, true}, "yes": {true}, "no": {false}}

// wanted is what is to be told: without a row nothing is done, and the state stays.
func wanted(want map[asked]told, at asked) told {
	if w, ok := want[at]; ok {
		return w
	}
	return told{nil, at.s}
}

// holds says whether the chart tells what is wanted.
func holds(want map[asked]told, at asked) bool {
	acts, next := Look(at.s, at.k, at.mine)
	w := wanted(want, at)
	return slices.Equal(acts, w.acts) && next == w.next
}

// check is holds, and tells what was read where it doesn't.
func check(t *testing.T, want map[asked]told, at asked) {
	t.Helper()
	if !holds(want, at) {
		acts, next := Look(at.s, at.k, at.mine)
		t.Errorf("Look(%d, %d, %v) = %v, %d; want %v", int(at.s), int(at.k), at.mine, acts, int(next), wanted(want, at))
	}
}

// farOff are numbers that are no state, no act and no request.
func farOff() []int {
	return []int{
		-3, -14, -128, -255, -256, 17, 18, 32, 64, 127, 128, 255, 256, 257, 1 << 16, 1<<32 - 1, 1 << 32, 1<<32 + 1, -1 << 32, 1 - 1<<32,
		math.MaxInt32, math.MinInt32, math.MaxInt64 - 1, math.MaxInt64, math.MinInt64, math.MinInt64 + 1,
	}
}

// around are all numbers from one on to another one, and those far off.
func around(from, to int) []int {
	out := farOff()
	for n := from; n <= to; n++ {
		out = append(out, n)
	}
	return out
}

// every is all that the chart is read by in these tests.
func every() []asked {
	var out []asked
	for _, s := range around(-2, 7) {
		for _, k := range around(-2, 16) {
			out = append(out, asked{State(s), req.Kind(k), false}, asked{State(s), req.Kind(k), true})
		}
	}
	return out
}

// forget makes the chart as it is ahead of the first read.
func forget() {
	laying = sync.Once{}
	laid = rows{}
}

// row is what the chapter tells, as a row.
func (w told) row() row { return row{w.acts, w.next} }

// mayBe are the states and requests that there are, with mine and without.
func mayBe() []asked {
	return slices.DeleteFunc(every(), func(at asked) bool { return !at.s.May() || !at.k.May() })
}

// together runs f as often as there are workers, all at once.
func together(workers int, f func(worker int)) {
	var all sync.WaitGroup
	begin := make(chan struct{})
	for w := range workers {
		all.Add(1)
		go func() {
			defer all.Done()
			<-begin
			f(w)
		}()
	}
	close(begin)
	all.Wait()
}

// scribble writes into all of what was read, with the room behind its end.
func scribble(acts []Act) {
	acts = acts[:cap(acts)]
	for i := range acts {
		acts[i] = -9
	}
}

func TestFirstReaders(t *testing.T) { // P13.2: several that read first, at the same time, read the same as one alone, though they write into it
	want, all := read(t), every()
	for round := range 60 {
		forget()
		wrong := make([]int, 8)
		together(len(wrong), func(worker int) {
			for i := range all {
				at := all[(i+worker*len(all)/len(wrong)+round)%len(all)]
				if !holds(want, at) {
					wrong[worker]++
				}
				acts, _ := Look(at.s, at.k, at.mine)
				scribble(acts)
			}
		})
		if slices.Max(wrong) > 0 {
			t.Fatalf("round %d: wrong answers of each reader: %v", round, wrong)
		}
	}
}

func TestAllReadOneRowFirst(t *testing.T) { // P13.2: nobody reads a chart that isn't laid yet
	want := read(t)
	at := asked{Pending, req.RemoteNone, true}
	for round := range 300 {
		forget()
		wrong := make([]int, 8)
		together(len(wrong), func(worker int) {
			if !holds(want, at) {
				wrong[worker]++
			}
		})
		if slices.Max(wrong) > 0 {
			t.Fatalf("round %d: wrong answers of each reader: %v", round, wrong)
		}
	}
}

func TestTell(t *testing.T) { // P13.1: the function that tells a row tells the chapter's, in memory of its own
	want := read(t)
	for _, at := range mayBe() {
		first, second := tell(at.s, at.k, at.mine), tell(at.s, at.k, at.mine)
		scribble(first.acts)
		if w := wanted(want, at).row(); !second.is(w) {
			t.Errorf("tell(%v, %v, %v) = %+v, want %+v", at.s, at.k, at.mine, second, w)
		}
	}
}

func TestIs(t *testing.T) { // P13.1: rows are told apart by their acts, the order of these, and the next state
	r := row{[]Act{Guard, SayNone}, Pending}
	if !r.is(row{[]Act{Guard, SayNone}, Pending}) || !(row{}).is(row{acts: []Act{}}) {
		t.Error("one row isn't the same as itself")
	}
	for _, other := range []row{
		{[]Act{Guard, SayNone}, Idle}, {[]Act{SayNone, Guard}, Pending}, {[]Act{Guard}, Pending}, {[]Act{Guard, Rest}, Pending},
		{[]Act{Guard, SayNone, Rest}, Pending}, {nil, Pending}, {},
	} {
		if r.is(other) || other.is(r) {
			t.Errorf("%+v is taken for %+v", other, r)
		}
	}
}

func TestLaidIsTold(t *testing.T) { // P13.2: the chart as it is laid holds what the function tells, of every state, request and side
	want := read(t)
	forget()
	for _, at := range mayBe() {
		check(t, want, at)
		stands := laid[at.s][at.k][side(at.mine)]
		if !stands.is(tell(at.s, at.k, at.mine)) || !stands.is(wanted(want, at).row()) {
			t.Errorf("of %v, %v, %v %+v is laid", at.s, at.k, at.mine, stands)
		}
	}
	if n := len(mayBe()); n != 5*14*2 {
		t.Errorf("%d rows were held against the function", n)
	}
}

func TestLaidIsToldToAll(t *testing.T) { // P13.2: the same where several read first, at the same time
	all := mayBe()
	for round := range 60 {
		forget()
		wrong := make([]int, 8)
		together(len(wrong), func(worker int) {
			for i := range all {
				at := all[(i+worker*len(all)/len(wrong)+round)%len(all)]
				acts, next := Look(at.s, at.k, at.mine)
				// Behind a read the chart is laid, and nobody writes it any more.
				stands := laid[at.s][at.k][side(at.mine)]
				if w := tell(at.s, at.k, at.mine); !stands.is(w) || !w.is(row{acts, next}) {
					wrong[worker]++
				}
				scribble(acts)
			}
		})
		if slices.Max(wrong) > 0 {
			t.Fatalf("round %d: wrong rows of each reader: %v", round, wrong)
		}
	}
}

func TestLaidOnce(t *testing.T) { // P13.2: the chart is laid by the first read, and what is laid stays, to the memory that it stands in
	forget()
	if laid[Idle][req.FS][0].acts != nil {
		t.Fatal("laid ahead of the first read")
	}
	Look(Idle, req.SF, false)
	first := laid
	for range 3 {
		for _, at := range every() {
			acts, _ := Look(at.s, at.k, at.mine)
			scribble(acts)
		}
	}
	for _, at := range mayBe() {
		was, is := first[at.s][at.k][side(at.mine)], laid[at.s][at.k][side(at.mine)]
		if !is.is(tell(at.s, at.k, at.mine)) || len(is.acts) > 0 && &is.acts[0] != &was.acts[0] {
			t.Errorf("of %v, %v, %v %+v is laid, it was %+v", at.s, at.k, at.mine, is, was)
		}
	}
}

func TestToldHolds(t *testing.T) { // P13.1, R5: an answer hangs on what is asked alone, not on what is kept
	defer forget()
	want := read(t)
	for _, spoilt := range []row{{}, {nil, Forced}, {[]Act{TakeFS}, Idle}, {[]Act{TakeSF, StopWaits}, Idle}, {[]Act{-1, 99}, 77}} {
		forget()
		Look(Idle, req.SF, false)
		for _, at := range mayBe() {
			laid[at.s][at.k][side(at.mine)] = spoilt
		}
		for _, at := range every() {
			check(t, want, at)
		}
		for _, at := range mayBe() {
			if stands := laid[at.s][at.k][side(at.mine)]; !stands.is(spoilt) {
				t.Fatalf("a read wrote %+v into the chart", stands)
			}
		}
	}
}

func TestWhateverIsReadFirst(t *testing.T) { // P13.2: each row is the same as the first one that is read, and behind it
	want, all := read(t), every()
	for _, first := range all {
		forget()
		check(t, want, first)
		check(t, want, first)
		check(t, want, asked{Idle, req.SF, false})
	}
}

func TestExample(t *testing.T) { // P13.1
	acts, next := Look(Idle, req.SF, false)
	if !slices.Equal(acts, []Act{TakeSF, StopWaits}) || next != Protect {
		t.Fatal(acts, next)
	}
}

func TestNumbers(t *testing.T) { // P13.1: the chapter's numbers
	states := []State{Idle, Protect, Manual, Forced, Pending}
	acts := []Act{TakeFS, TakeSF, TakeMS, OpenSound, Silence, Guard, SayNone, Rest, BlockWait, StopWaits, Home, HomeFar, Yield, OpenAll}
	for n, s := range states {
		if int(s) != n {
			t.Errorf("%s is %d", stateNames[n], s)
		}
	}
	for n, a := range acts {
		if int(a) != n {
			t.Errorf("%s is %d", actNames[n], a)
		}
	}
	if len(states) != len(stateNames) || len(acts) != len(actNames) {
		t.Error(len(states), len(acts))
	}
}

func TestLook(t *testing.T) { // P13.1: states from -2 to 7, requests from -2 to 16, and numbers far off, with mine and without
	want := read(t)
	if n := len(want); n != 67 {
		t.Fatalf("%d rows by state, request and mine are listed", n)
	}
	for _, at := range every() {
		check(t, want, at)
	}
}

func TestNoRow(t *testing.T) { // P13.1: no act, and the state as it was, by what the chapter has no row of
	for _, at := range []asked{
		{Idle, req.Clear, true}, {Idle, req.ClearSF, false}, {Idle, req.RestOver, true}, {Idle, req.RestRuns, false}, {Idle, req.RemoteIdle, true},
		{Protect, req.Clear, true}, {Protect, req.MS, true}, {Protect, req.RemoteMS, false}, {Protect, req.BlockOver, false}, {Protect, req.RemoteIdle, true},
		{Manual, req.Clear, false}, {Manual, req.MS, true}, {Manual, req.ClearSF, true}, {Manual, req.RemoteNone, true}, {Manual, req.RemoteIdle, true},
		{Forced, req.Clear, false}, {Forced, req.RemoteFS, false}, {Forced, req.SF, false}, {Forced, req.RemoteSF, true}, {Forced, req.RemoteNone, true},
		{Pending, req.ClearSF, true}, {Pending, req.RestRuns, true}, {Pending, req.BlockRuns, false}, {Pending, req.RemoteIdle, true},
	} {
		if acts, next := Look(at.s, at.k, at.mine); len(acts) != 0 || next != at.s {
			t.Errorf("Look(%v, %v, %v) = %v, %v", at.s, at.k, at.mine, acts, next)
		}
	}
}

func TestNoStateNoRequest(t *testing.T) { // P13.1: no act, and the number as it was, which isn't made a state
	for _, n := range append(farOff(), -2, -1, 14, 15, 16) {
		for _, mine := range []bool{false, true} {
			if acts, next := Look(State(n), req.FS, mine); len(acts) != 0 || next != State(n) {
				t.Errorf("of the state %d: %v, %d", n, acts, int(next))
			}
			for s := Idle; s <= Pending; s++ {
				if acts, next := Look(s, req.Kind(n), mine); len(acts) != 0 || next != s {
					t.Errorf("of %v and the request %d: %v, %v", s, n, acts, next)
				}
			}
			if acts, next := Look(State(n), req.Kind(n), mine); len(acts) != 0 || next != State(n) {
				t.Errorf("of the state and the request %d: %v, %d", n, acts, int(next))
			}
		}
	}
}

func TestStates(t *testing.T) { // P13.1: May and String of a state's number, and of others
	for _, n := range around(-2, 16) {
		s, word := State(n), "none"
		is := n >= 0 && n < len(stateList)
		if is {
			word = stateList[n]
		}
		if s.May() != is || s.String() != word {
			t.Errorf("the state %d: May() = %v, String() = %q; want %v, %q", n, s.May(), s.String(), is, word)
		}
	}
}

func TestActs(t *testing.T) { // P13.1: String of an act's number, and of others
	for _, n := range around(-2, 16) {
		word := "none"
		if n >= 0 && n < len(actList) {
			word = actList[n]
		}
		if got := Act(n).String(); got != word {
			t.Errorf("the act %d: String() = %q, want %q", n, got, word)
		}
	}
}

func TestNextMayBe(t *testing.T) { // P13.2: from a state that may be, whatever is asked; and from others never
	for _, at := range every() {
		acts, next := Look(at.s, at.k, at.mine)
		if next.May() != at.s.May() {
			t.Errorf("Look(%d, %d, %v): from a state that may be, %v, to one that may be, %v", int(at.s), int(at.k), at.mine, at.s.May(), next.May())
		}
		for _, a := range acts {
			if a.String() == "none" {
				t.Errorf("Look(%v, %v, %v): %d is no act", at.s, at.k, at.mine, int(a))
			}
		}
	}
}

func TestWrittenInto(t *testing.T) { // P13.2: what was read may be written into
	want, all := read(t), every()
	for _, at := range all {
		acts, _ := Look(at.s, at.k, at.mine)
		scribble(acts)
		check(t, want, at)
	}
	for _, at := range all {
		check(t, want, at)
	}
}

func TestAppendedTo(t *testing.T) { // P13.2: what was read may be appended to, at each place
	want, all := read(t), every()
	for _, at := range all {
		acts, _ := Look(at.s, at.k, at.mine)
		for n := range len(acts) + 1 {
			_ = append(acts[:n], -7, -7, -7, -7)
			check(t, want, at)
		}
	}
	for _, at := range all {
		check(t, want, at)
	}
}

func TestReadTwice(t *testing.T) { // R3: what was read twice shares nothing
	want := read(t)
	for _, at := range every() {
		first, _ := Look(at.s, at.k, at.mine)
		second, _ := Look(at.s, at.k, at.mine)
		scribble(first)
		if !slices.Equal(second, wanted(want, at).acts) {
			t.Errorf("Look(%d, %d, %v) = %v, when another read was written into", int(at.s), int(at.k), at.mine, second)
		}
	}
}

func TestNothingIsKept(t *testing.T) { // R5: an answer hangs on nothing that was asked ahead of it
	from := rand.New(rand.NewSource(13))
	want, all := read(t), every()
	for range 50000 {
		check(t, want, all[from.Intn(len(all))])
	}
}

func TestAnything(t *testing.T) { // R1: whatever is handed in, every call ends, and none panics
	from := rand.New(rand.NewSource(1))
	want := read(t)
	number := func() int {
		n := int(from.Uint64() >> from.Intn(64))
		if from.Intn(2) == 0 {
			return -n
		}
		return n
	}
	for range 50000 {
		at := asked{State(number()), req.Kind(number()), from.Intn(2) == 0}
		check(t, want, at)
		at.s.May()
		_, _ = at.s.String(), Act(number()).String()
	}
}
