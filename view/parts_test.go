package view

import (
	"math/rand"
	"reflect"
	"slices"
	"testing"
)

// fourLines are all lines that may be: the first one is open, the others aren't.
var fourLines = []Line{isOpen, isDown, isClosed, isDownShut}

func TestOpen(t *testing.T) { // P24.1: each of the four lines that may be
	for _, c := range []struct {
		up, shut, want bool
	}{
		{false, false, false},
		{false, true, false},
		{true, false, true},
		{true, true, false},
	} {
		if got := (Line{Up: c.up, Shut: c.shut}).Open(); got != c.want {
			t.Errorf("up %v, shut %v: open %v", c.up, c.shut, got)
		}
	}
}

// hangs are the nodes that hang together, told a second time: from each node on that wasn't met, as far as open lines lead.
func hangs(l []Line) [][]int {
	n := len(l)
	if n < 3 {
		return nil
	}
	var parts [][]int
	met := make([]bool, n)
	for first := range n {
		if met[first] {
			continue
		}
		met[first] = true
		part, todo := []int(nil), []int{first}
		for len(todo) > 0 {
			node := todo[0]
			todo, part = todo[1:], append(part, node)
			ahead := (node + n - 1) % n
			for _, hop := range [][2]int{{node, (node + 1) % n}, {ahead, ahead}} {
				if line, other := l[hop[0]], hop[1]; line.Up && !line.Shut && !met[other] {
					met[other] = true
					todo = append(todo, other)
				}
			}
		}
		slices.Sort(part)
		parts = append(parts, part)
	}
	return parts
}

// holds holds Loops, Whole and Parts of a list to the chapter, and answers its parts.
func holds(t *testing.T, l []Line) [][]int {
	t.Helper()
	var want [][]int
	loops, whole := false, false
	if len(l) >= 3 {
		want = hangs(l)
		loops = !slices.ContainsFunc(l, func(x Line) bool { return !x.Up || x.Shut })
		whole = len(want) == 1
	}
	got := Parts(l)
	if !reflect.DeepEqual(got, want) {
		t.Fatalf("Parts(%v) = %v, want %v", l, got, want)
	}
	if g := Loops(l); g != loops {
		t.Fatalf("Loops(%v) = %v", l, g)
	}
	if g := Whole(l); g != whole {
		t.Fatalf("Whole(%v) = %v", l, g)
	}
	return got
}

// goes holds what P24.3 says to a list of three lines or more.
func goes(t *testing.T, l []Line) {
	t.Helper()
	parts := Parts(l)
	if Whole(l) != (len(parts) == 1) || Loops(l) && !Whole(l) {
		t.Fatalf("%v: loops %v, whole %v, parts %v", l, Loops(l), Whole(l), parts)
	}
	nodes := slices.Concat(parts...)
	slices.Sort(nodes)
	for i, n := range nodes {
		if i != n || len(nodes) != len(l) {
			t.Fatalf("%v: the nodes of all parts are %v", l, nodes)
		}
	}
	for k, part := range parts {
		if !slices.IsSorted(part) || k > 0 && parts[k-1][0] >= part[0] {
			t.Fatalf("%v: parts %v", l, parts)
		}
	}
	for i, line := range l {
		if !line.Up || line.Shut {
			continue
		}
		for _, other := range fourLines[1:] {
			more := slices.Clone(l)
			more[i] = other
			want := len(parts) + 1
			if Loops(l) {
				want = 1
			}
			if got := Parts(more); len(got) != want || Loops(more) {
				t.Fatalf("%v, and %d not open: loops %v, parts %v", l, i, Loops(more), got)
			}
		}
	}
}

// each calls a function with each list of so many lines, each of which is one of these; it writes over the list.
func each(n int, of []Line, do func(l []Line)) {
	l := make([]Line, n)
	var from func(i int)
	from = func(i int) {
		if i == n {
			do(l)
			return
		}
		for _, line := range of {
			l[i] = line
			from(i + 1)
		}
	}
	from(0)
}

func TestExample(t *testing.T) { // the chapter's example: of three lines, all open but the last
	l := []Line{isOpen, isOpen, isClosed}
	if !Whole(l) || Loops(l) || !reflect.DeepEqual(Parts(l), [][]int{{0, 1, 2}}) {
		t.Error(Whole(l), Loops(l), Parts(l))
	}
}

func TestFewLines(t *testing.T) { // P24.2: of no lines, of one and of two: false, false, none
	none := func(l []Line) {
		if Loops(l) || Whole(l) || len(Parts(l)) != 0 {
			t.Errorf("%v: loops %v, whole %v, parts %v", l, Loops(l), Whole(l), Parts(l))
		}
	}
	none(nil)
	for n := range 3 {
		each(n, fourLines, none)
	}
	// What lies behind a list's end is none of it.
	room := all(8, isOpen, nil)
	for n := range 3 {
		none(room[:n])
	}
}

func TestEachShortList(t *testing.T) { // P24.2, P24.3: each list of 3 to 10 lines, some open and some not, all open and none
	lists := 0
	tries := func(l []Line) {
		lists++
		holds(t, l)
		goes(t, l)
	}
	for n := 3; n <= 7; n++ {
		each(n, fourLines, tries)
	}
	for n := 8; n <= 10; n++ {
		for _, other := range fourLines[1:] {
			each(n, []Line{isOpen, other}, tries)
		}
		// Not open because they are down, shut, or both, in turn.
		each(n, []Line{isOpen, isDown}, func(l []Line) {
			mixed := slices.Clone(l)
			for i := range mixed {
				if mixed[i] == isDown {
					mixed[i] = fourLines[1+i%3]
				}
			}
			tries(mixed)
		})
	}
	if want := 64 + 256 + 1024 + 4096 + 16384 + 4*(256+512+1024); lists != want {
		t.Errorf("%d lists, want %d", lists, want)
	}
}

// from is the numbers from one on, up to another one, that left out.
func from(a, b int) []int {
	var l []int
	for i := a; i < b; i++ {
		l = append(l, i)
	}
	return l
}

func TestLongLists(t *testing.T) { // P24.2: 16 lines and some hundred: none open, all, all but one, all but two
	parts := func(l []Line, loops bool, want ...[]int) {
		t.Helper()
		if got := holds(t, l); !reflect.DeepEqual(got, want) || Loops(l) != loops || Whole(l) != (len(want) == 1) {
			t.Fatalf("%v: loops %v, whole %v, parts %v, want %v", l, Loops(l), Whole(l), got, want)
		}
	}
	for _, n := range []int{16, 100, 299, 512} {
		parts(all(n, isOpen, nil), true, from(0, n))
		for _, other := range fourLines[1:] {
			var alone [][]int
			for i := range n {
				alone = append(alone, []int{i})
			}
			parts(all(n, other, nil), false, alone...)
			for i := range n {
				parts(all(n, isOpen, map[int]Line{i: other}), false, from(0, n))
			}
			// Side by side, far from each other, the first and the last among them.
			for _, two := range [][2]int{{0, 1}, {0, n - 1}, {n - 2, n - 1}, {0, n / 2}, {n / 2, n - 1}, {n/2 - 1, n / 2}, {3, n - 4}, {1, n - 1}} {
				a, b := two[0], two[1]
				// The nodes behind the first of both lines, up to the second, and all others.
				inner, outer := from(a+1, b+1), slices.Concat(from(0, a+1), from(b+1, n))
				parts(all(n, isOpen, map[int]Line{a: other, b: isDown}), false, outer, inner)
			}
		}
	}
}

func TestOrderOfParts(t *testing.T) { // P24.2: by rising least nodes, each with rising numbers, one that goes round among them
	for _, c := range []struct {
		shut []int
		want [][]int
	}{
		{[]int{0, 2}, [][]int{{0, 3, 4, 5, 6, 7}, {1, 2}}},
		{[]int{2, 5}, [][]int{{0, 1, 2, 6, 7}, {3, 4, 5}}},
		{[]int{2, 5, 7}, [][]int{{0, 1, 2}, {3, 4, 5}, {6, 7}}},
		{[]int{0, 7}, [][]int{{0}, {1, 2, 3, 4, 5, 6, 7}}},
		{[]int{6, 7}, [][]int{{0, 1, 2, 3, 4, 5, 6}, {7}}},
		{[]int{1, 3, 4, 6}, [][]int{{0, 1, 7}, {2, 3}, {4}, {5, 6}}},
		{[]int{0, 1, 2, 3, 4, 5, 6}, [][]int{{0, 7}, {1}, {2}, {3}, {4}, {5}, {6}}},
	} {
		l := all(8, isOpen, nil)
		for _, i := range c.shut {
			l[i].Shut = true
		}
		if got := holds(t, l); !reflect.DeepEqual(got, c.want) {
			t.Errorf("shut are %v: %v, want %v", c.shut, got, c.want)
		}
	}
}

// drawList is lines, of which one in so many isn't open.
func drawList(r *rand.Rand, n, oneIn int) []Line {
	l := all(n, isOpen, nil)
	for i := range l {
		if r.Intn(oneIn) == 0 {
			l[i] = fourLines[1+r.Intn(3)]
		}
	}
	return l
}

func TestDrawnLists(t *testing.T) { // P24.2, P24.3: drawn lists, as in the chapter told a second time
	r := rand.New(rand.NewSource(24))
	loops, whole, parted := 0, 0, 0
	for k := range 3000 {
		n := 3 + r.Intn(60)
		if k%20 == 0 {
			n = 200 + r.Intn(400)
		}
		l := drawList(r, n, []int{1, 2, 3, 10, n, 10 * n}[r.Intn(6)])
		parts := holds(t, l)
		if k%4 == 0 && n < 100 {
			goes(t, l)
		}
		switch {
		case Loops(l):
			loops++
		case len(parts) == 1:
			whole++
		default:
			parted++
		}
	}
	if loops < 100 || whole < 100 || parted < 1000 {
		t.Errorf("%d loop, %d are whole, %d are not", loops, whole, parted)
	}
}

func TestListsEnd(t *testing.T) { // R1: lists of any length, nil among them: no call panics, each one ends
	r := rand.New(rand.NewSource(25))
	holds(t, nil)
	for n := range 70 {
		for _, oneIn := range []int{1, 2, 5, 1000} {
			holds(t, drawList(r, n, oneIn))
		}
	}
	for _, n := range []int{1 << 12, 1 << 16, 1<<20 + 1} {
		l := drawList(r, n, 7)
		parts := Parts(l)
		shut := 0
		for _, line := range l {
			if line != isOpen {
				shut++
			}
		}
		if len(parts) != shut || Loops(l) || Whole(l) {
			t.Errorf("%d lines: %d parts, want %d", n, len(parts), shut)
		}
		if open := all(n, isOpen, nil); !Loops(open) || !Whole(open) || len(Parts(open)[0]) != n {
			t.Errorf("%d open lines", n)
		}
	}
}

func TestListStays(t *testing.T) { // R3: neither the list that is handed in nor the room behind its end turns
	r := rand.New(rand.NewSource(26))
	for k := range 400 {
		room := drawList(r, 40, 1+k%5)
		was := slices.Clone(room)
		l := room[5 : 5+r.Intn(30)]
		Loops(l)
		Whole(l)
		Parts(l)
		for i := range l {
			l[i].Open()
		}
		if !slices.Equal(room, was) {
			t.Fatalf("%v, was %v", room, was)
		}
	}
}

func TestPartsMayBeWrittenInto(t *testing.T) { // R3: parts that were answered turn no later answer, and share no memory
	r := rand.New(rand.NewSource(27))
	for k := range 400 {
		l := drawList(r, 3+r.Intn(30), 1+k%6)
		want := hangs(l)
		kept, spoilt := Parts(l), Parts(l)
		for i, part := range spoilt {
			// The room behind a part's end, too.
			part = part[:cap(part)]
			for j := range part {
				part[j] = -1 - i
			}
		}
		for i, part := range spoilt {
			part = part[:cap(part)]
			if slices.ContainsFunc(part, func(n int) bool { return n != -1-i }) {
				t.Fatalf("of %v part %d shares memory: %v", l, i, spoilt)
			}
		}
		clear(spoilt[:cap(spoilt)])
		if again := Parts(l); !reflect.DeepEqual(again, want) || !reflect.DeepEqual(kept, want) {
			t.Fatalf("%v: %v and %v, want %v", l, kept, again, want)
		}
	}
}
