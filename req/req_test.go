package req

import (
	"math"
	"math/rand"
	"slices"
	"testing"

	"carousel/mac"
	"carousel/raps"
)

// ranks are the requests in the chapter's order, each with its number, its word, and whether it is remote.
var ranks = []struct {
	kind   Kind
	number int
	word   string
	remote bool
}{
	{Clear, 0, "clear", false},
	{FS, 1, "fs", false},
	{RemoteFS, 2, "remote-fs", true},
	{SF, 3, "sf", false},
	{ClearSF, 4, "clear-sf", false},
	{RemoteSF, 5, "remote-sf", true},
	{RemoteMS, 6, "remote-ms", true},
	{MS, 7, "ms", false},
	{RestOver, 8, "rest-over", false},
	{RestRuns, 9, "rest-runs", false},
	{BlockOver, 10, "block-over", false},
	{BlockRuns, 11, "block-runs", false},
	{RemoteIdle, 12, "remote-idle", true},
	{RemoteNone, 13, "remote-none", true},
}

// noRequests are numbers that are no request, close by and far off.
func noRequests() []Kind {
	return []Kind{
		None, -1, -2, 15, 16, -13, -14, 17, 32, 64, 255, 256, 257, -255, -256, 1 << 16, 1<<32 + 1, 1<<32 + 13, -1<<32 + 3,
		math.MaxInt32, math.MinInt32, math.MaxInt64, math.MaxInt64 - 1, math.MinInt64, math.MinInt64 + 1,
	}
}

// requests are all requests, the highest first.
func requests() []Kind {
	var out []Kind
	for _, r := range ranks {
		out = append(out, r.kind)
	}
	return out
}

// rank is where a request stands in the chapter's order; -1, if it is none.
func rank(k Kind) int { return slices.Index(requests(), k) }

// everyKind is each request, and what is none.
func everyKind() []Kind { return append(requests(), noRequests()...) }

func TestExample(t *testing.T) { // P12.1, P12.2
	if !FS.Above(RemoteFS) || RemoteFS.Above(FS) {
		t.Fatal("FS is not above RemoteFS")
	}
	if got := Best(SF, MS); got != SF {
		t.Fatalf("Best(SF, MS) = %v", got)
	}
}

func TestNumbers(t *testing.T) { // P12.1: the chapter's numbers; None is the one behind them
	for i, r := range ranks {
		if int(r.kind) != r.number || i != r.number {
			t.Errorf("%s is %d, want %d", r.word, r.kind, r.number)
		}
	}
	if None != 14 || len(ranks) != 14 {
		t.Errorf("None is %d, of %d requests", None, len(ranks))
	}
}

func TestRequests(t *testing.T) { // P12.1: May, Remote and String of each request
	for _, r := range ranks {
		if !r.kind.May() {
			t.Errorf("%s may not be", r.word)
		}
		if r.kind.Remote() != r.remote {
			t.Errorf("%s: Remote() = %v", r.word, r.kind.Remote())
		}
		if r.kind.String() != r.word {
			t.Errorf("%d: String() = %q, want %q", r.number, r.kind.String(), r.word)
		}
	}
}

func TestNoRequests(t *testing.T) { // P12.1: May, Remote and String of what is none, negative and far off, too
	for _, k := range noRequests() {
		if k.May() {
			t.Errorf("%d may be", int(k))
		}
		if k.Remote() {
			t.Errorf("%d is remote", int(k))
		}
		if k.String() != "none" {
			t.Errorf("%d: String() = %q", int(k), k.String())
		}
	}
}

func TestNearby(t *testing.T) { // P12.1: every number from -2 to 16
	for n := -2; n <= 16; n++ {
		k := Kind(n)
		is := n >= 0 && n <= 13
		if k.May() != is {
			t.Errorf("%d: May() = %v", n, k.May())
		}
		word, remote := "none", false
		if is {
			word, remote = ranks[n].word, ranks[n].remote
		}
		if k.String() != word || k.Remote() != remote {
			t.Errorf("%d: %q, remote %v; want %q, %v", n, k.String(), k.Remote(), word, remote)
		}
	}
}

// above says by the chapter's order whether one is higher than the other.
func above(k, l Kind) bool {
	for _, r := range requests() {
		if r == l {
			return false // the other one comes first, or they are one
		}
		if r == k {
			return true
		}
	}
	return false // neither is a request
}

func TestAbove(t *testing.T) { // P12.1: every two from -2 to 16, held against the chapter's order
	for k := Kind(-2); k <= 16; k++ {
		for l := Kind(-2); l <= 16; l++ {
			if got, want := k.Above(l), above(k, l); got != want {
				t.Errorf("%d (%v).Above(%d, %v) = %v", int(k), k, int(l), l, got)
			}
		}
	}
}

func TestAboveFarOff(t *testing.T) { // P12.1: requests are above what is none, which is above nothing
	for _, n := range noRequests() {
		for _, k := range requests() {
			if !k.Above(n) {
				t.Errorf("%v isn't above %d", k, int(n))
			}
			if n.Above(k) {
				t.Errorf("%d is above %v", int(n), k)
			}
		}
		for _, o := range noRequests() {
			if n.Above(o) {
				t.Errorf("%d is above %d", int(n), int(o))
			}
		}
	}
}

func TestOrder(t *testing.T) { // P12.3: none is above itself; of two requests one is above; what is above one that is above a third is above that
	all := everyKind()
	for _, a := range all {
		if a.Above(a) {
			t.Errorf("%d is above itself", int(a))
		}
		for _, b := range all {
			if a.Above(b) && b.Above(a) {
				t.Errorf("%d and %d are above each other", int(a), int(b))
			}
			if one := a.Above(b) || b.Above(a); one != (a != b && (rank(a) >= 0 || rank(b) >= 0)) {
				t.Errorf("of %d and %d one above: %v", int(a), int(b), one)
			}
			for _, c := range all {
				if a.Above(b) && b.Above(c) && !a.Above(c) {
					t.Errorf("%d is above %d, which is above %d", int(a), int(b), int(c))
				}
			}
		}
	}
}

// messages are messages of a kind with every other field set and not set.
func messages(request raps.Kind, block bool) []raps.Msg {
	var out []raps.Msg
	for _, keep := range []bool{false, true} {
		for _, east := range []bool{false, true} {
			for _, node := range []mac.Addr{0, 1, 2, 1<<40 | 5, 1<<48 - 1, 1 << 48, 1<<64 - 1} {
				out = append(out, raps.Msg{Request: request, Block: block, Keep: keep, East: east, Node: node})
			}
		}
	}
	return out
}

func TestOf(t *testing.T) { // P12.2: every kind of message, known or not, whatever its other fields
	for n := range 256 {
		request := raps.Kind(n)
		with, without := None, None
		switch n {
		case 0:
			with, without = RemoteIdle, RemoteNone
		case 7:
			with, without = RemoteMS, RemoteMS
		case 11:
			with, without = RemoteSF, RemoteSF
		case 13:
			with, without = RemoteFS, RemoteFS
		}
		for _, m := range messages(request, true) {
			if got := Of(m); got != with {
				t.Errorf("Of(%+v) = %v, want %v", m, got, with)
			}
		}
		for _, m := range messages(request, false) {
			if got := Of(m); got != without {
				t.Errorf("Of(%+v) = %v, want %v", m, got, without)
			}
		}
	}
}

func TestOfIsRemote(t *testing.T) { // P12.1, P12.2: what a message tells is remote, and each remote request is told by one
	told := map[Kind]bool{}
	for n := range 256 {
		for _, block := range []bool{false, true} {
			k := Of(raps.Msg{Request: raps.Kind(n), Block: block})
			if k != None && !k.Remote() {
				t.Errorf("the kind %d tells %v", n, k)
			}
			told[k] = true
		}
	}
	for _, r := range ranks {
		if told[r.kind] != r.remote {
			t.Errorf("%s: told %v", r.word, told[r.kind])
		}
	}
}

func TestOfOpened(t *testing.T) { // P12.2: of messages that came as bytes
	for _, c := range []struct {
		m    raps.Msg
		want Kind
	}{
		{raps.Msg{Request: raps.FS, Node: 2}, RemoteFS},
		{raps.Msg{Request: raps.SF, Keep: true, Node: 2}, RemoteSF},
		{raps.Msg{Request: raps.MS, East: true, Node: 2}, RemoteMS},
		{raps.Msg{Request: raps.NR, Block: true, Node: 2}, RemoteIdle},
		{raps.Msg{Request: raps.NR, Node: 2}, RemoteNone},
	} {
		s, _ := raps.Close(c.m, 7)
		m, e := raps.Open(s, 7)
		if got := Of(m); got != c.want || e != 0 {
			t.Errorf("Of(%+v) = %v, %v; want %v", m, got, e, c.want)
		}
	}
}

func TestBestOfNothing(t *testing.T) { // P12.2, R4: no list, one without elements
	if got := Best(); got != None {
		t.Errorf("Best() = %v", got)
	}
	if got := Best([]Kind{}...); got != None {
		t.Errorf("Best of an empty list = %v", got)
	}
}

func TestBestOfOne(t *testing.T) { // P12.2: each request alone, and as often as not
	for _, k := range requests() {
		for n := 1; n <= 4; n++ {
			if got := Best(slices.Repeat([]Kind{k}, n)...); got != k {
				t.Errorf("Best of %v %d times = %v", k, n, got)
			}
		}
	}
}

func TestBestOfNone(t *testing.T) { // P12.2: what is no request, alone and several of them: None, not the number that came
	for _, k := range noRequests() {
		if got := Best(k); got != None {
			t.Errorf("Best(%d) = %d", int(k), int(got))
		}
		for _, l := range noRequests() {
			if got := Best(k, l, k); got != None {
				t.Errorf("Best(%d, %d, %d) = %d", int(k), int(l), int(k), int(got))
			}
		}
	}
	if got := Best(noRequests()...); got != None {
		t.Errorf("Best of no requests = %d", int(got))
	}
}

func TestBestOfTwo(t *testing.T) { // P12.2: every two from -2 to 16, in both orders
	for k := Kind(-2); k <= 16; k++ {
		for l := Kind(-2); l <= 16; l++ {
			want := None
			switch {
			case above(k, l):
				want = k
			case rank(l) >= 0:
				want = l
			}
			if got := Best(k, l); got != want {
				t.Errorf("Best(%d, %d) = %v, want %v", int(k), int(l), got, want)
			}
		}
	}
}

func TestBestAmongNone(t *testing.T) { // P12.2: one request among numbers that are none, at every place
	none := noRequests()
	for _, k := range requests() {
		for at := 0; at <= len(none); at++ {
			if got := Best(slices.Insert(slices.Clone(none), at, k)...); got != k {
				t.Errorf("Best with %v at %d = %v", k, at, got)
			}
		}
	}
}

// orders calls f with a list in each of its orders.
func orders(l []Kind, f func([]Kind)) {
	if len(l) == 0 {
		f(nil)
		return
	}
	for i := range l {
		rest := slices.Delete(slices.Clone(l), i, i+1)
		orders(rest, func(behind []Kind) { f(append([]Kind{l[i]}, behind...)) })
	}
}

func TestBestInEveryOrder(t *testing.T) { // P12.2: the same of a list in each order
	for _, c := range []struct {
		list []Kind
		want Kind
	}{
		{[]Kind{Clear, FS, RemoteFS, SF, ClearSF}, Clear},
		{[]Kind{RemoteSF, RemoteMS, MS, RestOver, RestRuns}, RemoteSF},
		{[]Kind{BlockOver, BlockRuns, RemoteIdle, RemoteNone, None}, BlockOver},
		{[]Kind{None, BlockRuns, MS, RestOver, -1}, MS},
		{[]Kind{RemoteNone, 15, -2, math.MinInt64, RemoteNone}, RemoteNone},
		{[]Kind{SF, SF, RemoteFS, RemoteFS, None, RemoteIdle}, RemoteFS},
	} {
		orders(c.list, func(l []Kind) {
			if got := Best(l...); got != c.want {
				t.Errorf("Best(%v) = %v, want %v", l, got, c.want)
			}
		})
	}
}

func TestBestOfMany(t *testing.T) { // P12.2, P12.3: it is one of those that were handed in, and above all others
	from := rand.New(rand.NewSource(12))
	all := everyKind()
	for range 20000 {
		l := make([]Kind, from.Intn(12))
		some := all[:1+from.Intn(len(all))]
		for i := range l {
			l[i] = some[from.Intn(len(some))]
		}
		best := Best(l...)
		if best == None {
			if slices.ContainsFunc(l, func(k Kind) bool { return rank(k) >= 0 }) {
				t.Fatalf("Best(%v) = none", l)
			}
			continue
		}
		if !slices.Contains(l, best) || rank(best) < 0 {
			t.Fatalf("Best(%v) = %v, which isn't among them", l, best)
		}
		for _, k := range l {
			if k.Above(best) || k != best && !best.Above(k) {
				t.Fatalf("Best(%v) = %v, which isn't above %v", l, best, k)
			}
		}
	}
}

func TestBestLeavesTheList(t *testing.T) { // R3: the list, with the room behind its end, is as it was
	from := rand.New(rand.NewSource(3))
	all := everyKind()
	from.Shuffle(len(all), func(i, j int) { all[i], all[j] = all[j], all[i] })
	before := slices.Clone(all)
	for n := range len(all) + 1 {
		Best(all[:n]...)
		if !slices.Equal(all, before) {
			t.Fatalf("Best of the first %d changed them: %v, was %v", n, all, before)
		}
	}
}

func TestNothingIsKept(t *testing.T) { // R5: the same calls have the same answers, whatever was asked between
	for _, k := range everyKind() {
		may, remote, word := k.May(), k.Remote(), k.String()
		for _, l := range everyKind() {
			over, best := k.Above(l), Best(k, l)
			l.Above(k)
			Best(everyKind()...)
			if k.Above(l) != over || Best(k, l) != best {
				t.Fatalf("of %d and %d the answer changed", int(k), int(l))
			}
		}
		if k.May() != may || k.Remote() != remote || k.String() != word {
			t.Fatalf("of %d the answer changed", int(k))
		}
	}
}

func TestAnything(t *testing.T) { // R1: whatever is handed in, every call ends, and none panics
	from := rand.New(rand.NewSource(1))
	for range 20000 {
		k, l := Kind(from.Uint64()>>from.Intn(64)), Kind(from.Uint64()>>from.Intn(64))
		if from.Intn(2) == 0 {
			k = -k
		}
		k.May()
		k.Remote()
		_ = k.String()
		k.Above(l)
		Best(k, l, k)
		Of(raps.Msg{Request: raps.Kind(from.Uint32()), Block: from.Intn(2) == 0, Node: mac.Addr(from.Uint64())})
	}
}
