package event

import (
	"math/rand"
	"slices"
	"strings"
	"testing"

	"carousel/api"
)

const (
	maxBytes  = 1600
	maxEvents = 10000
)

// The lengths that Bytes may have, and the edges of what they stand as.
var sizes = []int{0, 1, 2, 255, 256, 257, 1599, maxBytes}

// raw is an event's bytes, byte by byte: another way than the package's, to hold it against.
func raw(v Event) string {
	n := len(v.Bytes)
	return string([]byte{byte(v.Kind), v.A, v.B, v.C, byte(n / 256), byte(n % 256)}) + v.Bytes
}

func rawAll(l []Event) string {
	var b strings.Builder
	for _, v := range l {
		b.WriteString(raw(v))
	}
	return b.String()
}

// opened is what Open should answer, as the chapter tells it.
func opened(s string) ([]Event, api.Errno) {
	var l []Event
	for at := 0; at < len(s); {
		if len(l) == maxEvents {
			return nil, api.ErrFull
		}
		if at+6 > len(s) {
			return nil, api.ErrShort
		}
		end := at + 6 + int(s[at+4])*256 + int(s[at+5])
		if end > len(s) {
			return nil, api.ErrShort
		}
		if s[at] >= 8 {
			return nil, api.ErrName
		}
		if end-at > 6+maxBytes {
			return nil, api.ErrLong
		}
		l = append(l, Event{Kind(s[at]), s[at+1], s[at+2], s[at+3], s[at+6 : end]})
		at = end
	}
	return l, api.OK
}

// opens holds Open to the chapter.
func opens(t *testing.T, s string) {
	t.Helper()
	want, wantE := opened(s)
	l, e := Open(s)
	if e != wantE || !slices.Equal(l, want) {
		t.Fatalf("Open of %d bytes %.60q = %d events, %v, want %d, %v", len(s), s, len(l), e, len(want), wantE)
	}
	if e != api.OK {
		return
	}
	if back, e := Close(l...); back != s || e != api.OK {
		t.Fatalf("Close of what was opened of %d bytes %.60q = %d bytes, %v", len(s), s, len(back), e)
	}
}

// closes holds Close to the bytes of events that aren't wrong, and Open to answering them as they were.
func closes(t *testing.T, l ...Event) {
	t.Helper()
	s, e := Close(l...)
	if want := rawAll(l); s != want || e != api.OK {
		t.Fatalf("Close of %d events = %d bytes %.60q, %v, want %d bytes %.60q", len(l), len(s), s, e, len(want), want)
	}
	back, e := Open(s)
	if e != api.OK || !slices.Equal(back, l) {
		t.Fatalf("Open of what was closed of %d events = %d events, %v", len(l), len(back), e)
	}
}

// closesNot holds Close to an error, and no text beside it.
func closesNot(t *testing.T, want api.Errno, l ...Event) {
	t.Helper()
	if s, e := Close(l...); s != "" || e != want {
		t.Fatalf("Close of %d events = %d bytes, %v, want %v", len(l), len(s), e, want)
	}
}

// opensNot holds Open to an error, and no events beside it.
func opensNot(t *testing.T, want api.Errno, s string) {
	t.Helper()
	if l, e := Open(s); len(l) != 0 || e != want {
		t.Fatalf("Open of %d bytes %.60q = %d events, %v, want %v", len(s), s, len(l), e, want)
	}
	if _, e := opened(s); e != want {
		t.Fatalf("the test's own: %d bytes %.60q: %v, want %v", len(s), s, e, want)
	}
}

// everyByte is so many bytes, with all values among them where there is room, the highest first.
func everyByte(n int) string {
	out := make([]byte, n)
	for i := range out {
		out[i] = byte(255 - i%256)
	}
	return string(out)
}

// some is so many events, no two of those that are neighbours alike.
func some(n int) []Event {
	var l []Event
	for i := range n {
		l = append(l, Event{Kind(i % 8), uint8(i), uint8(i / 7), uint8(i / 256), everyByte(i % 3)})
	}
	return l
}

// drawn is an event that isn't wrong.
func drawn(r *rand.Rand) Event {
	n := r.Intn(12)
	if r.Intn(10) == 0 {
		n = sizes[r.Intn(len(sizes))]
	}
	body := make([]byte, n)
	r.Read(body)
	return Event{Kind(r.Intn(8)), uint8(r.Intn(256)), uint8(r.Intn(256)), uint8(r.Intn(256)), string(body)}
}

func drawnAll(r *rand.Rand, n int) []Event {
	var l []Event
	for range n {
		l = append(l, drawn(r))
	}
	return l
}

func TestExample(t *testing.T) { // the chapter's example
	closes(t, Event{Kind: Tick})
	if s, e := Close(Event{Kind: Tick}); s != "\x00\x00\x00\x00\x00\x00" || e != api.OK {
		t.Errorf("Close of a Tick = %q, %v", s, e)
	}
	closes(t, Event{})
}

func TestString(t *testing.T) { // P22.1: the word of each Kind, and none of all others
	words := []string{"tick", "deliver", "drop", "down", "up", "order", "host", "flow"}
	for k, want := range words {
		if s := Kind(k).String(); s != want {
			t.Errorf("Kind(%d).String() = %q, want %q", k, s, want)
		}
	}
	for k := len(words); k <= 255; k++ {
		if s := Kind(k).String(); s != "none" {
			t.Errorf("Kind(%d).String() = %q, want none", k, s)
		}
	}
	if Tick != 0 || Deliver != 1 || Drop != 2 || Down != 3 || Up != 4 || Order != 5 || Host != 6 || Flow != 7 {
		t.Error("a Kind has another number")
	}
}

func TestCloseNone(t *testing.T) { // P22.1, R4
	for _, l := range [][]Event{nil, {}} {
		if s, e := Close(l...); s != "" || e != api.OK {
			t.Errorf("Close of none = %q, %v", s, e)
		}
	}
	if l, e := Open(""); len(l) != 0 || e != api.OK {
		t.Errorf("Open of none = %d events, %v", len(l), e)
	}
}

func TestCloseBytes(t *testing.T) { // P22.1: which byte stands where
	cases := []struct {
		event Event
		want  string
	}{
		{Event{Deliver, 2, 3, 4, ""}, "\x01\x02\x03\x04\x00\x00"},
		{Event{Flow, 255, 0, 0, ""}, "\x07\xff\x00\x00\x00\x00"},
		{Event{Flow, 0, 255, 0, ""}, "\x07\x00\xff\x00\x00\x00"},
		{Event{Flow, 0, 0, 255, ""}, "\x07\x00\x00\xff\x00\x00"},
		{Event{Host, 9, 0, 0, "abc"}, "\x06\x09\x00\x00\x00\x03abc"},
		{Event{Host, 0, 0, 0, everyByte(0x102)}, "\x06\x00\x00\x00\x01\x02" + everyByte(0x102)},
		{Event{Host, 0, 0, 0, everyByte(maxBytes)}, "\x06\x00\x00\x00\x06\x40" + everyByte(maxBytes)},
	}
	for _, c := range cases {
		if s, e := Close(c.event); s != c.want || e != api.OK {
			t.Errorf("Close(%.60v) = %.60q, %v, want %.60q", c.event, s, e, c.want)
		}
		if l, e := Open(c.want); e != api.OK || len(l) != 1 || l[0] != c.event {
			t.Errorf("Open(%.60q) = %.60v, %v, want %.60v", c.want, l, e, c.event)
		}
	}
	s, e := Close(Event{Kind: Order, A: 1, B: 2, C: 3}, Event{Kind: Host, Bytes: "hi"}, Event{Kind: Up, A: 4})
	if want := "\x05\x01\x02\x03\x00\x00\x06\x00\x00\x00\x00\x02hi\x04\x04\x00\x00\x00\x00"; s != want || e != api.OK {
		t.Errorf("Close of three = %q, %v, want %q", s, e, want)
	}
}

func TestEach(t *testing.T) { // P22.1, P22.2: each Kind, with each size, at the edges of A, B and C
	edges := []uint8{0, 1, 127, 128, 255}
	var all []Event
	for k := Tick; k <= Flow; k++ {
		for _, n := range sizes {
			for _, x := range edges {
				all = append(all, Event{k, x, 0, 255, everyByte(n)}, Event{k, 255, x, 0, everyByte(n)}, Event{k, 0, 255, x, everyByte(n)})
			}
		}
	}
	for _, v := range all {
		closes(t, v)
	}
	closes(t, all...)
	slices.Reverse(all)
	closes(t, all...)
}

func TestEveryBytes(t *testing.T) { // P22.1, P22.2: Bytes of each length
	for n := range maxBytes + 1 {
		closes(t, Event{Kind: Host, Bytes: everyByte(n)}, Event{Kind: Tick, A: 1})
	}
	for n := maxBytes + 1; n < 2*maxBytes; n++ {
		v := Event{Kind: Host, Bytes: everyByte(n)}
		closesNot(t, api.ErrLong, v)
		opensNot(t, api.ErrLong, raw(v))
	}
}

func TestCloseWrong(t *testing.T) { // P22.1: ErrName ahead of ErrLong, the first event ahead of the second
	long, right := everyByte(maxBytes+1), Event{Kind: Host, Bytes: "ab"}
	for k := 8; k <= 255; k++ {
		v := Event{Kind: Kind(k)}
		closesNot(t, api.ErrName, v)
		closesNot(t, api.ErrName, right, v, right)
		v.Bytes = long
		closesNot(t, api.ErrName, v)
	}
	for _, n := range []int{maxBytes + 1, maxBytes + 2, 65535, 65536, 65537, 65536 + 5, 1 << 20} {
		for k := Tick; k <= Flow; k++ {
			closesNot(t, api.ErrLong, Event{Kind: k, Bytes: strings.Repeat("z", n)})
		}
	}
	noName, tooLong := Event{Kind: 8}, Event{Kind: Host, Bytes: long}
	closesNot(t, api.ErrName, noName, tooLong)
	closesNot(t, api.ErrLong, tooLong, noName)
	closesNot(t, api.ErrName, right, right, noName, tooLong)
	closesNot(t, api.ErrLong, right, right, tooLong, noName)
}

func TestCloseFull(t *testing.T) { // P22.1: ErrFull at last
	for _, n := range []int{maxEvents - 1, maxEvents} {
		closes(t, some(n)...)
	}
	for _, n := range []int{maxEvents + 1, maxEvents + 2, 2 * maxEvents} {
		l := some(n)
		closesNot(t, api.ErrFull, l...)
		for _, at := range []int{0, n / 2, maxEvents - 1, maxEvents, n - 1} {
			was := l[at]
			l[at].Kind = 8
			closesNot(t, api.ErrName, l...)
			l[at] = Event{Kind: Host, Bytes: everyByte(maxBytes + 1)}
			closesNot(t, api.ErrLong, l...)
			l[at] = was
		}
	}
}

func TestOpenShort(t *testing.T) { // P22.1: bytes that are cut off at each place
	for _, l := range [][]Event{
		{{Kind: Tick}},
		{{Kind: Order, A: 1, B: 2, C: 3}, {Kind: Host, A: 4, Bytes: everyByte(300)}, {Kind: Flow}},
		{{Kind: Host, Bytes: everyByte(maxBytes)}, {Kind: Host, Bytes: "hi"}},
		some(20),
	} {
		s := rawAll(l)
		// Where an event ends, nothing is wanting.
		ends := map[int]int{0: 0}
		for i := range l {
			ends[len(rawAll(l[:i+1]))] = i + 1
		}
		for n := range len(s) {
			opens(t, s[:n])
			whole, ok := ends[n]
			if !ok {
				opensNot(t, api.ErrShort, s[:n])
				continue
			}
			if back, e := Open(s[:n]); e != api.OK || !slices.Equal(back, l[:whole]) {
				t.Fatalf("Open of %d bytes = %d events, %v, want %d", n, len(back), e, whole)
			}
		}
	}
}

func TestOpenWrong(t *testing.T) { // P22.1: ErrShort, then ErrName, then ErrLong
	long := everyByte(maxBytes + 1)
	cases := []struct {
		text string
		want api.Errno
	}{
		{"\x08\x00\x00\x00\x00\x00", api.ErrName},
		{"\xff\x00\x00\x00\x00\x00", api.ErrName},
		{"\x08\x00\x00\x00\x00\x02ab", api.ErrName},
		{"\x08\x00\x00\x00\x06\x41" + long, api.ErrName},
		{"\x00\x00\x00\x00\x06\x41" + long, api.ErrLong},
		{"\x07\x00\x00\x00\x06\x41" + long, api.ErrLong},
		{"\x07\x00\x00\x00\xff\xff" + everyByte(65535), api.ErrLong},
		{"\xff\x00\x00\x00\xff\xff" + everyByte(65535), api.ErrName},
		// Bytes are wanting, and more is wrong: it is told that they are wanting.
		{"\x08", api.ErrShort},
		{"\x08\x00\x00\x00\x00", api.ErrShort},
		{"\x08\x00\x00\x00\x00\x01", api.ErrShort},
		{"\xff\x00\x00\x00\xff\xff" + everyByte(65534), api.ErrShort},
		{"\x00\x00\x00\x00\x06\x41" + long[1:], api.ErrShort},
		{"\x07\x00\x00\x00\xff\xff", api.ErrShort},
	}
	right := raw(Event{Kind: Host, A: 3, Bytes: "xyz"})
	for _, c := range cases {
		opensNot(t, c.want, c.text)
		opensNot(t, c.want, right+right+c.text)
	}
	for k := 8; k <= 255; k++ {
		opensNot(t, api.ErrName, right+string([]byte{byte(k), 0, 0, 0, 0, 0})+right)
	}
	// A fault of the first event is told ahead of any of a second one, of those behind which one may stand.
	for _, c := range cases[:8] {
		for _, d := range cases {
			opensNot(t, c.want, c.text+d.text)
		}
	}
}

func TestOpenFull(t *testing.T) { // P22.1: told at the 10001st, ahead of what is wrong with it
	for _, n := range []int{maxEvents - 1, maxEvents} {
		opens(t, rawAll(some(n)))
		if l, e := Open(strings.Repeat("\x00", 6*n)); e != api.OK || len(l) != n {
			t.Fatalf("Open of %d events = %d events, %v", n, len(l), e)
		}
	}
	most := rawAll(some(maxEvents))
	behind := []string{
		"\x00", "\x08", "\x00\x00\x00\x00\x00", "\x00\x00\x00\x00\x00\x01",
		"\x00\x00\x00\x00\x00\x00", "\x08\x00\x00\x00\x00\x00", "\xff\x00\x00\x00\x00\x02ab",
		raw(Event{Kind: Host, Bytes: everyByte(maxBytes + 1)}), most,
	}
	for _, s := range behind {
		opensNot(t, api.ErrFull, most+s)
	}
	// One event less: what stands there is told.
	fewer := rawAll(some(maxEvents - 1))
	for _, s := range behind[:8] {
		opens(t, fewer+s)
		opensNot(t, api.ErrFull, fewer+raw(Event{Kind: Tick})+s)
	}
	opensNot(t, api.ErrName, fewer+"\x08\x00\x00\x00\x00\x00"+most)
	opensNot(t, api.ErrLong, fewer+raw(Event{Kind: Host, Bytes: everyByte(maxBytes + 1)})+most)
	opensNot(t, api.ErrName, "\x08\x00\x00\x00\x00\x00"+most+"\x00")
}

func TestBothWays(t *testing.T) { // P22.2
	r := rand.New(rand.NewSource(22))
	for range 3000 {
		l := drawnAll(r, r.Intn(9))
		closes(t, l...)
		opens(t, rawAll(l))
	}
	for range 20 {
		closes(t, drawnAll(r, 500+r.Intn(1000))...)
	}
}

func TestWhateverComes(t *testing.T) { // P22.1, P22.2, R1: drawn texts, of any bytes and of low ones
	r := rand.New(rand.NewSource(23))
	for i := range 60000 {
		s := make([]byte, r.Intn(40))
		if i%1000 == 0 {
			s = make([]byte, r.Intn(80000))
		}
		// Below 2 most events are there whole, below 9 some; below 256 next to none.
		below := []int{2, 9, 256}[i%3]
		for at := range s {
			s[at] = byte(r.Intn(below))
		}
		opens(t, string(s))
	}
}

func TestNearlyRight(t *testing.T) { // P22.1, P22.2, R1: right bytes of which one is turned, put in, or left out
	r := rand.New(rand.NewSource(24))
	for i := range 30000 {
		s := []byte(rawAll(drawnAll(r, 1+r.Intn(6))))
		at := r.Intn(len(s))
		switch i % 4 {
		case 0:
			s[at] ^= 1 << r.Intn(8)
		case 1:
			s[at] = byte(r.Intn(256))
		case 2:
			s = slices.Insert(s, at, byte(r.Intn(256)))
		case 3:
			s = slices.Delete(s, at, at+1)
		}
		opens(t, string(s))
	}
}

func TestOwnMemory(t *testing.T) { // R3: what is handed in stays as it was; what is answered may be written into
	l := some(40)
	was := slices.Clone(l)
	s, e := Close(l[:20]...)
	if e != api.OK || !slices.Equal(l, was) {
		t.Fatalf("Close wrote into its events: %v", e)
	}
	first, _ := Open(s)
	second, _ := Open(s)
	for i := range first {
		first[i] = Event{Kind: 200, A: 1, Bytes: "other"}
	}
	_ = append(first, Event{Kind: 201})
	if third, _ := Open(s); !slices.Equal(second, was[:20]) || !slices.Equal(third, was[:20]) {
		t.Error("what was written into one answer is in another one")
	}
	for i := range l {
		l[i] = Event{Kind: 200}
	}
	if s != rawAll(was[:20]) {
		t.Error("what was written into the events is in their bytes")
	}
}
