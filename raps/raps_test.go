package raps

import (
	"encoding/binary"
	"math"
	"math/rand"
	"strings"
	"testing"

	"carousel/api"
	"carousel/mac"
)

const (
	size            = 37
	noAddr mac.Addr = 1 << 48
	aGroup mac.Addr = 0x0119a7000001
)

// kinds are the four that a message may have.
var kinds = []Kind{NR, MS, SF, FS}

// behinds is what may stand behind a message's end.
var behinds = []string{"", "\x00", "\x01", "\xff", "\x00\x00\x00", "zzz", "\xe1\x28\x00\x20", strings.Repeat("\xff", 1600)}

// plain is a message of which nothing is wrong.
func plain() Msg { return Msg{Request: SF, East: true, Node: 0x020000000003} }

func isKind(n uint8) bool { return n == 0 || n == 7 || n == 11 || n == 13 }

// bytesOf writes a message's bytes by shifts, right or wrong: another way than the package's, to hold it against.
func bytesOf(m Msg, level uint8) string {
	yes := byte(0)
	if m.Block {
		yes |= 0x80
	}
	if m.Keep {
		yes |= 0x40
	}
	if m.East {
		yes |= 0x20
	}
	b := []byte{level<<5 | 1, 0x28, 0, 0x20, byte(m.Request) << 4, yes}
	b = append(b, binary.BigEndian.AppendUint64(nil, uint64(m.Node))[2:]...)
	return string(b) + strings.Repeat("\x00", 25)
}

// with is s with another byte at a place.
func with(s string, at int, c byte) string { return s[:at] + string([]byte{c}) + s[at+1:] }

func closes(t *testing.T, m Msg, level uint8, want string) {
	t.Helper()
	if s, e := Close(m, level); s != want || e != api.OK {
		t.Errorf("Close(%+v, %d) = %q, %v, want %q", m, level, s, e, want)
	}
}

func closesNot(t *testing.T, m Msg, level uint8, want api.Errno) {
	t.Helper()
	if s, e := Close(m, level); s != "" || e != want {
		t.Errorf("Close(%+v, %d) = %q, %v, want %v", m, level, s, e, want)
	}
}

func opens(t *testing.T, s string, level uint8, want Msg) {
	t.Helper()
	if m, e := Open(s, level); m != want || e != api.OK {
		t.Errorf("Open(%q, %d) = %+v, %v, want %+v", s, level, m, e, want)
	}
}

func opensNot(t *testing.T, s string, level uint8, want api.Errno) {
	t.Helper()
	if m, e := Open(s, level); m != (Msg{}) || e != want {
		t.Errorf("Open(%q, %d) = %+v, %v, want %v", s, level, m, e, want)
	}
}

func TestKnown(t *testing.T) { // P5.1
	end := strings.Repeat("\x00", 25)
	known := []struct {
		msg   Msg
		level uint8
		bytes string
	}{
		{Msg{}, 0, "\x01\x28\x00\x20\x00\x00\x00\x00\x00\x00\x00\x00" + end},
		{Msg{Request: NR, Block: true, Node: 2}, 7, "\xe1\x28\x00\x20\x00\x80\x00\x00\x00\x00\x00\x02" + end},
		{Msg{Request: SF, Keep: true, East: true, Node: 5}, 2, "\x41\x28\x00\x20\xb0\x60\x00\x00\x00\x00\x00\x05" + end},
		{Msg{Request: MS, East: true, Node: 0x0a0b0c0d0e0f}, 1, "\x21\x28\x00\x20\x70\x20\x0a\x0b\x0c\x0d\x0e\x0f" + end},
		{Msg{Request: FS, Keep: true, Node: 0xfeffffffffff}, 5, "\xa1\x28\x00\x20\xd0\x40\xfe\xff\xff\xff\xff\xff" + end},
		{Msg{Request: NR, Block: true, Keep: true, East: true}, 4, "\x81\x28\x00\x20\x00\xe0\x00\x00\x00\x00\x00\x00" + end},
	}
	for _, k := range known {
		if len(k.bytes) != size {
			t.Fatalf("%d bytes", len(k.bytes))
		}
		closes(t, k.msg, k.level, k.bytes)
		opens(t, k.bytes, k.level, k.msg)
	}
}

func TestKindNumbers(t *testing.T) { // P5.1
	if NR != 0 || MS != 7 || SF != 11 || FS != 13 {
		t.Error(NR, MS, SF, FS)
	}
}

func TestEveryLevel(t *testing.T) { // P5.1: level 7 and 8, and all others
	for level := range 256 {
		l := uint8(level)
		for _, kind := range kinds {
			m := plain()
			m.Request = kind
			if level > 7 {
				closesNot(t, m, l, api.ErrRange)
			} else {
				closes(t, m, l, bytesOf(m, l))
			}
			for has := range uint8(8) {
				s := bytesOf(m, has)
				if has == l {
					opens(t, s, l, m)
				} else {
					opensNot(t, s, l, api.ErrLevel)
				}
			}
		}
	}
}

func TestEveryRequest(t *testing.T) { // P5.1: each Request with each of the yes or no, so Block with and without NR
	for n := range 256 {
		for bits := range 1 << 3 {
			m := Msg{Request: Kind(n), Block: bits&4 != 0, Keep: bits&2 != 0, East: bits&1 != 0, Node: 9}
			want := api.OK
			switch {
			case !isKind(uint8(n)):
				want = api.ErrCode
			case m.Block && m.Request != NR:
				want = api.ErrForm
			}
			if want == api.OK {
				closes(t, m, 3, bytesOf(m, 3))
				opens(t, bytesOf(m, 3), 3, m)
				continue
			}
			closesNot(t, m, 3, want)
			if n < 16 {
				opensNot(t, bytesOf(m, 3), 3, want)
			}
		}
	}
}

func TestNodes(t *testing.T) { // P5.1: each bit of a Node, a group's, and what is no address
	for _, kind := range kinds {
		may := func(a mac.Addr) {
			t.Helper()
			m := Msg{Request: kind, Node: a}
			closes(t, m, 6, bytesOf(m, 6))
			opens(t, bytesOf(m, 6), 6, m)
		}
		for i := range 48 {
			if i != 40 {
				may(1 << i)
			}
		}
		may(0)
		may(mac.All &^ (1 << 40))
		for _, a := range []mac.Addr{1 << 40, aGroup, mac.All, 0xff0000000000} {
			m := Msg{Request: kind, Node: a}
			closesNot(t, m, 6, api.ErrRange)
			opensNot(t, bytesOf(m, 6), 6, api.ErrRange)
		}
		for _, a := range []mac.Addr{noAddr, noAddr + 1, noAddr | 1<<40, 1 << 56, 1 << 63, math.MaxUint64} {
			closesNot(t, Msg{Request: kind, Node: a}, 6, api.ErrRange)
		}
	}
}

func TestEveryBit(t *testing.T) { // P5.1, P5.2: each bit of a message turned alone
	for _, kind := range kinds {
		m := plain()
		m.Request = kind
		s := bytesOf(m, 5)
		for at := range size {
			for bit := range 8 {
				turned := with(s, at, s[at]^1<<bit)
				other, want := m, api.OK
				switch {
				case at == 0 && bit >= 5:
					want = api.ErrLevel
				case at == 0:
					want = api.ErrForm // the version
				case at == 1:
					want = api.ErrCode
				case at == 2:
					want = api.ErrForm // the flags
				case at == 3 && bit < 5:
					want = api.ErrShort // a longer content
				case at == 3:
					want = offsetError(turned)
				case at == 4 && bit < 4:
					want = api.ErrForm
				case at == 4:
					other.Request = Kind(turned[4] >> 4)
					if !isKind(turned[4] >> 4) {
						want = api.ErrCode
					}
				case at == 5 && bit < 5:
					want = api.ErrForm
				case at == 5 && bit == 5:
					other.East = false
				case at == 5 && bit == 6:
					other.Keep = true
				case at == 5:
					other.Block = true
					if kind != NR {
						want = api.ErrForm
					}
				case at == 6 && bit == 0:
					want = api.ErrRange
				case at < 12:
					other.Node ^= 1 << (8*(11-at) + bit)
				default:
					want = api.ErrForm
				}
				if want == api.OK {
					opens(t, turned, 5, other)
				} else {
					opensNot(t, turned, 5, want)
				}
			}
		}
	}
}

// offsetError is what is wrong with a message whose offset alone isn't its own: too few bytes, or another content.
func offsetError(s string) api.Errno {
	if len(s) < 5+int(s[3]) {
		return api.ErrShort
	}
	return api.ErrForm
}

func TestNoughts(t *testing.T) { // P5.1: each byte of what should be 0, of any value
	for _, kind := range kinds {
		m := plain()
		m.Request = kind
		s := bytesOf(m, 0)
		for c := 1; c < 256; c++ {
			opensNot(t, with(s, 2, byte(c)), 0, api.ErrForm)
			for at := 12; at < size; at++ {
				opensNot(t, with(s, at, byte(c)), 0, api.ErrForm)
			}
		}
		for low := 1; low < 16; low++ {
			opensNot(t, with(s, 4, s[4]|byte(low)), 0, api.ErrForm)
		}
		for low := 1; low < 32; low++ {
			opensNot(t, with(s, 5, s[5]|byte(low)), 0, api.ErrForm)
		}
	}
}

func TestShort(t *testing.T) { // P5.1: any bytes fewer than a message has
	for _, kind := range kinds {
		m := plain()
		m.Request = kind
		s := bytesOf(m, 7)
		for n := range size {
			opensNot(t, s[:n], 7, api.ErrShort)
			// What is short is told ahead of the level.
			opensNot(t, s[:n], 6, api.ErrShort)
		}
	}
	opensNot(t, "", 0, api.ErrShort)
	opensNot(t, "", 255, api.ErrShort)
}

func TestHead(t *testing.T) { // P5.1: another level, version, code and offset, alone and together
	for bits := range 1 << 4 {
		level, version, code, offset := byte(5), byte(1), byte(40), 32
		want := api.OK
		if bits&1 != 0 {
			offset, want = 33, api.ErrForm
		}
		if bits&2 != 0 {
			code, want = 1, api.ErrCode
		}
		if bits&4 != 0 {
			version, want = 0, api.ErrForm
		}
		if bits&8 != 0 {
			level, want = 4, api.ErrLevel
		}
		s := string([]byte{level<<5 | version, code, 0, byte(offset)}) + strings.Repeat("\x00", offset+1)
		if want == api.OK {
			opens(t, s, 5, Msg{})
		} else {
			opensNot(t, s, 5, want)
		}
		// The message's own errors, with layer 4's ahead of all.
		opensNot(t, with(s, len(s)-1, 1), 5, api.ErrForm)
		opensNot(t, s[:len(s)-1], 5, api.ErrShort)
	}
	for offset := range 256 {
		s := string([]byte{5<<5 | 1, 40, 0, byte(offset)}) + strings.Repeat("\x00", offset+1)
		if offset == 32 {
			opens(t, s, 5, Msg{})
		} else {
			opensNot(t, s, 5, api.ErrForm)
		}
	}
	for n := range 256 {
		s := bytesOf(plain(), 5)
		if n != 40 {
			opensNot(t, with(s, 1, byte(n)), 5, api.ErrCode)
		}
		if n < 32 && n != 1 {
			opensNot(t, with(s, 0, 5<<5|byte(n)), 5, api.ErrForm)
		}
	}
}

func TestFirstErrorOfOpen(t *testing.T) { // P5.1, R2: all that may be wrong with bytes, together
	for bits := range 1 << 9 {
		has := func(i int) bool { return bits>>i&1 == 1 }
		b, want := []byte(bytesOf(plain(), 5)), api.OK
		if has(0) {
			b[6], want = 1, api.ErrRange
		}
		if has(1) {
			b[5], want = b[5]|0x80, api.ErrForm
		}
		if has(2) {
			b[4], want = 0x10, api.ErrCode
		}
		if has(3) {
			b[5+bits%2*20], want = b[5+bits%2*20]|1, api.ErrForm
		}
		if has(4) {
			b[2], want = 1, api.ErrForm
		}
		if has(5) {
			b[1], want = 41, api.ErrCode
		}
		if has(6) {
			b[0], want = b[0]&^31, api.ErrForm
		}
		if has(7) {
			b[0], want = b[0]|0x40, api.ErrLevel
		}
		if has(8) {
			b[size-1], want = 1, api.ErrForm
		}
		if want == api.OK {
			opens(t, string(b), 5, plain())
		} else {
			opensNot(t, string(b), 5, want)
		}
		opensNot(t, string(b[:size-1]), 5, api.ErrShort)
	}
}

func TestFirstErrorOfClose(t *testing.T) { // P5.1, R2: all that may be wrong with a message, together
	for _, node := range []mac.Addr{aGroup, noAddr} {
		for bits := range 1 << 4 {
			m, level, want := plain(), uint8(7), api.OK
			if bits&1 != 0 {
				m.Node, want = node, api.ErrRange
			}
			if bits&2 != 0 {
				m.Block, want = true, api.ErrForm
			}
			if bits&4 != 0 {
				m.Request, want = 14, api.ErrCode
			}
			if bits&8 != 0 {
				level, want = 8, api.ErrRange
			}
			if want == api.OK {
				closes(t, m, level, bytesOf(m, level))
			} else {
				closesNot(t, m, level, want)
			}
		}
	}
}

// someMsg makes a message of which nothing is wrong.
func someMsg(r *rand.Rand) Msg {
	m := Msg{
		Request: kinds[r.Intn(len(kinds))],
		Keep:    r.Intn(2) == 1,
		East:    r.Intn(2) == 1,
		Node:    mac.Addr(r.Uint64()) & mac.All &^ (1 << 40),
	}
	m.Block = m.Request == NR && r.Intn(2) == 1
	return m
}

func TestClosedIsOpened(t *testing.T) { // P5.2: at its level, whatever is behind
	r := rand.New(rand.NewSource(1))
	for range 3000 {
		m := someMsg(r)
		for level := range uint8(8) {
			s, e := Close(m, level)
			if s != bytesOf(m, level) || e != api.OK {
				t.Fatalf("Close(%+v, %d) = %q, %v", m, level, s, e)
			}
			for _, behind := range behinds {
				opens(t, s+behind, level, m)
			}
			opensNot(t, s, (level+1)%8, api.ErrLevel)
		}
	}
}

func TestOpenedIsClosed(t *testing.T) { // P5.2: bytes that are opened are those of just that message
	r := rand.New(rand.NewSource(2))
	met := map[api.Errno]int{}
	for range 60000 {
		b := []byte(bytesOf(someMsg(r), 3))
		for range r.Intn(3) {
			// Mostly ahead of the noughts, of which each is told by the same error.
			at := r.Intn(12)
			if r.Intn(3) == 0 {
				at = 12 + r.Intn(size-12)
			}
			b[at] ^= 1 << r.Intn(8)
		}
		if r.Intn(8) == 0 {
			b = b[:r.Intn(size)]
		}
		m, e := Open(string(b), 3)
		met[e]++
		if e != api.OK {
			opensNot(t, string(b), 3, e)
			continue
		}
		closes(t, m, 3, string(b))
	}
	for _, e := range []api.Errno{api.OK, api.ErrShort, api.ErrForm, api.ErrRange, api.ErrLevel, api.ErrCode} {
		if met[e] < 100 {
			t.Errorf("%v was met only %d times", e, met[e])
		}
	}
}

func TestOpenAnyBytes(t *testing.T) { // R1, R2: whatever the bytes and the level are
	r := rand.New(rand.NewSource(3))
	for range 30000 {
		b := make([]byte, r.Intn(80))
		r.Read(b)
		level := uint8(r.Intn(256))
		if m, e := Open(string(b), level); e == api.OK || m != (Msg{}) {
			t.Fatalf("Open(%q, %d) = %+v, %v", b, level, m, e)
		}
	}
}
