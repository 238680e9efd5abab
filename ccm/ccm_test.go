package ccm

import (
	"encoding/binary"
	"math"
	"math/rand"
	"strings"
	"testing"

	"carousel/api"
)

const (
	size       = 75
	groupAt    = 10
	behindName = 58
)

// behinds is what may stand behind a message's end.
var behinds = []string{"", "\x00", "\x01", "\xff", "\x00\x00\x00", "zzz", "\x20\x01\x83\x46", strings.Repeat("\xff", 1600)}

// fullGroup is a group of which no byte is 0.
var fullGroup = strings.Repeat("\xa5", 47) + "z"

// plain is a message of which nothing is wrong.
func plain() Msg { return Msg{Period: 4, Count: 258, End: 5, Group: fullGroup} }

// bytesOf writes a message's bytes by shifts, right or wrong: another way than the package's, to hold it against.
func bytesOf(m Msg, level uint8) string {
	flags := m.Period
	if m.Lost {
		flags |= 0x80
	}
	b := []byte{level << 5, 1, flags, 70}
	b = binary.BigEndian.AppendUint32(b, m.Count)
	b = binary.BigEndian.AppendUint16(b, m.End)
	return string(b) + m.Group + strings.Repeat("\x00", 17)
}

// with is s with another byte at a place.
func with(s string, at int, c byte) string { return s[:at] + string([]byte{c}) + s[at+1:] }

func closes(t *testing.T, m Msg, level uint8, want string) {
	t.Helper()
	if s, e := Close(m, level); s != want || e != api.OK {
		t.Errorf("Close(%+v, %d) = %q, %v, want %q", m, level, s, e, want)
	}
}

func closesNot(t *testing.T, m Msg, level uint8, want api.Errno) {
	t.Helper()
	if s, e := Close(m, level); s != "" || e != want {
		t.Errorf("Close(%+v, %d) = %q, %v, want %v", m, level, s, e, want)
	}
}

func opens(t *testing.T, s string, level uint8, want Msg) {
	t.Helper()
	if m, e := Open(s, level); m != want || e != api.OK {
		t.Errorf("Open(%q, %d) = %+v, %v, want %+v", s, level, m, e, want)
	}
}

func opensNot(t *testing.T, s string, level uint8, want api.Errno) {
	t.Helper()
	if m, e := Open(s, level); m != (Msg{}) || e != want {
		t.Errorf("Open(%q, %d) = %+v, %v, want %v", s, level, m, e, want)
	}
}

// both holds Close and Open to one message and its bytes.
func both(t *testing.T, m Msg, level uint8) {
	t.Helper()
	closes(t, m, level, bytesOf(m, level))
	opens(t, bytesOf(m, level), level, m)
}

func TestKnown(t *testing.T) { // P6.1
	noughts := strings.Repeat("\x00", 17)
	known := []struct {
		msg   Msg
		level uint8
		bytes string
	}{
		{
			Msg{Lost: true, Period: 4, End: 1, Group: Name("")}, 0,
			"\x00\x01\x84\x46\x00\x00\x00\x00\x00\x01" + strings.Repeat("\x00", 48) + noughts,
		},
		{
			Msg{Lost: true, Period: 3, Count: 258, End: 4, Group: Name("g")}, 1,
			"\x20\x01\x83\x46\x00\x00\x01\x02\x00\x04g" + strings.Repeat("\x00", 47) + noughts,
		},
		{
			Msg{Period: 1, Count: 0x01020304, End: 0x1234, Group: strings.Repeat("x", 48)}, 5,
			"\xa0\x01\x01\x46\x01\x02\x03\x04\x12\x34" + strings.Repeat("x", 48) + noughts,
		},
		{
			Msg{Lost: true, Period: 7, Count: math.MaxUint32, End: 8191, Group: strings.Repeat("\xff", 48)}, 7,
			"\xe0\x01\x87\x46\xff\xff\xff\xff\x1f\xff" + strings.Repeat("\xff", 48) + noughts,
		},
	}
	for _, k := range known {
		if len(k.bytes) != size {
			t.Fatalf("%d bytes", len(k.bytes))
		}
		closes(t, k.msg, k.level, k.bytes)
		opens(t, k.bytes, k.level, k.msg)
	}
}

func TestEveryLevel(t *testing.T) { // P6.1: level 7 and 8, and all others
	for level := range 256 {
		l := uint8(level)
		if level > 7 {
			closesNot(t, plain(), l, api.ErrRange)
		} else {
			both(t, plain(), l)
		}
		for has := range uint8(8) {
			if s := bytesOf(plain(), has); has == l {
				opens(t, s, l, plain())
			} else {
				opensNot(t, s, l, api.ErrLevel)
			}
		}
	}
}

func TestEveryPeriod(t *testing.T) { // P6.1: Period 0, 1, 7 and 8, and all others, with Lost and without
	for period := range 256 {
		for _, lost := range []bool{false, true} {
			m := plain()
			m.Period, m.Lost = uint8(period), lost
			if period >= 1 && period <= 7 {
				both(t, m, 2)
			} else {
				closesNot(t, m, 2, api.ErrRange)
			}
		}
	}
}

func TestEveryFlags(t *testing.T) { // P6.1: the noughts of the flags ahead of the Period
	for flags := range 256 {
		m := plain()
		m.Lost, m.Period = flags >= 128, uint8(flags&7)
		s := with(bytesOf(plain(), 2), 2, byte(flags))
		switch {
		case flags&0x78 != 0:
			opensNot(t, s, 2, api.ErrForm)
		case flags&7 == 0:
			opensNot(t, s, 2, api.ErrRange)
		default:
			opens(t, s, 2, m)
		}
	}
}

func TestEveryEnd(t *testing.T) { // P6.1: End 0, 1, 8191 and 8192, and all others
	for end := range 65536 {
		m := plain()
		m.End = uint16(end)
		switch {
		case end >= 1 && end <= 8191:
			both(t, m, 6)
		case end == 0:
			closesNot(t, m, 6, api.ErrRange)
			opensNot(t, bytesOf(m, 6), 6, api.ErrRange)
		default:
			// As bytes such a number has one of the noughts ahead of End set.
			closesNot(t, m, 6, api.ErrRange)
			opensNot(t, bytesOf(m, 6), 6, api.ErrForm)
		}
	}
}

func TestCounts(t *testing.T) { // P6.1: Count 0 and 2^32 - 1, and each bit
	counts := []uint32{0, math.MaxUint32, math.MaxUint32 - 1, math.MaxInt32}
	for i := range 32 {
		counts = append(counts, 1<<i)
	}
	for _, c := range counts {
		m := plain()
		m.Count = c
		both(t, m, 3)
	}
}

func TestGroups(t *testing.T) { // P6.1: a Group of 47, 48 and 49 bytes, and others
	for n := range 200 {
		m := plain()
		m.Group = strings.Repeat("g", n)
		if n == 48 {
			both(t, m, 4)
		} else {
			closesNot(t, m, 4, api.ErrForm)
		}
	}
	for _, n := range []int{48 + 256, 48 + 65536} {
		m := plain()
		m.Group = strings.Repeat("\x00", n)
		closesNot(t, m, 4, api.ErrForm)
	}
	for _, group := range []string{strings.Repeat("\x00", 48), strings.Repeat("\xff", 48), strings.Repeat("é", 24), "\x00" + fullGroup[1:]} {
		m := plain()
		m.Group = group
		both(t, m, 4)
	}
}

func TestEveryBit(t *testing.T) { // P6.1: each bit of a message turned alone
	for _, m := range []Msg{plain(), {Lost: true, Period: 7, Count: math.MaxUint32, End: 8191, Group: Name("g")}} {
		s := bytesOf(m, 5)
		for at := range size {
			for bit := range 8 {
				turned := with(s, at, s[at]^1<<bit)
				other, want := m, api.OK
				switch {
				case at == 0 && bit >= 5:
					want = api.ErrLevel
				case at == 0:
					want = api.ErrForm // the version
				case at == 1:
					want = api.ErrCode
				case at == 2 && bit == 7:
					other.Lost = !m.Lost
				case at == 2 && bit >= 3:
					want = api.ErrForm
				case at == 2:
					other.Period ^= 1 << bit
					if other.Period == 0 {
						want = api.ErrRange
					}
				case at == 3:
					want = offsetError(turned)
				case at < 8:
					other.Count ^= 1 << (8*(7-at) + bit)
				case at == 8 && bit >= 5:
					want = api.ErrForm
				case at < groupAt:
					other.End ^= 1 << (8*(9-at) + bit)
				case at < behindName:
					other.Group = turned[groupAt:behindName]
				default:
					want = api.ErrForm
				}
				if want == api.OK {
					opens(t, turned, 5, other)
					closes(t, other, 5, turned)
				} else {
					opensNot(t, turned, 5, want)
				}
			}
		}
	}
}

// offsetError is what is wrong with a message whose offset alone isn't its own: too few bytes, or another content.
func offsetError(s string) api.Errno {
	if len(s) < 5+int(s[3]) {
		return api.ErrShort
	}
	return api.ErrForm
}

func TestNoughts(t *testing.T) { // P6.1: each byte behind the Group, of any value
	s := bytesOf(plain(), 0)
	for at := behindName; at < size; at++ {
		for c := 1; c < 256; c++ {
			opensNot(t, with(s, at, byte(c)), 0, api.ErrForm)
		}
	}
}

func TestShort(t *testing.T) { // P6.1: any bytes fewer than a message has
	s := bytesOf(plain(), 7)
	for n := range size {
		opensNot(t, s[:n], 7, api.ErrShort)
		// What is short is told ahead of the level.
		opensNot(t, s[:n], 6, api.ErrShort)
	}
	opensNot(t, "", 0, api.ErrShort)
	opensNot(t, "", 255, api.ErrShort)
}

func TestHead(t *testing.T) { // P6.1: another level, version, code and offset, alone and together
	for bits := range 1 << 4 {
		level, version, code, offset := byte(5), byte(0), byte(1), 70
		want := api.OK
		if bits&1 != 0 {
			offset, want = 71, api.ErrForm
		}
		if bits&2 != 0 {
			code, want = 40, api.ErrCode
		}
		if bits&4 != 0 {
			version, want = 1, api.ErrForm
		}
		if bits&8 != 0 {
			level, want = 4, api.ErrLevel
		}
		b := []byte(bytesOf(plain(), level) + strings.Repeat("\x00", offset-70))
		b[0], b[1], b[3] = b[0]|version, code, byte(offset)
		s := string(b)
		if want == api.OK {
			opens(t, s, 5, plain())
		} else {
			opensNot(t, s, 5, want)
		}
		// Layer 4's own errors are ahead of all.
		opensNot(t, with(s, len(s)-1, 1), 5, api.ErrForm)
		opensNot(t, s[:len(s)-1], 5, api.ErrShort)
	}
	for offset := range 256 {
		b := []byte(bytesOf(plain(), 5) + strings.Repeat("\x00", 256))
		b[3] = byte(offset)
		if offset == 70 {
			opens(t, string(b), 5, plain())
			continue
		}
		b[4+offset] = 0
		opensNot(t, string(b), 5, api.ErrForm)
	}
	for n := range 256 {
		s := bytesOf(plain(), 5)
		if n != 1 {
			opensNot(t, with(s, 1, byte(n)), 5, api.ErrCode)
		}
		if n > 0 && n < 32 {
			opensNot(t, with(s, 0, 5<<5|byte(n)), 5, api.ErrForm)
		}
	}
}

func TestFirstErrorOfOpen(t *testing.T) { // P6.1, R2: all that may be wrong with bytes, together
	for bits := range 1 << 9 {
		has := func(i int) bool { return bits>>i&1 == 1 }
		b, want := []byte(bytesOf(plain(), 5)), api.OK
		if has(0) {
			b[8], b[9], want = 0, 0, api.ErrRange
		}
		if has(1) {
			b[2], want = b[2]&^7, api.ErrRange
		}
		if has(2) {
			b[2], want = b[2]|0x08, api.ErrForm
		}
		if has(3) {
			b[8], want = b[8]|0x20, api.ErrForm
		}
		if has(4) {
			b[behindName], want = 1, api.ErrForm
		}
		if has(5) {
			b[1], want = 40, api.ErrCode
		}
		if has(6) {
			b[0], want = b[0]|1, api.ErrForm
		}
		if has(7) {
			b[0], want = b[0]|0x40, api.ErrLevel
		}
		if has(8) {
			b[size-1], want = 1, api.ErrForm
		}
		if want == api.OK {
			opens(t, string(b), 5, plain())
		} else {
			opensNot(t, string(b), 5, want)
		}
		opensNot(t, string(b[:size-1]), 5, api.ErrShort)
	}
}

func TestFirstErrorOfClose(t *testing.T) { // P6.1, R2: all that may be wrong with a message, together
	for _, group := range []string{"", fullGroup[1:], fullGroup + "\x00"} {
		for bits := range 1 << 4 {
			m, level, want := plain(), uint8(7), api.OK
			if bits&1 != 0 {
				m.Group, want = group, api.ErrForm
			}
			if bits&2 != 0 {
				m.End, want = 8192, api.ErrRange
			}
			if bits&4 != 0 {
				m.Period, want = 0, api.ErrRange
			}
			if bits&8 != 0 {
				level, want = 8, api.ErrRange
			}
			if want == api.OK {
				closes(t, m, level, bytesOf(m, level))
			} else {
				closesNot(t, m, level, want)
			}
		}
	}
	closesNot(t, Msg{}, 0, api.ErrRange)
}

func TestName(t *testing.T) { // P6.1: texts of 0, 47, 48, 49 and more bytes, and all between
	long := strings.Repeat("0123456789abcdef\xff\x00é", 40)
	for n := range 300 {
		s := long[:n]
		want := s + strings.Repeat("\x00", max(0, 48-n))
		if name := Name(s); name != want[:48] {
			t.Errorf("Name(%q) = %q", s, name)
		}
	}
	if name := Name("carousel"); name != "carousel"+strings.Repeat("\x00", 40) {
		t.Errorf("%q", name)
	}
	if name := Name(Name("g")); name != Name("g") {
		t.Errorf("%q", name)
	}
	m := plain()
	for _, s := range []string{"", "g", long[:47], long[:48], long[:49], long} {
		m.Group = Name(s)
		both(t, m, 1)
	}
}

// someMsg makes a message of which nothing is wrong.
func someMsg(r *rand.Rand) Msg {
	group := make([]byte, 48)
	r.Read(group)
	return Msg{
		Lost:   r.Intn(2) == 1,
		Period: uint8(1 + r.Intn(7)),
		Count:  r.Uint32(),
		End:    uint16(1 + r.Intn(8191)),
		Group:  string(group),
	}
}

func TestClosedIsOpened(t *testing.T) { // P6.2: whatever is behind
	r := rand.New(rand.NewSource(1))
	for range 3000 {
		m := someMsg(r)
		for level := range uint8(8) {
			s, e := Close(m, level)
			if s != bytesOf(m, level) || e != api.OK {
				t.Fatalf("Close(%+v, %d) = %q, %v", m, level, s, e)
			}
			for _, behind := range behinds {
				opens(t, s+behind, level, m)
			}
			opensNot(t, s, (level+1)%8, api.ErrLevel)
		}
	}
}

func TestOpenedIsClosed(t *testing.T) { // P6.1: bytes that are opened are those of just that message
	r := rand.New(rand.NewSource(2))
	met := map[api.Errno]int{}
	for range 60000 {
		b := []byte(bytesOf(someMsg(r), 3))
		for range r.Intn(3) {
			// Mostly outside of the Group, where any bytes may stand.
			at := r.Intn(groupAt)
			if r.Intn(3) == 0 {
				at = groupAt + r.Intn(size-groupAt)
			}
			b[at] ^= 1 << r.Intn(8)
		}
		if r.Intn(8) == 0 {
			b = b[:r.Intn(size)]
		}
		m, e := Open(string(b), 3)
		met[e]++
		if e != api.OK {
			opensNot(t, string(b), 3, e)
			continue
		}
		closes(t, m, 3, string(b))
	}
	for _, e := range []api.Errno{api.OK, api.ErrShort, api.ErrForm, api.ErrRange, api.ErrLevel, api.ErrCode} {
		if met[e] < 100 {
			t.Errorf("%v was met only %d times", e, met[e])
		}
	}
}

func TestOpenAnyBytes(t *testing.T) { // R1, R2: whatever the bytes and the level are
	r := rand.New(rand.NewSource(3))
	for range 30000 {
		b := make([]byte, r.Intn(160))
		r.Read(b)
		level := uint8(r.Intn(256))
		if m, e := Open(string(b), level); e == api.OK || m != (Msg{}) {
			t.Fatalf("Open(%q, %d) = %+v, %v", b, level, m, e)
		}
	}
}
