package tagged

import (
	"encoding/binary"
	"math"
	"math/rand"
	"strings"
	"testing"

	"carousel/api"
	"carousel/mac"
)

const (
	noAddr  mac.Addr = 1 << 48
	aGroup  mac.Addr = 0x0119a7000001
	someDst mac.Addr = 0x020000000005
	someSrc mac.Addr = 0x0a0b0c0d0e0f
)

// plain is a frame of which nothing is wrong.
func plain() Frame {
	return Frame{Dst: someDst, Src: someSrc, Pri: 5, Vlan: 100, Type: 0x8902, Body: "body"}
}

// bytesOf writes a frame's bytes by shifts: another way than the package's, to hold it against.
func bytesOf(f Frame) string {
	var b []byte
	b = append(b, binary.BigEndian.AppendUint64(nil, uint64(f.Dst))[2:]...)
	b = append(b, binary.BigEndian.AppendUint64(nil, uint64(f.Src))[2:]...)
	b = append(b, 0x81, 0x00)
	tag := uint16(f.Pri)<<13 | f.Vlan
	if f.Drop {
		tag |= 1 << 12
	}
	b = binary.BigEndian.AppendUint16(b, tag)
	b = binary.BigEndian.AppendUint16(b, f.Type)
	return string(b) + f.Body
}

// raw writes bytes of any parts, right or wrong.
func raw(dst, src, mark, tag, kind, body string) string {
	return dst + src + mark + tag + kind + body
}

func closes(t *testing.T, f Frame, want string) {
	t.Helper()
	if s, e := Close(f); s != want || e != api.OK {
		t.Errorf("Close(%+v) = %q, %v, want %q", f, s, e, want)
	}
}

func opens(t *testing.T, s string, want Frame) {
	t.Helper()
	if f, e := Open(s); f != want || e != api.OK {
		t.Errorf("Open(%q) = %+v, %v, want %+v", s, f, e, want)
	}
}

func closesNot(t *testing.T, f Frame, want api.Errno) {
	t.Helper()
	if s, e := Close(f); s != "" || e != want {
		t.Errorf("Close(%+v) = %q, %v, want %v", f, s, e, want)
	}
}

func opensNot(t *testing.T, s string, want api.Errno) {
	t.Helper()
	if f, e := Open(s); f != (Frame{}) || e != want {
		t.Errorf("Open(%q) = %+v, %v, want %v", s, f, e, want)
	}
}

func TestKnown(t *testing.T) { // P3.1
	known := []struct {
		frame Frame
		bytes string
	}{
		{
			Frame{Dst: 0x010203040506, Src: 0x0a0b0c0d0e0f, Pri: 5, Vlan: 100, Type: 0x0800, Body: "hello"},
			"\x01\x02\x03\x04\x05\x06\x0a\x0b\x0c\x0d\x0e\x0f\x81\x00\xa0\x64\x08\x00hello",
		},
		{
			Frame{Dst: mac.All, Src: 2, Pri: 1, Drop: true, Vlan: 3, Type: 0x8902, Body: "xy"},
			"\xff\xff\xff\xff\xff\xff\x00\x00\x00\x00\x00\x02\x81\x00\x30\x03\x89\x02xy",
		},
		{
			Frame{Vlan: 1, Type: 1536},
			"\x00\x00\x00\x00\x00\x00\x00\x00\x00\x00\x00\x00\x81\x00\x00\x01\x06\x00",
		},
		{
			Frame{Dst: aGroup, Src: 0xfeffffffffff, Pri: 7, Drop: true, Vlan: 4094, Type: 65535, Body: "\x00"},
			"\x01\x19\xa7\x00\x00\x01\xfe\xff\xff\xff\xff\xff\x81\x00\xff\xfe\xff\xff\x00",
		},
		{
			Frame{Dst: 1, Src: 3, Drop: true, Vlan: 0x0abc, Type: 0x8100, Body: "\x81\x00\xff"},
			"\x00\x00\x00\x00\x00\x01\x00\x00\x00\x00\x00\x03\x81\x00\x1a\xbc\x81\x00\x81\x00\xff",
		},
	}
	for _, k := range known {
		closes(t, k.frame, k.bytes)
		opens(t, k.bytes, k.frame)
	}
}

func TestSizes(t *testing.T) { // P3.1: 17 and 18 bytes, 1600 bytes and one more
	whole := bytesOf(plain())
	for n := range 18 {
		opensNot(t, whole[:n], api.ErrShort)
		opensNot(t, strings.Repeat("\x00", n), api.ErrShort)
	}
	f := plain()
	for _, n := range []int{18, 19, 63, 64, 1500, 1599, 1600} {
		f.Body = strings.Repeat("\xa5", n-18)
		if s, _ := Close(f); len(s) != n {
			t.Errorf("%d bytes, want %d", len(s), n)
		}
		closes(t, f, bytesOf(f))
		opens(t, bytesOf(f), f)
	}
	for _, n := range []int{1601, 1602, 1618, 4096, 65536 + 100, 1 << 20} {
		f.Body = strings.Repeat("\x00", n-18)
		closesNot(t, f, api.ErrLong)
		opensNot(t, bytesOf(f), api.ErrLong)
	}
}

func TestEveryTag(t *testing.T) { // P3.1: each Pri, Drop and Vlan
	for pri := range 8 {
		for vlan := range 4096 {
			for _, drop := range []bool{false, true} {
				f := plain()
				f.Pri, f.Drop, f.Vlan = uint8(pri), drop, uint16(vlan)
				if vlan == 0 || vlan == 4095 {
					closesNot(t, f, api.ErrRange)
					opensNot(t, bytesOf(f), api.ErrRange)
					continue
				}
				closes(t, f, bytesOf(f))
				opens(t, bytesOf(f), f)
			}
		}
	}
}

func TestWrongPriAndVlan(t *testing.T) { // P3.1: numbers that a tag has no bits for
	for pri := 8; pri < 256; pri++ {
		f := plain()
		f.Pri = uint8(pri)
		closesNot(t, f, api.ErrRange)
	}
	for _, vlan := range []uint16{0, 4095, 4096, 4097, 8190, 1<<15 + 1, 65535} {
		f := plain()
		f.Vlan = vlan
		closesNot(t, f, api.ErrRange)
	}
}

func TestEveryType(t *testing.T) { // P3.1: 1535, 1536 and 65535, and all others
	for kind := range 65536 {
		f := plain()
		f.Type = uint16(kind)
		if kind < 1536 {
			closesNot(t, f, api.ErrType)
			opensNot(t, bytesOf(f), api.ErrType)
			continue
		}
		closes(t, f, bytesOf(f))
		opens(t, bytesOf(f), f)
	}
}

func TestAddresses(t *testing.T) { // P3.1
	for i := range 48 {
		f := plain()
		f.Dst, f.Src = 1<<i, someSrc
		closes(t, f, bytesOf(f))
		opens(t, bytesOf(f), f)
		f.Dst, f.Src = someDst, 1<<i
		if i == 40 {
			closesNot(t, f, api.ErrForm)
			opensNot(t, bytesOf(f), api.ErrForm)
			continue
		}
		closes(t, f, bytesOf(f))
		opens(t, bytesOf(f), f)
	}
	for _, a := range []mac.Addr{aGroup, 1 << 40, mac.All, 0xff0000000000} {
		f := plain()
		f.Dst = a
		closes(t, f, bytesOf(f))
		opens(t, bytesOf(f), f)
		f.Src = a
		closesNot(t, f, api.ErrForm)
		opensNot(t, bytesOf(f), api.ErrForm)
	}
	for _, a := range []mac.Addr{noAddr, noAddr + 1, noAddr | 1<<40, 1 << 56, 1 << 63, math.MaxUint64} {
		f := plain()
		f.Dst = a
		closesNot(t, f, api.ErrForm)
		f.Dst, f.Src = someDst, a
		closesNot(t, f, api.ErrForm)
		f.Dst = a
		closesNot(t, f, api.ErrForm)
	}
}

func TestEveryMark(t *testing.T) { // P3.1: the two bytes behind the addresses
	f := plain()
	s := bytesOf(f)
	for mark := range 65536 {
		x := s[:12] + string([]byte{byte(mark >> 8), byte(mark)}) + s[14:]
		if mark == 0x8100 {
			opens(t, x, f)
		} else {
			opensNot(t, x, api.ErrTag)
		}
	}
}

func TestFirstErrorOfClose(t *testing.T) { // P3.1, R2: all that may be wrong, together
	for bits := range 1 << 8 {
		f := plain()
		has := func(i int) bool { return bits>>i&1 == 1 }
		want := api.OK
		if has(0) {
			f.Body, want = strings.Repeat("b", 1583), api.ErrLong
		}
		if has(1) {
			f.Type, want = 1535, api.ErrType
		}
		if has(2) {
			f.Vlan, want = 0, api.ErrRange
		}
		if has(3) {
			f.Vlan, want = 4095, api.ErrRange
		}
		if has(4) {
			f.Pri, want = 8, api.ErrRange
		}
		if has(5) {
			f.Src, want = aGroup, api.ErrForm
		}
		if has(6) {
			f.Src, want = noAddr, api.ErrForm
		}
		if has(7) {
			f.Dst, want = noAddr, api.ErrForm
		}
		if want == api.OK {
			closes(t, f, bytesOf(f))
		} else {
			closesNot(t, f, want)
		}
	}
}

func TestFirstErrorOfOpen(t *testing.T) { // P3.1, R2: all that may be wrong, together
	const dst = "\x02\x00\x00\x00\x00\x05"
	for bits := range 1 << 5 {
		has := func(i int) bool { return bits>>i&1 == 1 }
		src, mark, tag, kind, body := "\x0a\x0b\x0c\x0d\x0e\x0f", "\x81\x00", "\xa0\x64", "\x89\x02", "body"
		want := api.OK
		if has(0) {
			kind, want = "\x05\xff", api.ErrType
		}
		if has(1) {
			tag, want = "\xaf\xff", api.ErrRange
		}
		if has(2) {
			src, want = "\x01\x19\xa7\x00\x00\x01", api.ErrForm
		}
		if has(3) {
			mark, want = "\x88\xa8", api.ErrTag
		}
		if has(4) {
			body, want = strings.Repeat("b", 1583), api.ErrLong
		}
		s := raw(dst, src, mark, tag, kind, body)
		if want == api.OK {
			opens(t, s, plain())
		} else {
			opensNot(t, s, want)
		}
		opensNot(t, s[:17], api.ErrShort)
	}
}

// someFrame makes a frame of which nothing is wrong.
func someFrame(r *rand.Rand) Frame {
	body := make([]byte, r.Intn(60))
	if r.Intn(20) == 0 {
		body = make([]byte, r.Intn(1583))
	}
	r.Read(body)
	return Frame{
		Dst:  mac.Addr(r.Uint64()) & mac.All,
		Src:  mac.Addr(r.Uint64()) & mac.All &^ (1 << 40),
		Pri:  uint8(r.Intn(8)),
		Drop: r.Intn(2) == 1,
		Vlan: uint16(1 + r.Intn(4094)),
		Type: uint16(1536 + r.Intn(65536-1536)),
		Body: string(body),
	}
}

func TestClosedIsOpened(t *testing.T) { // P3.2
	r := rand.New(rand.NewSource(1))
	for range 5000 {
		f := someFrame(r)
		s, e := Close(f)
		if s != bytesOf(f) || e != api.OK {
			t.Fatalf("Close(%+v) = %q, %v", f, s, e)
		}
		if g, e := Open(s); g != f || e != api.OK {
			t.Fatalf("Open(Close(%+v)) = %+v, %v", f, g, e)
		}
	}
}

func TestOpenedIsClosed(t *testing.T) { // P3.2: of any bytes, so that what is opened is right, too
	r := rand.New(rand.NewSource(2))
	opened := 0
	for range 20000 {
		b := make([]byte, r.Intn(80))
		r.Read(b)
		if len(b) >= 14 {
			b[12], b[13] = 0x81, 0
		}
		f, e := Open(string(b))
		if e != api.OK {
			if f != (Frame{}) {
				t.Fatalf("Open(%q) = %+v, %v", b, f, e)
			}
			continue
		}
		opened++
		if s, e := Close(f); s != string(b) || e != api.OK {
			t.Fatalf("Close(Open(%q)) = %q, %v", b, s, e)
		}
	}
	if opened < 1000 {
		t.Errorf("only %d were opened", opened)
	}
}
