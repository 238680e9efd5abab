package mac

import (
	"math"
	"math/rand"
	"strings"
	"testing"

	"carousel/api"
)

var known = []struct {
	addr  Addr
	bytes string
	text  string
	group bool
}{
	{0, "\x00\x00\x00\x00\x00\x00", "00:00:00:00:00:00", false},
	{1, "\x00\x00\x00\x00\x00\x01", "00:00:00:00:00:01", false},
	{0x0119a7000001, "\x01\x19\xa7\x00\x00\x01", "01:19:a7:00:00:01", true},
	{0x02000000000f, "\x02\x00\x00\x00\x00\x0f", "02:00:00:00:00:0f", false},
	{0x123456789abc, "\x12\x34\x56\x78\x9a\xbc", "12:34:56:78:9a:bc", false},
	{0xdef0fedcba98, "\xde\xf0\xfe\xdc\xba\x98", "de:f0:fe:dc:ba:98", false},
	{0x010000000000, "\x01\x00\x00\x00\x00\x00", "01:00:00:00:00:00", true},
	{0x00ffffffffff, "\x00\xff\xff\xff\xff\xff", "00:ff:ff:ff:ff:ff", false},
	{0xfeffffffffff, "\xfe\xff\xff\xff\xff\xff", "fe:ff:ff:ff:ff:ff", false},
	{0x800000000000, "\x80\x00\x00\x00\x00\x00", "80:00:00:00:00:00", false},
	{All, "\xff\xff\xff\xff\xff\xff", "ff:ff:ff:ff:ff:ff", true},
}

func TestKnown(t *testing.T) { // P2.1
	for _, k := range known {
		if !k.addr.May() {
			t.Errorf("%#x.May() = false", uint64(k.addr))
		}
		if k.addr.Group() != k.group {
			t.Errorf("%#x.Group() = %v", uint64(k.addr), k.addr.Group())
		}
		if s := k.addr.Bytes(); s != k.bytes {
			t.Errorf("%#x.Bytes() = %q", uint64(k.addr), s)
		}
		if s := k.addr.String(); s != k.text {
			t.Errorf("%#x.String() = %q", uint64(k.addr), s)
		}
		if a, e := Of(k.bytes); a != k.addr || e != api.OK {
			t.Errorf("Of(%q) = %#x, %v", k.bytes, uint64(a), e)
		}
		if a, e := Parse(k.text); a != k.addr || e != api.OK {
			t.Errorf("Parse(%q) = %#x, %v", k.text, uint64(a), e)
		}
	}
}

func TestNoAddress(t *testing.T) { // P2.1: numbers of 2^48 and beyond
	for _, a := range []Addr{1 << 48, 1<<48 + 1, 1<<48 | 1<<40, All + 2, 1 << 56, 1 << 63, math.MaxUint64 - 1, math.MaxUint64} {
		if a.May() || a.Group() || a.Bytes() != "" || a.String() != "" {
			t.Errorf("%#x: %v, %v, %q, %q", uint64(a), a.May(), a.Group(), a.Bytes(), a.String())
		}
	}
}

func TestGroupOfEachBit(t *testing.T) { // P2.1
	for i := range 48 {
		a := Addr(1) << i
		if a.Group() != (i == 40) {
			t.Errorf("%#x.Group() = %v", uint64(a), a.Group())
		}
		if b := All &^ a; b.Group() != (i != 40) {
			t.Errorf("%#x.Group() = %v", uint64(b), b.Group())
		}
	}
}

func TestOfWrong(t *testing.T) { // P2.1: fewer than six bytes, and more
	for n := range 20 {
		want := api.OK
		switch {
		case n < 6:
			want = api.ErrShort
		case n > 6:
			want = api.ErrLong
		}
		for _, c := range []string{"\x00", "\xff", "a"} {
			s := strings.Repeat(c, n)
			a, e := Of(s)
			if e != want || e != api.OK && a != 0 {
				t.Errorf("Of(%q) = %#x, %v, want %v", s, uint64(a), e, want)
			}
		}
	}
}

func wrongText(t *testing.T, s string) {
	t.Helper()
	if a, e := Parse(s); a != 0 || e != api.ErrForm {
		t.Errorf("Parse(%q) = %#x, %v, want ErrForm", s, uint64(a), e)
	}
}

func TestParseWrong(t *testing.T) { // P2.1
	for _, s := range []string{
		"", ":", ":::::", "0", "02", "02:00:00:00:00", "02:00:00:00:00:", "02:00:00:00:00:0", "02:00:00:00:00:0ff",
		"02:00:00:00:00:0f:", "02:00:00:00:00:0f:00", ":02:00:00:00:00:0f", " 02:00:00:00:00:0f", "02:00:00:00:00:0f ", "02:00:00:00:00:0f\n",
		"02000000000f", "0200.0000.000f", "02-00-00-00-00-0f", "2:0:0:0:0:f", "002:00:00:00:00:f", "0:200:00:00:00:0f",
		"02:00:00:00:00:0F", "FF:FF:FF:FF:FF:FF", "+2:00:00:00:00:0f", "0x:00:00:00:00:0f",
		"\x02\x00\x00\x00\x00\x0f", "\u00e9\u00e9\u00e9\u00e9\u00e9\u00e9\u00e9\u00e90", strings.Repeat(":", 17), strings.Repeat("0", 17),
	} {
		wrongText(t, s)
	}
}

func TestParseEachByte(t *testing.T) { // P2.1, P2.2: just one byte at each place tells what the text told
	const text = "d2:0e:41:9c:7b:5f"
	for at := range len(text) {
		for c := range 256 {
			s := text[:at] + string([]byte{byte(c)}) + text[at+1:]
			digit := strings.IndexByte("0123456789abcdef", byte(c)) >= 0
			if at%3 == 2 && c != ':' || at%3 != 2 && !digit {
				wrongText(t, s)
			} else if a, e := Parse(s); e != api.OK || a.String() != s {
				t.Errorf("Parse(%q) = %v, %v", s, a, e)
			}
		}
		wrongText(t, text[:at]+text[at+1:])
		wrongText(t, text[:at]+"0"+text[at:])
		wrongText(t, text[:at]+":"+text[at:])
	}
}

func roundTrip(t *testing.T, a Addr) {
	t.Helper()
	if b, e := Of(a.Bytes()); b != a || e != api.OK {
		t.Fatalf("Of(%q) = %#x, %v, want %#x", a.Bytes(), uint64(b), e, uint64(a))
	}
	if b, e := Parse(a.String()); b != a || e != api.OK {
		t.Fatalf("Parse(%q) = %#x, %v, want %#x", a.String(), uint64(b), e, uint64(a))
	}
}

func TestThereAndBack(t *testing.T) { // P2.2
	for i := range 48 {
		roundTrip(t, 1<<i)
		roundTrip(t, 1<<i-1)
		roundTrip(t, All&^(1<<i))
	}
	r := rand.New(rand.NewSource(1))
	for range 5000 {
		roundTrip(t, Addr(r.Uint64())&All)
	}
}

func TestBackAndThere(t *testing.T) { // P2.2
	r := rand.New(rand.NewSource(2))
	for range 5000 {
		b := make([]byte, 6)
		r.Read(b)
		a, e := Of(string(b))
		if e != api.OK || !a.May() || a.Bytes() != string(b) {
			t.Fatalf("Of(%q) = %#x, %v", b, uint64(a), e)
		}
	}
}
