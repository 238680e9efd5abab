package field

import (
	"math"
	"math/rand"
	"slices"
	"strconv"
	"strings"
	"testing"

	"carousel/api"
)

// bitsOf writes a value's lowest bits as digits: another way than the package's, to hold it against.
func bitsOf(value uint64, width int) string {
	s := strconv.FormatUint(value, 2)
	if len(s) > width {
		return s[len(s)-width:]
	}
	return strings.Repeat("0", width-len(s)) + s
}

// bytesOf reads digits of bits, eight by eight.
func bytesOf(t *testing.T, bits string) string {
	t.Helper()
	var out []byte
	for ; bits != ""; bits = bits[8:] {
		n, err := strconv.ParseUint(bits[:8], 2, 8)
		if err != nil {
			t.Fatal(err)
		}
		out = append(out, byte(n))
	}
	return string(out)
}

func widthsOf(l []Part) []int {
	var out []int
	for _, p := range l {
		out = append(out, p.Width)
	}
	return out
}

func valuesOf(l []Part) []uint64 {
	var out []uint64
	for _, p := range l {
		out = append(out, p.Value)
	}
	return out
}

// someParts makes parts of whole bytes together, of any widths and values.
func someParts(r *rand.Rand) []Part {
	var l []Part
	bits := 0
	for range r.Intn(12) {
		w := 1 + r.Intn(64)
		l = append(l, Part{w, r.Uint64() >> (64 - w)})
		bits += w
	}
	if rest := bits % 8; rest != 0 {
		w := 8 - rest
		l = append(l, Part{w, r.Uint64() >> (64 - w)})
	}
	return l
}

var wrongWidths = []int{0, -1, 65, 72, 128, math.MinInt, math.MaxInt}

func TestPackBytes(t *testing.T) { // P1.1
	cases := []struct {
		parts []Part
		want  string
	}{
		{nil, ""},
		{[]Part{}, ""},
		{[]Part{{3, 5}, {1, 0}, {12, 100}}, "\xa0\x64"},
		{[]Part{{8, 0}}, "\x00"},
		{[]Part{{8, 255}}, "\xff"},
		{[]Part{{1, 1}, {7, 0}}, "\x80"},
		{[]Part{{7, 0}, {1, 1}}, "\x01"},
		{[]Part{{1, 1}, {1, 0}, {1, 1}, {1, 0}, {1, 1}, {1, 0}, {1, 1}, {1, 1}}, "\xab"},
		{[]Part{{16, 0x0102}}, "\x01\x02"},
		{[]Part{{64, 0x0123456789abcdef}}, "\x01\x23\x45\x67\x89\xab\xcd\xef"},
		{[]Part{{64, math.MaxUint64}}, "\xff\xff\xff\xff\xff\xff\xff\xff"},
		{[]Part{{1, 1}, {63, 0}}, "\x80\x00\x00\x00\x00\x00\x00\x00"},
		{[]Part{{4, 0}, {64, math.MaxUint64}, {4, 0}}, "\x0f\xff\xff\xff\xff\xff\xff\xff\xf0"},
	}
	for _, c := range cases {
		if s, e := Pack(c.parts...); s != c.want || e != api.OK {
			t.Errorf("Pack(%v) = %q, %v, want %q", c.parts, s, e, c.want)
		}
	}
}

func TestPackEveryWidth(t *testing.T) { // P1.1: the edges of each width
	for w := 1; w <= 64; w++ {
		pad := Part{(8 - w%8) % 8, 0}
		most := uint64(math.MaxUint64) >> (64 - w)
		for _, v := range []uint64{0, 1, most >> 1, most - most>>1, most} {
			l := []Part{{w, v}}
			if pad.Width > 0 {
				l = append(l, pad)
			}
			want := bytesOf(t, bitsOf(v, w)+strings.Repeat("0", pad.Width))
			if s, e := Pack(l...); s != want || e != api.OK {
				t.Errorf("Pack(%v) = %q, %v, want %q", l, s, e, want)
			}
		}
		if w == 64 {
			continue
		}
		for _, v := range []uint64{most + 1, math.MaxUint64} {
			l := []Part{{w, v}}
			if pad.Width > 0 {
				l = append(l, pad)
			}
			if s, e := Pack(l...); s != "" || e != api.ErrRange {
				t.Errorf("Pack(%v) = %q, %v, want ErrRange", l, s, e)
			}
		}
	}
}

func TestPackWrong(t *testing.T) { // P1.1: ErrRange ahead of ErrForm
	for _, w := range wrongWidths {
		for _, l := range [][]Part{{{w, 0}}, {{w, 1}}, {{8, 0}, {w, 0}}, {{w, 0}, {8, 0}}, {{3, 0}, {w, 0}}} {
			if s, e := Pack(l...); s != "" || e != api.ErrRange {
				t.Errorf("Pack(%v) = %q, %v, want ErrRange", l, s, e)
			}
		}
	}
	cases := []struct {
		parts []Part
		want  api.Errno
	}{
		{[]Part{{1, 0}}, api.ErrForm},
		{[]Part{{7, 127}}, api.ErrForm},
		{[]Part{{63, 0}}, api.ErrForm},
		{[]Part{{64, 0}, {1, 1}}, api.ErrForm},
		{[]Part{{8, 0}, {4, 0}, {3, 0}}, api.ErrForm},
		{[]Part{{1, 2}}, api.ErrRange},
		{[]Part{{7, 0}, {4, 16}}, api.ErrRange},
		{[]Part{{8, 256}}, api.ErrRange},
		{[]Part{{8, 0}, {8, 256}}, api.ErrRange},
		{[]Part{{-8, 0}, {16, 0}}, api.ErrRange},
	}
	for _, c := range cases {
		if s, e := Pack(c.parts...); s != "" || e != c.want {
			t.Errorf("Pack(%v) = %q, %v, want %v", c.parts, s, e, c.want)
		}
	}
}

func TestSplitValues(t *testing.T) { // P1.2
	cases := []struct {
		s      string
		widths []int
		want   []uint64
		rest   string
	}{
		{"", nil, nil, ""},
		{"abc", nil, nil, "abc"},
		{"abc", []int{}, nil, "abc"},
		{"\xa0\x64", []int{3, 1, 12}, []uint64{5, 0, 100}, ""},
		{"\xa0\x64\x00\xff", []int{3, 1, 12}, []uint64{5, 0, 100}, "\x00\xff"},
		{"\x80", []int{1, 7}, []uint64{1, 0}, ""},
		{"\x01z", []int{7, 1}, []uint64{0, 1}, "z"},
		{"\xab", []int{1, 1, 1, 1, 1, 1, 1, 1}, []uint64{1, 0, 1, 0, 1, 0, 1, 1}, ""},
		{"\x01\x23\x45\x67\x89\xab\xcd\xefz", []int{64}, []uint64{0x0123456789abcdef}, "z"},
		{"\xff\xff\xff\xff\xff\xff\xff\xff", []int{64}, []uint64{math.MaxUint64}, ""},
		{"\x80\x00\x00\x00\x00\x00\x00\x01", []int{1, 63}, []uint64{1, 1}, ""},
		{"\x0f\xff\xff\xff\xff\xff\xff\xff\xf0", []int{4, 64, 4}, []uint64{0, math.MaxUint64, 0}, ""},
	}
	for _, c := range cases {
		l, rest, e := Split(c.s, c.widths...)
		if !slices.Equal(l, c.want) || rest != c.rest || e != api.OK {
			t.Errorf("Split(%q, %v) = %v, %q, %v, want %v, %q", c.s, c.widths, l, rest, e, c.want, c.rest)
		}
	}
}

func TestSplitWrong(t *testing.T) { // P1.2: ErrRange ahead of ErrForm ahead of ErrShort
	long := strings.Repeat("\xff", 300)
	wrong := func(s string, want api.Errno, widths ...int) {
		t.Helper()
		if l, rest, e := Split(s, widths...); len(l) != 0 || rest != "" || e != want {
			t.Errorf("Split(%q, %v) = %v, %q, %v, want %v", s, widths, l, rest, e, want)
		}
	}
	for _, w := range wrongWidths {
		for _, s := range []string{"", "a", long} {
			wrong(s, api.ErrRange, w)
			wrong(s, api.ErrRange, 8, w)
			wrong(s, api.ErrRange, w, 8)
			wrong(s, api.ErrRange, 3, w)
		}
	}
	for _, s := range []string{"", "a", long} {
		wrong(s, api.ErrForm, 1)
		wrong(s, api.ErrForm, 63)
		wrong(s, api.ErrForm, 64, 1)
		wrong(s, api.ErrForm, 8, 4, 3)
		wrong(s, api.ErrRange, -8, 16)
	}
	wrong("", api.ErrShort, 8)
	wrong("a", api.ErrShort, 16)
	wrong("a", api.ErrShort, 4, 4, 1, 7)
	wrong("1234567", api.ErrShort, 64)
	wrong("1234567", api.ErrShort, 1, 63)
}

func TestNoughts(t *testing.T) { // P1.2
	for n := range 20 {
		s := strings.Repeat("\x00", n)
		if !Noughts(s) {
			t.Errorf("Noughts(%q) = false", s)
		}
		for at := range n {
			for _, c := range []string{"\x01", "\x80", "\xff", "0", " "} {
				if x := s[:at] + c + s[at+1:]; Noughts(x) {
					t.Errorf("Noughts(%q) = true", x)
				}
			}
		}
	}
}

func TestPackedIsSplit(t *testing.T) { // P1.3
	r := rand.New(rand.NewSource(1))
	for range 2000 {
		l := someParts(r)
		bits := ""
		for _, p := range l {
			bits += bitsOf(p.Value, p.Width)
		}
		s, e := Pack(l...)
		if s != bytesOf(t, bits) || e != api.OK {
			t.Fatalf("Pack(%v) = %q, %v", l, s, e)
		}
		for _, behind := range []string{"", "\x00", "\xff", "what is behind"} {
			values, rest, e := Split(s+behind, widthsOf(l)...)
			if !slices.Equal(values, valuesOf(l)) || rest != behind || e != api.OK {
				t.Fatalf("Split(Pack(%v)) = %v, %q, %v", l, values, rest, e)
			}
		}
	}
}

func TestSplitIsPacked(t *testing.T) { // P1.3
	r := rand.New(rand.NewSource(2))
	for range 2000 {
		l := someParts(r)
		b := make([]byte, 120)
		r.Read(b)
		values, rest, e := Split(string(b), widthsOf(l)...)
		if e != api.OK || len(values) != len(l) {
			t.Fatalf("Split(%q, %v) = %v, %v", b, widthsOf(l), values, e)
		}
		for i := range l {
			l[i].Value = values[i]
		}
		if s, e := Pack(l...); s+rest != string(b) || e != api.OK {
			t.Fatalf("Pack(Split(%q, %v)) = %q, %v", b, widthsOf(l), s, e)
		}
	}
}

func TestArgumentsStay(t *testing.T) { // R3, R5
	room := []Part{{4, 1}, {4, 2}, {8, 3}, {8, 4}}
	before := slices.Clone(room)
	Pack(room[:2]...)
	if !slices.Equal(room, before) {
		t.Error("Pack changed its parts", room)
	}
	widths := []int{4, 4, 8, 8}
	first, _, _ := Split("\x12\x34", widths[:2]...)
	if !slices.Equal(widths, []int{4, 4, 8, 8}) {
		t.Error("Split changed its widths", widths)
	}
	first[0] = 9
	if again, _, _ := Split("\x12\x34", widths[:2]...); !slices.Equal(again, []uint64{1, 2}) {
		t.Error("an answer hangs on an earlier one", again)
	}
}
