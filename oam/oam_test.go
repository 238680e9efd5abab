package oam

import (
	"math/rand"
	"strings"
	"testing"

	"carousel/api"
)

// headOf writes a head's bytes by shifts: another way than the package's, to hold it against.
func headOf(h Head) string {
	return string([]byte{h.Level<<5 | h.Version, h.Code, h.Flags, h.Offset})
}

func bytesOf(h Head, content string) string { return headOf(h) + content + "\x00" }

// fill is a content of so many bytes, of which none is 0.
func fill(n int) string { return strings.Repeat("\xa5", n) }

// plain is a head of which nothing is wrong.
func plain() Head { return Head{Level: 5, Version: 3, Code: 9, Flags: 1, Offset: 4} }

// behinds is what may stand behind a message's end.
var behinds = []string{"", "\x00", "\x01", "\xff", "\x00\x00\x00", "zzz", "\xe1\x28\x00\x20", strings.Repeat("\xff", 2000)}

func closes(t *testing.T, h Head, content, want string) {
	t.Helper()
	if s, e := Close(h, content); s != want || e != api.OK {
		t.Errorf("Close(%+v, %q) = %q, %v, want %q", h, content, s, e, want)
	}
}

func closesNot(t *testing.T, h Head, content string, want api.Errno) {
	t.Helper()
	if s, e := Close(h, content); s != "" || e != want {
		t.Errorf("Close(%+v, %q) = %q, %v, want %v", h, content, s, e, want)
	}
}

func opens(t *testing.T, s string, want Head, content string) {
	t.Helper()
	if h, c, e := Open(s); h != want || c != content || e != api.OK {
		t.Errorf("Open(%q) = %+v, %q, %v, want %+v, %q", s, h, c, e, want, content)
	}
}

func opensNot(t *testing.T, s string, want api.Errno) {
	t.Helper()
	if h, c, e := Open(s); h != (Head{}) || c != "" || e != want {
		t.Errorf("Open(%q) = %+v, %q, %v, want %v", s, h, c, e, want)
	}
}

func TestKnown(t *testing.T) { // P4.1
	known := []struct {
		head    Head
		content string
		bytes   string
	}{
		{Head{}, "", "\x00\x00\x00\x00\x00"},
		{Head{Level: 7, Version: 1, Code: 40, Offset: 32}, fill(32), "\xe1\x28\x00\x20" + fill(32) + "\x00"},
		{Head{Level: 5, Version: 3, Code: 9, Flags: 1, Offset: 2}, "ab", "\xa3\x09\x01\x02ab\x00"},
		{Head{Level: 1}, "", "\x20\x00\x00\x00\x00"},
		{Head{Version: 1}, "", "\x01\x00\x00\x00\x00"},
		{Head{Version: 31}, "", "\x1f\x00\x00\x00\x00"},
		{Head{Code: 1}, "", "\x00\x01\x00\x00\x00"},
		{Head{Flags: 1}, "", "\x00\x00\x01\x00\x00"},
		{Head{Offset: 1}, "\x00", "\x00\x00\x00\x01\x00\x00"},
		{Head{Offset: 3}, "\x00\xff\x00", "\x00\x00\x00\x03\x00\xff\x00\x00"},
		{Head{7, 31, 255, 255, 255}, strings.Repeat("\xff", 255), strings.Repeat("\xff", 259) + "\x00"},
	}
	for _, k := range known {
		closes(t, k.head, k.content, k.bytes)
		opens(t, k.bytes, k.head, k.content)
	}
}

func TestEveryLevelAndVersion(t *testing.T) { // P4.1: Level 7 and 8, Version 31 and 32, and all others
	for level := range 256 {
		for version := range 256 {
			h := plain()
			h.Level, h.Version = uint8(level), uint8(version)
			if level > 7 || version > 31 {
				closesNot(t, h, fill(4), api.ErrRange)
				continue
			}
			closes(t, h, fill(4), bytesOf(h, fill(4)))
			opens(t, bytesOf(h, fill(4)), h, fill(4))
		}
	}
}

func TestEveryCodeAndFlags(t *testing.T) { // P4.1
	for n := range 256 {
		h := plain()
		h.Code = uint8(n)
		closes(t, h, fill(4), bytesOf(h, fill(4)))
		opens(t, bytesOf(h, fill(4)), h, fill(4))
		h = plain()
		h.Flags = uint8(n)
		closes(t, h, fill(4), bytesOf(h, fill(4)))
		opens(t, bytesOf(h, fill(4)), h, fill(4))
	}
}

func TestEveryOffset(t *testing.T) { // P4.1: Offset 0 and 255, a content of one byte less and one more, and all others
	for offset := range 256 {
		h := plain()
		h.Offset = uint8(offset)
		for n := range 260 {
			if n != offset {
				closesNot(t, h, fill(n), api.ErrForm)
			}
		}
		// Cut to a byte or two, these lengths would be the Offset.
		closesNot(t, h, fill(offset+256), api.ErrForm)
		closesNot(t, h, fill(offset+65536), api.ErrForm)
		closes(t, h, fill(offset), bytesOf(h, fill(offset)))
		opens(t, bytesOf(h, fill(offset)), h, fill(offset))
	}
}

func TestRangeAheadOfForm(t *testing.T) { // P4.1, R2: all that may be wrong with what is closed, together
	for bits := range 1 << 3 {
		h, content, want := plain(), fill(4), api.OK
		if bits&1 != 0 {
			content, want = fill(5), api.ErrForm
		}
		if bits&2 != 0 {
			h.Version, want = 32, api.ErrRange
		}
		if bits&4 != 0 {
			h.Level, want = 8, api.ErrRange
		}
		if want == api.OK {
			closes(t, h, content, bytesOf(h, content))
		} else {
			closesNot(t, h, content, want)
		}
	}
}

func TestOpenShort(t *testing.T) { // P4.1: 3 and 4 bytes, one byte less than the message has, its end, too, and all others
	for offset := range 256 {
		for _, c := range []string{"\x00", "\xff", "a"} {
			h := plain()
			h.Offset = uint8(offset)
			content := strings.Repeat(c, offset)
			whole := bytesOf(h, content)
			for n := range len(whole) {
				opensNot(t, whole[:n], api.ErrShort)
			}
			opens(t, whole, h, content)
		}
	}
	for n := range 4 {
		opensNot(t, strings.Repeat("\x00", n), api.ErrShort)
		opensNot(t, strings.Repeat("\xff", n), api.ErrShort)
	}
	opensNot(t, "\x00\x00\x00\x00", api.ErrShort)
	opens(t, "\x00\x00\x00\x00\x00", Head{}, "")
}

func TestOpenEnd(t *testing.T) { // P4.1: a byte behind the content that isn't 0
	for _, offset := range []int{0, 1, 4, 32, 70, 254, 255} {
		h := plain()
		h.Offset = uint8(offset)
		// Contents of 0 and of others: the byte that is asked is the one behind them.
		for _, content := range []string{fill(offset), strings.Repeat("\x00", offset)} {
			for c := range 256 {
				for _, behind := range behinds {
					s := headOf(h) + content + string([]byte{byte(c)}) + behind
					if c == 0 {
						opens(t, s, h, content)
					} else {
						opensNot(t, s, api.ErrForm)
					}
				}
			}
		}
	}
}

func TestIs(t *testing.T) { // P4.2: each of the four alone, and together
	h := plain()
	for _, d := range []uint8{1, 2, 8, 32, 128, 255} {
		for bits := range 1 << 4 {
			level, version, code, offset := h.Level, h.Version, h.Code, h.Offset
			want := api.OK
			if bits&1 != 0 {
				offset, want = offset+d, api.ErrForm
			}
			if bits&2 != 0 {
				code, want = code+d, api.ErrCode
			}
			if bits&4 != 0 {
				version, want = version+d, api.ErrForm
			}
			if bits&8 != 0 {
				level, want = level+d, api.ErrLevel
			}
			if e := h.Is(level, version, code, offset); e != want {
				t.Errorf("%+v.Is(%d, %d, %d, %d) = %v, want %v", h, level, version, code, offset, e, want)
			}
		}
	}
}

func TestIsOfEachNumber(t *testing.T) { // P4.2: any numbers, those that no head may have, too
	expect := func(h Head, a [4]uint8, want api.Errno) {
		t.Helper()
		if e := h.Is(a[0], a[1], a[2], a[3]); e != want {
			t.Errorf("%+v.Is(%v) = %v, want %v", h, a, e, want)
		}
	}
	wants := [4]api.Errno{api.ErrLevel, api.ErrForm, api.ErrCode, api.ErrForm}
	for place, want := range wants {
		for has := range 256 {
			for asked := range 256 {
				of, a := [4]uint8{5, 3, 9, 2}, [4]uint8{5, 3, 9, 2}
				of[place], a[place] = uint8(has), uint8(asked)
				h := Head{Level: of[0], Version: of[1], Code: of[2], Offset: of[3]}
				if has == asked {
					expect(h, a, api.OK)
				} else {
					expect(h, a, want)
				}
			}
		}
	}
}

func TestIsWithoutFlags(t *testing.T) { // P4.2: flags are none of the four
	for flags := range 256 {
		h := plain()
		h.Flags = uint8(flags)
		if e := h.Is(5, 3, 9, 4); e != api.OK {
			t.Errorf("%+v: %v", h, e)
		}
		if e := h.Is(4, 3, 9, 4); e != api.ErrLevel {
			t.Errorf("%+v: %v, want ErrLevel", h, e)
		}
	}
}

// someMessage makes a head and a content of which nothing is wrong.
func someMessage(r *rand.Rand) (Head, string) {
	content := make([]byte, r.Intn(256))
	if r.Intn(2) == 0 {
		content = content[:len(content)%8]
	}
	r.Read(content)
	h := Head{
		Level:   uint8(r.Intn(8)),
		Version: uint8(r.Intn(32)),
		Code:    uint8(r.Intn(256)),
		Flags:   uint8(r.Intn(256)),
		Offset:  uint8(len(content)),
	}
	return h, string(content)
}

func TestClosedIsOpened(t *testing.T) { // P4.3
	r := rand.New(rand.NewSource(1))
	for range 3000 {
		h, content := someMessage(r)
		s, e := Close(h, content)
		if s != bytesOf(h, content) || e != api.OK {
			t.Fatalf("Close(%+v, %q) = %q, %v", h, content, s, e)
		}
		some := make([]byte, r.Intn(40))
		r.Read(some)
		opens(t, s+string(some), h, content)
		for _, behind := range behinds {
			opens(t, s+behind, h, content)
		}
		if e := h.Is(h.Level, h.Version, h.Code, h.Offset); e != api.OK {
			t.Fatalf("%+v is not as it is: %v", h, e)
		}
	}
}

func TestOpenAnyBytes(t *testing.T) { // P4.1, R1: whatever the bytes are
	r := rand.New(rand.NewSource(2))
	met := map[api.Errno]int{}
	for range 30000 {
		b := make([]byte, r.Intn(40))
		r.Read(b)
		if len(b) > 3 {
			b[3] %= 40
		}
		if len(b) > 4 && r.Intn(2) == 0 {
			b[len(b)-1], b[3] = 0, byte(len(b)-5)
		}
		s := string(b)
		want := api.OK
		switch {
		case len(s) < 4 || len(s) < 5+int(s[3]):
			want = api.ErrShort
		case s[4+int(s[3])] != 0:
			want = api.ErrForm
		}
		met[want]++
		if want != api.OK {
			opensNot(t, s, want)
			continue
		}
		h, content, e := Open(s)
		if e != api.OK {
			t.Fatalf("Open(%q) = %v", s, e)
		}
		closes(t, h, content, s[:5+int(s[3])])
	}
	for _, e := range []api.Errno{api.OK, api.ErrShort, api.ErrForm} {
		if met[e] < 1000 {
			t.Errorf("%v was met only %d times", e, met[e])
		}
	}
}
