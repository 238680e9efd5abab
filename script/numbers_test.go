package script

import (
	"fmt"
	"strings"
	"testing"
)

// place is where a number stands in a line, and its limit.
type place struct {
	line string
	most uint64
}

// places are all numbers of the table's lines.
var places = []place{
	{"tick %s", 1000},
	{"deliver %s", 255}, {"drop %s", 255}, {"down %s", 255}, {"up %s", 255},
	{"cut %s", 255}, {"mend %s", 255},
	{"fs %s west", 255}, {"fs %s east", 255}, {"ms %s west", 255}, {"ms %s east", 255}, {"clear %s", 255},
	{"send %s 1 1", 255}, {"send 1 %s 1", 255}, {"send 1 1 %s", 1<<32 - 1},
	{"send %s all 1", 255}, {"send 1 all %s", 1<<32 - 1},
	{"came %s 1 1 1", 255}, {"came 1 %s 1 1", 255}, {"came 1 1 %s 1", 1<<32 - 1}, {"came 1 1 1 %s", 255},
	{"came %s all 1 1", 255}, {"came 1 all %s 1", 1<<32 - 1}, {"came 1 all 1 %s", 255},
	{"counts %s", 255},
}

// notNumbers are none, whatever the limit.
var notNumbers = []string{
	// A nought ahead.
	"00", "01", "007", "0255", "0000", "00000000000000000000001", "010",
	// A sign, or what else stands in numbers of other tongues.
	"-1", "+1", "-0", "+0", "--1", "1-", "1+", "1.0", "1.", ".1", "0.0", "1,0", "1e2", "1E2", "1_0", "0x1", "0X1", "0b1", "0o1", "0xff", "1h", "1k", "#1",
	// A letter, or a word.
	"a", "f", "A", "l", "O", "o", "one", "West", "west", "east", "all1", "1all", "1a", "a1", "nil", "NaN", "Inf", "infinity", "true",
	// What isn't seen, or looks like a digit.
	"\t1", "1\t", "1\r", "\r1", "1\x00", "\x00", "\x001", "1\v", "\f1", "1\u00a0", "\u00a01", "\ufeff1", "1\u200b", "\u0661", "\uff11", "\u00b2", "\u0967", "\xff", "1\xff", "\xb1",
	"'1'", "\"1\"", "(1)", "1;", "\\1", "$1", "1/1", "/", ":", "1:", "1/",
	// Far too great.
	"4294967296", "4294967297", "4294967551", "8589934592", "9223372036854775807", "9223372036854775808", "18446744073709551615", "18446744073709551616", "18446744073709551617",
	"18446744073709551871", "99999999999999999999", "100000000000000000000", "340282366920938463463374607431768211456", "340282366920938463463374607431768211457",
	strings.Repeat("9", 100), "1" + strings.Repeat("0", 5000), strings.Repeat("7", 20), strings.Repeat("1", 21),
}

func TestNumbers(t *testing.T) { // P27.1: each number of each line: what is one, up to its limit, and what isn't
	t.Parallel()
	p := aPlan(3, 0)
	for _, at := range places {
		may := func(n uint64) {
			t.Helper()
			if l := Run(fmt.Sprintf(at.line, fmt.Sprint(n)), p); len(l) > 1 || len(l) == 1 && strings.Contains(l[0], "error") || len(l) == 0 && at.line != "counts %s" {
				t.Errorf("%s: %d: %q", at.line, n, l)
			}
		}
		for _, n := range []uint64{0, 1, 2, 3, 9, 10, 11, 19, 20, 99, 100, 101, 109, 110, 199, 200, 249, 250, 251, 254, 255, at.most / 2, at.most - 1, at.most} {
			may(n)
		}
		if at.most < 1<<16 {
			for n := range at.most + 1 {
				may(n)
			}
		}
		wrong := append([]string{fmt.Sprint(at.most + 1), fmt.Sprint(at.most + 2), fmt.Sprint(at.most * 2), fmt.Sprint(at.most) + "0", fmt.Sprint(at.most) + "1", "0" + fmt.Sprint(at.most), "10" + fmt.Sprint(at.most)}, notNumbers...)
		for _, s := range wrong {
			says(t, p, fmt.Sprintf(at.line, s), "error script form 0")
		}
	}
}

func TestAllWhereItMayStand(t *testing.T) { // P27.1: all stands for T of send and came alone
	p := aPlan(3, 0)
	for _, at := range places {
		switch s := fmt.Sprintf(at.line, "all"); at.line {
		case "send 1 %s 1":
			says(t, p, s, "ok")
		case "came 1 %s 1 1":
			says(t, p, s, "0")
		default:
			says(t, p, s, "error script form 0")
		}
	}
	for _, s := range []string{"All", "ALL", "al", "alll", "all.", "*", "-1", "any"} {
		says(t, p, "send 0 "+s+" 1", "error script form 0")
		says(t, p, "came 0 "+s+" 1 1", "error script form 0")
	}
}

func TestBetweenLimits(t *testing.T) { // P27.1: numbers from each limit on: 255 and 256, 1000 and 1001, 2^32 - 1 and 2^32
	p := quiet(3, 0)
	for line, want := range map[string]string{
		"tick 999": "ok", "tick 1000": "ok", "tick 1001": "error script form 0", "tick 1009": "error script form 0", "tick 9999": "error script form 0", "tick 10000": "error script form 0",
		"deliver 255": "port", "deliver 256": "error script form 0", "deliver 257": "error script form 0", "deliver 300": "error script form 0", "deliver 999": "error script form 0",
		"cut 255": "port", "cut 256": "error script form 0", "cut 512": "error script form 0",
		"clear 255": "port", "clear 256": "error script form 0",
		"send 0 255 1": "range", "send 0 256 1": "error script form 0", "send 256 0 1": "error script form 0",
		"send 0 1 4294967295": "ok", "send 0 1 4294967296": "error script form 0", "came 0 1 4294967296 1": "error script form 0",
		"came 0 1 4294967295 255": "0", "came 0 1 4294967295 256": "error script form 0",
	} {
		says(t, p, line, want)
	}
}

func TestGreatLetters(t *testing.T) { // P27.1: letters of each number are told apart: none is another one, modulo anything
	s, want := "tick 30\n", oks(1)
	numbers := []uint32{0, 1, 9, 10, 255, 256, 257, 65535, 65536, 1<<31 - 1, 1 << 31, 1<<32 - 2, 1<<32 - 1}
	for _, n := range numbers {
		s += fmt.Sprintf("came 0 1 %d 1\nsend 0 1 %d\nsend 0 1 %d\nflow\ncame 0 1 %d 1\n", n, n, n, n)
		want = append(want, "0", "ok", "state", "ok", "1")
	}
	says(t, aPlan(3, 2), s, want...)
}
