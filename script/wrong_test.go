package script

import (
	"fmt"
	"slices"
	"strings"
	"testing"

	"carousel/plan"
)

// right are lines of each name, of which nothing is wrong.
var right = map[string]string{
	"tick": "tick 3", "flow": "flow", "deliver": "deliver 1", "drop": "drop 1", "down": "down 1", "up": "up 1", "cut": "cut 1", "mend": "mend 1",
	"fs": "fs 1 west", "ms": "ms 1 east", "clear": "clear 1", "send": "send 0 all 7", "came": "came 0 all 7 1", "lines": "lines", "counts": "counts 1",
}

// isError says whether what is said is that a script is wrong.
func isError(said []string) bool { return len(said) == 1 && strings.HasPrefix(said[0], "error ") }

func TestPlanFirst(t *testing.T) { // P27.1, R2: each error of the plan's Check, ahead of all that is wrong with the script; of no script, too
	long := strings.Repeat("\n", 65537)
	for _, b := range badPlans() {
		if e := b.plan.Check(); e.Word() != b.want {
			t.Fatalf("%+v: %v", b.plan, e)
		}
		for _, s := range []string{"", "\n", "tick 1", "lines", "walk", "tick", "tick 1001", " ", "\xff", "lines\nwalk", "tick 1\nlines x", long, long + "walk"} {
			says(t, b.plan, s, "error plan "+b.want)
		}
	}
}

func TestNothingSaid(t *testing.T) { // P27.1: of the empty script and of line feeds alone nothing is said, of up to 65536 of them
	eachRing(func(p plan.Plan) {
		for _, n := range []int{0, 1, 2, 3, 100, 65535, 65536} {
			says(t, p, strings.Repeat("\n", n))
		}
		says(t, p, strings.Repeat("\n", 65537), "error script long 0")
	})
}

// long are scripts of so many bytes, whatever they are, and what is said of them where that isn't too long.
func longs(n int) map[string][]string {
	l := map[string][]string{
		strings.Repeat("\n", n):                     nil,
		strings.Repeat("x", n):                      {"error script name 0"},
		strings.Repeat(" ", n):                      {"error script name 0"},
		strings.Repeat("\x00", n):                   {"error script name 0"},
		strings.Repeat("\xff", n):                   {"error script name 0"},
		strings.Repeat("1", n):                      {"error script name 0"},
		strings.Repeat("\n", n-1) + "x":             {fmt.Sprintf("error script name %d", n-1)},
		"x" + strings.Repeat("\n", n-1):             {"error script name 0"},
		strings.Repeat("\n", n-5) + "flow ":         {fmt.Sprintf("error script form %d", n-5)},
		strings.Repeat("\n", n-4) + "flow":          {"ok"},
		"flow" + strings.Repeat("\n", n-4):          {"ok"},
		"flow\n\n" + strings.Repeat("\n", n-6):      {"ok"},
		"flow" + strings.Repeat(" ", n-4):           {"error script form 0"},
		"tick " + strings.Repeat("0", n-5):          {"error script form 0"},
		"tick " + strings.Repeat("1", n-5):          {"error script form 0"},
		"counts 200" + strings.Repeat("\n", n-10):   nil,
		"counts 200\n" + strings.Repeat("\n", n-11): nil,
		// Letters of more than one byte are so many bytes.
		strings.Repeat("\u00e9", n/2) + strings.Repeat("x", n%2): {"error script name 0"},
	}
	l[strings.Repeat("flow\n", n/5)+strings.Repeat("\n", n%5)] = oks(n / 5)
	return l
}

func TestLong(t *testing.T) { // P27.1: of 65537 bytes, whatever they are, and of more, long; not of 65536
	p := aPlan(3, 0)
	for s, want := range longs(65536) {
		if len(s) != 65536 {
			t.Fatal(len(s), s[:20])
		}
		says(t, p, s, want...)
	}
	for _, n := range []int{65537, 65538, 131072, 1 << 20} {
		for s := range longs(n) {
			if len(s) != n {
				t.Fatal(len(s), n)
			}
			says(t, p, s, "error script long 0")
		}
	}
}

func TestFirstWrongLine(t *testing.T) { // P27.1: the first line that is wrong, by its number, empty ones counted; what is wrong behind it isn't told
	p := aPlan(4, 1)
	for n := range 30 {
		for wrong, want := range map[string]string{"walk": "name", "tick": "form", " ": "name", "flow ": "form", "tick 1 2": "form", "walk 1 2": "name"} {
			want = fmt.Sprintf("error script %s %d", want, n)
			for _, line := range []string{"\n", "lines\n", "tick 3\n", "came 0 all 7 1\n"} {
				ahead := strings.Repeat(line, n)
				for _, behind := range []string{"", "\n", "\n\n\n", "\nlines", "\nwalk", "\ntick", "\nflow x\nwalk\n", "\n "} {
					says(t, p, ahead+wrong+behind, want)
				}
			}
		}
	}
	says(t, p, "lines\n\n\ntick 5\n\nfs 1 up\n\nwalk", "error script form 5")
	says(t, p, "lines\n\n\ntick 5\n\nwalk\n\nfs 1 up", "error script name 5")
	// Lines whose words go wrong are not lines that are wrong.
	says(t, p, "deliver 9\nms 9 west\nclear 0\nwalk", "error script name 3")
}

func TestNames(t *testing.T) { // P27.1: name, where the first word is none of these, ahead of form
	p := aPlan(4, 1)
	names := []string{"walk", "x", "ticks", "tic", "tick1", "tickk", "flows", "flo", "line", "count", "come", "cam", "sends", "sen", "msg", "f", "m", "fss", "ss", "clea", "delivers", "downs", "ups", "u", "cuts", "mends", "order", "host", "Tick", "TICK", "tICK", "Lines", "FS", "Up",
		"\ttick", "tick\t", "lines\r", "flow\r", "\rflow", "flow\x00", "\x00", "\ufefftick", "t\u0131ck", "\u00a0", "\v", "\f", "flow\v", "lines;", "#", "//", "\"lines\"", "'flow'", "0", "1", "-", "all", "west", "east", "ok", "error", "script", "plan", "none", "name", "form", "long", "nil"}
	for _, name := range names {
		for _, rest := range []string{"", " ", " 1", "  1", " 1 ", " west", " 1 west", " 0 1 7", " 0 1 7 1", " x y z", " \t", "\t1", "\t"} {
			if _, known := table[name+rest]; !known {
				says(t, p, name+rest, "error script name 0")
			}
		}
	}
	// Of a blank ahead the first word is empty.
	for _, line := range right {
		for _, ahead := range []string{" ", "  ", " \t", "\t", "\r", "x", "\x00", "-", "\ufeff"} {
			says(t, p, ahead+line, "error script name 0")
		}
		says(t, p, strings.ToUpper(line), "error script name 0")
		says(t, p, strings.ToUpper(line[:1])+line[1:], "error script name 0")
		says(t, p, strings.Replace(line, " ", "\t", 1)+"\t", "error script name 0")
	}
	for n := 1; n < 10; n++ {
		says(t, p, strings.Repeat(" ", n), "error script name 0")
		says(t, p, "\n"+strings.Repeat(" ", n)+"\n", "error script name 1")
	}
}

func TestForms(t *testing.T) { // P27.1: form, of too few words and of too many, of two blanks, of what is behind, of a line feed of two bytes
	p := aPlan(4, 1)
	for name, line := range right {
		if isError(Run(line, p)) {
			t.Fatalf("%q: %q", line, Run(line, p))
		}
		words := strings.Split(line, " ")
		for n := 1; n < len(words); n++ {
			says(t, p, strings.Join(words[:n], " "), "error script form 0")
			says(t, p, strings.Join(words[:n], " ")+" ", "error script form 0")
			// Two blanks between words, ahead of each of them: a word too many, or an empty one.
			says(t, p, strings.Join(words[:n], " ")+"  "+strings.Join(words[n:], " "), "error script form 0")
			says(t, p, strings.Join(append(slices.Clone(words[:n]), words[n+1:]...), " ")+" ", "error script form 0")
			says(t, p, strings.Join(append(append(slices.Clone(words[:n]), ""), words[n+1:]...), " "), "error script form 0")
		}
		for _, behind := range []string{" ", "  ", " 1", " 0", " x", " west", " all", " \t", " \r", " 1 2 3 4 5 6", " " + line, strings.Repeat(" 1", 1000)} {
			says(t, p, line+behind, "error script form 0")
			says(t, p, "\n"+line+behind+"\nwalk", "error script form 1")
		}
		// Where there is no word behind the first one, what is behind it is of the first one.
		want := "error script form 0"
		if len(words) == 1 {
			want = "error script name 0"
		}
		for _, behind := range []string{"\r", "\t", "\x00", "\v", "x", "\u00a0", "\xff", ";", ","} {
			says(t, p, line+behind, want)
		}
		says(t, p, line+"\r\nlines\r\n", want)
		if len(words) > 2 {
			says(t, p, strings.Join(words[:2], " ")+"\t"+strings.Join(words[2:], " "), "error script form 0")
		}
		says(t, p, name+" \t"+strings.Join(words[1:], " "), "error script form 0")
	}
}

func TestPorts(t *testing.T) { // P27.1: form, where a port is neither west nor east
	p := aPlan(4, 1)
	for _, name := range []string{"fs", "ms"} {
		for _, port := range []string{"", "up", "local", "north", "West", "EAST", "wes", "eas", "westt", "eastt", "west,", "0", "1", "2", "all", "none", "both", "w", "e", "-", "west\r", "\teast", "w\u0435st"} {
			says(t, p, name+" 1 "+port, "error script form 0")
		}
		for _, port := range []string{"west", "east"} {
			says(t, p, name+" 1 "+port, "ok")
			says(t, p, name+" "+port+" 1", "error script form 0")
			says(t, p, name+" "+port, "error script form 0")
			says(t, p, name+" "+port+" "+port, "error script form 0")
			says(t, p, "clear 1 "+port, "error script form 0")
			says(t, p, "clear "+port, "error script form 0")
		}
	}
}

func TestLineFeedAtTheEnd(t *testing.T) { // P27.1: with and without one, or with many, a script says the same
	eachRing(func(p plan.Plan) {
		for _, line := range right {
			want := Run(line, p)
			for _, s := range []string{line + "\n", "\n" + line, "\n\n" + line + "\n\n\n"} {
				says(t, p, s, want...)
			}
		}
		says(t, p, "walk\n", "error script name 0")
		says(t, p, "tick\n", "error script form 0")
		says(t, p, "tick 1\nwalk\n", "error script name 1")
	})
}
