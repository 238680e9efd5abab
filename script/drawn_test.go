package script

import (
	"fmt"
	"math/rand"
	"slices"
	"strings"
	"sync"
	"testing"

	"carousel/plan"
)

// drawNumber is a number below most, or now and then one of those that there aren't.
func drawNumber(r *rand.Rand, most int) int {
	if r.Intn(25) == 0 {
		return r.Intn(256)
	}
	return r.Intn(most)
}

// drawLine is a line of which nothing is wrong.
func drawLine(r *rand.Rand, p plan.Plan) string {
	way, node, line := drawNumber(r, 2*p.Nodes), drawNumber(r, p.Nodes), drawNumber(r, p.Nodes)
	port := []string{"west", "east"}[r.Intn(2)]
	to := fmt.Sprint(drawNumber(r, p.Nodes))
	if r.Intn(3) == 0 {
		to = "all"
	}
	// Few numbers, so that letters are met again.
	letter := fmt.Sprintf("%d %s %d", node, to, []uint32{0, 1, 2, 1<<32 - 1}[r.Intn(4)])
	switch pick := r.Intn(100); {
	case pick < 18:
		n := []int{0, 1, 1, 2, 3, 5, 9, 20, 40}[r.Intn(9)]
		if r.Intn(60) == 0 {
			n = 100 + r.Intn(901)
		}
		return fmt.Sprintf("tick %d", n)
	case pick < 24:
		return "flow"
	case pick < 36:
		return fmt.Sprintf("deliver %d", way)
	case pick < 41:
		return fmt.Sprintf("drop %d", way)
	case pick < 44:
		return fmt.Sprintf("down %d", way)
	case pick < 47:
		return fmt.Sprintf("up %d", way)
	case pick < 50:
		return fmt.Sprintf("cut %d", line)
	case pick < 54:
		return fmt.Sprintf("mend %d", line)
	case pick < 59:
		return fmt.Sprintf("%s %d %s", []string{"fs", "ms", "ms"}[r.Intn(3)], node, port)
	case pick < 63:
		return fmt.Sprintf("clear %d", node)
	case pick < 78:
		return "send " + letter
	case pick < 93:
		return fmt.Sprintf("came %s %d", letter, drawNumber(r, p.Nodes))
	case pick < 96:
		return "lines"
	}
	return fmt.Sprintf("counts %d", node)
}

// twice are lines by which a letter comes to a host twice, where frames aren't lost: it goes round while another port is shut.
func twice(r *rand.Rand, p plan.Plan) string {
	i := r.Intn(p.Nodes)
	from := (i + 1) % p.Nodes
	return text("tick 30", fmt.Sprintf("fs %d west", i), "tick 12", fmt.Sprintf("send %d all 9", from), fmt.Sprintf("deliver %d", 2*from),
		fmt.Sprintf("fs %d east", i), "flow", fmt.Sprintf("came %d all 9 %d", from, i), "")
}

// drawScript is a script of so many lines of which nothing is wrong, and empty ones.
func drawScript(r *rand.Rand, p plan.Plan, lines int) string {
	var s strings.Builder
	if r.Intn(20) == 0 {
		s.WriteString(twice(r, p))
	}
	for k := range lines {
		if k > 0 || r.Intn(4) == 0 {
			s.WriteString(strings.Repeat("\n", 1+max(0, r.Intn(6)-4)))
		}
		s.WriteString(drawLine(r, p))
	}
	s.WriteString(strings.Repeat("\n", r.Intn(3)))
	return s.String()
}

// pieces are what may come into a script that is changed.
var pieces = []string{" ", "  ", "\n", "\r", "\t", "0", "1", "9", "00", "256", "1001", "4294967296", "-1", "+", "all", "west", "east", "tick", "lines", "x", "\x00", "\xff", "\u00a0", " 1", "1 ", "\n ", "\nflow\n"}

// changed is a script some of whose bytes are others.
func changed(r *rand.Rand, s string) string {
	for range 1 + r.Intn(3) {
		if s == "" {
			return pieces[r.Intn(len(pieces))]
		}
		at := r.Intn(len(s))
		// What stands last is changed more often: names are long.
		if r.Intn(3) > 0 {
			at = len(s) - 1 - r.Intn(1+len(s)/3)
		}
		switch r.Intn(5) {
		case 0:
			s = s[:at] + s[at+1:]
		case 1:
			s = s[:at] + string([]byte{byte(r.Intn(256))}) + s[at+1:]
		case 2:
			s = s[:at] + s[at:at+1] + s[at:]
		case 3:
			s = s[:at]
		default:
			s = s[:at] + pieces[r.Intn(len(pieces))] + s[at:]
		}
	}
	return s
}

// drawBytes are any bytes, or words in any order.
func drawBytes(r *rand.Rand) string {
	if r.Intn(2) == 0 {
		b := make([]byte, r.Intn(200))
		r.Read(b)
		return string(b)
	}
	var l []string
	for range r.Intn(8) {
		l = append(l, []string{"tick", "flow", "cut", "send", "came", "lines", "fs", "0", "1", "2", "all", "west", "\n", "\nlines\n", ""}[r.Intn(15)])
	}
	return strings.Join(l, " ")
}

// drawn is a script, and a plan, of any kind.
func drawn(r *rand.Rand) (string, plan.Plan) {
	p := drawPlan(r)
	s := drawScript(r, p, 1+r.Intn(60))
	switch r.Intn(20) {
	case 0:
		s = drawBytes(r)
	case 1:
		bad := badPlans()
		p = bad[r.Intn(len(bad))].plan
	case 2:
		s += strings.Repeat("\n", 65530+r.Intn(10)-min(len(s), 65530))
	case 3, 4, 5, 6, 7:
		s = changed(r, s)
	}
	return s, p
}

// meet counts what was said, by the first word of its line.
func meet(met map[string]int, s string, said []string) {
	if isError(said) {
		met[strings.Join(strings.Fields(said[0])[:3], " ")]++
		return
	}
	k := 0
	for _, line := range strings.Split(s, "\n") {
		switch words := strings.Fields(line); {
		case line == "":
			met["empty"]++
		case words[0] == "lines":
			for ; !strings.HasPrefix(said[k], "ring "); k++ {
				met["lines"]++
			}
			met[said[k]]++
			k++
		case words[0] == "counts":
			if k < len(said) && strings.HasPrefix(said[k], "counts "+words[1]+" ") {
				met["counts"]++
				k++
				continue
			}
			met["counts of none"]++
		default:
			met[words[0]+": "+said[k]]++
			k++
		}
	}
}

func TestDrawnScripts(t *testing.T) { // P27.1, P27.2: drawn scripts, of right lines and of changed bytes, over drawn plans, held to a second reading of the chapter, and asked twice
	t.Parallel()
	met := map[string]int{}
	for seed := range int64(3000) {
		r := rand.New(rand.NewSource(seed))
		s, p := drawn(r)
		want := reads(s, p)
		says(t, p, s, want...)
		says(t, p, s, want...)
		meet(met, s, want)
	}
	for _, k := range []string{
		"error plan range", "error plan tag", "error script name", "error script form", "error script long", "empty", "lines", "counts", "counts of none",
		"tick: ok", "flow: ok", "deliver: ok", "deliver: none", "deliver: port", "drop: ok", "drop: none", "drop: port", "down: ok", "down: port", "up: ok", "up: port",
		"cut: ok", "cut: port", "mend: ok", "mend: port", "fs: ok", "fs: port", "ms: ok", "ms: state", "ms: port", "clear: ok", "clear: state", "clear: port",
		"send: ok", "send: state", "send: range", "came: 0", "came: 1", "came: 2", "ring whole 1", "ring parts 2", "ring parts 3",
	} {
		if met[k] < 20 {
			t.Errorf("%s was met %d times", k, met[k])
		}
	}
	// A switch that is forced is never above what is asked.
	if met["fs: state"] != 0 {
		t.Errorf("fs: state was met %d times", met["fs: state"])
	}
}

func TestDrawnLinesAlone(t *testing.T) { // P27.1: single lines with changed bytes, told to be right or wrong as a second reading tells them
	t.Parallel()
	r := rand.New(rand.NewSource(1))
	p := quiet(3, 1)
	met := map[string]int{}
	for range 40000 {
		s := strings.Repeat("\n", r.Intn(2)) + changed(r, drawLine(r, p))
		said := reads(s, p)
		says(t, p, s, said...)
		if isError(said) {
			met[said[0]]++
		} else {
			met["right"]++
		}
	}
	for _, k := range []string{"right", "error script name 0", "error script form 0", "error script name 1", "error script form 1"} {
		if met[k] < 100 {
			t.Errorf("%s was met %d times: %v", k, met[k], met)
		}
	}
}

func TestEmptyLinesPutIn(t *testing.T) { // P27.2: empty lines put in change nothing of what is said but the number of a line that is wrong
	t.Parallel()
	for seed := range int64(300) {
		r := rand.New(rand.NewSource(seed))
		p := drawPlan(r)
		lines := strings.Split(drawScript(r, p, 1+r.Intn(30)), "\n")
		wrong := []string{"walk", " ", "tick", "fs 1 up", "tick 1001"}[r.Intn(5)]
		at := r.Intn(len(lines) + 1)
		for _, bad := range []bool{false, true} {
			l := slices.Clone(lines)
			if bad {
				l = slices.Insert(l, at, wrong)
			}
			var out []string
			number := -1
			for k, s := range l {
				for range max(0, r.Intn(5)-2) {
					out = append(out, "")
				}
				if bad && k == at {
					number = len(out)
				}
				out = append(out, s)
			}
			want := Run(text(l...), p)
			if bad {
				word := strings.Fields(want[0])[2]
				if want[0] != fmt.Sprintf("error script %s %d", word, at) {
					t.Fatalf("line %d of %q: %q", at, text(l...), want)
				}
				want = []string{fmt.Sprintf("error script %s %d", word, number)}
			}
			says(t, p, text(out...), want...)
		}
	}
}

func TestLongerScripts(t *testing.T) { // P27.2: what a right script says is how a longer one begins that begins with it
	t.Parallel()
	for seed := range int64(120) {
		r := rand.New(rand.NewSource(seed))
		p := drawPlan(r)
		lines := strings.Split(drawScript(r, p, 1+r.Intn(25)), "\n")
		whole := Run(text(lines...), p)
		for n := range len(lines) + 1 {
			begin := Run(text(lines[:n]...), p)
			if len(begin) > len(whole) || !slices.Equal(begin, whole[:len(begin)]) {
				t.Fatalf("run %d: %q says %q, and a longer one %q", seed, lines[:n], begin, whole)
			}
		}
		// Each line by itself says as much as one.
		if isError(whole) {
			t.Fatalf("run %d: %q", seed, whole)
		}
	}
}

func TestRunsApart(t *testing.T) { // P27.2, R5: one Run changes nothing of another one, ahead of it, behind it, or at the same time
	t.Parallel()
	type runOf struct {
		script string
		plan   plan.Plan
		want   []string
	}
	var l []runOf
	for seed := range int64(60) {
		s, p := drawn(rand.New(rand.NewSource(seed)))
		l = append(l, runOf{s, p, reads(s, p)})
	}
	var all sync.WaitGroup
	for k := range 8 {
		all.Go(func() {
			r := rand.New(rand.NewSource(int64(k)))
			for range 100 {
				x := l[r.Intn(len(l))]
				if got := Run(x.script, x.plan); !slices.Equal(got, x.want) {
					t.Errorf("%s says %s, want %s", shown(x.script), shown(text(got...)), shown(text(x.want...)))
				}
			}
		})
	}
	all.Wait()
}

func TestHandedOut(t *testing.T) { // R3: what was handed out may be written into: nothing else is turned by that
	for _, s := range []string{"walk", "tick 1\nlines\ncounts 0\nsend 0 1 7\nflow\ncame 0 1 7 1", strings.Repeat("x", 65537), "lines\nlines"} {
		for _, p := range []plan.Plan{aPlan(3, 0), {}} {
			first := Run(s, p)
			want := slices.Clone(first)
			other := Run(s, p)
			for i := range first {
				first[i] = "written over"
			}
			first = append(first, "written behind")
			if !slices.Equal(other, want) {
				t.Errorf("%s: %q, and it was %q", shown(s), other, want)
			}
			says(t, p, s, want...)
		}
	}
}

func TestSameEachTime(t *testing.T) { // P27.2: no order in which a map is gone through is to be seen
	p := aPlan(16, 5)
	s := "tick 30\n"
	for i := range 16 {
		s += fmt.Sprintf("send %d all 7\nsend %d %d 8\n", i, i, (i+5)%16)
	}
	s += "cut 3\nms 9 west\nlines\nflow\ntick 20\nmend 3\n" + asked(16)
	for i := range 16 {
		s += fmt.Sprintf("\ncame %d all 7 3\ncame %d %d 8 %d", i, i, (i+5)%16, (i+5)%16)
	}
	want := Run(s, p)
	for range 40 {
		says(t, p, s, want...)
	}
}

func TestAnyBytes(t *testing.T) { // R1, W5: of any bytes and any plan no Run panics, and each ends
	t.Parallel()
	r := rand.New(rand.NewSource(3))
	for range 3000 {
		p := drawPlan(r)
		if r.Intn(3) == 0 {
			number := func() int64 {
				return []int64{minInt, -1, 0, 1, 2, 3, 16, 17, 255, 256, 1 << 20, 1<<20 + 1, 1 << 40, maxInt}[r.Intn(14)]
			}
			p = plan.Plan{
				Nodes: int(number()), Owner: int(number()), Level: uint8(number()), Data: uint16(number()), Ring: uint16(number()),
				Interval: number(), Hold: number(), Guard: number(), Rest: number(), Wait: number(), Gap: number(), Period: number(), Age: number(),
				Room: int(number()), Queue: int(number()), Revert: r.Intn(2) == 0,
			}
		}
		s := drawBytes(r)
		says(t, p, s, reads(s, p)...)
	}
}
