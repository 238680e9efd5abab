package script

import (
	"fmt"
	"math/big"
	"regexp"
	"slices"
	"strconv"
	"strings"

	"carousel/api"
	"carousel/event"
	"carousel/plan"
	"carousel/req"
	"carousel/ring"
	"carousel/tale"
)

// table is the chapter's table, told a second time: of each name the words behind it, each as one of kinds.
var table = map[string][]string{
	"tick": {"N"}, "flow": {},
	"deliver": {"D"}, "drop": {"D"}, "down": {"D"}, "up": {"D"},
	"cut": {"D"}, "mend": {"D"},
	"fs": {"D", "P"}, "ms": {"D", "P"}, "clear": {"D"},
	"send": {"D", "T", "K"}, "came": {"D", "T", "K", "D"},
	"lines": {}, "counts": {"D"},
}

// kinds are of words: N to 1000, D to 255, T likewise or all, P a port, K any digits, which are looked at once more.
var kinds = map[string]*regexp.Regexp{
	"N": regexp.MustCompile(`^(0|[1-9][0-9]?[0-9]?|1000)$`),
	"D": regexp.MustCompile(`^(0|[1-9][0-9]?|1[0-9][0-9]|2[0-4][0-9]|25[0-5])$`),
	"T": regexp.MustCompile(`^(all|0|[1-9][0-9]?|1[0-9][0-9]|2[0-4][0-9]|25[0-5])$`),
	"P": regexp.MustCompile(`^(west|east)$`),
	"K": regexp.MustCompile(`^(0|[1-9][0-9]*)$`),
}

// wordIs says whether a word is of a kind.
func wordIs(kind, s string) bool {
	if !kinds[kind].MatchString(s) {
		return false
	}
	if kind != "K" {
		return true
	}
	n, ok := new(big.Int).SetString(s, 10)
	return ok && n.Cmp(new(big.Int).Lsh(big.NewInt(1), 32)) < 0
}

// fault is what is wrong with a line that isn't empty.
func fault(line string) string {
	name, rest, more := strings.Cut(line, " ")
	want, known := table[name]
	if !known {
		return "name"
	}
	var words []string
	for more {
		var s string
		s, rest, more = strings.Cut(rest, " ")
		words = append(words, s)
	}
	if len(words) != len(want) {
		return "form"
	}
	for i, s := range words {
		if !wordIs(want[i], s) {
			return "form"
		}
	}
	return ""
}

// letterOf is what one host sends to another one, or to all (-1).
type letterOf struct {
	from, to int
	n        uint32
}

// comer is a letter that came at a host.
type comer struct {
	l    letterOf
	host int
}

// reading is a second reading of the chapter: a ring, which letters were sent, what came, one by one, and what is said.
type reading struct {
	p    plan.Plan
	r    *ring.Ring
	sent []letterOf
	came []comer
	said []string
}

// reads is what a script says.
func reads(script string, p plan.Plan) []string {
	if e := p.Check(); e != api.OK {
		return []string{"error plan " + e.Word()}
	}
	if len(script) >= 65537 {
		return []string{"error script long 0"}
	}
	for i, s := range strings.Split(script, "\n") {
		if s == "" {
			continue
		}
		if f := fault(s); f != "" {
			return []string{fmt.Sprintf("error script %s %d", f, i)}
		}
	}
	return readingOf(p, script).said
}

// readingOf reads a script and a plan of which nothing is wrong.
func readingOf(p plan.Plan, script string) *reading {
	r, e := ring.New(p)
	if e != api.OK {
		panic(e)
	}
	d := &reading{p: p, r: r}
	for _, s := range strings.Split(script, "\n") {
		if s != "" {
			d.said = append(d.said, d.line(strings.Fields(s))...)
		}
	}
	return d
}

// does has an event happen, and looks at what came.
func (d *reading) does(v event.Event) api.Errno {
	e := d.r.Do(v)
	for i := range d.p.Nodes {
		for _, s := range d.r.Heard(i) {
			for _, l := range d.sent {
				if frameOf(d.p, l.from, l.to, l.n) == s {
					d.came = append(d.came, comer{l, i})
				}
			}
		}
	}
	return e
}

// line is what a line of these words says.
func (d *reading) line(words []string) []string {
	v := make([]int, 5)
	for i, s := range words[1:] {
		switch s {
		case "west":
			v[i] = 0
		case "east":
			v[i] = 1
		case "all":
			v[i] = -1
		default:
			v[i], _ = strconv.Atoi(s)
		}
	}
	switch words[0] {
	case "came":
		n := 0
		for _, c := range d.came {
			if c == (comer{letterOf{v[0], v[1], uint32(v[2])}, v[3]}) {
				n++
			}
		}
		return []string{fmt.Sprint(n)}
	case "lines":
		return tale.Lines(d.r)
	case "counts":
		if v[0] >= d.p.Nodes {
			return nil
		}
		return []string{tale.Counts(d.r, v[0])}
	}
	return []string{d.deed(words[0], v)}
}

// deed does what a line does, and is its error's word.
func (d *reading) deed(name string, v []int) string {
	switch name {
	case "tick":
		for range v[0] {
			if e := d.does(tick()); e != api.OK {
				return e.Word()
			}
			d.does(flow())
		}
		return "ok"
	case "flow":
		return d.does(flow()).Word()
	case "deliver":
		return d.does(deliver(v[0])).Word()
	case "drop":
		return d.does(drop(v[0])).Word()
	case "down":
		return d.does(down(v[0])).Word()
	case "up":
		return d.does(up(v[0])).Word()
	case "cut", "mend":
		if v[0] >= d.p.Nodes {
			return "port"
		}
		east, back := waysOf(d.p.Nodes, v[0])
		if name == "cut" {
			d.does(down(east))
			return d.does(down(back)).Word()
		}
		d.does(up(east))
		return d.does(up(back)).Word()
	case "fs":
		return d.does(order(v[0], v[1], req.FS)).Word()
	case "ms":
		return d.does(order(v[0], v[1], req.MS)).Word()
	case "clear":
		return d.does(order(v[0], api.West, req.Clear)).Word()
	}
	return d.send(letterOf{v[0], v[1], uint32(v[2])})
}

// send has a host send a letter, each once.
func (d *reading) send(l letterOf) string {
	switch {
	case l.from >= d.p.Nodes || l.to >= d.p.Nodes:
		return "range"
	case slices.Contains(d.sent, l):
		return "state"
	}
	d.sent = append(d.sent, l)
	return d.does(host(l.from, frameOf(d.p, l.from, l.to, l.n))).Word()
}
