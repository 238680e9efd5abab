package erps

import (
	"fmt"
	"math/rand"
	"slices"
	"strings"
	"testing"

	"carousel/api"
	"carousel/burst"
	"carousel/chart"
	"carousel/flush"
	"carousel/mac"
	"carousel/plan"
	"carousel/raps"
	"carousel/req"
)

// listed is the chart, word by word as chapter 13 lists it.
const listed = `
| any | FS | either | TakeFS StopWaits | Forced |
| Idle Protect Manual Pending | RemoteFS | either | OpenAll Silence StopWaits | Forced |
| Idle Protect Manual Pending | SF | either | TakeSF StopWaits | Protect |
| Protect | ClearSF | either | Guard SayNone Rest | Pending |
| Idle Protect Manual Pending | RemoteSF | either | OpenSound Silence StopWaits | Protect |
| Idle Pending | RemoteMS | either | OpenSound Silence StopWaits | Manual |
| Manual | RemoteMS | yes | Guard SayNone BlockWait | Pending |
| Manual | RemoteMS | no | OpenSound Silence | Manual |
| Idle Pending | MS | either | TakeMS StopWaits | Manual |
| Manual Forced | Clear | yes | Guard SayNone BlockWait | Pending |
| Pending | Clear, RestOver, BlockOver | either | Home StopWaits | Idle |
| any | RemoteIdle | no | HomeFar | Idle |
| Idle Pending | RemoteNone | either | Yield | as it was |
| Protect | RemoteNone | either | Rest | Pending |
| Manual Forced | RemoteNone | no | BlockWait | Pending |
`

// Each name stands at its number.
var (
	stateNames   = []string{"Idle", "Protect", "Manual", "Forced", "Pending"}
	requestNames = []string{"Clear", "FS", "RemoteFS", "SF", "ClearSF", "RemoteSF", "RemoteMS", "MS", "RestOver", "RestRuns", "BlockOver", "BlockRuns", "RemoteIdle", "RemoteNone"}
)

// row is a row of the listed chart.
type row struct {
	acts []string
	next string
}

// readChart is the listed chart, by "state request mine".
func readChart() map[string]row {
	out := map[string]row{}
	for _, line := range strings.Split(strings.TrimSpace(listed), "\n") {
		cells := strings.Split(strings.Trim(line, "| "), " | ")
		sides := map[string][]bool{"either": {false, true}, "yes": {true}, "no": {false}}[cells[2]]
		for _, s := range strings.Fields(strings.Replace(cells[0], "any", strings.Join(stateNames, " "), 1)) {
			for _, k := range strings.Split(cells[1], ", ") {
				for _, mine := range sides {
					next := strings.Replace(cells[4], "as it was", s, 1)
					out[fmt.Sprint(s, " ", k, " ", mine)] = row{strings.Fields(cells[3]), next}
				}
			}
		}
	}
	return out
}

// model is a node, as the chapter tells it, step by step.
type model struct {
	chart  map[string]row
	now    int64
	owner  bool
	plain  bool
	rpl    int
	revert bool
	me     mac.Addr

	state           string
	shut, bad       [2]bool
	own             string
	due             map[string]int64
	length          map[string]int64
	pairs           [2]string
	say             string
	speaks          bool
	next            int64
	said            int
	gap, period     int64
	emptied         bool
	reached         map[string]bool
	port            int
	by              raps.Msg
	taken           bool
	spokeAtThisTick bool
}

func newModel(p plan.Plan, i int, now int64, reached map[string]bool) *model {
	m := &model{
		chart: readChart(), now: now, owner: i == p.Owner, me: p.Node(i), revert: p.Revert,
		state: "Pending", due: map[string]int64{}, reached: reached, gap: p.Gap, period: p.Period,
		length: map[string]int64{"guard": p.Guard, "rest": p.Rest, "block": p.Wait},
	}
	m.rpl = api.East
	if i == (p.Owner+1)%p.Nodes {
		m.rpl = api.West
	} else if !m.owner {
		m.plain = true
	}
	m.shut[m.rpl] = true
	m.tell("NR", false, false, m.shut[api.East])
	m.wait("rest")
	return m
}

func (m *model) tell(words string, block, keep, east bool) {
	m.say = fmt.Sprint(words, " ", block, " ", keep, " ", east, " ", m.me)
	m.speaks, m.next, m.said = true, m.now, 0
}

func (m *model) hush() { m.say, m.speaks, m.next, m.said = "", false, 0, 0 }

func (m *model) wait(name string) {
	if m.owner && m.revert {
		m.due[name] = m.now + m.length[name]
	}
}

func (m *model) runs(name string) bool {
	_, yes := m.due[name]
	return yes
}

// highest is the number of the highest request that stands.
func (m *model) highest() int {
	switch {
	case m.own == "FS":
		return 1
	case m.bad[0] || m.bad[1]:
		return 3
	case m.own == "MS":
		return 7
	case m.runs("rest"):
		return 9
	case m.runs("block"):
		return 11
	}
	return 99
}

func (m *model) ask(k string) {
	number := slices.Index(requestNames, k)
	m.taken = false
	if m.highest() < number {
		return
	}
	if (k == "Clear" || k == "RestOver" || k == "BlockOver") && m.state == "Pending" && !m.owner {
		return
	}
	if k == "RemoteIdle" && m.owner {
		return
	}
	at := fmt.Sprint(m.state, " ", k, " ", m.own != "")
	r, some := m.chart[at]
	if !some {
		return
	}
	m.reached[at] = true
	for _, act := range r.acts {
		m.act(act)
	}
	switch k {
	case "FS", "MS":
		m.own = k
	default:
		if strings.HasPrefix(k, "Remote") || r.next != "Manual" && r.next != "Forced" {
			m.own = ""
		}
	}
	m.state = r.next
	if m.state == "Pending" {
		for port := range 2 {
			if m.bad[port] {
				m.port = port
				m.ask("SF")
			}
		}
	}
	m.taken = true
}

func (m *model) shuts(port int, others bool, words string, block bool) {
	far := 1 - port
	keep := m.shut[port]
	m.shut[port] = true
	m.shut[far] = others && m.bad[far]
	m.tell(words, block, keep, port == 1)
	m.emptied = m.emptied || !keep
}

func (m *model) openSound() {
	for port := range 2 {
		if m.shut[port] && !m.bad[port] {
			m.shut[port] = false
		}
	}
}

func (m *model) act(a string) {
	switch a {
	case "TakeFS":
		m.shuts(m.port, false, "FS", false)
	case "TakeSF":
		m.shuts(m.port, true, "SF", false)
	case "TakeMS":
		m.shuts(m.port, false, "MS", false)
	case "OpenSound":
		m.openSound()
	case "OpenAll":
		m.shut = [2]bool{}
	case "Silence":
		m.hush()
	case "Guard":
		m.due["guard"] = m.now + m.length["guard"]
	case "SayNone":
		m.tell("NR", false, false, !m.shut[0] && m.shut[1])
	case "Rest":
		m.wait("rest")
	case "BlockWait":
		m.wait("block")
	case "StopWaits":
		delete(m.due, "rest")
		delete(m.due, "block")
	case "Home":
		m.shuts(m.rpl, true, "NR", true)
	case "HomeFar":
		m.openSound()
		if !m.plain && !m.owner {
			m.shut[m.rpl] = true
		}
		m.hush()
	case "Yield":
		if m.plain && m.by.Node > m.me {
			m.openSound()
			m.hush()
		}
	default:
		panic(a)
	}
}

func (m *model) order(k string, port int) string {
	if k != "Clear" && k != "FS" && k != "MS" {
		return "name"
	}
	if k != "Clear" && port != 0 && port != 1 {
		return "port"
	}
	m.port = port
	m.ask(k)
	if !m.taken {
		return "state"
	}
	return "ok"
}

func (m *model) fault(port int, isBad bool) {
	if port != 0 && port != 1 || m.bad[port] == isBad {
		return
	}
	m.bad[port] = isBad
	m.port = port
	if isBad {
		m.ask("SF")
	} else if m.bad == [2]bool{} {
		m.ask("ClearSF")
	}
}

func (m *model) hear(port int, by raps.Msg) {
	if port != 0 && port != 1 || by.Node == m.me || m.runs("guard") {
		return
	}
	told := fmt.Sprint(by.Node, by.East)
	if by.Request == raps.NR && !by.Block {
		m.pairs[port] = ""
	} else if m.pairs[port] != told {
		m.pairs[port] = told
		if !by.Keep && m.pairs[1-port] != told {
			m.emptied = true
		}
	}
	m.by = by
	word := map[raps.Kind]string{raps.FS: "RemoteFS", raps.SF: "RemoteSF", raps.MS: "RemoteMS", raps.NR: "RemoteNone"}[by.Request]
	if by.Block {
		word = "RemoteIdle"
	}
	m.ask(word)
}

func (m *model) tick() {
	for {
		first := ""
		for _, name := range []string{"guard", "rest", "block"} {
			if m.runs(name) && m.due[name] <= m.now && (first == "" || m.due[name] < m.due[first]) {
				first = name
			}
		}
		if first == "" {
			break
		}
		delete(m.due, first)
		switch first {
		case "rest":
			m.ask("RestOver")
		case "block":
			m.ask("BlockOver")
		}
	}
	m.spokeAtThisTick = m.speaks && m.next <= m.now
	if m.spokeAtThisTick {
		m.said++
		m.next = m.now + m.period
		if m.said <= 2 {
			m.next = m.now + m.gap
		}
	}
}

// text is the model, as a text that a node can be held against.
func (m *model) text() string {
	dues := []int64{-1, -1, -1}
	for i, name := range []string{"guard", "rest", "block"} {
		if m.runs(name) {
			dues[i] = m.due[name]
		}
	}
	return fmt.Sprint(m.state, m.shut, m.bad, m.own, dues, m.pairs, m.say, m.speaks, m.next, min(m.said, 3))
}

// textOf is a node, as a text.
func textOf(n Node) string {
	own := map[req.Kind]string{req.FS: "FS", req.MS: "MS", req.None: ""}[n.Own]
	var pairs [2]string
	for port, p := range n.Pairs {
		if p.Some {
			pairs[port] = fmt.Sprint(p.Node, p.East)
		} else if p != (flush.Pair{}) {
			pairs[port] = "no pair, but something"
		}
	}
	say := ""
	if n.Burst.On {
		word := map[raps.Kind]string{raps.FS: "FS", raps.SF: "SF", raps.MS: "MS", raps.NR: "NR"}[n.Say.Request]
		say = fmt.Sprint(word, " ", n.Say.Block, " ", n.Say.Keep, " ", n.Say.East, " ", n.Say.Node)
	} else if n.Say != (raps.Msg{}) {
		say = "nothing, but something"
	}
	dues := []int64{n.Bank.Due(0), n.Bank.Due(1), n.Bank.Due(2)}
	return fmt.Sprint(stateNames[n.State], n.Shut, n.Bad, own, dues, pairs, say, n.Burst.On, n.Burst.Next, n.Burst.Said)
}

// stands holds a node to P17.4, and to what no call changes.
func stands(t *testing.T, begun, n Node) {
	t.Helper()
	switch {
	case n.State == chart.Idle && n.Own != req.None,
		n.Own == req.FS && n.State != chart.Forced,
		n.Own == req.MS && n.State != chart.Manual,
		n.Own != req.FS && n.Own != req.MS && n.Own != req.None,
		n.Burst.On && n.Say.Node != n.Me,
		!n.Burst.On && n.Say != raps.Msg{}:
		t.Fatalf("%+v", n)
	}
	for name := 3; name < 8; name++ {
		if n.Bank.Runs(name) {
			t.Fatalf("timer %d runs: %+v", name, n)
		}
	}
	if n.Me != begun.Me || n.Role != begun.Role || n.Rpl != begun.Rpl || n.Revert != begun.Revert ||
		n.Guard != begun.Guard || n.Rest != begun.Rest || n.Wait != begun.Wait ||
		n.Burst.Gap != begun.Burst.Gap || n.Burst.Period != begun.Burst.Period {
		t.Fatalf("begun\n%+v, now\n%+v", begun, n)
	}
}

// run is a drawn run: a node, its model, and what is drawn from.
type run struct {
	t     *testing.T
	r     *rand.Rand
	p     plan.Plan
	first Node
	n     Node
	m     *model
	told  []raps.Msg
}

func drawRun(t *testing.T, r *rand.Rand, reached map[string]bool) *run {
	p := aPlan(r.Intn(3) > 0)
	p.Nodes = 3 + r.Intn(3)
	p.Owner = r.Intn(p.Nodes)
	p.Guard, p.Rest, p.Wait = int64(1+r.Intn(4)), int64(1+r.Intn(8)), int64(1+r.Intn(8))
	p.Gap, p.Period = int64(1+r.Intn(3)), int64(1+r.Intn(5))
	i, now := r.Intn(p.Nodes), int64(r.Intn(3))*(greatestTick-1000)/2
	if r.Intn(2) == 0 {
		i = p.Owner
	}
	n, e := New(p, i, now)
	if e != api.OK {
		t.Fatalf("New(%+v, %d, %d): %v", p, i, now, e)
	}
	return &run{t: t, r: r, p: p, first: n, n: n, m: newModel(p, i, now, reached)}
}

// drawMsg is a message that may be, not seldom one that was told before.
func (d *run) drawMsg() raps.Msg {
	if len(d.told) > 0 && d.r.Intn(3) == 0 {
		return d.told[d.r.Intn(len(d.told))]
	}
	kinds := []raps.Kind{raps.NR, raps.NR, raps.MS, raps.SF, raps.FS}
	m := raps.Msg{Request: kinds[d.r.Intn(len(kinds))], Keep: d.r.Intn(3) == 0, East: d.r.Intn(2) == 0, Node: d.p.Node(d.r.Intn(d.p.Nodes))}
	if m.Request == raps.NR {
		m.Block = d.r.Intn(2) == 0
	}
	if d.r.Intn(10) == 0 {
		m.Node = 0xfe << 40
	}
	d.told = append(d.told, m)
	return m
}

// step makes one drawn call of the node and of its model; what it was, and whether tables are emptied.
func (d *run) step() (name string, empties bool) {
	port := d.r.Intn(2)
	if d.r.Intn(12) == 0 {
		port = []int{-1, 2, 3}[d.r.Intn(3)]
	}
	d.m.emptied = false
	switch c := d.r.Intn(10); {
	case c < 3:
		d.m.now += int64(d.r.Intn(4))
		n, speaks, empties := d.n.Tick(d.m.now)
		d.m.tick()
		if speaks != d.m.spokeAtThisTick {
			d.t.Fatalf("Tick(%d) of\n%+v speaks: %v", d.m.now, d.n, speaks)
		}
		d.n = n
		return fmt.Sprint("Tick ", d.m.now), empties
	case c < 6:
		m := d.drawMsg()
		d.m.hear(port, m)
		d.n, empties = d.n.Hear(d.m.now, port, m)
		return fmt.Sprintf("Hear %d %+v", port, m), empties
	case c < 8:
		isBad := d.r.Intn(5) < 2
		d.m.fault(port, isBad)
		d.n, empties = d.n.Fault(d.m.now, port, isBad)
		return fmt.Sprint("Fault ", port, isBad), empties
	}
	k := []req.Kind{req.Clear, req.Clear, req.FS, req.MS, req.MS, req.Kind(d.r.Intn(int(req.None)))}[d.r.Intn(6)]
	want := d.m.order(requestNames[k], port)
	n, empties, e := d.n.Order(d.m.now, k, port)
	if e.Word() != want || e != api.OK && (n != d.n || empties) {
		d.t.Fatalf("Order(%d, %v, %d) of\n%+v\n= %+v, %v, %v, want %s", d.m.now, k, port, d.n, n, empties, e, want)
	}
	d.n = n
	return fmt.Sprint("Order ", k, port), empties
}

func TestDrawnRuns(t *testing.T) { // P17.1 to P17.4: drawn runs, held against the chapter step by step
	reached := map[string]bool{}
	for seed := range int64(1500) {
		d := drawRun(t, rand.New(rand.NewSource(seed)), reached)
		if got, want := textOf(d.n), d.m.text(); got != want {
			t.Fatalf("run %d begins\n%s, want\n%s", seed, got, want)
		}
		for i := range 80 {
			was, kept := d.n, d.n
			name, empties := d.step()
			if got, want := textOf(d.n), d.m.text(); got != want || empties != d.m.emptied {
				t.Fatalf("run %d, call %d: %s: of\n%s came\n%s, %v, want\n%s, %v", seed, i, name, textOf(was), got, empties, want, d.m.emptied)
			}
			if was != kept {
				t.Fatalf("run %d, call %d: %s: the node is\n%+v, it was\n%+v", seed, i, name, was, kept)
			}
			stands(t, d.first, d.n)
		}
	}
	everyRow(t, reached)
}

// everyRow holds the runs to have reached each row of the chart that a node can come to.
func everyRow(t *testing.T, reached map[string]bool) {
	t.Helper()
	for at := range readChart() {
		words := strings.Fields(at)
		// A switch of its own stands in Manual and Forced alone (P17.4).
		never := words[2] == "true" && words[0] != "Manual" && words[0] != "Forced"
		if reached[at] == never {
			t.Errorf("%s: reached: %v", at, reached[at])
		}
	}
}

func TestSameAgain(t *testing.T) { // R3, R5: the same calls of the same node answer the same, whatever was called between
	n := begun(t, ownerAt, true)
	calls := []call{ordered(5, req.FS, api.West), faulted(5, api.East, true), heard(5, api.West, failed(above)), ticked(restTicks), ticked(1)}
	for _, c := range calls {
		want, yes := c(n)
		for _, between := range calls {
			between(n)
			if got, again := c(n); got != want || again != yes {
				t.Errorf("%+v, %v, then %+v, %v", want, yes, got, again)
			}
		}
	}
	if n != begun(t, ownerAt, true) || n.Burst != (burst.Burst{Gap: gapTicks, Period: perTicks, On: true}) {
		t.Errorf("the node is %+v", n)
	}
}
