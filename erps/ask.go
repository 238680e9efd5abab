package erps

import (
	"carousel/api"
	"carousel/chart"
	"carousel/plan"
	"carousel/raps"
	"carousel/req"
)

// asking is a request, when it is asked, and of which port or by which message.
type asking struct {
	now  int64
	kind req.Kind
	port int
	by   raps.Msg
}

// ask is the node behind a request; whether tables are emptied, and whether the request is taken.
func (n Node) ask(a asking) (m Node, empties, taken bool) {
	if !n.mayTake(a.kind) {
		return n, false, false
	}
	acts, next := chart.Look(n.State, a.kind, n.Own != req.None)
	if len(acts) == 0 {
		return n, false, false
	}
	for _, act := range acts {
		var emptied bool
		n, emptied = n.do(act, a)
		empties = empties || emptied
	}
	n.Own = n.ownBehind(a.kind, next)
	n.State = next
	if next == chart.Pending {
		m, emptied := n.askAgain(a.now)
		return m, empties || emptied, true
	}
	return n, empties, true
}

// askAgain asks for what a higher request has kept back: the faults that still stand.
func (n Node) askAgain(now int64) (m Node, empties bool) {
	m = n
	for port, bad := range n.Bad {
		if !bad {
			continue
		}
		var emptied bool
		m, emptied, _ = m.ask(asking{now: now, kind: req.SF, port: port})
		empties = empties || emptied
	}
	return m, empties
}

// mayTake says whether a request comes as far as the chart: nothing above it stands, and it is one for this node.
func (n Node) mayTake(k req.Kind) bool {
	if n.highest().Above(k) {
		return false
	}
	switch k {
	case req.Clear, req.RestOver, req.BlockOver:
		return n.State != chart.Pending || n.Role == plan.Owner
	case req.RemoteIdle:
		return n.Role != plan.Owner
	}
	return true
}

// highest is the highest of the requests that stand.
func (n Node) highest() req.Kind {
	stand := []req.Kind{n.Own}
	if n.faulty() {
		stand = append(stand, req.SF)
	}
	if n.Bank.Runs(restWait) {
		stand = append(stand, req.RestRuns)
	}
	if n.Bank.Runs(blockWait) {
		stand = append(stand, req.BlockRuns)
	}
	return req.Best(stand...)
}

// ownBehind is the node's own switch that stands behind a request that is taken.
func (n Node) ownBehind(k req.Kind, next chart.State) req.Kind {
	switch {
	case k == req.FS || k == req.MS:
		return k
	case k.Remote():
		fallthrough
	case next != chart.Manual && next != chart.Forced:
		return req.None
	}
	return n.Own
}

func (n Node) faulty() bool { return n.Bad[api.West] || n.Bad[api.East] }
