package erps

import (
	"carousel/api"
	"carousel/chart"
	"carousel/plan"
	"carousel/raps"
)

// do is the node behind an act of a request; whether tables are emptied.
func (n Node) do(act chart.Act, a asking) (Node, bool) {
	switch act {
	case chart.Home:
		a.port = n.Rpl
		fallthrough
	case chart.TakeFS, chart.TakeSF, chart.TakeMS:
		return n.take(act, a)
	case chart.OpenSound:
		n.Shut = n.unsound()
	case chart.OpenAll:
		n.Shut = [2]bool{}
	case chart.Yield:
		if n.Role != plan.Plain || a.by.Node <= n.Me {
			break
		}
		// A plain node yields as it goes home.
		fallthrough
	case chart.HomeFar:
		n.Shut = n.farShut()
		fallthrough
	case chart.Silence:
		n.Say, n.Burst = raps.Msg{}, n.Burst.End()
	case chart.SayNone:
		n = n.says(a.now, raps.Msg{East: n.Shut[api.East] && !n.Shut[api.West]})
	case chart.Guard:
		n = n.starts(a.now, guard, n.Guard)
	case chart.Rest:
		n = n.waits(a.now, restWait, n.Rest)
	case chart.BlockWait:
		n = n.waits(a.now, blockWait, n.Wait)
	case chart.StopWaits:
		n.Bank = n.Bank.Stop(restWait).Stop(blockWait)
	}
	return n, false
}

// take is a node that shuts a port and says so; whether tables are emptied.
func (n Node) take(act chart.Act, a asking) (Node, bool) {
	if !ringPort(a.port) {
		return n, false
	}
	was := n.Shut[a.port]
	m := raps.Msg{Request: raps.SF, Keep: was, East: a.port == api.East}
	n.Shut = [2]bool{}
	switch act {
	case chart.TakeFS:
		m.Request = raps.FS
	case chart.TakeMS:
		m.Request = raps.MS
	case chart.Home:
		m.Request, m.Block = raps.NR, true
		// Of the other port it is as with a fault.
		fallthrough
	case chart.TakeSF:
		n.Shut = n.Bad
	}
	n.Shut[a.port] = true
	return n.says(a.now, m), !was
}

// unsound is which ports stay shut where those without a fault are opened.
func (n Node) unsound() [2]bool {
	var out [2]bool
	for port, shut := range n.Shut {
		out[port] = shut && n.Bad[port]
	}
	return out
}

// farShut is which ports are shut where the ring is at rest, as others tell.
func (n Node) farShut() [2]bool {
	out := n.unsound()
	if n.Role == plan.Neighbour && ringPort(n.Rpl) {
		out[n.Rpl] = true
	}
	return out
}

// says is a node that says something from a tick on.
func (n Node) says(now int64, m raps.Msg) Node {
	m.Node = n.Me
	n.Say, n.Burst = m, n.Burst.Begin(now)
	return n
}

// waits is a node that starts one of its waits, if it has any: those of an owner that is to go back by itself.
func (n Node) waits(now int64, name int, length int64) Node {
	if n.Role != plan.Owner || !n.Revert {
		return n
	}
	return n.starts(now, name, length)
}

// starts is a node of which a timer starts.
func (n Node) starts(now int64, name int, length int64) Node {
	// Lengths are those of a plan that may be, and ticks leave room behind them: there is no error.
	n.Bank, _ = n.Bank.Start(name, now, length)
	return n
}
