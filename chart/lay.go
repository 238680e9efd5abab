package chart

import (
	"slices"
	"sync"

	"carousel/req"
)

// row is what is done, and what comes next.
type row struct {
	acts []Act
	next State
}

// rows are the chart: a row of each state, request and side.
type rows [stateCount][req.None][sides]row

// laid is the chart as tell tells it, once laying is done; nobody writes it but laying.
var (
	laying sync.Once
	laid   rows
)

// tell is the chart's row of a state and a request that may be, its cases in the order in which the document lists them.
func tell(s State, k req.Kind, mine bool) row {
	unforced := s != Forced
	calm := s == Idle || s == Pending
	switched := s == Manual || s == Forced
	switch {
	case k == req.FS:
		return row{[]Act{TakeFS, StopWaits}, Forced}
	case unforced && k == req.RemoteFS:
		return row{[]Act{OpenAll, Silence, StopWaits}, Forced}
	case unforced && k == req.SF:
		return row{[]Act{TakeSF, StopWaits}, Protect}
	case s == Protect && k == req.ClearSF:
		return row{[]Act{Guard, SayNone, Rest}, Pending}
	case unforced && k == req.RemoteSF:
		return row{[]Act{OpenSound, Silence, StopWaits}, Protect}
	case calm && k == req.RemoteMS:
		return row{[]Act{OpenSound, Silence, StopWaits}, Manual}
	case s == Manual && k == req.RemoteMS && mine:
		return row{[]Act{Guard, SayNone, BlockWait}, Pending}
	case s == Manual && k == req.RemoteMS && !mine:
		return row{[]Act{OpenSound, Silence}, Manual}
	case calm && k == req.MS:
		return row{[]Act{TakeMS, StopWaits}, Manual}
	case switched && k == req.Clear && mine:
		return row{[]Act{Guard, SayNone, BlockWait}, Pending}
	case s == Pending && (k == req.Clear || k == req.RestOver || k == req.BlockOver):
		return row{[]Act{Home, StopWaits}, Idle}
	case k == req.RemoteIdle && !mine:
		return row{[]Act{HomeFar}, Idle}
	case calm && k == req.RemoteNone:
		return row{[]Act{Yield}, s}
	case s == Protect && k == req.RemoteNone:
		return row{[]Act{Rest}, Pending}
	case switched && k == req.RemoteNone && !mine:
		return row{[]Act{BlockWait}, Pending}
	}
	return row{nil, s}
}

// lay is the chart by state, request and side.
func lay() rows {
	var out rows
	for s := range stateCount {
		for k := range req.None {
			out[s][k][side(false)] = tell(s, k, false)
			out[s][k][side(true)] = tell(s, k, true)
		}
	}
	return out
}

// is says whether two rows tell the same.
func (r row) is(other row) bool {
	return r.next == other.next && slices.Equal(r.acts, other.acts)
}
