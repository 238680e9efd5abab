package chart

import (
	"sync"

	"carousel/req"
)

// row is what is done, and what comes next.
type row struct {
	acts []Act
	next State
}

// rows are the chart: a row of each state, request and side.
type rows [stateCount][req.None][sides]row

// laid is the chart, once laying is done; nobody writes it but laying.
var (
	laying sync.Once
	laid   rows
)

// Lists that a line has.
type (
	states []State
	kinds  []req.Kind
	acts   []Act
)

// line is a row as the document lists it, of several states, requests and sides.
type line struct {
	from  states
	asked kinds
	mine  []bool
	does  acts
	next  State
}

// lines are the chart as the document lists it: no two have a state, request and side in common.
func lines() []line {
	all := states{Idle, Protect, Manual, Forced, Pending}
	unforced := states{Idle, Protect, Manual, Pending}
	calm := states{Idle, Pending}
	switched := states{Manual, Forced}
	either, own, other := []bool{false, true}, []bool{true}, []bool{false}
	return []line{
		{all, kinds{req.FS}, either, acts{TakeFS, StopWaits}, Forced},
		{unforced, kinds{req.RemoteFS}, either, acts{OpenAll, Silence, StopWaits}, Forced},
		{unforced, kinds{req.SF}, either, acts{TakeSF, StopWaits}, Protect},
		{states{Protect}, kinds{req.ClearSF}, either, acts{Guard, SayNone, Rest}, Pending},
		{unforced, kinds{req.RemoteSF}, either, acts{OpenSound, Silence, StopWaits}, Protect},
		{calm, kinds{req.RemoteMS}, either, acts{OpenSound, Silence, StopWaits}, Manual},
		{states{Manual}, kinds{req.RemoteMS}, own, acts{Guard, SayNone, BlockWait}, Pending},
		{states{Manual}, kinds{req.RemoteMS}, other, acts{OpenSound, Silence}, Manual},
		{calm, kinds{req.MS}, either, acts{TakeMS, StopWaits}, Manual},
		{switched, kinds{req.Clear}, own, acts{Guard, SayNone, BlockWait}, Pending},
		{states{Pending}, kinds{req.Clear, req.RestOver, req.BlockOver}, either, acts{Home, StopWaits}, Idle},
		{all, kinds{req.RemoteIdle}, other, acts{HomeFar}, Idle},
		{calm, kinds{req.RemoteNone}, either, acts{Yield}, asItWas},
		{states{Protect}, kinds{req.RemoteNone}, either, acts{Rest}, Pending},
		{switched, kinds{req.RemoteNone}, other, acts{BlockWait}, Pending},
	}
}

// lay is the chart by state, request and side.
func lay() rows {
	out := still()
	for _, l := range lines() {
		for _, s := range l.from {
			for _, k := range l.asked {
				for _, mine := range l.mine {
					out[s][k][side(mine)] = l.of(s)
				}
			}
		}
	}
	return out
}

// still is a chart by which nothing is done, and each state stays.
func still() rows {
	var out rows
	for s := range stateCount {
		for k := range req.None {
			for at := range sides {
				out[s][k][at].next = s
			}
		}
	}
	return out
}

// of is a line's row of one of its states.
func (l line) of(s State) row {
	if l.next == asItWas {
		return row{acts: l.does, next: s}
	}
	return row{acts: l.does, next: l.next}
}
