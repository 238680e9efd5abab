package erps

import (
	"fmt"
	"testing"

	"carousel/api"
	"carousel/chart"
	"carousel/raps"
	"carousel/req"
)

var ringPorts = []int{api.West, api.East}

// alone is which ports are shut where that one alone is.
func alone(port int) change { return shut(port == api.West, port == api.East) }

// other is the other one of both ring ports.
func other(port int) int { return api.West + api.East - port }

func TestTakeFS(t *testing.T) { // P17.2, any | FS | TakeFS StopWaits | Forced
	for _, port := range ringPorts {
		name := fmt.Sprintf("port %d", port)
		c := ordered(60, req.FS, port)
		east := port == api.East
		news := []change{state(chart.Forced), alone(port), own(req.FS), says(60, raps.FS, false, false, east)}
		known := []change{state(chart.Forced), alone(port), own(req.FS), says(60, raps.FS, false, true, east)}

		plain := idle(t, plainAt, true)
		is(t, name+" Idle", plain, c, true, news...)
		is(t, name+" Protect", behind(plain, heard(55, api.West, failed(above))), c, true, append(news, paired(api.West, failed(above)))...)
		is(t, name+" Manual, another's", behind(plain, heard(55, api.West, switched(above))), c, true, news...)
		is(t, name+" Forced, another's", behind(plain, heard(55, api.West, forced(above))), c, true, news...)
		is(t, name+" Manual, its own, there", behind(plain, ordered(55, req.MS, port)), c, false, known...)
		is(t, name+" Manual, its own, not there", behind(plain, ordered(55, req.MS, other(port))), c, true, news...)
		is(t, name+" Forced, its own, there", behind(plain, ordered(55, req.FS, port)), c, false, known...)
		is(t, name+" Forced, its own, not there", behind(plain, ordered(55, req.FS, other(port))), c, true, news...)
		// The other port is opened, though a fault stands there.
		is(t, name+" Protect, the other bad", behind(plain, faulted(55, other(port), true)), c, true, news...)
		is(t, name+" Protect, it is bad", behind(plain, faulted(55, port, true)), c, false, known...)
		is(t, name+" Protect, both bad", behind(plain, faulted(55, port, true), faulted(56, other(port), true)), c, false, known...)
	}
	owner := begun(t, ownerAt, true)
	is(t, "Pending, it waits, west", owner, ordered(5, req.FS, api.West), true,
		state(chart.Forced), shut(true, false), own(req.FS), says(5, raps.FS, false, false, false), stopped(1))
	is(t, "Pending, it waits, east", owner, ordered(5, req.FS, api.East), false,
		state(chart.Forced), shut(false, true), own(req.FS), says(5, raps.FS, false, true, true), stopped(1))
	owner = behind(owner, ordered(5, req.MS, api.West), ordered(6, req.Clear, api.West))
	is(t, "Pending, it waits to block", owner, ordered(7, req.FS, api.West), false,
		state(chart.Forced), own(req.FS), says(7, raps.FS, false, true, false), stopped(2))
}

func TestOpenAll(t *testing.T) { // P17.3, Idle Protect Manual Pending | RemoteFS | OpenAll Silence StopWaits | Forced
	plain := idle(t, plainAt, true)
	for _, node := range []Node{
		begun(t, plainAt, true), begun(t, ownerAt, true), begun(t, neighbourAt, true),
		plain, idle(t, ownerAt, false), idle(t, neighbourAt, true),
		behind(plain, heard(55, api.West, failed(above))), behind(plain, heard(55, api.West, switched(above))),
		behind(plain, ordered(55, req.MS, api.West)), behind(plain, ordered(55, req.MS, api.East)),
		// Ports are opened though faults stand there.
		behind(plain, faulted(55, api.West, true)), behind(plain, faulted(55, api.West, true), faulted(56, api.East, true)),
		behind(idle(t, ownerAt, true), ordered(51, req.MS, api.West), ordered(52, req.Clear, 0), ticked(56)),
	} {
		for _, port := range ringPorts {
			for _, m := range []raps.Msg{forced(below), {Request: raps.FS, East: true, Node: above}} {
				changes := []change{state(chart.Forced), shut(false, false), own(req.None), silent, stopped(1), stopped(2), paired(port, m)}
				is(t, fmt.Sprintf("%v %v", node.Me, node.State), node, heard(60, port, m), true, changes...)
				m.Keep = true
				is(t, fmt.Sprintf("%v %v, to keep", node.Me, node.State), node, heard(60, port, m), false, changes...)
			}
		}
	}
}

func TestTakeSF(t *testing.T) { // P17.2, Idle Protect Manual Pending | SF | TakeSF StopWaits | Protect
	for _, port := range ringPorts {
		name := fmt.Sprintf("port %d", port)
		c := faulted(60, port, true)
		east := port == api.East
		itsBad := bad(port == api.West, east)
		news := []change{state(chart.Protect), alone(port), itsBad, own(req.None), says(60, raps.SF, false, false, east)}
		known := []change{state(chart.Protect), alone(port), itsBad, own(req.None), says(60, raps.SF, false, true, east)}

		plain := idle(t, plainAt, true)
		is(t, name+" Idle", plain, c, true, news...)
		is(t, name+" Protect, another's", behind(plain, heard(55, api.West, failed(above))), c, true, news...)
		is(t, name+" Manual, another's", behind(plain, heard(55, api.West, switched(above))), c, true, news...)
		is(t, name+" Manual, its own, there", behind(plain, ordered(55, req.MS, port)), c, false, known...)
		is(t, name+" Manual, its own, not there", behind(plain, ordered(55, req.MS, other(port))), c, true, news...)
		// Of the other port what is bad is shut.
		is(t, name+" Protect, the other bad", behind(plain, faulted(55, other(port), true)), c, true,
			shut(true, true), bad(true, true), says(60, raps.SF, false, false, east))
		is(t, name+" Protect, its own of before", behind(plain, faulted(51, port, true), faulted(52, other(port), true), faulted(53, port, false)), c, false,
			bad(true, true), says(60, raps.SF, false, true, east))
	}
	is(t, "Pending, it waits, west", begun(t, ownerAt, true), faulted(5, api.West, true), true,
		state(chart.Protect), shut(true, false), bad(true, false), says(5, raps.SF, false, false, false), stopped(1))
	is(t, "Pending, it waits, east", begun(t, ownerAt, true), faulted(5, api.East, true), false,
		state(chart.Protect), shut(false, true), bad(false, true), says(5, raps.SF, false, true, true), stopped(1))
	owner := behind(begun(t, ownerAt, true), ordered(5, req.MS, api.West), ordered(6, req.Clear, api.West))
	is(t, "Pending, it waits to block", owner, faulted(7, api.East, true), true,
		state(chart.Protect), shut(false, true), bad(false, true), says(7, raps.SF, false, false, true), stopped(2))
	// Forced, SF isn't taken, whether the switch is the node's own or not: the port is bad, and that is all.
	for _, n := range []Node{behind(idle(t, plainAt, true), ordered(55, req.FS, api.West)), behind(idle(t, plainAt, true), heard(55, api.West, forced(above)))} {
		is(t, "Forced", n, faulted(60, api.East, true), false, bad(false, true))
		is(t, "Forced, bad and gone", behind(n, faulted(60, api.East, true)), faulted(61, api.East, false), false, bad(false, false))
	}
}

func TestClearSF(t *testing.T) { // P17.2, Protect | ClearSF | Guard SayNone Rest | Pending
	for _, i := range []int{plainAt, neighbourAt, ownerAt} {
		for _, revert := range []bool{false, true} {
			for _, port := range ringPorts {
				n := behind(idle(t, i, revert), faulted(60, port, true))
				changes := []change{state(chart.Pending), bad(false, false), started(0, 70, guardTicks), says(70, raps.NR, false, false, port == api.East)}
				if i == ownerAt && revert {
					changes = append(changes, started(1, 70, restTicks))
				}
				is(t, fmt.Sprintf("node %d, revert %v, port %d", i, revert, port), n, faulted(70, port, false), false, changes...)

				// Both are shut: East isn't said where it isn't its east port alone.
				n = is(t, "the first gone", behind(n, faulted(61, other(port), true)), faulted(62, port, false), false,
					bad(port != api.West, port != api.East))
				changes[3] = says(70, raps.NR, false, false, false)
				is(t, "both gone", n, faulted(70, other(port), false), false, changes...)
			}
		}
	}
	// Protect by another's fault: where its own was never bad, there is none to be gone.
	n := behind(idle(t, plainAt, true), heard(55, api.West, failed(above)))
	stays(t, "another's", n, faulted(60, api.West, false))
	// Neither shut: that is said without East.
	n = behind(n, faulted(60, api.East, true))
	n = behind(n, heard(61, api.West, forced(above)), ordered(62, req.FS, api.East), faulted(63, api.East, false))
	is(t, "its own switch, cleared", n, ordered(64, req.Clear, 0), false,
		state(chart.Pending), own(req.None), started(0, 64, guardTicks), says(64, raps.NR, false, false, true))
}

func TestOpenSound(t *testing.T) { // P17.3, Idle Protect Manual Pending | RemoteSF | OpenSound Silence StopWaits | Protect
	plain := idle(t, plainAt, true)
	for _, node := range []Node{
		begun(t, plainAt, true), begun(t, ownerAt, true), begun(t, neighbourAt, true),
		plain, idle(t, ownerAt, false), idle(t, neighbourAt, true),
		behind(plain, heard(55, api.West, failed(above))), behind(plain, heard(55, api.West, switched(above))),
		behind(plain, ordered(55, req.MS, api.West)), behind(plain, ordered(55, req.MS, api.East)),
		behind(idle(t, ownerAt, true), ordered(51, req.MS, api.West), ordered(52, req.Clear, 0), ticked(56)),
	} {
		for _, port := range ringPorts {
			for _, m := range []raps.Msg{failed(below), {Request: raps.SF, East: true, Node: above}} {
				changes := []change{state(chart.Protect), shut(false, false), own(req.None), silent, stopped(1), stopped(2), paired(port, m)}
				if m.Node == above && node.Pairs[port].Node == above {
					node.Pairs[port].Node++
				}
				is(t, fmt.Sprintf("%v %v", node.Me, node.State), node, heard(60, port, m), true, changes...)
				m.Keep = true
				is(t, fmt.Sprintf("%v %v, to keep", node.Me, node.State), node, heard(60, port, m), false, changes...)
			}
		}
	}
}

func TestRemoteMS(t *testing.T) { // P17.3, the three rows of RemoteMS
	m := switched(above)
	for _, node := range []Node{
		begun(t, plainAt, true), begun(t, ownerAt, true), begun(t, neighbourAt, true),
		idle(t, plainAt, true), idle(t, ownerAt, true), idle(t, neighbourAt, false),
		behind(idle(t, ownerAt, true), ordered(51, req.MS, api.West), ordered(52, req.Clear, 0), ticked(56)),
	} {
		changes := []change{state(chart.Manual), shut(false, false), silent, stopped(1), stopped(2), paired(api.East, m)}
		n := is(t, fmt.Sprintf("%v %v", node.Me, node.State), node, heard(60, api.East, m), true, changes...)
		// Heard again, by the row of Manual: the same, and nothing is emptied.
		stays(t, "again", n, heard(61, api.East, m))
		is(t, "at the other port", n, heard(61, api.West, m), false, paired(api.West, m))
		is(t, "another one", n, heard(61, api.West, switched(below)), true, paired(api.West, switched(below)))
		is(t, "Forced, it isn't taken", behind(n, heard(61, api.West, forced(above))), heard(62, api.West, switched(below)), true, paired(api.West, switched(below)))
		is(t, "Protect, it isn't taken", behind(n, heard(61, api.West, failed(above))), heard(62, api.West, switched(below)), true, paired(api.West, switched(below)))
	}
	for _, i := range []int{plainAt, neighbourAt, ownerAt} {
		for _, revert := range []bool{false, true} {
			for _, port := range ringPorts {
				n := behind(idle(t, i, revert), ordered(55, req.MS, port))
				changes := []change{state(chart.Pending), own(req.None), started(0, 60, guardTicks), says(60, raps.NR, false, false, port == api.East), paired(api.West, m)}
				if i == ownerAt && revert {
					changes = append(changes, started(2, 60, blockTicks))
				}
				is(t, fmt.Sprintf("its own, node %d, revert %v, port %d", i, revert, port), n, heard(60, api.West, m), true, changes...)
			}
		}
	}
}

func TestTakeMS(t *testing.T) { // P17.2, Idle Pending | MS | TakeMS StopWaits | Manual
	for _, port := range ringPorts {
		name := fmt.Sprintf("port %d", port)
		c := ordered(60, req.MS, port)
		east := port == api.East
		news := []change{state(chart.Manual), alone(port), own(req.MS), says(60, raps.MS, false, false, east), stopped(1), stopped(2)}
		known := []change{state(chart.Manual), alone(port), own(req.MS), says(60, raps.MS, false, true, east), stopped(1), stopped(2)}
		either := func(n Node) (bool, []change) {
			if n.Shut[port] {
				return false, known
			}
			return true, news
		}
		for _, n := range []Node{
			idle(t, plainAt, true), idle(t, ownerAt, true), idle(t, neighbourAt, true),
			begun(t, plainAt, true), begun(t, ownerAt, true), begun(t, neighbourAt, true), begun(t, ownerAt, false),
			behind(idle(t, ownerAt, true), ordered(51, req.MS, api.West), ordered(52, req.Clear, 0)),
			// Both ports were bad, both are shut.
			behind(begun(t, plainAt, true), faulted(1, api.West, true), faulted(2, api.East, true), faulted(3, api.West, false), faulted(4, api.East, false)),
		} {
			empties, changes := either(n)
			is(t, fmt.Sprintf("%s %v %v", name, n.Me, n.State), n, c, empties, changes...)
		}
	}
	plain := idle(t, plainAt, true)
	refused(t, "Protect", behind(plain, heard(55, api.West, failed(above))), 60, req.MS, api.West, api.ErrState)
	refused(t, "Protect, its own", behind(plain, faulted(55, api.West, true)), 60, req.MS, api.East, api.ErrState)
	refused(t, "Manual", behind(plain, heard(55, api.West, switched(above))), 60, req.MS, api.West, api.ErrState)
	refused(t, "Manual, its own", behind(plain, ordered(55, req.MS, api.West)), 60, req.MS, api.East, api.ErrState)
	refused(t, "Forced", behind(plain, heard(55, api.West, forced(above))), 60, req.MS, api.West, api.ErrState)
	refused(t, "Forced, its own", behind(plain, ordered(55, req.FS, api.West)), 60, req.MS, api.East, api.ErrState)
}

func TestClear(t *testing.T) { // P17.2, Manual Forced | Clear | yes | Guard SayNone BlockWait | Pending, and where Clear isn't taken
	for _, i := range []int{plainAt, neighbourAt, ownerAt} {
		for _, revert := range []bool{false, true} {
			for _, k := range []req.Kind{req.FS, req.MS} {
				for _, port := range ringPorts {
					n := behind(idle(t, i, revert), ordered(55, k, port))
					changes := []change{state(chart.Pending), own(req.None), started(0, 60, guardTicks), says(60, raps.NR, false, false, port == api.East)}
					if i == ownerAt && revert {
						changes = append(changes, started(2, 60, blockTicks))
					}
					is(t, fmt.Sprintf("node %d, revert %v, %v, port %d", i, revert, k, port), n, ordered(60, req.Clear, 9), false, changes...)
				}
			}
			n := idle(t, i, revert)
			refused(t, "Idle", n, 60, req.Clear, api.West, api.ErrState)
			refused(t, "Protect", behind(n, heard(55, api.West, failed(above))), 60, req.Clear, api.West, api.ErrState)
			refused(t, "Protect, its own", behind(n, faulted(55, api.West, true)), 60, req.Clear, api.West, api.ErrState)
			refused(t, "Manual, another's", behind(n, heard(55, api.West, switched(above))), 60, req.Clear, api.West, api.ErrState)
			refused(t, "Forced, another's", behind(n, heard(55, api.West, forced(above))), 60, req.Clear, api.West, api.ErrState)
			if i != ownerAt {
				refused(t, "Pending, no owner", begun(t, i, revert), 5, req.Clear, api.West, api.ErrState)
			}
		}
	}
}

func TestStillBad(t *testing.T) { // P17.2: a node that comes to Pending asks for SF of the west port, if it is bad, then of the east one
	for _, i := range []int{plainAt, neighbourAt, ownerAt} {
		for _, port := range ringPorts {
			n := behind(idle(t, i, true), ordered(55, req.FS, port))
			clear := ordered(60, req.Clear, api.West)
			behindGuard := []change{state(chart.Protect), own(req.None), started(0, 60, guardTicks)}

			is(t, "the port is bad", behind(n, faulted(56, port, true)), clear, false,
				append(behindGuard, says(60, raps.SF, false, true, port == api.East))...)
			is(t, "the other one is", behind(n, faulted(56, other(port), true)), clear, true,
				append(behindGuard, alone(other(port)), says(60, raps.SF, false, false, port == api.West))...)
			// Shut is what TakeSF finds bad, so that the east one is shut when it is asked for.
			is(t, "both are", behind(n, faulted(56, api.East, true), faulted(57, api.West, true)), clear, port == api.East,
				append(behindGuard, shut(true, true), says(60, raps.SF, false, true, true))...)
		}
	}
}

func TestHome(t *testing.T) { // P17.2, P17.3, Pending | Clear, RestOver, BlockOver | Home StopWaits | Idle
	begin := begun(t, ownerAt, true)
	known := []change{state(chart.Idle), shut(false, true), stopped(0), stopped(1), stopped(2)}
	is(t, "Clear", begin, ordered(5, req.Clear, api.West), false, append(known, says(5, raps.NR, true, true, true))...)
	is(t, "Clear, not to go back by itself", begun(t, ownerAt, false), ordered(5, req.Clear, api.West), false, append(known, says(5, raps.NR, true, true, true))...)
	is(t, "RestOver", begin, ticked(restTicks), false, append(known, says(restTicks, raps.NR, true, true, true), spoke(1, restTicks+gapTicks))...)

	// Its own port isn't shut: tables are emptied, and the other one is opened.
	west := behind(idle(t, ownerAt, true), faulted(60, api.West, true), faulted(70, api.West, false))
	is(t, "RestOver, the west one was shut", west, ticked(70+restTicks), true,
		append(known, says(70+restTicks, raps.NR, true, false, true), spoke(1, 70+restTicks+gapTicks))...)
	is(t, "Clear, the west one was shut", west, ordered(72, req.Clear, api.West), true,
		state(chart.Idle), shut(false, true), stopped(1), says(72, raps.NR, true, false, true))
	both := behind(idle(t, ownerAt, true), faulted(60, api.West, true), faulted(61, api.East, true), faulted(62, api.East, false), faulted(70, api.West, false))
	is(t, "RestOver, both were shut", both, ticked(70+restTicks), false,
		append(known, says(70+restTicks, raps.NR, true, true, true), spoke(1, 70+restTicks+gapTicks))...)

	for _, port := range ringPorts {
		n := behind(idle(t, ownerAt, true), ordered(60, req.MS, port), ordered(70, req.Clear, api.West), ticked(71+guardTicks))
		early := behind(n, ticked(70+blockTicks-1))
		if early.State != chart.Pending || !early.Bank.Runs(2) {
			t.Errorf("ahead of BlockOver: %+v", early)
		}
		is(t, "BlockOver", n, ticked(70+blockTicks), port == api.West,
			append(known, says(70+blockTicks, raps.NR, true, port == api.East, true), spoke(1, 70+blockTicks+gapTicks))...)
	}
}

func TestHomeFar(t *testing.T) { // P17.3, any | RemoteIdle | no | HomeFar | Idle
	m := resting(above)
	told := func(n Node) []Node {
		return []Node{
			n, behind(n, faulted(60, api.West, true), faulted(61, api.West, false), ticked(66)),
			behind(n, faulted(60, api.East, true), faulted(61, api.East, false), ticked(66)),
			behind(n, faulted(59, api.East, true), faulted(60, api.West, true), faulted(61, api.East, false), faulted(62, api.West, false), ticked(66)),
			behind(n, heard(60, api.West, failed(below))), behind(n, heard(60, api.West, switched(below))),
			behind(n, heard(60, api.West, forced(below))),
			behind(n, ordered(60, req.FS, api.West), ordered(61, req.Clear, 0), ticked(66)),
		}
	}
	for _, revert := range []bool{false, true} {
		for _, n := range append(told(idle(t, plainAt, revert)), begun(t, plainAt, revert)) {
			is(t, fmt.Sprintf("plain, %v", n.State), n, heard(70, api.East, m), true,
				state(chart.Idle), shut(false, false), silent, paired(api.East, m))
		}
		for _, n := range append(told(idle(t, neighbourAt, revert)), begun(t, neighbourAt, revert)) {
			is(t, fmt.Sprintf("neighbour, %v", n.State), n, heard(70, api.East, m), true,
				state(chart.Idle), shut(true, false), silent, paired(api.East, m))
		}
		// An owner takes it in no state.
		for _, n := range append(told(idle(t, ownerAt, revert)), begun(t, ownerAt, revert)) {
			is(t, fmt.Sprintf("owner, %v", n.State), n, heard(70, api.East, m), true, paired(api.East, m))
		}
	}
	// While the node's own switch or its fault stands, it isn't taken either.
	for _, i := range []int{plainAt, neighbourAt} {
		for _, n := range []Node{
			behind(idle(t, i, true), ordered(60, req.FS, api.West)), behind(idle(t, i, true), ordered(60, req.MS, api.West)),
			behind(idle(t, i, true), faulted(60, api.West, true)),
			behind(idle(t, i, true), faulted(60, api.West, true), heard(61, api.West, forced(below))),
			behind(idle(t, i, true), heard(61, api.West, forced(below)), faulted(62, api.West, true)),
		} {
			is(t, fmt.Sprintf("%v", n.State), n, heard(70, api.East, m), true, paired(api.East, m))
		}
	}
}

func TestYield(t *testing.T) { // P17.3, Idle Pending | RemoteNone | Yield | as it was
	for _, node := range []struct {
		from   raps.Msg
		yields bool
	}{{nothing(below), false}, {nothing(above), true}, {nothing(below + plainAt + 1), true}, {nothing(below + plainAt - 1), false}, {nothing(1<<48 - 1), true}, {nothing(0), false}} {
		for _, n := range []Node{
			begun(t, plainAt, true),
			behind(begun(t, plainAt, true), faulted(5, api.West, true), faulted(6, api.West, false), ticked(11)),
			behind(begun(t, plainAt, true), faulted(4, api.East, true), faulted(5, api.West, true), faulted(6, api.West, false), faulted(7, api.East, false), ticked(12)),
			idle(t, plainAt, true),
		} {
			n.Pairs = behind(n, heard(60, api.West, failed(above))).Pairs
			if node.yields {
				is(t, fmt.Sprintf("%v, yields to %v", n.State, node.from.Node), n, heard(60, api.West, node.from), false, shut(false, false), silent, forgot(api.West))
				continue
			}
			is(t, fmt.Sprintf("%v, yields not to %v", n.State, node.from.Node), n, heard(60, api.West, node.from), false, forgot(api.West))
		}
	}
	// No other node yields.
	for _, n := range []Node{begun(t, ownerAt, true), begun(t, ownerAt, false), begun(t, neighbourAt, true), idle(t, ownerAt, true), idle(t, neighbourAt, true)} {
		stays(t, fmt.Sprintf("%v, %v", n.Me, n.State), n, heard(60, api.West, nothing(above)))
	}
}

func TestRemoteNone(t *testing.T) { // P17.3, Protect | RemoteNone | Rest | Pending, and Manual Forced | RemoteNone | no | BlockWait | Pending
	for _, i := range []int{plainAt, neighbourAt, ownerAt} {
		for _, revert := range []bool{false, true} {
			waits := func(name int, length int64) change {
				if i == ownerAt && revert {
					return started(name, 60, length)
				}
				return func(*Node) {}
			}
			n := idle(t, i, revert)
			c := heard(60, api.East, nothing(above))
			is(t, "Protect", behind(n, heard(55, api.West, failed(above))), c, false, state(chart.Pending), waits(1, restTicks))
			is(t, "Manual", behind(n, heard(55, api.West, switched(above))), c, false, state(chart.Pending), waits(2, blockTicks))
			is(t, "Forced", behind(n, heard(55, api.West, forced(above))), c, false, state(chart.Pending), waits(2, blockTicks))
			// While its own switch or fault stands, it isn't taken.
			stays(t, "Manual, its own", behind(n, ordered(55, req.MS, api.West)), c)
			stays(t, "Forced, its own", behind(n, ordered(55, req.FS, api.West)), c)
			stays(t, "Protect, its own", behind(n, faulted(55, api.West, true)), c)
			stays(t, "Forced, bad", behind(n, heard(55, api.West, forced(above)), faulted(56, api.West, true)), c)
		}
	}
	// While the wait runs it isn't taken: the wait doesn't start again.
	n := behind(idle(t, ownerAt, true), heard(55, api.West, failed(above)), heard(60, api.East, nothing(above)))
	stays(t, "it waits", n, heard(65, api.East, nothing(above)))
}

func TestHighest(t *testing.T) { // P17.2, P17.3: what stands above a request keeps it back
	plain := idle(t, plainAt, true)
	far := map[string]raps.Msg{"FS": forced(above), "SF": failed(above), "MS": switched(above), "NR": nothing(above), "NR Block": resting(above)}
	kept := func(name string, n Node, words ...string) {
		t.Helper()
		for _, w := range words {
			m := far[w]
			want := wanted(n, paired(api.West, m))
			if w == "NR" {
				want = wanted(n, forgot(api.West))
			}
			if got, empties := n.Hear(60, api.West, m); got != want || empties != (w != "NR") {
				t.Errorf("%s, %s: %+v, %v, want %+v", name, w, got, empties, want)
			}
		}
	}
	kept("FS", behind(plain, ordered(55, req.FS, api.West)), "FS", "SF", "MS", "NR", "NR Block")
	kept("SF", behind(plain, faulted(55, api.West, true)), "SF", "MS", "NR", "NR Block")
	kept("SF at both", behind(plain, faulted(55, api.East, true), faulted(55, api.West, true)), "SF", "MS", "NR", "NR Block")
	kept("MS", behind(plain, ordered(55, req.MS, api.West)), "NR", "NR Block")
	kept("RestRuns", begun(t, ownerAt, true), "NR", "NR Block")
	kept("BlockRuns", behind(begun(t, ownerAt, true), ordered(1, req.MS, api.West), ordered(2, req.Clear, 0), ticked(6)), "NR", "NR Block")
	// An owner's waits keep no switch and no fault back.
	for _, n := range []Node{begun(t, ownerAt, true), behind(begun(t, ownerAt, true), ordered(1, req.MS, api.West), ordered(2, req.Clear, 0), ticked(6))} {
		for w, next := range map[string]chart.State{"FS": chart.Forced, "SF": chart.Protect, "MS": chart.Manual} {
			is(t, "a wait, "+w, n, heard(60, api.West, far[w]), true, state(next), shut(false, false), silent, stopped(1), stopped(2), paired(api.West, far[w]))
		}
	}
}

func TestStands(t *testing.T) { // P17.2: what stands highest, in nodes of any kind
	for bits := range 1 << 4 {
		for _, k := range []req.Kind{req.None, req.FS, req.MS} {
			n, want := idle(t, ownerAt, true), req.None
			n.Own = k
			if bits&1 != 0 {
				n.Bank, _ = n.Bank.Start(2, 5, 5)
				want = req.BlockRuns
			}
			if bits&2 != 0 {
				n.Bank, _ = n.Bank.Start(1, 5, 5)
				want = req.RestRuns
			}
			if k == req.MS {
				want = k
			}
			n.Bad = [2]bool{bits&4 != 0, bits&8 != 0}
			if n.Bad != [2]bool{} {
				want = req.SF
			}
			if k == req.FS {
				want = k
			}
			if got := n.highest(); got != want {
				t.Errorf("%+v: %v stands highest, want %v", n, got, want)
			}
		}
	}
	for name := -2; name < 10; name++ {
		want := req.None
		switch name {
		case 1:
			want = req.RestOver
		case 2:
			want = req.BlockOver
		}
		if got := whenOver(name); got != want {
			t.Errorf("timer %d: %v, want %v", name, got, want)
		}
	}
	// The wait to restore keeps back what the wait to block would lead to.
	n := begun(t, ownerAt, true)
	n.Bank, _ = n.Bank.Start(2, 0, restTicks-1)
	n = behind(n, ticked(restTicks-1))
	if n.State != chart.Pending || n.Bank.Runs(2) || !n.Bank.Runs(1) {
		t.Errorf("ahead of RestOver: %+v", n)
	}
	if n = behind(n, ticked(restTicks)); n.State != chart.Idle {
		t.Errorf("at RestOver: %+v", n)
	}
}

func TestHearEmpties(t *testing.T) { // P17.3: tables are emptied, if layer 14 says so, or what is asked
	n := idle(t, plainAt, true)
	n = is(t, "SF is new", n, heard(60, api.West, failed(above)), true,
		state(chart.Protect), paired(api.West, failed(above)))
	stays(t, "told again", n, heard(61, api.West, failed(above)))
	n = is(t, "told at the other port", n, heard(61, api.East, failed(above)), false, paired(api.East, failed(above)))
	n = is(t, "to keep", n, heard(62, api.West, raps.Msg{Request: raps.SF, Keep: true, Node: below}), false, paired(api.West, failed(below)))
	n = is(t, "forgotten", n, heard(63, api.West, nothing(above)), false, state(chart.Pending), forgot(api.West))
	is(t, "new again, but known at the other port", n, heard(64, api.West, failed(above)), false, state(chart.Protect), paired(api.West, failed(above)))
	is(t, "its other port", n, heard(64, api.West, raps.Msg{Request: raps.SF, East: true, Node: above}), true,
		state(chart.Protect), paired(api.West, raps.Msg{East: true, Node: above}))
}

func TestTick(t *testing.T) { // P17.3: timers that are over, and speaking
	n := begun(t, ownerAt, true)
	var said []int64
	for now := range int64(30) {
		m, speaks, empties := n.Tick(now)
		if speaks {
			said = append(said, now)
		}
		if empties || (m.State == chart.Idle) != (now >= restTicks) {
			t.Errorf("Tick(%d) = %+v, %v, %v", now, m, speaks, empties)
		}
		n = m
	}
	if got, want := fmt.Sprint(said), "[0 2 4 11 18 20 22 24]"; got != want {
		t.Errorf("said at %s, want %s", got, want)
	}
	// One that says nothing doesn't speak, and is as it was.
	quiet := idle(t, plainAt, true)
	for _, now := range []int64{50, 51, 1000, greatestTick} {
		if m, speaks, empties := quiet.Tick(now); m != quiet || speaks || empties {
			t.Errorf("Tick(%d) = %+v, %v, %v", now, m, speaks, empties)
		}
	}
	// One that is late speaks once.
	m, speaks, _ := begun(t, plainAt, true).Tick(1000)
	if again, yes, _ := m.Tick(1000); !speaks || yes || again != m {
		t.Errorf("late: %+v, %v, then %+v, %v", m, speaks, again, yes)
	}
}

func TestNoWaits(t *testing.T) { // P17.3: of a plan that doesn't revert, and of a node that is no owner, nothing comes by itself
	for i := range nodeCount {
		for _, revert := range []bool{false, true} {
			if i == ownerAt && revert {
				continue
			}
			for name, n := range map[string]Node{
				"begun":  begun(t, i, revert),
				"fault":  behind(begun(t, i, revert), faulted(1, api.West, true), faulted(2, api.West, false)),
				"order":  behind(begun(t, i, revert), ordered(1, req.FS, api.West), ordered(2, req.Clear, 0)),
				"told":   behind(begun(t, i, revert), heard(1, api.West, failed(above)), heard(2, api.West, nothing(above))),
				"switch": behind(begun(t, i, revert), heard(1, api.West, switched(above)), heard(2, api.West, nothing(above))),
			} {
				if n.Bank.Runs(1) || n.Bank.Runs(2) {
					t.Errorf("node %d, %s: it waits: %+v", i, name, n)
				}
				m, _, empties := n.Tick(greatestTick)
				if m.State != chart.Pending || m.Say != n.Say || m.Shut != n.Shut || empties {
					t.Errorf("node %d, %s: %+v, %v", i, name, m, empties)
				}
				if _, some := m.Bank.Next(); some {
					t.Errorf("node %d, %s: a timer is left: %+v", i, name, m)
				}
			}
		}
	}
}

func TestSeveralOver(t *testing.T) { // P17.3: several timers over at once, in whatever order
	for _, late := range []int64{restTicks, restTicks + 1, 1000} {
		n := behind(idle(t, ownerAt, true), faulted(60, api.West, true), faulted(70, api.West, false))
		is(t, "guard, then the wait to restore", n, ticked(70+late), true,
			state(chart.Idle), shut(false, true), stopped(0), stopped(1), says(70+late, raps.NR, true, false, true), spoke(1, 70+late+gapTicks))
		n = behind(idle(t, ownerAt, true), ordered(60, req.FS, api.West), ordered(70, req.Clear, 0))
		is(t, "guard, then the wait to block", n, ticked(70+late), true,
			state(chart.Idle), shut(false, true), stopped(0), stopped(2), says(70+late, raps.NR, true, false, true), spoke(1, 70+late+gapTicks))
	}
	// A guard that is longer than the wait is popped behind it, and goes on when the wait is over.
	p := aPlan(true)
	p.Guard, p.Wait = 30, 3
	n, _ := New(p, ownerAt, 0)
	n = behind(n, ordered(1, req.FS, api.West), ordered(2, req.Clear, 0))
	changes := []change{state(chart.Idle), shut(false, true), stopped(2)}
	is(t, "the wait alone", n, ticked(10), true, append(changes, says(10, raps.NR, true, false, true), spoke(1, 10+gapTicks))...)
	is(t, "the wait, then the guard", n, ticked(32), true, append(changes, stopped(0), says(32, raps.NR, true, false, true), spoke(1, 32+gapTicks))...)
	p.Guard = 3
	n, _ = New(p, ownerAt, 0)
	n = behind(n, ordered(1, req.FS, api.West), ordered(2, req.Clear, 0))
	is(t, "both at one tick", n, ticked(5), true, append(changes, stopped(0), says(5, raps.NR, true, false, true), spoke(1, 5+gapTicks))...)
	// A wait that is over where it is no more Pending was stopped.
	n = behind(n, heard(5, api.West, nothing(above)), faulted(4, api.West, true), ticked(50))
	if n.State != chart.Protect || n.Shut != [2]bool{true, false} {
		t.Errorf("%+v", n)
	}
}

func TestActsAlone(t *testing.T) { // P17.2: what an act does where a fault stands, though what stands keeps the requests back that would lead there
	sound := [4][2]bool{{false, false}, {true, false}, {false, true}, {true, true}}
	for _, i := range []int{plainAt, neighbourAt, ownerAt} {
		for _, shutPorts := range sound {
			for _, badPorts := range sound {
				n := begun(t, i, true)
				n.Shut, n.Bad = shutPorts, badPorts
				far := [2]bool{shutPorts[0] && badPorts[0], shutPorts[1] && badPorts[1]}
				done := func(act chart.Act) call {
					return func(n Node) (Node, bool) { return n.do(act, asking{now: 5, by: nothing(above)}) }
				}
				is(t, "OpenSound", n, done(chart.OpenSound), false, shut(far[0], far[1]))
				is(t, "OpenAll", n, done(chart.OpenAll), false, shut(false, false))
				switch i {
				case plainAt:
					is(t, "Yield", n, done(chart.Yield), false, shut(far[0], far[1]), silent)
					is(t, "HomeFar of a plain node", n, done(chart.HomeFar), false, shut(far[0], far[1]), silent)
				case neighbourAt:
					stays(t, "Yield of a neighbour", n, done(chart.Yield))
					is(t, "HomeFar of a neighbour", n, done(chart.HomeFar), false, shut(true, far[1]), silent)
				case ownerAt:
					stays(t, "Yield of an owner", n, done(chart.Yield))
					is(t, "Home", n, done(chart.Home), !shutPorts[1], shut(badPorts[0], true), says(5, raps.NR, true, shutPorts[1], true))
				}
				is(t, "SayNone", n, done(chart.SayNone), false, says(5, raps.NR, false, false, shutPorts == [2]bool{false, true}))
			}
		}
	}
}
