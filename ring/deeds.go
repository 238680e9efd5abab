package ring

import (
	"carousel/api"
	"carousel/bridge"
	"carousel/event"
	"carousel/req"
)

// deed has an event of its kind happen, or tells why it doesn't: then nothing changes.
type deed func(v event.Event) api.Errno

// laid is what happens, by the kinds of events.
func (r *Ring) laid() map[event.Kind]deed {
	return map[event.Kind]deed{
		event.Tick: r.tick,
		event.Flow: r.flow,

		event.Deliver: r.ofWay(func(d int) api.Errno {
			return r.deliver(d)
		}),
		event.Drop: r.ofWay(func(d int) api.Errno {
			_, e := r.pop(d)
			return e
		}),
		event.Down: r.ofWay(func(d int) api.Errno {
			r.ways[d] = r.ways[d].Set(false)
			return api.OK
		}),
		event.Up: r.ofWay(func(d int) api.Errno {
			r.ways[d] = r.ways[d].Set(true)
			return api.OK
		}),

		event.Order: r.ofNode(func(i int, v event.Event) api.Errno {
			return r.bridges[i].Order(r.now, req.Kind(v.C), int(v.B))
		}),
		event.Host: r.ofNode(func(i int, v event.Event) api.Errno {
			r.take(i, api.Local, v.Bytes)
			return api.OK
		}),
	}
}

// ofWay is a deed that asks for a way.
func (r *Ring) ofWay(do func(d int) api.Errno) deed {
	return func(v event.Event) api.Errno {
		d := int(v.A)
		if !r.hasWay(d) {
			return api.ErrPort
		}
		return do(d)
	}
}

// ofNode is a deed that asks for a node.
func (r *Ring) ofNode(do func(i int, v event.Event) api.Errno) deed {
	return func(v event.Event) api.Errno {
		i := int(v.A)
		if !r.hasNode(i) {
			return api.ErrPort
		}
		return do(i, v)
	}
}

// tick has a tick go.
func (r *Ring) tick(event.Event) api.Errno {
	if r.now >= api.MaxTime {
		return api.ErrFull
	}
	r.now++
	for i, b := range r.bridges {
		r.goOut(i, b.Tick(r.now))
	}
	return api.OK
}

// flow has all come that is on its way, and what goes out by that, till none is, or there were Rounds.
func (r *Ring) flow(event.Event) api.Errno {
	for range Rounds {
		if r.rests() {
			break
		}
		for d := range r.ways {
			// As many as there are ahead of the first of them: there are, so that none of them has an error.
			for range r.ways[d].Len() {
				r.deliver(d)
			}
		}
	}
	return api.OK
}

// rests says whether no frame is on its way.
func (r *Ring) rests() bool {
	for _, w := range r.ways {
		if w.Len() > 0 {
			return false
		}
	}
	return true
}

// deliver has the first frame of a way come at its far end.
func (r *Ring) deliver(d int) api.Errno {
	s, e := r.pop(d)
	if e != api.OK {
		return e
	}
	node, port := r.plan.Far(d/waysOfNode, d%waysOfNode)
	r.take(node, port, s)
	return api.OK
}

// pop takes the first frame off a way.
func (r *Ring) pop(d int) (string, api.Errno) {
	w, s, ok := r.ways[d].Pop()
	if !ok {
		return "", api.ErrNone
	}
	r.ways[d] = w
	return s, api.OK
}

// take has a frame come at a port of a node.
func (r *Ring) take(i, port int, s string) {
	r.goOut(i, r.bridges[i].Take(r.now, port, s))
}

// goOut has frames go out of a node: to its host, or on their way.
func (r *Ring) goOut(i int, outs []bridge.Out) {
	for _, o := range outs {
		if o.Port == api.Local {
			r.heard[i] = append(r.heard[i], o.Bytes)
			continue
		}
		d := waysOfNode*i + o.Port
		// What isn't taken is lost: beside a false the wire is as it was.
		r.ways[d], _ = r.ways[d].Push(o.Bytes)
	}
}
