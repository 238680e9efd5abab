package tale

import (
	"fmt"
	"testing"

	"carousel/mac"
	"carousel/raps"
)

func TestSaysWords(t *testing.T) { // P26.1: each Request of layer 5, with Keep and without, with Block and without
	for _, c := range []struct {
		m    raps.Msg
		want string
	}{
		{raps.Msg{}, "nr"},
		{raps.Msg{Request: raps.NR}, "nr"},
		{raps.Msg{Request: raps.NR, Keep: true}, "nr keep"},
		{raps.Msg{Request: raps.NR, Block: true}, "rb"},
		{raps.Msg{Request: raps.NR, Block: true, Keep: true}, "rb keep"},
		{raps.Msg{Request: raps.MS}, "ms"},
		{raps.Msg{Request: raps.MS, Keep: true}, "ms keep"},
		{raps.Msg{Request: raps.MS, Block: true}, "ms"},
		{raps.Msg{Request: raps.MS, Block: true, Keep: true}, "ms keep"},
		{raps.Msg{Request: raps.SF}, "sf"},
		{raps.Msg{Request: raps.SF, Keep: true}, "sf keep"},
		{raps.Msg{Request: raps.SF, Block: true}, "sf"},
		{raps.Msg{Request: raps.SF, Block: true, Keep: true}, "sf keep"},
		{raps.Msg{Request: raps.FS}, "fs"},
		{raps.Msg{Request: raps.FS, Keep: true}, "fs keep"},
		{raps.Msg{Request: raps.FS, Block: true}, "fs"},
		{raps.Msg{Request: raps.FS, Block: true, Keep: true}, "fs keep"},
		{raps.Msg{Request: 1}, "none"},
		{raps.Msg{Request: 1, Keep: true}, "none keep"},
		{raps.Msg{Request: 1, Block: true}, "none"},
		{raps.Msg{Request: 1, Block: true, Keep: true}, "none keep"},
		{raps.Msg{Request: 14, Block: true}, "none"},
		{raps.Msg{Request: 255, Keep: true}, "none keep"},
	} {
		if got := Says(c.m, true); got != c.want {
			t.Errorf("Says(%+v, true) = %q, want %q", c.m, got, c.want)
		}
		if got := Says(c.m, false); got != "silent" {
			t.Errorf("Says(%+v, false) = %q", c.m, got)
		}
	}
}

// saying is how a message is told, read a second time, by its number.
func saying(m raps.Msg) string {
	s := "none"
	switch uint8(m.Request) {
	case 0:
		s = "nr"
		if m.Block {
			s = "rb"
		}
	case 7:
		s = "ms"
	case 11:
		s = "sf"
	case 13:
		s = "fs"
	}
	if m.Keep {
		s += " keep"
	}
	return s
}

func TestSaysAll(t *testing.T) { // P26.1: all the 256 numbers, each of the four flags, and any Node: East and Node change nothing
	words := map[string]int{}
	for k := range 256 {
		for flags := range 16 {
			m := raps.Msg{Request: raps.Kind(k), Block: flags&1 > 0, Keep: flags&2 > 0, East: flags&4 > 0}
			want := "silent"
			if flags&8 > 0 {
				want = saying(m)
			}
			// Of no node, of nodes, of a group, of no address: how it is told hangs on none of them.
			for _, a := range []mac.Addr{0, 1, 0x020000000001, 0x0200000000ff, mac.All, 0x0119a7000001, 1<<64 - 1} {
				m.Node = a
				if got := Says(m, flags&8 > 0); got != want {
					t.Fatalf("Says(%+v, %v) = %q, want %q", m, flags&8 > 0, got, want)
				}
			}
			words[want]++
		}
	}
	// Half of all are silent; of the others each of Block and Keep is there once without and once with, East twice.
	want := map[string]int{
		"silent": 2048, "nr": 2, "nr keep": 2, "rb": 2, "rb keep": 2, "ms": 4, "ms keep": 4,
		"sf": 4, "sf keep": 4, "fs": 4, "fs keep": 4, "none": 1008, "none keep": 1008,
	}
	if fmt.Sprint(words) != fmt.Sprint(want) {
		t.Errorf("%v, want %v", words, want)
	}
}
