// Package field is layer 1: numbers of so many bits each, one behind the other, as bytes (shared/doc/01-field.md).
package field

import (
	"carousel/api"
)

const (
	byteBits = 8
	maxWidth = 64
)

// Part is a number of so many bits.
type Part struct {
	Width int
	Value uint64
}

// Pack is the bytes of parts.
func Pack(l ...Part) (string, api.Errno) {
	bits := 0
	for _, p := range l {
		// The width comes first: a shift by a negative number would panic.
		if !mayWidth(p.Width) || p.Value>>p.Width != 0 {
			return "", api.ErrRange
		}
		bits += p.Width
	}
	if bits%byteBits != 0 {
		return "", api.ErrForm
	}
	out := make([]byte, bits/byteBits)
	at := 0
	for _, p := range l {
		putBits(out, at, p)
		at += p.Width
	}
	return string(out), api.OK
}

// Split is the values of parts of such widths that stand first in s, and what is behind them.
func Split(s string, widths ...int) ([]uint64, string, api.Errno) {
	bits := 0
	for _, w := range widths {
		if !mayWidth(w) {
			return nil, "", api.ErrRange
		}
		bits += w
	}
	if bits%byteBits != 0 {
		return nil, "", api.ErrForm
	}
	size := bits / byteBits
	if len(s) < size {
		return nil, "", api.ErrShort
	}
	values := make([]uint64, len(widths))
	at := 0
	for i, w := range widths {
		values[i] = getBits(s, at, w)
		at += w
	}
	return values, s[size:], api.OK
}

// Noughts says whether all bytes are 0.
func Noughts(s string) bool {
	for i := range len(s) {
		if s[i] != 0 {
			return false
		}
	}
	return true
}

func mayWidth(w int) bool { return w >= 1 && w <= maxWidth }

// putBits sets a part's bits from the bit at on; out is all noughts there.
func putBits(out []byte, at int, p Part) {
	for i := range p.Width {
		bit := byte(p.Value >> (p.Width - 1 - i) & 1)
		out[(at+i)/byteBits] |= bit << (byteBits - 1 - (at+i)%byteBits)
	}
}

// getBits is the number of so many bits from the bit at on.
func getBits(s string, at, width int) uint64 {
	value := uint64(0)
	for i := range width {
		bit := s[(at+i)/byteBits] >> (byteBits - 1 - (at+i)%byteBits) & 1
		value = value<<1 | uint64(bit)
	}
	return value
}
