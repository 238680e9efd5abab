// Package mac is layer 2: addresses (shared/doc/02-mac.md).
package mac

import (
	"carousel/api"
	"carousel/field"
)

const (
	addrBits = 48
	addrSize = 6
	// Each byte's text is a pair of digits; all but the last have a colon behind it.
	textStep = 3
	textSize = addrSize*textStep - 1
	// The lowest bit of the first byte, as the number counts its bits.
	groupBit = 40
)

// Addr is an address.
type Addr uint64

// All is the address to all.
const All Addr = 0xffffffffffff

// May says whether a number is an address.
func (a Addr) May() bool { return a <= All }

// Group says whether an address is a group's.
func (a Addr) Group() bool { return a.May() && a>>groupBit&1 == 1 }

// Bytes are an address's six bytes; none, if the number is no address.
func (a Addr) Bytes() string {
	// Pack refuses just the numbers that are no addresses, with an empty text.
	s, _ := field.Pack(field.Part{Width: addrBits, Value: uint64(a)})
	return s
}

// Of is the address of six bytes.
func Of(s string) (Addr, api.Errno) {
	// Of this one width Split has no error but ErrShort.
	l, rest, e := field.Split(s, addrBits)
	if e != api.OK {
		return 0, e
	}
	if rest != "" {
		return 0, api.ErrLong
	}
	return Addr(l[0]), api.OK
}

// String is an address's text; empty, if the number is no address.
func (a Addr) String() string {
	s := a.Bytes()
	var out []byte
	for i := range len(s) {
		if i > 0 {
			out = append(out, ':')
		}
		out = append(out, digit(s[i]>>4), digit(s[i]&15))
	}
	return string(out)
}

// Parse is the address of a text.
func Parse(s string) (Addr, api.Errno) {
	if len(s) != textSize {
		return 0, api.ErrForm
	}
	a := Addr(0)
	for i := range addrSize {
		at := i * textStep
		if i > 0 && s[at-1] != ':' {
			return 0, api.ErrForm
		}
		high, ok1 := digitValue(s[at])
		low, ok2 := digitValue(s[at+1])
		if !ok1 || !ok2 {
			return 0, api.ErrForm
		}
		a = a<<8 | high<<4 | low
	}
	return a, api.OK
}

// digit is the digit of a number below 16.
func digit(n byte) byte {
	switch {
	case n < 10:
		return '0' + n
	default:
		return 'a' + n - 10
	}
}

// digitValue is the number of a digit. Capitals are none: else two texts would tell one address.
func digitValue(c byte) (Addr, bool) {
	switch {
	case c >= '0' && c <= '9':
		return Addr(c - '0'), true
	case c >= 'a' && c <= 'f':
		return Addr(c-'a') + 10, true
	}
	return 0, false
}
