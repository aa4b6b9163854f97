// Package nums: numbers and texts as bytes: see DOC.md, chapter 1.
package nums

import (
	"bytes"
	"slices"

	"osmosis/api"
)

const (
	width   = 7          // bits of a number in a byte
	more    = 1 << width // the bit that says: another byte follows
	low     = more - 1   // the bits that are the number's
	longest = 9          // bytes that api.Most takes
)

// Put answers b and the numbers behind it, or nil if one of them may not be.
func Put(b []byte, n ...int) []byte {
	if slices.ContainsFunc(n, outside) {
		return nil
	}
	return lay(bytes.Clone(b), n...)
}

// Text answers b and the texts behind it, each with its length ahead.
func Text(b []byte, s ...string) []byte {
	own := bytes.Clone(b)
	for _, text := range s {
		own = append(lay(own, len(text)), text...)
	}
	return own
}

// Take answers the number that b begins with, and what is behind it.
func Take(b []byte) (n int, rest []byte, e api.Errno) {
	n, size, e := first(b)
	if e != api.OK {
		return 0, nil, e
	}
	return n, bytes.Clone(b[size:]), api.OK
}

// Takes answers so many numbers, and what is behind them.
func Takes(b []byte, count int) (l []int, rest []byte, e api.Errno) {
	at := 0
	for len(l) < count {
		n, size, e := first(b[at:])
		if e != api.OK {
			return nil, nil, e
		}
		l = append(l, n)
		at += size
	}
	return l, bytes.Clone(b[at:]), api.OK
}

// TakeText answers the text that b begins with, and what is behind it.
func TakeText(b []byte) (s string, rest []byte, e api.Errno) {
	length, size, e := first(b)
	if e != api.OK {
		return "", nil, e
	}
	behind := b[size:]
	if length > len(behind) {
		return "", nil, api.ErrShort
	}
	return string(behind[:length]), bytes.Clone(behind[length:]), api.OK
}

func outside(n int) bool { return n < 0 || n > api.Most }

// lay appends in place: only for memory that no caller has seen.
func lay(own []byte, numbers ...int) []byte {
	for _, n := range numbers {
		for ; n > low; n >>= width {
			own = append(own, byte(n&low|more))
		}
		own = append(own, byte(n))
	}
	return own
}

// first copies nothing, so that who takes many numbers does not copy what is
// behind each of them.
func first(b []byte) (n, size int, e api.Errno) {
	size = slices.IndexFunc(b, ends) + 1
	if size == 0 {
		return 0, 0, api.ErrShort
	}
	// Nine bytes have 63 bits: what is no longer than that does not wrap round.
	if size > longest || size > 1 && b[size-1] == 0 {
		return 0, 0, api.ErrForm
	}
	for k := size - 1; k >= 0; k-- {
		n = n<<width | int(b[k]&low)
	}
	if outside(n) {
		return 0, 0, api.ErrForm
	}
	return n, size, api.OK
}

func ends(c byte) bool { return c&more == 0 }
