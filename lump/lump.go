// Package lump is layer 1: see shared/doc/01-lump.md.
package lump

import (
	"strings"

	"cartouche/api"
)

// maxNum is how many bytes follow at most the one that tells how many.
const maxNum = 8

// longMark begins a length that one byte can't tell; longBytes follow it.
const (
	longMark  = api.MaxShort + 1
	longBytes = 2
)

// Num are a number's bytes.
func Num(v uint64) string {
	// From the end on, since how many bytes there are is known only when the highest one is laid.
	var b [1 + maxNum]byte
	at := len(b)
	for ; v > 0; v >>= 8 {
		at--
		b[at] = byte(v)
	}
	many := len(b) - at
	at--
	b[at] = byte(many)
	return string(b[at:])
}

// TakeNum takes one.
func TakeNum(s string) (uint64, string, api.Errno) {
	if s == "" {
		return 0, "", api.ErrMore
	}
	many, rest := int(s[0]), s[1:]
	switch {
	case many > maxNum:
		return 0, "", api.ErrForm
	case len(rest) < many:
		return 0, "", api.ErrMore
	case many > 0 && rest[0] == 0: // else a number would have several forms
		return 0, "", api.ErrForm
	}
	var v uint64
	for i := range many {
		v = v<<8 | uint64(rest[i])
	}
	return v, rest[many:], api.OK
}

// Text are a text's bytes.
func Text(t string) (string, api.Errno) {
	if len(t) > api.MaxText {
		return "", api.ErrBig
	}
	return length(len(t)) + t, api.OK
}

// TakeText takes one.
func TakeText(s string, most int) (string, string, api.Errno) {
	n, rest, e := takeLength(s, most)
	if e != api.OK {
		return "", "", e
	}
	if len(rest) < n {
		return "", "", api.ErrMore
	}
	return rest[:n], rest[n:], api.OK
}

// Row are a row's bytes.
func Row(l []string) (string, api.Errno) {
	if len(l) > api.MaxText {
		return "", api.ErrBig
	}
	var b strings.Builder
	b.WriteString(length(len(l)))
	for i := range len(l) {
		t, e := Text(l[i])
		if e != api.OK {
			return "", e
		}
		b.WriteString(t)
	}
	return b.String(), api.OK
}

// TakeRow takes one.
func TakeRow(s string, many, most int) ([]string, string, api.Errno) {
	n, rest, e := takeLength(s, many)
	if e != api.OK {
		return nil, "", e
	}
	// No more room than bytes are there: a few bytes may tell of many texts.
	l := make([]string, 0, min(n, len(rest)))
	for range n {
		var t string
		t, rest, e = TakeText(rest, most)
		if e != api.OK {
			return nil, "", e
		}
		l = append(l, t)
	}
	return l, rest, api.OK
}

// length are the bytes of a length from 0 to MaxText.
func length(n int) string {
	var b [1 + longBytes]byte
	at, first := len(b), n
	switch {
	case n > api.MaxShort:
		b[at-1] = byte(n)
		b[at-2] = byte(n >> 8)
		at -= longBytes
		first = longMark
		fallthrough
	default:
		at--
		b[at] = byte(first)
	}
	return string(b[at:])
}

// takeLength takes a length that is at most that.
func takeLength(s string, most int) (int, string, api.Errno) {
	if s == "" {
		return 0, "", api.ErrMore
	}
	n, rest := int(s[0]), s[1:]
	switch {
	case n > longMark:
		return 0, "", api.ErrForm
	case n == longMark:
		if len(rest) < longBytes {
			return 0, "", api.ErrMore
		}
		n, rest = int(rest[0])<<8|int(rest[1]), rest[longBytes:]
		if n <= api.MaxShort { // else a length would have two forms
			return 0, "", api.ErrForm
		}
		fallthrough
	default:
		if n > most {
			return 0, "", api.ErrBig
		}
	}
	return n, rest, api.OK
}
