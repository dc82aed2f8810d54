// Package compact is layer 1, numbers, sizes, byte strings and lists as bytes: see shared/doc/01-compact.md.
//
// The exported functions answer new memory always. The inner ones do not, so that a long list is copied once and not once a string: what is laid goes on in memory of our own, what is read is still a part of the argument.
package compact

import (
	"bytes"
	"math/bits"

	"entail/api"
)

// The first byte of a size that is not the size itself tells how long the number behind it is. The first of these marks is also the least size that needs one.
const (
	mark16 = 253
	mark32 = 254
	mark64 = 255
)

// longest is how many bytes a size may take.
const longest = 9

type number interface {
	uint16 | uint32 | uint64
}

// Put32: b, and behind it n in 4 bytes.
func Put32(b []byte, n uint32) []byte {
	return layNumber(fresh(b, 4), n)
}

// Put64: b, and behind it n in 8 bytes.
func Put64(b []byte, n uint64) []byte {
	return layNumber(fresh(b, 8), n)
}

// PutSize: b, and behind it n as a size.
func PutSize(b []byte, n uint64) []byte {
	return laySize(fresh(b, longest), n)
}

// PutBytes: b, and behind it x as a string.
func PutBytes(b, x []byte) []byte {
	return layBytes(fresh(b, longest+len(x)), x)
}

// PutList: b, and behind it l as a list.
func PutList(b []byte, l [][]byte) []byte {
	out := laySize(fresh(b, longest), uint64(len(l)))
	for _, x := range l {
		out = layBytes(out, x)
	}
	return out
}

// Take: the first n bytes of b, and what is left.
func Take(b []byte, n int) ([]byte, []byte, api.Errno) {
	if n < 0 {
		return nil, nil, api.ErrArg
	}
	if n > len(b) {
		return nil, nil, api.ErrShort
	}
	return bytes.Clone(b[:n]), bytes.Clone(b[n:]), api.OK
}

// Take32: the number in the first 4 bytes of b, and what is left.
func Take32(b []byte) (uint32, []byte, api.Errno) {
	n, rest, e := readNumber[uint32](b)
	return n, bytes.Clone(rest), e
}

// Take64: the number in the first 8 bytes of b, and what is left.
func Take64(b []byte) (uint64, []byte, api.Errno) {
	n, rest, e := readNumber[uint64](b)
	return n, bytes.Clone(rest), e
}

// TakeSize: the size at the beginning of b, and what is left.
func TakeSize(b []byte) (uint64, []byte, api.Errno) {
	n, rest, e := readSize(b)
	return n, bytes.Clone(rest), e
}

// TakeBytes: the string at the beginning of b, of most bytes at most, and what is left.
func TakeBytes(b []byte, most int) ([]byte, []byte, api.Errno) {
	x, rest, e := readBytes(b, most)
	return bytes.Clone(x), bytes.Clone(rest), e
}

// TakeList: the list at the beginning of b, of at most many strings of most bytes at most, and what is left.
func TakeList(b []byte, many, most int) ([][]byte, []byte, api.Errno) {
	n, rest, e := readSize(b)
	if e != api.OK {
		return nil, nil, e
	}
	if above(n, many) {
		return nil, nil, api.ErrLarge
	}
	// No room is made for n ahead: b may say far more strings than it has.
	var l [][]byte
	for range n {
		var x []byte
		x, rest, e = readBytes(rest, most)
		if e != api.OK {
			return nil, nil, e
		}
		l = append(l, bytes.Clone(x))
	}
	return l, bytes.Clone(rest), api.OK
}

// fresh: a copy of b with room behind it, so that what is laid behind b never lands in the caller's memory.
func fresh(b []byte, room int) []byte {
	return append(make([]byte, 0, len(b)+room), b...)
}

// width: how many bytes a number of that type has.
func width[N number]() int {
	return bits.Len64(uint64(^N(0))) / 8
}

func layNumber[N number](b []byte, n N) []byte {
	for i := range width[N]() {
		b = append(b, byte(n>>(8*i)))
	}
	return b
}

func laySize(b []byte, n uint64) []byte {
	switch {
	case n < mark16:
		return append(b, byte(n))
	case n < 1<<16:
		return layNumber(append(b, mark16), uint16(n))
	case n < 1<<32:
		return layNumber(append(b, mark32), uint32(n))
	}
	return layNumber(append(b, mark64), n)
}

func layBytes(b, x []byte) []byte {
	return append(laySize(b, uint64(len(x))), x...)
}

func readNumber[N number](b []byte) (N, []byte, api.Errno) {
	w := width[N]()
	if len(b) < w {
		return 0, nil, api.ErrShort
	}
	var n N
	for i := range w {
		n |= N(b[i]) << (8 * i)
	}
	return n, b[w:], api.OK
}

func readSize(b []byte) (uint64, []byte, api.Errno) {
	if len(b) == 0 {
		return 0, nil, api.ErrShort
	}
	switch b[0] {
	case mark16:
		return readMarked[uint16](b[1:], mark16)
	case mark32:
		return readMarked[uint32](b[1:], 1<<16)
	case mark64:
		return readMarked[uint64](b[1:], 1<<32)
	}
	return uint64(b[0]), b[1:], api.OK
}

// readMarked: the size behind its mark; below least a shorter one would do.
func readMarked[N number](b []byte, least uint64) (uint64, []byte, api.Errno) {
	n, rest, e := readNumber[N](b)
	if e != api.OK {
		return 0, nil, e
	}
	if uint64(n) < least {
		return 0, nil, api.ErrForm
	}
	return uint64(n), rest, api.OK
}

func readBytes(b []byte, most int) ([]byte, []byte, api.Errno) {
	n, rest, e := readSize(b)
	if e != api.OK {
		return nil, nil, e
	}
	if above(n, most) {
		return nil, nil, api.ErrLarge
	}
	if n > uint64(len(rest)) {
		return nil, nil, api.ErrShort
	}
	return rest[:n], rest[n:], api.OK
}

// above: is n above the limit? Of a limit below 0 even 0 is.
func above(n uint64, limit int) bool {
	return limit < 0 || n > uint64(limit)
}
