package prefill

import (
	"strings"

	"tiller/api"
	"tiller/block"
)

// lengthBytes is how many bytes say a block's length.
const lengthBytes = 4

// Bundle: blocks as one text: each with its length in four bytes ahead, the highest first.
func Bundle(c api.Config, l []block.Block) (string, api.Errno) {
	var text strings.Builder
	for _, b := range l {
		s, e := block.Bytes(c, b)
		if e != api.OK {
			return "", e
		}
		for shift := 8 * (lengthBytes - 1); shift >= 0; shift -= 8 {
			text.WriteByte(byte(len(s) >> shift))
		}
		text.WriteString(s)
	}
	return text.String(), api.OK
}

// Unbundle: the blocks of a text.
func Unbundle(c api.Config, s string) ([]block.Block, api.Errno) {
	var l []block.Block
	for len(s) > 0 {
		part, rest, e := first(s)
		if e != api.OK {
			return nil, e
		}
		b, e := block.Read(c, part)
		if e != api.OK {
			return nil, e
		}
		l, s = append(l, b), rest
	}
	return l, api.OK
}

// first: the bytes of a bundle's first block, and what stands behind them.
func first(s string) (string, string, api.Errno) {
	if len(s) < lengthBytes {
		return "", "", api.ErrEnd
	}
	length := uint32(0)
	for _, b := range []byte(s[:lengthBytes]) {
		length = length<<8 | uint32(b)
	}
	s = s[lengthBytes:]
	if uint64(length) > uint64(len(s)) { // it may be more than an int holds
		return "", "", api.ErrEnd
	}
	return s[:length], s[length:], api.OK
}
