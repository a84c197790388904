package folio_test

import (
	"fmt"
	"hash/adler32"
	"strings"
)

// What is packed by filter 4 is made here by hand, of bits as texts of 0 and 1 in the order in which they are taken.

const flateHead = "\x78\x9c"

// num is a number of n bits, the lowest first.
func num(value, n int) string {
	var out strings.Builder
	for i := range n {
		out.WriteByte("01"[value>>i&1])
	}
	return out.String()
}

// high is a code of n bits, the highest first.
func high(value, n int) string { return fmt.Sprintf("%0*b", n, value) }

// packBits makes bytes of bits; what is left of the last byte is 0.
func packBits(bits string) string {
	out := make([]byte, (len(bits)+7)/8)
	for i, b := range []byte(bits) {
		out[i/8] |= (b - '0') << (i % 8)
	}
	return string(out)
}

func sumOf(plain string) string {
	n := adler32.Checksum([]byte(plain))
	return string([]byte{byte(n >> 24), byte(n >> 16), byte(n >> 8), byte(n)})
}

// flate lays the head ahead of blocks and the sum of what comes of them behind.
func flate(bits, plain string) string { return flateHead + packBits(bits) + sumOf(plain) }

// Heads of blocks.
const (
	lastStored  = "100"
	moreStored  = "000"
	lastFixed   = "110"
	moreFixed   = "010"
	lastOwn     = "101"
	moreOwn     = "001"
	lastUnknown = "111"
	moreUnknown = "011"
)

// fixed is the code of a symbol by the fixed lengths, worked out on paper.
func fixed(symbol int) string {
	switch {
	case symbol < 144:
		return high(0b00110000+symbol, 8)
	case symbol < 256:
		return high(0b110010000+symbol-144, 9)
	case symbol < 280:
		return high(symbol-256, 7)
	}
	return high(0b11000000+symbol-280, 8)
}

func fixedText(plain string) string {
	var out strings.Builder
	for _, b := range []byte(plain) {
		out.WriteString(fixed(int(b)))
	}
	return out.String()
}

func fixedDistance(symbol int) string { return high(symbol, 5) }

// fixedBlock is the last block.
func fixedBlock(bits string) string { return lastFixed + bits + fixed(256) }

// storedBlock stands at the beginning of a byte.
func storedBlock(head, plain string) string { return head + "00000" + storedBytes(plain) }

// storedBytes are what a block of sort 0 has from the next whole byte on.
func storedBytes(plain string) string {
	var out strings.Builder
	out.WriteString(num(len(plain), 16) + num(65535-len(plain), 16))
	for _, b := range []byte(plain) {
		out.WriteString(num(int(b), 8))
	}
	return out.String()
}

var orderOfLengths = []int{16, 17, 18, 0, 8, 7, 9, 6, 10, 5, 11, 4, 12, 3, 13, 2, 14, 1, 15}

// ownHead tells how many lengths there are, and codes for all lengths: 4 bits for 0 to 12, 5 for 13 to 18.
func ownHead(a, b int) string {
	out := num(a, 5) + num(b, 5) + num(15, 4)
	for _, symbol := range orderOfLengths {
		if symbol < 13 {
			out += num(4, 3)
		} else {
			out += num(5, 3)
		}
	}
	return out
}

// lens are lengths by the codes of ownHead.
func lens(lengths ...int) string {
	var out strings.Builder
	for _, symbol := range lengths {
		if symbol < 13 {
			out.WriteString(high(symbol, 4))
		} else {
			out.WriteString(high(26+symbol-13, 5))
		}
	}
	return out.String()
}

func lensAgain(times int) string { return lens(16) + num(times-3, 2) }

func lensZero(times int) string {
	if times < 11 {
		return lens(17) + num(times-3, 3)
	}
	return lens(18) + num(times-11, 7)
}

// lensOf are n lengths, of all symbols but the named ones 0.
func lensOf(n int, named map[int]int) string {
	lengths := make([]int, n)
	for symbol, length := range named {
		lengths[symbol] = length
	}
	return lens(lengths...)
}

// The codes of a block that knows the byte a, the end, the length 3, and what distances it is given.
const (
	ownA     = "0"
	ownEnd   = "10"
	ownThree = "11"
)

func ownCodes(distances ...int) string {
	return ownHead(1, len(distances)-1) + lensOf(258, map[int]int{'a': 1, 256: 2, 257: 2}) + lens(distances...)
}
