// Package ints computes with whole numbers of 32 and 64 bits: see doc/01-ints.md.
package ints

import "plainsong/api"

// The comparisons of 32 bits, in the order of their numbers.
const (
	isZero = 0x45 + iota
	equal
	unequal
	lessSigned
	less
	moreSigned
	more
	atMostSigned
	atMost
	atLeastSigned
	atLeast
)

// The computations of 32 bits, in the order of their numbers.
const (
	leading = 0x67 + iota
	trailing
	ones
	sum
	difference
	product
	quotientSigned
	quotient
	remainderSigned
	remainder
	and
	or
	exclusive
	shiftLeft
	shiftRightSigned
	shiftRight
	rotateLeft
	rotateRight
)

// The conversions; the last five take a sign from a part of their operand.
const (
	wrap           = 0xa7
	extendSigned   = 0xac
	extend         = 0xad
	signByte       = 0xc0
	signHalf       = 0xc1
	signByteToLong = 0xc2
	signHalfToLong = 0xc3
	signWordToLong = 0xc4
)

// An operation of 64 bits has the number of its like of 32 bits and one of these, so one piece of code serves both widths.
const (
	compareStep = 0x50 - isZero
	computeStep = 0x79 - leading
)

// Is tells whether op is one of the operations that Do computes.
func Is(op int) bool {
	switch {
	case op >= isZero && op <= atLeast+compareStep:
		return true
	case op >= leading && op <= rotateRight+computeStep:
		return true
	case op == wrap || op == extendSigned || op == extend:
		return true
	}
	return op >= signByte && op <= signWordToLong
}

// Do computes op for a and b: the result, and the trap.
func Do(op int, a, b uint64) (uint64, int) {
	switch {
	case op >= isZero && op <= atLeast:
		return compare(op, 32, a, b), api.Done
	case op >= isZero+compareStep && op <= atLeast+compareStep:
		return compare(op-compareStep, 64, a, b), api.Done
	case op >= leading && op <= rotateRight:
		return compute(op, 32, a, b)
	case op >= leading+computeStep && op <= rotateRight+computeStep:
		return compute(op-computeStep, 64, a, b)
	}
	return convert(op, a), api.Done
}

// Sign reads the lowest bits of v in two's complement.
func Sign(v uint64, bits int) int64 {
	away := 64 - min(max(bits, 1), 64)
	return int64(v<<away) >> away
}

// cut keeps the lowest bits of v; bits lies between 1 and 64.
func cut(v uint64, bits int) uint64 {
	away := 64 - bits
	return v << away >> away
}

func truth(is bool) uint64 {
	if is {
		return 1
	}
	return 0
}

func compare(op, bits int, a, b uint64) uint64 {
	a, b = cut(a, bits), cut(b, bits)
	x, y := Sign(a, bits), Sign(b, bits)
	switch op {
	case isZero:
		return truth(a == 0)
	case equal:
		return truth(a == b)
	case unequal:
		return truth(a != b)
	case lessSigned:
		return truth(x < y)
	case less:
		return truth(a < b)
	case moreSigned:
		return truth(x > y)
	case more:
		return truth(a > b)
	case atMostSigned:
		return truth(x <= y)
	case atMost:
		return truth(a <= b)
	case atLeastSigned:
		return truth(x >= y)
	}
	return truth(a >= b)
}

func compute(op, bits int, a, b uint64) (uint64, int) {
	a, b = cut(a, bits), cut(b, bits)
	switch op {
	case leading, trailing, ones:
		return count(op, bits, a), api.Done
	case quotientSigned, quotient, remainderSigned, remainder:
		return divide(op, bits, a, b)
	case sum, difference, product, and, or, exclusive:
		return cut(combine(op, a, b), bits), api.Done
	}
	return cut(shift(op, bits, a, int(b%uint64(bits))), bits), api.Done
}

func count(op, bits int, a uint64) uint64 {
	switch op {
	case leading:
		return leadingZeros(a, bits)
	case trailing:
		return trailingZeros(a, bits)
	}
	return oneBits(a)
}

func leadingZeros(a uint64, bits int) uint64 {
	n := uint64(bits)
	for ; a != 0; a >>= 1 {
		n--
	}
	return n
}

func trailingZeros(a uint64, bits int) uint64 {
	n := 0
	for n < bits && a>>n&1 == 0 {
		n++
	}
	return uint64(n)
}

func oneBits(a uint64) uint64 {
	n := uint64(0)
	for ; a != 0; a >>= 1 {
		n += a & 1
	}
	return n
}

// combine may leave bits above the width of its operands; the caller cuts them off.
func combine(op int, a, b uint64) uint64 {
	switch op {
	case sum:
		return a + b
	case difference:
		return a - b
	case product:
		return a * b
	case and:
		return a & b
	case or:
		return a | b
	}
	return a ^ b
}

// divide must see to 0 and to overflow itself, as Go panics at the one and wraps round at the other.
func divide(op, bits int, a, b uint64) (uint64, int) {
	if b == 0 {
		return 0, api.DivZero
	}
	x, y := Sign(a, bits), Sign(b, bits)
	switch op {
	case quotientSigned:
		if a == 1<<(bits-1) && y == -1 {
			return 0, api.Overflow
		}
		return cut(uint64(x/y), bits), api.Done
	case quotient:
		return a / b, api.Done
	case remainderSigned:
		return cut(uint64(x%y), bits), api.Done
	}
	return a % b, api.Done
}

// shift may leave bits above the width of a, like combine; n is less than bits.
func shift(op, bits int, a uint64, n int) uint64 {
	switch op {
	case shiftLeft:
		return a << n
	case shiftRightSigned:
		return uint64(Sign(a, bits) >> n)
	case shiftRight:
		return a >> n
	case rotateLeft:
		return a<<n | a>>(bits-n)
	}
	return a>>n | a<<(bits-n)
}

// convert answers 0 for what is no operation at all.
func convert(op int, a uint64) uint64 {
	switch op {
	case wrap, extend:
		return cut(a, 32)
	case extendSigned, signWordToLong:
		return uint64(Sign(a, 32))
	case signByte:
		return cut(uint64(Sign(a, 8)), 32)
	case signHalf:
		return cut(uint64(Sign(a, 16)), 32)
	case signByteToLong:
		return uint64(Sign(a, 8))
	case signHalfToLong:
		return uint64(Sign(a, 16))
	}
	return 0
}
