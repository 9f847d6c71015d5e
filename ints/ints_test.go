package ints_test

import (
	"math"
	"math/bits"
	"testing"

	"plainsong/api"
	"plainsong/ints"
)

const (
	least32 = 0x80000000
	most32  = 0x7fffffff
	all32   = 0xffffffff
	least64 = 0x8000000000000000
	most64  = 0x7fffffffffffffff
	all64   = 0xffffffffffffffff
)

type row struct {
	op   int
	a, b uint64
	want uint64
	trap int
}

func try(t *testing.T, rows []row) {
	t.Helper()
	for _, r := range rows {
		if v, trap := ints.Do(r.op, r.a, r.b); v != r.want || trap != r.trap {
			t.Errorf("P1.1: Do(%#x, %#x, %#x): %#x, %d; want %#x, %d", r.op, r.a, r.b, v, trap, r.want, r.trap)
		}
	}
}

// isOp holds the document's list, written once more by hand.
func isOp(op int) bool {
	return op >= 0x45 && op <= 0x5a || op >= 0x67 && op <= 0x8a || op == 0xa7 || op == 0xac || op == 0xad || op >= 0xc0 && op <= 0xc4
}

// strange are numbers that are no operation, though their low bits may look like one.
var strange = []int{math.MinInt, math.MinInt + 0x6a, -0x6a, -1, 0x1006a, 0xfc00, 0xfc02, 1<<32 + 0x45, 1<<32 + 0xc0, math.MaxInt}

func TestIs(t *testing.T) {
	for op := -0x200; op < 0x400; op++ {
		if ints.Is(op) != isOp(op) {
			t.Errorf("P1.1: Is(%#x): %v", op, !isOp(op))
		}
	}
	for _, op := range strange {
		if ints.Is(op) {
			t.Errorf("P1.1: Is(%#x): true", op)
		}
	}
}

func TestUnknown(t *testing.T) {
	ops := append([]int{}, strange...)
	for op := -0x200; op < 0x400; op++ {
		if !isOp(op) {
			ops = append(ops, op)
		}
	}
	for _, op := range ops {
		try(t, []row{{op, 7, 3, 0, api.Done}, {op, 7, 0, 0, api.Done}, {op, 0, 0, 0, api.Done}, {op, least64, all64, 0, api.Done}, {op, least32, all32, 0, api.Done}})
	}
}

func TestSign(t *testing.T) {
	for _, c := range []struct {
		v    uint64
		bits int
		want int64
	}{
		{0, 8, 0}, {0x7f, 8, 127}, {0x80, 8, -128}, {0xff, 8, -1}, {0x17f, 8, 127}, {0xff80, 8, -128},
		{0x8000, 16, -32768}, {0x18000, 17, -32768}, {0x8000, 17, 32768},
		{most32, 32, most32}, {least32, 32, -least32}, {least32, 33, least32}, {all64, 32, -1},
		{1 << 62, 63, -1 << 62}, {1 << 62, 64, 1 << 62}, {most64, 64, math.MaxInt64}, {least64, 64, math.MinInt64}, {all64, 64, -1},
		{0, 1, 0}, {1, 1, -1}, {2, 1, 0}, {3, 1, -1}, {3, 2, -1}, {2, 2, -2}, {1, 2, 1},
		{1, 0, -1}, {2, 0, 0}, {3, -1, -1}, {2, -1, 0}, {1, -64, -1}, {1, math.MinInt, -1}, {2, math.MinInt, 0},
		{least64, 65, math.MinInt64}, {5, 65, 5}, {least64, 128, math.MinInt64}, {1 << 62, math.MaxInt, 1 << 62}, {all64, math.MaxInt, -1},
	} {
		if got := ints.Sign(c.v, c.bits); got != c.want {
			t.Errorf("P1.1: Sign(%#x, %d): %d; want %d", c.v, c.bits, got, c.want)
		}
	}
}

// The rows of the document's own examples.
func TestExamples(t *testing.T) {
	try(t, []row{{0x6d, 7, 0, 0, api.DivZero}, {0x6f, least32, all32, 0, api.Done}, {0xc0, 0x80, 0, 0xffffff80, api.Done}})
}

// TestCompare asks each comparison of one pair that is less, one that is equal and one that is greater, and of pairs whose order the sign turns round.
func TestCompare(t *testing.T) {
	pairs := [][2]uint64{{3, 5}, {5, 5}, {5, 3}, {all64, 1}, {1, all64}, {least64, most64}, {most64, least64}, {all64, all64 - 1}}
	narrow := [][2]uint64{{3, 5}, {5, 5}, {5, 3}, {all32, 1}, {1, all32}, {least32, most32}, {most32, least32}, {all32, all32 - 1}}
	for _, c := range []struct {
		op   int
		want [8]uint64
	}{
		{0x46, [8]uint64{0, 1, 0, 0, 0, 0, 0, 0}},
		{0x47, [8]uint64{1, 0, 1, 1, 1, 1, 1, 1}},
		{0x48, [8]uint64{1, 0, 0, 1, 0, 1, 0, 0}},
		{0x49, [8]uint64{1, 0, 0, 0, 1, 0, 1, 0}},
		{0x4a, [8]uint64{0, 0, 1, 0, 1, 0, 1, 1}},
		{0x4b, [8]uint64{0, 0, 1, 1, 0, 1, 0, 1}},
		{0x4c, [8]uint64{1, 1, 0, 1, 0, 1, 0, 0}},
		{0x4d, [8]uint64{1, 1, 0, 0, 1, 0, 1, 0}},
		{0x4e, [8]uint64{0, 1, 1, 0, 1, 0, 1, 1}},
		{0x4f, [8]uint64{0, 1, 1, 1, 0, 1, 0, 1}},
	} {
		for i, want := range c.want {
			a, b := narrow[i][0], narrow[i][1]
			try(t, []row{
				{c.op, a, b, want, api.Done},
				{c.op, a | 9<<32, b | 4<<40, want, api.Done},
				{c.op + 0x0b, pairs[i][0], pairs[i][1], want, api.Done},
			})
		}
	}
	try(t, []row{
		{0x45, 0, 5, 1, 0}, {0x45, 5, 0, 0, 0}, {0x45, least32, 0, 0, 0}, {0x45, 1 << 32, 7, 1, 0},
		{0x50, 0, 5, 1, 0}, {0x50, 5, 0, 0, 0}, {0x50, least64, 0, 0, 0}, {0x50, 1 << 32, 7, 0, 0},
		{0x46, 1 << 32, 0, 1, 0}, {0x51, 1 << 32, 0, 0, 0}, {0x47, 1 << 32, 0, 0, 0}, {0x52, 1 << 32, 0, 1, 0},
	})
}

func TestCount(t *testing.T) {
	try(t, []row{
		{0x67, 0, 9, 32, 0}, {0x67, 1, 0, 31, 0}, {0x67, 0x00ff0000, 0, 8, 0}, {0x67, least32, 0, 0, 0}, {0x67, 1<<32 | 1, 0, 31, 0}, {0x67, 7 << 32, 0, 32, 0},
		{0x68, 0, 9, 32, 0}, {0x68, 1, 0, 0, 0}, {0x68, 0x00ff0000, 0, 16, 0}, {0x68, least32, 0, 31, 0}, {0x68, 1 << 40, 0, 32, 0},
		{0x69, 0, 9, 0, 0}, {0x69, 0xf0f0, 0, 8, 0}, {0x69, all32, 0, 32, 0}, {0x69, all64, 0, 32, 0}, {0x69, 1 << 32, 0, 0, 0},
		{0x79, 0, 9, 64, 0}, {0x79, 1, 0, 63, 0}, {0x79, 0x00ff0000, 0, 40, 0}, {0x79, least64, 0, 0, 0}, {0x79, 1 << 32, 0, 31, 0},
		{0x7a, 0, 9, 64, 0}, {0x7a, 1, 0, 0, 0}, {0x7a, 0x00ff0000, 0, 16, 0}, {0x7a, least64, 0, 63, 0}, {0x7a, 1 << 40, 0, 40, 0},
		{0x7b, 0, 9, 0, 0}, {0x7b, 0xf0f0, 0, 8, 0}, {0x7b, all64, 0, 64, 0}, {0x7b, 1<<63 | 1, 0, 2, 0},
	})
}

func TestArithmetic(t *testing.T) {
	try(t, []row{
		{0x6a, 2, 3, 5, 0}, {0x6a, all32, 1, 0, 0}, {0x6a, most32, 1, least32, 0}, {0x6a, 1<<32 | 2, 5<<32 | 3, 5, 0},
		{0x6b, 5, 3, 2, 0}, {0x6b, 3, 5, 0xfffffffe, 0}, {0x6b, 0, 1, all32, 0}, {0x6b, 1 << 32, 1, all32, 0},
		{0x6c, 6, 7, 42, 0}, {0x6c, 0x10000, 0x10000, 0, 0}, {0x6c, all32, all32, 1, 0}, {0x6c, 0x12345678, 0x9abcdef0, 0x242d2080, 0},
		{0x7c, 2, 3, 5, 0}, {0x7c, all32, 1, 1 << 32, 0}, {0x7c, all64, 1, 0, 0}, {0x7c, most64, 1, least64, 0},
		{0x7d, 5, 3, 2, 0}, {0x7d, 3, 5, all64 - 1, 0}, {0x7d, 1 << 32, 1, all32, 0},
		{0x7e, 6, 7, 42, 0}, {0x7e, 0x10000, 0x10000, 1 << 32, 0}, {0x7e, 1 << 32, 1 << 32, 0, 0}, {0x7e, all64, all64, 1, 0},
		{0x71, 0xc, 0xa, 0x8, 0}, {0x72, 0xc, 0xa, 0xe, 0}, {0x73, 0xc, 0xa, 0x6, 0},
		{0x71, all64, all64, all32, 0}, {0x72, 7 << 32, 1, 1, 0}, {0x73, 7 << 32, 1, 1, 0},
		{0x83, 0xc, 0xa, 0x8, 0}, {0x84, 0xc, 0xa, 0xe, 0}, {0x85, 0xc, 0xa, 0x6, 0},
		{0x83, all64, 7 << 40, 7 << 40, 0}, {0x84, 7 << 40, 1, 7<<40 | 1, 0}, {0x85, all64, 7 << 40, ^uint64(7 << 40), 0},
	})
}

// TestDivide: the signs of each pair of operands, as 7 and 2 show them.
func TestDivide(t *testing.T) {
	minus64 := func(n uint64) uint64 { return -n }
	minus32 := func(n uint64) uint64 { return -n & all32 }
	try(t, []row{
		{0x6d, 7, 2, 3, 0}, {0x6d, minus32(7), 2, minus32(3), 0}, {0x6d, 7, minus32(2), minus32(3), 0}, {0x6d, minus32(7), minus32(2), 3, 0}, {0x6d, least32, 1, least32, 0}, {0x6d, least32, 2, 0xc0000000, 0}, {0x6d, least32, minus32(2), 0x40000000, 0}, {0x6d, most32, all32, 0x80000001, 0},
		{0x6e, 7, 2, 3, 0}, {0x6e, minus32(7), 2, 0x7ffffffc, 0}, {0x6e, 7, minus32(2), 0, 0}, {0x6e, least32, all32, 0, 0}, {0x6e, 9<<32 | 7, 3<<32 | 2, 3, 0},
		{0x6f, 7, 2, 1, 0}, {0x6f, minus32(7), 2, minus32(1), 0}, {0x6f, 7, minus32(2), 1, 0}, {0x6f, minus32(7), minus32(2), minus32(1), 0}, {0x6f, least32, all32, 0, 0},
		{0x70, 7, 2, 1, 0}, {0x70, minus32(7), 2, 1, 0}, {0x70, 7, minus32(2), 7, 0}, {0x70, least32, all32, least32, 0}, {0x70, 9<<32 | 7, 3<<32 | 2, 1, 0},
		{0x7f, 7, 2, 3, 0}, {0x7f, minus64(7), 2, minus64(3), 0}, {0x7f, 7, minus64(2), minus64(3), 0}, {0x7f, minus64(7), minus64(2), 3, 0}, {0x7f, least64, 1, least64, 0}, {0x7f, least32, all64, minus64(least32), 0}, {0x7f, most64, all64, least64 + 1, 0},
		{0x80, 7, 2, 3, 0}, {0x80, minus64(7), 2, 0x7ffffffffffffffc, 0}, {0x80, 7, minus64(2), 0, 0}, {0x80, least64, all64, 0, 0},
		{0x81, 7, 2, 1, 0}, {0x81, minus64(7), 2, minus64(1), 0}, {0x81, 7, minus64(2), 1, 0}, {0x81, minus64(7), minus64(2), minus64(1), 0}, {0x81, least64, all64, 0, 0},
		{0x82, 7, 2, 1, 0}, {0x82, minus64(7), 2, 1, 0}, {0x82, 7, minus64(2), 7, 0}, {0x82, least64, all64, least64, 0},
	})
}

func TestDivideTraps(t *testing.T) {
	for _, a := range []uint64{0, 7, least32, all32, least64, all64} {
		for _, op := range []int{0x6d, 0x6e, 0x6f, 0x70} {
			try(t, []row{{op, a, 0, 0, api.DivZero}, {op, a, 1 << 32, 0, api.DivZero}})
		}
		for _, op := range []int{0x7f, 0x80, 0x81, 0x82} {
			try(t, []row{{op, a, 0, 0, api.DivZero}})
		}
	}
	try(t, []row{
		{0x6d, least32, all32, 0, api.Overflow}, {0x6d, 3<<32 | least32, all64, 0, api.Overflow},
		{0x7f, least64, all64, 0, api.Overflow},
		{0x7f, least64, all32, 0xffffffff80000000, api.Done}, {0x7f, least32, all32, 0, api.Done},
		{0x7f, 1 << 32, 1 << 32, 1, api.Done},
	})
}

func TestShift(t *testing.T) {
	try(t, []row{
		{0x74, 1, 4, 16, 0}, {0x74, 3, 31, least32, 0}, {0x74, 3, 32, 3, 0}, {0x74, 3, 33, 6, 0}, {0x74, 3, all32, least32, 0}, {0x74, 3, 1<<32 | 1, 6, 0}, {0x74, 7<<32 | 1, 0, 1, 0},
		{0x75, 16, 2, 4, 0}, {0x75, least32, 31, all32, 0}, {0x75, least32, 32, least32, 0}, {0x75, least32, 33, 0xc0000000, 0}, {0x75, most32, 30, 1, 0}, {0x75, 1 << 32, 1, 0, 0},
		{0x76, 16, 2, 4, 0}, {0x76, least32, 31, 1, 0}, {0x76, least32, 32, least32, 0}, {0x76, least32, 33, 0x40000000, 0}, {0x76, 1 << 32, 1, 0, 0},
		{0x77, 0x80000001, 1, 3, 0}, {0x77, 0x12345678, 8, 0x34567812, 0}, {0x77, 0x12345678, 32, 0x12345678, 0}, {0x77, 0x12345678, 40, 0x34567812, 0}, {0x77, 0xf12345678, 0, 0x12345678, 0}, {0x77, 1, 31, least32, 0},
		{0x78, 0x80000001, 1, 0xc0000000, 0}, {0x78, 0x12345678, 8, 0x78123456, 0}, {0x78, 0x12345678, 32, 0x12345678, 0}, {0x78, 0x12345678, 40, 0x78123456, 0}, {0x78, 0xf12345678, 0, 0x12345678, 0}, {0x78, 0xf12345678, 4, 0x81234567, 0},
		{0x86, 1, 40, 1 << 40, 0}, {0x86, 3, 63, least64, 0}, {0x86, 3, 64, 3, 0}, {0x86, 3, 65, 6, 0}, {0x86, 3, all64, least64, 0}, {0x86, 3, 1<<32 | 1, 6, 0},
		{0x87, 16, 2, 4, 0}, {0x87, least64, 63, all64, 0}, {0x87, least64, 64, least64, 0}, {0x87, least64, 65, 0xc000000000000000, 0}, {0x87, least32, 31, 1, 0},
		{0x88, 16, 2, 4, 0}, {0x88, least64, 63, 1, 0}, {0x88, least64, 64, least64, 0}, {0x88, least64, 65, 1 << 62, 0}, {0x88, 1 << 40, 32, 1 << 8, 0},
		{0x89, 0x8000000000000001, 1, 3, 0}, {0x89, 0x0123456789abcdef, 8, 0x23456789abcdef01, 0}, {0x89, 0x0123456789abcdef, 64, 0x0123456789abcdef, 0}, {0x89, 0x0123456789abcdef, 0, 0x0123456789abcdef, 0}, {0x89, 1, 63, least64, 0},
		{0x8a, 0x8000000000000001, 1, 0xc000000000000000, 0}, {0x8a, 0x0123456789abcdef, 8, 0xef0123456789abcd, 0}, {0x8a, 0x0123456789abcdef, 64, 0x0123456789abcdef, 0}, {0x8a, 0x0123456789abcdef, 0, 0x0123456789abcdef, 0}, {0x8a, 1, 63, 2, 0},
	})
}

// TestEachShift asks for each count of bits, beyond the width too.
func TestEachShift(t *testing.T) {
	for n := range uint64(200) {
		const v = 0xf123456789abcde1
		a, s, l := uint32(v>>32), int(n%32), int(n%64)
		try(t, []row{
			{0x74, v >> 32, n, uint64(a << s), 0}, {0x75, v >> 32, n, uint64(uint32(int32(a) >> s)), 0}, {0x76, v >> 32, n, uint64(a >> s), 0},
			{0x77, v >> 32, n, uint64(bits.RotateLeft32(a, s)), 0}, {0x78, v >> 32, n, uint64(bits.RotateLeft32(a, -s)), 0},
			{0x86, v, n, v << l & all64, 0}, {0x87, v, n, uint64(signed(v) >> l), 0}, {0x88, v, n, uint64(v) >> l, 0},
			{0x89, v, n, bits.RotateLeft64(v, l), 0}, {0x8a, v, n, bits.RotateLeft64(v, -l), 0},
		})
	}
}

func signed(v uint64) int64 { return int64(v) }

func TestConvert(t *testing.T) {
	try(t, []row{
		{0xa7, 5, 9, 5, 0}, {0xa7, 0x1234567890abcdef, 9, 0x90abcdef, 0}, {0xa7, 1 << 32, 9, 0, 0},
		{0xac, 5, 9, 5, 0}, {0xac, least32, 9, 0xffffffff80000000, 0}, {0xac, most32, 0, most32, 0}, {0xac, 0x17fffffff, 0, most32, 0}, {0xac, 1 << 63, 0, 0, 0},
		{0xad, 5, 9, 5, 0}, {0xad, least32, 9, least32, 0}, {0xad, all64, 0, all32, 0},
		{0xc0, 0x7f, 9, 0x7f, 0}, {0xc0, 0x80, 9, 0xffffff80, 0}, {0xc0, 0xff00, 0, 0, 0}, {0xc0, all64, 0, all32, 0},
		{0xc1, 0x7fff, 9, 0x7fff, 0}, {0xc1, 0x8000, 9, 0xffff8000, 0}, {0xc1, 0xff0000, 0, 0, 0}, {0xc1, 0x80, 0, 0x80, 0},
		{0xc2, 0x7f, 9, 0x7f, 0}, {0xc2, 0x80, 9, 0xffffffffffffff80, 0}, {0xc2, 0xff00, 0, 0, 0},
		{0xc3, 0x7fff, 9, 0x7fff, 0}, {0xc3, 0x8000, 9, 0xffffffffffff8000, 0}, {0xc3, 0xff0000, 0, 0, 0}, {0xc3, 0x80, 0, 0x80, 0},
		{0xc4, most32, 9, most32, 0}, {0xc4, least32, 9, 0xffffffff80000000, 0}, {0xc4, 7 << 32, 0, 0, 0}, {0xc4, 0x8000, 0, 0x8000, 0},
	})
}

// edges are operands at which a width, a sign or a count of bits changes.
func edges() []uint64 {
	l := []uint64{0x5555555555555555, 0xaaaaaaaaaaaaaaaa, 0x1234567890abcdef}
	for n := range 64 {
		l = append(l, 1<<n-1, 1<<n, 1<<n+1, math.MaxUint64<<n)
	}
	return l
}

// narrow tells whether op answers with 32 bits: the comparisons of 64 bits do too.
func narrow(op int) bool {
	return op <= 0x78 || op == 0xa7 || op == 0xc0 || op == 0xc1
}

// TestWhole holds every operation to what is true of all of them, at every pair of edges.
func TestWhole(t *testing.T) {
	for op := range 0x100 {
		for _, a := range edges() {
			for _, b := range edges() {
				v, trap := ints.Do(op, a, b)
				if trap != api.Done && v != 0 {
					t.Fatalf("P1.1: Do(%#x, %#x, %#x): %#x beside trap %d", op, a, b, v, trap)
				}
				if narrow(op) && v > all32 {
					t.Fatalf("P1.1: Do(%#x, %#x, %#x): %#x is over 32 bits", op, a, b, v)
				}
				if single(op) {
					if w, _ := ints.Do(op, a, 0); w != v || trap != api.Done {
						t.Fatalf("P1.1: Do(%#x, %#x, %#x) hangs on b", op, a, b)
					}
				}
				if short(op) {
					if w, other := ints.Do(op, a&all32, b&all32); w != v || other != trap {
						t.Fatalf("P1.1: Do(%#x, %#x, %#x) hangs on the upper bits", op, a, b)
					}
				}
			}
		}
	}
}

// single tells whether op has one operand.
func single(op int) bool {
	return op == 0x45 || op == 0x50 || op >= 0x67 && op <= 0x69 || op >= 0x79 && op <= 0x7b || op >= 0xa0
}

// short tells whether op has operands of 32 bits.
func short(op int) bool {
	return op >= 0x45 && op <= 0x4f || op >= 0x67 && op <= 0x78 || op == 0xac || op == 0xad || op == 0xc0 || op == 0xc1
}
