package floats_test

import (
	"math"
	"math/big"
	"testing"

	"plainsong/api"
	"plainsong/floats"
)

const (
	inf    = 0x7ff0000000000000
	sign   = 0x8000000000000000
	least  = 1                  // the least number above 0
	most   = 0x7fefffffffffffff // the greatest finite number
	quiet  = 0x7ff8000000000000
	all32  = 0xffffffff
	all64  = 0xffffffffffffffff
	most32 = 0x7fffffff
	most64 = 0x7fffffffffffffff
)

// nans are quiet and signalling ones, of both signs and of several payloads.
var nans = []uint64{quiet, quiet | sign, inf + 1, inf + 1 | sign, quiet + 5, quiet + 5 | sign, most64, all64, inf + 0x0007ffffffffffff, inf + 1<<32}

type row struct {
	op   int
	a, b uint64
	want uint64
	trap int
}

func try(t *testing.T, promise string, rows []row) {
	t.Helper()
	for _, r := range rows {
		if v, trap := floats.Do(r.op, r.a, r.b); v != r.want || trap != r.trap {
			t.Errorf("%s: Do(%#x, %#x, %#x): %#x, %d; want %#x, %d", promise, r.op, r.a, r.b, v, trap, r.want, r.trap)
		}
	}
}

// n gives the bits of x.
func n(x float64) uint64 { return math.Float64bits(x) }

// isOp holds the document's list, written once more by hand.
func isOp(op int) bool {
	return op >= 0x61 && op <= 0x66 || op >= 0x99 && op <= 0xa6 || op == 0xaa || op == 0xab || op == 0xb0 || op == 0xb1 || op >= 0xb7 && op <= 0xba || op == 0xbd || op == 0xbf || op == 0xfc02 || op == 0xfc03 || op == 0xfc06 || op == 0xfc07
}

// others are numbers that are no operation, though their low bits may look like one.
func others() []int {
	l := []int{math.MinInt, math.MinInt + 0xa0, -0xfc02, -0xa0, -1, 0x100a0, 0x1fc02, 1<<32 + 0x61, 1<<32 + 0xfc07, math.MaxInt}
	for op := -0x200; op < 0x20000; op++ {
		if !isOp(op) {
			l = append(l, op)
		}
	}
	return l
}

func TestIs(t *testing.T) {
	for op := range 0x20000 {
		if isOp(op) && !floats.Is(op) {
			t.Errorf("P2.1: Is(%#x): false", op)
		}
	}
	for _, op := range others() {
		if floats.Is(op) {
			t.Errorf("P2.1: Is(%#x): true", op)
		}
	}
}

func TestUnknown(t *testing.T) {
	for _, op := range others() {
		try(t, "P2.1", []row{{op, n(7), n(3), 0, api.Done}, {op, 7, 0, 0, api.Done}, {op, 0, 0, 0, api.Done}, {op, quiet, quiet, 0, api.Done}, {op, inf, all64, 0, api.Done}})
	}
}

func TestNaN(t *testing.T) {
	for _, v := range nans {
		if !floats.NaN(v) {
			t.Errorf("P2.1: NaN(%#x): false", v)
		}
	}
	for _, v := range []uint64{0, sign, least, least | sign, n(1), n(-1), most, most | sign, inf, inf | sign, 0x000fffffffffffff, 0x0007ffffffffffff, inf - 1<<52} {
		if floats.NaN(v) {
			t.Errorf("P2.1: NaN(%#x): true", v)
		}
	}
	if !floats.NaN(floats.Quiet) || uint64(floats.Quiet) != quiet {
		t.Errorf("P2.1: Quiet: %#x", uint64(floats.Quiet))
	}
}

// The rows of the document's own examples.
func TestExamples(t *testing.T) {
	try(t, "P2.1", []row{{0xa3, n(1), n(0), inf, api.Done}, {0xa4, 0, sign, sign, api.Done}})
	try(t, "P2.2", []row{{0xaa, quiet, 0, 0, api.BadInt}})
}

// ascending are numbers each of which is less than the next one; the zeros stand beside it, as they are equal.
func ascending() []uint64 {
	l := []uint64{inf | sign, most | sign, n(-2), n(-1), n(-0.5), 2 | sign, least | sign, 0, least, 2, 0x0010000000000000, n(0.5), n(1), n(1) + 1, n(2), most, inf}
	return l
}

func TestCompare(t *testing.T) {
	l := ascending()
	for i, a := range l {
		for j, b := range l {
			same, under, over := uint64(0), uint64(0), uint64(0)
			switch {
			case i == j:
				same = 1
			case i < j:
				under = 1
			default:
				over = 1
			}
			try(t, "P2.1", []row{
				{0x61, a, b, same, 0}, {0x62, a, b, 1 - same, 0},
				{0x63, a, b, under, 0}, {0x64, a, b, over, 0},
				{0x65, a, b, 1 - over, 0}, {0x66, a, b, 1 - under, 0},
			})
		}
	}
	for _, z := range [][2]uint64{{0, sign}, {sign, 0}, {sign, sign}} {
		a, b := z[0], z[1]
		try(t, "P2.1", []row{{0x61, a, b, 1, 0}, {0x62, a, b, 0, 0}, {0x63, a, b, 0, 0}, {0x64, a, b, 0, 0}, {0x65, a, b, 1, 0}, {0x66, a, b, 1, 0}})
	}
}

func TestCompareNaN(t *testing.T) {
	for _, v := range nans {
		for _, w := range append(ascending(), nans...) {
			for op := 0x61; op <= 0x66; op++ {
				want := uint64(0)
				if op == 0x62 {
					want = 1
				}
				try(t, "P2.1", []row{{op, v, w, want, 0}, {op, w, v, want, 0}})
			}
		}
	}
}

// TestSign holds the operations on bits to their words, for NaNs too: no bit of the payload may change.
func TestSign(t *testing.T) {
	for _, a := range append(ascending(), nans...) {
		bare := a & most64
		try(t, "P2.1", []row{
			{0x99, bare, quiet, bare, 0}, {0x99, bare | sign, 0, bare, 0},
			{0x9a, bare, quiet, bare | sign, 0}, {0x9a, bare | sign, 0, bare, 0},
			{0xa6, bare, n(3), bare, 0}, {0xa6, bare | sign, n(3), bare, 0}, {0xa6, bare, n(-3), bare | sign, 0}, {0xa6, bare | sign, n(-3), bare | sign, 0},
			{0xa6, bare, quiet | sign, bare | sign, 0}, {0xa6, bare | sign, inf + 1, bare, 0}, {0xa6, bare, sign, bare | sign, 0}, {0xa6, bare | sign, 0, bare, 0},
		})
	}
}

// TestRound asks for each way of rounding, for a number and its opposite: up and down change places.
func TestRound(t *testing.T) {
	for _, c := range []struct{ x, up, down, cut, near float64 }{
		{0.25, 1, 0, 0, 0}, {0.5, 1, 0, 0, 0}, {math.Nextafter(0.5, 0), 1, 0, 0, 0}, {math.Nextafter(0.5, 1), 1, 0, 0, 1}, {0.75, 1, 0, 0, 1},
		{math.Nextafter(1, 0), 1, 0, 0, 1}, {1, 1, 1, 1, 1}, {math.Nextafter(1, 2), 2, 1, 1, 1},
		{1.5, 2, 1, 1, 2}, {2.5, 3, 2, 2, 2}, {3.5, 4, 3, 3, 4}, {2.75, 3, 2, 2, 3}, {7, 7, 7, 7, 7},
		{1<<31 + 0.5, 1<<31 + 1, 1 << 31, 1 << 31, 1 << 31}, {1<<52 - 0.5, 1 << 52, 1<<52 - 1, 1<<52 - 1, 1 << 52}, {1<<52 - 1.5, 1<<52 - 1, 1<<52 - 2, 1<<52 - 2, 1<<52 - 2},
		{1<<52 + 1, 1<<52 + 1, 1<<52 + 1, 1<<52 + 1, 1<<52 + 1}, {1<<53 + 2, 1<<53 + 2, 1<<53 + 2, 1<<53 + 2, 1<<53 + 2}, {1 << 63, 1 << 63, 1 << 63, 1 << 63, 1 << 63},
		{math.MaxFloat64, math.MaxFloat64, math.MaxFloat64, math.MaxFloat64, math.MaxFloat64}, {math.SmallestNonzeroFloat64, 1, 0, 0, 0}, {0x1p-1022, 1, 0, 0, 0},
		{math.Inf(1), math.Inf(1), math.Inf(1), math.Inf(1), math.Inf(1)}, {0, 0, 0, 0, 0},
	} {
		a := n(c.x)
		try(t, "P2.1", []row{
			{0x9b, a, quiet, n(c.up), 0}, {0x9c, a, quiet, n(c.down), 0}, {0x9d, a, quiet, n(c.cut), 0}, {0x9e, a, quiet, n(c.near), 0},
			{0x9b, a | sign, 9, n(c.down) | sign, 0}, {0x9c, a | sign, 9, n(c.up) | sign, 0}, {0x9d, a | sign, 9, n(c.cut) | sign, 0}, {0x9e, a | sign, 9, n(c.near) | sign, 0},
		})
	}
}

func TestRoot(t *testing.T) {
	try(t, "P2.1", []row{
		{0x9f, n(4), n(9), n(2), 0}, {0x9f, n(2.25), quiet, n(1.5), 0}, {0x9f, n(2), 0, 0x3ff6a09e667f3bcd, 0}, {0x9f, n(3), 0, 0x3ffbb67ae8584caa, 0},
		{0x9f, 0, 9, 0, 0}, {0x9f, sign, 9, sign, 0}, {0x9f, inf, 9, inf, 0}, {0x9f, least, 9, n(0x1p-537), 0}, {0x9f, most, 9, 0x5fefffffffffffff, 0},
		{0x9f, n(-1), 9, quiet, 0}, {0x9f, least | sign, 9, quiet, 0}, {0x9f, most | sign, 9, quiet, 0}, {0x9f, inf | sign, 9, quiet, 0},
	})
}

func TestArithmetic(t *testing.T) {
	try(t, "P2.1", []row{
		{0xa0, n(1.5), n(2.25), n(3.75), 0}, {0xa0, n(0.1), n(0.2), 0x3fd3333333333334, 0}, {0xa0, most, most, inf, 0}, {0xa0, least, least, 2, 0},
		{0xa0, n(1), n(0x1p-53), n(1), 0}, {0xa0, n(1) + 1, n(0x1p-53), n(1) + 2, 0}, {0xa0, n(1), n(0x1p-53) + 1, n(1) + 1, 0}, {0xa0, most, n(0x1p970), inf, 0}, {0xa0, most, n(0x1p970) - 1, most, 0},
		{0xa0, n(5), n(-5), 0, 0}, {0xa0, n(-5), n(5), 0, 0}, {0xa0, sign, sign, sign, 0}, {0xa0, sign, 0, 0, 0}, {0xa0, 0, sign, 0, 0}, {0xa0, sign, n(-5), n(-5), 0},
		{0xa0, inf, most | sign, inf, 0}, {0xa0, inf, inf, inf, 0}, {0xa0, inf, inf | sign, quiet, 0}, {0xa0, inf | sign, inf, quiet, 0},
		{0xa1, n(1.5), n(2.25), n(-0.75), 0}, {0xa1, n(2.25), n(1.5), n(0.75), 0}, {0xa1, n(5), n(5), 0, 0}, {0xa1, n(-5), n(-5), 0, 0}, {0xa1, sign, 0, sign, 0}, {0xa1, 0, sign, 0, 0}, {0xa1, sign, sign, 0, 0}, {0xa1, 0, 0, 0, 0},
		{0xa1, inf, inf | sign, inf, 0}, {0xa1, inf, inf, quiet, 0}, {0xa1, inf | sign, inf | sign, quiet, 0}, {0xa1, most | sign, most, inf | sign, 0}, {0xa1, 2, least, least, 0},
		{0xa2, n(1.5), n(-2.5), n(-3.75), 0}, {0xa2, n(0.1), n(0.1), 0x3f847ae147ae147c, 0}, {0xa2, most, n(2), inf, 0}, {0xa2, most, n(-2), inf | sign, 0}, {0xa2, least, n(0.5), 0, 0}, {0xa2, least, n(0.75), least, 0}, {0xa2, 3, n(0.5), 2, 0}, {0xa2, least | sign, n(0.25), sign, 0},
		{0xa2, 0, n(-5), sign, 0}, {0xa2, sign, n(-5), 0, 0}, {0xa2, sign, 0, sign, 0}, {0xa2, inf, n(-5), inf | sign, 0}, {0xa2, inf, inf | sign, inf | sign, 0},
		{0xa2, 0, inf, quiet, 0}, {0xa2, inf, 0, quiet, 0}, {0xa2, sign, inf, quiet, 0}, {0xa2, inf | sign, 0, quiet, 0},
		{0xa3, n(7), n(2), n(3.5), 0}, {0xa3, n(1), n(3), 0x3fd5555555555555, 0}, {0xa3, n(2), n(3), 0x3fe5555555555555, 0}, {0xa3, n(1), n(10), 0x3fb999999999999a, 0}, {0xa3, most, n(0.5), inf, 0}, {0xa3, least, n(2), 0, 0}, {0xa3, 3, n(2), 2, 0},
		{0xa3, n(1), 0, inf, 0}, {0xa3, n(-1), 0, inf | sign, 0}, {0xa3, n(1), sign, inf | sign, 0}, {0xa3, n(-1), sign, inf, 0}, {0xa3, inf, 0, inf, 0}, {0xa3, 0, n(-5), sign, 0}, {0xa3, n(1), inf | sign, sign, 0}, {0xa3, 0, inf, 0, 0}, {0xa3, inf, n(-3), inf | sign, 0},
		{0xa3, 0, 0, quiet, 0}, {0xa3, sign, 0, quiet, 0}, {0xa3, 0, sign, quiet, 0}, {0xa3, sign, sign, quiet, 0}, {0xa3, inf, inf, quiet, 0}, {0xa3, inf | sign, inf, quiet, 0},
	})
}

func TestLesserGreater(t *testing.T) {
	l := ascending()
	for i, a := range l {
		for j, b := range l {
			try(t, "P2.1", []row{{0xa4, a, b, l[min(i, j)], 0}, {0xa5, a, b, l[max(i, j)], 0}})
		}
	}
	try(t, "P2.1", []row{
		{0xa4, 0, sign, sign, 0}, {0xa4, sign, 0, sign, 0}, {0xa4, sign, sign, sign, 0}, {0xa4, 0, 0, 0, 0},
		{0xa5, 0, sign, 0, 0}, {0xa5, sign, 0, 0, 0}, {0xa5, sign, sign, sign, 0}, {0xa5, 0, 0, 0, 0},
		{0xa4, sign, least, sign, 0}, {0xa4, sign, least | sign, least | sign, 0}, {0xa5, sign, least | sign, sign, 0}, {0xa5, sign, inf | sign, sign, 0},
	})
}

// TestQuiet: a NaN of any kind makes Quiet of all arithmetic, beside any other operand.
func TestQuiet(t *testing.T) {
	for _, v := range nans {
		for _, w := range append(append(ascending(), sign), nans...) {
			for op := 0x9b; op <= 0x9f; op++ {
				try(t, "P2.1", []row{{op, v, w, quiet, 0}})
			}
			for op := 0xa0; op <= 0xa5; op++ {
				try(t, "P2.1", []row{{op, v, w, quiet, 0}, {op, w, v, quiet, 0}})
			}
		}
	}
}

// numbers gives finite numbers, zeros left out, from a fixed rule: of all sizes, and many near each other and near the ends.
func numbers(count int) []float64 {
	var l []float64
	state := uint64(0x9e3779b97f4a7c15)
	for len(l) < count {
		state ^= state << 13
		state ^= state >> 7
		state ^= state << 17
		v := state
		switch len(l) % 4 {
		case 1:
			v = v&^(0x7ff<<52) | (1018+v>>3%12)<<52
		case 2:
			v = v &^ (0x7fe << 52)
		case 3:
			v = v&^(0x7ff<<52) | (1076+v>>3%14)<<52
		}
		if x := math.Float64frombits(v); v&most64 != 0 && v&inf != inf {
			l = append(l, x)
		}
	}
	return l
}

func rat(x float64) *big.Rat { return new(big.Rat).SetFloat64(x) }

// nearest rounds an exact number that is not 0, or whose zero has no sign.
func nearest(r *big.Rat) uint64 {
	x, _ := r.Float64()
	if x == 0 && r.Sign() < 0 {
		return sign
	}
	return n(x)
}

// TestExact holds the four kinds of arithmetic to exact fractions, rounded once.
func TestExact(t *testing.T) {
	l := numbers(4000)
	for i, x := range l {
		for _, y := range []float64{l[(i+1)%len(l)], l[(i+4)%len(l)], -x, x} {
			a, b := n(x), n(y)
			try(t, "P2.1", []row{
				{0xa0, a, b, nearest(new(big.Rat).Add(rat(x), rat(y))), 0},
				{0xa1, a, b, nearest(new(big.Rat).Sub(rat(x), rat(y))), 0},
				{0xa2, a, b, nearest(new(big.Rat).Mul(rat(x), rat(y))), 0},
				{0xa3, a, b, nearest(new(big.Rat).Quo(rat(x), rat(y))), 0},
			})
		}
	}
}

// TestExactRoot: half a step under the root squares to less than x, half a step over it to more.
func TestExactRoot(t *testing.T) {
	for _, x := range numbers(4000) {
		x = math.Abs(x)
		v, trap := floats.Do(0x9f, n(x), 0)
		r := math.Float64frombits(v)
		if trap != api.Done || r <= 0 {
			t.Fatalf("P2.1: root of %g: %#x, %d", x, v, trap)
		}
		low, high := middle(r, math.Nextafter(r, 0)), middle(r, math.Nextafter(r, math.Inf(1)))
		if low.Mul(low, low).Cmp(rat(x)) > 0 || high.Mul(high, high).Cmp(rat(x)) < 0 {
			t.Errorf("P2.1: root of %g: %g", x, r)
		}
	}
}

func middle(x, y float64) *big.Rat {
	r := rat(x)
	return r.Add(r, rat(y)).Quo(r, big.NewRat(2, 1))
}

// whole gives an exact number cut off towards 0.
func whole(x float64) *big.Int {
	r := rat(x)
	return new(big.Int).Quo(r.Num(), r.Denom())
}

// TestExactRound holds the ways of rounding to exact whole numbers.
func TestExactRound(t *testing.T) {
	for _, x := range numbers(8000) {
		cut := rat(0).SetInt(whole(x))
		up, down := cut, cut
		if cut.Cmp(rat(x)) < 0 {
			up = rat(1).Add(cut, rat(1))
		}
		if cut.Cmp(rat(x)) > 0 {
			down = rat(1).Sub(cut, rat(1))
		}
		near := down
		switch over := rat(0).Sub(rat(x), down).Cmp(rat(0.5)); {
		case over > 0:
			near = up
		case over == 0 && down.Num().Bit(0) == 1:
			near = up
		}
		a := n(x)
		for i, want := range []*big.Rat{up, down, cut, near} {
			try(t, "P2.1", []row{{0x9b + i, a, 0, nearest(want) | a&sign, 0}})
		}
	}
}

// kind is one of the four kinds of whole numbers that a float64 is converted to.
type kind struct {
	op, clamp   int
	bits        uint
	least, most *big.Int
	mask        uint64
}

func kinds() []kind {
	power := func(n uint) *big.Int { return new(big.Int).Lsh(big.NewInt(1), n) }
	one := big.NewInt(1)
	var l []kind
	for _, k := range []kind{{op: 0xaa, clamp: 0xfc02, bits: 32, mask: all32}, {op: 0xb0, clamp: 0xfc06, bits: 64, mask: all64}} {
		half, all := power(k.bits-1), power(k.bits)
		k.least, k.most = new(big.Int).Neg(half), new(big.Int).Sub(half, one)
		l = append(l, k)
		k.op, k.clamp, k.least, k.most = k.op+1, k.clamp+1, new(big.Int), new(big.Int).Sub(all, one)
		l = append(l, k)
	}
	return l
}

// bitsOf gives a whole number in two's complement.
func (k kind) bitsOf(v *big.Int) uint64 {
	low := new(big.Int).And(v, new(big.Int).SetUint64(k.mask))
	return low.Uint64()
}

// TestTruncate holds every conversion to whole numbers to exact ones, at the ends of each range and among many.
func TestTruncate(t *testing.T) {
	l := append(numbers(8000), 0, math.Copysign(0, -1))
	for _, edge := range []float64{0, 1, 2, 1 << 15, 1 << 31, 1 << 32, 1 << 33, 1 << 52, 1 << 53, 1 << 62, 1 << 63, 1 << 64, 1 << 65, math.MaxFloat64} {
		for _, x := range []float64{edge, edge - 1, edge - 0.5, edge + 0.5, edge + 1, math.Nextafter(edge, 0), math.Nextafter(edge, math.MaxFloat64)} {
			l = append(l, x, -x)
		}
	}
	for _, k := range kinds() {
		for _, x := range l {
			v := whole(x)
			strict, trap := k.bitsOf(v), api.Done
			clamped := strict
			if v.Cmp(k.least) < 0 {
				strict, trap, clamped = 0, api.Overflow, k.bitsOf(k.least)
			}
			if v.Cmp(k.most) > 0 {
				strict, trap, clamped = 0, api.Overflow, k.bitsOf(k.most)
			}
			try(t, "P2.2", []row{{k.op, n(x), 7, strict, trap}, {k.clamp, n(x), 7, clamped, api.Done}})
		}
	}
}

// TestTruncateEdges writes out what TestTruncate reckons, where the document names an edge.
func TestTruncateEdges(t *testing.T) {
	try(t, "P2.2", []row{
		{0xaa, n(-3.75), 0, 0xfffffffd, 0}, {0xaa, n(3.75), 0, 3, 0}, {0xaa, n(-0.75), 0, 0, 0}, {0xaa, sign, 0, 0, 0},
		{0xaa, n(2147483647.75), 0, most32, 0}, {0xaa, n(2147483648), 0, 0, api.Overflow}, {0xaa, n(-2147483648.75), 0, 0x80000000, 0}, {0xaa, n(-2147483649), 0, 0, api.Overflow},
		{0xab, n(-0.75), 0, 0, 0}, {0xab, n(-1), 0, 0, api.Overflow}, {0xab, n(4294967295.75), 0, all32, 0}, {0xab, n(4294967296), 0, 0, api.Overflow}, {0xab, n(3000000000), 0, 3000000000, 0},
		{0xb0, n(-3.75), 0, all64 - 2, 0}, {0xb0, n(1 << 63), 0, 0, api.Overflow}, {0xb0, n(1<<63) - 1, 0, 0x7ffffffffffffc00, 0}, {0xb0, n(-1 << 63), 0, sign, 0}, {0xb0, n(-1<<63) + 1, 0, 0, api.Overflow},
		{0xb1, n(-0.75), 0, 0, 0}, {0xb1, n(-1), 0, 0, api.Overflow}, {0xb1, n(1 << 63), 0, sign, 0}, {0xb1, n(1 << 64), 0, 0, api.Overflow}, {0xb1, n(1<<64) - 1, 0, 0xfffffffffffff800, 0},
		{0xfc02, n(1e10), 0, most32, 0}, {0xfc02, n(-1e10), 0, 0x80000000, 0}, {0xfc02, n(-3.75), 0, 0xfffffffd, 0},
		{0xfc03, n(1e10), 0, all32, 0}, {0xfc03, n(-1e10), 0, 0, 0}, {0xfc03, n(3000000000.5), 0, 3000000000, 0},
		{0xfc06, n(1e20), 0, most64, 0}, {0xfc06, n(-1e20), 0, sign, 0}, {0xfc06, n(-3.75), 0, all64 - 2, 0},
		{0xfc07, n(1e20), 0, all64, 0}, {0xfc07, n(-1e20), 0, 0, 0}, {0xfc07, n(1 << 63), 0, sign, 0},
	})
}

func TestTruncateSpecial(t *testing.T) {
	for _, v := range nans {
		for _, k := range kinds() {
			try(t, "P2.2", []row{{k.op, v, 7, 0, api.BadInt}, {k.clamp, v, 7, 0, api.Done}})
		}
	}
	for _, k := range kinds() {
		try(t, "P2.2", []row{
			{k.op, inf, 7, 0, api.Overflow}, {k.op, inf | sign, 7, 0, api.Overflow},
			{k.clamp, inf, 7, k.bitsOf(k.most), api.Done}, {k.clamp, inf | sign, 7, k.bitsOf(k.least), api.Done},
		})
	}
}

func TestFromWhole(t *testing.T) {
	try(t, "P2.2", []row{
		{0xb7, 0, 9, 0, 0}, {0xb7, 5, 9, n(5), 0}, {0xb7, all32, 9, n(-1), 0}, {0xb7, most32, 9, n(most32), 0}, {0xb7, 0x80000000, 9, n(-0x80000000), 0}, {0xb7, 7 << 32, 9, 0, 0}, {0xb7, 7<<32 | 0x80000001, 9, n(-most32), 0},
		{0xb8, 0, 9, 0, 0}, {0xb8, 5, 9, n(5), 0}, {0xb8, all32, 9, n(all32), 0}, {0xb8, 0x80000000, 9, n(0x80000000), 0}, {0xb8, 7 << 32, 9, 0, 0}, {0xb8, all64, 9, n(all32), 0},
		{0xb9, 0, 9, 0, 0}, {0xb9, 5, 9, n(5), 0}, {0xb9, all64, 9, n(-1), 0}, {0xb9, all32, 9, n(all32), 0}, {0xb9, sign, 9, n(-1 << 63), 0}, {0xb9, most64, 9, n(1 << 63), 0}, {0xb9, 1<<53 + 1, 9, n(1 << 53), 0}, {0xb9, 1<<53 + 3, 9, n(1<<53 + 4), 0}, {0xb9, 1<<63 - 512, 9, n(1 << 63), 0}, {0xb9, 1<<63 - 513, 9, n(1<<63) - 1, 0},
		{0xba, 0, 9, 0, 0}, {0xba, 5, 9, n(5), 0}, {0xba, all64, 9, n(1 << 64), 0}, {0xba, sign, 9, n(1 << 63), 0}, {0xba, sign + 1024, 9, n(1 << 63), 0}, {0xba, sign + 1025, 9, n(1<<63) + 1, 0}, {0xba, sign + 3072, 9, n(1<<63) + 2, 0}, {0xba, all64 - 1023, 9, n(1 << 64), 0}, {0xba, all64 - 1024, 9, n(1<<64) - 1, 0},
	})
}

// edges are whole numbers at which a width, a sign or a rounding changes.
func edges() []uint64 {
	l := []uint64{0x5555555555555555, 0xaaaaaaaaaaaaaaaa, 0x1234567890abcdef, quiet, inf + 1 | sign}
	for n := range 64 {
		l = append(l, 1<<n-1, 1<<n, 1<<n+1, math.MaxUint64<<n, 1<<63+1<<n, 3<<n-1, 3<<n, 3<<n+1)
	}
	return l
}

func TestExactFromWhole(t *testing.T) {
	for _, a := range edges() {
		exact := new(big.Rat).SetInt(new(big.Int).SetUint64(a))
		try(t, "P2.2", []row{
			{0xb7, a, quiet, n(float64(int32(a))), 0},
			{0xb8, a, quiet, n(float64(uint32(a))), 0},
			{0xb9, a, quiet, nearest(new(big.Rat).SetInt64(int64(a))), 0},
			{0xba, a, quiet, nearest(exact), 0},
		})
	}
}

func TestUnchanged(t *testing.T) {
	for _, a := range append(append(edges(), ascending()...), nans...) {
		try(t, "P2.2", []row{{0xbd, a, 9, a, 0}, {0xbf, a, 9, a, 0}, {0xbd, a, quiet, a, 0}, {0xbf, a, quiet, a, 0}})
	}
}

// single tells whether op has one operand.
func single(op int) bool {
	return op >= 0x99 && op <= 0x9f || op >= 0xaa
}

// TestWhole holds every operation to what is true of all of them, at every pair of edges.
func TestWhole(t *testing.T) {
	l := append(append(ascending(), nans...), sign, all32, 1<<32, sign+1)
	for op := range 0x10000 {
		if !floats.Is(op) {
			continue
		}
		for _, a := range l {
			for _, b := range l {
				v, trap := floats.Do(op, a, b)
				if trap != api.Done && v != 0 {
					t.Fatalf("P2.1: Do(%#x, %#x, %#x): %#x beside trap %d", op, a, b, v, trap)
				}
				if op >= 0x9b && op <= 0xa5 && floats.NaN(v) && v != quiet {
					t.Fatalf("P2.1: Do(%#x, %#x, %#x): %#x is no Quiet", op, a, b, v)
				}
				if w, other := floats.Do(op, a, 0); single(op) && (w != v || other != trap) {
					t.Fatalf("P2.1: Do(%#x, %#x, %#x) hangs on b", op, a, b)
				}
			}
		}
	}
}
