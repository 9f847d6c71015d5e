package leb_test

import (
	"bytes"
	"math"
	"math/big"
	"testing"

	"plainsong/leb"
)

// plain and signed are numbers of every length, with those on both sides of each step to one byte more.
func plain() []uint64 {
	var l []uint64
	for n := range uint64(0x4100) {
		l = append(l, n)
	}
	for k := range 64 {
		for d := range uint64(5) {
			l = append(l, 1<<k+d-2, (1<<k)*0x9d+d, ^uint64(0)>>k-d)
		}
	}
	return l
}

func signed() []int64 {
	var l []int64
	for _, n := range plain() {
		l = append(l, int64(n), -int64(n))
	}
	return append(l, math.MinInt64, math.MinInt64+1, math.MaxInt64)
}

// value is what the groups of b make together, reckoned on numbers of any size: with places for more than any width, nothing can fall away.
func value(b []byte, sign bool) *big.Int {
	n := new(big.Int)
	for i := len(b) - 1; i >= 0; i-- {
		n.Mul(n, big.NewInt(128))
		n.Add(n, big.NewInt(int64(b[i]%128)))
	}
	if sign && b[len(b)-1]%128 >= 64 {
		n.Sub(n, new(big.Int).Exp(big.NewInt(128), big.NewInt(int64(len(b))), nil))
	}
	return n
}

// fits tells whether n is a number of so many bits.
func fits(n *big.Int, bits int, sign bool) bool {
	least, end := big.NewInt(0), new(big.Int).Lsh(big.NewInt(1), uint(bits))
	if sign {
		end.Rsh(end, 1)
		least.Neg(end)
	}
	return n.Cmp(least) >= 0 && n.Cmp(end) < 0
}

// decode is the chapter's ReadU or ReadS once more: the bytes up to the first one without 0x80, no more of them than the bits ask for, and the number fits in the bits.
func decode(b []byte, at, bits int, sign bool) (*big.Int, int, bool) {
	if bits < 1 || bits > 64 || at < 0 {
		return big.NewInt(0), 0, false
	}
	for end := at; end < len(b); end++ {
		if b[end] >= 0x80 {
			continue
		}
		n := value(b[at:end+1], sign)
		if (end+1-at-1)*7 >= bits || !fits(n, bits, sign) {
			break
		}
		return n, end + 1, true
	}
	return big.NewInt(0), 0, false
}

// hold holds ReadU and ReadS against decode, and b against what it was.
func hold(t *testing.T, b []byte, at, bits int) {
	t.Helper()
	was := bytes.Clone(b[:cap(b)])
	u, end, ok := leb.ReadU(b, at, bits)
	if n, e, is := decode(b, at, bits, false); new(big.Int).SetUint64(u).Cmp(n) != 0 || end != e || ok != is {
		t.Errorf("P4.2: ReadU(% x, %d, %d): %d, %d, %v, want %d, %d, %v", b, at, bits, u, end, ok, n, e, is)
	}
	s, end, ok := leb.ReadS(b, at, bits)
	if n, e, is := decode(b, at, bits, true); big.NewInt(s).Cmp(n) != 0 || end != e || ok != is {
		t.Errorf("P4.2: ReadS(% x, %d, %d): %d, %d, %v, want %d, %d, %v", b, at, bits, s, end, ok, n, e, is)
	}
	if !bytes.Equal(b[:cap(b)], was) {
		t.Errorf("R2: reading % x has changed it", was)
	}
}

// ended tells whether all bytes but the last one have the bit 0x80.
func ended(b []byte) bool {
	for i, v := range b {
		if (v >= 0x80) != (i < len(b)-1) {
			return false
		}
	}
	return len(b) > 0
}

func TestExamples(t *testing.T) {
	if n, end, ok := leb.ReadU([]byte{0x80, 0x00}, 0, 32); n != 0 || end != 2 || !ok {
		t.Errorf("P4.2: ReadU(80 00): %d, %d, %v", n, end, ok)
	}
	if b := leb.S(-1); !bytes.Equal(b, []byte{0x7f}) {
		t.Errorf("P4.1: S(-1): % x", b)
	}
	if n, end, ok := leb.ReadU(bytes.Repeat([]byte{0xff}, 5), 0, 32); n != 0 || end != 0 || ok {
		t.Errorf("P4.2: ReadU of five ff: %d, %d, %v", n, end, ok)
	}
}

func TestKnownEncodings(t *testing.T) {
	for _, r := range []struct {
		n uint64
		b string
	}{
		{0, "\x00"}, {1, "\x01"}, {63, "\x3f"}, {64, "\x40"}, {127, "\x7f"}, {128, "\x80\x01"},
		{16383, "\xff\x7f"}, {16384, "\x80\x80\x01"}, {624485, "\xe5\x8e\x26"},
		{math.MaxUint32, "\xff\xff\xff\xff\x0f"}, {math.MaxUint64, "\xff\xff\xff\xff\xff\xff\xff\xff\xff\x01"},
	} {
		if b := leb.U(r.n); string(b) != r.b {
			t.Errorf("P4.1: U(%d): % x, want % x", r.n, b, r.b)
		}
	}
	for _, r := range []struct {
		n int64
		b string
	}{
		{0, "\x00"}, {1, "\x01"}, {63, "\x3f"}, {64, "\xc0\x00"}, {127, "\xff\x00"}, {128, "\x80\x01"}, {8191, "\xff\x3f"}, {8192, "\x80\xc0\x00"},
		{-1, "\x7f"}, {-64, "\x40"}, {-65, "\xbf\x7f"}, {-128, "\x80\x7f"}, {-129, "\xff\x7e"}, {-8192, "\x80\x40"}, {-8193, "\xff\xbf\x7f"}, {-123456, "\xc0\xbb\x78"},
		{math.MinInt32, "\x80\x80\x80\x80\x78"}, {math.MaxInt32, "\xff\xff\xff\xff\x07"},
		{math.MinInt64, "\x80\x80\x80\x80\x80\x80\x80\x80\x80\x7f"}, {math.MaxInt64, "\xff\xff\xff\xff\xff\xff\xff\xff\xff\x00"},
	} {
		if b := leb.S(r.n); string(b) != r.b {
			t.Errorf("P4.1: S(%d): % x, want % x", r.n, b, r.b)
		}
	}
}

// An encoding is as short as possible if its number fits in no fewer groups.
func TestEncodingsAreRightAndShort(t *testing.T) {
	for _, n := range plain() {
		b := leb.U(n)
		if !ended(b) || value(b, false).Cmp(new(big.Int).SetUint64(n)) != 0 || len(b) > 1 && fits(value(b, false), 7*len(b)-7, false) {
			t.Errorf("P4.1: U(%d): % x", n, b)
		}
	}
	for _, n := range signed() {
		b := leb.S(n)
		if !ended(b) || value(b, true).Cmp(big.NewInt(n)) != 0 || len(b) > 1 && fits(value(b, true), 7*len(b)-7, true) {
			t.Errorf("P4.1: S(%d): % x", n, b)
		}
	}
}

func TestEncodingsAreNewMemory(t *testing.T) {
	for _, encode := range []func() []byte{
		func() []byte { return leb.U(0) }, func() []byte { return leb.U(math.MaxUint64) },
		func() []byte { return leb.S(-1) }, func() []byte { return leb.S(math.MinInt64) },
	} {
		first := encode()
		want, second := bytes.Clone(first), encode()
		for i := range first[:cap(first)] {
			first[:cap(first)][i] ^= 0xff
		}
		if third := encode(); !bytes.Equal(second, want) || !bytes.Equal(third, want) {
			t.Errorf("R2: writing over an answer % x has changed another: % x, % x", want, second, third)
		}
	}
}

// back reads an encoding of n from amid other bytes.
func back[T uint64 | int64](t *testing.T, n T, b []byte, read func([]byte, int, int) (T, int, bool)) {
	t.Helper()
	for _, at := range []int{0, 1, 5} {
		l := append(append(bytes.Repeat([]byte{0xff}, at), b...), 0xff, 0x00)
		if v, end, ok := read(l, at, 64); v != n || end != at+len(b) || !ok {
			t.Errorf("P4.2: read from % x, %d, 64: %d, %d, %v, want %d", l, at, v, end, ok, n)
		}
	}
}

func TestReadsWhatIsWritten(t *testing.T) {
	for _, n := range plain() {
		back(t, n, leb.U(n), leb.ReadU)
	}
	for _, n := range signed() {
		back(t, n, leb.S(n), leb.ReadS)
	}
}

// Every one or two bytes for all widths that they can tell apart, and some wrong ones.
func TestShortEncodings(t *testing.T) {
	for _, bits := range []int{-1, 0, 1, 2, 3, 6, 7, 8, 9, 13, 14, 15, 32, 64, 65} {
		for v := range 0x10000 {
			hold(t, []byte{byte(v), byte(v >> 8)}, 0, bits)
		}
	}
}

// For each width, the last possible byte with all its values, behind groups of ones and of zeros, one byte earlier and one later too.
func TestLastPossibleByte(t *testing.T) {
	for bits := 1; bits <= 64; bits++ {
		most := (bits + 6) / 7
		for _, before := range []byte{0x80, 0xff, 0xd5} {
			for size := max(1, most-1); size <= most+1; size++ {
				for last := range 0x100 {
					b := append(bytes.Repeat([]byte{before}, size-1), byte(last))
					hold(t, b, 0, bits)
					hold(t, append(b, 0x00), 0, bits)
				}
			}
		}
	}
}

// More bytes than necessary are accepted, up to as many as the width has.
func TestLongEncodings(t *testing.T) {
	for bits := 1; bits <= 64; bits++ {
		most := (bits + 6) / 7
		for size := 1; size <= most+2; size++ {
			zero := append(bytes.Repeat([]byte{0x80}, size-1), 0x00)
			minus := append(bytes.Repeat([]byte{0xff}, size-1), 0x7f)
			end := size
			if size > most {
				end = 0
			}
			if n, e, ok := leb.ReadU(zero, 0, bits); n != 0 || e != end || ok != (end > 0) {
				t.Errorf("P4.2: ReadU(% x, 0, %d): %d, %d, %v", zero, bits, n, e, ok)
			}
			if n, e, ok := leb.ReadS(zero, 0, bits); n != 0 || e != end || ok != (end > 0) {
				t.Errorf("P4.2: ReadS(% x, 0, %d): %d, %d, %v", zero, bits, n, e, ok)
			}
			if n, e, ok := leb.ReadS(minus, 0, bits); e != end || ok != (end > 0) || ok != (n == -1) {
				t.Errorf("P4.2: ReadS(% x, 0, %d): %d, %d, %v", minus, bits, n, e, ok)
			}
		}
	}
}

func TestEndsTooEarly(t *testing.T) {
	whole := []byte{0x81, 0x82, 0x83, 0x84, 0x05, 0x06}
	for size := range len(whole) + 1 {
		// What lies behind the slice's end would end the encoding, were it read.
		for at := range size + 2 {
			hold(t, whole[:size], at, 35)
			hold(t, whole[:size:size], at, 35)
		}
	}
	for _, b := range [][]byte{nil, {}, make([]byte, 0, 4)} {
		hold(t, b, 0, 32)
	}
}

func TestWrongArguments(t *testing.T) {
	b := []byte{0x01, 0x7f, 0x80, 0x00}
	odd := []int{math.MinInt, math.MinInt + 1, math.MinInt32, -65, -64, -8, -1, 4, 5, 65, 71, 1 << 32, 1<<32 + 1, math.MaxInt - 9, math.MaxInt - 1, math.MaxInt}
	for _, x := range odd {
		hold(t, b, x, 32)
		hold(t, nil, x, 32)
		for _, y := range odd {
			hold(t, b, x, y)
		}
		if x > 64 || x < 1 {
			hold(t, b, 0, x)
		}
	}
	hold(t, b, 0, 0)
}
