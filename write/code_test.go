package write_test

import (
	"bytes"
	"math"
	"reflect"
	"slices"
	"testing"

	"plainsong/api"
	"plainsong/leb"
	"plainsong/ops"
	"plainsong/write"
)

// expect encodes one instruction by the rows of operands.
func expect(i api.Inst) []byte {
	b := []byte{byte(i.Op)}
	if i.Op >= 0xfc00 {
		b = slices.Concat([]byte{0xfc}, u(i.Op-0xfc00))
	}
	for _, r := range operands[i.Op] {
		switch r {
		case 't':
			if short, is := map[int]byte{-1: 0x40, -2: 0x7f, -3: 0x7e, -4: 0x7c}[i.A]; is {
				b = append(b, short)
			} else {
				b = append(b, leb.S(int64(i.A))...)
			}
		case 'A':
			b = append(b, u(i.A)...)
		case 'B':
			b = append(b, u(i.B)...)
		case 'L':
			b = append(b, u(len(i.L)-1)...)
			for _, n := range i.L {
				b = append(b, u(n)...)
			}
		case 'w':
			b = append(b, leb.S(int64(int32(i.N)))...)
		case 'l':
			b = append(b, leb.S(int64(i.N))...)
		case 'f':
			for k := range 8 {
				b = append(b, byte(i.N>>(8*k)))
			}
		default:
			if log := byte(r - '0'); i.A == 0 {
				b = append(b, log)
			} else {
				b = slices.Concat(b, []byte{log + 64}, u(i.A))
			}
			b = append(b, leb.U(i.N)...)
		}
	}
	return b
}

// Encodings that were written down by hand.
func TestCode(t *testing.T) {
	for _, c := range []struct {
		i    api.Inst
		want string
	}{
		{api.Inst{Op: 0x0b}, "0b"}, {api.Inst{Op: 0x00}, "00"}, {api.Inst{Op: 0x01}, "01"}, {api.Inst{Op: 0x05}, "05"}, {api.Inst{Op: 0x0f}, "0f"}, {api.Inst{Op: 0x1a}, "1a"}, {api.Inst{Op: 0x1b}, "1b"},
		{api.Inst{Op: 0x45}, "45"}, {api.Inst{Op: 0x6a}, "6a"}, {api.Inst{Op: 0xa0}, "a0"}, {api.Inst{Op: 0xbf}, "bf"}, {api.Inst{Op: 0xc0}, "c0"}, {api.Inst{Op: 0xc4}, "c4"},
		{api.Inst{Op: 0xfc02}, "fc 02"}, {api.Inst{Op: 0xfc03}, "fc 03"}, {api.Inst{Op: 0xfc07}, "fc 07"},
		{api.Inst{Op: 0x02, A: -1}, "02 40"}, {api.Inst{Op: 0x03, A: -2}, "03 7f"}, {api.Inst{Op: 0x04, A: -3}, "04 7e"}, {api.Inst{Op: 0x02, A: -4}, "02 7c"},
		{api.Inst{Op: 0x02, A: 0}, "02 00"}, {api.Inst{Op: 0x03, A: 1}, "03 01"}, {api.Inst{Op: 0x04, A: 63}, "04 3f"},
		{api.Inst{Op: 0x0c, A: 0}, "0c 00"}, {api.Inst{Op: 0x0c, A: 64}, "0c 40"}, {api.Inst{Op: 0x0d, A: 5}, "0d 05"},
		{api.Inst{Op: 0x0e, L: []int{7}}, "0e 00 07"}, {api.Inst{Op: 0x0e, L: []int{3, 64, 5}}, "0e 02 03 40 05"},
		{api.Inst{Op: 0x0e, L: []int{16, 15, 14, 13, 12, 11, 10, 9, 8, 7, 6, 5, 4, 3, 2, 1, 0}}, "0e 10 10 0f 0e 0d 0c 0b 0a 09 08 07 06 05 04 03 02 01 00"},
		{api.Inst{Op: 0x10, A: 127}, "10 7f"}, {api.Inst{Op: 0x10, A: 128}, "10 80 01"}, {api.Inst{Op: 0x12, A: 255}, "12 ff 01"},
		{api.Inst{Op: 0x20, A: 0}, "20 00"}, {api.Inst{Op: 0x21, A: 255}, "21 ff 01"}, {api.Inst{Op: 0x22, A: 200}, "22 c8 01"}, {api.Inst{Op: 0x23, A: 64}, "23 40"}, {api.Inst{Op: 0x24, A: 1}, "24 01"},
		{api.Inst{Op: 0x28}, "28 02 00"}, {api.Inst{Op: 0x28, A: 1}, "28 42 01 00"}, {api.Inst{Op: 0x28, N: 128}, "28 02 80 01"}, {api.Inst{Op: 0x28, A: 3, N: 1<<32 - 1}, "28 42 03 ff ff ff ff 0f"},
		{api.Inst{Op: 0x29, N: 1}, "29 03 01"}, {api.Inst{Op: 0x2b, A: 2, N: 1}, "2b 43 02 01"}, {api.Inst{Op: 0x2c, N: 1}, "2c 00 01"}, {api.Inst{Op: 0x2d, A: 1, N: 1}, "2d 40 01 01"}, {api.Inst{Op: 0x2e, N: 1}, "2e 01 01"}, {api.Inst{Op: 0x2f, A: 1}, "2f 41 01 00"},
		{api.Inst{Op: 0x30}, "30 00 00"}, {api.Inst{Op: 0x31}, "31 00 00"}, {api.Inst{Op: 0x32}, "32 01 00"}, {api.Inst{Op: 0x33}, "33 01 00"}, {api.Inst{Op: 0x34}, "34 02 00"}, {api.Inst{Op: 0x35}, "35 02 00"},
		{api.Inst{Op: 0x36}, "36 02 00"}, {api.Inst{Op: 0x37}, "37 03 00"}, {api.Inst{Op: 0x39}, "39 03 00"}, {api.Inst{Op: 0x3a}, "3a 00 00"}, {api.Inst{Op: 0x3b}, "3b 01 00"}, {api.Inst{Op: 0x3c}, "3c 00 00"}, {api.Inst{Op: 0x3d}, "3d 01 00"}, {api.Inst{Op: 0x3e, A: 3, N: 9}, "3e 42 03 09"},
		{api.Inst{Op: 0x3f, A: 0}, "3f 00"}, {api.Inst{Op: 0x3f, A: 2}, "3f 02"}, {api.Inst{Op: 0x40, A: 3}, "40 03"},
		{api.Inst{Op: 0xfc08, A: 1, B: 2}, "fc 08 02 01"}, {api.Inst{Op: 0xfc08, A: 0, B: 15}, "fc 08 0f 00"},
		{api.Inst{Op: 0xfc09, A: 15}, "fc 09 0f"},
		{api.Inst{Op: 0xfc0a, A: 1, B: 2}, "fc 0a 01 02"}, {api.Inst{Op: 0xfc0a, A: 3, B: 0}, "fc 0a 03 00"},
		{api.Inst{Op: 0xfc0b, A: 3}, "fc 0b 03"},
		{api.Inst{Op: 0x41, N: 0}, "41 00"}, {api.Inst{Op: 0x41, N: 63}, "41 3f"}, {api.Inst{Op: 0x41, N: 64}, "41 c0 00"}, {api.Inst{Op: 0x41, N: 1<<31 - 1}, "41 ff ff ff ff 07"}, {api.Inst{Op: 0x41, N: 1 << 31}, "41 80 80 80 80 78"}, {api.Inst{Op: 0x41, N: 1<<32 - 1}, "41 7f"}, {api.Inst{Op: 0x41, N: 1<<32 - 65}, "41 bf 7f"},
		{api.Inst{Op: 0x42, N: 0}, "42 00"}, {api.Inst{Op: 0x42, N: 1<<32 - 1}, "42 ff ff ff ff 0f"}, {api.Inst{Op: 0x42, N: 1<<63 - 1}, "42 ff ff ff ff ff ff ff ff ff 00"}, {api.Inst{Op: 0x42, N: 1 << 63}, "42 80 80 80 80 80 80 80 80 80 7f"}, {api.Inst{Op: 0x42, N: 1<<64 - 1}, "42 7f"},
		{api.Inst{Op: 0x44}, "44 00 00 00 00 00 00 00 00"}, {api.Inst{Op: 0x44, N: 0x3ff0000000000000}, "44 00 00 00 00 00 00 f0 3f"}, {api.Inst{Op: 0x44, N: 0x0123456789abcdef}, "44 ef cd ab 89 67 45 23 01"}, {api.Inst{Op: 0x44, N: 1<<64 - 1}, "44 ff ff ff ff ff ff ff ff"},
	} {
		if got := write.Code([]api.Inst{c.i}); !bytes.Equal(got, unhex(t, c.want)) {
			t.Errorf("P8.1: Code(%+v): % x, want %s", c.i, got, c.want)
		}
	}
}

func TestCodeOfNone(t *testing.T) {
	for _, l := range [][]api.Inst{nil, {}, make([]api.Inst, 0, 3)} {
		if got := write.Code(l); len(got) > 0 {
			t.Errorf("P8.1: Code of no instructions: % x", got)
		}
	}
}

// Each instruction with each number that a field may have, alone.
func TestEachInstruction(t *testing.T) {
	hold := func(i api.Inst) {
		t.Helper()
		if got := write.Code([]api.Inst{i}); !bytes.Equal(got, expect(i)) {
			t.Errorf("P8.1: Code(%+v): % x, want % x", i, got, expect(i))
		}
	}
	numbers := []uint64{0, 1, 2, 63, 64, 65, 127, 128, 129, 8191, 8192, 16383, 16384, 1<<31 - 1, 1 << 31, 1<<31 + 1, 1<<32 - 8193, 1<<32 - 65, 1<<32 - 64, 1<<32 - 2, 1<<32 - 1, 1 << 32, 1 << 62, 1 << 63, 1<<64 - 65, 1<<64 - 64, 1<<64 - 1, 0x0123456789abcdef}
	for _, op := range ops.All() {
		l := []int(nil)
		if op == 0x0e {
			l = []int{1, 2}
		}
		for a := -4; a <= 300; a++ {
			if a >= 0 || ops.Opens(op) {
				hold(api.Inst{Op: op, A: a, B: 7, N: 9, L: l})
				hold(api.Inst{Op: op, A: 7, B: max(a, 0), N: 9, L: l})
			}
		}
		for _, n := range numbers {
			hold(api.Inst{Op: op, N: n, L: l})
			hold(api.Inst{Op: op, A: 2, N: n, L: l})
		}
	}
	for n := 1; n <= 300; n++ {
		l := make([]int, n)
		for k := range l {
			l[k] = k
		}
		hold(api.Inst{Op: 0x0e, L: l})
	}
}

func TestCodeInARow(t *testing.T) {
	q := newMaker(1)
	for range 3000 {
		l := q.code(40)
		var want []byte
		for _, i := range l {
			want = append(want, expect(i)...)
		}
		got := write.Code(l)
		if !bytes.Equal(got, want) {
			t.Fatalf("P8.1: Code(%+v): % x, want % x", l, got, want)
		}
		d := &decoder{t, got}
		for at, i := range l {
			if back := d.inst(); !reflect.DeepEqual(back, i) {
				t.Fatalf("W5: instruction %d of an encoding: %+v, want %+v", at, back, i)
			}
		}
		if len(d.b) > 0 {
			t.Fatalf("W5: Code(%+v): more than its instructions: % x", l, got)
		}
	}
}

// What an instruction doesn't use is not written, nor what belongs to no instruction; fields that are too great are written all the same.
func TestCodeOfInvalidInstructions(t *testing.T) {
	rest := api.Inst{A: 5, B: 6, N: 7, L: []int{8, 9}}
	for _, c := range []struct {
		op   int
		want string
	}{
		{0x0b, "0b"}, {0x01, "01"}, {0x6a, "6a"}, {0x20, "20 05"}, {0x02, "02 05"}, {0x0e, "0e 01 08 09"}, {0x41, "41 07"}, {0x28, "28 42 05 07"},
		{0xfc02, "fc 02"}, {0xfc08, "fc 08 06 05"}, {0xfc09, "fc 09 05"}, {0xfc0a, "fc 0a 05 06"}, {0xfc0b, "fc 0b 05"},
		{0x06, "06"}, {0x11, "11"}, {0x2a, "2a"}, {0x38, "38"}, {0x43, "43"}, {0xff, "ff"},
		{0xfc00, "fc 00"}, {0xfc04, "fc 04"}, {0xfc0c, "fc 0c"}, {0xfc7f, "fc 7f"}, {0xfc80, "fc 80 01"}, {0xfd00, "fc 80 02"}, {0xfc00 + 1<<40, "fc 80 80 80 80 80 20"},
	} {
		i := rest
		i.Op = c.op
		if got := write.Code([]api.Inst{i}); !bytes.Equal(got, unhex(t, c.want)) {
			t.Errorf("P8.1: Code(%+v): % x, want %s", i, got, c.want)
		}
	}
	for _, c := range []struct {
		i    api.Inst
		want string
	}{
		{api.Inst{Op: 0x02, A: 64}, "02 c0 00"}, {api.Inst{Op: 0x03, A: -5}, "03 7b"}, {api.Inst{Op: 0x04, A: -65}, "04 bf 7f"}, {api.Inst{Op: 0x02, A: 1 << 32}, "02 80 80 80 80 10"},
		{api.Inst{Op: 0x0c, A: 1 << 32}, "0c 80 80 80 80 10"}, {api.Inst{Op: 0x0e, L: []int{300, 400}}, "0e 01 ac 02 90 03"},
		{api.Inst{Op: 0x28, A: 1 << 14, N: 1 << 32}, "28 42 80 80 01 80 80 80 80 10"}, {api.Inst{Op: 0x29, N: 1<<64 - 1}, "29 03 ff ff ff ff ff ff ff ff ff 01"},
		{api.Inst{Op: 0x41, N: 1<<32 + 5}, "41 05"}, {api.Inst{Op: 0x41, N: 1<<64 - 1}, "41 7f"}, {api.Inst{Op: 0x41, N: 1<<63 + 1<<31}, "41 80 80 80 80 78"},
	} {
		if got := write.Code([]api.Inst{c.i}); !bytes.Equal(got, unhex(t, c.want)) {
			t.Errorf("P8.1: Code(%+v): % x, want %s", c.i, got, c.want)
		}
	}
	// The chapter leaves open what a br_table without labels is: its list is empty, and there is no last one.
	for _, l := range [][]int{nil, {}} {
		if got := write.Code([]api.Inst{{Op: 0x0e, L: l}}); !bytes.Equal(got, []byte{0x0e, 0x00}) {
			t.Errorf("P8.1: Code of a br_table without labels: % x", got)
		}
	}
}

// Whatever Code is given it returns, the same twice, and the instruction behind is written as it is alone.
func TestCodeOfAnything(t *testing.T) {
	odd := []int{math.MinInt, math.MinInt + 1, -1 << 32, -0xfc02, -256, -65, -5, -1, 0, 1, 1 << 31, 1 << 32, math.MaxInt - 1, math.MaxInt}
	known := append(ops.All(), odd...)
	for op := range 0x300 {
		known = append(known, op, 0xfb00+op, 1<<32+op)
	}
	for _, op := range known {
		for _, n := range odd {
			for _, l := range [][]int{nil, {n}, {n, 0, n}} {
				i := api.Inst{Op: op, A: n, B: n, N: uint64(n), L: l}
				first := write.Code([]api.Inst{i})
				both := write.Code([]api.Inst{i, {Op: 0x28, A: 1, N: 5}})
				if len(first) == 0 || !bytes.Equal(both, slices.Concat(first, []byte{0x28, 0x42, 0x01, 0x05})) {
					t.Fatalf("R1: Code(%+v): % x, and with another instruction % x", i, first, both)
				}
			}
		}
	}
}

func TestCodeKeepsToItsArgument(t *testing.T) {
	build := func() []api.Inst {
		l := []api.Inst{{Op: 0x0e, L: []int{1, 2, 3}}, {Op: 0x44, N: 1 << 60}, {Op: 0x0e, L: []int{}}, {Op: 0x0b}}
		stretch(&l)
		return l
	}
	l, was := build(), build()
	first := write.Code(l)
	want := unhex(t, "0e 02 01 02 03 44 00 00 00 00 00 00 00 10 0e 00 0b")
	if !bytes.Equal(first, want) {
		t.Errorf("R5: Code of lists with spare capacity: % x, want % x", first, want)
	}
	second := write.Code(l)
	clear(first[:cap(first)])
	if !bytes.Equal(second, want) || !bytes.Equal(write.Code(l), want) {
		t.Error("R2: answers of Code share memory")
	}
	open(&l)
	open(&was)
	if !reflect.DeepEqual(l, was) {
		t.Error("R2: Code changes its argument")
	}
}
