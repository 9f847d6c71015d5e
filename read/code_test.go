package read_test

import (
	"math"
	"slices"
	"testing"

	"plainsong/api"
	"plainsong/leb"
	"plainsong/ops"
)

// code returns the encoding of a module with one function, whose code is that and an end, and the number of no Datas.
func code(b []byte) []byte {
	n := byte(len(b))
	return encoding([]byte{3, 2, 1, 0, 12, 1, 0, 10, n + 4, 1, n + 2, 0}, b, []byte{0x0b})
}

// function returns the module of code: i, with its end if it begins a block.
func function(i api.Inst) api.Module {
	l := append([]api.Inst{i}, end()...)
	if ops.Opens(i.Op) {
		l = append(l, end()...)
	}
	return api.Module{Funcs: []api.Func{{Code: l}}}
}

// Encodings of single instructions that were written down by hand, some of them as chapter 8 writes them and some in other ways.
func TestInstructions(t *testing.T) {
	for _, c := range []struct {
		b    string
		want api.Inst
	}{
		{"00", api.Inst{Op: 0x00}}, {"01", api.Inst{Op: 0x01}}, {"0f", api.Inst{Op: 0x0f}}, {"1a", api.Inst{Op: 0x1a}}, {"1b", api.Inst{Op: 0x1b}},
		{"45", api.Inst{Op: 0x45}}, {"6a", api.Inst{Op: 0x6a}}, {"a0", api.Inst{Op: 0xa0}}, {"bf", api.Inst{Op: 0xbf}}, {"c0", api.Inst{Op: 0xc0}}, {"c4", api.Inst{Op: 0xc4}},
		{"fc 02", api.Inst{Op: 0xfc02}}, {"fc 03", api.Inst{Op: 0xfc03}}, {"fc 07", api.Inst{Op: 0xfc07}}, {"fc 82 00", api.Inst{Op: 0xfc02}}, {"fc 86 80 80 80 00", api.Inst{Op: 0xfc06}},
		{"02 40 0b", api.Inst{Op: 0x02, A: -1}}, {"03 7f 0b", api.Inst{Op: 0x03, A: -2}}, {"04 7e 0b", api.Inst{Op: 0x04, A: -3}}, {"02 7c 0b", api.Inst{Op: 0x02, A: -4}},
		{"02 00 0b", api.Inst{Op: 0x02, A: 0}}, {"03 3f 0b", api.Inst{Op: 0x03, A: 63}}, {"04 81 00 0b", api.Inst{Op: 0x04, A: 1}}, {"02 bf 80 80 80 00 0b", api.Inst{Op: 0x02, A: 63}},
		// The types of blocks are signed numbers of 33 bits, those below zero too.
		{"02 c0 7f 0b", api.Inst{Op: 0x02, A: -1}}, {"03 ff 7f 0b", api.Inst{Op: 0x03, A: -2}}, {"04 fe ff 7f 0b", api.Inst{Op: 0x04, A: -3}}, {"02 fc ff ff ff 7f 0b", api.Inst{Op: 0x02, A: -4}},
		{"0c 00", api.Inst{Op: 0x0c}}, {"0c 40", api.Inst{Op: 0x0c, A: 64}}, {"0d 05", api.Inst{Op: 0x0d, A: 5}}, {"0d 85 80 80 80 00", api.Inst{Op: 0x0d, A: 5}},
		{"0e 00 07", api.Inst{Op: 0x0e, L: []int{7}}}, {"0e 02 03 40 05", api.Inst{Op: 0x0e, L: []int{3, 64, 5}}}, {"0e 82 00 83 00 c0 00 85 80 00", api.Inst{Op: 0x0e, L: []int{3, 64, 5}}},
		{"0e 10 10 0f 0e 0d 0c 0b 0a 09 08 07 06 05 04 03 02 01 00", api.Inst{Op: 0x0e, L: []int{16, 15, 14, 13, 12, 11, 10, 9, 8, 7, 6, 5, 4, 3, 2, 1, 0}}},
		{"10 7f", api.Inst{Op: 0x10, A: 127}}, {"10 80 01", api.Inst{Op: 0x10, A: 128}}, {"12 ff 81 80 80 00", api.Inst{Op: 0x12, A: 255}},
		{"20 00", api.Inst{Op: 0x20}}, {"21 ff 01", api.Inst{Op: 0x21, A: 255}}, {"22 c8 01", api.Inst{Op: 0x22, A: 200}}, {"23 40", api.Inst{Op: 0x23, A: 64}}, {"24 81 00", api.Inst{Op: 0x24, A: 1}},
		{"28 02 00", api.Inst{Op: 0x28}}, {"28 01 00", api.Inst{Op: 0x28}}, {"28 00 00", api.Inst{Op: 0x28}}, {"28 42 01 00", api.Inst{Op: 0x28, A: 1}}, {"28 41 01 00", api.Inst{Op: 0x28, A: 1}}, {"28 40 01 00", api.Inst{Op: 0x28, A: 1}},
		{"28 40 00 00", api.Inst{Op: 0x28}}, {"28 42 00 07", api.Inst{Op: 0x28, N: 7}}, {"28 c2 80 00 83 00 87 80 00", api.Inst{Op: 0x28, A: 3, N: 7}}, {"28 82 80 80 80 00 80 80 80 80 00", api.Inst{Op: 0x28}},
		{"28 02 ff ff ff ff 0f", api.Inst{Op: 0x28, N: math.MaxUint32}}, {"29 43 03 80 80 80 80 08", api.Inst{Op: 0x29, A: 3, N: 1 << 31}},
		{"2b 03 01", api.Inst{Op: 0x2b, N: 1}}, {"2c 00 01", api.Inst{Op: 0x2c, N: 1}}, {"2d 40 00 01", api.Inst{Op: 0x2d, N: 1}}, {"2f 01 01", api.Inst{Op: 0x2f, N: 1}}, {"35 02 01", api.Inst{Op: 0x35, N: 1}}, {"39 00 01", api.Inst{Op: 0x39, N: 1}}, {"3e 42 02 01", api.Inst{Op: 0x3e, A: 2, N: 1}},
		{"3f 00", api.Inst{Op: 0x3f}}, {"3f 82 00", api.Inst{Op: 0x3f, A: 2}}, {"40 03", api.Inst{Op: 0x40, A: 3}},
		{"fc 08 02 01", api.Inst{Op: 0xfc08, A: 1, B: 2}}, {"fc 88 00 8f 00 80 00", api.Inst{Op: 0xfc08, B: 15}}, {"fc 09 0f", api.Inst{Op: 0xfc09, A: 15}}, {"fc 0a 01 02", api.Inst{Op: 0xfc0a, A: 1, B: 2}}, {"fc 0a 83 00 80 00", api.Inst{Op: 0xfc0a, A: 3}}, {"fc 0b 03", api.Inst{Op: 0xfc0b, A: 3}},
		{"41 00", api.Inst{Op: 0x41}}, {"41 3f", api.Inst{Op: 0x41, N: 63}}, {"41 7f", api.Inst{Op: 0x41, N: math.MaxUint32}}, {"41 80 80 80 80 78", api.Inst{Op: 0x41, N: 1 << 31}}, {"41 ff ff ff ff 07", api.Inst{Op: 0x41, N: 1<<31 - 1}}, {"41 ff ff ff ff 7f", api.Inst{Op: 0x41, N: math.MaxUint32}}, {"41 80 00", api.Inst{Op: 0x41}},
		{"42 7f", api.Inst{Op: 0x42, N: math.MaxUint64}}, {"42 80 80 80 80 80 80 80 80 80 7f", api.Inst{Op: 0x42, N: 1 << 63}}, {"42 ff ff ff ff ff ff ff ff ff 00", api.Inst{Op: 0x42, N: math.MaxInt64}}, {"42 80 80 80 80 08", api.Inst{Op: 0x42, N: 1 << 31}}, {"42 ff ff ff ff ff ff ff ff ff 7f", api.Inst{Op: 0x42, N: math.MaxUint64}},
		{"44 ef cd ab 89 67 45 23 01", api.Inst{Op: 0x44, N: 0x0123456789abcdef}}, {"44 01 00 00 00 00 00 f4 7f", api.Inst{Op: 0x44, N: 0x7ff4000000000001}},
	} {
		holds(t, code(coded(t, c.b)), function(c.want), "an instruction "+c.b)
	}
}

// Codes that are none, because of one instruction.
func TestRefusedInstructions(t *testing.T) {
	for _, b := range []string{
		"fc 82 80 80 80 10", "fc 82 80 80 80 80 00", "fc", "fc 80", "fc ff ff ff ff 0f",
		"02", "02 7d 0b", "02 7b 0b", "02 70 0b", "02 60 0b", "02 41 0b", "02 c0 00 0b", "02 ff ff ff ff 0f 0b", "02 80 80 80 80 10 0b", "02 80 80 80 80 70 0b", "02 bf 7f 0b", "02 80 7f 0b", "02 c0 ff ff ff 5f 0b", "02 c0 ff ff ff ff 7f 0b", "02 80 80 80 80 80 00 0b",
		"05", "0b", "04 40 05 05 0b", "02 40 05 0b", "03 40",
		"0c", "0c 41", "0d c1 00", "0c 80 80 80 80 10", "0c 80 80 80 80 80 00",
		"0e", "0e 00", "0e 01 00", "0e 11 00 00 00 00 00 00 00 00 00 00 00 00 00 00 00 00 00 00", "0e 00 41", "0e 01 41 00", "0e ff ff ff ff 0f 00", "0e 80 80 80 80 10 00",
		"10", "10 80 02", "12 80 02", "20 80 02", "21 80 02", "22 80 02", "23 80 02", "24 80 02", "20 80 80 80 80 08", "20 80 80 80 80 10", "20 ff ff ff ff ff 00",
		"28", "28 02", "28 42 00", "28 42 04 00", "28 02 80 80 80 80 10", "28 02 80 80 80 80 80 00", "28 43 03 80 80 80 80 08", "28 80 01 00", "28 82 01 00", "28 c2 01 00 00", "28 80 80 80 80 10 00",
		"3f", "3f 04", "40 04", "40 80 80 80 80 10",
		"fc 08", "fc 08 00", "fc 08 10 00", "fc 08 00 04", "fc 09", "fc 09 10", "fc 0a", "fc 0a 00", "fc 0a 04 00", "fc 0a 00 04", "fc 0b", "fc 0b 04",
		"41", "41 80 80 80 80 08", "41 ff ff ff ff 0f", "41 80 80 80 80 70", "41 ff ff ff ff 6f", "41 80 80 80 80 80 00",
		"42", "42 80 80 80 80 80 80 80 80 80 01", "42 ff ff ff ff ff ff ff ff ff 7e", "42 80 80 80 80 80 80 80 80 80 80 00",
		"44", "44 00 00 00 00 00 00 00", "44 00 00 00 00 00 00",
	} {
		refused(t, code(coded(t, b)), "a code with "+b)
	}
}

// Each number that may be an instruction, alone.
func TestEachOp(t *testing.T) {
	for op := range 0x100 {
		b := code([]byte{byte(op)})
		if slices.Contains(known, op) && operands[op] == "" && op != 0x05 && op != 0x0b {
			holds(t, b, function(api.Inst{Op: op}), "an instruction")
		} else {
			refused(t, b, "no instruction, or one without its operands")
		}
		if !slices.Contains(known, op) {
			refused(t, code([]byte{byte(op), 0, 0, 0, 0, 0, 0, 0, 0}), "no instruction")
		}
	}
	for n := range 1000 {
		op := 0xfc00 + n
		b := code(slices.Concat([]byte{0xfc}, leb.U(uint64(n))))
		if slices.Contains(known, op) && operands[op] == "" {
			holds(t, b, function(api.Inst{Op: op}), "an instruction")
		} else {
			refused(t, b, "no instruction, or one without its operands")
		}
		if !slices.Contains(known, op) {
			refused(t, code(slices.Concat([]byte{0xfc}, leb.U(uint64(n)), []byte{0, 0})), "no instruction")
		}
	}
}

// Each instruction with all its fields, written freely.
func TestEachInstruction(t *testing.T) {
	w := loose{newMaker(4)}
	for _, op := range known {
		for range 300 {
			if i := w.inst(op); op != 0x05 && op != 0x0b {
				b := w.write(i)
				if ops.Opens(op) {
					b = append(b, 0x0b)
				}
				holds(t, code(b), function(i), "an instruction")
			}
		}
	}
}

// Each load and store with each logarithm, that of its bytes and others, with and without a memory.
func TestLogarithms(t *testing.T) {
	for _, op := range known {
		size, _, _, is := ops.Access(op)
		if !is {
			continue
		}
		for log := range 300 {
			short := code(slices.Concat([]byte{byte(op)}, leb.U(uint64(log)), []byte{5}))
			if log < 4 && 1<<log <= size {
				holds(t, short, function(api.Inst{Op: op, N: 5}), "an access")
			} else {
				refused(t, short, "an access with a wrong logarithm")
			}
			for mem := range 5 {
				long := code(slices.Concat([]byte{byte(op)}, leb.U(uint64(log)), []byte{byte(mem), 5}))
				if log >= 64 && log < 68 && 1<<(log-64) <= size && mem < 4 {
					holds(t, long, function(api.Inst{Op: op, A: mem, N: 5}), "an access")
				} else if log >= 64 {
					refused(t, long, "an access with a wrong logarithm")
				}
			}
		}
	}
}
