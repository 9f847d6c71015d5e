package write

import (
	"math/bits"

	"plainsong/api"
	"plainsong/leb"
	"plainsong/module"
	"plainsong/opcode"
	"plainsong/ops"
	"plainsong/wire"
)

// Code returns the encodings of the instructions, one after the other.
func Code(l []api.Inst) []byte {
	var b []byte
	for _, i := range l {
		b = instruction(b, i)
	}
	return b
}

// instruction appends i. Code takes instructions that are not valid too: of those, what their Op doesn't use is left out.
func instruction(b []byte, i api.Inst) []byte {
	b = operation(b, i.Op)
	switch i.Op {
	case opcode.Block, opcode.Loop, opcode.If:
		return blockType(b, i.A)
	case opcode.Br, opcode.BrIf, opcode.Call, opcode.ReturnCall,
		opcode.LocalGet, opcode.LocalSet, opcode.LocalTee, opcode.GlobalGet, opcode.GlobalSet,
		opcode.MemorySize, opcode.MemoryGrow, opcode.DataDrop, opcode.MemoryFill:
		return number(b, i.A)
	case opcode.BrTable:
		return labels(b, i.L)
	case opcode.MemoryInit:
		return number(number(b, i.B), i.A)
	case opcode.MemoryCopy:
		return number(number(b, i.A), i.B)
	case opcode.I32Const:
		return append(b, leb.S(int64(int32(i.N)))...)
	case opcode.I64Const:
		return append(b, leb.S(int64(i.N))...)
	case opcode.F64Const:
		return double(b, i.N)
	}
	if size, _, _, is := ops.Access(i.Op); is {
		return access(b, i, size)
	}
	return b
}

// operation appends the byte of an Op, or its two.
func operation(b []byte, op int) []byte {
	if op < opcode.TwoBytes {
		return append(b, byte(op))
	}
	return number(append(b, opcode.TwoBytes>>8), op-opcode.TwoBytes)
}

// blockType appends the A of a block. Without a module, only those have a type that stand for it by themselves.
func blockType(b []byte, a int) []byte {
	t, short := module.Block(api.Module{}, a)
	switch {
	case !short:
		return append(b, leb.S(int64(a))...)
	case len(t.Results) == 0:
		return append(b, wire.NoResult)
	}
	return append(b, byte(t.Results[0]))
}

// labels appends those of a br_table: all but the last one are a list, and that one follows them.
func labels(b []byte, l []int) []byte {
	b = number(b, max(len(l)-1, 0))
	for _, n := range l {
		b = number(b, n)
	}
	return b
}

// access appends the operands of a load or store of so many bytes.
func access(b []byte, i api.Inst, size int) []byte {
	log := bits.TrailingZeros(uint(size))
	if i.A == 0 {
		b = number(b, log)
	} else {
		b = number(number(b, log+wire.OtherMem), i.A)
	}
	return append(b, leb.U(i.N)...)
}

// double appends the eight bytes of a floating-point number.
func double(b []byte, v uint64) []byte {
	for range 8 {
		b = append(b, byte(v))
		v >>= 8
	}
	return b
}
