package read

import (
	"math"
	"math/bits"

	"plainsong/api"
	"plainsong/opcode"
	"plainsong/ops"
	"plainsong/wire"
)

// blockBits is the width of the type of a block: an index, and the numbers below zero.
const blockBits = indexBits + 1

// The types of blocks that stand for themselves, as the signed numbers that their bytes are.
const (
	noResult  = wire.NoResult - 0x80
	i32Result = api.I32 - 0x80
	i64Result = api.I64 - 0x80
	f64Result = api.F64 - 0x80
)

// code takes the instructions up to the end of the body: whether the last end stands there, match.Of tells.
func (d *decoder) code() []api.Inst {
	var l []api.Inst
	for d.more() {
		i := d.instruction()
		if namesData(i.Op) && !d.counted {
			d.fail()
		}
		l = append(l, i)
	}
	return l
}

// namesData reports whether op names a Data, so that the number of Datas has to be given.
func namesData(op int) bool {
	return op == opcode.MemoryInit || op == opcode.DataDrop
}

// instruction takes an instruction. Whether its fields are valid is a matter of the module, but an Op that isn't known has no fields to take.
func (r *reader) instruction() api.Inst {
	i := api.Inst{Op: r.operation()}
	switch i.Op {
	case opcode.Block, opcode.Loop, opcode.If:
		i.A = r.blockType()
	case opcode.Br, opcode.BrIf, opcode.Call, opcode.ReturnCall,
		opcode.LocalGet, opcode.LocalSet, opcode.LocalTee, opcode.GlobalGet, opcode.GlobalSet,
		opcode.MemorySize, opcode.MemoryGrow, opcode.DataDrop, opcode.MemoryFill:
		i.A = r.number()
	case opcode.BrTable:
		i.L = r.labels()
	case opcode.MemoryInit:
		i.B = r.number()
		i.A = r.number()
	case opcode.MemoryCopy:
		i.A = r.number()
		i.B = r.number()
	case opcode.I32Const:
		i.N = uint64(uint32(r.signed(32)))
	case opcode.I64Const:
		i.N = uint64(r.signed(64))
	case opcode.F64Const:
		i.N = r.double()
	}
	if size, _, _, is := ops.Access(i.Op); is {
		i.A, i.N = r.access(size)
	}
	return i
}

// operation takes the byte of an Op, or its two.
func (r *reader) operation() int {
	op := int(r.one())
	if op == opcode.TwoBytes>>8 {
		op = opcode.TwoBytes + r.number()
	}
	if !ops.Known(op) {
		r.fail()
	}
	return op
}

// blockType takes the A of a block.
func (r *reader) blockType() int {
	n := r.signed(blockBits)
	switch {
	case n == noResult:
		return -1
	case n == i32Result:
		return -2
	case n == i64Result:
		return -3
	case n == f64Result:
		return -4
	case n < 0 || n > math.MaxInt32:
		r.fail()
		return 0
	}
	return int(n)
}

// labels takes those of a br_table: a list, and the last one behind it.
func (r *reader) labels() []int {
	l := list(r, (*reader).number)
	return append(l, r.number())
}

// access takes the operands of a load or store of so many bytes: its memory and its offset.
func (r *reader) access(size int) (int, uint64) {
	log, mem := r.number(), 0
	if log >= wire.OtherMem {
		log -= wire.OtherMem
		mem = r.number()
	}
	if log > bits.TrailingZeros(uint(size)) {
		r.fail()
	}
	return mem, r.unsigned()
}
