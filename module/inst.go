package module

import (
	"math"

	"plainsong/api"
	"plainsong/opcode"
	"plainsong/ops"
)

// fields says between which numbers those of an instruction lie. One that the instruction doesn't use is 0, as its bounds are then.
type fields struct {
	leastA, mostA           int
	mostB                   int
	mostN                   uint64
	leastLabels, mostLabels int
}

// Inst reports whether i is an instruction with valid fields.
func Inst(i api.Inst) bool {
	if !ops.Known(i.Op) {
		return false
	}
	f := fieldsOf(i.Op)
	return within(i.A, f.leastA, f.mostA) &&
		within(i.B, 0, f.mostB) &&
		i.N <= f.mostN &&
		within(len(i.L), f.leastLabels, f.mostLabels) &&
		rightLabels(i.L)
}

func rightLabels(l []int) bool {
	for _, n := range l {
		if !within(n, 0, api.MaxDeep) {
			return false
		}
	}
	return true
}

func fieldsOf(op int) fields {
	switch op {
	case opcode.Block, opcode.Loop, opcode.If:
		return fields{leastA: leastBlock, mostA: api.MaxTypes - 1}
	case opcode.Br, opcode.BrIf:
		return fields{mostA: api.MaxDeep}
	case opcode.BrTable:
		return fields{leastLabels: 1, mostLabels: api.MaxTable + 1}
	case opcode.Call, opcode.ReturnCall:
		return fields{mostA: api.MaxFuncs - 1}
	case opcode.LocalGet, opcode.LocalSet, opcode.LocalTee:
		return fields{mostA: api.MaxLocals - 1}
	case opcode.GlobalGet, opcode.GlobalSet:
		return fields{mostA: api.MaxGlobals - 1}
	case opcode.MemorySize, opcode.MemoryGrow, opcode.MemoryFill:
		return fields{mostA: api.MaxMems - 1}
	case opcode.MemoryInit:
		return fields{mostA: api.MaxMems - 1, mostB: api.MaxData - 1}
	case opcode.DataDrop:
		return fields{mostA: api.MaxData - 1}
	case opcode.MemoryCopy:
		return fields{mostA: api.MaxMems - 1, mostB: api.MaxMems - 1}
	case opcode.I32Const:
		return fields{mostN: math.MaxUint32}
	case opcode.I64Const, opcode.F64Const:
		return fields{mostN: math.MaxUint64}
	}
	if _, _, _, is := ops.Access(op); is {
		return fields{mostA: api.MaxMems - 1, mostN: math.MaxUint32}
	}
	return fields{}
}

func within(n, least, most int) bool {
	return n >= least && n <= most
}
