// Package opcode names instructions by their numbers, for all packages that tell them apart: see doc/03-ops.md.
package opcode

// TwoBytes is where the instructions of two bytes begin: one of them has this number and that of its second byte together.
const TwoBytes = 0xfc00

// The instructions that steer a run.
const (
	Unreachable = 0x00
	Nop         = 0x01
	Block       = 0x02
	Loop        = 0x03
	If          = 0x04
	Else        = 0x05
	End         = 0x0b
	Br          = 0x0c
	BrIf        = 0x0d
	BrTable     = 0x0e
	Return      = 0x0f
	Call        = 0x10
	ReturnCall  = 0x12
)

// The instructions that move values.
const (
	Drop      = 0x1a
	Select    = 0x1b
	LocalGet  = 0x20
	LocalSet  = 0x21
	LocalTee  = 0x22
	GlobalGet = 0x23
	GlobalSet = 0x24
	I32Const  = 0x41
	I64Const  = 0x42
	F64Const  = 0x44
)

// FirstStore is where the stores begin: the loads and stores with a smaller number are loads.
const FirstStore = 0x36

// The instructions for memories as wholes.
const (
	MemorySize = 0x3f
	MemoryGrow = 0x40
	MemoryInit = 0xfc08
	DataDrop   = 0xfc09
	MemoryCopy = 0xfc0a
	MemoryFill = 0xfc0b
)
