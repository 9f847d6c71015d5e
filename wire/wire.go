// Package wire names the bytes of the binary format that stand beside the instructions, for all packages that write or read them: see doc/08-write.md and doc/09-read.md.
package wire

// Header begins every encoding: the mark of a module, and the version.
const Header = "\x00asm\x01\x00\x00\x00"

// The numbers of the sections.
const (
	Customs   = 0
	Types     = 1
	Imports   = 2
	Funcs     = 3
	Mems      = 5
	Globals   = 6
	Exports   = 7
	Codes     = 10
	Datas     = 11
	DataCount = 12
)

// The bytes that begin a part, or say of which kind it is.
const (
	FuncType   = 0x60 // a type
	ImportFunc = 0x00 // an import: a function
	MinAlone   = 0x00 // a memory: how many pages it begins with
	MinAndMax  = 0x01 // a memory: both of its numbers of pages
	Fixed      = 0x00 // a global: it isn't set
	Variable   = 0x01 // a global: it may be set
	DataFirst  = 0x00 // a data: active, in memory 0
	DataIdle   = 0x01 // a data: not active
	DataIn     = 0x02 // a data: active, in the memory that is named
)

// Marks within instructions.
const (
	NoResult = 0x40 // the type of a block: neither parameters nor results
	OtherMem = 64   // added to the logarithm of a load or store: its memory is named
)
