package write

import (
	"plainsong/api"
	"plainsong/opcode"
	"plainsong/wire"
)

func types(l []api.Type) []byte {
	b := number(nil, len(l))
	for _, t := range l {
		b = append(b, wire.FuncType)
		b = values(b, t.Params)
		b = values(b, t.Results)
	}
	return b
}

// values appends a list of types of values.
func values(b []byte, l []int) []byte {
	b = number(b, len(l))
	for _, t := range l {
		b = append(b, byte(t))
	}
	return b
}

func imports(l []api.Import) []byte {
	b := number(nil, len(l))
	for _, v := range l {
		b = name(b, v.Module)
		b = name(b, v.Name)
		b = append(b, wire.ImportFunc)
		b = number(b, v.Type)
	}
	return b
}

func funcs(l []api.Func) []byte {
	b := number(nil, len(l))
	for _, f := range l {
		b = number(b, f.Type)
	}
	return b
}

func mems(l []api.Mem) []byte {
	b := number(nil, len(l))
	for _, v := range l {
		b = append(b, wire.MinAndMax)
		b = number(b, v.Min)
		b = number(b, v.Max)
	}
	return b
}

func globals(l []api.Global) []byte {
	b := number(nil, len(l))
	for _, g := range l {
		variable := byte(wire.Fixed)
		if g.Var {
			variable = wire.Variable
		}
		b = append(b, byte(g.Type), variable)
		b = constant(b, constOf(g.Type), g.Init)
	}
	return b
}

// constOf returns the constant instruction of a type.
func constOf(t int) int {
	switch t {
	case api.I32:
		return opcode.I32Const
	case api.I64:
		return opcode.I64Const
	}
	return opcode.F64Const
}

// constant appends a constant instruction, and the end that makes it a code of its own.
func constant(b []byte, op int, v uint64) []byte {
	b = instruction(b, api.Inst{Op: op, N: v})
	return instruction(b, api.Inst{Op: opcode.End})
}

func exports(l []api.Export) []byte {
	b := number(nil, len(l))
	for _, e := range l {
		b = name(b, e.Name)
		b = append(b, byte(e.Kind))
		b = number(b, e.Index)
	}
	return b
}

func bodies(l []api.Func) []byte {
	b := number(nil, len(l))
	for _, f := range l {
		if len(b) > api.MaxBytes {
			break // Too long already; as Funcs may share one Code, all of them could be longer by far than the module itself.
		}
		b = sized(b, append(locals(f.Locals), Code(f.Code)...))
	}
	return b
}

// locals returns the list of the maximal runs of equal types.
func locals(l []int) []byte {
	var runs []byte
	count := 0
	for from, to := 0, 0; from < len(l); from = to {
		for to < len(l) && l[to] == l[from] {
			to++
		}
		runs = append(number(runs, to-from), byte(l[from]))
		count++
	}
	return append(number(nil, count), runs...)
}

func datas(l []api.Data) []byte {
	b := number(nil, len(l))
	for _, d := range l {
		switch {
		case !d.Active:
			b = append(b, wire.DataIdle)
		case d.Mem == 0:
			b = append(b, wire.DataFirst)
		default:
			b = append(b, wire.DataIn)
			b = number(b, d.Mem)
		}
		if d.Active {
			b = constant(b, opcode.I32Const, uint64(d.At))
		}
		b = sized(b, d.Bytes)
	}
	return b
}
