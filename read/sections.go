package read

import (
	"bytes"

	"plainsong/api"
	"plainsong/opcode"
	"plainsong/ops"
	"plainsong/wire"
)

func (r *reader) custom() api.Custom {
	name := r.name()
	return api.Custom{Name: name, Bytes: bytes.Clone(r.bytes(len(r.b) - r.at))}
}

func (r *reader) signature() api.Type {
	r.want(wire.FuncType)
	return api.Type{Params: list(r, (*reader).value), Results: list(r, (*reader).value)}
}

// value takes the type of a value; whether it is one is a matter of the module.
func (r *reader) value() int {
	return int(r.one())
}

func (r *reader) imported() api.Import {
	v := api.Import{Module: r.name(), Name: r.name()}
	r.want(wire.ImportFunc)
	v.Type = r.number()
	return v
}

// function takes the type of a Func: its body stands in another section.
func (r *reader) function() api.Func {
	return api.Func{Type: r.number()}
}

func (r *reader) memory() api.Mem {
	switch r.one() {
	case wire.MinAlone:
		return api.Mem{Min: r.number(), Max: api.MaxPages}
	case wire.MinAndMax:
		return api.Mem{Min: r.number(), Max: r.number()}
	}
	r.fail()
	return api.Mem{}
}

func (r *reader) global() api.Global {
	g := api.Global{Type: r.value(), Var: r.variable()}
	g.Init = r.constant(g.Type)
	return g
}

// variable takes the byte that says whether a Global may be set.
func (r *reader) variable() bool {
	v := r.one()
	if v != wire.Fixed && v != wire.Variable {
		r.fail()
	}
	return v == wire.Variable
}

// constant takes the constant instruction of a type, and the end that makes it a code of its own.
func (r *reader) constant(kind int) uint64 {
	i := r.instruction()
	if of, is := ops.Const(i.Op); !is || of != kind {
		r.fail()
	}
	r.want(opcode.End)
	return i.N
}

func (r *reader) export() api.Export {
	return api.Export{Name: r.name(), Kind: int(r.one()), Index: r.number()}
}

func (r *reader) data() api.Data {
	var d api.Data
	switch r.one() {
	case wire.DataFirst:
		d.Active = true
	case wire.DataIn:
		d.Active, d.Mem = true, r.number()
	case wire.DataIdle:
	default:
		r.fail()
	}
	if d.Active {
		d.At = int(r.constant(api.I32))
	}
	d.Bytes = bytes.Clone(r.sized())
	return d
}

// bodies reads those of the Funcs, whose types are known by now.
func (d *decoder) bodies() {
	if d.number() != len(d.m.Funcs) {
		d.fail()
	}
	for i := range d.m.Funcs {
		if d.wrong {
			return
		}
		d.body(&d.m.Funcs[i])
	}
}

func (d *decoder) body(f *api.Func) {
	all := d.enter()
	f.Locals = d.locals()
	f.Code = d.code()
	d.leave(all)
}

// locals takes runs of equal types. It leaves them all as soon as there are too many, as a few bytes may stand for any number of locals.
func (r *reader) locals() []int {
	var l []int
runs:
	for range r.number() {
		n, kind := r.number(), r.value()
		if r.wrong {
			break
		}
		for range n {
			if len(l) == api.MaxLocals {
				r.fail()
				break runs
			}
			l = append(l, kind)
		}
	}
	return l
}
