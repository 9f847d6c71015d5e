// Package walk follows the code of a function from instruction to instruction, with the types that lie on the stack, for the packages that ask which types these are, or whether they are right: see doc/10-check.md.
package walk

import (
	"slices"

	"plainsong/api"
	"plainsong/module"
	"plainsong/opcode"
	"plainsong/ops"
)

// Walk goes through the code of a function, with the stacks as they are before the next instruction.
type Walk struct {
	stacks
	m       api.Module
	profile int
	locals  []int
	results []int // of the function
}

// Begin returns a walk that stands before the first instruction of one of m's Funcs: ErrArg if there is no such function, ErrIndex if it has no type.
func Begin(m api.Module, f, profile int) (*Walk, api.Errno) {
	if !within(f, len(m.Funcs)) {
		return nil, api.ErrArg
	}
	index := len(m.Imports) + f
	t, is := module.Sig(m, index)
	if !is {
		return nil, api.ErrIndex
	}
	w := &Walk{m: m, profile: profile, locals: module.Locals(m, index), results: t.Results}
	w.begin(opcode.Block, api.Type{Results: t.Results})
	return w, api.OK
}

// Types returns the types on the stack, those below the innermost frame with them, the topmost last.
func (w *Walk) Types() []int {
	return slices.Clone(w.types)
}

// Height returns how many types lie on the stack.
func (w *Walk) Height() int {
	return len(w.types)
}

// Dead reports whether nothing reaches the next instruction.
func (w *Walk) Dead() bool {
	return len(w.frames) > 0 && w.top().dead
}

// Ended reports whether the last end is behind.
func (w *Walk) Ended() bool {
	return len(w.frames) == 0
}

// Step takes the walk over i, unless i is not allowed: then the walk is of no more use.
func (w *Walk) Step(i api.Inst) api.Errno {
	switch {
	case !w.inPlace(i.Op):
		return api.ErrForm
	case w.profile == api.Plain && rich(i):
		return api.ErrPlain
	case !w.exists(i):
		return api.ErrIndex
	case !w.follow(i):
		return api.ErrType
	}
	return api.OK
}

// inPlace reports whether there is such an instruction and it may stand here. In a valid module whose blocks have their ends that is always so, but check.Func may be given any other.
func (w *Walk) inPlace(op int) bool {
	switch {
	case w.Ended():
		return false
	case op == opcode.Else:
		return w.top().op == opcode.If
	}
	return ops.Known(op)
}

// rich reports whether the plain profile has no such instruction.
func rich(i api.Inst) bool {
	return ops.Rich(i.Op) || ops.Opens(i.Op) && i.A >= 0
}

// exists reports whether there is everything that i names by an index.
func (w *Walk) exists(i api.Inst) bool {
	mems, datas := len(w.m.Mems), len(w.m.Datas)
	switch i.Op {
	case opcode.Block, opcode.Loop, opcode.If:
		_, is := module.Block(w.m, i.A)
		return is
	case opcode.Br, opcode.BrIf:
		return within(i.A, len(w.frames))
	case opcode.BrTable:
		return w.labelsExist(i.L)
	case opcode.Call, opcode.ReturnCall:
		_, is := module.Sig(w.m, i.A)
		return is
	case opcode.LocalGet, opcode.LocalSet, opcode.LocalTee:
		return within(i.A, len(w.locals))
	case opcode.GlobalGet, opcode.GlobalSet:
		return within(i.A, len(w.m.Globals))
	case opcode.MemorySize, opcode.MemoryGrow, opcode.MemoryFill:
		return within(i.A, mems)
	case opcode.MemoryInit:
		return within(i.A, mems) && within(i.B, datas)
	case opcode.MemoryCopy:
		return within(i.A, mems) && within(i.B, mems)
	case opcode.DataDrop:
		return within(i.A, datas)
	}
	_, _, _, access := ops.Access(i.Op)
	return !access || within(i.A, mems)
}

// labelsExist reports whether there are all labels of a br_table; without a last one, that one doesn't exist.
func (w *Walk) labelsExist(l []int) bool {
	for _, n := range l {
		if !within(n, len(w.frames)) {
			return false
		}
	}
	return len(l) > 0
}

// follow changes the stacks as i does, and reports whether the types allow it.
func (w *Walk) follow(i api.Inst) bool {
	switch i.Op {
	case opcode.Block, opcode.Loop, opcode.If:
		return w.open(i)
	case opcode.Else:
		return w.divide()
	case opcode.End:
		return w.close()
	case opcode.Unreachable:
		return w.leave(nil)
	case opcode.Br:
		return w.leave(w.label(i.A))
	case opcode.BrTable:
		return w.branch(i.L)
	case opcode.Return:
		return w.leave(w.results)
	case opcode.ReturnCall:
		t, _ := module.Sig(w.m, i.A)
		return slices.Equal(t.Results, w.results) && w.leave(t.Params)
	case opcode.Drop:
		_, is := w.pop()
		return is
	case opcode.Select:
		return w.choose()
	case opcode.GlobalSet:
		g := w.m.Globals[i.A]
		return g.Var && w.take(g.Type)
	}
	takes, gives := w.effect(i)
	if !w.take(takes...) {
		return false
	}
	w.give(gives)
	return true
}

// open begins a block, loop or if.
func (w *Walk) open(i api.Inst) bool {
	if i.Op == opcode.If && !w.take(api.I32) {
		return false
	}
	t, _ := module.Block(w.m, i.A)
	if !w.take(t.Params...) {
		return false
	}
	w.begin(i.Op, t)
	return true
}

// divide ends an if and begins its else.
func (w *Walk) divide() bool {
	f, is := w.finish()
	if is {
		w.begin(opcode.Else, f.kind)
	}
	return is
}

// close ends the innermost frame. An if without else does nothing when it isn't entered, so its parameters are its results then.
func (w *Walk) close() bool {
	f, is := w.finish()
	if !is || f.op == opcode.If && !slices.Equal(f.kind.Params, f.kind.Results) {
		return false
	}
	w.give(f.kind.Results)
	return true
}

// branch follows a br_table, whose labels have to agree with what is on the stack, each by itself.
func (w *Walk) branch(labels []int) bool {
	if !w.take(api.I32) {
		return false
	}
	last := w.label(labels[len(labels)-1])
	for _, n := range labels {
		if l := w.label(n); len(l) != len(last) || !w.holds(l) {
			return false
		}
	}
	return w.leave(last)
}

// choose follows a select. Its result has the type of the upper value: where that is not known, the lower one's is not known either, as dead code takes what is not known from below all that it has.
func (w *Walk) choose() bool {
	if !w.take(api.I32) {
		return false
	}
	upper, hasUpper := w.pop()
	lower, hasLower := w.pop()
	if !hasLower || !hasUpper || !agree(lower, upper) {
		return false
	}
	w.give([]int{upper})
	return true
}

// effect returns the types that i takes and those that it gives, if it does nothing else to the stacks.
func (w *Walk) effect(i api.Inst) (takes, gives []int) {
	switch i.Op {
	case opcode.BrIf:
		l := w.label(i.A)
		return slices.Concat(l, []int{api.I32}), l
	case opcode.Call:
		t, _ := module.Sig(w.m, i.A)
		return t.Params, t.Results
	case opcode.LocalGet:
		return nil, []int{w.locals[i.A]}
	case opcode.LocalSet:
		return []int{w.locals[i.A]}, nil
	case opcode.LocalTee:
		return []int{w.locals[i.A]}, []int{w.locals[i.A]}
	case opcode.GlobalGet:
		return nil, []int{w.m.Globals[i.A].Type}
	case opcode.MemorySize:
		return nil, []int{api.I32}
	case opcode.MemoryGrow:
		return []int{api.I32}, []int{api.I32}
	case opcode.MemoryInit, opcode.MemoryCopy, opcode.MemoryFill:
		return []int{api.I32, api.I32, api.I32}, nil
	}
	return fixed(i.Op)
}

// fixed returns what an instruction takes and gives if that is the same in every module. One that isn't named here does neither.
func fixed(op int) (takes, gives []int) {
	if t, is := ops.Const(op); is {
		return nil, []int{t}
	}
	if s, is := ops.Numeric(op); is {
		return s.Params, s.Results
	}
	_, t, _, is := ops.Access(op)
	switch {
	case is && op >= opcode.FirstStore:
		return []int{api.I32, t}, nil
	case is:
		return []int{api.I32}, []int{t}
	}
	return nil, nil
}

// within reports whether n is an index of a list of this length.
func within(n, length int) bool {
	return n >= 0 && n < length
}
