package machine

import (
	"plainsong/api"
	"plainsong/ints"
	"plainsong/match"
	"plainsong/module"
	"plainsong/opcode"
	"plainsong/ops"
	"plainsong/walk"
)

// function is one of a module's Funcs, as a run needs it.
type function struct {
	zeros []uint64 // what its locals beyond the parameters begin with
	steps []step
}

// step is an instruction, with what a run would otherwise have to find out each time it is begun.
type step struct {
	op    int
	kind  int
	cost  int64   // of fuel
	a, b  int     // indices; a of an if or else is where it goes on if it doesn't enter what follows it
	n     uint64  // a constant, or an offset
	takes int     // how many operands a numeric operation has
	bytes int     // how many a load or store moves
	sign  int     // the type of what a signed load gives, 0 of any other step
	to    []label // of what branches
}

// The kinds of steps: those of one kind differ in the fields of a step alone.
const (
	single = iota // the instruction is the only one of its kind
	constant
	whole
	float
	load
	store
)

// label is what a branch does. Where the stack will be is known beforehand, as the module is well typed.
type label struct {
	at     int // the step that comes next
	keep   int // how many values go along
	height int // how many values stay below them, from the function's first local on
}

// planner makes the steps of a function, one after the other.
type planner struct {
	m      api.Module
	places []int        // of the steps: see places
	spans  []match.Span // of the blocks, loops and ifs that have not begun yet
	open   []label      // of the frames around the next instruction, the innermost last
}

// plan returns the function f of m's Funcs. As m is well typed, there is all that it asks for.
func plan(m api.Module, f int) function {
	own, index := m.Funcs[f], len(m.Imports)+f
	locals := len(module.Locals(m, index))
	w, _ := walk.Begin(m, f, api.Rich)
	p := begin(m, index, own.Code)
	steps := make([]step, 0, p.places[len(own.Code)])
	for at, i := range own.Code {
		s := p.step(at, i, locals+w.Height())
		if p.places[at] < p.places[at+1] {
			steps = append(steps, s)
		}
		w.Step(i)
	}
	return function{zeros: make([]uint64, len(own.Locals)), steps: steps}
}

// begin returns a planner that stands before the first instruction of the function f.
func begin(m api.Module, f int, code []api.Inst) *planner {
	t, _ := module.Sig(m, f)
	spans, _ := match.Of(code)
	p := &planner{m: m, places: places(code), spans: spans}
	p.open = []label{{at: p.places[len(code)], keep: len(t.Results)}}
	return p
}

// places returns how many steps come before each instruction of code, and how many there are. Nop, and any end but the last, has no step: as neither costs fuel, a run that took steps for them could go on for far longer than its fuel tells.
func places(code []api.Inst) []int {
	l := make([]int, len(code)+1)
	for at, i := range code {
		l[at+1] = l[at]
		if i.Op != opcode.Nop && (i.Op != opcode.End || at == len(code)-1) {
			l[at+1]++
		}
	}
	return l
}

// step returns the step for the instruction i at at, before which the function has so many values, its locals with them.
func (p *planner) step(at int, i api.Inst, height int) step {
	s := step{op: i.Op, cost: 1, a: i.A, b: i.B, n: i.N}
	s.classify()
	switch i.Op {
	case opcode.Block, opcode.Loop:
		p.enter(at, i, height)
	case opcode.If:
		s.a = p.enter(at, i, height-1)
	case opcode.Else:
		s.cost, s.a = 0, p.open[len(p.open)-1].at
	case opcode.End:
		// Only the last end has a step: it does what a return does, but for the cost.
		s.op, s.cost, s.to = opcode.Return, 0, p.labels(0)
		p.open = p.open[:len(p.open)-1]
	case opcode.Br, opcode.BrIf:
		s.to = p.labels(i.A)
	case opcode.BrTable:
		s.to = p.labels(i.L...)
	case opcode.Return:
		s.to = p.labels(len(p.open) - 1)
	case opcode.ReturnCall:
		t, _ := module.Sig(p.m, i.A)
		s.to = []label{{at: p.open[0].at, keep: len(t.Params)}}
	}
	return s
}

// classify finds the kind of a step, and what the steps of this kind differ in.
func (s *step) classify() {
	if _, is := ops.Const(s.op); is {
		s.kind = constant
		return
	}
	if sig, is := ops.Numeric(s.op); is {
		s.takes = len(sig.Params)
		s.kind = float
		if ints.Is(s.op) {
			s.kind = whole
		}
		return
	}
	bytes, t, signed, is := ops.Access(s.op)
	if !is {
		return
	}
	s.kind, s.bytes = load, bytes
	if s.op >= opcode.FirstStore {
		s.kind = store
	}
	if signed {
		s.sign = t
	}
}

// enter opens a block, loop or if, whose parameters are on top of so many values, and returns the step after it if it isn't entered.
func (p *planner) enter(at int, i api.Inst, height int) int {
	span := p.spans[0]
	p.spans = p.spans[1:]
	t, _ := module.Block(p.m, i.A)
	l := label{at: p.places[span.End], keep: len(t.Results), height: height - len(t.Params)}
	if i.Op == opcode.Loop {
		l.at, l.keep = p.places[at+1], len(t.Params)
	}
	p.open = append(p.open, l)
	if span.Else > at {
		return p.places[span.Else+1]
	}
	return p.places[span.End]
}

// labels returns the labels with these numbers, counted from the inside.
func (p *planner) labels(numbers ...int) []label {
	l := make([]label, len(numbers))
	for k, n := range numbers {
		l[k] = p.open[len(p.open)-1-n]
	}
	return l
}
