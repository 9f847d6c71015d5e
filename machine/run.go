package machine

import (
	"plainsong/api"
	"plainsong/floats"
	"plainsong/ints"
	"plainsong/opcode"
	"plainsong/pages"
)

// run is one Call, with what is left of its fuel and depth.
type run struct {
	m     *Machine
	stack []uint64 // of each function that is running: its locals, then what it computes with
	fuel  int64
	depth int
}

// follow takes the steps of a function whose locals begin at base, and leaves its results there. It returns the function that takes its place, whose arguments are there then, or none.
func (r *run) follow(steps []step, base int) int {
	for at := 0; at < len(steps); {
		s := &steps[at]
		at++
		need(r.fuel >= s.cost, api.Fuel)
		r.fuel -= s.cost
		switch s.op {
		case opcode.Block, opcode.Loop:
		case opcode.Else:
			at = s.a
		case opcode.If:
			if r.pop() == 0 {
				at = s.a
			}
		case opcode.Br, opcode.Return:
			at = r.branch(s.to[0], base)
		case opcode.BrIf:
			if r.pop() != 0 {
				at = r.branch(s.to[0], base)
			}
		case opcode.BrTable:
			at = r.branch(s.to[min(r.pop(), uint64(len(s.to)-1))], base)
		case opcode.Call:
			r.call(s.a)
		case opcode.ReturnCall:
			r.branch(s.to[0], base)
			return s.a
		case opcode.LocalGet:
			r.push(r.stack[base+s.a])
		case opcode.LocalSet:
			r.stack[base+s.a] = r.pop()
		case opcode.LocalTee:
			r.stack[base+s.a] = r.stack[len(r.stack)-1]
		default:
			r.do(s)
		}
	}
	return none
}

// branch makes the stack what the label has there, and returns the step that comes next.
func (r *run) branch(l label, base int) int {
	kept := r.stack[len(r.stack)-l.keep:]
	r.stack = append(r.stack[:base+l.height], kept...)
	return l.at
}

func (r *run) push(v uint64) {
	r.stack = append(r.stack, v)
}

func (r *run) pop() uint64 {
	last := len(r.stack) - 1
	v := r.stack[last]
	r.stack = r.stack[:last]
	return v
}

// do takes a step that neither leads elsewhere nor has to do with locals.
func (r *run) do(s *step) {
	switch s.kind {
	case constant:
		r.push(s.n)
	case whole:
		a, b := r.operands(s.takes)
		r.result(ints.Do(s.op, a, b))
	case float:
		a, b := r.operands(s.takes)
		r.result(floats.Do(s.op, a, b))
	case load:
		r.load(s)
	case store:
		v := r.pop()
		need(r.m.mems[s.a].Store(r.pop()+s.n, s.bytes, v), api.Bounds)
	default:
		r.alone(s)
	}
}

// operands pops one or two operands.
func (r *run) operands(n int) (a, b uint64) {
	if n > 1 {
		b = r.pop()
	}
	return r.pop(), b
}

// result pushes what an operation gives, unless that is a trap.
func (r *run) result(v uint64, why int) {
	need(why == api.Done, trap(why))
	r.push(v)
}

func (r *run) load(s *step) {
	v, is := r.m.mems[s.a].Load(r.pop()+s.n, s.bytes)
	need(is, api.Bounds)
	if s.sign != 0 {
		v = cut(uint64(ints.Sign(v, 8*s.bytes)), s.sign)
	}
	r.push(v)
}

// alone does an instruction that is the only one of its kind.
func (r *run) alone(s *step) {
	switch s.op {
	case opcode.Unreachable:
		panic(trap(api.Unreachable))
	case opcode.Drop:
		r.pop()
	case opcode.Select:
		r.choose()
	case opcode.GlobalGet:
		r.push(r.m.globals[s.a].value)
	case opcode.GlobalSet:
		r.m.globals[s.a].value = r.pop()
	case opcode.MemorySize:
		r.push(uint64(r.m.mems[s.a].Pages()))
	case opcode.MemoryGrow:
		r.push(cut(uint64(r.m.Grow(s.a, int(r.pop()))), api.I32))
	case opcode.MemoryFill:
		at, v, n := r.three()
		need(r.m.mems[s.a].Fill(at, byte(v), n), api.Bounds)
	case opcode.MemoryCopy:
		at, src, n := r.three()
		need(pages.Copy(r.m.mems[s.a], at, r.m.mems[s.b], src, n), api.Bounds)
	case opcode.MemoryInit:
		at, src, n := r.three()
		b, is := part(r.m.datas[s.b], src, n)
		need(is && r.m.mems[s.a].Put(at, b), api.Bounds)
	case opcode.DataDrop:
		r.m.datas[s.a] = nil
	}
}

// choose leaves the first of two values, or the second if the condition on top of them is 0.
func (r *run) choose() {
	c, second := r.pop(), r.pop()
	if c == 0 {
		r.stack[len(r.stack)-1] = second
	}
}

// three pops three operands, the first of which lies lowest.
func (r *run) three() (a, b, c uint64) {
	c, b, a = r.pop(), r.pop(), r.pop()
	return a, b, c
}

// part returns the n bytes of b at at, if all of them exist. What lies behind at is compared with n, as pages does.
func part(b []byte, at, n uint64) ([]byte, bool) {
	size := uint64(len(b))
	if at > size || n > size-at {
		return nil, false
	}
	return b[at : at+n], true
}
