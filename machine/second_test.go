package machine_test

import (
	"bytes"
	"slices"

	"plainsong/api"
	"plainsong/floats"
	"plainsong/host"
	"plainsong/ints"
	mod "plainsong/module"
	"plainsong/ops"
)

// second is the chapter's machine once more, which finds out everything as it goes: each block is a call of its own, and the end of each is looked for.
type second struct {
	m       api.Module
	budget  int
	mems    [][]byte
	globals []uint64
	datas   [][]byte
	answers []host.Answer
	calls   []host.Call
	fuel    int64
	depth   int
	trap    int
}

// newSecond returns a second machine of a module that is well typed and whose datas fit.
func newSecond(m api.Module, budget int, answers []host.Answer) *second {
	s := &second{m: m, budget: budget, answers: answers}
	for _, v := range m.Mems {
		s.mems = append(s.mems, make([]byte, 1024*v.Min))
	}
	for _, g := range m.Globals {
		s.globals = append(s.globals, g.Init)
	}
	for _, d := range m.Datas {
		if d.Active {
			copy(s.mems[d.Mem][d.At:], d.Bytes)
			d.Bytes = nil
		}
		s.datas = append(s.datas, bytes.Clone(d.Bytes))
	}
	return s
}

func (s *second) pages() int {
	n := 0
	for _, b := range s.mems {
		n += len(b) / 1024
	}
	return n
}

func (s *second) grow(k int, n uint64) int {
	was := len(s.mems[k]) / 1024
	if n > 600 || was+int(n) > s.m.Mems[k].Max || s.pages()+int(n) > s.budget {
		return -1
	}
	s.mems[k] = append(s.mems[k], make([]byte, 1024*n)...)
	return was
}

// exit is how an instruction, or the code of a frame, is left.
type exit int

const (
	on     exit = -1 // to what comes next
	trap   exit = -2
	back   exit = -3 // out of the function
	closed exit = -4 // by the end of the frame, or an else
	// Any other is that many labels further out.
)

// activity is a call of a function: its locals, its values, and the function that takes its place.
type activity struct {
	*second
	code    []api.Inst
	locals  []uint64
	stack   []uint64
	results int
	next    int
}

// call runs the function f; s.trap tells why it didn't come back.
func (s *second) call(f int, args []uint64) ([]uint64, bool) {
	t, _ := mod.Sig(s.m, f)
	if f < len(s.m.Imports) {
		return s.ask(f, args, t.Results)
	}
	if s.depth == 0 {
		s.trap = api.Deep
		return nil, false
	}
	s.depth--
	a := &activity{second: s, code: s.m.Funcs[f-len(s.m.Imports)].Code, results: len(t.Results), next: -1}
	a.locals = append(slices.Clone(args), make([]uint64, len(mod.Locals(s.m, f))-len(args))...)
	left, _ := a.frame(0)
	s.depth++
	switch {
	case left == trap:
		return nil, false
	case a.next >= 0:
		return s.call(a.next, a.stack)
	}
	return a.stack[len(a.stack)-a.results:], true
}

func (s *second) ask(f int, args []uint64, results []int) ([]uint64, bool) {
	k := len(s.calls)
	s.calls = append(s.calls, host.Call{Index: f, Args: slices.Clone(args)})
	l := make([]uint64, len(results))
	if k < len(s.answers) {
		if s.answers[k].Trap {
			s.trap = api.HostTrap
			return nil, false
		}
		copy(l, s.answers[k].Values)
	}
	for i, t := range results {
		if t == api.I32 {
			l[i] %= 1 << 32
		}
	}
	return l, true
}

// frame does the code from at on until its frame is left, and tells where that was.
func (a *activity) frame(at int) (exit, int) {
	for {
		i := a.code[at]
		if i.Op == 0x0b || i.Op == 0x05 {
			return closed, at
		}
		left := on
		switch {
		case i.Op == 0x01:
		case a.fuel == 0:
			a.trap, left = api.Fuel, trap
		default:
			a.fuel--
			at, left = a.do(at, i)
		}
		if left != on {
			return left, at
		}
		at++
	}
}

// past returns where the frame that is open at at ends, or divides if that is asked for and comes first.
func (a *activity) past(at int, divides bool) int {
	for deep := 0; ; at++ {
		switch op := a.code[at].Op; {
		case op >= 0x02 && op <= 0x04:
			deep++
		case op == 0x0b && deep == 0 || op == 0x05 && deep == 0 && divides:
			return at
		case op == 0x0b:
			deep--
		}
	}
}

func (a *activity) pop() uint64 { return a.pops(1)[0] }

func (a *activity) pops(n int) []uint64 {
	l := slices.Clone(a.stack[len(a.stack)-n:])
	a.stack = a.stack[:len(a.stack)-n]
	return l
}

func (a *activity) push(l ...uint64) { a.stack = append(a.stack, l...) }

// gives pushes v, or traps.
func (a *activity) gives(why int, v ...uint64) exit {
	if why != api.Done {
		a.trap = why
		return trap
	}
	a.push(v...)
	return on
}

// do does the instruction at at, and returns where it stopped.
func (a *activity) do(at int, i api.Inst) (int, exit) {
	switch i.Op {
	case 0x02, 0x03, 0x04:
		return a.block(at, i)
	case 0x0c:
		return at, exit(i.A)
	case 0x0d:
		if a.pop() != 0 {
			return at, exit(i.A)
		}
		return at, on
	case 0x0e:
		n := a.pop()
		if n >= uint64(len(i.L)) {
			return at, exit(i.L[len(i.L)-1])
		}
		return at, exit(i.L[n])
	case 0x0f:
		return at, back
	case 0x12:
		t, _ := mod.Sig(a.m, i.A)
		a.next, a.stack = i.A, a.pops(len(t.Params))
		return at, back
	case 0x10:
		t, _ := mod.Sig(a.m, i.A)
		l, is := a.call(i.A, a.pops(len(t.Params)))
		if !is {
			return at, trap
		}
		a.push(l...)
		return at, on
	}
	return at, a.simple(i)
}

// block does a block, loop or if, and returns where it ends, or was left.
func (a *activity) block(at int, i api.Inst) (int, exit) {
	t, _ := mod.Block(a.m, i.A)
	end := a.past(at+1, false)
	from := at + 1
	if i.Op == 0x04 && a.pop() == 0 {
		if from = a.past(from, true); from == end {
			return end, on
		}
		from++
	}
	below := len(a.stack) - len(t.Params)
	for {
		left, where := a.frame(from)
		switch {
		case left == closed:
			return end, on
		case left == 0 && i.Op == 0x03:
			l := a.pops(len(t.Params))
			a.stack = append(a.stack[:below], l...)
		case left == 0:
			l := a.pops(len(t.Results))
			a.stack = append(a.stack[:below], l...)
			return end, on
		case left > 0:
			return where, left - 1
		default:
			return where, left
		}
	}
}

func (a *activity) simple(i api.Inst) exit {
	if _, is := ops.Const(i.Op); is {
		return a.gives(api.Done, i.N)
	}
	if sig, is := ops.Numeric(i.Op); is {
		l := append(a.pops(len(sig.Params)), 0)
		if ints.Is(i.Op) {
			v, why := ints.Do(i.Op, l[0], l[1])
			return a.gives(why, v)
		}
		v, why := floats.Do(i.Op, l[0], l[1])
		return a.gives(why, v)
	}
	if size, t, signed, is := ops.Access(i.Op); is {
		return a.access(i, size, t, signed)
	}
	switch i.Op {
	case 0x00:
		return a.gives(api.Unreachable)
	case 0x1a:
		a.pop()
	case 0x1b:
		l := a.pops(3)
		if l[2] == 0 {
			l[0] = l[1]
		}
		a.push(l[0])
	case 0x20:
		a.push(a.locals[i.A])
	case 0x21:
		a.locals[i.A] = a.pop()
	case 0x22:
		a.locals[i.A] = a.stack[len(a.stack)-1]
	case 0x23:
		a.push(a.globals[i.A])
	case 0x24:
		a.globals[i.A] = a.pop()
	case 0x3f:
		a.push(uint64(len(a.mems[i.A]) / 1024))
	case 0x40:
		a.push(uint64(uint32(a.grow(i.A, a.pop()))))
	case 0xfc09:
		a.datas[i.A] = nil
	default:
		return a.many(i)
	}
	return on
}

// access does a load or a store, byte by byte.
func (a *activity) access(i api.Inst, size, t int, signed bool) exit {
	v := uint64(0)
	store := i.Op >= 0x36
	if store {
		v = a.pop()
	}
	at, b := a.pop()+i.N, a.mems[i.A]
	if at+uint64(size) > uint64(len(b)) {
		return a.gives(api.Bounds)
	}
	for k := range uint64(size) {
		if store {
			b[at+k] = byte(v >> (8 * k))
		} else {
			v |= uint64(b[at+k]) << (8 * k)
		}
	}
	if store {
		return on
	}
	if signed && v>>(8*size-1) == 1 {
		v -= 1 << (8 * size)
	}
	if t == api.I32 {
		v %= 1 << 32
	}
	return a.gives(api.Done, v)
}

// many does an instruction for many bytes.
func (a *activity) many(i api.Inst) exit {
	l := a.pops(3)
	to, n := a.mems[i.A], l[2]
	var from []byte
	switch i.Op {
	case 0xfc0b:
		from = bytes.Repeat([]byte{byte(l[1])}, 5000)
		l[1] = 0
		if n > 5000 {
			return a.gives(api.Bounds)
		}
	case 0xfc0a:
		from = bytes.Clone(a.mems[i.B])
	case 0xfc08:
		from = a.datas[i.B]
	}
	if l[0]+n > uint64(len(to)) || l[1]+n > uint64(len(from)) {
		return a.gives(api.Bounds)
	}
	copy(to[l[0]:], from[l[1]:l[1]+n])
	return on
}
