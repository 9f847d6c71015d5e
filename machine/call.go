package machine

import "plainsong/api"

// mostDepth is the greatest depth that a Call may be given.
const mostDepth = 4 * api.MaxCalls

// Result is how a Call ended: its values, or a trap, and what is left of the fuel.
type Result struct {
	Trap   int
	Values []uint64
	Fuel   int64
}

// Invoke calls the function that is exported by this name.
func (m *Machine) Invoke(name string, args []uint64, fuel int64, depth int) (Result, api.Errno) {
	for _, e := range m.exports {
		if e.Name == name {
			return m.Call(e.Index, args, fuel, depth)
		}
	}
	return Result{}, api.ErrNone
}

// Call runs the function f, with no more than this fuel and this depth.
func (m *Machine) Call(f int, args []uint64, fuel int64, depth int) (Result, api.Errno) {
	if !within(f, len(m.types)) {
		return Result{}, api.ErrIndex
	}
	params := m.types[f].Params
	if len(args) != len(params) || fuel < 0 || fuel > api.MaxFuel || depth < 0 || depth > mostDepth {
		return Result{}, api.ErrArg
	}
	r := &run{m: m, fuel: fuel, depth: depth}
	for k, v := range args {
		r.push(cut(v, params[k]))
	}
	if why := r.whole(f); why != api.Done {
		return Result{Trap: why, Fuel: r.fuel}, api.OK
	}
	return Result{Values: append([]uint64(nil), r.stack...), Fuel: r.fuel}, api.OK
}

// trap is what a run panics with where it can't go on, so that it leaves all functions that are running at once.
type trap int

// whole calls f and returns the trap that ended the call, or Done.
func (r *run) whole(f int) (why int) {
	defer func() {
		switch p := recover().(type) {
		case nil:
		case trap:
			why = int(p)
		default:
			// No module that is well typed comes to this: it would be a fault of the program, which no trap may hide.
			panic(p)
		}
	}()
	r.call(f)
	return api.Done
}

// need ends the run with this trap unless what it needs is there.
func need(is bool, why trap) {
	if !is {
		panic(why)
	}
}

// none is the number of no function.
const none = -1

// call runs the function f on the arguments on top of the stack, and whatever takes its place, until their results are there instead.
func (r *run) call(f int) {
	for f != none {
		if f < r.m.imported {
			f = r.ask(f)
		} else {
			f = r.enter(f)
		}
	}
}

// ask calls an imported function; nothing takes its place.
func (r *run) ask(f int) int {
	t := r.m.types[f]
	base := len(r.stack) - len(t.Params)
	values, is := r.m.host.Ask(f, r.stack[base:], t)
	need(is, api.HostTrap)
	r.stack = append(r.stack[:base], values...)
	return none
}

// enter calls any other function, and returns the one that takes its place, which has all the depth that this one had.
func (r *run) enter(f int) int {
	need(r.depth > 0, api.Deep)
	r.depth--
	own := r.m.funcs[f-r.m.imported]
	base := len(r.stack) - len(r.m.types[f].Params)
	r.stack = append(r.stack, own.zeros...)
	next := r.follow(own.steps, base)
	r.depth++
	return next
}
