package machine_test

import (
	"bytes"
	"reflect"
	"slices"
	"testing"

	"plainsong/api"
	"plainsong/check"
	"plainsong/host"
	"plainsong/machine"
	mod "plainsong/module"
)

// pair is a machine beside its second one.
type pair struct {
	t *testing.T
	v *machine.Machine
	h *host.Host
	s *second
}

func newPair(t *testing.T, m api.Module, budget int, answers []host.Answer) pair {
	t.Helper()
	h := host.New(answers...)
	return pair{t, asking(t, m, h, budget), h, newSecond(m, budget, answers)}
}

// call calls a function of both, holds what they answer and what they then are against each other, and returns the trap.
func (p pair) call(f int, args []uint64, fuel int64, depth int) int {
	p.t.Helper()
	r, why := p.v.Call(f, args, fuel, depth)
	t, _ := mod.Sig(p.s.m, f)
	fit := slices.Clone(args)
	for k, kind := range t.Params {
		if kind == api.I32 {
			fit[k] %= 1 << 32
		}
	}
	p.s.fuel, p.s.depth, p.s.trap = fuel, depth, api.Done
	values, _ := p.s.call(f, fit)
	if why != api.OK || r.Trap != p.s.trap || r.Fuel != p.s.fuel || !slices.Equal(r.Values, values) {
		p.t.Fatalf("P14.3: Call(%d, %#x, %d, %d): %+v, error %d, want trap %d, %#x, %d of\n%v", f, args, fuel, depth, r, why, p.s.trap, values, p.s.fuel, p.s.m.Funcs)
	}
	p.same()
	return r.Trap
}

// same holds all that can be seen of the machine against the second one.
func (p pair) same() {
	p.t.Helper()
	for k, b := range p.s.mems {
		if !bytes.Equal(p.v.Memory(k).Bytes(), b) {
			p.t.Fatalf("P14.3: memory %d is not as it should be after\n%v", k, p.s.m.Funcs)
		}
	}
	for k, g := range p.s.globals {
		if got, _ := p.v.Global(k); got != g {
			p.t.Fatalf("P14.3: global %d is %#x, want %#x after\n%v", k, got, g, p.s.m.Funcs)
		}
	}
	if got := p.h.Calls(); len(got) != len(p.s.calls) || len(got) > 0 && !reflect.DeepEqual(normal(got), normal(p.s.calls)) {
		p.t.Fatalf("P14.3: the host was asked %v, want %v, by\n%v", got, p.s.calls, p.s.m.Funcs)
	}
	if p.v.Pages() != p.s.pages() {
		p.t.Fatalf("P14.3: %d pages, want %d", p.v.Pages(), p.s.pages())
	}
}

// normal makes all empty lists of calls alike.
func normal(l []host.Call) []host.Call {
	for k := range l {
		l[k].Args = append([]uint64{}, l[k].Args...)
	}
	return l
}

// act calls some functions and does some other acts on both.
func (p pair) act(q *maker, n int, traps map[int]int) {
	p.t.Helper()
	for range n {
		f := q.Intn(len(p.s.m.Imports) + len(p.s.m.Funcs))
		t, _ := mod.Sig(p.s.m, f)
		var args []uint64
		for range t.Params {
			args = append(args, []uint64{0, 1, 5, 1 << 31, q.Uint64()}[q.Intn(5)])
		}
		traps[p.call(f, args, int64(q.Intn(1<<q.Intn(11))), q.Intn(12))]++
		if q.Intn(4) == 0 {
			k, n := q.Intn(3), q.Intn(3)
			if got, want := p.v.Grow(k, n), p.s.grow(k, uint64(n)); got != want {
				p.t.Fatalf("P14.1: Grow(%d, %d): %d, want %d", k, n, got, want)
			}
		}
		if q.Intn(4) == 0 {
			v := q.Uint64()
			p.v.SetGlobal(1, v)
			p.s.globals[1] = v % (1 << 32)
		}
	}
}

// Made modules do what the second machine does.
func TestMadeModules(t *testing.T) {
	q := newMaker(1)
	traps := map[int]int{}
	for range 4000 {
		m := q.module()
		if why := check.Module(m, api.Rich); why != api.OK {
			t.Fatalf("a made module is not well typed: %d: %v", why, m.Funcs)
		}
		newPair(t, m, 3+q.Intn(6), q.answers()).act(q, 8, traps)
	}
	for why := range 9 {
		if traps[why] < 20 {
			t.Errorf("of the traps there came only %v", traps)
		}
	}
}

// W3: what check accepts of changed modules never fails but by a trap.
func TestChangedModules(t *testing.T) {
	q := newMaker(2)
	traps, runs := map[int]int{}, 0
	for range 1500 {
		m := q.module()
		for range 12 {
			c := mod.Copy(m)
			q.spoil(c)
			if check.Module(c, api.Rich) == api.OK {
				newPair(t, c, 3+q.Intn(6), q.answers()).act(q, 4, traps)
				runs++
				m = c
			}
		}
	}
	if runs < 1500 {
		t.Errorf("only %d changed modules were right", runs)
	}
}

// Each fuel and each depth ends a run where it ends the second one.
func TestEachFuelAndDepth(t *testing.T) {
	q := newMaker(3)
	for range 150 {
		m, answers := q.module(), q.answers()
		f := len(m.Imports) + q.Intn(len(m.Funcs))
		args := make([]uint64, len(m.Types[m.Funcs[f-len(m.Imports)].Type].Params))
		for depth := range 4 {
			for fuel := range int64(60) {
				newPair(t, m, 9, answers).call(f, args, fuel, depth)
			}
		}
	}
}
