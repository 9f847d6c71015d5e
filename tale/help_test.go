package tale_test

import (
	"fmt"
	"math"
	"reflect"
	"slices"
	"testing"

	"plainsong/api"
	"plainsong/host"
	"plainsong/machine"
	"plainsong/tale"
)

func in(op int, l ...int) api.Inst {
	l = append(l, 0, 0)
	return api.Inst{Op: op, A: l[0], B: l[1]}
}

func number(n uint32) api.Inst { return api.Inst{Op: 0x41, N: uint64(n)} }

func get(k int) api.Inst { return in(0x20, k) }

// sample returns a module with a function for each way in which one can end, and with something of all that an act may name:
//
//	functions  ask (imported, w>w), turn (wlf>fwl, as its type says), down (w>w, calls itself so many times), round (>, never ends), stop (>, sets global 0 and traps),
//	           div (ww>w, signed), trunc (f>w), byte (w>w, of memory 1), host (w>w, calls ask), grow (w>w, memory 0); host and "" are the same one
//	memories   1 page of at most 3, none of at most 2, 2 of at most 2
//	globals    w 5, l of all ones that may not be set, l 7, f 1.5
//	datas      1 2 3 at 4 of memory 0
func sample() api.Module {
	w, l, f := api.I32, api.I64, api.F64
	m := api.Module{
		Types: []api.Type{
			{Params: []int{w}, Results: []int{w}}, {Params: []int{w, l, f}, Results: []int{f, w, l}}, {},
			{Params: []int{w, w}, Results: []int{w}}, {Params: []int{f}, Results: []int{w}},
		},
		Imports: []api.Import{{Module: "h", Name: "ask"}},
		Mems:    []api.Mem{{Min: 1, Max: 3}, {Max: 2}, {Min: 2, Max: 2}},
		Globals: []api.Global{{Type: w, Var: true, Init: 5}, {Type: l, Init: math.MaxUint64}, {Type: l, Var: true, Init: 7}, {Type: f, Var: true, Init: math.Float64bits(1.5)}},
		Datas:   []api.Data{{Active: true, At: 4, Bytes: []byte{1, 2, 3}}},
		Exports: []api.Export{{Name: "ask"}, {Name: "", Index: 8}, {Name: "memory", Kind: api.ExMem, Index: 1}, {Name: "global", Kind: api.ExGlobal, Index: 2}},
	}
	for k, c := range []struct {
		name string
		kind int
		code []api.Inst
	}{
		{"turn", 1, []api.Inst{get(2), get(0), get(1)}},
		{"down", 0, []api.Inst{get(0), in(0x45), in(0x04, -2), number(9), in(0x05), get(0), number(1), in(0x6b), in(0x10, 2), in(0x0b)}},
		{"round", 2, []api.Inst{in(0x03, -1), in(0x0c), in(0x0b)}},
		{"stop", 2, []api.Inst{number(55), in(0x24), in(0x00)}},
		{"div", 3, []api.Inst{get(0), get(1), in(0x6d)}},
		{"trunc", 4, []api.Inst{get(0), in(0xaa)}},
		{"byte", 0, []api.Inst{get(0), in(0x2d, 1)}},
		{"host", 0, []api.Inst{get(0), in(0x10)}},
		{"grow", 0, []api.Inst{get(0), in(0x40)}},
	} {
		m.Funcs = append(m.Funcs, api.Func{Type: c.kind, Code: append(c.code, in(0x0b))})
		m.Exports = append(m.Exports, api.Export{Name: c.name, Index: k + 1})
	}
	return m
}

// budget lets the memories of sample have fewer pages together than each of them may have.
const budget = 6

// world is a machine of sample with its host.
type world struct {
	m *machine.Machine
	h *host.Host
}

func begin(t *testing.T, l ...host.Answer) world {
	t.Helper()
	h := host.New(l...)
	m, why := machine.New(sample(), h, budget)
	if why != api.OK {
		t.Fatalf("machine.New: error %d", why)
	}
	return world{m, h}
}

// state is all that can be seen of a machine and its host.
type state struct {
	Mems    [3][]byte
	Globals [4]uint64
	Calls   []string
	Left    int
}

func (w world) state() state {
	s := state{Left: w.h.Left()}
	for k := range s.Mems {
		s.Mems[k] = w.m.Memory(k).Bytes()
	}
	for k := range s.Globals {
		s.Globals[k], _ = w.m.Global(k)
	}
	for _, c := range w.h.Calls() {
		s.Calls = append(s.Calls, fmt.Sprint(c))
	}
	return s
}

// does does an act, whose lists are as they were afterwards, with what lies behind their ends; what then becomes of them is nothing to the machine.
func (w world) does(t *testing.T, a tale.Act) tale.Out {
	t.Helper()
	args, bytes := a.Args, a.Bytes
	a.Args, a.Bytes = roomy(args), roomy(bytes)
	o := tale.Do(w.m, a)
	if !kept(a.Args, args) || !kept(a.Bytes, bytes) {
		t.Errorf("R2: Do has changed the lists of %+v", a)
	}
	was := w.state()
	values := slices.Clone(o.Values)
	spoil(a.Args)
	spoil(a.Bytes)
	if !slices.Equal(o.Values, values) || !reflect.DeepEqual(w.state(), was) {
		t.Errorf("R2: what Do did shares memory with %+v", a)
	}
	return o
}

// second does an act on a machine by its own methods.
func second(m *machine.Machine, a tale.Act) tale.Out {
	var o tale.Out
	v := m.Memory(a.K)
	deep := a.Depth < 0 || a.Depth > 1024
	if a.Kind < 1 || a.Kind > 4 || a.Kind == 1 && deep {
		o.Why = api.ErrArg
	} else if a.Kind == 1 {
		r, why := m.Invoke(a.Name, a.Args, a.Fuel, a.Depth)
		o.Why, o.Trap, o.Values = why, r.Trap, r.Values
	} else if a.Kind == 2 {
		o.N = m.Grow(a.K, a.N)
	} else if a.Kind == 3 {
		o.Why = m.SetGlobal(a.K, a.V)
	} else if v == nil {
		o.Why = api.ErrNone
	} else if !v.Put(a.At, a.Bytes) {
		o.Why = api.ErrOver
	}
	return o
}

// plain writes all empty lists of an Out alike.
func plain(o tale.Out) tale.Out {
	o.Values = append([]uint64{}, o.Values...)
	return o
}

// equal holds all fields against each other.
func equal(a, b tale.Out) bool { return reflect.DeepEqual(plain(a), plain(b)) }

// spare is what the tests write behind the end of a slice.
const spare = 0x55

// roomy returns a slice equal to l with two elements behind its end.
func roomy[E byte | uint64](l []E) []E {
	c := append(append([]E{}, l...), spare, spare)
	return c[:len(l)]
}

// kept tells whether a slice that roomy made of l is as it was.
func kept[E byte | uint64](c, l []E) bool {
	n := len(l)
	return slices.Equal(c, l) && c[:n+2][n] == spare && c[:n+2][n+1] == spare
}

// spoil changes each element of l, with those behind its end.
func spoil[E byte | uint64](l []E) {
	l = l[:cap(l)]
	for i := range l {
		l[i] = l[i]*3 + 77
	}
}

func invoke(name string, args ...uint64) tale.Act {
	return tale.Act{Kind: tale.Invoke, Name: name, Args: args, Fuel: 1000, Depth: 20}
}

func grow(k, n int) tale.Act { return tale.Act{Kind: tale.Grow, K: k, N: n} }

func set(k int, v uint64) tale.Act { return tale.Act{Kind: tale.Set, K: k, V: v} }

func put(k int, at uint64, b ...byte) tale.Act {
	return tale.Act{Kind: tale.Put, K: k, At: at, Bytes: b}
}

// within gives an act this fuel and this depth.
func within(a tale.Act, fuel int64, depth int) tale.Act {
	a.Fuel, a.Depth = fuel, depth
	return a
}

// full fills the fields that an act of its kind doesn't use.
func full(a tale.Act) tale.Act {
	if a.Kind != tale.Invoke {
		a.Name, a.Args, a.Fuel, a.Depth = "stop", []uint64{1, 2}, -5, 5000
	}
	if a.Kind == tale.Invoke {
		a.K = 77
	}
	if a.Kind != tale.Grow {
		a.N = 1
	}
	if a.Kind != tale.Set {
		a.V = 99
	}
	if a.Kind != tale.Put {
		a.At, a.Bytes = 3, []byte{9, 9, 9}
	}
	return a
}

func why(e api.Errno) tale.Out { return tale.Out{Why: e} }

func trap(n int) tale.Out { return tale.Out{Trap: n} }

func values(l ...uint64) tale.Out { return tale.Out{Values: l} }

func was(n int) tale.Out { return tale.Out{N: n} }
