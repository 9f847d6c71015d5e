package machine_test

import (
	"fmt"
	"math"
	"slices"
	"strconv"
	"strings"
	"testing"

	"plainsong/api"
	"plainsong/host"
	"plainsong/machine"
	"plainsong/ops"
)

// names are the instructions that the tests write by name; any other one is written by its number.
var names = map[string]int{
	"unreachable": 0x00, "nop": 0x01, "block": 0x02, "loop": 0x03, "if": 0x04, "else": 0x05, "end": 0x0b,
	"br": 0x0c, "br_if": 0x0d, "br_table": 0x0e, "return": 0x0f, "call": 0x10, "return_call": 0x12,
	"drop": 0x1a, "select": 0x1b, "get": 0x20, "set": 0x21, "tee": 0x22, "gget": 0x23, "gset": 0x24,
	"size": 0x3f, "grow": 0x40, "init": 0xfc08, "ddrop": 0xfc09, "copy": 0xfc0a, "fill": 0xfc0b,
	"w": 0x41, "l": 0x42, "f": 0x44,
	"wload": 0x28, "lload": 0x29, "fload": 0x2b, "byte": 0x2d, "wstore": 0x36, "lstore": 0x37, "fstore": 0x39, "setbyte": 0x3a,
	"eqz": 0x45, "wadd": 0x6a, "wsub": 0x6b, "wdiv": 0x6d, "ladd": 0x7c, "lsub": 0x7d, "fadd": 0xa0,
}

// code reads instructions: each a name or a number, with its constant, its labels or its indices behind a colon. A load or store has its memory and its offset there.
func code(s string) []api.Inst {
	var l []api.Inst
	for _, word := range strings.Fields(s) {
		name, rest, _ := strings.Cut(word, ":")
		op, is := names[name]
		if !is {
			op = int(must(strconv.ParseUint(name, 16, 64)))
		}
		l = append(l, inst(op, rest))
	}
	return l
}

func inst(op int, rest string) api.Inst {
	t, is := ops.Const(op)
	switch {
	case is && t == api.F64:
		return api.Inst{Op: op, N: math.Float64bits(must(strconv.ParseFloat(rest, 64)))}
	case is && t == api.I32:
		return api.Inst{Op: op, N: uint64(uint32(must(strconv.ParseInt(rest, 0, 64))))}
	case is:
		return api.Inst{Op: op, N: uint64(must(strconv.ParseInt(rest, 0, 64)))}
	}
	var l []int
	for _, v := range strings.FieldsFunc(rest, func(r rune) bool { return r == ',' }) {
		l = append(l, int(must(strconv.ParseInt(v, 0, 64))))
	}
	if op == 0x0e {
		return api.Inst{Op: op, L: l}
	}
	l = append(l, 0, 0)
	if _, _, _, is := ops.Access(op); is {
		return api.Inst{Op: op, A: l[0], N: uint64(l[1])}
	}
	return api.Inst{Op: op, A: l[0], B: l[1]}
}

func must[V any](v V, err error) V {
	if err != nil {
		panic(err)
	}
	return v
}

// types reads types as letters: w for I32, l for I64, f for F64.
func types(letters string) []int {
	var l []int
	for _, r := range letters {
		l = append(l, map[rune]int{'w': api.I32, 'l': api.I64, 'f': api.F64}[r])
	}
	return l
}

// typ reads a type as "wl>f".
func typ(s string) api.Type {
	params, results, _ := strings.Cut(s, ">")
	return api.Type{Params: types(params), Results: types(results)}
}

// base returns a module with a function of this type and this code, and with something of all that it may name:
//
//	functions  0 to 2 are imported (wlf>fw, >w, >), 3 is the one with the code, exported as f; others may be put behind it by and
//	locals     the parameters, w, l, f
//	globals    w 7, w 8, l 9, l 10, f 1.5, f 2.5, of which the second one of each type may be set
//	memories   1 page of at most 3, none of at most 2, 2 of at most 2
//	datas      1 2 3 4 at 8 of memory 0, 5 6 7 8 9 that are not Active, none that are Active at the end of memory 2
//	types      as they stand below; the last one is that of the function
func base(signature, body string) api.Module {
	m := api.Module{
		Mems:  []api.Mem{{Min: 1, Max: 3}, {Max: 2}, {Min: 2, Max: 2}},
		Datas: []api.Data{{Active: true, At: 8, Bytes: []byte{1, 2, 3, 4}}, {Bytes: []byte{5, 6, 7, 8, 9}}, {Active: true, Mem: 2, At: 2048}},
	}
	for _, s := range []string{">", "w>w", "wlf>fw", ">wl", "lw>wl", ">w", "ww>ww", signature} {
		m.Types = append(m.Types, typ(s))
	}
	m.Imports = []api.Import{{Module: "h", Name: "a", Type: 2}, {Module: "h", Name: "b", Type: 5}, {Module: "h", Name: "c", Type: 0}}
	m.Funcs = []api.Func{{Type: len(m.Types) - 1, Locals: types("wlf"), Code: code(body)}}
	m.Globals = []api.Global{
		{Type: api.I32, Init: 7}, {Type: api.I32, Var: true, Init: 8}, {Type: api.I64, Init: 9}, {Type: api.I64, Var: true, Init: 10},
		{Type: api.F64, Init: math.Float64bits(1.5)}, {Type: api.F64, Var: true, Init: math.Float64bits(2.5)},
	}
	m.Exports = []api.Export{{Name: "m", Kind: api.ExMem, Index: 1}, {Name: "f", Index: 3}, {Name: "g", Kind: api.ExGlobal, Index: 3}, {Name: "h", Index: 1}}
	return m
}

// and puts another function behind those of m, the first one as 4.
func and(m api.Module, signature, body string) api.Module {
	m.Types = append(m.Types, typ(signature))
	m.Funcs = append(m.Funcs, api.Func{Type: len(m.Types) - 1, Code: code(body)})
	return m
}

// asking returns a machine of m that asks h, with this budget.
func asking(t *testing.T, m api.Module, h *host.Host, budget int) *machine.Machine {
	t.Helper()
	v, why := machine.New(m, h, budget)
	if v == nil || why != api.OK {
		t.Fatalf("P14.1: New with the budget %d: machine %v, error %d", budget, v != nil, why)
	}
	return v
}

// runs returns a machine of m whose host has these answers, with as many pages as there may be.
func runs(t *testing.T, m api.Module, l ...host.Answer) *machine.Machine {
	t.Helper()
	return asking(t, m, host.New(l...), api.MaxPages)
}

// traps are their names, by their numbers.
var traps = []string{"Done", "Unreachable", "DivZero", "Overflow", "BadInt", "Bounds", "HostTrap", "Fuel", "Deep"}

// told writes a Result: the values, or the trap.
func told(r machine.Result) string {
	if r.Trap == api.Done {
		return strings.Trim(fmt.Sprint(r.Values), "[]")
	}
	if len(r.Values) > 0 {
		return fmt.Sprintf("%s with values %v", traps[r.Trap], r.Values)
	}
	return traps[r.Trap]
}

// plenty is more fuel than the tests need that don't ask for less.
const plenty = 100000

// call returns what the function f answers, and how much fuel it took.
func call(t *testing.T, v *machine.Machine, f int, args ...uint64) (string, int64) {
	t.Helper()
	return within(t, v, f, plenty, 100, args...)
}

// within is call with no more than this fuel and this depth.
func within(t *testing.T, v *machine.Machine, f int, fuel int64, depth int, args ...uint64) (string, int64) {
	t.Helper()
	r, why := v.Call(f, args, fuel, depth)
	if why != api.OK {
		t.Fatalf("P14.2: Call(%d, %v, %d, %d): error %d", f, args, fuel, depth, why)
	}
	return told(r), fuel - r.Fuel
}

// row is a function, and what it answers to its args, with the fuel that it takes.
type row struct {
	signature, body string
	args            []uint64
	want            string
	fuel            int64
}

// holds calls the function of each row, in a machine of its own.
func holds(t *testing.T, rows []row) {
	t.Helper()
	for _, c := range rows {
		if got, fuel := call(t, runs(t, base(c.signature, c.body)), 3, c.args...); got != c.want || fuel != c.fuel {
			t.Errorf("P14.3: %s, %s with %v: %s, fuel %d, want %s, %d", c.signature, c.body, c.args, got, fuel, c.want, c.fuel)
		}
	}
}

func u(l ...uint64) []uint64 { return l }

// bytesOf returns n bytes of a memory as told.
func bytesOf(v *machine.Machine, k, at, n int) string {
	return strings.Trim(fmt.Sprint(v.Memory(k).Bytes()[at:at+n]), "[]")
}

// value writes the bits of a number as told does.
func value(f float64) string { return strconv.FormatUint(math.Float64bits(f), 10) }

// roomy copies l with two elements behind its end; kept reports whether all of them are still as they were.
func roomy(l []uint64) (wide []uint64, kept func() bool) {
	all := slices.Concat(l, []uint64{55, 66})
	was := slices.Clone(all)
	return all[:len(l)], func() bool { return slices.Equal(all, was) }
}
