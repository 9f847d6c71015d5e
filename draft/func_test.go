package draft_test

import (
	"fmt"
	"math"
	"reflect"
	"slices"
	"testing"

	"plainsong/api"
	"plainsong/draft"
	"plainsong/ops"
)

// oneOf is a function with all its parts.
func oneOf(locals ...int) api.Func {
	return api.Func{Type: 3, Locals: locals, Code: []api.Inst{table(1, 2), {Op: 0x41, A: 1, B: 2, N: 3}, in(0x20, 0), in(0x0b, 0)}}
}

func TestLocals(t *testing.T) {
	for _, c := range []struct{ had, more, want []int }{
		{nil, nil, nil},
		{nil, []int{api.I32}, []int{api.I32}},
		{[]int{api.F64}, nil, []int{api.F64}},
		{[]int{api.I32}, []int{api.I64}, []int{api.I32, api.I64}},
		{[]int{api.I32, api.F64}, []int{api.F64, api.I64, api.I32}, []int{api.I32, api.F64, api.F64, api.I64, api.I32}},
		{[]int{0, -1}, []int{math.MaxInt, 5}, []int{0, -1, math.MaxInt, 5}},
		{slices.Repeat([]int{api.I32}, 256), []int{api.F64, api.F64}, append(slices.Repeat([]int{api.I32}, 256), api.F64, api.F64)},
		{slices.Repeat([]int{api.F64}, 70000), slices.Repeat([]int{api.I32}, 70000), append(slices.Repeat([]int{api.F64}, 70000), slices.Repeat([]int{api.I32}, 70000)...)},
	} {
		got, n := draft.Locals(oneOf(c.had...), c.more...)
		want := oneOf(c.want...)
		if n != len(c.had) || !slices.Equal(got.Locals, want.Locals) {
			t.Errorf("P16.1: Locals of %d locals and %d more: %d locals, %d", len(c.had), len(c.more), len(got.Locals), n)
		}
		if got.Type != want.Type || !reflect.DeepEqual(got.Code, want.Code) {
			t.Errorf("P16.1: Locals: the function %+v, want %+v", got, want)
		}
	}
	got, n := draft.Locals(api.Func{})
	sameModule(t, api.Module{Funcs: []api.Func{got}}, api.Module{Funcs: []api.Func{{}}}, "P16.1: Locals of a function without anything")
	if n != 0 {
		t.Errorf("P16.1: Locals of a function without anything: %d", n)
	}
	wrong := api.Func{Type: -7, Locals: []int{9}, Code: []api.Inst{{Op: -1, A: -2, B: -3, N: 4, L: []int{-5}}}}
	got, n = draft.Locals(wrong, 8)
	wrong.Locals = []int{9, 8}
	sameModule(t, api.Module{Funcs: []api.Func{got}}, api.Module{Funcs: []api.Func{wrong}}, "P16.1: Locals of a function that isn't valid")
	if n != 1 {
		t.Errorf("P16.1: Locals of a function that isn't valid: %d", n)
	}
}

// both is what Locals is called with.
type both struct {
	F     api.Func
	Types []int
}

func TestLocalsKeepsToItsArguments(t *testing.T) {
	for _, locals := range [][]int{{}, {api.I32}, {api.I32, api.F64, api.I64}} {
		for _, types := range [][]int{{}, {api.F64}, {api.I64, api.I32}} {
			build := func() both { return both{oneOf(slices.Clone(locals)...), slices.Clone(types)} }
			keeps(t, "Locals", build, func(a both) api.Func {
				f, _ := draft.Locals(a.F, a.Types...)
				return f
			})
		}
	}
	f := oneOf(api.I32, api.F64)
	got, n := draft.Locals(f, f.Locals...)
	if n != 2 || !slices.Equal(got.Locals, []int{api.I32, api.F64, api.I32, api.F64}) {
		t.Errorf("P16.1: Locals with the locals once more: %v, %d", got.Locals, n)
	}
}

func TestUses(t *testing.T) {
	m := api.Module{
		Types:   []api.Type{{Params: []int{0x10}}},
		Imports: []api.Import{{Type: 0x10}},
		Funcs: []api.Func{
			{Type: 0x10, Locals: []int{0x10}, Code: []api.Inst{in(0x10, 0x12), in(0x12, 0x10), in(0x10, 0x10), {Op: 0x01, B: 0x10, N: 0x10, L: []int{0x10}}}},
			{},
			{Code: []api.Inst{in(-1, 0), in(0x0b, 0), in(0x10, 3)}},
			{Code: []api.Inst{in(0xfc0a, 0), in(0xfc0a, 0), in(math.MaxInt, 0), in(0x0b, 0)}},
		},
		Exports: []api.Export{{Kind: 0x10, Index: 0x10}},
		Globals: []api.Global{{Type: 0x10, Init: 0x10}},
	}
	want := map[int]int{0x10: 3, 0x12: 1, 0x01: 1, -1: 1, 0x0b: 2, 0xfc0a: 2, math.MaxInt: 1}
	for _, op := range append(append(ops.All(), strange()...), 0, -2, 0x0a, 0x110, 0x1fc0a) {
		if got := draft.Uses(m, op); got != want[op] {
			t.Errorf("P16.1: Uses(%#x): %d, want %d", op, got, want[op])
		}
		if got := draft.Uses(api.Module{}, op); got != 0 {
			t.Errorf("P16.1: Uses(%#x) of an empty module: %d", op, got)
		}
	}
}

// Each instruction is counted, as often as it stands in any code.
func TestUsesOfEachInstruction(t *testing.T) {
	all := append(ops.All(), strange()...)
	var m api.Module
	for k, op := range all {
		f := api.Func{Code: slices.Repeat([]api.Inst{in(op, 7)}, k%5)}
		m.Funcs = append(m.Funcs, f, api.Func{Code: each()})
	}
	for k, op := range all {
		if got, want := draft.Uses(m, op), k%5+len(all); got != want {
			t.Errorf("P16.1: Uses(%#x): %d, want %d", op, got, want)
		}
	}
}

func TestUsesKeepsToItsArgument(t *testing.T) {
	for _, op := range []int{0x10, 0x0b, 0} {
		keeps(t, fmt.Sprintf("Uses(%#x)", op), whole, func(m api.Module) int { return draft.Uses(m, op) })
	}
	m := whole()
	roomy(&m)
	if got, want := draft.Uses(m, 0x10), draft.Uses(whole(), 0x10); got != want {
		t.Errorf("R5: Uses reads spare capacity: %d, want %d", got, want)
	}
}
