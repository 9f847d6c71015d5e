package draft_test

import (
	"math"
	"math/big"
	"reflect"
	"slices"
	"testing"

	"plainsong/api"
	"plainsong/draft"
	"plainsong/module"
	"plainsong/ops"
)

func in(op, a int) api.Inst { return api.Inst{Op: op, A: a} }

func table(l ...int) api.Inst { return api.Inst{Op: 0x0e, L: l} }

// edges are numbers at which an index, a label or an increase may turn from one kind into another.
var edges = []int{
	math.MinInt, math.MinInt + 1, math.MinInt + 1<<30, -1 << 62, -1 << 32, -1<<31 - 1, -1 << 31, -1<<30 - 1, -1 << 30, -3, -2, -1,
	0, 1, 2, 3, 1<<30 - 2, 1<<30 - 1, 1 << 30, 1<<30 + 1, 1<<31 - 1, 1 << 31, 1 << 32, 1<<32 + 2, 1 << 62, math.MaxInt - 1<<30, math.MaxInt - 1, math.MaxInt,
}

// moved is what becomes of n, by numbers of any size.
func moved(n, from, by int) int {
	sum := new(big.Int).Add(big.NewInt(int64(n)), big.NewInt(int64(by)))
	if n >= from && sum.Sign() >= 0 && sum.Cmp(big.NewInt(1<<30)) <= 0 {
		return int(sum.Int64())
	}
	return n
}

// strange are numbers that are no instruction.
func strange() []int {
	return []int{math.MinInt, -0x10, -1, 0x06, 0x11, 0x13, 0x25, 0x110, 0x123, 0xfc04, 0xfc0c, 1<<16 + 0x10, 1<<32 + 0x0c, 1<<32 + 0x10, 1<<32 + 0x23, math.MaxInt}
}

// each is every instruction, and what is none, with all fields filled.
func each() []api.Inst {
	var l []api.Inst
	for _, op := range append(ops.All(), strange()...) {
		l = append(l, api.Inst{Op: op, A: 70, B: 80, N: 90, L: []int{100, 110}})
	}
	return l
}

// whole returns a module with several of each part, in which each index and label is 5 or more, so that none is as it was if it is moved.
func whole() api.Module {
	return api.Module{
		Types:   []api.Type{{}, {Params: []int{5, 6, api.F64}, Results: []int{7, 8}}, {Params: []int{9}}},
		Imports: []api.Import{{Module: "m", Name: "f", Type: 7}, {Module: "n", Type: 9}},
		Funcs: []api.Func{
			{Type: 7, Locals: []int{api.I32, 5, 9}, Code: each()},
			{Type: 70},
			{Type: 9, Locals: []int{}, Code: []api.Inst{in(0x10, 5), in(0x10, 6), in(0x12, 7), in(0x12, 8), in(0x23, 5), in(0x23, 6), in(0x24, 7), in(0x24, 8), table(5, 6, 7), in(0x0c, 5), in(0x0d, 6), in(0x0b, 0)}},
		},
		Mems:    []api.Mem{{Min: 5, Max: 6}, {Min: 7, Max: 8}},
		Globals: []api.Global{{Type: 5, Init: 6}, {Type: 7, Var: true, Init: 8}},
		Exports: []api.Export{
			{Name: "a", Kind: api.ExFunc, Index: 5}, {Name: "b", Kind: api.ExMem, Index: 6}, {Name: "c", Kind: api.ExGlobal, Index: 7}, {Name: "d", Kind: 1, Index: 6}, {Name: "e", Kind: 4, Index: 7},
			{Name: "c", Kind: api.ExGlobal, Index: 5}, {Name: "a", Kind: api.ExFunc, Index: 8}, {Name: "f", Kind: -3, Index: 8}, {Name: "a", Kind: api.ExFunc, Index: 6}, {Name: "c", Kind: api.ExGlobal, Index: 6},
		},
		Datas:   []api.Data{{Active: true, Mem: 6, At: 7, Bytes: []byte{8, 9}}, {Bytes: []byte{5}}, {}},
		Customs: []api.Custom{{Name: "x", Bytes: []byte{5, 6}}, {Name: "y"}},
	}
}

// visit calls see for v and for all that it holds.
func visit(v reflect.Value, see func(reflect.Value)) {
	see(v)
	switch v.Kind() {
	case reflect.Struct:
		for i := range v.NumField() {
			visit(v.Field(i), see)
		}
	case reflect.Slice:
		for i := range v.Len() {
			visit(v.Index(i), see)
		}
	}
}

// roomy puts every list of what p points to into new memory, with one more element of strange numbers in its spare capacity.
func roomy(p any) {
	visit(reflect.ValueOf(p).Elem(), func(v reflect.Value) {
		if v.Kind() != reflect.Slice {
			return
		}
		n := v.Len()
		long := reflect.MakeSlice(v.Type(), n+1, n+3)
		reflect.Copy(long, v)
		visit(long.Index(n), spoil)
		v.Set(long.Slice(0, n))
	})
}

func spoil(v reflect.Value) {
	switch v.Kind() {
	case reflect.Int:
		v.SetInt(0x10)
	case reflect.Uint64, reflect.Uint8:
		v.SetUint(99)
	case reflect.String:
		v.SetString("\xff")
	case reflect.Bool:
		v.SetBool(true)
	}
}

// region is the memory of a list, from its first byte up to the one after its spare capacity.
type region struct{ from, to uintptr }

// regions returns the memory of all lists of what p points to.
func regions(p any) []region {
	var l []region
	visit(reflect.ValueOf(p).Elem(), func(v reflect.Value) {
		if v.Kind() == reflect.Slice && v.Cap() > 0 {
			l = append(l, region{v.Pointer(), v.Pointer() + uintptr(v.Cap())*v.Type().Elem().Size()})
		}
	})
	return l
}

// apart tells whether no region of l meets another one, or one of others.
func apart(l, others []region) bool {
	for i, r := range l {
		for _, o := range slices.Concat(l[:i], others) {
			if r.from < o.to && o.from < r.to {
				return false
			}
		}
	}
	return true
}

// open lengthens every list of what p points to over its spare capacity.
func open(p any) {
	visit(reflect.ValueOf(p).Elem(), func(v reflect.Value) {
		if v.Kind() == reflect.Slice {
			v.SetLen(v.Cap())
		}
	})
}

// keeps calls do with the value that build makes, its lists with spare capacity, and holds that do leaves it as it was and answers memory of its own.
func keeps[A, R any](t *testing.T, what string, build func() A, do func(A) R) {
	t.Helper()
	a, was := build(), build()
	roomy(&a)
	roomy(&was)
	first := do(a)
	if !apart(regions(&first), regions(&a)) {
		t.Errorf("R2: %s: the answer shares memory with itself or with an argument", what)
	}
	second := do(a)
	if !reflect.DeepEqual(first, second) {
		t.Errorf("R4: %s: two answers differ", what)
	}
	if !apart(regions(&first), regions(&second)) {
		t.Errorf("R2: %s: two answers share memory", what)
	}
	open(&first)
	visit(reflect.ValueOf(&first).Elem(), spoil)
	if third := do(a); !reflect.DeepEqual(third, second) {
		t.Errorf("R2: %s: an answer is kept", what)
	}
	open(&a)
	open(&was)
	if !reflect.DeepEqual(a, was) {
		t.Errorf("R2: %s: an argument is changed, or what lies behind it", what)
	}
}

// sameModule holds two modules against each other.
func sameModule(t *testing.T, got, want api.Module, what string) {
	t.Helper()
	if !module.Same(got, want) {
		t.Errorf("%s:\n got %+v\nwant %+v", what, got, want)
	}
}

// sameCode holds two codes against each other.
func sameCode(t *testing.T, got, want []api.Inst, what string) {
	t.Helper()
	of := func(l []api.Inst) api.Module { return api.Module{Funcs: []api.Func{{Code: l}}} }
	if !module.Same(of(got), of(want)) {
		t.Errorf("%s:\n got %+v\nwant %+v", what, got, want)
	}
}

// mover is Calls or Globals, with the instructions and the exports that it moves.
type mover struct {
	name     string
	do       func(m api.Module, from, by int) api.Module
	ops      []int
	exported int
}

func movers() []mover {
	return []mover{
		{"Calls", draft.Calls, []int{0x10, 0x12}, api.ExFunc},
		{"Globals", draft.Globals, []int{0x23, 0x24}, api.ExGlobal},
	}
}

// expect is what v makes of m.
func (v mover) expect(m api.Module, from, by int) api.Module {
	c := module.Copy(m)
	for f := range c.Funcs {
		for k, i := range c.Funcs[f].Code {
			if i.Op == v.ops[0] || i.Op == v.ops[1] {
				c.Funcs[f].Code[k].A = moved(i.A, from, by)
			}
		}
	}
	for k, e := range c.Exports {
		if e.Kind == v.exported {
			c.Exports[k].Index = moved(e.Index, from, by)
		}
	}
	return c
}
