package stacks_test

import (
	"math"
	"reflect"
	"slices"
	"testing"

	"plainsong/api"
	"plainsong/check"
	mod "plainsong/module"
	"plainsong/ops"
	"plainsong/stacks"
)

// lists calls see for every list in v, what lies outside first.
func lists(v reflect.Value, see func(reflect.Value)) {
	switch v.Kind() {
	case reflect.Pointer:
		lists(v.Elem(), see)
	case reflect.Struct:
		for i := range v.NumField() {
			lists(v.Field(i), see)
		}
	case reflect.Slice:
		see(v)
		for i := range v.Len() {
			lists(v.Index(i), see)
		}
	}
}

// roomy gives each list of m spare capacity, with something in it.
func roomy(m *api.Module) {
	lists(reflect.ValueOf(m), func(v reflect.Value) {
		wide := reflect.MakeSlice(v.Type(), v.Len()+3, v.Len()+3)
		reflect.Copy(wide, v)
		if n := v.Len(); n > 0 {
			for k := range 3 {
				wide.Index(n + k).Set(v.Index(n - 1))
			}
		}
		v.Set(wide.Slice(0, v.Len()))
	})
}

// open returns m with the spare capacity of its lists laid open.
func open(m api.Module) api.Module {
	c := m
	lists(reflect.ValueOf(&c), func(v reflect.Value) { v.Set(v.Slice(0, v.Cap())) })
	return c
}

// Neither function changes a module, or what lies in the spare capacity of its lists, or hangs on that, or on what it was asked before.
func TestModulesStayAsTheyAre(t *testing.T) {
	q := newGrower(2)
	for range 100 {
		m := q.module(q.Intn(40))
		wide, kept := mod.Copy(m), mod.Copy(m)
		roomy(&wide)
		roomy(&kept)
		rows, depth := told(stacks.Of(m, 0)), stacks.Depth(m, 0)
		for range 2 {
			if got := told(stacks.Of(wide, 0)); got != rows {
				t.Fatalf("R5: Of of a module with spare capacity: %s, want %s", got, rows)
			}
			if got := stacks.Depth(wide, 0); got != depth {
				t.Fatalf("R5: Depth of a module with spare capacity: %d, want %d", got, depth)
			}
		}
		if !reflect.DeepEqual(wide, kept) || !reflect.DeepEqual(open(wide), open(kept)) {
			t.Fatal("R2: a module is another one afterwards")
		}
	}
}

// spoil writes over all that an answer has, and over its spare capacity.
func spoil(rows []stacks.Row) {
	for k, r := range rows {
		for i := range r.Types[:cap(r.Types)] {
			r.Types[:cap(r.Types)][i] = -k
		}
	}
	for i := range rows[:cap(rows)] {
		rows[:cap(rows)][i].Dead = !rows[:cap(rows)][i].Dead
	}
}

// The lists of an answer share no memory: neither with each other, nor with the module, nor with another answer.
func TestAnswersAreNewMemory(t *testing.T) {
	q := newGrower(3)
	for range 100 {
		m := q.module(q.Intn(40))
		kept := mod.Copy(m)
		rows := stacks.Of(m, 0)
		want := told(rows)
		for k := range rows {
			other := stacks.Of(m, 0)
			spoil(other[k : k+1 : k+1])
			if told(other[:k])+told(other[k+1:]) != told(rows[:k])+told(rows[k+1:]) {
				t.Fatal("R2: two lists of an answer share memory")
			}
		}
		spoil(rows)
		if !reflect.DeepEqual(m, kept) {
			t.Fatal("R2: an answer shares memory with the module")
		}
		if got := told(stacks.Of(m, 0)); got != want {
			t.Fatal("R2: an answer shares memory with another one")
		}
	}
}

// A list that is empty is one that is nil.
func TestEmptyLists(t *testing.T) {
	q := newGrower(4)
	for range 100 {
		m := q.module(q.Intn(40))
		some, none := mod.Copy(m), mod.Copy(m)
		lists(reflect.ValueOf(&some), func(v reflect.Value) {
			if v.Len() == 0 {
				v.Set(reflect.MakeSlice(v.Type(), 0, 0))
			}
		})
		lists(reflect.ValueOf(&none), func(v reflect.Value) {
			if v.Len() == 0 {
				v.SetZero()
			}
		})
		if a, b := told(stacks.Of(some, 0)), told(stacks.Of(none, 0)); a != b {
			t.Fatalf("R4: Of with empty lists: %s, with nil ones %s", a, b)
		}
	}
}

// number returns a number that may be anything, mostly one that is near to what may stand somewhere.
func (q *grower) number() int {
	switch q.Intn(8) {
	case 0:
		return []int{math.MinInt, math.MinInt + 1, -1 << 32, -256, -5, 64, 255, 256, 1 << 31, 1 << 32, math.MaxInt - 1, math.MaxInt}[q.Intn(12)]
	case 1:
		return []int{api.I32, api.I64, api.F64}[q.Intn(3)]
	}
	return q.Intn(12) - 4
}

func (q *grower) list(most int) []int {
	var l []int
	for range q.Intn(most + 1) {
		l = append(l, q.number())
	}
	return l
}

// wild returns a module of any numbers whatever.
func (q *grower) wild() api.Module {
	var m api.Module
	known := ops.All()
	for range q.Intn(4) {
		m.Types = append(m.Types, api.Type{Params: q.list(10), Results: q.list(10)})
		m.Globals = append(m.Globals, api.Global{Type: q.number(), Var: q.Intn(2) == 0})
		m.Imports = append(m.Imports, api.Import{Type: q.number()})
		m.Datas = append(m.Datas, api.Data{Active: q.Intn(2) == 0, Mem: q.number(), At: q.number()})
		m.Mems = append(m.Mems, api.Mem{Min: q.number(), Max: q.number()})
		m.Exports = append(m.Exports, api.Export{Kind: q.number(), Index: q.number()})
	}
	for range q.Intn(4) {
		f := api.Func{Type: q.number(), Locals: q.list(4)}
		for range q.Intn(30) {
			op := known[q.Intn(len(known))]
			if q.Intn(10) == 0 {
				op = q.number()
			}
			f.Code = append(f.Code, api.Inst{Op: op, A: q.number(), B: q.number(), N: uint64(q.number()), L: q.list(3)})
		}
		m.Funcs = append(m.Funcs, f)
	}
	return m
}

// Both functions answer for modules of which nothing is right.
func TestWildModules(t *testing.T) {
	q := newGrower(5)
	for range 10000 {
		m := q.wild()
		f := q.number()
		if check.Module(m, api.Rich) != api.OK {
			none(t, m, f, "a module of any numbers")
			none(t, m, 0, "a module of any numbers")
		}
	}
}

// spoiled returns m with an instruction of its first function changed, taken away, or swapped with another.
func (q *grower) spoiled(m api.Module) api.Module {
	c := mod.Copy(m)
	l := c.Funcs[0].Code
	k, j := q.Intn(len(l)), q.Intn(len(l))
	switch q.Intn(4) {
	case 0:
		l[k] = with(q.fixed[q.Intn(len(q.fixed))])
	case 1:
		l = slices.Delete(l, k, k+1)
	case 2:
		l[k], l[j] = l[j], l[k]
	case 3:
		l = slices.Insert(l, k, q.next(2, 0x04)...)
	}
	c.Funcs[0].Code = l
	return c
}

// Made functions of which something is changed: those that are still right have their Rows, the others none.
func TestChangedFunctions(t *testing.T) {
	q, said := newGrower(6), map[string]int{}
	for range 200 {
		m := q.module(q.Intn(40))
		for range 5 {
			compare(t, q.spoiled(m), said)
		}
	}
	if said["accepted"] < 200 || said["refused"] < 200 {
		t.Errorf("functions of one kind alone: %v", said)
	}
}
