package check_test

import (
	"math"
	"reflect"
	"testing"

	"plainsong/api"
	"plainsong/check"
	mod "plainsong/module"
	"plainsong/ops"
	"plainsong/read"
	"plainsong/write"
)

// number returns a number that may be anything, mostly one that is near to what may stand somewhere.
func (q *maker) number() int {
	switch q.Intn(8) {
	case 0:
		return []int{math.MinInt, math.MinInt + 1, -1 << 32, -256, -5, 64, 255, 256, 1 << 31, 1 << 32, math.MaxInt - 1, math.MaxInt}[q.Intn(12)]
	case 1:
		return []int{api.I32, api.I64, api.F64}[q.Intn(3)]
	}
	return q.Intn(12) - 4
}

func (q *maker) list(most int) []int {
	var l []int
	for range q.Intn(most + 1) {
		l = append(l, q.number())
	}
	return l
}

// wild returns a module of any numbers whatever.
func (q *maker) wild() api.Module {
	var m api.Module
	known := ops.All()
	for range q.Intn(4) {
		m.Types = append(m.Types, api.Type{Params: q.list(10), Results: q.list(10)})
		m.Globals = append(m.Globals, api.Global{Type: q.number(), Var: q.Intn(2) == 0})
	}
	for range q.Intn(4) {
		m.Imports = append(m.Imports, api.Import{Type: q.number()})
		m.Datas = append(m.Datas, api.Data{Active: q.Intn(2) == 0, Mem: q.number(), At: q.number()})
		m.Mems = append(m.Mems, api.Mem{Min: q.number(), Max: q.number()})
		m.Exports = append(m.Exports, api.Export{Kind: q.number(), Index: q.number()})
	}
	for range 1 + q.Intn(3) {
		f := api.Func{Type: q.number(), Locals: q.list(4)}
		for range q.Intn(30) {
			op := known[q.Intn(len(known))]
			if q.Intn(10) == 0 {
				op = q.number()
			}
			f.Code = append(f.Code, api.Inst{Op: op, A: q.number(), B: q.number(), N: uint64(q.number()), L: q.list(3)})
		}
		m.Funcs = append(m.Funcs, f)
	}
	return m
}

// Func answers for modules of which nothing is right, and so does Module.
func TestWildModules(t *testing.T) {
	q := newMaker(3)
	for range 30000 {
		m := q.wild()
		for _, profile := range []int{api.Plain, api.Rich, q.number()} {
			if why := check.Module(m, profile); why == api.OK && mod.Right(m) != api.OK {
				t.Fatalf("P10.1: Module of %v: OK", m)
			}
			f := q.Intn(len(m.Funcs))
			at, why := check.Func(m, f, profile)
			if at < -1 || at >= len(m.Funcs[f].Code) || why == api.OK && at != -1 {
				t.Fatalf("P10.2: Func(%d) of %v: at %d, %d", f, m, at, why)
			}
		}
	}
}

// What no valid module has is not allowed either: Func says so where it finds it.
func TestFuncOfInvalidCode(t *testing.T) {
	for _, c := range []struct {
		code string
		at   int
		why  api.Errno
	}{
		{"block:-5 end end", 0, api.ErrIndex},
		{"br:-1 end", 0, api.ErrIndex},
		{"br:1000 end", 0, api.ErrIndex},
		{"br_table end", 0, api.ErrIndex},
		{"w br_table:0,-1 end", 1, api.ErrIndex},
		{"get:-1 end", 0, api.ErrIndex},
		{"get:1000 end", 0, api.ErrIndex},
		{"gget:-1 end", 0, api.ErrIndex},
		{"call:-1 end", 0, api.ErrIndex},
		{"size:-1 end", 0, api.ErrIndex},
		{"fill:-1 end", 0, api.ErrIndex},
		{"copy:0,-1 end", 0, api.ErrIndex},
		{"copy:-1,0 end", 0, api.ErrIndex},
		{"init:0,-1 end", 0, api.ErrIndex},
		{"init:-1,0 end", 0, api.ErrIndex},
		{"ddrop:-1 end", 0, api.ErrIndex},
		{"weqz nop", 0, api.ErrType},
		{"6 end", 0, api.ErrForm},
		{"nop else end", 1, api.ErrForm},
		{"block:-1 else end end", 1, api.ErrForm},
		{"w if:-1 else else end end", 3, api.ErrForm},
		{"end nop", 1, api.ErrForm},
		{"", -1, api.ErrForm},
		{"block:-1 end", -1, api.ErrForm},
	} {
		if at, why := check.Func(base(">", code(c.code)), 0, api.Rich); at != c.at || why != c.why {
			t.Errorf("R1: Func of %q: at %d, %d, want %d, %d", c.code, at, why, c.at, c.why)
		}
	}
	m := base(">", end())
	m.Funcs[0].Type = len(m.Types)
	if at, why := check.Func(m, 0, api.Rich); at != -1 || why != api.ErrIndex {
		t.Errorf("R1: Func of a function without a type: at %d, %d", at, why)
	}
}

// open returns m with the spare capacity of its lists laid open.
func open(m api.Module) api.Module {
	c := m
	lists(reflect.ValueOf(&c), func(v reflect.Value) { v.Set(v.Slice(0, v.Cap())) })
	return c
}

// Neither function changes a module, or what lies in the spare capacity of its lists, or hangs on that, or on what it was asked before.
func TestModulesStayAsTheyAre(t *testing.T) {
	q := newMaker(4)
	for range 500 {
		m := q.module()
		if q.Intn(2) == 0 {
			q.spoil(m)
		}
		wide, kept := mod.Copy(m), mod.Copy(m)
		roomy(&wide)
		roomy(&kept)
		for _, profile := range both {
			at, why := check.Func(m, 0, profile)
			whole := check.Module(m, profile)
			for range 2 {
				if atWide, whyWide := check.Func(wide, 0, profile); atWide != at || whyWide != why {
					t.Fatalf("R5: Func of a module with spare capacity: at %d, %d, want %d, %d", atWide, whyWide, at, why)
				}
				if got := check.Module(wide, profile); got != whole {
					t.Fatalf("R5: Module of a module with spare capacity: %d, want %d", got, whole)
				}
			}
		}
		if !reflect.DeepEqual(wide, kept) || !reflect.DeepEqual(open(wide), open(kept)) {
			t.Fatal("R2: a module is another one afterwards")
		}
	}
}

// A list that is empty is one that is nil.
func TestEmptyLists(t *testing.T) {
	q := newMaker(5)
	for range 300 {
		m := q.module()
		some, none := mod.Copy(m), mod.Copy(m)
		lists(reflect.ValueOf(&some), func(v reflect.Value) {
			if v.Len() == 0 {
				v.Set(reflect.MakeSlice(v.Type(), 0, 0))
			}
		})
		lists(reflect.ValueOf(&none), func(v reflect.Value) {
			if v.Len() == 0 {
				v.SetZero()
			}
		})
		for _, profile := range both {
			if a, b := check.Module(some, profile), check.Module(none, profile); a != b {
				t.Fatalf("R4: Module of empty lists: %d, of nil ones %d", a, b)
			}
		}
	}
	rows(t, []int{api.Rich}, []row{{">", "w if:0 end call:1 return_call:1 end", -1, ok}})
	m := base(">", code("w if:0 end end"))
	m.Types[0] = api.Type{Params: []int{}}
	judgedModule(t, m, api.Rich, api.OK, "an if of no types, one list of them nil")
}

// Every string of bytes is refused or decoded, and what is decoded has one verdict, by whichever encoding it comes.
func TestOneVerdict(t *testing.T) {
	q := newMaker(6)
	said := map[api.Errno]int{}
	for range 8000 {
		m := q.module()
		b, why := write.Bytes(m)
		if why != api.OK {
			t.Fatalf("P8.2: Bytes: %d", why)
		}
		for range q.Intn(4) {
			b[8+q.Intn(len(b)-8)] = byte(q.Intn(256))
		}
		m, _, why = read.Module(b)
		if why != api.OK {
			continue
		}
		again, _ := write.Bytes(m)
		other, _, _ := read.Module(again)
		plain, rich := check.Module(m, api.Plain), check.Module(m, api.Rich)
		if check.Module(other, api.Plain) != plain || check.Module(other, api.Rich) != rich || check.Module(mod.Copy(m), api.Rich) != rich {
			t.Fatalf("W2: two verdicts of one module: %v", m)
		}
		if plain == api.OK && rich != api.OK {
			t.Fatalf("W2: a plain module that is not a rich one: %d", rich)
		}
		said[rich]++
	}
	if said[api.OK] < 100 || said[api.ErrType] < 100 || said[api.ErrIndex] < 50 {
		t.Errorf("verdicts of one kind alone: %v", said)
	}
}
