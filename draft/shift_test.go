package draft_test

import (
	"fmt"
	"math"
	"slices"
	"testing"

	"plainsong/api"
	"plainsong/check"
	"plainsong/draft"
	"plainsong/host"
	"plainsong/machine"
)

// Indices that were moved by hand: those from 6 on, by 10.
func TestCalls(t *testing.T) {
	want := whole()
	code := want.Funcs[2].Code
	code[1].A, code[2].A, code[3].A = 16, 17, 18
	for k, i := range want.Funcs[0].Code {
		if i.Op == 0x10 || i.Op == 0x12 {
			want.Funcs[0].Code[k].A = 80
		}
	}
	want.Exports[6].Index, want.Exports[8].Index = 18, 16
	sameModule(t, draft.Calls(whole(), 6, 10), want, "P16.1: Calls(6, 10)")
}

func TestGlobals(t *testing.T) {
	want := whole()
	code := want.Funcs[2].Code
	code[5].A, code[6].A, code[7].A = 16, 17, 18
	for k, i := range want.Funcs[0].Code {
		if i.Op == 0x23 || i.Op == 0x24 {
			want.Funcs[0].Code[k].A = 80
		}
	}
	want.Exports[2].Index, want.Exports[9].Index = 17, 16
	sameModule(t, draft.Globals(whole(), 6, 10), want, "P16.1: Globals(6, 10)")
}

// Which indices are moved, where they begin, and where they may not lead.
func TestMovedByHand(t *testing.T) {
	for _, c := range []struct{ n, from, by, want int }{
		{0, 0, 1, 1}, {0, 1, 1, 0}, {1, 1, 1, 2}, {2, 1, 1, 3}, {5, 6, 1, 5}, {6, 6, 1, 7}, {7, 6, 1, 8}, {7, 6, 0, 7}, {7, 8, 1, 7},
		{5, 0, -5, 0}, {5, 0, -6, 5}, {5, 5, -1, 4}, {5, 6, -1, 5}, {0, 0, -1, 0}, {1, 0, -1, 0},
		{5, -3, 2, 7}, {0, -1, 4, 4}, {-1, 0, 4, -1}, {-1, -1, 1, 0}, {-2, -2, 1, -2}, {-5, -5, 5, 0}, {-5, -5, 7, 2}, {-5, -4, 7, -5}, {-5, -9, -1, -5},
		{0, 0, 1 << 30, 1 << 30}, {0, 0, 1<<30 + 1, 0}, {1, 0, 1 << 30, 1}, {1, 0, 1<<30 - 1, 1 << 30}, {1<<30 - 1, 0, 1, 1 << 30}, {1 << 30, 0, 0, 1 << 30}, {1 << 30, 0, 1, 1 << 30}, {1 << 30, 1 << 30, -1, 1<<30 - 1},
		{1<<30 + 1, 0, 0, 1<<30 + 1}, {1<<30 + 1, 0, -1, 1 << 30}, {1<<30 + 2, 0, -1, 1<<30 + 2}, {math.MaxInt, 0, -math.MaxInt, 0}, {math.MaxInt, 0, math.MinInt, math.MaxInt}, {math.MaxInt, 0, 1, math.MaxInt}, {math.MaxInt, 0, math.MaxInt, math.MaxInt},
		{1, 0, math.MaxInt, 1}, {1, 0, math.MinInt, 1}, {math.MinInt, math.MinInt, math.MinInt, math.MinInt}, {math.MinInt, math.MinInt, math.MaxInt, math.MinInt}, {-math.MaxInt, math.MinInt, math.MaxInt, 0}, {-1, math.MinInt, math.MinInt, -1}, {-2, math.MinInt, math.MinInt, -2}, {math.MinInt, math.MinInt, -1, math.MinInt}, {math.MinInt + 5, math.MinInt, math.MinInt, math.MinInt + 5},
	} {
		compareMoves(t, c.n, c.from, c.by, c.want)
	}
}

// compareMoves holds both functions against what is known of one index.
func compareMoves(t *testing.T, n, from, by, want int) {
	t.Helper()
	for _, v := range movers() {
		build := func(n int) api.Module {
			return api.Module{Funcs: []api.Func{{Code: []api.Inst{in(v.ops[0], n), in(v.ops[1], n)}}}, Exports: []api.Export{{Kind: v.exported, Index: n}}}
		}
		sameModule(t, v.do(build(n), from, by), build(want), fmt.Sprintf("P16.1: %s(%d, %d) of the index %d", v.name, from, by, n))
	}
}

func TestMovedAtEachEdge(t *testing.T) {
	for _, n := range edges {
		for _, from := range edges {
			for _, by := range edges {
				compareMoves(t, n, from, by, moved(n, from, by))
			}
		}
	}
}

// Each function moves two instructions and one kind of exports, wherever they stand, and nothing else.
func TestOnlyItsOwnMove(t *testing.T) {
	m := whole()
	for _, v := range movers() {
		for _, from := range []int{-1, 0, 5, 6, 7, 8, 9, 70, 71, 1 << 40} {
			for _, by := range []int{-80, -7, -5, -1, 0, 1, 3, 1 << 29, 1 << 40} {
				sameModule(t, v.do(m, from, by), v.expect(m, from, by), fmt.Sprintf("P16.1: %s(%d, %d)", v.name, from, by))
			}
		}
		sameModule(t, v.do(m, 71, 5), m, "P16.1: "+v.name+" from beyond all indices")
		sameModule(t, v.do(m, 0, 0), m, "P16.1: "+v.name+" by 0")
		sameModule(t, v.do(api.Module{}, 0, 1), api.Module{}, "P16.1: "+v.name+" of an empty module")
		empty := api.Module{Funcs: []api.Func{}, Exports: []api.Export{}}
		sameModule(t, v.do(empty, 0, 1), empty, "R4: "+v.name+" of empty lists")
	}
}

// Lists of a module may have memory of each other: each index is moved once all the same.
func TestSharedCode(t *testing.T) {
	for _, v := range movers() {
		code := []api.Inst{in(v.ops[0], 1), in(v.ops[1], 2), in(0x0b, 0)}
		m := api.Module{Funcs: []api.Func{{Code: code}, {Code: code}, {Code: code[1:]}}}
		want := api.Module{Funcs: []api.Func{
			{Code: []api.Inst{in(v.ops[0], 2), in(v.ops[1], 3), in(0x0b, 0)}},
			{Code: []api.Inst{in(v.ops[0], 2), in(v.ops[1], 3), in(0x0b, 0)}},
			{Code: []api.Inst{in(v.ops[1], 3), in(0x0b, 0)}},
		}}
		got := v.do(m, 0, 1)
		sameModule(t, got, want, "P16.1: "+v.name+" of functions with one code")
		if !apart(regions(&got), regions(&m)) {
			t.Errorf("R2: %s of functions with one code: the answer shares memory", v.name)
		}
	}
}

func TestMoversKeepToTheirArguments(t *testing.T) {
	for _, v := range movers() {
		for _, from := range []int{0, 6, 1 << 20} {
			keeps(t, v.name, whole, func(m api.Module) api.Module { return v.do(m, from, 3) })
		}
	}
}

// counter has an imported function and two others, and a global that they count in:
// g(n) = n + asked(n) + what was counted before, by a call and a return_call.
func counter() api.Module {
	return api.Module{
		Types:   []api.Type{{Params: []int{api.I32}, Results: []int{api.I32}}},
		Imports: []api.Import{{Module: "h", Name: "ask"}},
		Funcs: []api.Func{
			{Code: []api.Inst{in(0x23, 1), in(0x20, 0), in(0x6a, 0), in(0x24, 1), in(0x23, 1), in(0x0b, 0)}},
			{Code: []api.Inst{in(0x20, 0), in(0x20, 0), in(0x10, 0), in(0x6a, 0), in(0x12, 1), in(0x0b, 0)}},
		},
		Globals: []api.Global{{Type: api.F64}, {Type: api.I32, Var: true, Init: 100}},
		Exports: []api.Export{{Name: "g", Index: 2}, {Name: "count", Kind: api.ExGlobal, Index: 1}},
	}
}

// runs calls g twice and returns its results.
func runs(t *testing.T, m api.Module) [2]uint64 {
	t.Helper()
	if why := check.Module(m, api.Rich); why != api.OK {
		t.Fatalf("check.Module: error %d", why)
	}
	v, why := machine.New(m, host.New(host.Answer{Values: []uint64{3}}, host.Answer{Values: []uint64{40}}), 0)
	if why != api.OK {
		t.Fatalf("machine.New: error %d", why)
	}
	var l [2]uint64
	for k := range l {
		r, why := v.Invoke("g", []uint64{7}, 100, 9)
		if why != api.OK || r.Trap != api.Done {
			t.Fatalf("Invoke: error %d, trap %d", why, r.Trap)
		}
		l[k] = r.Values[0]
	}
	return l
}

// What is put before or between functions, or globals, changes nothing that the module does.
func TestRoomForMore(t *testing.T) {
	want := [2]uint64{110, 157}
	if got := runs(t, counter()); got != want {
		t.Fatalf("the module itself gives %v, want %v", got, want)
	}
	for at := range 2 {
		m := draft.Calls(counter(), at, 1)
		m.Types = append(m.Types, api.Type{Results: []int{api.F64}})
		m.Imports = slices.Insert(m.Imports, at, api.Import{Module: "h", Name: "other", Type: 1})
		if got := runs(t, m); got != want {
			t.Errorf("P16.1: Calls, with an import put before the function %d: %v, want %v", at, got, want)
		}
		m = draft.Globals(counter(), at, 2)
		m.Globals = slices.Insert(m.Globals, at, api.Global{Type: api.I64}, api.Global{Type: api.F64, Var: true})
		if got := runs(t, m); got != want {
			t.Errorf("P16.1: Globals, with two put before the global %d: %v, want %v", at, got, want)
		}
	}
}

// What was moved can be moved back, unless other indices are in the way.
func TestThereAndBack(t *testing.T) {
	for _, v := range movers() {
		for _, from := range []int{0, 5, 6, 7, 70, 71} {
			for _, by := range []int{1, 2, 1000, 1<<30 - 70} {
				m := v.do(v.do(whole(), from, by), from+by, -by)
				sameModule(t, m, whole(), fmt.Sprintf("P16.1: %s(%d, %d) and back", v.name, from, by))
			}
		}
	}
}
