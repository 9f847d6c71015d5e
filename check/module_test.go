package check_test

import (
	"math"
	"slices"
	"strings"
	"testing"

	"plainsong/api"
	"plainsong/check"
)

// good returns a module that is well typed for both profiles, with something of each part.
func good() api.Module {
	m := plain(">", code("nop end"))
	m.Exports = append(m.Exports, api.Export{Name: "", Kind: api.ExGlobal, Index: 4})
	m.Customs = []api.Custom{{Name: "c"}}
	return m
}

// fault is something that is wrong with a module, and how late it is told.
type fault struct {
	what  string
	rank  int
	why   api.Errno
	plain bool // wrong for the plain profile alone
	spoil func(m *api.Module)
}

// deep returns a code with so many blocks in each other.
func deep(n int) []api.Inst {
	return code(strings.Repeat("block:-1 ", n) + strings.Repeat("end ", n+1))
}

var faults = []fault{
	{"too many memories", 1, api.ErrFull, false, func(m *api.Module) { m.Mems = make([]api.Mem, 5) }},
	{"too many types", 1, api.ErrFull, false, func(m *api.Module) { m.Types = append(m.Types, make([]api.Type, 60)...) }},
	{"too many Customs", 1, api.ErrFull, false, func(m *api.Module) { m.Customs = make([]api.Custom, 17) }},
	{"two exports of one name", 2, api.ErrForm, false, func(m *api.Module) { m.Exports[1].Name = m.Exports[0].Name }},
	{"a type that is none", 2, api.ErrForm, false, func(m *api.Module) { m.Globals[2].Type = 0x7d }},
	{"an instruction that is none", 2, api.ErrForm, false, func(m *api.Module) { m.Funcs[3].Code[0].Op = 0x06 }},
	{"an index below zero", 2, api.ErrForm, false, func(m *api.Module) { m.Imports[0].Type = -1 }},
	{"no code", 3, api.ErrForm, false, func(m *api.Module) { m.Funcs[0].Code = nil }},
	{"an end too many", 3, api.ErrForm, false, func(m *api.Module) { m.Funcs[0].Code = code("end end") }},
	{"a block too deep", 4, api.ErrOver, false, func(m *api.Module) { m.Funcs[1].Code = deep(65) }},
	{"a type of an Import that doesn't exist", 5, api.ErrIndex, false, func(m *api.Module) { m.Imports[1].Type = len(m.Types) }},
	{"a type of a Func that doesn't exist", 5, api.ErrIndex, false, func(m *api.Module) { m.Funcs[2].Type = math.MaxInt32 }},
	{"an exported function that doesn't exist", 6, api.ErrIndex, false, func(m *api.Module) { m.Exports[0].Index = 6 }},
	{"an exported memory that doesn't exist", 6, api.ErrIndex, false, func(m *api.Module) { m.Exports[1].Index = 4 }},
	{"an exported global that doesn't exist", 6, api.ErrIndex, false, func(m *api.Module) { m.Exports[2].Index = 6 }},
	{"a Data for a memory that doesn't exist", 7, api.ErrIndex, false, func(m *api.Module) { m.Datas[2].Mem = 3 }},
	{"a type with two results", 8, api.ErrPlain, true, func(m *api.Module) { m.Types[5].Results = types("ll") }},
	{"a second memory", 8, api.ErrPlain, true, func(m *api.Module) { m.Mems = append(m.Mems[:1:1], api.Mem{}) }},
	{"a Data that isn't Active", 8, api.ErrPlain, true, func(m *api.Module) { m.Datas[0] = api.Data{} }},
	{"an exported global that may be set", 8, api.ErrPlain, true, func(m *api.Module) { m.Globals[4].Var = true }},
	{"a rich instruction", 9, api.ErrPlain, true, func(m *api.Module) { m.Funcs[0].Code = code("w c0 drop end") }},
	{"a type on the stack", 10, api.ErrType, false, func(m *api.Module) { m.Funcs[1].Code = code("l end") }},
	{"a global that doesn't exist", 11, api.ErrIndex, false, func(m *api.Module) { m.Funcs[2].Code = code("gget:6 end") }},
	{"another type on the stack", 12, api.ErrType, false, func(m *api.Module) { m.Funcs[3].Code = code("w br_if:0 end") }},
}

func judgedModule(t *testing.T, m api.Module, profile int, want api.Errno, what string) {
	t.Helper()
	if got := check.Module(m, profile); got != want {
		t.Errorf("P10.1: Module with %s, profile %d: %d, want %d", what, profile, got, want)
	}
}

func TestEachFault(t *testing.T) {
	for _, profile := range both {
		judgedModule(t, good(), profile, api.OK, "nothing wrong")
		for _, f := range faults {
			m := good()
			f.spoil(&m)
			want := f.why
			if f.plain && profile == api.Rich {
				want = api.OK
			}
			judgedModule(t, m, profile, want, f.what)
		}
	}
}

// Of two faults that a module has, that one is told that comes first in the order.
func TestOrderOfFaults(t *testing.T) {
	for i, first := range faults {
		for _, second := range faults[i+1:] {
			// What both change in the same place can't be told apart.
			if first.rank == second.rank || clash(first, second) {
				continue
			}
			for _, twice := range []bool{false, true} {
				m := good()
				if twice {
					second.spoil(&m)
					first.spoil(&m)
				} else {
					first.spoil(&m)
					second.spoil(&m)
				}
				what := first.what + ", and " + second.what
				judgedModule(t, m, api.Plain, first.why, what)
				want := first.why
				if first.plain {
					want = second.why
				}
				if first.plain && second.plain {
					want = api.OK
				}
				judgedModule(t, m, api.Rich, want, what)
			}
		}
	}
}

// clash reports whether one of two faults is undone by the other.
func clash(a, b fault) bool {
	for _, words := range [][2]string{
		{"too many memories", "a second memory"},
		{"too many memories", "an exported memory"},
		{"no code", "a rich instruction"},
		{"an end too many", "a rich instruction"},
		{"a block too deep", "a type on the stack"},
		{"an instruction that is none", "another type on the stack"},
		{"too many types", "a type of an Import that doesn't exist"},
	} {
		if strings.HasPrefix(a.what, words[0]) && strings.HasPrefix(b.what, words[1]) {
			return true
		}
	}
	return false
}

func TestProfiles(t *testing.T) {
	broken := good()
	broken.Customs = make([]api.Custom, 17)
	for _, m := range []api.Module{{}, good(), broken} {
		for _, profile := range []int{math.MinInt, -2, -1, 0, 3, 4, 1<<32 + 1, 1<<32 + 2, math.MaxInt} {
			judgedModule(t, m, profile, api.ErrArg, "a profile that is none")
		}
	}
}

// The first function with an error tells it, whatever errors the others have.
func TestFirstFunction(t *testing.T) {
	for _, l := range [][]struct {
		code string
		why  api.Errno
	}{
		{{"weqz drop end", api.ErrType}, {"br:9 end", api.ErrIndex}, {"block:0 end end", api.ErrPlain}},
	} {
		for i, a := range l {
			for j, b := range l {
				m := plain(">", code("end"))
				m.Funcs[1+i].Code, m.Funcs[1+j].Code = code(a.code), code(b.code)
				first := a
				if j < i {
					first = b
				}
				judgedModule(t, m, api.Plain, first.why, "two wrong functions")
			}
		}
	}
	// Both errors of blocks without their ends are told by the first function that has one.
	for _, swap := range []bool{false, true} {
		m, want := good(), api.ErrOver
		m.Funcs[0].Code, m.Funcs[3].Code = deep(65), code("nop")
		if swap {
			m.Funcs[0].Code, m.Funcs[3].Code = m.Funcs[3].Code, m.Funcs[0].Code
			want = api.ErrForm
		}
		for _, profile := range both {
			judgedModule(t, m, profile, want, "two functions without their ends")
		}
	}
	// Ends come before types, even those of an earlier function.
	m := good()
	m.Funcs[0].Code, m.Funcs[3].Code = code("weqz end"), code("nop")
	judgedModule(t, m, api.Rich, api.ErrForm, "a type on the stack, then no end")
}

// Indices of types, exports and memories, up to the last one that exists and beyond it.
func TestIndices(t *testing.T) {
	for k := range 12 {
		for _, profile := range both {
			m := good()
			want := func(most int) api.Errno {
				if k >= most {
					return api.ErrIndex
				}
				return api.OK
			}
			m.Imports[0].Type = k
			judgedModule(t, m, profile, want(len(m.Types)), "an Import of type "+word(k))
			m = good()
			m.Funcs[3].Type, m.Funcs[3].Code = k, code("unreachable end")
			judgedModule(t, m, profile, want(len(m.Types)), "a Func of type "+word(k))
			m = good()
			m.Exports[2] = api.Export{Name: "x", Kind: api.ExFunc, Index: k}
			judgedModule(t, m, profile, want(6), "an exported function "+word(k))
			m.Imports = nil
			judgedModule(t, m, profile, want(4), "an exported function "+word(k)+" without Imports")
			m.Exports[2] = api.Export{Name: "x", Kind: api.ExMem, Index: k}
			judgedModule(t, m, profile, want(1), "an exported memory "+word(k))
			m.Exports[2] = api.Export{Name: "x", Kind: api.ExGlobal, Index: k}
			for i := range m.Globals {
				m.Globals[i].Var = false
			}
			judgedModule(t, m, profile, want(6), "an exported global "+word(k))
			if k < 4 {
				m.Exports = nil
				m.Datas[1].Mem = k
				judgedModule(t, m, profile, want(1), "a Data for memory "+word(k))
			}
		}
	}
	m := api.Module{Datas: []api.Data{{}, {Bytes: []byte{1}}}}
	judgedModule(t, m, api.Rich, api.OK, "Datas that need no memory")
	judgedModule(t, m, api.Plain, api.ErrPlain, "Datas that need no memory")
	m.Datas[1].Active = true
	for _, profile := range both {
		judgedModule(t, m, profile, api.ErrIndex, "a Data without memories")
		judgedModule(t, api.Module{Types: make([]api.Type, 1), Imports: []api.Import{{Type: 1}}}, profile, api.ErrIndex, "an Import without its type")
		judgedModule(t, api.Module{Funcs: []api.Func{{Code: end()}}}, profile, api.ErrIndex, "a Func without types")
		for _, kind := range []int{api.ExFunc, api.ExMem, api.ExGlobal} {
			judgedModule(t, api.Module{Exports: []api.Export{{Kind: kind}}}, profile, api.ErrIndex, "an export of nothing")
		}
	}
}

// What the plain profile asks of the parts beside the code, as narrowly as it does.
func TestPlainParts(t *testing.T) {
	m := api.Module{
		Types:   []api.Type{{Params: types("wlfwlfwl"), Results: types("w")}},
		Mems:    []api.Mem{{Max: 512}},
		Globals: []api.Global{{Type: api.I32, Var: true}, {Type: api.I64}},
		Datas:   []api.Data{{Active: true}},
		Exports: []api.Export{{Name: "g", Kind: api.ExGlobal, Index: 1}, {Name: "m", Kind: api.ExMem}},
	}
	judgedModule(t, m, api.Plain, api.OK, "all that is plain")
	for _, n := range []int{2, 3, 8} {
		c := m
		c.Types = []api.Type{{}, {Results: slices.Repeat(types("w"), n)}, {}}
		judgedModule(t, c, api.Plain, api.ErrPlain, "a type with more results")
		judgedModule(t, c, api.Rich, api.OK, "a type with more results")
	}
	for n := 2; n <= 4; n++ {
		c := m
		c.Mems = make([]api.Mem, n)
		judgedModule(t, c, api.Plain, api.ErrPlain, "more memories")
		judgedModule(t, c, api.Rich, api.OK, "more memories")
	}
	c := m
	c.Exports = []api.Export{{Name: "g", Kind: api.ExGlobal, Index: 1}, {Name: "h", Kind: api.ExGlobal}}
	judgedModule(t, c, api.Plain, api.ErrPlain, "a second exported global that may be set")
	c.Exports = []api.Export{{Name: "m", Kind: api.ExMem}}
	judgedModule(t, c, api.Plain, api.OK, "a memory exported by the index of a global that may be set")
	c.Datas = []api.Data{{Active: true}, {}}
	judgedModule(t, c, api.Plain, api.ErrPlain, "a second Data that isn't Active")
}

// As much of everything as there may be.
func TestGreatest(t *testing.T) {
	m := api.Module{Types: make([]api.Type, 64), Mems: make([]api.Mem, 4), Datas: make([]api.Data, 16)}
	for k := range m.Types {
		m.Types[k] = typ("wlfwlfwl>wlfwlfwl")
	}
	for range 256 {
		m.Globals = append(m.Globals, api.Global{Type: api.F64, Var: true})
		m.Funcs = append(m.Funcs, api.Func{Type: 63, Locals: slices.Repeat(types("f"), 256), Code: code("unreachable end")})
	}
	for k := range 256 {
		m.Exports = append(m.Exports, api.Export{Name: word(k), Kind: api.ExFunc, Index: k})
	}
	judgedModule(t, m, api.Rich, api.OK, "as much as there may be")
	m.Funcs[255].Code = code("get:255 gset:255 w w w init:3,15 w w w copy:3,3 get:0 get:1 get:2 get:3 get:4 get:5 get:6 get:7 call:255 return end")
	judgedModule(t, m, api.Rich, api.OK, "the greatest indices")
	m.Funcs[255].Code = join(deep(64)[:128], code("unreachable end"))
	judgedModule(t, m, api.Rich, api.OK, "64 blocks in each other")
	// A function whose stack grows with each of its instructions, and one that takes it down again.
	m.Funcs[255].Code = join(slices.Repeat(code("f"), 65535), end())
	if at, why := check.Func(m, 255, api.Rich); at != 65535 || why != api.ErrType {
		t.Errorf("P10.2: Func of a stack that grows: at %d, %d", at, why)
	}
	m.Funcs[255].Code = join(slices.Repeat(code("f"), 32767), slices.Repeat(code("drop"), 32767), code("unreachable end"))
	judgedModule(t, m, api.Rich, api.OK, "a stack of 32767 values")
	m.Funcs[255].Code = join(slices.Repeat(code("f"), 32767), slices.Repeat(code("drop"), 32768), end())
	if at, why := check.Func(m, 255, api.Rich); at != 65534 || why != api.ErrType {
		t.Errorf("P10.2: Func of a drop too many: at %d, %d", at, why)
	}
}
