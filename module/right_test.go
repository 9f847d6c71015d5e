package module_test

import (
	"math"
	"reflect"
	"slices"
	"strconv"
	"strings"
	"testing"

	"plainsong/api"
	"plainsong/module"
)

// edit changes a module; k says in which of the three elements of a list.
type edit struct {
	what string
	make func(m *api.Module, k int)
}

var allowed = []edit{
	{"nothing", func(*api.Module, int) {}},
	{"a type with the most params and results", func(m *api.Module, k int) {
		m.Types[k] = api.Type{Params: slices.Repeat([]int{api.F64}, 8), Results: slices.Repeat([]int{api.I64}, 8)}
	}},
	{"two types that are alike", func(m *api.Module, k int) { m.Types[k] = m.Types[1] }},
	{"empty names of an import", func(m *api.Module, k int) { m.Imports[k].Module, m.Imports[k].Name = "", "" }},
	{"the longest names of an import", func(m *api.Module, k int) {
		m.Imports[k].Module, m.Imports[k].Name = strings.Repeat("m", 64), strings.Repeat("n", 64)
	}},
	{"imports of one name", func(m *api.Module, k int) { m.Imports[k] = m.Imports[1] }},
	{"the greatest type of an import", func(m *api.Module, k int) { m.Imports[k].Type = 1<<31 - 1 }},
	{"the greatest type of a func", func(m *api.Module, k int) { m.Funcs[k].Type = 1<<31 - 1 }},
	{"the most locals, beside params", func(m *api.Module, k int) {
		m.Types[1].Params = slices.Repeat([]int{api.I32}, 8)
		m.Funcs[k].Type, m.Funcs[k].Locals = 1, slices.Repeat([]int{api.I32, api.I64}, 128)
	}},
	{"no code", func(m *api.Module, k int) { m.Funcs[k].Code = nil }},
	{"code without its end", func(m *api.Module, k int) { m.Funcs[k].Code = []api.Inst{{Op: 0x02, A: 63}, {Op: 0x05}, {Op: 0x05}} }},
	{"code that refers to nothing", func(m *api.Module, k int) {
		m.Funcs[k].Code = []api.Inst{{Op: 0x10, A: 255}, {Op: 0x20, A: 255}, {Op: 0x23, A: 255}, {Op: 0xfc08, A: 3, B: 15}, {Op: 0x0c, A: 64}}
	}},
	{"the longest code", func(m *api.Module, k int) { m.Funcs[k].Code = make([]api.Inst, 1<<16) }},
	{"a mem of no pages", func(m *api.Module, k int) { m.Mems[k] = api.Mem{} }},
	{"a mem of all pages", func(m *api.Module, k int) { m.Mems[k] = api.Mem{Min: 512, Max: 512} }},
	{"a mem of some pages", func(m *api.Module, k int) { m.Mems[k] = api.Mem{Min: 0, Max: 512} }},
	{"the greatest global of 32 bits", func(m *api.Module, k int) { m.Globals[k] = api.Global{Type: api.I32, Init: 1<<32 - 1} }},
	{"the greatest global of 64 bits", func(m *api.Module, k int) { m.Globals[k] = api.Global{Type: api.I64, Init: 1<<64 - 1, Var: true} }},
	{"a global that is no number", func(m *api.Module, k int) { m.Globals[k] = api.Global{Type: api.F64, Init: 1<<64 - 1} }},
	{"an export of a func", func(m *api.Module, k int) { m.Exports[k].Kind = 0 }},
	{"an export of a mem", func(m *api.Module, k int) { m.Exports[k].Kind = 2 }},
	{"an export of a global", func(m *api.Module, k int) { m.Exports[k].Kind = 3 }},
	{"the greatest index of an export", func(m *api.Module, k int) { m.Exports[k].Index = 1<<31 - 1 }},
	{"exports of one thing", func(m *api.Module, k int) { m.Exports[k].Kind, m.Exports[k].Index = 0, 0 }},
	{"an empty name of an export", func(m *api.Module, k int) { m.Exports[k].Name = "" }},
	{"the longest name of an export", func(m *api.Module, k int) { m.Exports[k].Name = strings.Repeat("€", 21) + "e" }},
	{"a name of an export that begins like another", func(m *api.Module, k int) { m.Exports[k].Name = "a\x00" }},
	{"a name of an export that an import has", func(m *api.Module, k int) { m.Exports[k].Name = "m" }},
	{"the greatest place of a data", func(m *api.Module, k int) { m.Datas[k] = api.Data{Active: true, Mem: 3, At: 1<<31 - 1} }},
	{"a data that isn't active", func(m *api.Module, k int) { m.Datas[k] = api.Data{} }},
	{"the longest data", func(m *api.Module, k int) { m.Datas[k].Bytes = make([]byte, 1<<20) }},
	{"several long datas and customs", func(m *api.Module, k int) {
		m.Datas[0].Bytes, m.Datas[k].Bytes, m.Customs[1].Bytes = make([]byte, 1<<20), make([]byte, 1<<20), make([]byte, 1<<20)
	}},
	{"the longest custom", func(m *api.Module, k int) { m.Customs[k].Bytes = make([]byte, 1<<20) }},
	{"the longest name of a custom", func(m *api.Module, k int) { m.Customs[k].Name = strings.Repeat("é", 32) }},
	{"an empty name of a custom", func(m *api.Module, k int) { m.Customs[k].Name = "" }},
	{"no types", func(m *api.Module, _ int) { m.Types = nil }},
	{"no mems", func(m *api.Module, _ int) { m.Mems = nil }},
	{"no funcs", func(m *api.Module, _ int) { m.Imports, m.Funcs = nil, nil }},
}

var refused = []edit{
	{"a type with too many params", func(m *api.Module, k int) { m.Types[k].Params = slices.Repeat([]int{api.I32}, 9) }},
	{"a type with too many results", func(m *api.Module, k int) { m.Types[k].Results = slices.Repeat([]int{api.I32}, 9) }},
	{"a mem that is less than nothing", func(m *api.Module, k int) { m.Mems[k] = api.Mem{Min: -1, Max: 1} }},
	{"a mem whose Max is less than nothing", func(m *api.Module, k int) { m.Mems[k] = api.Mem{Min: -2, Max: -1} }},
	{"a mem with Min above Max", func(m *api.Module, k int) { m.Mems[k] = api.Mem{Min: 2, Max: 1} }},
	{"a mem that is too great", func(m *api.Module, k int) { m.Mems[k] = api.Mem{Min: 0, Max: 513} }},
	{"a mem that is far too great", func(m *api.Module, k int) { m.Mems[k] = api.Mem{Min: 1 << 32, Max: 1 << 32} }},
	{"a global of 32 bits that is too great", func(m *api.Module, k int) { m.Globals[k] = api.Global{Type: api.I32, Init: 1 << 32} }},
	{"a global of 32 bits with a high bit", func(m *api.Module, k int) { m.Globals[k] = api.Global{Type: api.I32, Init: 1 << 63} }},
	{"too many locals", func(m *api.Module, k int) { m.Funcs[k].Locals = slices.Repeat([]int{api.I32}, 257) }},
	{"code that is too long", func(m *api.Module, k int) { m.Funcs[k].Code = make([]api.Inst, 1<<16+1) }},
	{"an unknown instruction", func(m *api.Module, k int) { m.Funcs[2].Code[k].Op = 0x06 }},
	{"an instruction with a field that it doesn't use", func(m *api.Module, k int) { m.Funcs[k].Code[k].B = 99 }},
	{"an instruction with a wrong label", func(m *api.Module, k int) { m.Funcs[1].Code[0].L[k] = 65 }},
	{"an instruction with too great an offset", func(m *api.Module, k int) { m.Funcs[k].Code[2] = api.Inst{Op: 0x28, N: 1 << 32} }},
	{"the last of all instructions is wrong", func(m *api.Module, k int) {
		m.Funcs[k].Code = append(make([]api.Inst, 1<<16-1), api.Inst{Op: 0x41, N: 1 << 32})
	}},
	{"a data that isn't active, in a mem", func(m *api.Module, k int) { m.Datas[k] = api.Data{Mem: 1} }},
	{"a data that isn't active, at a place", func(m *api.Module, k int) { m.Datas[k] = api.Data{At: 1} }},
	{"a data that isn't active, at a place before all", func(m *api.Module, k int) { m.Datas[k] = api.Data{At: -1} }},
	{"a data in a mem too far", func(m *api.Module, k int) { m.Datas[k] = api.Data{Active: true, Mem: 4} }},
	{"a data in a mem before all", func(m *api.Module, k int) { m.Datas[k] = api.Data{Active: true, Mem: -1} }},
	{"a data too far", func(m *api.Module, k int) { m.Datas[k] = api.Data{Active: true, At: 1 << 31} }},
	{"a data before all", func(m *api.Module, k int) { m.Datas[k] = api.Data{Active: true, At: -1} }},
	{"a data that is too long", func(m *api.Module, k int) { m.Datas[k].Bytes = make([]byte, 1<<20+1) }},
	{"a custom that is too long", func(m *api.Module, k int) { m.Customs[k].Bytes = make([]byte, 1<<20+1) }},
	{"two exports of one name", func(m *api.Module, k int) { m.Exports[k].Name = m.Exports[(k+1)%3].Name }},
	{"two exports without a name", func(m *api.Module, k int) { m.Exports[k].Name, m.Exports[(k+1)%3].Name = "", "" }},
	{"two exports of one thing and name", func(m *api.Module, k int) { m.Exports[k] = m.Exports[(k+2)%3] }},
}

// wrongParts are parts that may be wrong in the same ways wherever they occur.
func wrongParts() []edit {
	var l []edit
	for _, n := range []int{-1, 0, 1, 0x40, 0x7b, 0x7d, 0x80, 1<<32 + api.I32, -api.I64, math.MinInt, math.MaxInt} {
		s := " " + strconv.Itoa(n)
		l = append(l,
			edit{"param" + s, func(m *api.Module, k int) { m.Types[1].Params[k] = n }},
			edit{"result" + s, func(m *api.Module, k int) { m.Types[2].Results[k] = n }},
			edit{"local" + s, func(m *api.Module, k int) { m.Funcs[2].Locals[k] = n }},
			edit{"type of a global" + s, func(m *api.Module, k int) { m.Globals[k].Type = n }})
	}
	for _, n := range []int{-1, 1 << 31, 1 << 32, math.MinInt, math.MaxInt} {
		s := " " + strconv.Itoa(n)
		l = append(l,
			edit{"type of an import" + s, func(m *api.Module, k int) { m.Imports[k].Type = n }},
			edit{"type of a func" + s, func(m *api.Module, k int) { m.Funcs[k].Type = n }},
			edit{"index of an export" + s, func(m *api.Module, k int) { m.Exports[k].Index = n }})
	}
	for _, s := range []string{strings.Repeat("a", 65), strings.Repeat("é", 32) + "e", strings.Repeat("a", 1<<20), "\xff", "a\xc3", "\xed\xa0\x80", strings.Repeat("a", 63) + "é"} {
		l = append(l,
			edit{"module of an import " + s, func(m *api.Module, k int) { m.Imports[k].Module = s }},
			edit{"name of an import " + s, func(m *api.Module, k int) { m.Imports[k].Name = s }},
			edit{"name of an export " + s, func(m *api.Module, k int) { m.Exports[k].Name = s }},
			edit{"name of a custom " + s, func(m *api.Module, k int) { m.Customs[k].Name = s }})
	}
	for _, n := range []int{-1, 1, 4, 5, 1 << 32, 1<<32 + 2, math.MinInt, math.MaxInt} {
		l = append(l, edit{"kind of an export " + strconv.Itoa(n), func(m *api.Module, k int) { m.Exports[k].Kind = n }})
	}
	return l
}

func tryAll(t *testing.T, l []edit, want api.Errno) {
	t.Helper()
	for _, e := range l {
		for k := range 3 {
			m := whole()
			e.make(&m, k)
			if got := module.Right(m); got != want {
				t.Errorf("P6.2: Right of a module with %.60q, %d: %d, want %d", e.what, k, got, want)
			}
		}
	}
}

func TestRight(t *testing.T) {
	if got := module.Right(api.Module{}); got != api.OK {
		t.Errorf("P6.2: Right of an empty module: %d", got)
	}
	tryAll(t, allowed, api.OK)
	tryAll(t, refused, api.ErrForm)
	tryAll(t, wrongParts(), api.ErrForm)
}

// great returns a module with as much of everything as a valid one can have.
func great() api.Module {
	most := api.Type{Params: slices.Repeat([]int{api.I64}, 8), Results: slices.Repeat([]int{api.F64}, 8)}
	m := api.Module{
		Types:   slices.Repeat([]api.Type{most}, 64),
		Imports: slices.Repeat([]api.Import{{Type: 63}}, 100),
		Funcs:   slices.Repeat([]api.Func{{Locals: slices.Repeat([]int{api.I32}, 256), Code: make([]api.Inst, 1000)}}, 156),
		Mems:    slices.Repeat([]api.Mem{{Min: 512, Max: 512}}, 4),
		Globals: slices.Repeat([]api.Global{{Type: api.I64}}, 256),
		Datas:   slices.Repeat([]api.Data{{Bytes: make([]byte, 1<<20)}}, 16),
		Customs: slices.Repeat([]api.Custom{{Bytes: make([]byte, 1<<20)}}, 16),
	}
	for i := range 256 {
		m.Exports = append(m.Exports, api.Export{Name: strings.Repeat("a", 61) + strconv.Itoa(100+i)})
	}
	return m
}

// One element too many of anything is told before all that is wrong in another way.
func TestFull(t *testing.T) {
	if got := module.Right(great()); got != api.OK {
		t.Errorf("P6.2: Right of a module with as much as can be: %d", got)
	}
	for _, e := range []edit{
		{"type", func(m *api.Module, _ int) { m.Types = append(m.Types, api.Type{}) }},
		{"import", func(m *api.Module, _ int) { m.Imports = append(m.Imports, api.Import{}) }},
		{"func", func(m *api.Module, _ int) { m.Funcs = append(m.Funcs, api.Func{}) }},
		{"mem", func(m *api.Module, _ int) { m.Mems = append(m.Mems, api.Mem{}) }},
		{"global", func(m *api.Module, _ int) { m.Globals = append(m.Globals, api.Global{Type: api.I32}) }},
		{"data", func(m *api.Module, _ int) { m.Datas = append(m.Datas, api.Data{}) }},
		{"export", func(m *api.Module, _ int) { m.Exports = append(m.Exports, api.Export{}) }},
		{"custom", func(m *api.Module, _ int) { m.Customs = append(m.Customs, api.Custom{}) }},
	} {
		m := great()
		e.make(&m, 0)
		if got := module.Right(m); got != api.ErrFull {
			t.Errorf("P6.2: Right of a module with one %s too many: %d", e.what, got)
		}
		for _, wrong := range refused {
			m := whole()
			wrong.make(&m, 1)
			for range 300 {
				e.make(&m, 0)
			}
			if got := module.Right(m); got != api.ErrFull {
				t.Errorf("P6.2: Right of a module with too many of %s and %s: %d", e.what, wrong.what, got)
			}
		}
	}
}

// Imports and Funcs have one limit, however they share it.
func TestFuncsTogether(t *testing.T) {
	for imports := range 258 {
		for funcs := 255 - imports; funcs <= 257-imports; funcs++ {
			if funcs < 0 {
				continue
			}
			want := api.OK
			if imports+funcs > 256 {
				want = api.ErrFull
			}
			m := api.Module{Imports: make([]api.Import, imports), Funcs: make([]api.Func, funcs)}
			if got := module.Right(m); got != want {
				t.Errorf("P6.2: Right of a module with %d imports and %d funcs: %d", imports, funcs, got)
			}
		}
	}
}

// A wrong element is found wherever it stands in the longest list, and so are two exports of one name.
func TestEveryPlace(t *testing.T) {
	for k := range 256 {
		for _, e := range []edit{
			{"global", func(m *api.Module, k int) { m.Globals[k].Type = 0 }},
			{"export", func(m *api.Module, k int) { m.Exports[k].Kind = 1 }},
			{"name", func(m *api.Module, k int) { m.Exports[k].Name = m.Exports[(k+1)%256].Name }},
			{"name further on", func(m *api.Module, k int) { m.Exports[k].Name = m.Exports[(k+100)%256].Name }},
		} {
			m := great()
			m.Funcs, m.Datas, m.Customs = nil, nil, nil
			e.make(&m, k)
			if got := module.Right(m); got != api.ErrForm {
				t.Errorf("P6.2: Right of a module with a wrong %s at %d: %d", e.what, k, got)
			}
		}
	}
}

// What lies in the spare capacity of lists is wrong, and is no part of the module.
func TestRightReadsNoSpareCapacity(t *testing.T) {
	m, was := roomy(), roomy()
	if got := module.Right(m); got != api.OK {
		t.Errorf("R5: Right of a module with spare capacity: %d", got)
	}
	open(&m)
	open(&was)
	if !reflect.DeepEqual(m, was) {
		t.Error("R2: Right has changed its argument")
	}
}
