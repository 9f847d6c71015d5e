package read_test

import (
	"slices"
	"strings"
	"testing"

	"plainsong/api"
	"plainsong/module"
	"plainsong/read"
	"plainsong/write"
)

// Encodings that were written down by hand, as chapter 8 writes them: each section alone and all of them together.
func TestModule(t *testing.T) {
	for _, c := range []struct {
		what, b string
		want    api.Module
	}{
		{"nothing", "", api.Module{}},
		{"types", "01 0f 03 60 02 7f 7e 01 7c 60 00 02 7e 7f 60 00 00", api.Module{Types: []api.Type{{Params: []int{api.I32, api.I64}, Results: []int{api.F64}}, {Results: []int{api.I64, api.I32}}, {}}}},
		{"imports", "02 13 02 00 00 00 ff ff ff ff 07 02 c3 a9 03 e2 82 ac 00 80 01", api.Module{Imports: []api.Import{{Type: 1<<31 - 1}, {Module: "é", Name: "€", Type: 128}}}},
		{"functions", "03 04 02 c8 01 01 0a 0a 02 05 00 41 05 1a 0b 02 00 0b", api.Module{Funcs: []api.Func{{Type: 200, Code: []api.Inst{{Op: 0x41, N: 5}, {Op: 0x1a}, {Op: 0x0b}}}, {Type: 1, Code: end()}}}},
		{"locals", "03 02 01 00 0a 0c 01 0a 04 02 7f 01 7c 01 7f 02 7e 0b", api.Module{Funcs: []api.Func{{Locals: []int{api.I32, api.I32, api.F64, api.I32, api.I64, api.I64}, Code: end()}}}},
		{"the most locals", "03 02 01 00 0a 07 01 05 01 80 02 7c 0b", api.Module{Funcs: []api.Func{{Locals: slices.Repeat([]int{api.F64}, 256), Code: end()}}}},
		{"memories", "05 0c 03 01 01 02 01 00 00 01 80 01 80 04", api.Module{Mems: []api.Mem{{Min: 1, Max: 2}, {}, {Min: 128, Max: 512}}}},
		{"globals", "06 18 03 7f 00 41 7f 0b 7e 01 42 bf 7f 0b 7c 00 44 00 00 00 00 00 00 f0 3f 0b", api.Module{Globals: []api.Global{{Type: api.I32, Init: 1<<32 - 1}, {Type: api.I64, Var: true, Init: 1<<64 - 65}, {Type: api.F64, Init: 0x3ff0000000000000}}}},
		{"a global that is a NaN", "06 0d 01 7c 01 44 ef cd ab 89 67 45 f3 ff 0b", api.Module{Globals: []api.Global{{Type: api.F64, Var: true, Init: 0xfff3456789abcdef}}}},
		{"exports", "07 14 03 00 00 00 03 6d 65 6d 02 ac 02 02 c3 a9 03 ff ff ff ff 07", api.Module{Exports: []api.Export{{Name: "", Kind: api.ExFunc, Index: 0}, {Name: "mem", Kind: api.ExMem, Index: 300}, {Name: "é", Kind: api.ExGlobal, Index: 1<<31 - 1}}}},
		{"datas", "0c 01 04 0b 17 04 02 03 41 ff ff ff ff 07 0b 01 ff 01 00 01 02 09 08 00 41 00 0b 00", api.Module{Datas: []api.Data{{Active: true, Mem: 3, At: 1<<31 - 1, Bytes: []byte{0xff}}, {}, {Bytes: []byte{9, 8}}, {Active: true}}}},
		{"customs", "00 04 01 62 01 02 00 02 01 61 00 03 01 62 00 00 01 00", api.Module{Customs: []api.Custom{{Name: "b", Bytes: []byte{1, 2}}, {Name: "a"}, {Name: "b", Bytes: []byte{0}}, {}}}},
		{"all of it", "01 04 01 60 00 00  02 07 01 01 6d 01 6e 00 00  03 02 01 00  05 04 01 01 00 01  06 06 01 7e 00 42 00 0b  07 05 01 01 65 00 01  0c 01 01  0a 04 01 02 00 0b  0b 04 01 01 01 07  00 03 01 63 08", api.Module{
			Types: []api.Type{{}}, Imports: []api.Import{{Module: "m", Name: "n"}}, Funcs: []api.Func{{Code: end()}}, Mems: []api.Mem{{Max: 1}}, Globals: []api.Global{{Type: api.I64}},
			Exports: []api.Export{{Name: "e", Index: 1}}, Datas: []api.Data{{Bytes: []byte{7}}}, Customs: []api.Custom{{Name: "c", Bytes: []byte{8}}},
		}},
	} {
		holds(t, encoding(coded(t, c.b)), c.want, c.what)
	}
}

func datas(l ...api.Data) api.Module { return api.Module{Datas: l} }

func locals(l ...int) api.Module { return api.Module{Funcs: []api.Func{{Locals: l, Code: end()}}} }

// Encodings that chapter 8 doesn't write, but that are accepted all the same.
func TestExceptions(t *testing.T) {
	for _, c := range []struct {
		what, b string
		want    api.Module
	}{
		{"a long length of a section", "01 84 80 80 80 00 01 60 00 00", api.Module{Types: []api.Type{{}}}},
		{"long counts of types", "01 {81 00 60 80 00 81 80 00 7f}", api.Module{Types: []api.Type{{Results: []int{api.I32}}}}},
		{"long names and indices", "02 {01 81 80 00 61 80 00 00 83 80 80 00}", api.Module{Imports: []api.Import{{Module: "a", Type: 3}}}},
		{"long numbers of functions", "03 {81 00 85 80 80 80 00} 0a {81 80 80 00 83 00 80 00 0b}", api.Module{Funcs: []api.Func{{Type: 5, Code: end()}}}},
		{"long numbers of pages", "05 {81 00 01 80 80 00 83 80 00}", api.Module{Mems: []api.Mem{{Max: 3}}}},
		{"a memory without its Max", "05 {01 00 07}", api.Module{Mems: []api.Mem{{Min: 7, Max: 512}}}},
		{"memories without their Max", "05 {04 00 00 01 00 00 00 80 04 00 81 00}", api.Module{Mems: []api.Mem{{Max: 512}, {}, {Min: 512, Max: 512}, {Min: 1, Max: 512}}}},
		{"long constants", "06 {82 00 7f 00 41 ff ff ff ff 7f 0b 7e 00 42 82 80 80 80 80 80 00 0b}", api.Module{Globals: []api.Global{{Type: api.I32, Init: 1<<32 - 1}, {Type: api.I64, Init: 2}}}},
		{"the longest constants", "06 {02 7f 01 41 fe ff ff ff 7f 0b 7e 01 42 fe ff ff ff ff ff ff ff ff 7f 0b}", api.Module{Globals: []api.Global{{Type: api.I32, Var: true, Init: 1<<32 - 2}, {Type: api.I64, Var: true, Init: 1<<64 - 2}}}},
		{"a long index of an export", "07 {81 00 80 00 02 84 80 80 00}", api.Module{Exports: []api.Export{{Kind: api.ExMem, Index: 4}}}},
		{"a long number of datas", "0c {81 80 00} 0b {81 00 01 80 00}", datas(api.Data{})},
		{"datas that aren't counted", "0b {02 01 {} 01 {09}}", datas(api.Data{}, api.Data{Bytes: []byte{9}})},
		{"no datas that are counted", "0c {00}", api.Module{}},
		{"no datas that are counted, in long numbers", "0c {80 00} 0b {80 80 80 80 00}", api.Module{}},
		{"an active data that names memory 0", "0b {01 02 00 41 05 0b {07}}", datas(api.Data{Active: true, At: 5, Bytes: []byte{7}})},
		{"active datas with long numbers", "0b {02 02 80 00 41 85 80 80 80 00 0b 81 00 07 02 81 80 00 41 80 00 0b 80 00}", datas(api.Data{Active: true, At: 5, Bytes: []byte{7}}, api.Data{Active: true, Mem: 1})},
		{"empty runs", "03 {01 00} 0a {01 {04 00 7f 00 7c 00 00 00 ff 0b}}", locals()},
		{"runs that aren't maximal", "03 {01 00} 0a {01 {06 01 7f 02 7f 00 7b 01 7f 01 7e 00 40 0b}}", locals(api.I32, api.I32, api.I32, api.I32, api.I64)},
		{"runs with long numbers", "03 {01 00} 0a {01 {82 00 82 80 00 7e 80 80 80 80 00 7e 0b}}", locals(api.I64, api.I64)},
		{"an empty run behind the most locals", "03 {01 00} 0a {01 {02 80 02 7c 00 01 0b}}", locals(slices.Repeat([]int{api.F64}, 256)...)},
		{"the most locals in as many runs", "03 {01 00} 0a {01 {80 02" + strings.Repeat(" 01 7c", 256) + " 0b}}", locals(slices.Repeat([]int{api.F64}, 256)...)},
		{"a custom with long numbers", "00 84 80 00 81 00 61 07", api.Module{Customs: []api.Custom{{Name: "a", Bytes: []byte{7}}}}},
		{"no functions, in an empty list of types", "03 {00}", api.Module{}},
		{"no functions, in an empty list of bodies", "0a {00}", api.Module{}},
		{"empty lists", "01 {00} 02 {00} 03 {00} 05 {00} 06 {00} 07 {00} 0c {00} 0a {00} 0b {00}", api.Module{}},
		{"long empty lists", "01 {80 00} 02 {80 00} 03 {80 00} 05 {80 00} 06 {80 00} 07 {80 00} 0c {80 00} 0a {80 00} 0b {80 00}", api.Module{}},
		{"a number of no datas, and an instruction that names one", "03 {01 00} 0c {00} 0a {01 {00 fc 09 03 0b}}", api.Module{Funcs: []api.Func{{Code: []api.Inst{{Op: 0xfc09, A: 3}, {Op: 0x0b}}}}}},
		{"bulk instructions that name no data, and datas that aren't counted", "03 {01 00} 0a {01 {00 fc 0a 01 02 fc 0b 03 0b}} 0b {01 01 {}}", api.Module{Funcs: []api.Func{{Code: []api.Inst{{Op: 0xfc0a, A: 1, B: 2}, {Op: 0xfc0b, A: 3}, {Op: 0x0b}}}}, Datas: []api.Data{{}}}},
	} {
		holds(t, encoding(coded(t, c.b)), c.want, c.what)
	}
	for _, id := range []string{"01", "02", "03", "05", "06", "07", "0c", "0a", "0b"} {
		holds(t, encoding(coded(t, id+"{00}")), api.Module{}, "an empty list alone, section "+id)
	}
}

// Encodings that are none, each of them little away from one.
func TestRefused(t *testing.T) {
	for _, c := range []struct{ what, b string }{
		{"a section without its length", "01"},
		{"a section that is cut off", "01 04 01 60 00"},
		{"a length of six bytes", "01 84 80 80 80 80 00 01 60 00 00"},
		{"a length of 33 bits", "01 84 80 80 80 10 01 60 00 00"},
		{"a byte behind the content of a section", "01 {01 60 00 00 00}"},
		{"a byte that the content of a section lacks", "01 03 01 60 00 00"},
		{"a content that goes on in the next section", "01 {01 60 00} 03 {00}"},
		{"a section without content", "01 {}"},
		{"a number of datas without content", "0c {}"},
		{"a custom without content", "00 {}"},
		{"a type of another kind", "01 {01 5f 00 00}"},
		{"a type in a long byte", "01 {01 e0 00 00 00}"},
		{"a parameter of no type", "01 {01 60 01 7d 00}"},
		{"a result of no type", "01 {01 60 00 01 40}"},
		{"a parameter in a long byte", "01 {01 60 01 ff 7f 00}"},
		{"more types than it has", "01 {02 60 00 00}"},
		{"fewer types than it has", "01 {01 60 00 00 60 00 00}"},
		{"an import of a memory", "02 {01 {} {} 02 00}"},
		{"an import of a global", "02 {01 {} {} 03 7f}"},
		{"a module's name that isn't valid", "02 {01 {ff} {} 00 00}"},
		{"an import's name that isn't valid", "02 {01 {} {c0 80} 00 00}"},
		{"an import of type 2^31", "02 {01 {} {} 00 80 80 80 80 08}"},
		{"a function of type 2^31", "03 {01 80 80 80 80 08} 0a {01 {00 0b}}"},
		{"a function of type 2^32", "03 {01 80 80 80 80 10} 0a {01 {00 0b}}"},
		{"a function without a body", "03 {01 00}"},
		{"functions, but an empty list of bodies", "03 {01 00} 0a {00}"},
		{"a body without a function", "0a {01 {00 0b}}"},
		{"an empty list of functions, but a body", "03 {00} 0a {01 {00 0b}}"},
		{"fewer bodies than functions", "03 {02 00 00} 0a {01 {00 0b}}"},
		{"more bodies than functions", "03 {01 00} 0a {02 {00 0b} {00 0b}}"},
		{"a body that is too short for its content", "03 {01 00} 0a {01 01 00 0b}"},
		{"a body that is too long for its content", "03 {01 00} 0a {01 03 00 0b}"},
		{"a body that takes of the next one", "03 {02 00 00} 0a {02 03 00 0b {00 0b}}"},
		{"a body without locals and code", "03 {01 00} 0a {01 {}}"},
		{"a body without code", "03 {01 00} 0a {01 {00}}"},
		{"a body without its end", "03 {01 00} 0a {01 {00 01}}"},
		{"a body that goes on behind its end", "03 {01 00} 0a {01 {00 0b 01}}"},
		{"a body with an end too many", "03 {01 00} 0a {01 {00 0b 0b}}"},
		{"a body with an end too few", "03 {01 00} 0a {01 {00 02 40 0b}}"},
		{"a body with an else alone", "03 {01 00} 0a {01 {00 05 0b}}"},
		{"locals of no type", "03 {01 00} 0a {01 {01 01 7b 0b}}"},
		{"257 locals", "03 {01 00} 0a {01 {01 81 02 7f 0b}}"},
		{"257 locals in two runs", "03 {01 00} 0a {01 {02 80 02 7f 01 7f 0b}}"},
		{"2^32 - 1 locals", "03 {01 00} 0a {01 {01 ff ff ff ff 0f 7f 0b}}"},
		{"2^32 locals in two runs", "03 {01 00} 0a {01 {02 ff ff ff ff 0f 7f 01 7f 0b}}"},
		{"a run without its type", "03 {01 00} 0a {01 {01 00}}"},
		{"more runs than it has", "03 {01 00} 0a {01 {02 01 7f 0b}}"},
		{"fewer runs than it has", "03 {01 00} 0a {01 {01 01 7f 02 7f 0b}}"},
		{"a memory of another kind", "05 {01 02 00 00}"},
		{"a memory in a long byte", "05 {01 81 00 00 00}"},
		{"a memory without its Max that has one", "05 {01 00 01 02}"},
		{"a memory that lacks its Max", "05 {01 01 01}"},
		{"a memory with more pages at first than at most", "05 {01 01 02 01}"},
		{"a memory with 513 pages at most", "05 {01 01 00 81 04}"},
		{"a memory without its Max with 513 pages", "05 {01 00 81 04}"},
		{"a memory with 2^32 pages", "05 {01 01 00 80 80 80 80 10}"},
		{"five memories", "05 {05 00 00 00 00 00 00 00 00 00 00}"},
		{"a global of no type", "06 {01 7d 00 41 00 0b}"},
		{"a global that may be set or not", "06 {01 7f 02 41 00 0b}"},
		{"a global with a constant of another type", "06 {01 7f 00 42 00 0b}"},
		{"a global of 64 bits with a constant of 32", "06 {01 7e 00 41 00 0b}"},
		{"a floating-point global with a whole constant", "06 {01 7c 00 42 00 0b}"},
		{"a global with another instruction", "06 {01 7f 00 23 00 0b}"},
		{"a global without a constant", "06 {01 7f 00 0b}"},
		{"a global with two constants", "06 {01 7f 00 41 00 41 00 0b}"},
		{"a global with a nop", "06 {01 7f 00 41 00 01 0b}"},
		{"a global without the end of its constant", "06 {01 7f 00 41 00}"},
		{"a global with another end of its constant", "06 {01 7f 00 41 00 05}"},
		{"a constant of 33 bits", "06 {01 7f 00 41 80 80 80 80 08 0b}"},
		{"a constant of 32 bits in six bytes", "06 {01 7f 00 41 80 80 80 80 80 00 0b}"},
		{"a constant of 65 bits", "06 {01 7e 00 42 80 80 80 80 80 80 80 80 80 01 0b}"},
		{"a constant of 64 bits in eleven bytes", "06 {01 7e 00 42 80 80 80 80 80 80 80 80 80 80 00 0b}"},
		{"a constant of seven bytes", "06 {01 7c 00 44 00 00 00 00 00 00 00 0b}"},
		{"a constant of nine bytes", "06 {01 7c 00 44 00 00 00 00 00 00 00 00 00 0b}"},
		{"an export of a table", "07 {01 {} 01 00}"},
		{"an export of no kind", "07 {01 {} 04 00}"},
		{"an export in a long byte", "07 {01 {} 80 00 00}"},
		{"an export's name that isn't valid", "07 {01 {ed a0 80} 00 00}"},
		{"two exports of one name", "07 {02 {61} 00 00 {61} 02 00}"},
		{"a long name", "07 {01 {" + strings.Repeat(" 61", 65) + "} 00 00}"},
		{"a data of another kind", "0b {01 03 41 00 0b {}}"},
		{"a data in a long byte", "0b {01 81 00 {}}"},
		{"a data that isn't active, but has a position", "0b {01 01 41 00 0b {}}"},
		{"a data that isn't active, but has a memory", "0b {01 01 00 41 00 0b {}}"},
		{"an active data without its position", "0b {01 00 {}}"},
		{"an active data in a memory without its position", "0b {01 02 00 {}}"},
		{"an active data with a position of 64 bits", "0b {01 00 42 00 0b {}}"},
		{"an active data with another instruction", "0b {01 00 23 00 0b {}}"},
		{"an active data with two instructions", "0b {01 00 41 00 41 00 0b {}}"},
		{"an active data without an end of its position", "0b {01 00 41 00 {}}"},
		{"an active data at -1", "0b {01 00 41 7f 0b {}}"},
		{"an active data at 2^31", "0b {01 00 41 80 80 80 80 78 0b {}}"},
		{"an active data in memory 4", "0b {01 02 04 41 00 0b {}}"},
		{"a data with fewer bytes than it says", "0b {01 01 02 00}"},
		{"a data with more bytes than it says", "0b {01 01 01 00 00}"},
		{"more datas than are counted", "0c {00} 0b {01 01 {}}"},
		{"fewer datas than are counted", "0c {02} 0b {01 01 {}}"},
		{"datas that are counted alone", "0c {01}"},
		{"datas that are counted, and an empty list", "0c {01} 0b {00}"},
		{"2^32 - 1 datas that are counted", "0c {ff ff ff ff 0f}"},
		{"datas that are counted twice", "0c {00 00}"},
		{"an instruction that copies of a data, but no number of datas", "03 {01 00} 0a {01 {00 fc 08 00 00 0b}} 0b {01 01 {}}"},
		{"an instruction that drops a data, but no number of datas", "03 {01 00} 0a {01 {00 fc 09 00 0b}} 0b {01 01 {}}"},
		{"an instruction that names a data, at last, but no number of datas", "03 {02 00 00} 0a {02 {00 0b} {00 01 fc 09 00 0b}}"},
		{"a number of datas behind the bodies", "03 {01 00} 0a {01 {00 fc 09 00 0b}} 0c {01} 0b {01 01 {}}"},
		{"a custom with a name that isn't valid", "00 {{f4 90 80 80} 00}"},
		{"a custom with a name that is cut off", "00 {02 61}"},
		{"a custom with a long name", "00 {{" + strings.Repeat(" 61", 65) + "}}"},
	} {
		refused(t, encoding(coded(t, c.b)), c.what)
	}
}

func TestBeginning(t *testing.T) {
	refused(t, nil, "no bytes")
	refused(t, []byte{}, "no bytes")
	for i := range len(header) {
		refused(t, []byte(header)[:i], "a beginning that is cut off")
		for v := range 256 {
			if b := []byte(header); b[i] != byte(v) {
				b[i] = byte(v)
				refused(t, b, "another beginning")
			}
		}
	}
	for _, b := range []string{"\x00asm", "\x00asm\x01", "\x00asm\x01\x00\x00\x01", "asm\x00\x01\x00\x00\x00", "\x00asm\x00\x00\x00\x01", "\x00" + header, header + header} {
		refused(t, []byte(b), "another beginning")
	}
	holds(t, encoding(), api.Module{}, "an empty module")
}

// filled returns a section of each number, in the order in which they have to stand. None of them needs another one.
func filled(t *testing.T) [][]byte {
	var l [][]byte
	for _, s := range []string{
		"01 {01 60 00 00}", "02 {01 {} {} 00 00}", "03 {00}", "05 {01 00 00}", "06 {01 7f 00 41 00 0b}", "07 {01 {} 00 00}", "0c {00}", "0a {00}", "0b {00}",
	} {
		l = append(l, coded(t, s))
	}
	return l
}

// Any sections may be missing; those that are there stand in their order, and each once.
func TestOrder(t *testing.T) {
	l := filled(t)
	for set := range 1 << len(l) {
		var some [][]byte
		for i, s := range l {
			if set>>i&1 > 0 {
				some = append(some, s)
			}
		}
		accepted(t, encoding(some...), "some sections in order")
	}
	for i := range l {
		for j := range i + 1 {
			refused(t, encoding(l[i], l[j]), "two sections out of order")
			swapped := slices.Clone(l)
			swapped[i], swapped[j] = l[j], l[i]
			if i != j {
				refused(t, encoding(swapped...), "two sections that are swapped")
			}
			refused(t, encoding(slices.Insert(slices.Clone(l), i+1, l[j])...), "a section that occurs twice")
			holds(t, encoding(l[j], coded(t, "00 {{61}}")), withCustom(accepted(t, encoding(l[j]), "a section")), "a custom behind a section")
		}
	}
	known := []byte{0, 1, 2, 3, 5, 6, 7, 10, 11, 12}
	for id := range 256 {
		if slices.Contains(known, byte(id)) {
			continue
		}
		for i := range len(l) + 1 {
			refused(t, encoding(slices.Insert(slices.Clone(l), i, []byte{byte(id), 1, 0})...), "a section that isn't known")
		}
		refused(t, encoding([]byte{byte(id), 0}), "a section that isn't known")
	}
	refused(t, encoding(coded(t, "81 00 {01 60 00 00}")), "a section with a long number")
}

func withCustom(m api.Module) api.Module {
	m.Customs = append(m.Customs, api.Custom{Name: "a"})
	return m
}

// Customs may stand anywhere, in any order, and stay in theirs.
func TestCustoms(t *testing.T) {
	l := filled(t)
	base := accepted(t, encoding(l...), "all sections")
	x, y := coded(t, "00 {{78} 01 02}"), coded(t, "00 {{79}}")
	for i := range len(l) + 1 {
		for j := range i + 1 {
			b := slices.Insert(slices.Insert(slices.Clone(l), i, y), j, x)
			want := module.Copy(base)
			want.Customs = []api.Custom{{Name: "x", Bytes: []byte{1, 2}}, {Name: "y"}}
			holds(t, encoding(b...), want, "two customs between the sections")
		}
	}
	same := api.Custom{Name: "x", Bytes: []byte{1, 2}}
	holds(t, encoding(slices.Repeat([][]byte{x}, 16)...), api.Module{Customs: slices.Repeat([]api.Custom{same}, 16)}, "16 customs")
	refused(t, encoding(slices.Repeat([][]byte{x}, 17)...), "17 customs")
}

// The longest of each list is accepted, and no longer one.
func TestLimits(t *testing.T) {
	w := loose{newMaker(5)}
	exports := func(n int) (l []api.Export) {
		for i := range n {
			l = append(l, api.Export{Name: string(rune(0x100 + i))})
		}
		return l
	}
	nested := func(n int) []api.Inst {
		return slices.Concat(slices.Repeat([]api.Inst{{Op: 0x03, A: -1}}, n), slices.Repeat(end(), n+1))
	}
	one := func(f api.Func) []api.Func { return []api.Func{f} }
	for _, c := range []struct {
		what  string
		most  int
		build func(n int) api.Module
	}{
		{"types", 64, func(n int) api.Module { return api.Module{Types: make([]api.Type, n)} }},
		{"parameters", 8, func(n int) api.Module {
			return api.Module{Types: []api.Type{{Params: slices.Repeat([]int{api.I64}, n)}}}
		}},
		{"results", 8, func(n int) api.Module {
			return api.Module{Types: []api.Type{{Results: slices.Repeat([]int{api.I64}, n)}}}
		}},
		{"imports", 256, func(n int) api.Module { return api.Module{Imports: make([]api.Import, n)} }},
		{"functions", 256, func(n int) api.Module { return api.Module{Funcs: slices.Repeat(one(api.Func{Code: end()}), n)} }},
		{"imports and functions", 255, func(n int) api.Module {
			return api.Module{Imports: make([]api.Import, n), Funcs: one(api.Func{Code: end()})}
		}},
		{"memories", 4, func(n int) api.Module { return api.Module{Mems: make([]api.Mem, n)} }},
		{"pages", 512, func(n int) api.Module { return api.Module{Mems: []api.Mem{{Max: n}}} }},
		{"globals", 256, func(n int) api.Module { return api.Module{Globals: slices.Repeat([]api.Global{{Type: api.I64}}, n)} }},
		{"exports", 256, func(n int) api.Module { return api.Module{Exports: exports(n)} }},
		{"datas", 16, func(n int) api.Module { return api.Module{Datas: make([]api.Data, n)} }},
		{"customs", 16, func(n int) api.Module { return api.Module{Customs: make([]api.Custom, n)} }},
		{"bytes of a name", 64, func(n int) api.Module { return api.Module{Customs: []api.Custom{{Name: strings.Repeat("a", n)}}} }},
		{"locals", 256, func(n int) api.Module { return locals(slices.Repeat([]int{api.F64}, n)...) }},
		{"instructions", 1 << 16, func(n int) api.Module {
			return api.Module{Funcs: one(api.Func{Code: slices.Concat(make([]api.Inst, n-1), end())})}
		}},
		{"nested blocks", 64, func(n int) api.Module { return api.Module{Funcs: one(api.Func{Code: nested(n)})} }},
		{"types of imports", 1<<31 - 1, func(n int) api.Module { return api.Module{Imports: []api.Import{{Type: n}}} }},
		{"indices of exports", 1<<31 - 1, func(n int) api.Module { return api.Module{Exports: []api.Export{{Index: n}}} }},
		{"positions of datas", 1<<31 - 1, func(n int) api.Module { return api.Module{Datas: []api.Data{{Active: true, At: n}}} }},
	} {
		most := c.build(c.most)
		holds(t, encoded(t, most), most, "the most "+c.what)
		holds(t, w.encode(most), most, "the most "+c.what)
		refused(t, w.encode(c.build(c.most+1)), "too many "+c.what)
	}
}

func TestLength(t *testing.T) {
	long := encoding(coded(t, "00 f4 ff 3f 00"), make([]byte, 1<<20-13))
	if len(long) != 1<<20 {
		t.Fatalf("%d bytes", len(long))
	}
	if m := accepted(t, long, "the most bytes"); len(m.Customs) != 1 || len(m.Customs[0].Bytes) != 1<<20-13 {
		t.Error("P9.1: Module of the most bytes: another module")
	}
	refused(t, make([]byte, 1<<20), "the most bytes, but not of a module")
	for _, b := range [][]byte{append(long, 0), make([]byte, 1<<20+1), encoding(make([]byte, 1<<20-7)), append(slices.Clone(long), encoding()...), make([]byte, 5<<20)} {
		if m, at, why := read.Module(b); why != api.ErrLong || at != 0 || !module.Same(m, api.Module{}) {
			t.Errorf("P9.1: Module of %d bytes: at %d, %d, want ErrLong", len(b), at, why)
		}
	}
}

// Whatever is written as freely as the chapter allows is read again.
func TestFreely(t *testing.T) {
	w := loose{newMaker(1)}
	for range 6000 {
		m := w.module()
		holds(t, w.encode(m), m, "a module that is written freely")
	}
	for range 2000 {
		holds(t, w.encode(whole()), whole(), "a module that is written freely")
	}
}

// P9.2 and W5: modules are recovered from their encodings.
func TestRecovers(t *testing.T) {
	q := newMaker(2)
	for range 6000 {
		m := q.module()
		b := encoded(t, m)
		if back, at, why := read.Module(b); why != api.OK || at != len(b) || !module.Same(back, m) {
			t.Fatalf("P9.2: Module of Bytes: at %d, %d: %+v, want %+v", at, why, back, m)
		}
	}
	holds(t, encoded(t, whole()), whole(), "the encoding of a whole module")
}

// P9.2: what was decoded is the same when it is encoded and decoded again.
func TestDecodedAgain(t *testing.T) {
	w := loose{newMaker(3)}
	for range 3000 {
		sameAgain(t, w.encode(w.module()))
	}
}

func sameAgain(t *testing.T, b []byte) {
	t.Helper()
	m, _, why := read.Module(b)
	if why != api.OK {
		t.Fatalf("P9.1: Module: %d", why)
	}
	c, why := write.Bytes(m)
	if why != api.OK {
		t.Fatalf("P9.2: Bytes of a module that was decoded: %d", why)
	}
	if back, _, why := read.Module(c); why != api.OK || !module.Same(back, m) {
		t.Fatalf("P9.2: a module that was decoded, encoded and decoded again: %d, %+v, want %+v", why, back, m)
	}
}
