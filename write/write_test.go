package write_test

import (
	"bytes"
	"reflect"
	"slices"
	"strings"
	"testing"

	"plainsong/api"
	"plainsong/module"
	"plainsong/write"
)

const header = "00 61 73 6d 01 00 00 00"

// encoded returns the encoding of a module that has one.
func encoded(t *testing.T, m api.Module) []byte {
	t.Helper()
	b, why := write.Bytes(m)
	if why != api.OK {
		t.Fatalf("P8.2: Bytes: %d, want an encoding", why)
	}
	return b
}

func end() []api.Inst { return []api.Inst{{Op: 0x0b}} }

// Encodings that were written down by hand, each section alone and all of them together.
func TestBytes(t *testing.T) {
	for _, c := range []struct {
		what string
		m    api.Module
		want string
	}{
		{"nothing", api.Module{}, ""},
		{"a type of nothing", api.Module{Types: []api.Type{{}}}, "01 04 01 60 00 00"},
		{"types", api.Module{Types: []api.Type{{Params: []int{api.I32, api.I64}, Results: []int{api.F64}}, {Results: []int{api.I64, api.I32}}}}, "01 0c 02 60 02 7f 7e 01 7c 60 00 02 7e 7f"},
		{"an import", api.Module{Imports: []api.Import{{Module: "env", Name: "f", Type: 3}}}, "02 09 01 03 65 6e 76 01 66 00 03"},
		{"imports", api.Module{Imports: []api.Import{{Type: 1<<31 - 1}, {Module: "é", Name: "€", Type: 128}}}, "02 13 02 00 00 00 ff ff ff ff 07 02 c3 a9 03 e2 82 ac 00 80 01"},
		{"a function", api.Module{Funcs: []api.Func{{Type: 0, Code: end()}}}, "03 02 01 00 0a 04 01 02 00 0b"},
		{"functions", api.Module{Funcs: []api.Func{{Type: 200, Code: []api.Inst{{Op: 0x41, N: 5}, {Op: 0x1a}, {Op: 0x0b}}}, {Type: 1, Code: end()}}}, "03 04 02 c8 01 01 0a 0a 02 05 00 41 05 1a 0b 02 00 0b"},
		{"locals of one type", api.Module{Funcs: []api.Func{{Locals: []int{api.I64, api.I64, api.I64}, Code: end()}}}, "03 02 01 00 0a 06 01 04 01 03 7e 0b"},
		{"locals of several types", api.Module{Funcs: []api.Func{{Locals: []int{api.I32, api.I32, api.F64, api.I32, api.I64, api.I64}, Code: end()}}}, "03 02 01 00 0a 0c 01 0a 04 02 7f 01 7c 01 7f 02 7e 0b"},
		{"the most locals", api.Module{Funcs: []api.Func{{Locals: slices.Repeat([]int{api.F64}, 256), Code: end()}}}, "03 02 01 00 0a 07 01 05 01 80 02 7c 0b"},
		{"locals in two long runs", api.Module{Funcs: []api.Func{{Locals: slices.Concat(slices.Repeat([]int{api.I64}, 128), slices.Repeat([]int{api.I32}, 128)), Code: end()}}}, "03 02 01 00 0a 0a 01 08 02 80 01 7e 80 01 7f 0b"},
		{"locals without parameters", api.Module{Types: []api.Type{{Params: []int{api.I32, api.I32}}}, Funcs: []api.Func{{Locals: []int{api.I32}, Code: end()}}}, "01 06 01 60 02 7f 7f 00 03 02 01 00 0a 06 01 04 01 01 7f 0b"},
		{"memories", api.Module{Mems: []api.Mem{{Min: 1, Max: 2}, {}, {Min: 128, Max: 512}}}, "05 0c 03 01 01 02 01 00 00 01 80 01 80 04"},
		{"a global of 32 bits", api.Module{Globals: []api.Global{{Type: api.I32, Var: true, Init: 5}}}, "06 06 01 7f 01 41 05 0b"},
		{"globals", api.Module{Globals: []api.Global{{Type: api.I32, Init: 1<<32 - 1}, {Type: api.I64, Var: true, Init: 1<<64 - 65}, {Type: api.F64, Init: 0x3ff0000000000000}}}, "06 18 03 7f 00 41 7f 0b 7e 01 42 bf 7f 0b 7c 00 44 00 00 00 00 00 00 f0 3f 0b"},
		{"exports", api.Module{Exports: []api.Export{{Name: "", Kind: api.ExFunc, Index: 0}, {Name: "mem", Kind: api.ExMem, Index: 300}, {Name: "é", Kind: api.ExGlobal, Index: 1<<31 - 1}}}, "07 14 03 00 00 00 03 6d 65 6d 02 ac 02 02 c3 a9 03 ff ff ff ff 07"},
		{"an active data", api.Module{Datas: []api.Data{{Active: true, At: 64, Bytes: []byte("abc")}}}, "0c 01 01 0b 0a 01 00 41 c0 00 0b 03 61 62 63"},
		{"datas", api.Module{Datas: []api.Data{{Active: true, Mem: 3, At: 1<<31 - 1, Bytes: []byte{0xff}}, {}, {Bytes: []byte{9, 8}}, {Active: true}}}, "0c 01 04 0b 17 04 02 03 41 ff ff ff ff 07 0b 01 ff 01 00 01 02 09 08 00 41 00 0b 00"},
		{"customs", api.Module{Customs: []api.Custom{{Name: "b", Bytes: []byte{1, 2}}, {Name: "a"}, {Name: "b", Bytes: []byte{0}}, {}}}, "00 04 01 62 01 02 00 02 01 61 00 03 01 62 00 00 01 00"},
		{"a long custom", api.Module{Customs: []api.Custom{{Bytes: make([]byte, 127)}}}, "00 80 01 00" + strings.Repeat(" 00", 127)},
		{"all of it", api.Module{
			Types: []api.Type{{}}, Imports: []api.Import{{Module: "m", Name: "n"}}, Funcs: []api.Func{{Code: end()}}, Mems: []api.Mem{{Max: 1}}, Globals: []api.Global{{Type: api.I64}},
			Exports: []api.Export{{Name: "e", Index: 1}}, Datas: []api.Data{{Bytes: []byte{7}}}, Customs: []api.Custom{{Name: "c", Bytes: []byte{8}}},
		}, "01 04 01 60 00 00  02 07 01 01 6d 01 6e 00 00  03 02 01 00  05 04 01 01 00 01  06 06 01 7e 00 42 00 0b  07 05 01 01 65 00 01  0c 01 01  0a 04 01 02 00 0b  0b 04 01 01 01 07  00 03 01 63 08"},
	} {
		got, why := write.Bytes(c.m)
		if want := unhex(t, header+c.want); why != api.OK || !bytes.Equal(got, want) {
			t.Errorf("P8.2: Bytes of %s: % x, %d, want % x", c.what, got, why, want)
		}
	}
}

// The number of Datas is written where a Data is, or an instruction that names one; nothing else asks for it.
func TestNumberOfDatas(t *testing.T) {
	counted := []byte{12, 1, 0, 10}
	for _, op := range []int{0xfc08, 0xfc09} {
		for at := range 3 {
			m := api.Module{Funcs: []api.Func{{Code: end()}, {Code: end()}, {Code: end()}}}
			m.Funcs[at].Code = []api.Inst{{Op: 0x01}, {Op: op, A: 1}, {Op: 0x0b}}
			if b := encoded(t, m); !bytes.Equal(b[14:18], counted) {
				t.Errorf("P8.2: Bytes with instruction %#x in function %d and no Datas: % x", op, at, b)
			}
			m.Datas = []api.Data{{}, {}}
			if b := encoded(t, m); !bytes.Equal(b[14:18], []byte{12, 1, 2, 10}) {
				t.Errorf("P8.2: Bytes with instruction %#x in function %d and two Datas: % x", op, at, b)
			}
		}
	}
	m := api.Module{Funcs: []api.Func{{Code: []api.Inst{{Op: 0xfc0a}, {Op: 0xfc0b}, {Op: 0x41, N: 0xfc08}, {Op: 0xfc07}, {Op: 0x0b}}}}}
	if b := encoded(t, m); b[12] != 10 {
		t.Errorf("P8.2: Bytes with no instruction that names a Data: % x", b)
	}
}

func TestDecodes(t *testing.T) {
	if back := decode(t, encoded(t, whole())); !module.Same(back, whole()) {
		t.Errorf("W5: decoded: %+v, want %+v", back, whole())
	}
	q := newMaker(2)
	for range 4000 {
		m := q.module()
		if back := decode(t, encoded(t, m)); !module.Same(back, m) {
			t.Fatalf("W5: decoded: %+v, want %+v", back, m)
		}
	}
}

// The greatest of each, and each list as long as may be.
func TestDecodesTheGreatest(t *testing.T) {
	name := strings.Repeat("€", 21) + "e"
	most := api.Module{
		Types:   slices.Repeat([]api.Type{{Params: slices.Repeat([]int{api.I64}, 8), Results: slices.Repeat([]int{api.F64}, 8)}}, 64),
		Imports: slices.Repeat([]api.Import{{Module: name, Name: name, Type: 1<<31 - 1}}, 128),
		Funcs:   slices.Repeat([]api.Func{{Type: 63, Locals: slices.Repeat([]int{api.I32, api.I64}, 128), Code: slices.Concat(make([]api.Inst, 200), end())}}, 127),
		Mems:    slices.Repeat([]api.Mem{{Min: 512, Max: 512}}, 4),
		Globals: slices.Repeat([]api.Global{{Type: api.F64, Var: true, Init: 1<<64 - 1}}, 256),
		Datas:   slices.Repeat([]api.Data{{Active: true, Mem: 3, At: 1<<31 - 1, Bytes: make([]byte, 300)}}, 16),
		Customs: slices.Repeat([]api.Custom{{Name: name, Bytes: make([]byte, 20000)}}, 16),
	}
	for i := range 256 {
		own := string([]byte{'a' + byte(i/16), 'a' + byte(i%16)}) + "e"
		most.Exports = append(most.Exports, api.Export{Name: own + name[3:], Kind: i % 2 * 2, Index: 1<<31 - 1})
	}
	deep := slices.Concat(slices.Repeat([]api.Inst{{Op: 0x04, A: 63}, {Op: 0x05}}, 64), slices.Repeat(end(), 65))
	most.Funcs = append(most.Funcs, api.Func{Code: deep})
	if back := decode(t, encoded(t, most)); !module.Same(back, most) {
		t.Error("W5: a module with the most of everything is decoded as another one")
	}
	long := api.Module{Funcs: []api.Func{{Code: slices.Concat(slices.Repeat([]api.Inst{{Op: 0x44, N: 1<<64 - 1}}, 1<<16-1), end())}}}
	if back := decode(t, encoded(t, long)); !module.Same(back, long) {
		t.Error("W5: a module with the longest code is decoded as another one")
	}
}

// wrong is a part of a module that Bytes refuses, and why.
type wrong struct {
	what string
	make func(m *api.Module)
	why  api.Errno
}

// refusals stand in the order in which they are told.
var refusals = []wrong{
	{"too many types", func(m *api.Module) { m.Types = make([]api.Type, 65) }, api.ErrFull},
	{"two exports of one name", func(m *api.Module) { m.Exports = []api.Export{{Name: "a"}, {Name: "a"}} }, api.ErrForm},
	{"too many nested blocks", func(m *api.Module) { m.Funcs[1].Code = nested(65) }, api.ErrOver},
	{"a code without its end", func(m *api.Module) { m.Funcs[2].Code = []api.Inst{{Op: 0x01}} }, api.ErrForm},
	{"too many bytes", func(m *api.Module) { m.Customs = []api.Custom{{Bytes: make([]byte, 1<<20)}} }, api.ErrLong},
}

func nested(n int) []api.Inst {
	return slices.Concat(slices.Repeat([]api.Inst{{Op: 0x02, A: -1}}, n), slices.Repeat(end(), n+1))
}

func refused(t *testing.T, m api.Module, want api.Errno, what string) {
	t.Helper()
	if b, why := write.Bytes(m); why != want || len(b) > 0 {
		t.Errorf("P8.2: Bytes of a module with %s: %d bytes, %d, want %d", what, len(b), why, want)
	}
}

// Every set of refusals: the first one is told.
func TestRefusals(t *testing.T) {
	for set := 1; set < 1<<len(refusals); set++ {
		m := whole()
		first := api.OK
		what := ""
		for i, r := range refusals {
			if set>>i&1 == 0 {
				continue
			}
			r.make(&m)
			what += r.what + "; "
			if first == api.OK {
				first = r.why
			}
		}
		refused(t, m, first, what)
	}
}

// The error of the first Code that has one is told, whatever that of a later one.
func TestRefusedCodes(t *testing.T) {
	over, broken := nested(65), []api.Inst{{Op: 0x02, A: -1}, {Op: 0x0b}}
	for _, c := range []struct {
		what  string
		codes [3][]api.Inst
		want  api.Errno
	}{
		{"no code at first", [3][]api.Inst{nil, end(), end()}, api.ErrForm},
		{"no code at last", [3][]api.Inst{end(), end(), {}}, api.ErrForm},
		{"an else alone", [3][]api.Inst{end(), {{Op: 0x05}, {Op: 0x0b}}, end()}, api.ErrForm},
		{"an end too many", [3][]api.Inst{end(), {{Op: 0x0b}, {Op: 0x0b}}, end()}, api.ErrForm},
		{"64 nested blocks", [3][]api.Inst{end(), nested(64), end()}, api.OK},
		{"65 nested blocks", [3][]api.Inst{end(), end(), over}, api.ErrOver},
		{"65 nested blocks before a code without its end", [3][]api.Inst{over, broken, end()}, api.ErrOver},
		{"a code without its end before 65 nested blocks", [3][]api.Inst{end(), broken, over}, api.ErrForm},
		{"an invalid instruction behind 65 nested blocks", [3][]api.Inst{over, end(), {{Op: 0x20, A: 256}, {Op: 0x0b}}}, api.ErrForm},
	} {
		m := api.Module{Funcs: []api.Func{{Code: c.codes[0]}, {Code: c.codes[1]}, {Code: c.codes[2]}}}
		if c.want != api.OK {
			refused(t, m, c.want, c.what)
		} else if _, why := write.Bytes(m); why != api.OK {
			t.Errorf("P8.2: Bytes of a module with %s: %d", c.what, why)
		}
	}
}

// Whatever module.Right refuses is refused with its error.
func TestRefusedModules(t *testing.T) {
	for i, change := range []func(m *api.Module){
		func(m *api.Module) { m.Mems = make([]api.Mem, 5) },
		func(m *api.Module) { m.Datas = make([]api.Data, 17) },
		func(m *api.Module) { m.Imports = make([]api.Import, 254) },
		func(m *api.Module) { m.Types[1].Params = make([]int, 9) },
		func(m *api.Module) { m.Types[0].Results = []int{0x17f} },
		func(m *api.Module) { m.Imports[1].Name = "\xff" },
		func(m *api.Module) { m.Imports[1].Type = -1 },
		func(m *api.Module) { m.Funcs[1].Type = 1 << 31 },
		func(m *api.Module) { m.Funcs[0].Locals[1] = 0 },
		func(m *api.Module) { m.Funcs[0].Code[0].Op = 0x2a },
		func(m *api.Module) { m.Funcs[1].Code[0].L = nil },
		func(m *api.Module) { m.Mems[0].Max = 513 },
		func(m *api.Module) { m.Globals[0].Init = 1 << 32 },
		func(m *api.Module) { m.Exports[0].Kind = 1 },
		func(m *api.Module) { m.Datas[0].At = -1 },
		func(m *api.Module) { m.Datas[1].Mem = 1 },
		func(m *api.Module) { m.Customs[2].Name = strings.Repeat("a", 65) },
	} {
		m := whole()
		change(&m)
		want := module.Right(m)
		if want == api.OK {
			t.Errorf("change %d makes no wrong module", i)
		}
		refused(t, m, want, "something wrong")
	}
}

// place is where a module grows by n bytes; from so many on, the lengths in its encoding have as many bytes as they have at the end.
type place struct {
	what string
	m    api.Module
	from int
	grow func(m *api.Module, n int)
}

// pad returns the module of p whose encoding has so many bytes.
func (p place) pad(t *testing.T, size int) api.Module {
	t.Helper()
	n := p.from
	for range 2 {
		m := module.Copy(p.m)
		p.grow(&m, n)
		more := size - len(encoded(t, m))
		if more == 0 {
			return m
		}
		n += more
	}
	t.Fatalf("P8.2: Bytes: by %s, an encoding doesn't grow by the bytes that are added", p.what)
	return api.Module{}
}

func TestLength(t *testing.T) {
	long := whole()
	long.Funcs = slices.Repeat([]api.Func{{Code: slices.Concat(slices.Repeat([]api.Inst{{Op: 0x44}}, 50000), end())}}, 2)
	for _, p := range []place{
		{"one custom", api.Module{}, 1 << 19, func(m *api.Module, n int) { m.Customs = []api.Custom{{Bytes: make([]byte, n)}} }},
		{"one data", api.Module{}, 1 << 19, func(m *api.Module, n int) { m.Datas = []api.Data{{Bytes: make([]byte, n)}} }},
		{"the first of several datas", whole(), 1 << 19, func(m *api.Module, n int) { m.Datas[0].Bytes = make([]byte, n) }},
		{"the last of several customs", whole(), 1 << 19, func(m *api.Module, n int) { m.Customs[2].Bytes = make([]byte, n) }},
		{"code", long, 120000, func(m *api.Module, n int) {
			m.Funcs = append(m.Funcs, m.Funcs[0], m.Funcs[0], m.Funcs[0])
			for i := 2; i < 5; i++ {
				m.Funcs[i].Code = slices.Concat(make([]api.Inst, min(n, 50000)), end())
				n -= min(n, 50000)
			}
		}},
	} {
		m := p.pad(t, 1<<20)
		if b := encoded(t, m); len(b) != 1<<20 || !module.Same(decode(t, b), m) {
			t.Errorf("P8.2: Bytes of a module as long as may be, by %s: %d bytes", p.what, len(b))
		}
		m.Customs = append(m.Customs, api.Custom{})
		refused(t, m, api.ErrLong, "three bytes too many, by "+p.what)
		less := p.pad(t, 1<<20-3)
		less.Customs = append(less.Customs, api.Custom{})
		if b := encoded(t, less); len(b) != 1<<20 {
			t.Errorf("P8.2: Bytes of a module as long as may be: %d bytes", len(b))
		}
		less.Customs[len(less.Customs)-1].Bytes = []byte{0}
		refused(t, less, api.ErrLong, "a byte too many, by "+p.what)
	}
}

// Modules whose encodings would be far too long, each in another section.
func TestFarTooLong(t *testing.T) {
	code := slices.Concat(slices.Repeat([]api.Inst{{Op: 0x0e, L: make([]int, 17)}}, 1<<16-1), end())
	refused(t, api.Module{Funcs: slices.Repeat([]api.Func{{Code: code}}, 40)}, api.ErrLong, "long codes")
	refused(t, api.Module{Datas: slices.Repeat([]api.Data{{Bytes: make([]byte, 1<<20)}}, 16)}, api.ErrLong, "long datas")
	refused(t, api.Module{Customs: slices.Repeat([]api.Custom{{Bytes: make([]byte, 1<<20)}}, 16)}, api.ErrLong, "long customs")
	refused(t, api.Module{Funcs: slices.Concat(slices.Repeat([]api.Func{{Code: code}}, 40), []api.Func{{}})}, api.ErrForm, "long codes, and at last none")
}

func TestBytesKeepsToItsArgument(t *testing.T) {
	build := func() api.Module {
		m := whole()
		stretch(&m)
		return m
	}
	m, was := build(), build()
	want := encoded(t, whole())
	first := encoded(t, m)
	if !bytes.Equal(first, want) {
		t.Errorf("R5: Bytes of lists with spare capacity: % x, want % x", first, want)
	}
	second := encoded(t, m)
	clear(first[:cap(first)])
	if !bytes.Equal(second, want) || !bytes.Equal(encoded(t, m), want) {
		t.Error("R2: answers of Bytes share memory")
	}
	open(&m)
	open(&was)
	if !reflect.DeepEqual(m, was) {
		t.Error("R2: Bytes changes its argument")
	}
}

func TestEmptyLists(t *testing.T) {
	for _, build := range []func() api.Module{whole, func() api.Module { return api.Module{} }} {
		with, without := build(), build()
		hollow(&with, false)
		hollow(&without, true)
		if !bytes.Equal(encoded(t, with), encoded(t, without)) {
			t.Errorf("R4: Bytes with empty lists: % x, with none: % x", encoded(t, with), encoded(t, without))
		}
	}
}
