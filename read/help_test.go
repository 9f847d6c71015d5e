package read_test

import (
	"encoding/hex"
	"math/rand"
	"reflect"
	"slices"
	"strings"
	"testing"

	"plainsong/api"
	"plainsong/leb"
	"plainsong/module"
	"plainsong/ops"
	"plainsong/read"
	"plainsong/write"
)

const header = "\x00asm\x01\x00\x00\x00"

// operands tells what follows an Op, written once more by hand from the table of chapter 8: t the type of a block, A and B these indices, L labels, 0 to 3 the operands of a load or store with at most that logarithm, w and l a number of 32 or 64 bits, f eight bytes.
var operands = map[int]string{
	0x02: "t", 0x03: "t", 0x04: "t",
	0x0c: "A", 0x0d: "A", 0x10: "A", 0x12: "A",
	0x20: "A", 0x21: "A", 0x22: "A", 0x23: "A", 0x24: "A",
	0x3f: "A", 0x40: "A", 0xfc09: "A", 0xfc0b: "A",
	0x0e: "L",
	0x28: "2", 0x29: "3", 0x2b: "3", 0x2c: "0", 0x2d: "0", 0x2e: "1", 0x2f: "1",
	0x30: "0", 0x31: "0", 0x32: "1", 0x33: "1", 0x34: "2", 0x35: "2",
	0x36: "2", 0x37: "3", 0x39: "3", 0x3a: "0", 0x3b: "1", 0x3c: "0", 0x3d: "1", 0x3e: "2",
	0xfc08: "BA", 0xfc0a: "AB",
	0x41: "w", 0x42: "l", 0x44: "f",
}

// mostA is the greatest A of a valid instruction that has one; blocks aside, the least one is 0.
var mostA = map[int]int{
	0x02: 63, 0x03: 63, 0x04: 63, 0x0c: 64, 0x0d: 64, 0x10: 255, 0x12: 255,
	0x20: 255, 0x21: 255, 0x22: 255, 0x23: 255, 0x24: 255,
	0x3f: 3, 0x40: 3, 0xfc08: 3, 0xfc09: 15, 0xfc0a: 3, 0xfc0b: 3,
}

var mostB = map[int]int{0xfc08: 15, 0xfc0a: 3}

// coded reads bytes that are written as hexadecimal numbers. Those in braces have their length before them.
func coded(t *testing.T, s string) []byte {
	t.Helper()
	parts := [][]byte{nil} // the innermost one last
	for _, word := range strings.Fields(strings.NewReplacer("{", " { ", "}", " } ").Replace(s)) {
		last := len(parts) - 1
		switch word {
		case "{":
			parts = append(parts, nil)
		case "}":
			parts[last-1] = slices.Concat(parts[last-1], leb.U(uint64(len(parts[last]))), parts[last])
			parts = parts[:last]
		default:
			b, err := hex.DecodeString(word)
			if err != nil {
				t.Fatal(err)
			}
			parts[last] = append(parts[last], b...)
		}
	}
	if len(parts) > 1 {
		t.Fatalf("braces that stay open: %s", s)
	}
	return parts[0]
}

// encoding is the beginning of each, and what follows.
func encoding(parts ...[]byte) []byte {
	return slices.Concat([]byte(header), slices.Concat(parts...))
}

func end() []api.Inst { return []api.Inst{{Op: 0x0b}} }

// encoded returns the encoding of a module that has one.
func encoded(t *testing.T, m api.Module) []byte {
	t.Helper()
	b, why := write.Bytes(m)
	if why != api.OK {
		t.Fatalf("P8.2: Bytes: %d, want an encoding", why)
	}
	return b
}

// accepted returns the module of an encoding, which must have one.
func accepted(t *testing.T, b []byte, what string) api.Module {
	t.Helper()
	m, at, why := read.Module(b)
	if why != api.OK || at != len(b) {
		t.Errorf("P9.1: Module of %s: at %d, %d, want %d, OK: % .80x", what, at, why, len(b), b)
	}
	return m
}

func holds(t *testing.T, b []byte, want api.Module, what string) {
	t.Helper()
	if m := accepted(t, b, what); !module.Same(m, want) {
		t.Errorf("P9.1: Module of %s: %+v, want %+v", what, m, want)
	}
}

func refused(t *testing.T, b []byte, what string) {
	t.Helper()
	m, at, why := read.Module(b)
	if why != api.ErrForm || at < 0 || at > len(b) {
		t.Errorf("P9.1: Module of %s: at %d, %d, want ErrForm: % .80x", what, at, why, b)
	}
	if !reflect.DeepEqual(m, api.Module{}) {
		t.Errorf("R3: Module of %s: beside an error: %+v", what, m)
	}
}

// whole returns a module with something of each, which is valid and can be encoded.
func whole() api.Module {
	return api.Module{
		Types: []api.Type{
			{},
			{Params: []int{api.I32, api.I64, api.F64}, Results: []int{api.F64, api.I32}},
			{Params: []int{api.F64}, Results: []int{api.I64}},
		},
		Imports: []api.Import{{Module: "m", Name: "f", Type: 1}, {Module: "é", Name: "", Type: 200}},
		Funcs: []api.Func{
			{Type: 2, Locals: []int{api.I32, api.I32, api.F64, api.I32}, Code: []api.Inst{{Op: 0x01}, {Op: 0x41, N: 7}, {Op: 0x0b}}},
			{Type: 0, Code: []api.Inst{{Op: 0x0e, L: []int{2, 0, 1}}, {Op: 0xfc08, A: 1, B: 2}, {Op: 0x28, A: 2, N: 1 << 20}, {Op: 0x0b}}},
			{Type: 130, Locals: []int{api.F64}, Code: []api.Inst{{Op: 0x04, A: -4}, {Op: 0x05}, {Op: 0x0b}, {Op: 0x0b}}},
		},
		Mems:    []api.Mem{{Min: 1, Max: 2}, {}, {Min: 3, Max: 500}},
		Globals: []api.Global{{Type: api.I32, Init: 1<<32 - 5}, {Type: api.I64, Var: true, Init: 1 << 40}, {Type: api.F64, Init: 1 << 63}},
		Exports: []api.Export{{Name: "a", Kind: api.ExFunc, Index: 4}, {Name: "b", Kind: api.ExMem, Index: 1}, {Name: "", Kind: api.ExGlobal, Index: 200}},
		Datas:   []api.Data{{Active: true, Mem: 2, At: 9, Bytes: []byte{1, 2, 3}}, {Bytes: []byte{4}}, {Active: true}},
		Customs: []api.Custom{{Name: "x", Bytes: []byte{5, 6}}, {Name: "x"}, {Name: "", Bytes: []byte{0}}},
	}
}

// lists calls see for every list in v, what lies outside first.
func lists(v reflect.Value, see func(reflect.Value)) {
	switch v.Kind() {
	case reflect.Pointer:
		lists(v.Elem(), see)
	case reflect.Struct:
		for i := range v.NumField() {
			lists(v.Field(i), see)
		}
	case reflect.Slice:
		see(v)
		for i := range v.Len() {
			lists(v.Index(i), see)
		}
	}
}

// maker makes valid modules by chance; the same ones each time.
type maker struct {
	*rand.Rand
	known []int
}

func newMaker(seed int64) maker {
	return maker{rand.New(rand.NewSource(seed)), ops.All()}
}

func (q maker) coin() bool { return q.Intn(2) == 0 }

// upto returns a number from 0 to most, often one near to the ends.
func (q maker) upto(most int) int {
	switch q.Intn(4) {
	case 0:
		return min(q.Intn(3), most)
	case 1:
		return most - min(q.Intn(3), most)
	}
	return q.Intn(most + 1)
}

// long returns a number of any length, of either sign.
func (q maker) long() uint64 {
	n := q.Uint64() >> q.Intn(64)
	if q.coin() {
		return -n
	}
	return n
}

func (q maker) kind() int { return []int{api.I32, api.I64, api.F64}[q.Intn(3)] }

// kinds returns at most so many types, many of them like the one before.
func (q maker) kinds(most int) []int {
	var l []int
	for range q.Intn(most + 1) {
		k := q.kind()
		if n := len(l); n > 0 && q.coin() {
			k = l[n-1]
		}
		l = append(l, k)
	}
	return l
}

func (q maker) name() string {
	return strings.Repeat(string([]rune{'a', 0, 'é', '€', 0x10ffff}[q.Intn(5)]), q.Intn(17))
}

func (q maker) bytes() []byte {
	b := make([]byte, q.Intn(300)*q.Intn(2))
	q.Read(b)
	return b
}

// inst returns an instruction with this Op.
func (q maker) inst(op int) api.Inst {
	i := api.Inst{Op: op}
	for _, r := range operands[op] {
		switch r {
		case 't':
			i.A = q.upto(mostA[op]+4) - 4
		case 'A':
			i.A = q.upto(mostA[op])
		case 'B':
			i.B = q.upto(mostB[op])
		case 'L':
			for range 1 + q.upto(16) {
				i.L = append(i.L, q.upto(64))
			}
		case 'w':
			i.N = q.long() % (1 << 32)
		case 'l', 'f':
			i.N = q.long()
		default:
			i.A, i.N = q.upto(3), q.long()%(1<<32)
		}
	}
	return i
}

// code returns instructions with blocks in each other, up to an end.
func (q maker) code(size int) []api.Inst {
	var l []api.Inst
	var opened []int // the Op of each block that waits for its end; that of an if is an else once that has come
	for range q.Intn(size + 1) {
		op := q.known[q.Intn(len(q.known))]
		top := len(opened) - 1
		switch {
		case ops.Opens(op) && len(opened) == 64 || op == 0x0b && top < 0 || op == 0x05 && (top < 0 || opened[top] != 0x04):
			continue
		case ops.Opens(op):
			opened = append(opened, op)
		case op == 0x05:
			opened[top] = op
		case op == 0x0b:
			opened = opened[:top]
		}
		l = append(l, q.inst(op))
	}
	return append(l, slices.Repeat(end(), len(opened)+1)...)
}

func (q maker) global() api.Global {
	g := api.Global{Type: q.kind(), Var: q.coin(), Init: q.long()}
	if g.Type == api.I32 {
		g.Init %= 1 << 32
	}
	return g
}

func (q maker) data() api.Data {
	d := api.Data{Active: q.coin(), Bytes: q.bytes()}
	if d.Active {
		d.Mem, d.At = q.upto(3), q.upto(1<<31-1)
	}
	return d
}

func (q maker) module() api.Module {
	var m api.Module
	for range q.Intn(5) {
		m.Types = append(m.Types, api.Type{Params: q.kinds(8), Results: q.kinds(8)})
	}
	for range q.Intn(4) {
		m.Imports = append(m.Imports, api.Import{Module: q.name(), Name: q.name(), Type: q.upto(1<<31 - 1)})
	}
	for range q.Intn(4) {
		m.Funcs = append(m.Funcs, api.Func{Type: q.upto(1<<31 - 1), Locals: q.kinds(q.upto(256)), Code: q.code(100)})
	}
	for range q.Intn(5) {
		most := q.upto(512)
		m.Mems = append(m.Mems, api.Mem{Min: q.upto(most), Max: most})
	}
	for range q.Intn(4) {
		m.Globals = append(m.Globals, q.global())
	}
	for i := range q.Intn(4) {
		m.Exports = append(m.Exports, api.Export{Name: string(rune('0'+i)) + strings.Repeat("é", q.Intn(32)), Kind: []int{0, 2, 3}[q.Intn(3)], Index: q.upto(1<<31 - 1)})
	}
	for range q.Intn(4) * q.Intn(2) {
		m.Datas = append(m.Datas, q.data())
	}
	for range q.Intn(4) {
		m.Customs = append(m.Customs, api.Custom{Name: q.name(), Bytes: q.bytes()})
	}
	return m
}
