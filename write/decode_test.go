package write_test

import (
	"bytes"
	"slices"
	"testing"

	"plainsong/api"
	"plainsong/leb"
)

// decoder takes an encoding apart, and accepts nothing but what the chapter writes: numbers as short as possible, sections in order and none of them empty, runs as long as possible.
type decoder struct {
	t *testing.T
	b []byte // what is left
}

func (d *decoder) fail(what string) {
	d.t.Helper()
	d.t.Fatalf("P8.2: an encoding has %s, before % .40x", what, d.b)
}

func (d *decoder) take(n int) []byte {
	d.t.Helper()
	if n < 0 || n > len(d.b) {
		d.fail("no more bytes")
	}
	b := d.b[:n]
	d.b = d.b[n:]
	return b
}

func (d *decoder) one() byte {
	d.t.Helper()
	return d.take(1)[0]
}

func (d *decoder) want(b byte, what string) {
	d.t.Helper()
	if d.one() != b {
		d.fail("another byte than that of " + what)
	}
}

func (d *decoder) unsigned() uint64 {
	d.t.Helper()
	n, end, ok := leb.ReadU(d.b, 0, 32)
	if !ok || !bytes.Equal(d.take(end), leb.U(n)) {
		d.fail("a wrong number")
	}
	return n
}

func (d *decoder) number() int {
	d.t.Helper()
	return int(d.unsigned())
}

func (d *decoder) signed(bits int) int64 {
	d.t.Helper()
	n, end, ok := leb.ReadS(d.b, 0, bits)
	if !ok || !bytes.Equal(d.take(end), leb.S(n)) {
		d.fail("a wrong signed number")
	}
	return n
}

func (d *decoder) double() uint64 {
	n := uint64(0)
	for i, b := range d.take(8) {
		n += uint64(b) << (8 * i)
	}
	return n
}

func (d *decoder) bytes() []byte { return d.take(d.number()) }

func (d *decoder) name() string { return string(d.bytes()) }

func (d *decoder) kinds() []int {
	var l []int
	for _, b := range d.bytes() {
		l = append(l, int(b))
	}
	return l
}

// list calls one for each element.
func (d *decoder) list(one func()) {
	for range d.number() {
		one()
	}
}

// op takes the byte of an instruction, or its two.
func (d *decoder) op() int {
	if b := d.one(); b != 0xfc {
		return int(b)
	}
	return 0xfc00 + d.number()
}

func (d *decoder) inst() api.Inst {
	i := api.Inst{Op: d.op()}
	for _, r := range operands[i.Op] {
		switch r {
		case 't':
			i.A = d.block()
		case 'A':
			i.A = d.number()
		case 'B':
			i.B = d.number()
		case 'L':
			for range d.number() + 1 {
				i.L = append(i.L, d.number())
			}
		case 'w':
			i.N = uint64(uint32(d.signed(32)))
		case 'l':
			i.N = uint64(d.signed(64))
		case 'f':
			i.N = d.double()
		default:
			i.A, i.N = d.place(byte(r - '0'))
		}
	}
	return i
}

func (d *decoder) block() int {
	if at := slices.Index([]byte{0x40, 0x7f, 0x7e, 0x7c}, d.b[0]); at >= 0 {
		d.one()
		return -1 - at
	}
	return int(d.signed(33))
}

// place takes the memory and the offset of a load or store.
func (d *decoder) place(log byte) (int, uint64) {
	mem := 0
	switch b := d.one(); {
	case b == log+64:
		if mem = d.number(); mem == 0 {
			d.fail("a memory 0 that is named")
		}
	case b != log:
		d.fail("a wrong logarithm")
	}
	return mem, d.unsigned()
}

// constant takes the constant instruction of a type, and its end.
func (d *decoder) constant(kind int) uint64 {
	d.want(map[int]byte{api.I32: 0x41, api.I64: 0x42, api.F64: 0x44}[kind], "a constant")
	n := uint64(0)
	switch kind {
	case api.I32:
		n = uint64(uint32(d.signed(32)))
	case api.I64:
		n = uint64(d.signed(64))
	default:
		n = d.double()
	}
	d.want(0x0b, "the end of a constant")
	return n
}

func (d *decoder) locals() []int {
	var l []int
	d.list(func() {
		n, kind := d.number(), int(d.one())
		if n == 0 || len(l) > 0 && l[len(l)-1] == kind {
			d.fail("a run that is not maximal")
		}
		l = append(l, slices.Repeat([]int{kind}, n)...)
	})
	return l
}

func (d *decoder) data() api.Data {
	var v api.Data
	switch kind := d.one(); kind {
	case 0x00, 0x02:
		v.Active = true
		if kind == 0x02 {
			if v.Mem = d.number(); v.Mem == 0 {
				d.fail("a memory 0 that is named")
			}
		}
		v.At = int(d.constant(api.I32))
	case 0x01:
	default:
		d.fail("a data of no kind")
	}
	v.Bytes = d.bytes()
	return v
}

// section decodes the content of a section into m.
func (d *decoder) section(id byte, m *api.Module) {
	if id != 0 && id != 12 && d.b[0] == 0 {
		d.fail("an empty section")
	}
	switch id {
	case 0:
		m.Customs = append(m.Customs, api.Custom{Name: d.name(), Bytes: d.take(len(d.b))})
	case 1:
		d.list(func() {
			d.want(0x60, "a type")
			m.Types = append(m.Types, api.Type{Params: d.kinds(), Results: d.kinds()})
		})
	case 2:
		d.list(func() {
			v := api.Import{Module: d.name(), Name: d.name()}
			d.want(0x00, "an import of a function")
			v.Type = d.number()
			m.Imports = append(m.Imports, v)
		})
	case 3:
		d.list(func() { m.Funcs = append(m.Funcs, api.Func{Type: d.number()}) })
	case 5:
		d.list(func() {
			d.want(0x01, "a memory")
			m.Mems = append(m.Mems, api.Mem{Min: d.number(), Max: d.number()})
		})
	case 6:
		d.list(func() {
			g := api.Global{Type: int(d.one()), Var: d.one() == 1}
			g.Init = d.constant(g.Type)
			m.Globals = append(m.Globals, g)
		})
	case 7:
		d.list(func() {
			m.Exports = append(m.Exports, api.Export{Name: d.name(), Kind: int(d.one()), Index: d.number()})
		})
	case 12:
		m.Datas = make([]api.Data, d.number())
	case 10:
		d.bodies(m)
	case 11:
		if n := d.number(); n != len(m.Datas) {
			d.fail("another number of datas than it says")
		}
		for i := range m.Datas {
			m.Datas[i] = d.data()
		}
	}
}

func (d *decoder) bodies(m *api.Module) {
	if n := d.number(); n != len(m.Funcs) {
		d.fail("another number of codes than of functions")
	}
	for i := range m.Funcs {
		body := decoder{d.t, d.bytes()}
		m.Funcs[i].Locals = body.locals()
		for len(body.b) > 0 {
			m.Funcs[i].Code = append(m.Funcs[i].Code, body.inst())
		}
	}
}

// decode returns the module that b is the encoding of.
func decode(t *testing.T, b []byte) api.Module {
	t.Helper()
	d := &decoder{t, b}
	if string(d.take(8)) != "\x00asm\x01\x00\x00\x00" {
		d.fail("another beginning")
	}
	var m api.Module
	order := []byte{1, 2, 3, 5, 6, 7, 12, 10, 11, 0}
	seen := map[byte]int{}
	for len(d.b) > 0 {
		id := d.one()
		at := slices.Index(order, id)
		if at < 0 || id != 0 && seen[id] > 0 {
			d.fail("a section that is out of order")
		}
		order = order[at:]
		seen[id]++
		part := &decoder{t, d.bytes()}
		part.section(id, &m)
		if len(part.b) > 0 {
			part.fail("bytes behind the content of a section")
		}
	}
	if seen[11] == 0 && len(m.Datas) > 0 {
		d.fail("a number of datas, but no datas")
	}
	if seen[12] > 0 != (len(m.Datas) > 0 || namesData(m)) {
		d.fail("a number of datas where it isn't needed, or none where it is")
	}
	return m
}

func namesData(m api.Module) bool {
	for _, f := range m.Funcs {
		if slices.ContainsFunc(f.Code, func(i api.Inst) bool { return i.Op == 0xfc08 || i.Op == 0xfc09 }) {
			return true
		}
	}
	return false
}
