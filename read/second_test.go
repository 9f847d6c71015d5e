package read_test

import (
	"math/big"
	"slices"

	"plainsong/api"
	"plainsong/match"
	"plainsong/module"
	"plainsong/ops"
)

// second decodes an encoding another way, written once more from the chapters: it cuts all of it into sections before it reads one of them, and gives up by a panic.
type second struct{ b []byte } // what is left

type refusal struct{}

var known = ops.All()

func must(is bool) {
	if !is {
		panic(refusal{})
	}
}

// again returns the module that b is the encoding of, if it is one.
func again(b []byte) (m api.Module, is bool) {
	defer func() {
		if x := recover(); x != nil {
			if _, known := x.(refusal); !known {
				panic(x)
			}
			m, is = api.Module{}, false
		}
	}()
	s := &second{b}
	must(string(s.take(8)) == header)
	m = s.module()
	must(module.Right(m) == api.OK)
	for _, f := range m.Funcs {
		_, why := match.Of(f.Code)
		must(why == api.OK)
	}
	return m, true
}

func (s *second) take(n int) []byte {
	must(n <= len(s.b))
	b := s.b[:n]
	s.b = s.b[n:]
	return b
}

func (s *second) one() byte { return s.take(1)[0] }

// digits takes those of a number, the least one first.
func (s *second) digits(bits int) []byte {
	var l []byte
	for 7*len(l) < bits {
		b := s.one()
		l = append(l, b&0x7f)
		if b < 0x80 {
			return l
		}
	}
	panic(refusal{})
}

func value(digits []byte) *big.Int {
	n := new(big.Int)
	for i := len(digits) - 1; i >= 0; i-- {
		n.Add(n.Lsh(n, 7), big.NewInt(int64(digits[i])))
	}
	return n
}

func (s *second) u() int {
	n := value(s.digits(32))
	must(n.BitLen() <= 32)
	return int(n.Int64())
}

func (s *second) s(bits int) int64 {
	l := s.digits(bits)
	n := value(l)
	if l[len(l)-1] >= 0x40 {
		n.Sub(n, new(big.Int).Lsh(big.NewInt(1), uint(7*len(l))))
	}
	least := new(big.Int).Neg(new(big.Int).Lsh(big.NewInt(1), uint(bits-1)))
	must(n.Cmp(least) >= 0 && n.Cmp(new(big.Int).Neg(least)) < 0)
	return n.Int64()
}

func (s *second) part() *second { return &second{s.take(s.u())} }

func (s *second) name() string { return string(s.part().b) }

func (s *second) kinds() []int {
	var l []int
	for _, b := range s.part().b {
		l = append(l, int(b))
	}
	return l
}

// elements calls one for each element of a list in a section, of which nothing else may be left; a section that is missing has none.
func (s *second) elements(one func()) {
	if s == nil {
		return
	}
	for range s.u() {
		one()
	}
	must(len(s.b) == 0)
}

// module cuts the sections out and asks for them by their numbers.
func (s *second) module() api.Module {
	var m api.Module
	found := map[byte]*second{}
	var ids []byte
	for len(s.b) > 0 {
		id, part := s.one(), s.part()
		if id == 0 {
			m.Customs = append(m.Customs, api.Custom{Name: part.name(), Bytes: part.b})
			continue
		}
		found[id] = part
		ids = append(ids, id)
	}
	order := []byte{1, 2, 3, 5, 6, 7, 12, 10, 11}
	place := func(id byte) int { return slices.Index(order, id) }
	for i, id := range ids {
		must(place(id) >= 0 && (i == 0 || place(ids[i-1]) < place(id)))
	}
	found[1].elements(func() {
		must(found[1].one() == 0x60)
		m.Types = append(m.Types, api.Type{Params: found[1].kinds(), Results: found[1].kinds()})
	})
	found[2].elements(func() {
		v := api.Import{Module: found[2].name(), Name: found[2].name()}
		must(found[2].one() == 0)
		v.Type = found[2].u()
		m.Imports = append(m.Imports, v)
	})
	found[3].elements(func() { m.Funcs = append(m.Funcs, api.Func{Type: found[3].u()}) })
	found[5].elements(func() { m.Mems = append(m.Mems, found[5].mem()) })
	found[6].elements(func() { m.Globals = append(m.Globals, found[6].global()) })
	found[7].elements(func() {
		m.Exports = append(m.Exports, api.Export{Name: found[7].name(), Kind: int(found[7].one()), Index: found[7].u()})
	})
	bodies := 0
	found[10].elements(func() {
		must(bodies < len(m.Funcs))
		found[10].part().body(&m.Funcs[bodies])
		bodies++
	})
	must(bodies == len(m.Funcs))
	found[11].elements(func() { m.Datas = append(m.Datas, found[11].data()) })
	if count := found[12]; count != nil {
		must(count.u() == len(m.Datas) && len(count.b) == 0)
	} else {
		must(!namesData(m))
	}
	return m
}

func (s *second) mem() api.Mem {
	kind := s.one()
	must(kind <= 1)
	v := api.Mem{Min: s.u(), Max: 512}
	if kind == 1 {
		v.Max = s.u()
	}
	return v
}

func (s *second) global() api.Global {
	kind, variable := s.one(), s.one()
	must(variable <= 1)
	return api.Global{Type: int(kind), Var: variable == 1, Init: s.constant(kind)}
}

func (s *second) constant(kind byte) uint64 {
	op, is := map[byte]byte{0x7f: 0x41, 0x7e: 0x42, 0x7c: 0x44}[kind]
	must(is && s.one() == op)
	n := uint64(0)
	switch op {
	case 0x41:
		n = uint64(uint32(s.s(32)))
	case 0x42:
		n = uint64(s.s(64))
	case 0x44:
		n = s.double()
	}
	must(s.one() == 0x0b)
	return n
}

func (s *second) double() uint64 {
	n := uint64(0)
	for i, b := range s.take(8) {
		n += uint64(b) << (8 * i)
	}
	return n
}

func (s *second) data() api.Data {
	var v api.Data
	kind := s.one()
	must(kind <= 2)
	if v.Active = kind != 1; v.Active {
		if kind == 2 {
			v.Mem = s.u()
		}
		v.At = int(s.constant(0x7f))
	}
	v.Bytes = s.part().b
	return v
}

func (s *second) body(f *api.Func) {
	for range s.u() {
		n, kind := s.u(), int(s.one())
		must(n <= 256-len(f.Locals))
		f.Locals = append(f.Locals, slices.Repeat([]int{kind}, n)...)
	}
	for len(s.b) > 0 {
		f.Code = append(f.Code, s.inst())
	}
}

func (s *second) inst() api.Inst {
	i := api.Inst{Op: int(s.one())}
	if i.Op == 0xfc {
		i.Op = 0xfc00 + s.u()
	}
	must(slices.Contains(known, i.Op))
	for _, r := range operands[i.Op] {
		switch r {
		case 't':
			i.A = int(s.s(33))
			if i.A < 0 {
				at := slices.Index([]int{-0x40, -1, -2, -4}, i.A)
				must(at >= 0)
				i.A = -1 - at
			}
		case 'A':
			i.A = s.u()
		case 'B':
			i.B = s.u()
		case 'L':
			for range s.u() {
				i.L = append(i.L, s.u())
			}
			i.L = append(i.L, s.u())
		case 'w':
			i.N = uint64(uint32(s.s(32)))
		case 'l':
			i.N = uint64(s.s(64))
		case 'f':
			i.N = s.double()
		default:
			log := s.u()
			if log >= 64 {
				log -= 64
				i.A = s.u()
			}
			must(log <= int(r-'0'))
			i.N = uint64(s.u())
		}
	}
	return i
}
