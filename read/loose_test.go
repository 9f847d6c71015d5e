package read_test

import (
	"slices"

	"plainsong/api"
	"plainsong/leb"
)

// loose writes modules in all the ways that the chapter allows, by chance: numbers with more bytes than necessary, runs of locals that aren't maximal, sections that are empty lists, and so on. It holds nothing against its limits, so it writes wrong modules too.
type loose struct{ maker }

// longer adds bytes to a number, up to those that one of so many bits may have at most.
func (w loose) longer(b []byte, bits int, fill byte) []byte {
	room := (bits+6)/7 - len(b)
	if room <= 0 || w.Intn(3) > 0 {
		return b
	}
	for range 1 + w.Intn(room) {
		b[len(b)-1] |= 0x80
		b = append(b, fill)
	}
	return b
}

func (w loose) u(n uint64) []byte { return w.longer(leb.U(n), 32, 0) }

func (w loose) s(n int64, bits int) []byte {
	return w.longer(leb.S(n), bits, byte(n>>63)&0x7f)
}

func (w loose) n(n int) []byte { return w.u(uint64(n)) }

func (w loose) sized(b []byte) []byte { return slices.Concat(w.n(len(b)), b) }

func (w loose) name(s string) []byte { return w.sized([]byte(s)) }

func (w loose) kinds(l []int) []byte {
	b := w.n(len(l))
	for _, k := range l {
		b = append(b, byte(k))
	}
	return b
}

// written is a list of what one writes for each element.
func written[T any](w loose, l []T, one func(T) []byte) []byte {
	b := w.n(len(l))
	for _, v := range l {
		b = append(b, one(v)...)
	}
	return b
}

func (w loose) typ(t api.Type) []byte {
	return slices.Concat([]byte{0x60}, w.kinds(t.Params), w.kinds(t.Results))
}

func (w loose) imported(v api.Import) []byte {
	return slices.Concat(w.name(v.Module), w.name(v.Name), []byte{0}, w.n(v.Type))
}

func (w loose) mem(v api.Mem) []byte {
	if v.Max == 512 && w.coin() {
		return slices.Concat([]byte{0}, w.n(v.Min))
	}
	return slices.Concat([]byte{1}, w.n(v.Min), w.n(v.Max))
}

func (w loose) global(g api.Global) []byte {
	b := []byte{byte(g.Type), 0}
	if g.Var {
		b[1] = 1
	}
	op := map[int]int{api.I32: 0x41, api.I64: 0x42}[g.Type]
	if op == 0 {
		op = 0x44
	}
	return slices.Concat(b, w.write(api.Inst{Op: op, N: g.Init}), []byte{0x0b})
}

func (w loose) export(e api.Export) []byte {
	return slices.Concat(w.name(e.Name), []byte{byte(e.Kind)}, w.n(e.Index))
}

func (w loose) data(d api.Data) []byte {
	b := []byte{1}
	if d.Active {
		if b = []byte{0}; d.Mem != 0 || w.coin() {
			b = slices.Concat([]byte{2}, w.n(d.Mem))
		}
		b = slices.Concat(b, []byte{0x41}, w.s(int64(d.At), 32), []byte{0x0b})
	}
	return slices.Concat(b, w.sized(d.Bytes))
}

// locals divides them into runs, some of them empty, of any type.
func (w loose) locals(l []int) []byte {
	var runs []byte
	count := 0
	add := func(n, kind int) {
		runs = slices.Concat(runs, w.n(n), []byte{byte(kind)})
		count++
	}
	for from := 0; from < len(l); {
		for w.Intn(6) == 0 {
			add(0, w.Intn(256))
		}
		to := from + 1
		for to < len(l) && l[to] == l[from] && w.Intn(20) > 0 {
			to++
		}
		add(to-from, l[from])
		from = to
	}
	for w.Intn(4) == 0 {
		add(0, w.Intn(256))
	}
	return slices.Concat(w.n(count), runs)
}

func (w loose) body(f api.Func) []byte {
	b := w.locals(f.Locals)
	for _, i := range f.Code {
		b = append(b, w.write(i)...)
	}
	return w.sized(b)
}

func (w loose) write(i api.Inst) []byte {
	b := []byte{byte(i.Op)}
	if i.Op >= 0xfc00 {
		b = slices.Concat([]byte{0xfc}, w.n(i.Op-0xfc00))
	}
	for _, r := range operands[i.Op] {
		b = append(b, w.operand(i, r)...)
	}
	return b
}

func (w loose) operand(i api.Inst, r rune) []byte {
	switch r {
	case 't':
		n := i.A
		if n < 0 {
			n = []int{-0x40, -1, -2, -4}[-1-n]
		}
		return w.s(int64(n), 33)
	case 'A':
		return w.n(i.A)
	case 'B':
		return w.n(i.B)
	case 'L':
		last := len(i.L) - 1
		return slices.Concat(written(w, i.L[:last], w.n), w.n(i.L[last]))
	case 'w':
		return w.s(int64(int32(i.N)), 32)
	case 'l':
		return w.s(int64(i.N), 64)
	case 'f':
		b := make([]byte, 8)
		for k := range b {
			b[k] = byte(i.N >> (8 * k))
		}
		return b
	}
	log := w.Intn(int(r-'0') + 1)
	if i.A == 0 && w.coin() {
		return slices.Concat(w.n(log), w.u(i.N))
	}
	return slices.Concat(w.n(log+64), w.n(i.A), w.u(i.N))
}

// encode writes a module.
func (w loose) encode(m api.Module) []byte {
	b := []byte(header)
	customs := m.Customs
	add := func(id byte, content []byte) {
		for len(customs) > 0 && w.coin() {
			c := customs[0]
			customs = customs[1:]
			b = slices.Concat(b, []byte{0}, w.sized(slices.Concat(w.name(c.Name), c.Bytes)))
		}
		if id != 0 {
			b = slices.Concat(b, []byte{id}, w.sized(content))
		}
	}
	may := func(id byte, n int, content []byte) {
		if n > 0 || w.coin() {
			add(id, content)
		}
	}
	types := []int{}
	for _, f := range m.Funcs {
		types = append(types, f.Type)
	}
	must := 0
	if namesData(m) {
		must = 1
	}
	may(1, len(m.Types), written(w, m.Types, w.typ))
	may(2, len(m.Imports), written(w, m.Imports, w.imported))
	may(3, len(m.Funcs), written(w, types, w.n))
	may(5, len(m.Mems), written(w, m.Mems, w.mem))
	may(6, len(m.Globals), written(w, m.Globals, w.global))
	may(7, len(m.Exports), written(w, m.Exports, w.export))
	may(12, must, w.n(len(m.Datas)))
	may(10, len(m.Funcs), written(w, m.Funcs, w.body))
	may(11, len(m.Datas), written(w, m.Datas, w.data))
	for len(customs) > 0 {
		add(0, nil)
	}
	return b
}

func namesData(m api.Module) bool {
	for _, f := range m.Funcs {
		if slices.ContainsFunc(f.Code, func(i api.Inst) bool { return i.Op == 0xfc08 || i.Op == 0xfc09 }) {
			return true
		}
	}
	return false
}
