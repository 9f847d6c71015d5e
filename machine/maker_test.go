package machine_test

import (
	"math"
	"math/rand"
	"slices"

	"plainsong/api"
	"plainsong/host"
	"plainsong/ops"
)

// maker makes modules by chance that are well typed for the rich profile; the same ones each time.
type maker struct {
	*rand.Rand
	m       api.Module
	numeric []int // the operations
	access  []int // the loads and stores
	// Of the function that is being made:
	locals  []int
	results []int
	labels  [][]int // what branches take, the innermost last
	code    []api.Inst
	most    int // of instructions, roughly
}

func newMaker(seed int64) *maker {
	q := &maker{Rand: rand.New(rand.NewSource(seed))}
	for _, op := range ops.All() {
		if _, is := ops.Numeric(op); is {
			q.numeric = append(q.numeric, op)
		}
		if _, _, _, is := ops.Access(op); is {
			q.access = append(q.access, op)
		}
	}
	// What may trap comes more often.
	q.numeric = append(q.numeric, 0x6d, 0x7f, 0xaa, 0xaa, 0xab, 0xab, 0xb0, 0xb0, 0xb1, 0xb1)
	return q
}

// module returns a module as base does, with five functions that are made.
func (q *maker) module() api.Module {
	q.m = base("w>w", "")
	for _, s := range []string{">wlf", "lf>", "ll>l", "f>fw"} {
		q.m = and(q.m, s, "")
	}
	for f := range q.m.Funcs {
		t := q.m.Types[q.m.Funcs[f].Type]
		q.m.Funcs[f].Locals = types([]string{"wlf", "wwllff", "fffwl"}[q.Intn(3)])
		q.locals = slices.Concat(t.Params, q.m.Funcs[f].Locals)
		q.results, q.labels, q.code = t.Results, [][]int{t.Results}, nil
		q.most = 10 + q.Intn(90)
		q.body(t.Results)
		q.emit(0x0b)
		q.m.Funcs[f].Code = q.code
	}
	return q.m
}

func (q *maker) emit(op int, indices ...int) {
	indices = append(indices, 0, 0)
	q.code = append(q.code, api.Inst{Op: op, A: indices[0], B: indices[1]})
}

// full reports whether there should be no more than is needed.
func (q *maker) full() bool { return len(q.code) >= q.most || len(q.labels) > 12 }

// body makes some statements, then values of these types.
func (q *maker) body(results []int) {
	for range 1 + q.Intn(6) {
		if !q.full() {
			q.statement()
		}
	}
	q.values(results)
}

func (q *maker) values(l []int) {
	for _, t := range l {
		q.value(t)
	}
}

func (q *maker) kind() int { return []int{api.I32, api.I64, api.F64}[q.Intn(3)] }

// kinds returns up to two types.
func (q *maker) kinds() []int {
	l := []int{q.kind(), q.kind()}
	return l[:q.Intn(3)]
}

// constant makes a constant, often one at a border.
func (q *maker) constant(t int) {
	n := []uint64{0, 1, 2, 3, 7, 0x7f, 0x80, 0xff, 0x8000, 1020, 1024, 2047, 1 << 31, 1<<31 - 1, math.MaxUint32, 1 << 63, 1<<63 - 1, math.MaxUint64, q.Uint64()}[q.Intn(19)]
	switch t {
	case api.I32:
		q.code = append(q.code, api.Inst{Op: 0x41, N: n % (1 << 32)})
	case api.I64:
		q.code = append(q.code, api.Inst{Op: 0x42, N: n})
	default:
		f := math.Float64bits([]float64{0, math.Copysign(0, -1), 1, -1.5, 2.5, 1e10, -1e19, 1e300, math.Inf(1), math.Inf(-1), math.NaN()}[q.Intn(11)])
		if q.Intn(9) == 0 {
			f = n
		}
		q.code = append(q.code, api.Inst{Op: 0x44, N: f})
	}
}

// address makes an I32 that is small most of the time.
func (q *maker) address() {
	if q.Intn(8) == 0 {
		q.value(api.I32)
		return
	}
	q.code = append(q.code, api.Inst{Op: 0x41, N: uint64(q.Intn(1030))})
}

// value makes a value of this type.
func (q *maker) value(t int) {
	if q.full() {
		q.constant(t)
		return
	}
	switch q.Intn(11) {
	case 0:
		q.constant(t)
	case 1, 2:
		q.emit(0x20, q.local(t))
	case 3:
		q.emit(0x23, q.global(t)+q.Intn(2))
	case 4, 5:
		q.operation(t)
	case 6:
		q.load(t)
	case 7:
		q.values([]int{t, t, api.I32})
		q.emit(0x1b)
	case 8:
		q.frame(nil, []int{t})
	case 9:
		q.value(t)
		q.emit(0x22, q.local(t))
	default:
		if t == api.I32 && q.Intn(3) == 0 {
			q.emit(0x3f, q.Intn(3))
			return
		}
		q.call(t)
	}
}

// local returns a local of this type; each function has one.
func (q *maker) local(t int) int {
	for {
		if k := q.Intn(len(q.locals)); q.locals[k] == t {
			return k
		}
	}
}

// global returns the first global of this type; the second one may be set.
func (q *maker) global(t int) int {
	return map[int]int{api.I32: 0, api.I64: 2, api.F64: 4}[t]
}

func (q *maker) operation(t int) {
	for {
		op := q.numeric[q.Intn(len(q.numeric))]
		if sig, _ := ops.Numeric(op); sig.Results[0] == t {
			q.values(sig.Params)
			q.emit(op)
			return
		}
	}
}

// offset gives the instruction a memory, and often an offset.
func (q *maker) offset(op int) {
	n := []uint64{0, 0, 0, 1, 1016, 1020, 2040, math.MaxUint32}[q.Intn(8)]
	q.code = append(q.code, api.Inst{Op: op, A: []int{0, 0, 0, 2, 2, 1}[q.Intn(6)], N: n})
}

func (q *maker) load(t int) {
	for {
		op := q.access[q.Intn(len(q.access))]
		if _, kind, _, _ := ops.Access(op); kind == t && op < 0x36 {
			q.address()
			q.offset(op)
			return
		}
	}
}

// call calls a function, keeps its results in locals, and gives a value of this type.
func (q *maker) call(t int) {
	f := q.Intn(len(q.m.Imports) + len(q.m.Funcs))
	k := 0
	if f < len(q.m.Imports) {
		k = q.m.Imports[f].Type
	} else {
		k = q.m.Funcs[f-len(q.m.Imports)].Type
	}
	q.values(q.m.Types[k].Params)
	q.emit(0x10, f)
	for _, r := range slices.Backward(q.m.Types[k].Results) {
		q.emit(0x21, q.local(r))
	}
	q.emit(0x20, q.local(t))
}

// index returns an index of Types for this type, or what stands for one.
func (q *maker) index(params, results []int) int {
	if len(params) == 0 && len(results) < 2 && q.Intn(3) > 0 {
		return map[int]int{0: -1, api.I32: -2, api.I64: -3, api.F64: -4}[append(results, 0)[0]]
	}
	for k, t := range q.m.Types {
		if slices.Equal(t.Params, params) && slices.Equal(t.Results, results) {
			return k
		}
	}
	q.m.Types = append(q.m.Types, api.Type{Params: slices.Clone(params), Results: slices.Clone(results)})
	return len(q.m.Types) - 1
}

// frame makes a block, loop or if that takes params, which are made as well, and gives results.
func (q *maker) frame(params, results []int) {
	if len(q.m.Types) > 50 {
		params, results = nil, results[:min(len(results), 1)]
	}
	q.values(params)
	op, label := 0x02+q.Intn(3), results
	switch op {
	case 0x03:
		label = params
	case 0x04:
		q.value(api.I32)
	}
	q.emit(op, q.index(params, results))
	q.labels = append(q.labels, label)
	arms := 1
	if op == 0x04 && (!slices.Equal(params, results) || q.Intn(2) == 0) {
		arms = 2
	}
	for k := range arms {
		if k == 1 {
			q.emit(0x05)
		}
		for _, t := range slices.Backward(params) {
			q.emit(0x21, q.local(t))
		}
		q.body(results)
	}
	q.labels = q.labels[:len(q.labels)-1]
	q.emit(0x0b)
}

// statement makes code that neither takes nor gives values.
func (q *maker) statement() {
	t := q.kind()
	switch q.Intn(14) {
	case 0:
		q.value(t)
		q.emit(0x21, q.local(t))
	case 1:
		q.value(t)
		q.emit(0x24, q.global(t)+1)
	case 2, 3:
		op := q.access[q.Intn(len(q.access))]
		if _, kind, _, _ := ops.Access(op); op >= 0x36 {
			q.address()
			q.value(kind)
			q.offset(op)
		}
	case 4:
		q.value(t)
		q.emit(0x1a)
	case 5, 6:
		q.bulk()
	case 7:
		q.emit([]int{0x01, 0xfc09}[q.Intn(2)])
	case 8, 9:
		params, results := q.kinds(), q.kinds()
		if len(q.m.Types) > 50 {
			params, results = nil, nil
		}
		q.frame(params, results)
		for range results {
			q.emit(0x1a)
		}
	case 10, 11:
		n := q.Intn(len(q.labels))
		q.values(q.label(n))
		q.value(api.I32)
		q.emit(0x0d, n)
		for range q.label(n) {
			q.emit(0x1a)
		}
	default:
		q.away()
	}
}

func (q *maker) label(n int) []int { return q.labels[len(q.labels)-1-n] }

func (q *maker) bulk() {
	switch q.Intn(5) {
	case 0:
		q.value(api.I32)
		q.emit(0x40, q.Intn(3))
		q.emit(0x1a)
		return
	case 1:
		q.emit(0xfc09, q.Intn(3))
		return
	}
	q.address()
	if op := 0xfc08 + []int{0, 2, 3}[q.Intn(3)]; op == 0xfc08 {
		for range 2 {
			q.code = append(q.code, api.Inst{Op: 0x41, N: uint64(q.Intn(5))})
		}
		q.emit(op, q.Intn(3), q.Intn(3))
	} else {
		q.address()
		q.address()
		q.emit(op, q.Intn(3), map[int]int{0xfc0a: q.Intn(3)}[op])
	}
}

// away makes a block that is left for good, with values below those that go along, and dead code.
func (q *maker) away() {
	q.emit(0x02, -1)
	q.labels = append(q.labels, nil)
	q.values(q.kinds())
	n := q.Intn(len(q.labels))
	switch q.Intn(7) {
	case 0:
		q.emit(0x00)
	case 1:
		q.values(q.results)
		q.emit(0x0f)
	case 2, 3:
		q.values(q.label(n))
		q.value(api.I32)
		q.code = append(q.code, api.Inst{Op: 0x0e, L: q.alike(n)})
	case 4:
		q.tail()
	default:
		q.values(q.label(n))
		q.emit(0x0c, n)
	}
	for range q.Intn(3) {
		q.emit([]int{0x1a, 0x1b, 0x01, 0x00, 0x0f}[q.Intn(5)])
	}
	q.emit(0x00)
	q.labels = q.labels[:len(q.labels)-1]
	q.emit(0x0b)
}

// alike returns some labels with the types of the label n, and n.
func (q *maker) alike(n int) []int {
	l := []int{n}
	for k := range q.labels {
		if slices.Equal(q.label(k), q.label(n)) && q.Intn(2) == 0 {
			l = append(l, k)
		}
	}
	q.Shuffle(len(l), func(i, j int) { l[i], l[j] = l[j], l[i] })
	return l
}

// tail makes a return_call, if there is a function for it, and otherwise what traps.
func (q *maker) tail() {
	for f, own := range q.m.Funcs {
		if t := q.m.Types[own.Type]; slices.Equal(t.Results, q.results) {
			q.values(t.Params)
			q.emit(0x12, f+len(q.m.Imports))
			return
		}
	}
	q.emit(0x00)
}

// answers returns some answers of a host.
func (q *maker) answers() []host.Answer {
	var l []host.Answer
	for range q.Intn(8) {
		l = append(l, host.Answer{Values: []uint64{q.Uint64(), q.Uint64() >> q.Intn(64)}[:q.Intn(3)], Trap: q.Intn(12) == 0})
	}
	return l
}

// spoil changes, takes away, puts in or swaps instructions of a function.
func (q *maker) spoil(m api.Module) {
	f := &m.Funcs[q.Intn(len(m.Funcs))]
	k, j := q.Intn(len(f.Code)), q.Intn(len(f.Code))
	switch q.Intn(5) {
	case 0:
		f.Code[k] = f.Code[j]
	case 1:
		f.Code = slices.Delete(f.Code, k, k+1)
	case 2:
		f.Code = slices.Insert(f.Code, k, f.Code[j])
	case 3:
		f.Code[k], f.Code[j] = f.Code[j], f.Code[k]
	default:
		f.Code[k].A = max(f.Code[k].A+q.Intn(3)-1, 0)
	}
}
