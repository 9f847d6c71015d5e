package check_test

import (
	"math/rand"
	"slices"
	"strings"

	"plainsong/api"
)

// maker makes functions by chance that are well typed for the rich profile; the same ones each time.
type maker struct {
	*rand.Rand
	m      api.Module
	locals string
	labels []string // what branches take, the innermost last
	result string
	fixed  []int // the instructions of effects, in order
	code   []api.Inst
	most   int // of instructions, roughly
}

func newMaker(seed int64) *maker {
	q := &maker{Rand: rand.New(rand.NewSource(seed))}
	for op := range effects {
		q.fixed = append(q.fixed, op)
	}
	slices.Sort(q.fixed)
	return q
}

// module returns a module as base does, with a function that is made.
func (q *maker) module() api.Module {
	signature := []string{">", "w>w", "lf>", ">wl", "ff>f", ">l", "wlf>fw"}[q.Intn(7)]
	q.m = base(signature, nil)
	q.locals = strings.Split(signature, ">")[0] + "wlf"
	q.result = strings.Split(signature, ">")[1]
	q.labels, q.code, q.most = []string{q.result}, nil, q.Intn(60)
	q.body("", q.result)
	q.emit(0x0b)
	q.m.Funcs[0].Code = q.code
	return q.m
}

func (q *maker) emit(op int, indices ...int) {
	q.code = append(q.code, with(op, indices))
}

// body makes instructions for a stack that has the types of has in its frame, until it has those of want.
func (q *maker) body(has, want string) {
	for len(q.code) < q.most && q.Intn(12) > 0 {
		next, on := q.step(has)
		if !on {
			q.afterwards(want)
			return
		}
		has = next
	}
	q.settle(has, want)
}

// settle makes has into want: what is wrong is dropped.
func (q *maker) settle(has, want string) {
	for !strings.HasPrefix(want, has) {
		q.emit(0x1a)
		has = has[:len(has)-1]
	}
	q.code = append(q.code, consts(want[len(has):])...)
}

// afterwards makes dead code: some instructions that need nothing, and of what is wanted nothing but the end.
func (q *maker) afterwards(want string) {
	for range q.Intn(3) {
		switch q.Intn(5) {
		case 0:
			q.emit(0x01)
		case 1:
			q.emit(0x1a)
		case 2:
			q.emit(0x1b)
			q.emit(0x1a)
		case 3:
			q.emit([]int{0x45, 0x6a, 0xb7, 0xa7}[q.Intn(4)])
			q.emit(0x1a)
		case 4:
			q.emit(0x00)
		}
	}
	q.settle("", want[q.Intn(len(want)+1):])
}

// put makes the top of the stack types, and returns what it then has.
func (q *maker) put(has, types string) string {
	if strings.HasSuffix(has, types) && q.Intn(3) > 0 {
		return has
	}
	q.code = append(q.code, consts(types)...)
	return has + types
}

// step makes an instruction, with what it needs, and reports whether code behind it is reached.
func (q *maker) step(has string) (string, bool) {
	switch q.Intn(10) {
	case 0:
		return q.local(has), true
	case 1:
		return q.global(has), true
	case 2:
		return q.call(has)
	case 3, 4:
		if len(q.labels) < 20 {
			return q.block(has), true
		}
	case 5:
		return q.branch(has)
	case 6:
		return q.choose(has), true
	}
	op := q.fixed[q.Intn(len(q.fixed))]
	takes, gives, _ := strings.Cut(effects[op], ">")
	has = q.put(has, takes)
	q.emit(op, q.Intn(2), 0)
	if !slices.Contains([]int{0x3f, 0x40, 0xfc08, 0xfc09, 0xfc0a, 0xfc0b}, op) && (op < 0x28 || op > 0x3e) {
		q.code[len(q.code)-1].A = 0
	}
	return strings.TrimSuffix(has, takes) + gives, true
}

func (q *maker) local(has string) string {
	k := q.Intn(len(q.locals))
	t := q.locals[k : k+1]
	switch q.Intn(3) {
	case 0:
		q.emit(0x20, k)
		return has + t
	case 1:
		has = q.put(has, t)
		q.emit(0x21, k)
		return strings.TrimSuffix(has, t)
	}
	has = q.put(has, t)
	q.emit(0x22, k)
	return has
}

func (q *maker) global(has string) string {
	k := q.Intn(6)
	t := "wwllff"[k : k+1]
	if k%2 == 0 || q.Intn(2) == 0 {
		q.emit(0x23, k)
		return has + t
	}
	has = q.put(has, t)
	q.emit(0x24, k)
	return strings.TrimSuffix(has, t)
}

func (q *maker) choose(has string) string {
	if len(has) > 0 && q.Intn(2) == 0 {
		q.emit(0x1a)
		return has[:len(has)-1]
	}
	t := "wlf"[q.Intn(3):][:1]
	has = q.put(has, t+t+"w")
	q.emit(0x1b)
	return has[:len(has)-2]
}

func (q *maker) call(has string) (string, bool) {
	f := q.Intn(6)
	k := 0
	if f < 2 {
		k = q.m.Imports[f].Type
	} else {
		k = q.m.Funcs[f-2].Type
	}
	takes, gives := letters(q.m.Types[k].Params), letters(q.m.Types[k].Results)
	has = q.put(has, takes)
	if gives == q.result && q.Intn(3) == 0 {
		q.emit(0x12, f)
		return "", false
	}
	q.emit(0x10, f)
	return strings.TrimSuffix(has, takes) + gives, true
}

func (q *maker) branch(has string) (string, bool) {
	n := q.Intn(len(q.labels))
	label := q.labels[len(q.labels)-1-n]
	switch q.Intn(5) {
	case 0:
		q.put(has, label)
		q.emit(0x0c, n)
	case 1:
		has = q.put(has, label+"w")
		q.emit(0x0d, n)
		return has[:len(has)-1], true
	case 2:
		q.put(has, label+"w")
		q.emit(0x0e, q.alike(label, n)...)
	case 3:
		q.put(has, q.result)
		q.emit(0x0f)
	case 4:
		q.emit(0x00)
	}
	return "", false
}

// alike returns some labels with these types, the last of them n.
func (q *maker) alike(label string, n int) []int {
	var l []int
	for k := range q.labels {
		if q.labels[len(q.labels)-1-k] == label && q.Intn(2) == 0 {
			l = append(l, k)
		}
	}
	return append(l, n)
}

func (q *maker) block(has string) string {
	op, a := 0x02+q.Intn(3), q.Intn(12)-4
	takes, gives := "", []string{"", "w", "l", "f"}[max(-1-a, 0)]
	if a >= 0 {
		takes, gives = letters(q.m.Types[a].Params), letters(q.m.Types[a].Results)
	}
	has = q.put(has, takes)
	label := gives
	switch op {
	case 0x03:
		label = takes
	case 0x04:
		q.emit(0x41)
	}
	q.emit(op, a)
	q.labels = append(q.labels, label)
	q.body(takes, gives)
	if op == 0x04 && (takes != gives || q.Intn(2) == 0) {
		q.emit(0x05)
		q.body(takes, gives)
	}
	q.labels = q.labels[:len(q.labels)-1]
	q.emit(0x0b)
	return strings.TrimSuffix(has, takes) + gives
}

// spoil changes, takes away, puts in or swaps an instruction of the first function.
func (q *maker) spoil(m api.Module) {
	f := &m.Funcs[0]
	if len(f.Code) == 0 {
		return
	}
	k := q.Intn(len(f.Code))
	switch q.Intn(5) {
	case 0:
		f.Code[k] = q.any()
	case 1:
		f.Code = slices.Delete(f.Code, k, k+1)
	case 2:
		f.Code = slices.Insert(f.Code, k, q.any())
	case 3:
		j := q.Intn(len(f.Code))
		f.Code[k], f.Code[j] = f.Code[j], f.Code[k]
	case 4:
		i := &f.Code[k]
		if len(i.L) > 0 {
			i.L[q.Intn(len(i.L))] = q.Intn(4)
		} else if hasA(i.Op) {
			i.A = max(i.A+q.Intn(5)-2, 0)
		}
	}
}

// hasA reports whether the A of an instruction means something.
func hasA(op int) bool {
	return op >= 0x02 && op <= 0x04 || op >= 0x0c && op <= 0x12 && op != 0x0e && op != 0x0f || op >= 0x20 && op <= 0x40 || op >= 0xfc08
}

// any returns an instruction that may be right nowhere.
func (q *maker) any() api.Inst {
	n := q.Intn(8)
	switch q.Intn(4) {
	case 0:
		return with(q.fixed[q.Intn(len(q.fixed))], nil)
	case 1:
		return with([]int{0x00, 0x0f, 0x1a, 0x1b, 0x05, 0x0b}[q.Intn(6)], nil)
	case 2:
		return with([]int{0x02, 0x03, 0x04}[q.Intn(3)], []int{n - 4})
	}
	return with([]int{0x0c, 0x0d, 0x0e, 0x10, 0x12, 0x20, 0x21, 0x22, 0x23, 0x24}[q.Intn(10)], []int{n})
}
