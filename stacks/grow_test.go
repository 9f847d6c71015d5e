package stacks_test

import (
	"math/rand"
	"slices"

	"plainsong/api"
	"plainsong/check"
)

// grower makes functions by chance, from one instruction to the next that check allows there; the same functions each time.
type grower struct {
	*rand.Rand
	fixed []int // the instructions of effects, in order
}

func newGrower(seed int64) *grower {
	q := &grower{Rand: rand.New(rand.NewSource(seed))}
	for op := range effects {
		q.fixed = append(q.fixed, op)
	}
	slices.Sort(q.fixed)
	return q
}

// closed returns a code that may still have open frames, with an end for each of them that is right whatever lies on the stack.
func closed(l []api.Inst) []api.Inst {
	var open []int
	for _, i := range l {
		switch i.Op {
		case 0x02, 0x03, 0x04:
			open = append(open, i.Op)
		case 0x05:
			open[len(open)-1] = i.Op
		case 0x0b:
			open = open[:len(open)-1]
		}
	}
	l = join(l, code("unreachable"))
	for _, op := range slices.Backward(open) {
		if op == 0x04 {
			l = join(l, code("else unreachable"))
		}
		l = join(l, code("end unreachable"))
	}
	return join(l, code("end"))
}

// module returns a module as base does, with a function that is made of some n steps.
func (q *grower) module(n int) api.Module {
	m := base([]string{">", "w>w", "lf>", ">wl", "ff>f", ">l", "wlf>fw"}[q.Intn(7)], nil)
	var l []api.Inst
	open := []int{0x02} // what opened the frames around, or divided them
	for range n {
		for range 15 {
			i := q.next(len(open), open[len(open)-1])
			m.Funcs[0].Code = closed(join(l, i))
			if _, why := check.Func(m, 0, api.Rich); why != api.OK {
				continue
			}
			l = join(l, i)
			switch op := i[len(i)-1].Op; op {
			case 0x02, 0x03, 0x04:
				open = append(open, op)
			case 0x05:
				open[len(open)-1] = op
			case 0x0b:
				open = open[:len(open)-1]
			}
			break
		}
	}
	m.Funcs[0].Code = closed(l)
	return m
}

// next returns an instruction that may be right where so many frames are open and the innermost began so, often with a value or two before it.
func (q *grower) next(open, innermost int) []api.Inst {
	var l []api.Inst
	for range q.Intn(3) {
		l = append(l, with([]int{0x41, 0x41, 0x42, 0x44}[q.Intn(4)]))
	}
	label := func() int { return q.Intn(open) }
	switch q.Intn(12) {
	case 0:
		return append(l, with(0x02+q.Intn(3), q.Intn(11)-4))
	case 1:
		if innermost == 0x04 && q.Intn(3) == 0 {
			return []api.Inst{with(0x05)}
		}
		if open > 1 {
			return append(l, with(0x0b))
		}
	case 2:
		return append(l, with(0x0d, label()))
	case 3:
		return append(l, [][]api.Inst{{with(0x00)}, {with(0x0c, label())}, {with(0x0e, label())}, {with(0x0f)}}[q.Intn(4)]...)
	case 4:
		return append(l, with(0x0e, label(), label()))
	case 5:
		return append(l, with([]int{0x10, 0x10, 0x12}[q.Intn(3)], q.Intn(6)))
	case 6:
		return append(l, with(0x20+q.Intn(5), q.Intn(6)))
	case 7, 8:
		return []api.Inst{with(0x1b)}
	case 9:
		return []api.Inst{with(0x1a)}
	}
	return append(l, with(q.fixed[q.Intn(len(q.fixed))]))
}
