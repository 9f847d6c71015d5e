package stacks_test

import (
	"slices"
	"strings"
	"testing"

	"plainsong/api"
	"plainsong/check"
	mod "plainsong/module"
	"plainsong/stacks"
)

// asker holds the Rows of a function to what check says of other functions: those that take, at an instruction, what its Row says is there, and then leave.
type asker struct {
	t    *testing.T
	m    api.Module // as base returns it, with another code
	code []api.Inst
	rows []stacks.Row
	open []place // the frames around the instruction that is asked about
	said map[string]int
}

// place is a frame that is open.
type place struct {
	op      int // an else, for an if that has come to it
	params  string
	results string
	below   []int // the types below it
}

// compare holds Of and Depth of the first function to check, at each of its instructions.
func compare(t *testing.T, m api.Module, said map[string]int) {
	t.Helper()
	if why := check.Module(m, api.Rich); why != api.OK {
		none(t, m, 0, "a function that is refused")
		said["refused"]++
		return
	}
	said["accepted"]++
	a := &asker{t: t, m: mod.Copy(m), code: m.Funcs[0].Code, rows: stacks.Of(m, 0), said: said}
	if len(a.rows) != len(a.code) {
		t.Fatalf("P11.1: %d Rows of %d instructions", len(a.rows), len(a.code))
	}
	deepest := 0
	a.open = []place{{op: 0x02, results: letters(m.Types[m.Funcs[0].Type].Results)}}
	for at, i := range a.code {
		deepest = max(deepest, len(a.rows[at].Types))
		a.ask(at)
		a.pass(at, i)
	}
	if got := stacks.Depth(m, 0); got != deepest {
		t.Fatalf("P11.1: Depth of %v: %d, want %d", a.code, got, deepest)
	}
}

func (a *asker) top() place { return a.open[len(a.open)-1] }

// pass goes over an instruction that opens or closes a frame.
func (a *asker) pass(at int, i api.Inst) {
	switch i.Op {
	case 0x02, 0x03, 0x04:
		k, _ := mod.Block(a.m, i.A)
		takes := len(k.Params)
		if i.Op == 0x04 {
			takes++
		}
		has := a.rows[at].Types
		below := has[:max(len(has)-takes, len(a.top().below))]
		a.open = append(a.open, place{op: i.Op, params: letters(k.Params), results: letters(k.Results), below: below})
	case 0x05:
		a.open[len(a.open)-1].op = i.Op
	case 0x0b:
		a.open = a.open[:len(a.open)-1]
	}
}

// ask holds the Row of an instruction to check.
func (a *asker) ask(at int) {
	row, low := a.rows[at], a.top().below
	if len(row.Types) < len(low) || !slices.Equal(row.Types[:len(low)], low) {
		a.t.Fatalf("P11.1: at %d of %v: %v, with %v below", at, a.code, row.Types, low)
	}
	own := row.Types[len(low):]
	all := takes(letters(own))
	// All types of the Row, and no more, are there.
	a.want(at, true, join(all, a.leave()))
	if len(own) > 0 {
		a.want(at, false, join(all[:len(all)-1], a.leave()))
	}
	a.want(at, row.Dead, join(all, code("drop unreachable"), a.leave()))
	// Each is of its type.
	for k, is := range own {
		for _, other := range types("wlf") {
			turn := join(all[:len(own)-1-k], takes(letters([]int{other})), code("unreachable"), a.leave())
			a.want(at, is == other || is == 0, turn)
		}
	}
	if row.Dead {
		a.said["dead"]++
	} else {
		a.said["alive"]++
	}
	if slices.Contains(own, 0) {
		a.said["unknown"]++
	}
}

// takes returns instructions that take these types off the stack, from the last one down, into locals of which each type has one.
func takes(letters string) []api.Inst {
	var l []api.Inst
	for _, t := range slices.Backward([]byte(letters)) {
		if t == '?' {
			l = append(l, with(0x1a))
		} else {
			l = append(l, with(0x21, 100+strings.IndexByte("wlf", t)))
		}
	}
	return l
}

// leave closes all frames: the innermost one with what it should have at its end, the others whatever they have.
func (a *asker) leave() []api.Inst {
	var l []api.Inst
	for k, f := range slices.Backward(a.open) {
		if k == len(a.open)-1 {
			l = append(l, consts(f.results)...)
		}
		if f.op == 0x04 {
			l = append(l, code("else unreachable")...)
		}
		l = append(l, code("end unreachable")...)
	}
	return l[:len(l)-1]
}

// want holds check to whether it allows the code up to an instruction with other instructions behind it.
func (a *asker) want(at int, allowed bool, rest []api.Inst) {
	a.m.Funcs[0].Code = join(a.code[:at], rest)
	own := a.m.Types[a.m.Funcs[0].Type].Params
	a.m.Funcs[0].Locals = types("wlf" + strings.Repeat("w", 97-len(own)) + "wlf")
	where, why := check.Func(a.m, 0, api.Rich)
	if (why == api.OK) != allowed || why != api.OK && where < at {
		a.t.Fatalf("P11.1: at %d of %v: %s, but with %v there: at %d, %d", at, a.code, told(a.rows[at:at+1]), rest, where, why)
	}
}

// each calls see with every code of n words.
func each(words []string, n int, see func([]api.Inst)) {
	if n == 0 {
		see(nil)
		return
	}
	each(words, n-1, func(l []api.Inst) {
		for _, w := range words {
			see(join(l, code(w)))
		}
	})
}

// Every short code of some instructions.
func TestEachShortCode(t *testing.T) {
	for _, v := range []struct {
		words      []string
		n          int
		signatures []string
	}{
		{[]string{"w", "l", "drop", "select", "weqz", "leqz", "unreachable"}, 4, []string{">", ">w", ">wl"}},
		{[]string{"w", "drop", "block:-1", "block:-2", "if:-2", "else", "end", "unreachable", "br:1"}, 4, []string{">", ">w"}},
		{[]string{"l", "w", "loop:5", "if:1", "else", "end", "br_if:0", "return"}, 4, []string{">", ">wl"}},
		{[]string{"unreachable w", "l", "block:-2", "block:-3", "end", "select", "br_table:0,1", "br_table:1,0"}, 4, []string{">w", ">l"}},
		{[]string{"w", "l", "unreachable select", "select", "wadd", "tee:1", "call:3"}, 4, []string{">l"}},
		{[]string{"w", "call:3", "return_call:3", "return_call:1", "gset:1", "gget:4", "set:2"}, 4, []string{">", ">w", ">f"}},
	} {
		said := map[string]int{}
		for _, signature := range v.signatures {
			for n := range v.n + 1 {
				each(v.words, n, func(l []api.Inst) {
					compare(t, base(signature, join(l, code("end"))), said)
					compare(t, base(signature, join(l, code("unreachable end"))), said)
				})
			}
		}
		if said["accepted"] < 150 || said["refused"] < 300 || said["dead"] < 300 || said["alive"] < 300 {
			t.Errorf("codes of one kind alone: %v: %v", v.words, said)
		}
	}
}

// Long functions, each of a kind that chance makes.
func TestMadeFunctions(t *testing.T) {
	q, said := newGrower(1), map[string]int{}
	for range 250 {
		compare(t, q.module(q.Intn(50)), said)
	}
	if said["refused"] > 0 || said["dead"] < 1000 || said["alive"] < 1000 || said["unknown"] < 100 {
		t.Errorf("functions of one kind alone: %v", said)
	}
	t.Log(said)
}
