package check_test

import (
	"math/rand"
	"strings"
	"testing"

	"plainsong/api"
	"plainsong/check"
	"plainsong/match"
	mod "plainsong/module"
)

// runner runs functions on values of which it knows nothing but their types, as letters; every condition falls as chance has it. What an instruction takes has to lie there: nothing but a trap may end a run.
type runner struct {
	*rand.Rand
	t     *testing.T
	m     api.Module
	steps int
	calls int
}

// activity is a call of a function that goes on.
type activity struct {
	*runner
	code    []api.Inst
	spans   []match.Span
	locals  string
	results string
	stack   string
	frames  []active
	at      int
}

type active struct {
	span   match.Span
	height int
	label  string
	result string
	again  bool // the label is that of a loop
}

func (a *activity) fault(what string) {
	a.t.Fatalf("W3: %s at %d of %v, with %q", what, a.at, a.code, a.stack)
}

// take takes values of these types; those below the height of the innermost frame are not there.
func (a *activity) take(types string) {
	if len(a.stack)-len(types) < a.low() || !strings.HasSuffix(a.stack, types) {
		a.fault("there is no " + types)
	}
	a.stack = strings.TrimSuffix(a.stack, types)
}

// takeAny takes a value of any type.
func (a *activity) takeAny() string {
	if len(a.stack) <= a.low() {
		a.fault("there is nothing")
	}
	t := a.stack[len(a.stack)-1:]
	a.take(t)
	return t
}

func (a *activity) low() int { return a.frames[len(a.frames)-1].height }

// call runs the function f, and reports whether it came back.
func (r *runner) call(f int, args string) (string, bool) {
	t, _ := mod.Sig(r.m, f)
	if letters(t.Params) != args {
		r.t.Fatalf("W3: %q for the function %d", args, f)
	}
	if f < len(r.m.Imports) {
		return letters(t.Results), r.Intn(20) > 0
	}
	own := r.m.Funcs[f-len(r.m.Imports)]
	spans, _ := match.Of(own.Code)
	a := &activity{runner: r, code: own.Code, spans: spans, locals: letters(mod.Locals(r.m, f)), results: letters(t.Results)}
	a.frames = []active{{span: match.Span{At: -1, Else: -1, End: len(own.Code) - 1}, label: a.results, result: a.results}}
	if r.calls++; r.calls > 1000 {
		return "", false
	}
	for len(a.frames) > 0 {
		if r.steps--; r.steps < 0 || !a.step(own.Code[a.at]) {
			return "", false
		}
	}
	if a.stack != a.results {
		a.fault("the results are not " + a.results)
	}
	return a.results, true
}

// leave goes to the label n.
func (a *activity) leave(n int) {
	if n >= len(a.frames) {
		a.fault("there is no such label")
	}
	k := len(a.frames) - 1 - n
	f := a.frames[k]
	a.take(f.label)
	a.stack = a.stack[:f.height] + f.label
	if f.again {
		a.frames = a.frames[:k+1]
		a.at = f.span.At + 1
		return
	}
	a.frames = a.frames[:k]
	a.at = f.span.End + 1
}

// close goes behind the end of the innermost frame, in which nothing but the results is left.
func (a *activity) close() {
	f := a.frames[len(a.frames)-1]
	if a.stack[f.height:] != f.result {
		a.fault("what is left is not " + f.result)
	}
	a.frames = a.frames[:len(a.frames)-1]
	a.at = f.span.End + 1
}

func (a *activity) open(i api.Inst) {
	t, is := mod.Block(a.m, i.A)
	if !is {
		a.fault("there is no such type")
	}
	f := active{label: letters(t.Results), result: letters(t.Results), again: i.Op == 0x03}
	if f.again {
		f.label = letters(t.Params)
	}
	f.span, _ = match.Find(a.spans, a.at)
	enter := true
	if i.Op == 0x04 {
		a.take("w")
		enter = a.Intn(2) == 0
	}
	a.take(letters(t.Params))
	f.height = len(a.stack)
	a.stack += letters(t.Params)
	a.frames = append(a.frames, f)
	switch {
	case enter:
		a.at++
	case f.span.Else >= 0:
		a.at = f.span.Else + 1
	default:
		a.close()
	}
}

// step does an instruction, and reports whether the run goes on.
func (a *activity) step(i api.Inst) bool {
	if e, is := effects[i.Op]; is {
		takes, gives, _ := strings.Cut(e, ">")
		a.take(takes)
		a.stack += gives
		a.at++
		return true
	}
	switch i.Op {
	case 0x00:
		return false
	case 0x02, 0x03, 0x04:
		a.open(i)
		return true
	case 0x05, 0x0b:
		a.close()
		return true
	case 0x0c:
		a.leave(i.A)
		return true
	case 0x0d:
		a.take("w")
		if a.Intn(2) == 0 {
			a.leave(i.A)
			return true
		}
		a.at++
		return true
	case 0x0e:
		a.take("w")
		a.leave(i.L[a.Intn(len(i.L))])
		return true
	case 0x0f:
		a.leave(len(a.frames) - 1)
		return true
	case 0x10, 0x12:
		return a.invoke(i)
	}
	a.move(i)
	a.at++
	return true
}

func (a *activity) invoke(i api.Inst) bool {
	t, is := mod.Sig(a.m, i.A)
	if !is {
		a.fault("there is no such function")
	}
	a.take(letters(t.Params))
	gives, back := a.call(i.A, letters(t.Params))
	a.stack += gives
	if back && i.Op == 0x12 {
		a.leave(len(a.frames) - 1)
		return true
	}
	a.at++
	return back
}

// move does what moves values.
func (a *activity) move(i api.Inst) {
	switch i.Op {
	case 0x1a:
		a.takeAny()
	case 0x1b:
		a.take("w")
		t := a.takeAny()
		a.take(t)
		a.stack += t
	case 0x20:
		a.stack += a.locals[i.A : i.A+1]
	case 0x21:
		a.take(a.locals[i.A : i.A+1])
	case 0x22:
		a.take(a.locals[i.A : i.A+1])
		a.stack += a.locals[i.A : i.A+1]
	case 0x23:
		a.stack += letters([]int{a.m.Globals[i.A].Type})
	case 0x24:
		if !a.m.Globals[i.A].Var {
			a.fault("a global that may not be set")
		}
		a.take(letters([]int{a.m.Globals[i.A].Type}))
	default:
		a.fault("no such instruction")
	}
}

// What is accepted runs: made functions, and changed ones that are still right.
func TestAcceptedFunctionsRun(t *testing.T) {
	q := newMaker(2)
	runs, back := 0, 0
	for range 3000 {
		m := q.module()
		m.Funcs[1].Code, m.Funcs[2].Code, m.Funcs[3].Code = code("get:0 end"), code("end"), code("w l end")
		for range 8 {
			if check.Module(m, api.Rich) == api.OK {
				r := &runner{Rand: q.Rand, t: t, m: m}
				for range 4 {
					r.steps, r.calls = 2000, 0
					if _, is := r.call(2, letters(m.Types[m.Funcs[0].Type].Params)); is {
						back++
					}
					runs++
				}
			}
			m = mod.Copy(m)
			q.spoil(m)
		}
	}
	if runs < 15000 || back < runs/3 {
		t.Errorf("only %d runs, of which %d came back", runs, back)
	}
}
