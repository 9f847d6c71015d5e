package check_test

import (
	"slices"
	"strings"

	"plainsong/api"
)

// effect is what an instruction takes and what it gives, as "ww>w".
type effect = string

// effects are those of all instructions for which they are the same in every module, written once more by hand from chapters 3 and 10.
var effects = func() map[int]effect {
	all := map[int]effect{
		0x01: ">", 0x3f: ">w", 0x40: "w>w", 0x41: ">w", 0x42: ">l", 0x44: ">f",
		0x28: "w>w", 0x29: "w>l", 0x2b: "w>f", 0x2c: "w>w", 0x2d: "w>w", 0x2e: "w>w", 0x2f: "w>w",
		0x30: "w>l", 0x31: "w>l", 0x32: "w>l", 0x33: "w>l", 0x34: "w>l", 0x35: "w>l",
		0x36: "ww>", 0x37: "wl>", 0x39: "wf>", 0x3a: "ww>", 0x3b: "ww>", 0x3c: "wl>", 0x3d: "wl>", 0x3e: "wl>",
		0x45: "w>w", 0x50: "l>w", 0xa7: "l>w", 0xac: "w>l", 0xad: "w>l",
		0xaa: "f>w", 0xab: "f>w", 0xb0: "f>l", 0xb1: "f>l", 0xb7: "w>f", 0xb8: "w>f", 0xb9: "l>f", 0xba: "l>f", 0xbd: "f>l", 0xbf: "l>f",
		0xc0: "w>w", 0xc1: "w>w", 0xc2: "l>l", 0xc3: "l>l", 0xc4: "l>l",
		0xfc02: "f>w", 0xfc03: "f>w", 0xfc06: "f>l", 0xfc07: "f>l",
		0xfc08: "www>", 0xfc09: ">", 0xfc0a: "www>", 0xfc0b: "www>",
	}
	for _, run := range []struct {
		first, last int
		effect      effect
	}{
		{0x46, 0x4f, "ww>w"}, {0x51, 0x5a, "ll>w"}, {0x61, 0x66, "ff>w"},
		{0x67, 0x69, "w>w"}, {0x6a, 0x78, "ww>w"}, {0x79, 0x7b, "l>l"}, {0x7c, 0x8a, "ll>l"},
		{0x99, 0x9f, "f>f"}, {0xa0, 0xa6, "ff>f"},
	} {
		for op := run.first; op <= run.last; op++ {
			all[op] = run.effect
		}
	}
	return all
}()

// richOps are the instructions that the plain profile hasn't.
var richOps = []int{0x12, 0xc0, 0xc1, 0xc2, 0xc3, 0xc4, 0xfc02, 0xfc03, 0xfc06, 0xfc07, 0xfc08, 0xfc09, 0xfc0a, 0xfc0b}

// judge types a function a second time. It reads blocks by recursion; and dead code is to it the same as other code: it guesses how many values of any type lie there, and goes on with each guess that no instruction has refuted.
type judge struct {
	m       api.Module
	profile int
	code    []api.Inst
	locals  string
	results string
	labels  []string // what branches take, the innermost last
	at      int
	why     api.Errno
	most    int // the greatest guess
}

// guess is what the innermost frame may have on the stack: letters of types, and ? for any.
type guess = string

// judged returns what Func should say of the first of m's Funcs. Blocks must have their ends.
func judged(m api.Module, profile int) verdict {
	f := m.Funcs[0]
	t := m.Types[f.Type]
	j := judge{m: m, profile: profile, code: f.Code, locals: letters(t.Params) + letters(f.Locals), results: letters(t.Results), most: 12 + 3*len(f.Code)}
	j.labels = []string{j.results}
	j.frame("", j.results)
	if j.why == api.OK {
		return fine
	}
	return verdict{j.at, j.why}
}

// frame goes on until behind the end or the else that belongs to a frame, and reports whether all was right up to there.
func (j *judge) frame(params, results string) bool {
	may := []guess{params}
	for {
		i := j.code[j.at]
		if i.Op == 0x05 || i.Op == 0x0b {
			break
		}
		if may = j.step(i, may); j.why != api.OK {
			return false
		}
	}
	for _, g := range may {
		if len(g) == len(results) && fits(g, results) {
			j.at++
			return true
		}
	}
	j.why = api.ErrType
	return false
}

// fits reports whether types lie on top of what is guessed.
func fits(g guess, types string) bool {
	if len(g) < len(types) {
		return false
	}
	for k, t := range g[len(g)-len(types):] {
		if t != '?' && types[k] != '?' && byte(t) != types[k] {
			return false
		}
	}
	return true
}

// change returns the guesses that hold these types, with others in their place.
func change(may []guess, e effect) []guess {
	takes, gives, _ := strings.Cut(e, ">")
	var l []guess
	for _, g := range may {
		if fits(g, takes) {
			l = append(l, g[:len(g)-len(takes)]+gives)
		}
	}
	return l
}

// dead returns a guess of each height, if there was one that came up to here.
func (j *judge) dead(may []guess) []guess {
	if len(may) == 0 {
		return nil
	}
	var l []guess
	for n := range j.most {
		l = append(l, strings.Repeat("?", n))
	}
	return l
}

// step goes over an instruction, and over all of a block.
func (j *judge) step(i api.Inst, may []guess) []guess {
	switch {
	case j.profile == api.Plain && (slices.Contains(richOps, i.Op) || i.Op >= 0x02 && i.Op <= 0x04 && i.A >= 0):
		j.why = api.ErrPlain
		return nil
	case !j.names(i):
		j.why = api.ErrIndex
		return nil
	case i.Op >= 0x02 && i.Op <= 0x04:
		return j.block(i, may)
	}
	may = j.simple(i, may)
	if len(may) == 0 {
		j.why = api.ErrType
		return nil
	}
	j.at++
	return may
}

// names reports whether all exists that i names.
func (j *judge) names(i api.Inst) bool {
	up := func(n, most int) bool { return n < most && n > -1 }
	mems, datas, funcs := len(j.m.Mems), len(j.m.Datas), len(j.m.Imports)+len(j.m.Funcs)
	switch op := i.Op; {
	case op >= 0x02 && op <= 0x04:
		return i.A < len(j.m.Types) && i.A >= -4
	case op == 0x0c || op == 0x0d:
		return up(i.A, len(j.labels))
	case op == 0x0e:
		for _, n := range i.L {
			if !up(n, len(j.labels)) {
				return false
			}
		}
	case op == 0x10 || op == 0x12:
		return up(i.A, funcs)
	case op >= 0x20 && op <= 0x22:
		return up(i.A, len(j.locals))
	case op == 0x23 || op == 0x24:
		return up(i.A, len(j.m.Globals))
	case op >= 0x28 && op <= 0x40 || op == 0xfc0b:
		return up(i.A, mems)
	case op == 0xfc08:
		return up(i.A, mems) && up(i.B, datas)
	case op == 0xfc09:
		return up(i.A, datas)
	case op == 0xfc0a:
		return up(i.A, mems) && up(i.B, mems)
	}
	return true
}

// signature returns the type of a function as an effect.
func (j *judge) signature(f int) effect {
	k := 0
	if f < len(j.m.Imports) {
		k = j.m.Imports[f].Type
	} else {
		k = j.m.Funcs[f-len(j.m.Imports)].Type
	}
	return letters(j.m.Types[k].Params) + ">" + letters(j.m.Types[k].Results)
}

// simple returns what is guessed behind an instruction that begins no block.
func (j *judge) simple(i api.Inst, may []guess) []guess {
	label := func(n int) string { return j.labels[len(j.labels)-1-n] }
	if e, is := effects[i.Op]; is {
		return change(may, e)
	}
	switch i.Op {
	case 0x00:
		return j.dead(may)
	case 0x0c:
		return j.dead(change(may, label(i.A)+">"))
	case 0x0d:
		return change(may, label(i.A)+"w>"+label(i.A))
	case 0x0e:
		may = change(may, "w>")
		last := label(i.L[len(i.L)-1])
		for _, n := range i.L {
			if len(label(n)) != len(last) {
				return nil
			}
			// What fits stays as it is: the other labels ask the same stack.
			var l []guess
			for _, g := range may {
				if fits(g, label(n)) {
					l = append(l, g)
				}
			}
			may = l
		}
		return j.dead(may)
	case 0x0f:
		return j.dead(change(may, j.results+">"))
	case 0x10:
		return change(may, j.signature(i.A))
	case 0x12:
		takes, gives, _ := strings.Cut(j.signature(i.A), ">")
		if gives != j.results {
			return nil
		}
		return j.dead(change(may, takes+">"))
	case 0x1a:
		return change(may, "?>")
	case 0x1b:
		return choose(change(may, "w>"))
	case 0x20:
		return change(may, ">"+j.locals[i.A:i.A+1])
	case 0x21:
		return change(may, j.locals[i.A:i.A+1]+">")
	case 0x22:
		return change(may, j.locals[i.A:i.A+1]+">"+j.locals[i.A:i.A+1])
	case 0x23:
		return change(may, ">"+letters([]int{j.m.Globals[i.A].Type}))
	case 0x24:
		if !j.m.Globals[i.A].Var {
			return nil
		}
		return change(may, letters([]int{j.m.Globals[i.A].Type})+">")
	}
	panic("no such instruction")
}

// choose goes over a select whose condition is taken: each type has a turn of its own.
func choose(may []guess) []guess {
	var l []guess
	for _, g := range may {
		for _, t := range []string{"w", "l", "f"} {
			if len(g) >= 2 && !strings.HasSuffix(g, "??") && fits(g, t+t) {
				l = append(l, g[:len(g)-2]+t)
			}
		}
		if strings.HasSuffix(g, "??") {
			l = append(l, g[:len(g)-1])
		}
	}
	return l
}

// block goes over a block with all that is in it.
func (j *judge) block(i api.Inst, may []guess) []guess {
	t := api.Type{Results: types([]string{"", "w", "l", "f"}[max(-1-i.A, 0)])}
	if i.A >= 0 {
		t = j.m.Types[i.A]
	}
	params, results := letters(t.Params), letters(t.Results)
	takes := params
	if i.Op == 0x04 {
		takes += "w"
	}
	if may = change(may, takes+">"); len(may) == 0 {
		j.why = api.ErrType
		return nil
	}
	j.at++
	label := results
	if i.Op == 0x03 {
		label = params
	}
	j.labels = append(j.labels, label)
	defer func() { j.labels = j.labels[:len(j.labels)-1] }()
	whole := j.frame(params, results)
	if whole && j.code[j.at-1].Op == 0x05 {
		whole = j.frame(params, results)
	} else if whole && i.Op == 0x04 && params != results {
		j.at, j.why = j.at-1, api.ErrType
		return nil
	}
	if !whole {
		return nil
	}
	return change(may, ">"+results)
}
