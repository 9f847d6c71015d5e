package check_test

import (
	"testing"

	"plainsong/api"
	"plainsong/check"
	"plainsong/match"
	mod "plainsong/module"
)

// compare holds Func and Module to the judge, for each profile; code whose blocks have no ends is refused before.
func compare(t *testing.T, m api.Module) verdict {
	t.Helper()
	body := m.Funcs[0].Code
	if _, why := match.Of(body); why != api.OK {
		for _, profile := range both {
			if got := check.Module(m, profile); got != why {
				t.Fatalf("P10.1: Module of %v: %d, want %d", body, got, why)
			}
			check.Func(m, 0, profile)
		}
		return verdict{-1, why}
	}
	for _, profile := range both {
		want := judged(m, profile)
		if at, why := check.Func(m, 0, profile); (verdict{at, why}) != want {
			t.Fatalf("P10.2: Func of %v, profile %d: at %d, %d, want %v", body, profile, at, why, want)
		}
	}
	want := judged(m, api.Rich)
	if got := check.Module(m, api.Rich); got != want.why {
		t.Fatalf("P10.1: Module of %v: %d, want %d", body, got, want.why)
	}
	return want
}

// each calls see with every code of n words.
func each(words []string, n int, see func([]api.Inst)) {
	var all [][]api.Inst
	for _, w := range words {
		all = append(all, code(w))
	}
	var fill func(l []api.Inst, n int)
	fill = func(l []api.Inst, n int) {
		if n == 0 {
			see(l)
			return
		}
		for _, w := range all {
			fill(join(l, w), n-1)
		}
	}
	fill(nil, n)
}

// Every short code of some instructions.
func TestEachShortCode(t *testing.T) {
	for _, v := range []struct {
		words      []string
		n          int
		signatures []string
	}{
		{[]string{"w", "l", "drop", "select", "weqz", "leqz", "unreachable"}, 5, []string{">", ">w", ">wl"}},
		{[]string{"w", "drop", "block:-1", "block:-2", "if:-2", "else", "end", "unreachable", "br:1"}, 5, []string{">", ">w"}},
		{[]string{"l", "w", "loop:5", "if:1", "else", "end", "br_if:0", "return"}, 5, []string{">", ">wl"}},
		{[]string{"w", "l", "block:-2", "block:-3", "end", "select", "unreachable", "br_table:0,1", "br_table:1,0"}, 5, []string{">w", ">l"}},
		{[]string{"w", "l", "drop", "unreachable", "select", "wadd", "tee:1", "call:3"}, 5, []string{">l"}},
		{[]string{"w", "call:3", "return_call:3", "return_call:1", "gset:1", "gset:0", "gget:4", "set:2"}, 4, []string{">", ">w", ">f"}},
	} {
		right := 0
		for _, signature := range v.signatures {
			m := base(signature, nil)
			for n := range v.n + 1 {
				each(v.words, n, func(l []api.Inst) {
					for range 3 {
						l = join(l, end())
						m.Funcs[0].Code = l
						if compare(t, m) == fine {
							right++
						}
					}
				})
			}
		}
		if right < 20 {
			t.Errorf("only %d codes of %v were right", right, v.words)
		}
	}
}

// Functions that are right, and what comes of them when something is changed.
func TestMadeFunctions(t *testing.T) {
	q := newMaker(1)
	why := map[api.Errno]int{}
	for range 3000 {
		m := q.module()
		if v := compare(t, m); v != fine {
			t.Fatalf("P10.2: Func of a right function: %v: %v", v, m.Funcs[0].Code)
		}
		for range 6 {
			c := mod.Copy(m)
			for range 1 + q.Intn(2) {
				q.spoil(c)
			}
			why[compare(t, c).why]++
		}
	}
	for _, n := range []api.Errno{api.OK, api.ErrForm, api.ErrType, api.ErrIndex} {
		if why[n] < 300 {
			t.Errorf("only %d changed functions have the error %d", why[n], n)
		}
	}
}
