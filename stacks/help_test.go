package stacks_test

import (
	"slices"
	"strconv"
	"strings"
	"testing"

	"plainsong/api"
	"plainsong/check"
	"plainsong/stacks"
)

// kinds are the types as letters: w for I32, l for I64, f for F64, ? for any.
var kinds = map[rune]int{'w': api.I32, 'l': api.I64, 'f': api.F64, '?': 0}

func types(letters string) []int {
	var l []int
	for _, r := range letters {
		l = append(l, kinds[r])
	}
	return l
}

func letters(types []int) string {
	var b []byte
	for _, t := range types {
		b = append(b, map[int]byte{api.I32: 'w', api.I64: 'l', api.F64: 'f', 0: '?'}[t])
	}
	return string(b)
}

// typ reads a type as "wl>f".
func typ(s string) api.Type {
	params, results, _ := strings.Cut(s, ">")
	return api.Type{Params: types(params), Results: types(results)}
}

// names are the instructions that the tests write by name.
var names = map[string]int{
	"unreachable": 0x00, "nop": 0x01, "block": 0x02, "loop": 0x03, "if": 0x04, "else": 0x05, "end": 0x0b,
	"br": 0x0c, "br_if": 0x0d, "br_table": 0x0e, "return": 0x0f, "call": 0x10, "return_call": 0x12,
	"drop": 0x1a, "select": 0x1b, "get": 0x20, "set": 0x21, "tee": 0x22, "gget": 0x23, "gset": 0x24,
	"size": 0x3f, "grow": 0x40, "init": 0xfc08, "ddrop": 0xfc09, "copy": 0xfc0a, "fill": 0xfc0b,
	"w": 0x41, "l": 0x42, "f": 0x44,
	"wstore": 0x36, "lload": 0x29, "weqz": 0x45, "leqz": 0x50, "wadd": 0x6a, "ladd": 0x7c, "fadd": 0xa0, "fsat": 0xfc02,
}

// code reads instructions: each a name, with its indices behind a colon.
func code(s string) []api.Inst {
	var l []api.Inst
	for _, word := range strings.Fields(s) {
		name, rest, _ := strings.Cut(word, ":")
		op, is := names[name]
		if !is {
			panic("no instruction: " + name)
		}
		l = append(l, with(op, numbers(rest)...))
	}
	return l
}

func numbers(s string) []int {
	var l []int
	for _, v := range strings.FieldsFunc(s, func(r rune) bool { return r == ',' }) {
		n, err := strconv.Atoi(v)
		if err != nil {
			panic("no number: " + v)
		}
		l = append(l, n)
	}
	return l
}

func with(op int, indices ...int) api.Inst {
	if op == 0x0e {
		return api.Inst{Op: op, L: slices.Clone(indices)}
	}
	indices = append(slices.Clone(indices), 0, 0)
	return api.Inst{Op: op, A: indices[0], B: indices[1]}
}

// consts puts values of these types on the stack.
func consts(letters string) []api.Inst {
	var l []api.Inst
	for _, r := range letters {
		l = append(l, with(names[string(r)]))
	}
	return l
}

func join(parts ...[]api.Inst) []api.Inst { return slices.Concat(parts...) }

// base returns a module with a function of this type and this code, and with something of all that it may name:
//
//	functions  0 and 1 are imported (wlf>fw, >), 2 is the one with the code, 3 to 5 are others (w>w, ww>, >wl)
//	locals     the parameters, w, l, f
//	globals    w, w, l, l, f, f, of which the second one of each type may be set
//	memories   2
//	datas      3
//	types      as they stand below; the last one is that of the function
func base(signature string, body []api.Inst) api.Module {
	m := api.Module{
		Mems:  []api.Mem{{Min: 1, Max: 2}, {Max: 1}},
		Datas: []api.Data{{Active: true, Mem: 1, Bytes: []byte{1}}, {Bytes: []byte{2, 3}}, {}},
	}
	for _, s := range []string{">", "w>w", "wlf>fw", ">wl", "ww>", "lw>wl", "w>", signature} {
		m.Types = append(m.Types, typ(s))
	}
	m.Imports = []api.Import{{Module: "h", Name: "a", Type: 2}, {Module: "h", Name: "b", Type: 0}}
	never := code("unreachable end")
	m.Funcs = []api.Func{
		{Type: len(m.Types) - 1, Locals: types("wlf"), Code: body},
		{Type: 1, Code: never}, {Type: 4, Code: never}, {Type: 3, Code: never},
	}
	for _, t := range types("wwllff") {
		m.Globals = append(m.Globals, api.Global{Type: t, Var: len(m.Globals)%2 == 1})
	}
	m.Exports = []api.Export{{Name: "f", Index: 2}, {Name: "g", Kind: api.ExGlobal, Index: 1}}
	return m
}

// told writes Rows as the tests do: a word each, of the types as letters, a point if there are none, and a ! if the frame is dead.
func told(rows []stacks.Row) string {
	var words []string
	for _, r := range rows {
		word := letters(r.Types)
		if word == "" {
			word = "."
		}
		if r.Dead {
			word += "!"
		}
		words = append(words, word)
	}
	return strings.Join(words, " ")
}

// deepest returns how many types the longest of these words has.
func deepest(rows string) int {
	most := 0
	for _, word := range strings.Fields(rows) {
		most = max(most, len(strings.Trim(word, ".!")))
	}
	return most
}

// asks holds Of and Depth of a function to the Rows that are known of it.
func asks(t *testing.T, m api.Module, f int, want, what string) {
	t.Helper()
	if why := check.Module(m, api.Rich); why != api.OK {
		t.Errorf("%s is not well typed: %d", what, why)
		return
	}
	if got := told(stacks.Of(m, f)); got != want {
		t.Errorf("P11.1: Of of %s:\n%s\nwant\n%s", what, got, want)
	}
	if got := stacks.Depth(m, f); got != deepest(want) {
		t.Errorf("P11.1: Depth of %s: %d, want %d", what, got, deepest(want))
	}
}

// none holds Of and Depth to what they are where there is nothing to be told.
func none(t *testing.T, m api.Module, f int, what string) {
	t.Helper()
	if got := stacks.Of(m, f); len(got) != 0 {
		t.Errorf("P11.1: Of of %s: %s", what, told(got))
	}
	if got := stacks.Depth(m, f); got != 0 {
		t.Errorf("P11.1: Depth of %s: %d", what, got)
	}
}
