package check_test

import (
	"reflect"
	"slices"
	"strconv"
	"strings"
	"testing"

	"plainsong/api"
	"plainsong/check"
)

// kinds are the types as letters: w for I32, l for I64, f for F64.
var kinds = map[rune]int{'w': api.I32, 'l': api.I64, 'f': api.F64}

func types(letters string) []int {
	var l []int
	for _, r := range letters {
		l = append(l, kinds[r])
	}
	return l
}

func letters(types []int) string {
	var b []byte
	for _, t := range types {
		b = append(b, map[int]byte{api.I32: 'w', api.I64: 'l', api.F64: 'f'}[t])
	}
	return string(b)
}

// typ reads a type as "wl>f".
func typ(s string) api.Type {
	params, results, _ := strings.Cut(s, ">")
	return api.Type{Params: types(params), Results: types(results)}
}

// names are the instructions that the tests write by name.
var names = map[string]int{
	"unreachable": 0x00, "nop": 0x01, "block": 0x02, "loop": 0x03, "if": 0x04, "else": 0x05, "end": 0x0b,
	"br": 0x0c, "br_if": 0x0d, "br_table": 0x0e, "return": 0x0f, "call": 0x10, "return_call": 0x12,
	"drop": 0x1a, "select": 0x1b, "get": 0x20, "set": 0x21, "tee": 0x22, "gget": 0x23, "gset": 0x24,
	"size": 0x3f, "grow": 0x40, "init": 0xfc08, "ddrop": 0xfc09, "copy": 0xfc0a, "fill": 0xfc0b,
	"w": 0x41, "l": 0x42, "f": 0x44,
	"wstore": 0x36, "lload": 0x29, "weqz": 0x45, "leqz": 0x50, "wadd": 0x6a, "ladd": 0x7c, "fadd": 0xa0,
}

// code reads instructions: each a name, or a number, with its indices behind a colon.
func code(s string) []api.Inst {
	var l []api.Inst
	for _, word := range strings.Fields(s) {
		name, rest, _ := strings.Cut(word, ":")
		op, is := names[name]
		if !is {
			n, err := strconv.ParseInt(name, 16, 64)
			if err != nil {
				panic("no instruction: " + name)
			}
			op = int(n)
		}
		l = append(l, with(op, numbers(rest)))
	}
	return l
}

func numbers(s string) []int {
	var l []int
	for _, v := range strings.FieldsFunc(s, func(r rune) bool { return r == ',' }) {
		n, err := strconv.Atoi(v)
		if err != nil {
			panic("no number: " + v)
		}
		l = append(l, n)
	}
	return l
}

func with(op int, indices []int) api.Inst {
	if op == 0x0e {
		return api.Inst{Op: op, L: indices}
	}
	indices = append(indices, 0, 0)
	return api.Inst{Op: op, A: indices[0], B: indices[1]}
}

// consts puts values of these types on the stack.
func consts(letters string) []api.Inst {
	var l []api.Inst
	for _, r := range letters {
		l = append(l, api.Inst{Op: names[string(r)]})
	}
	return l
}

// sets takes values of these types off the stack, into the locals that base has for them.
func sets(letters string) []api.Inst {
	var l []api.Inst
	for k := len(letters) - 1; k >= 0; k-- {
		l = append(l, api.Inst{Op: 0x21, A: map[byte]int{'w': 0, 'l': 1, 'f': 2}[letters[k]]})
	}
	return l
}

func join(parts ...[]api.Inst) []api.Inst { return slices.Concat(parts...) }

// base returns a module with a function of this type and this code, and with something of all that it may name:
//
//	functions  0 and 1 are imported (wlf>fw, >), 2 is the one with the code, 3 to 5 are others (w>w, ww>, >wl)
//	locals     the parameters, w, l, f
//	globals    w, w, l, l, f, f, of which the second one of each type may be set
//	memories   2
//	datas      3
//	types      as they stand below; the last one is that of the function
func base(signature string, body []api.Inst) api.Module {
	m := api.Module{
		Mems:  []api.Mem{{Min: 1, Max: 2}, {Max: 1}},
		Datas: []api.Data{{Active: true, Mem: 1, Bytes: []byte{1}}, {Bytes: []byte{2, 3}}, {}},
	}
	for _, s := range []string{">", "w>w", "wlf>fw", ">wl", "ww>", "lw>wl", "w>", signature} {
		m.Types = append(m.Types, typ(s))
	}
	m.Imports = []api.Import{{Module: "h", Name: "a", Type: 2}, {Module: "h", Name: "b", Type: 0}}
	never := code("unreachable end")
	m.Funcs = []api.Func{
		{Type: len(m.Types) - 1, Locals: types("wlf"), Code: body},
		{Type: 1, Code: never}, {Type: 4, Code: never}, {Type: 3, Code: never},
	}
	for _, t := range types("wwllff") {
		m.Globals = append(m.Globals, api.Global{Type: t, Var: len(m.Globals)%2 == 1})
	}
	m.Exports = []api.Export{{Name: "f", Index: 2}, {Name: "m", Kind: api.ExMem, Index: 1}, {Name: "g", Kind: api.ExGlobal, Index: 1}}
	return m
}

// plain returns a module as base does that has nothing which the plain profile hasn't, beside what the code may have.
func plain(signature string, body []api.Inst) api.Module {
	m := base(signature, body)
	for k, t := range m.Types {
		m.Types[k].Results = t.Results[:min(len(t.Results), 1)]
	}
	m.Mems = m.Mems[:1]
	m.Datas = []api.Data{{Active: true}, {Active: true}, {Active: true, At: 5}}
	m.Exports = m.Exports[:2]
	m.Exports[1].Index = 0
	return m
}

// verdict is what Func says.
type verdict struct {
	at  int
	why api.Errno
}

var fine = verdict{-1, api.OK}

// asks holds Func, of the first function, and Module to what is known of both.
func asks(t *testing.T, m api.Module, profile int, want verdict, what string) {
	t.Helper()
	at, why := check.Func(m, 0, profile)
	if (verdict{at, why}) != want {
		t.Errorf("P10.2: Func of %s, profile %d: at %d, %d, want %v", what, profile, at, why, want)
	}
	if got := check.Module(m, profile); got != want.why {
		t.Errorf("P10.1: Module of %s, profile %d: %d, want %d", what, profile, got, want.why)
	}
}

// lists calls see for every list in v, what lies outside first.
func lists(v reflect.Value, see func(reflect.Value)) {
	switch v.Kind() {
	case reflect.Pointer:
		lists(v.Elem(), see)
	case reflect.Struct:
		for i := range v.NumField() {
			lists(v.Field(i), see)
		}
	case reflect.Slice:
		see(v)
		for i := range v.Len() {
			lists(v.Index(i), see)
		}
	}
}

// roomy gives each list of m spare capacity, with something in it.
func roomy(m *api.Module) {
	lists(reflect.ValueOf(m), func(v reflect.Value) {
		wide := reflect.MakeSlice(v.Type(), v.Len()+3, v.Len()+3)
		reflect.Copy(wide, v)
		if n := v.Len(); n > 0 {
			for k := range 3 {
				wide.Index(n + k).Set(v.Index(n - 1))
			}
		}
		v.Set(wide.Slice(0, v.Len()))
	})
}
