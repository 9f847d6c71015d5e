package module_test

import (
	"math"
	"reflect"
	"slices"
	"testing"

	"plainsong/api"
	"plainsong/module"
)

// equal holds Same against what is known of a and b, both ways around.
func equal(t *testing.T, a, b api.Module, want bool, what string) {
	t.Helper()
	if module.Same(a, b) != want || module.Same(b, a) != want {
		t.Errorf("P6.3: Same of two modules, %s: %v", what, !want)
	}
}

func TestSame(t *testing.T) {
	equal(t, api.Module{}, api.Module{}, true, "both empty")
	equal(t, whole(), whole(), true, "both the same")
	equal(t, whole(), api.Module{}, false, "one of them empty")
	with, without := whole(), whole()
	empty(&with, false)
	empty(&without, true)
	equal(t, with, without, true, "with empty lists and with nil ones")
	equal(t, roomy(), whole(), true, "one with spare capacity")
	m := api.Module{Types: []api.Type{}, Imports: []api.Import{}, Funcs: []api.Func{}, Mems: []api.Mem{}, Globals: []api.Global{}, Exports: []api.Export{}, Datas: []api.Data{}, Customs: []api.Custom{}}
	equal(t, m, api.Module{}, true, "without elements and without lists")
}

// changes sets v to each of some values near to its own, and calls see while it has them.
func changes(v reflect.Value, see func(what string)) {
	was := reflect.New(v.Type()).Elem()
	was.Set(v)
	try := func(what string, change func()) {
		change()
		see(what)
		v.Set(was)
	}
	switch v.Kind() {
	case reflect.Int:
		try("a bit", func() { v.SetInt(was.Int() ^ 1) })
		try("a high bit", func() { v.SetInt(was.Int() ^ 1<<40) })
		try("the sign", func() { v.SetInt(^was.Int()) })
	case reflect.Uint64:
		try("a bit", func() { v.SetUint(was.Uint() ^ 1) })
		try("the highest bit", func() { v.SetUint(was.Uint() ^ 1<<63) })
	case reflect.Uint8:
		try("a byte", func() { v.SetUint(was.Uint() ^ 0x80) })
	case reflect.String:
		try("a longer text", func() { v.SetString(was.String() + "\x00") })
		try("another text", func() { v.SetString("\xff" + was.String()) })
	case reflect.Bool:
		try("a flag", func() { v.SetBool(!was.Bool()) })
	case reflect.Slice:
		n := was.Len()
		try("a longer list", func() { v.Set(reflect.Append(was.Slice3(0, n, n), reflect.Zero(v.Type().Elem()))) })
		if n > 0 {
			try("a list without its last", func() { v.Set(was.Slice(0, n-1)) })
			try("a list without its first", func() { v.Set(was.Slice(1, n)) })
			try("no list", func() { v.SetZero() })
		}
	}
}

// A difference in any part counts, in those of invalid modules too.
func TestSameSeesEveryPart(t *testing.T) {
	broken := whole()
	inside(&broken, spoil)
	for _, m := range []api.Module{whole(), broken} {
		was := module.Copy(m)
		equal(t, m, was, true, "one of them a copy")
		count := 0
		inside(&m, func(v reflect.Value) {
			changes(v, func(what string) {
				count++
				equal(t, m, was, false, what+" in "+v.Type().String())
			})
		})
		if count < 300 {
			t.Errorf("only %d changes were tried", count)
		}
		equal(t, m, was, true, "the changes taken back")
	}
}

func TestCopy(t *testing.T) {
	if got := module.Copy(api.Module{}); !reflect.DeepEqual(got, api.Module{}) {
		t.Errorf("P6.3: Copy of an empty module: %v", got)
	}
	for _, none := range []bool{false, true} {
		m, want := whole(), whole()
		empty(&m, none)
		c := module.Copy(m)
		empty(&c, true)
		empty(&want, true)
		if !reflect.DeepEqual(c, want) {
			t.Errorf("P6.3: Copy: %v, want %v", c, want)
		}
	}
	broken := whole()
	inside(&broken, spoil)
	if c := module.Copy(broken); !reflect.DeepEqual(c, broken) {
		t.Errorf("P6.3: Copy of an invalid module: %v, want %v", c, broken)
	}
}

func TestCopyIsNew(t *testing.T) {
	for i, build := range []func() api.Module{roomy, shared} {
		m, was := build(), build()
		c := module.Copy(m)
		equal(t, c, was, true, "one of them a copy")
		if !apart(regions(&c), regions(&m)) {
			t.Errorf("R2: Copy of module %d: it shares memory", i)
		}
		inside(&c, func(v reflect.Value) {
			if v.Kind() == reflect.Slice {
				v.SetLen(v.Cap())
			}
			spoil(v)
		})
		open(&m)
		open(&was)
		if !reflect.DeepEqual(m, was) {
			t.Errorf("P6.3: module %d is another one after its copy was overwritten", i)
		}
	}
}

// signature is a type, or that there is none.
type signature struct {
	params, results []int
	is              bool
}

func (s signature) same(t api.Type, is bool) bool {
	return s.is == is && slices.Equal(s.params, t.Params) && slices.Equal(s.results, t.Results)
}

var (
	first  = signature{is: true}
	second = signature{[]int{api.I32, api.I64, api.F64}, []int{api.F64, api.I32}, true}
	third  = signature{[]int{api.F64}, []int{api.I64, api.I32, api.F64}, true}
)

func TestBlock(t *testing.T) {
	want := map[int]signature{
		-1: {is: true},
		-2: {results: []int{api.I32}, is: true},
		-3: {results: []int{api.I64}, is: true},
		-4: {results: []int{api.F64}, is: true},
	}
	for _, m := range []api.Module{{}, {Types: whole().Types[:1]}, whole(), great()} {
		for k, v := range m.Types {
			want[k] = signature{v.Params, v.Results, true}
		}
		for _, a := range []int{math.MinInt, -1<<32 - 1, -1 << 32, -100, 100, 1 << 32, 1<<32 + 1, math.MaxInt} {
			if got, is := module.Block(m, a); !(signature{}).same(got, is) {
				t.Errorf("P6.3: Block of %d types, %d: %v, %v", len(m.Types), a, got, is)
			}
		}
		for a := -70; a < 70; a++ {
			if got, is := module.Block(m, a); !want[a].same(got, is) {
				t.Errorf("P6.3: Block of %d types, %d: %v, %v", len(m.Types), a, got, is)
			}
		}
	}
}

// The functions of whole: its Imports have the types 1, 2, 0, its Funcs 2, 0, 1.
func TestSig(t *testing.T) {
	sigs := []signature{second, third, first, third, first, second}
	m := whole()
	for f := -10; f < 20; f++ {
		want := signature{}
		if f >= 0 && f < len(sigs) {
			want = sigs[f]
		}
		if got, is := module.Sig(m, f); !want.same(got, is) {
			t.Errorf("P6.3: Sig(%d): %v, %v", f, got, is)
		}
	}
	for _, f := range []int{math.MinInt, math.MinInt + 3, math.MinInt + 4, -1 << 32, 1 << 32, math.MaxInt} {
		if got, is := module.Sig(m, f); !(signature{}).same(got, is) {
			t.Errorf("P6.3: Sig(%d): %v, %v", f, got, is)
		}
	}
	if got, is := module.Sig(api.Module{}, 0); !(signature{}).same(got, is) {
		t.Errorf("P6.3: Sig of an empty module: %v, %v", got, is)
	}
	m.Imports = nil
	if got, is := module.Sig(m, 0); !third.same(got, is) {
		t.Errorf("P6.3: Sig of a module without imports: %v, %v", got, is)
	}
	m = whole()
	m.Funcs = nil
	if got, is := module.Sig(m, 2); !first.same(got, is) {
		t.Errorf("P6.3: Sig of a module without funcs: %v, %v", got, is)
	}
	if got, is := module.Sig(m, 3); !(signature{}).same(got, is) {
		t.Errorf("P6.3: Sig beyond the imports: %v, %v", got, is)
	}
}

func TestLocals(t *testing.T) {
	m := whole()
	want := map[int][]int{
		3: {api.F64, api.I32, api.I64, api.F64},
		4: {},
		5: {api.I32, api.I64, api.F64, api.F64, api.F64, api.I32},
	}
	for f := -10; f < 20; f++ {
		if got := module.Locals(m, f); !slices.Equal(got, want[f]) {
			t.Errorf("P6.3: Locals(%d): %v, want %v", f, got, want[f])
		}
	}
	for _, f := range []int{math.MinInt, math.MinInt + 3, -1 << 32, 1<<32 + 3, math.MaxInt} {
		if got := module.Locals(m, f); len(got) > 0 {
			t.Errorf("P6.3: Locals(%d): %v", f, got)
		}
	}
	if got := module.Locals(api.Module{}, 0); len(got) > 0 {
		t.Errorf("P6.3: Locals of an empty module: %v", got)
	}
	m.Imports = nil
	if got := module.Locals(m, 0); !slices.Equal(got, want[3]) {
		t.Errorf("P6.3: Locals of a module without imports: %v", got)
	}
}

// A Type that is no index makes a function without a type, and without locals, but leaves the others as they are.
func TestFunctionsWithoutType(t *testing.T) {
	for _, k := range []int{math.MinInt, -4, -1, 3, 4, 1 << 32, math.MaxInt} {
		m := whole()
		m.Imports[1].Type, m.Funcs[0].Type = k, k
		for _, f := range []int{1, 3} {
			if got, is := module.Sig(m, f); !(signature{}).same(got, is) {
				t.Errorf("P6.3: Sig of a function with the type %d: %v, %v", k, got, is)
			}
			if got := module.Locals(m, f); len(got) > 0 {
				t.Errorf("P6.3: Locals of a function with the type %d: %v", k, got)
			}
		}
		if got, is := module.Sig(m, 5); !second.same(got, is) {
			t.Errorf("P6.3: Sig(5): %v, %v", got, is)
		}
	}
}

func TestTypesAreNew(t *testing.T) {
	for _, build := range []func() api.Module{roomy, shared} {
		m, was := build(), build()
		all := regions(&m)
		check := func(what string, lists ...[]int) {
			var l []region
			for _, v := range lists {
				l = append(l, regionOf(v))
			}
			if !apart(l, all) {
				t.Errorf("R2: %s shares memory", what)
			}
			for _, v := range lists {
				v = v[:cap(v)]
				for i := range v {
					v[i] = -1
				}
			}
		}
		for n := range 6 {
			b, _ := module.Block(m, n-4)
			check("Block", b.Params, b.Results)
			s, _ := module.Sig(m, n)
			check("Sig", s.Params, s.Results)
			check("Locals", module.Locals(m, n))
		}
		if b, is := module.Block(m, -2); !is || len(b.Params) > 0 || !slices.Equal(b.Results, []int{api.I32}) {
			t.Errorf("R2: Block hangs on an earlier answer: %v", b)
		}
		open(&m)
		open(&was)
		if !reflect.DeepEqual(m, was) {
			t.Error("R2: an answer that was overwritten has changed the module")
		}
	}
}
