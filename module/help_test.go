package module_test

import (
	"reflect"

	"plainsong/api"
)

// whole returns a valid module with three of each part, no two of them alike.
func whole() api.Module {
	return api.Module{
		Types: []api.Type{
			{},
			{Params: []int{api.I32, api.I64, api.F64}, Results: []int{api.F64, api.I32}},
			{Params: []int{api.F64}, Results: []int{api.I64, api.I32, api.F64}},
		},
		Imports: []api.Import{{Module: "m", Name: "f", Type: 1}, {Module: "m", Name: "g", Type: 2}, {Module: "n", Name: "", Type: 0}},
		Funcs: []api.Func{
			{Type: 2, Locals: []int{api.I32, api.I64, api.F64}, Code: []api.Inst{{Op: 0x01}, {Op: 0x41, N: 7}, {Op: 0x0b}}},
			{Type: 0, Code: []api.Inst{{Op: 0x0e, L: []int{2, 0, 1}}, {Op: 0xfc08, A: 1, B: 2}, {Op: 0x28, A: 2, N: 1 << 20}}},
			{Type: 1, Locals: []int{api.F64, api.F64, api.I32}, Code: []api.Inst{{Op: 0x02, A: -1}, {Op: 0x0b}, {Op: 0x0b}}},
		},
		Mems:    []api.Mem{{Min: 1, Max: 2}, {}, {Min: 3, Max: 500}},
		Globals: []api.Global{{Type: api.I32, Init: 5}, {Type: api.I64, Var: true, Init: 1 << 40}, {Type: api.F64, Init: 1 << 63}},
		Exports: []api.Export{{Name: "a", Kind: api.ExFunc, Index: 4}, {Name: "b", Kind: api.ExMem, Index: 1}, {Name: "c", Kind: api.ExGlobal, Index: 2}},
		Datas:   []api.Data{{Active: true, Mem: 2, At: 9, Bytes: []byte{1, 2, 3}}, {Bytes: []byte{4}}, {Active: true}},
		Customs: []api.Custom{{Name: "x", Bytes: []byte{5, 6}}, {Name: "x"}, {Name: "y", Bytes: []byte{0}}},
	}
}

// shared returns a module in which lists have memory of each other.
func shared() api.Module {
	m := whole()
	types := []int{api.I32, api.I64, api.F64, api.I32}
	bytes := []byte{1, 2, 3, 4}
	for k := range 3 {
		m.Types[k] = api.Type{Params: types, Results: types[1:2]}
		m.Funcs[k].Locals, m.Funcs[k].Code = types[:0], m.Funcs[1].Code
		m.Datas[k].Bytes, m.Customs[k].Bytes = bytes[k:k], bytes
	}
	m.Funcs[1].Code[1].L, m.Funcs[1].Code[2].L = m.Funcs[1].Code[0].L, m.Funcs[1].Code[0].L[:1]
	return m
}

// visit calls see for v and for all that it holds, what lies outside first.
func visit(v reflect.Value, see func(reflect.Value)) {
	see(v)
	switch v.Kind() {
	case reflect.Struct:
		for i := range v.NumField() {
			visit(v.Field(i), see)
		}
	case reflect.Slice:
		for i := range v.Len() {
			visit(v.Index(i), see)
		}
	}
}

// inside calls see for every part of m, which see may set.
func inside(m *api.Module, see func(reflect.Value)) {
	visit(reflect.ValueOf(m).Elem(), see)
}

// stretch puts every list of m into new memory, with wrong elements in its spare capacity.
func stretch(m *api.Module) {
	inside(m, func(v reflect.Value) {
		if v.Kind() != reflect.Slice {
			return
		}
		wrong := reflect.New(v.Type().Elem()).Elem()
		visit(wrong, spoil)
		n := v.Len()
		long := reflect.MakeSlice(v.Type(), n, n+3)
		reflect.Copy(long, v)
		for i := n; i < n+3; i++ {
			long.Slice(0, n+3).Index(i).Set(wrong)
		}
		v.Set(long)
	})
}

// roomy returns whole with spare capacity behind every list.
func roomy() api.Module {
	m := whole()
	stretch(&m)
	return m
}

func spoil(v reflect.Value) {
	switch v.Kind() {
	case reflect.Int:
		v.SetInt(-99)
	case reflect.Uint64, reflect.Uint8:
		v.SetUint(99)
	case reflect.String:
		v.SetString("\xff")
	case reflect.Bool:
		v.SetBool(true)
	}
}

// open lengthens every list of m over its spare capacity.
func open(m *api.Module) {
	inside(m, func(v reflect.Value) {
		if v.Kind() == reflect.Slice {
			v.SetLen(v.Cap())
		}
	})
}

// empty makes every list of m that has no elements an empty one, or none at all.
func empty(m *api.Module, none bool) {
	inside(m, func(v reflect.Value) {
		switch {
		case v.Kind() != reflect.Slice || v.Len() > 0:
		case none:
			v.SetZero()
		default:
			v.Set(reflect.MakeSlice(v.Type(), 0, 3))
		}
	})
}

// region is the memory of a list, from its first byte up to the one after its spare capacity.
type region struct{ from, to uintptr }

func regionOf(list any) region {
	v := reflect.ValueOf(list)
	from := v.Pointer()
	return region{from, from + uintptr(v.Cap())*v.Type().Elem().Size()}
}

func regions(m *api.Module) []region {
	var l []region
	inside(m, func(v reflect.Value) {
		if v.Kind() == reflect.Slice {
			l = append(l, regionOf(v.Interface()))
		}
	})
	return l
}

// meets tells whether r has memory of o, or lies in it as an empty list.
func (r region) meets(o region) bool {
	return r.from < o.to && o.from < max(r.to, r.from+1)
}

// apart tells whether no list of l has memory of another one, or of one of others.
func apart(l, others []region) bool {
	for i, r := range l {
		for _, o := range append(others[:len(others):len(others)], l[:i]...) {
			if r.meets(o) || o.meets(r) {
				return false
			}
		}
	}
	return true
}
