package machine_test

import (
	"bytes"
	"math"
	"reflect"
	"testing"

	"plainsong/api"
	"plainsong/host"
	"plainsong/machine"
	mod "plainsong/module"
)

// refused holds New to an error, beside which there is no machine.
func refused(t *testing.T, m api.Module, h *host.Host, budget int, want api.Errno, what string) {
	t.Helper()
	if v, why := machine.New(m, h, budget); v != nil || why != want {
		t.Errorf("P14.1: New of %s, budget %d: machine %v, error %d, want %d", what, budget, v != nil, why, want)
	}
}

// Every fault comes with all those behind it in the chapter's order.
func TestErrorsOfNewInTheirOrder(t *testing.T) {
	m := base(">", "end")
	m.Datas[2].At = 2049
	refused(t, m, host.New(), 3, api.ErrLink, "a data that does not fit")
	refused(t, m, host.New(), 2, api.ErrOver, "a data that does not fit")
	for _, v := range []struct {
		what  string
		want  api.Errno
		spoil func(m *api.Module)
	}{
		{"wrong types", api.ErrType, func(m *api.Module) { m.Funcs[0].Code = code("drop end") }},
		{"a global that may not be set", api.ErrType, func(m *api.Module) { m.Funcs[0].Code = code("w:1 gset:0 end") }},
		{"a local that does not exist", api.ErrIndex, func(m *api.Module) { m.Funcs[0].Code = code("get:9 drop end") }},
		{"a type that does not exist", api.ErrIndex, func(m *api.Module) { m.Imports[0].Type = 99 }},
		{"an export of nothing", api.ErrIndex, func(m *api.Module) { m.Exports[0].Index = 3 }},
		{"a data for no memory", api.ErrIndex, func(m *api.Module) { m.Datas[0].Mem = 3 }},
		{"blocks too deep", api.ErrOver, func(m *api.Module) { m.Funcs[0].Code = nested(65) }},
		{"no end", api.ErrForm, func(m *api.Module) { m.Funcs[0].Code = nil }},
		{"no such instruction", api.ErrForm, func(m *api.Module) { m.Funcs[0].Code[0].Op = 0x2a }},
		{"an export twice", api.ErrForm, func(m *api.Module) { m.Exports[1].Name = "m" }},
		{"too many memories", api.ErrFull, func(m *api.Module) { m.Mems = make([]api.Mem, 5) }},
	} {
		c := mod.Copy(m)
		v.spoil(&c)
		refused(t, c, host.New(), 2, v.want, v.what)
		refused(t, c, nil, 2, api.ErrArg, v.what+" without a host")
	}
	refused(t, m, nil, 3, api.ErrArg, "a data that does not fit, without a host")
	refused(t, base(">", "end"), nil, 3, api.ErrArg, "a right module without a host")
}

// nested returns so many blocks in each other.
func nested(n int) []api.Inst {
	var l []api.Inst
	for range n {
		l = append(l, code("block:-1")...)
	}
	for range n {
		l = append(l, code("end")...)
	}
	return append(l, code("end")...)
}

func TestBudgetOfNew(t *testing.T) {
	mems := func(mins ...int) api.Module {
		var m api.Module
		for _, n := range mins {
			m.Mems = append(m.Mems, api.Mem{Min: n, Max: 512})
		}
		return m
	}
	for _, v := range []struct {
		m      api.Module
		budget int
		want   api.Errno
	}{
		{mems(), 0, api.OK}, {mems(), -1, api.ErrOver}, {mems(), math.MinInt, api.ErrOver}, {mems(), math.MaxInt, api.OK},
		{mems(0), 0, api.OK}, {mems(1), 0, api.ErrOver}, {mems(1), 1, api.OK}, {mems(1, 2, 3, 4), 10, api.OK}, {mems(1, 2, 3, 4), 9, api.ErrOver},
		{mems(512), 512, api.OK}, {mems(512), 511, api.ErrOver}, {mems(512), math.MaxInt, api.OK}, {mems(512, 0), 513, api.OK},
		{mems(512, 1), 513, api.ErrOver}, {mems(512, 1), math.MaxInt, api.ErrOver}, {mems(512, 512, 512, 512), 1 << 30, api.ErrOver}, {mems(256, 256), 600, api.OK},
	} {
		made, why := machine.New(v.m, host.New(), v.budget)
		if why != v.want || (made != nil) != (why == api.OK) {
			t.Errorf("P14.1: New with %v, budget %d: error %d, want %d", v.m.Mems, v.budget, why, v.want)
		}
	}
}

func TestActiveDatasFit(t *testing.T) {
	for _, v := range []struct {
		mem, at, n int
		active     bool
		want       api.Errno
	}{
		{0, 0, 1024, true, api.OK}, {0, 1, 1024, true, api.ErrLink}, {0, 0, 1025, true, api.ErrLink}, {0, 1023, 1, true, api.OK}, {0, 1024, 1, true, api.ErrLink},
		{0, 1024, 0, true, api.OK}, {0, 1025, 0, true, api.ErrLink}, {0, math.MaxInt32, 0, true, api.ErrLink}, {0, math.MaxInt32, 9, true, api.ErrLink},
		{1, 0, 0, true, api.OK}, {1, 0, 1, true, api.ErrLink}, {1, 1, 0, true, api.ErrLink},
		{2, 1024, 1024, true, api.OK}, {2, 1025, 1024, true, api.ErrLink}, {2, 2048, 0, true, api.OK},
		{0, 0, 5000, false, api.OK},
	} {
		m := base(">", "end")
		m.Datas[1] = api.Data{Active: v.active, Mem: v.mem, At: v.at, Bytes: make([]byte, v.n)}
		if made, why := machine.New(m, host.New(), 9); why != v.want || (made != nil) != (why == api.OK) {
			t.Errorf("P14.1: New with %d bytes at %d of memory %d, active %v: error %d, want %d", v.n, v.at, v.mem, v.active, why, v.want)
		}
	}
}

func TestInitialValues(t *testing.T) {
	m := base(">", "end")
	m.Datas = []api.Data{
		{Active: true, At: 2, Bytes: []byte{1, 1, 1, 1}}, {Bytes: []byte{9, 9}}, {Active: true, Mem: 2, At: 2046, Bytes: []byte{5, 6}},
		{Active: true, At: 3, Bytes: []byte{2, 2}}, {Active: true, At: 4, Bytes: []byte{3}}, {Active: true, At: 1023, Bytes: []byte{4}},
	}
	v := runs(t, m)
	want := [][]byte{make([]byte, 1024), nil, make([]byte, 2048)}
	copy(want[0][2:], []byte{1, 2, 3, 1})
	want[0][1023] = 4
	copy(want[2][2046:], []byte{5, 6})
	for k, max := range []int{3, 2, 2} {
		if got := v.Memory(k); !bytes.Equal(got.Bytes(), want[k]) || got.Max() != max || got.Pages() != len(want[k])/1024 {
			t.Errorf("P14.1: memory %d of a new machine: %d pages of %d, %v", k, got.Pages(), got.Max(), got.Bytes())
		}
	}
	if v.Pages() != 3 {
		t.Errorf("P14.1: %d pages, want 3", v.Pages())
	}
	for k, g := range m.Globals {
		if got, is := v.Global(k); got != g.Init || !is {
			t.Errorf("P14.1: Global(%d) of a new machine: %d, %v", k, got, is)
		}
	}
	for _, k := range []int{-1, 3, 4, math.MaxInt, math.MinInt} {
		if v.Memory(k) != nil {
			t.Errorf("P14.1: there is a memory %d", k)
		}
	}
	for _, k := range []int{-1, 6, 7, math.MaxInt, math.MinInt} {
		if got, is := v.Global(k); got != 0 || is {
			t.Errorf("P14.1: Global(%d): %d, %v", k, got, is)
		}
	}
	none := runs(t, api.Module{})
	if _, is := none.Global(0); is || none.Memory(0) != nil || none.Pages() != 0 || none.Grow(0, 0) != -1 || none.SetGlobal(0, 0) != api.ErrIndex {
		t.Error("P14.1: a machine of an empty module has something")
	}
}

// What is done to a memory that Memory returns is done to that of the machine.
func TestMemoryIsThatOfTheMachine(t *testing.T) {
	v := runs(t, base(">w", "w:100 wload end"))
	v.Memory(0).Store(100, 4, 77)
	if got, _ := call(t, v, 3); got != "77" {
		t.Errorf("P14.1: after a Store in Memory(0): %s, want 77", got)
	}
	if v.Memory(0) != v.Memory(0) || v.Memory(0) == v.Memory(2) {
		t.Error("P14.1: Memory returns another memory each time, or the same one for all")
	}
	other := runs(t, base(">w", "w:100 wload end"))
	if got, _ := call(t, other, 3); got != "0" {
		t.Errorf("P14.1: another machine: %s, want 0", got)
	}
}

func TestSetGlobal(t *testing.T) {
	v := runs(t, base(">", "end"))
	const big = 0xfedcba9876543210
	for _, c := range []struct {
		k    int
		want api.Errno
		now  uint64
	}{
		{0, api.ErrType, 7}, {1, api.OK, 0x76543210}, {2, api.ErrType, 9}, {3, api.OK, big}, {4, api.ErrType, math.Float64bits(1.5)}, {5, api.OK, big},
	} {
		why := v.SetGlobal(c.k, big)
		if got, _ := v.Global(c.k); why != c.want || got != c.now {
			t.Errorf("P14.1: SetGlobal(%d): error %d, then %#x, want %d, %#x", c.k, why, got, c.want, c.now)
		}
	}
	for _, k := range []int{-1, 6, math.MaxInt, math.MinInt} {
		if why := v.SetGlobal(k, 1); why != api.ErrIndex {
			t.Errorf("P14.1: SetGlobal(%d): error %d", k, why)
		}
	}
	v.SetGlobal(5, 0x7ff0000000000001)
	if got, _ := v.Global(5); got != 0x7ff0000000000001 {
		t.Errorf("P14.1: SetGlobal to a NaN: %#x", got)
	}
}

func TestGrow(t *testing.T) {
	for _, c := range []struct {
		budget int
		calls  [][3]int // k, n, what Grow answers
		pages  int
	}{
		{512, [][3]int{{0, 0, 1}, {0, 1, 1}, {0, 1, 2}, {0, 1, -1}, {0, 0, 3}, {1, 2, 0}, {1, 1, -1}, {2, 0, 2}, {2, 1, -1}}, 7},
		{4, [][3]int{{0, 2, -1}, {0, 1, 1}, {1, 1, -1}, {0, 1, -1}, {1, 0, 0}, {0, 0, 2}, {2, 0, 2}}, 4},
		{5, [][3]int{{1, 2, 0}, {0, 1, -1}, {0, 0, 1}}, 5},
		{3, [][3]int{{0, 1, -1}, {1, 1, -1}, {0, 0, 1}, {1, 0, 0}}, 3},
		{math.MaxInt, [][3]int{{0, 3, -1}, {0, 2, 1}}, 5},
		{512, [][3]int{{0, -1, -1}, {0, math.MinInt, -1}, {0, math.MaxInt, -1}, {1, math.MaxInt, -1}, {2, math.MaxInt - 2, -1}, {1, math.MaxInt - 3, -1}, {-1, 0, -1}, {3, 0, -1}, {math.MaxInt, 0, -1}, {math.MinInt, 1, -1}}, 3},
	} {
		v := asking(t, base(">", "end"), host.New(), c.budget)
		for _, g := range c.calls {
			was := v.Pages()
			if got := v.Grow(g[0], g[1]); got != g[2] || got < 0 && v.Pages() != was || got >= 0 && v.Pages() != was+g[1] {
				t.Errorf("P14.1: Grow(%d, %d) with %d pages, budget %d: %d, then %d pages", g[0], g[1], was, c.budget, got, v.Pages())
			}
		}
		if v.Pages() != c.pages {
			t.Errorf("P14.1: %d pages after %v, budget %d", v.Pages(), c.calls, c.budget)
		}
	}
}

// A budget greater than MaxPages counts as that, and memories that grew by themselves count, too.
func TestGrowUpToAllPages(t *testing.T) {
	m := api.Module{Mems: []api.Mem{{Min: 1, Max: 512}, {Min: 0, Max: 512}}}
	for _, budget := range []int{512, 513, math.MaxInt} {
		v := asking(t, m, host.New(), budget)
		if v.Grow(0, 512) != -1 || v.Grow(1, 512) != -1 || v.Grow(1, 511) != 0 || v.Grow(0, 1) != -1 || v.Grow(0, 0) != 1 || v.Pages() != 512 {
			t.Errorf("P14.1: Grow with the budget %d: %d pages", budget, v.Pages())
		}
	}
	v := asking(t, m, host.New(), 10)
	if v.Memory(1).Grow(9) != 0 || v.Pages() != 10 || v.Grow(0, 1) != -1 || v.Grow(0, 0) != 1 {
		t.Error("P14.1: pages that a memory got by itself don't count")
	}
	if v.Memory(1).Grow(1) != 9 || v.Pages() != 11 || v.Grow(0, 0) != -1 || v.Grow(1, 0) != -1 {
		t.Error("P14.1: Grow where there are more pages than the budget already")
	}
}

// New neither changes its module, spare capacity included, nor keeps any of it.
func TestNewKeepsNothingOfItsModule(t *testing.T) {
	m := and(base("w>w", "get:0 call:4 block:0 w:0 br_table:0,0 end nop w:0 w:0 w:5 init:0,1 w:3 byte wadd end"), "w>w", "get:0 w:1 wadd end")
	var lists []reflect.Value
	roomyParts(reflect.ValueOf(&m).Elem(), &lists)
	was := mod.Copy(m)
	behind := spares(lists)
	v := runs(t, m)
	if !mod.Same(m, was) || !reflect.DeepEqual(spares(lists), behind) {
		t.Error("R2: New has changed its module")
	}
	for _, l := range lists {
		l.Slice(0, l.Cap()).Clear()
	}
	if got, _ := call(t, v, 3, 20); got != "29" {
		t.Errorf("R2: a machine whose module was changed later: %s, want 29", got)
	}
	if r, why := v.Invoke("f", []uint64{20}, plenty, 9); why != api.OK || told(r) != "29" {
		t.Errorf("R2: a machine whose module was changed later: Invoke: %s, %d", told(r), why)
	}
}

// roomyParts gives each list in v two spare elements, which are like its last one, and adds it to l.
func roomyParts(v reflect.Value, l *[]reflect.Value) {
	switch v.Kind() {
	case reflect.Struct:
		for i := range v.NumField() {
			roomyParts(v.Field(i), l)
		}
	case reflect.Slice:
		wide := reflect.MakeSlice(v.Type(), v.Len()+2, v.Len()+2)
		reflect.Copy(wide, v)
		if n := v.Len(); n > 0 {
			wide.Index(n).Set(v.Index(n - 1))
			wide.Index(n + 1).Set(v.Index(n - 1))
		}
		v.Set(wide.Slice(0, v.Len()))
		for i := range v.Len() {
			roomyParts(v.Index(i), l)
		}
		*l = append(*l, v)
	}
}

// spares copies what lies behind the ends of these lists.
func spares(lists []reflect.Value) []any {
	var all []any
	for _, l := range lists {
		c := reflect.MakeSlice(l.Type(), l.Cap()-l.Len(), l.Cap()-l.Len())
		reflect.Copy(c, l.Slice(l.Len(), l.Cap()))
		all = append(all, c.Interface())
	}
	return all
}
