package machine_test

import (
	"math"
	"reflect"
	"slices"
	"testing"

	"plainsong/api"
	"plainsong/host"
	"plainsong/machine"
)

func TestErrorsOfCall(t *testing.T) {
	v := runs(t, base("wl>w", "w:5 gset:1 w:1 end"))
	for _, c := range []struct {
		f     int
		args  int
		fuel  int64
		depth int
		want  api.Errno
	}{
		{3, 2, 9, 1, api.OK}, {3, 2, 0, 0, api.OK}, {3, 2, api.MaxFuel, 4096, api.OK}, {2, 0, 0, 0, api.OK}, {0, 3, 0, 0, api.OK},
		{4, 2, 9, 1, api.ErrIndex}, {-1, 2, 9, 1, api.ErrIndex}, {math.MaxInt, 2, 9, 1, api.ErrIndex}, {math.MinInt, 2, 9, 1, api.ErrIndex},
		{4, 9, -1, -1, api.ErrIndex}, {-1, 0, math.MaxInt64, 9999, api.ErrIndex},
		{3, 1, 9, 1, api.ErrArg}, {3, 3, 9, 1, api.ErrArg}, {3, 0, 9, 1, api.ErrArg}, {2, 1, 9, 1, api.ErrArg}, {0, 2, 9, 1, api.ErrArg},
		{3, 2, -1, 1, api.ErrArg}, {3, 2, api.MaxFuel + 1, 1, api.ErrArg}, {3, 2, math.MaxInt64, 1, api.ErrArg}, {3, 2, math.MinInt64, 1, api.ErrArg},
		{3, 2, 9, -1, api.ErrArg}, {3, 2, 9, 4097, api.ErrArg}, {3, 2, 9, math.MaxInt, api.ErrArg}, {3, 2, 9, math.MinInt, api.ErrArg},
		{2, 0, -1, 1, api.ErrArg}, {2, 0, 1, -1, api.ErrArg}, {2, 0, 1, 4097, api.ErrArg},
	} {
		v.SetGlobal(1, 8)
		r, why := v.Call(c.f, make([]uint64, c.args), c.fuel, c.depth)
		if why != c.want {
			t.Errorf("P14.2: Call(%d, %d args, %d, %d): error %d, want %d", c.f, c.args, c.fuel, c.depth, why, c.want)
		}
		if now, _ := v.Global(1); why != api.OK && (!reflect.DeepEqual(r, machine.Result{}) || now != 8) {
			t.Errorf("R3: Call(%d, %d args, %d, %d) with the error %d: %v", c.f, c.args, c.fuel, c.depth, why, r)
		}
	}
	if _, why := runs(t, api.Module{}).Call(0, nil, 0, 0); why != api.ErrIndex {
		t.Errorf("P14.2: Call of a machine without functions: error %d", why)
	}
}

// A Call that is refused asks nobody.
func TestRefusedCallAsksNobody(t *testing.T) {
	h := host.New()
	v := asking(t, base(">", "call:2 end"), h, 9)
	v.Call(2, nil, -1, 1)
	v.Call(2, []uint64{1}, 1, 1)
	v.Call(3, nil, 1, 5000)
	v.Invoke("x", nil, 1, 1)
	if got := h.Calls(); len(got) > 0 {
		t.Errorf("R3: refused Calls have asked the host: %v", got)
	}
}

func TestInvoke(t *testing.T) {
	m := base("w>w", "get:0 w:1 wadd end")
	m.Exports = append(m.Exports, api.Export{Name: "", Index: 3}, api.Export{Name: "again", Index: 3}, api.Export{Name: "héè", Index: 0})
	v := runs(t, m, host.Answer{Values: []uint64{5}}, host.Answer{Values: []uint64{6, 7}})
	for _, c := range []struct {
		name string
		args []uint64
		want string
		why  api.Errno
	}{
		{"f", []uint64{4}, "5", api.OK}, {"", []uint64{5}, "6", api.OK}, {"again", []uint64{6}, "7", api.OK}, {"h", nil, "5", api.OK}, {"héè", []uint64{1, 2, 3}, "6 7", api.OK},
		{"m", nil, "", api.ErrNone}, {"g", nil, "", api.ErrNone}, {"F", []uint64{4}, "", api.ErrNone}, {"ff", []uint64{4}, "", api.ErrNone}, {"b", nil, "", api.ErrNone}, {"\xff", nil, "", api.ErrNone},
		{"f", nil, "", api.ErrArg}, {"f", []uint64{1, 2}, "", api.ErrArg},
	} {
		r, why := v.Invoke(c.name, c.args, 9, 1)
		if why != c.why || told(r) != c.want || why != api.OK && !reflect.DeepEqual(r, machine.Result{}) {
			t.Errorf("P14.2: Invoke(%q, %v): %s, error %d, want %s, %d", c.name, c.args, told(r), why, c.want, c.why)
		}
	}
	for _, c := range []struct {
		name  string
		fuel  int64
		depth int
		want  api.Errno
	}{
		{"f", -1, 1, api.ErrArg}, {"f", api.MaxFuel + 1, 1, api.ErrArg}, {"f", 1, -1, api.ErrArg}, {"f", 1, 4097, api.ErrArg}, {"f", api.MaxFuel, 4096, api.OK},
		{"m", -1, -1, api.ErrNone}, {"x", -1, 5000, api.ErrNone}, {"x", 1, 1, api.ErrNone},
	} {
		if _, why := v.Invoke(c.name, []uint64{1}, c.fuel, c.depth); why != c.want {
			t.Errorf("P14.2: Invoke(%q, .., %d, %d): error %d, want %d", c.name, c.fuel, c.depth, why, c.want)
		}
	}
}

func TestArgsAreTruncated(t *testing.T) {
	const big = 0xfedcba9876543210
	h := host.New()
	v := asking(t, base("wlfw>wlfw", "get:0 get:1 get:2 get:3 end"), h, 9)
	r, why := v.Call(3, []uint64{big, big, big, math.MaxUint64}, 9, 1)
	if want := []uint64{0x76543210, big, big, 0xffffffff}; why != api.OK || !slices.Equal(r.Values, want) {
		t.Errorf("P14.2: Call with args that are too great: %#x, error %d", r.Values, why)
	}
	v.Call(0, []uint64{big, big, big}, 0, 0)
	if got, want := h.Calls(), []host.Call{{Index: 0, Args: []uint64{0x76543210, big, big}}}; !reflect.DeepEqual(got, want) {
		t.Errorf("P14.2: Call of an import: %#x, want %#x", got, want)
	}
}

// The args stay as they are, spare capacity included, and what a Result has is nobody else's.
func TestCallKeepsAndChangesNoLists(t *testing.T) {
	h := host.New()
	v := asking(t, base("ww>ww", "w:9 set:0 get:0 get:1 get:1 l:0 f:0 call:0 drop drop end"), h, 9)
	args, kept := roomy([]uint64{1, 2})
	r, _ := v.Call(3, args, 99, 1)
	first := slices.Clone(r.Values)
	if !kept() {
		t.Errorf("R2: Call has changed its args: %v", args)
	}
	for i := range args[:cap(args)] {
		args[:cap(args)][i] = 77
	}
	again, _ := v.Call(3, []uint64{3, 4}, 99, 1)
	if !slices.Equal(r.Values, first) || told(again) != "9 4" || told(r) != "9 2" {
		t.Errorf("R2: a Result has changed with the next Call: %v, %v", r.Values, again.Values)
	}
	for i := range r.Values[:cap(r.Values)] {
		r.Values[:cap(r.Values)][i] = 88
	}
	if got := h.Calls(); told(again) != "9 4" || len(got) != 2 || !slices.Equal(got[0].Args, []uint64{2, 0, 0}) {
		t.Errorf("R2: a Result shares memory: %v, %v", again.Values, got)
	}
}

// What was done before a trap remains done, and the machine goes on.
func TestTrapLeavesWhatWasDone(t *testing.T) {
	m := and(base("w>w", "w:55 gset:1 w:3 w:66 setbyte:0,0 ddrop:1 w:1 grow:0 drop get:0 l:2 f:3 call:0 drop drop w:6 call:4 w:77 gset:1 end"), "w>w", "w:4 w:44 setbyte:0,0 get:0 w:0 wdiv end")
	h := host.New()
	v := asking(t, m, h, 9)
	r, why := v.Call(3, []uint64{6}, 99, 9)
	if why != api.OK || r.Trap != api.DivZero || r.Values != nil || r.Fuel != 99-23 {
		t.Errorf("P14.2: Call that traps: %+v, error %d", r, why)
	}
	if got, _ := v.Global(1); got != 55 || bytesOf(v, 0, 3, 2) != "66 44" || v.Pages() != 4 || len(h.Calls()) != 1 {
		t.Errorf("P14.2: after a trap: global %d, bytes %s, %d pages, %d calls", got, bytesOf(v, 0, 3, 2), v.Pages(), len(h.Calls()))
	}
	for range 3 {
		if got, _ := call(t, v, 4, 5); got != "DivZero" {
			t.Errorf("P14.2: Call after a trap: %s", got)
		}
	}
	r, why = v.Call(1, nil, 5, 0)
	if why != api.OK || told(r) != "0" || r.Fuel != 5 {
		t.Errorf("P14.2: Call of an import after a trap: %+v, %d", r, why)
	}
}

// Each trap comes without values, with what is left of the fuel.
func TestResultsOfTraps(t *testing.T) {
	for _, c := range []struct {
		body        string
		fuel        int64
		depth, trap int
		left        int64
	}{
		{"unreachable end", 5, 1, api.Unreachable, 4},
		{"w:1 w:0 wdiv drop end", 5, 1, api.DivZero, 2},
		{"w:0x80000000 w:-1 wdiv drop end", 5, 1, api.Overflow, 2},
		{"f:nan aa drop end", 5, 1, api.BadInt, 3},
		{"f:1e99 aa drop end", 5, 1, api.Overflow, 3},
		{"w:1024 byte drop end", 5, 1, api.Bounds, 3},
		{"call:2 end", 5, 1, api.HostTrap, 4},
		{"w:1 w:2 w:3 drop drop drop end", 5, 1, api.Fuel, 0},
		{"call:3 end", 5, 3, api.Deep, 2},
		{"unreachable end", 0, 1, api.Fuel, 0},
		{"unreachable end", 5, 0, api.Deep, 5},
		{"unreachable end", 0, 0, api.Deep, 0},
		{"end", 0, 1, api.Done, 0},
	} {
		v := runs(t, base(">", c.body), host.Answer{Trap: true, Values: []uint64{7}})
		r, why := v.Call(3, nil, c.fuel, c.depth)
		if want := (machine.Result{Trap: c.trap, Fuel: c.left}); why != api.OK || !reflect.DeepEqual(r, want) {
			t.Errorf("P14.2: Call of %s, fuel %d, depth %d: %+v, error %d, want %+v", c.body, c.fuel, c.depth, r, why, want)
		}
	}
}
