package machine_test

import (
	"math"
	"reflect"
	"strconv"
	"strings"
	"testing"

	"plainsong/api"
	"plainsong/host"
)

func TestFuelAndDepthOfCalls(t *testing.T) {
	v := runs(t, and(base("w>w", "get:0 call:4 w:1 wadd end"), "w>w", "get:0 w:2 wadd end"))
	for fuel := range int64(9) {
		want, left := "Fuel", int64(0)
		if fuel >= 7 {
			want, left = "8", fuel-7
		}
		if got, spent := within(t, v, 3, fuel, 2, 5); got != want || fuel-spent != left {
			t.Errorf("P14.3: a call with the fuel %d: %s, fuel spent %d, want %s", fuel, got, spent, want)
		}
	}
	for depth, want := range []string{"Deep 0", "Deep 2", "8 7", "8 7"} {
		got, spent := within(t, v, 3, 9, depth, 5)
		if got += " " + strconv.FormatInt(spent, 10); got != want {
			t.Errorf("P14.3: a call with the depth %d: %s, want %s", depth, got, want)
		}
	}
}

// What a call took of the depth is there again for the next one.
func TestDepthIsGivenBack(t *testing.T) {
	v := runs(t, and(base(">", "call:4 call:4 call:4 end"), ">", "call:2 end"))
	if got, spent := within(t, v, 3, 9, 2); got != "" || spent != 6 {
		t.Errorf("P14.3: calls one after the other: %s, fuel spent %d", got, spent)
	}
	v = runs(t, and(base(">", "block:-1 call:4 br:0 end call:4 end"), ">", "block:-1 return end end"))
	if got, spent := within(t, v, 3, 9, 2); got != "" || spent != 8 {
		t.Errorf("P14.3: calls of what returns: %s, fuel spent %d", got, spent)
	}
}

func TestDepthOfRecursion(t *testing.T) {
	v := runs(t, base("w>w", "gget:1 w:1 wadd gset:1 get:0 if:-2 get:0 w:1 wsub call:3 w:1 wadd else w:0 end end"))
	for _, c := range []struct {
		n     uint64
		depth int
		want  string
	}{
		{0, 1, "0"}, {1, 1, "Deep"}, {1, 2, "1"}, {99, 100, "99"}, {100, 100, "Deep"}, {4095, 4096, "4095"}, {4096, 4096, "Deep"}, {5, 4096, "5"},
	} {
		v.SetGlobal(1, 0)
		got, _ := within(t, v, 3, plenty, c.depth, c.n)
		if count, _ := v.Global(1); got != c.want || count != min(c.n+1, uint64(c.depth)) {
			t.Errorf("P14.3: %d calls in each other, depth %d: %s, %d begun, want %s", c.n, c.depth, got, count, c.want)
		}
	}
}

// Functions that call themselves as often as they may, each with many locals and many values.
func TestGreatRecursion(t *testing.T) {
	const n = 1000
	body := strings.Repeat("w:1 ", n) + "get:0 if:-1 get:0 w:1 wsub call:3 get:255 wadd set:0 end " + strings.Repeat("wadd ", n-1) + "get:0 wadd end"
	m := base("w>w", body)
	for len(m.Funcs[0].Locals) < 255 {
		m.Funcs[0].Locals = append(m.Funcs[0].Locals, api.I32)
	}
	v := runs(t, m)
	if got, _ := within(t, v, 3, 1<<26, 4096, 4095); got != strconv.Itoa(4096*n) {
		t.Errorf("P14.3: %d calls in each other with %d values each: %s, want %d", 4096, n, got, 4096*n)
	}
}

// return_call takes the place of the function that does it, with its depth.
func TestTailCalls(t *testing.T) {
	m := and(base("w>w", "w:1 w:2 get:0 if:-2 get:0 w:1 wsub return_call:3 else w:9 end return end"), "w>w", "l:5 l:6 get:0 return_call:3 end")
	v := runs(t, and(m, "w>w", "w:50 get:0 call:4 wadd end"))
	for _, c := range []struct {
		f     int
		n     uint64
		depth int
		want  string
		fuel  int64
	}{
		{3, 0, 1, "9", 6}, {3, 3, 1, "9", 3*8 + 6}, {3, 3, 0, "Deep", 0}, {3, 100000, 1, "9", 100000*8 + 6},
		{4, 2, 1, "9", 4 + 2*8 + 6}, {5, 1, 2, "59", 4 + 4 + 8 + 6}, {5, 1, 1, "Deep", 3},
	} {
		if got, spent := within(t, v, c.f, 1<<20, c.depth, c.n); got != c.want || spent != c.fuel {
			t.Errorf("P14.3: return_call from %d with %d, depth %d: %s, fuel spent %d, want %s, %d", c.f, c.n, c.depth, got, spent, c.want, c.fuel)
		}
	}
}

// The function that return_call calls may have more or fewer arguments and locals.
func TestTailCallsOfOtherTypes(t *testing.T) {
	m := and(base("l>w", "f:1 f:2 w:3 get:0 return_call:4 end"), "wl>w", "get:0 get:1 get:1 w:7 w:8 w:9 w:10 return_call:5 end")
	m = and(m, "wllwwww>w", "get:7 get:0 wadd get:3 wadd get:6 wadd get:1 get:2 7c a7 wadd return_call:6 end")
	m.Funcs[2].Locals = types("wwwl")
	m = and(m, "w>w", "get:0 get:1 wadd get:2 wadd end")
	m.Funcs[3].Locals = types("ww")
	if got, spent := call(t, runs(t, m), 3, 5); got != strconv.Itoa(3+7+10+5+5) || spent != 5+8+13+5 {
		t.Errorf("P14.3: return_call with other arguments: %s, fuel %d", got, spent)
	}
}

// Each call has locals of its own, which are 0 at first, whatever lay there before.
func TestLocalsOfEachCall(t *testing.T) {
	m := and(base(">wlf", "w:5 set:0 l:6 set:1 f:7 set:2 call:4 call:4 get:0 get:1 get:2 end"), ">", "get:0 get:1 a7 wadd get:2 aa wadd if:-1 unreachable end w:1 set:0 l:2 set:1 f:3 set:2 end")
	m.Funcs[1].Locals = types("wlf")
	v := runs(t, m)
	for range 2 {
		if got, _ := call(t, v, 3); got != "5 6 "+value(7) {
			t.Errorf("P14.3: locals: %s", got)
		}
	}
	holds(t, []row{{"w>w", "get:1 if:-1 unreachable end get:0 set:1 get:0 if:-1 get:0 w:1 wsub call:3 drop end get:1 end", u(50), "50", 50*12 + 7}})
}

// A call takes its arguments off the stack, the last one on top, and gives its results in the same order.
func TestArgumentsAndResults(t *testing.T) {
	m := and(base(">wwlwf", "w:1 w:2 l:3 f:4 call:4 end"), "wlf>wlwf", "w:99 get:0 w:10 wadd get:1 get:0 w:20 wadd get:2 return end")
	if got, spent := call(t, runs(t, m), 3); got != "1 12 3 22 "+value(4) || spent != 15 {
		t.Errorf("P14.3: arguments and results: %s, fuel %d", got, spent)
	}
}

func TestImports(t *testing.T) {
	h := host.New(host.Answer{Values: u(math.MaxUint64, math.MaxUint64)}, host.Answer{}, host.Answer{Trap: true}, host.Answer{Values: u(6)})
	v := asking(t, base(">wf", "l:1 w:-1 l:-2 f:0.5 call:0 set:0 set:2 drop get:0 get:2 end"), h, 9)
	for _, c := range []struct {
		want string
		fuel int64
	}{{"4294967295 18446744073709551615", 10}, {"0 0", 10}, {"HostTrap", 5}} {
		if got, spent := within(t, v, 3, 99, 1); got != c.want || spent != c.fuel {
			t.Errorf("P14.3: a call of an import: %s, fuel spent %d, want %s, %d", got, spent, c.want, c.fuel)
		}
	}
	one := host.Call{Index: 0, Args: u(0xffffffff, math.MaxUint64-1, math.Float64bits(0.5))}
	if got := h.Calls(); !reflect.DeepEqual(got, []host.Call{one, one, one}) || h.Left() != 1 {
		t.Errorf("P14.3: the host was asked %v, %d answers are left", got, h.Left())
	}
	if got, spent := within(t, v, 1, 0, 0); got != "6" || spent != 0 || h.Calls()[3].Index != 1 {
		t.Errorf("P14.3: Call of an import without fuel and depth: %s", got)
	}
}

// An import costs no depth, and by return_call it answers for the function that calls it.
func TestImportsAndDepth(t *testing.T) {
	five := host.Answer{Values: u(5)}
	for _, body := range []string{"call:1 end", "call:1 drop call:1 end", "w:1 return_call:1 end", "w:1 w:2 w:3 call:1 drop return_call:1 end"} {
		if got, _ := within(t, runs(t, base(">w", body), five, five), 3, 9, 1); got != "5" {
			t.Errorf("P14.3: %s with the depth 1: %s", body, got)
		}
	}
	v := runs(t, and(base(">w", "w:50 call:4 wadd end"), ">w", "w:9 return_call:1 end"), five, host.Answer{Trap: true})
	for _, want := range []string{"55", "HostTrap"} {
		if got, _ := within(t, v, 3, 9, 2); got != want {
			t.Errorf("P14.3: return_call of an import: %s, want %s", got, want)
		}
	}
}
