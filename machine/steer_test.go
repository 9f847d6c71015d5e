package machine_test

import (
	"strconv"
	"strings"
	"testing"

	"plainsong/api"
)

func TestBlocksAndBranches(t *testing.T) {
	holds(t, []row{
		{">w", "block:-2 w:5 end end", nil, "5", 2},
		{">w", "block:-2 w:5 br:0 end end", nil, "5", 3},
		{">w", "block:-2 w:4 w:5 br:0 unreachable end end", nil, "5", 4},
		{">w", "w:1 block:-1 w:2 w:3 br:0 end end", nil, "1", 5},
		{">w", "w:1 block:-2 w:2 w:3 block:-1 w:4 w:5 br:1 end unreachable end wadd end", nil, "6", 9},
		{">w", "block:-1 block:-1 block:-1 br:1 end unreachable end w:7 return end unreachable end", nil, "7", 6},
		{"w>w", "block:-2 w:10 get:0 br_if:0 drop w:20 end end", u(0), "20", 6},
		{"w>w", "block:-2 w:10 get:0 br_if:0 drop w:20 end end", u(1), "10", 4},
		{"w>w", "block:-2 w:99 w:10 get:0 br_if:0 drop drop w:20 end end", u(0x80000000), "10", 5},
		{"w>w", "w:7 w:8 get:0 br_if:0 wadd end", u(1), "8", 4},
		{"w>w", "w:7 w:8 get:0 br_if:0 wadd end", u(0), "15", 5},
		{">w", "w:7 w:8 br:0 end", nil, "8", 3},
		{">w", "w:7 block:-1 loop:-1 w:8 br:2 end end end", nil, "8", 5},
		{">w", "block:-1 br:0 nop nop end nop w:8 end", nil, "8", 3},
	})
}

func TestIfs(t *testing.T) {
	holds(t, []row{
		{"w>w", "get:0 if:-2 w:1 else w:2 end end", u(1), "1", 3},
		{"w>w", "get:0 if:-2 w:1 else w:2 end end", u(0x80000000), "1", 3},
		{"w>w", "get:0 if:-2 w:1 else w:2 end end", u(0), "2", 3},
		{"w>w", "get:0 if:-1 w:5 set:0 end get:0 end", u(3), "5", 5},
		{"w>w", "get:0 if:-1 w:5 set:0 end get:0 end", u(0), "0", 3},
		{"w>w", "get:0 if:-1 w:5 set:0 else nop end get:0 end", u(3), "5", 5},
		{"w>w", "w:4 get:0 if:1 w:1 wadd end end", u(3), "5", 5},
		{"w>w", "w:4 get:0 if:1 w:1 wadd end end", u(0), "4", 3},
		{"w>w", "get:0 if:-2 w:8 w:1 br:0 else w:9 w:2 br:0 end end", u(1), "1", 5},
		{"w>w", "get:0 if:-2 w:8 w:1 br:0 else w:9 w:2 br:0 end end", u(0), "2", 5},
		{"w>w", "get:0 if:-2 get:0 if:-2 w:3 else unreachable end else w:4 end end", u(1), "3", 5},
		{"w>w", "get:0 if:-2 w:3 else get:0 if:-2 unreachable else w:4 end end end", u(0), "4", 5},
		{"w>", "get:0 if:-1 else unreachable end end", u(1), "", 2},
		{"w>", "get:0 if:-1 else unreachable end end", u(0), "Unreachable", 3},
		{"w>", "get:0 if:-1 unreachable end end", u(0), "", 2},
		{"w>", "get:0 if:-1 unreachable end end", u(1), "Unreachable", 3},
	})
}

// Labels and frames with several values: a branch leaves out all that is below them.
func TestSeveralValues(t *testing.T) {
	holds(t, []row{
		{">www", "w:1 w:2 w:3 end", nil, "1 2 3", 3},
		{">wl", "f:1 w:7 l:8 return end", nil, "7 8", 4},
		{">wl", "f:1 block:-1 f:2 w:7 l:8 return end unreachable end", nil, "7 8", 6},
		{">wl", "f:1 block:-1 f:2 w:7 l:8 br:1 end unreachable end", nil, "7 8", 6},
		{">", "w:1 w:2 w:3 return end", nil, "", 4},
		{">wl", "l:8 w:7 block:4 unreachable end end", nil, "Unreachable", 4},
		{">wl", "l:8 w:7 block:4 drop drop w:1 l:2 end end", nil, "1 2", 7},
		{">wl", "l:8 w:7 block:4 w:1 l:2 br:0 end end", nil, "1 2", 6},
		{">wl", "f:5 l:8 w:7 block:4 f:6 w:1 l:2 br:0 end return end", nil, "1 2", 9},
		{">ww", "w:1 w:2 w:3 block:6 w:4 w:5 br:0 end drop end", nil, "1 4", 8},
		{"w>wl", "l:8 w:7 get:0 if:4 drop drop w:1 l:2 else set:0 set:2 w:3 l:4 end end", u(1), "1 2", 8},
		{"w>wl", "l:8 w:7 get:0 if:4 drop drop w:1 l:2 else set:0 set:2 w:3 l:4 end end", u(0), "3 4", 8},
		{"w>ww", "w:5 w:6 get:0 if:6 wadd w:1 end end", u(1), "11 1", 6},
		{"w>ww", "w:5 w:6 get:0 if:6 wadd w:1 end end", u(0), "5 6", 4},
		{"w>ww", "w:4 w:5 w:6 get:0 br_if:0 wadd end", u(1), "5 6", 5},
		{"w>ww", "w:4 w:5 w:6 get:0 br_if:0 wadd end", u(0), "4 11", 6},
	})
}

// The label of a loop is behind the loop: a branch there takes the parameters, and the loop isn't begun again.
func TestLoops(t *testing.T) {
	holds(t, []row{
		{">w", "loop:-2 w:5 end end", nil, "5", 2},
		{"w>w", "loop:-1 get:0 w:1 wsub tee:0 br_if:0 end get:0 end", u(3), "0", 1 + 3*5 + 1},
		{"w>w", "get:0 loop:1 w:2 wadd tee:1 get:1 w:10 48 br_if:0 end end", u(1), "11", 2 + 5*7},
		{"w>w", "get:0 loop:1 set:1 w:99 w:98 get:1 w:1 wadd tee:1 get:1 w:10 48 br_if:0 set:1 drop drop get:1 end end", u(1), "10", 2 + 9*11 + 4},
		{"w>wl", "l:1 get:0 loop:4 set:0 l:3 7e set:2 get:2 get:0 w:1 wsub tee:0 get:0 br_if:0 drop drop get:0 get:2 end end", u(4), "0 81", 3 + 4*11 + 4},
		{"w>w", "w:100 block:-1 loop:-1 w:1 w:2 w:3 get:0 eqz br_if:1 get:0 w:1 wsub set:0 br:0 end end end", u(50), "100", 3 + 50*11 + 6},
	})
}

func TestTables(t *testing.T) {
	arms := "block:-2 block:-2 block:-2 w:77 w:10 get:0 br_table:0,1,2,1 unreachable end w:1 wadd return end w:2 wadd return end w:3 wadd end"
	only := "block:-1 get:0 br_table:0 end end"
	out := "block:-1 w:3 w:4 get:0 br_table:1,1 end unreachable end"
	loop := "loop:-1 get:0 w:1 wsub tee:0 br_table:1,0,0,0,1 end unreachable end"
	wide := "block:-1 block:-1 get:0 br_table:" + strings.Repeat("0,", 15) + "1,0 end w:8 return end w:9 end"
	holds(t, []row{
		{"w>w", arms, u(0), "11", 10}, {"w>w", arms, u(1), "12", 10}, {"w>w", arms, u(2), "13", 9}, {"w>w", arms, u(3), "12", 10}, {"w>w", arms, u(4), "12", 10},
		{"w>w", arms, u(0x7fffffff), "12", 10}, {"w>w", arms, u(0x80000000), "12", 10}, {"w>w", arms, u(0xffffffff), "12", 10},
		{"w>", only, u(0), "", 3}, {"w>", only, u(5), "", 3},
		{"w>w", out, u(0), "4", 5}, {"w>w", out, u(9), "4", 5},
		{"w>", loop, u(4), "", 1 + 4*5}, {"w>", loop, u(1), "", 1 + 5}, {"w>", loop, u(0), "", 1 + 5}, {"w>", loop, u(6), "", 1 + 5},
		{"w>w", wide, u(14), "8", 6}, {"w>w", wide, u(15), "9", 5}, {"w>w", wide, u(16), "8", 6}, {"w>w", wide, u(17), "8", 6},
	})
}

// Each instruction that is begun takes 1, but end, else and nop; what came before it has been done.
func TestFuelOfEachInstruction(t *testing.T) {
	body := "nop block:-1 nop w:1 if:-1 w:1 gset:1 nop else w:9 gset:1 end end loop:-1 w:2 gset:1 end w:3 gset:1 call:2 w:4 gset:1 nop return end"
	begun := []uint64{8, 8, 8, 8, 8, 1, 1, 1, 2, 2, 3, 3, 3, 4, 4}
	v := runs(t, base(">", body))
	for fuel, want := range begun {
		v.SetGlobal(1, 8)
		trap := "Fuel"
		if fuel == len(begun)-1 {
			trap = ""
		}
		got, spent := within(t, v, 3, int64(fuel), 1)
		if now, _ := v.Global(1); got != trap || now != want || spent != int64(fuel) {
			t.Errorf("P14.3: with the fuel %d: %s, global %d, fuel spent %d, want %s, %d", fuel, got, now, spent, trap, want)
		}
	}
}

// What a run can't pay for is not performed, whatever it would do.
func TestNothingIsDoneWithoutFuel(t *testing.T) {
	for _, c := range []struct {
		body string
		fuel int64
	}{
		{"unreachable end", 0}, {"w:1 w:0 wdiv drop end", 2}, {"w:-1 wload drop end", 1}, {"call:2 end", 0}, {"call:3 end", 0}, {"return_call:2 end", 0},
		{"w:5 gset:1 end", 1}, {"w:0 w:5 wstore end", 2}, {"w:1 grow:0 drop end", 1}, {"w:0 w:9 w:5 fill:0 end", 3}, {"w:0 w:9 w:5 copy:0,0 end", 3}, {"w:0 w:0 w:5 init:0,1 end", 3},
		{"block:-1 end end", 0}, {"loop:-1 end end", 0}, {"w:1 if:-1 end end", 1}, {"br:0 end", 0}, {"w:0 br_if:0 end", 1}, {"w:0 br_table:0 end", 1}, {"return end", 0},
	} {
		v := runs(t, base(">", c.body))
		was := v.Memory(0).Bytes()
		got, spent := within(t, v, 3, c.fuel, 1)
		if now, _ := v.Global(1); got != "Fuel" || spent != c.fuel || now != 8 || string(v.Memory(0).Bytes()) != string(was) {
			t.Errorf("P14.3: %s with the fuel %d: %s, fuel spent %d, global %d", c.body, c.fuel, got, spent, now)
		}
	}
}

// Nop costs nothing, however often a run comes by.
func TestManyNops(t *testing.T) {
	v := runs(t, base(">", "loop:-1 "+strings.Repeat("nop ", 60000)+"br:0 end end"))
	if got, spent := within(t, v, 3, 1<<22, 1); got != "Fuel" || spent != 1<<22 {
		t.Errorf("P14.3: nops in a loop: %s, fuel spent %d", got, spent)
	}
}

// All of the fuel that there may be can be spent.
func TestMostFuel(t *testing.T) {
	v := runs(t, base(">", "loop:-1 br:0 end end"))
	if got, spent := within(t, v, 3, api.MaxFuel, 1); got != "Fuel" || spent != api.MaxFuel {
		t.Errorf("P14.3: a loop without end: %s, fuel spent %d", got, spent)
	}
}

// As many values and as many frames as a function may have.
func TestGreatFunctions(t *testing.T) {
	const n = 32000
	body := strings.Repeat("w:1 ", n) + strings.Repeat("wadd ", n-1) + "end"
	if got, spent := call(t, runs(t, base(">w", body)), 3); got != strconv.Itoa(n) || spent != 2*n-1 {
		t.Errorf("P14.3: %d values: %s, fuel %d", n, got, spent)
	}
	blocks, ends := strings.Repeat("block:-1 ", 64), strings.Repeat("end ", 64)
	holds(t, []row{
		{">w", blocks + "w:1 br_if:63 unreachable " + ends + "w:5 end", nil, "5", 64 + 2 + 1},
		{">w", "w:3 " + blocks + "w:4 br:64 " + ends + "end", nil, "4", 1 + 64 + 2},
		{">w", blocks + ends + "w:5 end", nil, "5", 64 + 1},
	})
}
