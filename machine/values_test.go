package machine_test

import (
	"math"
	"strconv"
	"testing"

	"plainsong/api"
	"plainsong/floats"
	"plainsong/ints"
	"plainsong/machine"
	"plainsong/ops"
)

func TestValues(t *testing.T) {
	holds(t, []row{
		{">", "end", nil, "", 0},
		{">", "nop nop nop end", nil, "", 0},
		{">", "unreachable end", nil, "Unreachable", 1},
		{">w", "w:5 end", nil, "5", 1},
		{">w", "w:-1 end", nil, "4294967295", 1},
		{">l", "l:-1 end", nil, "18446744073709551615", 1},
		{">f", "f:1.5 end", nil, value(1.5), 1},
		{">wlf", "w:1 l:2 f:3 end", nil, "1 2 " + value(3), 3},
		{">w", "w:1 w:2 drop end", nil, "1", 3},
		{"w>w", "w:10 w:20 get:0 select end", u(0), "20", 4},
		{"w>w", "w:10 w:20 get:0 select end", u(1), "10", 4},
		{"w>w", "w:10 w:20 get:0 select end", u(0x80000000), "10", 4},
		{"w>wl", "w:3 l:10 l:20 get:0 select end", u(0), "3 20", 5},
		{"w>f", "f:10 f:20 get:0 select end", u(5), value(10), 4},
		{"wl>lw", "get:1 get:0 end", u(3, 4), "4 3", 2},
		{"w>wwlf", "get:0 get:1 get:2 get:3 end", u(3), "3 0 0 0", 4},
		{"w>ww", "w:7 set:0 get:0 w:8 tee:1 end", u(3), "7 8", 5},
		{"l>lll", "l:7 tee:0 get:0 l:9 set:2 get:2 end", u(3), "7 7 9", 6},
		{">wwllff", "gget:0 gget:1 gget:2 gget:3 gget:4 gget:5 end", nil, "7 8 9 10 " + value(1.5) + " " + value(2.5), 6},
		{">lw", "w:50 gset:1 l:60 gset:3 gget:3 gget:1 end", nil, "60 50", 6},
		{">w", "w:7 w:2 wsub end", nil, "5", 3},
		{">w", "w:7 w:2 wdiv end", nil, "3", 3},
		{">l", "l:7 l:2 lsub end", nil, "5", 3},
		{">w", "w:1 w:3 74 end", nil, "8", 3},
		{">f", "f:1 f:4 a3 end", nil, value(0.25), 3},
		{">w", "f:1 f:2 63 end", nil, "1", 3},
		{">w", "w:0x80 c0 end", nil, "4294967168", 2},
		{">w", "f:nan fc02 end", nil, "0", 2},
		{">f", "w:-2 b7 end", nil, value(-2), 2},
	})
}

// samples are values of each type for operations.
func samples(kind int) []uint64 {
	switch kind {
	case api.I32:
		return []uint64{0, 1, 7, 0x80, 0xffff, 0x7fffffff, 0x80000000, 0xffffffff}
	case api.I64:
		return []uint64{0, 1, 7, 0x80, 0xffffffff, 1<<63 - 1, 1 << 63, math.MaxUint64}
	}
	l := []uint64{1 << 63, floats.Quiet, 0xfff0000000000001}
	for _, f := range []float64{0, 1.5, -3, 1e30, math.Inf(1), math.Inf(-1)} {
		l = append(l, math.Float64bits(f))
	}
	return l
}

// operates returns a machine whose function 3 does this operation with its args.
func operates(t *testing.T, op int, sig ops.Sig) *machine.Machine {
	t.Helper()
	m := base(">", "")
	m.Types[7] = api.Type{Params: sig.Params, Results: sig.Results}
	m.Funcs[0].Code = nil
	for k := range sig.Params {
		m.Funcs[0].Code = append(m.Funcs[0].Code, api.Inst{Op: 0x20, A: k})
	}
	m.Funcs[0].Code = append(m.Funcs[0].Code, api.Inst{Op: op}, api.Inst{Op: 0x0b})
	return runs(t, m)
}

// Each operation gives what ints or floats say, of its operands in their order, or their trap.
func TestNumericOperations(t *testing.T) {
	seen := map[string]int{}
	for _, op := range ops.All() {
		sig, is := ops.Numeric(op)
		if !is {
			continue
		}
		v := operates(t, op, sig)
		do := floats.Do
		if ints.Is(op) {
			do = ints.Do
		}
		seconds := []uint64{0}
		if len(sig.Params) > 1 {
			seconds = samples(sig.Params[1])
		}
		for _, a := range samples(sig.Params[0]) {
			for _, b := range seconds {
				x, why := do(op, a, b)
				want := strconv.FormatUint(x, 10)
				if why != api.Done {
					want = traps[why]
				}
				seen[traps[why]]++
				args := u(a, b)[:len(sig.Params)]
				if got, fuel := call(t, v, 3, args...); got != want || fuel != int64(len(args))+1 {
					t.Errorf("P14.3: %#x of %#x: %s, fuel %d, want %s", op, args, got, fuel, want)
				}
			}
		}
	}
	if len(seen) != 4 || seen["Done"] == 0 || seen["DivZero"] == 0 || seen["Overflow"] == 0 || seen["BadInt"] == 0 {
		t.Errorf("of the traps there came only %v", seen)
	}
}
