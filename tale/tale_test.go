package tale_test

import (
	"math"
	"math/rand"
	"reflect"
	"slices"
	"testing"

	"plainsong/api"
	"plainsong/host"
	"plainsong/tale"
)

const ones = math.MaxUint64

// holds does each act on a machine of its own, whose host traps at its second call.
func holds(t *testing.T, rows []row) {
	t.Helper()
	for _, c := range rows {
		for _, a := range []tale.Act{c.act, full(c.act)} {
			w := begin(t, host.Answer{Values: []uint64{1<<40 + 6}}, host.Answer{Trap: true})
			before := w.state()
			got := w.does(t, a)
			if !equal(got, c.want) {
				t.Errorf("P15.1: Do of %+v: %+v, want %+v", a, got, c.want)
			}
			if c.want.Why != api.OK && !reflect.DeepEqual(w.state(), before) {
				t.Errorf("R3: Do of %+v, which is refused, has done something", a)
			}
		}
	}
}

// row is an act and what comes of it.
type row struct {
	act  tale.Act
	want tale.Out
}

func TestExamples(t *testing.T) {
	holds(t, []row{{tale.Act{Kind: 9}, why(api.ErrArg)}, {put(0, 1024), tale.Out{}}, {grow(3, 1), was(-1)}})
}

// The kinds have the numbers that the chapter gives them.
func TestKinds(t *testing.T) {
	if tale.Invoke != 1 || tale.Grow != 2 || tale.Set != 3 || tale.Put != 4 {
		t.Error("P15.1: the kinds have other numbers")
	}
	for _, kind := range []int{0, -1, -2, 5, 6, 9, 257, 1<<32 + 1, math.MaxInt, math.MinInt} {
		a := within(invoke("stop"), 9, 9)
		a.Kind, a.N, a.V, a.Bytes = kind, 1, 9, []byte{9}
		holds(t, []row{{a, why(api.ErrArg)}, {tale.Act{Kind: kind}, why(api.ErrArg)}})
	}
}

func TestInvoke(t *testing.T) {
	f := math.Float64bits
	holds(t, []row{
		{invoke("turn", 1<<33+5, ones, f(2.5)), values(f(2.5), 5, ones)},
		{invoke("down", 0), values(9)}, {invoke("down", 19), values(9)}, {invoke("down", 20), trap(api.Deep)},
		{invoke("host", 8), values(6)}, {invoke("", 8), values(6)}, {invoke("ask", 8), values(6)}, {invoke("grow", 1), values(1)}, {invoke("div", 7, 2), values(3)},
		{invoke("stop"), trap(api.Unreachable)}, {invoke("round"), trap(api.Fuel)}, {invoke("div", 7, 0), trap(api.DivZero)}, {invoke("div", 1<<31, math.MaxUint32), trap(api.Overflow)},
		{invoke("trunc", f(math.NaN())), trap(api.BadInt)}, {invoke("trunc", f(1e10)), trap(api.Overflow)}, {invoke("trunc", f(-3.9)), values(math.MaxUint32 - 2)}, {invoke("byte", 0), trap(api.Bounds)},
		{invoke("turns"), why(api.ErrNone)}, {invoke("memory"), why(api.ErrNone)}, {invoke("global"), why(api.ErrNone)}, {invoke("\xff"), why(api.ErrNone)},
		{invoke("turn"), why(api.ErrArg)}, {invoke("turn", 1, 2), why(api.ErrArg)}, {invoke("turn", 1, 2, 3, 4), why(api.ErrArg)}, {invoke("stop", 1), why(api.ErrArg)},
	})
}

// An act may have less depth than a Call of a machine; where it has too much, nothing else is looked at.
func TestFuelAndDepth(t *testing.T) {
	var l []row
	for _, depth := range []int{-1, -2, math.MinInt, 1025, 1026, 2048, 4096, 4097, math.MaxInt} {
		for _, name := range []string{"stop", "round", "ask", "x", "memory"} {
			for _, fuel := range []int64{0, 50, -1, api.MaxFuel + 1} {
				l = append(l, row{within(invoke(name), fuel, depth), why(api.ErrArg)}, row{within(invoke(name, 1), fuel, depth), why(api.ErrArg)})
			}
		}
	}
	for _, fuel := range []int64{-1, math.MinInt64, api.MaxFuel + 1, math.MaxInt64} {
		for _, depth := range []int{0, 1, 1024} {
			l = append(l, row{within(invoke("stop"), fuel, depth), why(api.ErrArg)}, row{within(invoke("x"), fuel, depth), why(api.ErrNone)})
		}
	}
	holds(t, append(l, []row{
		{within(invoke("stop"), 9, 0), trap(api.Deep)}, {within(invoke("stop"), 9, 1), trap(api.Unreachable)}, {within(invoke("stop"), 9, 1024), trap(api.Unreachable)},
		{within(invoke("stop"), 0, 1), trap(api.Fuel)}, {within(invoke("stop"), 2, 1), trap(api.Fuel)}, {within(invoke("stop"), 3, 1), trap(api.Unreachable)}, {within(invoke("stop"), api.MaxFuel, 1), trap(api.Unreachable)},
		{within(invoke("down", 1023), 10000, 1024), values(9)}, {within(invoke("down", 1024), 10000, 1024), trap(api.Deep)}, {within(invoke("down", 1023), 10000, 1023), trap(api.Deep)},
		{within(invoke("ask", 1), 0, 0), values(6)},
	}...))
}

func TestGrow(t *testing.T) {
	holds(t, []row{
		{grow(0, 0), was(1)}, {grow(0, 1), was(1)}, {grow(0, 2), was(1)}, {grow(0, 3), was(-1)}, {grow(1, 2), was(0)}, {grow(1, 3), was(-1)}, {grow(2, 0), was(2)}, {grow(2, 1), was(-1)},
		{grow(0, -1), was(-1)}, {grow(0, math.MinInt), was(-1)}, {grow(0, math.MaxInt), was(-1)},
		{grow(3, 0), was(-1)}, {grow(4, 1), was(-1)}, {grow(-1, 0), was(-1)}, {grow(math.MaxInt, 1), was(-1)}, {grow(math.MinInt, 1), was(-1)},
	})
	w := begin(t)
	for k, c := range []struct{ k, n, want, pages int }{{0, 1, 1, 4}, {1, 2, 0, 6}, {0, 1, -1, 6}, {0, 0, 2, 6}, {1, 0, 2, 6}} {
		if got := w.does(t, grow(c.k, c.n)); !equal(got, was(c.want)) || w.m.Pages() != c.pages {
			t.Errorf("P15.1: Grow, act %d: %+v, %d pages, want %d, %d", k, got, w.m.Pages(), c.want, c.pages)
		}
	}
}

func TestSet(t *testing.T) {
	var l []row
	for _, k := range []int{4, 5, -1, math.MaxInt, math.MinInt} {
		l = append(l, row{set(k, 3), why(api.ErrIndex)})
	}
	holds(t, append(l, row{set(0, ones), tale.Out{}}, row{set(1, 3), why(api.ErrType)}, row{set(1, ones), why(api.ErrType)}, row{set(2, ones), tale.Out{}}, row{set(3, ones), tale.Out{}}))
	w := begin(t)
	for k := range 4 {
		w.does(t, set(k, 0xfedcba9876543210))
	}
	if got, want := w.state().Globals, [4]uint64{0x76543210, ones, 0xfedcba9876543210, 0xfedcba9876543210}; got != want {
		t.Errorf("P15.1: Set of all globals: %#x, want %#x", got, want)
	}
}

func TestPut(t *testing.T) {
	page := make([]byte, 1024)
	l := []row{
		{put(0, 0), tale.Out{}}, {put(0, 1024), tale.Out{}}, {put(1, 0), tale.Out{}}, {put(2, 2048), tale.Out{}}, {put(0, 1023, 7), tale.Out{}}, {put(0, 0, page...), tale.Out{}}, {put(2, 1024, page...), tale.Out{}},
		{put(0, 1025), why(api.ErrOver)}, {put(0, 1024, 7), why(api.ErrOver)}, {put(0, 1023, 7, 7), why(api.ErrOver)}, {put(0, 1, page...), why(api.ErrOver)}, {put(1, 1), why(api.ErrOver)}, {put(1, 0, 7), why(api.ErrOver)}, {put(2, 2049), why(api.ErrOver)},
		{put(0, ones), why(api.ErrOver)}, {put(0, ones, 7), why(api.ErrOver)}, {put(0, ones-1, 7, 7), why(api.ErrOver)}, {put(0, 1<<63, 7), why(api.ErrOver)}, {put(0, 1<<32, 7), why(api.ErrOver)},
	}
	for _, k := range []int{3, 4, -1, math.MaxInt, math.MinInt} {
		l = append(l, row{put(k, 0, 7), why(api.ErrNone)}, row{put(k, ones, 7), why(api.ErrNone)}, row{put(k, 0), why(api.ErrNone)})
	}
	holds(t, l)
	w := begin(t)
	w.does(t, put(0, 5, 7, 8))
	w.does(t, put(2, 2046, 5, 6))
	b, c := w.m.Memory(0).Bytes(), w.m.Memory(2).Bytes()
	if !slices.Equal(b[3:9], []byte{0, 1, 7, 8, 0, 0}) || !slices.Equal(c[2045:], []byte{0, 5, 6}) {
		t.Errorf("P15.1: Put: %v, %v", b[3:9], c[2045:])
	}
	w.does(t, grow(1, 1))
	if got := w.does(t, put(1, 1020, 1, 2, 3, 4)); !equal(got, tale.Out{}) {
		t.Errorf("P15.1: Put into a memory that has grown: %+v", got)
	}
}

// What was done before a trap remains done, and the acts after it go on from there.
func TestRun(t *testing.T) {
	w := begin(t, host.Answer{Values: []uint64{6}}, host.Answer{Trap: true}, host.Answer{Values: []uint64{7}})
	l := []tale.Act{
		invoke("byte", 1), grow(1, 1), put(1, 1, 44), invoke("byte", 1), invoke("grow", 1), grow(0, 1), grow(0, 1),
		set(0, 4), invoke("stop"), {Kind: 7}, invoke("host", 1), invoke("ask", 2), invoke("", 3), invoke("host", 4), put(9, 0), invoke("x"), grow(0, 0),
	}
	want := []tale.Out{
		trap(api.Bounds), was(0), {}, values(44), values(1), was(2), was(-1),
		{}, trap(api.Unreachable), why(api.ErrArg), values(6), trap(api.HostTrap), values(7), values(0), why(api.ErrNone), why(api.ErrNone), was(3),
	}
	if got := tale.Run(w.m, l...); !slices.EqualFunc(got, want, equal) {
		t.Errorf("P15.1: Run: %+v, want %+v", got, want)
	}
	if got, calls := w.state(), []string{"{0 [1]}", "{0 [2]}", "{0 [3]}", "{0 [4]}"}; got.Globals[0] != 55 || !slices.Equal(got.Calls, calls) || got.Left != 0 {
		t.Errorf("P15.1: after Run: global 0 is %d, calls %v, %d answers left", got.Globals[0], got.Calls, got.Left)
	}
	for _, l := range [][]tale.Act{nil, {}} {
		if got := tale.Run(w.m, l...); len(got) > 0 {
			t.Errorf("P15.1: Run of no acts: %+v", got)
		}
	}
}

// Run changes none of its acts, and what it returns shares memory with nothing.
func TestRunKeepsAndChangesNoLists(t *testing.T) {
	w := begin(t)
	args, bytes := roomy([]uint64{1 << 40, 2, 3}), roomy([]byte{4, 5})
	l := make([]tale.Act, 3, 4)
	l[0], l[1], l[2] = invoke("turn", args...), put(0, 0, bytes...), invoke("turn", args...)
	was := slices.Clone(l)
	got := tale.Run(w.m, l...)
	if !reflect.DeepEqual(l, was) || !kept(args, []uint64{1 << 40, 2, 3}) || !kept(bytes, []byte{4, 5}) || !reflect.DeepEqual(l[:4][3], tale.Act{}) {
		t.Errorf("R2: Run has changed its acts: %+v", l)
	}
	after := w.state()
	spoil(args)
	spoil(bytes)
	want := []tale.Out{values(3, 0, 2), {}, values(3, 0, 2)}
	if !slices.EqualFunc(got, want, equal) || !reflect.DeepEqual(w.state(), after) {
		t.Errorf("R2: what Run did has changed with its acts: %+v", got)
	}
	spoil(got[0].Values)
	_ = append(got[:1], tale.Out{N: 5})
	again := tale.Run(w.m, invoke("turn", 1, 2, 3))
	if !equal(got[2], values(3, 0, 2)) || !equal(again[0], values(3, 1, 2)) {
		t.Errorf("R2: the Outs share memory: %+v, %+v", got, again)
	}
}

func TestWithoutMachine(t *testing.T) {
	l := []tale.Act{invoke("turn", 1, 2, 3), invoke("x"), within(invoke("stop"), 1, -1), grow(0, 1), grow(-1, 1), set(0, 1), set(9, 1), put(0, 0, 1), put(9, 9, 1), {}, {Kind: 9}}
	for _, a := range l {
		if got := tale.Do(nil, a); !equal(got, why(api.ErrArg)) {
			t.Errorf("P15.1: Do of %+v without a machine: %+v", a, got)
		}
	}
	if got := tale.Run(nil, l...); !slices.EqualFunc(got, slices.Repeat([]tale.Out{why(api.ErrArg)}, len(l)), equal) {
		t.Errorf("P15.1: Run without a machine: %+v", got)
	}
	if got := tale.Run(nil); len(got) > 0 {
		t.Errorf("P15.1: Run of no acts without a machine: %+v", got)
	}
}

func TestQuiet(t *testing.T) {
	for n := -3; n < 300; n++ {
		for _, o := range []tale.Out{{}, {Why: api.ErrOver, N: 7, Values: []uint64{8}}, {Why: 7, N: 8}, {Why: 8, N: -1, Values: []uint64{7}}} {
			o.Trap = n
			if got, want := tale.Quiet(o), n != 7 && n != 8; got != want {
				t.Errorf("P15.1: Quiet(%+v): %v, want %v", o, got, want)
			}
		}
	}
	for _, n := range []int{math.MinInt, math.MaxInt, 1<<32 + api.Fuel, 1<<32 + api.Deep} {
		if !tale.Quiet(trap(n)) {
			t.Errorf("P15.1: Quiet of the trap %d: false", n)
		}
	}
}

// An Out is the same only as one that was made of the same parts.
func TestSame(t *testing.T) {
	numbers := []int{0, 1, -1, 7, math.MaxInt, 1 << 32}
	lists := [][]uint64{{}, {0}, {1}, {0, 0}, {1, 0}, {0, 1}, {1 << 32}, {1 << 63}, {1, 2, 3}, {1, 2, 4}, {3, 2, 1}, {2, 1, 3}}
	var l []tale.Out
	for _, v := range lists {
		for _, n := range numbers {
			l = append(l, tale.Out{Why: api.Errno(n), Values: v}, tale.Out{Trap: n, Values: v}, tale.Out{N: n, Values: v}, tale.Out{Why: api.Errno(n), Trap: n, N: n, Values: v})
		}
	}
	for _, a := range l {
		for _, b := range l {
			a.Values, b.Values = roomy(a.Values), roomy(b.Values)
			spoil(b.Values[len(b.Values):])
			if got, want := tale.Same(a, b), equal(a, b); got != want {
				t.Fatalf("P15.1: Same(%+v, %+v): %v, want %v", a, b, got, want)
			}
		}
	}
	if !tale.Same(tale.Out{Values: nil}, tale.Out{Values: []uint64{}}) || !tale.Same(tale.Out{Values: []uint64{}}, tale.Out{}) {
		t.Error("R4: Same of empty lists: false")
	}
}

// Same and Quiet change nothing of what they are given.
func TestSameKeepsLists(t *testing.T) {
	a, b := roomy([]uint64{1, 2}), roomy([]uint64{1, 2})
	if !tale.Same(values(a...), values(b...)) || !tale.Quiet(values(a...)) || !kept(a, []uint64{1, 2}) || !kept(b, []uint64{1, 2}) {
		t.Error("R2: Same or Quiet has changed a list")
	}
}

// Any acts do what the methods of a second machine do.
func TestAnyActs(t *testing.T) {
	r := rand.New(rand.NewSource(15))
	errors, traps := map[api.Errno]int{}, map[int]int{}
	for range 4000 {
		var answers []host.Answer
		for range r.Intn(5) {
			answers = append(answers, host.Answer{Values: []uint64{r.Uint64()}, Trap: r.Intn(3) == 0})
		}
		v, w := begin(t, answers...), begin(t, answers...)
		for range 1 + r.Intn(9) {
			a := anyAct(r)
			want := second(w.m, a)
			if got := v.does(t, a); !equal(got, want) || !reflect.DeepEqual(v.state(), w.state()) {
				t.Fatalf("P15.1: Do of %+v: %+v, want %+v, or the machines differ", a, got, want)
			}
			errors[want.Why]++
			traps[want.Trap]++
		}
	}
	for _, e := range []api.Errno{api.OK, api.ErrArg, api.ErrType, api.ErrNone, api.ErrIndex, api.ErrOver} {
		if errors[e] < 100 {
			t.Errorf("of the errors there came only %v", errors)
		}
	}
	for n := range 9 {
		if traps[n] < 10 {
			t.Errorf("of the traps there came only %v", traps)
		}
	}
}

// anyAct returns an act of any kind, more often than not one that can be done.
func anyAct(r *rand.Rand) tale.Act {
	names := []string{"ask", "", "turn", "down", "round", "stop", "div", "trunc", "byte", "host", "grow", "memory", "x"}
	a := tale.Act{
		Kind: []int{0, tale.Invoke, tale.Invoke, tale.Invoke, tale.Grow, tale.Set, tale.Put, 5}[r.Intn(8)], Name: names[r.Intn(len(names))], Fuel: int64(r.Intn(200) - 2), Depth: []int{-1, 0, 1, 5, 20, 1024, 1025, 4096}[r.Intn(8)],
		K: r.Intn(6) - 1, N: r.Intn(4) - 1, At: []uint64{0, 5, 1023, 1024, 2047, 2048, ones}[r.Intn(7)], V: r.Uint64(), Bytes: make([]byte, r.Intn(4)),
	}
	for i := range a.Bytes {
		a.Bytes[i] = byte(r.Intn(256))
	}
	params := map[string]int{"turn": 3, "div": 2, "round": 0, "stop": 0}
	n, is := params[a.Name]
	if !is || r.Intn(10) == 0 {
		n = 1
	}
	for range n {
		a.Args = append(a.Args, []uint64{0, 1, 2, 1 << 31, math.MaxUint32, math.Float64bits(math.NaN()), math.Float64bits(1e10), r.Uint64()}[r.Intn(8)])
	}
	return a
}
