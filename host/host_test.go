package host_test

import (
	"math"
	"math/rand"
	"slices"
	"testing"

	"plainsong/api"
	"plainsong/host"
)

func TestExamples(t *testing.T) {
	if v, ok := host.New().Ask(0, nil, results(api.I32)); !slices.Equal(v, []uint64{0}) || !ok {
		t.Errorf("P13.1: New(), Ask with the result type I32: %v, %v", v, ok)
	}
	if v, ok := host.New(traps()).Ask(0, nil, results(api.I32)); len(v) != 0 || ok {
		t.Errorf("P13.1: Ask with an Answer that is a Trap: %v, %v", v, ok)
	}
	if n := host.New().Left(); n != 0 {
		t.Errorf("P13.1: New(), Left: %d", n)
	}
	if l := host.New().Calls(); len(l) != 0 {
		t.Errorf("P13.1: New(), Calls: %v", l)
	}
}

func TestByHand(t *testing.T) {
	h := host.New(gives(0x1_00000002, 0x3_00000004, 5), traps(6), gives(7))
	for i, c := range []struct {
		t    api.Type
		want []uint64
		ok   bool
		left int
	}{
		{results(api.I32, api.I64), []uint64{2, 0x3_00000004}, true, 2},
		{results(api.I64), nil, false, 1},
		{results(api.F64, api.I32, api.I64), []uint64{7, 0, 0}, true, 0},
		{results(api.I64, api.F64), []uint64{0, 0}, true, 0},
		{results(), nil, true, 0},
	} {
		v, ok := h.Ask(i+3, []uint64{uint64(i), math.MaxUint64}, c.t)
		if !slices.Equal(v, c.want) || ok != c.ok || h.Left() != c.left {
			t.Errorf("P13.1: Ask, call %d: %#x, %v, left %d, want %#x, %v, %d", i, v, ok, h.Left(), c.want, c.ok, c.left)
		}
	}
	for i, c := range h.Calls() {
		if c.Index != i+3 || !slices.Equal(c.Args, []uint64{uint64(i), math.MaxUint64}) {
			t.Errorf("P13.1: Calls, call %d: %v", i, c)
		}
	}
	if n := len(h.Calls()); n != 5 {
		t.Errorf("P13.1: %d Calls of 5", n)
	}
}

// Each value is taken as each type, at each of two places.
func TestValuesAsTypes(t *testing.T) {
	for _, v := range values() {
		for _, a := range types() {
			begin(t, gives(v)).asks(0, nil, results(a))
			for _, b := range types() {
				begin(t, gives(v, ^v)).asks(0, nil, results(a, b))
			}
		}
	}
}

// Any number of values meets any number of results.
func TestTruncatedAndExtended(t *testing.T) {
	for n := range 12 {
		for k := range 12 {
			for _, kind := range types() {
				l := make([]uint64, n)
				for i := range l {
					l[i] = math.MaxUint64 - uint64(i)
				}
				begin(t, gives(l...)).asks(1, nil, results(slices.Repeat([]int{kind}, k)...))
			}
		}
	}
	begin(t, gives(slices.Repeat([]uint64{math.MaxUint64}, 5000)...)).asks(0, nil, results(api.I32))
	begin(t, gives(math.MaxUint64)).asks(0, nil, results(slices.Repeat([]int{api.I32, api.I64}, 5000)...))
}

// Where there is no answer, or no more, zeros are.
func TestWithoutAnswers(t *testing.T) {
	for _, p := range []pair{begin(t), begin(t, nil...), begin(t, []host.Answer{}...), begin(t, gives(9), gives(8))} {
		for i, kind := range types() {
			p.asks(i, []uint64{uint64(i)}, results(kind))
			p.asks(-i, nil, results(kind, kind, api.I64))
			p.asks(i, nil, results())
		}
	}
}

// A trap is an answer like the others: it is taken, its call is recorded, and the next call has the next answer.
func TestTraps(t *testing.T) {
	for n := range 6 {
		for set := range 1 << n {
			var l []host.Answer
			for i := range n {
				l = append(l, host.Answer{Values: []uint64{uint64(i) + 10, 20}, Trap: set>>i&1 == 1})
			}
			p := begin(t, l...)
			for i := range n + 3 {
				p.asks(i, []uint64{uint64(i)}, results([]int{api.I64, api.I32, api.F64}[:i%4%3+1]...))
			}
		}
	}
	for _, a := range []host.Answer{traps(), traps(1), traps(1, 2, 3)} {
		for k := range 4 {
			begin(t, a).asks(0, nil, results(slices.Repeat([]int{api.I64}, k)...))
		}
	}
}

// A call is recorded as it was asked, whatever its type says, and whether such a function may be or not.
func TestRecords(t *testing.T) {
	p := begin(t, gives(1), traps(), gives())
	numbers := []int{math.MinInt, math.MinInt32, -2, -1, 0, 1, 2, 7, 8, 255, 256, 257, 1 << 32, math.MaxInt}
	for i, index := range numbers {
		for _, kind := range types() {
			p.asks(index, values()[:i], api.Type{Params: []int{kind, api.I32}, Results: []int{kind}})
		}
	}
	p = begin(t)
	for _, v := range values() {
		p.asks(3, []uint64{v, ^v}, api.Type{Params: []int{api.I32, api.I32}})
	}
	p.asks(3, nil, api.Type{Params: []int{api.I32}})
	p.asks(3, []uint64{}, api.Type{})
	p.asks(4, slices.Repeat([]uint64{math.MaxUint64}, 3000), api.Type{})
	p.asks(3, []uint64{1}, api.Type{})
	p.asks(3, []uint64{1}, api.Type{})
}

// Any calls on any answers.
func TestAnyCalls(t *testing.T) {
	r := rand.New(rand.NewSource(13))
	for range 3000 {
		var l []host.Answer
		for range r.Intn(6) {
			l = append(l, host.Answer{Values: some(r, 5, values()), Trap: r.Intn(4) == 0})
		}
		p := begin(t, l...)
		for range r.Intn(9) {
			p.asks(r.Intn(6)-1, some(r, 4, values()), api.Type{Params: some(r, 3, types()), Results: some(r, 5, types())})
		}
	}
}

func TestManyAnswers(t *testing.T) {
	const n = 100_000
	l := make([]host.Answer, n)
	for i := range l {
		l[i] = host.Answer{Values: []uint64{uint64(i)<<20 + 3, uint64(i)}, Trap: i%97 == 96}
	}
	p := begin(t, l...)
	for i := range n + 1000 {
		p.asksOnly(i, []uint64{uint64(i) * 5}, results([]int{api.I32, api.I64, api.I64}[:i%4%3]...))
		if i%9973 == 0 || i >= n {
			if got, want := p.h.Left(), p.s.left(); got != want {
				t.Fatalf("P13.1: Left after %d calls: %d, want %d", i+1, got, want)
			}
		}
	}
	p.same("many calls")
}

// What is passed to New stays as it is, and what becomes of it later is nothing to the host.
func TestNewKeepsNothing(t *testing.T) {
	one, two := roomy([]uint64{1, 2}), roomy([]uint64{3})
	l := make([]host.Answer, 3, 4)
	l[0], l[1], l[2] = gives(one...), traps(two...), host.Answer{Values: one[:1]}
	p := begin(t, l...)
	q := begin(t, l...)
	if !kept(one, []uint64{1, 2}) || !kept(two, []uint64{3}) {
		t.Error("R2: New has changed the values")
	}
	p.asks(0, nil, results(api.I64, api.I64, api.I64))
	if len(l[0].Values) != 2 || l[0].Trap || len(l[1].Values) != 1 || !l[1].Trap || len(l[2].Values) != 1 || l[:4][3].Values != nil {
		t.Error("R2: Ask has changed what New was given")
	}
	spoil(one)
	spoil(two)
	l[0], l[1], l[2] = traps(), gives(9), traps()
	_ = append(l, traps())
	for range 5 {
		p.asks(1, nil, results(api.I64, api.I64, api.I64))
		q.asks(2, nil, results(api.I64, api.I64, api.I64))
	}
}

// Answers may share memory with each other; what Ask returns doesn't.
func TestAnswersOfOneList(t *testing.T) {
	v := []uint64{1, 2, 3, 4}
	p := begin(t, gives(v...), gives(v[:2]...), gives(v[1:]...), gives(v[:0]...), gives(v...))
	for range 7 {
		p.asks(0, v[1:3], results(api.I64, api.I64, api.I32, api.I64, api.I64))
	}
	if !slices.Equal(v, []uint64{1, 2, 3, 4}) {
		t.Errorf("R2: the values have become %v", v)
	}
}

// What Calls returns is the caller's: it shares no memory with the host, nor one of its lists with another.
func TestCallsAreNew(t *testing.T) {
	p := begin(t)
	for i := range 5 {
		p.asks(i, []uint64{1, 2, 3}[:i%4], results())
	}
	l := p.h.Calls()
	for i := range l {
		spoil(l[i].Args)
		for k, c := range l[i+1:] {
			if !slices.Equal(c.Args, p.s.calls[i+1+k].Args) {
				t.Fatalf("R2: the Args of calls %d and %d share memory", i, i+1+k)
			}
		}
	}
	p.same("a change of all Args")
	for i := range l {
		l[i].Index = 99
	}
	_ = append(l, host.Call{Index: 98}, host.Call{Index: 97})
	p.same("a change of all Calls")
	p.asks(5, []uint64{6}, results())
	p.same("one more")
}

// Ask goes on behind the calls that Calls has returned before.
func TestCallsStay(t *testing.T) {
	h := host.New()
	var l [][]host.Call
	for i := range 20 {
		l = append(l, h.Calls())
		h.Ask(i, []uint64{uint64(i)}, results())
	}
	for n, calls := range l {
		if len(calls) != n {
			t.Fatalf("P13.1: %d Calls of %d", len(calls), n)
		}
		for i, c := range calls {
			if c.Index != i || !slices.Equal(c.Args, []uint64{uint64(i)}) {
				t.Errorf("R2: call %d of %d: %v", i, n, c)
			}
		}
	}
}

// Two hosts know nothing of each other.
func TestTwoHosts(t *testing.T) {
	p, q := begin(t, gives(1), gives(2)), begin(t, gives(1), gives(2))
	p.asks(1, []uint64{5}, results(api.I32))
	q.same("a call of another host")
	p.asks(2, nil, results(api.I32))
	q.asks(3, []uint64{6}, results(api.I32))
	p.same("a call of another host")
	q.asks(4, nil, results(api.I32))
}

// Left and Calls only tell.
func TestTellingTakesNothing(t *testing.T) {
	p := begin(t, gives(1), traps(), gives(3))
	for range 4 {
		for range 3 {
			p.same("being asked again")
		}
		p.asks(0, nil, results(api.I64))
	}
}
