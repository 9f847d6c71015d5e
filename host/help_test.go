package host_test

import (
	"math"
	"math/rand"
	"slices"
	"testing"

	"plainsong/api"
	"plainsong/host"
)

// second is the chapter's host once more, by the place of each answer and each call.
type second struct {
	answers []host.Answer
	calls   []host.Call
}

func (s *second) left() int {
	return max(0, len(s.answers)-len(s.calls))
}

func (s *second) ask(index int, args []uint64, results []int) ([]uint64, bool) {
	k := len(s.calls)
	s.calls = append(s.calls, host.Call{Index: index, Args: slices.Clone(args)})
	if k < len(s.answers) && s.answers[k].Trap {
		return nil, false
	}
	var l []uint64
	for i, t := range results {
		v := uint64(0)
		if k < len(s.answers) && i < len(s.answers[k].Values) {
			v = s.answers[k].Values[i]
		}
		if t == 0x7f {
			v %= 1 << 32
		}
		l = append(l, v)
	}
	return l, true
}

// pair is a host beside its second one.
type pair struct {
	t *testing.T
	h *host.Host
	s *second
}

// begin returns a pair with these answers, whose memory the host doesn't share with the second one.
func begin(t *testing.T, l ...host.Answer) pair {
	t.Helper()
	h := host.New(l...)
	if h == nil {
		t.Fatalf("P13.1: New of %d answers: nil", len(l))
	}
	p := pair{t, h, &second{answers: copyAnswers(l)}}
	p.same("New")
	return p
}

// same holds all that can be seen of the host against the second one.
func (p pair) same(what string) {
	p.t.Helper()
	if got, want := p.h.Left(), p.s.left(); got != want {
		p.t.Errorf("P13.1: Left after %s: %d, want %d", what, got, want)
	}
	if got := p.h.Calls(); !sameCalls(got, p.s.calls) {
		p.t.Errorf("P13.1: Calls after %s: %v, want %v", what, got, p.s.calls)
	}
}

// asks asks both, by slices whose spare capacity is neither to be read nor written, and holds these against what they were.
func (p pair) asks(index int, args []uint64, t api.Type) {
	p.t.Helper()
	p.asksOnly(index, args, t)
	p.same("Ask")
}

// asksOnly is asks for those who look at the calls later.
func (p pair) asksOnly(index int, args []uint64, t api.Type) {
	p.t.Helper()
	w, is := p.s.ask(index, args, t.Results)
	a, params, results := roomy(args), roomy(t.Params), roomy(t.Results)
	v, ok := p.h.Ask(index, a, api.Type{Params: params, Results: results})
	if !slices.Equal(v, w) || ok != is {
		p.t.Errorf("P13.1: Ask(%d, %#x, %#x), call %d: %#x, %v, want %#x, %v", index, args, t, len(p.s.calls), v, ok, w, is)
	}
	if !kept(a, args) || !kept(params, t.Params) || !kept(results, t.Results) {
		p.t.Errorf("R2: Ask(%d, %#x, %#x) has changed its arguments", index, args, t)
	}
	spoil(a)
	spoil(params)
	spoil(results)
	spoil(v)
}

// spare is what the tests write behind the end of a slice.
const spare = 0x55

// roomy returns a slice equal to l with two elements behind its end.
func roomy[E int | uint64](l []E) []E {
	c := append(append([]E{}, l...), spare, spare)
	return c[:len(l)]
}

// kept tells whether a slice that roomy made of l is as it was.
func kept[E int | uint64](c, l []E) bool {
	n := len(l)
	return slices.Equal(c, l) && c[:n+2][n] == spare && c[:n+2][n+1] == spare
}

// spoil changes each element of l, with those behind its end.
func spoil[E int | uint64](l []E) {
	l = l[:cap(l)]
	for i := range l {
		l[i] = l[i]*3 + 77
	}
}

func copyAnswers(l []host.Answer) []host.Answer {
	var c []host.Answer
	for _, a := range l {
		c = append(c, host.Answer{Values: slices.Clone(a.Values), Trap: a.Trap})
	}
	return c
}

func sameCalls(a, b []host.Call) bool {
	return slices.EqualFunc(a, b, func(x, y host.Call) bool {
		return x.Index == y.Index && slices.Equal(x.Args, y.Args)
	})
}

func gives(values ...uint64) host.Answer { return host.Answer{Values: values} }

func traps(values ...uint64) host.Answer { return host.Answer{Values: values, Trap: true} }

func results(l ...int) api.Type { return api.Type{Results: l} }

// values whose lowest 32 bits, highest bits and sign bits all differ from each other.
func values() []uint64 {
	return []uint64{0, 1, 0x7fffffff, 0x80000000, 0xffffffff, 1 << 32, 0x1_80000001, 0x1122334455667788, 0x7ff8000000000000, 0x7ff0000000000001, 1 << 63, 0xfedcba9876543210, math.MaxUint64 - 1, math.MaxUint64}
}

// types are those of values, and numbers that are none, of which some have the lowest bits of one.
func types() []int {
	return []int{api.I32, api.I64, api.F64, 0, 1, -1, -2, 0x7d, 0x40, 0x17f, 1<<32 + 0x7f, -0x81, math.MinInt, math.MaxInt}
}

// some returns up to n of l, in any order and several times.
func some[E any](r *rand.Rand, n int, l []E) []E {
	var c []E
	for range r.Intn(n + 1) {
		c = append(c, l[r.Intn(len(l))])
	}
	return c
}
