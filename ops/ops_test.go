package ops_test

import (
	"math"
	"slices"
	"testing"

	"plainsong/api"
	"plainsong/floats"
	"plainsong/ints"
	"plainsong/ops"
)

// types are the document's names of types, as one letter each: w for I32, l for I64, f for F64.
func types(letters string) []int {
	var l []int
	for _, r := range letters {
		l = append(l, map[rune]int{'w': api.I32, 'l': api.I64, 'f': api.F64}[r])
	}
	return l
}

// span is a run of operations with one signature, written once more by hand from chapters 1 to 3.
type span struct {
	first, last int
	takes       string
	gives       string
}

var spans = []span{
	{0x45, 0x45, "w", "w"}, {0x46, 0x4f, "ww", "w"},
	{0x50, 0x50, "l", "w"}, {0x51, 0x5a, "ll", "w"},
	{0x61, 0x66, "ff", "w"},
	{0x67, 0x69, "w", "w"}, {0x6a, 0x78, "ww", "w"},
	{0x79, 0x7b, "l", "l"}, {0x7c, 0x8a, "ll", "l"},
	{0x99, 0x9f, "f", "f"}, {0xa0, 0xa6, "ff", "f"},
	{0xa7, 0xa7, "l", "w"},
	{0xaa, 0xab, "f", "w"},
	{0xac, 0xad, "w", "l"},
	{0xb0, 0xb1, "f", "l"},
	{0xb7, 0xb8, "w", "f"},
	{0xb9, 0xba, "l", "f"},
	{0xbd, 0xbd, "f", "l"},
	{0xbf, 0xbf, "l", "f"},
	{0xc0, 0xc1, "w", "w"}, {0xc2, 0xc4, "l", "l"},
	{0xfc02, 0xfc03, "f", "w"},
	{0xfc06, 0xfc07, "f", "l"},
}

// access is a row of the document's table of loads and stores.
type access struct {
	bytes, kind int
	signed      bool
}

var accesses = map[int]access{
	0x28: {4, api.I32, false}, 0x29: {8, api.I64, false}, 0x2b: {8, api.F64, false},
	0x2c: {1, api.I32, true}, 0x2d: {1, api.I32, false}, 0x2e: {2, api.I32, true}, 0x2f: {2, api.I32, false},
	0x30: {1, api.I64, true}, 0x31: {1, api.I64, false}, 0x32: {2, api.I64, true}, 0x33: {2, api.I64, false}, 0x34: {4, api.I64, true}, 0x35: {4, api.I64, false},
	0x36: {4, api.I32, false}, 0x37: {8, api.I64, false}, 0x39: {8, api.F64, false},
	0x3a: {1, api.I32, false}, 0x3b: {2, api.I32, false},
	0x3c: {1, api.I64, false}, 0x3d: {2, api.I64, false}, 0x3e: {4, api.I64, false},
}

// others are the instructions that P3.3 lists, and those that open.
var others = []int{0x00, 0x01, 0x02, 0x03, 0x04, 0x05, 0x0b, 0x0c, 0x0d, 0x0e, 0x0f, 0x10, 0x12, 0x1a, 0x1b, 0x20, 0x21, 0x22, 0x23, 0x24, 0x3f, 0x40, 0x41, 0x42, 0x44, 0xfc08, 0xfc09, 0xfc0a, 0xfc0b}

var rich = []int{0x12, 0xc0, 0xc1, 0xc2, 0xc3, 0xc4, 0xfc02, 0xfc03, 0xfc06, 0xfc07, 0xfc08, 0xfc09, 0xfc0a, 0xfc0b}

// numbers are all that may be an instruction, and many that are none though their low bits look like one.
func numbers() []int {
	l := []int{math.MinInt, math.MinInt + 1, math.MinInt + 0x6a, -0xfc02, 1<<32 + 0x45, 1<<32 + 0x02, 1<<32 + 0xfc08, 1 << 62, math.MaxInt - 0xff + 0x6a, math.MaxInt - 1, math.MaxInt}
	for op := -0x400; op < 0x20000; op++ {
		l = append(l, op)
	}
	return l
}

func spanOf(op int) (span, bool) {
	for _, s := range spans {
		if op >= s.first && op <= s.last {
			return s, true
		}
	}
	return span{}, false
}

func known(op int) bool {
	_, numeric := spanOf(op)
	_, access := accesses[op]
	return numeric || access || slices.Contains(others, op)
}

func TestNumeric(t *testing.T) {
	for _, op := range numbers() {
		s, want := spanOf(op)
		sig, is := ops.Numeric(op)
		if is != want {
			t.Errorf("P3.1: Numeric(%#x): %v", op, is)
		}
		if !want && (sig.Params != nil || sig.Results != nil) {
			t.Errorf("P3.1: Numeric(%#x): %v beside false", op, sig)
		}
		if want && (!slices.Equal(sig.Params, types(s.takes)) || !slices.Equal(sig.Results, types(s.gives))) {
			t.Errorf("P3.1: Numeric(%#x): %v; want %s and %s", op, sig, s.takes, s.gives)
		}
	}
}

// TestNumericIsAll: every operation of ints and of floats has a signature, and nothing else has one.
func TestNumericIsAll(t *testing.T) {
	for _, op := range numbers() {
		if _, is := ops.Numeric(op); is != (ints.Is(op) || floats.Is(op)) {
			t.Errorf("P3.1: Numeric(%#x): %v; Is says otherwise", op, is)
		}
	}
}

// reckon computes op in the package that has it.
func reckon(op int, a, b uint64) uint64 {
	if ints.Is(op) {
		v, _ := ints.Do(op, a, b)
		return v
	}
	v, _ := floats.Do(op, a, b)
	return v
}

// TestNumericHolds holds the signatures to what the operations do: one with a single operand, and no other, ignores the second; one of 32-bit numbers ignores the upper bits; a 32-bit result has none.
func TestNumericHolds(t *testing.T) {
	values := []uint64{0, 1, 0xff, 0x8000, 0x80000000, 0xfffffff9, 1 << 32, 0x1234567890abcdef, math.Float64bits(1.5), math.Float64bits(-7), math.Float64bits(3e9), math.Float64bits(-1e300), math.MaxUint64}
	for op := range 0x10000 {
		sig, is := ops.Numeric(op)
		if !is {
			continue
		}
		single, short, fits := true, true, true
		for _, a := range values {
			for _, b := range values {
				v := reckon(op, a, b)
				single = single && v == reckon(op, a, 0) && v == reckon(op, a, 5)
				short = short && v == reckon(op, a&0xffffffff, b&0xffffffff)
				fits = fits && v <= 0xffffffff
			}
		}
		if single != (len(sig.Params) == 1) || sig.Params[0] == api.I32 && !short || sig.Results[0] == api.I32 && !fits {
			t.Errorf("P3.1: Numeric(%#x): %v; it does otherwise", op, sig)
		}
	}
}

// spoil overwrites a list with all its spare capacity.
func spoil(l []int) {
	l = l[:cap(l)]
	for i := range l {
		l[i] = -1
	}
}

func TestNumericIsNew(t *testing.T) {
	for _, op := range ops.All() {
		s, is := spanOf(op)
		if !is {
			continue
		}
		sig, _ := ops.Numeric(op)
		spoil(sig.Params)
		if !slices.Equal(sig.Results, types(s.gives)) {
			t.Errorf("R2: Numeric(%#x): the two lists share memory", op)
		}
		spoil(sig.Results)
		sig, _ = ops.Numeric(op)
		if !slices.Equal(sig.Params, types(s.takes)) || !slices.Equal(sig.Results, types(s.gives)) {
			t.Errorf("R2: Numeric(%#x): %v after an earlier answer was overwritten", op, sig)
		}
	}
}

func TestAccess(t *testing.T) {
	for _, op := range numbers() {
		want, is := accesses[op]
		bytes, kind, signed, ok := ops.Access(op)
		if got := (access{bytes, kind, signed}); got != want || ok != is {
			t.Errorf("P3.2: Access(%#x): %v, %v; want %v, %v", op, got, ok, want, is)
		}
	}
}

func TestConst(t *testing.T) {
	types := map[int]int{0x41: api.I32, 0x42: api.I64, 0x44: api.F64}
	for _, op := range numbers() {
		want, is := types[op]
		if got, ok := ops.Const(op); got != want || ok != is {
			t.Errorf("P3.2: Const(%#x): %#x, %v; want %#x, %v", op, got, ok, want, is)
		}
	}
}

func TestOpens(t *testing.T) {
	for _, op := range numbers() {
		if ops.Opens(op) != (op == 0x02 || op == 0x03 || op == 0x04) {
			t.Errorf("P3.2: Opens(%#x): %v", op, ops.Opens(op))
		}
	}
}

func TestKnown(t *testing.T) {
	for _, op := range numbers() {
		if ops.Known(op) != known(op) {
			t.Errorf("P3.3: Known(%#x): %v", op, ops.Known(op))
		}
	}
	// What WebAssembly has and the document has not: floating-point numbers of 32 bits, tables, references.
	for _, op := range []int{0x06, 0x0a, 0x11, 0x13, 0x1c, 0x25, 0x26, 0x2a, 0x38, 0x43, 0x5b, 0x60, 0x8b, 0x98, 0xa8, 0xa9, 0xae, 0xaf, 0xb2, 0xb6, 0xbb, 0xbc, 0xbe, 0xc5, 0xd0, 0xfb, 0xfc, 0xfc00, 0xfc01, 0xfc04, 0xfc05, 0xfc0c} {
		if ops.Known(op) {
			t.Errorf("P3.3: Known(%#x): true", op)
		}
	}
}

func TestRich(t *testing.T) {
	for _, op := range numbers() {
		if ops.Rich(op) != slices.Contains(rich, op) {
			t.Errorf("P3.3: Rich(%#x): %v", op, ops.Rich(op))
		}
	}
}

func TestAll(t *testing.T) {
	var want []int
	for op := range 0x10000 {
		if known(op) {
			want = append(want, op)
		}
	}
	got := ops.All()
	if !slices.Equal(got, want) {
		t.Errorf("P3.3: All(): %x; want %x", got, want)
	}
	spoil(got)
	if !slices.Equal(ops.All(), want) {
		t.Error("R2: All() hangs on an earlier answer")
	}
}

// The rows of the document's own examples.
func TestExamples(t *testing.T) {
	if !ops.Known(0x28) || ops.Known(0x2a) || ops.Rich(0x6a) {
		t.Error("P3.3: an example of the document")
	}
	if kind, is := ops.Const(0x43); kind != 0 || is {
		t.Error("P3.2: an example of the document")
	}
}
