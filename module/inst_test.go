package module_test

import (
	"math"
	"slices"
	"testing"

	"plainsong/api"
	"plainsong/module"
)

// bounds is a row of the chapter's table, written once more by hand: between which numbers A lies, up to which B and N, and whether there are labels.
type bounds struct {
	leastA, mostA, mostB int
	mostN                uint64
	labels               bool
}

const (
	word = 1<<32 - 1
	long = 1<<64 - 1
)

var used = map[int]bounds{
	0x02: {leastA: -4, mostA: 63}, 0x03: {leastA: -4, mostA: 63}, 0x04: {leastA: -4, mostA: 63},
	0x0c: {mostA: 64}, 0x0d: {mostA: 64},
	0x0e: {labels: true},
	0x10: {mostA: 255}, 0x12: {mostA: 255},
	0x20: {mostA: 255}, 0x21: {mostA: 255}, 0x22: {mostA: 255},
	0x23: {mostA: 255}, 0x24: {mostA: 255},
	0x28: {mostA: 3, mostN: word}, 0x29: {mostA: 3, mostN: word}, 0x2b: {mostA: 3, mostN: word},
	0x2c: {mostA: 3, mostN: word}, 0x2d: {mostA: 3, mostN: word}, 0x2e: {mostA: 3, mostN: word}, 0x2f: {mostA: 3, mostN: word},
	0x30: {mostA: 3, mostN: word}, 0x31: {mostA: 3, mostN: word}, 0x32: {mostA: 3, mostN: word}, 0x33: {mostA: 3, mostN: word}, 0x34: {mostA: 3, mostN: word}, 0x35: {mostA: 3, mostN: word},
	0x36: {mostA: 3, mostN: word}, 0x37: {mostA: 3, mostN: word}, 0x39: {mostA: 3, mostN: word},
	0x3a: {mostA: 3, mostN: word}, 0x3b: {mostA: 3, mostN: word}, 0x3c: {mostA: 3, mostN: word}, 0x3d: {mostA: 3, mostN: word}, 0x3e: {mostA: 3, mostN: word},
	0x3f: {mostA: 3}, 0x40: {mostA: 3}, 0xfc0b: {mostA: 3},
	0x41: {mostN: word}, 0x42: {mostN: long}, 0x44: {mostN: long},
	0xfc08: {mostA: 3, mostB: 15},
	0xfc09: {mostA: 15},
	0xfc0a: {mostA: 3, mostB: 3},
}

// bare tells whether op is an instruction that uses no field.
func bare(op int) bool {
	for _, span := range [][2]int{{0x00, 0x01}, {0x05, 0x05}, {0x0b, 0x0b}, {0x0f, 0x0f}, {0x1a, 0x1b}, {0x45, 0x5a}, {0x61, 0x8a}, {0x99, 0xa7}, {0xaa, 0xad}, {0xb0, 0xb1}, {0xb7, 0xba}, {0xbd, 0xbd}, {0xbf, 0xc4}, {0xfc02, 0xfc03}, {0xfc06, 0xfc07}} {
		if op >= span[0] && op <= span[1] {
			return true
		}
	}
	return false
}

// The fields to try: both sides of each bound, and numbers that look like small ones when they are cut to fewer bits.
var (
	someA = []int{math.MinInt, -1 << 32, -257, -65, -6, -5, -4, -3, -2, -1, 0, 1, 2, 3, 4, 5, 14, 15, 16, 17, 18, 62, 63, 64, 65, 254, 255, 256, 257, 1 << 16, 1 << 32, 1<<32 + 1, math.MaxInt}
	someB = []int{math.MinInt, -4, -1, 0, 1, 3, 4, 14, 15, 16, 64, 1 << 32, math.MaxInt}
	someN = []uint64{0, 1, 1 << 31, word, word + 1, word + 2, 1 << 63, long}
)

// lists are lists of labels, the right ones first; right counts them.
func lists() (l [][]int, right int) {
	l = [][]int{{0}, {64}, {0, 0}, {5, 64, 0}, make([]int, 16), slices.Repeat([]int{64}, 17)}
	right = len(l)
	late := make([]int, 17)
	late[16] = 65
	return append(l, nil, []int{}, []int{-1}, []int{65}, []int{math.MinInt}, []int{math.MaxInt}, []int{1 << 32}, []int{0, 65}, []int{65, 0}, []int{0, -1, 0}, late, make([]int, 18), make([]int, 1000), make([]int, 1<<16+1)), right
}

// holds tells whether the row allows these fields; labels tells whether those of i are right.
func (b bounds) holds(i api.Inst, labels bool) bool {
	if i.A < b.leastA || i.A > b.mostA || i.B < 0 || i.B > b.mostB || i.N > b.mostN {
		return false
	}
	if b.labels {
		return labels
	}
	return len(i.L) == 0
}

func TestInst(t *testing.T) {
	ls, right := lists()
	for op := range 0x10000 {
		row, is := used[op]
		if !is && !bare(op) {
			continue
		}
		for _, a := range someA {
			for _, b := range someB {
				for _, n := range someN {
					for k, l := range ls {
						i := api.Inst{Op: op, A: a, B: b, N: n, L: l}
						if got := module.Inst(i); got != row.holds(i, k < right) {
							t.Fatalf("P6.1: Inst(Op %#x, A %d, B %d, N %#x, list of labels %d): %v", op, a, b, n, k, got)
						}
					}
				}
			}
		}
	}
}

// What is no instruction stays none, whatever its fields are.
func TestUnknownInst(t *testing.T) {
	numbers := []int{math.MinInt, math.MinInt + 0x6a, -0xfc02, 1<<32 + 0x0b, 1<<32 + 0x41, 1<<32 + 0xfc08, 1 << 62, math.MaxInt}
	for op := -0x400; op < 0x20000; op++ {
		numbers = append(numbers, op)
	}
	for _, op := range numbers {
		if _, is := used[op]; is || bare(op) {
			continue
		}
		for _, i := range []api.Inst{{Op: op}, {Op: op, A: 1}, {Op: op, A: -1}, {Op: op, B: 1}, {Op: op, N: 1}, {Op: op, L: []int{0}}, {Op: op, A: 1, B: 1, N: 1, L: []int{1}}} {
			if module.Inst(i) {
				t.Errorf("P6.1: Inst(%v): true", i)
			}
		}
	}
}

// Every number that a field of 10 bits could have, for each bound of A and of the labels.
func TestEachSmallIndex(t *testing.T) {
	for n := -0x400; n <= 0x400; n++ {
		for _, op := range []int{0x02, 0x03, 0x04, 0x0c, 0x0d, 0x10, 0x12, 0x20, 0x21, 0x22, 0x23, 0x24, 0x28, 0x3e, 0x3f, 0x40, 0xfc08, 0xfc09, 0xfc0a, 0xfc0b, 0x01, 0x0b, 0x41, 0x6a} {
			if got := module.Inst(api.Inst{Op: op, A: n}); got != (n >= used[op].leastA && n <= used[op].mostA) {
				t.Errorf("P6.1: Inst(Op %#x, A %d): %v", op, n, got)
			}
		}
		if got := module.Inst(api.Inst{Op: 0x0e, L: []int{64, n, 0}}); got != (n >= 0 && n <= 64) {
			t.Errorf("P6.1: Inst(br_table with the label %d): %v", n, got)
		}
	}
	for n := range 100 {
		if got := module.Inst(api.Inst{Op: 0x0e, L: make([]int, n)}); got != (n >= 1 && n <= 17) {
			t.Errorf("P6.1: Inst(br_table with %d labels): %v", n, got)
		}
	}
}
