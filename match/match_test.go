package match_test

import (
	"math"
	"reflect"
	"slices"
	"strings"
	"testing"

	"plainsong/api"
	"plainsong/match"
	"plainsong/ops"
)

const none = -1

// letters name the instructions that matter here, and one that doesn't.
var letters = map[byte]int{'b': 0x02, 'l': 0x03, 'i': 0x04, 'e': 0x05, '.': 0x0b, '-': 0x01}

const all = "bli.e-"

func codeOf(s string) []api.Inst {
	code := make([]api.Inst, len(s))
	for k := range s {
		code[k].Op = letters[s[k]]
	}
	return code
}

// grammar reads code as one that is written down by recursion: no stack of its own, and each error by itself.
type grammar struct {
	code    string
	spans   []match.Span
	deepest int
	broken  bool
}

func (g *grammar) is(at int, letter byte) bool {
	return at < len(g.code) && g.code[at] == letter
}

// body returns where the instructions from at on come to an end or an else that isn't theirs.
func (g *grammar) body(at, deep int) int {
	g.deepest = max(g.deepest, deep)
	for at < len(g.code) && !g.is(at, '.') && !g.is(at, 'e') {
		if g.is(at, '-') {
			at++
		} else {
			at = g.block(at, deep+1)
		}
	}
	return at
}

// block returns what follows the block at at.
func (g *grammar) block(at, deep int) int {
	k := len(g.spans)
	g.spans = append(g.spans, match.Span{At: at, Else: none})
	end := g.body(at+1, deep)
	if g.is(at, 'i') && g.is(end, 'e') {
		g.spans[k].Else = end
		end = g.body(end+1, deep)
	}
	if !g.is(end, '.') {
		g.broken = true
		return len(g.code)
	}
	g.spans[k].End = end
	return end + 1
}

func expect(s string) ([]match.Span, api.Errno) {
	g := grammar{code: s}
	end := g.body(0, 0)
	switch {
	case g.broken || !g.is(end, '.') || end != len(s)-1:
		return nil, api.ErrForm
	case g.deepest > 64:
		return nil, api.ErrOver
	}
	return g.spans, api.OK
}

func compare(t *testing.T, s string) {
	t.Helper()
	got, why := match.Of(codeOf(s))
	want, wantWhy := expect(s)
	if why != wantWhy || !slices.Equal(got, want) {
		t.Fatalf("P7.1: Of(%.300s): %v, %d, want %v, %d", s, got, why, want, wantWhy)
	}
}

// each calls see with every text of n letters.
func each(n int, see func(string)) {
	text := make([]byte, n)
	var fill func(k int)
	fill = func(k int) {
		if k == n {
			see(string(text))
			return
		}
		for _, letter := range []byte(all) {
			text[k] = letter
			fill(k + 1)
		}
	}
	fill(0)
}

// Spans that were written down by hand.
func TestOf(t *testing.T) {
	for _, c := range []struct {
		code string
		want []match.Span
	}{
		{".", nil},
		{"---.", nil},
		{"b..", []match.Span{{0, none, 1}}},
		{"-l-.-.", []match.Span{{1, none, 3}}},
		{"i..", []match.Span{{0, none, 1}}},
		{"ie..", []match.Span{{0, 1, 2}}},
		{"i-e--.-.", []match.Span{{0, 2, 5}}},
		{"b.l.i..", []match.Span{{0, none, 1}, {2, none, 3}, {4, none, 5}}},
		{"bli....", []match.Span{{0, none, 5}, {1, none, 4}, {2, none, 3}}},
		{"iie.e..", []match.Span{{0, 4, 5}, {1, 2, 3}}},
		{"ieie...", []match.Span{{0, 1, 5}, {2, 3, 4}}},
		{"ib.el...", []match.Span{{0, 3, 6}, {1, none, 2}, {4, none, 5}}},
		{"b-b-ie.-.i-e...", []match.Span{{0, none, 13}, {2, none, 8}, {4, 5, 6}, {9, 11, 12}}},
	} {
		if got, why := match.Of(codeOf(c.code)); why != api.OK || !slices.Equal(got, c.want) {
			t.Errorf("P7.1: Of(%s): %v, %d, want %v", c.code, got, why, c.want)
		}
	}
}

// Codes that were found wrong by hand.
func TestRefused(t *testing.T) {
	for _, code := range []string{
		"", "-", "e", "b", "l", "i", "b.", "l.", "i.", "ie.", "..", ".-", ".b..", "b...", "-.-.",
		"e.", "be..", "le..", "iee..", "iiee...", "ibe...", "ile...", "iebe...", "ie.e.", "i.e.", "b.e.", ".e", "..e", "i-", "ie", "bb..", ".e.",
	} {
		if got, why := match.Of(codeOf(code)); why != api.ErrForm || len(got) > 0 {
			t.Errorf("P7.1: Of(%s): %v, %d", code, got, why)
		}
	}
	if got, why := match.Of(nil); why != api.ErrForm || len(got) > 0 {
		t.Errorf("P7.1: Of(nil): %v, %d", got, why)
	}
}

func TestEachShortCode(t *testing.T) {
	for n := range 9 {
		each(n, func(s string) { compare(t, s) })
	}
}

// At the greatest depth every short code is tried, with every number of ends behind it that could do.
func TestDeep(t *testing.T) {
	for _, frame := range []string{"b", "l", "i", "ie", "-b", "bl", "b.b", "ib.e"} {
		opens := strings.Count(frame, "b") + strings.Count(frame, "l") + strings.Count(frame, "i") - strings.Count(frame, ".")
		for deep := 62; deep <= 66; deep++ {
			outer := strings.Repeat(frame, deep/opens)
			for n := range 4 {
				each(n, func(s string) {
					for ends := deep - 2; ends <= deep+4; ends++ {
						compare(t, outer+s+strings.Repeat(".", ends))
					}
				})
			}
		}
	}
}

func TestDeepByHand(t *testing.T) {
	for _, c := range []struct {
		what, code string
		want       api.Errno
	}{
		{"64 blocks", strings.Repeat("b", 64) + strings.Repeat(".", 65), api.OK},
		{"65 blocks", strings.Repeat("b", 65) + strings.Repeat(".", 66), api.ErrOver},
		{"65 loops", strings.Repeat("l", 65) + strings.Repeat(".", 66), api.ErrOver},
		{"65 ifs", strings.Repeat("i", 65) + strings.Repeat(".", 66), api.ErrOver},
		{"64 ifs in their elses", strings.Repeat("ie", 64) + strings.Repeat(".", 65), api.OK},
		{"65 ifs in their elses", strings.Repeat("ie", 65) + strings.Repeat(".", 66), api.ErrOver},
		{"1000 blocks side by side", strings.Repeat("b.", 1000) + ".", api.OK},
		{"64 blocks, twice", strings.Repeat(strings.Repeat("b", 64)+strings.Repeat(".", 64), 2) + ".", api.OK},
		{"65 blocks before less", strings.Repeat("b", 65) + strings.Repeat(".", 65) + "b..", api.ErrOver},
		{"65 blocks after less", "b." + strings.Repeat("b", 65) + strings.Repeat(".", 66), api.ErrOver},
		{"65 blocks, none with its end", strings.Repeat("b", 65), api.ErrForm},
		{"65 blocks, one without its end", strings.Repeat("b", 65) + strings.Repeat(".", 65), api.ErrForm},
		{"65 blocks, with an end too many", strings.Repeat("b", 65) + strings.Repeat(".", 67), api.ErrForm},
		{"65 blocks, more behind the end", strings.Repeat("b", 65) + strings.Repeat(".", 66) + "-", api.ErrForm},
		{"an else before 65 blocks", "e" + strings.Repeat("b", 65) + strings.Repeat(".", 66), api.ErrForm},
		{"an else in 65 blocks", strings.Repeat("b", 65) + "e" + strings.Repeat(".", 66), api.ErrForm},
		{"an else after 65 blocks", strings.Repeat("b", 65) + strings.Repeat(".", 65) + "e.", api.ErrForm},
		{"two elses around 65 ifs", strings.Repeat("i", 65) + "ee" + strings.Repeat(".", 66), api.ErrForm},
		{"a million blocks", strings.Repeat("b", 1<<20) + strings.Repeat(".", 1<<20+1), api.ErrOver},
		{"a million blocks without ends", strings.Repeat("b", 1<<20), api.ErrForm},
		{"a million blocks and one end", strings.Repeat("b", 1<<20) + ".", api.ErrForm},
		{"a million ends", strings.Repeat(".", 1<<20), api.ErrForm},
		{"a million blocks side by side", strings.Repeat("b.", 1<<20) + ".", api.OK},
	} {
		got, why := match.Of(codeOf(c.code))
		if why != c.want || (why == api.OK) != (len(got) > 0) {
			t.Errorf("P7.1: Of(%s): %d spans, %d, want %d", c.what, len(got), why, c.want)
		}
	}
}

// Codes that are long and mostly right: a wrong letter is put into every tenth.
func TestLongCodes(t *testing.T) {
	seed := uint32(1)
	next := func(n int) int {
		seed = seed*1664525 + 1013904223
		return int(seed>>8) % n
	}
	for round := range 3000 {
		var code []byte
		var open []byte
		for range next(400) {
			switch k := next(10); {
			case k < 4 && len(open) < 70:
				open = append(open, all[next(3)])
				code = append(code, open[len(open)-1])
			case k < 7 && len(open) > 0:
				open = open[:len(open)-1]
				code = append(code, '.')
			case k < 8 && len(open) > 0 && open[len(open)-1] == 'i':
				open[len(open)-1] = 'e'
				code = append(code, 'e')
			default:
				code = append(code, '-')
			}
		}
		code = append(code, strings.Repeat(".", len(open)+1)...)
		if round%10 == 0 {
			code[next(len(code))] = all[next(len(all))]
		}
		compare(t, string(code))
	}
}

// What an instruction has beside its Op is of no matter, nor is any other instruction, nor what is none.
func TestOtherInstructions(t *testing.T) {
	full := func(op int) api.Inst {
		return api.Inst{Op: op, A: math.MinInt, B: math.MaxInt, N: math.MaxUint64, L: []int{-1, 1 << 40}}
	}
	want := []match.Span{{1, 3, 5}}
	others := append(ops.All(), math.MinInt, math.MinInt+2, -0xfc02, -0x0b, -5, -2, -1, 0x06, 0x0a, 0x100, 0x102, 0x10b, 0x202, 0xfc00, 0xfc04, 0xfc05, 0xfc0c, 1<<16+5, 1<<32+2, 1<<32+3, 1<<32+4, 1<<32+5, 1<<32+0x0b, math.MaxInt)
	for _, op := range others {
		if op >= 0x02 && op <= 0x05 || op == 0x0b {
			continue
		}
		code := []api.Inst{full(op), full(0x04), full(op), full(0x05), full(op), full(0x0b), full(op), full(0x0b)}
		if got, why := match.Of(code); why != api.OK || !slices.Equal(got, want) {
			t.Errorf("P7.1: Of with instruction %#x: %v, %d", op, got, why)
		}
		if got, why := match.Of(code[:7]); why != api.ErrForm || len(got) > 0 {
			t.Errorf("P7.1: Of with instruction %#x as the last one: %v, %d", op, got, why)
		}
		if got, why := match.Of(append(code, full(op))); why != api.ErrForm || len(got) > 0 {
			t.Errorf("P7.1: Of with instruction %#x behind the last end: %v, %d", op, got, why)
		}
	}
}

func TestOfKeepsToItsArgument(t *testing.T) {
	long := codeOf("bie..." + "b.ee.")
	was := slices.Clone(long)
	code := long[:6]
	first, why := match.Of(code)
	if why != api.OK || len(first) != 2 {
		t.Fatalf("P7.1: Of: %v, %d", first, why)
	}
	if _, why := match.Of(long[:5]); why != api.ErrForm {
		t.Errorf("R5: Of reads an end out of spare capacity: %d", why)
	}
	if !reflect.DeepEqual(long, was) {
		t.Error("R2: Of changes its argument")
	}
	want := slices.Clone(first)
	second, _ := match.Of(code)
	clear(second[:cap(second)])
	if !slices.Equal(first, want) {
		t.Error("R2: two answers of Of share memory")
	}
	if third, _ := match.Of(code); !slices.Equal(third, want) {
		t.Errorf("R4: Of, once more: %v", third)
	}
}

func TestFind(t *testing.T) {
	l, _ := match.Of(codeOf("-bi-e.l-..b.i.."))
	starts := map[int]match.Span{1: {1, none, 9}, 2: {2, 4, 5}, 6: {6, none, 8}, 10: {10, none, 11}, 12: {12, none, 13}}
	for at := -20; at < 40; at++ {
		want, is := starts[at]
		if got, ok := match.Find(l, at); ok != is || got != want {
			t.Errorf("P7.1: Find(%d): %v, %v", at, got, ok)
		}
	}
	for _, at := range []int{math.MinInt, math.MaxInt, 1<<32 + 1, -1 << 32} {
		if got, ok := match.Find(l, at); ok || got != (match.Span{}) {
			t.Errorf("P7.1: Find(%d): %v, %v", at, got, ok)
		}
	}
	for _, l := range [][]match.Span{nil, {}} {
		if got, ok := match.Find(l, 0); ok || got != (match.Span{}) {
			t.Errorf("P7.1: Find in no spans: %v, %v", got, ok)
		}
	}
}

// Lists that Of doesn't return.
func TestFindInAnyList(t *testing.T) {
	l := []match.Span{{9, 1, 2}, {3, 4, 5}, {math.MinInt, 6, 7}, {3, 8, 8}, {0, 0, 0}, {math.MaxInt, -5, 0}, {9, 9, 9}, {-1, 3, 3}}
	was := slices.Clone(l)
	for _, want := range []match.Span{l[0], l[1], l[2], l[4], l[5], l[7]} {
		if got, ok := match.Find(l, want.At); !ok || got != want {
			t.Errorf("P7.1: Find(%d) in a list of no order: %v, %v, want %v", want.At, got, ok, want)
		}
	}
	for _, at := range []int{1, 2, 4, 5, 6, 7, 8, -5} {
		if got, ok := match.Find(l, at); ok || got != (match.Span{}) {
			t.Errorf("P7.1: Find(%d) in a list of no order: %v, %v", at, got, ok)
		}
	}
	if got, ok := match.Find(l[:2], 0); ok || got != (match.Span{}) {
		t.Errorf("R5: Find reads spare capacity: %v, %v", got, ok)
	}
	if !slices.Equal(l, was) {
		t.Error("R2: Find changes its argument")
	}
}

// Every span of a long list is found.
func TestFindEach(t *testing.T) {
	l, why := match.Of(codeOf(strings.Repeat("i-e.", 2000) + "."))
	if why != api.OK || len(l) != 2000 {
		t.Fatalf("P7.1: Of: %d spans, %d", len(l), why)
	}
	for at := range 8000 {
		want, is := match.Span{}, at%4 == 0
		if is {
			want = match.Span{At: at, Else: at + 2, End: at + 3}
		}
		if got, ok := match.Find(l, at); ok != is || got != want {
			t.Fatalf("P7.1: Find(%d): %v, %v", at, got, ok)
		}
	}
}
