package draft_test

import (
	"fmt"
	"math"
	"reflect"
	"testing"

	"plainsong/api"
	"plainsong/draft"
	"plainsong/ops"
)

// written is a code by letters: b, l, i, e and . are block, loop, if, else and end, 0 to 9 a br to this label, t a br_table to 0, 1, 2 and 0.
func written(s string) []api.Inst {
	var code []api.Inst
	for _, c := range []byte(s) {
		switch c {
		case 'b':
			code = append(code, in(0x02, -1))
		case 'l':
			code = append(code, in(0x03, 9))
		case 'i':
			code = append(code, in(0x04, -4))
		case 'e':
			code = append(code, in(0x05, 0))
		case '.':
			code = append(code, in(0x0b, 0))
		case 't':
			code = append(code, table(0, 1, 2, 0))
		default:
			code = append(code, in(0x0c, int(c-'0')))
		}
	}
	return code
}

// enclosing counts the blocks around the instruction at at, from there back to the first: those whose end hasn't been met.
func enclosing(code []api.Inst, at int) int {
	ends, n := 0, 0
	for k := at - 1; k >= 0; k-- {
		switch op := code[k].Op; {
		case op == 0x0b:
			ends++
		case op != 0x02 && op != 0x03 && op != 0x04:
		case ends > 0:
			ends--
		default:
			n++
		}
	}
	return n
}

// left is what Leave makes of code.
func left(code []api.Inst, by int) []api.Inst {
	l := make([]api.Inst, len(code))
	for k, i := range code {
		i.L = append([]int{}, i.L...)
		n := enclosing(code, k)
		switch i.Op {
		case 0x0c, 0x0d:
			i.A = moved(i.A, n, by)
		case 0x0e:
			for j := range i.L {
				i.L[j] = moved(i.L[j], n, by)
			}
		}
		l[k] = i
	}
	return l
}

// Codes that were moved by hand, by 2.
func TestLeave(t *testing.T) {
	for _, c := range []struct{ code, want string }{
		{"0", "2"}, {"1", "3"}, {"b0.", "b0."}, {"b1.", "b3."}, {"b2.", "b4."}, {"b0.0.", "b0.2."}, {"0b0.", "2b0."},
		{"b01b0123.12.01", "b03b0145.34.23"}, {"l0.l1.", "l0.l3."}, {"i0e0.0", "i0e0.2"}, {"i1e1.1", "i3e3.3"}, {"ibe01.", "ibe01."}, {"ib.e01.", "ib.e03."},
		{"bli0123", "bli0125"}, {"bbb2.2.2.2", "bbb2.4.4.4"},
		{".0", ".2"}, {"..b0.", "..b0."}, {"b...0", "b...2"}, {"b...b01", "b...b03"}, {"...", "..."}, {"e0", "e2"}, {"eb01", "eb03"}, {"be01e01", "be03e03"}, {"", ""},
	} {
		sameCode(t, draft.Leave(written(c.code), 2), written(c.want), "P16.1: Leave("+c.code+", 2)")
	}
	for _, c := range []struct {
		code string
		want []int
	}{
		{"t", []int{2, 3, 4, 2}}, {"bt", []int{0, 3, 4, 0}}, {"bbt", []int{0, 1, 4, 0}}, {"bbbt", []int{0, 1, 2, 0}}, {"ib.et", []int{0, 3, 4, 0}}, {"b.t", []int{2, 3, 4, 2}},
	} {
		got := draft.Leave(written(c.code), 2)
		if last := got[len(got)-1]; !reflect.DeepEqual(last, table(c.want...)) {
			t.Errorf("P16.1: Leave(%s, 2): %v, want %v", c.code, last.L, c.want)
		}
	}
}

// The examples of the chapter.
func TestLeaveExamples(t *testing.T) {
	sameCode(t, draft.Leave([]api.Inst{in(0x0c, 0)}, 2), []api.Inst{in(0x0c, 2)}, "P16.1: Leave(br 0, 2)")
	block := []api.Inst{in(0x02, -1), in(0x0c, 0), in(0x0b, 0)}
	sameCode(t, draft.Leave(block, 2), block, "P16.1: Leave(block, br 0, end; 2)")
}

// Every short code, whether its blocks have their ends or not, against a count that goes backwards.
func TestLeaveOfEachShortCode(t *testing.T) {
	const letters = "bie.01t"
	var fill func(s string, n int)
	fill = func(s string, n int) {
		code := written(s)
		for _, by := range []int{1, -1, 3} {
			sameCode(t, draft.Leave(code, by), left(code, by), fmt.Sprintf("P16.1: Leave(%s, %d)", s, by))
		}
		if n == 0 || t.Failed() {
			return
		}
		for _, c := range letters {
			fill(s+string(c), n-1)
		}
	}
	fill("", 5)
}

// Labels at each edge, in as many blocks as there are before the first that leads out.
func TestLeaveAtEachEdge(t *testing.T) {
	for deep := range 5 {
		for _, label := range edges {
			for _, by := range edges {
				var code []api.Inst
				for range deep {
					code = append(code, in(0x03, 0))
				}
				code = append(code, in(0x0c, label), in(0x0d, label), table(label), table(0, label, 7, label), table())
				want := left(code, by)
				sameCode(t, draft.Leave(code, by), want, fmt.Sprintf("P16.1: Leave of the label %d in %d blocks, by %d", label, deep, by))
			}
		}
	}
}

func TestLeaveByHandAtEdges(t *testing.T) {
	for _, c := range []struct{ label, by, want int }{
		{0, 1 << 30, 1 << 30}, {0, 1<<30 + 1, 0}, {1, 1 << 30, 1}, {1 << 30, 1, 1 << 30}, {1<<30 + 1, -1, 1 << 30}, {1, -1, 0}, {1, -2, 1}, {-1, 1, -1}, {-1, 5, -1},
		{math.MaxInt, math.MaxInt, math.MaxInt}, {math.MinInt, math.MinInt, math.MinInt}, {1, math.MaxInt, 1}, {math.MaxInt, -math.MaxInt, 0},
	} {
		sameCode(t, draft.Leave([]api.Inst{in(0x0c, c.label), in(0x0d, c.label), table(c.label)}, c.by), []api.Inst{in(0x0c, c.want), in(0x0d, c.want), table(c.want)}, fmt.Sprintf("P16.1: Leave of the label %d, by %d", c.label, c.by))
	}
	mixed := []api.Inst{table(1<<30, 5, 1, -1)}
	sameCode(t, draft.Leave(mixed, 1), []api.Inst{table(1<<30, 6, 2, -1)}, "P16.1: Leave of labels of which some may not be moved, by 1")
	sameCode(t, draft.Leave(mixed, -3), []api.Inst{table(1<<30-3, 2, 1, -1)}, "P16.1: Leave of labels of which some may not be moved, by -3")
}

// Three instructions have labels, in A or in L; three begin blocks and one ends them, whatever else is in their fields.
func TestLeaveOfEachInstruction(t *testing.T) {
	for _, i := range each() {
		full := api.Inst{Op: 0x0e, A: 3, B: 4, N: 5, L: []int{0, 1, 2, 3}}
		code := []api.Inst{i, full, in(0x02, -1), i, full, {Op: 0x0b, A: 1, B: 2, N: 3, L: []int{4}}, full}
		sameCode(t, draft.Leave(code, 1), left(code, 1), fmt.Sprintf("P16.1: Leave around %#x", i.Op))
		want := i
		switch i.Op {
		case 0x0c, 0x0d:
			want.A = 71
		case 0x0e:
			want.L = []int{101, 111}
		}
		sameCode(t, draft.Leave([]api.Inst{i}, 1), []api.Inst{want}, fmt.Sprintf("P16.1: Leave of %#x", i.Op))
	}
	opens := 0
	for _, op := range append(ops.All(), strange()...) {
		got := draft.Leave([]api.Inst{in(op, -1), in(0x0c, 0)}, 1)
		if got[1].A == 0 {
			opens++
		}
	}
	if opens != 3 {
		t.Errorf("P16.1: Leave takes %d instructions as those that begin a block", opens)
	}
}

// As many blocks as a code may have, and many more, beside and in each other.
func TestLeaveOfLongCodes(t *testing.T) {
	const n = 1 << 17
	var code, want []api.Inst
	for k := range n {
		code = append(code, in(0x02, -1), in(0x0c, k), in(0x0d, k+1))
		want = append(want, in(0x02, -1), in(0x0c, k), in(0x0d, k+2))
	}
	for k := n - 1; k >= 0; k-- {
		code = append(code, in(0x0b, 0), in(0x0c, k), in(0x0e, 0))
		want = append(want, in(0x0b, 0), in(0x0c, k+1), in(0x0e, 0))
	}
	for range n {
		code = append(code, in(0x0b, 0), in(0x03, -1), in(0x0c, 0), in(0x0c, 1), in(0x0b, 0))
		want = append(want, in(0x0b, 0), in(0x03, -1), in(0x0c, 0), in(0x0c, 2), in(0x0b, 0))
	}
	if got := draft.Leave(code, 1); !reflect.DeepEqual(got, want) {
		t.Error("P16.1: Leave of a long code")
	}
}

func TestLeaveKeepsToItsArgument(t *testing.T) {
	build := func() []api.Inst {
		return []api.Inst{in(0x02, -1), table(0, 1, 2), in(0x0c, 1), in(0x0d, 0), in(0x0b, 0), table(3), {Op: 0x0e, L: []int{}}, in(0x0c, 0)}
	}
	for _, by := range []int{0, 1, -9} {
		keeps(t, "Leave", build, func(code []api.Inst) []api.Inst { return draft.Leave(code, by) })
		keeps(t, "Leave of no instructions", func() []api.Inst { return []api.Inst{} }, func(code []api.Inst) []api.Inst { return draft.Leave(code, by) })
	}
	if len(draft.Leave(nil, 3)) > 0 || len(draft.Leave([]api.Inst{}, 3)) > 0 {
		t.Error("R4: Leave of no instructions")
	}
	labels := []int{0, 1}
	shared := []api.Inst{table(labels...), {Op: 0x0e, L: labels}, {Op: 0x0e, L: labels}, {Op: 0x0e, L: labels[1:]}}
	got := draft.Leave(shared, 4)
	sameCode(t, got, []api.Inst{table(4, 5), table(4, 5), table(4, 5), table(5)}, "P16.1: Leave of tables with one list of labels")
	if !apart(regions(&got), regions(&shared)) {
		t.Error("R2: Leave of tables with one list of labels: the answer shares memory")
	}
}
