package check_test

import (
	"math"
	"slices"
	"strings"
	"testing"

	"plainsong/api"
	"plainsong/check"
	"plainsong/ops"
)

var both = []int{api.Plain, api.Rich}

// inst returns an instruction with this Op that names nothing but what is there.
func inst(op int) []api.Inst { return []api.Inst{{Op: op}} }

func end() []api.Inst { return inst(0x0b) }

// wrongs returns these types with each of them in turn as each other one.
func wrongs(letters string) []string {
	var l []string
	for k := range letters {
		for _, t := range "wlf" {
			if s := letters[:k] + string(t) + letters[k+1:]; s != letters {
				l = append(l, s)
			}
		}
	}
	return l
}

// unlessRich returns v, or, if the plain profile hasn't the instruction op, that it is told at its position.
func (v verdict) unlessRich(profile, op, at int) verdict {
	if profile == api.Plain && slices.Contains(richOps, op) {
		return verdict{at, api.ErrPlain}
	}
	return v
}

// module returns the base module for a profile, with a function of this code.
func module(profile int, signature string, parts ...[]api.Inst) api.Module {
	if profile == api.Plain {
		return plain(signature, join(parts...))
	}
	return base(signature, join(parts...))
}

// Every instruction that takes and gives the same everywhere, with its operands and its results as they should be.
func TestEachInstruction(t *testing.T) {
	for op, e := range effects {
		takes, gives, _ := strings.Cut(e, ">")
		n := len(takes)
		for _, profile := range both {
			what := "an instruction " + name(op)
			asks(t, module(profile, ">", consts(takes), inst(op), sets(gives), end()), profile, fine.unlessRich(profile, op, n), what)
			asks(t, module(profile, ">", consts("wlf"), consts(takes), inst(op), sets(gives), sets("wlf"), end()), profile, fine.unlessRich(profile, op, n+3), what+" over other values")
			if gives != "" {
				asks(t, module(profile, ">", consts(takes), inst(op), end()), profile, verdict{n + 1, api.ErrType}.unlessRich(profile, op, n), what+" whose result stays")
			}
			for _, other := range wrongs(gives) {
				asks(t, module(profile, ">", consts(takes), inst(op), sets(other), end()), profile, verdict{n + 1, api.ErrType}.unlessRich(profile, op, n), what+" whose result is taken as "+other)
			}
			asks(t, module(profile, ">", consts(takes), inst(op), sets(gives), sets("w"), end()), profile, verdict{n + 1 + len(gives), api.ErrType}.unlessRich(profile, op, n), what+" with one more taken behind it")
		}
	}
}

// The same instructions with operands that are wrong, or missing, or below the height of the frame.
func TestEachWrongOperand(t *testing.T) {
	for op, e := range effects {
		takes, gives, _ := strings.Cut(e, ">")
		n := len(takes)
		for _, profile := range both {
			what := "an instruction " + name(op)
			for _, other := range wrongs(takes) {
				asks(t, module(profile, ">", consts(other), inst(op), sets(gives), end()), profile, verdict{n, api.ErrType}.unlessRich(profile, op, n), what+" with "+other)
				asks(t, module(profile, ">", inst(0), consts(other), inst(op), sets(gives), end()), profile, verdict{n + 1, api.ErrType}.unlessRich(profile, op, n+1), what+" with "+other+" in dead code")
			}
			for k := range n {
				asks(t, module(profile, ">", consts(takes[k+1:]), inst(op), sets(gives), end()), profile, verdict{n - k - 1, api.ErrType}.unlessRich(profile, op, n-k-1), what+" with "+takes[k+1:])
				within := join(consts(takes[:k+1]), code("block:-1"), consts(takes[k+1:]), inst(op), sets(gives), end())
				asks(t, module(profile, ">", within, end()), profile, verdict{n + 1, api.ErrType}.unlessRich(profile, op, n+1), what+" with operands outside of its block")
			}
			for k := range n + 1 {
				asks(t, module(profile, ">", inst(0), consts(takes[k:]), inst(op), sets(gives), end()), profile, fine.unlessRich(profile, op, 1+n-k), what+" with "+takes[k:]+" in dead code")
			}
		}
	}
}

func name(op int) string {
	const digits = "0123456789abcdef"
	s := ""
	for ; op > 0 || s == ""; op /= 16 {
		s = digits[op%16:op%16+1] + s
	}
	return "0x" + s
}

// All instructions are either in that table or steer, choose, or name what the module has.
func TestTableIsWhole(t *testing.T) {
	others := []int{0x00, 0x02, 0x03, 0x04, 0x05, 0x0b, 0x0c, 0x0d, 0x0e, 0x0f, 0x10, 0x12, 0x1a, 0x1b, 0x20, 0x21, 0x22, 0x23, 0x24}
	for _, op := range ops.All() {
		if _, is := effects[op]; is == slices.Contains(others, op) {
			t.Errorf("the instruction %s is not tested, or twice", name(op))
		}
	}
	if len(effects)+len(others) != len(ops.All()) {
		t.Error("the tests have more instructions than there are")
	}
}

// row is a function with what is said of it: of both profiles, unless a second one says otherwise of the plain one.
type row struct {
	signature, code string
	at              int
	why             api.Errno
}

func rows(t *testing.T, profiles []int, l []row) {
	t.Helper()
	for _, r := range l {
		for _, profile := range profiles {
			asks(t, module(profile, r.signature, code(r.code)), profile, verdict{r.at, r.why}, r.signature+": "+r.code)
		}
	}
}

const (
	ok    = api.OK
	typed = api.ErrType
	index = api.ErrIndex
)

func TestLocalsAndGlobals(t *testing.T) {
	rows(t, both, []row{
		{">", "get:0 set:0 get:1 set:1 get:2 set:2 end", -1, ok},
		{">", "get:0 set:1 end", 1, typed},
		{">", "get:1 set:2 end", 1, typed},
		{">", "get:2 set:0 end", 1, typed},
		{">", "w tee:0 set:0 l tee:1 set:1 f tee:2 set:2 end", -1, ok},
		{">", "w tee:1 end", 1, typed},
		{">", "w tee:0 end", 2, typed},
		{">", "w tee:0 set:1 end", 2, typed},
		{">", "tee:0 end", 0, typed},
		{">", "set:0 end", 0, typed},
		{">", "get:2 drop end", -1, ok},
		{">", "get:3 drop end", 0, index},
		{">", "set:3 end", 0, index},
		{">", "tee:3 end", 0, index},
		{">", "unreachable get:3 end", 1, index},
		{"fl>", "get:0 set:4 get:1 set:3 get:2 set:2 end", -1, ok},
		{"fl>", "get:0 set:0 get:1 set:1 w set:2 end", -1, ok},
		{"fl>", "get:0 set:1 end", 1, typed},
		{"fl>", "get:4 get:5 end", 1, index},
		{"fl>", "set:0 end", 0, typed},
		{">", "gget:0 set:0 gget:1 set:0 gget:2 set:1 gget:3 set:1 gget:4 set:2 gget:5 set:2 end", -1, ok},
		{">", "gget:0 set:1 end", 1, typed},
		{">", "gget:5 set:1 end", 1, typed},
		{">", "gget:6 end", 0, index},
		{">", "gset:6 end", 0, index},
		{">", "w gset:1 l gset:3 f gset:5 end", -1, ok},
		{">", "w gset:0 end", 1, typed},
		{">", "l gset:2 end", 1, typed},
		{">", "f gset:4 end", 1, typed},
		{">", "l gset:1 end", 1, typed},
		{">", "gset:1 end", 0, typed},
		{">", "unreachable gset:1 end", -1, ok},
		{">", "unreachable gset:0 end", 1, typed},
		{">", "unreachable gset:6 end", 1, index},
		{">", "unreachable f gset:1 end", 2, typed},
		{">", "unreachable tee:1 set:1 tee:2 set:1 end", 4, typed},
	})
}

func TestDropAndSelect(t *testing.T) {
	rows(t, both, []row{
		{">", "w drop l drop f drop end", -1, ok},
		{">", "drop end", 0, typed},
		{">", "w drop drop end", 2, typed},
		{">", "w block:-1 drop end drop end", 2, typed},
		{">", "unreachable drop drop drop end", -1, ok},
		{">", "w w w select set:0 l l w select set:1 f f w select set:2 end", -1, ok},
		{">", "w w w select set:1 end", 4, typed},
		{">", "l l w select set:0 end", 4, typed},
		{">", "f f w select end", 4, typed},
		{">", "w l w select drop end", 3, typed},
		{">", "l w w select drop end", 3, typed},
		{">", "f l w select drop end", 3, typed},
		{">", "w w l select drop end", 3, typed},
		{">", "w w f select drop end", 3, typed},
		{">", "w w select drop end", 2, typed},
		{">", "w select drop end", 1, typed},
		{">", "select drop end", 0, typed},
		{">", "w block:-1 w w select drop end drop end", 4, typed},
		{">", "w w block:-1 w select drop end drop drop end", 4, typed},
		{">", "unreachable select drop end", -1, ok},
		{">", "unreachable select set:0 unreachable select set:1 unreachable select set:2 end", -1, ok},
		{">", "unreachable select end", 2, typed},
		{">", "unreachable w select set:1 end", -1, ok},
		{">", "unreachable l select drop end", 2, typed},
		{">", "unreachable l w select set:1 end", -1, ok},
		{">", "unreachable l w select set:0 end", 4, typed},
		{">", "unreachable f l w select drop end", 4, typed},
		{">", "unreachable l l w select set:1 end", -1, ok},
		// A value of any type, which a select has given, below one of a type, and above it.
		{">", "unreachable select l w select set:1 end", -1, ok},
		{">", "unreachable select l w select set:2 end", 5, typed},
		{">", "unreachable l unreachable select w select set:1 end", -1, ok},
		{">", "unreachable select f w select select set:1 end", 5, typed},
		{">", "unreachable select select select drop end", -1, ok},
		{">", "unreachable select w w select select end", 6, typed},
	})
}

func TestBlocks(t *testing.T) {
	rows(t, both, []row{
		{">", "end", -1, ok},
		{">w", "w end", -1, ok},
		{">w", "end", 0, typed},
		{">w", "l end", 1, typed},
		{">w", "w w end", 2, typed},
		{">", "w end", 1, typed},
		{"w>w", "get:0 end", -1, ok},
		{"w>w", "end", 0, typed},
		{">", "block:-1 end loop:-1 end w if:-1 end end", -1, ok},
		{">w", "block:-2 w end end", -1, ok},
		{">l", "block:-3 l end end", -1, ok},
		{">f", "block:-4 f end end", -1, ok},
		{">w", "loop:-2 w end end", -1, ok},
		{">w", "block:-3 l end end", 3, typed},
		{">", "block:-2 end end", 1, typed},
		{">", "block:-2 l end end", 2, typed},
		{">", "block:-2 w w end end", 3, typed},
		{">", "block:-1 w end end", 2, typed},
		{">", "block:-2 w end end", 3, typed},
		{">", "w block:-2 end end", 2, typed},
		{">", "w block:-1 drop end end", 2, typed},
		{">", "w block:-1 end drop end", -1, ok},
		{">w", "w if:-2 w else w end end", -1, ok},
		{">w", "w if:-2 w else l end end", 5, typed},
		{">w", "w if:-2 l else w end end", 3, typed},
		{">w", "w if:-2 else w end end", 2, typed},
		{">w", "w if:-2 w else end end", 4, typed},
		{">w", "w if:-2 w w else w end end", 4, typed},
		{">w", "w if:-2 w else w w end end", 6, typed},
		{">", "w if:-1 w else end end", 3, typed},
		{">", "w if:-1 else w end end", 4, typed},
		{">", "w if:-2 w end end", 3, typed},
		{">", "w if:-2 unreachable end end", 3, typed},
		{">", "if:-1 end end", 0, typed},
		{">", "l if:-1 end end", 1, typed},
		{">", "w block:-1 if:-1 end end end", 2, typed},
		{">", "unreachable if:-1 end end", -1, ok},
		{">", "unreachable f if:-1 end end", 2, typed},
	})
	rows(t, []int{api.Rich}, []row{
		{">", "block:0 end loop:0 end w if:0 end end", -1, ok},
		{">", "w block:1 weqz end drop end", -1, ok},
		{">", "w block:1 end drop end", -1, ok},
		{">", "w block:1 drop end drop end", 3, typed},
		{">", "w block:1 w end drop end", 3, typed},
		{">", "block:1 end drop end", 0, typed},
		{">", "l block:1 end drop end", 1, typed},
		{">", "w l f block:2 drop drop drop f w end set:0 set:2 end", -1, ok},
		{">", "w l f loop:2 drop drop drop f w end set:0 set:2 end", -1, ok},
		{">", "w l f block:2 drop drop drop w f end set:0 set:2 end", 9, typed},
		{">", "w l f block:2 end set:0 set:2 end", 4, typed},
		{">", "l f block:2 drop drop drop f w end set:0 set:2 end", 2, typed},
		{">", "w l l block:2 drop drop drop f w end set:0 set:2 end", 3, typed},
		{">", "w f l f block:2 unreachable end set:0 set:2 drop end", 4, typed},
		{">", "f w l f block:2 unreachable end set:0 set:2 set:2 end", -1, ok},
		// An if takes its condition before its parameters, and an else has them once more.
		{">", "w w if:1 else end drop end", -1, ok},
		{">", "w w if:1 weqz else weqz weqz end drop end", -1, ok},
		{">", "w w if:1 end drop end", -1, ok},
		{">", "w w if:1 drop else end drop end", 4, typed},
		{">", "w w if:1 else drop end drop end", 5, typed},
		{">", "w if:1 end drop end", 1, typed},
		{">", "w w w if:4 end end", 4, typed},
		{">", "w w w if:4 drop drop else drop drop end end", -1, ok},
		{">", "w w if:6 drop end end", 4, typed},
		{">", "l w w if:5 drop drop w l else drop drop w l end drop drop end", -1, ok},
		{">", "l w w if:5 drop drop w l end drop drop end", 8, typed},
		{">", "w if:3 w l end drop drop end", 4, typed},
		{">", "w if:3 w l else w l end drop drop end", -1, ok},
		{">", "l w w if:5 unreachable end drop drop end", 5, typed},
		// What is left of the frame goes on behind its end.
		{">", "f l block:0 end block:3 w l end set:1 set:0 set:1 set:2 end", -1, ok},
		{">wl", "w l end", -1, ok},
		{">wl", "block:3 w l end end", -1, ok},
		{">wl", "l w end", 2, typed},
		{">wl", "l end", 1, typed},
	})
}

func TestBranches(t *testing.T) {
	rows(t, both, []row{
		{">", "br:0 end", -1, ok},
		{">w", "w br:0 end", -1, ok},
		{">w", "br:0 end", 0, typed},
		{">w", "l br:0 end", 1, typed},
		{">w", "l w br:0 end", -1, ok},
		{">", "br:1 end", 0, index},
		{">", "block:-1 br:1 end end", -1, ok},
		{">", "block:-1 br:2 end end", 1, index},
		{">", "block:-1 end br:1 end", 2, index},
		{">", "block:-2 w br:0 end drop end", -1, ok},
		{">", "block:-2 br:0 end drop end", 1, typed},
		{">", "loop:-2 br:0 end drop end", -1, ok},
		{">", "loop:-2 w br:1 end drop end", -1, ok},
		{">w", "loop:-1 w br:1 end end", 4, typed},
		{">w", "loop:-2 w br:1 end end", -1, ok},
		{">w", "loop:-2 br:1 end end", 1, typed},
		{">", "w block:-2 br:0 end drop drop end", 2, typed},
		{">", "w if:-2 w br:0 else w br:0 end drop end", -1, ok},
		{">", "w if:-2 br:0 else w end drop end", 2, typed},
		{">w", "w if:-1 w br:1 end w end", -1, ok},
		{">w", "w if:-1 else w br:1 end w end", -1, ok},
		{">w", "w if:-1 br:1 end w end", 2, typed},
		{">", "w br_if:0 end", -1, ok},
		{">", "br_if:0 end", 0, typed},
		{">", "f br_if:0 end", 1, typed},
		{">w", "w w br_if:0 end", -1, ok},
		{">w", "w br_if:0 w end", 1, typed},
		{">w", "l w br_if:0 drop w end", 2, typed},
		{">w", "w w br_if:0 drop end", 4, typed},
		{">", "w br_if:1 end", 1, index},
		{">", "loop:-2 w br_if:0 w end drop end", -1, ok},
		{">", "block:-2 w w br_if:0 weqz end drop end", -1, ok},
		// Behind a br_if lie the types of the label, in dead code too.
		{">w", "unreachable br_if:0 end", -1, ok},
		{">w", "unreachable br_if:0 leqz end", 2, typed},
		{">w", "unreachable br_if:0 weqz end", -1, ok},
		{">w", "unreachable br_if:0 drop end", -1, ok},
		{">w", "unreachable br_if:0 w end", 3, typed},
		{">", "return end", -1, ok},
		{">w", "w return end", -1, ok},
		{">w", "return end", 0, typed},
		{">w", "f return end", 1, typed},
		{">w", "block:-1 block:-3 w return end drop end w end", -1, ok},
		{">w", "w block:-1 return end end", 2, typed},
		{">", "w f return end", -1, ok},
	})
	rows(t, []int{api.Rich}, []row{
		{">wl", "w l br:0 end", -1, ok},
		{">wl", "w l return end", -1, ok},
		{">wl", "l w br:0 end", 2, typed},
		{">wl", "l return end", 1, typed},
		{">wl", "w l w br_if:0 end", -1, ok},
		{">wl", "w l w br_if:0 leqz end", 5, typed},
		// The label of a loop has its parameters, that of a block or an if its results.
		{">", "w l f loop:2 br:0 end drop drop end", -1, ok},
		{">", "w l f loop:2 drop br:0 end drop drop end", 5, typed},
		{">", "w l f block:2 br:0 end drop drop end", 4, typed},
		{">", "w l f block:2 w br:0 end drop drop end", -1, ok},
		{">", "w l f w if:2 w br:0 else w br:0 end drop drop end", -1, ok},
		{">", "w l f w if:2 w br:0 else br:0 end drop drop end", 8, typed},
		{">", "w loop:6 br_if:0 end end", 2, typed},
		{">", "w loop:6 w br_if:0 drop end end", -1, ok},
		{">", "w loop:6 w br_if:0 end end", 4, typed},
	})
}

func TestTables(t *testing.T) {
	rows(t, both, []row{
		{">", "w br_table:0 end", -1, ok},
		{">", "w br_table:0,0,0 end", -1, ok},
		{">", "br_table:0 end", 0, typed},
		{">", "l br_table:0 end", 1, typed},
		{">", "w br_table:1 end", 1, index},
		{">", "w br_table:1,0 end", 1, index},
		{">", "w br_table:0,0,1 end", 1, index},
		{">", "w br_table:0,1,0 end", 1, index},
		{">", "br_table:0,1,0 end", 0, index},
		{">w", "w w br_table:0 end", -1, ok},
		{">w", "w br_table:0 end", 1, typed},
		{">w", "l w br_table:0 end", 2, typed},
		{">w", "block:-2 w w br_table:0,1 end end", -1, ok},
		{">w", "block:-3 w w br_table:0,1 end end", 3, typed},
		{">w", "block:-3 w w br_table:1,0 end end", 3, typed},
		{">w", "block:-3 w w br_table:1,1 end drop w end", -1, ok},
		{">w", "block:-1 w w br_table:0,1 end w end", 3, typed},
		{">w", "block:-1 w w br_table:1,0 end w end", 3, typed},
		{">w", "loop:-2 w w br_table:0,1 end end", 3, typed},
		{">w", "loop:-2 w w br_table:1 end end", -1, ok},
		{">w", "l block:-1 w br_table:1,1 end drop w end", 3, typed},
		// In dead code a value of any type does for labels of different types, but not for another number of them.
		{">w", "block:-3 unreachable br_table:0,1 end drop w end", -1, ok},
		{">w", "block:-3 unreachable br_table:1,0 end drop w end", -1, ok},
		{">w", "block:-3 unreachable w br_table:1,0 end drop w end", -1, ok},
		{">w", "block:-3 unreachable f br_table:1,0 end drop w end", 3, typed},
		{">w", "block:-3 unreachable select w br_table:0,1 end drop w end", -1, ok},
		{">w", "block:-3 unreachable l w br_table:0,1 end drop w end", 4, typed},
		{">w", "block:-3 unreachable l w br_table:1,0 end drop w end", 4, typed},
		{">w", "block:-3 unreachable l w br_table:0 end drop w end", -1, ok},
		{">w", "block:-1 unreachable br_table:0,1 end w end", 2, typed},
		{">w", "block:-1 unreachable br_table:1,0 end w end", 2, typed},
		{">w", "block:-1 unreachable br_table:1,0,1 end w end", 2, typed},
		{">w", "block:-1 unreachable br_table:2,1,1 end w end", 2, index},
	})
	rows(t, []int{api.Rich}, []row{
		{">wl", "block:3 w l w br_table:0,1,0 end end", -1, ok},
		{">lw", "block:3 l w w br_table:1 end unreachable end", -1, ok},
		{">lw", "block:3 l w w br_table:0,1 end unreachable end", 4, typed},
		{">lw", "block:3 unreachable br_table:0,1 end unreachable end", -1, ok},
		{">lw", "block:3 unreachable w br_table:0,1 end unreachable end", -1, ok},
		{">lw", "block:3 unreachable w w br_table:0,1 end unreachable end", 4, typed},
		{">lw", "block:3 unreachable l w br_table:0,1 end unreachable end", 4, typed},
		{">lw", "block:3 unreachable select w br_table:0,1 end unreachable end", -1, ok},
		{">", "w l f loop:2 w br_table:0 end drop drop end", -1, ok},
		{">", "w l f loop:2 w br_table:0,1 end drop drop end", 5, typed},
	})
}

func TestCalls(t *testing.T) {
	rows(t, []int{api.Rich}, []row{
		{">", "w l f call:0 set:0 set:2 end", -1, ok},
		{">", "w l f call:0 set:2 set:0 end", 4, typed},
		{">", "l f call:0 drop drop end", 2, typed},
		{">", "w f l call:0 drop drop end", 3, typed},
		{">", "call:1 call:2 end", -1, ok},
		{">", "w call:3 drop end", -1, ok},
		{">", "l call:3 drop end", 1, typed},
		{">", "w call:3 end", 2, typed},
		{">", "w w call:4 end", -1, ok},
		{">", "w call:4 end", 1, typed},
		{">", "call:5 set:1 set:0 end", -1, ok},
		{">", "call:6 end", 0, index},
		{">", "unreachable call:6 end", 1, index},
		{">", "return_call:6 end", 0, index},
		{"fw>l", "f w call:2 end", -1, ok},
		{"fw>l", "w f call:2 end", 2, typed},
		{">", "unreachable call:0 set:0 set:2 end", -1, ok},
		{">", "unreachable l f call:0 set:0 set:2 end", -1, ok},
		{">", "unreachable w f call:0 set:0 set:2 end", 3, typed},
		{">", "return_call:1 end", -1, ok},
		{">", "return_call:2 end", -1, ok},
		{">", "w w return_call:4 end", -1, ok},
		{">", "w return_call:4 end", 1, typed},
		{">", "l w return_call:4 end", 2, typed},
		{">", "f w w return_call:4 end", -1, ok},
		{">w", "w return_call:3 end", -1, ok},
		{">w", "return_call:3 end", 0, typed},
		{">", "w return_call:3 end", 1, typed},
		{">w", "return_call:1 end", 0, typed},
		{">wl", "return_call:5 end", -1, ok},
		{">lw", "return_call:5 end", 0, typed},
		{">w", "return_call:5 end", 0, typed},
		{">fw", "w l f return_call:0 end", -1, ok},
		{">fw", "w l f block:-1 return_call:0 end end", 4, typed},
		{">fw", "block:-1 w l f return_call:0 end unreachable end", -1, ok},
		{">w", "unreachable return_call:1 end", 1, typed},
		{">w", "unreachable return_call:3 end", -1, ok},
		{">w", "unreachable f return_call:3 end", 2, typed},
		{"wlf>fw", "get:0 get:1 get:2 return_call:2 end", -1, ok},
	})
	rows(t, []int{api.Plain}, []row{
		{">", "w l f call:0 set:2 end", -1, ok},
		{">", "w w call:4 call:1 end", -1, ok},
		{">", "call:6 end", 0, index},
		{">", "return_call:1 end", 0, api.ErrPlain},
		{">", "return_call:6 end", 0, api.ErrPlain},
		{">", "call:1 w return_call:2 end", 2, api.ErrPlain},
	})
}

func TestDeadCode(t *testing.T) {
	for _, leaves := range []string{"unreachable", "br:0", "w br_table:0", "return", "return_call:1"} {
		n := len(strings.Fields(leaves))
		rows(t, []int{api.Rich}, []row{
			{">", leaves + " end", -1, ok},
			{">", "w l f " + leaves + " end", -1, ok},
			{">", leaves + " wadd drop end", -1, ok},
			{">", leaves + " w wadd drop end", -1, ok},
			{">", leaves + " w w wadd drop end", -1, ok},
			{">", leaves + " l wadd drop end", n + 1, typed},
			{">", leaves + " w l wadd drop end", n + 2, typed},
			{">", leaves + " wadd end", n + 1, typed},
			{">", leaves + " wadd set:1 end", n + 1, typed},
			{">", leaves + " wadd wadd wadd drop end", -1, ok},
			{">", leaves + " wadd wadd ladd drop end", n + 2, typed},
			{">", leaves + " w end", n + 1, typed},
			// The stack is cut: what lay in the frame is gone, and what lay below it stays.
			{">", "l " + leaves + " set:0 end", -1, ok},
			{">", "l l " + leaves + " wadd drop end", -1, ok},
			{">", "l block:-1 f " + leaves + " set:0 end set:1 end", -1, ok},
			{">", "l block:-1 f " + leaves + " set:0 set:1 set:2 end set:0 end", n + 7, typed},
			{">", "l block:-1 " + leaves + " end end", n + 3, typed},
			// Behind the end, or the else, code is reached again.
			{">", "block:-1 " + leaves + " end drop end", n + 2, typed},
			{">", "block:-2 w " + leaves + " end set:0 end", -1, ok},
			{">", "block:-2 w " + leaves + " end set:1 end", n + 3, typed},
			{">", "w if:-1 " + leaves + " else drop end end", n + 3, typed},
			{">", "w if:-1 else " + leaves + " drop end drop end", n + 5, typed},
			{">", "w if:-2 w " + leaves + " else w end drop end", -1, ok},
			{">", "w if:-2 w " + leaves + " else end drop end", n + 4, typed},
			{">", "w if:-2 w else w " + leaves + " end drop end", -1, ok},
			// A block in dead code is a frame of its own.
			{">", leaves + " block:-1 drop end end", n + 1, typed},
			{">", leaves + " block:-1 end drop end", -1, ok},
			{">", leaves + " block:1 weqz end drop end", -1, ok},
			{">", leaves + " block:1 leqz end drop end", n + 1, typed},
			{">", leaves + " loop:2 drop drop drop f w end drop drop drop end", -1, ok},
			{">", leaves + " l loop:2 drop drop drop f w end drop drop drop end", n + 1, typed},
			{">", leaves + " block:-1 end w end", n + 3, typed},
			{">", leaves + " if:1 drop else end drop end", n + 2, typed},
			{">", leaves + " if:1 end drop end", -1, ok},
			{">", leaves + " if:3 end drop drop end", n + 1, typed},
			// Twice.
			{">", leaves + " w " + leaves + " drop end", -1, ok},
			{">", leaves + " nop ddrop:1 drop end", -1, ok},
		})
	}
	rows(t, []int{api.Rich}, []row{
		{">w", "unreachable end", -1, ok},
		{">w", "unreachable w end", -1, ok},
		{">w", "unreachable l end", 2, typed},
		{">w", "unreachable w w end", 3, typed},
		{">wl", "unreachable l end", -1, ok},
		{">wl", "unreachable w end", 2, typed},
		{">wl", "unreachable w l end", -1, ok},
		{">wl", "unreachable l l end", 3, typed},
		{">wl", "unreachable w w l end", 4, typed},
		{">wl", "unreachable select end", -1, ok},
		{">wl", "unreachable select l end", -1, ok},
		{">wl", "unreachable select select end", -1, ok},
		{">wl", "unreachable select w end", 3, typed},
	})
}

// What is wrong first in an instruction is told: that it isn't plain, then what doesn't exist, then the types.
func TestOrderInAnInstruction(t *testing.T) {
	rows(t, []int{api.Plain}, []row{
		{">", "block:0 end end", 0, api.ErrPlain},
		{">", "loop:0 end end", 0, api.ErrPlain},
		{">", "w if:0 end end", 1, api.ErrPlain},
		{">", "if:0 end end", 0, api.ErrPlain},
		{">", "block:7 end end", 0, api.ErrPlain},
		{">", "block:8 end end", 0, api.ErrPlain},
		{">", "if:63 end end", 0, api.ErrPlain},
		{">", "block:1 end end", 0, api.ErrPlain},
		{">", "c0 end", 0, api.ErrPlain},
		{">", "fc02 end", 0, api.ErrPlain},
		{">", "fill:3 end", 0, api.ErrPlain},
		{">", "copy:0,3 end", 0, api.ErrPlain},
		{">", "init:0,9 end", 0, api.ErrPlain},
		{">", "ddrop:9 end", 0, api.ErrPlain},
		{">", "return_call:99 end", 0, api.ErrPlain},
		{">", "unreachable block:0 end end", 1, api.ErrPlain},
		{">", "block:-1 w block:0 end end end", 2, api.ErrPlain},
		{">", "weqz block:0 end end", 0, typed},
		{">", "block:-1 block:-2 br:5 end block:0 end end end", 2, index},
	})
	rows(t, []int{api.Rich}, []row{
		{">", "block:8 end end", 0, index},
		{">", "loop:8 end end", 0, index},
		{">", "if:8 end end", 0, index},
		{">", "w if:63 end end", 1, index},
		{">", "block:7 end end", -1, ok},
		{">", "unreachable block:8 end end", 1, index},
		{">", "fill:1 end", 0, typed},
		{">", "fill:2 end", 0, index},
		{">", "w w w fill:1 w w w fill:0 end", -1, ok},
		{">", "copy:1,1 end", 0, typed},
		{">", "copy:2,1 end", 0, index},
		{">", "copy:1,2 end", 0, index},
		{">", "w w w copy:1,0 w w w copy:0,1 end", -1, ok},
		{">", "init:1,2 end", 0, typed},
		{">", "init:2,2 end", 0, index},
		{">", "init:1,3 end", 0, index},
		{">", "w w w init:0,0 w w w init:1,2 end", -1, ok},
		{">", "ddrop:2 ddrop:0 end", -1, ok},
		{">", "ddrop:3 end", 0, index},
		{">", "size:1 drop size:0 drop end", -1, ok},
		{">", "size:2 end", 0, index},
		{">", "grow:1 end", 0, typed},
		{">", "grow:2 end", 0, index},
		{">", "w grow:1 drop end", -1, ok},
		{">", "leqz br:5 end", 0, typed},
		{">", "br:5 leqz end", 0, index},
	})
}

// Each load and store names a memory.
func TestMemoriesOfAccesses(t *testing.T) {
	for op := 0x28; op <= 0x3e; op++ {
		e, is := effects[op]
		if !is {
			continue
		}
		takes, gives, _ := strings.Cut(e, ">")
		for a := range 4 {
			body := join(consts(takes), []api.Inst{{Op: op, A: a, N: 1<<32 - 1}}, sets(gives), end())
			for _, profile := range both {
				want := fine
				if a > 1 || profile == api.Plain && a > 0 {
					want = verdict{len(takes), api.ErrIndex}
				}
				asks(t, module(profile, ">", body), profile, want, "an access "+name(op)+" to memory "+name(a))
			}
			m := base(">", join([]api.Inst{{Op: op, A: a}}, end()))
			m.Mems, m.Datas, m.Exports = nil, nil, nil
			asks(t, m, api.Rich, verdict{0, api.ErrIndex}, "an access "+name(op)+" without memories")
		}
	}
}

// Labels count from the inside, up to the function itself.
func TestLabels(t *testing.T) {
	for deep := range 65 {
		opens, ends := strings.Repeat("block:-1 ", deep), strings.Repeat("end ", deep+1)
		for _, profile := range both {
			for _, v := range []struct {
				branch string
				more   int
			}{{"br:", 0}, {"w br_if:", 1}, {"w br_table:0,", 1}} {
				n := v.more + deep
				asks(t, module(profile, ">", code(opens+v.branch+word(deep)+" "+ends)), profile, fine, "the label of the function")
				if deep < 64 {
					asks(t, module(profile, ">", code(opens+v.branch+word(deep+1)+" "+ends)), profile, verdict{n, api.ErrIndex}, "a label beyond the function")
				}
			}
		}
	}
	// A frame of each type in each other: a branch to each of them has to have its type.
	nest := "block:-2 loop:-3 block:-4 w if:-2 "
	for label, want := range []string{"w", "f", "", "w", "l"} {
		for _, has := range []string{"w", "l", "f"} {
			m := base(">l", join(code(nest), consts(has), code("br:"+word(label)+" else w end drop f end drop l end drop w end drop l end")))
			judge := verdict{6, api.ErrType}
			if has == want || want == "" {
				judge = fine
			}
			asks(t, m, api.Rich, judge, "a branch with "+has+" to the label "+word(label))
		}
	}
}

func word(n int) string {
	if n < 10 {
		return string(rune('0' + n))
	}
	return word(n/10) + word(n%10)
}

// The functions of a module are counted from its Imports on in calls, but from its own ones on by Func.
func TestWhichFunction(t *testing.T) {
	m := base(">", code("end"))
	m.Funcs[2].Code = code("nop wadd end")
	m.Funcs[3].Code = code("nop nop br:3 end")
	for f, want := range map[int]verdict{
		0: fine, 1: fine, 2: {1, api.ErrType}, 3: {2, api.ErrIndex},
		4: {-1, api.ErrArg}, 5: {-1, api.ErrArg}, -1: {-1, api.ErrArg}, -2: {-1, api.ErrArg},
		math.MinInt: {-1, api.ErrArg}, math.MaxInt: {-1, api.ErrArg}, math.MaxInt - 1: {-1, api.ErrArg}, 1 << 32: {-1, api.ErrArg}, -1 << 32: {-1, api.ErrArg},
	} {
		for _, profile := range both {
			if at, why := check.Func(m, f, profile); (verdict{at, why}) != want {
				t.Errorf("P10.2: Func(%d): at %d, %d, want %v", f, at, why, want)
			}
		}
	}
	for _, f := range []int{0, 1, -1, math.MinInt, math.MaxInt} {
		if at, why := check.Func(api.Module{}, f, api.Rich); at != -1 || why != api.ErrArg {
			t.Errorf("P10.2: Func(%d) of an empty module: at %d, %d", f, at, why)
		}
	}
}

// The document's examples.
func TestExamples(t *testing.T) {
	for _, profile := range both {
		if why := check.Module(api.Module{}, profile); why != api.OK {
			t.Errorf("P10.1: Module of an empty module: %d", why)
		}
	}
	rows(t, both, []row{
		{">", "w wadd drop end", 1, typed},
		{">", "unreachable w wadd drop end", -1, ok},
	})
}
