package stacks_test

import (
	"slices"
	"strconv"
	"strings"
	"testing"
	"time"

	"plainsong/api"
	"plainsong/ops"
	"plainsong/stacks"
)

// row is a function with the Rows of its instructions.
type row struct {
	signature, code, rows string
}

func rows(t *testing.T, l []row) {
	t.Helper()
	for _, r := range l {
		asks(t, base(r.signature, code(r.code)), 0, r.rows, r.signature+": "+r.code)
	}
}

func TestExamples(t *testing.T) {
	rows(t, []row{
		{">", "w drop end", ". w ."},
		{">", "unreachable end", ". .!"},
		{">", "w block:-1 l unreachable nop end drop end", ". w w wl w! w! w ."},
	})
	none(t, base(">", code("w drop end")), 4, "a function that doesn't exist")
}

// word is a Row as the tests write it.
func word(types, mark string) string {
	if types == "" {
		return "." + mark
	}
	return types + mark
}

// grown are the Rows of a stack on which one type after the other is put, to the last Row, on which all lie.
func grown(letters, mark string) string {
	s := ""
	for n := range len(letters) + 1 {
		s += word(letters[:n], mark) + " "
	}
	return s
}

// Every instruction that takes and gives the same everywhere, over other values.
func TestEachInstruction(t *testing.T) {
	for op, effect := range effects {
		takes, gives, _ := strings.Cut(effect, ">")
		for _, under := range []string{"", "w", "f", "lw"} {
			body := join(consts(under+takes), []api.Inst{with(op)}, code("unreachable end"))
			asks(t, base(">", body), 0, grown(under+takes, "")+word(under+gives, "")+" .!", "the instruction "+strconv.FormatInt(int64(op), 16))
		}
	}
}

// The same instructions in dead code, of whose operands some or all don't exist.
func TestEachInstructionInDeadCode(t *testing.T) {
	for op, effect := range effects {
		takes, gives, _ := strings.Cut(effect, ">")
		for k := range len(takes) + 1 {
			body := join(code("unreachable"), consts(takes[k:]), []api.Inst{with(op)}, code("unreachable end"))
			asks(t, base(">", body), 0, ". "+grown(takes[k:], "!")+word(gives, "!")+" .!", "the instruction "+strconv.FormatInt(int64(op), 16)+" in dead code")
		}
	}
}

// All instructions are either in that table or in the tests by name.
func TestTableIsWhole(t *testing.T) {
	others := []int{0x00, 0x02, 0x03, 0x04, 0x05, 0x0b, 0x0c, 0x0d, 0x0e, 0x0f, 0x10, 0x12, 0x1a, 0x1b, 0x20, 0x21, 0x22, 0x23, 0x24}
	for _, op := range ops.All() {
		if _, is := effects[op]; is == slices.Contains(others, op) {
			t.Errorf("the instruction %x is not tested, or twice", op)
		}
	}
}

func TestMoves(t *testing.T) {
	rows(t, []row{
		{"lf>", "get:0 get:1 get:2 get:3 get:4 unreachable end", ". l lf lfw lfwl lfwlf .!"},
		{"lf>", "get:1 set:4 get:0 tee:3 set:0 end", ". f . l l ."},
		{">", "gget:0 gget:1 gget:2 gget:3 gget:4 gget:5 gset:5 drop gset:3 drop gset:1 drop end", ". w ww wwl wwll wwllf wwllff wwllf wwll wwl ww w ."},
		{">", "w l f drop drop drop end", ". w wl wlf wl w ."},
		{">", "l f f w select drop drop end", ". l lf lff lffw lf l ."},
		{">", "w w w select drop l l w select drop end", ". w ww www w . l ll llw l ."},
		{">w", "w end", ". w"},
		{">fw", "f w end", ". f fw"},
		{"wl>", "end", "."},
		// Calls take the parameters of the type that is called, whatever lies below them, and give its results.
		{">", "w l f call:0 drop drop call:1 end", ". w wl wlf fw f . ."},
		{">", "l w call:3 set:0 drop end", ". l lw lw l ."},
		{">", "call:5 call:5 drop drop drop drop end", ". wl wlwl wlw wl w ."},
		{">", "f w w call:4 drop end", ". f fw fww f ."},
		{"ff>w", "get:1 get:0 w call:3 return_call:3 end", ". f ff ffw ffw .!"},
		{"wf>f", "w f call:2 drop f end", ". w wf f . f"},
	})
}

func TestFrames(t *testing.T) {
	rows(t, []row{
		{">", "block:-1 end loop:-1 end w if:-1 end end", ". . . . . w . ."},
		{">", "block:-2 w end drop end", ". . w w ."},
		{">", "block:-3 l end drop loop:-4 f end drop end", ". . l l . . f f ."},
		{">", "l block:-2 w end drop drop end", ". l l lw lw l ."},
		{">", "l f w block:1 weqz end drop drop drop end", ". l lf lfw lfw lfw lfw lf l ."},
		// Frames in each other: a Row begins with what lies below all of them.
		{">", "w block:-1 l block:-1 f block:-1 nop end drop end drop end drop end", ". w w wl wl wlf wlf wlf wlf wl wl w w ."},
		{">", "f block:-2 l block:-3 l end drop drop w end drop drop end", ". f f fl fl fll fll fl f fw fw f ."},
		{">", "f w l f block:2 drop drop drop f w end drop drop drop end", ". f fw fwl fwlf fwlf fwl fw f ff ffw ffw ff f ."},
		{">", "f w l f loop:2 drop drop drop f w end drop drop drop end", ". f fw fwl fwlf fwlf fwl fw f ff ffw ffw ff f ."},
		{">", "l w if:-4 f else f end drop drop end", ". l lw l lf l lf lf l ."},
		{">", "f l w w if:5 drop drop w l else drop drop w l end drop drop drop end", ". f fl flw flww flw fl f fw fwl flw fl f fw fwl fwl fw f ."},
		{">", "w w if:1 weqz end drop end", ". w ww w w w ."},
		{">", "w w if:1 weqz else end drop end", ". w ww w w w w ."},
	})
}

// Labels: what a branch takes is not what it leaves.
func TestBranches(t *testing.T) {
	rows(t, []row{
		{">w", "l w br:0 end", ". l lw .!"},
		{">", "l block:-2 f w br:0 end drop drop end", ". l l lf lfw l! lw l ."},
		{">", "f block:-2 l w w br_if:0 drop drop w end drop drop end", ". f f fl flw flww flw fl f fw fw f ."},
		{">", "f w loop:1 w br_if:0 end drop drop end", ". f fw fw fww fw fw f ."},
		{">", "f w loop:1 br:0 end drop drop end", ". f fw fw f! fw f ."},
		{">", "f block:-2 block:-2 l w w br_table:0,1,1 end end drop drop end", ". f f f fl flw flww f! fw fw f ."},
		{">w", "f block:-1 l w return end drop w end", ". f f fl flw f! f . w"},
		{">w", "f block:-1 l w return_call:3 end drop w end", ". f f fl flw f! f . w"},
		{">", "f block:-1 l unreachable end drop end", ". f f fl f! f ."},
		{">", "f block:-1 l w br_if:0 drop end drop end", ". f f fl flw fl f f ."},
	})
}

// Dead code: the stack is at the height of the frame, and what is taken from below does not exist.
func TestDeadCode(t *testing.T) {
	rows(t, []row{
		{">", "unreachable nop drop drop end", ". .! .! .! .!"},
		{">", "unreachable w drop drop l drop end", ". .! w! .! .! l! .!"},
		{">", "w unreachable drop end", ". w .! .!"},
		{">w", "unreachable wadd end", ". .! w!"},
		{">w", "unreachable w wadd end", ". .! w! w!"},
		{">", "unreachable set:0 tee:1 set:1 gset:5 end", ". .! .! l! .! .!"},
		// A select of two unknown types gives an unknown one; one known type is enough to know it.
		{">", "unreachable select drop end", ". .! ?! .!"},
		{">", "unreachable w select drop end", ". .! w! ?! .!"},
		{">", "unreachable l w select drop end", ". .! l! lw! l! .!"},
		{">", "unreachable l l w select drop end", ". .! l! ll! llw! l! .!"},
		{">", "unreachable select select select drop end", ". .! ?! ?! ?! .!"},
		{">", "unreachable select w select drop end", ". .! ?! ?w! ?! .!"},
		{">", "unreachable select f w select drop end", ". .! ?! ?f! ?fw! f! .!"},
		{">", "unreachable select l unreachable end", ". .! ?! ?l! .!"},
		{">", "unreachable select f drop drop end", ". .! ?! ?f! ?! .!"},
		// What takes an unknown type as one that it is sure of, gives the latter.
		{">w", "unreachable select end", ". .! ?!"},
		{">", "unreachable select weqz drop end", ". .! ?! w! .!"},
		{">", "unreachable select tee:1 drop end", ". .! ?! l! .!"},
		{">l", "unreachable select w br_if:0 end", ". .! ?! ?w! l!"},
		{">l", "unreachable br_if:0 end", ". .! l!"},
		{">wl", "unreachable l w br_if:0 end", ". .! l! lw! wl!"},
		{">", "unreachable select block:1 nop end drop end", ". .! ?! w w w! .!"},
		{">", "unreachable select f w call:3 drop drop drop end", ". .! ?! ?f! ?fw! ?fw! ?f! ?! .!"},
		// Calls and branches that take more than there is.
		{">", "unreachable f call:0 drop drop end", ". .! f! fw! f! .!"},
		{">", "unreachable l f call:0 drop drop end", ". .! l! lf! fw! f! .!"},
		{">", "unreachable br:0 br_table:0 return end", ". .! .! .! .!"},
		{">w", "unreachable return_call:3 end", ". .! .!"},
		// A frame that is begun in dead code isn't dead itself; behind its end the code is as dead as before.
		{">", "unreachable block:-1 nop end end", ". .! . . .!"},
		{">", "unreachable w l block:-2 w end drop drop drop end", ". .! w! wl! wl wlw wlw! wl! w! .!"},
		{">", "unreachable block:2 nop drop drop drop f w end drop drop end", ". .! wlf wlf wl w . f fw fw! f! .!"},
		{">", "unreachable f block:2 drop drop drop f w end drop drop end", ". .! f! wlf wl w . f fw fw! f! .!"},
		{">", "unreachable if:1 else end drop end", ". .! w w w! .!"},
		// What is dead in a frame ends with it, and an else begins anew.
		{">", "block:-1 unreachable end nop end", ". . .! . ."},
		{">", "l block:-2 unreachable end drop drop end", ". l l l! lw l ."},
		{">", "w if:-1 unreachable else nop end end", ". w . .! . . ."},
		{">", "w if:-1 else unreachable end nop end", ". w . . .! . ."},
		{">", "f w w if:1 br:0 else br:0 end drop drop end", ". f fw fww fw f! fw f! fw f ."},
		{">", "l w if:-2 w br:0 nop else w return nop end drop drop end", ". l lw l lw l! l! l lw l! l! lw l ."},
	})
}

// The functions of a module each have their own Rows; those that are imported have none and don't count.
func TestEachFunction(t *testing.T) {
	m := base(">l", code("l end"))
	m.Funcs[1].Code = code("get:0 tee:0 w drop end")
	m.Funcs[2].Code = code("unreachable nop end")
	m.Funcs[3].Code = code("w l nop nop end")
	for f, want := range []string{". l", ". w w ww w", ". .! .!", ". w wl wl wl"} {
		asks(t, m, f, want, "the function "+strconv.Itoa(f))
	}
}

func TestNoFunction(t *testing.T) {
	m := base(">", code("w drop end"))
	for _, f := range []int{-1 << 63, -1 << 40, -2, -1, 4, 5, 6, 7, 1 << 32, 1<<63 - 1} {
		none(t, m, f, "the function "+strconv.Itoa(f))
	}
	for f := range 3 {
		none(t, api.Module{}, f-1, "a module of nothing")
	}
	m.Funcs = nil
	m.Exports = nil
	none(t, m, 0, "a module of imported functions alone")
}

// deep returns a code with so many blocks in each other.
func deep(n int) []api.Inst {
	return code(strings.Repeat("block:-1 ", n) + strings.Repeat("end ", n+1))
}

// A module that check refuses has no Rows, whatever is wrong with it, and wherever.
func TestRefusedModules(t *testing.T) {
	for what, spoil := range map[string]func(m *api.Module){
		"a type that isn't on the stack":       func(m *api.Module) { m.Funcs[0].Code = code("w l wadd drop end") },
		"a type on the stack of another":       func(m *api.Module) { m.Funcs[3].Code = code("w end") },
		"a last end that is missing":           func(m *api.Module) { m.Funcs[0].Code = code("nop") },
		"no code":                              func(m *api.Module) { m.Funcs[0].Code = nil },
		"an end too many":                      func(m *api.Module) { m.Funcs[2].Code = code("end end") },
		"blocks too deep":                      func(m *api.Module) { m.Funcs[1].Code = deep(65) },
		"an instruction that is none":          func(m *api.Module) { m.Funcs[0].Code[0].Op = 0x06 },
		"a local that doesn't exist":           func(m *api.Module) { m.Funcs[0].Code = code("get:3 drop end") },
		"too many memories":                    func(m *api.Module) { m.Mems = make([]api.Mem, 5) },
		"a Func without its type":              func(m *api.Module) { m.Funcs[0].Type = 8 },
		"another Func without its type":        func(m *api.Module) { m.Funcs[3].Type = 99 },
		"an Import without its type":           func(m *api.Module) { m.Imports[0].Type = 8 },
		"an export of nothing":                 func(m *api.Module) { m.Exports[0].Index = 6 },
		"a Data for a memory that isn't there": func(m *api.Module) { m.Datas[0].Mem = 2 },
		"two exports of one name":              func(m *api.Module) { m.Exports[1].Name = "f" },
	} {
		m := base(">", code("w drop end"))
		spoil(&m)
		for f := range m.Funcs {
			none(t, m, f, what)
		}
	}
}

// A rich module is accepted, and so is one that is plain.
func TestBothProfiles(t *testing.T) {
	plain := api.Module{Types: []api.Type{typ("w>f")}, Funcs: []api.Func{{Code: code("f end")}}}
	asks(t, plain, 0, ". f", "a plain module")
	plain.Mems = make([]api.Mem, 4)
	asks(t, plain, 0, ". f", "one with four memories")
}

// As many instructions, frames and types as there may be. Depth keeps no Rows: all those of the last function would not fit.
func TestGreatest(t *testing.T) {
	m := base(">", join(deep(64)[:128], code("unreachable end")))
	asks(t, m, 0, strings.Repeat(". ", 129)+".!", "64 blocks in each other")
	m.Funcs[0].Code = join(slices.Repeat(code("w drop"), 1<<15-1), code("nop end"))
	if got := stacks.Of(m, 0); len(got) != 1<<16 || told(got[len(got)-4:]) != ". w . ." {
		t.Errorf("P11.1: Of of as many instructions as there may be: %d Rows", len(got))
	}
	m.Types = append(m.Types, typ(">wlfwlfwl"))
	m.Funcs[3] = api.Func{Type: len(m.Types) - 1, Code: code("unreachable end")}
	m.Funcs[0].Code = join(slices.Repeat(code("call:5"), 1<<16-2), code("unreachable end"))
	begin := time.Now()
	if got := stacks.Depth(m, 0); got != 8*(1<<16-2) {
		t.Errorf("P11.1: Depth of as many types as there may be: %d", got)
	}
	if time.Since(begin) > 10*time.Second {
		t.Error("P11.1: Depth of as many types as there may be takes too long")
	}
}
