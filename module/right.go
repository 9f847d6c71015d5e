package module

import (
	"math"

	"plainsong/api"
	"plainsong/text"
)

// Right returns OK if m is valid, and otherwise what is wrong with it.
func Right(m api.Module) api.Errno {
	if !fits(m) {
		return api.ErrFull
	}
	right := rightTypes(m.Types) &&
		rightImports(m.Imports) &&
		rightFuncs(m.Funcs) &&
		rightMems(m.Mems) &&
		rightGlobals(m.Globals) &&
		rightExports(m.Exports) &&
		rightDatas(m.Datas) &&
		rightCustoms(m.Customs)
	if !right {
		return api.ErrForm
	}
	return api.OK
}

// fits reports whether no list of m is too long.
func fits(m api.Module) bool {
	return len(m.Types) <= api.MaxTypes &&
		len(m.Imports)+len(m.Funcs) <= api.MaxFuncs &&
		len(m.Mems) <= api.MaxMems &&
		len(m.Globals) <= api.MaxGlobals &&
		len(m.Datas) <= api.MaxData &&
		len(m.Exports) <= api.MaxFuncs &&
		len(m.Customs) <= api.MaxData
}

func rightTypes(l []api.Type) bool {
	for _, t := range l {
		if !rightValues(t.Params, api.MaxArity) || !rightValues(t.Results, api.MaxArity) {
			return false
		}
	}
	return true
}

func rightImports(l []api.Import) bool {
	for _, v := range l {
		if !rightName(v.Module) || !rightName(v.Name) || !rightIndex(v.Type) {
			return false
		}
	}
	return true
}

func rightFuncs(l []api.Func) bool {
	for _, f := range l {
		if !rightIndex(f.Type) || !rightValues(f.Locals, api.MaxLocals) || !rightCode(f.Code) {
			return false
		}
	}
	return true
}

func rightCode(l []api.Inst) bool {
	if len(l) > api.MaxBody {
		return false
	}
	for _, i := range l {
		if !Inst(i) {
			return false
		}
	}
	return true
}

func rightMems(l []api.Mem) bool {
	for _, v := range l {
		if v.Min < 0 || v.Min > v.Max || v.Max > api.MaxPages {
			return false
		}
	}
	return true
}

func rightGlobals(l []api.Global) bool {
	for _, g := range l {
		if !rightValue(g.Type) || g.Type == api.I32 && g.Init > math.MaxUint32 {
			return false
		}
	}
	return true
}

func rightExports(l []api.Export) bool {
	for i, e := range l {
		if !rightName(e.Name) || !rightIndex(e.Index) || !rightKind(e.Kind) {
			return false
		}
		for _, before := range l[:i] {
			if before.Name == e.Name {
				return false
			}
		}
	}
	return true
}

func rightDatas(l []api.Data) bool {
	for _, d := range l {
		mostMem, mostAt := 0, 0
		if d.Active {
			mostMem, mostAt = api.MaxMems-1, math.MaxInt32
		}
		if !within(d.Mem, 0, mostMem) || !within(d.At, 0, mostAt) || len(d.Bytes) > api.MaxBytes {
			return false
		}
	}
	return true
}

func rightCustoms(l []api.Custom) bool {
	for _, v := range l {
		if !rightName(v.Name) || len(v.Bytes) > api.MaxBytes {
			return false
		}
	}
	return true
}

// rightValues reports whether l is a list of types, with at most so many elements.
func rightValues(l []int, most int) bool {
	if len(l) > most {
		return false
	}
	for _, t := range l {
		if !rightValue(t) {
			return false
		}
	}
	return true
}

func rightValue(t int) bool {
	return t == api.I32 || t == api.I64 || t == api.F64
}

func rightName(s string) bool {
	return len(s) <= api.MaxName && text.Right([]byte(s))
}

func rightKind(k int) bool {
	return k == api.ExFunc || k == api.ExMem || k == api.ExGlobal
}

// rightIndex holds indices to what their encoding has room for alone: whether they exist is a matter of types.
func rightIndex(n int) bool {
	return within(n, 0, math.MaxInt32)
}
