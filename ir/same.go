package ir

import (
	"slices"

	"truant/api"
	"truant/kind"
)

// Same: whether all is the same.
func Same(a, b api.Prog) bool {
	return kind.Same(a.Structs, b.Structs) &&
		slices.Equal(a.Globals, b.Globals) &&
		slices.EqualFunc(a.Funs, b.Funs, sameFun)
}

func sameFun(a, b api.Fun) bool {
	return a.Name == b.Name &&
		slices.Equal(a.Params, b.Params) &&
		a.Result == b.Result &&
		slices.Equal(a.Slots, b.Slots) &&
		slices.EqualFunc(a.Ins, b.Ins, sameIns) &&
		slices.EqualFunc(a.Blocks, b.Blocks, sameBlock)
}

func sameIns(a, b api.Ins) bool {
	return a.Op == b.Op && a.Type == b.Type && slices.Equal(a.Args, b.Args) && a.N == b.N && a.Name == b.Name
}

func sameBlock(a, b api.Block) bool {
	return slices.Equal(a.List, b.List) && a.Jump == b.Jump && a.Arg == b.Arg && a.To == b.To
}

// Clone: the same, in new memory.
func Clone(p api.Prog) api.Prog {
	return api.Prog{
		Structs: cloneEach(p.Structs, cloneStruct),
		Globals: cloneRow(p.Globals),
		Funs:    cloneEach(p.Funs, cloneFun),
	}
}

func cloneStruct(s api.Struct) api.Struct {
	s.Fields = cloneRow(s.Fields)
	return s
}

func cloneFun(f api.Fun) api.Fun {
	f.Params = cloneRow(f.Params)
	f.Slots = cloneRow(f.Slots)
	f.Ins = cloneEach(f.Ins, cloneIns)
	f.Blocks = cloneEach(f.Blocks, cloneBlock)
	return f
}

func cloneIns(ins api.Ins) api.Ins {
	ins.Args = cloneRow(ins.Args)
	return ins
}

func cloneBlock(b api.Block) api.Block {
	b.List = cloneRow(b.List)
	return b
}

// cloneRow makes the row alone new, not what its elements lead to. It doesn't
// lean on slices.Clone, which of an empty row answers a piece of that row's
// memory.
func cloneRow[E any](row []E) []E {
	if row == nil {
		return nil
	}
	other := make([]E, len(row))
	copy(other, row)
	return other
}

func cloneEach[E any](row []E, clone func(E) E) []E {
	other := cloneRow(row)
	for i := range other {
		other[i] = clone(other[i])
	}
	return other
}
