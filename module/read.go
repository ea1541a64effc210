package module

import (
	"chrysalis/api"
	"chrysalis/inst"
	"chrysalis/kind"
	"chrysalis/num"
)

// reader takes a module, part by part. What is read but may not be makes it bad, as too few bytes do, so that it is enough to ask at the end of a part.
type reader struct {
	*num.Reader // of the part that is being read
	m           api.Module
	recs        int // known ahead of the records themselves, whose fields may speak of later ones
}

// refuse makes r bad: no reader can take fewer than no bytes.
func (r *reader) refuse() {
	r.Take(-1)
}

// count takes how many there are of something: from least to most.
func (r *reader) count(least, most int) int {
	n := r.Var()
	if n < uint64(least) || n > uint64(most) { // held against bounds ahead of becoming an int
		r.refuse()
		return 0
	}
	return int(n)
}

// listOf makes a list of n, each of them read by one.
func listOf[T any](n int, one func() T) []T {
	var list []T
	for range n {
		list = append(list, one())
	}
	return list
}

func (r *reader) records() {
	r.recs = r.count(0, api.MaxRecs)
	r.m.Recs = listOf(r.recs, r.record)
}

func (r *reader) functions() {
	r.m.Funcs = listOf(r.count(1, api.MaxFuncs), r.function)
}

func (r *reader) imports() {
	r.m.Imports = listOf(r.count(0, api.MaxImports), r.imported)
}

func (r *reader) numbers() {
	r.m.Ints = listOf(r.count(0, api.MaxConsts), r.number)
}

func (r *reader) texts() {
	r.m.Texts = listOf(r.count(0, api.MaxConsts), r.text)
}

func (r *reader) record() []api.Type {
	return r.types(api.MaxFields)
}

func (r *reader) function() api.Func {
	var f api.Func
	f.Args = r.types(api.MaxArgs)
	f.Ret = r.oneType()
	f.Locals = r.types(api.MaxLocals - len(f.Args))
	f.Code = listOf(r.count(1, api.MaxCode), r.instruction)
	return f
}

func (r *reader) imported() api.Import {
	var i api.Import
	i.Args = r.types(api.MaxArgs)
	i.Ret = r.oneType()
	return i
}

func (r *reader) number() uint64 {
	return r.Fixed(numberWidth)
}

func (r *reader) text() string {
	return string(r.Take(r.count(0, api.MaxText)))
}

func (r *reader) types(most int) []api.Type {
	return listOf(r.count(0, most), r.oneType)
}

func (r *reader) oneType() api.Type {
	t, ok := kind.Get(r.Reader, r.recs)
	if !ok {
		r.refuse()
	}
	return t
}

func (r *reader) instruction() api.Instr {
	i, ok := inst.Get(r.Reader)
	if !ok {
		r.refuse()
	}
	return i
}
