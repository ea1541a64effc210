package module

import (
	"slices"

	"chrysalis/api"
	"chrysalis/inst"
	"chrysalis/kind"
	"chrysalis/num"
)

// fits tells whether m is small enough to be written, and made of good types and instructions alone.
func fits(m api.Module) bool {
	good := func(t api.Type) bool {
		return kind.Good(t, len(m.Recs))
	}
	types := func(list []api.Type, most int) bool {
		return within(list, 0, most, good)
	}
	record := func(fields []api.Type) bool {
		return types(fields, api.MaxFields)
	}
	function := func(f api.Func) bool {
		return types(f.Args, api.MaxArgs) && good(f.Ret) &&
			types(f.Locals, api.MaxLocals-len(f.Args)) &&
			within(f.Code, 1, api.MaxCode, goodInstruction)
	}
	imported := func(i api.Import) bool {
		return types(i.Args, api.MaxArgs) && good(i.Ret)
	}
	return within(m.Recs, 0, api.MaxRecs, record) &&
		within(m.Funcs, 1, api.MaxFuncs, function) &&
		within(m.Imports, 0, api.MaxImports, imported) &&
		len(m.Ints) <= api.MaxConsts &&
		within(m.Texts, 0, api.MaxConsts, shortText)
}

// within tells whether list has from least to most, and each of them is good.
func within[T any](list []T, least, most int, good func(T) bool) bool {
	if len(list) < least || len(list) > most {
		return false
	}
	for _, x := range list {
		if !good(x) {
			return false
		}
	}
	return true
}

func goodInstruction(i api.Instr) bool {
	return len(inst.Put(i)) > 0
}

func shortText(text string) bool {
	return len(text) <= api.MaxText
}

// putList writes how many there are, then each by put.
func putList[T any](list []T, put func(T) []byte) []byte {
	out := num.Var(uint64(len(list)))
	for _, x := range list {
		out = append(out, put(x)...)
	}
	return out
}

func putTypes(list []api.Type) []byte {
	return putList(list, kind.Put)
}

func putFunction(f api.Func) []byte {
	return slices.Concat(putTypes(f.Args), kind.Put(f.Ret), putTypes(f.Locals), putList(f.Code, inst.Put))
}

func putImport(i api.Import) []byte {
	return append(putTypes(i.Args), kind.Put(i.Ret)...)
}

func putNumber(n uint64) []byte {
	return num.Fixed(n, numberWidth)
}

func putText(text string) []byte {
	return append(num.Var(uint64(len(text))), text...)
}
