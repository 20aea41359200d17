package check

import (
	"truant/api"
	"truant/kind"
	"truant/parse"
)

// program asks the rules of a Program in their order.
func program(n parse.Node) Info {
	info := declared(n)
	checkNames(n)
	for i := range n.Kids() {
		checkTypes(info.Structs, n.Kid(i))
	}
	for i := range n.Kids() {
		if n.Kid(i).Op() == parse.Func {
			checkBody(info, n.Kid(i))
		}
	}
	checkMain(info)
	return info
}

// declared takes all as it stands, whether or not it keeps to the rules.
func declared(n parse.Node) Info {
	var info Info
	for i := range n.Kids() {
		kid := n.Kid(i)
		switch kid.Op() {
		case parse.Struct:
			info.Structs = append(info.Structs, api.Struct{Name: kid.Name(), Fields: partsOf(kid)})
		case parse.Global:
			info.Globals = append(info.Globals, fieldOf(kid))
		case parse.Func:
			info.Funs = append(info.Funs, sigOf(kid))
		}
	}
	return info
}

func sigOf(n parse.Node) Sig {
	return Sig{Name: n.Name(), Params: partsOf(n), Result: n.Type()}
}

func fieldOf(n parse.Node) api.Field {
	return api.Field{Name: n.Name(), Type: n.Type()}
}

func partsOf(n parse.Node) []api.Field {
	var list []api.Field
	for i := range countParts(n) {
		list = append(list, fieldOf(n.Kid(i)))
	}
	return list
}

// countParts leaves out a Func's Block, which stands behind its Parts.
func countParts(n parse.Node) int {
	if n.Op() == parse.Func {
		return n.Kids() - 1
	}
	return n.Kids()
}

func findField(list []api.Field, name string) (int, bool) {
	for at, field := range list {
		if field.Name == name {
			return at, true
		}
	}
	return 0, false
}

// checkNames is rule 1.
func checkNames(n parse.Node) {
	for i := range n.Kids() {
		kid := n.Kid(i)
		need(kid, isNewName(n, i), api.ErrTwice)
		need(kid, countAhead(n, i) < mostOf(kid.Op()), api.ErrFull)
	}
}

// isNewName tells whether no kid ahead has the name of the one at the place.
func isNewName(n parse.Node, place int) bool {
	for i := range place {
		if n.Kid(i).Name() == n.Kid(place).Name() {
			return false
		}
	}
	return true
}

// countAhead tells how many of its kind stand ahead of the kid at the place.
func countAhead(n parse.Node, place int) int {
	count := 0
	for i := range place {
		if n.Kid(i).Op() == n.Kid(place).Op() {
			count++
		}
	}
	return count
}

// mostOf is how many declarations of a kind there may be.
func mostOf(op int) int {
	switch op {
	case parse.Struct:
		return api.MaxStructs
	case parse.Global:
		return api.MaxGlobals
	}
	return api.MaxFuns
}

// checkTypes is rule 2, of one declaration.
func checkTypes(structs []api.Struct, n parse.Node) {
	if n.Op() == parse.Global {
		need(n, kind.Is(structs, n.Type()), api.ErrName)
		return
	}
	for i := range countParts(n) {
		part := n.Kid(i)
		need(part, i < mostParts(n.Op()), api.ErrFull)
		need(part, isNewName(n, i), api.ErrTwice)
		need(part, kind.Is(structs, part.Type()), api.ErrName)
	}
	if n.Type() != "" {
		need(n, kind.Is(structs, n.Type()), api.ErrName)
	}
}

// mostParts is how many Parts a Struct or a Func may have.
func mostParts(op int) int {
	if op == parse.Struct {
		return api.MaxFields
	}
	return api.MaxParams
}

// checkMain is rule 4.
func checkMain(info Info) {
	at, is := info.Fun("main")
	if !is || len(info.Funs[at].Params) > 0 || info.Funs[at].Result != "" {
		panic(fault{0, api.ErrMain})
	}
}
