package kind_test

import (
	"math/rand"
	"regexp"
	"slices"
	"strconv"
	"strings"
	"testing"

	"truant/api"
	"truant/kind"
)

const keyTexts = " type struct func var if else for return print new nil true false int bool read "

var wordForm = regexp.MustCompile(`^[A-Za-z_][A-Za-z0-9_]{0,11}$`)

func isWord(s string) bool {
	return wordForm.MatchString(s) && !strings.Contains(s, "\n") && !strings.Contains(keyTexts, " "+s+" ")
}

// wrongNames are no words.
func wrongNames() []string {
	list := strings.Fields(keyTexts)
	return append(list, "", " ", "9", "9a", "a b", " a", "a ", "a\n", "a-b", "*", "*T", "T*", "é", "a\x80", "\x00", "//", "abcdefghijklm",
		strings.Repeat("a", 5000))
}

// fieldsOf reads fields as name:type, with blanks between.
func fieldsOf(text string) []api.Field {
	var list []api.Field
	for _, part := range strings.Fields(text) {
		name, typ, _ := strings.Cut(part, ":")
		list = append(list, api.Field{Name: name, Type: typ})
	}
	return list
}

// structsOf reads structs as name{fields}, with semicolons between.
func structsOf(text string) []api.Struct {
	var list []api.Struct
	for _, part := range strings.Split(text, ";") {
		name, rest, _ := strings.Cut(strings.TrimSpace(part), "{")
		list = append(list, api.Struct{Name: name, Fields: fieldsOf(strings.TrimSuffix(rest, "}"))})
	}
	return list
}

// many are so many structs, each without fields.
func many(count int) []api.Struct {
	var list []api.Struct
	for i := range count {
		list = append(list, api.Struct{Name: "T" + strconv.Itoa(i)})
	}
	return list
}

// wide are so many fields, each of that type.
func wide(count int, typ string) []api.Field {
	var list []api.Field
	for i := range count {
		list = append(list, api.Field{Name: "f" + strconv.Itoa(i), Type: typ})
	}
	return list
}

func copyOf(list []api.Struct) []api.Struct {
	other := slices.Clone(list)
	for i := range other {
		other[i].Fields = slices.Clone(other[i].Fields)
	}
	return other
}

// isType is what the document asks of Is, by other means.
func isType(list []api.Struct, typ string) bool {
	types := []string{"int", "bool"}
	for _, s := range list {
		types = append(types, "*"+s.Name)
	}
	return slices.Contains(types, typ)
}

type fault struct {
	at  int
	err api.Errno
}

// faults are all that are wrong with a list, in the document's order.
func faults(list []api.Struct) []fault {
	var all []fault
	ask := func(at int, wrong bool, err api.Errno) {
		if wrong {
			all = append(all, fault{at, err})
		}
	}
	ask(0, len(list) > 12, api.ErrFull)
	taken := map[string]int{}
	for at, s := range list {
		ask(at, !isWord(s.Name), api.ErrForm)
		ask(at, taken[s.Name] > 0, api.ErrTwice)
		taken[s.Name]++
		ask(at, len(s.Fields) > 8, api.ErrFull)
		inner := map[string]int{}
		for _, field := range s.Fields {
			ask(at, !isWord(field.Name), api.ErrForm)
			ask(at, inner[field.Name] > 0, api.ErrTwice)
			inner[field.Name]++
			ask(at, !isType(list, field.Type), api.ErrType)
		}
	}
	return all
}

func plainCheck(list []api.Struct) (int, api.Errno) {
	if all := faults(list); len(all) > 0 {
		return all[0].at, all[0].err
	}
	return 0, api.OK
}

// plainReach goes round till nobody is added any more; it asks names of the
// first struct of each name alone.
func plainReach(list []api.Struct, typ string) []string {
	reached := map[string]int{}
	if len(typ) > 0 && typ[0] == '*' && isWord(typ[1:]) {
		reached[typ[1:]] = 1
	}
	first := map[string]int{}
	for at := len(list) - 1; at >= 0; at-- {
		first[list[at].Name] = at
	}
	for range list {
		for at, s := range list {
			for _, field := range s.Fields {
				if reached[s.Name] == 1 && first[s.Name] == at && strings.HasPrefix(field.Type, "*") && isWord(field.Type[1:]) {
					reached[field.Type[1:]] = 1
				}
			}
		}
	}
	var names []string
	for at, s := range list {
		if reached[s.Name] == 1 && first[s.Name] == at {
			names = append(names, s.Name)
		}
	}
	return names
}

func wantCheck(t *testing.T, list []api.Struct, at int, want api.Errno) {
	t.Helper()
	if place, err := kind.Check(list); place != at || err != want {
		t.Errorf("Check(%v) = %d, %d; want %d, %d", list, place, err, at, want)
	}
}

func wantReach(t *testing.T, list []api.Struct, typ string, want ...string) {
	t.Helper()
	if names := kind.Reach(list, typ); !slices.Equal(names, want) {
		t.Errorf("Reach(%v, %q) = %q, want %q", list, typ, names, want)
	}
}

// P3.1: Pointer takes any name, and Elem takes it off again if it is a word.
func TestPointerElem(t *testing.T) {
	for _, name := range []string{"T", "a", "_", "x9", "Node", "abcdefghijkl", "_12345678901", "If", "INT"} {
		if typ := kind.Pointer(name); typ != "*"+name {
			t.Error(typ)
		}
		if got, is := kind.Elem("*" + name); got != name || !is {
			t.Error(name, got, is)
		}
		for _, typ := range []string{name, "**" + name, " *" + name, "* " + name, name + "*", "*" + name + " ", "&" + name, "\\*" + name} {
			if got, is := kind.Elem(typ); got != "" || is {
				t.Errorf("Elem(%q) = %q, %v", typ, got, is)
			}
		}
	}
	for _, name := range wrongNames() {
		if typ := kind.Pointer(name); typ != "*"+name {
			t.Errorf("%q", typ)
		}
		if got, is := kind.Elem("*" + name); got != "" || is {
			t.Errorf("Elem of * and %q = %q, %v", name, got, is)
		}
		if got, is := kind.Elem(name); name != "*T" && (got != "" || is) {
			t.Errorf("Elem(%q) = %q, %v", name, got, is)
		}
	}
}

// P3.1: every byte behind the *.
func TestElemBytes(t *testing.T) {
	for c := range 256 {
		s := string([]byte{byte(c)})
		for _, name := range []string{s, "x" + s, s + "x"} {
			want := isWord(name)
			if got, is := kind.Elem("*" + name); is != want || want && got != name || !want && got != "" {
				t.Errorf("%q: %q, %v", name, got, is)
			}
		}
	}
}

// P3.1: the first of a name, names that nobody has, and lists that are wrong.
func TestFind(t *testing.T) {
	list := structsOf("T{n:int}; U; T{n:bool}; U{u:*U}; V")
	list = append(list, api.Struct{}, api.Struct{Name: "for"}, api.Struct{Name: ""}, api.Struct{Name: "a b"})
	for name, want := range map[string]int{"T": 0, "U": 1, "V": 4, "": 5, "for": 6, "a b": 8} {
		if at, is := kind.Find(list, name); at != want || !is {
			t.Errorf("Find %q = %d, %v", name, at, is)
		}
	}
	for _, name := range []string{"t", "TU", "*T", "n", "u", "int", "a", " T", "T "} {
		if at, is := kind.Find(list, name); at != 0 || is {
			t.Errorf("Find %q = %d, %v", name, at, is)
		}
	}
	for _, name := range []string{"", "T"} {
		if at, is := kind.Find(nil, name); at != 0 || is {
			t.Error(at, is)
		}
	}
	if at, is := kind.Find(many(5000), "T4999"); at != 4999 || !is {
		t.Error(at, is)
	}
}

// P3.1: types of a list that can be, and texts that are none.
func TestIs(t *testing.T) {
	list := structsOf("T{next:*T n:int}; U{t:*T b:bool}; abcdefghijkl")
	for _, typ := range []string{"int", "bool", "*T", "*U", "*abcdefghijkl"} {
		if !kind.Is(list, typ) {
			t.Error(typ)
		}
	}
	for _, typ := range []string{
		"", "*", "**", "**T", "T", "U", "T*", "*t", "*V", "* T", " *T", "*T ", "Int", "int ", " int", "Bool", "*int", "*bool", "*if", "if",
		"*next", "*n", "n", "next", "*abcdefghijk", "*abcdefghijklm", "abcdefghijkl", "string", "nil", "*nil", "*TU", "*T*U", "\x00", "*\xff",
		"intbool", "int,bool", "*\n",
	} {
		if kind.Is(list, typ) {
			t.Errorf("%q", typ)
		}
	}
	for _, none := range [][]api.Struct{nil, {}} {
		if !kind.Is(none, "int") || !kind.Is(none, "bool") || kind.Is(none, "*T") || kind.Is(none, "*") || kind.Is(none, "") {
			t.Error("of no structs")
		}
	}
}

// P3.1: by the document's words, * and the name of one of them, whatever it is.
func TestIsWrongLists(t *testing.T) {
	for _, name := range wrongNames() {
		list := []api.Struct{{Name: "T"}, {Name: name, Fields: make([]api.Field, 20)}, {Name: "T"}}
		if !kind.Is(list, "*"+name) || !kind.Is(list, "*T") || !kind.Is(list, "int") {
			t.Errorf("%q", name)
		}
		if kind.Is(list, "**"+name+"x") || kind.Is(list, "T") || kind.Is(list, "") || kind.Is(list, "*"+name+"x") {
			t.Errorf("%q", name)
		}
	}
	if !kind.Is(many(13), "*T12") || kind.Is(many(13), "*T13") {
		t.Error("too many")
	}
}

// P3.2: lists that can be.
func TestCheckGood(t *testing.T) {
	for _, text := range []string{
		"T", "T{next:*T n:int b:bool}", "T{u:*U}; U{t:*T}", "T{u:*U}; U", "T; U; V{t:*T u:*U v:*V}", "a{a:*a}; b{a:*a}", "T{T:int}; U{T:*T}",
		"abcdefghijkl{abcdefghijkm:*abcdefghijkl}", "_{_:int}", "If{Int:int}", "T{u:*V}; U{v:*V}; V{u:*U}", "T{a:int A:int}; t",
	} {
		wantCheck(t, structsOf(text), 0, api.OK)
	}
	wantCheck(t, nil, 0, api.OK)
	wantCheck(t, []api.Struct{}, 0, api.OK)
	wantCheck(t, []api.Struct{{Name: "T", Fields: []api.Field{}}}, 0, api.OK)
}

// P3.2: 12 structs and 13; 8 fields and 9.
func TestCheckLimits(t *testing.T) {
	wantCheck(t, many(12), 0, api.OK)
	wantCheck(t, many(13), 0, api.ErrFull)
	wantCheck(t, make([]api.Struct, 13), 0, api.ErrFull)
	wantCheck(t, make([]api.Struct, 12), 0, api.ErrForm)
	wantCheck(t, many(5000), 0, api.ErrFull)
	for _, typ := range []string{"int", "*T11", "*T0"} {
		list := many(12)
		for i := range list {
			list[i].Fields = wide(8, typ)
		}
		wantCheck(t, list, 0, api.OK)
		for i := range list {
			wrong := copyOf(list)
			wrong[i].Fields = wide(9, typ)
			wantCheck(t, wrong, i, api.ErrFull)
			wrong[i].Fields = make([]api.Field, 9)
			wantCheck(t, wrong, i, api.ErrFull)
			wrong[i].Fields = wide(3000, typ)
			wantCheck(t, wrong, i, api.ErrFull)
		}
	}
}

// P3.2: names of 12 bytes and of 13, names that are no words, and keys.
func TestCheckNames(t *testing.T) {
	for _, name := range []string{"abcdefghijkl", "_23456789012", "a", "_"} {
		wantCheck(t, []api.Struct{{Name: "T"}, {Name: name}}, 0, api.OK)
		wantCheck(t, []api.Struct{{Name: "T"}, {Name: "U", Fields: []api.Field{{Name: name, Type: "int"}}}}, 0, api.OK)
	}
	for _, name := range wrongNames() {
		wantCheck(t, []api.Struct{{Name: name}}, 0, api.ErrForm)
		wantCheck(t, []api.Struct{{Name: "T"}, {Name: "U"}, {Name: name}, {Name: "V"}}, 2, api.ErrForm)
		wantCheck(t, []api.Struct{{Name: "T", Fields: []api.Field{{Name: name, Type: "int"}}}}, 0, api.ErrForm)
		wantCheck(t, []api.Struct{{Name: "T"}, {Name: "U", Fields: []api.Field{{Name: "n", Type: "int"}, {Name: name, Type: "int"}}}}, 1, api.ErrForm)
	}
}

// P3.2: names that are there already.
func TestCheckTwice(t *testing.T) {
	wantCheck(t, structsOf("T; T"), 1, api.ErrTwice)
	wantCheck(t, structsOf("T; U; V; U"), 3, api.ErrTwice)
	wantCheck(t, structsOf("T; U; T; U"), 2, api.ErrTwice)
	wantCheck(t, structsOf("T{a:int}; U{a:int b:int a:int}"), 1, api.ErrTwice)
	wantCheck(t, structsOf("T{a:int b:bool b:*T}"), 0, api.ErrTwice)
	list := many(12)
	list[11].Name = "T0"
	wantCheck(t, list, 11, api.ErrTwice)
	list = []api.Struct{{Name: "T", Fields: wide(8, "int")}}
	list[0].Fields[7].Name = "f0"
	wantCheck(t, list, 0, api.ErrTwice)
}

// P3.2: types that are none, and links to whoever isn't there.
func TestCheckTypes(t *testing.T) {
	for _, typ := range []string{"", "*", "**T", "*if", "*int", "T", "U", "Int", "*V", "*a", "a", "*T ", " *T", "T*", "*abcdefghijklm", "\x00", "*\x80"} {
		for place := range 3 {
			list := structsOf("T; U{a:int b:*T c:bool}; W{t:*T}")
			list[1].Fields[place].Type = typ
			wantCheck(t, list, 1, api.ErrType)
		}
	}
	wantCheck(t, structsOf("T{u:*U}"), 0, api.ErrType)
	wantCheck(t, structsOf("T{t:*T}; U{t:*T v:*V}; W"), 1, api.ErrType)
}

// P3.2: of lists that are wrong in several places the first in order counts.
func TestCheckOrder(t *testing.T) {
	for _, x := range []struct {
		text string
		at   int
		want api.Errno
	}{
		{"T{a:*V}; for", 0, api.ErrType},
		{"T; for; T", 1, api.ErrForm},
		{"T; T; for", 1, api.ErrTwice},
		{"for; for", 0, api.ErrForm},
		{"T{a:int a:int}; T", 0, api.ErrTwice},
		{"T{a:x for:int}", 0, api.ErrType},
		{"T{for:int a:x}", 0, api.ErrForm},
		{"T{for:x}", 0, api.ErrForm},
		{"T{a:int a:x}", 0, api.ErrTwice},
		{"T{a:x a:int}", 0, api.ErrType},
		{"T{for:int for:int}", 0, api.ErrForm},
		{"T{a:int a:int for:int}", 0, api.ErrTwice},
		{"T{a:int for:int a:int}", 0, api.ErrForm},
		{"T{u:*U}; U{b:x}; T", 1, api.ErrType},
		{"T{u:*U}; U; U{b:x}", 2, api.ErrTwice},
		{"for{a:int b:int c:int d:int e:int f:int g:int h:int i:int}", 0, api.ErrForm},
		{"T; T{a:int b:int c:int d:int e:int f:int g:int h:int i:int}", 1, api.ErrTwice},
		{"T{for:int b:int c:int d:int e:int f:int g:int h:int i:int}", 0, api.ErrFull},
		{"T{a:int a:int c:int d:int e:int f:int g:int h:int i:int}", 0, api.ErrFull},
		{"T{a:x b:int c:int d:int e:int f:int g:int h:int i:int}", 0, api.ErrFull},
		{"T{a:x}; U{a:int b:int c:int d:int e:int f:int g:int h:int i:int}", 0, api.ErrType},
		{"T{a:*for}; for", 1, api.ErrForm},
	} {
		wantCheck(t, structsOf(x.text), x.at, x.want)
	}
	wantCheck(t, append([]api.Struct{{Name: "for"}, {Name: "for"}}, many(11)...), 0, api.ErrFull)
}

// P3.3: the first field of a name, and names that no field has.
func TestPlace(t *testing.T) {
	s := api.Struct{Name: "T", Fields: fieldsOf("a:int b:*T a:bool c:x")}
	s.Fields = append(s.Fields, api.Field{}, api.Field{Name: "for"}, api.Field{Name: "for", Type: "int"})
	for name, want := range map[string]int{"a": 0, "b": 1, "c": 3, "": 4, "for": 5} {
		if place, is := kind.Place(s, name); place != want || !is {
			t.Errorf("Place %q = %d, %v", name, place, is)
		}
	}
	for _, name := range []string{"T", "A", "d", "int", "*T", "ab", " a"} {
		if place, is := kind.Place(s, name); place != 0 || is {
			t.Errorf("Place %q = %d, %v", name, place, is)
		}
	}
	for _, none := range []api.Struct{{}, {Name: "a"}, {Name: "a", Fields: []api.Field{}}} {
		for _, name := range []string{"", "a"} {
			if place, is := kind.Place(none, name); place != 0 || is {
				t.Error(place, is)
			}
		}
	}
	if place, is := kind.Place(api.Struct{Fields: wide(3000, "int")}, "f2999"); place != 2999 || !is {
		t.Error(place, is)
	}
}

// P3.3: all fields whose types Elem tells, whoever is there, and no others.
func TestLinks(t *testing.T) {
	for _, x := range []struct {
		text string
		want []int
	}{
		{"", nil}, {"a:int", nil}, {"a:*T", []int{0}}, {"a:int b:*T c:bool d:*T", []int{1, 3}}, {"a:*T b:*U c:*V", []int{0, 1, 2}},
		{"a: b:* c:**T d:*if e:T f:*T g:*9 h:*abcdefghijklm i:*abcdefghijkl j:*int", []int{5, 8}},
		{"a:*T a:*T for:*T :*T", []int{0, 1, 2, 3}},
	} {
		s := api.Struct{Name: "for", Fields: fieldsOf(x.text)}
		if got := kind.Links(s); !slices.Equal(got, x.want) {
			t.Errorf("Links of %q = %v, want %v", x.text, got, x.want)
		}
	}
	if got := kind.Links(api.Struct{Fields: wide(3000, "*Q")}); len(got) != 3000 || got[2999] != 2999 {
		t.Error(len(got))
	}
}

// P3.3: the document's example, and who leads to whom in other shapes.
func TestReach(t *testing.T) {
	two := structsOf("T{u:*U}; U{t:*T}")
	wantReach(t, two, "*U", "T", "U")
	wantReach(t, two, "*T", "T", "U")
	wantReach(t, structsOf("T{t:*T}"), "*T", "T")
	wantReach(t, structsOf("T"), "*T", "T")
	wantReach(t, structsOf("U; T; V"), "*T", "T")
	chain := structsOf("D{n:int}; C{d:*D}; B{b:bool c:*C}; A{b:*B}; E{a:*A e:*E}")
	wantReach(t, chain, "*D", "D")
	wantReach(t, chain, "*C", "D", "C")
	wantReach(t, chain, "*B", "D", "C", "B")
	wantReach(t, chain, "*A", "D", "C", "B", "A")
	wantReach(t, chain, "*E", "D", "C", "B", "A", "E")
	behind := structsOf("A{b:*B c:*C}; B{d:*D}; C; D; E{a:*A}")
	wantReach(t, behind, "*A", "A", "B", "C", "D")
	wantReach(t, behind, "*B", "B", "D")
	wantReach(t, behind, "*E", "A", "B", "C", "D", "E")
}

// P3.3: nothing of what is no *T, or isn't there.
func TestReachNothing(t *testing.T) {
	list := structsOf("T{u:*U n:int}; U{t:*T}")
	for _, typ := range []string{"", "*", "**T", "T", "int", "bool", "*int", "*if", "*V", "*t", "* T", "*T ", "T*", "n", "*n", "\x00", "*abcdefghijklm"} {
		wantReach(t, list, typ)
		wantReach(t, nil, typ)
	}
	wantReach(t, nil, "*T")
	wantReach(t, []api.Struct{}, "*T")
}

// P3.3: lists that are wrong: names that are there twice, links to nobody,
// names that are no words.
func TestReachWrongLists(t *testing.T) {
	twice := structsOf("A{t:*T}; T{u:*U}; U; T{v:*V}; V{a:*A}; T; U{v:*V}")
	wantReach(t, twice, "*T", "T", "U")
	wantReach(t, twice, "*A", "A", "T", "U")
	wantReach(t, twice, "*U", "U")
	wantReach(t, twice, "*V", "A", "T", "U", "V")
	wantReach(t, structsOf("T{a:*V b:*U c:*for d:* e:**U f:U g:int h: b:*W}; U; W"), "*T", "T", "U", "W")
	wantReach(t, structsOf("T{u:*U}; for{t:*T}; U{f:*for}; {t:*T}"), "*T", "T", "U")
	for _, name := range wrongNames() {
		wantReach(t, []api.Struct{{Name: name, Fields: fieldsOf("t:*T")}, {Name: "T"}}, "*"+name)
	}
	long := many(3000)
	for i := range long[1:] {
		long[i].Fields = []api.Field{{Name: "next", Type: "*T" + strconv.Itoa(i+1)}}
	}
	if got := kind.Reach(long, "*T0"); len(got) != 3000 || got[0] != "T0" || got[2999] != "T2999" {
		t.Error(len(got))
	}
	if got := kind.Reach(long, "*T2990"); len(got) != 10 || got[0] != "T2990" {
		t.Error(got)
	}
}

// P3.3: each name, each field's name and type, and the order count.
func TestSame(t *testing.T) {
	base := structsOf("T{a:int b:*T}; U{c:bool}; V")
	if !kind.Same(base, copyOf(base)) || !kind.Same(base, base) {
		t.Error("the same")
	}
	for _, text := range []string{
		"T{a:int b:*T}; U{c:bool}", "T{a:int b:*T}; U{c:bool}; V; V", "T{a:int b:*T}; V; U{c:bool}", "U{a:int b:*T}; U{c:bool}; V",
		"T{b:*T a:int}; U{c:bool}; V", "T{a:int}; U{c:bool}; V", "T{a:int b:*T}; U; V", "T{a:int b:*T}; U{c:bool}; V{c:bool}",
		"T{a:int b:*U}; U{c:bool}; V", "T{a:bool b:*T}; U{c:bool}; V", "T{x:int b:*T}; U{c:bool}; V", "T{a:int b:*T}; U{x:bool}; V",
		"T{a:int b:*T}; U{c:bool}; v", "T{a:int b:*T c:int}; U{c:bool}; V", "T{a:int b:*T}; U{c:int}; V", "",
	} {
		other := structsOf(text)
		if kind.Same(base, other) || kind.Same(other, base) {
			t.Error(text)
		}
	}
	if kind.Same(base, nil) || kind.Same(nil, base) || !kind.Same(nil, nil) || !kind.Same(nil, []api.Struct{}) {
		t.Error("nothing")
	}
	if !kind.Same([]api.Struct{{Name: "T"}}, []api.Struct{{Name: "T", Fields: []api.Field{}}}) {
		t.Error("no fields")
	}
	wrong := structsOf("for{:x :x}; for; ")
	if !kind.Same(wrong, copyOf(wrong)) || kind.Same(wrong, wrong[:2]) || kind.Same(make([]api.Struct, 20), make([]api.Struct, 21)) {
		t.Error("lists that are wrong")
	}
}

// hold checks all promises of a list, whatever is in it.
func hold(t *testing.T, list []api.Struct, types []string) {
	t.Helper()
	at, err := kind.Check(list)
	if wantAt, want := plainCheck(list); at != wantAt || err != want {
		t.Fatalf("Check(%v) = %d, %d; want %d, %d", list, at, err, wantAt, want)
	}
	for _, typ := range types {
		if kind.Is(list, typ) != isType(list, typ) {
			t.Fatalf("Is(%v, %q)", list, typ)
		}
		holdReach(t, list, typ)
	}
	if !kind.Same(list, copyOf(list)) {
		t.Fatal(list)
	}
}

// holdReach checks P3.3's Reach, and P3.4.
func holdReach(t *testing.T, list []api.Struct, typ string) {
	t.Helper()
	names := kind.Reach(list, typ)
	if want := plainReach(list, typ); !slices.Equal(names, want) {
		t.Fatalf("Reach(%v, %q) = %q, want %q", list, typ, names, want)
	}
	for _, name := range names {
		for _, other := range kind.Reach(list, kind.Pointer(name)) {
			if !slices.Contains(names, other) {
				t.Fatalf("Reach(%v, %q) has %q, and not %q", list, typ, name, other)
			}
		}
	}
}

// rows makes lists at random; chance says how often a name or a type is taken
// from those that are wrong.
type rows struct {
	random *rand.Rand
	chance int
}

func (r rows) pick(good, wrong []string) string {
	if r.random.Intn(100) < r.chance {
		return wrong[r.random.Intn(len(wrong))]
	}
	return good[r.random.Intn(len(good))]
}

func (r rows) list() []api.Struct {
	names := []string{"A", "B", "C", "D", "E", "F", "G", "H", "I", "J", "K", "L", "M", "N"}
	r.random.Shuffle(len(names), func(i, j int) { names[i], names[j] = names[j], names[i] })
	count := r.random.Intn(6)
	if r.random.Intn(10) == 0 {
		count = 11 + r.random.Intn(4)
	}
	types := []string{"int", "bool"}
	for _, name := range names[:min(count, len(names))] {
		types = append(types, "*"+name)
	}
	var list []api.Struct
	for i := range count {
		s := api.Struct{Name: r.pick(names[i:i+1], []string{"A", "B", "C", "for", "", "9", "*A", "abcdefghijklm"})}
		for k := range r.fieldCount() {
			name := r.pick([]string{"f" + strconv.Itoa(k)}, []string{"f0", "f1", "A", "if", "", "x y"})
			typ := r.pick(types, []string{"", "*", "**A", "A", "*for", "*A", "*B", "*M", "*9", "Int", "*int", "*abcdefghijklm"})
			s.Fields = append(s.Fields, api.Field{Name: name, Type: typ})
		}
		list = append(list, s)
	}
	return list
}

func (r rows) fieldCount() int {
	if r.random.Intn(20) == 0 {
		return 7 + r.random.Intn(3)
	}
	return r.random.Intn(4)
}

// P3.1 to P3.4: lists at random, right ones and wrong ones.
func TestAgainstPlain(t *testing.T) {
	types := []string{"", "*", "int", "bool", "A", "**A", "*for", "*if", "*9", "*abcdefghijklm"}
	for c := 'A'; c <= 'N'; c++ {
		types = append(types, "*"+string(c))
	}
	seen := map[api.Errno]int{}
	for _, chance := range []int{0, 2, 10, 40} {
		r := rows{rand.New(rand.NewSource(int64(chance))), chance}
		for range 4000 {
			list := r.list()
			kept := copyOf(list)
			hold(t, list, types)
			if !kind.Same(list, kept) {
				t.Fatal("changed", kept)
			}
			_, err := kind.Check(list)
			seen[err]++
		}
	}
	for _, err := range []api.Errno{api.OK, api.ErrForm, api.ErrTwice, api.ErrFull, api.ErrType} {
		if seen[err] < 100 {
			t.Error(err, seen[err])
		}
	}
}

// Rules 3 and 4: answers are new memory, and spare room is left alone.
func TestFresh(t *testing.T) {
	list := structsOf("T{u:*U n:int}; U{t:*T}; V{t:*T}")
	kept := copyOf(list)
	names := kind.Reach(list, "*V")
	links := kind.Links(list[0])
	names[0], links[0] = "changed", 77
	if !kind.Same(list, kept) {
		t.Error(list)
	}
	wantReach(t, list, "*V", "T", "U", "V")
	if got := kind.Links(list[0]); !slices.Equal(got, []int{0}) {
		t.Error(got)
	}
	part := list[:1]
	part[0].Fields = part[0].Fields[:1]
	kind.Check(part)
	wantReach(t, part, "*T", "T")
	if !kind.Same(list[1:], kept[1:]) || part[0].Fields[:2][1] != kept[0].Fields[1] {
		t.Error(list)
	}
}

func FuzzKind(f *testing.F) {
	f.Add("T{u:*U}; U{t:*T}", "*U")
	f.Add("T{a:int a:int}; for; T", "*T")
	f.Add("T{:* for:*for}; ; 9", "*")
	f.Fuzz(func(t *testing.T, text, typ string) {
		list := structsOf(text)
		hold(t, list, []string{typ})
		for _, s := range list {
			kind.Find(list, typ)
			kind.Place(s, typ)
			kind.Links(s)
			hold(t, list, []string{s.Name, kind.Pointer(s.Name)})
		}
	})
}
