package ir_test

import (
	"math"
	"reflect"
	"strconv"
	"strings"
	"testing"

	"truant/api"
	"truant/ir"
)

// eachPart goes to all numbers, texts and rows of a value, with how each is
// found; rows are gone through up to their ends, or, with their spare room.
func eachPart(v reflect.Value, path string, spare bool, see func(path string, part reflect.Value)) {
	switch v.Kind() {
	case reflect.Struct:
		for i := range v.NumField() {
			eachPart(v.Field(i), path+"."+v.Type().Field(i).Name, spare, see)
		}
		return
	case reflect.Slice:
		see(path, v)
		if spare {
			v = v.Slice(0, v.Cap())
		}
	case reflect.Array:
	default:
		see(path, v)
		return
	}
	for i := range v.Len() {
		eachPart(v.Index(i), path+"["+strconv.Itoa(i)+"]", spare, see)
	}
}

func partsOf(p *api.Prog, spare bool, see func(path string, part reflect.Value)) {
	eachPart(reflect.ValueOf(p).Elem(), "", spare, see)
}

// picture is all of a program by other means; with all, it also tells rows
// that are nil from those that are empty, and what is in their spare room.
func picture(p api.Prog, all bool) string {
	return partPicture(reflect.ValueOf(&p).Elem(), all)
}

func partPicture(v reflect.Value, all bool) string {
	var text strings.Builder
	eachPart(v, "", all, func(path string, part reflect.Value) {
		text.WriteString(path + " ")
		switch part.Kind() {
		case reflect.Slice:
			text.WriteString(strconv.Itoa(part.Len()))
			if all {
				text.WriteString(" " + strconv.Itoa(part.Cap()) + " " + strconv.FormatBool(part.IsNil()))
			}
		case reflect.String:
			text.WriteString(strconv.Quote(part.String()))
		default:
			text.WriteString(strconv.FormatInt(part.Int(), 10))
		}
		text.WriteString("\n")
	})
	return text.String()
}

// copyValue is the same in new memory, rows that are nil or empty as they are.
func copyValue(v reflect.Value) reflect.Value {
	other := reflect.New(v.Type()).Elem()
	other.Set(v)
	switch v.Kind() {
	case reflect.Struct:
		for i := range v.NumField() {
			other.Field(i).Set(copyValue(v.Field(i)))
		}
	case reflect.Slice:
		if v.IsNil() {
			return other
		}
		other.Set(reflect.MakeSlice(v.Type(), v.Len(), v.Len()))
		for i := range v.Len() {
			other.Index(i).Set(copyValue(v.Index(i)))
		}
	}
	return other
}

func copyOf(p api.Prog) api.Prog {
	return copyValue(reflect.ValueOf(p)).Interface().(api.Prog)
}

// otherValues are values a part could have instead, each unlike it.
func otherValues(part reflect.Value) []reflect.Value {
	var list []reflect.Value
	add := func(v any) { list = append(list, reflect.ValueOf(v).Convert(part.Type())) }
	switch part.Kind() {
	case reflect.Int:
		n := int(part.Int())
		for bit := range 64 {
			add(n ^ 1<<bit)
		}
		add(n + 1)
		add(n - 1)
		add(^n)
	case reflect.String:
		s := part.String()
		add(s + " ")
		add(" " + s)
		add(s + "x")
		add(s + "\x00")
		if s != "" {
			add("")
			add(s[1:])
			add(s[:len(s)-1])
			add(string(s[0]^32) + s[1:])
		}
	case reflect.Slice:
		list = otherRows(part)
	}
	return list
}

func otherRows(row reflect.Value) []reflect.Value {
	blank := reflect.Zero(row.Type().Elem())
	fresh := func() reflect.Value { return copyValue(row) }
	list := []reflect.Value{reflect.Append(fresh(), blank)}
	length := row.Len()
	if length == 0 {
		return list
	}
	list = append(list,
		reflect.Zero(row.Type()),
		fresh().Slice(1, length),
		fresh().Slice(0, length-1),
		reflect.Append(fresh(), copyValue(row.Index(length-1))),
		reflect.AppendSlice(reflect.Append(reflect.Zero(row.Type()), blank), fresh()),
	)
	for i := 1; i < length; i++ {
		if partPicture(row.Index(i), false) != partPicture(row.Index(i-1), false) {
			swapped := fresh()
			reflect.Swapper(swapped.Interface())(i, i-1)
			list = append(list, swapped)
		}
	}
	return list
}

// eachChange changes one place of a program at a time, in so many ways at
// most, says so, and changes it back.
func eachChange(p *api.Prog, most int, see func(path string)) {
	partsOf(p, false, func(path string, part reflect.Value) {
		first := reflect.New(part.Type()).Elem()
		first.Set(part)
		others := otherValues(part)
		for _, other := range others[:min(most, len(others))] {
			part.Set(other)
			see(path)
		}
		part.Set(first)
	})
}

// fullProg has something in each place that a program has, nothing but
// unlike texts and numbers, and rows of several.
func fullProg() api.Prog {
	ins := func(n int) api.Ins {
		return api.Ins{Op: n, Type: "t" + strconv.Itoa(n), Args: []int{n + 1, -n}, N: n * n, Name: "n" + strconv.Itoa(n)}
	}
	fun := func(name string) api.Fun {
		return api.Fun{
			Name: name, Params: []string{name + "p", "int"}, Result: name + "r", Slots: []string{name + "s", "bool"},
			Ins: []api.Ins{ins(3), ins(24), ins(31)},
			Blocks: []api.Block{
				{List: []int{2, 0, 1}, Jump: 2, Arg: 5, To: [2]int{6, 7}},
				{List: []int{1}, Jump: 9, Arg: -1, To: [2]int{8, 10}},
			},
		}
	}
	return api.Prog{
		Structs: []api.Struct{
			{Name: "T", Fields: []api.Field{{Name: "a", Type: "int"}, {Name: "b", Type: "*T"}}},
			{Name: "U", Fields: []api.Field{{Name: "c", Type: "bool"}}},
		},
		Globals: []api.Field{{Name: "g", Type: "*T"}, {Name: "h", Type: "*U"}},
		Funs:    []api.Fun{fun("f"), fun("main")},
	}
}

// oddProg is such as nobody would make.
func oddProg() api.Prog {
	return api.Prog{
		Structs: []api.Struct{{}, {Name: " ", Fields: []api.Field{{}, {Name: "*", Type: "\n"}}}, {Name: " ", Fields: []api.Field{}}},
		Globals: []api.Field{{}, {}, {Name: "\xff", Type: "**"}},
		Funs: []api.Fun{
			{},
			{Params: []string{""}, Slots: []string{"", " "}, Ins: []api.Ins{{}, {Op: 19, Args: []int{}}}, Blocks: []api.Block{{}, {List: []int{}}}},
			{
				Name: "main", Params: []string{}, Slots: []string{}, Result: "a b",
				Ins:    []api.Ins{{Op: math.MinInt, Args: []int{math.MaxInt, math.MinInt}, N: math.MaxInt}, {Op: 35, Type: " "}, {Op: 34, Args: []int{-1, -1}}},
				Blocks: []api.Block{{List: []int{-1, 0, 0, 3, math.MaxInt}, Jump: -1, Arg: math.MinInt, To: [2]int{-5, math.MaxInt}}},
			},
			{Ins: []api.Ins{}, Blocks: []api.Block{}},
		},
	}
}

func programs() map[string]api.Prog {
	return map[string]api.Prog{
		"none": {}, "empty": {Structs: []api.Struct{}, Globals: []api.Field{}, Funs: []api.Fun{}},
		"list": listProg(), "full": fullProg(), "odd": oddProg(),
	}
}

func TestSameOfTheSame(t *testing.T) {
	for name, p := range programs() {
		if !ir.Same(p, p) || !ir.Same(p, copyOf(p)) || !ir.Same(copyOf(p), p) {
			t.Errorf("%s isn't the same as itself", name)
		}
		for other, q := range programs() {
			want := name == other || name+other == "noneempty" || name+other == "emptynone"
			if ir.Same(p, q) != want {
				t.Errorf("Same of %s and %s is %v", name, other, !want)
			}
		}
	}
}

func TestSameTellsEachChange(t *testing.T) {
	for name, p := range programs() {
		q, count := copyOf(p), 0
		eachChange(&q, math.MaxInt, func(path string) {
			count++
			if ir.Same(p, q) || ir.Same(q, p) {
				t.Errorf("%s: the same, but for %s", name, path)
			}
		})
		if !ir.Same(p, q) || count < 3 {
			t.Errorf("%s: %d changes, and %v", name, count, ir.Same(p, q))
		}
	}
}

// TestSameOfRowsThatHoldNothing: nil and empty are the same, in each place.
func TestSameOfRowsThatHoldNothing(t *testing.T) {
	for name, p := range programs() {
		q, count := copyOf(p), 0
		partsOf(&q, false, func(path string, part reflect.Value) {
			if part.Kind() != reflect.Slice || part.Len() > 0 {
				return
			}
			count++
			for _, row := range []reflect.Value{reflect.Zero(part.Type()), reflect.MakeSlice(part.Type(), 0, 0), reflect.MakeSlice(part.Type(), 0, 5)} {
				part.Set(row)
				if !ir.Same(p, q) || !ir.Same(q, p) {
					t.Errorf("%s: not the same for %s", name, path)
				}
			}
		})
		if count == 0 && name != "full" {
			t.Errorf("%s has no such row", name)
		}
	}
}

// TestSameLooksNotBehindRows: what is in the spare room plays no part.
func TestSameLooksNotBehindRows(t *testing.T) {
	p, q := fullProg(), fullProg()
	q.Funs = append(q.Funs, api.Fun{Name: "more"})[:len(p.Funs)]
	q.Funs[0].Ins[0].Args = append(q.Funs[0].Ins[0].Args, 7)[:2]
	q.Structs[0].Fields = append(q.Structs[0].Fields, api.Field{Name: "more"})[:2]
	if !ir.Same(p, q) || !ir.Same(q, p) {
		t.Error("not the same")
	}
}

// roomy is a program whose rows have spare room with something in it, and
// whose rows share their memory with one another.
func roomy() api.Prog {
	numbers := []int{0, 1, 2, 3, 4, 5, 6, 7}
	texts := []string{"int", "bool", "*T", "*T", "more"}
	fields := []api.Field{{Name: "a", Type: "int"}, {Name: "b", Type: "*T"}, {Name: "c", Type: "bool"}}
	ins := []api.Ins{
		{Op: api.Add, Type: "int", Args: numbers[:2]}, {Op: api.Phi, Type: "int", Args: numbers[1:4]},
		{Op: api.Nil, Args: numbers[:0]}, {Op: api.Read, Args: numbers},
	}
	blocks := []api.Block{{List: numbers[:3], Jump: api.Goto, Arg: -1, To: [2]int{1, 0}}, {List: numbers[2:6:7], Jump: api.Ret}, {List: numbers}}
	fun := api.Fun{Name: "f", Params: texts[:2], Slots: texts[1:4], Ins: ins[:3], Blocks: blocks[:2]}
	structs := []api.Struct{{Name: "T", Fields: fields[:2]}, {Name: "U", Fields: fields[1:2]}, {Name: "V", Fields: fields[:0]}, {Name: "W", Fields: fields}}
	return api.Prog{Structs: structs[:3], Globals: fields[:1], Funs: []api.Fun{fun, fun, {Name: "main", Ins: ins[1:2]}, fun}[:3]}
}

// room is the memory of a row, from its first byte to behind its last, its
// spare room too.
type room struct {
	path     string
	from, to uintptr
}

func roomsOf(p *api.Prog, side string) []room {
	var list []room
	partsOf(p, false, func(path string, part reflect.Value) {
		if part.Kind() != reflect.Slice || part.Cap() == 0 {
			return
		}
		from := part.Pointer()
		list = append(list, room{side + path, from, from + uintptr(part.Cap())*part.Type().Elem().Size()})
	})
	return list
}

func TestCloneIsNewMemory(t *testing.T) {
	all := programs()
	all["roomy"] = roomy()
	for name, p := range all {
		q := ir.Clone(p)
		mine, its := roomsOf(&p, "old"), roomsOf(&q, "new")
		for i, a := range its {
			for _, b := range append(mine, its[:i]...) {
				if a.from < b.to && b.from < a.to {
					t.Errorf("%s: %s shares memory with %s", name, a.path, b.path)
				}
			}
		}
	}
}

// TestCloneOfEmptyRows: a row without any length has spare room of its own,
// if it has some.
func TestCloneOfEmptyRows(t *testing.T) {
	args := make([]int, 0, 8)
	p := api.Prog{Funs: []api.Fun{{Ins: []api.Ins{{Op: api.Read, Args: args}}}}}
	other := append(ir.Clone(p).Funs[0].Ins[0].Args, 5)
	if args[:1][0] != 0 || other[0] != 5 {
		t.Error("what is put behind it is put there")
	}
}

func TestCloneIsTheSame(t *testing.T) {
	all := programs()
	all["roomy"] = roomy()
	for name, p := range all {
		q := ir.Clone(p)
		if !ir.Same(p, q) || !ir.Same(q, p) || picture(p, false) != picture(q, false) {
			t.Errorf("%s: the clone isn't the same", name)
		}
		if !reflect.DeepEqual(ir.Lines(p), ir.Lines(q)) {
			t.Errorf("%s: the clone's lines aren't", name)
		}
	}
}

func TestCloneStaysAndLeaves(t *testing.T) {
	all := programs()
	all["roomy"] = roomy()
	for name, p := range all {
		q := ir.Clone(p)
		first, second := picture(p, true), picture(q, true)
		eachChange(&q, 1, func(path string) {
			if picture(p, true) != first {
				t.Fatalf("%s: a change of the clone's %s is seen in what it was made of", name, path)
			}
		})
		eachChange(&p, 1, func(path string) {
			if picture(q, true) != second {
				t.Fatalf("%s: a change of %s is seen in the clone", name, path)
			}
		})
	}
}

func TestNothingIsChanged(t *testing.T) {
	all := programs()
	all["roomy"] = roomy()
	for name, p := range all {
		first := picture(p, true)
		for _, f := range p.Funs {
			for place := -2; place < len(f.Ins)+2; place++ {
				ir.Uses(f, place)
				ir.Line(f, place)
			}
		}
		ir.Lines(p)
		ir.Same(p, fullProg())
		ir.Same(p, p)
		ir.Clone(p)
		if picture(p, true) != first {
			t.Errorf("%s was changed", name)
		}
	}
}
