package heap_test

import (
	"math"
	"slices"
	"strconv"
	"strings"
	"testing"

	"truant/api"
	"truant/heap"
)

const most = 1 << 17

// structsOf reads structs as name{fields}, with semicolons between, and
// fields as name:type, with blanks between.
func structsOf(text string) []api.Struct {
	var list []api.Struct
	for _, part := range strings.Split(text, ";") {
		name, rest, _ := strings.Cut(strings.TrimSpace(part), "{")
		s := api.Struct{Name: name}
		for _, pair := range strings.Fields(strings.TrimSuffix(rest, "}")) {
			field, typ, _ := strings.Cut(pair, ":")
			s.Fields = append(s.Fields, api.Field{Name: field, Type: typ})
		}
		list = append(list, s)
	}
	return list
}

// common has links to its own struct and to others, fields that are none
// between them, and a struct without fields.
const common = "T{n:int a:*T b:*U}; U{t:*T}; E; W{a:*W b:*E n:int c:*T d:*W f:bool e:*U g:*W}"

// made is a heap of these structs with objects of these names.
func made(t *testing.T, text string, names ...string) *heap.Heap {
	t.Helper()
	h := heap.New(structsOf(text))
	if h == nil {
		t.Fatal("no heap of", text)
	}
	for i, name := range names {
		if obj, err := h.Make(name); obj != i+1 || err != api.OK {
			t.Fatalf("Make(%q) = %d, %d; want %d", name, obj, err, i+1)
		}
	}
	return h
}

func put(t *testing.T, h *heap.Heap, obj, field, n int) {
	t.Helper()
	if err := h.Set(obj, field, n); err != api.OK {
		t.Errorf("Set(%d, %d, %d) = %d", obj, field, n, err)
	}
}

func wantGet(t *testing.T, h *heap.Heap, obj, field, want int) {
	t.Helper()
	if n, err := h.Get(obj, field); n != want || err != api.OK {
		t.Errorf("Get(%d, %d) = %d, %d; want %d", obj, field, n, err, want)
	}
}

// wantErr asks Get and Set, and that Set changed nobody.
func wantErr(t *testing.T, h *heap.Heap, obj, field int, want api.Errno) {
	t.Helper()
	if n, err := h.Get(obj, field); n != 0 || err != want {
		t.Errorf("Get(%d, %d) = %d, %d; want 0, %d", obj, field, n, err, want)
	}
	ahead := picture(h)
	if err := h.Set(obj, field, 7); err != want {
		t.Errorf("Set(%d, %d, 7) = %d, want %d", obj, field, err, want)
	}
	if !slices.Equal(picture(h), ahead) {
		t.Errorf("Set(%d, %d, 7) changed something", obj, field)
	}
}

func wantMake(t *testing.T, h *heap.Heap, name string, want int, wantErr api.Errno) {
	t.Helper()
	if obj, err := h.Make(name); obj != want || err != wantErr {
		t.Errorf("Make(%q) = %d, %d; want %d, %d", name, obj, err, want, wantErr)
	}
}

func wantNear(t *testing.T, h *heap.Heap, obj int, want ...int) {
	t.Helper()
	if near := h.Near(obj); !slices.Equal(near, want) {
		t.Errorf("Near(%d) = %v, want %v", obj, near, want)
	}
}

func wantReach(t *testing.T, h *heap.Heap, roots []int, want ...int) {
	t.Helper()
	if all := h.Reach(roots); !slices.Equal(all, want) {
		t.Errorf("Reach(%v) = %v, want %v", roots, all, want)
	}
}

// picture is all that a heap tells of its objects, and of those beside them.
func picture(h *heap.Heap) []string {
	list := []string{strconv.Itoa(h.Len())}
	for obj := -1; obj <= h.Len()+1; obj++ {
		list = append(list, strconv.Itoa(obj)+" "+h.Of(obj))
		for field := -1; field <= 9; field++ {
			n, err := h.Get(obj, field)
			list = append(list, strconv.Itoa(n)+" "+strconv.Itoa(int(err)))
		}
		for _, n := range append(h.Near(obj), h.Reach([]int{obj})...) {
			list = append(list, strconv.Itoa(n))
		}
	}
	return list
}

// wideTypes are so many fields, each of that type.
func wideTypes(count int, typ string) []api.Field {
	var list []api.Field
	for i := range count {
		list = append(list, api.Field{Name: "f" + strconv.Itoa(i), Type: typ})
	}
	return list
}

// P6.1: a heap of structs that can be has no objects.
func TestNewGood(t *testing.T) {
	full := make([]api.Struct, api.MaxStructs)
	for i := range full {
		full[i] = api.Struct{Name: "T" + strconv.Itoa(i), Fields: wideTypes(api.MaxFields, "*T11")}
	}
	for _, list := range [][]api.Struct{nil, {}, structsOf("T"), structsOf(common), structsOf("a{a:*a}"), structsOf("A{b:*B}; B{a:*A}"), full} {
		h := heap.New(list)
		if h == nil {
			t.Fatal(list)
		}
		if h.Len() != 0 || h.Of(1) != "" || len(h.Near(1)) != 0 || len(h.Reach([]int{0, 1, 2, -1})) != 0 || len(h.Reach(nil)) != 0 {
			t.Error("something is there at first", list)
		}
		wantErr(t, h, 0, 0, api.ErrNil)
		wantErr(t, h, 1, 0, api.ErrNone)
		wantErr(t, h, -1, 0, api.ErrNone)
		for i, s := range list {
			wantMake(t, h, s.Name, i+1, api.OK)
		}
		if h.Len() != len(list) {
			t.Error(h.Len(), list)
		}
	}
}

// P6.1: structs that can't be.
func TestNewWrong(t *testing.T) {
	many := make([]api.Struct, api.MaxStructs+1)
	for i := range many {
		many[i].Name = "T" + strconv.Itoa(i)
	}
	lists := [][]api.Struct{many, make([]api.Struct, 1), {{Name: "T", Fields: wideTypes(api.MaxFields+1, "int")}}, {{Name: "T", Fields: make([]api.Field, 1)}}}
	for _, text := range []string{
		"", "9", "for", "int", "abcdefghijklm", "*T", "T; T", "T; U; T", "T{9:int}", "T{new:int}", "T{a:int a:int}", "T{a:int b:bool a:*T}",
		"T{a:T}", "T{a:*U}", "T{a:}", "T{a:string}", "T{a:**T}", "T{a:*}", "T{a:*int}", "T; U{t:*T v:*V}", "T{a:int}; U{u:u}",
	} {
		lists = append(lists, structsOf(text))
	}
	for _, list := range lists {
		if heap.New(list) != nil {
			t.Error(list)
		}
	}
}

// P6.1, P6.2: the next number, whatever struct; fields are 0 at first.
func TestMake(t *testing.T) {
	names := []string{"T", "U", "E", "W", "W", "E", "U", "T", "T"}
	widths := map[string]int{"T": 3, "U": 1, "E": 0, "W": 8}
	h := made(t, common, names...)
	if h.Len() != len(names) {
		t.Error(h.Len())
	}
	for i, name := range names {
		if h.Of(i+1) != name {
			t.Errorf("Of(%d) = %q, want %q", i+1, h.Of(i+1), name)
		}
		for field := range widths[name] {
			wantGet(t, h, i+1, field, 0)
		}
		wantErr(t, h, i+1, widths[name], api.ErrRange)
		wantNear(t, h, i+1)
		wantReach(t, h, []int{i + 1}, i+1)
	}
}

// P6.1: names that no struct has; nothing is made then.
func TestMakeNone(t *testing.T) {
	h := made(t, common, "T")
	for i, name := range []string{"", "V", "t", "*T", "T ", " T", "TU", "n", "a", "int", "bool", "T{n:int a:*T b:*U}", "\x00", "\xff", strings.Repeat("T", 5000)} {
		wantMake(t, h, name, 0, api.ErrNone)
		if h.Len() != i+1 {
			t.Errorf("%q: %d", name, h.Len())
		}
		wantMake(t, h, "U", i+2, api.OK)
	}
	for _, list := range [][]api.Struct{nil, {}} {
		none := heap.New(list)
		for _, name := range []string{"", "T", "int"} {
			wantMake(t, none, name, 0, api.ErrNone)
		}
		if none.Len() != 0 {
			t.Error(none.Len())
		}
	}
}

// P6.1: 2^17 objects, and one more.
func TestMakeFull(t *testing.T) {
	h := heap.New(structsOf(common))
	names := []string{"T", "U", "E", "W"}
	for i := range most {
		if obj, err := h.Make(names[i%4]); obj != i+1 || err != api.OK {
			t.Fatal(i, obj, err)
		}
	}
	for range 3 {
		for _, name := range names {
			wantMake(t, h, name, 0, api.ErrFull)
		}
		wantMake(t, h, "V", 0, api.ErrNone)
		wantMake(t, h, "", 0, api.ErrNone)
	}
	if h.Len() != most || h.Of(most) != "W" || h.Of(most+1) != "" {
		t.Error(h.Len(), h.Of(most), h.Of(most+1))
	}
	if _, err := h.Get(most+1, 0); err != api.ErrNone {
		t.Error(err)
	}
	put(t, h, most, 0, most)
	put(t, h, most, 1, most+1)
	put(t, h, most, 7, 1)
	put(t, h, 1, 1, most-3)
	wantGet(t, h, most, 0, most)
	wantNear(t, h, most, 1, most)
	wantReach(t, h, []int{most}, 1, most-3, most)
	c := h.Clone()
	wantMake(t, c, "T", 0, api.ErrFull)
	wantReach(t, c, []int{most}, 1, most-3, most)
}

// P6.1, P6.3: each field of each object holds what was set last, to the ends
// of numbers; whatever its type is.
func TestSetGet(t *testing.T) {
	h := made(t, common, "T", "W", "U", "E", "T", "W")
	widths := []int{3, 8, 1, 0, 3, 8}
	for _, n := range []int{1, -1, 0, 5, 7, math.MaxInt, math.MinInt, 1 << 32, -1 << 40, 0} {
		for i, width := range widths {
			for field := range width {
				put(t, h, i+1, field, n)
				wantGet(t, h, i+1, field, n)
			}
		}
	}
	for i, width := range widths {
		for field := range width {
			put(t, h, i+1, field, 100*(i+1)+field)
		}
	}
	for i, width := range widths {
		for field := range width {
			wantGet(t, h, i+1, field, 100*(i+1)+field)
			wantGet(t, h, i+1, field, 100*(i+1)+field)
		}
	}
}

// P6.3: nobody else changes when a field is set, nor when an object is made.
func TestNobodyElse(t *testing.T) {
	h := made(t, common, "T", "W", "U", "E", "T", "W")
	widths := []int{3, 8, 1, 0, 3, 8}
	same := func(but, field int) {
		t.Helper()
		for i, width := range widths {
			for other := range width {
				if i != but || other != field {
					wantGet(t, h, i+1, other, 10*i+other)
				}
			}
		}
	}
	for i, width := range widths {
		for field := range width {
			put(t, h, i+1, field, 10*i+field)
		}
	}
	for i, width := range widths {
		for field := range width {
			put(t, h, i+1, field, -5)
			same(i, field)
			put(t, h, i+1, field, 10*i+field)
			same(-1, 0)
		}
	}
	for range 200 {
		h.Make("W")
		h.Make("V")
	}
	same(-1, 0)
}

// P6.1: places of fields: 0, the last one, one behind it, below 0, and far away.
func TestFieldEdges(t *testing.T) {
	h := made(t, common, "T", "U", "E", "W")
	for i, width := range []int{3, 1, 0, 8} {
		for field := range width {
			put(t, h, i+1, field, field+1)
			wantGet(t, h, i+1, field, field+1)
		}
		for _, field := range []int{width, width + 1, 8, 9, 1 << 20, math.MaxInt, -1, -2, -8, math.MinInt} {
			wantErr(t, h, i+1, field, api.ErrRange)
		}
	}
}

// P6.1: object 0 is ErrNil, one that isn't there ErrNone, both ahead of a wrong field.
func TestObjectEdges(t *testing.T) {
	for _, count := range []int{0, 1, 3, 40} {
		h := heap.New(structsOf(common))
		for range count {
			h.Make("U")
		}
		for _, field := range []int{0, 1, 2, -1, 8, math.MaxInt, math.MinInt} {
			wantErr(t, h, 0, field, api.ErrNil)
			for _, obj := range []int{count + 1, count + 2, most, most + 1, math.MaxInt, -1, -2, -count, math.MinInt, 1 << 32, 1<<32 + 1} {
				if obj != 0 {
					wantErr(t, h, obj, field, api.ErrNone)
				}
			}
		}
		for _, obj := range []int{0, count + 1, -1, -count, math.MaxInt, math.MinInt, 1<<32 + 1} {
			if h.Of(obj) != "" {
				t.Errorf("Of(%d) = %q", obj, h.Of(obj))
			}
			wantNear(t, h, obj)
			wantReach(t, h, []int{obj})
		}
	}
}

// P6.2: links of several fields: rising, each once, 0 and strangers not.
func TestNear(t *testing.T) {
	h := made(t, common, "W", "E", "T", "W", "U", "W")
	put(t, h, 1, 0, 6)
	put(t, h, 1, 1, 2)
	put(t, h, 1, 3, 3)
	put(t, h, 1, 4, 4)
	put(t, h, 1, 6, 5)
	put(t, h, 1, 7, 4)
	wantNear(t, h, 1, 2, 3, 4, 5, 6)
	put(t, h, 1, 0, 4)
	wantNear(t, h, 1, 2, 3, 4, 5)
	put(t, h, 1, 7, 1)
	wantNear(t, h, 1, 1, 2, 3, 4, 5)
	put(t, h, 1, 4, 0)
	put(t, h, 1, 0, 0)
	wantNear(t, h, 1, 1, 2, 3, 5)
	for field := range 8 {
		put(t, h, 1, field, 6)
	}
	wantNear(t, h, 1, 6)
	for field := range 8 {
		put(t, h, 1, field, 0)
	}
	wantNear(t, h, 1)
	for field, n := range []int{6, 5, 0, 4, 3, 0, 2, 1} {
		put(t, h, 1, field, n)
	}
	wantNear(t, h, 1, 1, 2, 3, 4, 5, 6)
	for obj := 2; obj <= 6; obj++ {
		wantNear(t, h, obj)
	}
}

// P6.2: a field that is no link leads to nobody, whatever it holds.
func TestNearNoLink(t *testing.T) {
	h := made(t, common, "W", "T", "T")
	put(t, h, 1, 2, 2)
	put(t, h, 1, 5, 3)
	put(t, h, 2, 0, 3)
	wantNear(t, h, 1)
	wantNear(t, h, 2)
	wantReach(t, h, []int{1}, 1)
	wantReach(t, h, []int{2, 1}, 1, 2)
	put(t, h, 1, 3, 3)
	wantNear(t, h, 1, 3)
	wantReach(t, h, []int{1}, 1, 3)
	flat := made(t, "P{a:int b:bool}", "P", "P")
	put(t, flat, 1, 0, 2)
	put(t, flat, 1, 1, 1)
	wantNear(t, flat, 1)
	wantReach(t, flat, []int{1}, 1)
}

// P6.2: a link that holds a number which is no object leads to nobody, till
// there is such an object.
func TestNearNotThere(t *testing.T) {
	h := made(t, common, "U", "U")
	for _, n := range []int{0, 3, 4, most, most + 1, math.MaxInt, -1, -2, math.MinInt, 1<<32 + 1} {
		put(t, h, 1, 0, n)
		wantGet(t, h, 1, 0, n)
		wantNear(t, h, 1)
		wantReach(t, h, []int{1}, 1)
	}
	put(t, h, 1, 0, 3)
	wantMake(t, h, "T", 3, api.OK)
	wantNear(t, h, 1, 3)
	wantReach(t, h, []int{1}, 1, 3)
	put(t, h, 3, 2, 4)
	wantReach(t, h, []int{1}, 1, 3)
	wantMake(t, h, "E", 4, api.OK)
	wantReach(t, h, []int{1}, 1, 3, 4)
}

// P6.2: what a link holds counts, of whatever struct that is.
func TestNearOtherStruct(t *testing.T) {
	h := made(t, common, "T", "U", "E", "W")
	put(t, h, 1, 1, 3)
	put(t, h, 1, 2, 4)
	wantNear(t, h, 1, 3, 4)
	put(t, h, 2, 0, 2)
	wantNear(t, h, 2, 2)
	put(t, h, 4, 0, 1)
	wantReach(t, h, []int{1}, 1, 3, 4)
}

// P6.2: the example; an object that leads to itself, by one link and by all.
func TestItself(t *testing.T) {
	h := made(t, common, "U", "W")
	put(t, h, 1, 0, 1)
	wantNear(t, h, 1, 1)
	wantReach(t, h, []int{1}, 1)
	for field := range 8 {
		put(t, h, 2, field, 2)
	}
	wantNear(t, h, 2, 2)
	wantReach(t, h, []int{2}, 2)
	wantReach(t, h, []int{2, 1, 2}, 1, 2)
}

// P6.2: a chain upwards and downwards, from each of its objects on, and cut.
func TestReachChain(t *testing.T) {
	const count = 9
	up, down := heap.New(structsOf(common)), heap.New(structsOf(common))
	for i := range count {
		up.Make([]string{"T", "U"}[i%2])
		down.Make("U")
	}
	for obj := 1; obj < count; obj++ {
		put(t, up, obj, []int{0, 2}[obj%2], obj+1)
		put(t, down, obj+1, 0, obj)
	}
	for from := 1; from <= count; from++ {
		var above, below []int
		for obj := 1; obj <= count; obj++ {
			if obj >= from {
				above = append(above, obj)
			}
			if obj <= from {
				below = append(below, obj)
			}
		}
		wantReach(t, up, []int{from}, above...)
		wantReach(t, down, []int{from}, below...)
	}
	put(t, up, 5, 2, 0)
	wantReach(t, up, []int{3}, 3, 4, 5)
	wantReach(t, up, []int{8, 3}, 3, 4, 5, 8, 9)
	put(t, down, 5, 0, 2)
	wantReach(t, down, []int{7}, 1, 2, 5, 6, 7)
}

// P6.2: a ring is reached from each of its objects; who leads there isn't.
func TestReachRing(t *testing.T) {
	h := made(t, common, "U", "U", "U", "U", "U")
	for obj, next := range map[int]int{4: 2, 2: 5, 5: 4, 1: 5} {
		put(t, h, obj, 0, next)
	}
	for _, root := range []int{2, 4, 5} {
		wantReach(t, h, []int{root}, 2, 4, 5)
	}
	wantReach(t, h, []int{1}, 1, 2, 4, 5)
	wantReach(t, h, []int{3}, 3)
	wantReach(t, h, []int{3, 1}, 1, 2, 3, 4, 5)
}

// P6.2: two that share one; roots twice, in any order, that are 0, and that aren't there.
func TestReachRoots(t *testing.T) {
	h := made(t, common, "U", "T", "U", "T", "E")
	put(t, h, 1, 0, 4)
	put(t, h, 3, 0, 4)
	put(t, h, 4, 2, 5)
	for _, roots := range [][]int{{1, 3}, {3, 1}, {3, 3, 1, 1}, {5, 4, 3, 1}, {0, 1, 0, 3}, {1, 99, -1, 3}, {math.MinInt, 3, math.MaxInt, 1, 6}, {4, 1, 5, 4, 3}} {
		wantReach(t, h, roots, 1, 3, 4, 5)
	}
	wantReach(t, h, []int{1}, 1, 4, 5)
	wantReach(t, h, []int{3}, 3, 4, 5)
	wantReach(t, h, []int{2}, 2)
	wantReach(t, h, []int{5, 2, 5}, 2, 5)
	for _, roots := range [][]int{nil, {}, {0}, {0, 0}, {6}, {-1}, {-4, 6, 0, most, most + 1, math.MinInt, math.MaxInt}} {
		wantReach(t, h, roots)
	}
}

// P6.2: as many objects as can be, in a row and in a ring, and as many roots.
func TestReachFull(t *testing.T) {
	h := heap.New(structsOf("U{t:*U}"))
	var all []int
	for i := range most {
		h.Make("U")
		all = append(all, i+1)
		put(t, h, i+1, 0, i+2)
	}
	same := func(roots, want []int) {
		t.Helper()
		if !slices.Equal(h.Reach(roots), want) {
			t.Error("of", len(roots), "roots")
		}
	}
	same([]int{1}, all)
	same([]int{most / 2}, all[most/2-1:])
	put(t, h, most, 0, 1)
	same([]int{most}, all)
	same([]int{77}, all)
	same(append(slices.Clone(all), all...), all)
}

// P6.2: a clone has all the same, and neither sees what is done to the other.
func TestClone(t *testing.T) {
	h := made(t, common, "T", "U", "W", "E")
	put(t, h, 1, 2, 2)
	put(t, h, 2, 0, 3)
	put(t, h, 3, 7, 3)
	put(t, h, 1, 0, -9)
	first := picture(h)
	c := h.Clone()
	if c == h || !slices.Equal(picture(c), first) {
		t.Error("the clone isn't the same, or is no other")
	}
	put(t, c, 2, 0, 4)
	put(t, c, 1, 0, 8)
	wantMake(t, c, "W", 5, api.OK)
	put(t, c, 5, 0, 1)
	if !slices.Equal(picture(h), first) {
		t.Error("a change of the clone shows")
	}
	second := picture(c)
	wantMake(t, h, "U", 5, api.OK)
	wantMake(t, h, "E", 6, api.OK)
	put(t, h, 1, 2, 6)
	put(t, h, 3, 7, 1)
	put(t, h, 5, 0, 5)
	if !slices.Equal(picture(c), second) {
		t.Error("a change shows in the clone")
	}
	if c.Of(5) != "W" || h.Of(5) != "U" || c.Len() != 5 || h.Len() != 6 {
		t.Error(c.Of(5), h.Of(5), c.Len(), h.Len())
	}
	wantReach(t, c, []int{1}, 1, 2, 4)
	wantReach(t, h, []int{1}, 1, 6)
	wantMake(t, c, "V", 0, api.ErrNone)
	wantErr(t, c, 0, 0, api.ErrNil)
	wantErr(t, c, 6, 0, api.ErrNone)
	wantErr(t, c, 5, 8, api.ErrRange)
}

// P6.2: a clone of a heap without objects, and clones of clones.
func TestCloneOften(t *testing.T) {
	h := heap.New(structsOf(common))
	c := h.Clone()
	wantMake(t, c, "U", 1, api.OK)
	if h.Len() != 0 || c.Len() != 1 {
		t.Error(h.Len(), c.Len())
	}
	list := []*heap.Heap{c}
	for i := range 40 {
		next := list[i].Clone()
		wantMake(t, next, "U", i+2, api.OK)
		put(t, next, i+2, 0, i+1)
		put(t, next, 1, 0, i)
		list = append(list, next)
	}
	for i, one := range list {
		if one.Len() != i+1 {
			t.Error(i, one.Len())
		}
		wantGet(t, one, 1, 0, max(i-1, 0))
		if i > 0 {
			wantGet(t, one, i+1, 0, i)
		}
		wantErr(t, one, i+2, 0, api.ErrNone)
	}
	none := heap.New(nil).Clone()
	if none == nil {
		t.Fatal("no clone of a heap without structs")
	}
	wantMake(t, none, "T", 0, api.ErrNone)
}

// P6.2: of a nil heap ErrNone ahead of all else; 0, nothing, nil.
func TestNilHeap(t *testing.T) {
	var h *heap.Heap
	for _, name := range []string{"", "T", "int"} {
		wantMake(t, h, name, 0, api.ErrNone)
	}
	for _, obj := range []int{0, 1, -1, math.MaxInt, math.MinInt} {
		for _, field := range []int{0, 1, -1, 8, math.MaxInt, math.MinInt} {
			if n, err := h.Get(obj, field); n != 0 || err != api.ErrNone {
				t.Error(obj, field, n, err)
			}
			if err := h.Set(obj, field, 1); err != api.ErrNone {
				t.Error(obj, field, err)
			}
		}
		if h.Of(obj) != "" || len(h.Near(obj)) != 0 || len(h.Reach([]int{obj, 1, 0})) != 0 {
			t.Error(obj, h.Of(obj), h.Near(obj), h.Reach([]int{obj, 1, 0}))
		}
	}
	if h.Len() != 0 || len(h.Reach(nil)) != 0 || h.Clone() != nil {
		t.Error(h.Len(), h.Reach(nil), h.Clone())
	}
}

// Rule 3: what New was handed may be changed behind it, and isn't by New.
func TestListHandedIn(t *testing.T) {
	want := structsOf(common)
	list := append(structsOf(common), api.Struct{Name: "spare"})[:4]
	for i := range list {
		list[i].Fields = append(list[i].Fields, api.Field{Name: "spare"})[:len(list[i].Fields)]
	}
	h := heap.New(list)
	for i := range list {
		if list[i].Name != want[i].Name || !slices.Equal(list[i].Fields, want[i].Fields) {
			t.Error("New changed", i)
		}
		if fields := list[i].Fields; fields[:len(fields)+1][len(fields)].Name != "spare" {
			t.Error("New changed the spare room of", i)
		}
	}
	if list[:5][4].Name != "spare" {
		t.Error("New changed the spare room")
	}
	h.Make("T")
	put(t, h, 1, 1, 1)
	for i := range list {
		list[i].Name = "Z" + strconv.Itoa(i)
		for j := range list[i].Fields {
			list[i].Fields[j] = api.Field{Name: "z", Type: "int"}
		}
	}
	list[2].Fields = append(list[2].Fields, api.Field{Name: "z", Type: "int"})
	wantMake(t, h, "W", 2, api.OK)
	wantMake(t, h, "E", 3, api.OK)
	wantMake(t, h, "Z0", 0, api.ErrNone)
	put(t, h, 2, 7, 1)
	wantNear(t, h, 1, 1)
	wantNear(t, h, 2, 1)
	wantErr(t, h, 3, 0, api.ErrRange)
	if h.Of(1) != "T" || h.Of(2) != "W" || h.Of(3) != "E" {
		t.Error(h.Of(1), h.Of(2), h.Of(3))
	}
}

// Rule 3: answers are new memory, and roots with their spare room stay as they are.
func TestAnswersNew(t *testing.T) {
	h := made(t, common, "W", "W", "W")
	put(t, h, 1, 0, 3)
	put(t, h, 1, 4, 2)
	put(t, h, 2, 0, 1)
	first := picture(h)
	spoil := func(list []int) {
		for i := range list[:cap(list)] {
			list[:cap(list)][i] = 77
		}
	}
	near, all := h.Near(1), h.Reach([]int{1})
	spoil(near)
	wantReach(t, h, []int{1}, 1, 2, 3)
	if !slices.Equal(all, []int{1, 2, 3}) {
		t.Error(all)
	}
	spoil(all)
	if !slices.Equal(picture(h), first) {
		t.Error("an answer that was changed shows")
	}
	roots := []int{2, 9, 2, 0, 1, 55, 66, 77}
	spoil(h.Reach(roots[:5]))
	if !slices.Equal(roots, []int{2, 9, 2, 0, 1, 55, 66, 77}) {
		t.Error(roots)
	}
	self := h.Reach([]int{1})
	again := h.Reach(self)
	spoil(again)
	if !slices.Equal(self, []int{1, 2, 3}) {
		t.Error(self)
	}
}

// Rule 4: heaps of the same structs know nothing of each other; asking changes nothing.
func TestApart(t *testing.T) {
	list := structsOf(common)
	a, b := heap.New(list), heap.New(list)
	wantMake(t, a, "U", 1, api.OK)
	put(t, a, 1, 0, 1)
	if b.Len() != 0 {
		t.Error(b.Len())
	}
	wantMake(t, b, "W", 1, api.OK)
	wantGet(t, b, 1, 0, 0)
	if a.Of(1) != "U" {
		t.Error(a.Of(1))
	}
	if first := picture(a); !slices.Equal(picture(a), first) {
		t.Error("asking changes something")
	}
}
