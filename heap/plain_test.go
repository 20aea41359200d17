package heap_test

import (
	"math"
	"math/rand"
	"slices"
	"strconv"
	"testing"

	"truant/api"
	"truant/heap"
)

// plain is what the document asks of a heap, by other means: what each field
// holds stands in a map, and who is reached is found by going round till
// nobody is added.
type plain struct {
	structs []api.Struct
	names   []string
	held    map[[2]int]int
}

func (p *plain) fields(obj int) []api.Field {
	at := slices.IndexFunc(p.structs, func(s api.Struct) bool { return s.Name == p.names[obj-1] })
	return p.structs[at].Fields
}

func (p *plain) isThere(obj int) bool { return 0 < obj && obj <= len(p.names) }

func (p *plain) make(name string) (int, api.Errno) {
	if !slices.ContainsFunc(p.structs, func(s api.Struct) bool { return s.Name == name }) {
		return 0, api.ErrNone
	}
	p.names = append(p.names, name)
	return len(p.names), api.OK
}

func (p *plain) get(obj, field int) (int, api.Errno) {
	if obj == 0 {
		return 0, api.ErrNil
	}
	if !p.isThere(obj) {
		return 0, api.ErrNone
	}
	if field < 0 || field >= len(p.fields(obj)) {
		return 0, api.ErrRange
	}
	return p.held[[2]int{obj, field}], api.OK
}

func (p *plain) set(obj, field, n int) api.Errno {
	_, err := p.get(obj, field)
	if err == api.OK {
		p.held[[2]int{obj, field}] = n
	}
	return err
}

func (p *plain) isNear(obj, other int) bool {
	for field, f := range p.fields(obj) {
		if f.Type[0] == '*' && p.held[[2]int{obj, field}] == other {
			return true
		}
	}
	return false
}

func (p *plain) near(obj int) []int {
	var list []int
	for other := 1; p.isThere(obj) && other <= len(p.names); other++ {
		if p.isNear(obj, other) {
			list = append(list, other)
		}
	}
	return list
}

func (p *plain) reach(roots []int) []int {
	var list []int
	for {
		count := len(list)
		for obj := 1; obj <= len(p.names); obj++ {
			isReached := slices.Contains(roots, obj) || slices.ContainsFunc(list, func(from int) bool { return p.isNear(from, obj) })
			if isReached && !slices.Contains(list, obj) {
				list = append(list, obj)
			}
		}
		if len(list) == count {
			slices.Sort(list)
			return list
		}
	}
}

func (p *plain) clone() *plain {
	other := &plain{p.structs, slices.Clone(p.names), map[[2]int]int{}}
	for key, n := range p.held {
		other.held[key] = n
	}
	return other
}

// grownStructs are some that can be.
func grownStructs(r *rand.Rand) []api.Struct {
	list := make([]api.Struct, r.Intn(5))
	for i := range list {
		list[i].Name = "T" + strconv.Itoa(i)
		for j := range r.Intn(9) {
			typ := []string{"int", "bool", "*T" + strconv.Itoa(r.Intn(len(list))), "*T" + strconv.Itoa(r.Intn(len(list)))}[r.Intn(4)]
			list[i].Fields = append(list[i].Fields, api.Field{Name: "f" + strconv.Itoa(j), Type: typ})
		}
	}
	return list
}

// anyNumber is mostly one of the objects, or beside them.
func anyNumber(r *rand.Rand, count int) int {
	if r.Intn(12) == 0 {
		return []int{0, -1, count + 1, math.MaxInt, math.MinInt, r.Int() - r.Int()}[r.Intn(6)]
	}
	return r.Intn(count + 2)
}

// agree holds all answers against each other.
func agree(t *testing.T, h *heap.Heap, p *plain, r *rand.Rand) {
	t.Helper()
	if h.Len() != len(p.names) {
		t.Fatalf("Len is %d, want %d", h.Len(), len(p.names))
	}
	for obj := -1; obj <= len(p.names)+1; obj++ {
		name := ""
		if p.isThere(obj) {
			name = p.names[obj-1]
		}
		if h.Of(obj) != name {
			t.Fatalf("Of(%d) = %q, want %q", obj, h.Of(obj), name)
		}
		for field := -1; field <= api.MaxFields; field++ {
			n, err := h.Get(obj, field)
			if want, wantErr := p.get(obj, field); n != want || err != wantErr {
				t.Fatalf("Get(%d, %d) = %d, %d; want %d, %d", obj, field, n, err, want, wantErr)
			}
		}
		if near, want := h.Near(obj), p.near(obj); !slices.Equal(near, want) {
			t.Fatalf("Near(%d) = %v, want %v", obj, near, want)
		}
	}
	var roots []int
	for range r.Intn(4) {
		roots = append(roots, anyNumber(r, len(p.names)))
	}
	if all, want := h.Reach(roots), p.reach(roots); !slices.Equal(all, want) {
		t.Fatalf("Reach(%v) = %v, want %v", roots, all, want)
	}
}

// change does something to both, and holds the answers against each other.
func change(t *testing.T, h *heap.Heap, p *plain, r *rand.Rand) {
	t.Helper()
	if len(p.names) < 2 || r.Intn(8) == 0 {
		name := "T" + strconv.Itoa(r.Intn(len(p.structs)+1))
		obj, err := h.Make(name)
		if want, wantErr := p.make(name); obj != want || err != wantErr {
			t.Fatalf("Make(%q) = %d, %d; want %d, %d", name, obj, err, want, wantErr)
		}
		return
	}
	obj, field, n := anyNumber(r, len(p.names)), r.Intn(10)-1, anyNumber(r, len(p.names))
	if err, want := h.Set(obj, field, n), p.set(obj, field, n); err != want {
		t.Fatalf("Set(%d, %d, %d) = %d, want %d", obj, field, n, err, want)
	}
}

// P6.1 to P6.3: whatever is done, a heap and its clones answer as the plain ones.
func TestAgainstPlain(t *testing.T) {
	for seed := range 150 {
		r := rand.New(rand.NewSource(int64(seed)))
		structs := grownStructs(r)
		heaps := []*heap.Heap{heap.New(structs)}
		plains := []*plain{{structs, nil, map[[2]int]int{}}}
		for step := range 200 {
			at := r.Intn(len(heaps))
			change(t, heaps[at], plains[at], r)
			if step%50 == 30 {
				heaps = append(heaps, heaps[at].Clone())
				plains = append(plains, plains[at].clone())
			}
			if step%20 == 19 {
				for i := range heaps {
					agree(t, heaps[i], plains[i], r)
				}
			}
		}
	}
}

// P6.3: whatever is near somebody who is reached is reached, and more roots reach more.
func TestReachIsWhole(t *testing.T) {
	for seed := range 100 {
		r := rand.New(rand.NewSource(int64(seed)))
		h := heap.New(structsOf(common))
		const count = 60
		for range count {
			h.Make([]string{"T", "U", "E", "W"}[r.Intn(4)])
		}
		for range r.Intn(120) {
			h.Set(1+r.Intn(count), r.Intn(8), r.Intn(count+5)-2)
		}
		roots := []int{r.Intn(count + 2), r.Intn(count + 2)}
		all := h.Reach(roots)
		if !slices.IsSorted(all) || len(slices.Compact(slices.Clone(all))) != len(all) {
			t.Fatal("it doesn't rise:", all)
		}
		for _, obj := range all {
			for _, other := range h.Near(obj) {
				if !slices.Contains(all, other) {
					t.Fatal(other, "is near", obj, "and not in", all)
				}
			}
		}
		if again := h.Reach(all); !slices.Equal(again, all) {
			t.Fatal(again, all)
		}
		for _, obj := range h.Reach(roots[:1]) {
			if !slices.Contains(all, obj) {
				t.Fatal(obj, all)
			}
		}
	}
}
