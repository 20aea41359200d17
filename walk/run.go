package walk

import (
	"truant/api"
	"truant/check"
	"truant/heap"
	"truant/parse"
)

// run is what all activations of a run share.
type run struct {
	info    check.Info
	funs    []parse.Node // in the order of info's
	globals []int        // in the order of info's
	heap    *heap.Heap
	in      []int // what is still to be read
	out     []int
	fuel    int // what is left of it
	steps   int
}

func newRun(tree parse.Node, info check.Info, in []int, fuel int) *run {
	r := &run{
		info:    info,
		globals: make([]int, len(info.Globals)),
		heap:    heap.New(info.Structs),
		in:      in,
		fuel:    fuel,
	}
	for i := range tree.Kids() {
		if tree.Kid(i).Op() == parse.Func {
			r.funs = append(r.funs, tree.Kid(i))
		}
	}
	return r
}

func (r *run) result(e ending) Result {
	return Result{Out: r.out, End: e.end, Fault: e.fault, Steps: r.steps, Made: r.heap.Len()}
}

// step throws where there is no fuel for it.
func (r *run) step() {
	if r.fuel == 0 {
		panic(ending{Spent, api.OK})
	}
	r.fuel--
	r.steps++
}

// need throws a fault, if there is one.
func need(err api.Errno) {
	if err != api.OK {
		panic(ending{Fault, err})
	}
}

// read is the next number that was handed in.
func (r *run) read() int {
	if len(r.in) == 0 {
		return 0
	}
	n := r.in[0]
	r.in = r.in[1:]
	return n
}

// variable is one that is known where its activation has come to.
type variable struct {
	name  string
	value int
}

// activation is a function that was called and goes on.
type activation struct {
	*run
	known    []variable // each one hides those ahead of its name
	returned int        // 0, till a Return says so
}

// call is what a function of the program returns.
func (r *run) call(name string, args []int) int {
	at, _ := r.info.Fun(name)
	fun := r.funs[at]
	a := &activation{run: r}
	for i, arg := range args {
		a.define(fun.Kid(i).Name(), arg)
	}
	a.block(fun.Kid(fun.Kids() - 1))
	return a.returned
}

func (a *activation) define(name string, value int) {
	a.known = append(a.known, variable{name, value})
}

// where is what a name stands for: a variable, or a global if there is none.
// What it answers is to be used ahead of the next define.
func (a *activation) where(name string) *int {
	for i := len(a.known) - 1; i >= 0; i-- {
		if a.known[i].name == name {
			return &a.known[i].value
		}
	}
	at, _ := a.info.Global(name)
	return &a.globals[at]
}
