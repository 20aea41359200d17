package ir

import (
	"strconv"
	"strings"

	"truant/api"
)

// Line: an instruction's text.
func Line(f api.Fun, place int) string {
	if !has(f, place) || !IsOp(f.Ins[place].Op) {
		return ""
	}
	ins := f.Ins[place]
	words := []string{value(place), "=", Word(ins.Op)}
	words = addIfAny(words, ins.Type)
	words = addIfAny(words, ins.Name)
	words = append(words, strconv.Itoa(ins.N))
	for _, arg := range ins.Args {
		words = append(words, value(arg))
	}
	return line(words...)
}

// Lines: of a program.
func Lines(p api.Prog) []string {
	var lines []string
	for _, s := range p.Structs {
		lines = append(lines, structLine(s))
	}
	for _, g := range p.Globals {
		lines = append(lines, line("global", g.Name, g.Type))
	}
	for _, f := range p.Funs {
		lines = addFun(lines, f)
	}
	return lines
}

func structLine(s api.Struct) string {
	words := []string{"struct", s.Name}
	for _, field := range s.Fields {
		words = append(words, field.Name+":"+field.Type)
	}
	return line(words...)
}

func addFun(lines []string, f api.Fun) []string {
	lines = append(lines, headLine(f))
	if len(f.Slots) > 0 {
		lines = append(lines, line("slots", line(f.Slots...)))
	}
	for at, b := range f.Blocks {
		lines = append(lines, line("block", strconv.Itoa(at)))
		for _, place := range b.List {
			// One that has no text has a line too, without anything.
			lines = append(lines, Line(f, place))
		}
		lines = append(lines, endLine(b))
	}
	return lines
}

func headLine(f api.Fun) string {
	words := []string{"func", f.Name}
	words = append(words, f.Params...)
	words = append(words, "->")
	return line(addIfAny(words, f.Result)...)
}

func endLine(b api.Block) string {
	to, other := strconv.Itoa(b.To[0]), strconv.Itoa(b.To[1])
	switch b.Jump {
	case api.Goto:
		return line("goto", to)
	case api.If:
		return line("if", value(b.Arg), to, other)
	case api.Ret:
		if b.Arg == -1 {
			return "ret"
		}
		return line("ret", value(b.Arg))
	}
	return line("jump", strconv.Itoa(b.Jump))
}

// value: how the value of an instruction is written.
func value(place int) string { return "v" + strconv.Itoa(place) }

func addIfAny(words []string, word string) []string {
	if word == "" {
		return words
	}
	return append(words, word)
}

func line(words ...string) string { return strings.Join(words, " ") }
