package show

import (
	"drey/api"
	"drey/ast"
	"drey/str"
)

// How closely an expression binds, the least first; between a choice and a prefix stand layer 9's levels.
const (
	assignment = -2
	choice     = -1
	prefix     = ast.Levels
	thing      = ast.Levels + 1
)

// binds: how closely an expression's parts hold together.
func binds(n api.Node) int {
	switch n.Kind {
	case api.NAssign:
		return assignment
	case api.NCond:
		return choice
	case api.NBinary:
		return ast.Level(n.Text)
	case api.NUnary, api.NStep:
		return prefix
	}
	return thing
}

// any: an expression where each may stand.
func (w *writer) any(at int) { w.within(at, assignment) }

// bracketed: an expression in brackets.
func (w *writer) bracketed(at int) {
	w.WriteByte('(')
	w.any(at)
	w.WriteByte(')')
}

// within: an expression at a place; in brackets, if it binds less closely than that asks.
func (w *writer) within(at, place int) {
	n := w.nodes[at]
	if binds(n) < place {
		w.bracketed(at)
		return
	}
	switch n.Kind {
	case api.NUnary, api.NBinary, api.NCond, api.NAssign, api.NStep:
		w.operator(n)
	case api.NIndex, api.NField, api.NCall:
		w.part(n)
	case api.NArray, api.NTable, api.NFunc, api.NClass:
		w.made(n)
	default:
		w.plain(n)
	}
}

// plain: what has no kids.
func (w *writer) plain(n api.Node) {
	put := w.WriteString
	switch n.Kind {
	case api.NNull:
		put("null")
	case api.NTrue:
		put("true")
	case api.NFalse:
		put("false")
	case api.NInt:
		put(Int(n.Num))
	case api.NStr:
		put(str.Quote(n.Text))
	case api.NName:
		put(n.Text)
	case api.NThis:
		put("this")
	case api.NGlobal:
		put("::")
		put(n.Text)
	case api.NSuper:
		put("base.")
		put(n.Text)
	}
}

func (w *writer) operator(n api.Node) {
	first := n.Kids[0]
	switch n.Kind {
	case api.NUnary:
		w.ahead(n)
	case api.NStep:
		if n.Num == 0 {
			w.ahead(n)
			return
		}
		w.within(first, thing)
		w.WriteString(n.Text)
	case api.NBinary:
		level := ast.Level(n.Text)
		w.within(first, level)
		w.between(n.Text)
		w.within(n.Kids[1], level+1)
	case api.NCond:
		w.within(first, 0)
		w.between("?")
		w.any(n.Kids[1])
		w.between(":")
		w.within(n.Kids[2], choice)
	case api.NAssign:
		w.within(first, thing)
		w.between(n.Text)
		w.any(n.Kids[1])
	}
}

// between: an operator with a blank on each side.
func (w *writer) between(op string) {
	w.WriteByte(' ')
	w.WriteString(op)
	w.WriteByte(' ')
}

// ahead: a prefix and what it is of; a blank keeps it from growing together with that.
func (w *writer) ahead(n api.Node) {
	kid := w.nodes[n.Kids[0]]
	w.WriteString(n.Text)
	if str.Name(n.Text) || isAhead(kid) && kid.Text[0] == n.Text[0] {
		w.WriteByte(' ')
	}
	w.within(n.Kids[0], prefix)
}

// isAhead: is an expression an operator ahead of what it is of?
func isAhead(n api.Node) bool {
	return n.Kind == api.NUnary || n.Kind == api.NStep && n.Num == 0
}

// part: a thing and what is behind it.
func (w *writer) part(n api.Node) {
	w.within(n.Kids[0], thing)
	switch n.Kind {
	case api.NField:
		w.WriteByte('.')
		w.WriteString(n.Text)
	case api.NIndex:
		w.WriteByte('[')
		w.any(n.Kids[1])
		w.WriteByte(']')
	case api.NCall:
		w.WriteByte('(')
		w.list(n.Kids[1:], w.any)
		w.WriteByte(')')
	}
}

// made: what stands between brackets, functions and classes.
func (w *writer) made(n api.Node) {
	switch n.Kind {
	case api.NArray:
		w.WriteByte('[')
		w.list(n.Kids, w.any)
		w.WriteByte(']')
	case api.NTable:
		w.table(n)
	case api.NFunc:
		w.function(n)
	case api.NClass:
		w.class(n)
	}
}

func (w *writer) table(n api.Node) {
	w.WriteByte('{')
	for i := 0; i < len(n.Kids); i += 2 {
		if i > 0 {
			w.WriteString(", ")
		}
		w.member(n.Kids[i], n.Kids[i+1])
	}
	w.WriteByte('}')
}

// member: a key and its value.
func (w *writer) member(key, val int) {
	k, v := w.nodes[key], w.nodes[val]
	switch {
	case k.Kind != api.NStr || !isName(k.Text):
		w.WriteByte('[')
		w.any(key)
		w.WriteByte(']')
	case v.Kind == api.NFunc && v.Text == k.Text:
		w.function(v)
		return
	default:
		w.WriteString(k.Text)
	}
	w.behind(" = ", val)
}

func (w *writer) function(n api.Node) {
	w.WriteString("function")
	if n.Text != "" {
		w.WriteByte(' ')
		w.WriteString(n.Text)
	}
	w.rest(n)
}

// rest: a function's parameters and its body.
func (w *writer) rest(n api.Node) {
	last := len(n.Kids) - 1
	w.WriteByte('(')
	w.list(n.Kids[:last], func(at int) {
		param := w.nodes[at]
		w.WriteString(param.Text)
		w.behind(" = ", param.Kids[0])
	})
	w.body(n.Kids[last])
}

func (w *writer) class(n api.Node) {
	put := w.WriteString
	put("class ")
	if n.Text != "" {
		put(n.Text)
		put(" ")
	}
	if n.Kids[0] != noKid {
		w.behind("extends ", n.Kids[0])
		put(" ")
	}
	put("{\n")
	for _, at := range n.Kids[1:] {
		w.classMember(w.nodes[at].Kids)
		put(";\n")
	}
	put("}")
}

// classMember: a member of a class; its constructor is a word of its own.
func (w *writer) classMember(kids []int) {
	key, val := w.nodes[kids[0]], w.nodes[kids[1]]
	if key.Kind == api.NStr && key.Text == "constructor" && val.Kind == api.NFunc && val.Text == "" {
		w.WriteString(key.Text)
		w.rest(val)
		return
	}
	w.member(kids[0], kids[1])
}
