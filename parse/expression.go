package parse

import (
	"drey/api"
	"drey/ast"
	"drey/lex"
)

// expression: the expression that comes next.
func (p *parser) expression() int {
	p.enter()
	defer p.leave()
	x := p.choice()
	t := p.peek()
	if !ast.Assign(signOf(t)) {
		return x
	}
	p.target(x, t.At)
	p.read()
	return p.over(api.NAssign, t.Text, 0, x, p.expression())
}

// target: a node must be one that may be assigned to; else that is wrong at a byte.
func (p *parser) target(x, at int) {
	if !ast.Target(p.nodes[x].kind) {
		p.fail(api.ErrType, at)
	}
}

// over: an operator's node, which begins where its first kid does.
func (p *parser) over(kind int, text string, num int64, kids ...int) int {
	return p.put(kind, p.nodes[kids[0]].at, text, num, kids...)
}

// choice: operators, or one of two, by a condition.
func (p *parser) choice() int {
	cond := p.operators(0)
	if !p.take("?") {
		return cond
	}
	then := p.expression()
	p.need(":")
	return p.over(api.NCond, "", 0, cond, then, p.otherChoice())
}

// otherChoice: what stands behind a choice's `:`.
func (p *parser) otherChoice() int {
	p.enter()
	defer p.leave()
	return p.choice()
}

// operators: what operators of a level, and of those that bind more closely, make of things.
func (p *parser) operators(level int) int {
	if level == ast.Levels {
		return p.prefixed()
	}
	left := p.operators(level + 1)
	for ast.Level(p.sign()) == level {
		op := p.read().Text
		left = p.over(api.NBinary, op, 0, left, p.operators(level+1))
	}
	return left
}

// prefixed: a thing with what stands behind it, perhaps with operators ahead.
func (p *parser) prefixed() int {
	if op := p.sign(); ast.Unary(op) || ast.Step(op) {
		return p.prefix()
	}
	return p.suffixed()
}

// prefix: an operator, and what stands behind it.
func (p *parser) prefix() int {
	p.enter()
	defer p.leave()
	op := p.read()
	behind := p.peek().At
	x := p.prefixed()
	if op.Text == "delete" || ast.Step(op.Text) {
		p.target(x, behind)
	}
	if ast.Step(op.Text) {
		return p.put(api.NStep, op.At, op.Text, 0, x)
	}
	return p.put(api.NUnary, op.At, op.Text, 0, x)
}

// suffixed: a thing, and what belongs to it behind it: fields, places, calls, at last perhaps a step. What might begin a statement doesn't belong to it in another line.
func (p *parser) suffixed() int {
	x := p.thing()
	for {
		t := p.peek()
		op := signOf(t)
		switch {
		case op == ".":
			p.read()
			x = p.over(api.NField, p.name().Text, 0, x)
		case t.Line:
			return x
		case op == "[":
			p.read()
			key := p.expression()
			p.need("]")
			x = p.over(api.NIndex, "", 0, x, key)
		case op == "(":
			p.read()
			x = p.over(api.NCall, "", 0, append([]int{x}, p.list(")")...)...)
		case ast.Step(op):
			p.target(x, t.At)
			p.read()
			return p.over(api.NStep, op, 1, x)
		default:
			return x
		}
	}
}

// list: expressions, with a `,` between, up to a sign.
func (p *parser) list(end string) []int {
	var out []int
	if p.take(end) {
		return out
	}
	for {
		out = append(out, p.expression())
		if !p.take(",") {
			p.need(end)
			return out
		}
	}
}

// thing: what operators are of.
func (p *parser) thing() int {
	t := p.peek()
	if x := p.plain(); x != noKid {
		return x
	}
	if t.Kind == lex.Name {
		return p.put(api.NName, t.At, p.read().Text, 0)
	}
	switch signOf(t) {
	case "this":
		p.read()
		return p.put(api.NThis, t.At, "", 0)
	case "::":
		p.read()
		return p.put(api.NGlobal, t.At, p.name().Text, 0)
	case "base":
		return p.super()
	case "(":
		return p.bracketed()
	case "[":
		p.read()
		return p.put(api.NArray, t.At, "", 0, p.list("]")...)
	case "{":
		return p.table()
	case "function":
		p.read()
		return p.function(t.At, p.perhapsName())
	case "class":
		return p.class()
	}
	p.refuse()
	return noKid
}

// plain: the literal that the next token is; none, if it is no literal.
func (p *parser) plain() int {
	t := p.peek()
	kind, text := 0, ""
	switch {
	case t.Kind == lex.Int:
		kind = api.NInt
	case t.Kind == lex.Str:
		kind, text = api.NStr, t.Text
	case signOf(t) == "null":
		kind = api.NNull
	case signOf(t) == "true":
		kind = api.NTrue
	case signOf(t) == "false":
		kind = api.NFalse
	default:
		return noKid
	}
	p.read()
	return p.put(kind, t.At, text, t.Num)
}

// bracketed: an expression in brackets, which leave nothing in the tree.
func (p *parser) bracketed() int {
	p.need("(")
	x := p.expression()
	p.need(")")
	return x
}

// super: a member of what the class extends.
func (p *parser) super() int {
	at := p.read().At
	p.need(".")
	name := "constructor"
	if !p.take(name) {
		name = p.name().Text
	}
	return p.put(api.NSuper, at, name, 0)
}

func (p *parser) table() int {
	at := p.read().At
	var kids []int
	for p.sign() != "}" {
		key, val := p.member()
		kids = append(kids, key, val)
		if !p.take(",") {
			break
		}
	}
	p.need("}")
	return p.put(api.NTable, at, "", 0, kids...)
}

// member: a key and its value.
func (p *parser) member() (int, int) {
	first := p.peek()
	if p.take("function") {
		name := p.name()
		return p.key(name), p.function(first.At, name.Text)
	}
	key := 0
	if p.take("[") {
		key = p.expression()
		p.need("]")
	} else {
		key = p.key(p.name())
	}
	p.need("=")
	return key, p.expression()
}

// key: a token's text as a key.
func (p *parser) key(t lex.Token) int { return p.put(api.NStr, t.At, t.Text, 0) }

// function: a function's parameters and its block.
func (p *parser) function(at int, name string) int {
	p.enter()
	defer p.leave()
	p.need("(")
	var kids []int
	for p.sign() != ")" {
		kids = append(kids, p.variable(api.NParam, p.peek().At))
		if !p.take(",") {
			break
		}
	}
	p.need(")")
	params := int64(len(kids))
	return p.put(api.NFunc, at, name, params, append(kids, p.block())...)
}

func (p *parser) class() int {
	p.enter()
	defer p.leave()
	at := p.read().At
	name := p.perhapsName()
	kids := []int{noKid}
	if p.take("extends") {
		kids[0] = p.expression()
	}
	p.need("{")
	for p.sign() != "}" {
		kids = append(kids, p.classMember())
		p.take(";")
	}
	p.read()
	return p.put(api.NClass, at, name, 0, kids...)
}

// classMember: a member of a class; its constructor has no name.
func (p *parser) classMember() int {
	first := p.peek()
	if !p.take("constructor") {
		key, val := p.member()
		return p.put(api.NMember, first.At, "", 0, key, val)
	}
	key := p.key(first)
	return p.put(api.NMember, first.At, "", 0, key, p.function(first.At, ""))
}
