package parse

import (
	"drey/api"
	"drey/lex"
	"drey/num"
)

// statement: the statement that comes next.
func (p *parser) statement() int {
	p.enter()
	defer p.leave()
	first := p.peek()
	switch signOf(first) {
	case "{":
		return p.block()
	case ";":
		p.read()
		return p.put(api.NNothing, first.At, "", 0)
	case "if":
		return p.ifThen()
	case "while":
		return p.while()
	case "for":
		return p.forLoop()
	case "foreach":
		return p.foreach()
	case "switch":
		return p.switchOver()
	case "try":
		return p.tryCatch()
	case "enum":
		return p.enum()
	case "function", "class":
		if p.tokens[p.next+1].Kind == lex.Name {
			return p.declared()
		}
		// Without a name it is an expression, but one that begins with such a word needs no end either.
		return p.put(api.NExpr, first.At, "", 0, p.expression())
	}
	return p.simple(first)
}

// simple: a statement that begins with a token and has an end of its own.
func (p *parser) simple(first lex.Token) int {
	switch signOf(first) {
	case "local":
		return p.local()
	case "do":
		return p.doWhile()
	case "const":
		return p.constant()
	case "break":
		return p.word(api.NBreak)
	case "continue":
		return p.word(api.NContinue)
	case "return":
		return p.answer(api.NReturn)
	case "yield":
		return p.answer(api.NYield)
	case "throw":
		p.read()
		return p.ended(api.NThrow, first.At, "", p.expression())
	}
	return p.ended(api.NExpr, first.At, "", p.expression())
}

// ended: a statement that must end here, with what it is made of.
func (p *parser) ended(kind, at int, text string, kids ...int) int {
	if !p.ends() {
		p.refuse()
	}
	p.take(";")
	return p.put(kind, at, text, 0, kids...)
}

// ends: may a statement end ahead of the next token, or with it?
func (p *parser) ends() bool {
	switch p.sign() {
	case ";", "}", "else", "catch":
		return true
	}
	return p.peek().Line || p.peek().Kind == lex.End
}

// block: statements between braces.
func (p *parser) block() int {
	at := p.peek().At
	p.need("{")
	var kids []int
	for p.sign() != "}" {
		if p.peek().Kind == lex.End {
			p.refuse()
		}
		kids = append(kids, p.statement())
	}
	p.read()
	return p.put(api.NBlock, at, "", 0, kids...)
}

// body: a block; another statement is made one of it alone.
func (p *parser) body() int {
	if p.sign() == "{" {
		return p.block()
	}
	at := p.peek().At
	return p.put(api.NBlock, at, "", 0, p.statement())
}

func (p *parser) ifThen() int {
	at := p.read().At
	cond := p.bracketed()
	then, other := p.body(), noKid
	if p.take("else") {
		other = p.otherwise()
	}
	return p.put(api.NIf, at, "", 0, cond, then, other)
}

// otherwise: what stands behind an `else`.
func (p *parser) otherwise() int {
	if p.sign() != "if" {
		return p.body()
	}
	p.enter()
	defer p.leave()
	return p.ifThen()
}

func (p *parser) while() int {
	at := p.read().At
	cond := p.bracketed()
	return p.put(api.NWhile, at, "", 0, cond, p.body())
}

func (p *parser) doWhile() int {
	at := p.read().At
	body := p.body()
	p.need("while")
	return p.ended(api.NDo, at, "", body, p.bracketed())
}

func (p *parser) forLoop() int {
	at := p.read().At
	p.need("(")
	first := p.forFirst()
	p.need(";")
	cond := p.unless(";")
	p.need(";")
	behind := p.unless(")")
	p.need(")")
	return p.put(api.NFor, at, "", 0, first, cond, behind, p.body())
}

// forFirst: what an NFor does ahead of all, if anything.
func (p *parser) forFirst() int {
	at := p.peek().At
	if p.take("local") {
		return p.variable(api.NLocal, at)
	}
	if x := p.unless(";"); x != noKid {
		return p.put(api.NExpr, at, "", 0, x)
	}
	return noKid
}

// unless: the expression that comes next; none, if that sign does.
func (p *parser) unless(sign string) int {
	if p.sign() == sign {
		return noKid
	}
	return p.expression()
}

func (p *parser) foreach() int {
	at := p.read().At
	p.need("(")
	key, val := "", p.name().Text
	if p.take(",") {
		key, val = val, p.name().Text
		if key == val {
			p.fail(api.ErrTwice, p.peek().At)
		}
	}
	p.need("in")
	over := p.expression()
	p.need(")")
	return p.put(api.NForeach, at, key+"\t"+val, 0, over, p.body())
}

func (p *parser) switchOver() int {
	at := p.read().At
	kids := []int{p.bracketed()}
	p.need("{")
	for usual := false; p.sign() != "}"; { // usual: is there a default case already?
		if p.sign() == "default" {
			if usual {
				p.refuse()
			}
			usual = true
		}
		kids = append(kids, p.switchCase())
	}
	p.read()
	return p.put(api.NSwitch, at, "", 0, kids...)
}

// switchCase: one case, up to the next one or the switch's end.
func (p *parser) switchCase() int {
	at, val := p.peek().At, noKid
	if !p.take("default") {
		p.need("case")
		val = p.expression()
	}
	p.need(":")
	kids := []int{val}
	for p.sign() != "case" && p.sign() != "default" && p.sign() != "}" {
		kids = append(kids, p.statement())
	}
	return p.put(api.NCase, at, "", 0, kids...)
}

func (p *parser) tryCatch() int {
	at := p.read().At
	body := p.body()
	p.need("catch")
	p.need("(")
	name := p.name().Text
	p.need(")")
	return p.put(api.NTry, at, name, 0, body, p.body())
}

// local: a variable; or a function that is one, which needs no end.
func (p *parser) local() int {
	at := p.read().At
	behind := p.peek()
	if p.take("function") {
		name := p.name().Text
		return p.put(api.NLocal, at, name, 0, p.function(behind.At, name))
	}
	name := p.name().Text
	return p.ended(api.NLocal, at, name, p.valued())
}

// variable: a node of a name, perhaps with a value.
func (p *parser) variable(kind, at int) int {
	name := p.name().Text
	return p.put(kind, at, name, 0, p.valued())
}

// valued: the expression behind a `=`, if there is one.
func (p *parser) valued() int {
	if !p.take("=") {
		return noKid
	}
	return p.expression()
}

// word: a statement of one word.
func (p *parser) word(kind int) int {
	at := p.read().At
	return p.ended(kind, at, "")
}

// answer: a word and perhaps a value, which stands where no statement could end.
func (p *parser) answer(kind int) int {
	at, val := p.read().At, noKid
	if !p.ends() {
		val = p.expression()
	}
	return p.ended(kind, at, "", val)
}

func (p *parser) constant() int {
	at := p.read().At
	name := p.name().Text
	p.need("=")
	return p.ended(api.NConst, at, name, p.literal())
}

// literal: a value that is written out; a number perhaps with a `-` ahead.
func (p *parser) literal() int {
	if at := p.peek().At; p.sign() == "-" {
		return p.put(api.NInt, at, "", p.number())
	}
	x := p.plain()
	if x == noKid {
		p.refuse()
	}
	return x
}

// number: a number, perhaps with a `-` ahead.
func (p *parser) number() int64 {
	minus := p.take("-")
	if p.peek().Kind != lex.Int {
		p.refuse()
	}
	n := p.read().Num
	if minus {
		return num.Neg(n)
	}
	return n
}

func (p *parser) enum() int {
	at := p.read().At
	name := p.name().Text
	p.need("{")
	var kids []int
	for next := int64(0); p.sign() != "}"; {
		item := p.name()
		if p.take("=") {
			next = p.number()
		}
		kids = append(kids, p.put(api.NItem, item.At, item.Text, next))
		next = num.Add(next, 1)
		if !p.take(",") {
			break
		}
	}
	p.need("}")
	return p.put(api.NEnum, at, name, 0, kids...)
}

// declared: a function, or a class, that comes to stand in this by its name.
func (p *parser) declared() int {
	at, name := p.peek().At, p.tokens[p.next+1].Text
	this := p.put(api.NThis, at, "", 0)
	where := p.put(api.NField, at, name, 0, this)
	made := p.put(api.NAssign, at, "<-", 0, where, p.thing())
	return p.put(api.NExpr, at, "", 0, made)
}
