package parse_test

import (
	"slices"
	"strings"
	"testing"

	"drey/api"
	"drey/ast"
	"drey/lex"
	"drey/parse"
)

// grammar: what the document tells of programs, as rules: a word that begins with a great letter is what is to the right of it in some rule; all great letters are a sort of tokens; what begins with a low line is asked of the next tokens; all else stands as it is.
const grammar = `
Whole -> Stmts END
Stmts ->
Stmts -> Stmts Stmt
Block -> { Stmts }
Stmt -> Block
Stmt -> ;
Stmt -> local NAME Stop
Stmt -> local NAME = Expr Behind
Stmt -> local function NAME Func
Stmt -> if ( Expr ) Stmt
Stmt -> if ( Expr ) Stmt else Stmt
Stmt -> while ( Expr ) Stmt
Stmt -> do Stmt while ( Expr ) Stop
Stmt -> for ( First ; Perhaps ; Perhaps ) Stmt
First -> Perhaps
First -> local NAME
First -> local NAME = Expr
Perhaps ->
Perhaps -> Expr
Stmt -> foreach ( NAME in Expr ) Stmt
Stmt -> foreach ( NAME , NAME in Expr ) Stmt
Stmt -> switch ( Expr ) { Cases }
Stmt -> switch ( Expr ) { Cases default : Stmts Cases }
Cases ->
Cases -> Cases case Expr : Stmts
Stmt -> break Stop
Stmt -> continue Stop
Stmt -> return Stop
Stmt -> return _value Expr Behind
Stmt -> yield Stop
Stmt -> yield _value Expr Behind
Stmt -> throw Expr Behind
Stmt -> try Stmt catch ( NAME ) Stmt
Stmt -> const NAME = Literal Stop
Literal -> Number
Literal -> STR
Literal -> null
Literal -> true
Literal -> false
Number -> INT
Number -> - INT
Stmt -> enum NAME { }
Stmt -> enum NAME { Items Comma }
Comma ->
Comma -> ,
Items -> Item
Items -> Items , Item
Item -> NAME
Item -> NAME = Number
Stmt -> function NAME Func
Stmt -> class NAME Class
Stmt -> _nameless Expr _whole
Stmt -> _plain Expr Behind
Stop -> ;
Stop -> _stop
Behind -> ;
Behind -> _whole _stop
Expr -> Choice
Expr -> Choice ASSIGN Expr
Choice -> Ops
Choice -> Ops ? Expr : Choice
Ops -> Ahead
Ops -> Ops BINARY Ahead
Ahead -> UNARY Ahead
Ahead -> STEP Ahead
Ahead -> Thing
Ahead -> Thing _same STEP
Thing -> Thing . NAME
Thing -> Thing _same [ Expr ]
Thing -> Thing _same ( List )
List ->
List -> Exprs
Exprs -> Expr
Exprs -> Exprs , Expr
Thing -> NAME
Thing -> INT
Thing -> STR
Thing -> null
Thing -> true
Thing -> false
Thing -> this
Thing -> :: NAME
Thing -> base . NAME
Thing -> base . constructor
Thing -> ( Expr )
Thing -> [ List ]
Thing -> { }
Thing -> { Table Comma }
Table -> Member
Table -> Table , Member
Member -> NAME = Expr
Member -> [ Expr ] = Expr
Member -> function NAME Func
Thing -> function Func
Thing -> function NAME Func
Func -> ( ) Block
Func -> ( Params Comma ) Block
Params -> Param
Params -> Params , Param
Param -> NAME
Param -> NAME = Expr
Thing -> class Class
Thing -> class NAME Class
Class -> { Members }
Class -> extends Expr { Members }
Members ->
Members -> Members Method Semi
Method -> Member
Method -> constructor Func
Semi ->
Semi -> ;
`

// rule: what stands for a word, one behind the other.
type rule struct {
	left  string
	right []string
}

func rules() []rule {
	var out []rule
	for line := range strings.Lines(strings.TrimSpace(grammar)) {
		left, right, _ := strings.Cut(strings.TrimSpace(line), " ->")
		out = append(out, rule{left, strings.Fields(right)})
	}
	return out
}

// place: so much of a rule stands there, from a token on.
type place struct {
	rule, dot, from int
}

// oracle tells by the rules, gone through all at once, which token of a row is the first one that can't stand where it does.
type oracle struct {
	rules  []rule
	of     map[string][]int // the rules of a word
	tokens []lex.Token
	sets   [][]place // ahead of each token
	met    []map[place]bool
}

// wrong: the first token that can't stand where it does; -1: there is none.
func (o *oracle) wrong(tokens []lex.Token) int {
	o.tokens, o.sets, o.met = tokens, make([][]place, len(tokens)+1), make([]map[place]bool, len(tokens)+1)
	for i := range o.met {
		o.met[i] = map[place]bool{}
	}
	o.add(0, place{})
	for at := range tokens {
		o.spread(at)
		if len(o.sets[at+1]) == 0 {
			return at
		}
	}
	return -1
}

func (o *oracle) add(at int, p place) {
	if !o.met[at][p] {
		o.met[at][p] = true
		o.sets[at] = append(o.sets[at], p)
	}
}

// spread: all that follows from what may stand ahead of a token.
func (o *oracle) spread(at int) {
	empty := map[string]bool{} // words that nothing stands for here
	for i := 0; i < len(o.sets[at]); i++ {
		p := o.sets[at][i]
		r := o.rules[p.rule]
		next := place{p.rule, p.dot + 1, p.from}
		switch {
		case p.dot == len(r.right):
			empty[r.left] = empty[r.left] || p.from == at
			for _, q := range slices.Clone(o.sets[p.from]) {
				if right := o.rules[q.rule].right; q.dot < len(right) && right[q.dot] == r.left {
					o.add(at, place{q.rule, q.dot + 1, q.from})
				}
			}
		case o.of[r.right[p.dot]] != nil:
			for _, number := range o.of[r.right[p.dot]] {
				o.add(at, place{number, 0, at})
			}
			if empty[r.right[p.dot]] {
				o.add(at, next)
			}
		case r.right[p.dot][0] == '_':
			if asked(r.right[p.dot], o.tokens[at:]) {
				o.add(at, next)
			}
		case stands(r.right[p.dot], o.tokens[at]):
			o.add(at+1, next)
		}
	}
}

// signOf: a sign's or a word's text; else empty.
func signOf(t lex.Token) string {
	if t.Kind == lex.Sign || t.Kind == lex.Word {
		return t.Text
	}
	return ""
}

const (
	binaries = " || && | ^ & == != <=> < <= > >= in instanceof << >> >>> + - * / % "
	assigns  = " = <- += -= *= /= %= "
)

func among(s, list string) bool { return s != "" && strings.Contains(list, " "+s+" ") }

// stands: is a token what a rule asks for?
func stands(want string, t lex.Token) bool {
	switch want {
	case "END":
		return t.Kind == lex.End
	case "NAME":
		return t.Kind == lex.Name
	case "INT":
		return t.Kind == lex.Int
	case "STR":
		return t.Kind == lex.Str
	case "BINARY":
		return among(signOf(t), binaries)
	case "ASSIGN":
		return among(signOf(t), assigns)
	case "UNARY":
		return among(signOf(t), " - ! ~ typeof clone resume delete ")
	case "STEP":
		return among(signOf(t), " ++ -- ")
	}
	return signOf(t) == want
}

// asked: is it so with the next tokens?
func asked(what string, next []lex.Token) bool {
	t := next[0]
	stop := t.Line || t.Kind == lex.End || among(signOf(t), " } else catch ")
	nameless := among(signOf(t), " function class ")
	switch what {
	case "_same": // in the same line
		return !t.Line
	case "_stop": // a statement may end here
		return stop
	case "_value": // none may
		return !stop && signOf(t) != ";"
	case "_nameless": // a function, or a class, without a name
		return nameless && next[1].Kind != lex.Name
	case "_plain": // neither, and no block
		return !nameless && signOf(t) != "{"
	}
	return !among(signOf(t), binaries+assigns+" . ? ") && (t.Line || !among(signOf(t), " ( [ ++ -- ")) // _whole: no expression goes on
}

// maker makes sources by the rules, the same ones each time.
type maker struct {
	oracle
	seed  uint32
	least map[string]int // how deep a word's shortest source is nested
	out   []string
	gap   string // what must stand ahead of the next token
}

func (m *maker) below(n int) int {
	m.seed = m.seed*1664525 + 1013904223
	return int(m.seed>>8) % n
}

// deep: how deep what stands for a rule's words is nested at least.
func (m *maker) deep(r rule) int {
	deep := 0
	for _, word := range r.right {
		if m.of[word] == nil {
			continue
		}
		least, ok := m.least[word]
		if !ok {
			return 1000
		}
		deep = max(deep, least+1)
	}
	return deep
}

// measure: how deep each word is nested at least.
func (m *maker) measure() {
	m.least = map[string]int{}
	for range m.rules {
		for _, r := range m.rules {
			if old, ok := m.least[r.left]; !ok || m.deep(r) < old {
				if deep := m.deep(r); deep < 1000 {
					m.least[r.left] = deep
				}
			}
		}
	}
}

// make: a source of a word, that deep at most, if there is one.
func (m *maker) make(word string, deep int) {
	switch {
	case m.of[word] != nil:
		var fit []rule
		for _, number := range m.of[word] {
			if r := m.rules[number]; m.deep(r) <= max(deep, m.least[word]) {
				fit = append(fit, r)
			}
		}
		for _, word := range fit[m.below(len(fit))].right {
			m.make(word, deep-1)
		}
	case word == "_same" || word == "_value":
		m.gap = " "
	case word == "_stop":
		m.gap = "\n"
	case word[0] != '_':
		m.token(word)
	}
}

// token: one of a sort, and what stands ahead of it.
func (m *maker) token(sort string) {
	lists := map[string]string{"END": " ", "NAME": "a b c", "INT": "1 'x' 0x10", "STR": "\"\" \"if\"", "BINARY": binaries, "ASSIGN": assigns, "UNARY": "- ! ~ typeof clone resume delete", "STEP": "++ --"}
	text := sort
	if list := strings.Fields(lists[sort]); len(list) > 0 {
		text = list[m.below(len(list))]
	} else if sort == "END" {
		text = ""
	}
	if m.gap == "" {
		m.gap = []string{" ", " ", " ", " ", " ", " ", " ", "\n"}[m.below(8)]
	}
	m.out = append(m.out, m.gap+text)
	m.gap = ""
}

// change: a token goes, comes, comes twice, or changes its place or its line.
func (m *maker) change(pieces []string) []string {
	at := m.below(len(pieces))
	out := slices.Clone(pieces)
	switch m.below(5) {
	case 0:
		return slices.Delete(out, at, at+1)
	case 1:
		return slices.Insert(out, at, pieces[at])
	case 2:
		return slices.Insert(out, at, pieces[m.below(len(pieces))])
	case 3:
		other := m.below(len(pieces))
		out[at], out[other] = out[other], out[at]
	default:
		out[at] = map[bool]string{true: " ", false: "\n"}[out[at][0] == '\n'] + out[at][1:]
	}
	return out
}

func newMaker() *maker {
	m := &maker{oracle: oracle{rules: rules(), of: map[string][]int{}}, seed: 5}
	for i, r := range m.rules {
		m.of[r.left] = append(m.of[r.left], i)
	}
	m.measure()
	return m
}

// TestManySources: what can't stand where it does is told as by the rules.
func TestManySources(t *testing.T) { // P10.1 to P10.4
	m := newMaker()
	right, told := 0, map[api.Errno]int{}
	for range 6000 {
		m.out, m.gap = nil, ""
		for range 1 + m.below(3) {
			m.make("Stmt", 3+m.below(9))
		}
		m.token("END")
		if len(m.out) > 150 {
			continue
		}
		pieces := m.out
		for range m.below(3) {
			if len(pieces) > 0 {
				pieces = m.change(pieces)
			}
		}
		text := strings.Join(pieces, "")
		tokens, f := lex.Scan(text)
		if f.Code != api.OK {
			t.Fatalf("Scan(%q): %v", text, f)
		}
		wrong := m.wrong(tokens)
		tree, f := parse.Parse(text)
		told[f.Code]++
		switch {
		case f.Code == api.OK:
			right++
			if wrong >= 0 || ast.Check(tree) != (api.Fault{}) {
				t.Errorf("Parse(%q): right, but for the token at %d", text, tokens[max(wrong, 0)].At)
			}
		case f.Code == api.ErrForm && (wrong < 0 || tokens[wrong].At != f.At):
			t.Errorf("Parse(%q): %v, not the token %d", text, f, wrong)
		case wrong >= 0 && tokens[wrong].At < f.At:
			t.Errorf("Parse(%q): %v, behind the token at %d", text, f, tokens[wrong].At)
		}
	}
	if right < 1000 || told[api.ErrForm] < 1000 || told[api.ErrType] < 100 {
		t.Errorf("too few of a sort to tell anything: %v", told)
	}
	t.Log(told)
}
