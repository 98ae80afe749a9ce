package show_test

import (
	"fmt"
	"slices"
	"strings"

	"drey/api"
	"drey/ast"
	"drey/lex"
	"drey/str"
)

// grower makes trees at will, the same one each time of the same seed.
type grower struct {
	seed  uint32
	nodes []api.Node
}

func (g *grower) below(n int) int {
	g.seed = g.seed*1664525 + 1013904223
	return int(g.seed>>8) % n
}

func (g *grower) pick(list string) string {
	words := strings.Fields(list)
	return words[g.below(len(words))]
}

func (g *grower) tree() api.Tree {
	g.kind(api.NBlock, 2+g.below(7))
	return api.Tree{Nodes: g.nodes}
}

// put: a node more, of kids that are there.
func (g *grower) put(kind int, text string, number int64, kids ...int) int {
	g.nodes = append(g.nodes, api.Node{Kind: kind, At: g.below(50), Text: text, Num: number, Kids: kids})
	return len(g.nodes) - 1
}

// perhaps: a kid, or none.
func (g *grower) perhaps(grow func(int) int, deep int) int {
	if g.below(2) == 0 {
		return -1
	}
	return grow(deep)
}

// some: kids, each grown likewise.
func (g *grower) some(most int, grow func(int) int, deep int) []int {
	var out []int
	for range g.below(max(most, 0) + 1) {
		out = append(out, grow(deep))
	}
	return out
}

func (g *grower) name() string { return g.pick("a b _ f1 basex") }

func (g *grower) number() int64 {
	return []int64{0, 1, 42, 1<<63 - 1, -1, -1 << 63, -300}[g.below(7)]
}

// expr: an expression, that deep at most.
func (g *grower) expr(deep int) int {
	if deep <= 0 {
		return g.kind([]int{api.NNull, api.NTrue, api.NFalse, api.NInt, api.NStr, api.NName, api.NName, api.NThis, api.NGlobal, api.NSuper, api.NArray, api.NTable}[g.below(12)], 0)
	}
	return g.kind(api.NNull+g.below(api.NClass), deep)
}

func (g *grower) target(deep int) int {
	if deep <= 0 {
		return g.kind([]int{api.NName, api.NGlobal}[g.below(2)], 0)
	}
	return g.kind([]int{api.NName, api.NGlobal, api.NIndex, api.NField}[g.below(4)], deep)
}

func (g *grower) stmt(deep int) int {
	if deep <= 0 {
		return g.kind([]int{api.NBlock, api.NBreak, api.NContinue, api.NNothing}[g.below(4)], 0)
	}
	return g.kind(api.NBlock+g.below(api.NNothing-api.NBlock+1), deep)
}

func (g *grower) block(deep int) int { return g.kind(api.NBlock, deep) }

// pair: a key and its value.
func (g *grower) pair(deep int) (int, int) {
	switch g.below(6) {
	case 0: // a method
		name := g.name()
		return g.put(api.NStr, name, 0), g.function(name, deep)
	case 1:
		return g.put(api.NStr, "constructor", 0), g.function("", deep)
	case 2:
		return g.put(api.NStr, "constructor", 0), g.function(g.name(), deep)
	case 3:
		return g.put(api.NStr, g.name(), 0), g.expr(deep)
	}
	return g.expr(deep), g.expr(deep)
}

func (g *grower) function(name string, deep int) int {
	kids := g.some(2, func(deep int) int { return g.node(api.NParam, g.name(), g.perhaps(g.expr, deep)) }, deep-1)
	params := int64(len(kids))
	return g.put(api.NFunc, name, params, append(kids, g.block(deep-1))...)
}

// node: likewise, of one that has no number.
func (g *grower) node(kind int, text string, kids ...int) int { return g.put(kind, text, 0, kids...) }

// kind: a node of a kind.
func (g *grower) kind(kind, deep int) int {
	less := deep - 1
	switch kind {
	case api.NInt:
		return g.put(kind, "", g.number())
	case api.NStr:
		return g.put(kind, []string{"", "a", "if", "constructor", "a b", "\x00\xff\"\\\n'", "f1"}[g.below(7)], 0)
	case api.NName, api.NGlobal, api.NSuper:
		return g.put(kind, g.name(), 0)
	case api.NUnary:
		if op := g.pick("- - ! ~ typeof clone resume delete"); op != "delete" {
			return g.node(kind, op, g.expr(less))
		}
		return g.node(kind, "delete", g.target(less))
	case api.NBinary:
		return g.node(kind, g.pick("|| && | ^ & == != <=> < <= > >= in instanceof << >> >>> + - * / %"), g.expr(less), g.expr(less))
	case api.NCond:
		return g.node(kind, "", g.expr(less), g.expr(less), g.expr(less))
	case api.NAssign:
		return g.node(kind, g.pick("= <- += -= *= /= %="), g.target(less), g.expr(less))
	case api.NStep:
		return g.put(kind, g.pick("++ --"), int64(g.below(2)), g.target(less))
	case api.NIndex:
		return g.node(kind, "", g.expr(less), g.expr(less))
	case api.NField:
		return g.node(kind, g.name(), g.expr(less))
	case api.NCall:
		callee := g.expr(less)
		return g.node(kind, "", append([]int{callee}, g.some(2, g.expr, less)...)...)
	case api.NArray:
		return g.node(kind, "", g.some(min(deep, 3), g.expr, less)...)
	case api.NTable:
		var kids []int
		for range g.below(max(0, min(deep, 3)) + 1) {
			key, val := g.pair(less)
			kids = append(kids, key, val)
		}
		return g.node(kind, "", kids...)
	case api.NFunc:
		return g.function([]string{"", g.name()}[g.below(2)], deep)
	case api.NClass:
		kids := []int{g.perhaps(g.expr, less)}
		for range g.below(3) {
			key, val := g.pair(less)
			kids = append(kids, g.node(api.NMember, "", key, val))
		}
		return g.node(kind, []string{"", g.name()}[g.below(2)], kids...)
	}
	return g.statement(kind, deep-1)
}

// statement: a statement of a kind.
func (g *grower) statement(kind, less int) int {
	switch kind {
	case api.NBlock:
		return g.node(kind, "", g.some(min(less+1, 4), g.stmt, less)...)
	case api.NLocal:
		if name := g.name(); g.below(4) == 0 {
			return g.node(kind, name, g.function(name, less))
		}
		return g.node(kind, g.name(), g.perhaps(g.expr, less))
	case api.NReturn, api.NYield:
		return g.node(kind, "", g.perhaps(g.expr, less))
	case api.NExpr, api.NThrow:
		return g.node(kind, "", g.expr(less))
	case api.NIf:
		cond, then := g.expr(less), g.block(less)
		other := -1
		switch g.below(3) {
		case 0:
			other = g.block(less)
		case 1:
			other = g.kind(api.NIf, less)
		}
		return g.node(kind, "", cond, then, other)
	case api.NWhile:
		return g.node(kind, "", g.expr(less), g.block(less))
	case api.NDo:
		return g.node(kind, "", g.block(less), g.expr(less))
	case api.NFor:
		first := g.perhaps(func(deep int) int { return g.kind([]int{api.NLocal, api.NExpr}[g.below(2)], deep) }, less)
		return g.node(kind, "", first, g.perhaps(g.expr, less), g.perhaps(g.expr, less), g.block(less))
	case api.NForeach:
		return g.node(kind, []string{"\ta", "b\ta", "_\tb", "\tf1"}[g.below(4)], g.expr(less), g.block(less))
	case api.NSwitch:
		kids := []int{g.expr(less)}
		usual := g.below(4)
		for i := range g.below(4) {
			val := -1
			if i != usual {
				val = g.expr(less)
			}
			kids = append(kids, g.node(api.NCase, "", append([]int{val}, g.some(2, g.stmt, less)...)...))
		}
		return g.node(kind, "", kids...)
	case api.NTry:
		return g.node(kind, g.name(), g.block(less), g.block(less))
	case api.NConst:
		return g.node(kind, g.name(), g.kind(api.NNull+g.below(api.NStr), 0))
	case api.NEnum:
		return g.node(kind, g.name(), g.some(3, func(int) int { return g.put(api.NItem, g.name(), g.number()) }, 0)...)
	}
	return g.node(kind, "")
}

// model writes trees another way: each piece as a text of its own, put together by forms.
type model struct{ api.Tree }

const mostLevels = 10

func (m model) whole() string { return m.lines(m.Nodes[len(m.Nodes)-1].Kids) }

func (m model) lines(list []int) string {
	out := ""
	for _, at := range list {
		out += m.stmt(at) + "\n"
	}
	return out
}

// all: texts of expressions, wherever they may stand.
func (m model) all(list []int) []any {
	var out []any
	for _, at := range list {
		text := ""
		if at >= 0 && ast.Expr(m.Nodes[at].Kind) {
			text, _ = m.expr(at)
		} else if at >= 0 && m.Nodes[at].Kind == api.NBlock {
			text = "{\n" + m.lines(m.Nodes[at].Kids) + "}"
		}
		out = append(out, text)
	}
	return out
}

func (m model) stmt(at int) string {
	n := m.Nodes[at]
	kids := m.all(n.Kids)
	form := func(f string, args ...any) string { return fmt.Sprintf(f, append(kids, args...)...) }
	opt := func(i int, ahead string) string {
		if n.Kids[i] < 0 {
			return ""
		}
		return ahead + kids[i].(string)
	}
	switch n.Kind {
	case api.NIf:
		if n.Kids[2] < 0 {
			return form("if (%[1]s) %[2]s")
		}
		return form("if (%[1]s) %[2]s else %[4]s", m.stmt(n.Kids[2]))
	case api.NWhile:
		return form("while (%s) %s")
	case api.NDo:
		return form("do %s while (%s);")
	case api.NFor:
		first := ""
		if n.Kids[0] >= 0 {
			first = strings.TrimSuffix(m.stmt(n.Kids[0]), ";")
		}
		return "for (" + first + ";" + opt(1, " ") + ";" + opt(2, " ") + ") " + kids[3].(string)
	case api.NForeach:
		return form("foreach (%[3]s in %[1]s) %[2]s", strings.TrimPrefix(strings.ReplaceAll(n.Text, "\t", ", "), ", "))
	case api.NSwitch:
		out := form("switch (%[1]s) {\n")
		out = out[:strings.LastIndex(out, "{\n")+2]
		for _, at := range n.Kids[1:] {
			c := m.Nodes[at]
			if c.Kids[0] < 0 {
				out += "default:\n"
			} else {
				out += "case " + m.all(c.Kids[:1])[0].(string) + ":\n"
			}
			out += m.lines(c.Kids[1:])
		}
		return out + "}"
	case api.NTry:
		return form("try %[1]s catch (%[3]s) %[2]s", n.Text)
	case api.NEnum:
		var items []string
		for _, at := range n.Kids {
			number := fmt.Sprint(m.Nodes[at].Num)
			if m.Nodes[at].Num < 0 {
				number = fmt.Sprintf("0x%x", uint64(m.Nodes[at].Num))
			}
			items = append(items, m.Nodes[at].Text+" = "+number)
		}
		return "enum " + n.Text + " {" + strings.Join(items, ", ") + "}"
	case api.NBlock:
		return "{\n" + m.lines(n.Kids) + "}"
	case api.NLocal:
		return "local " + n.Text + opt(0, " = ") + ";"
	case api.NExpr:
		if slices.Contains([]int{api.NTable, api.NFunc, api.NClass}, m.begins(n.Kids[0])) {
			return form("(%s);")
		}
		return form("%s;")
	case api.NReturn:
		return "return" + opt(0, " ") + ";"
	case api.NYield:
		return "yield" + opt(0, " ") + ";"
	case api.NThrow:
		return form("throw %s;")
	case api.NConst:
		return form("const %[2]s = %[1]s;", n.Text)
	}
	return map[int]string{api.NBreak: "break;", api.NContinue: "continue;", api.NNothing: ";"}[n.Kind]
}

// begins: the kind of the thing an expression begins with.
func (m model) begins(at int) int {
	n := m.Nodes[at]
	ahead := n.Kind == api.NUnary || n.Kind == api.NStep && n.Num == 0
	part := n.Kind == api.NArray || n.Kind == api.NTable || n.Kind == api.NFunc || n.Kind == api.NClass
	if ahead || part || len(n.Kids) == 0 {
		return n.Kind
	}
	return m.begins(n.Kids[0])
}

// at: an expression's text at a place that asks for so much.
func (m model) at(kid, place int) string {
	text, binds := m.expr(kid)
	if binds < place {
		return "(" + text + ")"
	}
	return text
}

// expr: an expression's text, and how closely it binds: an assignment 0, a choice 1, operators by their levels from 2 on, then prefixes and steps, then all else.
func (m model) expr(at int) (string, int) {
	const unary, thing = 2 + mostLevels, 3 + mostLevels
	n := m.Nodes[at]
	switch n.Kind {
	case api.NAssign:
		return m.at(n.Kids[0], thing) + " " + n.Text + " " + m.at(n.Kids[1], 0), 0
	case api.NCond:
		return m.at(n.Kids[0], 2) + " ? " + m.at(n.Kids[1], 0) + " : " + m.at(n.Kids[2], 1), 1
	case api.NBinary:
		level := 2 + ast.Level(n.Text)
		return m.at(n.Kids[0], level) + " " + n.Text + " " + m.at(n.Kids[1], level+1), level
	case api.NUnary, api.NStep:
		if n.Num == 1 {
			return m.at(n.Kids[0], thing) + n.Text, unary
		}
		behind := m.at(n.Kids[0], unary)
		if len(n.Text) > 2 || strings.HasPrefix(behind, n.Text[:1]) {
			return n.Text + " " + behind, unary
		}
		return n.Text + behind, unary
	case api.NField:
		return m.at(n.Kids[0], thing) + "." + n.Text, thing
	case api.NIndex:
		return m.at(n.Kids[0], thing) + "[" + m.at(n.Kids[1], 0) + "]", thing
	case api.NCall:
		return m.at(n.Kids[0], thing) + "(" + m.commas(n.Kids[1:]) + ")", thing
	case api.NArray:
		return "[" + m.commas(n.Kids) + "]", thing
	case api.NTable:
		var members []string
		for pair := range slices.Chunk(n.Kids, 2) {
			members = append(members, m.member(pair, false))
		}
		return "{" + strings.Join(members, ", ") + "}", thing
	case api.NFunc:
		return strings.TrimSpace("function "+n.Text) + m.rest(n), thing
	case api.NClass:
		out := "class "
		if n.Text != "" {
			out += n.Text + " "
		}
		if n.Kids[0] >= 0 {
			out += "extends " + m.at(n.Kids[0], 0) + " "
		}
		out += "{\n"
		for _, kid := range n.Kids[1:] {
			out += m.member(m.Nodes[kid].Kids, true) + ";\n"
		}
		return out + "}", thing
	case api.NInt:
		if n.Num < 0 {
			return fmt.Sprintf("0x%x", uint64(n.Num)), thing
		}
		return fmt.Sprint(n.Num), thing
	case api.NStr:
		return str.Quote(n.Text), thing
	}
	return map[int]string{api.NNull: "null", api.NTrue: "true", api.NFalse: "false", api.NThis: "this", api.NGlobal: "::", api.NSuper: "base."}[n.Kind] + n.Text, thing
}

func (m model) commas(list []int) string {
	var out []string
	for _, at := range list {
		out = append(out, m.at(at, 0))
	}
	return strings.Join(out, ", ")
}

// rest: a function's parameters and block.
func (m model) rest(n api.Node) string {
	var params []string
	for _, at := range n.Kids[:n.Num] {
		param := m.Nodes[at].Text
		if val := m.Nodes[at].Kids[0]; val >= 0 {
			param += " = " + m.at(val, 0)
		}
		params = append(params, param)
	}
	return "(" + strings.Join(params, ", ") + ") {\n" + m.lines(m.Nodes[n.Kids[n.Num]].Kids) + "}"
}

// member: a key and its value, of a class or a table.
func (m model) member(pair []int, class bool) string {
	key, val := m.Nodes[pair[0]], m.Nodes[pair[1]]
	text := key.Kind == api.NStr
	named := text && str.Name(key.Text) && !lex.Keyword(key.Text)
	function := text && val.Kind == api.NFunc
	switch {
	case named && function && val.Text == key.Text:
		return "function " + key.Text + m.rest(val)
	case class && function && key.Text == "constructor" && val.Text == "":
		return "constructor" + m.rest(val)
	case named:
		return key.Text + " = " + m.at(pair[1], 0)
	}
	return "[" + m.at(pair[0], 0) + "] = " + m.at(pair[1], 0)
}
