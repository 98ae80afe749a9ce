package ast

import (
	"slices"
	"strings"

	"drey/api"
	"drey/lex"
	"drey/str"
)

// nothing is the kind of a kid that there isn't.
const nothing = 0

// check goes through nodes from the front on, and keeps what is known of those it has passed.
type check struct {
	nodes []api.Node
	kid   []bool // of each node: is it a kid of another one?
	deep  []int  // of each node: how many nodes are below each other under it
}

// Check: may a tree be, by its form? If not, the node at which that is told.
func Check(t api.Tree) api.Fault {
	n := len(t.Nodes)
	if n == 0 || n > MaxNodes {
		return api.Fault{Code: api.ErrLong}
	}
	c := check{nodes: t.Nodes, kid: make([]bool, n), deep: make([]int, n)}
	for at := range n {
		if e := c.node(at); e != api.OK {
			return api.Fault{Code: e, At: at}
		}
	}
	last := n - 1
	if t.Nodes[last].Kind != api.NBlock {
		return api.Fault{Code: api.ErrType, At: last}
	}
	if at := slices.Index(c.kid[:last], false); at >= 0 {
		return api.Fault{Code: api.ErrMissing, At: at}
	}
	return api.Fault{}
}

// node: what is wrong with a node, if those ahead of it aren't.
func (c *check) node(at int) api.Errno {
	n := c.nodes[at]
	if !alone(n) {
		return api.ErrForm
	}
	kinds := make([]int, len(n.Kids))
	for i, kid := range n.Kids {
		switch {
		case kid < noKid || kid >= at:
			return api.ErrMissing
		case kid == noKid:
			continue
		case c.kid[kid]:
			return api.ErrTwice
		}
		c.kid[kid] = true
		c.deep[at] = max(c.deep[at], c.deep[kid]+1)
		kinds[i] = c.nodes[kid].Kind
	}
	switch {
	case !c.kids(n, kinds):
		return api.ErrType
	case c.deep[at] > MaxDeep:
		return api.ErrDeep
	}
	return api.OK
}

// alone: may a node be, by itself?
func alone(n api.Node) bool {
	return n.Kind >= api.NNull && n.Kind < api.NKinds && n.At >= 0 && texted(n) && numbered(n)
}

// texted: may a node of its kind have its text?
func texted(n api.Node) bool {
	switch n.Kind {
	case api.NStr:
		return true
	case api.NName, api.NGlobal, api.NField, api.NParam, api.NLocal, api.NTry, api.NConst, api.NEnum, api.NItem:
		return named(n.Text)
	case api.NSuper:
		return named(n.Text) || n.Text == "constructor"
	case api.NFunc, api.NClass:
		return n.Text == "" || named(n.Text)
	case api.NUnary:
		return Unary(n.Text)
	case api.NBinary:
		return Level(n.Text) >= 0
	case api.NAssign:
		return Assign(n.Text)
	case api.NStep:
		return Step(n.Text)
	case api.NForeach:
		key, val, ok := strings.Cut(n.Text, "\t")
		return ok && (key == "" || named(key)) && named(val) && key != val
	}
	return n.Text == ""
}

// numbered: may a node of its kind have its number? (An NFunc's hangs on its kids.)
func numbered(n api.Node) bool {
	switch n.Kind {
	case api.NInt, api.NItem, api.NFunc:
		return true
	case api.NStep:
		return n.Num == 0 || n.Num == 1
	}
	return n.Num == 0
}

// named: may something have a text as its name?
func named(s string) bool { return str.Name(s) && !lex.Keyword(s) }

// kids: has a node the kids that it needs? Of each the kind is told.
func (c *check) kids(n api.Node, kinds []int) bool {
	switch {
	case n.Kind == api.NSwitch:
		return headed(kinds, Expr, one(api.NCase)) && c.defaults(n.Kids[1:]) <= 1
	case Stmt(n.Kind):
		return stmtKids(n.Kind, kinds)
	}
	return exprKids(n, kinds)
}

// defaults: how many of an NSwitch's cases have no value.
func (c *check) defaults(cases []int) int {
	count := 0
	for _, at := range cases {
		if c.nodes[at].Kids[0] == noKid {
			count++
		}
	}
	return count
}

// exprKids: has an expression, or what is only within some other node, the kids that it needs?
func exprKids(n api.Node, kinds []int) bool {
	switch n.Kind {
	case api.NUnary:
		if n.Text == "delete" {
			return row(kinds, Target)
		}
		return row(kinds, Expr)
	case api.NField:
		return row(kinds, Expr)
	case api.NBinary, api.NIndex, api.NMember:
		return row(kinds, Expr, Expr)
	case api.NCond:
		return row(kinds, Expr, Expr, Expr)
	case api.NAssign:
		return row(kinds, Target, Expr)
	case api.NStep:
		return row(kinds, Target)
	case api.NCall:
		return headed(kinds, Expr, Expr)
	case api.NArray:
		return all(kinds, Expr)
	case api.NTable:
		return len(kinds)%2 == 0 && all(kinds, Expr)
	case api.NFunc:
		params := len(kinds) - 1
		return params >= 0 && n.Num == int64(params) && all(kinds[:params], one(api.NParam)) && kinds[params] == api.NBlock
	case api.NClass:
		return headed(kinds, perhaps(Expr), one(api.NMember))
	case api.NParam:
		return row(kinds, perhaps(Expr))
	case api.NCase:
		return headed(kinds, perhaps(Expr), Stmt)
	}
	return len(kinds) == 0
}

// stmtKids: has a statement, but an NSwitch, the kids that it needs?
func stmtKids(kind int, kinds []int) bool {
	block := one(api.NBlock)
	switch kind {
	case api.NBlock:
		return all(kinds, Stmt)
	case api.NLocal, api.NReturn, api.NYield:
		return row(kinds, perhaps(Expr))
	case api.NExpr, api.NThrow:
		return row(kinds, Expr)
	case api.NIf:
		return row(kinds, Expr, block, perhaps(one(api.NBlock, api.NIf)))
	case api.NWhile, api.NForeach:
		return row(kinds, Expr, block)
	case api.NDo:
		return row(kinds, block, Expr)
	case api.NFor:
		return row(kinds, perhaps(one(api.NLocal, api.NExpr)), perhaps(Expr), perhaps(Expr), block)
	case api.NTry:
		return row(kinds, block, block)
	case api.NConst:
		return row(kinds, Literal)
	case api.NEnum:
		return all(kinds, one(api.NItem))
	}
	return len(kinds) == 0
}

// row: are there as many kinds as tests, and does each fit its own?
func row(kinds []int, tests ...func(int) bool) bool {
	if len(kinds) != len(tests) {
		return false
	}
	for i, fits := range tests {
		if !fits(kinds[i]) {
			return false
		}
	}
	return true
}

// headed: does a first kind fit one test, and do all behind it fit the other?
func headed(kinds []int, first, others func(int) bool) bool {
	return len(kinds) > 0 && first(kinds[0]) && all(kinds[1:], others)
}

// all: do all kinds fit a test?
func all(kinds []int, fits func(int) bool) bool {
	for _, kind := range kinds {
		if !fits(kind) {
			return false
		}
	}
	return true
}

// one: the test for one of some kinds.
func one(kinds ...int) func(int) bool {
	return func(kind int) bool { return slices.Contains(kinds, kind) }
}

// perhaps: the test for what fits another one, or isn't there.
func perhaps(fits func(int) bool) func(int) bool {
	return func(kind int) bool { return kind == nothing || fits(kind) }
}
