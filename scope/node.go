package scope

import (
	"strings"

	"drey/api"
	"drey/ast"
	"drey/value"
)

// node: meets a node, if there is one and nothing was wrong so far, and all that it is made of.
func (l *look) node(at int) {
	if at == noKid || l.fault.Code != api.OK {
		return
	}
	l.info.Of[at] = l.in
	if n := l.nodes[at]; ast.Stmt(n.Kind) {
		l.statement(at, n)
	} else {
		l.expression(at, n)
	}
}

// all: meets nodes, one behind the other.
func (l *look) all(list []int) {
	for _, at := range list {
		l.node(at)
	}
}

// expression: likewise of what is no statement.
func (l *look) expression(at int, n api.Node) {
	switch n.Kind {
	case api.NName:
		l.info.Names[at] = l.name(at)
	case api.NField:
		l.field(at, n)
	case api.NAssign, api.NStep:
		l.target(n.Kids[0])
		l.all(n.Kids[1:])
	case api.NUnary:
		l.unary(at, n)
	case api.NFunc:
		params := n.Kids[:n.Num]
		for _, param := range params {
			l.node(l.nodes[param].Kids[0])
		}
		l.function(at, params, func() { l.node(n.Kids[n.Num]) })
	case api.NCase:
		l.node(n.Kids[0])
		l.block(func() { l.all(n.Kids[1:]) })
	default:
		l.all(n.Kids)
	}
}

// field: an NField; an enum's is the item's number.
func (l *look) field(at int, n api.Node) {
	over := n.Kids[0]
	enum, ok := l.enumOf(over)
	if !ok {
		l.node(over)
		return
	}
	l.info.Of[over] = l.in
	number, ok := enum.items[n.Text]
	if !ok {
		l.fail(api.ErrMissing, at)
		return
	}
	l.info.Names[at] = Name{Kind: Const, Value: value.Int(number)}
}

// target: meets what changes, which a constant can't.
func (l *look) target(at int) {
	l.node(at)
	if l.info.Names[at].Kind == Const {
		l.fail(api.ErrType, at)
	}
}

func (l *look) unary(at int, n api.Node) {
	kid := n.Kids[0]
	if n.Text != "delete" {
		l.node(kid)
		return
	}
	l.target(kid)
	if l.nodes[kid].Kind == api.NName && l.info.Names[kid].Kind != Slot {
		l.fail(api.ErrType, at)
	}
}

// statement: meets a statement's node and all that it is made of.
func (l *look) statement(at int, n api.Node) {
	switch n.Kind {
	case api.NBlock:
		l.block(func() { l.all(n.Kids) })
	case api.NLocal:
		l.local(at, n)
	case api.NWhile, api.NDo:
		l.inLoop(func() { l.all(n.Kids) })
	case api.NFor:
		l.block(func() {
			l.node(n.Kids[0])
			l.inLoop(func() { l.all(n.Kids[1:]) })
		})
	case api.NForeach:
		l.foreach(at, n)
	case api.NSwitch:
		l.around(place{in: l.in, loop: l.loop, ended: true}, func() { l.all(n.Kids) })
	case api.NBreak:
		l.need(l.ended, at)
	case api.NContinue:
		l.need(l.loop, at)
	case api.NYield:
		l.need(l.in != whole, at)
		l.info.Funcs[l.in].Yields = true
		l.all(n.Kids)
	case api.NTry:
		l.node(n.Kids[0])
		l.block(func() {
			l.declare(at, 0, n.Text)
			l.node(n.Kids[1])
		})
	case api.NConst:
		l.fix(at, constant{value: Literal(l.nodes[n.Kids[0]])})
		l.all(n.Kids)
	case api.NEnum:
		l.enum(at, n)
	default:
		l.all(n.Kids)
	}
}

// need: what a statement needs around it; without that it is wrong.
func (l *look) need(ok bool, at int) {
	if !ok {
		l.fail(api.ErrState, at)
	}
}

// local: an NLocal; a function of its very name can see it, no other value can.
func (l *look) local(at int, n api.Node) {
	val := n.Kids[0]
	if val != noKid && l.nodes[val].Kind == api.NFunc && l.nodes[val].Text == n.Text {
		l.declare(at, 0, n.Text)
		l.node(val)
		return
	}
	l.node(val)
	l.declare(at, 0, n.Text)
}

func (l *look) foreach(at int, n api.Node) {
	l.node(n.Kids[0])
	l.block(func() {
		key, val, _ := strings.Cut(n.Text, "\t")
		if key != "" {
			l.declare(at, 0, key)
		}
		l.declare(at, 1, val)
		l.inLoop(func() { l.node(n.Kids[1]) })
	})
}

// enum: an NEnum, each of whose items has a name of its own.
func (l *look) enum(at int, n api.Node) {
	items := map[string]int64{}
	l.fix(at, constant{enum: true, items: items})
	for _, kid := range n.Kids {
		l.node(kid)
		item := l.nodes[kid]
		if _, ok := items[item.Text]; ok {
			l.fail(api.ErrTwice, kid)
			return
		}
		items[item.Text] = item.Num
	}
}
