package show

import (
	"strings"

	"drey/api"
)

// statements: each in a line of its own.
func (w *writer) statements(list []int) {
	for _, at := range list {
		w.statement(at)
		w.WriteByte('\n')
	}
}

func (w *writer) block(at int) {
	w.WriteString("{\n")
	w.statements(w.nodes[at].Kids)
	w.WriteByte('}')
}

func (w *writer) statement(at int) {
	n := w.nodes[at]
	switch n.Kind {
	case api.NBlock:
		w.block(at)
	case api.NIf:
		w.ifThen(n)
	case api.NWhile:
		w.WriteString("while (")
		w.any(n.Kids[0])
		w.body(n.Kids[1])
	case api.NDo:
		w.doWhile(n)
	case api.NFor:
		w.forLoop(n)
	case api.NForeach:
		w.foreach(n)
	case api.NSwitch:
		w.switchOver(n)
	case api.NTry:
		w.tryCatch(n)
	case api.NEnum:
		w.enum(n)
	default:
		w.simple(n)
		w.WriteByte(';')
	}
}

// simple: a statement that ends with a `;`, without that.
func (w *writer) simple(n api.Node) {
	put := w.WriteString
	switch n.Kind {
	case api.NLocal:
		put("local ")
		put(n.Text)
		w.behind(" = ", n.Kids[0])
	case api.NExpr:
		w.alone(n.Kids[0])
	case api.NBreak:
		put("break")
	case api.NContinue:
		put("continue")
	case api.NReturn:
		put("return")
		w.behind(" ", n.Kids[0])
	case api.NYield:
		put("yield")
		w.behind(" ", n.Kids[0])
	case api.NThrow:
		put("throw")
		w.behind(" ", n.Kids[0])
	case api.NConst:
		put("const ")
		put(n.Text)
		w.behind(" = ", n.Kids[0])
	}
}

// alone: an expression that is a statement. As such it must not begin like a block, nor like a function or a class of which a statement is made.
func (w *writer) alone(at int) {
	switch w.nodes[w.front(at)].Kind {
	case api.NTable, api.NFunc, api.NClass:
		w.bracketed(at)
	default:
		w.any(at)
	}
}

// front: what an expression begins with: the thing its operators come behind, or a prefix.
func (w *writer) front(at int) int {
	for {
		n := w.nodes[at]
		switch n.Kind {
		case api.NBinary, api.NCond, api.NAssign, api.NIndex, api.NField, api.NCall:
			at = n.Kids[0]
		case api.NStep:
			if n.Num == 0 {
				return at
			}
			at = n.Kids[0]
		default:
			return at
		}
	}
}

// body: the end of a statement's head, and the block behind it.
func (w *writer) body(at int) {
	w.WriteString(") ")
	w.block(at)
}

func (w *writer) ifThen(n api.Node) {
	w.WriteString("if (")
	w.any(n.Kids[0])
	w.body(n.Kids[1])
	if other := n.Kids[2]; other != noKid {
		w.WriteString(" else ")
		w.statement(other)
	}
}

func (w *writer) doWhile(n api.Node) {
	w.WriteString("do ")
	w.block(n.Kids[0])
	w.behind(" while (", n.Kids[1])
	w.WriteString(");")
}

func (w *writer) forLoop(n api.Node) {
	put := w.WriteString
	put("for (")
	if first := n.Kids[0]; first != noKid {
		w.simple(w.nodes[first])
	}
	put(";")
	w.behind(" ", n.Kids[1])
	put(";")
	w.behind(" ", n.Kids[2])
	w.body(n.Kids[3])
}

func (w *writer) foreach(n api.Node) {
	put := w.WriteString
	put("foreach (")
	key, val, _ := strings.Cut(n.Text, "\t")
	if key != "" {
		put(key)
		put(", ")
	}
	put(val)
	w.behind(" in ", n.Kids[0])
	w.body(n.Kids[1])
}

func (w *writer) switchOver(n api.Node) {
	put := w.WriteString
	put("switch (")
	w.any(n.Kids[0])
	put(") {\n")
	for _, at := range n.Kids[1:] {
		kids := w.nodes[at].Kids
		if kids[0] == noKid {
			put("default")
		}
		w.behind("case ", kids[0])
		put(":\n")
		w.statements(kids[1:])
	}
	put("}")
}

func (w *writer) tryCatch(n api.Node) {
	put := w.WriteString
	put("try ")
	w.block(n.Kids[0])
	put(" catch (")
	put(n.Text)
	w.body(n.Kids[1])
}

func (w *writer) enum(n api.Node) {
	put := w.WriteString
	put("enum ")
	put(n.Text)
	put(" {")
	w.list(n.Kids, func(at int) {
		item := w.nodes[at]
		put(item.Text)
		put(" = ")
		put(Int(item.Num))
	})
	put("}")
}
