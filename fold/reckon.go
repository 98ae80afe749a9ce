package fold

import (
	"strings"

	"drey/api"
	"drey/value"
)

// noOperator is the number of an operator that layer 3 hasn't.
const noOperator = -1

// Reckon: what an operator's node comes to with values for its kids, that are no cells; false: to none, or it isn't one of these.
func Reckon(n api.Node, vals ...api.Value) (api.Value, bool) {
	if len(vals) != operands(n.Kind) || len(value.Cells(vals...)) > 0 {
		return value.Null(), false
	}
	switch n.Kind {
	case api.NUnary:
		return Unary(n.Text, vals[0])
	case api.NBinary:
		return Binary(n.Text, vals[0], vals[1])
	case api.NCond:
		return either(vals[0], vals[1], vals[2]), true
	}
	return value.Null(), false
}

// Unary: what an operator of one comes to.
func Unary(op string, v api.Value) (api.Value, bool) {
	switch op {
	case "!":
		return value.Bool(!value.True(v)), true
	case "typeof":
		if v.Kind == api.Ref {
			return value.Null(), false
		}
		return value.Str(value.Type(v)), true
	case "-":
		return told(value.Reckon(value.Minus, value.Int(0), v))
	case "~":
		return told(value.Reckon(value.Xor, value.Int(-1), v))
	}
	return value.Null(), false
}

// Binary: what an operator of two comes to.
func Binary(op string, a, b api.Value) (api.Value, bool) {
	switch op {
	case "&&":
		return either(a, b, a), true
	case "||":
		return either(a, a, b), true
	case "==":
		return value.Bool(value.Same(a, b)), true
	case "!=":
		return value.Bool(!value.Same(a, b)), true
	case "<", "<=", ">", ">=", "<=>":
		c, e := value.Compare(a, b)
		if e != api.OK {
			return value.Null(), false
		}
		return Order(op, c), true
	case "+":
		return told(value.Add(a, b))
	}
	return told(value.Reckon(operator(op), a, b))
}

// Order: what an operator of order comes to, of -1, 0 or 1.
func Order(op string, c int64) api.Value {
	switch op {
	case "<":
		return value.Bool(c < 0)
	case "<=":
		return value.Bool(c <= 0)
	case ">":
		return value.Bool(c > 0)
	case ">=":
		return value.Bool(c >= 0)
	}
	return value.Int(c)
}

// operands: how many kids a node of a kind that is reckoned has; 0 of others.
func operands(kind int) int {
	switch kind {
	case api.NUnary:
		return 1
	case api.NBinary:
		return 2
	case api.NCond:
		return 3
	}
	return 0
}

// operator: layer 3's number of an operator of two numbers.
func operator(op string) int {
	switch op {
	case "-":
		return value.Minus
	case "*":
		return value.Times
	case "/":
		return value.Over
	case "%":
		return value.Rest
	case "&":
		return value.And
	case "|":
		return value.Or
	case "^":
		return value.Xor
	case "<<":
		return value.Left
	case ">>":
		return value.Right
	case ">>>":
		return value.Logical
	}
	return noOperator
}

// either: the one value, if a first one is True, else the other; its text is its own.
func either(first, one, other api.Value) api.Value {
	if !value.True(first) {
		one = other
	}
	one.Text = strings.Clone(one.Text)
	return one
}

// told: what layer 3 answers, if that is no error.
func told(v api.Value, e api.Errno) (api.Value, bool) { return v, e == api.OK }
