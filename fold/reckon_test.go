package fold_test

import (
	"cmp"
	"math"
	"slices"
	"strconv"
	"strings"
	"testing"
	"unsafe"

	"drey/api"
	"drey/fold"
	"drey/str"
	"drey/value"
)

const (
	least = math.MinInt64
	most  = math.MaxInt64
)

// unaries, binaries: the operators that come to something; others: some that never do.
const (
	unaries  = "! - ~ typeof"
	binaries = "&& || == != + < <= > >= <=> - * / % & | ^ << >> >>>"
	others   = "clone resume delete in instanceof = <- += -= *= /= %= ++ -- :: . ? : === <> ** && |& typeo Typeof"
)

// operators: all of these, and some that are none.
func operators() []string {
	return append(strings.Fields(unaries+" "+binaries+" "+others), "", " ", "+ ", " +", "!!", "\x00", "\xff")
}

// values: some that may be, of all kinds; none of them twice.
func values() []api.Value {
	list := []api.Value{value.Null(), value.Bool(false), value.Bool(true)}
	for _, n := range []int64{0, 1, -1, 2, -2, 3, 7, -7, 31, 62, 63, 64, 65, -63, -64, 255, 1 << 32, -1 << 32, 1<<62 + 5, most, most - 1, least, least + 1} {
		list = append(list, value.Int(n))
	}
	for _, s := range []string{"", "a", "ab", "b", "B", "0", "1", "null", "\x00", "\xff", "é\n\"\\"} {
		list = append(list, value.Str(s))
	}
	for _, at := range []int{0, 1, 2, 1 << 20} {
		list = append(list, value.Ref(at))
	}
	return list
}

// wild: values that may not be.
func wild() []api.Value {
	return []api.Value{
		{Kind: 5}, {Kind: -1}, {Kind: least, Num: least, Text: "x"}, {Kind: most}, {Kind: api.Null, Num: 1}, {Kind: api.Null, Text: "a"}, {Kind: api.Bool, Num: 2}, {Kind: api.Bool, Text: "t"},
		{Kind: api.Int, Text: "1"}, {Kind: api.Str, Num: 1, Text: "s"}, {Kind: api.Ref, Num: -1}, {Kind: api.Ref, Num: 1, Text: "r"},
	}
}

// none is what an operator comes to that comes to nothing.
var none = api.Value{}

func isTrue(v api.Value) bool {
	return !slices.Contains([]api.Value{{}, {Kind: api.Bool}, {Kind: api.Int}}, v)
}

func truth(b bool) (api.Value, bool) {
	v := api.Value{Kind: api.Bool}
	if b {
		v.Num = 1
	}
	return v, true
}

func number(n int64) (api.Value, bool) { return api.Value{Kind: api.Int, Num: n}, true }

// unary: what the document says of an operator of one, worked out by Go's own operators.
func unary(op string, v api.Value) (api.Value, bool) {
	switch {
	case op == "!":
		return truth(!isTrue(v))
	case op == "typeof" && v.Kind != api.Ref:
		return value.Str([]string{api.Null: "null", api.Bool: "bool", api.Int: "integer", api.Str: "string"}[v.Kind]), true
	case op == "-" && v.Kind == api.Int:
		return number(-v.Num)
	case op == "~" && v.Kind == api.Int:
		return number(^v.Num)
	}
	return none, false
}

// written: a value's text; false: it has none.
func written(v api.Value) (string, bool) {
	switch v.Kind {
	case api.Null:
		return "null", true
	case api.Bool:
		return strconv.FormatBool(v.Num == 1), true
	case api.Int:
		return strconv.FormatInt(v.Num, 10), true
	}
	return v.Text, v.Kind == api.Str
}

// stand: how two values stand to each other; false: they don't.
func stand(a, b api.Value) (int, bool) {
	switch {
	case a == b:
		return 0, true
	case a.Kind == api.Null:
		return -1, true
	case b.Kind == api.Null:
		return 1, true
	case a.Kind == api.Str && b.Kind == api.Str:
		return strings.Compare(a.Text, b.Text), true
	}
	return cmp.Compare(a.Num, b.Num), a.Kind == b.Kind && a.Kind != api.Ref
}

// binary: likewise, of two.
func binary(op string, a, b api.Value) (api.Value, bool) {
	c, ok := stand(a, b)
	switch op {
	case "&&":
		return map[bool]api.Value{true: b, false: a}[isTrue(a)], true
	case "||":
		return map[bool]api.Value{true: a, false: b}[isTrue(a)], true
	case "==":
		return truth(a == b)
	case "!=":
		return truth(a != b)
	case "<", "<=", ">", ">=", "<=>":
		if !ok {
			return none, false
		}
		if op == "<=>" {
			return number(int64(c))
		}
		return truth(map[string]bool{"<": c < 0, "<=": c <= 0, ">": c > 0, ">=": c >= 0}[op])
	case "+":
		x, one := written(a)
		y, two := written(b)
		if one && two && (a.Kind == api.Str || b.Kind == api.Str) && len(x)+len(y) <= str.MaxLen {
			return value.Str(x + y), true
		}
	}
	if a.Kind != api.Int || b.Kind != api.Int {
		return none, false
	}
	return numbers(op, a.Num, b.Num)
}

func numbers(op string, a, b int64) (api.Value, bool) {
	switch op {
	case "+":
		return number(a + b)
	case "-":
		return number(a - b)
	case "*":
		return number(a * b)
	case "/":
		if b != 0 {
			return number(a / b)
		}
	case "%":
		if b != 0 {
			return number(a % b)
		}
	case "&":
		return number(a & b)
	case "|":
		return number(a | b)
	case "^":
		return number(a ^ b)
	case "<<":
		return number(a << (uint64(b) % 64))
	case ">>":
		return number(a >> (uint64(b) % 64))
	case ">>>":
		return number(int64(uint64(a) >> (uint64(b) % 64)))
	}
	return none, false
}

func TestUnary(t *testing.T) { // P13.2
	for _, op := range operators() {
		for _, v := range values() {
			want, ok := unary(op, v)
			if got, is := fold.Unary(op, v); got != want || is != ok {
				t.Errorf("Unary(%q, %v): %v %v, not %v %v", op, v, got, is, want, ok)
			}
		}
	}
}

func TestBinary(t *testing.T) { // P13.2
	for _, op := range operators() {
		for _, a := range values() {
			for _, b := range values() {
				want, ok := binary(op, a, b)
				if got, is := fold.Binary(op, a, b); got != want || is != ok {
					t.Errorf("Binary(%q, %v, %v): %v %v, not %v %v", op, a, b, got, is, want, ok)
				}
			}
		}
	}
}

// TestSome: some that are written out.
func TestSome(t *testing.T) { // P13.2
	a, i, s := value.Str("a"), value.Int, value.Str
	for _, c := range []struct {
		op   string
		a, b api.Value
		want api.Value
		ok   bool
	}{
		{"+", i(most), i(1), i(least), true}, {"+", a, i(1), s("a1"), true}, {"+", value.Null(), a, s("nulla"), true}, {"+", a, value.Bool(false), s("afalse"), true}, {"+", a, value.Ref(1), none, false}, {"+", value.Bool(true), i(1), none, false},
		{"-", i(3), i(5), i(-2), true}, {"-", a, a, none, false}, {"*", i(-3), i(5), i(-15), true}, {"/", i(-7), i(2), i(-3), true}, {"/", i(1), i(0), none, false}, {"/", i(least), i(-1), i(least), true}, {"%", i(-7), i(2), i(-1), true}, {"%", i(7), i(0), none, false},
		{"&", i(12), i(10), i(8), true}, {"|", i(12), i(10), i(14), true}, {"^", i(12), i(10), i(6), true}, {"<<", i(1), i(65), i(2), true}, {">>", i(-8), i(1), i(-4), true}, {">>>", i(-8), i(1), i(most - 3), true}, {"&", value.Bool(true), value.Bool(true), none, false},
		{"&&", i(0), a, i(0), true}, {"&&", s(""), a, a, true}, {"||", value.Null(), a, a, true}, {"||", s(""), a, s(""), true}, {"&&", value.Ref(0), value.Ref(1), value.Ref(1), true}, {"||", value.Ref(0), a, value.Ref(0), true},
		{"==", i(1), value.Bool(true), value.Bool(false), true}, {"!=", i(1), s("1"), value.Bool(true), true}, {"==", value.Ref(1), value.Ref(1), value.Bool(true), true}, {"==", value.Null(), value.Null(), value.Bool(true), true},
		{"<", s("a"), s("ab"), value.Bool(true), true}, {"<", value.Null(), i(least), value.Bool(true), true}, {">=", i(1), i(1), value.Bool(true), true}, {"<=>", i(3), i(2), i(1), true}, {"<=", i(1), a, none, false}, {">", value.Ref(1), value.Ref(2), none, false}, {">", value.Ref(2), value.Ref(2), value.Bool(false), true},
		{"in", a, a, none, false}, {"instanceof", a, a, none, false}, {"=", a, a, none, false}, {"!", a, a, none, false}, {"", i(1), i(1), none, false},
	} {
		if got, ok := fold.Binary(c.op, c.a, c.b); got != c.want || ok != c.ok {
			t.Errorf("Binary(%q, %v, %v): %v %v", c.op, c.a, c.b, got, ok)
		}
	}
	if v, ok := fold.Unary("typeof", value.Ref(3)); ok || v != none {
		t.Error("the type of a cell")
	}
	if v, ok := fold.Unary("!", value.Ref(0)); !ok || v != value.Bool(false) {
		t.Error("! of a cell")
	}
}

// TestTooLong: texts that would be too long together come to nothing.
func TestTooLong(t *testing.T) { // P13.2
	long := value.Str(strings.Repeat("x", str.MaxLen-1))
	if v, ok := fold.Binary("+", long, value.Int(7)); !ok || v.Text != long.Text+"7" {
		t.Error("as long as it may be")
	}
	for _, v := range []api.Value{value.Int(10), value.Str("ab"), long, value.Null()} {
		if got, ok := fold.Binary("+", v, long); ok || got != none {
			t.Errorf("too long with %.10q", v.Text)
		}
	}
}

func TestOrder(t *testing.T) { // P13.2
	for _, c := range []int64{least, -2, -1, 0, 1, 2, most} {
		for op, is := range map[string]bool{"<": c < 0, "<=": c <= 0, ">": c > 0, ">=": c >= 0} {
			if want, _ := truth(is); fold.Order(op, c) != want {
				t.Errorf("Order(%q, %d): %v", op, c, fold.Order(op, c))
			}
		}
		for _, op := range operators() {
			if !slices.Contains([]string{"<", "<=", ">", ">="}, op) && fold.Order(op, c) != (api.Value{Kind: api.Int, Num: c}) {
				t.Errorf("Order(%q, %d): %v", op, c, fold.Order(op, c))
			}
		}
	}
}

// reckon: what the document says of a node.
func reckon(n api.Node, vals []api.Value) (api.Value, bool) {
	if slices.ContainsFunc(vals, func(v api.Value) bool { return v.Kind == api.Ref }) {
		return none, false
	}
	switch {
	case n.Kind == api.NUnary && len(vals) == 1:
		return unary(n.Text, vals[0])
	case n.Kind == api.NBinary && len(vals) == 2:
		return binary(n.Text, vals[0], vals[1])
	case n.Kind == api.NCond && len(vals) == 3:
		return map[bool]api.Value{true: vals[1], false: vals[2]}[isTrue(vals[0])], true
	}
	return none, false
}

func TestReckon(t *testing.T) { // P13.2
	some := []api.Value{value.Null(), value.Bool(true), value.Int(0), value.Int(6), value.Int(most), value.Str("a"), value.Ref(0), value.Ref(7)}
	var rows [][]api.Value
	for _, a := range some {
		rows = append(rows, []api.Value{a})
		for _, b := range some {
			rows = append(rows, []api.Value{a, b})
			for _, c := range some {
				rows = append(rows, []api.Value{a, b, c}, []api.Value{a, b, c, value.Null()})
			}
		}
	}
	rows = append(rows, nil)
	kinds := []int{least, -1, 0, api.NUnary, api.NBinary, api.NCond, api.NNull, api.NInt, api.NName, api.NAssign, api.NStep, api.NIndex, api.NCall, api.NKinds, most}
	for _, kind := range kinds {
		for _, op := range []string{"+", "-", "!", "typeof", "clone", "&&", "<", "in", ""} {
			n := api.Node{Kind: kind, Text: op, At: 4, Num: 9, Kids: []int{7}} // but for its kind and its text nothing of it is asked
			for _, vals := range rows {
				want, ok := reckon(n, vals)
				if got, is := fold.Reckon(n, vals...); got != want || is != ok {
					t.Errorf("Reckon(%d %q, %v): %v %v, not %v %v", kind, op, vals, got, is, want, ok)
				}
			}
		}
	}
}

// TestAnyValues: no call panics, whatever it is handed, and each answers the same twice; what is handed on is as it is.
func TestAnyValues(t *testing.T) { // P1, P2
	all := append(values(), wild()...)
	for _, op := range operators() {
		for _, a := range all {
			x, ok := fold.Unary(op, a)
			if y, is := fold.Unary(op, a); x != y || ok != is {
				t.Errorf("Unary(%q, %v): %v, then %v", op, a, x, y)
			}
			for _, b := range all {
				x, ok := fold.Binary(op, a, b)
				if y, is := fold.Binary(op, a, b); x != y || ok != is {
					t.Errorf("Binary(%q, %v, %v): %v, then %v", op, a, b, x, y)
				}
			}
		}
	}
	for _, v := range wild() {
		for _, kind := range []int{api.NUnary, api.NBinary, api.NCond} {
			fold.Reckon(api.Node{Kind: kind, Text: "-"}, v, v, v)
			fold.Reckon(api.Node{Kind: kind, Text: "+"}, v, v)
			fold.Reckon(api.Node{Kind: kind, Text: "typeof"}, v)
		}
		if got, ok := fold.Binary("&&", value.Int(1), v); got != v || !ok {
			t.Errorf("%v handed on: %v", v, got)
		}
		if got, ok := fold.Reckon(api.Node{Kind: api.NCond}, value.Null(), value.Null(), v); v.Kind != api.Ref && (got != v || !ok) {
			t.Errorf("%v handed on: %v", v, got)
		}
	}
}

// TestOwnValues: values that are handed in stay as they are, with their list's spare room; a text that is answered is of its own.
func TestOwnValues(t *testing.T) { // P2
	back := append(values(), wild()...)
	kept := slices.Clone(back)
	n := api.Node{Kind: api.NCond}
	for i := 3; i < len(back); i++ {
		fold.Reckon(n, back[i-3:i]...)
	}
	if !slices.Equal(back, kept) {
		t.Error("Reckon changed its list")
	}
	a, one := value.Str("some text"), value.Int(1)
	for i, call := range []func() (api.Value, bool){
		func() (api.Value, bool) { return fold.Reckon(n, one, a, one) },
		func() (api.Value, bool) { return fold.Reckon(n, value.Null(), one, a) },
		func() (api.Value, bool) { return fold.Binary("&&", one, a) },
		func() (api.Value, bool) { return fold.Binary("||", a, one) },
		func() (api.Value, bool) { return fold.Binary("+", a, value.Str("")) },
	} {
		x, _ := call()
		y, _ := call()
		if x != a || y != a || unsafe.StringData(x.Text) == unsafe.StringData(a.Text) || unsafe.StringData(x.Text) == unsafe.StringData(y.Text) {
			t.Errorf("call %d shares its text", i)
		}
	}
}
