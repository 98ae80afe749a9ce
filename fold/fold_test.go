package fold_test

import (
	"fmt"
	"math"
	"reflect"
	"slices"
	"strings"
	"testing"
	"unsafe"

	"drey/api"
	"drey/ast"
	"drey/fold"
	"drey/parse"
	"drey/show"
	"drey/str"
)

// read: the tree of a source that is right.
func read(t *testing.T, source string) api.Tree {
	t.Helper()
	tree, f := parse.Parse(source)
	if f != (api.Fault{}) {
		t.Fatalf("Parse(%.300q): %v", source, f)
	}
	return tree
}

// folds: the folded tree, which may be; the one that is handed in stays as it is.
func folds(t *testing.T, tree api.Tree) (api.Tree, int) {
	t.Helper()
	kept := ast.Clone(tree)
	out, count := fold.Fold(tree)
	if !reflect.DeepEqual(ast.Clone(tree), kept) {
		t.Fatalf("Fold has changed its tree: %.2000v", kept)
	}
	if f := ast.Check(out); f != (api.Fault{}) {
		t.Fatalf("Fold of %.2000v: %v", tree, f)
	}
	return out, count
}

func TestFold(t *testing.T) { // P13.1
	for _, c := range []struct {
		source, want string
		count        int
	}{
		{"1 + 2 * 3", "7;\n", 2},
		{"1 / 0", "1 / 0;\n", 0},
		{"a + 1 + 2", "a + 1 + 2;\n", 0},
		{"1 + 2 + a", "3 + a;\n", 1},
		{"a + (1 + 2)", "a + 3;\n", 1},
		{"(1 + 2) * (3 - 4)", "0xfffffffffffffffd;\n", 3},
		{"1 + 2 / 0", "1 + 2 / 0;\n", 0}, // what stays is not known to what is around
		{"(1 + 2) / (3 - 3)", "3 / 0;\n", 2},
		{"-(1 / 0) + -1", "-(1 / 0) + 0xffffffffffffffff;\n", 1},
		{"- - -1", "0xffffffffffffffff;\n", 3},
		{"!null", "true;\n", 1},
		{"!!\"\"", "true;\n", 2},
		{"!0 == true", "true;\n", 2},
		{"typeof null + typeof true + typeof false + typeof 1 + typeof \"a\"", "\"nullboolboolintegerstring\";\n", 9},
		{"-\"a\"", "-\"a\";\n", 0},
		{"~null", "~null;\n", 0},
		{"clone 1", "clone 1;\n", 0},
		{"resume 1", "resume 1;\n", 0},
		{"typeof clone 1", "typeof clone 1;\n", 0},
		{"1 in 2", "1 in 2;\n", 0},
		{"1 instanceof 2", "1 instanceof 2;\n", 0},
		{"null && true", "null;\n", 1},
		{"0 || false", "false;\n", 1},
		{"true || a", "true || a;\n", 0}, // all kids must be known
		{"false && a", "false && a;\n", 0},
		{"true ? 1 : a", "true ? 1 : a;\n", 0},
		{"true ? a : 1 + 1", "true ? a : 2;\n", 1},
		{"a ? 1 + 1 : 2 * 2", "a ? 2 : 4;\n", 2},
		{"1 < 2 ? \"y\" : 1 > 2 ? null : false", "\"y\";\n", 4},
		{"0 ? 1 : null", "null;\n", 1},
		{"1 < \"a\" ? 1 : 2", "1 < \"a\" ? 1 : 2;\n", 0},
		{"true + 1", "true + 1;\n", 0},
		{"\"a\" + true + 1 + null", "\"atrue1null\";\n", 3},
		{"[1 + 1, [2 + 2], a]", "[2, [4], a];\n", 2},
		{"x = {[1 + 1] = 2 + 2, b = 3 + 3}", "x = {[2] = 4, b = 6};\n", 3},
		{"f(1 + 1, a)(2 + 2)", "f(2, a)(4);\n", 2},
		{"a[1 + 1].b", "a[2].b;\n", 1},
		{"(\"a\" + \"b\").len(1 + 1)", "\"ab\".len(2);\n", 2},
		{"(1 + 1)[0]", "2[0];\n", 1},
		{"x += 1 + 1", "x += 2;\n", 1},
		{"x[-1]++", "x[0xffffffffffffffff]++;\n", 1},
		{"delete x[1 + 1]", "delete x[2];\n", 1},
		{"delete x[0] == !1", "delete x[0] == false;\n", 1},
		{"local a = -1", "local a = 0xffffffffffffffff;\n", 1},
		{"const K = -1; K + 1", "const K = 0xffffffffffffffff;\nK + 1;\n", 0}, // a name is no literal
		{"enum E { A = -2 }; E.A + 1", "enum E {A = 0xfffffffffffffffe}\n;\nE.A + 1;\n", 0},
		{"this + 1; ::a + 1; base.a + 1; x() + 1; [] + 1", "this + 1;\n::a + 1;\nbase.a + 1;\nx() + 1;\n[] + 1;\n", 0},
		{"x = function(a, b = 1 + 1) { return -1 }", "x = function(a, b = 2) {\nreturn 0xffffffffffffffff;\n};\n", 2},
		{"x = class extends 1 + 1 { a = 2 + 2; [3 + 3] = 4 + 4; function f(a = 5 + 5) { 6 + 6 } }", "x = class extends 2 {\na = 4;\n[6] = 8;\nfunction f(a = 10) {\n12;\n};\n};\n", 6},
		{"if (1 + 1) 2 + 2; else if (3 + 3) 4 + 4", "if (2) {\n4;\n} else if (6) {\n8;\n}\n", 4},
		{"while (1 < 2) { break }; do a; while (!1)", "while (true) {\nbreak;\n}\n;\ndo {\na;\n} while (false);\n", 2},
		{"for (local i = 1 + 1; 2 + 2; 3 + 3) 4 + 4", "for (local i = 2; 4; 6) {\n8;\n}\n", 4},
		{"for (-1;;) ;", "for (0xffffffffffffffff;;) {\n;\n}\n", 1},
		{"foreach (k, v in \"a\" + 1) { k + 1 }", "foreach (k, v in \"a1\") {\nk + 1;\n}\n", 1},
		{"switch (1 + 1) { case 2 * 1: 3 + 3; default: 4 + 4 }", "switch (2) {\ncase 2:\n6;\ndefault:\n8;\n}\n", 4},
		{"try throw 1 + 1; catch (e) { !e; !1 }", "try {\nthrow 2;\n} catch (e) {\n!e;\nfalse;\n}\n", 2},
		{"function f() { yield 1 + 1; yield; return }", "this.f <- function f() {\nyield 2;\nyield;\nreturn;\n};\n", 1},
		{"", "", 0},
		{"; break", ";\nbreak;\n", 0},
		{"null; true; false; 1; \"a\"", "null;\ntrue;\nfalse;\n1;\n\"a\";\n", 0},
		{"9223372036854775807 + 1", "0x8000000000000000;\n", 1},
	} {
		out, count := folds(t, read(t, c.source))
		if got := show.Text(out); got != c.want || count != c.count {
			t.Errorf("%s: %d\n%s, not %d\n%s", c.source, count, got, c.count, c.want)
		}
		again, count := folds(t, out)
		if count != 0 || !reflect.DeepEqual(again, out) {
			t.Errorf("%s: folded again: %d %v", c.source, count, again)
		}
	}
}

// TestNodes: the nodes that are left stand in their order; a literal stands where its operator stood.
func TestNodes(t *testing.T) { // P13.1
	// b; c ? a : 2 * 3 and -(1), the nodes of which stand mixed
	nodes := []api.Node{
		{Kind: api.NInt, At: 40, Num: 3}, {Kind: api.NName, At: 41, Text: "a"}, {Kind: api.NInt, At: 42, Num: 1}, {Kind: api.NInt, At: 43, Num: 2}, {Kind: api.NName, At: 44, Text: "c"},
		{Kind: api.NBinary, At: 45, Text: "*", Kids: []int{3, 0}}, {Kind: api.NUnary, At: 46, Text: "-", Kids: []int{2}}, {Kind: api.NReturn, At: 47, Kids: []int{-1}}, {Kind: api.NCond, At: 48, Kids: []int{4, 1, 5}},
		{Kind: api.NUnary, At: 49, Text: "!", Kids: []int{6}}, {Kind: api.NExpr, At: 50, Kids: []int{9}}, {Kind: api.NExpr, At: 51, Kids: []int{8}}, {Kind: api.NBlock, At: 52, Kids: []int{11, 7, 10}},
	}
	want := []api.Node{
		{Kind: api.NName, At: 41, Text: "a"}, {Kind: api.NName, At: 44, Text: "c"}, {Kind: api.NInt, At: 45, Num: 6}, {Kind: api.NReturn, At: 47, Kids: []int{-1}}, {Kind: api.NCond, At: 48, Kids: []int{1, 0, 2}},
		{Kind: api.NFalse, At: 49}, {Kind: api.NExpr, At: 50, Kids: []int{5}}, {Kind: api.NExpr, At: 51, Kids: []int{4}}, {Kind: api.NBlock, At: 52, Kids: []int{7, 3, 6}},
	}
	out, count := folds(t, api.Tree{Nodes: nodes})
	if count != 3 || !reflect.DeepEqual(ast.Clone(out).Nodes, ast.Clone(api.Tree{Nodes: want}).Nodes) {
		t.Errorf("Fold: %d\n%v, not\n%v", count, out.Nodes, want)
	}
	for _, c := range []struct {
		source string
		lit    api.Node
	}{
		{"x =  1 + 2", api.Node{Kind: api.NInt, At: 5, Num: 3}},
		{"x = (\n1 <2)", api.Node{Kind: api.NTrue, At: 6}},
		{"x = -(1)", api.Node{Kind: api.NInt, At: 4, Num: -1}},
		{"x = 1 + (2 == 2)", api.Node{Kind: api.NTrue, At: 8 + 1}},
		{"x =\t0 ? 1 : \"a\\n\"", api.Node{Kind: api.NStr, At: 4, Text: "a\n"}},
		{"x = true && null", api.Node{Kind: api.NNull, At: 4}},
		{"x = !5", api.Node{Kind: api.NFalse, At: 4}},
	} {
		out, _ := folds(t, read(t, c.source))
		if !slices.ContainsFunc(out.Nodes, func(n api.Node) bool { return reflect.DeepEqual(n, c.lit) }) {
			t.Errorf("%q: no %v in %v", c.source, c.lit, out.Nodes)
		}
	}
}

// TestTreesThatMayNotBe: nothing comes of them.
func TestTreesThatMayNotBe(t *testing.T) { // P13.1, P1
	one := api.Node{Kind: api.NInt, Num: 1}
	sum := api.Node{Kind: api.NBinary, Text: "+", Kids: []int{0, 1}}
	stmt := api.Node{Kind: api.NExpr, Kids: []int{2}}
	block := api.Node{Kind: api.NBlock, Kids: []int{3}}
	if _, count := fold.Fold(api.Tree{Nodes: []api.Node{one, one, sum, stmt, block}}); count != 1 {
		t.Fatalf("what may be: %d", count)
	}
	for _, nodes := range [][]api.Node{
		nil, {}, {one}, {one, one, sum}, {one, one, sum, stmt}, {one, one, sum, stmt, block, one}, {one, one, sum, stmt, {Kind: api.NBlock}}, {one, one, sum, stmt, {Kind: api.NBlock, Kids: []int{3, 3}}},
		{one, one, {Kind: api.NBinary, Text: "+", Kids: []int{0, 0}}, stmt, block}, {one, one, {Kind: api.NBinary, Text: "+", Kids: []int{0, 7}}, stmt, block}, {one, one, {Kind: api.NBinary, Text: "+", Kids: []int{0, 2}}, stmt, block}, {one, one, {Kind: api.NBinary, Text: "+", Kids: []int{0, -1}}, stmt, block},
		{one, one, {Kind: api.NBinary, Text: "+", Kids: []int{0, math.MinInt}}, stmt, block}, {one, one, {Kind: api.NBinary, Text: "+", Kids: []int{0, 1, 1}}, stmt, block}, {one, one, {Kind: api.NBinary, Text: "!", Kids: []int{0, 1}}, stmt, block}, {one, one, {Kind: api.NBinary, Text: "+"}, stmt, block},
		{one, one, {Kind: api.NBinary, Text: "+", Kids: []int{0, 1}, At: -1}, stmt, block}, {one, one, {Kind: api.NBinary, Text: "+", Kids: []int{0, 1}, Num: 1}, stmt, block}, {{Kind: 0}, one, sum, stmt, block}, {{Kind: 99}, one, sum, stmt, block}, make([]api.Node, ast.MaxNodes+1),
	} {
		tree := api.Tree{Nodes: nodes}
		if ast.Check(tree).Code == api.OK {
			t.Errorf("%v may be", nodes)
		}
		if out, count := fold.Fold(tree); len(out.Nodes) != 0 || count != 0 {
			t.Errorf("Fold of %.300v: %d %v", nodes, count, out)
		}
	}
}

// model tells what is known of a tree's nodes, from the whole on down.
type model struct {
	api.Tree
	under map[int]bool // is a node within one that is known?
	at    map[int]api.Value
}

// look: is a node known?
func (m *model) look(at int) bool {
	if at < 0 {
		return false
	}
	n := m.Nodes[at]
	switch n.Kind {
	case api.NNull:
		m.at[at] = none
	case api.NTrue, api.NFalse:
		m.at[at], _ = truth(n.Kind == api.NTrue)
	case api.NInt:
		m.at[at], _ = number(n.Num)
	case api.NStr:
		m.at[at] = api.Value{Kind: api.Str, Text: n.Text}
	}
	var vals []api.Value
	for _, kid := range n.Kids {
		if m.look(kid) {
			vals = append(vals, m.at[kid])
		}
	}
	if v, ok := reckon(n, vals); ok && len(vals) == len(n.Kids) {
		m.at[at] = v
		for _, kid := range n.Kids {
			m.under[kid] = true
		}
	}
	_, ok := m.at[at]
	return ok
}

// whole: the folded tree, and how many nodes are gone.
func (m *model) whole() ([]api.Node, int) {
	m.look(len(m.Nodes) - 1)
	var out []api.Node
	count := 0
	for at, n := range m.Nodes {
		v, known := m.at[at]
		if known && len(n.Kids) > 0 {
			count++
			kind := map[string]int{"0 0": api.NNull, "1 0": api.NFalse, "1 1": api.NTrue}[fmt.Sprint(v.Kind, v.Num)]
			if v.Kind == api.Int || v.Kind == api.Str {
				kind = api.NInt + v.Kind - api.Int
			}
			n = api.Node{Kind: kind, At: n.At, Text: v.Text}
			if kind == api.NInt {
				n.Num = v.Num
			}
		}
		if m.under[at] {
			continue
		}
		n.Kids = slices.Clone(n.Kids)
		for i, kid := range n.Kids {
			for ahead := range max(kid, 0) {
				if m.under[ahead] {
					n.Kids[i]--
				}
			}
		}
		out = append(out, n)
	}
	return out, count
}

// writer makes sources and orders of nodes at will, the same ones each time of the same seed.
type writer struct{ seed uint32 }

func (w *writer) below(n int) int {
	w.seed = w.seed*1664525 + 1013904223
	return int(w.seed>>8) % n
}

func (w *writer) pick(list ...string) string { return list[w.below(len(list))] }

// fill: a form with its marks filled: X an expression, L a literal, O an operator of two, U one of one, S statements.
func (w *writer) fill(form string, deep int) string {
	var out strings.Builder
	for _, mark := range form {
		switch mark {
		case 'X':
			out.WriteString(w.expr(deep - 1))
		case 'L':
			out.WriteString(w.pick("null", "true", "false", "0", "1", "2", "7", "63", "9223372036854775807", "0x8000000000000000", "\"\"", "\"a\"", "\"b\""))
		case 'O':
			out.WriteString(w.pick(append(strings.Fields(binaries), "in", "instanceof", "+", "-", "*")...))
		case 'U':
			out.WriteString(w.pick("! ", "- ", "~ ", "typeof ", "- ", "clone "))
		case 'S':
			for range w.below(3) {
				out.WriteString(w.stmt(deep-1) + "\n")
			}
		default:
			out.WriteRune(mark)
		}
	}
	return out.String()
}

func (w *writer) expr(deep int) string {
	if deep <= 0 {
		return w.fill(w.pick("L", "L", "L", "L", "L", "L", "L", "a"), 0)
	}
	return w.fill(w.pick("L", "(X O X)", "(X O X)", "(X O X)", "(UX)", "(UX)", "(X ? X : X)", "(L ? X : X)", "f(X, X)", "[X, X]", "({ [X] = X, b = X })", "a[X]", "(X).b", "(x = X)", "(x[X] -= X)", "function(c, d = X) { S }", "class { [X] = X }"), deep)
}

func (w *writer) stmt(deep int) string {
	return w.fill(w.pick("y = X", "x = X", "local z = X", "if (X) { S } else { S }", "while (X) { S }", "for (X; X; X) { S }", "foreach (v in X) { S }", "switch (X) { case X: S default: S }", "return X", "try { S } catch (e) { throw X }", "yield X", "return", "{ S }", "const K = -1"), deep)
}

// mix: a tree's nodes in another order, each still behind its kids.
func (w *writer) mix(t api.Tree) api.Tree {
	number := map[int]int{}
	var out []api.Node
	for len(out) < len(t.Nodes) {
		at := w.below(len(t.Nodes))
		for { // the first one from there on that can come next
			at = (at + 1) % len(t.Nodes)
			_, there := number[at]
			if !there && !slices.ContainsFunc(t.Nodes[at].Kids, func(kid int) bool { _, ok := number[kid]; return kid >= 0 && !ok }) {
				break
			}
		}
		n := ast.Clone(api.Tree{Nodes: t.Nodes[at : at+1]}).Nodes[0]
		for i, kid := range n.Kids {
			if kid >= 0 {
				n.Kids[i] = number[kid]
			}
		}
		number[at] = len(out)
		out = append(out, n)
	}
	return api.Tree{Nodes: out}
}

// TestManyTrees: trees made at will, whose nodes stand in any order, are folded as the model folds them.
func TestManyTrees(t *testing.T) { // P13.1, P13.2
	total, most, deep := 0, 0, 0
	for seed := range uint32(4000) {
		w := &writer{seed: seed}
		source := ""
		for range 1 + w.below(4) {
			source += w.stmt(1+w.below(5)) + "\n"
		}
		tree := read(t, source)
		if seed%2 == 1 {
			tree = w.mix(tree)
		}
		m := &model{Tree: tree, under: map[int]bool{}, at: map[int]api.Value{}}
		want, wantCount := m.whole()
		out, count := folds(t, tree)
		if count != wantCount || !reflect.DeepEqual(ast.Clone(out).Nodes, ast.Clone(api.Tree{Nodes: want}).Nodes) {
			t.Fatalf("Fold(%s): %d\n%v, not %d\n%v", source, count, out.Nodes, wantCount, want)
		}
		total += count
		most = max(most, count)
		deep += len(m.under)
	}
	if total < 5000 || most < 20 || deep < 10000 {
		t.Errorf("too few to tell anything: %d %d %d", total, most, deep)
	}
}

// chain: a statement of an operator of one, or of two, so many times, the kid of each the one ahead.
func chain(many int, op, leaf string) api.Tree {
	nodes := []api.Node{{Kind: api.NStr, Text: leaf}}
	for range many {
		last := len(nodes) - 1
		if op == "!" {
			nodes = append(nodes, api.Node{Kind: api.NUnary, Text: op, Kids: []int{last}})
			continue
		}
		nodes = append(nodes, api.Node{Kind: api.NStr, Text: "x"}, api.Node{Kind: api.NBinary, Text: op, Kids: []int{last, last + 1}})
	}
	return api.Tree{Nodes: append(nodes, api.Node{Kind: api.NExpr, Kids: []int{len(nodes) - 1}}, api.Node{Kind: api.NBlock, Kids: []int{len(nodes)}})}
}

func TestDeep(t *testing.T) { // P13.1
	most := ast.MaxDeep - 2
	out, count := folds(t, chain(most, "!", ""))
	if count != most || show.Text(out) != "true;\n" {
		t.Errorf("%d %s", count, show.Text(out))
	}
	out, count = folds(t, chain(most, "+", "a"))
	if count != most || show.Text(out) != "\"a"+strings.Repeat("x", most)+"\";\n" {
		t.Errorf("%d %s", count, show.Text(out))
	}
	if out, count := fold.Fold(chain(most+1, "!", "")); count != 0 || len(out.Nodes) != 0 {
		t.Error("too deep")
	}
}

// TestLongTexts: texts that would be too long together stay apart, and so does all that hangs on them.
func TestLongTexts(t *testing.T) { // P13.1
	out, count := folds(t, chain(3, "+", strings.Repeat("y", str.MaxLen-2)))
	if count != 2 || len(out.Nodes) != 5 || len(out.Nodes[0].Text) != str.MaxLen || out.Nodes[1].Text != "x" || out.Nodes[2].Kind != api.NBinary {
		t.Errorf("%d, %d nodes", count, len(out.Nodes))
	}
	out, count = folds(t, chain(3, "+", strings.Repeat("y", str.MaxLen+5)))
	if count != 0 || len(out.Nodes) != 9 {
		t.Errorf("%d, %d nodes", count, len(out.Nodes))
	}
}

// TestLongTrees: as many nodes as may be are folded soon.
func TestLongTrees(t *testing.T) { // P1, P13.1
	var nodes []api.Node
	var kids []int
	for len(nodes) < ast.MaxNodes-6 {
		at := len(nodes)
		nodes = append(nodes, api.Node{Kind: api.NInt, Num: int64(at)}, api.Node{Kind: api.NInt, Num: 1}, api.Node{Kind: api.NBinary, Text: "+", Kids: []int{at, at + 1}}, api.Node{Kind: api.NExpr, Kids: []int{at + 2}})
		kids = append(kids, at+3)
	}
	for len(nodes) < ast.MaxNodes-1 {
		kids = append(kids, len(nodes))
		nodes = append(nodes, api.Node{Kind: api.NNothing})
	}
	sums := (ast.MaxNodes - 4) / 4
	out, count := folds(t, api.Tree{Nodes: append(nodes, api.Node{Kind: api.NBlock, Kids: kids})})
	if count != sums || len(out.Nodes) != ast.MaxNodes-2*sums {
		t.Errorf("%d gone, %d nodes, of %d", count, len(out.Nodes), len(nodes)+1)
	}
}

// TestOwnTrees: a tree that is answered shares nothing with the one that is handed in, nor with another answer.
func TestOwnTrees(t *testing.T) { // P2
	tree := read(t, "x = [1 + 1, a, \"some text\", true && \"other text\"]")
	tree.Nodes = append(tree.Nodes, api.Node{Kind: 77})[:len(tree.Nodes)]
	kept := ast.Clone(api.Tree{Nodes: tree.Nodes[:len(tree.Nodes)+1]})
	one, _ := fold.Fold(tree)
	two, _ := fold.Fold(tree)
	three := ast.Clone(two)
	for i, n := range one.Nodes {
		if n.Text != "" && (unsafe.StringData(n.Text) == unsafe.StringData(two.Nodes[i].Text) || slices.ContainsFunc(tree.Nodes, func(m api.Node) bool { return unsafe.StringData(n.Text) == unsafe.StringData(m.Text) })) {
			t.Errorf("the text %q is shared", n.Text)
		}
		_ = append(n.Kids, 78)
		for j := range n.Kids {
			n.Kids[j] = 79
		}
		one.Nodes[i].Kind = 80
	}
	_ = append(one.Nodes, api.Node{Kind: 81})
	if !reflect.DeepEqual(ast.Clone(two), three) || !reflect.DeepEqual(ast.Clone(api.Tree{Nodes: tree.Nodes[:len(tree.Nodes)+1]}), kept) {
		t.Error("trees share memory")
	}
}
