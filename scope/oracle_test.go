package scope_test

import (
	"fmt"
	"reflect"
	"slices"
	"strings"
	"testing"

	"drey/api"
	"drey/parse"
	"drey/scope"
)

// oracle looks a tree over another way: it lists all that is met, in order, and asks of each name anew, by the nodes around it, what of all that was declared so far can be seen.
type oracle struct {
	api.Tree
	parent []int
	steps  []step
	locals []local
	fixed  map[string]*fixed
	number map[int]int // functions' numbers, by their nodes
	skip   map[int]bool
	info   scope.Info
}

// step is something that is met: of a node, and what of it.
type step struct {
	what string
	at   int
	name string
	nth  int
}

type local struct {
	name      string
	of, index int // the function's node, and which one of its locals
	block     int // the node of the block
}

type fixed struct {
	value api.Value
	items map[string]int64
}

func newOracle(t api.Tree) *oracle {
	o := &oracle{Tree: t, parent: make([]int, len(t.Nodes)), fixed: map[string]*fixed{}, number: map[int]int{}, skip: map[int]bool{}}
	for at, n := range t.Nodes {
		o.parent[at] = -1
		for _, kid := range n.Kids {
			if kid >= 0 {
				o.parent[kid] = at
			}
		}
	}
	return o
}

func (o *oracle) step(what string, at int, name string, nth int) {
	o.steps = append(o.steps, step{what, at, name, nth})
}

// list: all that is met of a node, in order.
func (o *oracle) list(at int) {
	if at < 0 {
		return
	}
	n := o.Nodes[at]
	o.step("meet", at, "", 0)
	switch n.Kind {
	case api.NLocal:
		own := n.Kids[0] >= 0 && o.Nodes[n.Kids[0]].Kind == api.NFunc && o.Nodes[n.Kids[0]].Text == n.Text
		if own {
			o.step("declare", at, n.Text, 0)
		}
		o.list(n.Kids[0])
		if !own {
			o.step("declare", at, n.Text, 0)
		}
	case api.NForeach:
		o.list(n.Kids[0])
		for nth, name := range strings.Split(n.Text, "\t") {
			if name != "" {
				o.step("declare", at, name, nth)
			}
		}
		o.list(n.Kids[1])
	case api.NTry:
		o.list(n.Kids[0])
		o.step("declare", at, n.Text, 0)
		o.list(n.Kids[1])
	case api.NFunc:
		for _, param := range n.Kids[:n.Num] {
			o.list(o.Nodes[param].Kids[0])
		}
		o.step("begin", at, "", 0)
		for _, param := range n.Kids[:n.Num] {
			o.step("declare", param, o.Nodes[param].Text, 0)
		}
		o.list(n.Kids[n.Num])
	case api.NAssign, api.NStep, api.NUnary:
		o.list(n.Kids[0])
		if n.Kind != api.NUnary || n.Text == "delete" {
			o.step("target", n.Kids[0], "", 0)
		}
		if n.Text == "delete" {
			o.step("delete", at, "", 0)
		}
		for _, kid := range n.Kids[1:] {
			o.list(kid)
		}
	default:
		for _, kid := range n.Kids {
			o.list(kid)
		}
	}
}

// around: calls with each node around one, and by which kid it is; up to the whole, or as long as that answers true.
func (o *oracle) around(at int, look func(node, by int) bool) {
	for by, up := at, o.parent[at]; up >= 0 && look(up, by); by, up = up, o.parent[up] {
	}
}

// function: the node of the function in which a node is.
func (o *oracle) function(at int) int {
	in := len(o.Nodes) - 1
	o.around(at, func(node, by int) bool {
		if o.Nodes[node].Kind != api.NFunc || o.Nodes[by].Kind == api.NParam && by != at {
			return true
		}
		in = node
		return false
	})
	return in
}

// blocks: the nodes whose blocks are around a node, from the innermost on.
func (o *oracle) blocks(at int) []int {
	var out []int
	o.around(at, func(node, by int) bool {
		kids := o.Nodes[node].Kids
		switch o.Nodes[node].Kind {
		case api.NBlock, api.NFor:
			out = append(out, node)
		case api.NCase:
			if by != kids[0] {
				out = append(out, node)
			}
		case api.NForeach, api.NTry:
			if by == kids[1] {
				out = append(out, node)
			}
		case api.NFunc:
			if o.Nodes[by].Kind == api.NBlock {
				out = append(out, node)
			}
		}
		return true
	})
	return out
}

// seen: the local of a name that can be seen at a node.
func (o *oracle) seen(at int, name string) *local {
	blocks := o.blocks(at)
	for i := len(o.locals) - 1; i >= 0; i-- {
		if o.locals[i].name == name && slices.Contains(blocks, o.locals[i].block) {
			return &o.locals[i]
		}
	}
	return nil
}

func (o *oracle) look() (scope.Info, api.Fault) {
	root := len(o.Nodes) - 1
	o.list(root)
	o.begin(root)
	o.info.Names = make([]scope.Name, len(o.Nodes))
	for range o.Nodes {
		o.info.Decl = append(o.info.Decl, [2]int{-1, -1})
	}
	for _, s := range o.steps {
		code := api.OK
		switch s.what {
		case "begin":
			o.begin(s.at)
		case "declare":
			code = o.declare(s)
		case "meet":
			code = o.meet(s.at)
		case "target":
			if o.info.Names[s.at].Kind == scope.Const {
				code = api.ErrType
			}
		case "delete":
			if kid := o.Nodes[s.at].Kids[0]; o.Nodes[kid].Kind == api.NName && o.info.Names[kid].Kind != scope.Slot {
				code = api.ErrType
			}
		}
		if code != api.OK {
			return scope.Info{}, api.Fault{Code: code, At: s.at}
		}
	}
	for at := range o.Nodes {
		o.info.Of = append(o.info.Of, o.number[o.function(at)])
	}
	return o.info, api.Fault{}
}

func (o *oracle) begin(at int) {
	around := -1
	if at < len(o.Nodes)-1 {
		around = o.number[o.function(at)]
	}
	o.number[at] = len(o.info.Funcs)
	o.info.Funcs = append(o.info.Funcs, scope.Func{Node: at, Around: around})
}

func (o *oracle) declare(s step) api.Errno {
	block := s.at
	switch o.Nodes[s.at].Kind {
	case api.NLocal:
		block = o.blocks(s.at)[0]
	case api.NParam:
		block = o.parent[s.at]
	}
	in := o.function(s.at)
	f := &o.info.Funcs[o.number[in]]
	if slices.ContainsFunc(o.locals, func(l local) bool { return l.name == s.name && l.block == block }) {
		return api.ErrTwice
	}
	if f.Locals == scope.MaxLocals {
		return api.ErrLong
	}
	o.locals = append(o.locals, local{s.name, in, f.Locals, block})
	o.info.Decl[s.at][s.nth] = f.Locals
	f.Locals++
	f.Boxed = append(f.Boxed, false)
	return api.OK
}

func (o *oracle) meet(at int) api.Errno {
	n := o.Nodes[at]
	in := o.function(at)
	switch n.Kind {
	case api.NName:
		return o.name(at, in)
	case api.NField:
		over := o.Nodes[n.Kids[0]]
		if over.Kind != api.NName || o.seen(n.Kids[0], over.Text) != nil || o.fixed[over.Text] == nil || o.fixed[over.Text].items == nil {
			return api.OK
		}
		number, ok := o.fixed[over.Text].items[n.Text]
		if !ok {
			return api.ErrMissing
		}
		o.skip[n.Kids[0]] = true
		o.info.Names[at] = scope.Name{Kind: scope.Const, Value: api.Value{Kind: api.Int, Num: number}}
	case api.NConst, api.NEnum:
		if o.fixed[n.Text] != nil {
			return api.ErrTwice
		}
		o.fixed[n.Text] = &fixed{items: map[string]int64{}}
		if n.Kind == api.NConst {
			o.fixed[n.Text] = &fixed{value: scope.Literal(o.Nodes[n.Kids[0]])}
		}
	case api.NItem:
		items := o.fixed[o.Nodes[o.parent[at]].Text].items
		if _, ok := items[n.Text]; ok {
			return api.ErrTwice
		}
		items[n.Text] = n.Num
	case api.NBreak, api.NContinue:
		return o.leaves(at, in)
	case api.NYield:
		if in == len(o.Nodes)-1 {
			return api.ErrState
		}
		o.info.Funcs[o.number[in]].Yields = true
	}
	return api.OK
}

// leaves: is there around an NBreak, an NContinue what that needs?
func (o *oracle) leaves(at, in int) api.Errno {
	code := api.ErrState
	o.around(at, func(node, by int) bool {
		n := o.Nodes[node]
		switch n.Kind {
		case api.NWhile, api.NDo:
			code = api.OK
		case api.NFor:
			if by != n.Kids[0] {
				code = api.OK
			}
		case api.NForeach:
			if by == n.Kids[1] {
				code = api.OK
			}
		case api.NSwitch:
			if o.Nodes[at].Kind == api.NBreak {
				code = api.OK
			}
		}
		return node != in
	})
	return code
}

func (o *oracle) name(at, in int) api.Errno {
	if o.skip[at] {
		return api.OK
	}
	name := o.Nodes[at].Text
	l := o.seen(at, name)
	switch {
	case l != nil && l.of == in:
		o.info.Names[at] = scope.Name{Kind: scope.Local, Index: l.index}
	case l != nil:
		return o.capture(at, in, *l)
	case o.fixed[name] == nil:
		o.info.Names[at] = scope.Name{Kind: scope.Slot}
	case o.fixed[name].items != nil:
		return api.ErrType
	default:
		o.info.Names[at] = scope.Name{Kind: scope.Const, Value: o.fixed[name].value}
	}
	return api.OK
}

// capture: a local comes, from the function whose it is, into all functions down to the one in which a node is.
func (o *oracle) capture(at, in int, l local) api.Errno {
	var between []int
	for f := in; f != l.of; f = o.function(f) {
		between = append(between, f)
	}
	slices.Reverse(between)
	c := scope.Capture{Local: true, Index: l.index}
	for _, node := range between {
		f := &o.info.Funcs[o.number[node]]
		index := slices.Index(f.Captures, c)
		if index < 0 {
			index = len(f.Captures)
			if index == scope.MaxLocals {
				return api.ErrLong
			}
			f.Captures = append(f.Captures, c)
		}
		c = scope.Capture{Index: index}
	}
	o.info.Funcs[o.number[l.of]].Boxed[l.index] = true
	o.info.Names[at] = scope.Name{Kind: scope.Outer, Index: c.Index}
	return api.OK
}

// writer makes sources at will, the same one each time of the same seed.
type writer struct{ seed uint32 }

func (w *writer) below(n int) int {
	w.seed = w.seed*1664525 + 1013904223
	return int(w.seed>>8) % n
}

func (w *writer) pick(list ...string) string { return list[w.below(len(list))] }

func (w *writer) name() string {
	if w.below(20) == 0 {
		return w.pick("K", "L", "E", "F")
	}
	return w.pick("a", "b", "c", "d", "e", "f", "g", "h")
}

// fill: a form with its marks filled: S statements, B a block, X an expression, N a name, P parameters, T a target.
func (w *writer) fill(form string, deep int) string {
	var out strings.Builder
	for _, mark := range form {
		switch mark {
		case 'S':
			for range w.below(3) {
				out.WriteString(w.stmt(deep-1) + "\n")
			}
		case 'B':
			out.WriteString(w.fill("{ S }", deep))
		case 'X':
			out.WriteString(w.expr(deep - 1))
		case 'N':
			out.WriteString(w.name())
		case 'P':
			for i := range w.below(3) {
				out.WriteString([]string{"", ", "}[min(i, 1)] + w.fill(w.pick("N", "N", "N = X"), deep))
			}
		case 'T':
			out.WriteString(w.fill(w.pick("N", "N", "N", "N.a", "N[X]", "::a", "E.A", "F.A.b"), deep))
		default:
			out.WriteRune(mark)
		}
	}
	return out.String()
}

func (w *writer) stmt(deep int) string {
	if deep <= 0 {
		return w.fill(w.pick("local N", "local N = N", "N", "N = N", ";"), 0)
	}
	if w.below(12) == 0 {
		return w.fill(w.pick("break", "continue", "yield", "yield X", "const K = 1", "const L = \"s\"", "enum E { A, C = -7 }", "enum F { A, N }", "const N = 2", "delete N", "{ enum E { A, C }\n x = E.N }", "x = F.N", "enum E { A, C, D }"), deep)
	}
	return w.fill(w.pick("x = X", "N(X)", "N = X", "local N", "local N = X", "local N = X", "local function N(P) B", "function g(P) B", "B", "if (X) B else B", "while (X) { S break\n }", "do { S } while (X)", "for (local N = X; X; X) { S continue\n }", "for (X; X; X) B",
		"foreach (N in X) B", "foreach (i, N in X) { break\n S }", "switch (X) { case X: S case X: S break\n default: S }", "try B catch (N) B", "return X", "x = function(P) { yield X\n S }", "local N = function a() B"), deep)
}

func (w *writer) expr(deep int) string {
	if deep <= 0 {
		return w.fill(w.pick("N", "N", "N", "K", "E.A", "1"), 0)
	}
	return w.fill(w.pick("N", "N", "N", "K", "L", "E.C", "F.A", "N + N", "(T = X)", "(T += X)", "(T)++", "[X, X]", "{ a = X, [X] = X }", "N(X, X)", "N.a", "N[X]", "!X", "(delete N.a)", "(X ? X : X)", "function(P) B", "function a(P) B", "function(P) { local N = X\n S\n return X\n }", "class { a = X; function b(P) B constructor(P) B }"), deep)
}

// TestManySources: sources made at will are looked over as they are another way.
func TestManySources(t *testing.T) { // P12.1 to P12.4
	told, outer, deepest := map[api.Errno]int{}, 0, 0
	for seed := range uint32(12000) {
		w := &writer{seed: seed}
		source := ""
		for range 1 + w.below(5) {
			source += w.stmt(1+w.below(5)) + "\n"
		}
		tree, f := parse.Parse(source)
		if f.Code != api.OK {
			t.Fatalf("Parse(%q): %v", source, f)
		}
		want, wantFault := newOracle(tree).look()
		info, f := scope.Look(tree)
		told[f.Code]++
		if f != wantFault {
			t.Fatalf("Look(%q): %v, not %v", source, f, wantFault)
		}
		if fmt.Sprint(info) != fmt.Sprint(want) || !reflect.DeepEqual(info.Names, want.Names) {
			t.Fatalf("Look(%q):\n%v, not\n%v", source, info, want)
		}
		for _, n := range info.Names {
			if n.Kind == scope.Outer {
				outer++
			}
		}
		deepest = max(deepest, len(info.Funcs))
	}
	t.Log(told, outer, deepest)
	if told[api.OK] < 5000 || told[api.ErrTwice] < 1000 || told[api.ErrType] < 150 || told[api.ErrState] < 500 || told[api.ErrMissing] < 50 || outer < 1000 || deepest < 5 {
		t.Errorf("too few of a sort to tell anything: %v %d %d", told, outer, deepest)
	}
}
