package ast_test

import (
	"math"
	"reflect"
	"regexp"
	"slices"
	"strings"
	"testing"
	"unsafe"

	"drey/api"
	"drey/ast"
)

// levels, unaries, assigns, steps: the operators as the document has them.
const (
	levels  = "||; &&; |; ^; &; == != <=>; < <= > >= in instanceof; << >> >>>; + -; * / %"
	unaries = "- ! ~ typeof clone resume delete"
	assigns = "= <- += -= *= /= %="
	steps   = "++ --"
	others  = ":: . , ; ( ) [ ] { } ? : 1 &&& === <> => -> ** // &= |= ^= <<= base this null instance typeo in_ Delete"
)

// kinds: all there are, and some beside them.
func kinds() []int {
	out := []int{math.MinInt, -1, 0, api.NKinds, api.NKinds + 1, math.MaxInt}
	for kind := api.NNull; kind < api.NKinds; kind++ {
		out = append(out, kind)
	}
	return out
}

func TestLevel(t *testing.T) { // P9.1
	want := map[string]int{}
	for i, ops := range strings.Split(levels, "; ") {
		for _, op := range strings.Fields(ops) {
			want[op] = i
		}
	}
	for _, op := range append(operators(), "", " ", "+ ", " +", "\x00", "\xff", "+\n") {
		level, ok := want[op]
		if !ok {
			level = -1
		}
		if got := ast.Level(op); got != level {
			t.Errorf("Level(%q): %d, not %d", op, got, level)
		}
	}
	if ast.Levels != 10 {
		t.Errorf("Levels: %d", ast.Levels)
	}
}

func operators() []string {
	return strings.Fields(strings.ReplaceAll(levels, ";", "") + " " + unaries + " " + assigns + " " + steps + " " + others)
}

func TestUnaryAssignStep(t *testing.T) { // P9.1
	for _, op := range append(operators(), "", " ", "- ", " =", "++ ", "+++", "\xff") {
		for name, c := range map[string]struct {
			is   func(string) bool
			list string
		}{"Unary": {ast.Unary, unaries}, "Assign": {ast.Assign, assigns}, "Step": {ast.Step, steps}} {
			if got := c.is(op); got != slices.Contains(strings.Fields(c.list), op) {
				t.Errorf("%s(%q): %v", name, op, got)
			}
		}
	}
}

func TestKinds(t *testing.T) { // P9.1
	exprs := []int{api.NNull, api.NTrue, api.NFalse, api.NInt, api.NStr, api.NName, api.NThis, api.NGlobal, api.NUnary, api.NBinary, api.NCond, api.NAssign, api.NStep, api.NIndex, api.NField, api.NSuper, api.NCall, api.NArray, api.NTable, api.NFunc, api.NClass}
	stmts := []int{api.NBlock, api.NLocal, api.NExpr, api.NIf, api.NWhile, api.NDo, api.NFor, api.NForeach, api.NSwitch, api.NBreak, api.NContinue, api.NReturn, api.NYield, api.NThrow, api.NTry, api.NConst, api.NEnum, api.NNothing}
	for _, kind := range kinds() {
		for name, c := range map[string]struct {
			is   func(int) bool
			list []int
		}{
			"Expr": {ast.Expr, exprs}, "Stmt": {ast.Stmt, stmts},
			"Target":  {ast.Target, []int{api.NName, api.NGlobal, api.NIndex, api.NField}},
			"Literal": {ast.Literal, []int{api.NNull, api.NTrue, api.NFalse, api.NInt, api.NStr}},
		} {
			if got := c.is(kind); got != slices.Contains(c.list, kind) {
				t.Errorf("%s(%d): %v", name, kind, got)
			}
		}
	}
}

// none: no kid.
const none = 0

// least: the fewest kids that a node of a kind may have, by their kinds.
func least(kind int) []int {
	switch kind {
	case api.NUnary, api.NField, api.NExpr, api.NThrow, api.NSwitch, api.NCall, api.NConst:
		return []int{api.NNull}
	case api.NStep:
		return []int{api.NName}
	case api.NBinary, api.NIndex, api.NMember:
		return []int{api.NNull, api.NNull}
	case api.NCond:
		return []int{api.NNull, api.NNull, api.NNull}
	case api.NAssign:
		return []int{api.NName, api.NNull}
	case api.NFunc:
		return []int{api.NBlock}
	case api.NClass, api.NParam, api.NCase, api.NLocal, api.NReturn, api.NYield:
		return []int{none}
	case api.NIf:
		return []int{api.NNull, api.NBlock, none}
	case api.NWhile, api.NForeach:
		return []int{api.NNull, api.NBlock}
	case api.NDo:
		return []int{api.NBlock, api.NNull}
	case api.NFor:
		return []int{none, none, none, api.NBlock}
	case api.NTry:
		return []int{api.NBlock, api.NBlock}
	}
	return nil
}

// text: a text that a node of a kind may have.
func text(kind int) string {
	switch kind {
	case api.NName, api.NGlobal, api.NField, api.NParam, api.NLocal, api.NTry, api.NConst, api.NEnum, api.NSuper, api.NItem:
		return "a"
	case api.NUnary, api.NBinary:
		return "-"
	case api.NAssign:
		return "="
	case api.NStep:
		return "++"
	case api.NForeach:
		return "k\tv"
	}
	return ""
}

// grow: a node of a kind more, with kids of other kinds, which have as few as may be; its number.
func grow(nodes *[]api.Node, kind int, of []int) int {
	kids := []int(nil)
	for _, k := range of {
		if k == none {
			kids = append(kids, -1)
		} else {
			kids = append(kids, grow(nodes, k, least(k)))
		}
	}
	*nodes = append(*nodes, api.Node{Kind: kind, Text: text(kind), Kids: kids})
	return len(*nodes) - 1
}

// lone: a tree of one node of a kind with its kids, and a block behind that has none: if the node may be, it is missing there.
func lone(kind int, of []int) (api.Tree, int) {
	var nodes []api.Node
	at := grow(&nodes, kind, of)
	return api.Tree{Nodes: append(nodes, api.Node{Kind: api.NBlock})}, at
}

// whole: a tree that may be, with a node of a kind in it, and where that is.
func whole(kind int) (api.Tree, int) {
	var nodes []api.Node
	at := grow(&nodes, kind, least(kind))
	top := at
	wrap := func(kind int, kids ...int) {
		nodes = append(nodes, api.Node{Kind: kind, Text: text(kind), Kids: kids})
		top = len(nodes) - 1
	}
	switch kind {
	case api.NParam:
		block := grow(&nodes, api.NBlock, nil)
		wrap(api.NFunc, at, block)
		nodes[top].Num = 1
	case api.NMember:
		wrap(api.NClass, -1, at)
	case api.NCase:
		val := grow(&nodes, api.NNull, nil)
		wrap(api.NSwitch, val, at)
	case api.NItem:
		wrap(api.NEnum, at)
	}
	if ast.Expr(nodes[top].Kind) {
		wrap(api.NExpr, top)
	}
	wrap(api.NBlock, top)
	return api.Tree{Nodes: nodes}, at
}

func checks(t *testing.T, tree api.Tree, code api.Errno, at int) {
	t.Helper()
	if got := ast.Check(tree); got != (api.Fault{Code: code, At: at}) {
		t.Errorf("Check of %.300v: %v, not %v", tree.Nodes, got, api.Fault{Code: code, At: at})
	}
}

func TestKindsThatMayBe(t *testing.T) { // P9.2, P9.3
	for _, kind := range kinds() {
		if kind < api.NNull || kind >= api.NKinds {
			checks(t, api.Tree{Nodes: []api.Node{{Kind: kind}}}, api.ErrForm, 0)
			checks(t, api.Tree{Nodes: []api.Node{{Kind: api.NNull}, {Kind: kind, Kids: []int{9}}}}, api.ErrForm, 1)
			continue
		}
		tree, at := whole(kind)
		checks(t, tree, api.OK, 0)
		for _, where := range []int{0, 1, 99, math.MaxInt} {
			tree.Nodes[at].At = where
			checks(t, tree, api.OK, 0)
		}
		for _, where := range []int{-1, -2, math.MinInt} {
			tree.Nodes[at].At = where
			checks(t, tree, api.ErrForm, at)
		}
	}
}

// TestTexts: which texts a node may have, by its kind.
func TestTexts(t *testing.T) { // P9.2
	names := []string{"a", "_", "Z9", "print", "basex", "This", "instance", "typeo", "in_", "Delete"}
	words := []string{"if", "base", "this", "null", "static", "delete", "in"}
	wrong := []string{" ", "a ", " a", "0", "0a", "a-b", "a.b", "é", "\x00", "\t", "a\t", "a\tb\t", "\ta\t", "a\t\tb", "a\tif", "if\ta", "\tif", "0\ta", "a\t0", "a,b", "a\ta", "_\t_", "a b", "a\nb", "\xff"}
	pairs := []string{"\ta", "a\tb", "_\tZ9", "a\tA", "\tprint"}
	ops := strings.Fields
	mayHave := map[int][][]string{
		api.NStr:     {names, words, wrong, pairs, {"", "constructor"}, operators()},
		api.NSuper:   {names, {"constructor"}},
		api.NFunc:    {names, {""}},
		api.NClass:   {names, {""}},
		api.NUnary:   {ops(unaries)},
		api.NBinary:  {ops(strings.ReplaceAll(levels, ";", ""))},
		api.NAssign:  {ops(assigns)},
		api.NStep:    {ops(steps)},
		api.NForeach: {pairs},
	}
	for _, kind := range []int{api.NName, api.NGlobal, api.NField, api.NParam, api.NLocal, api.NTry, api.NConst, api.NEnum, api.NItem} {
		mayHave[kind] = [][]string{names}
	}
	for kind := api.NNull; kind < api.NKinds; kind++ {
		right, ok := mayHave[kind]
		if !ok {
			right = [][]string{{""}}
		}
		tree, at := whole(kind)
		for _, s := range slices.Concat(names, words, wrong, pairs, []string{"", "constructor"}, operators()) {
			tree.Nodes[at].Text = s
			switch {
			case !slices.Contains(slices.Concat(right...), s):
				checks(t, tree, api.ErrForm, at)
			case kind == api.NUnary && s == "delete": // of a literal
				checks(t, tree, api.ErrType, at)
			default:
				checks(t, tree, api.OK, 0)
			}
		}
	}
}

// TestNumbers: which numbers a node may have, by its kind.
func TestNumbers(t *testing.T) { // P9.2
	for kind := api.NNull; kind < api.NKinds; kind++ {
		tree, at := whole(kind)
		for _, n := range []int64{0, 1, 2, -1, 1 << 32, math.MaxInt64, math.MinInt64} {
			tree.Nodes[at].Num = n
			switch {
			case n == 0 || kind == api.NInt || kind == api.NItem || kind == api.NStep && n == 1:
				checks(t, tree, api.OK, 0)
			case kind == api.NFunc: // it has no parameters
				checks(t, tree, api.ErrType, at)
			default:
				checks(t, tree, api.ErrForm, at)
			}
		}
	}
}

// patterns: which kids a node of a kind has, one behind the other: E an expression, S a statement, T a target, L a literal, P a parameter, M a member, C a case, I an item, B a block, F an NIf, O an NLocal, X an NExpr; ? or none, * any number.
func patterns() map[int]string {
	return map[int]string{
		api.NUnary: "E", api.NField: "E", api.NExpr: "E", api.NThrow: "E",
		api.NBinary: "E E", api.NIndex: "E E", api.NMember: "E E",
		api.NCond: "E E E", api.NAssign: "T E", api.NStep: "T", api.NCall: "E E*", api.NArray: "E*", api.NTable: "E*",
		api.NFunc: "P* B", api.NClass: "E? M*",
		api.NParam: "E?", api.NLocal: "E?", api.NReturn: "E?", api.NYield: "E?",
		api.NCase: "E? S*", api.NBlock: "S*", api.NIf: "E B BF?", api.NWhile: "E B", api.NForeach: "E B", api.NDo: "B E",
		api.NFor: "OX? E? E? B", api.NSwitch: "E C*", api.NTry: "B B", api.NConst: "L", api.NEnum: "I*",
	}
}

// sign: a sign for a kid of a kind.
func sign(kind int) string { return string(rune('0' + kind)) }

// compiled: a pattern for the kids' signs.
func compiled(pattern string) *regexp.Regexp {
	class := map[rune]string{'?': sign(none), '*': ""}
	for kind := api.NNull; kind < api.NKinds; kind++ {
		if kind <= api.NClass {
			class['E'] += regexp.QuoteMeta(sign(kind))
		}
		if kind <= api.NStr {
			class['L'] += regexp.QuoteMeta(sign(kind))
		}
		if kind >= api.NBlock {
			class['S'] += regexp.QuoteMeta(sign(kind))
		}
	}
	for letter, kinds := range map[rune][]int{'T': {api.NName, api.NGlobal, api.NIndex, api.NField}, 'P': {api.NParam}, 'M': {api.NMember}, 'C': {api.NCase}, 'I': {api.NItem}, 'B': {api.NBlock}, 'F': {api.NIf}, 'O': {api.NLocal}, 'X': {api.NExpr}} {
		for _, kind := range kinds {
			class[letter] += regexp.QuoteMeta(sign(kind))
		}
	}
	out := "^"
	for _, word := range strings.Fields(pattern) {
		out += "["
		for _, letter := range word {
			out += class[letter]
		}
		out += "]"
		if strings.HasSuffix(word, "*") {
			out += "*"
		}
	}
	return regexp.MustCompile(out + "$")
}

// rows: all rows of so many of some kinds.
func rows(n int, of []int, yield func([]int)) {
	var more func(row []int)
	more = func(row []int) {
		if len(row) == n {
			yield(row)
			return
		}
		for _, kind := range of {
			more(append(row[:len(row):len(row)], kind))
		}
	}
	more(nil)
}

// TestKids: which kids a node may have, by its kind.
func TestKids(t *testing.T) { // P9.2, P9.3
	all := []int{none}
	for kind := api.NNull; kind < api.NKinds; kind++ {
		all = append(all, kind)
	}
	some := []int{none, api.NNull, api.NName, api.NCall, api.NParam, api.NMember, api.NCase, api.NItem, api.NBlock, api.NLocal, api.NExpr, api.NIf, api.NNothing}
	few := []int{none, api.NStr, api.NField, api.NParam, api.NCase, api.NBlock, api.NLocal, api.NExpr}
	for kind := api.NNull; kind < api.NKinds; kind++ {
		pattern := compiled(patterns()[kind])
		look := func(row []int) {
			signs := ""
			for _, k := range row {
				signs += sign(k)
			}
			right := pattern.MatchString(signs)
			tree, at := lone(kind, row)
			switch kind {
			case api.NTable:
				right = right && len(row)%2 == 0
			case api.NSwitch:
				right = right && strings.Count(signs, sign(api.NCase)) < 2 // they have no values
			case api.NFunc:
				tree.Nodes[at].Num = int64(len(row) - 1)
			}
			if right {
				checks(t, tree, api.ErrMissing, at)
			} else {
				checks(t, tree, api.ErrType, at)
			}
		}
		rows(0, nil, look)
		rows(1, all, look)
		rows(2, all, look)
		rows(3, some, look)
		rows(4, few, look)
	}
}

func TestDelete(t *testing.T) { // P9.2
	for kind := api.NNull; kind < api.NKinds; kind++ {
		tree, at := lone(api.NUnary, []int{kind})
		tree.Nodes[at].Text = "delete"
		if ast.Target(kind) {
			checks(t, tree, api.ErrMissing, at)
		} else {
			checks(t, tree, api.ErrType, at)
		}
	}
}

// TestParams: an NFunc's number is how many parameters it has.
func TestParams(t *testing.T) { // P9.2
	for count := range 4 {
		row := append(slices.Repeat([]int{api.NParam}, count), api.NBlock)
		for _, n := range []int{0, 1, 2, 3, 4, -1, math.MaxInt, math.MinInt} {
			tree, at := lone(api.NFunc, row)
			tree.Nodes[at].Num = int64(n)
			if n == count {
				checks(t, tree, api.ErrMissing, at)
			} else {
				checks(t, tree, api.ErrType, at)
			}
		}
	}
	tree, at := lone(api.NFunc, nil)
	tree.Nodes[at].Num = -1
	checks(t, tree, api.ErrType, at)
}

// TestDefaultCases: of an NSwitch's cases one has no value at most, wherever it stands.
func TestDefaultCases(t *testing.T) { // P9.2
	for cases := range 16 {
		var nodes []api.Node
		kids := []int{grow(&nodes, api.NNull, nil)}
		defaults := 0
		for i := range 4 {
			val := api.NNull
			if cases>>i&1 == 1 {
				val = none
				defaults++
			}
			kids = append(kids, grow(&nodes, api.NCase, []int{val, api.NNothing}))
		}
		at := len(nodes)
		nodes = append(nodes, api.Node{Kind: api.NSwitch, Kids: kids}, api.Node{Kind: api.NBlock, Kids: []int{at}})
		if defaults < 2 {
			checks(t, api.Tree{Nodes: nodes}, api.OK, 0)
		} else {
			checks(t, api.Tree{Nodes: nodes}, api.ErrType, at)
		}
	}
}

func TestCheckKidNumbers(t *testing.T) { // P9.3
	x, block := api.Node{Kind: api.NNull}, api.Node{Kind: api.NBlock}
	call := func(kids ...int) api.Node { return api.Node{Kind: api.NCall, Kids: kids} }
	for _, c := range []struct {
		nodes []api.Node
		code  api.Errno
		at    int
	}{
		{[]api.Node{x, call(-2)}, api.ErrMissing, 1},
		{[]api.Node{x, call(math.MinInt)}, api.ErrMissing, 1},
		{[]api.Node{x, call(1)}, api.ErrMissing, 1},
		{[]api.Node{x, call(2), x}, api.ErrMissing, 1},
		{[]api.Node{x, call(math.MaxInt)}, api.ErrMissing, 1},
		{[]api.Node{x, call(0, 0)}, api.ErrTwice, 1},
		{[]api.Node{x, call(0), call(0)}, api.ErrTwice, 2},
		{[]api.Node{x, call(0), call(1, 0)}, api.ErrTwice, 2},
		{[]api.Node{x, call(0, 0, 5)}, api.ErrTwice, 1}, // the kids in order
		{[]api.Node{x, call(0, 5, 0)}, api.ErrMissing, 1},
		{[]api.Node{x, call(-1)}, api.ErrType, 1},
		{[]api.Node{x, call(0, -1)}, api.ErrType, 1},
		{[]api.Node{x, call(-1, 0, 0)}, api.ErrTwice, 1}, // ahead of ErrType
		{[]api.Node{x, call(-1, 7)}, api.ErrMissing, 1},
		{[]api.Node{x, {Kind: api.NCall, Text: "a", Kids: []int{7}}}, api.ErrForm, 1}, // ahead of ErrMissing
		{[]api.Node{x, call(-1), {Kind: -1}}, api.ErrType, 1},                         // node by node
		{[]api.Node{x, call(0), {Kind: -1}}, api.ErrForm, 2},
	} {
		checks(t, api.Tree{Nodes: c.nodes}, c.code, c.at)
		if c.code != api.ErrForm {
			checks(t, api.Tree{Nodes: append(c.nodes, block)}, c.code, c.at)
		}
	}
}

// TestCheckLast: what is told of the whole, when nothing is wrong with its nodes.
func TestCheckLast(t *testing.T) { // P9.3
	x, block := api.Node{Kind: api.NNull}, api.Node{Kind: api.NBlock}
	stmt := api.Node{Kind: api.NExpr, Kids: []int{0}}
	checks(t, api.Tree{}, api.ErrLong, 0)
	checks(t, api.Tree{Nodes: []api.Node{}}, api.ErrLong, 0)
	checks(t, api.Tree{Nodes: []api.Node{block}}, api.OK, 0)
	for kind := api.NNull; kind < api.NKinds; kind++ {
		if tree, at := lone(kind, least(kind)); kind != api.NBlock {
			checks(t, api.Tree{Nodes: tree.Nodes[:at+1]}, api.ErrType, at)
			checks(t, api.Tree{Nodes: append([]api.Node{x}, api.Node{Kind: api.NThis})}, api.ErrType, 1) // ahead of ErrMissing
		}
	}
	checks(t, api.Tree{Nodes: []api.Node{x, stmt, block}}, api.ErrMissing, 1)
	checks(t, api.Tree{Nodes: []api.Node{x, block, block}}, api.ErrMissing, 0)
	checks(t, api.Tree{Nodes: []api.Node{block, block, {Kind: api.NBlock, Kids: []int{0}}}}, api.ErrMissing, 1)
	checks(t, api.Tree{Nodes: []api.Node{block, block, {Kind: api.NBlock, Kids: []int{1, 0}}}}, api.OK, 0)
}

// nested: so many blocks, each within the next one.
func nested(n int) []api.Node {
	nodes := []api.Node{{Kind: api.NBlock}}
	for i := range n - 1 {
		nodes = append(nodes, api.Node{Kind: api.NBlock, Kids: []int{i}})
	}
	return nodes
}

func TestMaxDeep(t *testing.T) { // P9.3
	if ast.MaxDeep != 200 {
		t.Errorf("MaxDeep: %d", ast.MaxDeep)
	}
	checks(t, api.Tree{Nodes: nested(ast.MaxDeep)}, api.OK, 0)
	checks(t, api.Tree{Nodes: nested(ast.MaxDeep + 1)}, api.OK, 0)
	checks(t, api.Tree{Nodes: nested(ast.MaxDeep + 2)}, api.ErrDeep, ast.MaxDeep+1)
	checks(t, api.Tree{Nodes: nested(5 * ast.MaxDeep)}, api.ErrDeep, ast.MaxDeep+1)
	deep := nested(ast.MaxDeep + 1)
	last := len(deep)
	checks(t, api.Tree{Nodes: append(deep, api.Node{Kind: api.NReturn, Kids: []int{-1}}, api.Node{Kind: api.NBlock, Kids: []int{last}})}, api.ErrMissing, last-1)
	checks(t, api.Tree{Nodes: append(deep, api.Node{Kind: api.NExpr, Kids: []int{last - 1}})}, api.ErrType, last) // ahead of ErrDeep
	checks(t, api.Tree{Nodes: append(deep, api.Node{Kind: api.NNull}, api.Node{Kind: api.NWhile, Kids: []int{last, last - 1}})}, api.ErrDeep, last+1)
	checks(t, api.Tree{Nodes: append(deep, api.Node{Kind: api.NBlock}, api.Node{Kind: api.NTry, Text: "a", Kids: []int{last - 1, last}})}, api.ErrDeep, last+1) // the deepest kid counts
}

func TestMaxNodes(t *testing.T) { // P9.3, P9.4
	if ast.MaxNodes != 131072 {
		t.Errorf("MaxNodes: %d", ast.MaxNodes)
	}
	var b ast.Builder
	var kids []int
	for i := range ast.MaxNodes - 1 {
		n, e := b.Add(api.NNothing, i, "", 0)
		if n != i || e != api.OK {
			t.Fatalf("Add: %d %v", n, e)
		}
		kids = append(kids, i)
	}
	if n, e := b.Add(api.NBlock, 0, "", 0, kids...); n != ast.MaxNodes-1 || e != api.OK {
		t.Fatalf("Add of the last one: %d %v", n, e)
	}
	for range 2 {
		if n, e := b.Add(api.NBlock, 0, "", 0); n != 0 || e != api.ErrLong {
			t.Errorf("Add of one too many: %d %v", n, e)
		}
	}
	tree, f := b.Tree()
	if f != (api.Fault{}) || len(tree.Nodes) != ast.MaxNodes {
		t.Errorf("as many nodes as may be: %d, %v", len(tree.Nodes), f)
	}
	more := append(tree.Nodes, api.Node{Kind: api.NBlock, Kids: []int{ast.MaxNodes - 1}})
	checks(t, api.Tree{Nodes: more}, api.ErrLong, 0)
	more[0].Kind = -1
	checks(t, api.Tree{Nodes: more}, api.ErrLong, 0)
	count := 0
	if !ast.Each(tree, ast.Root(tree), func(int) bool { count++; return true }) || count != ast.MaxNodes {
		t.Errorf("Each: %d", count)
	}
	if !ast.Same(tree, ast.Clone(tree)) {
		t.Error("Same")
	}
}

func TestBuilder(t *testing.T) { // P9.4
	var b ast.Builder
	if tree, f := b.Tree(); len(tree.Nodes) != 0 || f.Code != api.ErrLong || f.At != 0 {
		t.Errorf("the zero one: %v %v", tree, f)
	}
	if n, e := b.Node(0); e != api.ErrRange || !reflect.DeepEqual(n, api.Node{}) {
		t.Errorf("Node of none: %v %v", n, e)
	}
	want := []api.Node{{Kind: api.NName, At: 3, Text: "x"}, {Kind: api.NExpr, At: 3, Kids: []int{0}}, {Kind: api.NBlock, Kids: []int{1}}}
	for i, n := range want {
		if at, e := b.Add(n.Kind, n.At, n.Text, n.Num, n.Kids...); at != i || e != api.OK {
			t.Errorf("Add: %d %v", at, e)
		}
		if got, e := b.Node(i); e != api.OK || !reflect.DeepEqual(got, n) {
			t.Errorf("Node(%d): %v %v", i, got, e)
		}
	}
	for range 2 {
		if tree, f := b.Tree(); f != (api.Fault{}) || !reflect.DeepEqual(tree.Nodes, want) {
			t.Errorf("Tree: %v %v", tree, f)
		}
	}
	for _, i := range []int{-1, 3, 4, math.MinInt, math.MaxInt} {
		if n, e := b.Node(i); e != api.ErrRange || !reflect.DeepEqual(n, api.Node{}) {
			t.Errorf("Node(%d): %v %v", i, n, e)
		}
	}
	odd := api.Node{Kind: -7, At: -8, Text: "\xff", Num: -9, Kids: []int{99, -99}} // anything is added; Tree tells
	if at, e := b.Add(odd.Kind, odd.At, odd.Text, odd.Num, odd.Kids...); at != 3 || e != api.OK {
		t.Errorf("Add: %d %v", at, e)
	}
	if got, e := b.Node(3); e != api.OK || !reflect.DeepEqual(got, odd) {
		t.Errorf("Node: %v %v", got, e)
	}
	if tree, f := b.Tree(); len(tree.Nodes) != 0 || f != (api.Fault{Code: api.ErrForm, At: 3}) {
		t.Errorf("Tree: %v %v", tree, f)
	}
}

// sum: the tree of `x + 1; y`, its nodes in one order or in another one.
func sum(other bool) api.Tree {
	x, one, y := api.Node{Kind: api.NName, Text: "x"}, api.Node{Kind: api.NInt, Num: 1, At: 4}, api.Node{Kind: api.NName, Text: "y", At: 7}
	if other {
		return api.Tree{Nodes: []api.Node{y, {Kind: api.NExpr, Kids: []int{0}}, one, x, {Kind: api.NBinary, Text: "+", Kids: []int{3, 2}}, {Kind: api.NExpr, Kids: []int{4}}, {Kind: api.NBlock, Kids: []int{5, 1}}}}
	}
	return api.Tree{Nodes: []api.Node{x, one, {Kind: api.NBinary, Text: "+", Kids: []int{0, 1}}, {Kind: api.NExpr, Kids: []int{2}}, y, {Kind: api.NExpr, Kids: []int{4}}, {Kind: api.NBlock, Kids: []int{3, 5}}}}
}

func TestSame(t *testing.T) { // P9.4
	same := func(a, b api.Tree, want bool) {
		t.Helper()
		if ast.Check(a).Code != api.OK || ast.Check(b).Code != api.OK {
			t.Fatalf("no trees that may be: %v %v", a, b)
		}
		if ast.Same(a, b) != want || ast.Same(b, a) != want {
			t.Errorf("Same of %v and %v isn't %v", a, b, want)
		}
	}
	same(sum(false), sum(false), true)
	same(sum(false), sum(true), true)
	empty := api.Tree{Nodes: []api.Node{{Kind: api.NBlock}}}
	same(empty, empty, true)
	same(empty, sum(false), false)
	for i := range sum(false).Nodes {
		b := sum(false)
		b.Nodes[i].At += 100
		same(sum(false), b, true)
		same(sum(true), b, true)
	}
	for _, change := range []func(n []api.Node){
		func(n []api.Node) { n[0].Text = "y" },
		func(n []api.Node) { n[0].Kind = api.NGlobal },
		func(n []api.Node) { n[1].Num = 2 },
		func(n []api.Node) { n[2].Text = "-" },
		func(n []api.Node) { n[2].Kids = []int{1, 0} },
		func(n []api.Node) { n[3].Kind = api.NThrow },
		func(n []api.Node) { n[6].Kids = []int{5, 3} },
		func(n []api.Node) { n[2], n[4] = n[4], n[2]; n[3].Kids, n[4].Kids = []int{2}, []int{0, 1} },
		func(n []api.Node) { n[5] = api.Node{Kind: api.NReturn, Kids: []int{4}} },
	} {
		b := sum(false)
		change(b.Nodes)
		same(sum(false), b, false)
		same(sum(true), b, false)
	}
	with := api.Tree{Nodes: []api.Node{{Kind: api.NNull}, {Kind: api.NReturn, Kids: []int{0}}, {Kind: api.NBlock, Kids: []int{1}}}}
	without := api.Tree{Nodes: []api.Node{{Kind: api.NReturn, Kids: []int{-1}}, {Kind: api.NBlock, Kids: []int{0}}}}
	same(with, without, false)
	same(without, without, true)
}

func TestRootAndClone(t *testing.T) { // P9.4
	for _, tree := range []api.Tree{{}, sum(false), sum(true), {Nodes: nested(7)}, {Nodes: []api.Node{{Kind: -5, Kids: []int{9}}}}} {
		if got := ast.Root(tree); got != len(tree.Nodes)-1 {
			t.Errorf("Root: %d", got)
		}
		if got := ast.Clone(tree); len(got.Nodes) != len(tree.Nodes) || len(tree.Nodes) > 0 && !reflect.DeepEqual(got, tree) {
			t.Errorf("Clone: %v, not %v", got, tree)
		}
	}
}

func TestEach(t *testing.T) { // P9.4
	for _, c := range []struct {
		tree api.Tree
		at   int
		want []int
	}{
		{sum(false), 6, []int{6, 3, 2, 0, 1, 5, 4}},
		{sum(true), 6, []int{6, 5, 4, 3, 2, 1, 0}},
		{sum(false), 3, []int{3, 2, 0, 1}},
		{sum(false), 5, []int{5, 4}},
		{sum(false), 0, []int{0}},
		{sum(false), -1, nil},
		{api.Tree{Nodes: []api.Node{{Kind: api.NBlock}, {Kind: api.NFor, Kids: []int{-1, -1, -1, 0}}, {Kind: api.NBlock, Kids: []int{1}}}}, 2, []int{2, 1, 0}},
		{api.Tree{Nodes: nested(ast.MaxDeep + 1)}, 2, []int{2, 1, 0}},
	} {
		var got []int
		if !ast.Each(c.tree, c.at, func(n int) bool { got = append(got, n); return true }) || !slices.Equal(got, c.want) {
			t.Errorf("Each from %d: %v, not %v", c.at, got, c.want)
		}
		for stop := range len(c.want) {
			got = nil
			if ast.Each(c.tree, c.at, func(n int) bool { got = append(got, n); return len(got) <= stop }) || !slices.Equal(got, c.want[:stop+1]) {
				t.Errorf("Each from %d, up to %d: %v, not %v", c.at, stop, got, c.want[:stop+1])
			}
		}
	}
	deep := 0
	if !ast.Each(api.Tree{Nodes: nested(ast.MaxDeep + 1)}, ast.MaxDeep, func(int) bool { deep++; return true }) || deep != ast.MaxDeep+1 {
		t.Errorf("Each of a deep tree: %d", deep)
	}
}

// TestOwnMemory: what is handed in stays as it is, with its spare room, and what is answered is of its own.
func TestOwnMemory(t *testing.T) { // P2
	kids, name := []int{0, 7, 8}, strings.Repeat("a", 3)
	var b ast.Builder
	b.Add(api.NName, 0, name, 0)
	b.Add(api.NExpr, 0, "", 0, kids[:1]...)
	b.Add(api.NBlock, 0, "", 0, 1)
	kids[0] = 5
	one, _ := b.Tree()
	two, _ := b.Tree()
	three, four := ast.Clone(one), ast.Clone(one)
	node, _ := b.Node(1)
	for _, tree := range []api.Tree{one, three} {
		_ = append(tree.Nodes[1].Kids, 99)
		tree.Nodes[1].Kids[0] = 99
		tree.Nodes[0].Text = "changed"
		clear(tree.Nodes[:cap(tree.Nodes)])
	}
	node.Kids[0] = 99
	again, _ := b.Tree()
	for _, tree := range []api.Tree{two, four, again} {
		if len(tree.Nodes) != 3 || tree.Nodes[0].Text != "aaa" || !slices.Equal(tree.Nodes[1].Kids, []int{0}) {
			t.Errorf("a tree was changed by way of another one: %v", tree)
		}
	}
	if unsafe.StringData(two.Nodes[0].Text) == unsafe.StringData(name) || unsafe.StringData(two.Nodes[0].Text) == unsafe.StringData(four.Nodes[0].Text) || unsafe.StringData(two.Nodes[0].Text) == unsafe.StringData(again.Nodes[0].Text) {
		t.Error("texts are shared")
	}
	nodes := append(sum(false).Nodes, api.Node{Kind: 99})
	tree, kept := api.Tree{Nodes: nodes[:7]}, ast.Clone(api.Tree{Nodes: nodes})
	ast.Check(tree)
	ast.Same(tree, sum(true))
	ast.Same(tree, tree)
	_ = append(ast.Clone(tree).Nodes, api.Node{Kind: 98})
	ast.Each(tree, 6, func(int) bool { return true })
	if !reflect.DeepEqual(nodes, kept.Nodes) {
		t.Errorf("the tree changed: %v", nodes)
	}
}

// TestTreesThatMayNotBe: every call takes them, and ends soon.
func TestTreesThatMayNotBe(t *testing.T) { // P1
	shared := []api.Node{{Kind: api.NNull}}
	for i := range 100000 {
		shared = append(shared, api.Node{Kind: api.NBinary, Text: "+", Kids: []int{i, i}})
	}
	for _, nodes := range [][]api.Node{
		nil,
		{{}},
		{{Kind: api.NBlock, Kids: []int{0}}},
		{{Kind: api.NBlock, Kids: []int{1}}, {Kind: api.NBlock, Kids: []int{0}}},
		{{Kind: api.NBlock, Kids: []int{0, 0, 1, 1, -1}}, {Kind: api.NBlock, Kids: []int{1, 1, 0, 0, -7, 99, math.MinInt, math.MaxInt}}},
		{{Kind: api.NCase}, {Kind: api.NSwitch, Kids: []int{0, 0}}},
		{{Kind: api.NSwitch}}, {{Kind: api.NFunc, Num: -1}}, {{Kind: api.NClass}}, {{Kind: api.NCall}},
		shared,
		nested(300000),
	} {
		tree := api.Tree{Nodes: nodes}
		if f := ast.Check(tree); f.Code == api.OK {
			t.Errorf("it may be: %.200v", nodes)
		}
		ast.Same(tree, tree)
		ast.Same(tree, sum(false))
		ast.Same(sum(false), tree)
		ast.Clone(tree)
		for _, at := range []int{0, 1, -1, -2, ast.Root(tree), len(nodes), math.MinInt, math.MaxInt} {
			ast.Each(tree, at, func(int) bool { return true })
			ast.Each(tree, at, func(int) bool { return false })
			ast.Each(tree, at, nil)
		}
	}
	ast.Each(sum(false), 6, nil)
	ast.Each(api.Tree{}, -1, nil)
	for _, s := range []string{"", "\x00", "\xff", strings.Repeat("+", 1<<20)} {
		ast.Level(s)
		ast.Unary(s)
		ast.Assign(s)
		ast.Step(s)
	}
}
