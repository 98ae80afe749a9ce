package show_test

import (
	"math"
	"reflect"
	"regexp"
	"slices"
	"strings"
	"testing"

	"drey/api"
	"drey/ast"
	"drey/lex"
	"drey/num"
	"drey/parse"
	"drey/show"
)

// read: the tree of a source that is right.
func read(t *testing.T, source string) api.Tree {
	t.Helper()
	tree, f := parse.Parse(source)
	if f != (api.Fault{}) {
		t.Fatalf("Parse(%.300q): %v", source, f)
	}
	return tree
}

// writes: is a source's tree written so, and is that the same tree?
func writes(t *testing.T, source, want string) {
	t.Helper()
	tree := read(t, source)
	kept := ast.Clone(tree)
	got := show.Text(tree)
	if got != want {
		t.Errorf("Text of %q:\n%s, not\n%s", source, got, want)
	}
	if !reflect.DeepEqual(tree, kept) {
		t.Errorf("Text has changed the tree of %q", source)
	}
	comesBack(t, tree, got)
}

// comesBack: is a text that of the very same tree?
func comesBack(t *testing.T, tree api.Tree, text string) {
	t.Helper()
	again, f := parse.Parse(text)
	if f != (api.Fault{}) || !ast.Same(tree, again) {
		t.Errorf("Parse of %.1000s: another tree, %v", text, f)
	}
}

func TestInt(t *testing.T) { // P11.1
	for n, want := range map[int64]string{
		0: "0", 1: "1", 7: "7", 10: "10", 255: "255", math.MaxInt64: "9223372036854775807",
		-1: "0xffffffffffffffff", -2: "0xfffffffffffffffe", -16: "0xfffffffffffffff0", -1 << 32: "0xffffffff00000000", -1<<32 + 1: "0xffffffff00000001",
		math.MinInt64: "0x8000000000000000", math.MinInt64 + 0xabc: "0x8000000000000abc", -0x123456789abcdf0: "0xfedcba9876543210",
	} {
		if got := show.Int(n); got != want {
			t.Errorf("Int(%d): %q, not %q", n, got, want)
		}
	}
	form := regexp.MustCompile("^(0|[1-9][0-9]*|0x[89a-f][0-9a-f]{15})$")
	n := int64(1)
	for i := range int64(20000) {
		n = n*6364136223846793005 + 1442695040888963407
		for _, n := range []int64{n, n >> (i & 63), num.Logical(n, i)} {
			got := show.Int(n)
			tokens, f := lex.Scan(got)
			if !form.MatchString(got) || (n < 0) != strings.HasPrefix(got, "0x") || f.Code != api.OK || len(tokens) != 2 || tokens[0].Kind != lex.Int || tokens[0].Num != n {
				t.Fatalf("Int(%d): %q", n, got)
			}
		}
	}
}

func TestStatements(t *testing.T) { // P11.1, P11.2
	for source, want := range map[string]string{
		"":                           "",
		";":                          ";\n",
		";;":                         ";\n;\n",
		"{}":                         "{\n}\n",
		"{;{}a}":                     "{\n;\n{\n}\na;\n}\n",
		"a;b\nc":                     "a;\nb;\nc;\n",
		"if(a)b":                     "if (a) {\nb;\n}\n",
		"if(a){}else{}":              "if (a) {\n} else {\n}\n",
		"if(a=1)b;else c":            "if (a = 1) {\nb;\n} else {\nc;\n}\n",
		"if(a){}else if(b){}":        "if (a) {\n} else if (b) {\n}\n",
		"if(a)b;else if(c)d;else e":  "if (a) {\nb;\n} else if (c) {\nd;\n} else {\ne;\n}\n",
		"if(a){}else{if(b){}}":       "if (a) {\n} else {\nif (b) {\n}\n}\n",
		"if(a)if(b)c;else d":         "if (a) {\nif (b) {\nc;\n} else {\nd;\n}\n}\n",
		"if(a){if(b)c}else d":        "if (a) {\nif (b) {\nc;\n}\n} else {\nd;\n}\n",
		"while(a)b":                  "while (a) {\nb;\n}\n",
		"while(a=b){}":               "while (a = b) {\n}\n",
		"do a\nwhile(b)":             "do {\na;\n} while (b);\n",
		"do{}while(a=b);c":           "do {\n} while (a = b);\nc;\n",
		"for(;;){}":                  "for (;;) {\n}\n",
		"for(a;;)b":                  "for (a;;) {\nb;\n}\n",
		"for(;a;)b":                  "for (; a;) {\nb;\n}\n",
		"for(;;a)b":                  "for (;; a) {\nb;\n}\n",
		"for(a=1;b=2;c=3){}":         "for (a = 1; b = 2; c = 3) {\n}\n",
		"for(local i;i<9;i++){}":     "for (local i; i < 9; i++) {\n}\n",
		"for(local i=0;;){}":         "for (local i = 0;;) {\n}\n",
		"for(({}).a;{}.b;{}.c){}":    "for (({}.a); {}.b; {}.c) {\n}\n",
		"foreach(v in t){}":          "foreach (v in t) {\n}\n",
		"foreach(k,v in a in b)c":    "foreach (k, v in a in b) {\nc;\n}\n",
		"foreach(v in{}){}":          "foreach (v in {}) {\n}\n",
		"switch(a){}":                "switch (a) {\n}\n",
		"switch(a){case 1:}":         "switch (a) {\ncase 1:\n}\n",
		"switch(a){case b=1:c;d}":    "switch (a) {\ncase b = 1:\nc;\nd;\n}\n",
		"switch(a){default:b;break}": "switch (a) {\ndefault:\nb;\nbreak;\n}\n",
		"switch(a){case 1:case 2:b;default:{}case ::c:}": "switch (a) {\ncase 1:\ncase 2:\nb;\ndefault:\n{\n}\ncase ::c:\n}\n",
		"switch(a){case b?c:d:}":                         "switch (a) {\ncase b ? c : d:\n}\n",
		"try a;catch(e)b":                                "try {\na;\n} catch (e) {\nb;\n}\n",
		"try{}catch(e){}":                                "try {\n} catch (e) {\n}\n",
		"enum E{}":                                       "enum E {}\n",
		"enum E{A}":                                      "enum E {A = 0}\n",
		"enum E{A,B=-1,C,D=0x10,}":                       "enum E {A = 0, B = 0xffffffffffffffff, C = 0, D = 16}\n",
		"local a":                                        "local a;\n",
		"local a=b=1":                                    "local a = b = 1;\n",
		"local a={}":                                     "local a = {};\n",
		"local function f(){}":                           "local f = function f() {\n};\n",
		"local f=function(){}":                           "local f = function() {\n};\n",
		"break;continue":                                 "break;\ncontinue;\n",
		"return;yield;":                                  "return;\nyield;\n",
		"return{};yield a=1;throw b":                     "return {};\nyield a = 1;\nthrow b;\n",
		"return function(){};throw class{}":              "return function() {\n};\nthrow class {\n};\n",
		"return-a;yield- -a;throw!a":                     "return -a;\nyield - -a;\nthrow !a;\n",
		"const K=1":                                      "const K = 1;\n",
		"const K=-1":                                     "const K = 0xffffffffffffffff;\n",
		"const K=null;const L=true;const M=false":        "const K = null;\nconst L = true;\nconst M = false;\n",
		"const K=\"a\\n\\x01\\xe9'\"":                    "const K = \"a\\n\\x01\\xe9\\'\";\n",
		"function f(){}":                                 "this.f <- function f() {\n};\n",
		"class C{}":                                      "this.C <- class C {\n};\n",
		"a=1;f();[1];-a;null;\"s\"":                      "a = 1;\nf();\n[1];\n-a;\nnull;\n\"s\";\n",
		"if (a) f(-1, - -b) else x = (1 + 2) * 3":        "if (a) {\nf(-1, - -b);\n} else {\nx = (1 + 2) * 3;\n}\n",
	} {
		writes(t, source, want)
	}
}

// TestAlone: an expression that is a statement stands in brackets, if the thing it begins with is a table, a function or a class.
func TestAlone(t *testing.T) { // P11.2
	for _, thing := range []string{"{}", "{a = 1}", "function() {\n}", "function f() {\n}", "class {\n}", "class C {\n}"} {
		for _, behind := range []string{"", ".a", ".a.b", "[b]", "()", "(a)()", " + a", " * a + b && c", " ? a : b", ".a = b", "[0] <- b", ".a++", "[1]--", "[1]-- in a", ".a().b ? c : d"} {
			writes(t, "("+thing+behind+")", "("+thing+behind+");\n")
			writes(t, "x = "+thing+behind, "x = "+thing+behind+";\n")
		}
		for _, c := range []string{"-$", "!$.a", "typeof $", "delete $.a", "++$.a", "--$[1]", "a + $", "a ? $ : b", "a = $", "[$]", "f($)", "a[$]", "a[$].b = 1", "- -$ + b", "++$.a * b"} {
			s := strings.Replace(c, "$", thing, 1)
			writes(t, s, s+";\n")
		}
		writes(t, "for (("+thing+".a);;) { }", "for (("+thing+".a);;) {\n}\n")
	}
	for _, c := range []string{"tables", "functional", "classes", "null", "this.a", "::a", "base.a", "[a].b", "\"{}\".a", "1.a"} {
		writes(t, c, c+";\n")
	}
	// What stands in brackets by its place begins with the thing all the same.
	writes(t, "({} + 1).a", "(({} + 1).a);\n")
	writes(t, "(class { } ? a : b)()", "((class {\n} ? a : b)());\n")
	writes(t, "(-{}).a", "(-{}).a;\n")
}

func TestExpressions(t *testing.T) { // P11.3
	for source, want := range map[string]string{
		"null": "null", "true": "true", "false": "false", "this": "this", "a": "a",
		"0": "0", "0x10": "16", "'a'": "97", "0xffffffffffffffff": "0xffffffffffffffff",
		"\"\"": "\"\"", "\"a\\\"\\'\\\\\\n\\t\\r\\0\\x7f\\xff~\"": "\"a\\\"\\'\\\\\\n\\t\\r\\x00\\x7f\\xff~\"",
		":: a": "::a", "base . a": "base.a", "base.constructor": "base.constructor",
		"[]": "[]", "[a]": "[a]", "[a,b=1,[c]]": "[a, b = 1, [c]]",
		"{}": "{}", "{a=1}": "{a = 1}", "{a=b=1,c=2,}": "{a = b = 1, c = 2}",
		"{[a]=1,[1]=2,[b=1]=3}": "{[a] = 1, [1] = 2, [b = 1] = 3}",
		"{[\"a\"]=1}":           "{a = 1}",
		"{[\"if\"]=1,[\"\"]=2,[\"a b\"]=3,[\"0a\"]=4,[\"constructor\"]=5,[\"_\"]=6}": "{[\"if\"] = 1, [\"\"] = 2, [\"a b\"] = 3, [\"0a\"] = 4, [\"constructor\"] = 5, _ = 6}",
		"{function f(){}}":                      "{function f() {\n}}",
		"{f=function f(){}}":                    "{function f() {\n}}",
		"{[\"f\"]=function f(a,b=1){return a}}": "{function f(a, b = 1) {\nreturn a;\n}}",
		"{f=function(){}}":                      "{f = function() {\n}}",
		"{f=function g(){}}":                    "{f = function g() {\n}}",
		"{[f]=function f(){}}":                  "{[f] = function f() {\n}}",
		"{[\"constructor\"]=function(){}}":      "{[\"constructor\"] = function() {\n}}",
		"{[\"\"]=function(){}}":                 "{[\"\"] = function() {\n}}",
		"{f=class f{}}":                         "{f = class f {\n}}",
		"{a=1,function f(){},[b]=2}":            "{a = 1, function f() {\n}, [b] = 2}",
		"function(){}":                          "function() {\n}",
		"function f(){}":                        "function f() {\n}",
		"function(a){}":                         "function(a) {\n}",
		"function f(a,b=1,c=d=2,){a;b}":         "function f(a, b = 1, c = d = 2) {\na;\nb;\n}",
		"class{}":                               "class {\n}",
		"class C{}":                             "class C {\n}",
		"class extends D{}":                     "class extends D {\n}",
		"class C extends a=b{}":                 "class C extends a = b {\n}",
		"class C extends{}{}":                   "class C extends {} {\n}",
		"class{a=1;b=c=2 function f(a){}[d]=3}": "class {\na = 1;\nb = c = 2;\nfunction f(a) {\n};\n[d] = 3;\n}",
		"class{constructor(a,b=1){c}}":          "class {\nconstructor(a, b = 1) {\nc;\n};\n}",
		"class{[\"constructor\"]=function(){}}": "class {\nconstructor() {\n};\n}",
		"class{[\"constructor\"]=function f(){};[\"constructor\"]=1}": "class {\n[\"constructor\"] = function f() {\n};\n[\"constructor\"] = 1;\n}",
		"class{[constructor]=1}": "", // no name
		"class{[\"if\"]=function(){}f=function f(){}f=function(){};[f]=function f(){}}": "class {\n[\"if\"] = function() {\n};\nfunction f() {\n};\nf = function() {\n};\n[f] = function f() {\n};\n}",
		"a.b": "a.b", "1 .a": "1.a", "a[b]": "a[b]", "a[b=1]": "a[b = 1]", "f()": "f()", "f(a,b=1)": "f(a, b = 1)", "f({},[])": "f({}, [])", "a.b[c](d).e": "a.b[c](d).e",
		"-a": "-a", "- -a": "- -a", "- - -a": "- - -a", "!!a": "! !a", "~~a": "~ ~a", "-~-a": "-~-a", "!-a": "!-a", "- --a": "- --a", "-++a": "-++a", "!--a": "!--a", "--a": "--a", "++a.b": "++a.b",
		"-1": "-1", "- 0xffffffffffffffff": "-0xffffffffffffffff", "-a++": "-a++", "-a.b": "-a.b", "(-a).b": "(-a).b", "- -(a+b)": "- -(a + b)", "-(-a+b)": "-(-a + b)",
		"typeof a": "typeof a", "typeof(a+b)": "typeof (a + b)", "typeof-a": "typeof -a", "typeof typeof a": "typeof typeof a", "clone[]": "clone []", "resume{}": "resume {}", "delete a.b": "delete a.b", "-typeof a": "-typeof a", "clone++a": "clone ++a", "typeof\"a\"": "typeof \"a\"", "typeof(a++)": "typeof a++",
		"a++": "a++", "a . b --": "a.b--", "::a++": "::a++", "++ ::a": "++::a", "++(a)": "++a", "(a++).b": "(a++).b", "(++a)[b]": "(++a)[b]", "(a++)()": "(a++)()", "++(-a).b": "++(-a).b", "(a=b).c++": "(a = b).c++",
		"a+b": "a + b", "a in b": "a in b", "a instanceof b": "a instanceof b", "a<=>b": "a <=> b", "a- -b": "a - -b", "a- --b": "a - --b", "a-- -b": "a-- - b", "a+ ++b": "a + ++b", "a< -b": "a < -b", "a>>>b": "a >>> b",
		"a+b+c": "a + b + c", "a+(b+c)": "a + (b + c)", "a+b-c*d": "a + b - c * d", "(a+b)*c": "(a + b) * c", "a*(b%c)": "a * (b % c)", "a||b&&c": "a || b && c", "(a||b)&&c": "(a || b) && c",
		"a?b:c": "a ? b : c", "a||b?c:d": "a || b ? c : d", "a?b?c:d:e": "a ? b ? c : d : e", "a?b:c?d:e": "a ? b : c ? d : e", "(a?b:c)?d:e": "(a ? b : c) ? d : e", "a?b=1:c": "a ? b = 1 : c", "a?b:(c=1)": "a ? b : (c = 1)", "(a=1)?b:c": "(a = 1) ? b : c", "a? ::b: ::c": "a ? ::b : ::c", "(a?b:c)+d": "(a ? b : c) + d", "a+(b?c:d)": "a + (b ? c : d)",
		"a=b": "a = b", "a=b=c": "a = b = c", "a<-b+=c-=d*=e/=f%=g": "a <- b += c -= d *= e /= f %= g", "a.b=c": "a.b = c", "a[b]<-c?d:e": "a[b] <- c ? d : e", "::a=b": "::a = b", "(a=b)+c": "(a = b) + c", "-(a=b)": "-(a = b)", "a+(b=c)": "a + (b = c)",
		"(a+b).c": "(a + b).c", "(a?b:c)[d]": "(a ? b : c)[d]", "(a=b)(c)": "(a = b)(c)", "(!a)()": "(!a)()", "f((a=b)+c,(d))": "f((a = b) + c, d)", "(function(){})()": "function() {\n}()", "(class{}).a": "class {\n}.a", "({}).a": "{}.a", "([a])[0]": "[a][0]", "(f)(a)": "f(a)",
	} {
		tree, f := parse.Parse("x = " + source)
		if want == "" {
			if f.Code == api.OK {
				t.Errorf("%q is read", source)
			}
			continue
		}
		if f.Code != api.OK {
			t.Errorf("Parse(%q): %v", source, f)
			continue
		}
		root := tree.Nodes[ast.Root(tree)]
		assign := tree.Nodes[tree.Nodes[root.Kids[0]].Kids[0]]
		if got := show.Expr(tree, assign.Kids[1]); got != want {
			t.Errorf("Expr of %q:\n%s, not\n%s", source, got, want)
		}
		if got := show.Text(tree); got != "x = "+want+";\n" {
			t.Errorf("Text of %q:\n%s, not\n%s", source, got, want)
		}
		comesBack(t, tree, show.Text(tree))
	}
}

// TestNoneWritten: nothing is written of a tree that mayn't be, nor of what is no expression.
func TestNoneWritten(t *testing.T) { // P11.1
	name := api.Node{Kind: api.NName, Text: "a"}
	stmt := api.Node{Kind: api.NExpr, Kids: []int{0}}
	block := api.Node{Kind: api.NBlock, Kids: []int{1}}
	deep := []api.Node{{Kind: api.NNull}}
	for i := range ast.MaxDeep {
		deep = append(deep, api.Node{Kind: api.NUnary, Text: "-", Kids: []int{i}})
	}
	deep = append(deep, api.Node{Kind: api.NExpr, Kids: []int{ast.MaxDeep}}, api.Node{Kind: api.NBlock, Kids: []int{ast.MaxDeep + 1}})
	for _, nodes := range [][]api.Node{
		nil, {name}, {name, stmt}, {stmt, block}, {{Kind: api.NBlock, Text: "a"}}, {{Kind: 99}}, {{Kind: api.NName, Text: "if"}, stmt, block}, {{Kind: api.NName, Text: "a", At: -1}, stmt, block},
		{name, stmt, {Kind: api.NBlock}}, {name, stmt, {Kind: api.NBlock, Kids: []int{1, 1}}}, {name, {Kind: api.NExpr, Kids: []int{7}}, block}, {name, {Kind: api.NExpr, Kids: []int{math.MinInt}}, block},
		{name, {Kind: api.NExpr}, block}, make([]api.Node, ast.MaxNodes+1), deep,
	} {
		tree := api.Tree{Nodes: nodes}
		if got := show.Text(tree); got != "" {
			t.Errorf("Text of what mayn't be: %q", got)
		}
		for at := range min(len(nodes), 5) {
			if got := show.Expr(tree, at); got != "" {
				t.Errorf("Expr of what mayn't be: %q", got)
			}
		}
	}
	tree := read(t, "local a = 1; if (b) c; for (local i;;) ; switch (d) { case 1: } x = class { y = function(p = 2) { } }; enum E { A }; const K = 3; try { } catch (e) { }")
	for at, n := range tree.Nodes {
		if got := show.Expr(tree, at); (got != "") != ast.Expr(n.Kind) {
			t.Errorf("Expr of the kind %d: %q", n.Kind, got)
		}
	}
	for _, at := range []int{-1, -2, len(tree.Nodes), len(tree.Nodes) + 1, math.MaxInt, math.MinInt} {
		if got := show.Expr(tree, at); got != "" {
			t.Errorf("Expr(%d): %q", at, got)
		}
	}
}

// TestBrackets: each operator within each other one, at each place, stands in brackets just where it must: without them the tree would be another one.
func TestBrackets(t *testing.T) { // P11.3
	forms := []string{"@ = $", "a = $", "a ? b : c", "$ ? a : b", "a ? $ : b", "a ? b : $", "-$", "!$", "typeof $", "$++", "--$", "delete $", "$.a", "$[a]", "a[$]", "$(a)", "a($)", "a(b, $)", "[$]", "{a = $}", "{[$] = a}", "function(a = $) {\n}", "class extends $ {\n}"}
	for _, op := range strings.Fields("|| && | ^ & == < in << + - *") {
		forms = append(forms, "$ "+op+" a", "a "+op+" $")
	}
	count := 0
	for _, outer := range forms {
		for _, inner := range append(forms, "a", "1", "this", "::a", "base.a", "{}", "function() {\n}", "class {\n}") {
			for _, last := range []string{"a", "a + b", "a = b", "-a"} {
				within := strings.ReplaceAll(strings.ReplaceAll(inner, "$", "("+last+")"), "@", "a")
				source := "x = " + strings.ReplaceAll(strings.ReplaceAll(outer, "$", "("+within+")"), "@", "("+within+")")
				tree, f := parse.Parse(source)
				if f.Code != api.OK { // what isn't a target stands where one must
					continue
				}
				count++
				text := show.Text(tree)
				comesBack(t, tree, text)
				needed(t, tree, text)
			}
		}
	}
	if count < 3000 {
		t.Errorf("too few to tell anything: %d", count)
	}
}

// needed: is a text another tree without any two of its brackets?
func needed(t *testing.T, tree api.Tree, text string) {
	t.Helper()
	var open []int
	for at := range len(text) {
		switch text[at] {
		case '(':
			open = append(open, at)
		case ')':
			from := open[len(open)-1]
			open = open[:len(open)-1]
			without := text[:from] + " " + text[from+1:at] + " " + text[at+1:]
			if other, f := parse.Parse(without); f.Code == api.OK && ast.Same(tree, other) {
				t.Errorf("brackets that needn't be at %d and %d: %s", from, at, text)
			}
		}
	}
}

// TestManyTrees: trees made at will are written as the document tells, and read as the same trees.
func TestManyTrees(t *testing.T) { // P11.1 to P11.3
	kinds := map[int]int{}
	for seed := range uint32(8000) {
		g := &grower{seed: seed}
		tree := g.tree()
		if f := ast.Check(tree); f != (api.Fault{}) {
			t.Fatalf("a tree that mayn't be: %v", f)
		}
		text := show.Text(tree)
		if want := (model{tree}).whole(); text != want {
			t.Fatalf("Text:\n%s, not\n%s", text, want)
		}
		for at, n := range tree.Nodes {
			kinds[n.Kind]++
			if !ast.Expr(n.Kind) {
				continue
			}
			want, _ := model{tree}.expr(at)
			if got := show.Expr(tree, at); got != want {
				t.Fatalf("Expr:\n%s, not\n%s", got, want)
			}
		}
		comesBack(t, tree, text)
	}
	for kind := api.NNull; kind < api.NKinds; kind++ {
		if kinds[kind] < 500 {
			t.Errorf("too few of the kind %d to tell anything: %d", kind, kinds[kind])
		}
	}
}

// TestDeepTrees: how deep trees may be, so deep they are written.
func TestDeepTrees(t *testing.T) { // P1, P11.1
	chain := func(kind int, text string, first bool) api.Tree {
		nodes := []api.Node{{Kind: api.NName, Text: "a"}}
		for range ast.MaxDeep - 2 {
			kids := []int{len(nodes) - 1}
			if kind == api.NBinary {
				nodes = append(nodes, api.Node{Kind: api.NName, Text: "b"})
				kids = append(kids, len(nodes)-1)
				if !first {
					slices.Reverse(kids)
				}
			}
			nodes = append(nodes, api.Node{Kind: kind, Text: text, Kids: kids})
		}
		return api.Tree{Nodes: append(nodes, api.Node{Kind: api.NExpr, Kids: []int{len(nodes) - 1}}, api.Node{Kind: api.NBlock, Kids: []int{len(nodes)}})}
	}
	most := ast.MaxDeep - 2
	for _, c := range []struct {
		tree api.Tree
		want string
	}{
		{chain(api.NUnary, "-", true), strings.Repeat("- ", most-1) + "-a;\n"},
		{chain(api.NUnary, "clone", true), strings.Repeat("clone ", most) + "a;\n"},
		{chain(api.NField, "b", true), "a" + strings.Repeat(".b", most) + ";\n"},
		{chain(api.NCall, "", true), "a" + strings.Repeat("()", most) + ";\n"},
		{chain(api.NArray, "", true), strings.Repeat("[", most) + "a" + strings.Repeat("]", most) + ";\n"},
		{chain(api.NBinary, "+", true), "a" + strings.Repeat(" + b", most) + ";\n"},
		{chain(api.NBinary, "+", false), strings.Repeat("b + (", most-1) + "b + a" + strings.Repeat(")", most-1) + ";\n"},
	} {
		if got := show.Text(c.tree); got != c.want {
			t.Errorf("%.200s.., not %.200s..", got, c.want)
		}
	}
	comesBack(t, chain(api.NBinary, "+", true), show.Text(chain(api.NBinary, "+", true)))
}

// TestLongTrees: as many nodes as may be are written soon.
func TestLongTrees(t *testing.T) { // P1, P11.1
	nodes := []api.Node{}
	kids := []int{}
	for len(nodes) < ast.MaxNodes-2 {
		nodes = append(nodes, api.Node{Kind: api.NThis}, api.Node{Kind: api.NThrow, Kids: []int{len(nodes)}})
		kids = append(kids, len(nodes)-1)
	}
	nodes = append(nodes, api.Node{Kind: api.NNothing}, api.Node{Kind: api.NBlock, Kids: append(kids, len(nodes))})
	got := show.Text(api.Tree{Nodes: nodes})
	if got != strings.Repeat("throw this;\n", len(kids))+";\n" || len(nodes) != ast.MaxNodes {
		t.Errorf("%d nodes: %d bytes", len(nodes), len(got))
	}
	if _, f := parse.Parse(got); f.Code != api.ErrLong { // it is longer than layer 8 lets be
		t.Errorf("Parse of what is too long: %v", f)
	}
	tree := read(t, strings.Repeat("a = [1, -b];\n", 7000))
	comesBack(t, tree, show.Text(tree))
}
