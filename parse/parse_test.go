package parse_test

import (
	"math"
	"reflect"
	"slices"
	"strconv"
	"strings"
	"testing"
	"unsafe"

	"drey/api"
	"drey/ast"
	"drey/lex"
	"drey/parse"
)

// kindNames: the kinds' names in their order.
const kindNames = "null true false int str name this global unary binary cond assign step index field super call array table func class param member case item block local expr if while do for foreach switch break continue return yield throw try const enum nothing"

// written: a node and all below it: its kind's name, perhaps where it begins, its text, its number, its kids.
func written(t api.Tree, at int, where bool) string {
	if at < 0 {
		return "-"
	}
	n := t.Nodes[at]
	out := strings.Fields(kindNames)[n.Kind-1]
	if where {
		out += "@" + strconv.Itoa(n.At)
	}
	if n.Text != "" {
		out += ":" + n.Text
	}
	if n.Num != 0 {
		out += "#" + strconv.FormatInt(n.Num, 10)
	}
	if len(n.Kids) == 0 {
		return out
	}
	return out + "(" + list(t, n.Kids, where) + ")"
}

func list(t api.Tree, kids []int, where bool) string {
	var out []string
	for _, kid := range kids {
		out = append(out, written(t, kid, where))
	}
	return strings.Join(out, " ")
}

// reads: are these the statements of a source?
func reads(t *testing.T, text, want string) {
	t.Helper()
	tree, f := parse.Parse(text)
	if f != (api.Fault{}) {
		t.Errorf("Parse(%.200q): %v", text, f)
		return
	}
	if f := ast.Check(tree); f.Code != api.OK {
		t.Errorf("Parse(%.200q): a tree that may not be: %v", text, f)
		return
	}
	root := tree.Nodes[ast.Root(tree)]
	if got := list(tree, root.Kids, strings.Contains(want, "@")); got != want || root.At != 0 {
		t.Errorf("Parse(%.200q), at %d:\n%s, not\n%s", text, root.At, got, want)
	}
}

// fails: is this the fault of a source?
func fails(t *testing.T, text string, code api.Errno, at int) {
	t.Helper()
	if tree, f := parse.Parse(text); f != (api.Fault{Code: code, At: at}) || len(tree.Nodes) != 0 {
		t.Errorf("Parse(%.200q) of %d bytes: %d nodes, %v, not %v", text, len(text), len(tree.Nodes), f, api.Fault{Code: code, At: at})
	}
}

// fine: is there a tree of a source?
func fine(t *testing.T, text string) {
	t.Helper()
	if tree, f := parse.Parse(text); f != (api.Fault{}) || ast.Check(tree) != (api.Fault{}) {
		t.Errorf("Parse(%.200q) of %d bytes: %v", text, len(text), f)
	}
}

// TestSources: what is wrong with a source's tokens is told ahead of all else.
func TestSources(t *testing.T) { // P10.1
	reads(t, "", "")
	reads(t, " \n# so\n/* so */", "")
	fails(t, "x y @", api.ErrSign, 4)
	fails(t, "1 = 2 /*", api.ErrForm, 6)
	fails(t, strings.Repeat("(", 100)+"\"\\q\"", api.ErrEscape, 101)
	fails(t, ") 99999999999999999999", api.ErrOver, 2)
	fails(t, strings.Repeat(" ", lex.MaxText+1), api.ErrLong, 0)
	fails(t, strings.Repeat("; ", lex.MaxTokens)+";", api.ErrLong, 2*lex.MaxTokens)
	for text, want := range map[string]string{ // quotes are no signs, no words, no names
		"\"if\"":          "expr(str:if)",
		"x = \"-\"":       "expr(assign:=(name:x str:-))",
		"[\"]\"]":         "expr(array(str:]))",
		"f(\")\", \",\")": "expr(call(name:f str:) str:,))",
		"\"local\"; '+'":  "expr(str:local) expr(int#43)",
	} {
		reads(t, text, want)
	}
	for text, at := range map[string]int{"x \"+\" y": 2, "x \";\"": 2, "\"(\" x": 4, "a.\"b\"": 2, "{ \"}\"": 5, "local \"a\"": 6, "class { \"a\" = 1 }": 8, "x '+' y": 2, "::\"a\"": 2, "if \"(\" x)": 3, "function \"f\"() { }": 9} {
		fails(t, text, api.ErrForm, at)
	}
}

func TestStatements(t *testing.T) { // P10.2
	for text, want := range map[string]string{
		"{ }":                     "block",
		"{ a; { } ; }":            "block(expr(name:a) block nothing)",
		"{ a = 1 }":               "block(expr(assign:=(name:a int#1)))",
		";;":                      "nothing nothing",
		"local a":                 "local:a(-)",
		"local a = b = 1":         "local:a(assign:=(name:b int#1))",
		"local a; local b = 2":    "local:a(-) local:b(int#2)",
		"local function f() { }":  "local:f(func:f(block))",
		"local f = function() {}": "local:f(func(block))",
		"local function f(a, b = 1) { return a }": "local:f(func:f#2(param:a(-) param:b(int#1) block(return(name:a))))",
		"if (a) b":                            "if(name:a block(expr(name:b)) -)",
		"if (a) { b; c }":                     "if(name:a block(expr(name:b) expr(name:c)) -)",
		"if (a) ; else ;":                     "if(name:a block(nothing) block(nothing))",
		"if (a) b else c":                     "if(name:a block(expr(name:b)) block(expr(name:c)))",
		"if (a) b; else { c }":                "if(name:a block(expr(name:b)) block(expr(name:c)))",
		"if (a) b\nelse c":                    "if(name:a block(expr(name:b)) block(expr(name:c)))",
		"if (a) { } else if (b) { } else { }": "if(name:a block if(name:b block block))",
		"if (a) { } else { if (b) { } }":      "if(name:a block block(if(name:b block -)))",
		"if (a) if (b) c else d":              "if(name:a block(if(name:b block(expr(name:c)) block(expr(name:d)))) -)",
		"if (a) { if (b) c } else d":          "if(name:a block(if(name:b block(expr(name:c)) -)) block(expr(name:d)))",
		"while (a) b":                         "while(name:a block(expr(name:b)))",
		"while (a = b) { }":                   "while(assign:=(name:a name:b) block)",
		"do a\nwhile (b)":                     "do(block(expr(name:a)) name:b)",
		"do { } while (a); b":                 "do(block name:a) expr(name:b)",
		"do do ; while (a)\nwhile (b)":        "do(block(do(block(nothing) name:a)) name:b)",
		"for (;;) a":                          "for(- - - block(expr(name:a)))",
		"for (a; b; c) { }":                   "for(expr(name:a) name:b name:c block)",
		"for (local i = 0; i < 9; i++) ;":     "for(local:i(int) binary:<(name:i int#9) step:++#1(name:i) block(nothing))",
		"for (local i; ; i) ;":                "for(local:i(-) - name:i block(nothing))",
		"for (a = 1; b;) ;":                   "for(expr(assign:=(name:a int#1)) name:b - block(nothing))",
		"for (; b in c; ) ;":                  "for(- binary:in(name:b name:c) - block(nothing))",
		"foreach (v in t) a":                  "foreach:\tv(name:t block(expr(name:a)))",
		"foreach (k, v in a in b) { }":        "foreach:k\tv(binary:in(name:a name:b) block)",
		"switch (a) { }":                      "switch(name:a)",
		"switch (a) { case 1: }":              "switch(name:a case(int#1))",
		"switch (a) { case b ? c : d: default: case 2: x; y }":    "switch(name:a case(cond(name:b name:c name:d)) case(-) case(int#2 expr(name:x) expr(name:y)))",
		"switch (a) { default: { } break }":                       "switch(name:a case(- block break))",
		"switch (a) { case 1: switch (b) { default: } default: }": "switch(name:a case(int#1 switch(name:b case(-))) case(-))",
		"break; continue":                   "break continue",
		"return":                            "return(-)",
		"return; yield;":                    "return(-) yield(-)",
		"return a":                          "return(name:a)",
		"return a = 1; yield -1":            "return(assign:=(name:a int#1)) yield(unary:-(int#1))",
		"return\na":                         "return(-) expr(name:a)",
		"yield\n-a":                         "yield(-) expr(unary:-(name:a))",
		"{ return } { yield }":              "block(return(-)) block(yield(-))",
		"if (a) return else yield":          "if(name:a block(return(-)) block(yield(-)))",
		"try return catch (e) yield":        "try:e(block(return(-)) block(yield(-)))",
		"throw a":                           "throw(name:a)",
		"throw\na = 1":                      "throw(assign:=(name:a int#1))",
		"try { } catch (e) { }":             "try:e(block block)",
		"try a catch (e) b":                 "try:e(block(expr(name:a)) block(expr(name:b)))",
		"try a; catch (e) b":                "try:e(block(expr(name:a)) block(expr(name:b)))",
		"const K = 1":                       "const:K(int#1)",
		"const K = -1; const L = - 0x10":    "const:K(int#-1) const:L(int#-16)",
		"const K = -0x8000000000000000":     "const:K(int#-9223372036854775808)",
		"const K = -'a'":                    "const:K(int#-97)",
		"const K = \"a b\"; const L = \"\"": "const:K(str:a b) const:L(str)",
		"const K = null; const L = true":    "const:K(null) const:L(true)",
		"const K = false":                   "const:K(false)",
		"enum E { }":                        "enum:E",
		"enum E { A }":                      "enum:E(item:A)",
		"enum E { A, B, C, }":               "enum:E(item:A item:B#1 item:C#2)",
		"enum E { A = 5, B, C = -2, D, F, G = 0, H }": "enum:E(item:A#5 item:B#6 item:C#-2 item:D#-1 item:F item:G item:H#1)",
		"enum E { A = 9223372036854775807, B, C }":    "enum:E(item:A#9223372036854775807 item:B#-9223372036854775808 item:C#-9223372036854775807)",
		"enum E { A = -'\\x01', A }":                  "enum:E(item:A#-1 item:A)",
		"function f() { }":                            "expr(assign:<-(field:f(this) func:f(block)))",
		"function f(a) { } function g() { } x":        "expr(assign:<-(field:f(this) func:f#1(param:a(-) block))) expr(assign:<-(field:g(this) func:g(block))) expr(name:x)",
		"class C { }":                                 "expr(assign:<-(field:C(this) class:C(-)))",
		"class C extends D { } class E { } x":         "expr(assign:<-(field:C(this) class:C(name:D))) expr(assign:<-(field:E(this) class:E(-))) expr(name:x)",
		"function f() { };":                           "expr(assign:<-(field:f(this) func:f(block))) nothing",
		"a":                                           "expr(name:a)",
		"a; b\nc":                                     "expr(name:a) expr(name:b) expr(name:c)",
		"clone a; delete b; typeof c; resume d":       "expr(unary:clone(name:a)) expr(unary:delete(name:b)) expr(unary:typeof(name:c)) expr(unary:resume(name:d))",
		"null; this; base.a; ::b":                     "expr(null) expr(this) expr(super:a) expr(global:b)",
	} {
		reads(t, text, want)
	}
}

// TestEnds: which statements end with a `;` or where else they may, and which need no end.
func TestEnds(t *testing.T) { // P10.2
	ended := []string{"local a", "local a = 1", "local a = function() { }", "do { } while (a)", "break", "continue", "return", "return a", "yield", "yield a", "throw a", "const K = 1", "a", "a = 1", "f()", "a++", "[1]", "x = { }", "x = function() { }", "(class { })"}
	whole := []string{"{ }", ";", "local function f() { }", "if (a) { }", "if (a) ;", "if (a) { } else { }", "while (a) { }", "for (;;) { }", "foreach (v in t) { }", "switch (a) { }", "try { } catch (e) { }", "enum E { }", "function f() { }", "class C { }", "function() { }", "class { }", "function() { }()"}
	for _, s := range ended {
		for _, behind := range []string{";", " ;", "\n;", "\n", "/*\n*/", " # so\n", "", " "} {
			fine(t, s+behind)
		}
		for _, c := range []string{"{ $ }", "if (a) $ else b", "try $ catch (e) b", "switch (a) { default: $ }", "if (a) $; else b", "do $; while (a)", "do $\nwhile (a)", "function() { $ }"} {
			fine(t, strings.Replace(c, "$", s, 1))
		}
		if strings.HasPrefix(s, "return") && len(s) < 7 || s == "yield" {
			continue // what is behind might be its value
		}
		for _, next := range []string{"b", "1", "\"s\"", "local b", "break", "{ }", "class { }", "while (a) ;", "this", "!b"} {
			fails(t, s+" "+next, api.ErrForm, len(s)+1)
			fine(t, s+";"+next)
			fine(t, s+"\n"+next)
		}
		fails(t, "switch (a) { case 1: "+s+" case 2: }", api.ErrForm, 22+len(s))
		fails(t, "switch (a) { case 1: "+s+" default: }", api.ErrForm, 22+len(s))
	}
	for _, s := range whole {
		for _, next := range []string{"b", "1", "local b", "break", "{ }", "class { }", "while (a) ;", "this", "!b"} {
			fine(t, s+" "+next)
		}
	}
	reads(t, "a\n;", "expr(name:a)") // the `;` belongs to it
	reads(t, "a;;", "expr(name:a) nothing")
	reads(t, "do ; while (a);", "do(block(nothing) name:a)")
	reads(t, "class { };", "expr(class(-)) nothing")
}

func TestExpressions(t *testing.T) { // P10.3
	for text, want := range map[string]string{
		"a":                     "name:a",
		"12":                    "int#12",
		"0xffffffffffffffff":    "int#-1",
		"'a'":                   "int#97",
		"\"a\\tb\"":             "str:a\tb",
		"null":                  "null",
		"true":                  "true",
		"false":                 "false",
		"this":                  "this",
		"::a":                   "global:a",
		":: a":                  "global:a",
		"base.a":                "super:a",
		"base.constructor":      "super:constructor",
		"base\n.\na":            "super:a",
		"(a)":                   "name:a",
		"((a))":                 "name:a",
		"(a = b)":               "assign:=(name:a name:b)",
		"[]":                    "array",
		"[a]":                   "array(name:a)",
		"[a, b = 1, [c]]":       "array(name:a assign:=(name:b int#1) array(name:c))",
		"a.b":                   "field:b(name:a)",
		"a\n.\nb":               "field:b(name:a)",
		"1.a":                   "field:a(int#1)",
		"a[b]":                  "index(name:a name:b)",
		"a[b = c]":              "index(name:a assign:=(name:b name:c))",
		"a()":                   "call(name:a)",
		"a(b, c = 1)":           "call(name:a name:b assign:=(name:c int#1))",
		"a.b[c](d).e":           "field:e(call(index(field:b(name:a) name:c) name:d))",
		"a++":                   "step:++#1(name:a)",
		"a--":                   "step:--#1(name:a)",
		"a.b++":                 "step:++#1(field:b(name:a))",
		"a[b]--":                "step:--#1(index(name:a name:b))",
		"::a++":                 "step:++#1(global:a)",
		"(a)++":                 "step:++#1(name:a)",
		"++a":                   "step:++(name:a)",
		"--a.b":                 "step:--(field:b(name:a))",
		"++::a":                 "step:++(global:a)",
		"-- a[b]":               "step:--(index(name:a name:b))",
		"++(a)":                 "step:++(name:a)",
		"++\na":                 "step:++(name:a)",
		"- a":                   "unary:-(name:a)",
		"-1":                    "unary:-(int#1)",
		"- -a":                  "unary:-(unary:-(name:a))",
		"!~a":                   "unary:!(unary:~(name:a))",
		"- --a":                 "unary:-(step:--(name:a))",
		"--a - --b":             "binary:-(step:--(name:a) step:--(name:b))",
		"a-- - b":               "binary:-(step:--#1(name:a) name:b)",
		"a---b":                 "binary:-(step:--#1(name:a) name:b)",
		"typeof clone resume a": "unary:typeof(unary:clone(unary:resume(name:a)))",
		"delete a":              "unary:delete(name:a)",
		"delete a.b":            "unary:delete(field:b(name:a))",
		"delete a[b]":           "unary:delete(index(name:a name:b))",
		"delete (a)":            "unary:delete(name:a)",
		"delete ::a":            "unary:delete(global:a)",
		"delete f().a":          "unary:delete(field:a(call(name:f)))",
		"-a.b":                  "unary:-(field:b(name:a))",
		"-a++":                  "unary:-(step:++#1(name:a))",
		"!a(b)":                 "unary:!(call(name:a name:b))",
		"(-a).b":                "field:b(unary:-(name:a))",
		"-a + b":                "binary:+(unary:-(name:a) name:b)",
		"a + -b":                "binary:+(name:a unary:-(name:b))",
		"a\n+ b":                "binary:+(name:a name:b)",
		"a\n- b":                "binary:-(name:a name:b)",
		"a + b + c":             "binary:+(binary:+(name:a name:b) name:c)",
		"a + (b + c)":           "binary:+(name:a binary:+(name:b name:c))",
		"a + b * c - d":         "binary:-(binary:+(name:a binary:*(name:b name:c)) name:d)",
		"a in b instanceof c":   "binary:instanceof(binary:in(name:a name:b) name:c)",
		"a ? b : c":             "cond(name:a name:b name:c)",
		"a\n? b\n: c":           "cond(name:a name:b name:c)",
		"a || b ? c : d":        "cond(binary:||(name:a name:b) name:c name:d)",
		"a ? b : c ? d : e":     "cond(name:a name:b cond(name:c name:d name:e))",
		"a ? b ? c : d : e":     "cond(name:a cond(name:b name:c name:d) name:e)",
		"a ? b = 1 : c":         "cond(name:a assign:=(name:b int#1) name:c)",
		"a ? b : (c = 1)":       "cond(name:a name:b assign:=(name:c int#1))",
		"a = b ? c : d":         "assign:=(name:a cond(name:b name:c name:d))",
		"a = b = c":             "assign:=(name:a assign:=(name:b name:c))",
		"a += b -= c":           "assign:+=(name:a assign:-=(name:b name:c))",
		"a <- b":                "assign:<-(name:a name:b)",
		"a < -b":                "binary:<(name:a unary:-(name:b))",
		"a *= 1":                "assign:*=(name:a int#1)",
		"a /= 1":                "assign:/=(name:a int#1)",
		"a %= 1":                "assign:%=(name:a int#1)",
		"a\n= b":                "assign:=(name:a name:b)",
		"a.b = c":               "assign:=(field:b(name:a) name:c)",
		"a[b] <- c":             "assign:<-(index(name:a name:b) name:c)",
		"::a = c":               "assign:=(global:a name:c)",
		"(a) = c":               "assign:=(name:a name:c)",
		"(a ? b : c).d = e":     "assign:=(field:d(cond(name:a name:b name:c)) name:e)",
	} {
		reads(t, text, "expr("+want+")")
		reads(t, "x = [("+text+")]", "expr(assign:=(name:x array("+want+")))")
	}
}

// TestTablesFunctionsClasses: what is written by braces within an expression.
func TestTablesFunctionsClasses(t *testing.T) { // P10.3
	for text, want := range map[string]string{
		"{ }":                                           "table",
		"{ a = 1 }":                                     "table(str:a int#1)",
		"{ a = 1, b = c = 2, }":                         "table(str:a int#1 str:b assign:=(name:c int#2))",
		"{ [a] = 1, [b = 1] = 2 }":                      "table(name:a int#1 assign:=(name:b int#1) int#2)",
		"{ function f(a) { } }":                         "table(str:f func:f#1(param:a(-) block))",
		"{ function f() { }, a = { }, }":                "table(str:f func:f(block) str:a table)",
		"{ a = function() { } }":                        "table(str:a func(block))",
		"function() { }":                                "func(block)",
		"function f() { }":                              "func:f(block)",
		"function(a) { }":                               "func#1(param:a(-) block)",
		"function(a, b = 1, c = d = 2,) { }":            "func#3(param:a(-) param:b(int#1) param:c(assign:=(name:d int#2)) block)",
		"function(a = 1, a) { return a }":               "func#2(param:a(int#1) param:a(-) block(return(name:a)))",
		"function() { }()":                              "call(func(block))",
		"function f() { }.a":                            "field:a(func:f(block))",
		"class { }":                                     "class(-)",
		"class C { }":                                   "class:C(-)",
		"class extends D { }":                           "class(name:D)",
		"class C extends a.b = c { }":                   "class:C(assign:=(field:b(name:a) name:c))",
		"class extends { a = 1 } { }":                   "class(table(str:a int#1))",
		"class extends class { } { }":                   "class(class(-))",
		"class { a = 1 }":                               "class(- member(str:a int#1))",
		"class { a = 1; b = 2 c = 3\nd = 4; }":          "class(- member(str:a int#1) member(str:b int#2) member(str:c int#3) member(str:d int#4))",
		"class { [a] = 1 }":                             "class(- member(name:a int#1))",
		"class { a = b [c] = 1 }":                       "class(- member(str:a assign:=(index(name:b name:c) int#1)))",
		"class { a = b\n[c] = 1 }":                      "class(- member(str:a name:b) member(name:c int#1))",
		"class { function f() { } function g(a) { }; }": "class(- member(str:f func:f(block)) member(str:g func:g#1(param:a(-) block)))",
		"class { constructor() { } a = 1 }":             "class(- member(str:constructor func(block)) member(str:a int#1))",
		"class { constructor(a, b = 1) { }; constructor() { } }": "class(- member(str:constructor func#2(param:a(-) param:b(int#1) block)) member(str:constructor func(block)))",
		"class { }.a": "field:a(class(-))",
		"class { }()": "call(class(-))",
	} {
		reads(t, "x = "+text, "expr(assign:=(name:x "+want+"))")
		reads(t, "return "+text, "return("+want+")")
	}
	reads(t, "function() { }", "expr(func(block))")
	reads(t, "class { }.a = 1", "expr(assign:=(field:a(class(-)) int#1))")
}

// TestLines: what doesn't belong to a thing in another line.
func TestLines(t *testing.T) { // P10.3
	reads(t, "a\n(b)", "expr(name:a) expr(name:b)")
	reads(t, "a\n[b]", "expr(name:a) expr(array(name:b))")
	reads(t, "a\n++\nb", "expr(name:a) expr(step:++(name:b))")
	reads(t, "a\n--b", "expr(name:a) expr(step:--(name:b))")
	reads(t, "a(b)\n[c]", "expr(call(name:a name:b)) expr(array(name:c))")
	reads(t, "a/*\n*/(b)", "expr(name:a) expr(name:b)")
	reads(t, "a/* */(b)", "expr(call(name:a name:b))")
	reads(t, "1\n++a", "expr(int#1) expr(step:++(name:a))") // the step isn't of the 1
	reads(t, "a.b\n.c\n[d]", "expr(field:c(field:b(name:a))) expr(array(name:d))")
	reads(t, "a(\nb\n,\nc\n)[\nd\n]", "expr(index(call(name:a name:b name:c) name:d))")
	reads(t, "a++\n(b)", "expr(step:++#1(name:a)) expr(name:b)")
	fails(t, "(a\n(b))", api.ErrForm, 3)
	fails(t, "(a\n++)", api.ErrForm, 3)
	fails(t, "[a\n[b]]", api.ErrForm, 3)
	fails(t, "a++ (b)", api.ErrForm, 4)
	fails(t, "a++[b]", api.ErrForm, 3)
	fails(t, "a++.b", api.ErrForm, 3)
	fails(t, "a++\n.b", api.ErrForm, 4)
	fails(t, "a++ ++", api.ErrForm, 4)
	fails(t, "a++ --b", api.ErrForm, 4)
}

// TestLevels: of each two operators which one binds more closely; those of one level go from the left on.
func TestLevels(t *testing.T) { // P10.3
	levels := []string{"||", "&&", "|", "^", "&", "== != <=>", "< <= > >= in instanceof", "<< >> >>>", "+ -", "* / %"}
	for i, weak := range levels {
		for j, strong := range levels[i:] {
			for _, x := range strings.Fields(weak) {
				for _, y := range strings.Fields(strong) {
					want := "binary:" + x + "(name:a binary:" + y + "(name:b name:c))"
					if j == 0 {
						want = "binary:" + y + "(binary:" + x + "(name:a name:b) name:c)"
					}
					reads(t, "a "+x+" b "+y+" c", "expr("+want+")")
					reads(t, "a "+y+" b "+x+" c", "expr(binary:"+x+"(binary:"+y+"(name:a name:b) name:c))")
				}
			}
		}
	}
}

// TestPlaces: at which byte each node is.
func TestPlaces(t *testing.T) { // P10.1
	for text, want := range map[string]string{
		" a":                                   "expr@1(name@1:a)",
		"\n; {}":                               "nothing@1 block@3",
		"a + b * c":                            "expr@0(binary@0:+(name@0:a binary@4:*(name@4:b name@8:c)))",
		"(a) + b":                              "expr@0(binary@1:+(name@1:a name@6:b))",
		"(a) = b":                              "expr@0(assign@1:=(name@1:a name@6:b))",
		"(a) ? b : c":                          "expr@0(cond@1(name@1:a name@6:b name@10:c))",
		"(a)++":                                "expr@0(step@1:++#1(name@1:a))",
		" - (a)":                               "expr@1(unary@1:-(name@4:a))",
		"++ a":                                 "expr@0(step@0:++(name@3:a))",
		" delete a.b":                          "expr@1(unary@1:delete(field@8:b(name@8:a)))",
		"a . b [ c ] ( d )":                    "expr@0(call@0(index@0(field@0:b(name@0:a) name@8:c) name@14:d))",
		" [ 1, 'a' ]":                          "expr@1(array@1(int@3#1 int@6#97))",
		"x = { a = 1, [b] = 2 }":               "expr@0(assign@0:=(name@0:x table@4(str@6:a int@10#1 name@14:b int@19#2)))",
		"x = { function f ( a , b = 1 ) { } }": "expr@0(assign@0:=(name@0:x table@4(str@15:f func@6:f#2(param@19:a(-) param@23:b(int@27#1) block@31))))",
		" :: a; base . b; this":                "expr@1(global@1:a) expr@7(super@7:b) expr@17(this@17)",
		"null; true; false; \"\"":              "expr@0(null@0) expr@6(true@6) expr@12(false@12) expr@19(str@19)",
		" local a = 1":                         "local@1:a(int@11#1)",
		" local function f() { }":              "local@1:f(func@7:f(block@20))",
		" class { } function() { }":            "expr@1(class@1(-)) expr@11(func@11(block@22))",
		" function f() { }":                    "expr@1(assign@1:<-(field@1:f(this@1) func@1:f(block@14)))",
		" class C extends D { a = 1; function f() { } constructor() { } }": "expr@1(assign@1:<-(field@1:C(this@1) class@1:C(name@17:D member@21(str@21:a int@25#1) member@28(str@37:f func@28:f(block@41)) member@45(str@45:constructor func@45(block@59)))))",
		"x = class { [a] = 1 }":                     "expr@0(assign@0:=(name@0:x class@4(- member@12(name@13:a int@18#1))))",
		" if (a) b else c":                          "if@1(name@5:a block@8(expr@8(name@8:b)) block@15(expr@15(name@15:c)))",
		"if (a) { } else if (b) { }":                "if@0(name@4:a block@7 if@16(name@20:b block@23 -))",
		" while (a) (b)":                            "while@1(name@8:a block@11(expr@11(name@12:b)))",
		"do a\nwhile (b)":                           "do@0(block@3(expr@3(name@3:a)) name@12:b)",
		"for (local i; (i); i) ;":                   "for@0(local@5:i(-) name@15:i name@19:i block@22(nothing@22))",
		"for ( (a);;) ;":                            "for@0(expr@6(name@7:a) - - block@13(nothing@13))",
		" foreach (k, v in t) ;":                    "foreach@1:k\tv(name@18:t block@21(nothing@21))",
		" switch (a) { case 1: b; default: }":       "switch@1(name@9:a case@14(int@19#1 expr@22(name@22:b)) case@25(-))",
		"break; continue; return; yield a; throw b": "break@0 continue@7 return@17(-) yield@25(name@31:a) throw@34(name@40:b)",
		" try a; catch (e) b":                       "try@1:e(block@5(expr@5(name@5:a)) block@18(expr@18(name@18:b)))",
		" const K = - 1":                            "const@1:K(int@11#-1)",
		" enum E { A, B = 7 }":                      "enum@1:E(item@10:A item@13:B#7)",
	} {
		reads(t, text, want)
	}
	if tree, _ := parse.Parse("\n\n a"); tree.Nodes[ast.Root(tree)].At != 0 {
		t.Error("the whole is at 0")
	}
}

// TestWrong: where and why sources are wrong: at the token behind the @.
func TestWrong(t *testing.T) { // P10.2 to P10.4
	for code, texts := range map[api.Errno][]string{
		api.ErrForm: {
			"x @y", "@) x", "@}", "@]", "@, a", "@= a", "@* a", "@: a", "@? a", "@.a", "@in a", "@else a", "@catch", "@case 1:", "@default:", "@extends a", "@static a",
			"@constructor() { }", "@instanceof", "x = @", "x = @;", "x +@", "x + @* y", "-@", "++@", "delete@", "(@", "(@)", "(a@", "(a @b)", "(a@, b)", "[@", "[a@", "[@, a]",
			"[a, @]", "[a @b]", "a.@", "a.@1", "a.@if", "a.@(b)", "a[@]", "a[b@", "a[b@, c]", "a(@", "a(b@", "a(@, b)", "a(b, @)", "a(b @c)", "::@", "::@1", "::@this", "base@",
			"base@(a)", "base @= a", "base.@", "base.@1", "base.@base", "a ? @", "a ? b@", "a ? b @c", "a ? b : @", "a ? @: b", "a @: b", "x = {@", "x = { @,}", "x = { @1 = 2 }",
			"x = { a @}", "x = { a @: 1 }", "x = { a = @}", "x = { a = 1 @b = 2 }", "x = { a = 1@; }", "x = { a = 1, @, }", "x = { [@] = 1 }", "x = { [a] @}",
			"x = { function @() { } }", "x = { function f @{ } }", "x = { @constructor() { } }", "x = { @if = 1 }", "{@", "{ a@", "{ @)", "{ } @}", "local@", "local @1",
			"local @if", "local a @b", "local a@, b", "local a = @", "local a @+= 1", "local a@.b", "local function @() { }", "local function f@", "local @class C { }", "if @a",
			"if (@)", "if (a@", "if (a) @", "if (a) @else b", "if (a) b @c", "if (a) b else @", "if (a) b; @catch", "if (a) { } else { } @else", "while @a", "while (@) b",
			"while (a) @", "while (a) b @else c", "do @", "do a @while (b)", "do { } @", "do { } @a", "do { } while @a", "do { } while (@)", "do { } while (a) @b",
			"do a; @; while (b)", "for @", "for (@", "for (@)", "for (a@)", "for (a; b@)", "for (;;@", "for (;;@; ) a", "for (;;) @", "for (local @function f() { };;) a",
			"for (local @;;) a", "for (@break;;) a", "for (a @b;;) c", "for (a@, b;;) c", "foreach @", "foreach (@", "foreach (@1 in a) b", "foreach (a@) b",
			"foreach (a, @in b) c", "foreach (a, b@, c in d) e", "foreach (@local a in b) c", "foreach (a @= b) c", "foreach (a in @) b", "foreach (a in b) @", "switch @",
			"switch (@) { }", "switch (a) @", "switch (a) @b", "switch (a) {@", "switch (a) { @b }", "switch (a) { @; }", "switch (a) { case @: }", "switch (a) { case 1 @}",
			"switch (a) { case 1:@", "switch (a) { case 1: b@", "switch (a) { default @}", "switch (a) { default @1: }", "switch (a) { default: @default: }",
			"switch (a) { default: case 1: @default: }", "switch (a) { case 1: { @case 2: } }", "break @a", "continue @a", "return a @b", "yield a @b", "throw @", "throw@;",
			"{ throw @}", "return @)", "return @while (a) b", "yield @= 1", "try @", "try a @b", "try { } @", "try { } @a", "try { } catch @e", "try { } catch (@) { }",
			"try { } catch (@1) { }", "try { } catch (e@, f) { }", "try { } catch (e) @", "const @", "const @1", "const K @", "const K@;", "const K @<- 1", "const K = @",
			"const K = @a", "const K = @this", "const K = -@", "const K = -@a", "const K = -@\"a\"", "const K = - @-1", "const K = @--1", "const K = -@null", "const K = @!true", "const K = @(1)",
			"const K = 1 @+ 2", "const K = @[]", "const K = @{ }", "const K = @++1", "enum @", "enum @{ }", "enum E @", "enum E @= 1", "enum E {@", "enum E { @, }",
			"enum E { A@", "enum E { A @B }", "enum E { A, @, B }", "enum E { @1 }", "enum E { @\"A\" }", "enum E { A = @}", "enum E { A = @\"a\" }", "enum E { A = -@a }",
			"enum E { A = 1 @+ 2 }", "enum E { A = @null }", "enum E { @if }", "function@", "function f@", "function f @{ }", "function f(@", "function f(@, ) { }",
			"function f(@1) { }", "function f(a @b) { }", "function f(a = @) { }", "function f(a, @, b) { }", "function f() @", "function f() @a", "function f() {@",
			"function f@.a() { }", "function @if() { }", "x = function f(a@;", "class@", "class C @", "class C @: D { }", "class C extends D @", "class C {@", "class C { @; }",
			"class C { @1 }", "class C { a @}", "class C { a = @}", "class C { a = 1;@; }", "class C { a = 1@, b = 2 }", "class C { a @; }", "class C { function @() { } }",
			"class C { constructor @= 1 }", "class C { constructor @f() { } }", "class C { @static a = 1 }", "class C { function @constructor() { } }", "class C { @local a }",
			"class C { [a] @}",
		},
		api.ErrType: {
			"1 @= a", "f() @= 1", "a + b @= c", "-a @= c", "a ? b : c @= d", "a++ @= b", "++a @+= b", "this @= a", "base.a @= b", "\"a\" @<- b", "[a] @= b", "(a = b) @= c",
			"a = 1 @= b", "null @%= b", "x = { } @-= b", "x = function() { } @= b", "f()@++", "1 @--", "this@++", "base.a@++", "(a + b)@++", "(a++)@++", "class { }@++",
			"(-a)@++", "++@1", "++@f()", "--@-a", "++@this", "++ @++a", "++@a++", "--@base.a", "++@(a + b)", "++ @!a = 1", "++@clone a", "++@f() y", "delete @f()", "delete @1",
			"delete @-a", "delete @++a", "delete @a++", "delete @base.a", "delete @this", "delete @(a + b)", "delete @delete a", "x = delete @[a] + ) ",
		},
		api.ErrTwice: {
			"foreach (a, a @in b) c", "foreach (a, a@", "foreach (a, a@)", "foreach (a, a @, b in c) d",
		},
	} {
		for _, text := range texts {
			ahead, behind, ok := strings.Cut(text, "@")
			if !ok {
				t.Fatal(text)
			}
			fails(t, ahead+behind, code, len(ahead))
		}
	}
	fails(t, "{ \"a\" = 1 }", api.ErrType, 6) // a block, no table
	reads(t, "a ^ b", "expr(binary:^(name:a name:b))")
}

// TestFirstFault: of several things that are wrong the first one is told.
func TestFirstFault(t *testing.T) { // P10.1
	fails(t, "x y\n1 = 2", api.ErrForm, 2)
	fails(t, "1 = )", api.ErrType, 2)
	fails(t, "++1 )", api.ErrType, 2)
	fails(t, "foreach (a, a b", api.ErrTwice, 14)
	fails(t, "if (1 = 2) )", api.ErrType, 6)
	fails(t, "a b c", api.ErrForm, 2)
	fails(t, "1++ ++", api.ErrType, 1)
	fails(t, "delete f(", api.ErrForm, 9)
}

// many: a text so often.
func many(s string, n int) string { return strings.Repeat(s, n) }

// TestNest: how deep each thing may be nested: a source of so many, one in another; where one more is told, is behind the @ of that.
func TestNest(t *testing.T) { // P10.4
	if parse.MaxNest != 60 {
		t.Errorf("MaxNest: %d", parse.MaxNest)
	}
	for _, c := range []struct {
		most                     int
		ahead, each, mid, behind string
	}{
		{60, "", "@{", "", "}"},
		{59, "", "{@", ";", "}"},
		{59, "", "while (@a) ", ";", ""},
		{59, "", "while (@a) {", ";", "}"},
		{59, "", "for (;;) @", ";", ""},
		{59, "", "do @", ";", "while (a);"},
		{59, "", "try @", ";", "catch (e) ;"},
		{59, "", "try @; catch (e) ", ";", ""},
		{59, "", "if (@a) ", ";", ""},
		{59, "", "if (@a) ; else ", ";", ""},
		{58, "if (a) ;", " else if (@a) ;", "", ""},
		{59, "", "switch (@a) { default: ", ";", "}"},
		{58, "", "(@", "a", ")"},
		{58, "", "[@", "a", "]"},
		{58, "", "a(@", "a", ")"},
		{58, "", "a[@", "a", "]"},
		{58, "", "a = @", "a", ""},
		{58, "", "a ? @", "a", " : b"},
		{58, "", "a ? @a : ", "a", ""},
		{58, "", "@!", "a", ""},
		{58, "", "@typeof ", "a", ""},
		{29, "", "@-(", "a", ")"},
		{57, "x = ", "{ a = @", "1", "}"},
		{57, "x = ", "{ [@", "a", "] = 1 }"},
		{29, "", "function f() {@", ";", "}"},
		{29, "", "local function f() {@", ";", "}"},
		{19, "x = ", "function@() { return ", "a", "}"},
		{28, "x = ", "function(a = @", "1", ") { }"},
		{19, "x = ", "{ function f@() { return ", "1", "} }"},
		{14, "x = ", "class { function f@() { return ", "1", "} }"},
		{14, "x = ", "class { constructor@() { return ", "1", "} }"},
		{28, "x = ", "class { a = @", "1", "}"},
		{29, "", "@class { a = ", "1", "}"},
		{28, "x = ", "class extends @", "a", "{ }"},
	} {
		ahead, behind, _ := strings.Cut(c.each, "@")
		source := func(n int) string { return c.ahead + many(ahead+behind, n) + c.mid + many(c.behind, n) }
		for n := range c.most {
			fine(t, source(n+1))
		}
		for _, n := range []int{1, 2, 50, 1000} {
			fails(t, source(c.most+n), api.ErrDeep, len(c.ahead)+c.most*len(ahead+behind)+len(ahead))
		}
	}
	fine(t, many("!", 57)+"++a") // a statement, an expression, and 58 within each other
	fails(t, many("!", 58)+"++a", api.ErrDeep, 58)
	fails(t, many("!", 58)+"++1", api.ErrDeep, 58)
	fails(t, many("{", 60), api.ErrForm, 60)
	fails(t, many("{", 61), api.ErrDeep, 60)
	fails(t, many("(", 58), api.ErrForm, 58)
	fails(t, many("(", 59), api.ErrDeep, 59)
	fine(t, many("{ } (a); -a; if (a) ; else if (b) ; x = function() { }; class { } a ? b : c\n", 500)) // what ended isn't counted any more
}

// TestMaxDeep: a tree isn't deeper than trees may be, however little is nested.
func TestMaxDeep(t *testing.T) { // P10.4
	for _, each := range []string{" + a", "()", ".b", "[b]"} {
		most := ast.MaxDeep - 2 // the statement is around them, and the block of all
		for _, last := range []string{"", ";", "\n", "\nwhile (b) ;"} {
			fine(t, "a"+many(each, most)+last)
			text := "a" + many(each, most+1) + last
			fails(t, text, api.ErrDeep, len(text))
		}
		text := "a" + many(each, ast.MaxDeep+1)
		for _, more := range []string{"@", "@)", " @+ a", "@; )", "\n@) )", " @? b : c"} { // the next token is behind the @
			ahead, behind, _ := strings.Cut(text+more, "@")
			fails(t, ahead+behind, api.ErrDeep, len(ahead))
		}
	}
	text := "if (a) { b" + many(".b", ast.MaxDeep-4) + " }"
	fine(t, text)
	text = "if (a) { b" + many(".b", ast.MaxDeep-3) + " }"
	fails(t, text, api.ErrDeep, len(text))
	fails(t, text+" )", api.ErrForm, len(text)+1) // the whole would be too deep, but isn't met any more
	text = "{ if (a) { b" + many(".b", ast.MaxDeep-3) + " }"
	fails(t, text+" )", api.ErrForm, len(text)+1)
	fails(t, text+" } )", api.ErrDeep, len(text)+3)
}

// TestTooManyNodes: a token is two nodes at most.
func TestTooManyNodes(t *testing.T) { // P10.4
	fine(t, many("a\n", lex.MaxTokens-1))
	tree, f := parse.Parse(many("a\n", lex.MaxTokens-2) + "a;")
	if f.Code != api.OK || len(tree.Nodes) != ast.MaxNodes-1 {
		t.Errorf("as many nodes as fit: %d, %v", len(tree.Nodes), f)
	}
	fails(t, many("a\n", lex.MaxTokens), api.ErrLong, 2*lex.MaxTokens)
	fails(t, many("a\n", lex.MaxTokens)+"# so", api.ErrLong, 2*lex.MaxTokens+4)
	fails(t, many("1\n", lex.MaxTokens-1)+")", api.ErrForm, 2*lex.MaxTokens-2)
}

// TestOwnMemory: a tree shares nothing with its source, nor with another one.
func TestOwnMemory(t *testing.T) { // P2
	text := "local " + many("a", 20) + " = [b, c]"
	one, _ := parse.Parse(text)
	two, _ := parse.Parse(text)
	kept := ast.Clone(two)
	for i := range one.Nodes {
		_ = append(one.Nodes[i].Kids, 99)
		clear(one.Nodes[i].Kids[:cap(one.Nodes[i].Kids)])
		one.Nodes[i].Text = "changed"
	}
	clear(one.Nodes[:cap(one.Nodes)])
	if !reflect.DeepEqual(two, kept) {
		t.Error("trees share memory")
	}
	three, _ := parse.Parse(text)
	if !reflect.DeepEqual(three, two) {
		t.Error("a source is read another time as another tree")
	}
	first := func(t api.Tree) *byte { // of the text of the NLocal
		at := slices.IndexFunc(t.Nodes, func(n api.Node) bool { return n.Kind == api.NLocal })
		return unsafe.StringData(t.Nodes[at].Text)
	}
	if first(two) == first(three) || first(two) == unsafe.StringData(text[6:]) {
		t.Error("texts are shared")
	}
}

// TestAnything: whatever a source is, it is read soon.
func TestAnything(t *testing.T) { // P1
	for _, s := range append(strings.Fields(kindNames+" ( ) [ ] { } , ; : ? . :: = <- + - ++ -- ! || && delete function class extends constructor base enum in case default catch else"), "\x00", "\xff", "a\n", "\"", "f(", "a.", "a ? ", "{a=", "x=[", "if(a)", "function f(){", "class{a=", "switch(a){case 1:", "++a;", "#\n", "a+", "a?a:", "local function f(){", "else if(a);") {
		for _, n := range []int{1, 2, 59, 60, 61, 300, 70000} {
			parse.Parse(many(s, n))
			parse.Parse(many(s+" ", n))
			parse.Parse("x = " + many(s+"\n", n))
		}
	}
	if len(strings.Fields(kindNames)) != api.NKinds-1 || math.MaxInt < 0 {
		t.Error("the kinds' names")
	}
}
