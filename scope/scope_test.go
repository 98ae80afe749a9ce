package scope_test

import (
	"cmp"
	"fmt"
	"math"
	"reflect"
	"slices"
	"strings"
	"testing"
	"unsafe"

	"drey/api"
	"drey/ast"
	"drey/parse"
	"drey/scope"
	"drey/value"
)

// read: the tree of a source that is right.
func read(t *testing.T, source string) api.Tree {
	t.Helper()
	tree, f := parse.Parse(source)
	if f != (api.Fault{}) {
		t.Fatalf("Parse(%.300q): %v", source, f)
	}
	return tree
}

// look: what is known of a source's tree, in which nothing is wrong.
func look(t *testing.T, source string) (api.Tree, scope.Info) {
	t.Helper()
	tree := read(t, source)
	kept := ast.Clone(tree)
	info, f := scope.Look(tree)
	if f != (api.Fault{}) {
		t.Errorf("Look(%.300q): %v", source, f)
	}
	if !reflect.DeepEqual(tree, kept) {
		t.Errorf("Look has changed the tree of %.300q", source)
	}
	return tree, info
}

// names: what is declared (a!0: a is the local 0) and what names are (=L0 a local, =O0 a captured one, =C1 a constant, =S a slot), from the source's front on.
func names(tree api.Tree, info scope.Info) string {
	type entry struct {
		at   int
		text string
	}
	var list []entry
	for i, n := range tree.Nodes {
		text, note := n.Text, ""
		if n.Kind == api.NField && info.Names[i].Kind == scope.Const {
			text = tree.Nodes[n.Kids[0]].Text + "." + text
		}
		switch name := info.Names[i]; name {
		case scope.Name{Kind: scope.Slot}:
			note = text + "=S"
		case scope.Name{Kind: scope.Local, Index: name.Index}:
			note = fmt.Sprint(text, "=L", name.Index)
		case scope.Name{Kind: scope.Outer, Index: name.Index}:
			note = fmt.Sprint(text, "=O", name.Index)
		case scope.Name{Kind: scope.Const, Value: name.Value}:
			source, _ := value.Source(name.Value)
			note = text + "=C" + source
		default:
			if name != (scope.Name{}) {
				note = fmt.Sprintf("%s=%v", text, name)
			}
		}
		key, val, both := strings.Cut(n.Text, "\t")
		for which, name := range []string{key, val} {
			if index := info.Decl[i][which]; index != -1 {
				list = append(list, entry{n.At, fmt.Sprint(name, "!", index)})
			} else if both && name != "" {
				list = append(list, entry{n.At, name + "!none"})
			}
		}
		if note != "" {
			list = append(list, entry{n.At, note})
		}
	}
	slices.SortStableFunc(list, func(a, b entry) int { return cmp.Compare(a.at, b.at) })
	var out []string
	for _, e := range list {
		out = append(out, e.text)
	}
	return strings.Join(out, " ")
}

// funcs: the functions: around which, how many locals, of each whether it is captured, what is captured, whether it yields.
func funcs(info scope.Info) string {
	var out []string
	for _, f := range info.Funcs {
		s := fmt.Sprint(f.Around, ":", f.Locals)
		for _, boxed := range f.Boxed {
			s += map[bool]string{true: "x", false: "."}[boxed]
		}
		for _, c := range f.Captures {
			s += fmt.Sprint(map[bool]string{true: "L", false: "O"}[c.Local], c.Index)
		}
		if f.Yields {
			s += "y"
		}
		out = append(out, s)
	}
	return strings.Join(out, " ")
}

func TestNames(t *testing.T) { // P12.2, P12.3
	for source, want := range map[string]string{
		"":                                 "",
		"a":                                "a=S",
		"local a; a":                       "a!0 a=L0",
		"a; local a":                       "a=S a!0",
		"local a; local b; b; a":           "a!0 b!1 b=L1 a=L0",
		"local a = a":                      "a!0 a=S",
		"local a = [b, a = c]":             "a!0 b=S a=S c=S",
		"local a; { a }":                   "a!0 a=L0",
		"{ local a; a } a":                 "a!0 a=L0 a=S",
		"local a; { local a = a; a } a":    "a!0 a!1 a=L0 a=L1 a=L0",
		"local a; { a; local a; { a } } a": "a!0 a=L0 a!1 a=L1 a=L0",
		"{ local a } { local a; a }":       "a!0 a!1 a=L1",
		"if (a) local b; else b":           "a=S b!0 b=S",
		"if (a) { local b; b } else if (b) { b }":                       "a=S b!0 b=L0 b=S b=S",
		"while (a) local a\na":                                          "a=S a!0 a=S",
		"do { local a; a } while (a)":                                   "a!0 a=L0 a=S",
		"for (local i = i; i; i++) { i; local i; i } i":                 "i!0 i=S i=L0 i=L0 i=L0 i!1 i=L1 i=S",
		"for (i; i; i) local i\ni":                                      "i=S i=S i=S i!0 i=S",
		"local i; for (local i;;) local i\ni":                           "i!0 i!1 i!2 i=L0",
		"foreach (v in v) v; v":                                         "v!0 v=S v=L0 v=S",
		"foreach (k, v in k + v) { k; v; local k; k } k":                "k!0 v!1 k=S v=S k=L0 v=L1 k!2 k=L2 k=S",
		"local v; foreach (v in v) { local v; v } v":                    "v!0 v!1 v=L0 v!2 v=L2 v=L0",
		"switch (a) { case a: local a; a; case a: a }":                  "a=S a=S a!0 a=L0 a=S a=S",
		"switch (a) { case 1: local a; default: local a }":              "a=S a!0 a!1",
		"local a; switch (a) { case a: local a = a; a } a":              "a!0 a=L0 a=L0 a!1 a=L0 a=L1 a=L0",
		"try e; catch (e) e; e":                                         "e!0 e=S e=L0 e=S",
		"try { local e; e } catch (e) { e; local e; e } e":              "e!1 e!0 e=L0 e=L1 e!2 e=L2 e=S",
		"local e; try e; catch (e) { e } e":                             "e!0 e!1 e=L0 e=L1 e=L0",
		"x = function(a, b) { b; a }; a":                                "x=S a!0 b!1 b=L1 a=L0 a=S",
		"x = function(a, b = a) { a; local a; a }; b":                   "x=S a!0 b!1 a=S a=L0 a!2 a=L2 b=S",
		"local a; x = function(b = a, a) { b; a }":                      "a!0 x=S b!0 a=L0 a!1 b=L0 a=L1",
		"local a; x = function() { a; local a; a }; a":                  "a!0 x=S a=O0 a!0 a=L0 a=L0",
		"local a; x = function() { { local a } a }":                     "a!0 x=S a!0 a=O0",
		"local f = function() { f }; f":                                 "f!0 f=S f=L0",
		"local f = function f() { f }; f":                               "f!0 f=O0 f=L0",
		"local function f() { f } f":                                    "f!0 f=O0 f=L0",
		"local function f(f) { f } f":                                   "f!0 f!0 f=L0 f=L0",
		"local function f(a = f) { local f; f }":                        "f!0 a!0 f=L0 f!1 f=L1",
		"local f; { local function f() { f } f }":                       "f!0 f!1 f=O0 f=L1",
		"local f = function g() { f; g }; g":                            "f!0 f=S g=S g=S",
		"local g = f(function g() { g })":                               "g!0 f=S g=S",
		"function f() { f }":                                            "f=S",
		"x = class C { a = C; function f(b) { b; f } }":                 "x=S C=S b!0 b=L0 f=S",
		"local a; x = class extends a { [a] = a; constructor() { a } }": "a!0 x=S a=L0 a=L0 a=L0 a=O0",
		"local a; { [a] } x = { a = a, [a] = 1, function a() { a } }":   "a!0 a=L0 x=S a=L0 a=L0 a=O0",
		"local a; a.a; ::a; this.a; base.a; \"a\"":                      "a!0 a=L0",
		"local a; a = 1; a += a; a <- 2; a++; --a; a[a]; a(a)":          "a!0 a=L0 a=L0 a=L0 a=L0 a=L0 a=L0 a=L0 a=L0 a=L0 a=L0",
		"a = a; a++; delete a; delete a.b; a.b = c":                     "a=S a=S a=S a=S a=S a=S c=S",
		"const K = 1; K":                                                "K=C1",
		"K; const K = 1; K":                                             "K=S K=C1",
		"{ const K = -1 } K":                                            "K=C-1",
		"x = function() { const K = \"a b\" }; K":                       "x=S K=C\"a b\"",
		"const K = 1; x = function(a = K) { K }":                        "x=S a!0 K=C1 K=C1",
		"const A = null; const B = true; const C = false; A + B + C; D": "A=Cnull B=Ctrue C=Cfalse D=S",
		"const K = 1; { local K; K } K":                                 "K!0 K=L0 K=C1",
		"const K = 1; local K = K; K":                                   "K!0 K=C1 K=L0",
		"local K; const K = 1; K; x = function() { K }":                 "K!0 K=L0 x=S K=O0",
		"{ local K; const K = 1; K = K } K":                             "K!0 K=L0 K=L0 K=C1",
		"const K = 1; K.a = K; K[0] = K; ::K = K; K()":                  "K=C1 K=C1 K=C1 K=C1 K=C1 K=C1",
		"enum E { A, B = -5, C }; E.A; E.B; E.C":                        "E.A=C0 E.B=C-5 E.C=C-4",
		"E.A; E; enum E { A }; E.A":                                     "E=S E=S E.A=C0",
		"x = function() { enum E { A = 3 } }; { E.A }":                  "x=S E.A=C3",
		"enum E { A }; x = function(a = E.A) { E.A }":                   "x=S a!0 E.A=C0 E.A=C0",
		"enum E { A }; E.A.A; E.A.b = 1; delete E.A.c; E.A[E.A]()":      "E.A=C0 E.A=C0 E.A=C0 E.A=C0 E.A=C0",
		"enum E { A }; { local E; E.A; E.B; E } E.A":                    "E!0 E=L0 E=L0 E=L0 E.A=C0",
		"enum E { A }; local E = E.A; E.B = 1; x = function() { E.C }":  "E!0 E.A=C0 E=L0 x=S E=O0",
		"local E; x = function() { enum E { A }; E.A; E }; E.A":         "E!0 x=S E=O0 E=O0 E=L0",
		"enum E { E, F }; E.E; ::E.A; a.E; this.E.F":                    "E.E=C0 a=S",
		"enum E { A }; A; const F = 1; F.A":                             "A=S F=C1",
		"enum E { }; x = { E = 1 }":                                     "x=S",
	} {
		if tree, info := look(t, source); info.Funcs != nil && names(tree, info) != want {
			t.Errorf("Look(%q): %q, not %q", source, names(tree, info), want)
		}
	}
}

func TestFunctions(t *testing.T) { // P12.1, P12.3
	for source, want := range map[string]string{
		"":                             "-1:0",
		"local a; { local b } local c": "-1:3...",
		"function f() { } function g() { function h() { } } function i() { }":                               "-1:0 0:0 0:0 2:0 0:0",
		"x = function(a = function() { function() { } }, b = function() { }) { y = function() { } }":        "-1:0 0:0 1:0 0:0 0:2.. 4:0",
		"x = function() { }(function() { }, [function() { }])":                                              "-1:0 0:0 0:0 0:0",
		"for (a = function() { local a }; function() { local b; local c }; b) { x = function() { yield } }": "-1:0 0:1. 0:2.. 0:0y",
		"do { x = function() { local a } } while (function() { })":                                          "-1:0 0:1. 0:0",
		"x = { [function() { local a }] = function() { } }":                                                 "-1:0 0:1. 0:0",
		"x = class extends function() { local a } { constructor() { } f = function() { yield 1 } }":         "-1:0 0:1. 0:0 0:0y",
		"x = function(a, b = 1, c) { local d; for (local e;;) ; foreach (k, v in a) ; try ; catch (f) ; }":  "-1:0 0:8........",
		"local a; local b; x = function() { b }":                                                            "-1:2.x 0:0L1",
		"local a; local b; x = function() { b; a; b; a }":                                                   "-1:2xx 0:0L1L0",
		"local a; x = function() { a; { a } local a; a }":                                                   "-1:1x 0:1.L0",
		"local a; x = function() { y = function() { a } }":                                                  "-1:1x 0:0L0 1:0O0",
		"local a; x = function(b) { y = function(c) { a; b; c } }":                                          "-1:1x 0:1xL0 1:1.O0L0",
		"local a; local b; x = function() { b; y = function() { a; b } }":                                   "-1:2xx 0:0L1L0 1:0O1O0",
		"local a; x = function() { y = function() { z = function() { a } }; a }":                            "-1:1x 0:0L0 1:0O0 2:0O0",
		"local a; x = function() { a }; y = function() { a }":                                               "-1:1x 0:0L0 0:0L0",
		"x = function(a) { { local a; y = function() { a } } y = function() { a } }":                        "-1:0 0:2xx 1:0L1 1:0L0",
		"local a; x = function(b = a) { }":                                                                  "-1:1. 0:1.",
		"local a; x = function(b = function() { a }) { }":                                                   "-1:1x 0:0L0 0:1.",
		"local function f(a = f) { f } f":                                                                   "-1:1x 0:1.L0",
		"local f = function() { f }":                                                                        "-1:1. 0:0",
		"local f = function f() { f }":                                                                      "-1:1x 0:0L0",
		"local a; x = function() { local a; a }":                                                            "-1:1. 0:1.",
		"const K = 1; enum E { A }; x = function() { K; E.A }":                                              "-1:0 0:0",
		"local E; enum E { A }; x = function() { E.A }":                                                     "-1:1x 0:0L0",
		"local a; x = function() { delete a.b; a = 1; a++; y = function() { a.b++ } }":                      "-1:1x 0:0L0 1:0O0",
		"foreach (k, v in x) y = function() { v }":                                                          "-1:2.x 0:0L1",
		"try ; catch (e) y = function() { e }":                                                              "-1:1x 0:0L0",
		"for (local i; y = function() { i };) ;":                                                            "-1:1x 0:0L0",
		"function f() { yield }":                                                                            "-1:0 0:0y",
		"function f() { if (a) { while (b) yield 1 } }":                                                     "-1:0 0:0y",
		"function f() { x = function() { yield 1 } }":                                                       "-1:0 0:0 1:0y",
		"function f() { x = function() { }; yield 1 }":                                                      "-1:0 0:0y 1:0",
		"function f() { yield function() { return 1 } }":                                                    "-1:0 0:0y 1:0",
		"function f() { function g() { } } function h() { yield }":                                          "-1:0 0:0 1:0 0:0y",
	} {
		tree, info := look(t, source)
		if funcs(info) != want {
			t.Errorf("Look(%q): %q, not %q", source, funcs(info), want)
		}
		for number, f := range info.Funcs {
			at := f.Node
			if number == 0 && at != ast.Root(tree) || number > 0 && tree.Nodes[at].Kind != api.NFunc || info.Of[at] != max(f.Around, 0) {
				t.Errorf("Look(%q): the function %d is the node %d, in %d", source, number, at, info.Of[at])
			}
		}
	}
}

// TestOf: in which function each node is, and that nothing else is told of nodes than of names and of what declares.
func TestOf(t *testing.T) { // P12.1, P12.3
	source := "one; x = function f(p = two + function() { three }, q) { four; enum E { A }; y = [E.A, class { five = function() { six } }] }; seven"
	tree, info := look(t, source)
	if len(info.Names) != len(tree.Nodes) || len(info.Decl) != len(tree.Nodes) || len(info.Of) != len(tree.Nodes) {
		t.Fatalf("%d nodes, of %d", len(info.Names), len(tree.Nodes))
	}
	want := map[string]int{"one": 0, "x": 0, "f": 0, "p": 2, "two": 0, "three": 1, "q": 2, "four": 2, "E": 2, "A": 2, "y": 2, "five": 2, "six": 3, "seven": 0, "+": 0, "=": -1}
	for at, n := range tree.Nodes {
		number, ok := want[n.Text]
		if ok && number >= 0 && info.Of[at] != number {
			t.Errorf("%q of the kind %d is in %d, not in %d", n.Text, n.Kind, info.Of[at], number)
		}
		if info.Names[at] != (scope.Name{}) && n.Kind != api.NName && n.Kind != api.NField {
			t.Errorf("the kind %d is %v", n.Kind, info.Names[at])
		}
		if info.Decl[at] != [2]int{-1, -1} && n.Kind != api.NParam {
			t.Errorf("the kind %d declares %v", n.Kind, info.Decl[at])
		}
		if n.Kind == api.NFunc { // its block and its parameters are in it
			own := slices.IndexFunc(info.Funcs, func(f scope.Func) bool { return f.Node == at })
			for _, kid := range n.Kids {
				if info.Of[kid] != own {
					t.Errorf("the kind %d of the function %d is in %d", tree.Nodes[kid].Kind, own, info.Of[kid])
				}
			}
		}
	}
	if info.Of[ast.Root(tree)] != 0 {
		t.Error("the whole is in itself")
	}
}

// wrong: is this wrong, at a node of a kind, in a source, at its first @?
func wrong(t *testing.T, source string, code api.Errno, kind int) {
	t.Helper()
	ahead, behind, ok := strings.Cut(source, "@")
	tree := read(t, ahead+behind)
	info, f := scope.Look(tree)
	if !ok || f.Code != code || tree.Nodes[f.At].Kind != kind || tree.Nodes[f.At].At != len(ahead) {
		t.Errorf("Look(%.300q): %v, a %v at %d", source, f, tree.Nodes[f.At].Kind, tree.Nodes[f.At].At)
	}
	if !reflect.DeepEqual(info, scope.Info{}) {
		t.Errorf("Look(%.300q): something beside a fault", source)
	}
}

func TestWrong(t *testing.T) { // P12.4
	for _, c := range []struct {
		code    api.Errno
		kind    int
		sources []string
	}{
		{api.ErrTwice, api.NLocal, []string{
			"local a; @local a", "local a; b; @local a = 1", "local a; { } { local a } @local a", "{ local a; { local a } @local a }", "local a; @local function a() { }", "local function a() { } @local a = 2",
			"x = function() { local a; @local a }", "x = function(a) { local a; @local a }", "switch (x) { case 1: local a; @local a }", "while (x) { local a; @local a }", "foreach (a in b) { local a; @local a }",
			"local a; for (local a;;) { local a; @local a }", "try { local a; @local a } catch (e) { }", "try { } catch (a) { local a; @local a }", "local a; x = function() { a }; @local a",
		}},
		{api.ErrTwice, api.NParam, []string{"x = function(a, @a) { }", "function f(a, b, c, @b, a) { }", "local function f(f, @f = 1) { }", "x = class { constructor(a, @a) { } }"}},
		{api.ErrTwice, api.NConst, []string{"const K = 1; @const K = 1", "{ const K = 1 } @const K = 2", "x = function() { const K = 1 }; x = function() { @const K = 2 }", "enum K { }; @const K = 1", "local K; const K = 1; @const K = 1"}},
		{api.ErrTwice, api.NEnum, []string{"enum E { A }; @enum E { A }", "enum E { }; { @enum E { } }", "const E = 1; @enum E { }", "function f() { const E = 1 } @enum E { }"}},
		{api.ErrTwice, api.NItem, []string{"enum E { A, @A }", "enum E { A, B = 2, C, @B = 2, A }"}},
		{api.ErrType, api.NName, []string{
			"enum E { A }; @E", "enum E { A }; x = function() { @E }", "enum E { }; @E[0]", "enum E { A }; @E()", "enum E { A }; @E[\"A\"]", "enum E { A }; x = @E", "enum E { A }; @E = 1", "enum E { A }; @E++", "enum E { A }; delete @E",
			"enum E { A }; x in @E", "function f() { enum E { } } foreach (v in @E) { }", "enum E { A }; x = function(a = @E) { }", "enum E { A }; local E = @E",
			"const K = 1; @K = 2", "const K = 1; @K += K", "const K = 1; @K <- 1", "const K = 1; @K++", "const K = 1; --@K", "const K = 1; delete @K", "{ const K = 1 } x = function() { @K -= 1 }", "if (a) { const K = 7 } else @K = 1", "{ local K; const K = 1; K = 2 } @K = 3",
		}},
		{api.ErrType, api.NField, []string{"enum E { A }; @E.A = 1", "enum E { A }; @E.A++", "enum E { A }; --@E.A", "enum E { A }; delete @E.A", "enum E { A }; x = function() { @E.A %= 2 }", "enum E { A }; @E.A <- E.B"}},
		{api.ErrType, api.NUnary, []string{
			"local a; @delete a", "local a; x = function() { @delete a }", "x = function(a) { @delete a }", "foreach (k, v in x) @delete k", "try { } catch (e) x = @delete e", "local function f() { } @delete f", "const K = 1; { local K; @delete K }", "enum E { A }; local E; @delete E",
		}},
		{api.ErrMissing, api.NField, []string{"enum E { A }; @E.B", "enum E { }; @E.A()", "enum E { A }; @E.B = 1", "enum E { A }; @E.a", "enum E { A }; delete @E.B", "enum E { A }; @E.B.A", "enum E { A }; ++@E.B", "enum E { A }; enum F { B }; x = function() { @E.B }", "{ enum E { A } } x = @E.E"}},
		{api.ErrState, api.NBreak, []string{
			"@break", "{ @break }", "if (a) @break", "try @break; catch (e) ;", "while (a) { } @break", "switch (a) { case 1: } @break", "while (a) { x = function() { @break } }", "switch (a) { default: x = function() { { @break } } }", "for (x = function() { @break };;) ;", "function f() { while (a) ; @break }",
			"foreach (v in function() { @break }) ;", "while (function() { @break }) ;", "while (a) x = function(b = function() { @break }) { }", "switch (a) { case function() { @break }: }",
		}},
		{api.ErrState, api.NContinue, []string{
			"@continue", "{ @continue }", "if (a) ; else @continue", "switch (a) { case 1: @continue }", "do { } while (a); @continue", "foreach (v in a) x = function() { @continue }", "for (;;) { function f() { switch (a) { default: @continue } } }", "switch (a) { case 1: while (b) ; @continue }",
		}},
		{api.ErrState, api.NYield, []string{"@yield", "@yield 1", "{ if (a) while (b) @yield 1 }", "x = function() { yield }; @yield", "foreach (v in a) switch (b) { default: @yield }"}},
	} {
		for _, source := range c.sources {
			wrong(t, source, c.code, c.kind)
		}
	}
}

// TestFirst: of several things that are wrong the one that is met first is told.
func TestFirst(t *testing.T) { // P12.1, P12.4
	for _, c := range []struct {
		source string
		code   api.Errno
		kind   int
	}{
		{"@break; continue", api.ErrState, api.NBreak},
		{"enum E { A }; @E + E.B", api.ErrType, api.NName},
		{"enum E { A }; @E.B + E", api.ErrMissing, api.NField},
		{"enum E { A }; [@E.A = E.B]", api.ErrType, api.NField},            // the target ahead of the value
		{"const K = 1; @K = function() { break }", api.ErrType, api.NName}, // likewise
		{"enum E { A }; x[@E] = E.B", api.ErrType, api.NName},              // what a target is made of, too
		{"const K = 1; enum E { A }; @E.B += K++", api.ErrMissing, api.NField},
		{"const K = 1; delete @K", api.ErrType, api.NName},                     // the target ahead of the `delete`
		{"@yield function() { break }", api.ErrState, api.NYield},              // ahead of what it is made of
		{"local a; local a = function() { @break }", api.ErrState, api.NBreak}, // the value ahead of the name
		{"local a; @local a = function a() { break }", api.ErrTwice, api.NLocal},
		{"local a; @local function a(b, b) { }", api.ErrTwice, api.NLocal},
		{"enum E { A }; local a; local a = @E", api.ErrType, api.NName},
		{"enum E { A }; x = function(a, a, b = @E) { break }", api.ErrType, api.NName}, // parameters' values ahead of all of the function
		{"x = function(a, @a) { break }", api.ErrTwice, api.NParam},
		{"x = function(a, @a, b, b) { }", api.ErrTwice, api.NParam},
		{"x = function(a = function(b, @b) { }, a) { }", api.ErrTwice, api.NParam},
		{"enum E { A, @A, A }; E", api.ErrTwice, api.NItem},
		{"enum E { A }; @enum E { A, A }", api.ErrTwice, api.NEnum},
		{"const K = 1; @const K = 2; K = 3", api.ErrTwice, api.NConst},
		{"enum E { A }; do { x = @E.B } while (E)", api.ErrMissing, api.NField}, // from the front on
		{"enum E { A }; for (x = @E; E.B; E.C) E.D", api.ErrType, api.NName},
		{"enum E { A }; for (;; @E) E.B", api.ErrType, api.NName},
		{"enum E { A }; foreach (v in @E.B) { E }", api.ErrMissing, api.NField},
		{"enum E { A }; switch (@E) { case E.B: continue }", api.ErrType, api.NName},
		{"enum E { A }; switch (x) { case @E.B: continue }", api.ErrMissing, api.NField},
		{"enum E { A }; if (@E) E.B", api.ErrType, api.NName},
		{"enum E { A }; f(@E.B, E)", api.ErrMissing, api.NField},
		{"enum E { A }; x = { [@E] = E.B }", api.ErrType, api.NName},
		{"enum E { A }; x = class extends @E { [E.B] = 1 }", api.ErrType, api.NName},
		{"enum E { A }; try @E; catch (e) E.B", api.ErrType, api.NName},
	} {
		wrong(t, c.source, c.code, c.kind)
	}
}

// TestRightPlaces: what isn't wrong, though it nearly is.
func TestRightPlaces(t *testing.T) { // P12.2, P12.4
	for _, source := range []string{
		"local a; { local a }", "{ local a } local a", "local a; x = function() { local a }", "x = function(a) { local a }", "foreach (a in b) { local a }", "try { local a } catch (a) { local a }", "local a; try { } catch (a) { }", "for (local a;;) { local a }", "local a; for (local a;;) ;",
		"switch (x) { case 1: local a; case 2: local a; default: local a }", "local a; foreach (k, a in a) ;", "x = function(a, b = function(a) { }) { }", "local K; const K = 1", "const K = 1; local K; K = 2; K++", "const K = 1; x = function(K) { K = 1 }",
		"enum E { A }; enum F { A }; const A = 1; local A", "enum E { A }; local E; E; E.B; E = 1; E.A = 1", "delete a; delete a.b; delete this.a; delete ::a; delete a[0]", "local a; delete a.b; delete a[a]; x = function() { delete a.b }", "const K = 1; delete K.a; delete K[0]; K.a++; ::K = 1",
		"while (a) break", "while (a) { if (b) { try continue; catch (e) break } }", "do { break; continue } while (a)", "for (;;) continue", "foreach (v in a) { { break } }", "switch (a) { case 1: break; default: { break } }", "while (a) switch (b) { default: continue }", "for (;;) switch (b) { case 1: break; continue }",
		"x = function() { while (a) break }", "switch (a) { case 1: while (b) continue }", "while (a) { x = function() { for (;;) continue }; break }", "function f() { yield; yield 1; while (a) yield }", "x = class { function f() { yield 1 } constructor() { yield } }",
	} {
		if _, f := scope.Look(read(t, source)); f != (api.Fault{}) {
			t.Errorf("Look(%q): %v", source, f)
		}
	}
}

// TestCheckFirst: what layer 9 has against a tree is told ahead of all.
func TestCheckFirst(t *testing.T) { // P12.1
	name := api.Node{Kind: api.NName, Text: "a"}
	stop := api.Node{Kind: api.NBreak}
	for _, nodes := range [][]api.Node{
		nil, {}, {name}, {stop}, {{Kind: 99}}, {name, {Kind: api.NExpr, Kids: []int{0}}}, {stop, {Kind: api.NBlock}}, {stop, {Kind: api.NBlock, Kids: []int{0, 0}}}, {stop, {Kind: api.NBlock, Kids: []int{0, 5}}}, {stop, {Kind: api.NBlock, Kids: []int{math.MinInt}}},
		{stop, {Kind: api.NBlock, Kids: []int{0}, Text: "a"}}, {name, {Kind: api.NBlock, Kids: []int{0}}}, make([]api.Node, ast.MaxNodes+1),
	} {
		tree := api.Tree{Nodes: nodes}
		want := ast.Check(tree)
		if info, f := scope.Look(tree); f != want || want.Code == api.OK || !reflect.DeepEqual(info, scope.Info{}) {
			t.Errorf("Look: %v, not %v", f, want)
		}
	}
}

// TestMaxLocals: how many locals, and how many captured ones, a function has at most.
func TestMaxLocals(t *testing.T) { // P12.4
	if scope.MaxLocals != 200 {
		t.Errorf("MaxLocals: %d", scope.MaxLocals)
	}
	list := func(form string, from, to int) string {
		out := ""
		for i := from; i < to; i++ {
			out += strings.ReplaceAll(form, "$", fmt.Sprint("v", i))
		}
		return out
	}
	full := list("local $; ", 0, 200)
	for _, c := range []struct {
		source string
		kind   int
	}{
		{full + "@local a", api.NLocal},
		{full + "{ @local a }", api.NLocal},
		{full + "for (@local a;;) ;", api.NLocal},
		{full + "@local function a() { }", api.NLocal},
		{full + "@foreach (v in x) ;", api.NForeach},
		{list("local $; ", 1, 200) + "@foreach (k, v in x) ;", api.NForeach},
		{full + "@try ; catch (e) ;", api.NTry},
		{list("{ local a } ", 0, 200) + "@local a", api.NLocal}, // each local counts by itself
		{"x = function(" + list("$, ", 0, 200) + "@a) { }", api.NParam},
		{"x = function(" + list("$, ", 0, 200) + ") { { } @local a }", api.NLocal},
		{"x = function(" + list("$, ", 0, 100) + ") { " + list("local $; ", 0, 100) + "@foreach (v in x) ; }", api.NForeach},
	} {
		wrong(t, c.source, api.ErrLong, c.kind)
	}
	wrong(t, full+"@local v7", api.ErrTwice, api.NLocal) // ahead of ErrLong
	wrong(t, "x = function("+list("$, ", 0, 200)+"@v0, a) { }", api.ErrTwice, api.NParam)
	_, info := look(t, full+"x = function() { "+full+" { "+list("$; ", 0, 200)+" } }; for (;;) { x = function(a) { } }")
	if info.Funcs[0].Locals != 200 || info.Funcs[1].Locals != 200 || len(info.Funcs[1].Boxed) != 200 || len(info.Funcs[1].Captures) != 0 {
		t.Error("as many locals as there may be")
	}

	uses := list("$; ", 0, 200)
	_, info = look(t, full+"x = function(a) { y = function(b) { "+uses+uses+" b }; a }")
	if len(info.Funcs[1].Captures) != 200 || len(info.Funcs[2].Captures) != 200 || info.Funcs[2].Captures[199] != (scope.Capture{Index: 199}) || info.Funcs[1].Captures[199] != (scope.Capture{Local: true, Index: 199}) {
		t.Error("as many captured ones as there may be")
	}
	wrong(t, full+"x = function(a) { y = function() { "+uses+" @a } }", api.ErrLong, api.NName)
	wrong(t, full+"x = function(a, b) { "+uses+" y = function() { a; b; z = function() { "+list("$; ", 0, 198)+"@v198; v199 } } }", api.ErrLong, api.NName) // the function between captures too many
	wrong(t, full+"x = function(a) { y = function() { z = function() { "+uses+"}; @a; break } }", api.ErrLong, api.NName)
	wrong(t, full+"x = function(a) { y = function() { "+uses+" @a = function() { break } } }", api.ErrLong, api.NName)
	wrong(t, full+"x = function(a) { y = function() { "+uses+" delete @a } }", api.ErrLong, api.NName)
}

func TestLiteral(t *testing.T) { // P12.5
	for kind := -1; kind <= api.NKinds; kind++ {
		for _, n := range []api.Node{{Kind: kind}, {Kind: kind, Num: -5, Text: "a\x00"}, {Kind: kind, Num: math.MinInt64, Kids: []int{1}}} {
			want := value.Null()
			switch kind {
			case api.NTrue, api.NFalse:
				want = value.Bool(kind == api.NTrue)
			case api.NInt:
				want = value.Int(n.Num)
			case api.NStr:
				want = value.Str(n.Text)
			}
			if got := scope.Literal(n); got != want || value.Check(got) != api.OK {
				t.Errorf("Literal(%v): %v, not %v", n, got, want)
			}
		}
	}
}

// TestOwnMemory: what is known of a tree shares nothing with it, nor with what is told another time.
func TestOwnMemory(t *testing.T) { // P2
	tree := read(t, "local a; const K = \"some text\"; x = function(b) { local c; y = function() { a; b; c; K } }")
	one, _ := scope.Look(tree)
	two, _ := scope.Look(tree)
	three, _ := scope.Look(ast.Clone(tree))
	if !reflect.DeepEqual(one, two) || !reflect.DeepEqual(two, three) {
		t.Error("the same tree is looked over another way")
	}
	for _, f := range one.Funcs {
		_, _ = append(f.Boxed, true), append(f.Captures, scope.Capture{Index: 9})
		for i := range f.Boxed {
			f.Boxed[i] = !f.Boxed[i]
		}
		clear(f.Captures)
	}
	_ = append(one.Funcs, scope.Func{Node: 9})
	clear(one.Names)
	clear(one.Decl)
	clear(one.Of)
	clear(one.Funcs)
	if !reflect.DeepEqual(two, three) {
		t.Error("two answers share memory")
	}
	at := slices.IndexFunc(tree.Nodes, func(n api.Node) bool { return n.Kind == api.NStr })
	for i, n := range two.Names {
		if n.Kind == scope.Const && (n.Value.Text != "some text" || unsafe.StringData(n.Value.Text) == unsafe.StringData(tree.Nodes[at].Text)) {
			t.Errorf("the constant at %d shares its text with the tree", i)
		}
	}
	if unsafe.StringData(scope.Literal(tree.Nodes[at]).Text) == unsafe.StringData(tree.Nodes[at].Text) {
		t.Error("a literal shares its text with its node")
	}
}

// TestLong: as many nodes as may be are looked over soon, however deep what they name stands.
func TestLong(t *testing.T) { // P1
	for _, c := range []struct{ ahead, each, behind string }{
		{"", "a\n", ""}, {"local a\n", "a\n", ""}, {"", "{ local a }", ""}, {"const K = \"" + strings.Repeat("k", 200000) + "\"\n", "K\n", ""}, {"local a; " + strings.Repeat("{", 50), "a\n", strings.Repeat("}", 50)}, {"local a; " + strings.Repeat("x = function() {", 14), "a\n", strings.Repeat("}", 14)}, {"enum E { A }\n", "E.A\n", ""}, {"local a\n", "x = function() { a }\n", ""},
	} {
		n := 190
		if !strings.Contains(c.each, "local") {
			n = 8000
		}
		if _, f := scope.Look(read(t, c.ahead+strings.Repeat(c.each, n)+c.behind)); f.Code != api.OK {
			t.Errorf("Look of many %q: %v", c.each, f)
		}
	}
}
