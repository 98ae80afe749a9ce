package code_test

import (
	"fmt"
	"math"
	"slices"
	"strings"
	"testing"

	"drey/api"
	"drey/code"
	"drey/scope"
	"drey/value"
)

func checks(t *testing.T, p code.Program, want api.Errno, at int) {
	t.Helper()
	if got := code.Check(p); got != (api.Fault{Code: want, At: at}) {
		t.Errorf("Check of %.600s: %v, not %v at %d", fmt.Sprint(p.Funcs[:min(len(p.Funcs), 4)]), got, want, at)
	}
}

// plain: a function that may be.
func plain() code.Func { return code.Func{Steps: []code.Step{{Op: code.Jump}}} }

// around: a program of a function behind another one, and one behind it that captures and has defaults.
func around(f code.Func) code.Program {
	last := plain()
	last.Captures = []scope.Capture{{Local: true, Index: 5}, {Index: 1}, {Local: true}, {}}
	last.Regs, last.Params, last.Defaults = 3, 3, 2
	return code.Program{Funcs: []code.Func{plain(), f, plain(), last}}
}

// within: a function of six registers, three constants, two captured ones, and five steps, of which the second one is this.
func within(s code.Step) code.Func {
	jump := code.Step{Op: code.Jump}
	return code.Func{
		Regs: 6, Consts: []api.Value{value.Str("a"), value.Int(7), value.Str("")}, Captures: []scope.Capture{{}, {Local: true}}, Yields: true,
		Steps: []code.Step{jump, s, jump, jump, jump},
	}
}

// arguments: what the document says of A, B and C of each operation, but for closure.
const arguments = `loadk: r k
move getbox setbox neg not inv typeof clone resume push: r r
this root box return yield throw array table: r
getouter: r o
setouter: o r
getname super: r t
setname: t r
get set new del has instof equal put member: r r r
arith: r r a
order: r r c
jump: j
if ifnot: r j
call tail: r r m
class: r r f
each: e j`

// allowed: the numbers that an argument may be of what within makes.
func allowed(letter string, b int) []int {
	upTo := map[string]int{"": 0, "r": 5, "k": 2, "o": 1, "j": 4, "a": 10, "c": 4, "f": 1, "e": 2, "m": 4 - b}[letter]
	if letter == "t" {
		return []int{0, 2}
	}
	var out []int
	for n := range upTo + 1 {
		out = append(out, n)
	}
	return out
}

// TestArguments: each operation with all arguments about the edges.
func TestArguments(t *testing.T) { // P14.1, P14.2
	var list []int
	for n := range 13 {
		list = append(list, n)
	}
	list = append(list, -1, -2, math.MinInt, math.MaxInt, math.MaxInt-1, math.MaxInt-5)
	of := numbers()
	met := 0
	for _, line := range strings.Split(arguments, "\n") {
		ops, letters, _ := strings.Cut(line, ": ")
		of3 := append(strings.Fields(letters), "", "")[:3]
		for _, name := range strings.Fields(ops) {
			met++
			good := 0
			for _, a := range list {
				for _, b := range list {
					for _, c := range list {
						want := api.ErrForm
						if slices.Contains(allowed(of3[0], 0), a) && slices.Contains(allowed(of3[1], 0), b) && slices.Contains(allowed(of3[2], b), c) {
							want = api.OK
							good++
						}
						got := code.Check(around(within(code.Step{Op: of[name], A: a, B: b, C: c})))
						if got.Code != want || want != api.OK && got.At != 1 {
							t.Fatalf("%s %d %d %d: %v", name, a, b, c, got)
						}
					}
				}
			}
			if good == 0 {
				t.Errorf("%s is never right", name)
			}
		}
	}
	if met != code.Ops-2 {
		t.Errorf("%d operations", met)
	}
}

// TestNoOperation: numbers that no operation has.
func TestNoOperation(t *testing.T) { // P14.2
	for _, op := range append(wild(), 0, code.Ops, code.Ops+1, 255, 256, 257) {
		checks(t, around(within(code.Step{Op: op})), api.ErrForm, 1)
	}
}

// TestFewRegisters: what needs several registers, where there are few.
func TestFewRegisters(t *testing.T) { // P14.1
	for regs := range 6 {
		for _, s := range []struct {
			step code.Step
			need int
		}{
			{code.Step{Op: code.This}, 1}, {code.Step{Op: code.Call}, 2}, {code.Step{Op: code.Tail}, 2}, {code.Step{Op: code.Call, C: 1}, 3}, {code.Step{Op: code.Call, B: 1}, 3}, {code.Step{Op: code.Tail, B: 1, C: 2}, 5},
			{code.Step{Op: code.Each}, 4}, {code.Step{Op: code.Each, A: 1}, 5}, {code.Step{Op: code.Jump}, 0}, {code.Step{Op: code.Closure, B: 2}, 1}, {code.Step{Op: code.Closure, B: 2, C: 1}, 1}, {code.Step{Op: code.Closure, B: 2, C: 2}, 2},
		} {
			f := within(s.step)
			f.Regs = regs
			want, at := api.OK, 0
			if regs < s.need {
				want, at = api.ErrForm, 1
			}
			checks(t, around(f), want, at)
		}
	}
	f := within(code.Step{Op: code.LoadK})
	f.Consts = nil
	checks(t, around(f), api.ErrForm, 1)
	f = within(code.Step{Op: code.GetOuter})
	f.Captures = nil
	checks(t, around(f), api.ErrForm, 1)
}

// TestText: a constant that must be a Str.
func TestText(t *testing.T) { // P14.1
	for _, s := range []code.Step{{Op: code.GetName}, {Op: code.Super}, {Op: code.SetName}} {
		for _, v := range []api.Value{value.Null(), value.Bool(true), value.Int(0), value.Str("")} {
			f := within(s)
			f.Consts[0] = v
			want, at := api.ErrForm, 1
			if v.Kind == api.Str {
				want, at = api.OK, 0
			}
			checks(t, around(f), want, at)
		}
	}
}

func TestClosure(t *testing.T) { // P14.1, P14.2
	closure := func(a, b, c int) code.Program { return around(within(code.Step{Op: code.Closure, A: a, B: b, C: c})) }
	for _, c := range []struct {
		a, b, c int
		ok      bool
	}{
		{0, 3, 0, true}, {5, 3, 4, true}, {6, 3, 0, false}, {-1, 3, 0, false}, {0, 3, 5, false}, {0, 3, 6, false}, {0, 3, -1, false}, {0, 3, -2, false},
		{0, 2, 0, true}, {0, 2, 5, true}, {0, 2, 6, true}, {0, 2, 7, false}, {0, 2, -1, false}, {0, 2, math.MinInt, false}, {0, 2, math.MaxInt, false}, {0, 3, math.MaxInt, false}, {0, 3, math.MinInt, false},
		{0, 0, 0, false}, {0, 4, 0, false}, {0, -1, 0, false}, {0, math.MaxInt, 0, false}, {0, math.MinInt, 0, false}, {math.MaxInt, 3, 0, false},
	} {
		want, at := api.OK, 0
		if !c.ok {
			want, at = api.ErrForm, 1
		}
		checks(t, closure(c.a, c.b, c.c), want, at)
	}
	for _, c := range []struct {
		captures []scope.Capture
		ok       bool
	}{
		{nil, true}, {[]scope.Capture{{Local: true, Index: 5}}, true}, {[]scope.Capture{{Local: true, Index: 6}}, false}, {[]scope.Capture{{Local: true, Index: -1}}, false}, {[]scope.Capture{{Index: 1}}, true}, {[]scope.Capture{{Index: 2}}, false}, {[]scope.Capture{{Index: -1}}, false},
		{[]scope.Capture{{Local: true, Index: 6}, {Local: true}}, false}, {[]scope.Capture{{Local: true}, {Local: true, Index: 6}}, false}, {[]scope.Capture{{Index: 2}, {}}, false}, {[]scope.Capture{{Index: -1}, {Index: 1}}, false}, {[]scope.Capture{{Index: 1}, {Index: -1}}, false}, {[]scope.Capture{{Local: true, Index: 5}, {Index: 1}, {Local: true, Index: 5}}, true},
		{[]scope.Capture{{Local: true, Index: math.MaxInt}}, false}, {[]scope.Capture{{Index: math.MaxInt}}, false}, {[]scope.Capture{{Local: true, Index: math.MinInt}}, false}, {[]scope.Capture{{Index: math.MinInt}}, false}, {make([]scope.Capture, 500), true},
	} {
		p := closure(0, 3, 0)
		p.Funcs[3].Captures = c.captures
		want, at := api.OK, 0
		if !c.ok {
			want, at = api.ErrForm, 1
		}
		checks(t, p, want, at)
		p.Funcs[1].Steps[1] = code.Step{Op: code.Jump} // what it captures is asked where it is made alone
		checks(t, p, api.OK, 0)
	}
}

// TestClosureOfOthers: the whole makes functions, too; one may make itself; and it is told of the one that makes ahead of what is wrong with the one that is made.
func TestClosureOfOthers(t *testing.T) { // P14.1, P14.2
	maker := code.Step{Op: code.Closure, B: 1}
	jump := code.Step{Op: code.Jump}
	p := code.Program{Funcs: []code.Func{{Regs: 2, Steps: []code.Step{maker, jump}}, {Regs: 2, Params: 2, Defaults: 2, Captures: []scope.Capture{{Local: true, Index: 1}}, Steps: []code.Step{maker, jump}}}}
	checks(t, p, api.OK, 0)
	p.Funcs[1].Captures = append(p.Funcs[1].Captures, scope.Capture{Index: 1})
	checks(t, p, api.ErrForm, 0) // the whole has captured none
	p.Funcs[0].Steps = p.Funcs[0].Steps[1:]
	checks(t, p, api.OK, 0)
	p.Funcs[1].Captures[1].Index = 2
	checks(t, p, api.ErrForm, 1)
	for defaults, want := range map[int]api.Fault{-1: {Code: api.ErrRange, At: 1}, math.MinInt: {Code: api.ErrRange, At: 1}, 2: {}, 3: {Code: api.ErrForm}, math.MaxInt: {Code: api.ErrForm}} {
		p := code.Program{Funcs: []code.Func{{Regs: 2, Steps: []code.Step{maker, jump}}, {Regs: 2, Params: 2, Defaults: defaults, Steps: []code.Step{jump}}}}
		checks(t, p, want.Code, want.At)
	}
	for from, want := range map[int]api.Fault{2: {Code: api.ErrRange, At: 1}, 3: {Code: api.ErrForm}, 7: {Code: api.ErrForm}} { // however few the defaults are, they stand from a register on, or from Regs
		p := code.Program{Funcs: []code.Func{{Regs: 2, Steps: []code.Step{{Op: code.Closure, B: 1, C: from}, jump}}, {Defaults: -5, Steps: []code.Step{jump}}}}
		checks(t, p, want.Code, want.At)
	}
	p = code.Program{Funcs: []code.Func{{Regs: 2, Steps: []code.Step{maker, jump}}, {Captures: []scope.Capture{{Local: true, Index: 2}}}}}
	checks(t, p, api.ErrForm, 0)
	p.Funcs[1].Captures = nil
	checks(t, p, api.ErrLong, 1)
}

func TestYield(t *testing.T) { // P14.2
	f := within(code.Step{Op: code.Yield, A: 5})
	checks(t, around(f), api.OK, 0)
	f.Yields = false
	checks(t, around(f), api.ErrForm, 1)
	f = within(code.Step{Op: code.Return})
	f.Yields = false
	checks(t, around(f), api.OK, 0)
}

// TestLast: which steps may be the last one.
func TestLast(t *testing.T) { // P14.2
	for name, op := range numbers() {
		s := code.Step{Op: op}
		if op == code.Closure {
			s.B = 2
		}
		f := within(s)
		checks(t, around(f), api.OK, 0)
		f.Steps = append(f.Steps, s)
		want, at := api.ErrForm, 1
		if name == "jump" || name == "return" || name == "throw" {
			want, at = api.OK, 0
		}
		checks(t, around(f), want, at)
		f.Steps = []code.Step{s}
		checks(t, around(f), want, at)
	}
	for at := range 5 { // a step that mayn't be, wherever it stands
		f := within(code.Step{Op: code.Jump})
		f.Steps[at].A = 5
		checks(t, around(f), api.ErrForm, 1)
	}
}

func TestHowMany(t *testing.T) { // P14.2
	checks(t, code.Program{}, api.ErrLong, 0)
	checks(t, code.Program{Funcs: []code.Func{}}, api.ErrLong, 0)
	checks(t, code.Program{Funcs: []code.Func{plain()}}, api.OK, 0)
	many := slices.Repeat([]code.Func{plain()}, code.MaxFuncs+1)
	checks(t, code.Program{Funcs: many[1:]}, api.OK, 0)
	checks(t, code.Program{Funcs: many}, api.ErrLong, 0)
	many[code.MaxFuncs-1].Params = 1
	checks(t, code.Program{Funcs: many[:code.MaxFuncs]}, api.ErrRange, code.MaxFuncs-1)
	checks(t, code.Program{Funcs: make([]code.Func, code.MaxFuncs+1)}, api.ErrLong, 0)

	for at := range 3 {
		p := code.Program{Funcs: []code.Func{plain(), plain(), plain()}}
		f := &p.Funcs[at]
		f.Steps = nil
		checks(t, p, api.ErrLong, at)
		f.Steps = make([]code.Step, 0)
		checks(t, p, api.ErrLong, at)
		f.Steps = slices.Repeat([]code.Step{{Op: code.Jump}}, code.MaxSteps+1)
		checks(t, p, api.ErrLong, at)
		f.Steps = f.Steps[1:]
		f.Steps[7].A = code.MaxSteps - 1
		checks(t, p, api.OK, 0)
		f.Steps[7].A++
		checks(t, p, api.ErrForm, at)
		f.Steps = f.Steps[:1]
		for regs, ok := range map[int]bool{0: true, 1: true, code.MaxRegs: true, code.MaxRegs + 1: false, -1: false, math.MinInt: false, math.MaxInt: false} {
			f.Regs = regs
			if ok {
				checks(t, p, api.OK, 0)
			} else {
				checks(t, p, api.ErrLong, at)
			}
		}
	}
}

func TestParams(t *testing.T) { // P14.2
	for _, n := range []int{math.MinInt, -1, 0, 1, 2, 3, 4, math.MaxInt} {
		for _, defaults := range []int{math.MinInt, -1, 0, 1, 2, 3, 4, math.MaxInt} {
			f := plain()
			f.Regs, f.Params, f.Defaults = 3, n, defaults
			want, at := api.ErrRange, 1
			if n >= 0 && n <= 3 && defaults >= 0 && defaults <= n {
				want, at = api.OK, 0
			}
			checks(t, code.Program{Funcs: []code.Func{plain(), f, plain()}}, want, at)
			if want == api.OK && n > 0 {
				want, at = api.ErrRange, 0
			}
			checks(t, code.Program{Funcs: []code.Func{f}}, want, 0)
		}
	}
	for i, change := range []func(f *code.Func){
		func(f *code.Func) { f.Captures = []scope.Capture{{}} },
		func(f *code.Func) { f.Yields = true },
		func(f *code.Func) { f.Regs, f.Params = 1, 1 },
	} {
		f := plain()
		change(&f)
		p := code.Program{Funcs: []code.Func{f, plain()}}
		if got := code.Check(p); got != (api.Fault{Code: api.ErrRange}) {
			t.Errorf("the first one, change %d: %v", i, got)
		}
		slices.Reverse(p.Funcs)
		checks(t, p, api.OK, 0)
	}
}

func TestConsts(t *testing.T) { // P14.2
	for _, v := range []api.Value{value.Null(), value.Bool(false), value.Bool(true), value.Int(math.MinInt64), value.Int(0), value.Str(""), value.Str("\x00\xff")} {
		f := within(code.Step{Op: code.This})
		f.Consts = append(f.Consts, v)
		checks(t, around(f), api.OK, 0)
	}
	for _, v := range []api.Value{value.Ref(0), value.Ref(1), {Kind: api.Ref, Num: -1}, {Kind: 5}, {Kind: -1}, {Kind: math.MaxInt}, {Kind: api.Null, Num: 1}, {Kind: api.Null, Text: "a"}, {Kind: api.Bool, Num: 2}, {Kind: api.Int, Text: "1"}, {Kind: api.Str, Num: 1}} {
		for at := range 3 {
			f := within(code.Step{Op: code.This})
			f.Consts[at] = v
			checks(t, around(f), api.ErrType, 1)
		}
	}
}

func TestTries(t *testing.T) { // P14.2
	list := []int{math.MinInt, -1, 0, 1, 4, 5, 6, 7, math.MaxInt}
	for _, from := range list {
		for _, to := range list {
			for _, target := range list {
				for _, reg := range list {
					f := within(code.Step{Op: code.This})
					f.Tries = []code.Try{{To: 5, Target: 4, Reg: 5}, {From: from, To: to, Target: target, Reg: reg}, {}}
					want, at := api.ErrRange, 1
					if from >= 0 && to >= from && to <= 5 && target >= 0 && target <= 4 && reg >= 0 && reg <= 5 {
						want, at = api.OK, 0
					}
					checks(t, around(f), want, at)
				}
			}
		}
	}
	f := plain()
	f.Tries = []code.Try{{}}
	checks(t, around(f), api.ErrRange, 1) // without registers there is none that could have it
}

// TestFirst: of several faults the first one is told: function by function, each in the chapter's order.
func TestFirst(t *testing.T) { // P14.2
	faults := []struct {
		code   api.Errno
		change func(f *code.Func)
	}{
		{api.ErrLong, func(f *code.Func) { f.Regs = code.MaxRegs + 1 }},
		{api.ErrRange, func(f *code.Func) { f.Params = math.MaxInt }},
		{api.ErrType, func(f *code.Func) { f.Consts = append(f.Consts, value.Ref(0)) }},
		{api.ErrForm, func(f *code.Func) { f.Steps = append(f.Steps, code.Step{}) }},
		{api.ErrRange, func(f *code.Func) { f.Tries = append(f.Tries, code.Try{From: -1}) }},
	}
	for set := range 1 << (2 * len(faults)) { // each function has some of the faults
		p := code.Program{Funcs: []code.Func{plain(), within(code.Step{Op: code.This}), within(code.Step{Op: code.This})}}
		var want api.Fault
		for i := range 2 * len(faults) {
			if set>>i&1 == 0 {
				continue
			}
			at := i/len(faults) + 1
			fault := faults[i%len(faults)]
			fault.change(&p.Funcs[at])
			if want.Code == api.OK {
				want = api.Fault{Code: fault.code, At: at}
			}
		}
		checks(t, p, want.Code, want.At)
	}
	p := code.Program{Funcs: []code.Func{plain(), plain()}}
	p.Funcs[0].Steps = nil
	p.Funcs[0].Yields = true
	checks(t, p, api.ErrLong, 0)
	p.Funcs[0].Steps = p.Funcs[1].Steps
	p.Funcs[0].Consts = []api.Value{value.Ref(0)}
	checks(t, p, api.ErrRange, 0)
}

// TestSoon: what is long is checked soon: many steps that make a function that captures much.
func TestSoon(t *testing.T) { // P1
	f := code.Func{Regs: 2, Captures: make([]scope.Capture, 300000), Steps: slices.Repeat([]code.Step{{Op: code.Closure, B: 2}}, code.MaxSteps-1)}
	f.Steps = append(f.Steps, code.Step{Op: code.Jump})
	p := code.Program{Funcs: []code.Func{plain(), f, f}}
	checks(t, p, api.OK, 0)
}

// TestAnything: whatever a program is, no call panics, and each answers the same twice.
func TestAnything(t *testing.T) { // P1
	seed := uint32(1)
	below := func(n int) int {
		seed = seed*1664525 + 1013904223
		return int(seed>>8) % n
	}
	odd := append(wild(), 0, 1, 2, 3)
	number := func() int {
		if below(8) == 0 {
			return odd[below(len(odd))]
		}
		return below(4)
	}
	told := map[api.Errno]int{}
	for range 60000 {
		var p code.Program
		for range below(4) {
			f := code.Func{Regs: number() + 3, Params: below(2), Yields: below(2) == 0, Name: "f"}
			if below(4) == 0 {
				f.Params, f.Defaults = number(), number()
			}
			if len(p.Funcs) == 0 {
				f.Params, f.Yields = 0, false
			}
			for range below(3) {
				f.Steps = append(f.Steps, code.Step{Op: 1 + below(code.Ops), A: number(), B: number(), C: below(2) * number()})
				f.Consts = append(f.Consts, api.Value{Kind: api.Int + below(2)})
				if len(p.Funcs) > 0 {
					f.Captures = append(f.Captures, scope.Capture{Local: below(2) == 0, Index: number()})
				}
			}
			if below(5) == 0 {
				f.Tries = append(f.Tries, code.Try{To: number(), Target: number(), Reg: number()})
			}
			f.Steps = append(f.Steps, code.Step{Op: []int{code.Jump, code.Return, code.Throw}[below(3)]})
			p.Funcs = append(p.Funcs, f)
		}
		got := code.Check(p)
		if got != code.Check(code.Copy(p)) {
			t.Fatalf("Check of %v isn't the same twice", p)
		}
		told[got.Code]++
		for _, f := range p.Funcs {
			code.Lines(f)
			code.Catches(f, number())
		}
	}
	for _, e := range []api.Errno{api.OK, api.ErrLong, api.ErrRange, api.ErrForm} {
		if told[e] < 500 {
			t.Errorf("too few of %v to tell anything: %v", e, told)
		}
	}
}
