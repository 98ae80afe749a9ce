package code_test

import (
	"fmt"
	"math"
	"reflect"
	"slices"
	"strings"
	"testing"
	"unsafe"

	"drey/api"
	"drey/code"
	"drey/scope"
	"drey/value"
)

// operations: the constants' names in small letters, in their order, from 1 on.
const operations = "loadk move this root box getbox setbox getouter setouter getname setname get set new del has instof super neg not inv typeof clone resume arith equal order jump if ifnot call tail return yield throw closure array push table put class member each"

// numbers: each operation's by its name, as the constants have them.
func numbers() map[string]int {
	list := []int{code.LoadK, code.Move, code.This, code.Root, code.Box, code.GetBox, code.SetBox, code.GetOuter, code.SetOuter, code.GetName, code.SetName, code.Get, code.Set, code.New, code.Del, code.Has, code.InstOf, code.Super, code.Neg, code.Not, code.Inv, code.TypeOf, code.Clone, code.Resume, code.Arith, code.Equal, code.Order, code.Jump, code.If, code.IfNot, code.Call, code.Tail, code.Return, code.Yield, code.Throw, code.Closure, code.Array, code.Push, code.Table, code.Put, code.Class, code.Member, code.Each}
	out := map[string]int{}
	for i, name := range strings.Fields(operations) {
		out[name] = list[i]
	}
	return out
}

// wild: numbers far from all.
func wild() []int {
	return []int{math.MinInt, math.MinInt + 1, -1 << 32, -2, -1, 1 << 20, 1 << 32, math.MaxInt - 1, math.MaxInt}
}

func TestNumbers(t *testing.T) { // P14.1
	of := numbers()
	for i, name := range strings.Fields(operations) {
		if of[name] != i+1 {
			t.Errorf("%s: %d", name, of[name])
		}
	}
	if code.Ops != 44 || code.MaxSteps != 262144 || code.MaxRegs != 1024 || code.MaxFuncs != 16384 {
		t.Error("Ops, or a limit")
	}
	if code.Plus != 10 || code.Less != 0 || code.AtMost != 1 || code.More != 2 || code.AtLeast != 3 || code.Three != 4 {
		t.Error("operators")
	}
}

func TestName(t *testing.T) { // P14.3
	of := numbers()
	for name, op := range of {
		if got := code.Name(op); got != name {
			t.Errorf("Name(%d): %q, not %q", op, got, name)
		}
	}
	for _, op := range append(wild(), 0, code.Ops, code.Ops+1) {
		if got := code.Name(op); got != "" {
			t.Errorf("Name(%d): %q", op, got)
		}
	}
}

func TestLines(t *testing.T) { // P14.3
	f := code.Func{Steps: []code.Step{{Op: code.LoadK, A: 1, B: 2}, {Op: code.InstOf, A: 7, B: 8, C: 9}, {Op: code.Ops, A: -1, B: math.MinInt, C: math.MaxInt}, {}, {Op: -5, C: 1}, {Op: code.Each, A: 1, B: 2, C: 3}, {Op: code.Throw}}}
	want := []string{"0 loadk 1 2 0", "1 instof 7 8 9", "2  -1 -9223372036854775808 9223372036854775807", "3  0 0 0", "4  0 0 1", "5 each 1 2 3", "6 throw 0 0 0"}
	if got := code.Lines(f); !slices.Equal(got, want) {
		t.Errorf("Lines: %q, not %q", got, want)
	}
	if got := code.Lines(code.Func{Consts: []api.Value{value.Int(1)}, Name: "f"}); len(got) != 0 {
		t.Errorf("Lines of none: %q", got)
	}
	f.Steps = make([]code.Step, code.MaxSteps)
	if got := code.Lines(f); len(got) != code.MaxSteps || got[100000] != "100000  0 0 0" {
		t.Errorf("Lines of many: %d", len(got))
	}
}

func TestCatches(t *testing.T) { // P14.3
	inner := code.Try{From: 3, To: 5, Target: 9, Reg: 1}
	none := code.Try{From: 4, To: 4, Target: 6}
	early := code.Try{From: 0, To: 4, Target: 8, Reg: 2}
	whole := code.Try{From: 0, To: 7, Target: 7, Reg: 3}
	turned := code.Try{From: 9, To: 8, Target: 5}
	wide := code.Try{From: math.MinInt, To: math.MaxInt, Target: -1}
	f := code.Func{Tries: []code.Try{none, turned, inner, early, whole}}
	for at, want := range map[int]code.Try{0: early, 2: early, 3: inner, 4: inner, 5: whole, 6: whole, 7: {}, 8: {}, 9: {}, -1: {}, math.MinInt: {}, math.MaxInt: {}} {
		got, ok := code.Catches(f, at)
		if got != want || ok != (want != code.Try{}) {
			t.Errorf("Catches at %d: %v %v, not %v", at, got, ok, want)
		}
	}
	f.Tries = append(f.Tries, wide)
	for at, want := range map[int]code.Try{-1: wide, 7: wide, 6: whole, math.MinInt: wide, math.MaxInt - 1: wide, math.MaxInt: {}} {
		if got, ok := code.Catches(f, at); got != want || ok != (want != code.Try{}) {
			t.Errorf("Catches at %d: %v %v, not %v", at, got, ok, want)
		}
	}
	if got, ok := code.Catches(code.Func{}, 0); ok || got != (code.Try{}) {
		t.Error("Catches of none")
	}
	f.Tries = []code.Try{{}}
	if got, ok := code.Catches(f, 0); ok || got != (code.Try{}) {
		t.Error("Catches of an empty range")
	}
	f.Tries = []code.Try{{To: 1}} // one that looks as if there were none
	if _, ok := code.Catches(f, 0); !ok {
		t.Error("Catches")
	}
}

// some: a program that may be, with something of all sorts.
func some() code.Program {
	return code.Program{Funcs: []code.Func{
		{Name: "main", Regs: 3, Consts: []api.Value{value.Int(7), value.Str("some text"), value.Null(), value.Bool(true)}, Steps: []code.Step{{Op: code.LoadK, A: 2, B: 3}, {Op: code.Closure, A: 1, B: 1, C: 2}, {Op: code.Return, A: 1}}, Tries: []code.Try{{From: 0, To: 2, Target: 2, Reg: 1}}},
		{Name: "inner", Regs: 2, Params: 2, Defaults: 1, Captures: []scope.Capture{{Local: true, Index: 2}}, Yields: true, Steps: []code.Step{{Op: code.Yield, A: 1}, {Op: code.Throw}}},
		{Steps: []code.Step{{Op: code.Jump}}},
	}}
}

// deep: a program's copy made by hand.
func deep(p code.Program) code.Program {
	out := code.Program{}
	for _, f := range p.Funcs {
		f.Steps, f.Consts, f.Captures, f.Tries = slices.Clone(f.Steps), slices.Clone(f.Consts), slices.Clone(f.Captures), slices.Clone(f.Tries)
		out.Funcs = append(out.Funcs, f)
	}
	return out
}

// spoil: changes all of a program that it can reach.
func spoil(p code.Program) {
	for i, f := range p.Funcs {
		_, _, _, _ = append(f.Steps, code.Step{Op: 99}), append(f.Consts, value.Int(99)), append(f.Captures, scope.Capture{Index: 99}), append(f.Tries, code.Try{Reg: 99})
		clear(f.Steps)
		clear(f.Consts)
		clear(f.Captures)
		clear(f.Tries)
		p.Funcs[i] = code.Func{Name: "spoilt"}
	}
	_ = append(p.Funcs, code.Func{Name: "spoilt"})
}

func TestCopy(t *testing.T) { // P14.3, P2
	p := some()
	kept := deep(p)
	one, two := code.Copy(p), code.Copy(p)
	if fmt.Sprintf("%+v", one) != fmt.Sprintf("%+v", kept) || fmt.Sprintf("%+v", two) != fmt.Sprintf("%+v", kept) {
		t.Fatalf("Copy: %+v, not %+v", one, kept)
	}
	for i, f := range one.Funcs {
		for _, g := range []code.Func{p.Funcs[i], two.Funcs[i]} {
			if f.Name != "" && unsafe.StringData(f.Name) == unsafe.StringData(g.Name) {
				t.Errorf("the name %q is shared", f.Name)
			}
			for j, v := range f.Consts {
				if v.Text != "" && unsafe.StringData(v.Text) == unsafe.StringData(g.Consts[j].Text) {
					t.Errorf("the text %q is shared", v.Text)
				}
			}
		}
	}
	spoil(one)
	if !reflect.DeepEqual(p, kept) || fmt.Sprintf("%+v", two) != fmt.Sprintf("%+v", kept) {
		t.Error("a copy shares memory")
	}
	spoil(p)
	if fmt.Sprintf("%+v", two) != fmt.Sprintf("%+v", kept) {
		t.Error("a copy shares memory with what was copied")
	}
	if got := code.Copy(code.Program{}); len(got.Funcs) != 0 {
		t.Errorf("Copy of none: %v", got)
	}
	odd := code.Program{Funcs: []code.Func{{Regs: -1, Params: math.MinInt, Defaults: 5, Consts: []api.Value{{Kind: 9, Num: 3, Text: "x"}}, Steps: []code.Step{{Op: -1, A: -2, B: -3, C: -4}}, Captures: []scope.Capture{{Index: -9}}, Tries: []code.Try{{From: -1, To: -2, Target: -3, Reg: -4}}}}}
	if got := code.Copy(odd); !reflect.DeepEqual(got, odd) {
		t.Errorf("Copy of what mayn't be: %v", got)
	}
}

// TestStays: what is handed in stays as it is, with its spare room.
func TestStays(t *testing.T) { // P2
	p := some()
	for i := range p.Funcs {
		f := &p.Funcs[i]
		f.Steps = append(f.Steps, code.Step{Op: 99})[:len(f.Steps)]
		f.Consts = append(f.Consts, value.Int(99))[:len(f.Consts)]
		f.Captures = append(f.Captures, scope.Capture{Index: 99})[:len(f.Captures)]
		f.Tries = append(f.Tries, code.Try{Reg: 99})[:len(f.Tries)]
	}
	back := append(p.Funcs, code.Func{Name: "spare"})
	p.Funcs = back[:3]
	kept := deep(p)
	checks(t, p, api.OK, 0)
	for _, f := range p.Funcs {
		one, two := code.Lines(f), code.Lines(f)
		clear(one)
		_ = append(one, "more")
		if slices.Contains(two, "") {
			t.Error("Lines' answers share memory")
		}
		for at := range 4 {
			code.Catches(f, at)
		}
	}
	code.Copy(p)
	if !reflect.DeepEqual(p, kept) || back[3].Name != "spare" {
		t.Error("a program was changed")
	}
	for _, f := range p.Funcs {
		if f.Steps[:len(f.Steps)+1][len(f.Steps)].Op != 99 || f.Consts[:len(f.Consts)+1][len(f.Consts)] != value.Int(99) || f.Captures[:len(f.Captures)+1][len(f.Captures)].Index != 99 || f.Tries[:len(f.Tries)+1][len(f.Tries)].Reg != 99 {
			t.Error("spare room was changed")
		}
	}
}
