package scope

import "drey/api"

// noKid stands where a node might have a kid and has none, noLocal where it declares none, noFunc where a function would be around.
const (
	noKid   = -1
	noLocal = -1
	noFunc  = -1
)

// whole is the number of the function that a program is.
const whole = 0

// look goes through a tree that may be, from the front on, up to the first thing that is wrong.
type look struct {
	nodes    []api.Node
	info     Info
	fault    api.Fault
	seen     map[string][]variable // of each name the locals that can be seen, the one declared last behind
	declared []string              // the names of these, in the order in which they were declared
	deep     int                   // how many blocks are around
	fixed    map[string]constant   // what is known of the names of NConsts and NEnums
	taken    map[capturing]int     // which captured one a local is that a function captures
	place
}

// place is what is around a node, as far as its function goes.
type place struct {
	in    int  // which function it is
	loop  bool // is there a loop?
	ended bool // is there what a break ends?
}

// variable is a local: of which function, which one, and how many blocks are around what declares it.
type variable struct {
	of, index, deep int
}

// capturing is a function and a local that it captures.
type capturing struct {
	in, of, index int
}

// constant is what an NConst tells of its name; or what an NEnum tells, which has items (perhaps none) and no value.
type constant struct {
	value api.Value
	enum  bool
	items map[string]int64
}

func newLook(t api.Tree) *look {
	n := len(t.Nodes)
	l := &look{
		nodes: t.Nodes,
		info:  Info{Names: make([]Name, n), Decl: make([][2]int, n), Of: make([]int, n)},
		seen:  map[string][]variable{},
		fixed: map[string]constant{},
		taken: map[capturing]int{},
		place: place{in: noFunc},
	}
	for at := range l.info.Decl {
		l.info.Decl[at] = [2]int{noLocal, noLocal}
	}
	return l
}

// fail: something is wrong at a node. What is told first stays.
func (l *look) fail(code api.Errno, at int) {
	if l.fault.Code == api.OK {
		l.fault = api.Fault{Code: code, At: at}
	}
}

// block: does something within a block; what that declares can't be seen behind it.
func (l *look) block(do func()) {
	before := len(l.declared)
	l.deep++
	do()
	l.deep--
	for _, name := range l.declared[before:] {
		l.seen[name] = l.seen[name][:len(l.seen[name])-1]
	}
	l.declared = l.declared[:before]
}

// around: does something at another place.
func (l *look) around(p place, do func()) {
	old := l.place
	l.place = p
	do()
	l.place = old
}

// inLoop: does something within a loop.
func (l *look) inLoop(do func()) {
	l.around(place{in: l.in, loop: true, ended: true}, do)
}

// function: a function more, with its parameters; does something within it.
func (l *look) function(at int, params []int, do func()) {
	number := len(l.info.Funcs)
	l.info.Funcs = append(l.info.Funcs, Func{Node: at, Around: l.in})
	l.around(place{in: number}, func() {
		l.block(func() {
			for _, param := range params {
				l.info.Of[param] = number
				l.declare(param, 0, l.nodes[param].Text)
			}
			do()
		})
	})
}

// declare: a node declares a local, as its first or its second one.
func (l *look) declare(at, which int, name string) {
	f := &l.info.Funcs[l.in]
	if v, ok := l.see(name); ok && v.deep == l.deep {
		l.fail(api.ErrTwice, at)
		return
	}
	if f.Locals == MaxLocals {
		l.fail(api.ErrLong, at)
		return
	}
	l.info.Decl[at][which] = f.Locals
	l.seen[name] = append(l.seen[name], variable{of: l.in, index: f.Locals, deep: l.deep})
	l.declared = append(l.declared, name)
	f.Locals++
	f.Boxed = append(f.Boxed, false)
}

// see: the local of a name that can be seen.
func (l *look) see(name string) (variable, bool) {
	list := l.seen[name]
	if len(list) == 0 {
		return variable{}, false
	}
	return list[len(list)-1], true
}

// capture: which captured one of a function a local of a function around it is; it's told at a node if these are too many. All functions between capture it, too.
func (l *look) capture(at, in int, v variable) int {
	key := capturing{in: in, of: v.of, index: v.index}
	if index, ok := l.taken[key]; ok {
		return index
	}
	c := Capture{Local: true, Index: v.index}
	if next := l.info.Funcs[in].Around; next != v.of {
		c = Capture{Index: l.capture(at, next, v)}
	}
	f := &l.info.Funcs[in]
	if len(f.Captures) == MaxLocals {
		l.fail(api.ErrLong, at)
		return 0
	}
	l.info.Funcs[v.of].Boxed[v.index] = true
	l.taken[key] = len(f.Captures)
	f.Captures = append(f.Captures, c)
	return l.taken[key]
}

// name: what an NName is.
func (l *look) name(at int) Name {
	name := l.nodes[at].Text
	if v, ok := l.see(name); ok {
		if v.of == l.in {
			return Name{Kind: Local, Index: v.index}
		}
		return Name{Kind: Outer, Index: l.capture(at, l.in, v)}
	}
	c, ok := l.fixed[name]
	switch {
	case !ok:
		return Name{Kind: Slot}
	case c.enum:
		l.fail(api.ErrType, at)
		return Name{}
	}
	return Name{Kind: Const, Value: c.value}
}

// enumOf: the enum that a node names; not ok: it names none.
func (l *look) enumOf(at int) (constant, bool) {
	n := l.nodes[at]
	if n.Kind != api.NName {
		return constant{}, false
	}
	if _, ok := l.see(n.Text); ok {
		return constant{}, false
	}
	c := l.fixed[n.Text]
	return c, c.enum
}

// fix: an NConst or an NEnum tells of its name.
func (l *look) fix(at int, c constant) {
	name := l.nodes[at].Text
	if _, ok := l.fixed[name]; ok {
		l.fail(api.ErrTwice, at)
		return
	}
	l.fixed[name] = c
}
