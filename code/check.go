package code

import (
	"drey/api"
	"drey/scope"
	"drey/value"
)

// What an argument of a step must be.
const (
	nought     = iota
	register   // one of the function's
	constant   // one's number
	text       // one's number, which is a Str
	captured   // the number of one of those that the function captures
	target     // a step's number
	operator   // of Arith
	comparison // of Order
	handed     // how many registers there are behind B and the next one
	row        // a register behind which three more are
	flag       // 0 or 1
	function   // the number of one that this one can make
	defaults   // from which register on those of the function B stand
)

// arguments: what each operation's must be.
var arguments = [Ops][3]uint8{
	LoadK:    {register, constant},
	Move:     {register, register},
	This:     {register},
	Root:     {register},
	Box:      {register},
	GetBox:   {register, register},
	SetBox:   {register, register},
	GetOuter: {register, captured},
	SetOuter: {captured, register},
	GetName:  {register, text},
	SetName:  {text, register},
	Get:      {register, register, register},
	Set:      {register, register, register},
	New:      {register, register, register},
	Del:      {register, register, register},
	Has:      {register, register, register},
	InstOf:   {register, register, register},
	Super:    {register, text},
	Neg:      {register, register},
	Not:      {register, register},
	Inv:      {register, register},
	TypeOf:   {register, register},
	Clone:    {register, register},
	Resume:   {register, register},
	Arith:    {register, register, operator},
	Equal:    {register, register, register},
	Order:    {register, register, comparison},
	Jump:     {target},
	If:       {register, target},
	IfNot:    {register, target},
	Call:     {register, register, handed},
	Tail:     {register, register, handed},
	Return:   {register},
	Yield:    {register},
	Throw:    {register},
	Closure:  {register, function, defaults},
	Array:    {register},
	Push:     {register, register},
	Table:    {register},
	Put:      {register, register, register},
	Class:    {register, register, flag},
	Member:   {register, register, register},
	Each:     {row, target},
}

// need is what a function that is made captures: whether none has a number below 0, and of the registers and of the captured ones around the greatest number (below 0: none).
type need struct {
	fits         bool
	local, outer int
}

// check is a program, what each of its functions captures, and the function that is looked at.
type check struct {
	funcs []Func
	needs []need
	Func
}

// Check: may a program be? If not, the function at which that is told.
func Check(p Program) api.Fault {
	if len(p.Funcs) == 0 || len(p.Funcs) > MaxFuncs {
		return api.Fault{Code: api.ErrLong}
	}
	// Known ahead, so that a function that is made at many steps isn't gone through at each of them.
	needs := make([]need, len(p.Funcs))
	for at, f := range p.Funcs {
		needs[at] = needOf(f.Captures)
	}
	for at, f := range p.Funcs {
		c := check{funcs: p.Funcs, needs: needs, Func: f}
		if e := c.wrong(at == 0); e != api.OK {
			return api.Fault{Code: e, At: at}
		}
	}
	return api.Fault{}
}

func needOf(list []scope.Capture) need {
	n := need{fits: true, local: -1, outer: -1}
	for _, c := range list {
		switch {
		case c.Index < 0:
			n.fits = false
		case c.Local:
			n.local = max(n.local, c.Index)
		default:
			n.outer = max(n.outer, c.Index)
		}
	}
	return n
}

// wrong: what is wrong with the function, which may be the whole.
func (c *check) wrong(whole bool) api.Errno {
	switch {
	case len(c.Steps) == 0 || len(c.Steps) > MaxSteps || c.Regs < 0 || c.Regs > MaxRegs:
		return api.ErrLong
	case c.Params < 0 || c.Params > c.Regs || c.Defaults < 0 || c.Defaults > c.Params:
		return api.ErrRange
	case whole && (c.Params > 0 || len(c.Captures) > 0 || c.Yields):
		return api.ErrRange
	case !c.consts():
		return api.ErrType
	case !c.steps():
		return api.ErrForm
	case !c.tries():
		return api.ErrRange
	}
	return api.OK
}

func (c *check) consts() bool {
	for _, v := range c.Consts {
		if value.Check(v) != api.OK || v.Kind == api.Ref {
			return false
		}
	}
	return true
}

// steps: may each step be, and does the last one lead elsewhere?
func (c *check) steps() bool {
	for _, s := range c.Steps {
		if !c.step(s) {
			return false
		}
	}
	last := c.Steps[len(c.Steps)-1].Op
	return last == Jump || last == Return || last == Throw
}

func (c *check) step(s Step) bool {
	if s.Op < LoadK || s.Op >= Ops || s.Op == Yield && !c.Yields {
		return false
	}
	rules := arguments[s.Op]
	return c.fits(rules[0], s.A, s) && c.fits(rules[1], s.B, s) && c.fits(rules[2], s.C, s)
}

// fits: is an argument of a step what it must be, if those ahead of it are?
func (c *check) fits(rule uint8, arg int, s Step) bool {
	switch rule {
	case register:
		return below(arg, c.Regs)
	case constant:
		return below(arg, len(c.Consts))
	case text:
		return below(arg, len(c.Consts)) && c.Consts[arg].Kind == api.Str
	case captured:
		return below(arg, len(c.Captures))
	case target:
		return below(arg, len(c.Steps))
	case operator:
		return below(arg, Plus+1)
	case comparison:
		return below(arg, Three+1)
	case handed:
		return below(arg, c.Regs-s.B-1)
	case row:
		return below(arg, c.Regs-3)
	case flag:
		return below(arg, 2)
	case function:
		return c.makes(arg)
	case defaults:
		return below(arg, c.Regs+1) && c.funcs[s.B].Defaults <= c.Regs-arg
	}
	return arg == 0
}

// makes: can the function make another one: is that not the whole, and is all that it captures here?
func (c *check) makes(at int) bool {
	if at == 0 || !below(at, len(c.funcs)) {
		return false
	}
	n := c.needs[at]
	return n.fits && n.local < c.Regs && n.outer < len(c.Captures)
}

func (c *check) tries() bool {
	for _, t := range c.Tries {
		if t.From < 0 || t.To < t.From || t.To > len(c.Steps) || !below(t.Target, len(c.Steps)) || !below(t.Reg, c.Regs) {
			return false
		}
	}
	return true
}

// below: is a number one of so many, from 0 on?
func below(n, many int) bool { return n >= 0 && n < many }
