package list_test

import (
	"math"
	"slices"
	"strings"
	"testing"

	"drey/api"
	"drey/list"
	"drey/value"
)

const (
	least = math.MinInt64
	most  = math.MaxInt64
)

// ints: numbers as values.
func ints(nums ...int64) []api.Value {
	out := make([]api.Value, len(nums))
	for i, n := range nums {
		out[i] = value.Int(n)
	}
	return out
}

// mixed: values of all kinds, and some that may not be: a list keeps these, too.
func mixed() []api.Value {
	return []api.Value{
		value.Null(), value.Bool(true), value.Int(-7), value.Str(""), value.Str("a\n"), value.Ref(0), value.Ref(9), value.Bool(false), value.Int(0),
		{Kind: 9, Num: 3, Text: "x"}, {Kind: api.Bool, Num: 2}, {Kind: api.Int, Num: 1, Text: "t"}, {Kind: api.Null, Num: 4},
	}
}

// holds: does a list have just these values, by all that tells of them?
func holds(t *testing.T, what string, l *list.List, want []api.Value) {
	t.Helper()
	if l == nil {
		t.Fatalf("%s: no list", what)
	}
	if got := l.All(); l.Len() != len(want) || !slices.Equal(got, want) {
		t.Fatalf("%s: %d values, %v, not %v", what, l.Len(), few(got), few(want))
	}
	for at, v := range want {
		if got, e := l.Get(int64(at)); got != v || e != api.OK {
			t.Fatalf("%s: at %d %v %v, not %v", what, at, got, e, v)
		}
	}
}

// few: the first ones: a message needs no more.
func few(vals []api.Value) []api.Value { return vals[:min(len(vals), 20)] }

// many: so many values.
func many(n int) []api.Value {
	out := make([]api.Value, n)
	for i := range out {
		out[i] = value.Int(int64(i))
	}
	return out
}

func TestNew(t *testing.T) { // P4.1
	holds(t, "of nothing", list.New(), nil)
	holds(t, "of an empty list", list.New([]api.Value{}...), nil)
	holds(t, "of one", list.New(value.Null()), []api.Value{value.Null()})
	holds(t, "of many", list.New(mixed()...), mixed())
	holds(t, "of as many as may be", list.New(many(list.MaxLen)...), many(list.MaxLen))
	if list.MaxLen != 1048576 {
		t.Errorf("MaxLen: %d", list.MaxLen)
	}
}

// noPlaces: numbers that are no place in a list of n values.
func noPlaces(n int64) []int64 {
	return []int64{least, least + 1, -1 << 32, -n - 1, -n, -1, n, n + 1, 1 << 32, 1<<32 + n - 1, most}
}

func TestGet(t *testing.T) { // P4.1
	for _, n := range []int64{1, 2, 13} {
		l := list.New(many(int(n))...)
		for _, at := range noPlaces(n) {
			if v, e := l.Get(at); v != value.Null() || e != api.ErrRange {
				t.Errorf("Get(%d) of %d: %v %v", at, n, v, e)
			}
		}
		holds(t, "Get", l, many(int(n)))
	}
	if v, e := list.New().Get(0); v != value.Null() || e != api.ErrRange {
		t.Errorf("Get(0) of none: %v %v", v, e)
	}
}

func TestSet(t *testing.T) { // P4.2
	l, want := list.New(ints(1, 2, 3)...), ints(1, 2, 3)
	for at := range int64(3) {
		for _, v := range mixed() {
			want[at] = v
			if e := l.Set(at, v); e != api.OK {
				t.Errorf("Set(%d, %v): %v", at, v, e)
			}
			holds(t, "Set", l, want)
		}
	}
	for _, at := range noPlaces(3) {
		if e := l.Set(at, value.Int(8)); e != api.ErrRange {
			t.Errorf("Set(%d): %v", at, e)
		}
		holds(t, "Set of no place", l, want)
	}
	l = list.New()
	if e := l.Set(0, value.Int(8)); e != api.ErrRange {
		t.Errorf("Set of none: %v", e)
	}
	holds(t, "Set of none", l, nil)
}

func TestPushPop(t *testing.T) { // P4.2
	l := list.New()
	if v, e := l.Pop(); v != value.Null() || e != api.ErrMissing {
		t.Errorf("Pop of none: %v %v", v, e)
	}
	var want []api.Value
	for i := range 40 {
		more := mixed()[:i%5]
		if e := l.Push(more...); e != api.OK {
			t.Errorf("Push of %d: %v", len(more), e)
		}
		want = append(want, more...)
		holds(t, "Push", l, want)
	}
	for len(want) > 0 {
		last := want[len(want)-1]
		want = want[:len(want)-1]
		if v, e := l.Pop(); v != last || e != api.OK {
			t.Errorf("Pop: %v %v, not %v", v, e, last)
		}
		holds(t, "Pop", l, want)
	}
	if v, e := l.Pop(); v != value.Null() || e != api.ErrMissing {
		t.Errorf("Pop of none any more: %v %v", v, e)
	}
	if e := l.Push(value.Str("z")); e != api.OK {
		t.Errorf("Push again: %v", e)
	}
	holds(t, "Push again", l, []api.Value{value.Str("z")})
}

func TestInsert(t *testing.T) { // P4.2
	for n := range int64(6) {
		for at := range n + 1 {
			l, want := list.New(many(int(n))...), slices.Insert(many(int(n)), int(at), value.Str("new"))
			if e := l.Insert(at, value.Str("new")); e != api.OK {
				t.Errorf("Insert(%d) of %d: %v", at, n, e)
			}
			holds(t, "Insert", l, want)
		}
		l := list.New(many(int(n))...)
		for _, at := range []int64{least, -1 << 32, -n - 1, -1, n + 1, n + 2, 1 << 32, most} {
			if e := l.Insert(at, value.Int(8)); e != api.ErrRange {
				t.Errorf("Insert(%d) of %d: %v", at, n, e)
			}
			holds(t, "Insert at no place", l, many(int(n)))
		}
	}
	l, want := list.New(), []api.Value{}
	for _, v := range mixed() {
		if e := l.Insert(int64(len(want)/2), v); e != api.OK {
			t.Errorf("Insert(%v): %v", v, e)
		}
		want = slices.Insert(want, len(want)/2, v)
		holds(t, "Insert of each", l, want)
	}
}

func TestRemove(t *testing.T) { // P4.2
	for n := range int64(6) {
		for at := range n {
			l, want := list.New(mixed()[:n]...), slices.Delete(mixed()[:n], int(at), int(at)+1)
			if v, e := l.Remove(at); v != mixed()[at] || e != api.OK {
				t.Errorf("Remove(%d) of %d: %v %v", at, n, v, e)
			}
			holds(t, "Remove", l, want)
		}
		l := list.New(many(int(n))...)
		for _, at := range []int64{least, -1 << 32, -n - 1, -1, n, n + 1, 1 << 32, most} {
			if v, e := l.Remove(at); v != value.Null() || e != api.ErrRange {
				t.Errorf("Remove(%d) of %d: %v %v", at, n, v, e)
			}
			holds(t, "Remove of no place", l, many(int(n)))
		}
	}
}

func TestResize(t *testing.T) { // P4.2
	fill := value.Str("fill")
	for n := range 6 {
		for to := range 9 {
			l, want := list.New(many(n)...), many(n)
			for len(want) < to {
				want = append(want, fill)
			}
			if e := l.Resize(int64(to), fill); e != api.OK {
				t.Errorf("Resize(%d) of %d: %v", to, n, e)
			}
			holds(t, "Resize", l, want[:to])
		}
		l := list.New(many(n)...)
		for _, to := range []int64{least, -1 << 32, -1} {
			if e := l.Resize(to, fill); e != api.ErrRange {
				t.Errorf("Resize(%d): %v", to, e)
			}
			holds(t, "Resize below 0", l, many(n))
		}
		for _, to := range []int64{list.MaxLen + 1, 1 << 32, most} {
			if e := l.Resize(to, fill); e != api.ErrLong {
				t.Errorf("Resize(%d): %v", to, e)
			}
			holds(t, "Resize above all", l, many(n))
		}
	}
}

// TestWhatWentStaysAway: values that went don't come back when there are more again.
func TestWhatWentStaysAway(t *testing.T) { // P4.2
	for name, drop := range map[string]func(l *list.List){
		"Resize": func(l *list.List) { l.Resize(0, value.Null()) },
		"Clear":  func(l *list.List) { l.Clear() },
		"Pop":    func(l *list.List) { l.Pop(); l.Pop(); l.Pop() },
		"Remove": func(l *list.List) { l.Remove(0); l.Remove(0); l.Remove(0) },
	} {
		l := list.New(ints(1, 2, 3)...)
		drop(l)
		holds(t, name, l, nil)
		if e := l.Resize(4, value.Null()); e != api.OK {
			t.Errorf("Resize behind %s: %v", name, e)
		}
		holds(t, name+" and Resize", l, make([]api.Value, 4))
	}
}

func TestReverseAndClear(t *testing.T) { // P4.2
	for n := range 7 {
		l, want := list.New(mixed()[:n]...), mixed()[:n]
		for i := range n / 2 {
			want[i], want[n-1-i] = want[n-1-i], want[i]
		}
		l.Reverse()
		holds(t, "Reverse", l, want)
		l.Reverse()
		holds(t, "Reverse twice", l, mixed()[:n])
		l.Clear()
		holds(t, "Clear", l, nil)
		l.Clear()
		holds(t, "Clear twice", l, nil)
		if v, e := l.Get(0); v != value.Null() || e != api.ErrRange {
			t.Errorf("Get behind Clear: %v %v", v, e)
		}
		if e := l.Push(value.Int(5)); e != api.OK {
			t.Errorf("Push behind Clear: %v", e)
		}
		holds(t, "Push behind Clear", l, ints(5))
	}
}

// TestFull: a list of as many values as may be takes no more, and is as it was.
func TestFull(t *testing.T) { // P4.2
	l, want := list.New(), many(list.MaxLen)
	if e := l.Push(want...); e != api.OK {
		t.Fatalf("Push of MaxLen: %v", e)
	}
	holds(t, "Push of MaxLen", l, want)
	for name, c := range map[string]struct{ got, want api.Errno }{
		"Push":             {l.Push(value.Int(1)), api.ErrLong},
		"Push of two":      {l.Push(value.Int(1), value.Int(2)), api.ErrLong},
		"Push of none":     {l.Push(), api.OK},
		"Insert at 0":      {l.Insert(0, value.Int(1)), api.ErrLong},
		"Insert at Len":    {l.Insert(list.MaxLen, value.Int(1)), api.ErrLong},
		"Insert at -1":     {l.Insert(-1, value.Int(1)), api.ErrRange},
		"Insert above Len": {l.Insert(list.MaxLen+1, value.Int(1)), api.ErrRange},
		"Resize":           {l.Resize(list.MaxLen, value.Int(1)), api.OK},
		"Resize above":     {l.Resize(list.MaxLen+1, value.Int(1)), api.ErrLong},
	} {
		if c.got != c.want {
			t.Errorf("%s of a full one: %v, not %v", name, c.got, c.want)
		}
	}
	holds(t, "a full one", l, want)
	if v, e := l.Pop(); v != want[list.MaxLen-1] || e != api.OK {
		t.Errorf("Pop: %v %v", v, e)
	}
	if e := l.Push(value.Int(1), value.Int(2)); e != api.ErrLong {
		t.Errorf("Push of two where one has room: %v", e)
	}
	if e := l.Insert(list.MaxLen-1, want[list.MaxLen-1]); e != api.OK {
		t.Errorf("Insert of the last one that has room: %v", e)
	}
	holds(t, "full again", l, want)
}

func TestTooManyAtOnce(t *testing.T) { // P4.2
	l := list.New(value.Str("one"))
	if e := l.Push(many(list.MaxLen)...); e != api.ErrLong {
		t.Errorf("Push of MaxLen to one: %v", e)
	}
	if e := l.Push(many(list.MaxLen + 1)...); e != api.ErrLong {
		t.Errorf("Push of more than MaxLen: %v", e)
	}
	holds(t, "Push of too many", l, []api.Value{value.Str("one")})
	if e := l.Push(many(list.MaxLen - 1)...); e != api.OK || l.Len() != list.MaxLen {
		t.Errorf("Push of MaxLen - 1: %v, %d", e, l.Len())
	}
	l = list.New(value.Str("one"))
	if e := l.Resize(list.MaxLen, value.Int(7)); e != api.OK {
		t.Errorf("Resize: %v", e)
	}
	want := slices.Repeat(ints(7), list.MaxLen)
	want[0] = value.Str("one")
	holds(t, "Resize to MaxLen", l, want)
}

func TestSlice(t *testing.T) { // P4.3
	places := []int64{least, least + 1, -1 << 32, 1 << 32, most}
	for p := int64(-8); p <= 8; p++ {
		places = append(places, p)
	}
	for n := range int64(6) {
		l := list.New(mixed()[:n]...)
		for _, from := range places {
			for _, to := range places {
				a, b := from, to
				if a < 0 {
					a += n
				}
				if b < 0 {
					b += n
				}
				s, e := l.Slice(from, to)
				if a < 0 || a > b || b > n {
					if s != nil || e != api.ErrRange {
						t.Errorf("Slice(%d, %d) of %d: %v %v", from, to, n, s, e)
					}
					continue
				}
				if e != api.OK {
					t.Fatalf("Slice(%d, %d) of %d: %v", from, to, n, e)
				}
				holds(t, "Slice", s, mixed()[a:b])
			}
		}
		holds(t, "what was cut", l, mixed()[:n])
	}
	s, e := list.New(ints(0, 1, 2, 3, 4, 5)...).Slice(-3, -1)
	if e != api.OK {
		t.Fatal(e)
	}
	holds(t, "Slice(-3, -1)", s, ints(3, 4))
}

func TestFind(t *testing.T) { // P4.3
	vals := append(values(), values()...)
	l := list.New(vals...)
	for at, v := range values() {
		v.Text = strings.Clone(v.Text)
		if got := l.Find(v); got != int64(at) {
			t.Errorf("Find(%v): %d, not %d", v, got, at)
		}
	}
	for _, v := range []api.Value{value.Int(2), value.Str("2"), value.Ref(2), value.Str("A"), value.Int(-1), value.Str("true"), value.Str("null")} {
		if got := l.Find(v); got != -1 {
			t.Errorf("Find(%v): %d", v, got)
		}
	}
	for _, v := range values() {
		if got := list.New().Find(v); got != -1 {
			t.Errorf("Find(%v) in none: %d", v, got)
		}
	}
	l = list.New(ints(4, 5, 5, 6)...)
	if l.Find(value.Int(5)) != 1 || l.Find(value.Int(6)) != 3 {
		t.Errorf("Find: %d, %d", l.Find(value.Int(5)), l.Find(value.Int(6)))
	}
}

// values: some that may be, near to each other.
func values() []api.Value {
	return []api.Value{value.Int(1), value.Bool(true), value.Ref(1), value.Str("1"), value.Null(), value.Int(0), value.Bool(false), value.Ref(0), value.Str(""), value.Str("a"), value.Str("ab")}
}

func TestCells(t *testing.T) { // P4.3
	for _, c := range []struct {
		vals []api.Value
		want []int
	}{
		{nil, nil},
		{ints(1, 2), nil},
		{[]api.Value{value.Ref(4), value.Int(3), value.Ref(0), value.Str("r"), value.Ref(4), value.Null()}, []int{4, 0, 4}},
	} {
		l := list.New(c.vals...)
		if got := l.Cells(); !slices.Equal(got, c.want) {
			t.Errorf("Cells of %v: %v, not %v", c.vals, got, c.want)
		}
		holds(t, "Cells", l, c.vals)
	}
	l := list.New(value.Ref(1), value.Ref(2), value.Ref(3))
	l.Pop()
	l.Set(0, value.Int(1))
	if got := l.Cells(); !slices.Equal(got, []int{2}) {
		t.Errorf("Cells of what is left: %v", got)
	}
}

// spoil: writes all over a list of values, its spare room, too.
func spoil(vals []api.Value) {
	vals = vals[:cap(vals)]
	for i := range vals {
		vals[i] = value.Str("spoilt")
	}
}

// change: changes a list in every way; first in the memory that it has, then in what it gets.
func change(l *list.List) {
	l.Set(0, value.Int(90))
	l.Reverse()
	l.Push(ints(91, 92, 93)...)
	l.Set(1, value.Int(94))
	l.Insert(1, value.Int(95))
	l.Reverse()
	l.Remove(2)
	l.Resize(1, value.Int(96))
	l.Resize(30, value.Int(97))
}

// TestClone: also that a list's own memory isn't shared with what it answered: Slice, All, Cells.
func TestClone(t *testing.T) { // P4.3, P2
	for n := range 7 {
		l := list.New()
		l.Push(mixed()[:n]...)
		c := l.Clone()
		whole, e := l.Slice(0, int64(n))
		if e != api.OK {
			t.Fatal(e)
		}
		front, e := l.Slice(0, int64(n/2))
		if e != api.OK {
			t.Fatal(e)
		}
		holds(t, "Clone", c, mixed()[:n])
		change(c)
		holds(t, "ahead of its changed Clone", l, mixed()[:n])
		change(front)
		holds(t, "ahead of its changed Slice", l, mixed()[:n])
		c = l.Clone()
		change(l)
		holds(t, "Clone of what changed", c, mixed()[:n])
		holds(t, "Slice of what changed", whole, mixed()[:n])
		c.Clear()
		holds(t, "Slice beside what was cleared", whole, mixed()[:n])
	}
}

// TestOwnMemory: what is handed in stays as it is, with its spare room, and isn't kept; what is answered is of its own.
func TestOwnMemory(t *testing.T) { // P2
	for n := range 7 {
		for name, build := range map[string]func(vals []api.Value) *list.List{
			"New": func(vals []api.Value) *list.List { return list.New(vals...) },
			"Push": func(vals []api.Value) *list.List {
				l := list.New()
				l.Push(vals...)
				return l
			},
			"Push after Clear": func(vals []api.Value) *list.List {
				l := list.New(value.Int(1))
				l.Clear()
				l.Push(vals...)
				return l
			},
		} {
			back := mixed()
			l := build(back[:n])
			change(l)
			if !slices.Equal(back, mixed()) {
				t.Errorf("%s: the list that was handed in changed: %v", name, back)
			}
			l = build(back[:n])
			spoil(back)
			holds(t, name+" of what was spoilt", l, mixed()[:n])
			spoil(l.All())
			holds(t, name+" behind what All answered", l, mixed()[:n])
			l.Push(value.Int(1))
			all := l.All()
			change(l)
			if !slices.Equal(all, append(mixed()[:n:n], value.Int(1))) {
				t.Errorf("%s: what All answered changed: %v", name, all)
			}
		}
	}
	l := list.New(value.Ref(1), value.Ref(2))
	cells := l.Cells()
	cells[0] = 9
	if !slices.Equal(l.Cells(), []int{1, 2}) {
		t.Errorf("Cells: %v", l.Cells())
	}
}

// model: what a list does, told with a plain slice.
type model struct{ vals []api.Value }

// do: one change more of both, told by three numbers; whether they answer alike.
func (m *model) do(l *list.List, op int, at, n int64) bool {
	here := at >= 0 && at < int64(len(m.vals))
	switch op {
	case 0:
		m.vals = append(m.vals, value.Int(n), value.Int(at))
		return l.Push(value.Int(n), value.Int(at)) == api.OK
	case 1:
		v, e := l.Pop()
		if len(m.vals) == 0 {
			return v == value.Null() && e == api.ErrMissing
		}
		want := m.vals[len(m.vals)-1]
		m.vals = m.vals[:len(m.vals)-1]
		return v == want && e == api.OK
	case 2:
		e := l.Insert(at, value.Int(n))
		if !here && at != int64(len(m.vals)) {
			return e == api.ErrRange
		}
		m.vals = slices.Insert(m.vals, int(at), value.Int(n))
		return e == api.OK
	case 3:
		v, e := l.Remove(at)
		if !here {
			return v == value.Null() && e == api.ErrRange
		}
		want := m.vals[at]
		m.vals = slices.Delete(m.vals, int(at), int(at)+1)
		return v == want && e == api.OK
	case 4:
		e := l.Set(at, value.Int(n))
		if !here {
			return e == api.ErrRange
		}
		m.vals[at] = value.Int(n)
		return e == api.OK
	case 5:
		slices.Reverse(m.vals)
		l.Reverse()
		return true
	}
	e := l.Resize(at, value.Int(n))
	if at < 0 {
		return e == api.ErrRange
	}
	for int64(len(m.vals)) < at {
		m.vals = append(m.vals, value.Int(n))
	}
	m.vals = m.vals[:at]
	return e == api.OK
}

// TestManyChanges: a list stays what a plain slice is, whatever is done to both, one after the other.
func TestManyChanges(t *testing.T) { // P4.1, P4.2
	seed := uint32(1)
	next := func(n uint32) int64 { // the same row of numbers each time
		seed = seed*1664525 + 1013904223
		return int64((seed >> 8) % n)
	}
	l, m := list.New(), &model{}
	for i := range 4000 {
		op, at, n := int(next(10)), next(24)-3, next(1000)
		if op > 6 {
			op = 0
		}
		if !m.do(l, op, at, n) {
			t.Fatalf("change %d (%d, %d, %d) is answered otherwise", i, op, at, n)
		}
		holds(t, "many changes", l, m.vals)
	}
}

// TestAnything: no call panics at whatever place, and none that is refused changes anything.
func TestAnything(t *testing.T) { // P1, P2
	places := []int64{least, least + 1, -1 << 32, -14, -13, -2, -1, 0, 1, 12, 13, 14, 1 << 32, most - 1, most}
	for _, at := range places {
		for _, v := range mixed() {
			l := list.New(mixed()...)
			_, e := l.Get(at)
			if e != api.OK && (l.Set(at, v) != e || !slices.Equal(l.All(), mixed())) {
				t.Errorf("Set(%d, %v)", at, v)
			}
			if l.Insert(at, v) == api.OK {
				if got, f := l.Remove(at); got != v || f != api.OK {
					t.Errorf("Insert(%d, %v) and Remove: %v %v", at, v, got, f)
				}
			}
			if l.Resize(min(at, 20), v); l.Len() > 20 {
				t.Errorf("Resize(%d): %d", at, l.Len())
			}
			if got := l.Find(v); got != l.Find(v) || got < -1 || got >= int64(l.Len()) {
				t.Errorf("Find(%v): %d", v, got)
			}
			for _, to := range places {
				if s, e := l.Slice(at, to); (s == nil) != (e != api.OK) {
					t.Errorf("Slice(%d, %d): %v %v", at, to, s, e)
				}
			}
		}
	}
}
