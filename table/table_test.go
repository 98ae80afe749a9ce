package table_test

import (
	"math"
	"slices"
	"strconv"
	"strings"
	"testing"

	"drey/api"
	"drey/table"
	"drey/value"
)

const (
	least = math.MinInt64
	most  = math.MaxInt64
)

// pair is a key and its value.
type pair struct{ key, val api.Value }

// keys: some of all kinds, near to each other; and some that no value may be: a table keeps these, too.
func keys() []api.Value {
	return []api.Value{
		value.Int(1), value.Bool(true), value.Ref(1), value.Str("1"), value.Int(0), value.Bool(false), value.Ref(0), value.Str(""), value.Int(-1),
		value.Int(least), value.Int(most), value.Str("a"), value.Str("ab"), value.Str("a\x00"), value.Int(1 << 32), value.Str("true"),
		{Kind: 9, Num: 1}, {Kind: -1}, {Kind: api.Int, Num: 1, Text: "x"}, {Kind: api.Str, Num: 1, Text: "1"}, {Kind: api.Bool, Num: 2},
	}
}

// build: a table of some pairs.
func build(t *testing.T, pairs ...pair) *table.Table {
	t.Helper()
	x := table.New()
	for _, p := range pairs {
		if e := x.Put(p.key, p.val); e != api.OK {
			t.Fatalf("Put(%v): %v", p.key, e)
		}
	}
	return x
}

// numbered: so many keys from a number on, each with its number's text.
func numbered(from, n int) []pair {
	out := make([]pair, n)
	for i := range out {
		out[i] = pair{value.Int(int64(from + i)), value.Str(strconv.Itoa(from + i))}
	}
	return out
}

// walk: what Next tells from a cursor on.
func walk(t *testing.T, x *table.Table, cursor int64) []pair {
	t.Helper()
	var out []pair
	for {
		next, key, val, ok := x.Next(cursor)
		if !ok {
			if next != cursor || key != value.Null() || val != value.Null() {
				t.Fatalf("Next(%d) of none: %d %v %v", cursor, next, key, val)
			}
			return out
		}
		if next <= cursor || next <= 0 {
			t.Fatalf("Next(%d): %d", cursor, next)
		}
		out, cursor = append(out, pair{key, val}), next
	}
}

// holds: does a table have just these pairs, in this order, by all that tells of them?
func holds(t *testing.T, what string, x *table.Table, want []pair) {
	t.Helper()
	if x == nil || x.Len() != len(want) {
		t.Fatalf("%s: %v, not %d keys", what, x, len(want))
	}
	ks, vs, cells := x.Keys(), x.Vals(), x.Cells()
	if len(ks) != len(want) || len(vs) != len(want) {
		t.Fatalf("%s: %d Keys, %d Vals, not %d", what, len(ks), len(vs), len(want))
	}
	for i, p := range want {
		if ks[i] != p.key || vs[i] != p.val {
			t.Fatalf("%s: at %d %v %v, not %v", what, i, ks[i], vs[i], p)
		}
		if v, e := x.Get(p.key); v != p.val || e != api.OK || !x.Has(p.key) {
			t.Fatalf("%s: Get(%v): %v %v", what, p.key, v, e)
		}
	}
	if got := walk(t, x, 0); !slices.Equal(got, want) {
		t.Fatalf("%s: Next tells otherwise than Keys", what)
	}
	if !slices.Equal(cells, cellsOf(want)) {
		t.Fatalf("%s: Cells %v", what, cells)
	}
}

// cellsOf: the cells among keys, then those among values.
func cellsOf(pairs []pair) []int {
	var out, vals []int
	for _, p := range pairs {
		out = append(out, value.Cells(p.key)...)
		vals = append(vals, value.Cells(p.val)...)
	}
	return append(out, vals...)
}

// lacks: a key isn't there, and no call that needs it changes anything.
func lacks(t *testing.T, x *table.Table, key api.Value) {
	t.Helper()
	if v, e := x.Get(key); v != value.Null() || e != api.ErrMissing || x.Has(key) {
		t.Errorf("Get(%v): %v %v", key, v, e)
	}
	if e := x.Set(key, value.Int(5)); e != api.ErrMissing {
		t.Errorf("Set(%v): %v", key, e)
	}
	if v, e := x.Delete(key); v != value.Null() || e != api.ErrMissing {
		t.Errorf("Delete(%v): %v %v", key, v, e)
	}
}

func TestNew(t *testing.T) { // P5.1
	x := table.New()
	holds(t, "New", x, nil)
	for _, k := range append(keys(), value.Null()) {
		lacks(t, x, k)
	}
	holds(t, "New", x, nil)
	if table.MaxLen != 1048576 {
		t.Errorf("MaxLen: %d", table.MaxLen)
	}
}

func TestPut(t *testing.T) { // P5.1, P5.2
	x := table.New()
	var want []pair
	for i, k := range keys() {
		lacks(t, x, k)
		if e := x.Put(k, value.Int(int64(i))); e != api.OK {
			t.Errorf("Put(%v): %v", k, e)
		}
		want = append(want, pair{k, value.Int(int64(i))})
		holds(t, "Put", x, want)
	}
	for i, k := range keys() {
		k.Text = strings.Clone(k.Text)
		want[i].val = value.Str("again")
		if e := x.Put(k, value.Str("again")); e != api.OK {
			t.Errorf("Put(%v) again: %v", k, e)
		}
		holds(t, "Put again", x, want)
	}
	for _, v := range append(keys(), value.Null()) {
		want[3].val = v
		if e := x.Put(want[3].key, v); e != api.OK {
			t.Errorf("Put of the value %v: %v", v, e)
		}
		holds(t, "Put of any value", x, want)
	}
}

func TestNullIsNoKey(t *testing.T) { // P5.2
	for n := range 4 {
		x := build(t, numbered(0, n)...)
		for i := range n {
			if e := x.Put(value.Null(), value.Int(1)); e != api.ErrType {
				t.Errorf("Put(Null): %v", e)
			}
			lacks(t, x, value.Null())
			holds(t, "Put(Null)", x, numbered(i, n-i))
			x.Delete(value.Int(int64(i)))
		}
		lacks(t, x, value.Null())
	}
}

// TestNullAmongWhatWent: where keys went, Null hasn't come.
func TestNullAmongWhatWent(t *testing.T) { // P5.1, P5.2
	for n := 1; n < 100; n++ {
		x := build(t, numbered(0, n)...)
		for i := range n - 1 {
			x.Delete(value.Int(int64(i)))
		}
		lacks(t, x, value.Null())
		holds(t, "Null among what went", x, numbered(n-1, 1))
	}
}

func TestSet(t *testing.T) { // P5.2
	want := numbered(3, 5)
	x := build(t, want...)
	for i := range want {
		for _, v := range append(keys(), value.Null()) {
			want[i].val = v
			if e := x.Set(want[i].key, v); e != api.OK {
				t.Errorf("Set(%v): %v", want[i].key, e)
			}
			holds(t, "Set", x, want)
		}
	}
	for _, k := range []api.Value{value.Int(2), value.Int(8), value.Str("3"), value.Ref(4), value.Null()} {
		lacks(t, x, k)
		holds(t, "Set of none", x, want)
	}
}

func TestDelete(t *testing.T) { // P5.2
	for n := range 7 {
		for i := range n {
			want := numbered(0, n)
			x := build(t, want...)
			if v, e := x.Delete(want[i].key); v != want[i].val || e != api.OK {
				t.Errorf("Delete(%v): %v %v", want[i].key, v, e)
			}
			gone := want[i]
			want = slices.Delete(want, i, i+1)
			lacks(t, x, gone.key)
			holds(t, "Delete", x, want)
			if e := x.Put(gone.key, value.Str("back")); e != api.OK {
				t.Errorf("Put of what went: %v", e)
			}
			holds(t, "put again", x, append(want, pair{gone.key, value.Str("back")}))
		}
	}
}

func TestClear(t *testing.T) { // P5.2
	for n := range 6 {
		x := build(t, numbered(0, n)...)
		x.Clear()
		holds(t, "Clear", x, nil)
		for i := range n {
			lacks(t, x, value.Int(int64(i)))
		}
		x.Clear()
		holds(t, "Clear twice", x, nil)
		x.Put(value.Int(9), value.Ref(1))
		holds(t, "Put behind Clear", x, []pair{{value.Int(9), value.Ref(1)}})
	}
}

// TestExample: of two keys the first one deleted, the second one is told by the cursor 0.
func TestExample(t *testing.T) { // P5.3
	x := build(t, numbered(1, 2)...)
	x.Delete(value.Int(1))
	if _, k, v, ok := x.Next(0); k != value.Int(2) || v != value.Str("2") || !ok {
		t.Errorf("Next(0): %v %v %v", k, v, ok)
	}
}

// TestCursors: each cursor stays behind its key, whatever goes and comes: one by one, from the front, from the end, all but some.
func TestCursors(t *testing.T) { // P5.3
	for _, step := range []int{1, 2, 3, 7, 13, 39} {
		const n = 40
		want := numbered(0, n)
		x := build(t, want...)
		cursors := []int64{0}
		for c, _, _, ok := x.Next(0); ok; c, _, _, ok = x.Next(c) {
			cursors = append(cursors, c)
		}
		if len(cursors) != n+1 {
			t.Fatalf("%d cursors", len(cursors))
		}
		here := slices.Repeat([]bool{true}, n)
		var more []pair
		for i := range n {
			at := (i * step) % n
			if here[at] {
				x.Delete(want[at].key)
				here[at] = false
			}
			if i%3 == 0 { // what comes meanwhile is behind all cursors
				p := pair{value.Str(strconv.Itoa(i)), value.Int(int64(i))}
				x.Put(p.key, p.val)
				more = append(more, p)
			}
			for c, cursor := range cursors {
				var left []pair
				for k := c; k < n; k++ {
					if here[k] {
						left = append(left, want[k])
					}
				}
				if got := walk(t, x, cursor); !slices.Equal(got, append(left, more...)) {
					t.Fatalf("step %d, %d deleted: from the cursor behind %d keys on: %v", step, i+1, c, got)
				}
			}
		}
	}
}

// TestCursorsOfWhatComesAgain: a key that went and is put again is behind all cursors.
func TestCursorsOfWhatComesAgain(t *testing.T) { // P5.3
	x := build(t, numbered(0, 2)...)
	first, _, _, _ := x.Next(0)
	end, _, _, _ := x.Next(first)
	seen := end
	for i := range 200 {
		k := value.Int(int64(i % 2))
		x.Delete(k)
		x.Put(k, value.Int(int64(i)))
		c, key, val, ok := x.Next(end)
		if key != k || val != value.Int(int64(i)) || !ok || c <= seen {
			t.Fatalf("%d: %d %v %v %v, ahead of it %d", i, c, key, val, ok, seen)
		}
		seen, end = c, c
	}
	if got := walk(t, x, end); got != nil {
		t.Errorf("behind the last one: %v", got)
	}
	if got := walk(t, x, first); len(got) != 2 {
		t.Errorf("behind what was first: %v", got)
	}
}

// TestCursorsBehindClear: cursors stay behind what went, and what comes is behind them; put in place or not.
func TestCursorsBehindClear(t *testing.T) { // P5.3
	x := table.New()
	var cursors []int64
	for i := range 30 {
		p := pair{value.Int(int64(i % 5)), value.Int(int64(i))}
		x.Put(p.key, p.val)
		for _, c := range cursors {
			if got := walk(t, x, c); !slices.Equal(got, []pair{p}) {
				t.Fatalf("%d: from %d on %v", i, c, got)
			}
		}
		c, _, _, _ := x.Next(0)
		if len(cursors) > 0 && c <= cursors[len(cursors)-1] {
			t.Fatalf("cursor %d behind %v", c, cursors)
		}
		cursors = append(cursors, c)
		x.Put(p.key, value.Null())
		if got := walk(t, x, c); got != nil {
			t.Fatalf("another value of a key moves it: %v", got)
		}
		x.Clear()
		for _, c := range cursors {
			if got := walk(t, x, c); got != nil {
				t.Fatalf("behind Clear: %v", got)
			}
		}
	}
}

// TestNextAsks: a cursor may be asked again, and the same is told.
func TestNextAsks(t *testing.T) { // P5.3
	x := build(t, numbered(0, 9)...)
	for i := range 8 {
		if i != 4 {
			x.Delete(value.Int(int64(i)))
		}
	}
	for range 3 {
		for c := range int64(20) {
			a, k, v, ok := x.Next(c)
			b, l, w, yes := x.Next(c)
			if a != b || k != l || v != w || ok != yes {
				t.Errorf("Next(%d): %d %v %v %v, then %d %v %v %v", c, a, k, v, ok, b, l, w, yes)
			}
		}
	}
	holds(t, "asked", x, []pair{{value.Int(4), value.Str("4")}, {value.Int(8), value.Str("8")}})
}

func TestClone(t *testing.T) { // P5.4, P2
	for n := range 9 {
		for gone := range n + 1 {
			want := numbered(0, n)
			x := build(t, want...)
			for i := range gone {
				x.Delete(want[i].key)
			}
			left := want[gone:]
			y := x.Clone()
			holds(t, "Clone", y, left)
			y.Put(value.Str("new"), value.Ref(1))
			for _, p := range left {
				y.Set(p.key, value.Int(-1))
				y.Delete(p.key)
			}
			holds(t, "ahead of its changed Clone", x, left)
			y = x.Clone()
			x.Clear()
			x.Put(value.Str("new"), value.Null())
			holds(t, "Clone of what changed", y, left)
			if len(left) > 0 {
				c, k, _, _ := y.Next(0)
				y.Delete(k)
				if got := walk(t, y, c); !slices.Equal(got, left[1:]) {
					t.Errorf("a Clone's cursor: %v", got)
				}
			}
		}
	}
}

func TestCells(t *testing.T) { // P5.4
	x := build(t, pair{value.Ref(4), value.Ref(7)}, pair{value.Int(4), value.Ref(4)}, pair{value.Ref(2), value.Int(9)}, pair{value.Str("r"), value.Null()})
	for _, want := range [][]int{{4, 2, 7, 4}, {2, 4}, {2}, nil} {
		if got := x.Cells(); !slices.Equal(got, want) {
			t.Errorf("Cells: %v, not %v", got, want)
		}
		_, k, _, _ := x.Next(0)
		x.Delete(k)
	}
}

// roomy: has a table as much room as it should, when it had at most so many keys at once?
func roomy(t *testing.T, what string, x *table.Table, n int) {
	t.Helper()
	size, used := x.Room()
	if size < 0 || used < x.Len() || used > size || x.Len() > 0 && size <= x.Len() || size > 8*(2+n) {
		t.Fatalf("%s: Room %d %d of %d keys, %d at once", what, size, used, x.Len(), n)
	}
}

func TestRoom(t *testing.T) { // P5.4
	x := table.New()
	roomy(t, "New", x, 0)
	for i := range 3000 {
		x.Put(value.Int(int64(i)), value.Null())
		roomy(t, "Put", x, i+1)
	}
	for i := range 3000 {
		x.Delete(value.Int(int64(i)))
		roomy(t, "Delete", x, 3000)
	}
	x.Clear()
	roomy(t, "Clear", x, 3000)
	roomy(t, "Clone", x.Clone(), 0)
	for n := range 9 { // keys that come and go take no more room
		x := build(t, numbered(0, n)...)
		for i := range 3000 {
			x.Put(value.Str(strconv.Itoa(i)), value.Null())
			roomy(t, "Put", x, n+1)
			x.Delete(value.Str(strconv.Itoa(i)))
			roomy(t, "Delete", x, n+1)
			lacks(t, x, value.Str(strconv.Itoa(i)))
		}
		holds(t, "come and gone", x, numbered(0, n))
		roomy(t, "Clone", x.Clone(), n)
	}
}

// TestFull: a table of as many keys as may be takes no other one, and is as it was.
func TestFull(t *testing.T) { // P5.2
	want := numbered(0, table.MaxLen)
	x := build(t, want...)
	for name, c := range map[string]struct{ got, want api.Errno }{
		"a key more":       {x.Put(value.Int(-1), value.Int(1)), api.ErrLong},
		"a text more":      {x.Put(value.Str("0"), value.Int(1)), api.ErrLong},
		"Null":             {x.Put(value.Null(), value.Int(1)), api.ErrType},
		"a key that is":    {x.Put(value.Int(7), value.Str("7")), api.OK},
		"Set":              {x.Set(value.Int(8), value.Str("8")), api.OK},
		"Set of what isnt": {x.Set(value.Int(-8), value.Str("8")), api.ErrMissing},
	} {
		if c.got != c.want {
			t.Errorf("%s of a full one: %v, not %v", name, c.got, c.want)
		}
	}
	holds(t, "a full one", x, want)
	roomy(t, "a full one", x, table.MaxLen)
	x.Delete(value.Int(0))
	if e := x.Put(value.Int(-1), value.Str("-1")); e != api.OK {
		t.Errorf("Put where one went: %v", e)
	}
	if e := x.Put(value.Int(0), value.Str("0")); e != api.ErrLong {
		t.Errorf("Put where none has room any more: %v", e)
	}
	holds(t, "full again", x, append(want[1:len(want):len(want)], pair{value.Int(-1), value.Str("-1")}))
	roomy(t, "full again", x, table.MaxLen)
}

// TestLongWays: cursors amid many keys that went are followed soon.
func TestLongWays(t *testing.T) { // P5.3
	const n = 200000
	x := build(t, numbered(0, n)...)
	middle, _, _, _ := x.Next(0)
	for i := 1; i < n-1; i++ { // each time Next passes all that went so far, from the front, and from amid these
		x.Delete(value.Int(int64(i)))
		c, k, _, _ := x.Next(middle)
		if k != value.Int(int64(i+1)) {
			t.Fatalf("Next behind %d: %v", i, k)
		}
		if i == n/2 {
			middle = c
		}
	}
}

// spoil: writes all over a list of values, its spare room, too.
func spoil(vals []api.Value) {
	vals = vals[:cap(vals)]
	for i := range vals {
		vals[i] = value.Str("spoilt")
	}
}

// TestOwnMemory: what is answered is of its own.
func TestOwnMemory(t *testing.T) { // P2
	want := []pair{{value.Ref(1), value.Ref(2)}, {value.Int(1), value.Str("x")}, {value.Str("k"), value.Null()}}
	x := build(t, want...)
	ks, vs, cells := x.Keys(), x.Vals(), x.Cells()
	spoil(x.Keys())
	spoil(x.Vals())
	all := x.Cells()
	clear(all[:cap(all)])
	holds(t, "spoilt answers", x, want)
	x.Set(value.Ref(1), value.Int(5))
	x.Delete(value.Int(1))
	x.Put(value.Ref(8), value.Ref(9))
	if ks[1] != value.Int(1) || len(ks) != 3 || vs[0] != value.Ref(2) || len(vs) != 3 || !slices.Equal(cells, []int{1, 2}) {
		t.Errorf("answers changed: %v %v %v", ks, vs, cells)
	}
}

// model: what a table does, told with a plain slice.
type model struct {
	pairs []pair
	came  []int // which one each was, of all that came
	n     int   // how many came
	most  int   // how many there were at once
	spots map[int64]int
}

// at: where a key stands; -1: nowhere.
func (m *model) at(key api.Value) int {
	return slices.IndexFunc(m.pairs, func(p pair) bool { return p.key == key })
}

// drop: a pair goes.
func (m *model) drop(at int) {
	m.pairs, m.came = slices.Delete(m.pairs, at, at+1), slices.Delete(m.came, at, at+1)
}

// do: one change of both; whether they answer alike.
func (m *model) do(x *table.Table, op int, key, val api.Value) bool {
	at := m.at(key)
	switch {
	case op < 5:
		if at >= 0 {
			m.pairs[at].val = val
		} else {
			m.n++
			m.pairs, m.came = append(m.pairs, pair{key, val}), append(m.came, m.n)
			m.most = max(m.most, len(m.pairs))
		}
		return x.Put(key, val) == api.OK
	case op < 6:
		e := x.Set(key, val)
		if at < 0 {
			return e == api.ErrMissing
		}
		m.pairs[at].val = val
		return e == api.OK
	case op < 10:
		v, e := x.Delete(key)
		if at < 0 {
			return v == value.Null() && e == api.ErrMissing
		}
		want := m.pairs[at].val
		m.drop(at)
		return v == want && e == api.OK
	}
	m.pairs, m.came = nil, nil
	x.Clear()
	return true
}

// next: does a cursor that was told lead where it should? The new one is noted.
func (m *model) next(x *table.Table, cursor int64) bool {
	i := slices.IndexFunc(m.came, func(n int) bool { return n > m.spots[cursor] })
	c, key, val, ok := x.Next(cursor)
	if i < 0 {
		return c == cursor && key == value.Null() && val == value.Null() && !ok
	}
	if at, old := m.spots[c]; old && at != m.came[i] {
		return false
	}
	m.spots[c] = m.came[i]
	return ok && key == m.pairs[i].key && val == m.pairs[i].val && c > cursor
}

// TestManyChanges: a table stays what a plain slice is, and its cursors where they are, whatever is done.
func TestManyChanges(t *testing.T) { // P5.1 to P5.4
	seed := uint32(7)
	next := func(n int) int { // the same row of numbers each time
		seed = seed*1664525 + 1013904223
		return int(seed>>8) % n
	}
	for _, wide := range []int{3, 20, 70} {
		x, m := table.New(), &model{spots: map[int64]int{0: 0}}
		cursors := []int64{0}
		for i := range 4000 {
			op, key := next(10), value.Int(int64(next(wide)))
			if next(3) == 0 {
				key = value.Str(key.Text + strconv.Itoa(int(key.Num)))
			}
			if next(200) == 0 {
				op = 10
			}
			if !m.do(x, op, key, value.Int(int64(i))) {
				t.Fatalf("change %d (%d, %v) is answered otherwise", i, op, key)
			}
			c := cursors[next(len(cursors))]
			if !m.next(x, c) {
				t.Fatalf("change %d: Next(%d)", i, c)
			}
			if c, _, _, ok := x.Next(c); ok && !slices.Contains(cursors, c) {
				cursors = append(cursors, c)
			}
			roomy(t, "many changes", x, m.most)
			if i%20 == 0 {
				holds(t, "many changes", x, m.pairs)
			}
		}
		at := -1 // cursors rise as their keys came
		for _, c := range slices.Sorted(slices.Values(cursors)) {
			if m.spots[c] <= at {
				t.Errorf("the cursor %d is behind key %d, one below it behind %d", c, m.spots[c], at)
			}
			at = m.spots[c]
		}
	}
}

// TestAnything: no call panics at whatever cursor.
func TestAnything(t *testing.T) { // P1
	for _, x := range []*table.Table{table.New(), build(t, numbered(0, 5)...)} {
		for range 2 {
			for _, c := range []int64{least, least + 1, -1 << 32, -2, -1, 1, 5, 6, 100, 1 << 32, most - 1, most} {
				x.Next(c)
			}
			x.Delete(value.Int(2))
			x.Delete(value.Int(4))
		}
	}
}
