package heap_test

import (
	"math"
	"slices"
	"testing"

	"drey/api"
	"drey/heap"
	"drey/list"
	"drey/table"
	"drey/value"
)

// wild: numbers that are no cell of a small heap.
func wild() []int {
	return []int{math.MinInt, math.MinInt + 1, -1 << 32, -2, -1, 1000, 1 << 20, 1 << 32, math.MaxInt - 1, math.MaxInt}
}

// box: a cell that keeps some others.
func box(t *testing.T, h *heap.Heap, kept ...int) int {
	t.Helper()
	return cell(t, h, heap.Cell{Kind: heap.Box, Vals: refs(kept...)})
}

// cell: a cell more.
func cell(t *testing.T, h *heap.Heap, c heap.Cell) int {
	t.Helper()
	at, e := h.Alloc(c)
	if e != api.OK || at < 0 {
		t.Fatalf("Alloc: %d %v", at, e)
	}
	return at
}

// aim: a weak cell more.
func aim(t *testing.T, h *heap.Heap, at int) int {
	t.Helper()
	w, e := h.Aim(at)
	if e != api.OK {
		t.Fatalf("Aim(%d): %v", at, e)
	}
	return w
}

// refs: cells as values.
func refs(cells ...int) []api.Value {
	var out []api.Value
	for _, at := range cells {
		out = append(out, value.Ref(at))
	}
	return out
}

// get: a cell that is there.
func get(t *testing.T, h *heap.Heap, at int) *heap.Cell {
	t.Helper()
	c, e := h.Get(at)
	if e != api.OK || c == nil {
		t.Fatalf("Get(%d): %v %v", at, c, e)
	}
	return c
}

// lacks: a number has no cell, by an error.
func lacks(t *testing.T, h *heap.Heap, at int, want api.Errno) {
	t.Helper()
	if c, e := h.Get(at); c != nil || e != want {
		t.Errorf("Get(%d): %v %v, not %v", at, c, e, want)
	}
	if c, e := h.Of(value.Ref(at), 0); c != nil || e != want {
		t.Errorf("Of(%d): %v %v, not %v", at, c, e, want)
	}
	live := h.Live()
	if w, e := h.Aim(at); w != 0 || e != want || h.Live() != live {
		t.Errorf("Aim(%d): %d %v, not %v", at, w, e, want)
	}
	if got := h.Type(value.Ref(at)); got != "ref" {
		t.Errorf("Type of %d, which isn't there: %q", at, got)
	}
	if e := h.Check(at); e != want {
		t.Errorf("Check(%d): %v, not %v", at, e, want)
	}
	if got := h.Reached(at); slices.Contains(got, true) {
		t.Errorf("Reached(%d): %v", at, got)
	}
}

func TestName(t *testing.T) { // P6.1
	want := []string{"", "array", "table", "class", "instance", "function", "function", "generator", "thread", "weakref", "box", "", ""}
	for kind, name := range want {
		if got := heap.Name(kind); got != name {
			t.Errorf("Name(%d): %q, not %q", kind, got, name)
		}
	}
	for _, kind := range wild() {
		if got := heap.Name(kind); got != "" {
			t.Errorf("Name(%d): %q", kind, got)
		}
	}
	kinds := []int{heap.Array, heap.Table, heap.Class, heap.Instance, heap.Func, heap.Native, heap.Gen, heap.Thread, heap.Weak, heap.Box, heap.Kinds}
	for i, kind := range kinds {
		if kind != i+1 {
			t.Errorf("kind %d is %d", i+1, kind)
		}
	}
}

func TestLimit(t *testing.T) { // P6.1, P6.4
	for limit, want := range map[int]int{math.MinInt: 0, -1: 0, 0: 0, 1: 1, 200: 200, heap.MaxCells: heap.MaxCells, heap.MaxCells + 1: heap.MaxCells, math.MaxInt: heap.MaxCells} {
		h := heap.New(limit)
		if got := h.Limit(); got != want || h.Live() != 0 || h.Runs() != 0 || h.Freed() != 0 {
			t.Errorf("New(%d): Limit %d, not %d", limit, got, want)
		}
	}
	if heap.MaxCells != 1048576 {
		t.Errorf("MaxCells: %d", heap.MaxCells)
	}
}

func TestAlloc(t *testing.T) { // P6.1
	h := heap.New(30)
	seen := map[int]bool{}
	for i := range 30 {
		kind := 1 + i%10
		l, x := list.New(value.Int(int64(i))), table.New()
		at := cell(t, h, heap.Cell{Kind: kind, Vals: refs(i), List: l, Table: x, Nums: []int64{int64(i)}, Text: "t"})
		if seen[at] || h.Live() != i+1 {
			t.Fatalf("the number %d twice, or %d cells", at, h.Live())
		}
		seen[at] = true
		c := get(t, h, at)
		if c.Kind != kind || !slices.Equal(c.Vals, refs(i)) || c.List != l || c.Table != x || !slices.Equal(c.Nums, []int64{int64(i)}) || c.Text != "t" {
			t.Errorf("a cell of kind %d: %v", kind, c)
		}
		if got := h.Type(value.Ref(at)); got != heap.Name(kind) {
			t.Errorf("Type of kind %d: %q", kind, got)
		}
	}
	full(t, h)
	if at, e := h.Alloc(heap.Cell{Kind: heap.Kinds}); at != 0 || e != api.ErrType {
		t.Errorf("no kind is told ahead of no room: %d %v", at, e)
	}
}

// full: there is no room for a cell more, of any kind.
func full(t *testing.T, h *heap.Heap) {
	t.Helper()
	live := h.Live()
	for kind := heap.Array; kind < heap.Kinds; kind++ {
		if at, e := h.Alloc(heap.Cell{Kind: kind}); at != 0 || e != api.ErrFull {
			t.Errorf("Alloc in a full one: %d %v", at, e)
		}
	}
	for name, make := range map[string]func() (api.Value, api.Errno){
		"NewArray": func() (api.Value, api.Errno) { return h.NewArray(value.Int(1)) },
		"NewTable": func() (api.Value, api.Errno) { return h.NewTable(nil) },
		"NewBox":   func() (api.Value, api.Errno) { return h.NewBox(value.Int(1)) },
	} {
		if v, e := make(); v != value.Null() || e != api.ErrFull {
			t.Errorf("%s in a full one: %v %v", name, v, e)
		}
	}
	if h.Live() != live {
		t.Errorf("%d cells, not %d", h.Live(), live)
	}
}

func TestNoRoom(t *testing.T) { // P6.1, P6.3
	for _, limit := range []int{-5, 0} {
		full(t, heap.New(limit))
	}
	h := heap.New(1)
	a := box(t, h)
	full(t, h)
	if w, e := h.Aim(a); w != 0 || e != api.ErrFull {
		t.Errorf("Aim in a full one: %d %v", w, e)
	}
	lacks(t, h, -1, api.ErrRange)
	if n := h.Collect(); n != 1 {
		t.Errorf("Collect: %d", n)
	}
	box(t, h)
	full(t, h)
}

func TestMostCells(t *testing.T) { // P6.1
	h := heap.New(math.MaxInt)
	last := 0
	for range heap.MaxCells {
		last = cell(t, h, heap.Cell{Kind: heap.Box, Vals: refs(last)})
	}
	full(t, h)
	if n := h.Collect(last); n != 0 || h.Check(last) != api.OK { // a row of as many cells, each of which keeps the one ahead
		t.Errorf("Collect: %d", n)
	}
	if n := h.Collect(); n != heap.MaxCells || h.Live() != 0 {
		t.Errorf("Collect: %d", n)
	}
}

func TestNoKind(t *testing.T) { // P6.1
	h := heap.New(4)
	for _, kind := range append(wild(), 0, heap.Kinds, heap.Kinds+1) {
		if at, e := h.Alloc(heap.Cell{Kind: kind}); at != 0 || e != api.ErrType || h.Live() != 0 {
			t.Errorf("Alloc of kind %d: %d %v", kind, at, e)
		}
	}
}

func TestGet(t *testing.T) { // P6.1
	h := heap.New(4)
	a, b := box(t, h), box(t, h)
	for _, at := range wild() {
		lacks(t, h, at, api.ErrRange)
	}
	h.Collect(b)
	lacks(t, h, a, api.ErrFreed)
	lacks(t, h, -1, api.ErrRange)
	lacks(t, h, 50, api.ErrRange)
	c := get(t, h, b) // it may be changed
	c.Vals, c.Nums, c.Text, c.Kind = refs(b, b), []int64{7}, "seven", heap.Func
	d := get(t, h, b)
	if d.Kind != heap.Func || !slices.Equal(d.Vals, refs(b, b)) || !slices.Equal(d.Nums, []int64{7}) || d.Text != "seven" || h.Type(value.Ref(b)) != "function" {
		t.Errorf("a changed cell: %v", d)
	}
}

func TestOf(t *testing.T) { // P6.1
	h := heap.New(12)
	for kind := heap.Array; kind < heap.Kinds; kind++ {
		at := cell(t, h, heap.Cell{Kind: kind})
		for asked := -2; asked < heap.Kinds+3; asked++ {
			c, e := h.Of(value.Ref(at), asked)
			if asked == 0 || asked == kind {
				if c != get(t, h, at) || e != api.OK {
					t.Errorf("Of(%d, %d): %v %v", kind, asked, c, e)
				}
				continue
			}
			if c != nil || e != api.ErrType {
				t.Errorf("Of(%d, %d): %v %v", kind, asked, c, e)
			}
		}
	}
	for _, v := range noRefs() {
		for _, kind := range []int{0, heap.Array, 99} {
			if c, e := h.Of(v, kind); c != nil || e != api.ErrType {
				t.Errorf("Of(%v, %d): %v %v", v, kind, c, e)
			}
		}
	}
	gone := box(t, h)
	h.Collect()
	for _, kind := range []int{heap.Box, heap.Array, 99} { // that it isn't there is told ahead of its kind
		if c, e := h.Of(value.Ref(gone), kind); c != nil || e != api.ErrFreed {
			t.Errorf("Of what was freed: %v %v", c, e)
		}
		if c, e := h.Of(value.Ref(99), kind); c != nil || e != api.ErrRange {
			t.Errorf("Of what there never was: %v %v", c, e)
		}
		if c, e := h.Of(api.Value{Kind: api.Ref, Num: -1}, kind); c != nil || e != api.ErrRange {
			t.Errorf("Of -1: %v %v", c, e)
		}
	}
}

// noRefs: values that are no cells.
func noRefs() []api.Value {
	return []api.Value{value.Null(), value.Bool(false), value.Bool(true), value.Int(0), value.Int(1), value.Str("0"), {Kind: 9}, {Kind: -1}}
}

func TestType(t *testing.T) { // P6.1
	h := heap.New(2)
	box(t, h)
	for _, v := range noRefs() {
		if got := h.Type(v); got != value.Type(v) {
			t.Errorf("Type(%v): %q", v, got)
		}
	}
}

func TestNewArray(t *testing.T) { // P6.1
	h := heap.New(9)
	for n := range 4 {
		vals := append(noRefs(), refs(0)...)[:n*3]
		v, e := h.NewArray(vals...)
		if v.Kind != api.Ref || value.Check(v) != api.OK || e != api.OK {
			t.Fatalf("NewArray: %v %v", v, e)
		}
		c, e := h.Of(v, heap.Array)
		if e != api.OK || c.List == nil || !slices.Equal(c.List.All(), vals) || c.Table != nil || len(c.Vals) != 0 || len(c.Nums) != 0 || c.Text != "" {
			t.Errorf("NewArray of %d: %v %v", n*3, c, e)
		}
		clear(vals)
		vals = append(noRefs(), refs(0)...)[:n*3]
		if !slices.Equal(c.List.All(), vals) {
			t.Errorf("NewArray keeps what it is handed")
		}
	}
}

func TestNewTable(t *testing.T) { // P6.1
	h := heap.New(9)
	x := table.New()
	x.Put(value.Int(1), value.Ref(0))
	v, e := h.NewTable(x)
	c, f := h.Of(v, heap.Table)
	if e != api.OK || f != api.OK || c.Table != x || !slices.Equal(c.Vals, []api.Value{value.Null()}) || c.List != nil || len(c.Nums) != 0 || c.Text != "" {
		t.Errorf("NewTable: %v %v %v", c, e, f)
	}
	x.Put(value.Int(2), value.Int(3))
	if c.Table.Len() != 2 {
		t.Error("NewTable: the table isn't the one handed")
	}
	v, e = h.NewTable(nil)
	c, f = h.Of(v, heap.Table)
	if e != api.OK || f != api.OK || c.Table == nil || c.Table.Len() != 0 || !slices.Equal(c.Vals, []api.Value{value.Null()}) {
		t.Errorf("NewTable of none: %v %v %v", c, e, f)
	}
	w, _ := h.NewTable(nil)
	c.Table.Put(value.Int(1), value.Int(1))
	if d := get(t, h, int(w.Num)); d.Table.Len() != 0 {
		t.Error("two tables are one")
	}
}

func TestNewBox(t *testing.T) { // P6.1
	h := heap.New(20)
	for _, v := range append(noRefs(), refs(0, 5)...) {
		b, e := h.NewBox(v)
		c, f := h.Of(b, heap.Box)
		if e != api.OK || f != api.OK || !slices.Equal(c.Vals, []api.Value{v}) || c.List != nil || c.Table != nil || len(c.Nums) != 0 || c.Text != "" {
			t.Errorf("NewBox(%v): %v %v %v", v, c, e, f)
		}
	}
}

func TestStrong(t *testing.T) { // P6.2
	x := table.New()
	x.Put(value.Ref(5), value.Ref(6))
	x.Put(value.Int(1), value.Ref(7))
	for _, c := range []struct {
		cell heap.Cell
		want []int
	}{
		{heap.Cell{}, nil},
		{heap.Cell{Vals: noRefs(), Nums: []int64{3}}, nil},
		{heap.Cell{Vals: append(noRefs(), refs(2, 1, 2)...)}, []int{2, 1, 2}},
		{heap.Cell{List: list.New(refs(4, 3)...)}, []int{4, 3}},
		{heap.Cell{List: list.New(), Table: table.New()}, nil},
		{heap.Cell{Table: x}, []int{5, 7, 6}},
		{heap.Cell{Vals: refs(1), List: list.New(refs(4)...), Table: x}, []int{1, 4, 5, 6, 7}},
	} {
		for kind := -1; kind < heap.Kinds+2; kind++ {
			c.cell.Kind = kind
			got := c.cell.Strong()
			slices.Sort(got)
			slices.Sort(c.want)
			if !slices.Equal(got, c.want) {
				t.Errorf("Strong of kind %d: %v, not %v", kind, got, c.want)
			}
		}
	}
}

// reaches: are just these cells reached from some roots?
func reaches(t *testing.T, h *heap.Heap, roots []int, want ...int) {
	t.Helper()
	got := h.Reached(roots...)
	for at, yes := range got {
		if yes != slices.Contains(want, at) {
			t.Errorf("Reached%v: %d is %v", roots, at, yes)
		}
	}
	for _, at := range want {
		if at >= len(got) {
			t.Errorf("Reached%v: %d numbers, but for %d", roots, len(got), at)
		}
	}
}

func TestReached(t *testing.T) { // P6.2
	h := heap.New(20)
	reaches(t, h, nil)
	reaches(t, h, wild())
	a := box(t, h)
	b := box(t, h, a, a, b0)
	c := cell(t, h, heap.Cell{Kind: heap.Array, List: list.New(value.Int(9), value.Ref(b))})
	x := table.New()
	k := cell(t, h, heap.Cell{Kind: heap.Instance})
	x.Put(value.Ref(k), value.Ref(c))
	d := cell(t, h, heap.Cell{Kind: heap.Class, Table: x})
	w := aim(t, h, c)
	reaches(t, h, nil)
	reaches(t, h, []int{a}, a)
	reaches(t, h, []int{b}, a, b)
	reaches(t, h, []int{c}, a, b, c)
	reaches(t, h, []int{d}, a, b, c, d, k)
	reaches(t, h, []int{w}, w)
	reaches(t, h, []int{w, k, k, a, -1, 99}, w, k, a)
	get(t, h, a).Vals = refs(c) // a ring, and one that keeps itself
	get(t, h, k).Vals = refs(k)
	reaches(t, h, []int{a}, a, b, c)
	reaches(t, h, []int{b}, a, b, c)
	reaches(t, h, []int{k}, k)
	get(t, h, w).Vals = refs(k) // what a weak one has among its values, it keeps
	reaches(t, h, []int{w}, w, k)
	h.Collect(k)
	reaches(t, h, []int{a, b, c, d, w, k}, k)
}

// b0: a number that no cell of a small heap has.
const b0 = 999

// weak: of which cell does a weak one tell?
func weak(t *testing.T, h *heap.Heap, at, want int) {
	t.Helper()
	if got := get(t, h, at).Target(); got != want {
		t.Errorf("Target of %d: %d, not %d", at, got, want)
	}
}

func TestAim(t *testing.T) { // P6.3
	h := heap.New(20)
	a := box(t, h)
	w := aim(t, h, a)
	c := get(t, h, w)
	if c.Kind != heap.Weak || !slices.Equal(c.Nums[:1], []int64{int64(a)}) || len(c.Strong()) != 0 || w == a || h.Type(value.Ref(w)) != "weakref" {
		t.Errorf("Aim: %v", c)
	}
	v := aim(t, h, w) // one of a weak one, and a second one
	u := aim(t, h, a)
	weak(t, h, w, a)
	weak(t, h, v, w)
	weak(t, h, u, a)
	if n := h.Collect(v, u, a); n != 1 {
		t.Errorf("Collect: %d", n)
	}
	weak(t, h, v, -1)
	weak(t, h, u, a)
	if n := h.Collect(v, u); n != 1 {
		t.Errorf("Collect: %d", n)
	}
	weak(t, h, u, -1)
	for range 4 { // whatever takes the freed numbers, they tell of none
		box(t, h)
		weak(t, h, u, -1)
		weak(t, h, v, -1)
	}
	if n := h.Collect(u, v); n != 4 {
		t.Errorf("Collect: %d", n)
	}
	weak(t, h, u, -1)
}

func TestTarget(t *testing.T) { // P6.3
	for kind := -1; kind < heap.Kinds+2; kind++ {
		for _, nums := range [][]int64{nil, {}, {3}, {0, 4}, {-1}, {math.MinInt64}} {
			want := -1
			if kind == heap.Weak && len(nums) > 0 && nums[0] >= 0 {
				want = int(nums[0])
			}
			c := heap.Cell{Kind: kind, Nums: nums}
			if got := c.Target(); got != want {
				t.Errorf("Target of kind %d, %v: %d", kind, nums, got)
			}
		}
	}
}

func TestCollect(t *testing.T) { // P6.3, P6.4
	h := heap.New(10)
	a := box(t, h)
	b := cell(t, h, heap.Cell{Kind: heap.Array, List: list.New(refs(a)...)})
	c := box(t, h, b)
	w := aim(t, h, a)
	counts(t, h, 4, 0, 0)
	for i, n := range []int{h.Collect(c, w), h.Collect(c, w, w, -1, 99), h.Collect(b, w), h.Collect(b), h.Collect(b), h.Collect(a), h.Collect(), h.Collect()} {
		if want := []int{0, 0, 1, 1, 0, 1, 1, 0}[i]; n != want {
			t.Errorf("Collect %d: %d, not %d", i, n, want)
		}
	}
	counts(t, h, 0, 8, 4)
	for _, at := range []int{a, b, c, w} {
		lacks(t, h, at, api.ErrFreed)
	}
}

// counts: are a heap's counts these?
func counts(t *testing.T, h *heap.Heap, live, runs, freed int) {
	t.Helper()
	if h.Live() != live || h.Runs() != runs || h.Freed() != freed {
		t.Errorf("%d live, %d runs, %d freed; not %d, %d, %d", h.Live(), h.Runs(), h.Freed(), live, runs, freed)
	}
}

// TestCollectRing: cells that keep each other go, if nothing else keeps them.
func TestCollectRing(t *testing.T) { // P6.3
	h := heap.New(10)
	a := box(t, h)
	b := box(t, h, a)
	get(t, h, a).Vals = refs(b, a)
	w := aim(t, h, a)
	if n := h.Collect(b, w); n != 0 {
		t.Errorf("a ring that is kept: %d", n)
	}
	weak(t, h, w, a)
	if n := h.Collect(w); n != 2 {
		t.Errorf("a ring: %d", n)
	}
	weak(t, h, w, -1)
	counts(t, h, 1, 2, 2)
}

// TestCollectWeakOfNone: a weak one that never told of a cell that is there tells of none from the next time on; one without numbers stays so.
func TestCollectWeakOfNone(t *testing.T) { // P6.3, P1
	h := heap.New(10)
	far := cell(t, h, heap.Cell{Kind: heap.Weak, Nums: []int64{1 << 40}})
	none := cell(t, h, heap.Cell{Kind: heap.Weak})
	other := cell(t, h, heap.Cell{Kind: heap.Box, Nums: []int64{77}})
	h.Collect(far, none, other)
	weak(t, h, far, -1)
	weak(t, h, none, -1)
	if c := get(t, h, other); !slices.Equal(c.Nums, []int64{77}) {
		t.Errorf("a cell that is no weak one: %v", c)
	}
}

// TestNumbers: no two cells that are there have one number, and each has its own things, however many came and went.
func TestNumbers(t *testing.T) { // P6.1, P6.3
	h := heap.New(40)
	kept := map[int]string{}
	texts := 0
	for round := range 60 {
		for h.Live() < 40-round%7 {
			texts++
			text := string(rune('a' + texts%26))
			at := cell(t, h, heap.Cell{Kind: heap.Box, Text: text})
			if _, there := kept[at]; there {
				t.Fatalf("the number %d twice", at)
			}
			kept[at] = text
		}
		var roots []int
		for at, text := range kept {
			if c := get(t, h, at); c.Text != text {
				t.Fatalf("the cell %d is %q, not %q", at, c.Text, text)
			}
			if (at+round)%3 > 0 {
				roots = append(roots, at)
			}
		}
		if n := h.Collect(roots...); n != len(kept)-len(roots) || h.Live() != len(roots) {
			t.Fatalf("Collect: %d of %d, %d kept", n, len(kept), len(roots))
		}
		for at := range kept {
			if !slices.Contains(roots, at) {
				lacks(t, h, at, api.ErrFreed)
				delete(kept, at)
			}
		}
	}
}

func TestCheck(t *testing.T) { // P6.3
	h := heap.New(10)
	gone, a := box(t, h), box(t, h)
	h.Collect(a)
	for _, c := range []struct {
		roots []int
		want  api.Errno
	}{
		{nil, api.OK},
		{[]int{a}, api.OK},
		{[]int{a, a}, api.OK},
		{[]int{gone}, api.ErrFreed},
		{[]int{99}, api.ErrRange},
		{[]int{a, 99, gone}, api.ErrRange},
		{[]int{gone, 99, a}, api.ErrFreed},
		{[]int{a, -1}, api.ErrRange},
	} {
		if e := h.Check(c.roots...); e != c.want {
			t.Errorf("Check%v: %v, not %v", c.roots, e, c.want)
		}
	}
	for name, put := range map[string]func(c *heap.Cell, at int){
		"a value":       func(c *heap.Cell, at int) { c.Vals = refs(a, at) },
		"in a list":     func(c *heap.Cell, at int) { c.List = list.New(refs(at)...) },
		"a key":         func(c *heap.Cell, at int) { c.Table = table.New(); c.Table.Put(value.Ref(at), value.Null()) },
		"a key's value": func(c *heap.Cell, at int) { c.Table = table.New(); c.Table.Put(value.Int(1), value.Ref(at)) },
	} {
		for at, want := range map[int]api.Errno{gone: api.ErrFreed, 99: api.ErrRange, a: api.OK} {
			checkKept(t, name, put, at, want)
		}
	}
}

// checkKept: what Check answers of a cell that keeps one that keeps a number's; the numbers 0 (freed) and 1 (there) are as in TestCheck.
func checkKept(t *testing.T, name string, put func(c *heap.Cell, at int), at int, want api.Errno) {
	t.Helper()
	h := heap.New(10)
	gone, a, b := box(t, h), box(t, h), box(t, h)
	c := box(t, h, b)
	h.Collect(a, c)
	if _, e := h.Get(gone); e != api.ErrFreed {
		t.Fatal(e)
	}
	put(get(t, h, b), at)
	if e := h.Check(c); e != want {
		t.Errorf("Check of what keeps, as %s, %d: %v, not %v", name, at, e, want)
	}
	if e := h.Check(a); e != api.OK {
		t.Errorf("Check of what doesn't keep it: %v", e)
	}
	if e := h.Check(c, -1); e != api.ErrRange { // the roots' errors are told first
		t.Errorf("Check: %v", e)
	}
}

// TestCheckWeak: what a weak one tells of isn't looked at.
func TestCheckWeak(t *testing.T) { // P6.3
	h := heap.New(10)
	w := cell(t, h, heap.Cell{Kind: heap.Weak, Nums: []int64{99}})
	if e := h.Check(w); e != api.OK {
		t.Errorf("Check: %v", e)
	}
	counts(t, h, 1, 0, 0)
}

// TestOwnMemory: a cell's values and numbers are its own; what is answered is, too.
func TestOwnMemory(t *testing.T) { // P6.1, P2
	h := heap.New(10)
	vals, nums := refs(1, 2, 3), []int64{4, 5, 6}
	a := cell(t, h, heap.Cell{Kind: heap.Box, Vals: vals[:2], Nums: nums[:2]})
	b := cell(t, h, heap.Cell{Kind: heap.Box, Vals: vals[:2], Nums: nums[:2]})
	c := get(t, h, a)
	c.Vals, c.Nums = append(c.Vals, value.Null()), append(c.Nums, 9)
	c.Vals[0], c.Nums[0] = value.Null(), 9
	if !slices.Equal(vals, refs(1, 2, 3)) || !slices.Equal(nums, []int64{4, 5, 6}) {
		t.Errorf("what was handed in changed: %v %v", vals, nums)
	}
	clear(vals)
	clear(nums)
	d := get(t, h, b)
	if !slices.Equal(d.Vals, refs(1, 2)) || !slices.Equal(d.Nums, []int64{4, 5}) {
		t.Errorf("a cell's own changed: %v %v", d.Vals, d.Nums)
	}
	strong := d.Strong()
	clear(strong[:cap(strong)])
	reached := h.Reached(a)
	clear(reached[:cap(reached)])
	if !slices.Equal(d.Strong(), []int{1, 2}) || !h.Reached(a)[a] {
		t.Error("answers are shared")
	}
}

// TestRootsStay: the list of roots isn't changed.
func TestRootsStay(t *testing.T) { // P2
	h := heap.New(10)
	a := box(t, h)
	roots := []int{5, a, -1, a, 99, 98}
	h.Reached(roots[:3]...)
	h.Check(roots[:3]...)
	h.Collect(roots[:3]...)
	if !slices.Equal(roots, []int{5, a, -1, a, 99, 98}) {
		t.Errorf("roots: %v", roots)
	}
}

// TestAnything: no call panics, whatever a cell was made to hold.
func TestAnything(t *testing.T) { // P1
	h := heap.New(30)
	a := box(t, h)
	c := get(t, h, a)
	c.Vals = append(noRefs(), refs(wild()...)...)
	c.List = list.New(c.Vals...)
	c.Table = table.New()
	for _, v := range c.Vals {
		c.Table.Put(v, v)
	}
	for _, at := range append(wild(), a) {
		c.Nums = []int64{int64(at)}
		for _, kind := range append(wild(), heap.Weak) {
			c.Kind = kind
			c.Strong()
			c.Target()
			h.Type(value.Ref(a))
			h.Of(value.Ref(at), kind)
			h.Check(a, at)
			h.Reached(a, at)
			if n := h.Collect(a, at); n != 0 {
				t.Errorf("Collect: %d", n)
			}
		}
	}
}
