package value_test

import (
	"math"
	"slices"
	"strconv"
	"strings"
	"testing"

	"drey/api"
	"drey/str"
	"drey/value"
)

const (
	least = math.MinInt64
	most  = math.MaxInt64
)

// numbers: some about 0, about the powers of 2, and others.
func numbers() []int64 {
	list := []int64{0, 7, -7, 10, 100, -255, 12345678901234567}
	for _, k := range []int{0, 1, 2, 8, 16, 31, 32, 53, 62, 63} {
		p := int64(1) << k
		list = append(list, p-1, p, p+1, -p-1, -p)
	}
	slices.Sort(list)
	return slices.Compact(list)
}

// texts: some of many sorts.
func texts() []string {
	return []string{"", "a", "ab", "abc", "b", "B", "\x00", "\xff", "é", "a\nb", "\"'\\", "0", "1", "-1", "12", "null", "true", "false", " ", strings.Repeat("long ", 300)}
}

// values: all that may be of some kinds, none of them twice.
func values() []api.Value {
	list := []api.Value{value.Null(), value.Bool(false), value.Bool(true)}
	for _, n := range numbers() {
		list = append(list, value.Int(n))
	}
	for _, s := range texts() {
		list = append(list, value.Str(s))
	}
	for _, at := range []int{0, 1, 2, 7, 1 << 20, math.MaxInt32} {
		list = append(list, value.Ref(at))
	}
	return list
}

// wild: values that may not be.
func wild() []api.Value {
	return []api.Value{
		{Kind: 5}, {Kind: -1}, {Kind: 9, Num: 3, Text: "x"}, {Kind: least, Num: least}, {Kind: most, Num: most},
		{Kind: api.Null, Num: 1}, {Kind: api.Null, Text: "a"}, {Kind: api.Bool, Num: 2}, {Kind: api.Bool, Num: -1}, {Kind: api.Bool, Text: "t"},
		{Kind: api.Int, Text: "1"}, {Kind: api.Str, Num: 1, Text: "s"}, {Kind: api.Str, Num: least}, {Kind: api.Ref, Num: -1}, {Kind: api.Ref, Num: least}, {Kind: api.Ref, Num: 1, Text: "r"},
	}
}

func TestMaking(t *testing.T) { // P3.1
	for _, n := range numbers() {
		if got := value.Int(n); got != (api.Value{Kind: api.Int, Num: n}) {
			t.Errorf("Int(%d): %v", n, got)
		}
		if got := value.Ref(int(n)); got != (api.Value{Kind: api.Ref, Num: n}) {
			t.Errorf("Ref(%d): %v", n, got)
		}
	}
	for _, s := range texts() {
		if got := value.Str(s); got != (api.Value{Kind: api.Str, Text: s}) {
			t.Errorf("Str(%q): %v", s, got)
		}
	}
	if value.Null() != (api.Value{Kind: api.Null}) || value.Bool(false) != (api.Value{Kind: api.Bool}) || value.Bool(true) != (api.Value{Kind: api.Bool, Num: 1}) {
		t.Error("Null, Bool")
	}
}

func TestCheck(t *testing.T) { // P3.1
	for _, v := range values() {
		if e := value.Check(v); e != api.OK {
			t.Errorf("Check(%v): %v", v, e)
		}
	}
	for _, c := range []struct {
		v    api.Value
		want api.Errno
	}{
		{api.Value{Kind: 5}, api.ErrType},
		{api.Value{Kind: 9}, api.ErrType},
		{api.Value{Kind: -1}, api.ErrType},
		{api.Value{Kind: least}, api.ErrType},
		{api.Value{Kind: most}, api.ErrType},
		{api.Value{Kind: 5, Num: -1, Text: "a"}, api.ErrType},
		{api.Value{Kind: -1, Num: 1, Text: "a"}, api.ErrType},
		{api.Value{Kind: api.Null, Num: 1}, api.ErrForm},
		{api.Value{Kind: api.Null, Num: least}, api.ErrForm},
		{api.Value{Kind: api.Null, Text: "a"}, api.ErrForm},
		{api.Value{Kind: api.Bool, Num: 2}, api.ErrForm},
		{api.Value{Kind: api.Bool, Num: -1}, api.ErrForm},
		{api.Value{Kind: api.Bool, Num: most}, api.ErrForm},
		{api.Value{Kind: api.Bool, Text: "true"}, api.ErrForm},
		{api.Value{Kind: api.Bool, Num: 1, Text: "\x00"}, api.ErrForm},
		{api.Value{Kind: api.Int, Text: "a"}, api.ErrForm},
		{api.Value{Kind: api.Int, Num: 1, Text: "1"}, api.ErrForm},
		{api.Value{Kind: api.Str, Num: 1}, api.ErrForm},
		{api.Value{Kind: api.Str, Num: -1, Text: "a"}, api.ErrForm},
		{api.Value{Kind: api.Ref, Num: -1}, api.ErrForm},
		{api.Value{Kind: api.Ref, Num: least}, api.ErrForm},
		{api.Value{Kind: api.Ref, Text: "a"}, api.ErrForm},
		{api.Value{Kind: api.Ref, Num: 3, Text: "a"}, api.ErrForm},
		{api.Value{Kind: api.Ref, Num: most}, api.OK},
		{api.Value{Kind: api.Int, Num: least}, api.OK},
		{api.Value{Kind: api.Int, Num: most}, api.OK},
	} {
		if got := value.Check(c.v); got != c.want {
			t.Errorf("Check(%v): %v, not %v", c.v, got, c.want)
		}
	}
}

func TestCells(t *testing.T) { // P3.1
	for _, c := range []struct {
		list []api.Value
		want []int
	}{
		{nil, nil},
		{[]api.Value{value.Int(1), value.Str("2"), value.Null(), value.Bool(true)}, nil},
		{[]api.Value{value.Ref(0)}, []int{0}},
		{[]api.Value{value.Ref(5), value.Int(4), value.Ref(3), value.Ref(5), value.Str("r"), value.Ref(0)}, []int{5, 3, 5, 0}},
		{[]api.Value{value.Null(), value.Ref(math.MaxInt32)}, []int{math.MaxInt32}},
	} {
		if got := value.Cells(c.list...); !slices.Equal(got, c.want) {
			t.Errorf("Cells(%v): %v, not %v", c.list, got, c.want)
		}
	}
}

func TestTrue(t *testing.T) { // P3.2
	for _, v := range values() {
		want := v != value.Null() && v != value.Bool(false) && v != value.Int(0)
		if value.True(v) != want {
			t.Errorf("True(%v): %v", v, !want)
		}
	}
	for _, v := range []api.Value{value.Str(""), value.Str("0"), value.Str("false"), value.Ref(0), value.Int(-1), value.Int(least), value.Int(1 << 32)} {
		if !value.True(v) {
			t.Errorf("True(%v): false", v)
		}
	}
}

func TestSame(t *testing.T) { // P3.2
	for i, a := range values() {
		for j, b := range values() {
			b.Text = strings.Clone(b.Text)
			if value.Same(a, b) != (i == j) {
				t.Errorf("Same(%v, %v): %v", a, b, i != j)
			}
		}
	}
}

func TestHash(t *testing.T) { // P3.2
	var met [5]map[uint64]api.Value
	for kind := range met {
		met[kind] = map[uint64]api.Value{}
	}
	list := values()
	for n := range 20000 {
		list = append(list, value.Int(int64(n)), value.Int(int64(-n)), value.Int(int64(n)<<32), value.Int(int64(n)<<45), value.Ref(n))
	}
	for _, v := range list {
		h := value.Hash(v)
		w := v
		w.Text = string([]byte(v.Text))
		if h != value.Hash(w) {
			t.Errorf("Hash(%v) isn't the same twice", v)
		}
		if u, ok := met[v.Kind][h]; ok && u != v && v.Kind != api.Str {
			t.Errorf("%v and %v have one hash", u, v)
		}
		met[v.Kind][h] = v
	}
}

func TestType(t *testing.T) { // P3.2
	names := []string{"null", "bool", "integer", "string", "ref"}
	for _, v := range values() {
		if got := value.Type(v); got != names[v.Kind] {
			t.Errorf("Type(%v): %q", v, got)
		}
	}
	for _, kind := range []int{least, -1, 5, 6, 9, most} {
		if got := value.Type(api.Value{Kind: kind}); got != "" {
			t.Errorf("Type of the kind %d: %q", kind, got)
		}
	}
}

func TestText(t *testing.T) { // P3.3
	for _, c := range []struct {
		v            api.Value
		text, source string
		e            api.Errno
	}{
		{value.Null(), "null", "null", api.OK},
		{value.Bool(false), "false", "false", api.OK},
		{value.Bool(true), "true", "true", api.OK},
		{value.Str(""), "", `""`, api.OK},
		{value.Str("null"), "null", `"null"`, api.OK},
		{value.Str("a\n\"\\\x01é"), "a\n\"\\\x01é", `"a\n\"\\\x01\xc3\xa9"`, api.OK},
		{value.Str("it's"), "it's", `"it\'s"`, api.OK},
		{value.Ref(0), "", "", api.ErrType},
		{value.Ref(7), "", "", api.ErrType},
	} {
		if got, e := value.Text(c.v); got != c.text || e != c.e {
			t.Errorf("Text(%v): %q %v", c.v, got, e)
		}
		if got, e := value.Source(c.v); got != c.source || e != c.e {
			t.Errorf("Source(%v): %q %v", c.v, got, e)
		}
	}
	for _, n := range numbers() {
		want := strconv.FormatInt(n, 10)
		text, e := value.Text(value.Int(n))
		source, f := value.Source(value.Int(n))
		if text != want || source != want || e != api.OK || f != api.OK {
			t.Errorf("%d: %q %q %v %v", n, text, source, e, f)
		}
	}
	for _, s := range texts() {
		text, e := value.Text(value.Str(s))
		source, f := value.Source(value.Str(s))
		if text != s || source != str.Quote(s) || e != api.OK || f != api.OK {
			t.Errorf("%q: %q %q %v %v", s, text, source, e, f)
		}
	}
}

func TestNumber(t *testing.T) { // P3.3
	for _, n := range numbers() {
		if got, e := value.Number(value.Int(n)); got != n || e != api.OK {
			t.Errorf("Number of %d: %d %v", n, got, e)
		}
		if got, e := value.Number(value.Str(strconv.FormatInt(n, 10))); got != n || e != api.OK {
			t.Errorf("Number of the text of %d: %d %v", n, got, e)
		}
	}
	for _, c := range []struct {
		v    api.Value
		want int64
		e    api.Errno
	}{
		{value.Bool(false), 0, api.OK},
		{value.Bool(true), 1, api.OK},
		{value.Null(), 0, api.ErrType},
		{value.Ref(0), 0, api.ErrType},
		{value.Ref(3), 0, api.ErrType},
		{value.Str("+5"), 5, api.OK},
		{value.Str("-007"), -7, api.OK},
		{value.Str("-0"), 0, api.OK},
		{value.Str("9223372036854775808"), least, api.OK},
		{value.Str("18446744073709551617"), 1, api.OK},
		{value.Str(""), 0, api.ErrForm},
		{value.Str("-"), 0, api.ErrForm},
		{value.Str("+"), 0, api.ErrForm},
		{value.Str("a"), 0, api.ErrForm},
		{value.Str("12x"), 0, api.ErrForm},
		{value.Str("x12"), 0, api.ErrForm},
		{value.Str(" 12"), 0, api.ErrForm},
		{value.Str("12 "), 0, api.ErrForm},
		{value.Str("12\x00"), 0, api.ErrForm},
		{value.Str("0x10"), 0, api.ErrForm},
		{value.Str("--1"), 0, api.ErrForm},
		{value.Str("1-"), 0, api.ErrForm},
		{value.Str("true"), 0, api.ErrForm},
		{value.Str("null"), 0, api.ErrForm},
	} {
		if got, e := value.Number(c.v); got != c.want || e != c.e {
			t.Errorf("Number(%v): %d %v, not %d %v", c.v, got, e, c.want, c.e)
		}
	}
}

// stand: how two values that may be stand to each other, told the long way.
func stand(a, b api.Value) (int64, api.Errno) {
	less := a.Num < b.Num
	switch {
	case a == b:
		return 0, api.OK
	case a == value.Null():
		return -1, api.OK
	case b == value.Null():
		return 1, api.OK
	case a.Kind != b.Kind || a.Kind == api.Ref:
		return 0, api.ErrType
	case a.Kind == api.Str:
		less = a.Text < b.Text
	}
	if less {
		return -1, api.OK
	}
	return 1, api.OK
}

func TestCompareAll(t *testing.T) { // P3.4
	for _, a := range values() {
		for _, b := range values() {
			want, f := stand(a, b)
			if got, e := value.Compare(a, b); got != want || e != f {
				t.Errorf("Compare(%v, %v): %d %v, not %d %v", a, b, got, e, want, f)
			}
		}
	}
}

func TestCompare(t *testing.T) { // P3.4
	for _, c := range []struct {
		a, b api.Value
		want int64
		e    api.Errno
	}{
		{value.Null(), value.Null(), 0, api.OK},
		{value.Null(), value.Int(0), -1, api.OK},
		{value.Null(), value.Int(least), -1, api.OK},
		{value.Null(), value.Bool(false), -1, api.OK},
		{value.Null(), value.Str(""), -1, api.OK},
		{value.Null(), value.Ref(0), -1, api.OK},
		{value.Int(0), value.Null(), 1, api.OK},
		{value.Ref(0), value.Null(), 1, api.OK},
		{value.Int(least), value.Int(most), -1, api.OK},
		{value.Int(10), value.Int(9), 1, api.OK},
		{value.Bool(false), value.Bool(true), -1, api.OK},
		{value.Bool(true), value.Bool(false), 1, api.OK},
		{value.Str("10"), value.Str("9"), -1, api.OK},
		{value.Str("ab"), value.Str("a"), 1, api.OK},
		{value.Ref(4), value.Ref(4), 0, api.OK},
		{value.Ref(4), value.Ref(5), 0, api.ErrType},
		{value.Int(1), value.Str("1"), 0, api.ErrType},
		{value.Str("1"), value.Int(1), 0, api.ErrType},
		{value.Int(1), value.Bool(true), 0, api.ErrType},
		{value.Bool(false), value.Int(0), 0, api.ErrType},
		{value.Int(1), value.Ref(1), 0, api.ErrType},
		{value.Str(""), value.Ref(0), 0, api.ErrType},
	} {
		if got, e := value.Compare(c.a, c.b); got != c.want || e != c.e {
			t.Errorf("Compare(%v, %v): %d %v, not %d %v", c.a, c.b, got, e, c.want, c.e)
		}
	}
}

func TestAdd(t *testing.T) { // P3.5
	for _, c := range []struct {
		a, b, want api.Value
		e          api.Errno
	}{
		{value.Int(2), value.Int(3), value.Int(5), api.OK},
		{value.Int(most), value.Int(1), value.Int(least), api.OK},
		{value.Int(least), value.Int(-1), value.Int(most), api.OK},
		{value.Int(1), value.Int(-1), value.Int(0), api.OK},
		{value.Str("a"), value.Int(1), value.Str("a1"), api.OK},
		{value.Int(1), value.Str("a"), value.Str("1a"), api.OK},
		{value.Str("1"), value.Str("2"), value.Str("12"), api.OK},
		{value.Str("1"), value.Int(2), value.Str("12"), api.OK},
		{value.Str(""), value.Str(""), value.Str(""), api.OK},
		{value.Str("a\xff"), value.Str("\x00b"), value.Str("a\xff\x00b"), api.OK},
		{value.Str("a"), value.Null(), value.Str("anull"), api.OK},
		{value.Null(), value.Str("a"), value.Str("nulla"), api.OK},
		{value.Bool(true), value.Str(""), value.Str("true"), api.OK},
		{value.Str("x"), value.Bool(false), value.Str("xfalse"), api.OK},
		{value.Str("x"), value.Int(least), value.Str("x-9223372036854775808"), api.OK},
		{value.Str("a"), value.Ref(1), value.Null(), api.ErrType},
		{value.Ref(0), value.Str("a"), value.Null(), api.ErrType},
		{value.Ref(0), value.Ref(0), value.Null(), api.ErrType},
		{value.Int(1), value.Ref(0), value.Null(), api.ErrType},
		{value.Ref(0), value.Int(1), value.Null(), api.ErrType},
		{value.Bool(true), value.Int(1), value.Null(), api.ErrType},
		{value.Int(1), value.Bool(true), value.Null(), api.ErrType},
		{value.Bool(true), value.Bool(true), value.Null(), api.ErrType},
		{value.Null(), value.Null(), value.Null(), api.ErrType},
		{value.Int(1), value.Null(), value.Null(), api.ErrType},
		{value.Null(), value.Int(1), value.Null(), api.ErrType},
	} {
		if got, e := value.Add(c.a, c.b); got != c.want || e != c.e {
			t.Errorf("Add(%v, %v): %v %v, not %v %v", c.a, c.b, got, e, c.want, c.e)
		}
	}
}

func TestAddTooLong(t *testing.T) { // P3.5
	full := strings.Repeat("f", str.MaxLen)
	for _, c := range []struct{ a, b api.Value }{
		{value.Str(full), value.Str("")},
		{value.Str(""), value.Str(full)},
		{value.Str(full[4:]), value.Null()},
		{value.Bool(true), value.Str(full[4:])},
		{value.Str(full[2:]), value.Int(-1)},
	} {
		got, e := value.Add(c.a, c.b)
		a, _ := value.Text(c.a)
		b, _ := value.Text(c.b)
		if got != value.Str(a+b) || e != api.OK {
			t.Errorf("%d and %d bytes: %d, %v", len(a), len(b), len(got.Text), e)
		}
	}
	for _, c := range []struct {
		a, b api.Value
		want api.Errno
	}{
		{value.Str(full), value.Str("f"), api.ErrLong},
		{value.Str("f"), value.Str(full), api.ErrLong},
		{value.Str(full + "f"), value.Str(""), api.ErrLong},
		{value.Str(""), value.Str(full + "f"), api.ErrLong},
		{value.Str(full[3:]), value.Null(), api.ErrLong},
		{value.Int(0), value.Str(full), api.ErrLong},
		{value.Str(full + "f"), value.Ref(0), api.ErrType},
		{value.Ref(0), value.Str(full + "f"), api.ErrType},
	} {
		if got, e := value.Add(c.a, c.b); got != value.Null() || e != c.want {
			t.Errorf("%d and %d bytes: %d, %v, not %v", len(c.a.Text), len(c.b.Text), len(got.Text), e, c.want)
		}
	}
}

func TestOperators(t *testing.T) { // P3.5
	list := []int{value.Minus, value.Times, value.Over, value.Rest, value.And, value.Or, value.Xor, value.Left, value.Right, value.Logical, value.Operators}
	for i, op := range list {
		if op != i {
			t.Errorf("the operator %d has the number %d", i, op)
		}
	}
}

func TestReckon(t *testing.T) { // P3.5
	for _, a := range numbers() {
		for _, b := range numbers() {
			want := map[int]int64{
				value.Minus: a - b, value.Times: a * b, value.And: a & b, value.Or: a | b, value.Xor: a ^ b,
				value.Left: a << (b & 63), value.Right: a >> (b & 63), value.Logical: int64(uint64(a) >> (b & 63)),
			}
			if b != 0 {
				want[value.Over], want[value.Rest] = a/b, a%b
			}
			for op := range value.Operators {
				n, ok := want[op]
				v, f := value.Int(n), api.OK
				if !ok {
					v, f = value.Null(), api.ErrZero
				}
				if got, e := value.Reckon(op, value.Int(a), value.Int(b)); got != v || e != f {
					t.Errorf("Reckon(%d, %d, %d): %v %v, not %v %v", op, a, b, got, e, v, f)
				}
			}
		}
	}
}

func TestReckonWrong(t *testing.T) { // P3.5
	for _, op := range []int{least, -1, value.Operators, value.Operators + 1, most} {
		for _, v := range []api.Value{value.Int(1), value.Str("1"), value.Ref(0), value.Null()} {
			if got, e := value.Reckon(op, value.Int(1), v); got != value.Null() || e != api.ErrRange {
				t.Errorf("Reckon(%d, 1, %v): %v %v", op, v, got, e)
			}
		}
	}
	for op := range value.Operators {
		for _, v := range values() {
			if v.Kind == api.Int {
				continue
			}
			for _, c := range [][2]api.Value{{v, value.Int(1)}, {value.Int(1), v}, {v, value.Int(0)}, {v, v}} {
				if got, e := value.Reckon(op, c[0], c[1]); got != value.Null() || e != api.ErrType {
					t.Errorf("Reckon(%d, %v, %v): %v %v", op, c[0], c[1], got, e)
				}
			}
		}
	}
}

// TestAnything: no call panics, whatever it is handed, and each answers the same twice.
func TestAnything(t *testing.T) { // P1, P2
	all := append(values(), wild()...)
	for _, a := range all {
		if value.Check(a) != value.Check(a) || value.True(a) != value.True(a) || value.Hash(a) != value.Hash(a) || value.Type(a) != value.Type(a) {
			t.Errorf("%v isn't told the same twice", a)
		}
		for i, call := range []func(api.Value) (string, api.Errno){value.Text, value.Source} {
			x, e := call(a)
			if y, f := call(a); x != y || e != f {
				t.Errorf("call %d of %v: %q %v, %q %v", i, a, x, e, y, f)
			}
		}
		n, e := value.Number(a)
		if m, f := value.Number(a); n != m || e != f {
			t.Errorf("Number(%v): %d %v, %d %v", a, n, e, m, f)
		}
		for _, b := range all {
			c, e := value.Compare(a, b)
			if d, f := value.Compare(a, b); c != d || e != f || value.Same(a, b) != value.Same(a, b) {
				t.Errorf("Compare(%v, %v): %d %v, %d %v", a, b, c, e, d, f)
			}
			x, e := value.Add(a, b)
			if y, f := value.Add(a, b); x != y || e != f {
				t.Errorf("Add(%v, %v): %v %v, %v %v", a, b, x, e, y, f)
			}
			for _, op := range []int{least, -1, value.Minus, value.Over, value.Rest, value.Logical, value.Operators, most} {
				x, e := value.Reckon(op, a, b)
				if y, f := value.Reckon(op, a, b); x != y || e != f {
					t.Errorf("Reckon(%d, %v, %v): %v %v, %v %v", op, a, b, x, e, y, f)
				}
			}
		}
	}
}

// TestOwnMemory: a list that is handed in stays as it is, with its spare room, and what is answered is of its own.
func TestOwnMemory(t *testing.T) { // P2
	back := append(values(), wild()...)
	before := slices.Clone(back)
	one, two := value.Cells(back[:len(back)-3]...), value.Cells(back[:len(back)-3]...)
	for i := range one {
		one[i] = -5
	}
	_ = append(one[:1], -6, -7, -8)
	if slices.Contains(two, -5) || slices.Contains(two, -6) {
		t.Error("Cells' answers share memory")
	}
	if !slices.Equal(back, before) {
		t.Error("Cells changed its list")
	}
}
