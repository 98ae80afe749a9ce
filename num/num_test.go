package num_test

import (
	"math"
	"math/big"
	"strconv"
	"strings"
	"testing"

	"drey/api"
	"drey/num"
)

const (
	least = math.MinInt64
	most  = math.MaxInt64
)

// edges: numbers about 0 and all powers of 2, and some others.
func edges() []int64 {
	list := []int64{-7, -5, 5, 6, 7, 9, 10, 99, 100, -100, 12345678901234567, -987654321}
	for k := range 64 {
		p := int64(1) << k
		list = append(list, p-1, p, p+1, -p-1, -p, -p+1)
	}
	return list
}

// round: the last 64 bits of a number, the highest one of which is the sign.
func round(n *big.Int) int64 {
	mask := new(big.Int).SetUint64(math.MaxUint64)
	return int64(new(big.Int).And(n, mask).Uint64())
}

func TestReckoning(t *testing.T) { // P1.1
	for _, a := range edges() {
		if got, want := num.Neg(a), round(new(big.Int).Neg(big.NewInt(a))); got != want {
			t.Fatalf("Neg(%d): %d, not %d", a, got, want)
		}
		for _, b := range edges() {
			x, y := big.NewInt(a), big.NewInt(b)
			for _, c := range []struct {
				name      string
				got, want int64
			}{
				{"Add", num.Add(a, b), round(new(big.Int).Add(x, y))},
				{"Sub", num.Sub(a, b), round(new(big.Int).Sub(x, y))},
				{"Mul", num.Mul(a, b), round(new(big.Int).Mul(x, y))},
			} {
				if c.got != c.want {
					t.Fatalf("%s(%d, %d): %d, not %d", c.name, a, b, c.got, c.want)
				}
			}
		}
	}
}

func TestQuotients(t *testing.T) { // P1.1
	for _, a := range edges() {
		for _, b := range edges() {
			q, e := num.Div(a, b)
			r, f := num.Mod(a, b)
			if b == 0 {
				if q != 0 || r != 0 || e != api.ErrZero || f != api.ErrZero {
					t.Fatalf("%d by 0: %d %d %v %v", a, q, r, e, f)
				}
				continue
			}
			wantQ, wantR := new(big.Int).QuoRem(big.NewInt(a), big.NewInt(b), new(big.Int))
			if q != round(wantQ) || r != wantR.Int64() || e != api.OK || f != api.OK {
				t.Fatalf("%d by %d: %d %d %v %v", a, b, q, r, e, f)
			}
		}
	}
	for _, c := range [][4]int64{{-7, 2, -3, -1}, {7, -2, -3, 1}, {-7, -2, 3, -1}, {7, 2, 3, 1}, {least, -1, least, 0}} {
		q, _ := num.Div(c[0], c[1])
		r, _ := num.Mod(c[0], c[1])
		if q != c[2] || r != c[3] {
			t.Errorf("%d by %d: %d and %d", c[0], c[1], q, r)
		}
	}
}

// bit: a number's bit at a place; above the highest one its sign.
func bit(a int64, at int64) int64 {
	if at < 0 {
		return 0
	}
	return a >> min(at, 63) & 1
}

// collect: the number whose bits are these.
func collect(at func(k int64) int64) int64 {
	n := int64(0)
	for k := range int64(64) {
		n |= at(k) << k
	}
	return n
}

func TestBits(t *testing.T) { // P1.2
	for _, a := range edges() {
		if got := num.Not(a); got != collect(func(k int64) int64 { return 1 - bit(a, k) }) {
			t.Fatalf("Not(%d): %d", a, got)
		}
		for _, b := range edges() {
			and := collect(func(k int64) int64 { return bit(a, k) * bit(b, k) })
			xor := collect(func(k int64) int64 { return (bit(a, k) + bit(b, k)) % 2 })
			if num.And(a, b) != and || num.Xor(a, b) != xor || num.Or(a, b) != and+xor {
				t.Fatalf("%d and %d: %d %d %d", a, b, num.And(a, b), num.Or(a, b), num.Xor(a, b))
			}
		}
	}
}

func TestShifts(t *testing.T) { // P1.2
	for _, a := range edges() {
		for _, n := range edges() {
			up := (n%64 + 64) % 64
			left := collect(func(k int64) int64 { return bit(a, k-up) })
			right := collect(func(k int64) int64 { return bit(a, k+up) })
			logical := collect(func(k int64) int64 {
				if k+up > 63 {
					return 0
				}
				return bit(a, k+up)
			})
			if num.Left(a, n) != left || num.Right(a, n) != right || num.Logical(a, n) != logical {
				t.Fatalf("%d by %d: %d %d %d, not %d %d %d", a, n, num.Left(a, n), num.Right(a, n), num.Logical(a, n), left, right, logical)
			}
		}
	}
	for _, c := range [][3]int64{{1, 63, least}, {1, 64, 1}, {1, 65, 2}, {1, -1, least}, {3, -63, 6}, {5, least, 5}, {5, most, least}} {
		if got := num.Left(c[0], c[1]); got != c[2] {
			t.Errorf("Left(%d, %d): %d", c[0], c[1], got)
		}
	}
	for _, c := range [][4]int64{{-8, 1, -4, most - 3}, {-1, 63, -1, 1}, {-1, 64, -1, -1}, {least, -1, -1, 1}, {8, 3, 1, 1}, {-1, 0, -1, -1}} {
		if r, l := num.Right(c[0], c[1]), num.Logical(c[0], c[1]); r != c[2] || l != c[3] {
			t.Errorf("%d by %d: %d %d", c[0], c[1], r, l)
		}
	}
}

func TestCompare(t *testing.T) { // P1.3
	for _, a := range edges() {
		for _, b := range edges() {
			if want := int64(big.NewInt(a).Cmp(big.NewInt(b))); num.Compare(a, b) != want {
				t.Fatalf("Compare(%d, %d): %d", a, b, num.Compare(a, b))
			}
		}
	}
}

func TestAbsAndSize(t *testing.T) { // P1.3
	for _, a := range edges() {
		abs := new(big.Int).Abs(big.NewInt(a))
		if num.Abs(a) != round(abs) {
			t.Fatalf("Abs(%d): %d", a, num.Abs(a))
		}
		if num.Size(a) != abs.BitLen() {
			t.Fatalf("Size(%d): %d", a, num.Size(a))
		}
	}
	for a, want := range map[int64]int{0: 0, 1: 1, -1: 1, 8: 4, -8: 4, 7: 3, most: 63, -most: 63, least: 64} {
		if num.Size(a) != want {
			t.Errorf("Size(%d): %d", a, num.Size(a))
		}
	}
	if num.Abs(least) != least || num.Abs(-3) != 3 || num.Abs(3) != 3 || num.Abs(0) != 0 {
		t.Error("Abs")
	}
}

func TestHash(t *testing.T) { // P1.3
	list := edges()
	for k := range int64(20000) {
		list = append(list, k, -k, k<<20, k<<32, k<<44, k<<49, k*k, least+k, most-k)
	}
	met := map[uint64]int64{}
	for _, a := range list {
		h := num.Hash(a)
		if h != num.Hash(a) {
			t.Fatalf("Hash(%d) isn't the same twice", a)
		}
		if b, ok := met[h]; ok && a != b {
			t.Fatalf("%d and %d have one hash", a, b)
		}
		met[h] = a
	}
}

// TestHashUndone: were two numbers to have one hash, no function could bring both back.
func TestHashUndone(t *testing.T) { // P1.3
	for _, a := range edges() {
		x := unshift(num.Hash(a), 31)
		x = unshift(x*inverse(0x94d049bb133111eb), 27)
		x = unshift(x*inverse(0xbf58476d1ce4e5b9), 30)
		if int64(x) != a {
			t.Fatalf("Hash(%d) comes back as %d", a, int64(x))
		}
	}
}

// unshift: the x of which y is x ^ x>>n.
func unshift(y uint64, n int) uint64 {
	x := y
	for range 64 / n {
		x = y ^ x>>n
	}
	return x
}

// inverse: by which an odd number times is 1, going round.
func inverse(odd uint64) uint64 {
	x := odd
	for range 6 { // each time twice as many of the last bits are right, from three on
		x *= 2 - odd*x
	}
	return x
}

func TestWriting(t *testing.T) { // P1.4
	for _, a := range edges() {
		if got := num.Text(a); got != strconv.FormatInt(a, 10) {
			t.Fatalf("Text(%d): %s", a, got)
		}
		for base := num.LeastBase; base <= num.MostBase; base++ {
			if got, e := num.In(a, base); got != strconv.FormatInt(a, base) || e != api.OK {
				t.Fatalf("In(%d, %d): %s %v", a, base, got, e)
			}
		}
	}
	for _, base := range []int{least, -1, 0, 1, 37, 64, most} {
		if got, e := num.In(5, base); got != "" || e != api.ErrRange {
			t.Errorf("In(5, %d): %q %v", base, got, e)
		}
	}
	for _, c := range []struct {
		a    int64
		base int
		want string
	}{{-255, 16, "-ff"}, {0, 2, "0"}, {35, 36, "z"}, {36, 36, "10"}, {least, 2, "-1" + strings.Repeat("0", 63)}, {most, 2, strings.Repeat("1", 63)}} {
		if got, _ := num.In(c.a, c.base); got != c.want {
			t.Errorf("In(%d, %d): %s", c.a, c.base, got)
		}
	}
}

func TestReadBack(t *testing.T) { // P1.4
	for _, a := range edges() {
		for base := num.LeastBase; base <= num.MostBase; base++ {
			s, _ := num.In(a, base)
			for _, x := range []string{s, strings.ToUpper(s)} {
				if got, e := num.Parse(x, base); got != a || e != api.OK {
					t.Fatalf("Parse(%q, %d): %d %v", x, base, got, e)
				}
			}
		}
	}
}

func TestParse(t *testing.T) { // P1.4
	for _, c := range []struct {
		s    string
		base int
		want int64
		e    api.Errno
	}{
		{"0", 10, 0, api.OK},
		{"-0", 10, 0, api.OK},
		{"007", 10, 7, api.OK},
		{strings.Repeat("0", 100) + "12", 10, 12, api.OK},
		{"-" + strings.Repeat("0", 100) + "9223372036854775808", 10, least, api.OK},
		{"-Zz", 36, -1295, api.OK},
		{"fF", 16, 255, api.OK},
		{"9223372036854775807", 10, most, api.OK},
		{"9223372036854775808", 10, 0, api.ErrOver},
		{"9223372036854775810", 10, 0, api.ErrOver},
		{"-9223372036854775807", 10, -most, api.OK},
		{"-9223372036854775808", 10, least, api.OK},
		{"-9223372036854775809", 10, 0, api.ErrOver},
		{"-9223372036854775810", 10, 0, api.ErrOver},
		{"18446744073709551616", 10, 0, api.ErrOver},
		{"18446744073709551617", 10, 0, api.ErrOver},
		{"-18446744073709551616", 10, 0, api.ErrOver},
		{strings.Repeat("9", 1000), 10, 0, api.ErrOver},
		{"-" + strings.Repeat("9", 1000), 10, 0, api.ErrOver},
		{"99999999999999999999x", 10, 0, api.ErrForm},
		{"99999999999999999999-", 10, 0, api.ErrForm},
		{"1" + strings.Repeat("0", 63), 2, 0, api.ErrOver},
		{"-1" + strings.Repeat("0", 63), 2, least, api.OK},
		{"-1" + strings.Repeat("0", 62) + "1", 2, 0, api.ErrOver},
		{"-1" + strings.Repeat("0", 64), 2, 0, api.ErrOver},
		{"7fffffffffffffff", 16, most, api.OK},
		{"8000000000000000", 16, 0, api.ErrOver},
		{"", 10, 0, api.ErrForm},
		{"-", 10, 0, api.ErrForm},
		{"+", 10, 0, api.ErrForm},
		{"+1", 10, 0, api.ErrForm},
		{"--1", 10, 0, api.ErrForm},
		{"1-", 10, 0, api.ErrForm},
		{" 1", 10, 0, api.ErrForm},
		{"1 ", 10, 0, api.ErrForm},
		{"1_0", 10, 0, api.ErrForm},
		{"1.0", 10, 0, api.ErrForm},
		{"0x10", 16, 0, api.ErrForm},
		{"a", 10, 0, api.ErrForm},
		{"1a", 10, 0, api.ErrForm},
		{"2", 2, 0, api.ErrForm},
		{"8", 8, 0, api.ErrForm},
		{"g", 16, 0, api.ErrForm},
		{"G", 16, 0, api.ErrForm},
		{"z", 35, 0, api.ErrForm},
		{"Z", 35, 0, api.ErrForm},
		{"[", 36, 0, api.ErrForm},
		{"{", 36, 0, api.ErrForm},
		{"@", 36, 0, api.ErrForm},
		{"`", 36, 0, api.ErrForm},
		{"/", 36, 0, api.ErrForm},
		{":", 36, 0, api.ErrForm},
		{"\x00", 10, 0, api.ErrForm},
		{"1\xff", 10, 0, api.ErrForm},
		{"1\u0663", 10, 0, api.ErrForm},
		{"1", 1, 0, api.ErrRange},
		{"1", 37, 0, api.ErrRange},
		{"", 0, 0, api.ErrRange},
		{"x!", -10, 0, api.ErrRange},
		{"1", least, 0, api.ErrRange},
		{"1", most, 0, api.ErrRange},
	} {
		if got, e := num.Parse(c.s, c.base); got != c.want || e != c.e {
			t.Errorf("Parse(%q, %d): %d %v, not %d %v", c.s, c.base, got, e, c.want, c.e)
		}
	}
}

// TestOverAtEachBase: the first number that is too great, and the last one that isn't.
func TestOverAtEachBase(t *testing.T) { // P1.4
	over := new(big.Int).SetUint64(1 << 63)
	for base := num.LeastBase; base <= num.MostBase; base++ {
		if _, e := num.Parse(over.Text(base), base); e != api.ErrOver {
			t.Errorf("2^63 to the base %d: %v", base, e)
		}
		if n, e := num.Parse("-"+over.Text(base), base); n != least || e != api.OK {
			t.Errorf("-2^63 to the base %d: %d %v", base, n, e)
		}
		for more := range int64(80) {
			s := "-" + new(big.Int).Add(over, big.NewInt(more+1)).Text(base)
			if _, e := num.Parse(s, base); e != api.ErrOver {
				t.Errorf("%s to the base %d: %v", s, base, e)
			}
		}
	}
}

func TestLeading(t *testing.T) { // P1.4
	long := strings.Repeat("1234567890", 30)
	n, _ := new(big.Int).SetString(long, 10)
	for _, c := range []struct {
		s    string
		want int64
		k    int
	}{
		{"", 0, 0},
		{"-", 0, 0},
		{"+", 0, 0},
		{"+x", 0, 0},
		{"-x1", 0, 0},
		{"x1", 0, 0},
		{" 1", 0, 0},
		{"--1", 0, 0},
		{"+-1", 0, 0},
		{"-+1", 0, 0},
		{"\xff1", 0, 0},
		{"0", 0, 1},
		{"-0", 0, 2},
		{"007", 7, 3},
		{"42", 42, 2},
		{"-42abc", -42, 3},
		{"+42-1", 42, 3},
		{"1a", 1, 1},
		{"12:", 12, 2},
		{"12/", 12, 2},
		{"0x10", 0, 1},
		{"9223372036854775807", most, 19},
		{"9223372036854775808", least, 19},
		{"-9223372036854775808", least, 20},
		{"-9223372036854775809", most, 20},
		{"18446744073709551616", 0, 20},
		{"+18446744073709551617 ", 1, 21},
		{long, round(n), 300},
		{"-" + long + "-", num.Neg(round(n)), 301},
	} {
		if got, k := num.Leading(c.s); got != c.want || k != c.k {
			t.Errorf("Leading(%q): %d %d, not %d %d", c.s, got, k, c.want, c.k)
		}
	}
}

// TestAnything: no call panics, and each answers the same twice, at whatever arguments.
func TestAnything(t *testing.T) { // P1, P2
	texts := []string{"", "-", "+", "\x00", "\xff\xfe", "-\x80", "12\x0034", strings.Repeat("z", 70), strings.Repeat("-", 1000)}
	bases := []int{least, -37, -1, 0, 1, 2, 10, 36, 37, most}
	for _, base := range bases {
		for _, s := range texts {
			n, e := num.Parse(s, base)
			if m, f := num.Parse(s, base); m != n || f != e {
				t.Errorf("Parse(%q, %d) isn't the same twice", s, base)
			}
			if e != api.OK && n != 0 {
				t.Errorf("Parse(%q, %d): %d beside an error", s, base, n)
			}
		}
		for _, a := range edges() {
			s, e := num.In(a, base)
			if u, f := num.In(a, base); u != s || f != e {
				t.Errorf("In(%d, %d) isn't the same twice", a, base)
			}
		}
	}
	for _, s := range texts {
		n, k := num.Leading(s)
		if m, l := num.Leading(s); m != n || l != k {
			t.Errorf("Leading(%q) isn't the same twice", s)
		}
	}
}
