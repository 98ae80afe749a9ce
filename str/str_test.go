package str_test

import (
	"math"
	"slices"
	"strings"
	"testing"
	"unsafe"

	"drey/api"
	"drey/str"
)

// every: a text of all bytes, each once, in order.
func every() string {
	list := make([]byte, 256)
	for i := range list {
		list[i] = byte(i)
	}
	return string(list)
}

// texts: some of many sorts.
func texts() []string {
	return []string{"", "a", "b", "ab", "abc", "abcdef", "aab", "\x00", "\xff", "\x80a", "é", "a\x00b", " ", " a ", "\t\r\n\v\f ", "\\", "\\x", "\"", "aaaa", every(), strings.Repeat("ab", 500)}
}

func TestEscape(t *testing.T) { // P2.1
	want := map[byte]string{'"': `\"`, '\'': `\'`, '\\': `\\`, '\n': `\n`, '\r': `\r`, '\t': `\t`, 0: `\x00`, 1: `\x01`, 8: `\x08`, 11: `\x0b`, 12: `\x0c`, 31: `\x1f`, 32: " ", 126: "~", 127: `\x7f`, 128: `\x80`, 0xab: `\xab`, 255: `\xff`}
	for c := range 256 {
		got, named := str.Escape(byte(c)), want[byte(c)]
		switch {
		case named != "":
			if got != named {
				t.Errorf("Escape(%d): %s, not %s", c, got, named)
			}
		case c >= 32 && c <= 126:
			if got != string(rune(c)) {
				t.Errorf("Escape(%d): %s", c, got)
			}
		default:
			if got != `\x`+string("0123456789abcdef"[c/16])+string("0123456789abcdef"[c%16]) {
				t.Errorf("Escape(%d): %s", c, got)
			}
		}
	}
}

func TestQuote(t *testing.T) { // P2.1
	for s, want := range map[string]string{"": `""`, "a": `"a"`, "a\"\\\n\x01\x7f~": `"a\"\\\n\x01\x7f~"`, "é'": `"\xc3\xa9\'"`} {
		if got := str.Quote(s); got != want {
			t.Errorf("Quote(%q): %s, not %s", s, got, want)
		}
	}
	for _, s := range texts() {
		q := str.Quote(s)
		want := `"`
		for i := range len(s) {
			want += str.Escape(s[i])
		}
		if q != want+`"` {
			t.Errorf("Quote(%q): %s", s, q)
		}
		if back, f := str.Unescape(q[1 : len(q)-1]); back != s || f != (api.Fault{}) {
			t.Errorf("Quote of %q comes back as %q %v", s, back, f)
		}
	}
}

func TestUnescape(t *testing.T) { // P2.1
	for s, want := range map[string]string{
		"":             "",
		"abc":          "abc",
		`a\nb`:         "a\nb",
		`\n\r\t\0`:     "\n\r\t\x00",
		`\"\'\\`:       "\"'\\",
		`"'`:           "\"'",
		`\\n`:          "\\n",
		`\\\n`:         "\\\n",
		`\x41`:         "A",
		`\x4`:          "\x04",
		`\x41\x4`:      "A\x04",
		`\x414`:        "A4",
		`\x4g`:         "\x04g",
		`\x4\x4`:       "\x04\x04",
		`\x4G`:         "\x04G",
		`\xFf\xaB`:     "\xff\xab",
		`\x09\x90`:     "\x09\x90",
		`\x0`:          "\x00",
		`\01`:          "\x001",
		`\00`:          "\x000",
		"\xff\x00\n\t": "\xff\x00\n\t",
		"é":            "é",
	} {
		if got, f := str.Unescape(s); got != want || f != (api.Fault{}) {
			t.Errorf("Unescape(%q): %q %v, not %q", s, got, f, want)
		}
	}
	for s, at := range map[string]int{
		`\`:       0,
		`a\`:      1,
		`\\\`:     2,
		`ab\q`:    2,
		`\x`:      0,
		`\xg`:     0,
		`\xG1`:    0,
		`\x/`:     0,
		`\x:`:     0,
		"\\x@":    0,
		"\\x`":    0,
		`\x\x41`:  0,
		`\x41\x`:  4,
		`\x4\q`:   3,
		`\n\t\q`:  4,
		`\q\`:     0,
		`\1`:      0,
		`\a`:      0,
		`\N`:      0,
		`\X41`:    0,
		`\ `:      0,
		"\\\n":    0,
		"\\\x00":  0,
		"é\\é":    2,
		`abc\u00`: 3,
	} {
		if got, f := str.Unescape(s); got != "" || f != (api.Fault{Code: api.ErrEscape, At: at}) {
			t.Errorf("Unescape(%q): %q %v, not at %d", s, got, f, at)
		}
	}
}

// TestUnescapeEach: what each byte behind a backslash stands for.
func TestUnescapeEach(t *testing.T) { // P2.1
	known := map[byte]string{'"': "\"", '\'': "'", '\\': "\\", 'n': "\n", 'r': "\r", 't': "\t", '0': "\x00"}
	for c := range 256 {
		got, f := str.Unescape("." + string([]byte{'\\', byte(c)}))
		want, ok := known[byte(c)]
		if ok && (got != "."+want || f != (api.Fault{})) {
			t.Errorf("a backslash and %d: %q %v", c, got, f)
		}
		if !ok && (got != "" || f != (api.Fault{Code: api.ErrEscape, At: 1})) {
			t.Errorf("a backslash and %d: %q %v", c, got, f)
		}
	}
}

// TestUnescapeBytes: each byte by its digits, small letters and great ones.
func TestUnescapeBytes(t *testing.T) { // P2.1
	small, great := "0123456789abcdef", "0123456789ABCDEF"
	for c := range 256 {
		for _, digits := range []string{small, great} {
			want := string([]byte{byte(c)})
			if got, f := str.Unescape(`\x` + string([]byte{digits[c/16], digits[c%16]})); got != want || f != (api.Fault{}) {
				t.Errorf("the byte %d: %q %v", c, got, f)
			}
			if got, f := str.Unescape(`\x` + digits[c%16:c%16+1] + "-"); got != string([]byte{byte(c % 16), '-'}) || f != (api.Fault{}) {
				t.Errorf("the digit %c: %q %v", digits[c%16], got, f)
			}
		}
	}
}

func TestSlice(t *testing.T) { // P2.2
	for _, c := range []struct {
		s        string
		from, to int64
		want     string
		e        api.Errno
	}{
		{"abcdef", 0, 6, "abcdef", api.OK},
		{"abcdef", 1, 3, "bc", api.OK},
		{"abcdef", -3, -1, "de", api.OK},
		{"abcdef", 3, -1, "de", api.OK},
		{"abcdef", -3, 5, "de", api.OK},
		{"abcdef", -6, 6, "abcdef", api.OK},
		{"abcdef", -6, -6, "", api.OK},
		{"abcdef", 2, 2, "", api.OK},
		{"abcdef", 6, 6, "", api.OK},
		{"", 0, 0, "", api.OK},
		{"a\xff\x00b", 1, 3, "\xff\x00", api.OK},
		{"é", 1, 2, "\xa9", api.OK},
		{"abcdef", -7, 3, "", api.ErrRange},
		{"abcdef", 0, -7, "", api.ErrRange},
		{"abcdef", -7, -7, "", api.ErrRange},
		{"abcdef", 0, 7, "", api.ErrRange},
		{"abcdef", 7, 7, "", api.ErrRange},
		{"abcdef", 7, 6, "", api.ErrRange},
		{"abcdef", 3, 2, "", api.ErrRange},
		{"abcdef", -1, -3, "", api.ErrRange},
		{"abc", 2, 1, "", api.ErrRange},
		{"", 0, 1, "", api.ErrRange},
		{"", -1, 0, "", api.ErrRange},
		{"", 0, -1, "", api.ErrRange},
		{"abc", math.MinInt64, 2, "", api.ErrRange},
		{"abc", math.MinInt64, math.MinInt64, "", api.ErrRange},
		{"abc", 0, math.MaxInt64, "", api.ErrRange},
		{"abc", math.MaxInt64, math.MaxInt64, "", api.ErrRange},
		{"abc", 0, math.MinInt64, "", api.ErrRange},
		{"abc", 1 << 32, 1<<32 + 1, "", api.ErrRange},
	} {
		if got, e := str.Slice(c.s, c.from, c.to); got != c.want || e != c.e {
			t.Errorf("Slice(%q, %d, %d): %q %v, not %q %v", c.s, c.from, c.to, got, e, c.want, c.e)
		}
	}
}

func TestFind(t *testing.T) { // P2.2
	for _, c := range []struct {
		s, what string
		from    int64
		want    int64
	}{
		{"abab", "ab", 0, 0},
		{"abab", "ab", 1, 2},
		{"abab", "ab", 2, 2},
		{"abab", "ab", 3, -1},
		{"abab", "x", 0, -1},
		{"abab", "ababa", 0, -1},
		{"aab", "ab", 0, 1},
		{"ab", "", 0, 0},
		{"ab", "", 1, 1},
		{"ab", "", 2, 2},
		{"ab", "", 3, -1},
		{"ab", "", -1, -1},
		{"", "", 0, 0},
		{"", "", 1, -1},
		{"", "a", 0, -1},
		{"ab", "a", -1, -1},
		{"ab", "b", -1, -1},
		{"ab", "b", 2, -1},
		{"ab", "b", math.MinInt64, -1},
		{"ab", "b", math.MaxInt64, -1},
		{"ab", "b", 1 << 32, -1},
		{"a\x00\xffb", "\xff", 0, 2},
		{"é", "\xa9", 0, 1},
	} {
		if got := str.Find(c.s, c.what, c.from); got != c.want {
			t.Errorf("Find(%q, %q, %d): %d, not %d", c.s, c.what, c.from, got, c.want)
		}
	}
}

// byBytes: how two texts compare, told the long way.
func byBytes(a, b string) int64 {
	for i := range min(len(a), len(b)) {
		if a[i] < b[i] {
			return -1
		}
		if a[i] > b[i] {
			return 1
		}
	}
	return int64(min(1, max(-1, len(a)-len(b))))
}

func TestCompare(t *testing.T) { // P2.3
	for _, a := range texts() {
		for _, b := range texts() {
			if got := str.Compare(a, b); got != byBytes(a, b) {
				t.Errorf("Compare(%q, %q): %d", a, b, got)
			}
		}
	}
	for _, c := range []struct {
		a, b string
		want int64
	}{{"a", "ab", -1}, {"b", "ab", 1}, {"", "", 0}, {"", "\x00", -1}, {"Z", "a", -1}, {"\xff", "a", 1}, {"abc", "abd", -1}, {"x", "x", 0}} {
		if got := str.Compare(c.a, c.b); got != c.want {
			t.Errorf("Compare(%q, %q): %d", c.a, c.b, got)
		}
	}
}

func TestHash(t *testing.T) { // P2.3
	for _, s := range texts() {
		if str.Hash(s) != str.Hash(string([]byte(s))) {
			t.Errorf("Hash(%q) isn't the same twice", s)
		}
	}
	met := map[uint64]string{}
	for _, s := range texts() { // that they differ isn't promised of all, but a hash by which none differ is of no use
		if r, ok := met[str.Hash(s)]; ok {
			t.Errorf("%q and %q have one hash", r, s)
		}
		met[str.Hash(s)] = s
	}
}

func TestLowerUpper(t *testing.T) { // P2.4
	for c := range 256 {
		s := string([]byte{byte(c)})
		lower, upper := s, s
		if at := strings.IndexByte("ABCDEFGHIJKLMNOPQRSTUVWXYZ", byte(c)); at >= 0 {
			lower = "abcdefghijklmnopqrstuvwxyz"[at : at+1]
		}
		if at := strings.IndexByte("abcdefghijklmnopqrstuvwxyz", byte(c)); at >= 0 {
			upper = "ABCDEFGHIJKLMNOPQRSTUVWXYZ"[at : at+1]
		}
		if str.Lower(s) != lower || str.Upper(s) != upper {
			t.Errorf("the byte %d: %q %q", c, str.Lower(s), str.Upper(s))
		}
	}
	if str.Lower("AbZ[É") != "abz[É" || str.Upper("aBz{é") != "ABZ{é" || str.Lower("") != "" || str.Upper("") != "" {
		t.Error("Lower, Upper")
	}
}

func TestStrip(t *testing.T) { // P2.4
	for _, c := range []struct{ s, front, back, both string }{
		{"", "", "", ""},
		{" ", "", "", ""},
		{" \t\n\v\f\r ", "", "", ""},
		{"a", "a", "a", "a"},
		{" a ", "a ", " a", "a"},
		{"\t a b\r\n", "a b\r\n", "\t a b", "a b"},
		{"\u00a0a\u0085", "\u00a0a\u0085", "\u00a0a\u0085", "\u00a0a\u0085"},
		{"a \t", "a \t", "a", "a"},
		{"\v\fa", "a", "\v\fa", "a"},
	} {
		if f, b, s := str.Front(c.s), str.Back(c.s), str.Strip(c.s); f != c.front || b != c.back || s != c.both {
			t.Errorf("%q: %q %q %q", c.s, f, b, s)
		}
	}
	for c := range 256 {
		s, want := string([]byte{byte(c), 'x', byte(c)}), "x"
		if c != 32 && (c < 9 || c > 13) {
			want = s
		}
		if got := str.Strip(s); got != want {
			t.Errorf("Strip(%q): %q", s, got)
		}
	}
}

func TestName(t *testing.T) { // P2.4
	for c := range 256 {
		b := byte(c)
		letter := b == '_' || b >= 'a' && b <= 'z' || b >= 'A' && b <= 'Z'
		digit := b >= '0' && b <= '9'
		if got := str.Name(string([]byte{b})); got != letter {
			t.Errorf("Name of the byte %d: %v", c, got)
		}
		if got := str.Name(string([]byte{'a', b, '_'})); got != (letter || digit) {
			t.Errorf("Name with the byte %d: %v", c, got)
		}
	}
	for s, want := range map[string]bool{"": false, "_": true, "_a1": true, "1a": false, "a b": false, "aé": false, "a1 ": false, "while": true, "__9": true, "a\n": false} {
		if got := str.Name(s); got != want {
			t.Errorf("Name(%q): %v", s, got)
		}
	}
}

func TestSplit(t *testing.T) { // P2.5
	for _, c := range []struct {
		s, by string
		want  []string
	}{
		{"", "", []string{""}},
		{"", ",", []string{""}},
		{"abc", "", []string{"abc"}},
		{"abc", ",", []string{"abc"}},
		{"a,b", ",", []string{"a", "b"}},
		{"a,,b;", ",;", []string{"a", "", "b", ""}},
		{",", ",", []string{"", ""}},
		{",a", ",,", []string{"", "a"}},
		{"a;b,c", ",;", []string{"a", "b", "c"}},
		{"aXbxc", "x", []string{"aXb", "c"}},
		{"é", "\xc3", []string{"", "\xa9"}},
		{"a\x00b\xffc", "\x00\xff", []string{"a", "b", "c"}},
		{"aé", "é", []string{"a", "", ""}},
		{" a ", " ", []string{"", "a", ""}},
	} {
		if got := str.Split(c.s, c.by); !slices.Equal(got, c.want) {
			t.Errorf("Split(%q, %q): %q, not %q", c.s, c.by, got, c.want)
		}
	}
	if got := str.Split(every(), every()); len(got) != 257 || strings.Join(got, "") != "" {
		t.Errorf("Split by every byte: %q", got)
	}
}

func TestJoin(t *testing.T) { // P2.5
	for _, c := range []struct {
		by   string
		list []string
		want string
	}{
		{", ", nil, ""},
		{", ", []string{}, ""},
		{", ", []string{""}, ""},
		{", ", []string{"a"}, "a"},
		{", ", []string{"a", "b"}, "a, b"},
		{"", []string{"a", "", "b", "c"}, "abc"},
		{"-", []string{"", "", ""}, "--"},
		{"\xff", []string{"\x00", "é"}, "\x00\xffé"},
	} {
		if got, e := str.Join(c.by, c.list...); got != c.want || e != api.OK {
			t.Errorf("Join(%q, %q): %q %v", c.by, c.list, got, e)
		}
	}
}

func TestJoinTooLong(t *testing.T) { // P2.5
	if str.MaxLen != 1048576 {
		t.Fatalf("MaxLen: %d", str.MaxLen)
	}
	full, half := strings.Repeat("f", str.MaxLen), strings.Repeat("h", str.MaxLen/2)
	for _, c := range []struct {
		by   string
		list []string
		want string
	}{
		{"", []string{full}, full},
		{full + full, []string{full}, full},
		{full, []string{"", ""}, full},
		{"", []string{half, half}, half + half},
		{"", []string{half, half, ""}, half + half},
		{"-", []string{half, half[1:]}, half + "-" + half[1:]},
	} {
		if got, e := str.Join(c.by, c.list...); got != c.want || e != api.OK {
			t.Errorf("%d texts: %d bytes, %v", len(c.list), len(got), e)
		}
	}
	for _, c := range []struct {
		by   string
		list []string
	}{
		{"", []string{full + "f"}},
		{"", []string{full, "f"}},
		{"f", []string{full, ""}},
		{"f", []string{"", full}},
		{"-", []string{half, half}},
		{full, []string{"", "", ""}},
		{full, []string{"", "f"}},
		{full, []string{"f", ""}},
		{full + "f", []string{"", ""}},
		{"", []string{full, full, full}},
		{"-", make([]string, str.MaxLen+2)},
	} {
		if got, e := str.Join(c.by, c.list...); got != "" || e != api.ErrLong {
			t.Errorf("%d texts: %d bytes, %v, not ErrLong", len(c.list), len(got), e)
		}
	}
	if got, e := str.Join("-", make([]string, str.MaxLen+1)...); len(got) != str.MaxLen || e != api.OK {
		t.Errorf("as many blanks as may be: %d bytes, %v", len(got), e)
	}
}

// TestOwnMemory: a list that is handed in stays as it is, with its spare room, and what is answered is of its own.
func TestOwnMemory(t *testing.T) { // P2
	back := []string{"a", "b", "c", "d"}
	if s, _ := str.Join("-", back[:2]...); s != "a-b" {
		t.Errorf("Join: %s", s)
	}
	if !slices.Equal(back, []string{"a", "b", "c", "d"}) {
		t.Errorf("Join changed its list: %q", back)
	}
	one, two := str.Split("x,y,z", ","), str.Split("x,y,z", ",")
	_ = append(one[:1], "changed", "changed", "changed", "changed")
	one[0] = "changed"
	if !slices.Equal(two, []string{"x", "y", "z"}) {
		t.Errorf("Split's answers share memory: %q", two)
	}
	s := strings.Repeat("abc ", 4)
	slice, _ := str.Slice(s, 0, int64(len(s)))
	joined, _ := str.Join("", s)
	plain, _ := str.Unescape(s)
	answers := []string{slice, joined, plain, str.Split(s, "")[0], str.Lower(s), str.Upper(s), str.Front(s), str.Back(s), str.Strip(s)}
	for i, x := range answers {
		if unsafe.StringData(x) == unsafe.StringData(s) {
			t.Errorf("answer %d shares memory with its argument", i)
		}
	}
}

// TestAnything: no call panics, and each answers the same twice, at whatever arguments.
func TestAnything(t *testing.T) { // P1, P2
	places := []int64{math.MinInt64, math.MinInt64 + 1, -1 << 32, -300, -2, -1, 0, 1, 2, 255, 256, 257, 1 << 32, math.MaxInt64}
	for _, s := range texts() {
		x, f := str.Unescape(s)
		if y, g := str.Unescape(s); x != y || f != g || f.Code != api.OK && x != "" {
			t.Errorf("Unescape(%q): %q %v, %q %v", s, x, f, y, g)
		}
		for _, by := range texts() {
			if !slices.Equal(str.Split(s, by), str.Split(s, by)) {
				t.Errorf("Split(%q, %q) isn't the same twice", s, by)
			}
			for _, from := range places {
				if at := str.Find(s, by, from); at != str.Find(s, by, from) || at < -1 || at > int64(len(s)) {
					t.Errorf("Find(%q, %q, %d): %d", s, by, from, at)
				}
			}
		}
		for _, from := range places {
			for _, to := range places {
				x, e := str.Slice(s, from, to)
				if y, f := str.Slice(s, from, to); x != y || e != f || e != api.OK && x != "" {
					t.Errorf("Slice(%q, %d, %d): %q %v, %q %v", s, from, to, x, e, y, f)
				}
			}
		}
	}
}
