package lex_test

import (
	"math"
	"regexp"
	"slices"
	"strconv"
	"strings"
	"testing"
	"unsafe"

	"drey/api"
	"drey/lex"
	"drey/str"
)

// words, signs: all there are, as the document has them.
const (
	words = "base break case catch class clone const constructor continue default delete do else enum extends false for foreach function if in instanceof local null resume return static switch this throw true try typeof while yield"
	signs = ">>> <=> <- << >> <= >= == != && || ++ -- += -= *= /= %= :: + - * / % = < > ! ~ & | ^ ? : ; , . ( ) { } [ ]"
)

// tok: a token of a kind at a byte; ended: a line ended ahead of it.
func tok(kind, at int, text string) lex.Token { return lex.Token{Kind: kind, At: at, Text: text} }

func ended(t lex.Token) lex.Token {
	t.Line = true
	return t
}

func integer(at int, text string, n int64) lex.Token {
	return lex.Token{Kind: lex.Int, At: at, Text: text, Num: n}
}

// scans: are these the tokens of a source?
func scans(t *testing.T, text string, want ...lex.Token) {
	t.Helper()
	if got, f := lex.Scan(text); f != (api.Fault{}) || !slices.Equal(got, want) {
		t.Errorf("Scan(%q): %v %v, not %v", text, got, f, want)
	}
}

// fails: is this the fault of a source?
func fails(t *testing.T, text string, code api.Errno, at int) {
	t.Helper()
	if got, f := lex.Scan(text); f != (api.Fault{Code: code, At: at}) || len(got) != 0 {
		t.Errorf("Scan(%.40q) of %d bytes: %d tokens, %v, not %v", text, len(text), len(got), f, api.Fault{Code: code, At: at})
	}
}

func TestEnd(t *testing.T) { // P8.1
	scans(t, "", tok(lex.End, 0, ""))
	scans(t, "\t\r  ", tok(lex.End, 4, ""))
	scans(t, "\n", ended(tok(lex.End, 1, "")))
	scans(t, " \n ", ended(tok(lex.End, 3, "")))
	scans(t, "a", tok(lex.Name, 0, "a"), tok(lex.End, 1, ""))
	scans(t, "a ", tok(lex.Name, 0, "a"), tok(lex.End, 2, ""))
	scans(t, "a\n", tok(lex.Name, 0, "a"), ended(tok(lex.End, 2, "")))
	scans(t, "\na", ended(tok(lex.Name, 1, "a")), tok(lex.End, 2, ""))
}

// TestBetween: what may stand between two tokens, and whether a line ended there.
func TestBetween(t *testing.T) { // P8.1
	for gap, line := range map[string]bool{
		" ":                false,
		"\t\r ":            false,
		"\n":               true,
		" \n\r\n ":         true,
		"# so\n":           true,
		"# so\n\n# so\n":   true,
		"//\n":             true,
		"#\n":              true,
		"// so // /* #\n":  true,
		"# \" ' /*\n":      true,
		"//*\n":            true,
		"/**/":             false,
		"/***/":            false,
		"/*/*/":            false,
		"/* */":            false,
		"/*\n*/":           true,
		"/* a\n\nb */":     true,
		"/*\r*/":           false,
		"/* // # \" ' */":  false,
		"/* a */\n":        true,
		"\n/* a */":        true,
		"/**//*\n*//**/":   true,
		"/**/# /*\n":       true,
		"/*@\\`\xff\x00*/": false,
		"#@\\`\xff\x00\n":  true,
	} {
		b, end := tok(lex.Name, 1+len(gap), "b"), tok(lex.End, 2+len(gap), "")
		if line {
			b = ended(b)
		}
		scans(t, "a"+gap+"b", tok(lex.Name, 0, "a"), b, end)
		first, last := tok(lex.Name, len(gap), "b"), tok(lex.End, 1+2*len(gap), "")
		if line {
			first, last = ended(first), ended(last)
		}
		scans(t, gap+"b"+gap, first, last)
	}
}

// TestNoteAtTheEnd: a note up to the line's end needs none at the text's end.
func TestNoteAtTheEnd(t *testing.T) { // P8.1
	for _, note := range []string{"#", "//", "# so", "// so", "#/*", "///*", "# so\r"} {
		scans(t, "a "+note, tok(lex.Name, 0, "a"), tok(lex.End, 2+len(note), ""))
	}
}

// TestOtherBlanks: of the other bytes that might be blanks none is.
func TestOtherBlanks(t *testing.T) { // P8.1, P8.3
	for _, c := range []string{"\v", "\f", "\x00", "\x85", "\xa0", "\b", "\x1c"} {
		fails(t, "a "+c, api.ErrSign, 2)
	}
}

func TestNoteThatDoesNotEnd(t *testing.T) { // P8.3
	for text, at := range map[string]int{"/*": 0, "/*/": 0, "a /* b": 2, "a /* b\n*": 2, "/**/ /*": 5, "/* a * /": 0, "\n/*\n": 1, "/**//*": 4, "a/*/": 1} {
		fails(t, text, api.ErrForm, at)
	}
}

func TestKeyword(t *testing.T) { // P8.2
	for _, s := range strings.Fields(words) {
		if !lex.Keyword(s) {
			t.Errorf("Keyword(%q)", s)
		}
		scans(t, s, tok(lex.Word, 0, s), tok(lex.End, len(s), ""))
		for _, near := range []string{s + "x", s + "_", s + "0", "_" + s, s[:len(s)-1] + "Q", strings.ToUpper(s), strings.ToUpper(s[:1]) + s[1:], s + s} {
			if lex.Keyword(near) {
				t.Errorf("Keyword(%q)", near)
			}
			scans(t, near, tok(lex.Name, 0, near), tok(lex.End, len(near), ""))
		}
		for _, no := range []string{s + " ", " " + s, s + "\x00", s + "\n"} {
			if lex.Keyword(no) {
				t.Errorf("Keyword(%q)", no)
			}
		}
	}
	for _, s := range []string{"", " ", "a", "Local", "bas", "basee", "const_", "get", "print", "var", "let", "not", "and", "or", "0", "+", "\xff"} {
		if lex.Keyword(s) {
			t.Errorf("Keyword(%q)", s)
		}
	}
}

func TestNames(t *testing.T) { // P8.2
	for _, s := range []string{"a", "Z", "_", "__", "_0", "a0b1", "thisx", "x_y_z", "abcdefghijklmnopqrstuvwxyz_ABCDEFGHIJKLMNOPQRSTUVWXYZ_0123456789"} {
		scans(t, s, tok(lex.Name, 0, s), tok(lex.End, len(s), ""))
		scans(t, s+"."+s, tok(lex.Name, 0, s), tok(lex.Sign, len(s), "."), tok(lex.Name, len(s)+1, s), tok(lex.End, 2*len(s)+1, ""))
	}
	scans(t, "a\"b\"c", tok(lex.Name, 0, "a"), tok(lex.Str, 1, "b"), tok(lex.Name, 4, "c"), tok(lex.End, 5, ""))
	scans(t, "a'b'0", tok(lex.Name, 0, "a"), integer(1, "'b'", 'b'), integer(4, "0", 0), tok(lex.End, 5, ""))
	scans(t, "in instanceof", tok(lex.Word, 0, "in"), tok(lex.Word, 3, "instanceof"), tok(lex.End, 13, ""))
	fails(t, "aé", api.ErrSign, 1)
}

func TestInts(t *testing.T) { // P8.2
	for s, n := range map[string]int64{
		"0":                                     0,
		"1":                                     1,
		"9":                                     9,
		"10":                                    10,
		"1234567890":                            1234567890,
		"9223372036854775807":                   math.MaxInt64,
		"0x0":                                   0,
		"0x00":                                  0,
		"0x1F":                                  31,
		"0xabcdef":                              0xabcdef,
		"0xABCDEF":                              0xabcdef,
		"0xaBcDeF0123456789":                    -0x543210fedcba9877,
		"0x7fffffffffffffff":                    math.MaxInt64,
		"0x8000000000000000":                    math.MinInt64,
		"0x8000000000000001":                    math.MinInt64 + 1,
		"0xffffffffffffffff":                    -1,
		"0xFFFFFFFFFFFFFFFE":                    -2,
		"0xffffffff00000000":                    -1 << 32,
		"0x80000000ffffffff":                    math.MinInt64 + 1<<32 - 1,
		"0x00ffffffffffffffff":                  -1,
		"0x" + strings.Repeat("0", 1000) + "10": 16,
	} {
		scans(t, s, integer(0, s, n), tok(lex.End, len(s), ""))
		scans(t, " -"+s+";", tok(lex.Sign, 1, "-"), integer(2, s, n), tok(lex.Sign, 2+len(s), ";"), tok(lex.End, 3+len(s), ""))
	}
	scans(t, "1.5", integer(0, "1", 1), tok(lex.Sign, 1, "."), integer(2, "5", 5), tok(lex.End, 3, ""))
}

func TestIntsThatAreNone(t *testing.T) { // P8.3
	for _, s := range []string{
		"00", "01", "007", "0a", "0_", "1a", "1_000", "1e5", "12L", "0b1", "0o7", "1x", "9_", "10x1",
		"0x", "0xg", "0x_", "0x1_", "0x1g", "0X1F", "0X", "0xx1", "00x1",
		"99999999999999999999z", "0x10000000000000000g", "099999999999999999999", "0xffffffffffffffffffz",
	} {
		fails(t, s, api.ErrForm, 0)
		fails(t, "a\n"+s+" @", api.ErrForm, 2)
	}
	for _, s := range []string{
		"9223372036854775808", "9223372036854775810", "10000000000000000000", "18446744073709551615", "18446744073709551616",
		"0x10000000000000000", "0x1ffffffffffffffff", "0x010000000000000000", "0x" + strings.Repeat("f", 1000), "1" + strings.Repeat("0", 1000),
	} {
		fails(t, s, api.ErrOver, 0)
		fails(t, "a\n"+s+" @", api.ErrOver, 2)
	}
}

// TestBytes: each byte between two ', as it is, and as it is written.
func TestBytes(t *testing.T) { // P8.2
	for c := range 256 {
		for _, in := range []string{string([]byte{byte(c)}), str.Escape(byte(c)), `\x` + strconv.FormatInt(int64(c), 16)} {
			s := "'" + in + "'"
			switch in {
			case "\n", "'", "\\":
				fails(t, s, api.ErrForm, 0)
			default:
				scans(t, s, integer(0, s, int64(c)), tok(lex.End, len(s), ""))
			}
		}
	}
	for s, n := range map[string]int64{`'\0'`: 0, `'\''`: 39, `'\\'`: 92, `'"'`: 34, `'\"'`: 34, `'\n'`: 10, `'\xA'`: 10, `'\xfF'`: 255, "'\r'": 13} {
		scans(t, s+"x", integer(0, s, n), tok(lex.Name, len(s), "x"), tok(lex.End, len(s)+1, ""))
	}
}

func TestBytesThatAreNone(t *testing.T) { // P8.3
	for s, f := range map[string]api.Fault{
		"''":         {Code: api.ErrForm},
		"'ab'":       {Code: api.ErrForm},
		"'é'":        {Code: api.ErrForm},
		`'\x414'`:    {Code: api.ErrForm},
		`'\\\\'`:     {Code: api.ErrForm},
		"'a":         {Code: api.ErrForm},
		"'":          {Code: api.ErrForm},
		"'\n'":       {Code: api.ErrForm},
		`'\'`:        {Code: api.ErrForm},
		`'a"`:        {Code: api.ErrForm},
		`'\q'`:       {Code: api.ErrEscape, At: 1},
		`'\x'`:       {Code: api.ErrEscape, At: 1},
		`'ab\q'`:     {Code: api.ErrEscape, At: 3},
		`'\q\n`:      {Code: api.ErrForm},
		"'\\\n'":     {Code: api.ErrForm},
		"'\\q\n'":    {Code: api.ErrForm},
		`'\xg1 ab@'`: {Code: api.ErrEscape, At: 1},
	} {
		fails(t, s, f.Code, f.At)
		fails(t, "x = "+s, f.Code, f.At+4)
	}
}

func TestTexts(t *testing.T) { // P8.2
	for s, want := range map[string]string{
		`""`:               "",
		`"a"`:              "a",
		`"a b"`:            "a b",
		`"\n\r\t\0\x41\\"`: "\n\r\t\x00A\\",
		`"\""`:             `"`,
		`"\\\""`:           `\"`,
		`"'"`:              "'",
		`"\'"`:             "'",
		`"# // /* */"`:     "# // /* */",
		"\"\t\r\v\x00\"":   "\t\r\v\x00",
		"\"é\xff\"":        "é\xff",
		`"local"`:          "local",
		`"\x4"`:            "\x04",
		`"\x414"`:          "A4",
	} {
		scans(t, s, tok(lex.Str, 0, want), tok(lex.End, len(s), ""))
		scans(t, "a"+s+s+"\n1", tok(lex.Name, 0, "a"), tok(lex.Str, 1, want), tok(lex.Str, 1+len(s), want), ended(integer(2+2*len(s), "1", 1)), tok(lex.End, 3+2*len(s), ""))
	}
	for c := range 256 {
		if s := string([]byte{byte(c)}); s != "\n" && s != "\"" && s != "\\" {
			scans(t, "\""+s+"\"", tok(lex.Str, 0, s), tok(lex.End, 3, ""))
		}
	}
}

func TestTextsThatAreNone(t *testing.T) { // P8.3
	for s, f := range map[string]api.Fault{
		`"`:            {Code: api.ErrForm},
		`"a`:           {Code: api.ErrForm},
		`"a'`:          {Code: api.ErrForm},
		`"\"`:          {Code: api.ErrForm},
		`"\`:           {Code: api.ErrForm},
		`"\\\"`:        {Code: api.ErrForm},
		"\"a\nb\"":     {Code: api.ErrForm},
		"\"\\\n\"":     {Code: api.ErrForm},
		"\"\\\\\n\"":   {Code: api.ErrForm},
		"\"\\q\n\"":    {Code: api.ErrForm},
		`"a\q`:         {Code: api.ErrForm},
		`"a\q"`:        {Code: api.ErrEscape, At: 2},
		`"\\\q"`:       {Code: api.ErrEscape, At: 3},
		`"\x"`:         {Code: api.ErrEscape, At: 1},
		`"\N\q"`:       {Code: api.ErrEscape, At: 1},
		`"ab\u0041"`:   {Code: api.ErrEscape, At: 3},
		"\"\\\x00\" @": {Code: api.ErrEscape, At: 1},
		`"" "`:         {Code: api.ErrForm, At: 3},
		`"a""`:         {Code: api.ErrForm, At: 3},
	} {
		fails(t, s, f.Code, f.At)
		fails(t, "x = "+s, f.Code, f.At+4)
	}
}

// TestSigns: each by itself, and all rows of up to three bytes: the longest sign counts.
func TestSigns(t *testing.T) { // P8.2
	list := strings.Fields(signs)
	for _, s := range list {
		scans(t, s, tok(lex.Sign, 0, s), tok(lex.End, len(s), ""))
		scans(t, "a"+s+"b", tok(lex.Name, 0, "a"), tok(lex.Sign, 1, s), tok(lex.Name, 1+len(s), "b"), tok(lex.End, 2+len(s), ""))
	}
	const bytes = "+-*/%=<>!~&|^?:;,.(){}[]"
	for i := range 1 << 15 {
		text := ""
		for n := i; n > 0; n >>= 5 {
			if c := n & 31; c < len(bytes) {
				text += bytes[c : c+1]
			}
		}
		if strings.Contains(text, "//") || strings.Contains(text, "/*") {
			continue
		}
		var want []lex.Token
		for at := 0; at < len(text); {
			best := ""
			for _, s := range list {
				if strings.HasPrefix(text[at:], s) && len(s) > len(best) {
					best = s
				}
			}
			want = append(want, tok(lex.Sign, at, best))
			at += len(best)
		}
		scans(t, text, append(want, tok(lex.End, len(text), ""))...)
	}
	scans(t, "a<-b", tok(lex.Name, 0, "a"), tok(lex.Sign, 1, "<-"), tok(lex.Name, 3, "b"), tok(lex.End, 4, ""))
	scans(t, "a/=/**/b", tok(lex.Name, 0, "a"), tok(lex.Sign, 1, "/="), tok(lex.Name, 7, "b"), tok(lex.End, 8, ""))
}

// TestFirstBytes: with each byte something begins, or it is wrong.
func TestFirstBytes(t *testing.T) { // P8.1 to P8.3
	for c := range 256 {
		s := string([]byte{byte(c)})
		switch {
		case str.Name(s):
			scans(t, s, tok(lex.Name, 0, s), tok(lex.End, 1, ""))
		case c >= '0' && c <= '9':
			scans(t, s, integer(0, s, int64(c-'0')), tok(lex.End, 1, ""))
		case slices.Contains(strings.Fields(signs), s):
			scans(t, s, tok(lex.Sign, 0, s), tok(lex.End, 1, ""))
		case c == 9 || c == 13 || c == 32 || c == '#':
			scans(t, s, tok(lex.End, 1, ""))
		case c == 10:
			scans(t, s, ended(tok(lex.End, 1, "")))
		case c == '"' || c == '\'':
			fails(t, s, api.ErrForm, 0)
		default:
			fails(t, s, api.ErrSign, 0)
			fails(t, "a\n 1"+s+"0x \"", api.ErrSign, 4)
		}
	}
}

// TestFirstFault: of several things that are wrong the first one is told.
func TestFirstFault(t *testing.T) { // P8.3
	for s, f := range map[string]api.Fault{
		"@ 00":      {Code: api.ErrSign},
		"00 @":      {Code: api.ErrForm},
		"a 00 /*":   {Code: api.ErrForm, At: 2},
		"a /* 00 @": {Code: api.ErrForm, At: 2},
		"\"\\q\" @": {Code: api.ErrEscape, At: 1},
		"@\"\\q\"":  {Code: api.ErrSign},
		"1 'ab' $":  {Code: api.ErrForm, At: 2},
		"a\\b":      {Code: api.ErrSign, At: 1},
	} {
		fails(t, s, f.Code, f.At)
	}
}

func TestMaxText(t *testing.T) { // P8.3
	full := strings.Repeat("f", lex.MaxText)
	scans(t, full, tok(lex.Name, 0, full), tok(lex.End, len(full), ""))
	scans(t, full[1:]+" ", tok(lex.Name, 0, full[1:]), tok(lex.End, len(full), ""))
	scans(t, strings.Repeat(" ", lex.MaxText), tok(lex.End, lex.MaxText, ""))
	for _, s := range []string{full + "f", full + " ", "@" + full, " " + full, "/*" + full, "00 \"" + full, strings.Repeat("\n", lex.MaxText+1), full + full} {
		fails(t, s, api.ErrLong, 0)
	}
}

func TestMaxTokens(t *testing.T) { // P8.3
	full := strings.Repeat("+ ", lex.MaxTokens)
	for _, gap := range []string{"", " ", "# so", "// @", "/* 1 */", "/*\n*/", "\n"} {
		got, f := lex.Scan(full + gap)
		if f != (api.Fault{}) || len(got) != lex.MaxTokens+1 {
			t.Fatalf("as many tokens as may be, and %q: %d, %v", gap, len(got), f)
		}
		if last := (lex.Token{Kind: lex.End, At: len(full + gap), Line: strings.Contains(gap, "\n")}); got[lex.MaxTokens] != last {
			t.Errorf("the End behind %q: %v", gap, got[lex.MaxTokens])
		}
	}
	if got, f := lex.Scan(full[2:]); f != (api.Fault{}) || len(got) != lex.MaxTokens {
		t.Errorf("a token less: %d, %v", len(got), f)
	}
	for _, more := range []string{"+", "a", "1", "00", "0x", "99999999999999999999", "\"a\"", "\"", "'ab'", "\"\\q\"", "@", "\xff", "a /*", "+ +"} {
		fails(t, full+more, api.ErrLong, len(full))
		fails(t, full+"\n/**/"+more, api.ErrLong, len(full)+5)
	}
	fails(t, full+"/*", api.ErrForm, len(full))
	fails(t, full+" /* + ", api.ErrForm, len(full)+1)
	fails(t, full[4:]+"@ + + +", api.ErrSign, len(full)-4)
}

func TestShow(t *testing.T) { // P8.4
	for _, s := range []string{"", "a", "0x1F", "'a'", "+", "\"", "a\n\x00\xff'\\", "local"} {
		for _, kind := range []int{lex.Name, lex.Word, lex.Int, lex.Sign, lex.End, 0, -1, 99, math.MinInt} {
			if got := lex.Show(lex.Token{Kind: kind, Text: s, Num: 5, At: 3, Line: true}); got != s {
				t.Errorf("Show of %q, kind %d: %q", s, kind, got)
			}
		}
		if got := lex.Show(lex.Token{Kind: lex.Str, Text: s, Line: true}); got != str.Quote(s) {
			t.Errorf("Show of the Str %q: %q", s, got)
		}
	}
}

func TestJoin(t *testing.T) { // P8.4
	a, b, s, end := tok(lex.Name, 7, "a"), tok(lex.Sign, 3, "+"), tok(lex.Str, 5, "x\n\""), tok(lex.End, 9, "")
	for _, c := range []struct {
		want string
		list []lex.Token
	}{
		{"", nil},
		{"a", []lex.Token{a}},
		{"\na", []lex.Token{ended(a)}},
		{"a +", []lex.Token{a, b}},
		{"a\n+", []lex.Token{a, ended(b)}},
		{"\na\n+ a", []lex.Token{ended(a), ended(b), a}},
		{"", []lex.Token{end}},
		{"\n", []lex.Token{ended(end)}},
		{"a ", []lex.Token{a, end}},
		{"a\n", []lex.Token{a, ended(end)}},
		{" a", []lex.Token{end, a}},
		{`"x\n\"" + "x\n\""`, []lex.Token{s, b, s}},
		{"\n" + `"x\n\""`, []lex.Token{ended(s)}},
	} {
		if got := lex.Join(c.list...); got != c.want {
			t.Errorf("Join(%v): %q, not %q", c.list, got, c.want)
		}
	}
}

func TestSame(t *testing.T) { // P8.4
	one := []lex.Token{tok(lex.Name, 0, "a"), integer(2, "1", 1), ended(tok(lex.End, 4, ""))}
	if !lex.Same(nil, nil) || !lex.Same(nil, []lex.Token{}) || !lex.Same(one, one) || !lex.Same(one, slices.Clone(one)) {
		t.Error("Same of the same")
	}
	if lex.Same(one, one[:2]) || lex.Same(one[:2], one) || lex.Same(one, one[1:]) || lex.Same(nil, one) || lex.Same(one, nil) {
		t.Error("Same of lists of another length")
	}
	for i := range one {
		two := slices.Clone(one)
		two[i].At = math.MinInt
		if !lex.Same(one, two) || !lex.Same(two, one) {
			t.Errorf("token %d stands elsewhere", i)
		}
		for _, x := range []func(*lex.Token){
			func(t *lex.Token) { t.Kind++ },
			func(t *lex.Token) { t.Text += "x" },
			func(t *lex.Token) { t.Num-- },
			func(t *lex.Token) { t.Line = !t.Line },
		} {
			two := slices.Clone(one)
			x(&two[i])
			if lex.Same(one, two) || lex.Same(two, one) {
				t.Errorf("Same of %v and %v", one, two)
			}
		}
	}
	if lex.Same([]lex.Token{one[0], one[1]}, []lex.Token{one[1], one[0]}) {
		t.Error("Same of another order")
	}
}

// The same, told by patterns: what stands between tokens, and the tokens' sorts.
var (
	gaps   = regexp.MustCompile(`^(?:[\t\r\n ]|#[^\n]*|//[^\n]*|(?s:/\*.*?\*/))*`)
	names  = regexp.MustCompile(`^[A-Za-z_][A-Za-z_0-9]*`)
	ints   = regexp.MustCompile(`^[0-9][A-Za-z_0-9]*`)
	whole  = regexp.MustCompile(`^(?:0|[1-9][0-9]*)$`)
	hexes  = regexp.MustCompile(`^0x[0-9a-fA-F]+$`)
	quotes = regexp.MustCompile(`^(?:"(?:[^"\\\n]|\\[^\n])*"|'(?:[^'\\\n]|\\[^\n])*')`)
)

// told: the tokens of a source, or its fault, by the patterns.
func told(text string) ([]lex.Token, api.Fault) {
	var out []lex.Token
	at := 0
	for {
		gap := gaps.FindString(text[at:])
		at += len(gap)
		rest, t := text[at:], lex.Token{At: at, Line: strings.Contains(gap, "\n")}
		if rest == "" {
			t.Kind = lex.End
			return append(out, t), api.Fault{}
		}
		size, f := toldFirst(rest, &t)
		if f.Code != api.OK {
			return nil, api.Fault{Code: f.Code, At: at + f.At}
		}
		out = append(out, t)
		at += size
	}
}

// toldFirst: how many bytes the first token has; its kind, its text and its number are set.
func toldFirst(rest string, t *lex.Token) (int, api.Fault) {
	if s := names.FindString(rest); s != "" {
		t.Kind, t.Text = lex.Name, s
		if slices.Contains(strings.Fields(words), s) {
			t.Kind = lex.Word
		}
		return len(s), api.Fault{}
	}
	if s := ints.FindString(rest); s != "" {
		t.Kind, t.Text = lex.Int, s
		base, limit := 10, uint64(math.MaxInt64)
		if hexes.MatchString(s) {
			base, limit, s = 16, math.MaxUint64, s[2:]
		} else if !whole.MatchString(s) {
			return 0, api.Fault{Code: api.ErrForm}
		}
		n, err := strconv.ParseUint(s, base, 64)
		if err != nil || n > limit {
			return 0, api.Fault{Code: api.ErrOver}
		}
		t.Num = int64(n)
		return len(t.Text), api.Fault{}
	}
	if s := quotes.FindString(rest); s != "" {
		in, f := str.Unescape(s[1 : len(s)-1])
		if f.Code != api.OK {
			return 0, api.Fault{Code: f.Code, At: f.At + 1}
		}
		t.Kind, t.Text = lex.Str, in
		if s[0] == '\'' {
			if len(in) != 1 {
				return 0, api.Fault{Code: api.ErrForm}
			}
			t.Kind, t.Text, t.Num = lex.Int, s, int64(in[0])
		}
		return len(s), api.Fault{}
	}
	if rest[0] == '"' || rest[0] == '\'' || strings.HasPrefix(rest, "/*") {
		return 0, api.Fault{Code: api.ErrForm}
	}
	for _, s := range strings.Fields(signs) { // the longer ones come first
		if strings.HasPrefix(rest, s) {
			t.Kind, t.Text = lex.Sign, s
			return len(s), api.Fault{}
		}
	}
	return 0, api.Fault{Code: api.ErrSign}
}

// TestManySources: sources put together of pieces, as the patterns tell; what is joined of tokens is scanned as these.
func TestManySources(t *testing.T) { // P8.1 to P8.4
	pieces := append(strings.Fields(words+" "+signs), " ", " ", " ", "\n", "\n", "\t", "\r", "#", "//", "/*", "*/", "\"", "\"", "'", "'", "\\", "\\n", "\\x4", "\\\"", "a", "b0", "_", "0", "1", "0x", "0xF", "18446744073709551615", "9223372036854775807", "'a'", "'\\''", "\"x y\"", "@", "\xff", "é")
	seed := uint32(11)
	next := func(n int) int { // the same row of numbers each time
		seed = seed*1664525 + 1013904223
		return int(seed>>8) % n
	}
	fine := 0
	for range 40000 {
		text := ""
		for range next(12) {
			text += pieces[next(len(pieces))]
			if next(3) > 0 {
				text += " "
			}
		}
		want, wrong := told(text)
		got, f := lex.Scan(text)
		if f != wrong || !slices.Equal(got, want) {
			t.Fatalf("Scan(%q): %v %v, not %v %v", text, got, f, want, wrong)
		}
		if f.Code != api.OK {
			continue
		}
		fine++
		if again, f := lex.Scan(lex.Join(got...)); f.Code != api.OK || !lex.Same(again, got) {
			t.Fatalf("Join of the tokens of %q: %q comes back as %v %v", text, lex.Join(got...), again, f)
		}
	}
	if fine < 5000 {
		t.Errorf("%d of the sources are right: too few to tell anything", fine)
	}
}

// TestOwnMemory: tokens that are handed in stay as they are, with their spare room, and what is answered is of its own.
func TestOwnMemory(t *testing.T) { // P2
	text := strings.Repeat("a", 3)
	one, _ := lex.Scan(text)
	two, _ := lex.Scan(text)
	if unsafe.StringData(one[0].Text) == unsafe.StringData(text) || unsafe.StringData(one[0].Text) == unsafe.StringData(two[0].Text) {
		t.Error("a token shares memory with its source, or with another answer")
	}
	_ = append(one[:1], lex.Token{Kind: lex.Str})
	one[0].Text = "changed"
	scans(t, text, two...)
	list := []lex.Token{ended(tok(lex.Name, 3, text)), tok(lex.Str, 4, "b"), tok(lex.End, 5, "")}
	kept := slices.Clone(list)
	lex.Same(list[:1], two[:1])
	lex.Same(list, kept)
	lex.Join(list[:2]...)
	if !slices.Equal(list, kept) {
		t.Errorf("the list is changed: %v", list)
	}
	if unsafe.StringData(lex.Show(list[0])) == unsafe.StringData(text) || unsafe.StringData(lex.Join(tok(lex.Name, 0, text))) == unsafe.StringData(text) {
		t.Error("what is shown shares memory with its token")
	}
}

// TestLongWays: what is long is scanned soon.
func TestLongWays(t *testing.T) { // P1
	for _, s := range []string{"/*", "/**/", "\"", "\"\"", "\"\\", "'", "\\", "0x", "0", "9", "a", "#", "//", "\n", "/* ", "*/", "'a'", "\"a\" ", "\xff", "<", ">"} {
		lex.Scan(strings.Repeat(s, lex.MaxText/len(s)))
	}
}
