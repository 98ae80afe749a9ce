package sink_test

import (
	"math"
	"slices"
	"strings"
	"testing"
	"unsafe"

	"drey/api"
	"drey/sink"
	"drey/str"
)

// every: a text of all bytes, each once, in order.
func every() string {
	list := make([]byte, 256)
	for i := range list {
		list[i] = byte(i)
	}
	return string(list)
}

// holds: does a sink have just this text, by all that tells of it?
func holds(t *testing.T, what string, s *sink.Sink, limit int, text string, full bool) {
	t.Helper()
	left := limit - len(text)
	if full {
		left = 0
	}
	if s.Text() != text || s.Len() != len(text) || s.Left() != left || s.Full() != full {
		t.Errorf("%s: %q, %d bytes, %d left, full: %v; not %q, %d, %d, %v", what, s.Text(), s.Len(), s.Left(), s.Full(), text, len(text), left, full)
	}
}

func TestNew(t *testing.T) { // P7.1
	for _, limit := range []int{0, 1, 5, 1 << 20, 1 << 40, math.MaxInt} {
		holds(t, "New", sink.New(limit), limit, "", false)
	}
	for _, limit := range []int{-1, -5, math.MinInt} {
		s := sink.New(limit)
		holds(t, "New below 0", s, 0, "", false)
		if e := s.Print(""); e != api.OK {
			t.Errorf("New(%d): Print of nothing: %v", limit, e)
		}
		if e := s.Print("a"); e != api.ErrFull {
			t.Errorf("New(%d): Print: %v", limit, e)
		}
		holds(t, "Print where no room is", s, 0, "", true)
	}
}

func TestPrint(t *testing.T) { // P7.1
	for _, c := range []struct {
		limit int
		list  []string
		text  string
		full  bool
	}{
		{5, nil, "", false},
		{5, []string{""}, "", false},
		{5, []string{"", "a", "", "bc"}, "abc", false},
		{5, []string{"abcde"}, "abcde", false},
		{5, []string{"abc", "de"}, "abcde", false},
		{5, []string{"abcde", "", ""}, "abcde", false},
		{5, []string{"abcdef"}, "abcde", true},
		{5, []string{"abcde", "f"}, "abcde", true},
		{5, []string{"abc", "def", "g"}, "abcde", true},
		{5, []string{"abcdef", ""}, "abcde", true},
		{5, []string{"\n\x00\xff\"é"}, "\n\x00\xff\"\xc3", true},
		{0, nil, "", false},
		{0, []string{"", ""}, "", false},
		{0, []string{"", "a"}, "", true},
		{256, []string{every()}, every(), false},
		{math.MaxInt, []string{"a", "b"}, "ab", false},
	} {
		s, want := sink.New(c.limit), api.OK
		if c.full {
			want = api.ErrFull
		}
		if e := s.Print(c.list...); e != want {
			t.Errorf("Print(%q) of %d: %v, not %v", c.list, c.limit, e, want)
		}
		holds(t, "Print", s, c.limit, c.text, c.full)
	}
}

func TestPrintBehind(t *testing.T) { // P7.1
	s := sink.New(4)
	for _, c := range []struct {
		list []string
		e    api.Errno
		text string
	}{
		{[]string{"a"}, api.OK, "a"},
		{nil, api.OK, "a"},
		{[]string{"b", "c"}, api.OK, "abc"},
		{[]string{"d"}, api.OK, "abcd"},
		{[]string{""}, api.OK, "abcd"},
		{[]string{"e"}, api.ErrFull, "abcd"},
		{[]string{""}, api.ErrFull, "abcd"},
		{nil, api.ErrFull, "abcd"},
		{[]string{"f"}, api.ErrFull, "abcd"},
	} {
		if e := s.Print(c.list...); e != c.e {
			t.Errorf("Print(%q): %v, not %v", c.list, e, c.e)
		}
		holds(t, "Print behind", s, 4, c.text, c.e != api.OK)
	}
}

func TestLine(t *testing.T) { // P7.1
	for _, c := range []struct {
		limit int
		list  []string
		text  string
		full  bool
	}{
		{5, nil, "\n", false},
		{5, []string{""}, "\n", false},
		{5, []string{"ab", "c"}, "abc\n", false},
		{4, []string{"abc"}, "abc\n", false},
		{3, []string{"abc"}, "abc", true},
		{2, []string{"abc"}, "ab", true},
		{2, []string{"a", "bc"}, "ab", true},
		{1, nil, "\n", false},
		{0, nil, "", true},
		{0, []string{"a"}, "", true},
		{-1, []string{""}, "", true},
	} {
		s, want := sink.New(c.limit), api.OK
		if c.full {
			want = api.ErrFull
		}
		if e := s.Line(c.list...); e != want {
			t.Errorf("Line(%q) of %d: %v, not %v", c.list, c.limit, e, want)
		}
		holds(t, "Line", s, max(c.limit, 0), c.text, c.full)
		if e := s.Line(); c.full && e != api.ErrFull {
			t.Errorf("Line of a full one: %v", e)
		}
	}
}

func TestLinesOfTheExample(t *testing.T) { // P7.1
	s := sink.New(5)
	if e := s.Line("ab"); e != api.OK {
		t.Errorf("Line: %v", e)
	}
	holds(t, "Line", s, 5, "ab\n", false)
	if e := s.Print("cde"); e != api.ErrFull {
		t.Errorf("Print: %v", e)
	}
	holds(t, "Print", s, 5, "ab\ncd", true)
}

// TestManyPrints: a sink holds what a plain text would, cut off where it ends.
func TestManyPrints(t *testing.T) { // P7.1
	for limit := range 60 {
		s, all := sink.New(limit), ""
		for i := range 20 {
			list := []string{every()[i : i+i%5], strings.Repeat("x", i%3), ""}[:i%4%3+1]
			all += strings.Join(list, "")
			e := api.OK
			if i%3 == 0 {
				e = s.Line(list...)
				all += "\n"
			} else {
				e = s.Print(list...)
			}
			if full := len(all) > limit; full != (e == api.ErrFull) || !full && e != api.OK {
				t.Fatalf("limit %d, call %d: %v", limit, i, e)
			}
			holds(t, "many prints", s, limit, all[:min(limit, len(all))], len(all) > limit)
		}
	}
}

func TestRead(t *testing.T) { // P7.2
	for _, lines := range [][]string{nil, {""}, {"a"}, {"a", "", "b\nc", "\x00\xff", "a"}, {"", ""}} {
		s := sink.Read(lines...)
		for i, line := range lines {
			if s.Taken() != i {
				t.Errorf("Taken ahead of line %d: %d", i, s.Taken())
			}
			if got, ok := s.Next(); got != line || !ok {
				t.Errorf("line %d: %q %v, not %q", i, got, ok, line)
			}
		}
		for range 3 {
			if got, ok := s.Next(); got != "" || ok {
				t.Errorf("Next behind %d lines: %q %v", len(lines), got, ok)
			}
			if s.Taken() != len(lines) {
				t.Errorf("Taken of %d lines: %d", len(lines), s.Taken())
			}
		}
	}
}

func TestTwoSources(t *testing.T) { // P7.2, P2
	lines := []string{"a", "b", "c"}
	one, two := sink.Read(lines...), sink.Read(lines...)
	one.Next()
	one.Next()
	if got, ok := two.Next(); got != "a" || !ok || two.Taken() != 1 || one.Taken() != 2 {
		t.Errorf("Next: %q %v, taken %d and %d", got, ok, one.Taken(), two.Taken())
	}
}

// built: does a builder have this text, or is it too long?
func built(t *testing.T, what string, b *sink.Builder, text string, e api.Errno) {
	t.Helper()
	if got, f := b.Text(); got != text || f != e {
		t.Errorf("%s: %d bytes, %v, not %d, %v", what, len(got), f, len(text), e)
	}
}

func TestBuilder(t *testing.T) { // P7.3
	var b sink.Builder
	built(t, "the zero one", &b, "", api.OK)
	all := ""
	for _, list := range [][]string{nil, {""}, {"a"}, {"b", "", "c\n"}, {every()}, {"", "\xff"}} {
		if e := b.Add(list...); e != api.OK {
			t.Errorf("Add(%q): %v", list, e)
		}
		all += strings.Join(list, "")
		built(t, "Add", &b, all, api.OK)
	}
}

func TestBuilderTooLong(t *testing.T) { // P7.3
	full := strings.Repeat("f", str.MaxLen)
	for i, c := range []struct {
		lists [][]string
		text  string
		e     api.Errno
	}{
		{[][]string{{full}}, full, api.OK},
		{[][]string{{full, "", ""}, {""}, nil}, full, api.OK},
		{[][]string{{full[1:]}, {"f"}}, full, api.OK},
		{[][]string{{"f", full[1:]}}, full, api.OK},
		{[][]string{{full + "f"}}, "", api.ErrLong},
		{[][]string{{full, "f"}}, "", api.ErrLong},
		{[][]string{{"f", full}}, "", api.ErrLong},
		{[][]string{{"f", full, ""}}, "", api.ErrLong},
		{[][]string{{full}, {"f"}}, "", api.ErrLong},
		{[][]string{{full}, {"f"}, {""}}, "", api.ErrLong},
		{[][]string{{full}, {"f"}, nil}, "", api.ErrLong},
		{[][]string{{full + "f"}, {"a"}}, "", api.ErrLong},
		{[][]string{{"a", full, "b"}, {"c"}, {"d"}}, "", api.ErrLong},
		{[][]string{{"a"}, {full + full}}, "", api.ErrLong},
	} {
		var b sink.Builder
		e := api.OK
		for _, list := range c.lists {
			e = b.Add(list...)
		}
		if e != c.e {
			t.Errorf("case %d: %v, not %v", i, e, c.e)
		}
		built(t, "too long", &b, c.text, c.e)
	}
}

func TestBuilderByteByByte(t *testing.T) { // P7.3
	var b sink.Builder
	for i := range str.MaxLen {
		if e := b.Add("f"); e != api.OK {
			t.Fatalf("byte %d: %v", i, e)
		}
	}
	built(t, "as long as may be", &b, strings.Repeat("f", str.MaxLen), api.OK)
	for range 2 {
		if e := b.Add("f"); e != api.ErrLong {
			t.Errorf("a byte more: %v", e)
		}
		built(t, "a byte more", &b, "", api.ErrLong)
	}
}

func TestLines(t *testing.T) { // P7.4
	for text, want := range map[string][]string{
		"":            nil,
		"\n":          {""},
		"\n\n":        {"", ""},
		"a":           {"a"},
		"a\n":         {"a"},
		"a\nb":        {"a", "b"},
		"a\n\nb":      {"a", "", "b"},
		"\na\n\n":     {"", "a", ""},
		"\nb":         {"", "b"},
		"a\r\n\tb c":  {"a\r", "\tb c"},
		"a\vb\fc\x85": {"a\vb\fc\x85"},
		"\x00\n\xff":  {"\x00", "\xff"},
		" \n ":        {" ", " "},
	} {
		if got := sink.Lines(text); !slices.Equal(got, want) {
			t.Errorf("Lines(%q): %q, not %q", text, got, want)
		}
	}
	if got := sink.Lines(strings.Repeat("ab\n", 100000)); len(got) != 100000 || got[99999] != "ab" {
		t.Errorf("many lines: %d", len(got))
	}
	for i, line := range sink.Lines(every()) {
		if want := []string{every()[:10], every()[11:]}[i]; line != want {
			t.Errorf("line %d of all bytes: %q", i, line)
		}
	}
}

// TestOwnMemory: lists that are handed in stay as they are, with their spare room, and are not kept; what is answered is of its own.
func TestOwnMemory(t *testing.T) { // P2
	back := []string{"ab", "cd", "ef", "gh"}
	s, r, b := sink.New(100), sink.Read(back[:2]...), sink.Builder{}
	s.Print(back[:2]...)
	s.Line(back[:2]...)
	b.Add(back[:2]...)
	if !slices.Equal(back, []string{"ab", "cd", "ef", "gh"}) {
		t.Errorf("a list that is handed in is changed: %q", back)
	}
	kept := unsafe.StringData(back[0])
	back[0], back[1] = "changed", "changed"
	line, _ := r.Next()
	if line != "ab" || unsafe.StringData(line) == kept {
		t.Errorf("Read keeps its list, or its texts: %q", line)
	}
	one, _ := b.Text()
	two, _ := b.Text()
	if unsafe.StringData(one) == unsafe.StringData(two) || unsafe.StringData(s.Text()) == unsafe.StringData(s.Text()) {
		t.Error("two answers share memory")
	}
	b.Add("more")
	s.Print("more")
	if one != "abcd" || two != "abcd" {
		t.Errorf("what was answered changed: %q %q", one, two)
	}
	text := "xy\nz"
	lines, again := sink.Lines(text), sink.Lines(text)
	_ = append(lines[:1], "changed")
	lines[0] = "changed"
	if !slices.Equal(again, []string{"xy", "z"}) || unsafe.StringData(again[0]) == unsafe.StringData(text) {
		t.Errorf("Lines shares memory: %q", again)
	}
}

// TestApart: what one has another one hasn't.
func TestApart(t *testing.T) { // P2
	one, two := sink.New(3), sink.New(3)
	var a, b sink.Builder
	one.Print("abcd")
	a.Add(strings.Repeat("f", str.MaxLen+1))
	holds(t, "another one is full", two, 3, "", false)
	built(t, "another one is too long", &b, "", api.OK)
}
