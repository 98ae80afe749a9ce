// Package str does things with texts, byte by byte.
package str

import (
	"strings"

	"drey/api"
)

// MaxLen is how many bytes a text has at most that is made here of others.
const MaxLen = 1 << 20

const hexDigits = "0123456789abcdef"

// Quote: a text as it stands in a source: between two quotes, with what can't stand there behind a backslash.
func Quote(s string) string {
	var out strings.Builder
	out.WriteByte('"')
	for i := range len(s) {
		out.WriteString(Escape(s[i]))
	}
	out.WriteByte('"')
	return out.String()
}

// Escape: a byte as it stands between quotes.
func Escape(c byte) string {
	switch c {
	case '"', '\'', '\\':
		return string([]byte{'\\', c})
	case '\n':
		return "\\n"
	case '\r':
		return "\\r"
	case '\t':
		return "\\t"
	}
	if c >= ' ' && c <= '~' {
		return string([]byte{c})
	}
	return string([]byte{'\\', 'x', hexDigits[c>>4], hexDigits[c&15]})
}

// Unescape: the text of what stands between quotes; the first backslash behind which nothing stands that can, and at which byte it is.
func Unescape(s string) (string, api.Fault) {
	var out strings.Builder
	for at := 0; at < len(s); {
		if s[at] != '\\' {
			out.WriteByte(s[at])
			at++
			continue
		}
		c, n := escaped(s[at+1:])
		if n == 0 {
			return "", api.Fault{Code: api.ErrEscape, At: at}
		}
		out.WriteByte(c)
		at += 1 + n
	}
	return out.String(), api.Fault{}
}

// Compare: -1, 0 or 1, byte by byte.
func Compare(a, b string) int64 { return int64(strings.Compare(a, b)) }

// Hash: a text's hash.
func Hash(s string) uint64 {
	// These are the start and the factor of FNV-1a.
	h := uint64(0xcbf29ce484222325)
	for i := range len(s) {
		h = (h ^ uint64(s[i])) * 0x100000001b3
	}
	return h
}

// Slice: a piece of a text, from a place up to another one, each perhaps from the end.
func Slice(s string, from, to int64) (string, api.Errno) {
	n := int64(len(s))
	from, to = place(from, n), place(to, n)
	if from < 0 || from > to || to > n {
		return "", api.ErrRange
	}
	return piece(s, int(from), int(to)), api.OK
}

// Find: the first place, from one on, at which a text stands in another one; -1: there is none.
func Find(s, what string, from int64) int64 {
	if from < 0 || from > int64(len(s)) {
		return -1
	}
	at := strings.Index(s[from:], what)
	if at < 0 {
		return -1
	}
	return from + int64(at)
}

// Lower, Upper: with small letters, with great ones.
func Lower(s string) string {
	out := []byte(s)
	for i := range len(out) {
		if isGreat(out[i]) {
			out[i] += 'a' - 'A'
		}
	}
	return string(out)
}

func Upper(s string) string {
	out := []byte(s)
	for i := range len(out) {
		if isSmall(out[i]) {
			out[i] -= 'a' - 'A'
		}
	}
	return string(out)
}

// Strip: without the blanks at both ends; at the front alone; at the end alone.
func Strip(s string) string {
	from := blanksAhead(s)
	return piece(s, from, blanksBehind(s, from))
}

func Front(s string) string { return piece(s, blanksAhead(s), len(s)) }

func Back(s string) string { return piece(s, 0, blanksBehind(s, 0)) }

// Split: the pieces between bytes of a text, one at least.
func Split(s, by string) []string {
	var cuts [256]bool
	for i := range len(by) {
		cuts[by[i]] = true
	}
	out, from := []string{}, 0
	for i := range len(s) {
		if cuts[s[i]] {
			out = append(out, piece(s, from, i))
			from = i + 1
		}
	}
	return append(out, piece(s, from, len(s)))
}

// Join: pieces behind each other, with a text between two, if that isn't too long.
func Join(by string, list ...string) (string, api.Errno) {
	var out strings.Builder
	for i, s := range list {
		if i > 0 && !add(&out, by) || !add(&out, s) {
			return "", api.ErrLong
		}
	}
	return out.String(), api.OK
}

// Name: is a text a name: a letter or a low line, and these and digits?
func Name(s string) bool {
	for i := range len(s) {
		if !startsName(s[i]) && (i == 0 || !isDigit(s[i])) {
			return false
		}
	}
	return s != ""
}

// piece: a piece of a text, of its own: a small one doesn't keep all of a great one.
func piece(s string, from, to int) string { return strings.Clone(s[from:to]) }

// place: a place in n bytes, perhaps from the end.
func place(at, n int64) int64 {
	if at < 0 {
		return at + n
	}
	return at
}

// add: puts a text behind what is there, if that isn't too long then.
func add(out *strings.Builder, s string) bool {
	if len(s) > MaxLen-out.Len() {
		return false
	}
	out.WriteString(s)
	return true
}

// escaped: the byte that stands behind a backslash at the beginning of s, and how many bytes tell it; 0: nothing such is there.
func escaped(s string) (byte, int) {
	if s == "" {
		return 0, 0
	}
	switch s[0] {
	case '"', '\'', '\\':
		return s[0], 1
	case 'n':
		return '\n', 1
	case 'r':
		return '\r', 1
	case 't':
		return '\t', 1
	case '0':
		return 0, 1
	case 'x':
		return hexByte(s)
	}
	return 0, 0
}

// hexByte: likewise of an x and the one or two digits behind it.
func hexByte(s string) (byte, int) {
	c, n := byte(0), 1
	for n < len(s) && n < 3 {
		d, ok := hexDigit(s[n])
		if !ok {
			break
		}
		c = c<<4 | d
		n++
	}
	if n == 1 {
		return 0, 0
	}
	return c, n
}

func hexDigit(c byte) (byte, bool) {
	switch {
	case isDigit(c):
		return c - '0', true
	case c >= 'a' && c <= 'f':
		return c - 'a' + 10, true
	case c >= 'A' && c <= 'F':
		return c - 'A' + 10, true
	}
	return 0, false
}

// blanksAhead: how many blanks a text begins with.
func blanksAhead(s string) int {
	for i := range len(s) {
		if !isBlank(s[i]) {
			return i
		}
	}
	return len(s)
}

// blanksBehind: where the blanks begin with which a text ends, from a place on.
func blanksBehind(s string, from int) int {
	to := len(s)
	for to > from && isBlank(s[to-1]) {
		to--
	}
	return to
}

func isBlank(c byte) bool { return c == ' ' || c >= 9 && c <= 13 }

func isDigit(c byte) bool { return c >= '0' && c <= '9' }

func isSmall(c byte) bool { return c >= 'a' && c <= 'z' }

func isGreat(c byte) bool { return c >= 'A' && c <= 'Z' }

func startsName(c byte) bool { return isSmall(c) || isGreat(c) || c == '_' }
