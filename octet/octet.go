// Package octet is layer 1: byte-level functions on strings. None of them looks at runes: a byte beyond ASCII is a byte like any other.
package octet

import "strings"

// tokenMarks are the bytes of a token besides letters and digits; \x60 is the grave accent.
const tokenMarks = "!#$%&'*+-.^_|~\x60"

// Lower is s with A to Z made small. It isn't strings.ToLower, which would also change letters beyond ASCII and mend broken UTF-8.
func Lower(s string) string {
	b := []byte(s)
	for i := range len(b) {
		if 'A' <= b[i] && b[i] <= 'Z' {
			b[i] += 'a' - 'A'
		}
	}
	return string(b)
}

// Fold tells whether a and b are the same but for the case of A to Z.
func Fold(a, b string) bool { return Lower(a) == Lower(b) }

// Trim is s without the blanks at its ends.
func Trim(s string) string {
	from, to := 0, len(s)
	for from < to && blank(s[from]) {
		from++
	}
	for from < to && blank(s[to-1]) {
		to--
	}
	return s[from:to]
}

// Split are the parts of s between the bytes by, empty ones too.
func Split(s string, by byte) []string {
	var out []string
	isBy := func(c byte) bool { return c == by }
	cut(s, isBy, func(part string) { out = append(out, part) })
	return out
}

// Words are the parts of s between blanks that aren't empty.
func Words(s string) []string {
	var out []string
	cut(s, blank, func(part string) {
		if part != "" {
			out = append(out, part)
		}
	})
	return out
}

// Token tells whether s is a token.
func Token(s string) bool {
	for i := range len(s) {
		if !tokenByte(s[i]) {
			return false
		}
	}
	return s != ""
}

// Number is the number that the digits of s denote, if it is at most most.
func Number(s string, most int) (int, bool) {
	if s == "" || len(s) > 1 && s[0] == '0' {
		return 0, false
	}
	n := 0
	for i := range len(s) {
		if !digit(s[i]) {
			return 0, false
		}
		d := int(s[i] - '0')
		// n*10 + d > most, asked so that neither side can overflow.
		if d > most || n > (most-d)/10 {
			return 0, false
		}
		n = n*10 + d
	}
	return n, true
}

// cut hands take the parts of s between the separating bytes, in order: always one part more than there are such bytes.
func cut(s string, separates func(byte) bool, take func(string)) {
	from := 0
	for i := range len(s) {
		if separates(s[i]) {
			take(s[from:i])
			from = i + 1
		}
	}
	take(s[from:])
}

// blank leaves out byte 11, the vertical tab, on purpose: unicode.IsSpace and strings.Fields take it in.
func blank(c byte) bool {
	return c == '\t' || c == '\n' || c == '\f' || c == '\r' || c == ' '
}

func digit(c byte) bool { return '0' <= c && c <= '9' }

func letter(c byte) bool { return 'a' <= c && c <= 'z' || 'A' <= c && c <= 'Z' }

func tokenByte(c byte) bool {
	return letter(c) || digit(c) || strings.IndexByte(tokenMarks, c) >= 0
}
