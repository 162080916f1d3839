package sfitem

import (
	"strconv"
	"strings"

	"glacis/api"
)

// How many digits a number may have.
const (
	intDigits   = 15
	wholeDigits = 12 // of a decimal, before the dot
	partDigits  = 3  // of a decimal, behind it
)

// tokenMarks are the bytes of a token besides letters and digits; \x60 is the grave accent.
const tokenMarks = ":/!#$%&'*+-.^_|~\x60"

// syntaxError is what a reader panics with: whatever it was in the midst of reading, nothing of it counts.
type syntaxError struct{}

// reader takes a text off from its beginning on.
type reader struct{ rest string }

// guard answers what read takes off r and what it leaves, or the error that it panics with.
func guard[T any](r *reader, read func() T) (got T, rest string, err api.Errno) {
	defer func() {
		fault := recover()
		if fault == nil {
			return
		}
		if _, ours := fault.(syntaxError); !ours {
			panic(fault)
		}
		err = api.ErrSfForm
	}()
	got = read()
	return got, r.rest, api.OK
}

func need(holds bool) {
	if !holds {
		panic(syntaxError{})
	}
}

func (r *reader) item() api.Item {
	v := r.value()
	return api.Item{Kind: v.kind, Int: v.num, Text: v.text, Params: r.params()}
}

// params keeps the place of a key that comes again: the first one that it had.
func (r *reader) params() []api.Param {
	var l []api.Param
	places := map[string]int{}
	for r.skip(';') {
		r.take(isSpace)
		p := r.param()
		if place, again := places[p.Key]; again {
			l[place] = p
			continue
		}
		places[p.Key] = len(l)
		l = append(l, p)
	}
	return l
}

func (r *reader) param() api.Param {
	key, v := r.key(), truth(1)
	if r.skip('=') {
		v = r.value()
	}
	return api.Param{Key: key, Kind: v.kind, Int: v.num, Text: v.text}
}

func (r *reader) key() string {
	need(isLower(r.first()) || r.first() == '*')
	return r.take(isKeyByte)
}

func (r *reader) value() value {
	read := r.form()
	return read()
}

// form is the method that reads what begins with the first byte there is.
func (r *reader) form() func() value {
	switch c := r.first(); {
	case c == '-' || isDigit(c):
		return r.number
	case c == '"':
		return r.quotation
	case isLetter(c) || c == '*':
		return r.token
	case c == ':':
		return r.sequence
	case c == '?':
		return r.truth
	}
	panic(syntaxError{})
}

func (r *reader) number() value {
	negative := r.skip('-')
	digits, kind := r.take(isDigit), api.SfInt
	need(digits != "" && len(digits) <= intDigits)
	if r.skip('.') {
		part := r.take(isDigit)
		need(len(digits) <= wholeDigits && part != "" && len(part) <= partDigits)
		digits, kind = digits+part+strings.Repeat("0", partDigits-len(part)), api.SfDecimal
	}
	// So few digits can't be too many for an int.
	n, _ := strconv.Atoi(digits)
	if negative {
		n = -n
	}
	return value{kind: kind, num: n}
}

func (r *reader) quotation() value {
	r.skip('"')
	var text []byte
	for !r.skip('"') {
		if r.skip('\\') {
			need(r.first() == '"' || r.first() == '\\')
		}
		need(isPrintable(r.first()))
		text = append(text, r.first())
		r.rest = r.rest[1:]
	}
	return value{kind: api.SfText, text: string(text)}
}

func (r *reader) token() value {
	return value{kind: api.SfToken, text: r.take(isTokenByte)}
}

func (r *reader) sequence() value {
	r.skip(':')
	text := r.take(isSequenceByte)
	need(r.skip(':'))
	return value{kind: api.SfBytes, text: text}
}

func (r *reader) truth() value {
	r.skip('?')
	if r.skip('1') {
		return truth(1)
	}
	need(r.skip('0'))
	return truth(0)
}

func (r *reader) first() byte {
	need(r.rest != "")
	return r.rest[0]
}

// skip takes off one byte, if it is c.
func (r *reader) skip(c byte) bool {
	if r.rest == "" || r.rest[0] != c {
		return false
	}
	r.rest = r.rest[1:]
	return true
}

// take takes off as many bytes as fit.
func (r *reader) take(fits func(byte) bool) string {
	n := 0
	for n < len(r.rest) && fits(r.rest[n]) {
		n++
	}
	taken := r.rest[:n]
	r.rest = r.rest[n:]
	return taken
}

func isSpace(c byte) bool { return c == ' ' }

func isDigit(c byte) bool { return '0' <= c && c <= '9' }

func isLower(c byte) bool { return 'a' <= c && c <= 'z' }

func isLetter(c byte) bool { return isLower(c) || 'A' <= c && c <= 'Z' }

func isPrintable(c byte) bool { return ' ' <= c && c <= '~' }

func isKeyByte(c byte) bool {
	return isLower(c) || isDigit(c) || c == '_' || c == '-' || c == '.' || c == '*'
}

func isTokenByte(c byte) bool {
	return isLetter(c) || isDigit(c) || strings.IndexByte(tokenMarks, c) >= 0
}

// isSequenceByte doesn't ask where a `=` stands: that the bytes can be decoded is not promised.
func isSequenceByte(c byte) bool {
	return isLetter(c) || isDigit(c) || c == '+' || c == '/' || c == '='
}
