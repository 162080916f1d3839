package sfitem

import (
	"math/rand"
	"reflect"
	"regexp"
	"strconv"
	"strings"
	"testing"

	"glacis/api"
)

// The second reckoning: the chapter's forms as patterns.
var (
	formNumber   = regexp.MustCompile(`^-?[0-9]+(\.[0-9]*)?`)
	formInt      = regexp.MustCompile(`^-?[0-9]{1,15}$`)
	formDecimal  = regexp.MustCompile(`^-?[0-9]{1,12}\.[0-9]{1,3}$`)
	formText     = regexp.MustCompile(`^"(?:[ !#-\[\]-~]|\\["\\])*"`)
	formToken    = regexp.MustCompile("^[A-Za-z*][A-Za-z0-9:/!#$%&'*+\\-.^_|~\x60]*")
	formBytes    = regexp.MustCompile(`^:[A-Za-z0-9+/=]*:`)
	formBool     = regexp.MustCompile(`^\?[01]`)
	formKey      = regexp.MustCompile(`^[a-z*][a-z0-9_\-.*]*`)
	formEscape   = regexp.MustCompile(`\\(.)`)
	formBlankKey = regexp.MustCompile(`^; *([a-z*][a-z0-9_\-.*]*)`)
)

func reckonNumber(s string) api.Item {
	if formInt.MatchString(s) {
		n, _ := strconv.Atoi(s)
		return integer(n)
	}
	if !formDecimal.MatchString(s) {
		return api.Item{}
	}
	whole, part, _ := strings.Cut(s, ".")
	n, _ := strconv.Atoi(whole + (part + "00")[:3])
	return decimal(n)
}

func reckonValue(s string) (api.Item, string) {
	if m := formNumber.FindString(s); m != "" {
		return reckonNumber(m), s[len(m):]
	}
	if m := formText.FindString(s); m != "" {
		return text(formEscape.ReplaceAllString(m[1:len(m)-1], "$1")), s[len(m):]
	}
	if m := formToken.FindString(s); m != "" {
		return token(m), s[len(m):]
	}
	if m := formBytes.FindString(s); m != "" {
		return sequence(m[1 : len(m)-1]), s[len(m):]
	}
	if m := formBool.FindString(s); m != "" {
		return boolean(int(m[1] - '0')), s[len(m):]
	}
	return api.Item{}, ""
}

// reckonParams goes through the whole list for each key, rather than ask a map.
func reckonParams(s string) ([]api.Param, string, bool) {
	var l []api.Param
read:
	for strings.HasPrefix(s, ";") {
		m := formBlankKey.FindStringSubmatch(s)
		if m == nil {
			return nil, "", false
		}
		s = s[len(m[0]):]
		x := boolean(1)
		if after, has := strings.CutPrefix(s, "="); has {
			if x, s = reckonValue(after); x.Kind == 0 {
				return nil, "", false
			}
		}
		for i := range l {
			if l[i].Key == m[1] {
				l[i] = param(m[1], x)
				continue read
			}
		}
		l = append(l, param(m[1], x))
	}
	return l, s, true
}

func reckonNext(s string) (api.Item, string, bool) {
	x, rest := reckonValue(s)
	if x.Kind == 0 {
		return api.Item{}, "", false
	}
	l, rest, ok := reckonParams(rest)
	if !ok {
		return api.Item{}, "", false
	}
	return with(x, l...), rest, true
}

// checkReckoned holds all that reads against the second reckoning, and asks P5.4 of what was read.
func checkReckoned(t *testing.T, s string) {
	t.Helper()
	want, wantRest, ok := reckonNext(s)
	x, rest, err := Next(s)
	if !same(x, want) || rest != wantRest || ok != (err == api.OK) || !ok && err != api.ErrSfForm {
		t.Fatalf("Next(%q) = %v, %q, %d, not %v, %q", s, x, rest, err, want, wantRest)
	}
	wantParams, wantRest, ok := reckonParams(s)
	l, rest, err := Params(s)
	if !sameParams(l, wantParams) || rest != wantRest || ok != (err == api.OK) || !ok && err != api.ErrSfForm {
		t.Fatalf("Params(%q) = %v, %q, %d, not %v, %q", s, l, rest, err, wantParams, wantRest)
	}
	wantKey := formKey.FindString(s)
	key, rest, err := Key(s)
	if key != wantKey || wantKey != "" && (err != api.OK || key+rest != s) || wantKey == "" && (err != api.ErrSfForm || rest != "") {
		t.Fatalf("Key(%q) = %q, %q, %d", s, key, rest, err)
	}
	want, wantRest, ok = reckonNext(strings.Trim(s, " "))
	if !ok || wantRest != "" || len(s) > api.MaxField {
		want, ok = api.Item{}, false
	}
	x, err = Parse(s)
	if !same(x, want) || ok != (err == api.OK) || !ok && err != api.ErrSfForm {
		t.Fatalf("Parse(%q) = %v, %d, not %v", s, x, err, want)
	}
	if ok {
		checkRound(t, x)
	}
}

// checkRound asks P5.4 of a valid item.
func checkRound(t *testing.T, x api.Item) {
	t.Helper()
	s, err := Text(x)
	if err != api.OK {
		t.Fatalf("Text(%v): error %d", x, err)
	}
	again, err := Parse(s)
	if err != api.OK || !same(again, x) {
		t.Fatalf("%v has the text %q, which is read as %v, %d", x, s, again, err)
	}
	if next, err := Text(again); next != s || err != api.OK {
		t.Fatalf("%v has the texts %q and %q", x, s, next)
	}
}

// P5.1, P5.2, P5.4: all short texts of the bytes that matter.
func TestAllShortTexts(t *testing.T) {
	const letters = "aB01-.\"\\:?*;= ,/_\xff"
	var grow func(s string, more int)
	grow = func(s string, more int) {
		checkReckoned(t, s)
		if more == 0 {
			return
		}
		for i := range len(letters) {
			grow(s+letters[i:i+1], more-1)
		}
	}
	grow("", 4)
}

// P5.1, P5.2, P5.4: longer texts, put together of pieces by a fixed seed.
func TestManyTexts(t *testing.T) {
	pieces := []string{
		";", "; ", "=", " ", ",", "a", "b", "A", "*", "-", ".", "0", "1", "25", "999999999999", "\"", "\\\"", "\\\\", "\\", ":", "?0", "?1", "?",
		";a", ";b", ";a=", ";c=\"x\"", ";d=1.5", ";*=:YQ==:", "\"x y\"", "tok/en", ":+/=:", "\x7f", "\x00", "\u00e9", "\t",
	}
	random := rand.New(rand.NewSource(5))
	for range 200000 {
		var s strings.Builder
		for range random.Intn(12) {
			s.WriteString(pieces[random.Intn(len(pieces))])
		}
		checkReckoned(t, s.String())
	}
}

// P5.4: valid items made by hand are read as they were, and no two of them have one text.
func TestRoundOfValid(t *testing.T) {
	values := []api.Item{boolean(0), boolean(1), integer(greatest), integer(-greatest), decimal(greatest), decimal(-greatest)}
	for n := -2500; n <= 2500; n++ {
		values = append(values, integer(n), decimal(n), integer(n*399999999999), decimal(n*399999999999))
	}
	for _, s := range []string{"", "a", "*", "A/b:c", "0", "a\"b", `\`, `\\"`, " ", "a b", "+/=", "?1", "1.5", ":a:", ";a=1"} {
		values = append(values, text(s))
		for _, x := range []api.Item{token(s), sequence(s)} {
			if _, err := Text(x); err == api.OK {
				values = append(values, x)
			}
		}
	}
	owner := map[string]api.Item{}
	for i, x := range values {
		beside := values[(i*7+3)%len(values)]
		for _, y := range []api.Item{x, with(x, param("a", beside)), with(x, param("b-1", beside), param("a", x))} {
			checkRound(t, y)
			s, _ := Text(y)
			if other, has := owner[s]; has && !reflect.DeepEqual(other, y) {
				t.Fatalf("%v and %v have one text %q", other, y, s)
			}
			owner[s] = y
		}
	}
}
