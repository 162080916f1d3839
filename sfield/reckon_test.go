package sfield

import (
	"math/rand"
	"regexp"
	"strings"
	"testing"

	"glacis/api"
	"glacis/sfitem"
)

// The second reckoning: the chapter's forms as patterns of a whole field, and pieces cut out of what has that form.
const (
	patKey    = `[a-z*][a-z0-9_\-.*]*`
	patString = `"(?:[ !#-\[\]-~]|\\["\\])*"`
	patValue  = `(?:-?[0-9]{1,12}\.[0-9]{1,3}|-?[0-9]{1,15}|` + patString + "|[A-Za-z*][A-Za-z0-9:/!#$%&'*+\\-.^_|~\x60]*" + `|:[A-Za-z0-9+/=]*:|\?[01])`
	patParams = `(?:; *` + patKey + `(?:=` + patValue + `)?)*`
	patItem   = patValue + patParams
	patInner  = `\( *(?:` + patItem + `(?: +` + patItem + `)*)? *\)` + patParams
	patMember = `(?:` + patItem + `|` + patInner + `)`
	patEntry  = patKey + `(?:=` + patMember + `|` + patParams + `)`
	patComma  = `[ \t]*,[ \t]*`
)

var (
	formList  = regexp.MustCompile(`^ *(?:` + patMember + `(?:` + patComma + patMember + `)*[ \t]*)? *$`)
	formDict  = regexp.MustCompile(`^ *(?:` + patEntry + `(?:` + patComma + patEntry + `)*[ \t]*)? *$`)
	formPiece = regexp.MustCompile(patString + `|[^",]`)
	formItem  = regexp.MustCompile(patItem)
	formFirst = regexp.MustCompile(`^` + patKey)
	formClose = regexp.MustCompile(`^\( *(?:` + patItem + `(?: +` + patItem + `)*)? *\)`)
)

// cutPieces cuts at the commas that stand in no string.
func cutPieces(s string) []string {
	pieces := []string{""}
	for s != "" {
		part := formPiece.FindString(s)
		if strings.HasPrefix(s, ",") {
			pieces, part = append(pieces, ""), ","
		} else {
			pieces[len(pieces)-1] += part
		}
		s = s[len(part):]
	}
	for i := range pieces {
		pieces[i] = strings.Trim(pieces[i], " \t")
	}
	return pieces
}

func reckonMember(s string) api.Member {
	brackets := formClose.FindString(s)
	if brackets == "" {
		x, _ := sfitem.Parse(s)
		return single(x)
	}
	var m api.Member
	for _, item := range formItem.FindAllString(brackets, -1) {
		x, _ := sfitem.Parse(item)
		m.Items = append(m.Items, x)
	}
	m.Inner = true
	m.Params, _, _ = sfitem.Params(s[len(brackets):])
	return m
}

func reckonList(s string) ([]api.Member, bool) {
	if len(s) > api.MaxField || !formList.MatchString(s) {
		return nil, false
	}
	var l []api.Member
	if s = strings.Trim(s, " "); s == "" {
		return nil, true
	}
	for _, piece := range cutPieces(s) {
		l = append(l, reckonMember(piece))
	}
	return l, true
}

// reckonDict goes through the whole list for each key, rather than ask a map.
func reckonDict(s string) ([]api.Member, bool) {
	if len(s) > api.MaxField || !formDict.MatchString(s) {
		return nil, false
	}
	var l []api.Member
	if s = strings.Trim(s, " "); s == "" {
		return nil, true
	}
pieces:
	for _, piece := range cutPieces(s) {
		key := formFirst.FindString(piece)
		rest, has := strings.CutPrefix(piece[len(key):], "=")
		if !has {
			rest = "?1" + rest
		}
		m := keyed(key, reckonMember(rest))
		for i := range l {
			if l[i].Key == key {
				l[i] = m
				continue pieces
			}
		}
		l = append(l, m)
	}
	return l, true
}

// checkReckoned holds what is read against the second reckoning, and asks P6.4 of it; it tells which of the two forms the text has.
func checkReckoned(t *testing.T, s string) (isList, isDict bool) {
	t.Helper()
	want, isList := reckonList(s)
	l, err := List(s)
	if !same(l, want) || isList != (err == api.OK) || !isList && err != api.ErrSfForm {
		t.Fatalf("List(%q) = %v, %d, not %v", s, l, err, want)
	}
	if isList {
		checkRound(t, l, ListText, List)
	}
	want, isDict = reckonDict(s)
	l, err = Dict(s)
	if !same(l, want) || isDict != (err == api.OK) || !isDict && err != api.ErrSfForm {
		t.Fatalf("Dict(%q) = %v, %d, not %v", s, l, err, want)
	}
	if isDict {
		checkRound(t, l, DictText, Dict)
	}
	return isList, isDict
}

// checkRound asks P6.4 of valid members.
func checkRound(t *testing.T, l []api.Member, write func([]api.Member) (string, api.Errno), read func(string) ([]api.Member, api.Errno)) {
	t.Helper()
	s, err := write(l)
	if err != api.OK {
		t.Fatalf("the text of %v: error %d", l, err)
	}
	again, err := read(s)
	if err != api.OK || !same(again, l) {
		t.Fatalf("%v has the text %q, which is read as %v, %d", l, s, again, err)
	}
	if next, err := write(again); next != s || err != api.OK {
		t.Fatalf("%v has the texts %q and %q", l, s, next)
	}
}

// P6.1, P6.2, P6.4: all short texts of the bytes that matter.
func TestAllShortTexts(t *testing.T) {
	const letters = "aA1,() \t;=?\"\xff"
	lists, dicts := 0, 0
	var grow func(s string, more int)
	grow = func(s string, more int) {
		isList, isDict := checkReckoned(t, s)
		if isList {
			lists++
		}
		if isDict {
			dicts++
		}
		if more == 0 {
			return
		}
		for i := range len(letters) {
			grow(s+letters[i:i+1], more-1)
		}
	}
	grow("", 5)
	if lists < 1000 || dicts < 300 {
		t.Errorf("but %d lists and %d dictionaries among them", lists, dicts)
	}
}

// P6.1, P6.2, P6.4: longer texts, put together of pieces by a fixed seed.
func TestManyTexts(t *testing.T) {
	pieces := []string{
		",", ", ", " ,", "\t,\t", " ", "  ", "\t", "(", ")", "( ", " )", "()", "=", "=(", ");", ";", "a", "b", "c=", "a=", "b=", "a=1", "b=(a b)", "(a b)", "1", "2.5", "?0", "?1",
		"\"x, y\"", "\")\"", "\"\\\"\"", "\"", "::", ":YQ==:", ";x", "; y", ";x=1", ";z=\",\"", "*", "tok/en", "A", "\x7f", "\x00", "\u00e9",
	}
	random := rand.New(rand.NewSource(6))
	for range 150000 {
		var s strings.Builder
		for range random.Intn(12) {
			s.WriteString(pieces[random.Intn(len(pieces))])
		}
		checkReckoned(t, s.String())
	}
}

// choose puts together a text that has the form more often than not.
func choose(random *rand.Rand, from ...string) string { return from[random.Intn(len(from))] }

func someItem(random *rand.Rand) string {
	s := choose(random, "a", "b/c", "1", "-2.5", `"x, (y"`, `"\"\\"`, ":YQ==:", "::", "?0", "?1", "*")
	for random.Intn(3) == 0 {
		s += choose(random, ";x", "; y=1", ";  x=\",\"", ";*=?0", ";x=?1")
	}
	return s
}

func someMember(random *rand.Rand) string {
	if random.Intn(2) == 0 {
		return someItem(random)
	}
	s := choose(random, "(", "( ", "(  ")
	for i := range random.Intn(4) {
		if i > 0 {
			s += choose(random, " ", " ", " ", "  ", "   ", "")
		}
		s += someItem(random)
	}
	return s + choose(random, ")", " )", "  )", ");x", ");y=2;x", "); x;x=1")
}

func someField(random *rand.Rand, member func() string) string {
	s := choose(random, "", "", " ", "  ") + member()
	for range random.Intn(5) {
		s += choose(random, ",", ", ", " ,", "\t, ", " \t,\t ") + member()
	}
	return s + choose(random, "", "", " ", "\t", " \t ", ",")
}

// P6.1, P6.2, P6.4: lists and dictionaries of many members, most of which have the form.
func TestManyFields(t *testing.T) {
	random := rand.New(rand.NewSource(66))
	lists, dicts := 0, 0
	for range 20000 {
		list := someField(random, func() string { return someMember(random) })
		if isList, _ := checkReckoned(t, list); isList {
			lists++
		}
		dict := someField(random, func() string {
			key := choose(random, "a", "b", "c", "a-1", "*")
			return key + choose(random, "", ";x", ";x=1; y", "="+someMember(random), "="+someMember(random))
		})
		if _, isDict := checkReckoned(t, dict); isDict {
			dicts++
		}
	}
	if lists < 8000 || dicts < 8000 {
		t.Errorf("but %d lists and %d dictionaries among them", lists, dicts)
	}
}

// P6.4: valid members made by hand are read as they were, and no two lists of them have one text.
func TestRoundOfValid(t *testing.T) {
	items := []api.Item{integer(0), integer(-1), decimal(0), decimal(1500), text(""), text(", "), token("a"), token("*"), sequence(""), sequence("a="), boolean(0), boolean(1)}
	for _, x := range items[:12] {
		items = append(items, with(x, flag("x")), with(x, param("x", boolean(0)), param("a", x)))
	}
	values := []api.Member{inner(), tailed(inner(), flag("x"))}
	for i, x := range items {
		y := items[(i*5+3)%len(items)]
		values = append(values, single(x), inner(x), inner(x, y), tailed(inner(x), flag("x")), tailed(inner(x, y), param("y", integer(1)), flag("x")))
	}
	lists, dicts := map[string]int{}, map[string]int{}
	for i, m := range values {
		for j, n := range values {
			checkRound(t, []api.Member{m, n}, ListText, List)
			s, _ := ListText([]api.Member{m, n})
			lists[s] = i*len(values) + j
			d := []api.Member{keyed("a", m), keyed("b", n)}
			checkRound(t, d, DictText, Dict)
			s, _ = DictText(d)
			dicts[s] = i*len(values) + j
		}
	}
	if all := len(values) * len(values); len(lists) != all || len(dicts) != all {
		t.Errorf("%d lists have %d texts, as many dictionaries %d", all, len(lists), len(dicts))
	}
}
