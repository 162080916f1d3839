package headers

import (
	"math/rand"
	"regexp"
	"slices"
	"strings"
	"testing"

	"glacis/api"
)

// The second reckoning: a value is cut into strings, commas and other bytes by a pattern, not scanned byte by byte.
var (
	formPiece = regexp.MustCompile(`(?s)"(?:[^"\\]|\\.)*(?:"|\\?$)|.`)
	formEnds  = regexp.MustCompile(`^[\t\n\f\r ]*((?s:.*?))[\t\n\f\r ]*$`)
)

func reckonTrim(s string) string { return formEnds.FindStringSubmatch(s)[1] }

func reckonParts(l []api.Header, name string) []string {
	var parts []string
	for _, h := range l {
		if !strings.EqualFold(h.Name, name) {
			continue
		}
		part := ""
		for _, piece := range formPiece.FindAllString(h.Value, -1) {
			if piece == "," {
				parts, part = append(parts, reckonTrim(part)), ""
			} else {
				part += piece
			}
		}
		parts = append(parts, reckonTrim(part))
	}
	return parts
}

// checkReckoned holds the three ways to ask for a name against the second reckoning.
func checkReckoned(t *testing.T, l []api.Header, name string) {
	t.Helper()
	var values []string
	for _, h := range l {
		if strings.EqualFold(h.Name, name) {
			values = append(values, reckonTrim(h.Value))
		}
	}
	checkValues(t, l, name, values...)
	checkParts(t, l, name, reckonParts(l, name)...)
	if t.Failed() {
		t.FailNow()
	}
}

// P7.2: all short values of the bytes that matter.
func TestAllShortValues(t *testing.T) {
	const letters = "x,\"\\ \n"
	var grow func(s string, more int)
	grow = func(s string, more int) {
		checkReckoned(t, valued(s), "A")
		for i := 0; more > 0 && i < len(letters); i++ {
			grow(s+letters[i:i+1], more-1)
		}
	}
	grow("", 6)
}

// P7.2, P7.3: heads of several headers, put together of pieces by a fixed seed.
func TestManyHeads(t *testing.T) {
	r := rand.New(rand.NewSource(7))
	pieces := []string{"x", "y z", ",", ", ", `"`, `"`, `\`, `\"`, `"x,y"`, `"\\,"`, " ", "\t", "\v", "\x00", "é", "\xff", `\,`}
	names := []string{"a", "A", "a", "b", "B", "ab"}
	for range 30000 {
		l := make([]api.Header, r.Intn(5))
		for i := range l {
			value := ""
			for range r.Intn(9) {
				value += pieces[r.Intn(len(pieces))]
			}
			l[i] = header(names[r.Intn(len(names))], value)
		}
		for _, name := range []string{"a", "AB", "c"} {
			checkReckoned(t, l, name)
			others := slices.DeleteFunc(slices.Clone(l), func(h api.Header) bool { return !strings.EqualFold(h.Name, name) })
			checkSame(t, l, others, name)
		}
	}
}
