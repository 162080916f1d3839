package coop

import (
	"math/rand"
	"regexp"
	"strings"
	"testing"

	"glacis/api"
)

// The second reckoning: a field is held against a pattern of the whole of it, and its parameters are cut out by another.
const (
	formToken = "[A-Za-z*][A-Za-z0-9:/!#$%&'*+.^_|~\x60-]*"
	formText  = `"(?:[ !#-\[\]-~]|\\["\\])*"`
	formOther = `-?[0-9]{1,12}\.[0-9]{1,3}|-?[0-9]{1,15}|:[A-Za-z0-9+/=]*:|\?[01]`
	formParam = `; *([a-z*][a-z0-9_.*-]*)(?:=(` + formToken + `|` + formText + `|` + formOther + `))?`
)

var (
	wholeField = regexp.MustCompile(`^ *(` + formToken + `)((?:` + formParam + `)*) *$`)
	eachParam  = regexp.MustCompile(formParam)
	eachEscape = regexp.MustCompile(`\\(.)`)
)

// reckonField is a field's keyword, and its endpoint.
func reckonField(l []api.Header, name string) (keyword, to string) {
	var values []string
	for _, h := range l {
		if strings.EqualFold(h.Name, name) {
			values = append(values, strings.Trim(h.Value, "\t\n\f\r "))
		}
	}
	found := wholeField.FindStringSubmatch(strings.Join(values, ", "))
	if found == nil {
		return "", ""
	}
	for _, param := range eachParam.FindAllStringSubmatch(found[2], -1) {
		if param[1] != "report-to" {
			continue
		}
		to = ""
		if strings.HasPrefix(param[2], `"`) {
			to = eachEscape.ReplaceAllString(param[2][1:len(param[2])-1], "$1")
		}
	}
	return found[1], to
}

func reckonEmbedder(keyword string) int {
	return map[string]int{"require-corp": 2, "credentialless": 1}[keyword]
}

func reckonOpener(keyword string, isolates bool) int {
	if keyword == "same-origin" && isolates {
		return 3
	}
	return map[string]int{"same-origin": 2, "same-origin-allow-popups": 1}[keyword]
}

func reckon(l []api.Header) policies {
	e, er := "", ""
	o, or := "", ""
	var p policies
	e, p.e.To = reckonField(l, coep)
	er, p.e.ReportT = reckonField(l, coepR)
	o, p.o.To = reckonField(l, coop)
	or, p.o.ReportT = reckonField(l, coopR)
	p.e.Value, p.e.Report = reckonEmbedder(e), reckonEmbedder(er)
	p.o.Value = reckonOpener(o, p.e.Value != 0)
	p.o.Report = reckonOpener(or, p.e.Value != 0 || p.e.Report != 0)
	return p
}

// pick puts up to most pieces together.
func pick(r *rand.Rand, most int, pieces []string) string {
	var out strings.Builder
	for range r.Intn(most + 1) {
		out.WriteString(pieces[r.Intn(len(pieces))])
	}
	return out.String()
}

// P8.1 to P8.5: heads put together of pieces by a fixed seed.
func TestManyHeads(t *testing.T) {
	r := rand.New(rand.NewSource(8))
	keywords := []string{"same-origin", "same-origin", "same-origin-allow-popups", "require-corp", "credentialless", "Same-Origin", "unsafe-none", "x", `"same-origin"`, "1", "?1", ""}
	params := []string{`;report-to="a"`, `; report-to="b"`, `;report-to="\"c\\"`, `;report-to="d;e, f"`, ";report-to=g", ";report-to", ";report-to=1.5", ";x", ";y=:YQ==:", `;z="report-to"`, `;z=";report-to="`}
	noise := []string{" ", "\t", ";", ",", `"`, `\`, "=", "x", "-", "é", "\x00", "report-to", "(", "A"}
	read := 0
	for range 60000 {
		l := make([]api.Header, r.Intn(6))
		for i := range l {
			l[i].Name = allNames[r.Intn(len(allNames))]
			if r.Intn(4) == 0 {
				l[i].Name = strings.ToUpper(l[i].Name)
			}
			l[i].Value = pick(r, 1, noise[:2]) + keywords[r.Intn(len(keywords))] + pick(r, 3, params)
			if r.Intn(8) == 0 {
				l[i].Value += pick(r, 2, noise) + pick(r, 1, params)
			}
		}
		want := reckon(l)
		if want != (policies{}) {
			read++
		}
		check(t, l, want)
		want = policies{api.Opener{Value: want.o.Value, To: want.o.To}, api.Embedder{Value: want.e.Value, To: want.e.To}}
		check(t, Plain(l), want)
		if t.Failed() {
			t.FailNow()
		}
	}
	if read < 20000 {
		t.Errorf("only %d heads had policies", read)
	}
}
