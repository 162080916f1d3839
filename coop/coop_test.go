package coop

import (
	"math"
	"slices"
	"strings"
	"testing"

	"glacis/api"
	"glacis/samples"
)

// The four headers.
const (
	coep  = "cross-origin-embedder-policy"
	coepR = "cross-origin-embedder-policy-report-only"
	coop  = "cross-origin-opener-policy"
	coopR = "cross-origin-opener-policy-report-only"
)

var allNames = []string{coep, coepR, coop, coopR}

// head is headers, given as a name and a value by turns.
func head(l ...string) []api.Header {
	var out []api.Header
	for pair := range slices.Chunk(l, 2) {
		out = append(out, api.Header{Name: pair[0], Value: pair[1]})
	}
	return out
}

// policies are what a head has of both kinds.
type policies struct {
	o api.Opener
	e api.Embedder
}

func check(t *testing.T, l []api.Header, want policies) {
	t.Helper()
	if got := (policies{Coop(l, true), Coep(l, true)}); got != want {
		t.Errorf("%.300q: %+v, not %+v", l, got, want)
	}
	if got := (policies{Coop(l, false), Coep(l, false)}); got != (policies{}) {
		t.Errorf("%.300q, not secure: %+v", l, got)
	}
}

// alone is what a head has where only the header name tells of a policy.
func alone(name string, value int, to string) policies {
	switch name {
	case coep:
		return policies{e: api.Embedder{Value: value, To: to}}
	case coepR:
		return policies{e: api.Embedder{Report: value, ReportT: to}}
	case coop:
		return policies{o: api.Opener{Value: value, To: to}}
	}
	return policies{o: api.Opener{Report: value, ReportT: to}}
}

// keyed is a header and a keyword that it knows.
type keyed struct {
	name, keyword string
	value         int
}

func allKeyed() []keyed {
	var out []keyed
	for _, name := range []string{coep, coepR} {
		out = append(out, keyed{name, "require-corp", api.CoepRequire}, keyed{name, "credentialless", api.CoepCredentials})
	}
	for _, name := range []string{coop, coopR} {
		out = append(out, keyed{name, "same-origin", api.CoopSame}, keyed{name, "same-origin-allow-popups", api.CoopPopup})
	}
	return out
}

// P8.1 to P8.4: the chapter's examples.
func TestExamples(t *testing.T) {
	check(t, head(coop, `same-origin; report-to="a"`, coep, "require-corp"), policies{api.Opener{Value: api.CoopPlus, To: "a"}, api.Embedder{Value: api.CoepRequire}})
	check(t, head(coop, "same-origin", coepR, "credentialless", coopR, "same-origin"), policies{api.Opener{Value: api.CoopSame, Report: api.CoopPlus}, api.Embedder{Report: api.CoepCredentials}})
	for _, l := range [][]api.Header{head(coop, "Same-Origin"), head(coop, `"same-origin"`), head(coop, "same-origin", coop, "same-origin")} {
		check(t, l, policies{})
	}
}

// P8.1: fields of a keyword K that are a token, and their endpoints.
func TestFields(t *testing.T) {
	for _, c := range []struct{ field, to string }{
		{"K", ""},
		{"  K  ", ""},
		{"\t\n\f\r K\t\n\f\r ", ""},
		{`K;report-to="a"`, "a"},
		{`K; report-to="a"`, "a"},
		{`K;   report-to="a"  `, "a"},
		{"\tK;report-to=\"a\"\t", "a"},
		{`K;report-to=""`, ""},
		{`K;report-to=" a, b;c "`, " a, b;c "},
		{`K;report-to="a\"\\"`, `a"\`},
		{`K;report-to="A"`, "A"},
		{`K;x;report-to="a";y=1`, "a"},
		{`K;x="b";report-to="a";y="c"`, "a"},

		// the last of those with one key
		{`K;report-to="a";report-to="b"`, "b"},
		{`K;report-to="a";x;report-to=b`, ""},
		{`K;report-to="a";report-to`, ""},
		{`K;report-to=b;report-to="a"`, "a"},

		// what is no string
		{`K;report-to`, ""},
		{`K;report-to=a`, ""},
		{`K;report-to=1`, ""},
		{`K;report-to=-1.5`, ""},
		{`K;report-to=:YQ==:`, ""},
		{`K;report-to=?1`, ""},

		// other keys
		{`K;report="a"`, ""},
		{`K;report-t="a"`, ""},
		{`K;report-to-x="a"`, ""},
		{`K;x-report-to="a"`, ""},
		{`K;*report-to="a"`, ""},
		{`K;report_to="a"`, ""},
		{`K;report-uri="a"`, ""},
		{`K;to="a"`, ""},
	} {
		for _, k := range allKeyed() {
			check(t, head(k.name, strings.ReplaceAll(c.field, "K", k.keyword)), alone(k.name, k.value, c.to))
		}
	}
}

// P8.1: fields that are no item, or one that is no token, have neither a keyword nor an endpoint.
func TestNoTokens(t *testing.T) {
	for _, field := range []string{
		// items of other kinds
		`"K"`, `"K";report-to="a"`, `1`, `1;report-to="a"`, `1.5;report-to="a"`, `?1`, `?1;report-to="a"`, `:YQ==:`, `:YQ==:;report-to="a"`,

		// what is no item
		"", " ", "\t", ",", ", ", ";", `;report-to="a"`, `(K)`, `(K);report-to="a"`, `K K`, `K x`, `K=1`, `K=K`, `a=K`, `K?`, `<K>`, `'K'`, `-K`, `é`, "K\x00", "K\v", "\vK", "\xff", "K\xff", "K\nx", `"K`, `K"`,
		`K,K`, `K, K`, `K,`, `,K`, `K,x`, `x,K`, `K;report-to="a",K`, `K,K;report-to="a"`,

		// parameters that may not be
		`K;`, `K; `, `K;;report-to="a"`, `K ;report-to="a"`, `K;report-to="a";`, `K;report-to="a`, `K;report-to=a"`, `K;report-to='a'`, `K;report-to=`, `K;report-to= "a"`, `K;report-to ="a"`, `K;report-to="a"x`, `K;report-to="a" x`, `K;report-to="é"`, `K;report-to="a\b"`,
		"K;report-to=\"a\t\"", "K;\treport-to=\"a\"", `K;report-to=(a)`, `K;report-To="a"`, `K;Report-To="a"`, `K;report-to="a";X`, `K report-to="a"`, `K,report-to="a"`, `K&report-to="a"`,
	} {
		for _, k := range allKeyed() {
			check(t, head(k.name, strings.ReplaceAll(field, "K", k.keyword)), policies{})
		}
	}
}

// P8.1: what is longer than sfitem.Parse takes has no keyword; the blanks at the ends are not counted.
func TestFieldLimit(t *testing.T) {
	for _, k := range allKeyed() {
		tail := `;report-to="a"`
		room := api.MaxField - len(k.keyword+";"+tail)
		full := k.keyword + ";" + strings.Repeat("x", room) + tail
		longer := k.keyword + ";" + strings.Repeat("x", room+1) + tail
		check(t, head(k.name, full), alone(k.name, k.value, "a"))
		check(t, head(k.name, strings.Repeat(" ", api.MaxField)+full+"\t"), alone(k.name, k.value, "a"))
		check(t, head(k.name, longer), policies{})
	}
}

// P8.1: several headers of one name are read together, as one field.
func TestTwoHeaders(t *testing.T) {
	for _, k := range allKeyed() {
		up := strings.ToUpper(k.name)
		for _, values := range [][2]string{{k.keyword, k.keyword}, {k.keyword, "x"}, {"x", k.keyword}, {k.keyword, ""}, {"", k.keyword}, {k.keyword, `;report-to="a"`}, {k.keyword + `;report-to="a"`, k.keyword + `;report-to="a"`}, {"", ""}} {
			check(t, head(k.name, values[0], k.name, values[1]), policies{})
			check(t, head(k.name, values[0], up, values[1]), policies{})
			check(t, head(k.name, values[0], "x", "y", k.name, values[1]), policies{})
		}
		check(t, head(k.name, k.keyword, k.name, k.keyword, k.name, k.keyword), policies{})
		// The comma between them may come to stand within a string.
		check(t, head(k.name, k.keyword+`;report-to="a `, up, ` b"`), alone(k.name, k.value, "a, b"))
	}
}

// P8.1: no header at all, and none of the four.
func TestNoHeader(t *testing.T) {
	for _, l := range [][]api.Header{nil, {}, {{}}, head("x", "same-origin"), head("", "require-corp"), head("cross-origin-resource-policy", "same-origin")} {
		check(t, l, policies{})
	}
}

// P8.1: names of headers in letters of another size, and names that are none of the four.
func TestNames(t *testing.T) {
	for _, k := range allKeyed() {
		field, want := k.keyword+`;report-to="a"`, alone(k.name, k.value, "a")
		check(t, head(strings.ToUpper(k.name), field), want)
		check(t, head("x", field, k.name, field, "y", "z"), want)
		for i := range len(k.name) {
			check(t, head(k.name[:i]+strings.ToUpper(k.name[i:i+1])+k.name[i+1:], field), want)
			check(t, head(k.name[:i]+k.name[i+1:], field), policies{})
			check(t, head(k.name[:i]+"_"+k.name[i+1:], field), policies{})
		}
		for _, name := range []string{" " + k.name, k.name + " ", k.name + "s", k.name + "-", k.name + "\x00", k.name + "-report-only-report-only", "x" + k.name, "\u212a" + k.name} {
			check(t, head(name, field), policies{})
		}
	}
}

// P8.2, P8.3: a keyword that a header doesn't know is none; its endpoint counts nevertheless.
func TestOtherKeywords(t *testing.T) {
	unknown := []string{"unsafe-none", "x", "*", "same-origin-plus-coep", "same-origin-allow-popups-plus-coep", "noopener-allow-popups", "restrict-properties", "same-site", "cross-origin", "same-origin/", "require-corp:", "none", "null", "CoopSame", "a3"}
	for _, name := range allNames {
		others := slices.Clone(unknown)
		for _, k := range allKeyed() {
			if !slices.Contains(allKeyed(), keyed{name, k.keyword, k.value}) {
				others = append(others, k.keyword)
			}
		}
		for _, keyword := range others {
			check(t, head(name, keyword), policies{})
			check(t, head(name, keyword+`;report-to="a"`), alone(name, 0, "a"))
		}
	}
}

// P8.5: keywords are known in small letters only.
func TestKeywordSize(t *testing.T) {
	for _, k := range allKeyed() {
		check(t, head(k.name, strings.ToUpper(k.keyword)+`;report-to="a"`), alone(k.name, 0, "a"))
		for i := range len(k.keyword) {
			if up := strings.ToUpper(k.keyword[i : i+1]); up != "-" {
				check(t, head(k.name, k.keyword[:i]+up+k.keyword[i+1:]+`;report-to="a"`), alone(k.name, 0, "a"))
			}
		}
	}
}

// P8.2, P8.3: a keyword with any byte another, one more or one less is not that keyword.
func TestKeywordEachByte(t *testing.T) {
	for _, k := range allKeyed() {
		for i := range len(k.keyword) {
			check(t, head(k.name, k.keyword[:i]+k.keyword[i+1:]), policies{})
			for _, c := range samples.Bytes() {
				// A semicolon ends the keyword: what follows is a parameter.
				if c == k.keyword[i:i+1] || c == ";" {
					continue
				}
				check(t, head(k.name, k.keyword[:i]+c+k.keyword[i+1:]), policies{})
				if i > 0 {
					check(t, head(k.name, k.keyword[:i]+c+k.keyword[i:]), policies{})
				}
			}
		}
		check(t, head(k.name, k.keyword+";allow-popups"), alone(k.name, k.value, ""))
	}
}

// fields are what a header may say: nothing, a keyword, or something else, and with an endpoint.
func fields(keywords ...string) []string {
	out := []string{""}
	for _, k := range append(keywords, "x", "unsafe-none") {
		out = append(out, k, k+`;report-to="`+k+`"`)
	}
	return out
}

// stated is what a field of those means, and its endpoint.
func stated(field string) (int, string) {
	keyword, tail, with := strings.Cut(field, ";")
	to := ""
	if with {
		to = strings.Trim(strings.TrimPrefix(tail, "report-to="), `"`)
	}
	switch keyword {
	case "require-corp":
		return api.CoepRequire, to
	case "credentialless":
		return api.CoepCredentials, to
	case "same-origin":
		return api.CoopSame, to
	case "same-origin-allow-popups":
		return api.CoopPopup, to
	}
	return 0, to
}

// P8.2, P8.3: all four headers together.
func TestAllTogether(t *testing.T) {
	openers, embedders := fields("same-origin", "same-origin-allow-popups"), fields("require-corp", "credentialless")
	for _, o := range openers {
		for _, or := range openers {
			for _, e := range embedders {
				for _, er := range embedders {
					var want policies
					want.o.Value, want.o.To = stated(o)
					want.o.Report, want.o.ReportT = stated(or)
					want.e.Value, want.e.To = stated(e)
					want.e.Report, want.e.ReportT = stated(er)
					if want.o.Value == api.CoopSame && want.e.Value > 0 {
						want.o.Value = api.CoopPlus
					}
					if want.o.Report == api.CoopSame && want.e.Value+want.e.Report > 0 {
						want.o.Report = api.CoopPlus
					}
					check(t, head(coop, o, coopR, or, coep, e, coepR, er), want)
					check(t, head(coepR, er, coep, e, coopR, or, coop, o), want)
				}
			}
		}
	}
}

// P8.3: what same-origin means, enforced and reported, by the embedder policy, enforced and reported.
func TestPlus(t *testing.T) {
	for _, c := range []struct {
		e, er         string
		value, report int
	}{
		{"", "", api.CoopSame, api.CoopSame},
		{"unsafe-none", "unsafe-none", api.CoopSame, api.CoopSame},
		{"Require-Corp", `"require-corp"`, api.CoopSame, api.CoopSame},
		{"require-corp", "", api.CoopPlus, api.CoopPlus},
		{"credentialless", "", api.CoopPlus, api.CoopPlus},
		{"", "require-corp", api.CoopSame, api.CoopPlus},
		{"", "credentialless", api.CoopSame, api.CoopPlus},
		{"require-corp", "credentialless", api.CoopPlus, api.CoopPlus},
		{"credentialless", "unsafe-none", api.CoopPlus, api.CoopPlus},
		{"unsafe-none", "credentialless", api.CoopSame, api.CoopPlus},
	} {
		l := head(coep, c.e, coepR, c.er, coop, "same-origin", coopR, "same-origin")
		if o := Coop(l, true); o != (api.Opener{Value: c.value, Report: c.report}) {
			t.Errorf("%q: %+v, not %d, %d", l, o, c.value, c.report)
		}
		// Popups are no matter of the embedder policy.
		l = head(coep, c.e, coepR, c.er, coop, "same-origin-allow-popups", coopR, "same-origin-allow-popups")
		if o := Coop(l, true); o != (api.Opener{Value: api.CoopPopup, Report: api.CoopPopup}) {
			t.Errorf("%q: %+v, not popups", l, o)
		}
	}
	// An opener policy that is only reported, and one that is only enforced.
	check(t, head(coopR, "same-origin", coep, "require-corp"), policies{api.Opener{Report: api.CoopPlus}, api.Embedder{Value: api.CoepRequire}})
	check(t, head(coop, "same-origin", coepR, "require-corp"), policies{api.Opener{Value: api.CoopSame}, api.Embedder{Report: api.CoepRequire}})
}

// P8.1: which numbers isolate, those that are no policy too.
func TestIsolates(t *testing.T) {
	for _, coep := range []int{api.CoepCredentials, api.CoepRequire} {
		if !Isolates(coep) {
			t.Errorf("%d doesn't isolate", coep)
		}
	}
	for _, coep := range []int{api.CoepNone, -1, -2, 3, 4, 5, 6, 7, 257, 258, -255, 1 << 32, 1<<32 + 1, 1<<32 + 2, math.MaxInt, math.MinInt, math.MinInt + 1, math.MinInt + 2} {
		if Isolates(coep) {
			t.Errorf("%d isolates", coep)
		}
	}
}

func checkPlain(t *testing.T, l, want []api.Header) {
	t.Helper()
	if got := Plain(l); !slices.Equal(got, want) {
		t.Errorf("Plain(%q) = %q, not %q", l, got, want)
	}
}

// P8.4: what is left out, and that nothing else is.
func TestPlain(t *testing.T) {
	checkPlain(t, nil, nil)
	checkPlain(t, []api.Header{}, nil)
	checkPlain(t, head(coop, "a", coopR, "b", coepR, "c"), head(coop, "a"))
	checkPlain(t, head(coepR, "a", coep, "b", coopR, "c", coop, "d", coepR, "e", "x", "f"), head(coep, "b", coop, "d", "x", "f"))
	checkPlain(t, head(coepR, "", coepR, "x", coopR, "", coopR, "\n"), nil)
	// The order stays, and what comes twice comes twice; a value stays to the byte.
	all := head("b", " x\t", "a", "", "b", " x\t", coop, "\xff", strings.ToUpper(coep), "y", "", "", "b\n", "z")
	checkPlain(t, all, all)
}

// P8.4: names in letters of another size, and names that look alike.
func TestPlainNames(t *testing.T) {
	for _, name := range []string{coepR, coopR} {
		checkPlain(t, head(strings.ToUpper(name), "a", name, "b"), nil)
		for i := range len(name) {
			checkPlain(t, head(name[:i]+strings.ToUpper(name[i:i+1])+name[i+1:], "x"), nil)
			for _, other := range []string{name[:i] + name[i+1:], name[:i], name[i+1:], name[:i] + "_" + name[i+1:]} {
				checkPlain(t, head(other, "x"), head(other, "x"))
			}
		}
	}
	kept := head("report-only", "x", "-report-only", "x", "x-report-only", "x", "content-security-policy-report-only", "x", "cross-origin-resource-policy-report-only", "x", "permissions-policy-report-only", "x", coop+"-report-only ", "x", " "+coopR, "x", coopR+"-report-only", "x", "x"+coepR, "x", coepR+"s", "x", "\xff"+coepR, "x")
	checkPlain(t, kept, kept)
	// A letter that strings.EqualFold would take for an s.
	kept = head(strings.Replace(coopR, "s", "\u017f", 1), "x")
	checkPlain(t, kept, kept)
}

// P8.5: what is but reported changes neither what is enforced nor where its reports go.
func TestReportOnly(t *testing.T) {
	for _, o := range fields("same-origin", "same-origin-allow-popups") {
		for _, e := range fields("require-corp", "credentialless") {
			bare := head(coop, o, coep, e)
			wantO, wantE := Coop(bare, true), Coep(bare, true)
			for _, k := range allKeyed() {
				if !strings.HasSuffix(k.name, "-report-only") {
					continue
				}
				for _, field := range []string{k.keyword, k.keyword + `;report-to="z"`, `x;report-to="z"`, `"`, ""} {
					l := append(head(k.name, field), bare...)
					if got := Coop(l, true); got.Value != wantO.Value || got.To != wantO.To {
						t.Errorf("Coop of %q: %+v, without what is reported %+v", l, got, wantO)
					}
					if got := Coep(l, true); got.Value != wantE.Value || got.To != wantE.To {
						t.Errorf("Coep of %q: %+v, without what is reported %+v", l, got, wantE)
					}
					check(t, Plain(l), policies{wantO, wantE})
				}
			}
		}
	}
}

// R4: what is handed in stays as it is, up to its capacity, and an answer is nobody else's.
func TestNothingShared(t *testing.T) {
	room := append(make([]api.Header, 0, 9), head(coop, " same-origin ", coopR, "x", coep, "require-corp", coepR, "y")...)
	for i := range room {
		room[i].Name = strings.ToUpper(room[i].Name)
	}
	before := slices.Clone(room[:cap(room)])
	for n := range len(room) + 1 {
		l := room[:n]
		Coop(l, true)
		Coep(l, true)
		first, second := Plain(l), Plain(l)
		want := slices.Clone(first)
		clear(second[:cap(second)])
		if !slices.Equal(first, want) || !slices.Equal(Plain(l), want) {
			t.Errorf("two answers share memory: %q, not %q", first, want)
		}
	}
	if !slices.Equal(room[:cap(room)], before) {
		t.Errorf("%q was changed to %q", before, room[:cap(room)])
	}
}

// R1: heads that headers.Check refuses are read, too, in a time that doesn't grow with the square of their length.
func TestLong(t *testing.T) {
	const n = 1 << 20
	for _, name := range allNames {
		for _, value := range []string{strings.Repeat("x", n), strings.Repeat(",", n), strings.Repeat(`"`, n), strings.Repeat(";x", n), strings.Repeat("(", n)} {
			check(t, head(name, value), policies{})
		}
		check(t, slices.Repeat(head(name, "same-origin"), n/8), policies{})
	}
	others := slices.Repeat(head("x", "same-origin"), n/8)
	check(t, slices.Concat(others, head(coop, "same-origin"), others), policies{o: api.Opener{Value: api.CoopSame}})
	checkPlain(t, slices.Concat(others, head(coopR, "same-origin"), others), slices.Concat(others, others))
	checkPlain(t, slices.Repeat(head(coepR, "x"), n/8), nil)
	checkPlain(t, head(strings.Repeat("x", n)+coepR, "x"), head(strings.Repeat("x", n)+coepR, "x"))
}
