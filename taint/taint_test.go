package taint

import (
	"fmt"
	"math"
	"slices"
	"strings"
	"testing"

	"glacis/api"
	"glacis/samples"
)

// The names of the two headers.
const (
	allow = "Access-Control-Allow-Origin"
	creds = "Access-Control-Allow-Credentials"
)

// own is the origin that most requests come from.
var own = samples.Origin("https://a")

// modes, kinds and embedders are all that a request may have.
var (
	modes     = []int{api.ModeNav, api.ModeNoCors, api.ModeCors}
	kinds     = []int{api.CredOmit, api.CredSame, api.CredInclude}
	embedders = []int{api.CoepNone, api.CoepCredentials, api.CoepRequire}
)

// What comes of a request.
var (
	basic    = api.Fetched{Taint: 1}
	cors     = api.Fetched{Taint: 2}
	opaque   = api.Fetched{Taint: 3}
	basicOn  = api.Fetched{Taint: 1, Creds: true}
	corsOn   = api.Fetched{Taint: 2, Creds: true}
	opaqueOn = api.Fetched{Taint: 3, Creds: true}
)

// asNull is what comes of a request whose origin is null at the last hop.
func asNull(f api.Fetched) api.Fetched {
	f.Null = true
	return f
}

// head has a value of each of the two headers.
func head(origin, credentials string) []api.Header {
	return []api.Header{{Name: allow, Value: origin}, {Name: creds, Value: credentials}}
}

// way is of hops written as a URL, or a URL and an allow-origin, or these and an allow-credentials, with blanks between hops.
func way(text string) []api.Hop {
	var out []api.Hop
	for _, word := range strings.Fields(text) {
		parts := strings.Split(word, "|")
		h := api.Hop{URL: samples.URL(parts[0])}
		for i, value := range parts[1:] {
			h.Head = append(h.Head, api.Header{Name: []string{allow, creds}[i], Value: value})
		}
		out = append(out, h)
	}
	return out
}

// brief is the beginning of whatever a test has to tell.
func brief(what any) string {
	text := fmt.Sprintf("%+v", what)
	return fmt.Sprintf("%q", text[:min(len(text), 400)])
}

func checkShared(t *testing.T, l []api.Header, text string, include, want bool) {
	t.Helper()
	if got := Shared(l, text, include); got != want {
		t.Errorf("Shared of %s with %.300q, %v: %v", brief(l), text, include, got)
	}
}

// checkAllowed is of a value of allow-origin alone: whether it is shared without credentials, and with them if the head allows them.
func checkAllowed(t *testing.T, value, text string, without, with bool) {
	t.Helper()
	checkShared(t, samples.Lines(allow, value), text, false, without)
	checkShared(t, samples.Lines(allow, value), text, true, false)
	checkShared(t, head(value, "true"), text, false, without)
	checkShared(t, head(value, "true"), text, true, with)
}

func checkWalk(t *testing.T, r api.Request, hops []api.Hop, want api.Fetched) {
	t.Helper()
	if got, err := Walk(r, hops); got != want || err != api.OK {
		t.Errorf("Walk of %s by %s: %v, %d, not %v", brief(r), brief(hops), got, err, want)
	}
}

func checkFails(t *testing.T, r api.Request, hops []api.Hop, want api.Errno) {
	t.Helper()
	if got, err := Walk(r, hops); got != (api.Fetched{}) || err != want {
		t.Errorf("Walk of %s by %s: %v, %d, not %d", brief(r), brief(hops), got, err, want)
	}
}

// line is a request of the origin https://a, its hops, and what comes of it.
type line struct {
	mode, creds int
	hops        string
	want        api.Fetched // a zero one: not shared
}

// checkLines holds them under both embedder policies that don't count for credentials.
func checkLines(t *testing.T, lines []line) {
	t.Helper()
	for _, l := range lines {
		for _, coep := range []int{api.CoepNone, api.CoepRequire} {
			checkLine(t, l, coep)
		}
	}
}

func checkLine(t *testing.T, l line, coep int) {
	t.Helper()
	r := api.Request{Mode: l.mode, Creds: l.creds, Origin: own, Coep: coep}
	if l.want == (api.Fetched{}) {
		checkFails(t, r, way(l.hops), api.ErrTaintCors)
	} else {
		checkWalk(t, r, way(l.hops), l.want)
	}
}

// P13.1, P13.2: the numbers that the chapter names.
func TestNumbers(t *testing.T) {
	numbers := [][]int{modes, kinds, {api.TaintBasic, api.TaintCors, api.TaintOpaque}, {int(api.ErrArg), int(api.ErrTaintHops), int(api.ErrTaintCors)}, {api.MaxHops}}
	if got := fmt.Sprint(numbers); got != "[[1 2 3] [0 1 2] [1 2 3] [1 130 131] [21]]" {
		t.Error(got)
	}
}

// P13.2: the chapter's examples.
func TestExamples(t *testing.T) {
	checkLines(t, []line{
		{api.ModeNoCors, api.CredSame, "https://a/x", basicOn},
		{api.ModeNoCors, api.CredInclude, "https://b/x", opaqueOn},
		{api.ModeCors, api.CredSame, "https://b/x|*", cors},
		{api.ModeCors, api.CredSame, "https://b/x", api.Fetched{}},
		{api.ModeCors, api.CredOmit, "https://b/x|https://a https://c/y|https://a", api.Fetched{}},
	})
	checkLine(t, line{api.ModeNoCors, api.CredInclude, "https://b/x", opaque}, api.CoepCredentials)
}

// P13.1: without an allow-origin nothing is shared, not even with an empty text.
func TestSharedWithout(t *testing.T) {
	for _, l := range [][]api.Header{
		nil, {}, {{}}, {{Value: "*"}}, samples.Lines(creds, "true"), samples.Lines(creds, "*", "https://a"),
		samples.Lines("access-control-allow-origins", "*"), samples.Lines("access-control-allow-origi", "*"),
		samples.Lines("access_control_allow_origin", "*"), samples.Lines(" access-control-allow-origin", "*"),
		samples.Lines("allow-origin", "*"), samples.Lines("origin", "*"), samples.Lines("\xc1ccess-control-allow-origin", "*"),
	} {
		for _, text := range []string{"", "*", "null", "https://a"} {
			checkShared(t, l, text, false, false)
			checkShared(t, l, text, true, false)
		}
	}
}

// P13.1: * shares with anybody, but not with credentials.
func TestSharedWild(t *testing.T) {
	for _, text := range []string{"", "null", "https://a", "http://a:8", "x", "**", "\x00"} {
		checkAllowed(t, "*", text, true, false)
		checkAllowed(t, " \t*\r\n", text, true, false)
	}
	for _, value := range []string{"**", "* *", "*,", ",*", "*, *", "\"*\"", "'*'", "*.a", "https://*", "https://*.a", "*;", "*\x00", "*\v"} {
		checkAllowed(t, value, "https://a", false, false)
	}
	// No origin has the text *. One that had would be asked for like any other text.
	checkAllowed(t, "*", "*", true, true)
}

// P13.1: any other value is held against the text, byte for byte.
func TestSharedText(t *testing.T) {
	for _, text := range []string{"https://a", "http://a:8", "null", "x, y", "\x00", "é", "**"} {
		checkAllowed(t, text, text, true, true)
		checkAllowed(t, "\t "+text+" \f\n", text, true, true)
	}
	for _, value := range []string{
		"", "https://a/", "https://a:443", "http://a", "https://b", "https://", "https:a", "//a", "a", "https://A", "HTTPS://a",
		"https://a.", "https://a b", "https://a,", "https://a, https://a", "https://a,https://b", "https://b, https://a",
		"\"https://a\"", "null", "Null", "true", "https://a;x", "https://a\x00", "\xa0https://a", "https://a\v",
	} {
		checkAllowed(t, value, "https://a", false, false)
	}
	for _, value := range []string{"", "Null", "NULL", "nul", "nulls", "null,", "null, null", "\"null\"", "https://a", "*, null"} {
		checkAllowed(t, value, "null", false, false)
	}
}

// P13.1: an empty value is one: it is held against the text.
func TestSharedEmpty(t *testing.T) {
	checkAllowed(t, "", "", true, true)
	checkAllowed(t, " \t", "", true, true)
	checkAllowed(t, "", " ", false, false)
	checkAllowed(t, "x", "", false, false)
	checkAllowed(t, " ", " ", false, false)
}

// P13.1: each byte put into a value, or in the place of another one, makes it another.
func TestSharedBytes(t *testing.T) {
	const text = "https://a"
	for _, c := range samples.Bytes() {
		blank := strings.Contains("\t\n\f\r ", c)
		for i := range len(text) + 1 {
			outer := i == 0 || i == len(text)
			checkAllowed(t, text[:i]+c+text[i:], text, blank && outer, blank && outer)
			if i < len(text) {
				checkAllowed(t, text[:i]+c+text[i+1:], text, c == text[i:i+1], c == text[i:i+1])
			}
		}
		checkAllowed(t, "*"+c, text, blank, false)
		checkAllowed(t, c, text, c == "*", false)
		checkAllowed(t, c, c, !blank, !blank)
	}
}

// P13.1: with credentials, allow-credentials must be true; without them it doesn't count.
func TestSharedCredentials(t *testing.T) {
	for value, want := range map[string]bool{
		"true": true, " true": true, "\ttrue \r\n": true,
		"": false, "True": false, "TRUE": false, "tru": false, "truee": false, "true;": false, "true,": false, "true, true": false,
		"?1": false, "1": false, "*": false, "yes": false, "false": false, "\"true\"": false, "true\x00": false, "t rue": false, "https://a": false,
	} {
		checkShared(t, head("https://a", value), "https://a", true, want)
		checkShared(t, head("null", value), "null", true, want)
		checkShared(t, head("https://a", value), "https://a", false, true)
		checkShared(t, head("*", value), "https://a", true, false)
		checkShared(t, head("*", value), "https://a", false, true)
		checkShared(t, head("https://b", value), "https://a", true, false)
	}
	for _, c := range samples.Bytes() {
		checkShared(t, head("https://a", c+"true"), "https://a", true, strings.Contains("\t\n\f\r ", c))
		checkShared(t, head("https://a", "tr"+c+"e"), "https://a", true, c == "u")
	}
}

// P13.1: headers of one name count together.
func TestSharedSeveral(t *testing.T) {
	for _, values := range [][]string{{"*", "*"}, {"https://a", "https://a"}, {"https://a", "*"}, {"*", "https://a"}, {"", "https://a"}, {"https://a", ""}, {"", "*"}, {"*", ""}} {
		checkShared(t, samples.Lines(allow, values...), "https://a", false, false)
	}
	checkShared(t, samples.Lines(allow, "x ", " y"), "x, y", false, true)
	checkShared(t, samples.Lines(allow, "x", "y"), "x,y", false, false)
	checkShared(t, samples.Lines(allow, "", ""), ", ", false, true)
	checkShared(t, append(samples.Lines(allow, "x", "y"), samples.Lines(creds, "true")...), "x, y", true, true)
	for _, values := range [][]string{{"true", "true"}, {"true", ""}, {"", "true"}, {"true", "false"}} {
		checkShared(t, append(samples.Lines(allow, "https://a"), samples.Lines(creds, values...)...), "https://a", true, false)
	}
}

// P13.1: the size of names doesn't count, nor do other headers, nor the order of the two.
func TestSharedNames(t *testing.T) {
	for _, name := range samples.Sizes("access-control-allow-origin") {
		checkShared(t, samples.Lines(name, "https://a"), "https://a", false, true)
		checkShared(t, append(samples.Lines(creds, "true"), samples.Lines(name, "https://a")...), "https://a", true, true)
	}
	for _, name := range samples.Sizes("access-control-allow-credentials") {
		checkShared(t, append(samples.Lines(allow, "https://a"), samples.Lines(name, "true")...), "https://a", true, true)
	}
	other := samples.Lines("access-control-allow-headers", "*", "true", "https://b")
	l := slices.Concat(other, samples.Lines(creds, "true"), other, samples.Lines(allow, "https://a"), other)
	checkShared(t, l, "https://a", true, true)
	checkShared(t, l, "https://b", false, false)
}

// P13.2: a mode that is none of the three, whatever the hops are.
func TestWalkOfOtherModes(t *testing.T) {
	for _, mode := range []int{0, -1, -2, -3, 4, 5, 257, 1<<32 + 1, math.MaxInt, math.MinInt} {
		r := api.Request{Mode: mode, Creds: api.CredInclude, Origin: own}
		for _, hops := range [][]api.Hop{nil, way("https://a/"), way("https://b/"), way("data:,x"), way("https://a/ data:,x"), make([]api.Hop, 22)} {
			checkFails(t, r, hops, api.ErrArg)
		}
	}
}

// everyMode is a request in each way there is, and in ways there are not.
func everyMode(origins ...api.Origin) []api.Request {
	var out []api.Request
	for _, o := range origins {
		for _, mode := range modes {
			for _, creds := range append([]int{-1, 3, 4, math.MaxInt}, kinds...) {
				for _, coep := range append([]int{-1, 3, math.MinInt}, embedders...) {
					out = append(out, api.Request{Mode: mode, Creds: creds, Origin: o, Coep: coep})
				}
			}
		}
	}
	return out
}

// P13.2: no hop, and one more than there may be.
func TestWalkOfHowMany(t *testing.T) {
	for _, r := range everyMode(own) {
		for _, hops := range [][]api.Hop{nil, {}, way("https://a/")[:0], make([]api.Hop, 22), make([]api.Hop, 1000)} {
			checkFails(t, r, hops, api.ErrTaintHops)
		}
		for n := 1; n < 30; n++ {
			hops := slices.Repeat(way("https://a/"), n)
			if n > 21 {
				checkFails(t, r, hops, api.ErrTaintHops)
			} else if _, err := Walk(r, hops); err != api.OK {
				t.Errorf("%d hops: %d", n, err)
			}
		}
	}
}

// local are URLs that are not http or https.
var local = []api.Hop{
	{URL: samples.URL("data:,x")}, {URL: samples.URL("about:blank")}, {URL: samples.URL("about:srcdoc")},
	{URL: samples.URL("blob:https://a/1")}, {URL: samples.URL("blob:https://b/1")}, {URL: samples.URL("blob:null/1")},
	{}, {URL: api.URL{Scheme: "ftp", Host: api.Host{Name: "a"}}}, {URL: api.URL{Scheme: "HTTPS", Host: api.Host{Name: "a"}, Port: -1}},
	{URL: api.URL{Scheme: "https:", Host: api.Host{Name: "a"}}}, {URL: samples.URL("data:,y"), Head: head("https://a", "true")},
}

// P13.2: a first hop that is not over the net is all there may be; it is basic, and nothing goes along.
func TestWalkOfLocal(t *testing.T) {
	opaque := api.Origin{Opaque: true}
	for _, r := range everyMode(own, opaque, samples.Origin("data:,x"), api.Origin{}) {
		for _, h := range local {
			checkWalk(t, r, []api.Hop{h}, basic)
			checkFails(t, r, []api.Hop{h, h}, api.ErrTaintHops)
			for _, far := range way("https://a/|* https://b/|* http://b/|https://a|true") {
				checkFails(t, r, []api.Hop{h, far}, api.ErrTaintHops)
				checkFails(t, r, []api.Hop{far, h}, api.ErrTaintHops)
			}
		}
	}
}

// P13.2: a later hop that is not over the net is refused wherever it stands.
func TestWalkOfLaterLocal(t *testing.T) {
	for _, mode := range modes {
		r := api.Request{Mode: mode, Origin: own}
		for _, h := range local {
			for i := range 21 {
				hops := slices.Repeat(way("https://a/|https://a"), 21)
				hops[i] = h
				checkFails(t, r, hops, api.ErrTaintHops)
				checkFails(t, r, hops[:max(i+1, 2)], api.ErrTaintHops)
			}
		}
	}
}

// P13.2: hops that may not be are told ahead of responses that are not shared, and a mode ahead of both.
func TestWalkErrorsInOrder(t *testing.T) {
	r := api.Request{Mode: api.ModeCors, Origin: own}
	checkFails(t, r, way("https://b/ data:,x"), api.ErrTaintHops)
	checkFails(t, r, way("https://b/ https://b/ https://a/ about:blank"), api.ErrTaintHops)
	checkFails(t, r, slices.Repeat(way("https://b/"), 22), api.ErrTaintHops)
	checkFails(t, r, slices.Repeat(way("https://b/"), 21), api.ErrTaintCors)
	checkFails(t, api.Request{Mode: 4, Origin: own}, way("https://b/ data:,x"), api.ErrArg)
	checkFails(t, api.Request{Mode: 4, Origin: own}, way("https://b/"), api.ErrArg)
}

// P13.2: a navigation is basic, with credentials, wherever it leads.
func TestWalkOfNav(t *testing.T) {
	for _, r := range everyMode(own, samples.Origin("data:,x")) {
		if r.Mode != api.ModeNav {
			continue
		}
		checkWalk(t, r, way("https://a/x"), basicOn)
		checkWalk(t, r, way("https://b/x"), basicOn)
		checkWalk(t, r, way("https://b/x|https://c"), basicOn)
		checkWalk(t, r, way("https://b/x https://b/y"), basicOn)
		checkWalk(t, r, way("https://b/x https://c/y"), asNull(basicOn))
		checkWalk(t, r, way("https://b/x https://a/y"), asNull(basicOn))
	}
}

// checkGrid is of hops in each mode with each of the credentials, in that order.
func checkGrid(t *testing.T, hops string, wants ...api.Fetched) {
	t.Helper()
	for i, want := range wants {
		checkLines(t, []line{{modes[i/3], kinds[i%3], hops, want}})
	}
}

// P13.2: hops all same-origin, in each mode with each of the credentials.
func TestWalkOfSameOrigin(t *testing.T) {
	for _, hops := range []string{"https://a/x", "https://a:443/", "https://a/x https://a/y?z https://A:443/", "https://a/|https://b https://a/|null|false"} {
		checkGrid(t, hops, basicOn, basicOn, basicOn, basic, basicOn, basicOn, basic, basicOn, basicOn)
	}
}

// P13.2: a hop of another origin, in each mode with each of the credentials.
func TestWalkOfOtherOrigin(t *testing.T) {
	no := api.Fetched{}
	for _, url := range []string{"https://b/x", "http://a/", "https://a:8/", "https://1.2.3.4/", "https://a.b/"} {
		checkGrid(t, url+"|https://a|true", basicOn, basicOn, basicOn, opaque, opaque, opaqueOn, cors, cors, corsOn)
		checkGrid(t, url+"|*|true", basicOn, basicOn, basicOn, opaque, opaque, opaqueOn, cors, cors, no)
		checkGrid(t, url, basicOn, basicOn, basicOn, opaque, opaque, opaqueOn, no, no, no)
	}
}

// P13.2: with NoCors, CredSame goes by the last hop, and the taint by all of them; heads don't count.
func TestWalkOfNoCors(t *testing.T) {
	for _, heads := range []string{"", "|*", "|https://b|true"} {
		hops := func(text string) string { return strings.ReplaceAll(text, " ", heads+" ") + heads }
		checkLines(t, []line{
			{api.ModeNoCors, api.CredSame, hops("https://a/ https://b/"), opaque},
			{api.ModeNoCors, api.CredInclude, hops("https://a/ https://b/"), opaqueOn},
			{api.ModeNoCors, api.CredOmit, hops("https://b/ https://a/"), asNull(opaque)},
			{api.ModeNoCors, api.CredSame, hops("https://b/ https://a/"), asNull(opaqueOn)},
			{api.ModeNoCors, api.CredInclude, hops("https://b/ https://a/"), asNull(opaqueOn)},
			{api.ModeNoCors, api.CredSame, hops("https://b/ https://b/"), opaque},
			{api.ModeNoCors, api.CredSame, hops("https://b/ https://a/ https://c/"), asNull(opaque)},
			{api.ModeNoCors, api.CredSame, hops("https://a/ https://b/ https://a/"), asNull(opaqueOn)},
		})
	}
}

// P13.2: with NoCors under CoepCredentials, credentials go along only if all hops are same-origin.
func TestWalkOfBare(t *testing.T) {
	for _, l := range []line{
		{api.ModeNoCors, api.CredOmit, "https://a/", basic},
		{api.ModeNoCors, api.CredSame, "https://a/ https://a/", basicOn},
		{api.ModeNoCors, api.CredInclude, "https://a/", basicOn},
		{api.ModeNoCors, api.CredOmit, "https://b/", opaque},
		{api.ModeNoCors, api.CredSame, "https://b/", opaque},
		{api.ModeNoCors, api.CredInclude, "https://b/|https://a|true", opaque},
		{api.ModeNoCors, api.CredInclude, "https://a/ https://b/", opaque},
		{api.ModeNoCors, api.CredSame, "https://b/ https://a/", asNull(opaque)},
		{api.ModeNoCors, api.CredInclude, "https://b/ https://a/", asNull(opaque)},
		{api.ModeNav, api.CredOmit, "https://b/", basicOn},
		{api.ModeCors, api.CredInclude, "https://b/|https://a|true", corsOn},
		{api.ModeCors, api.CredSame, "https://a/", basicOn},
		{api.ModeCors, api.CredSame, "https://b/|*", cors},
	} {
		checkLine(t, l, api.CoepCredentials)
	}
	for _, coep := range []int{api.CoepNone, api.CoepRequire, -1, 3, math.MaxInt, math.MinInt} {
		checkLine(t, line{api.ModeNoCors, api.CredInclude, "https://b/", opaqueOn}, coep)
		checkLine(t, line{api.ModeNoCors, api.CredSame, "https://b/ https://a/", asNull(opaqueOn)}, coep)
	}
}

// P13.2: with Cors, every hop must be shared from the first one on that is not same-origin.
func TestWalkOfCors(t *testing.T) {
	no := api.Fetched{}
	checkLines(t, []line{
		{api.ModeCors, api.CredOmit, "https://a/x https://b/y|https://a", cors},
		{api.ModeCors, api.CredSame, "https://a/x https://b/y|https://a", cors},
		{api.ModeCors, api.CredInclude, "https://a/x https://b/y|https://a", no},
		{api.ModeCors, api.CredInclude, "https://a/x https://b/y|https://a|true", corsOn},
		{api.ModeCors, api.CredOmit, "https://a/|https://z https://b/|*", cors},
		{api.ModeCors, api.CredOmit, "https://a/|* https://b/", no},
		{api.ModeCors, api.CredOmit, "https://b/ https://b/|*", no},
		{api.ModeCors, api.CredOmit, "https://b/|* https://b/", no},
		{api.ModeCors, api.CredOmit, "https://b/|* https://b/|https://a https://b/|*", cors},
		{api.ModeCors, api.CredOmit, "https://b/|* https://b/ https://b/|*", no},
		{api.ModeCors, api.CredInclude, "https://b/|*|true", no},
		{api.ModeCors, api.CredInclude, "https://b/|https://a", no},
		{api.ModeCors, api.CredInclude, "https://b/|https://a|True", no},
		{api.ModeCors, api.CredOmit, "https://b/|https://b|true", no},
		{api.ModeCors, api.CredOmit, "https://b/|https://a/", no},
		{api.ModeCors, api.CredOmit, "https://b/|https://a:443", no},
		{api.ModeCors, api.CredOmit, "https://b/|null", no},
	})
}

// P13.2: with Cors, a same-origin hop behind one that is not must be shared, too, and CredSame sends nothing to it.
func TestWalkOfCorsAndBack(t *testing.T) {
	no := api.Fetched{}
	checkLines(t, []line{
		{api.ModeCors, api.CredOmit, "https://b/|* https://a/", no},
		{api.ModeCors, api.CredOmit, "https://b/|* https://a/|https://a", no},
		{api.ModeCors, api.CredOmit, "https://b/|* https://a/|null", asNull(cors)},
		{api.ModeCors, api.CredOmit, "https://b/|* https://a/|*", asNull(cors)},
		{api.ModeCors, api.CredSame, "https://b/|* https://a/|null|true", asNull(cors)},
		{api.ModeCors, api.CredInclude, "https://b/|https://a|true https://a/|null|true", asNull(corsOn)},
		{api.ModeCors, api.CredInclude, "https://b/|https://a|true https://a/|null", no},
		{api.ModeCors, api.CredInclude, "https://b/|https://a|true https://a/|https://a|true", no},
		{api.ModeCors, api.CredInclude, "https://b/|null|true https://a/|null|true", no},
		{api.ModeCors, api.CredSame, "https://a/ https://b/|https://a https://a/|null https://a/", no},
		{api.ModeCors, api.CredSame, "https://a/ https://b/|https://a https://a/|null https://a/|null", asNull(cors)},
	})
}

// P13.2: the origin is null from the hop on that another origin than its own has led to, if that was not same-origin.
func TestWalkOfNull(t *testing.T) {
	for hops, want := range map[string]bool{
		"https://a/": false, "https://b/": false,
		"https://a/ https://a/": false, "https://a/ https://b/": false, "https://b/ https://b:443/": false,
		"https://b/ https://a/": true, "https://b/ https://c/": true, "https://b/ http://b/": true, "https://b/ https://b:8/": true,
		"https://a/ https://a/ https://b/": false, "https://a/ https://b/ https://b/": false,
		"https://a/ https://b/ https://a/": true, "https://a/ https://b/ https://c/": true,
		"https://b/ https://a/ https://a/": true, "https://b/ https://c/ https://c/": true, "https://b/ https://c/ https://b/ https://b/": true,
		"http://a/ https://a/": true, "https://a/ http://a/": false, "https://a/ http://a/ https://a/ https://a/": true,
	} {
		for _, mode := range modes {
			r := api.Request{Mode: mode, Origin: own}
			l := way(hops)
			for i := range l {
				l[i].Head = samples.Lines(allow, "*")
			}
			got, err := Walk(r, l)
			if got.Null != want || err != api.OK {
				t.Errorf("%s, mode %d: null %v, %d", hops, mode, got.Null, err)
			}
		}
	}
}

// P13.2: with Cors, the text is null from just that hop on.
func TestWalkNullFromWhichHop(t *testing.T) {
	origins := []string{"https://a", "https://a", "https://b", "https://b", "https://c", "https://c", "https://a", "https://a"}
	texts := []string{"x", "x", "https://a", "https://a", "null", "null", "null", "null"}
	hops := func(texts []string) []api.Hop {
		var out []api.Hop
		for i, text := range texts {
			out = append(out, api.Hop{URL: samples.URL(origins[i]), Head: head(text, "true")})
		}
		return out
	}
	for n := range len(origins) {
		for _, kind := range kinds {
			r := api.Request{Mode: api.ModeCors, Creds: kind, Origin: own}
			want := api.Fetched{Taint: api.TaintCors, Creds: kind == api.CredInclude, Null: n >= 4}
			if n < 2 {
				want = api.Fetched{Taint: api.TaintBasic, Creds: kind != api.CredOmit}
			}
			checkWalk(t, r, hops(texts[:n+1]), want)
			if n < 2 {
				continue
			}
			other := slices.Clone(texts[:n+1])
			for _, other[n] = range []string{"https://b", "https://c", "", "x", map[bool]string{true: "https://a", false: "null"}[n >= 4]} {
				checkFails(t, r, hops(other), api.ErrTaintCors)
			}
		}
	}
}

// P13.2: no hop is same-origin for an opaque origin, whatever its number and the fields that it should not have; its text is null all along.
func TestWalkOfOpaque(t *testing.T) {
	for _, id := range []int{0, 1, -1, math.MaxInt} {
		for _, o := range []api.Origin{{Opaque: true, Id: id}, {Opaque: true, Id: id, Scheme: "https", Host: api.Host{Name: "a"}, Port: 443}} {
			r := api.Request{Mode: api.ModeNoCors, Creds: api.CredSame, Origin: o}
			checkWalk(t, r, way("https://a/"), opaque)
			checkWalk(t, r, way("https://a/ https://a/"), opaque)
			checkWalk(t, r, way("https://a/ https://b/"), asNull(opaque))
			r.Mode = api.ModeCors
			checkWalk(t, r, way("https://a/|null"), cors)
			checkWalk(t, r, way("https://a/|* https://a/|null"), cors)
			checkWalk(t, r, way("https://a/|null https://b/|null"), asNull(cors))
			checkFails(t, r, way("https://a/"), api.ErrTaintCors)
			checkFails(t, r, way("https://a/|https://a"), api.ErrTaintCors)
			r.Creds = api.CredInclude
			checkWalk(t, r, way("https://a/|null|true"), corsOn)
			checkFails(t, r, way("https://a/|null"), api.ErrTaintCors)
		}
	}
}

// P13.2: origins and URLs made by hand: ports below none are the scheme's own, and an Id doesn't count where an origin has none.
func TestWalkByHand(t *testing.T) {
	u := api.URL{Scheme: "https", Host: api.Host{Name: "a"}, Port: -7, Path: "x", Rest: "https://b"}
	r := api.Request{Mode: api.ModeNoCors, Creds: api.CredSame, Origin: api.Origin{Id: 9, Scheme: "https", Host: api.Host{Name: "a"}, Port: 443}}
	checkWalk(t, r, []api.Hop{{URL: u}}, basicOn)
	u.Port = 0
	checkWalk(t, r, []api.Hop{{URL: u}}, opaque)
	r.Origin.Port = 0
	checkWalk(t, r, []api.Hop{{URL: u}}, basicOn)
	u.Host = api.Host{Name: "a", V4: true}
	checkWalk(t, r, []api.Hop{{URL: u}}, opaque)
	checkWalk(t, r, []api.Hop{{URL: api.URL{Scheme: "http", Port: -1}}, {URL: api.URL{Scheme: "http", Port: 80}}}, opaque)
	checkWalk(t, r, []api.Hop{{URL: api.URL{Scheme: "http"}}, {URL: api.URL{Scheme: "http", Port: 80}}}, asNull(opaque))
	r.Mode, r.Origin = api.ModeCors, api.Origin{Scheme: "x", Host: api.Host{Name: "y z"}, Port: -3}
	checkWalk(t, r, []api.Hop{{URL: u, Head: samples.Lines(allow, "x://y z:-3")}}, cors)
	r.Origin = api.Origin{}
	checkWalk(t, r, []api.Hop{{URL: u, Head: samples.Lines(allow, "://:0")}}, cors)
	checkFails(t, r, []api.Hop{{URL: u, Head: samples.Lines(allow, "null")}}, api.ErrTaintCors)
}

// P13.2: Creds that are none of theirs send nothing, and need no allow-credentials.
func TestWalkOfOtherCreds(t *testing.T) {
	for _, kind := range []int{-1, 3, 4, 258, math.MaxInt, math.MinInt} {
		checkLines(t, []line{
			{api.ModeNav, kind, "https://b/", basicOn},
			{api.ModeNoCors, kind, "https://a/", basic},
			{api.ModeNoCors, kind, "https://b/", opaque},
			{api.ModeCors, kind, "https://a/", basic},
			{api.ModeCors, kind, "https://b/|*", cors},
			{api.ModeCors, kind, "https://b/|https://a", cors},
			{api.ModeCors, kind, "https://b/", api.Fetched{}},
		})
	}
}

// P13.3: hops all same-origin are basic, whatever their heads are.
func TestSameOriginIsBasic(t *testing.T) {
	heads := [][]api.Header{nil, {}, head("*", "true"), head("null", "true"), head("https://b", ""), samples.Lines(allow, "x", "y"), {{Name: "\x00", Value: "\n"}}}
	for _, o := range samples.Origins("https://a", "http://b:8", "http://1.2.3.4") {
		hop := api.Hop{URL: api.URL{Scheme: o.Scheme, Host: o.Host, Port: o.Port}}
		for _, r := range everyMode(o) {
			want := api.Fetched{Taint: 1, Creds: r.Mode == api.ModeNav || r.Creds == api.CredInclude || r.Creds == api.CredSame}
			for _, head := range heads {
				hop.Head = head
				checkWalk(t, r, []api.Hop{hop}, want)
				checkWalk(t, r, slices.Repeat([]api.Hop{hop}, 21), want)
			}
		}
	}
}

// P13.3: * shares no response to a request with credentials, wherever it stands on the way.
func TestWildWithCredentials(t *testing.T) {
	r := api.Request{Mode: api.ModeCors, Creds: api.CredInclude, Origin: own}
	for i := range 21 {
		hops := slices.Repeat(way("https://b/|https://a|true"), 21)
		checkWalk(t, r, hops, corsOn)
		hops[i].Head = head("*", "true")
		checkFails(t, r, hops, api.ErrTaintCors)
		checkFails(t, r, hops[:i+1], api.ErrTaintCors)
	}
}

// R1: long heads, values and texts.
func TestLong(t *testing.T) {
	long := strings.Repeat("x", 1<<20)
	checkAllowed(t, long, long, true, true)
	checkAllowed(t, long, long+"x", false, false)
	checkAllowed(t, strings.Repeat(" ", 1<<20)+"*", "https://a", true, false)
	many := samples.Lines("x", slices.Repeat([]string{"y"}, 1<<16)...)
	r := api.Request{Mode: api.ModeCors, Creds: api.CredInclude, Origin: own}
	hops := slices.Repeat([]api.Hop{{URL: samples.URL("https://b/"), Head: slices.Concat(many, head("https://a", "true"), many)}}, 21)
	checkWalk(t, r, hops, corsOn)
	hops[20].Head = samples.Lines(allow, slices.Repeat([]string{"https://a"}, 1<<16)...)
	checkFails(t, r, hops, api.ErrTaintCors)
	checkFails(t, r, make([]api.Hop, 1<<20), api.ErrTaintHops)
}

// R4: arguments stay as they are, with the room behind them; R5: the same again is answered the same.
func TestArgumentsStay(t *testing.T) {
	hops := way("https://a/|x https://b/|https://a|true https://c/|null|true https://d/|y|z")
	was := brief(hops)
	r := api.Request{Mode: api.ModeCors, Creds: api.CredInclude, Origin: own}
	for range 3 {
		checkWalk(t, r, hops[:3], asNull(corsOn))
		checkFails(t, r, hops, api.ErrTaintCors)
		checkShared(t, hops[1].Head[:1], "https://a", false, true)
		checkShared(t, hops[1].Head[:1], "https://a", true, false)
	}
	if got := brief(hops); got != was {
		t.Errorf("%s, not %s", got, was)
	}
}

// A way may be gone in part, and again from its beginning.
func TestStepsAgain(t *testing.T) {
	all := steps(own, way("https://b/ https://c/ https://a/"))
	for n := range 4 {
		var nulls []bool
		for s := range all {
			if len(nulls) == n {
				break
			}
			nulls = append(nulls, s.null)
		}
		if want := []bool{false, true, true}[:min(n, 3)]; !slices.Equal(nulls, want) {
			t.Errorf("%d steps: %v", n, nulls)
		}
	}
}
