package cspmatch

import (
	"fmt"
	"math"
	"slices"
	"strconv"
	"strings"
	"testing"

	"glacis/api"
	"glacis/samples"
)

// What texts without fields of their own mean.
var (
	none = api.Source{}
	own  = api.Source{Kind: api.SrcSelf}
	all  = api.Source{Kind: api.SrcAny}
)

func ofScheme(scheme string) api.Source {
	return api.Source{Kind: api.SrcScheme, Scheme: scheme}
}

func ofHost(scheme, host string, port int) api.Source {
	return api.Source{Kind: api.SrcHost, Scheme: scheme, Host: host, Port: port}
}

// byHand is an origin that no URL has.
func byHand(scheme, host string, port int) api.Origin {
	return api.Origin{Scheme: scheme, Host: api.Host{Name: host}, Port: port}
}

func numbered(id int) api.Origin { return api.Origin{Opaque: true, Id: id} }

// brief is the beginning of whatever a test has to tell.
func brief(what any) string {
	text := fmt.Sprintf("%+v", what)
	return fmt.Sprintf("%q", text[:min(len(text), 300)])
}

// lowered makes a letter of A to Z small, and no other byte.
func lowered(c string) string {
	if c >= "A" && c <= "Z" {
		return strings.ToLower(c)
	}
	return c
}

func checkParse(t *testing.T, s string, want api.Source) {
	t.Helper()
	if got := Parse(s); got != want {
		t.Errorf("Parse of %.300q: %s, not %s", s, brief(got), brief(want))
	}
}

func checkMatch(t *testing.T, s api.Source, o, self api.Origin, want bool) {
	t.Helper()
	if got := Match(s, o, self); got != want {
		t.Errorf("%s for %s by %s: %v", brief(s), brief(o), brief(self), got)
	}
}

// checkAny holds what Any tells of a list against what it should be, and against what a policy of that list lets through.
func checkAny(t *testing.T, l []string, o, self api.Origin, want bool) {
	t.Helper()
	if got := Any(l, o, self); got != want {
		t.Errorf("Any of %.300q for %s by %s: %v", l, brief(o), brief(self), got)
	}
	checkFrames(t, anc(l...), self, []api.Origin{o}, want)
}

func anc(l ...string) api.Policy { return api.Policy{HasAnc: true, Anc: l} }

func checkFrames(t *testing.T, p api.Policy, self api.Origin, ancestors []api.Origin, want bool) {
	t.Helper()
	if got := Frames(p, self, ancestors); got != want {
		t.Errorf("Frames of %s by %s with ancestors %s: %v", brief(p), brief(self), brief(ancestors), got)
	}
}

// meant is what an expression means by self, and what it does not.
type meant struct {
	text, self string
	yes, not   string // URLs between blanks
}

func checkMeant(t *testing.T, lines []meant) {
	t.Helper()
	for _, line := range lines {
		self := samples.Origin(line.self)
		for _, url := range strings.Fields(line.yes) {
			checkAny(t, []string{line.text}, samples.Origin(url), self, true)
		}
		for _, url := range strings.Fields(line.not) {
			checkAny(t, []string{line.text}, samples.Origin(url), self, false)
		}
	}
}

// P11.1 to P11.3: the chapter's examples.
func TestExamples(t *testing.T) {
	checkMeant(t, []meant{
		{"'self'", "https://a", "https://a", "http://a https://b"},
		{"*.b", "https://a", "https://x.b https://x.y.b", "https://b http://x.b"},
		{"http://b", "https://a", "http://b https://b", "http://b:81"},
		{"b:*", "https://a", "https://b:9", "http://b:9"},
		{"https:", "https://a", "https://c", "http://c"},
		{"*", "https://a", "https://c http://c https://b:9 http://1.2.3.4", "data:,x about:blank blob:null/1"},
	})
}

// P11.1: the two that are written in one way only, in letters of any size.
func TestParseWords(t *testing.T) {
	checkParse(t, "'self'", own)
	checkParse(t, "*", all)
	for _, sized := range samples.Sizes("'self'") {
		checkParse(t, sized, own)
	}
	for _, s := range []string{"self'", "'self", "''", "'sel'", "'selfs'", "'self''", "'none'", "'NONE'", "'unsafe-inline'", "'self':", "'self'/", "'self':80", "https://'self'", "\"self\"", "`self`", "’self’", "' self'", "'\u017felf'", "**", "* *", "*.", "*.*", "*a", "a*", "'*'"} {
		checkParse(t, s, none)
	}
	checkParse(t, "self", ofHost("", "self", -1))
	checkParse(t, "none", ofHost("", "none", -1))
}

// P11.1: a scheme alone.
func TestParseScheme(t *testing.T) {
	for _, scheme := range []string{"x", "http", "https", "data", "blob", "about", "ftp", "a1", "a+", "a-", "a.", "a..", "a+-.9z", "a.b", "z", "x999", "h--"} {
		checkParse(t, scheme+":", ofScheme(scheme))
		for _, sized := range samples.Sizes(scheme + ":") {
			checkParse(t, sized, ofScheme(scheme))
		}
	}
	for _, s := range []string{":", "::", "a::", ":a", "1:", "1a:", "+:", "+a:", "-a:", ".:", ".a:", "a_:", "_a:", "a b:", " a:", "a :", "a: ", "é:", "aé:", "\xff:", "a\xff:", "a\x00:", "*:", "*.a:", "a:/", "a://", "a:///", "a:?", "a:#", "'self':"} {
		checkParse(t, s, none)
	}
	// What ends with a colon behind a path is a host, for a scheme has no such byte.
	checkParse(t, "a/b:x:", ofHost("", "a", -1))
	checkParse(t, "a/https:", ofHost("", "a", -1))
}

// P11.1: each byte at each place of a scheme, alone and ahead of a host.
func TestSchemeEachByte(t *testing.T) {
	const small, more = "abcdefghijklmnopqrstuvwxyz", "0123456789+-."
	for _, c := range samples.Bytes() {
		if strings.Contains(":/", c) {
			continue // the scheme would end there
		}
		lower := lowered(c)
		first := strings.Contains(small, lower)
		later := strings.Contains(small+more, lower)
		for _, scheme := range []struct {
			text, lower string
			is          bool
		}{
			{c, lower, first},
			{c + "a", lower + "a", first},
			{"a" + c, "a" + lower, later},
			{"a" + c + "b", "a" + lower + "b", later},
		} {
			alone, ahead := none, none
			if scheme.is {
				alone, ahead = ofScheme(scheme.lower), ofHost(scheme.lower, "b.c", -1)
			}
			checkParse(t, scheme.text+":", alone)
			checkParse(t, scheme.text+"://b.c", ahead)
		}
	}
	checkParse(t, "/:", none)
	checkParse(t, "a/:", ofHost("", "a", -1))
	checkParse(t, "/://b", none)
	checkParse(t, "a/://b", ofHost("", "a", -1))
	checkParse(t, "a:://b", none)
	checkParse(t, "://b", none)
}

// P11.1: hosts of each kind, with and without a scheme, a port and a path.
func TestParseHost(t *testing.T) {
	domains := []string{"a", "a.b", "www.a-b.co_m", "-", "_", "-a-", "a--b", "xn--a", "1", "1.2.3.4", "1.2.3", "1.2.3.4.5", "1.2.3.04", "1.2.3.256", "a.1", "0", "007", "9a", "self", "https", "a1.b2"}
	hosts := append([]string{"*"}, domains...)
	for _, domain := range domains {
		hosts = append(hosts, "*."+domain)
	}
	schemes := []string{"", "http", "https", "x", "a+-.9", "a.b"}
	for _, host := range hosts {
		for _, scheme := range schemes {
			ahead := scheme + "://"
			if scheme == "" {
				ahead = ""
			}
			for port, number := range map[string]int{"": -1, ":*": -2, ":0": 0, ":1": 1, ":80": 80, ":443": 443, ":65535": 65535} {
				for _, path := range []string{"", "/", "//", "/x", "/x/y?z#w", "/:80", "/ \t", "/*", "/\xff", "/:", "/://b", "/\n/"} {
					text := ahead + host + port + path
					want := ofHost(scheme, host, number)
					if text == "*" {
						want = all
					}
					checkParse(t, text, want)
					checkParse(t, strings.ToUpper(ahead+host+port)+path, want)
				}
			}
			for _, port := range []string{":", ":x", ":-1", ":-2", ":+1", ":65536", ":99999", ":100000", ":18446744073709551696", ":00", ":080", ":8 ", ": 8", ":8.0", ":**", ":*8", ":8*", "::8", ":8:8", ":*:", ":0x8", ":\u0663"} {
				checkParse(t, ahead+host+port+"/", none)
				if port != ":" || scheme != "" {
					checkParse(t, ahead+host+port, none)
				}
			}
		}
	}
	for _, sized := range samples.Sizes("http://*.a-b.c:80") {
		checkParse(t, sized, ofHost("http", "*.a-b.c", 80))
	}
}

// P11.1: of a port only the numbers up to the limit.
func TestParseEachPort(t *testing.T) {
	for port := range 70000 {
		want := none
		if port <= 65535 {
			want = ofHost("", "a", port)
		}
		checkParse(t, "a:"+strconv.Itoa(port), want)
		checkParse(t, "a:0"+strconv.Itoa(port), none)
	}
}

// P11.1: domains of the greatest length, and beyond; what stands ahead of one doesn't count.
func TestParseHostLengths(t *testing.T) {
	label := strings.Repeat("a", 63)
	long := label + "." + label + "." + label + "." + label[:61]
	if len(long) != 253 {
		t.Fatal(len(long))
	}
	for _, ahead := range []string{"", "*."} {
		for _, domain := range []string{label, label + ".b", "b." + label, long, strings.Repeat("1", 63), "a." + strings.Repeat("1", 63), strings.Repeat("1.", 126) + "1"} {
			checkParse(t, ahead+domain, ofHost("", ahead+domain, -1))
			checkParse(t, "x://"+ahead+domain+":8/", ofHost("x", ahead+domain, 8))
		}
		for _, other := range []string{label + "a", label + "a.b", "b." + label + "a", long + "a", strings.Repeat("1", 64), strings.Repeat("1.", 127) + "1", strings.Repeat("1.", 126) + "12"} {
			checkParse(t, ahead+other, none)
			checkParse(t, "x://"+ahead+other+":8/", none)
		}
	}
}

// P11.1: each byte at each place of a host.
func TestHostEachByte(t *testing.T) {
	for _, c := range samples.Bytes() {
		if strings.Contains(":/*", c) {
			continue // these aren't a host's, or are one
		}
		lower := lowered(c)
		is := strings.Contains("abcdefghijklmnopqrstuvwxyz0123456789-_", lower)
		for _, scheme := range []string{"", "http"} {
			ahead := scheme + "://"
			if scheme == "" {
				ahead = ""
			}
			for _, wild := range []string{"", "*."} {
				for _, around := range [][2]string{{"", ""}, {"a", ""}, {"", "a"}, {"a.", ""}, {"", ".a"}, {"a", "a"}, {"1", "1"}, {"a.", ".a"}, {"a.b", "b.a"}} {
					host := wild + around[0] + lower + around[1]
					want := none
					if is || c == "." && !strings.Contains("."+around[0]+"."+around[1]+".", "..") {
						want = ofHost(scheme, host, -1)
					}
					checkParse(t, ahead+wild+around[0]+c+around[1], want)
				}
			}
		}
	}
}

// P11.1: wrong inputs.
func TestParseNone(t *testing.T) {
	for _, s := range []string{"", " ", "\t\n\f\r ", "  *", "* ", " 'self'", "'self' ", " a", "a ", "a b", "a\tb", "a,b", "a;b", "a?b", "a#b", "a?b/c", "a#/", "u@a", "u:p@a", "[::1]", "[::1]:80", "%61", "a%", "a\\b", "/", "//", "//a", "/a", "?", "#", "-:", "a..b", ".a", "a.", ".", "..", "*.", "*..a", "*.a.", "**.a", "*.*.a", "a.*", "a.*.b", "*a", "*-a", "*.a*", "x*.a", "://", "://a", "//://a", "http:a", "http:/a", "http:///a", "http://", "http://:80", "http:///", "http://*.", "http://a b", "http://x://a", "http://a:", "http://a:/", "http:://a", "http ://a", "1http://a", "-x://a", "é://a", "https;//a", "https:a/", "'nonce-a'", "'sha256-a='", "\x00", "\xff", "é", "a\u00e9", "\u017f", "\u212a", "a\u3002b"} {
		checkParse(t, s, none)
		if Any([]string{s}, samples.Origin("https://a"), samples.Origin("https://a")) {
			t.Errorf("%q: Any", s)
		}
	}
}

// P11.2: which schemes are compatible, for each kind that has one.
func TestSchemes(t *testing.T) {
	schemes := []string{"http", "https", "ws", "wss", "HTTP", "HTTPS", "httpss", "x"}
	self := numbered(1)
	for _, a := range schemes {
		for _, b := range schemes {
			want := a == b || a == "http" && b == "https"
			o := byHand(b, "c", 9)
			checkMatch(t, ofScheme(a), o, self, want)
			checkMatch(t, ofHost(a, "c", 9), o, self, want)
			checkMatch(t, ofHost("", "c", 9), o, byHand(a, "d", 8), want)
			checkMatch(t, own, o, byHand(a, "c", 9), want)
		}
	}
	checkMeant(t, []meant{
		{"http:", "data:,", "http://a https://a http://a:8 https://a:8", "data:,"},
		{"https:", "data:,", "https://a https://a:80", "http://a http://a:443"},
		{"data:", "data:,", "", "data:, http://a"},
		{"HTTP:", "https://a", "http://b https://c", "about:blank"},
		{"x:", "https://a", "", "https://a http://a"},
	})
	// An empty scheme is one like any other, where it isn't one's own that stands for it.
	checkMatch(t, ofScheme(""), byHand("", "a", 1), self, true)
	checkMatch(t, ofScheme(""), byHand("http", "a", 1), self, false)
	checkMatch(t, ofHost("", "a", 1), byHand("", "a", 1), byHand("", "b", 2), true)
	checkMatch(t, ofHost("", "a", 1), byHand("", "a", 1), self, false)
}

// P11.3: kinds that mean nothing, and those that are not named.
func TestOtherKinds(t *testing.T) {
	o := samples.Origin("https://a")
	for _, kind := range []int{api.SrcNone, -1, 5, 6, -4, math.MinInt, math.MaxInt} {
		checkMatch(t, api.Source{Kind: kind}, o, o, false)
		checkMatch(t, api.Source{Kind: kind, Scheme: "https", Host: "*", Port: -2}, o, o, false)
		checkMatch(t, api.Source{Kind: kind, Scheme: "https", Host: "a", Port: 443}, o, o, false)
	}
	// Fields that a kind does not have are not asked.
	checkMatch(t, api.Source{Kind: api.SrcAny, Scheme: "http", Host: "b", Port: 9}, o, o, true)
	checkMatch(t, api.Source{Kind: api.SrcSelf, Scheme: "x", Host: "b", Port: 9}, o, o, true)
	checkMatch(t, api.Source{Kind: api.SrcScheme, Scheme: "https", Host: "b", Port: 9}, o, o, true)
}

// P11.3: opaque origins mean nothing to any expression, even one's own; a self that is opaque has no fields.
func TestOpaque(t *testing.T) {
	selves := []api.Origin{samples.Origin("https://a"), numbered(1), numbered(2), {Opaque: true, Id: 1, Scheme: "https", Host: api.Host{Name: "a"}, Port: 443}}
	sources := []api.Source{none, own, all, ofScheme("https"), ofScheme(""), ofHost("https", "a", 443), ofHost("", "*", -2), ofHost("", "", 0)}
	for _, o := range selves[1:] {
		for _, self := range selves {
			for _, s := range sources {
				checkMatch(t, s, o, self, false)
			}
		}
	}
	filled := selves[3]
	checkMatch(t, own, samples.Origin("https://a"), filled, false)
	checkMatch(t, own, samples.Origin("https://a"), numbered(1), false)
	// With an opaque self, a host without a scheme is meant over http and https, whatever its empty fields say.
	for _, self := range []api.Origin{filled, numbered(0), {Opaque: true, Scheme: "x"}} {
		for scheme, want := range map[string]bool{"http": true, "https": true, "x": false, "": false, "HTTP": false, "ws": false} {
			checkMatch(t, ofHost("", "b", 9), byHand(scheme, "b", 9), self, want)
			checkMatch(t, ofHost("", "*", -2), byHand(scheme, "b", 9), self, want)
		}
		checkMatch(t, all, samples.Origin("http://b"), self, true)
	}
	// The number of an origin that isn't opaque counts for nothing.
	a := samples.Origin("https://a")
	b := a
	b.Id = 7
	checkMatch(t, own, a, b, true)
	checkMatch(t, own, b, a, true)
}

// P11.3: one's own origin, and the same host over a safer scheme.
func TestSelf(t *testing.T) {
	checkMeant(t, []meant{
		{"'self'", "http://a", "http://a https://a http://a:80 https://a:443 https://a:80", "http://a:443 https://a:8 http://b https://b http://x.a https://x.a http://a:81 https://a:444 data:,"},
		{"'self'", "https://a", "https://a https://a:443 blob:https://a/1", "http://a http://a:443 https://a:80 https://a:444 https://b https://x.a"},
		{"'self'", "http://a:8", "http://a:8 https://a:8", "http://a https://a http://a:9 https://a:9 http://b:8"},
		{"'self'", "https://a:8", "https://a:8", "http://a:8 https://a http://a"},
		{"'self'", "http://a:443", "http://a:443 https://a", "http://a https://a:80 https://a:8"},
		{"'self'", "https://a:80", "https://a:80", "http://a https://a"},
		{"'self'", "http://x.a", "http://x.a https://x.a", "http://a http://y.a http://x.x.a"},
		{"'self'", "http://1.2.3.4", "http://1.2.3.4 https://1.2.3.4", "http://1.2.3.5"},
		{"'self'", "blob:http://a:8/1", "http://a:8 https://a:8", "http://a"},
		{"'self'", "data:,", "", "http://a https://a data:, about:blank"},
	})
	// Other schemes have no port of their own, and are compatible with themselves alone.
	for _, port := range []int{80, 443, -1, 0} {
		x := byHand("x", "a", port)
		checkMatch(t, own, x, x, true)
		checkMatch(t, own, byHand("x", "a", 8), x, false)
		checkMatch(t, own, byHand("http", "a", port), x, false)
		checkMatch(t, own, x, byHand("http", "a", port), false)
	}
	checkMatch(t, own, byHand("x", "a", 80), byHand("x", "a", 443), false)
	// Each of the two has its scheme's own port, or both have the same one.
	checkMatch(t, own, byHand("http", "a", 443), byHand("http", "a", 80), false)
	checkMatch(t, own, byHand("https", "a", 80), byHand("http", "a", 80), true)
	checkMatch(t, own, byHand("https", "a", 443), byHand("http", "a", 443), true)
	// Hosts are compared as they are, not by their texts.
	address := api.Origin{Scheme: "http", Host: api.Host{V4: true, Addr: 1}, Port: 80}
	checkMatch(t, own, byHand("http", "0.0.0.1", 80), address, false)
	checkMatch(t, own, address, address, true)
	checkMatch(t, own, byHand("http", "A", 80), byHand("http", "a", 80), false)
}

// P11.3: hosts with and without a scheme.
func TestHostSchemes(t *testing.T) {
	checkMeant(t, []meant{
		{"b", "http://a", "http://b https://b", "http://b:8 data:,"},
		{"b", "https://a", "https://b", "http://b https://b:80"},
		{"b", "data:,", "http://b https://b", "http://b:443 https://b:80"},
		{"b", "about:blank", "http://b https://b", "data:,"},
		{"http://b", "data:,", "http://b https://b", "https://b:80 http://b:443"},
		{"https://b", "http://a", "https://b", "http://b http://b:443"},
		{"x://b", "http://a", "", "http://b https://b"},
		{"http://*", "https://a", "http://b https://c http://1.2.3.4", "http://b:8 data:,"},
		{"*:*", "https://a", "https://b https://c:80 https://1.2.3.4:9", "http://b data:,"},
		{"*:*", "http://a", "https://b http://c:80", "data:,"},
	})
}

// P11.3: a host, its subdomains, and names that only end alike.
func TestHosts(t *testing.T) {
	checkMeant(t, []meant{
		{"a.b", "http://s", "http://a.b", "http://b http://a http://x.a.b http://xa.b http://a.bx http://a.b.x"},
		{"*.a.b", "http://s", "http://x.a.b https://x.y.a.b", "http://a.b http://xa.b http://b http://x.b http://x.a.b.c http://a.b.a"},
		{"*.b", "http://s", "http://a.b http://x.a.b http://b.b", "http://b http://xb http://b.a http://x.bb"},
		{"*", "http://s", "http://a http://x.a.b http://1.2.3.4", "data:,"},
		{"A.B", "http://s", "http://a.b http://A.b", "http://a"},
		{"1.2.3.4", "http://s", "http://1.2.3.4", "http://1.2.3.5 http://x.a"},
		{"*.3.4", "http://s", "http://1.2.3.4", "http://3.4.3.5"},
		{"*.2.3.4", "http://s", "http://1.2.3.4", "http://2.3.4.4"},
		{"*.1.2.3.4", "http://s", "", "http://1.2.3.4"},
		{"1.2.3", "http://s", "", "http://1.2.3.4"},
		{"localhost", "http://s", "http://localhost", "http://x.localhost"},
	})
	// By hand: a text is held against an end of the name, whatever stands there.
	for _, c := range []struct {
		host, name string
		want       bool
	}{
		{"*b", "ab", true}, {"*b", "b", false}, {"*b", "bb", true}, {"*b", "*b", true}, {"*ab", "b", false},
		{"**", "a*", true}, {"**", "*", false}, {"**", "**", true}, {"*", "", true}, {"*", "*", true},
		{"", "", true}, {"", "a", false}, {"a", "", false}, {"*a", "", false},
		{"A", "a", false}, {"*.A", "x.a", false}, {"*.a", "x.A", false}, {"*.a", ".a", false}, {"*.a", "x..a", true},
		{"a*", "ab", false}, {".a", "x.a", false}, {"*\xff", "\xfe\xff", true}, {"*.a", "*.a", true},
	} {
		checkMatch(t, ofHost("http", c.host, 9), byHand("http", c.name, 9), numbered(1), c.want)
	}
	address := api.Origin{Scheme: "http", Host: api.Host{Name: "a.b", V4: true, Addr: 0x01020304}, Port: 9}
	for host, want := range map[string]bool{"1.2.3.4": true, "a.b": false, "*.4": true, "*.b": false, "*": true, "*.1.2.3.4": false} {
		checkMatch(t, ofHost("http", host, 9), address, numbered(1), want)
	}
}

// P11.3: ports.
func TestPorts(t *testing.T) {
	checkMeant(t, []meant{
		{"http://b", "http://a", "http://b https://b", "http://b:443 https://b:80 http://b:0 https://b:65535"},
		{"http://b:80", "http://a", "http://b https://b https://b:80", "http://b:443 http://b:81 https://b:81"},
		{"http://b:443", "http://a", "http://b:443 https://b", "http://b https://b:80"},
		{"https://b:443", "http://a", "https://b", "http://b http://b:443 https://b:80"},
		{"https://b:80", "http://a", "https://b:80 https://b", "http://b https://b:8"},
		{"http://b:8", "http://a", "http://b:8 https://b:8", "http://b https://b http://b:80"},
		{"http://b:0", "http://a", "http://b:0 https://b:0", "http://b https://b"},
		{"http://b:65535", "http://a", "http://b:65535", "http://b"},
		{"http://b:*", "http://a", "http://b https://b http://b:443 https://b:80 http://b:0 https://b:65535", "http://c"},
		{"b:80", "https://a", "https://b https://b:80", "http://b"},
		{"b", "https://a", "https://b", "https://b:80 https://b:8"},
	})
	// By hand: schemes without a port of their own, and ports that no text has.
	for _, c := range []struct {
		port   int
		scheme string
		own    int
		want   bool
	}{
		{-1, "x", 80, false}, {-1, "x", 443, false}, {-1, "x", -1, true}, {-1, "x", 0, false}, {-1, "HTTPS", 443, false},
		{80, "x", 443, false}, {80, "x", 80, true}, {80, "http", 443, false}, {443, "https", 80, false}, {443, "http", 80, false},
		{-2, "x", -2, true}, {-2, "x", math.MinInt, true}, {-3, "http", 80, false}, {-3, "http", -3, true}, {-1, "http", -2, false},
		{math.MaxInt, "http", math.MaxInt, true}, {math.MaxInt, "http", 80, false}, {math.MinInt, "https", 443, false}, {0, "http", 80, false},
	} {
		checkMatch(t, ofHost(c.scheme, "b", c.port), byHand(c.scheme, "b", c.own), numbered(1), c.want)
	}
}

// P11.3: each port of an origin, for each kind of port of an expression.
func TestEachPort(t *testing.T) {
	for port := range 65536 {
		for scheme, usual := range map[string]int{"http": 80, "https": 443} {
			o := byHand(scheme, "b", port)
			checkMatch(t, ofHost("http", "b", -2), o, o, true)
			checkMatch(t, ofHost("http", "b", -1), o, o, port == usual)
			checkMatch(t, ofHost("http", "b", 80), o, o, port == 80 || scheme == "https" && port == 443)
			checkMatch(t, ofHost("http", "b", 443), o, o, port == 443)
			checkMatch(t, own, o, byHand("http", "b", 80), port == usual || port == 80)
			checkMatch(t, own, o, o, true)
		}
	}
}

// P11.4: one that matches is enough, wherever it stands.
func TestAny(t *testing.T) {
	o, self := samples.Origin("https://b"), samples.Origin("https://a")
	checkAny(t, nil, o, self, false)
	checkAny(t, []string{}, o, o, false)
	checkAny(t, []string{""}, o, o, false)
	checkAny(t, []string{"'none'"}, o, o, false)
	others := []string{"'self'", "'none'", "", "c", "http://b:81", "data:", "*.b", "b:8", "'SELF'"}
	checkAny(t, others, o, self, false)
	for _, s := range []string{"b", "B", "*", "https:", "http://b", "https://*:443"} {
		for i := range len(others) + 1 {
			checkAny(t, slices.Insert(slices.Clone(others), i, s), o, self, true)
		}
	}
	// 'none' takes nothing away from the others.
	checkAny(t, []string{"'none'", "'self'"}, o, o, true)
	// Each is parsed by itself: blanks part nothing any more.
	checkAny(t, []string{"b c", "c b"}, o, self, false)
}

// P11.4: policies with one ancestor and with several.
func TestFrames(t *testing.T) {
	self := samples.Origin("https://a")
	p := anc("'self'", "b", "http://c:*")
	for texts, want := range map[string]bool{
		"":                               true,
		"https://a":                      true,
		"https://b":                      true,
		"http://c:9":                     true,
		"https://d":                      false,
		"http://a":                       false,
		"data:,":                         false,
		"https://a https://a":            true,
		"https://a https://b http://c":   true,
		"http://c https://b https://a":   true,
		"https://a https://b http://d":   false,
		"http://d https://b https://a":   false,
		"https://a http://d https://b":   false,
		"https://a https://b data:,":     false,
		"about:blank https://a":          false,
		"https://d https://d":            false,
		"https://a https://c:1 http://c": true,
	} {
		checkFrames(t, p, self, samples.Origins(strings.Fields(texts)...), want)
	}
	// Different ancestors may be meant by different expressions, and one expression by several.
	checkFrames(t, anc("b", "c"), self, samples.Origins("https://b", "https://c", "https://b"), true)
	checkFrames(t, anc("*"), self, samples.Origins("https://b", "http://c:9", "https://a"), true)
	checkFrames(t, anc("*"), self, samples.Origins("https://b", "data:,"), false)
}

// P11.4: without the directive all may frame, with an empty one nobody, and without ancestors it's no frame.
func TestFramesEdges(t *testing.T) {
	self := samples.Origin("https://a")
	many := samples.Origins("https://a", "http://b", "data:,")
	box := api.Policy{HasBox: true, Box: []string{"allow-scripts"}}
	for _, p := range []api.Policy{{}, box, {Anc: []string{"'none'"}}, {Anc: []string{"c"}, HasBox: true}} {
		checkFrames(t, p, self, many, true)
		checkFrames(t, p, numbered(1), many, true)
		checkFrames(t, p, self, nil, true)
	}
	for _, p := range []api.Policy{anc(), {HasAnc: true, Anc: []string{}, HasBox: true, Box: []string{"*"}}, anc("'none'"), anc("", " ", "a b")} {
		checkFrames(t, p, self, []api.Origin{self}, false)
		checkFrames(t, p, self, many, false)
		checkFrames(t, p, self, nil, true)
		checkFrames(t, p, self, []api.Origin{}, true)
	}
	box.HasAnc, box.Anc = true, []string{"'self'"}
	checkFrames(t, box, self, []api.Origin{self}, true)
	checkFrames(t, box, self, many, false)
}

// P11.5: the origin of an http or https URL is its own.
func TestOwnSelf(t *testing.T) {
	for _, host := range []string{"a", "x.a", "1.2.3.4", "a-b_c.d"} {
		for _, port := range []string{"", ":0", ":80", ":443", ":8080", ":65535"} {
			for _, scheme := range []string{"http://", "https://", "blob:http://", "blob:https://"} {
				o := samples.Origin(scheme + host + port + "/x")
				checkAny(t, []string{"'self'"}, o, o, true)
				checkFrames(t, anc("'self'"), o, []api.Origin{o, o}, true)
			}
		}
	}
}

// R4: arguments stay as they are, and so does the room behind them.
func TestArgumentsStay(t *testing.T) {
	l := append(make([]string, 0, 8), "'SELF'", "HTTP://B:80/X", "*.C")
	ancestors := append(make([]api.Origin, 0, 8), samples.Origins("https://a", "https://b", "https://x.c")...)
	wantL, wantA := slices.Clone(l[:8]), slices.Clone(ancestors[:8])
	for range 2 {
		checkAny(t, l, ancestors[1], ancestors[0], true)
		checkFrames(t, anc(l...), ancestors[0], ancestors, true)
		checkFrames(t, anc(l...), ancestors[1], ancestors, false)
	}
	if !slices.Equal(l[:8], wantL) || !slices.Equal(ancestors[:8], wantA) {
		t.Errorf("%q, %s", l[:8], brief(ancestors[:8]))
	}
}

// R1: long inputs.
func TestLong(t *testing.T) {
	const many = 1 << 20
	long := strings.Repeat("a", many)
	checkParse(t, long, none)
	checkParse(t, long+":", ofScheme(long))
	checkParse(t, long+"://a:80/", ofHost(long, "a", 80))
	checkParse(t, "a/"+long, ofHost("", "a", -1))
	checkParse(t, "a:80/"+strings.Repeat("://", many), ofHost("", "a", 80))
	checkParse(t, strings.Repeat("a.", many)+"a", none)
	checkParse(t, strings.Repeat("*.", many)+"a", none)
	checkParse(t, "a:"+strings.Repeat("9", many), none)
	checkParse(t, "a:"+strings.Repeat("0", many), none)
	checkMatch(t, ofHost("http", "*"+long, 80), byHand("http", "b"+long, 80), numbered(1), true)
	checkMatch(t, ofHost("http", "*"+long, 80), byHand("http", long, 80), numbered(1), false)

	self := samples.Origin("https://a")
	checkAny(t, slices.Repeat([]string{"b"}, many), self, self, false)
	l := append(slices.Repeat([]string{"b"}, 1000), "'self'")
	checkFrames(t, anc(l...), self, slices.Repeat([]api.Origin{self}, 1000), true)
	checkFrames(t, anc("'self'"), self, slices.Repeat([]api.Origin{self}, many), true)
}
