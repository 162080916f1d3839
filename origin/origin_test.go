package origin

import (
	"math"
	"slices"
	"strconv"
	"strings"
	"testing"

	"glacis/api"
	"glacis/host"
	"glacis/urlp"
)

var address = api.Host{V4: true, Addr: 0x01020304}

func named(name string) api.Host { return api.Host{Name: name} }

func net(scheme string, h api.Host, port int) api.Origin {
	return api.Origin{Scheme: scheme, Host: h, Port: port}
}

func numbered(id int) api.Origin { return api.Origin{Opaque: true, Id: id} }

func parsed(t *testing.T, s string) api.URL {
	t.Helper()
	u, err := urlp.Parse(s)
	if err != api.OK {
		t.Fatalf("Parse(%q): error %d", s, err)
	}
	return u
}

// manyOrigins are origins of URLs and origins made by hand, those with values in fields that are not theirs among them.
func manyOrigins() []api.Origin {
	hosts := []api.Host{
		{}, named("a"), named("x.a"), named("y.a"), named("null"), named("1.2.3.4"), named("A"), named("a\xff"),
		address, {V4: true}, {V4: true, Addr: 1}, {Name: "a", V4: true, Addr: 1}, {Name: "a", Addr: 1},
	}
	var out []api.Origin
	for _, scheme := range []string{"", "http", "https", "HTTP", "data"} {
		for _, h := range hosts {
			for _, port := range []int{-1, 0, 80, 443, 65536} {
				out = append(out, net(scheme, h, port))
			}
		}
	}
	for _, id := range []int{math.MinInt, -1, 0, 7, math.MaxInt} {
		for _, o := range []api.Origin{{}, net("http", named("a"), 80), net("", address, 0), net("", named(""), 1)} {
			o.Id = id
			out = append(out, o)
			o.Opaque = true
			out = append(out, o)
		}
	}
	return out
}

// P4.1: origins of URLs, field by field.
func TestOf(t *testing.T) {
	for _, c := range []struct {
		s    string
		want api.Origin
	}{
		{"http://a/", net("http", named("a"), 80)},
		{"https://a/", net("https", named("a"), 443)},
		{"https://a:443/x", net("https", named("a"), 443)},
		{"http://a:443/", net("http", named("a"), 443)},
		{"https://a:80/", net("https", named("a"), 80)},
		{"http://a:0/", net("http", named("a"), 0)},
		{"http://a:/", net("http", named("a"), 80)},
		{"https://a:65535/", net("https", named("a"), 65535)},
		{"HTTPS://X.A.Example:8/b/c?d#e", net("https", named("x.a.example"), 8)},
		{"http://1.2.3.4/", net("http", address, 80)},
		{"https://1.2.3.4:5/?6", net("https", address, 5)},
		{"blob:http://a:8/1", net("http", named("a"), 8)},
		{"blob:http://a/1", net("http", named("a"), 80)},
		{"blob:https://a/1", net("https", named("a"), 443)},
		{"blob:HTTPS://A:80", net("https", named("a"), 80)},
		{"blob:http://1.2.3.4/", net("http", address, 80)},
		{"blob:null/1", numbered(7)},
		{"blob:null/http://a/", numbered(7)},
		{"data:,x", numbered(7)},
		{"data:http://a/", numbered(7)},
		{"about:blank", numbered(7)},
		{"about:srcdoc", numbered(7)},
	} {
		if o := Of(parsed(t, c.s), 7); o != c.want {
			t.Errorf("Of(%q) = %v, not %v", c.s, o, c.want)
		}
	}
}

// P4.1: each port that a URL may have is its origin's port.
func TestOfEachPort(t *testing.T) {
	for port := range 65536 {
		for _, scheme := range []string{"http", "https"} {
			s := scheme + "://a:" + strconv.Itoa(port) + "/"
			for _, in := range []string{s, "blob:" + s} {
				if o := Of(parsed(t, in), 7); o != net(scheme, named("a"), port) {
					t.Fatalf("Of(%q) = %v", in, o)
				}
			}
		}
	}
}

// P4.1: an opaque origin has the number that it is given, and any other has none.
func TestOfId(t *testing.T) {
	for _, id := range []int{math.MinInt, -1, 0, 1, 7, math.MaxInt} {
		for _, s := range []string{"data:,", "about:blank", "blob:null/"} {
			if o := Of(parsed(t, s), id); o != numbered(id) {
				t.Errorf("Of(%q, %d) = %v", s, id, o)
			}
		}
		for _, s := range []string{"http://a", "blob:http://a"} {
			if o := Of(parsed(t, s), id); o != net("http", named("a"), 80) {
				t.Errorf("Of(%q, %d) = %v", s, id, o)
			}
		}
	}
}

// P4.1: URLs made by hand.
func TestOfByHand(t *testing.T) {
	odd := api.Host{Name: "A..\xff", V4: true, Addr: 9}
	for _, c := range []struct {
		u    api.URL
		want api.Origin
	}{
		{api.URL{}, numbered(7)},
		{api.URL{Host: named("a"), Port: 80}, numbered(7)},
		{api.URL{Scheme: "HTTP", Host: named("a"), Port: 80}, numbered(7)},
		{api.URL{Scheme: "http:", Host: named("a"), Port: 80}, numbered(7)},
		{api.URL{Scheme: "ftp", Host: named("a"), Port: 21}, numbered(7)},
		{api.URL{Scheme: "data", Host: named("a"), Port: 80, Path: "/", Rest: "http://a/"}, numbered(7)},
		{api.URL{Scheme: "about", Rest: "http://a/"}, numbered(7)},
		{api.URL{Scheme: "http"}, net("http", api.Host{}, 0)},
		{api.URL{Scheme: "http", Port: -2}, net("http", api.Host{}, 80)},
		{api.URL{Scheme: "https", Port: math.MinInt}, net("https", api.Host{}, 443)},
		{api.URL{Scheme: "https", Port: math.MaxInt}, net("https", api.Host{}, math.MaxInt)},
		{api.URL{Scheme: "http", Port: 65536}, net("http", api.Host{}, 65536)},
		{api.URL{Scheme: "http", Host: odd, Port: -1, Path: "x", Rest: "blob:https://b/"}, net("http", odd, 80)},
		{api.URL{Scheme: "http", Host: named("a"), Rest: "https://b/"}, net("http", named("a"), 0)},
		{api.URL{Scheme: "blob"}, numbered(7)},
		{api.URL{Scheme: "blob", Host: named("a"), Port: 80}, numbered(7)},
		{api.URL{Scheme: "blob", Host: named("b"), Port: 9, Rest: "http://a/"}, net("http", named("a"), 80)},
		{api.URL{Scheme: "blob", Rest: " http://a:8/#x "}, net("http", named("a"), 8)},
		{api.URL{Scheme: "blob", Rest: "http://a:65536/"}, numbered(7)},
		{api.URL{Scheme: "blob", Rest: "http://a b/"}, numbered(7)},
		{api.URL{Scheme: "blob", Rest: "data:,x"}, numbered(7)},
		{api.URL{Scheme: "blob", Rest: "blob:http://a/"}, numbered(7)},
		{api.URL{Scheme: "blob", Rest: "http://a/" + strings.Repeat("x", api.MaxURL-9)}, net("http", named("a"), 80)},
		{api.URL{Scheme: "blob", Rest: "http://a/" + strings.Repeat("x", api.MaxURL-8)}, numbered(7)},
		{api.URL{Scheme: "BLOB", Rest: "http://a/"}, numbered(7)},
	} {
		if o := Of(c.u, 7); o != c.want {
			t.Errorf("Of(%v) = %v, not %v", c.u, o, c.want)
		}
	}
}

// P4.2: the text leaves out the default port of the origin's own scheme, and no other port.
func TestText(t *testing.T) {
	for _, c := range []struct {
		o    api.Origin
		want string
	}{
		{net("http", named("a"), 80), "http://a"},
		{net("https", named("a"), 443), "https://a"},
		{net("http", named("a"), 443), "http://a:443"},
		{net("https", named("a"), 80), "https://a:80"},
		{net("http", named("a"), 0), "http://a:0"},
		{net("http", named("x.a.example"), 8080), "http://x.a.example:8080"},
		{net("https", named("a"), 65535), "https://a:65535"},
		{net("http", address, 80), "http://1.2.3.4"},
		{net("https", address, 8), "https://1.2.3.4:8"},
		{numbered(7), "null"},
		{numbered(0), "null"},
		{numbered(-1), "null"},
		{api.Origin{Opaque: true, Scheme: "http", Host: named("a"), Port: 80}, "null"},
		{api.Origin{}, "://:0"},
		{api.Origin{Id: 7, Scheme: "http", Host: named("a"), Port: 80}, "http://a"},
		{net("", named("a"), 80), "://a:80"},
		{net("ftp", named("a"), 0), "ftp://a:0"},
		{net("ftp", named("a"), 80), "ftp://a:80"},
		{net("HTTP", named("a"), 80), "HTTP://a:80"},
		{net("null", named("null"), 443), "null://null:443"},
		{net("http", named("A..\xff"), -1), "http://A..\xff:-1"},
		{net("http", api.Host{Name: "a", V4: true, Addr: 1}, 80), "http://0.0.0.1"},
		{net("http", api.Host{Name: "a", Addr: 1}, 80), "http://a"},
		{net("https", named(""), math.MaxInt), "https://:" + strconv.Itoa(math.MaxInt)},
		{net("https", named(""), math.MinInt), "https://:" + strconv.Itoa(math.MinInt)},
	} {
		if got := Text(c.o); got != c.want {
			t.Errorf("Text(%v) = %q, not %q", c.o, got, c.want)
		}
	}
}

// P4.2: each port is told but the default one.
func TestTextEachPort(t *testing.T) {
	for scheme, own := range map[string]int{"http": 80, "https": 443, "ftp": -1} {
		for port := range 65536 {
			want := scheme + "://a:" + strconv.Itoa(port)
			if port == own {
				want = scheme + "://a"
			}
			if got := Text(net(scheme, named("a"), port)); got != want {
				t.Fatalf("Text of %s, port %d = %q", scheme, port, got)
			}
		}
	}
}

// P4.3: two origins are the same by the fields that both of them have.
func TestSame(t *testing.T) {
	a := net("http", named("a"), 80)
	filled := api.Origin{Opaque: true, Id: 7, Scheme: "http", Host: named("a"), Port: 80}
	for _, c := range []struct {
		a, b api.Origin
		want bool
	}{
		{a, a, true},
		{a, net("https", named("a"), 80), false},
		{a, net("HTTP", named("a"), 80), false},
		{a, net("http", named("b"), 80), false},
		{a, net("http", named("A"), 80), false},
		{a, net("http", named("x.a"), 80), false},
		{a, net("http", named("a"), 443), false},
		{a, net("http", named("a"), -1), false},
		{a, net("http", api.Host{Name: "a", Addr: 1}, 80), false},
		{a, net("http", api.Host{Name: "a", V4: true}, 80), false},
		{net("http", address, 80), net("http", address, 80), true},
		{net("http", address, 80), net("http", named("1.2.3.4"), 80), false},
		{net("http", address, 80), net("http", api.Host{V4: true, Addr: 0x01020305}, 80), false},
		{a, api.Origin{Id: 7, Scheme: "http", Host: named("a"), Port: 80}, true},
		{numbered(7), numbered(7), true},
		{numbered(0), numbered(0), true},
		{numbered(-1), numbered(-1), true},
		{numbered(7), numbered(8), false},
		{numbered(7), numbered(-7), false},
		{filled, numbered(7), true},
		{filled, numbered(8), false},
		{filled, a, false},
		{filled, api.Origin{Id: 7, Scheme: "http", Host: named("a"), Port: 80}, false},
		{numbered(0), api.Origin{}, false},
		{api.Origin{}, api.Origin{}, true},
		{api.Origin{}, api.Origin{Id: 1}, true},
	} {
		if Same(c.a, c.b) != c.want || Same(c.b, c.a) != c.want {
			t.Errorf("Same(%v, %v) = %t, turned round %t, not %t", c.a, c.b, Same(c.a, c.b), Same(c.b, c.a), c.want)
		}
	}
}

// P4.3: the origins of URLs.
func TestSameOfURLs(t *testing.T) {
	for _, c := range []struct {
		a, b string
		want bool
	}{
		{"http://a", "https://a", false},
		{"http://a", "http://a:80/x?y#z", true},
		{"https://a:443", "HTTPS://A", true},
		{"http://a:443", "https://a", false},
		{"http://a:443", "https://a:443", false},
		{"http://a:8", "http://a:9", false},
		{"http://x.a", "http://a", false},
		{"blob:https://a/1", "https://a/2", true},
		{"blob:https://a/1", "blob:https://a:443/2", true},
		{"blob:http://a/1", "https://a/1", false},
		{"blob:null/1", "data:,x", true},
		{"about:blank", "about:srcdoc", true},
		{"about:blank", "http://null", false},
	} {
		if got := Same(Of(parsed(t, c.a), 7), Of(parsed(t, c.b), 7)); got != c.want {
			t.Errorf("Same(%q, %q) = %t", c.a, c.b, got)
		}
	}
	if u := parsed(t, "data:,x"); Same(Of(u, 1), Of(u, 2)) {
		t.Error("one URL's opaque origins of two numbers are the same")
	}
}

// P4.3: the site of an origin is that of its host.
func TestSite(t *testing.T) {
	uk := []string{"co.uk", "uk"}
	for _, c := range []struct {
		o        api.Origin
		suffixes []string
		want     string
	}{
		{net("http", named("x.a.b"), 80), nil, "a.b"},
		{net("https", named("x.a.b"), 8), []string{"a.b"}, "x.a.b"},
		{net("http", named("a.b.co.uk"), 80), uk, "b.co.uk"},
		{net("http", named("co.uk"), 80), uk, "co.uk"},
		{net("http", named("a"), 80), nil, "a"},
		{net("http", address, 80), []string{"3.4"}, "1.2.3.4"},
		{net("", named("x.a.b"), -1), nil, "a.b"},
		{api.Origin{}, uk, ""},
		{net("http", named("null"), 80), nil, "null"},
		{numbered(7), nil, "null"},
		{numbered(0), uk, "null"},
		{api.Origin{Opaque: true, Scheme: "http", Host: named("x.a.b"), Port: 80}, uk, "null"},
	} {
		if got := Site(c.o, c.suffixes); got != c.want {
			t.Errorf("Site(%v, %q) = %q, not %q", c.o, c.suffixes, got, c.want)
		}
	}
}

// P4.3: scheme and port don't count for a site; opaque origins have nobody on theirs but the same ones.
func TestSameSite(t *testing.T) {
	for _, c := range []struct {
		a, b     api.Origin
		suffixes []string
		want     bool
	}{
		{net("http", named("x.a.b"), 80), net("https", named("y.a.b"), 443), nil, true},
		{net("http", named("x.a.b"), 80), net("https", named("y.a.b"), 443), []string{"a.b"}, false},
		{net("http", named("x.a.b"), 80), net("http", named("y.x.a.b"), 8), []string{"a.b"}, true},
		{net("http", named("a"), 80), net("https", named("a"), 8), nil, true},
		{net("http", named("a.b"), 80), net("http", named("c.b"), 80), nil, false},
		{net("http", address, 80), net("https", address, 8), nil, true},
		{net("http", address, 80), net("http", api.Host{V4: true, Addr: 0x05020304}, 80), nil, false},
		{net("http", address, 80), net("http", api.Host{Name: "x", V4: true, Addr: 0x01020304}, 80), nil, true},
		{numbered(7), numbered(7), nil, true},
		{numbered(7), numbered(8), nil, false},
		{numbered(7), net("http", named("null"), 80), nil, false},
		{numbered(0), api.Origin{}, nil, false},
		{api.Origin{}, api.Origin{Id: 1, Scheme: "x", Port: 9}, nil, true},
		{api.Origin{Opaque: true, Host: named("a")}, net("", named("a"), 0), nil, false},
		{api.Origin{Opaque: true, Host: named("a")}, api.Origin{Opaque: true, Host: named("b")}, nil, true},
		{api.Origin{Opaque: true, Host: named("a")}, api.Origin{Opaque: true, Id: 1, Host: named("a")}, nil, false},
	} {
		if SameSite(c.a, c.b, c.suffixes) != c.want || SameSite(c.b, c.a, c.suffixes) != c.want {
			t.Errorf("SameSite(%v, %v, %q) is not %t", c.a, c.b, c.suffixes, c.want)
		}
	}
}

// R4: the suffixes stay as they are.
func TestSuffixesStay(t *testing.T) {
	suffixes := []string{"uk", "me.co.uk", "co.uk", "rest"}[:3]
	o := net("http", named("a.b.me.co.uk"), 80)
	if got := Site(o, suffixes); got != "b.me.co.uk" || !SameSite(o, o, suffixes) {
		t.Errorf("site %q", got)
	}
	if !slices.Equal(suffixes[:4], []string{"uk", "me.co.uk", "co.uk", "rest"}) {
		t.Errorf("suffixes changed: %q", suffixes[:4])
	}
}

// P4.3, P4.4: Same is an equivalence relation and implies SameSite, for origins made by hand, too.
func TestSameIsEquivalence(t *testing.T) {
	all := manyOrigins()
	for _, a := range all {
		if !Same(a, a) {
			t.Errorf("%v is not the same as itself", a)
		}
		for _, b := range all {
			if Same(a, b) != Same(b, a) {
				t.Errorf("Same(%v, %v) is not what it is turned round", a, b)
			}
			if !Same(a, b) {
				continue
			}
			for _, suffixes := range [][]string{nil, {"a"}, {"x.a", ""}} {
				if !SameSite(a, b, suffixes) || Site(a, suffixes) != Site(b, suffixes) {
					t.Errorf("%v and %v are the same, but not of one site", a, b)
				}
			}
			for _, c := range all {
				if Same(a, c) != Same(b, c) {
					t.Errorf("%v and %v are the same, but not to %v", a, b, c)
				}
			}
		}
	}
}

// P4.4: origins of URLs have equal texts if and only if they are the same; and a text is a URL of its origin.
func TestTextsTellOrigins(t *testing.T) {
	var all []api.Origin
	for _, scheme := range []string{"http", "https"} {
		for _, name := range []string{"a", "b", "a.b", "null", "1.2.3.4", "1.2.3.5", "0.0.0.0", "a-1", "http"} {
			for _, port := range []string{"", ":", ":0", ":1", ":8", ":80", ":443", ":8080", ":65535"} {
				for _, before := range []string{"", "blob:"} {
					all = append(all, Of(parsed(t, before+scheme+"://"+name+port+"/x?y"), 7))
				}
			}
		}
	}
	for _, a := range all {
		if again := Of(parsed(t, Text(a)), 8); again != a {
			t.Errorf("Text(%v) = %q, which is of %v", a, Text(a), again)
		}
		if Site(a, nil) != host.Site(a.Host, nil) {
			t.Errorf("Site(%v) = %q", a, Site(a, nil))
		}
		for _, b := range all {
			if (Text(a) == Text(b)) != Same(a, b) {
				t.Errorf("texts %q and %q, Same %t", Text(a), Text(b), Same(a, b))
			}
		}
	}
}
