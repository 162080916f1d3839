package urlp

import (
	"strconv"
	"strings"
	"testing"

	"glacis/api"
)

var named = api.Host{Name: "a"}

func net(scheme string, h api.Host, port int, path string) api.URL {
	return api.URL{Scheme: scheme, Host: h, Port: port, Path: path}
}

func asked(u api.URL, query string) api.URL {
	u.HasQuery, u.Query = true, query
	return u
}

func other(scheme, rest string) api.URL { return api.URL{Scheme: scheme, Port: -1, Rest: rest} }

// eachText calls do with every text of at most most of the parts.
func eachText(parts []string, most int, do func(string)) {
	do("")
	if most > 0 {
		for _, part := range parts {
			eachText(parts, most-1, func(s string) { do(part + s) })
		}
	}
}

func wantURL(t *testing.T, s string, want api.URL) {
	t.Helper()
	if u, err := Parse(s); u != want || err != api.OK {
		t.Errorf("Parse(%q) = %v, %d, not %v", s, u, err, want)
	}
}

func wantErr(t *testing.T, s string, want api.Errno) {
	t.Helper()
	if u, err := Parse(s); u != (api.URL{}) || err != want {
		t.Errorf("Parse(%q) = %v, %d, not error %d", s, u, err, want)
	}
}

// P3.1: URLs of http and https, field by field.
func TestParseNet(t *testing.T) {
	for _, c := range []struct {
		s    string
		want api.URL
	}{
		{"http://a/", net("http", named, -1, "/")},
		{"https://a/", net("https", named, -1, "/")},
		{"http://a", net("http", named, -1, "/")},
		{"HtTpS://A.Example/B", net("https", api.Host{Name: "a.example"}, -1, "/B")},
		{" HTTPS://A.example:443/x/../y?z#w", asked(net("https", api.Host{Name: "a.example"}, -1, "/y"), "z")},
		{"http://1.2.3.4:", net("http", api.Host{V4: true, Addr: 0x01020304}, -1, "/")},
		{"http://1.2.3.4:5/6", net("http", api.Host{V4: true, Addr: 0x01020304}, 5, "/6")},
		{"http://a:8080", net("http", named, 8080, "/")},
		{"http://a:8080?q", asked(net("http", named, 8080, "/"), "q")},
		{"http://a?", asked(net("http", named, -1, "/"), "")},
		{"http://a/?", asked(net("http", named, -1, "/"), "")},
		{"http://a/b?", asked(net("http", named, -1, "/b"), "")},
		{"http://a/b?c?d", asked(net("http", named, -1, "/b"), "c?d")},
		{"http://a?b/../c", asked(net("http", named, -1, "/"), "b/../c")},
		{"http://a?b@c:d", asked(net("http", named, -1, "/"), "b@c:d")},
		{"http://a/b@c:d", net("http", named, -1, "/b@c:d")},
		{"http://a/b#c?d", net("http", named, -1, "/b")},
		{"http://a#/b", net("http", named, -1, "/")},
		{"http://a:#80", net("http", named, -1, "/")},
		{"http://a/b?c#d#e", asked(net("http", named, -1, "/b"), "c")},
		{"http://a/b?#", asked(net("http", named, -1, "/b"), "")},
		{"http://a/\\..\\b", net("http", named, -1, "/\\..\\b")},
		{"http://a/%2e%2E/b", net("http", named, -1, "/%2e%2E/b")},
		{"http://a/!~", net("http", named, -1, "/!~")},
		{"http://http://a/", net("http", api.Host{Name: "http"}, -1, "//a/")},
	} {
		wantURL(t, c.s, c.want)
	}
}

// P3.1, step 3: URLs of the other schemes keep their rest as it is.
func TestParseOthers(t *testing.T) {
	for _, c := range []struct {
		s    string
		want api.URL
	}{
		{"about:blank", other("about", "blank")},
		{"About:srcdoc", other("about", "srcdoc")},
		{"about:blank#x", other("about", "blank")},
		{"data:", other("data", "")},
		{"data:,a", other("data", ",a")},
		{"DATA://U@H:99999/../X?Y#Z", other("data", "//U@H:99999/../X?Y")},
		{"blob:null/", other("blob", "null/")},
		{"blob:null/1?2", other("blob", "null/1?2")},
		{"blob:null/#1", other("blob", "null/")},
		{"blob:https://a/1", other("blob", "https://a/1")},
		{"BLOB:HTTP://A:80/x/../y?Z#w", other("blob", "HTTP://A:80/x/../y?Z")},
		{"blob:http://a", other("blob", "http://a")},
	} {
		wantURL(t, c.s, c.want)
	}
}

// P3.1: wrong inputs.
func TestParseRefused(t *testing.T) {
	for want, texts := range map[api.Errno][]string{
		api.ErrURLForm: {
			"", " ", "x", "http", "//a/", "/a", "a b", ":", "://a/", " : ", "1http://a/", "+a:", "-a:", ".a:", "ht tp://a/", "ht_tp://a/", "http\x00://a/",
			"\xc3\xa9:", "a\xff:", "a#b:", "a/b:c", "\u212a:", "#about:blank",
			"http:", "http:/", "http:a", "http:/a", "http:?//a", "http:#//a/", "http:\\\\a/", "https:/a/",
			"http://a b/", "http://a/ b", "http://a/\x7f", "http://a/\xc3\xa9", "http://a/?b\tc", "http://a/b #c",
			"data:a b", "data:\n,", "data:a #b", "data:\xff",
			"http://u@a/", "http://u:p@a/", "http://@a/", "http://@", "http://a:@80", "http://a:80@",
			"about:", "about:x", "about:Blank", "about:BLANK", "about:blank/", "about:blank?", "about:srcdoc?x", "about://blank", "about:blanksrcdoc", "about:#blank",
			"blob:", "blob:x", "blob:null", "blob:NULL/", "blob:nul/", "blob:/null/", "blob:null#/", "blob:data:,a", "blob:about:blank", "blob:blob:https://a/", "blob:blob:null/1",
			"blob:https:/a", "blob:#https://a/",
		},
		api.ErrURLScheme: {"ftp://a/", "a:", "A:b", "httpss://a/", "htt:", "ws://a/", "wss://a/", "file:///a", "javascript:1", "about+x:blank", "http.:", "x-y:", "z9+-.:", "null:", "abouts:blank"},
		api.ErrHostForm:  {"http://", "http:///", "http:///a", "http://?a", "http://:80/", "http://a..b/", "http://[::1]/", "http://a_b%/", "https://1.2.3/", "http://1.2.3.256/", "http://*/", "http://a\\b/", "http://a,b"},
		api.ErrURLPort:   {"http://a:65536/", "http://a:080/", "http://a:x", "http://a:-1/", "http://a:+80/", "http://a:8080:", "http://a::80/", "http://a::", "https://a:0443/", "http://a:99999999999999999999/", "http://a:8.0/"},
	} {
		for _, s := range texts {
			wantErr(t, s, want)
		}
	}
}

// P3.1: which error is told first, where several apply.
func TestParseFirstError(t *testing.T) {
	for _, c := range []struct {
		s    string
		want api.Errno
	}{
		{"ftp:" + strings.Repeat("a", api.MaxURL), api.ErrURLForm}, // length, then scheme
		{"1ftp: ", api.ErrURLForm},
		{"f_p:", api.ErrURLForm},
		{"ftp:a b", api.ErrURLScheme}, // scheme, then the bytes of the rest
		{"ftp:\xff", api.ErrURLScheme},
		{"http://a..b:x/ y", api.ErrURLForm}, // bytes of the rest, then host and port
		{"http://a:x/\x7f", api.ErrURLForm},
		{"http:/a..b:x", api.ErrURLForm},
		{"http://a..b@c", api.ErrURLForm}, // the @, then host and port
		{"http://a:x@", api.ErrURLForm},
		{"http://a..b:x", api.ErrHostForm}, // host, then port
		{"http://:65536", api.ErrHostForm},
		{"http://:", api.ErrHostForm},
		{"blob:http://a..b/", api.ErrURLForm}, // an inner error is the form of the outer one
		{"blob:http://a:65536/", api.ErrURLForm},
		{"blob:ftp://a/", api.ErrURLForm},
	} {
		wantErr(t, c.s, c.want)
	}
}

// P3.1: bytes 0 to 32 are taken off at both ends, and no others.
func TestParseEachOuterByte(t *testing.T) {
	for i := range 256 {
		c := string([]byte{byte(i)})
		if i <= 32 {
			for _, s := range []string{c + "data:,", "data:," + c, c + c + "data:," + c + " " + c} {
				wantURL(t, s, other("data", ","))
			}
			continue
		}
		if _, err := Parse(c + "data:,"); err == api.OK {
			t.Errorf("byte %d ahead was taken off", i)
		}
		if u, _ := Parse("data:," + c); u == other("data", ",") && c != "#" {
			t.Errorf("byte %d behind was taken off", i)
		}
	}
	wantURL(t, "data:,#"+string([]byte{0, 32, 9}), other("data", ","))
	wantErr(t, "\u00a0data:,", api.ErrURLForm)
	wantErr(t, "data:,\u2003", api.ErrURLForm)
}

// P3.1, step 1: each byte at each place of a scheme.
func TestParseEachSchemeByte(t *testing.T) {
	const letters = "ABCDEFGHIJKLMNOPQRSTUVWXYZabcdefghijklmnopqrstuvwxyz"
	for i := 33; i < 256; i++ {
		c := string([]byte{byte(i)})
		if c == ":" {
			continue
		}
		first, later := api.ErrURLForm, api.ErrURLForm
		if strings.Contains(letters, c) {
			first = api.ErrURLScheme
		}
		if strings.Contains(letters+"0123456789+-.", c) {
			later = api.ErrURLScheme
		}
		wantErr(t, c+"zz:", first)
		wantErr(t, c+":", first)
		wantErr(t, "z"+c+"z:", later)
		wantErr(t, "zz"+c+":", later)
	}
}

// P3.1, step 2: each byte of the rest, and behind the #, where all may stand.
func TestParseEachRestByte(t *testing.T) {
	for i := range 256 {
		c := string([]byte{byte(i)})
		wantURL(t, "data:x#"+c+"y", other("data", "x"))
		wantURL(t, "http://a/#"+c+"y", net("http", named, -1, "/"))
		switch {
		case c == "#":
		case i < 33 || i > 126:
			wantErr(t, "data:x"+c+"y", api.ErrURLForm)
			wantErr(t, "http://a/x"+c+"y", api.ErrURLForm)
			wantErr(t, "http://a/?x"+c+"y", api.ErrURLForm)
			wantErr(t, "blob:null/x"+c+"y", api.ErrURLForm)
		default:
			wantURL(t, "data:x"+c+"y", other("data", "x"+c+"y"))
			wantURL(t, "http://a/?x"+c+"y", asked(net("http", named, -1, "/"), "x"+c+"y"))
			wantURL(t, "blob:null/x"+c+"y", other("blob", "null/x"+c+"y"))
		}
	}
}

// P3.1, step 1: the limit counts what is left between the outer bytes, the fragment too.
func TestParseLength(t *testing.T) {
	long := func(begin string, n int) string { return begin + strings.Repeat("x", n-len(begin)) }
	for _, begin := range []string{"data:", "blob:null/", "blob:http://a/", "http://a/", "https://a/?", "about:blank#", "http://a#"} {
		for n := api.MaxURL - 2; n <= api.MaxURL; n++ {
			for _, s := range []string{long(begin, n), " " + long(begin, n) + "\x00\n"} {
				if u, err := Parse(s); u == (api.URL{}) || err != api.OK {
					t.Errorf("%d bytes of %q: %v, %d", n, begin, u, err)
				}
			}
		}
		for _, n := range []int{api.MaxURL + 1, api.MaxURL + 2, 100000} {
			wantErr(t, long(begin, n), api.ErrURLForm)
		}
	}
	wantURL(t, strings.Repeat(" ", 5000)+"data:"+strings.Repeat("\x00", 5000), other("data", ""))
}

// P3.1, step 4: each port, up to the limit and beyond it.
func TestParseEachPort(t *testing.T) {
	for scheme, own := range map[string]int{"http": 80, "https": 443} {
		for port := range 65536 {
			want := net(scheme, named, port, "/")
			if port == own {
				want.Port = -1
			}
			wantURL(t, scheme+"://a:"+strconv.Itoa(port)+"/", want)
		}
		for _, port := range []int{65536, 65537, 70000, 1<<32 + 80, 1<<62 + 1} {
			wantErr(t, scheme+"://a:"+strconv.Itoa(port)+"/", api.ErrURLPort)
		}
	}
}

// P3.1, step 5: dots within a path.
func TestParsePath(t *testing.T) {
	for path, want := range map[string]string{
		"":                 "/",
		"/":                "/",
		"//":               "//",
		"///":              "///",
		"/a":               "/a",
		"/a/":              "/a/",
		"/a//b":            "/a//b",
		"/.":               "/",
		"/./":              "/",
		"/..":              "/",
		"/../":             "/",
		"/../..":           "/",
		"/../../a":         "/a",
		"/a/.":             "/a/",
		"/a/./":            "/a/",
		"/a/..":            "/",
		"/a/../":           "/",
		"/a/../b":          "/b",
		"/a/./b":           "/a/b",
		"/a/b/..":          "/a/",
		"/a/b/../..":       "/",
		"/a/b/../../":      "/",
		"/a/b/../../c":     "/c",
		"/a/b/../../../c":  "/c",
		"/a/b/c/../.":      "/a/b/",
		"/a/b/./../c":      "/a/c",
		"//..":             "/",
		"//../":            "/",
		"//../a":           "/a",
		"/a//..":           "/a/",
		"/a//../b":         "/a/b",
		"/a//../../b":      "/b",
		"/a/..//b":         "//b",
		"/a/../../..//b/.": "//b/",
		"/...":             "/...",
		"/a/.../b":         "/a/.../b",
		"/.a/..b/c./d..":   "/.a/..b/c./d..",
		"/a/..b":           "/a/..b",
		"/a/.b/../c":       "/a/c",
	} {
		wantURL(t, "http://a"+path, net("http", named, -1, want))
		wantURL(t, "https://a:1"+path+"?/./..", asked(net("https", named, 1, want), "/./.."))
	}
}

// withoutDots does by cutting a path's text what Parse does by its segments.
func withoutDots(path string) string {
	out := ""
	for path != "" {
		switch {
		case strings.HasPrefix(path, "/./"):
			path = path[2:]
		case path == "/.":
			path = "/"
		case strings.HasPrefix(path, "/../"):
			path, out = path[3:], out[:max(0, strings.LastIndexByte(out, '/'))]
		case path == "/..":
			path, out = "/", out[:max(0, strings.LastIndexByte(out, '/'))]
		default:
			end := strings.IndexByte(path[1:], '/') + 1
			if end == 0 {
				end = len(path)
			}
			path, out = path[end:], out+path[:end]
		}
	}
	return out
}

// P3.1, P3.3: all short paths; none keeps a segment of dots.
func TestParseEachPath(t *testing.T) {
	eachText([]string{"/", ".", "..", "a"}, 7, func(s string) {
		u, err := Parse("http://h/" + s)
		if want := withoutDots("/" + s); u.Path != want || err != api.OK {
			t.Errorf("path of /%s: %q, %d, not %q", s, u.Path, err, want)
		}
		for _, segment := range strings.Split(u.Path, "/") {
			if segment == "." || segment == ".." {
				t.Errorf("path of /%s: %q", s, u.Path)
			}
		}
	})
}

// P3.2: what a URL by hand is written as; fields that its scheme hasn't don't count.
func TestText(t *testing.T) {
	full := func(scheme string) api.URL {
		return api.URL{Scheme: scheme, Host: api.Host{Name: "h"}, Port: 7, Path: "/p", HasQuery: true, Query: "q", Rest: "r"}
	}
	for _, c := range []struct {
		u    api.URL
		want string
	}{
		{full("http"), "http://h:7/p?q"},
		{full("https"), "https://h:7/p?q"},
		{full("about"), "about:r"},
		{full("data"), "data:r"},
		{full("blob"), "blob:r"},
		{full(""), ":r"},
		{full("HTTP"), "HTTP:r"},
		{full("\xff"), "\xff:r"},
		{api.URL{}, ":"},
		{api.URL{Scheme: "http"}, "http://:0"},
		{api.URL{Scheme: "http", Port: -1}, "http://"},
		{api.URL{Scheme: "http", Port: -9, Query: "q"}, "http://"},
		{api.URL{Scheme: "http", Port: 80, Path: "x", HasQuery: true}, "http://:80x?"},
		{api.URL{Scheme: "https", Port: 1 << 40, Host: api.Host{Name: "h", V4: true, Addr: 0x7f000001}}, "https://127.0.0.1:1099511627776"},
	} {
		if got := Text(c.u); got != c.want {
			t.Errorf("Text(%v) = %q, not %q", c.u, got, c.want)
		}
	}
}

// P3.2
func TestNet(t *testing.T) {
	for scheme, want := range map[string]bool{
		"http": true, "https": true,
		"": false, "about": false, "data": false, "blob": false, "HTTP": false, "Https": false, "http:": false, "httpss": false, "htt": false,
	} {
		if Net(api.URL{Scheme: scheme, Rest: "http://a/"}) != want {
			t.Errorf("Net of %q", scheme)
		}
	}
}

// P3.2: only of blob, and only if the rest is a URL of the net.
func TestInner(t *testing.T) {
	for _, c := range []struct {
		u    api.URL
		want api.URL
	}{
		{other("blob", "https://a/1"), net("https", named, -1, "/1")},
		{other("blob", "HTTP://A:8080/x/../y?Z"), asked(net("http", named, 8080, "/y"), "Z")},
		{other("blob", " http://a#x y "), net("http", named, -1, "/")},
		{api.URL{Scheme: "blob", Rest: "http://a/", Host: api.Host{Name: "h"}, Path: "/p"}, net("http", named, -1, "/")},
	} {
		if u, has := Inner(c.u); u != c.want || !has {
			t.Errorf("Inner(%v) = %v, %v", c.u, u, has)
		}
	}
	for _, u := range []api.URL{
		{},
		other("", "https://a/"),
		other("data", "https://a/"),
		other("about", "https://a/"),
		other("BLOB", "https://a/"),
		{Scheme: "https", Rest: "https://a/", Host: named, Port: -1, Path: "/"},
		other("blob", ""),
		other("blob", "null/1"),
		other("blob", "null/https://a/"),
		other("blob", "blob:https://a/"),
		other("blob", "data:,"),
		other("blob", "about:blank"),
		other("blob", "ftp://a/"),
		other("blob", "http://a..b/"),
		other("blob", "http://a:65536/"),
		other("blob", "https:/a"),
		other("blob", "http://"+strings.Repeat("a", api.MaxURL)),
		other("blob", "\xff\x00"),
	} {
		if inner, has := Inner(u); inner != (api.URL{}) || has {
			t.Errorf("Inner(%v) = %v, %v", u, inner, has)
		}
	}
}

// R1: blobs within blobs as deep as a text has room for.
func TestDeepBlobs(t *testing.T) {
	for deep := 2; deep*5+9 <= api.MaxURL; deep++ {
		wantErr(t, strings.Repeat("blob:", deep)+"http://a/", api.ErrURLForm)
	}
	if u, has := Inner(other("blob", strings.Repeat("blob:", 1000000))); u != (api.URL{}) || has {
		t.Errorf("inner %v", u)
	}
}

// P3.3: a parsed URL's text parses to that URL, and stays as it is.
func TestParsedTexts(t *testing.T) {
	parsed := 0
	again := func(s string) {
		u, err := Parse(s)
		if err != api.OK {
			if u != (api.URL{}) {
				t.Errorf("Parse(%q) = %v beside error %d", s, u, err)
			}
			return
		}
		parsed++
		wantURL(t, Text(u), u)
		wantURL(t, " "+Text(u)+"#", u)
		if Net(u) != (u.Rest == "" && strings.HasPrefix(u.Path, "/")) {
			t.Errorf("Parse(%q) = %v", s, u)
		}
	}
	parts := []string{"A", "9", ".", "..", "/", "?", ":", "@", "#", "443"}
	for _, begin := range []string{"http://a", "HTTPS://", "blob:", "blob:Https://a", "data:", "about:blank"} {
		eachText(parts, 5, func(s string) { again(begin + s) })
	}
	if parsed == 0 {
		t.Error("nothing parsed")
	}
}

// P3.3: a text may be longer than the input, and is then beyond the limit.
func TestLongerText(t *testing.T) {
	s := "http://a?" + strings.Repeat("q", api.MaxURL-9)
	u, err := Parse(s)
	if want := "http://a/?" + strings.Repeat("q", api.MaxURL-9); Text(u) != want || err != api.OK {
		t.Errorf("text of %d bytes, error %d", len(Text(u)), err)
	}
	wantErr(t, Text(u), api.ErrURLForm)
}
