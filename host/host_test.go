package host

import (
	"slices"
	"strconv"
	"strings"
	"testing"

	"glacis/api"
	"glacis/octet"
)

func named(name string) api.Host { return api.Host{Name: name} }

func addressed(addr uint32) api.Host { return api.Host{V4: true, Addr: addr} }

// long is a domain of n bytes whose labels have at most 63.
func long(n int) string {
	s := strings.Repeat(strings.Repeat("a", 63)+".", n/64+1)[:n]
	if strings.HasSuffix(s, ".") {
		s = s[:n-2] + ".a"
	}
	return s
}

// eachName calls do with every text of at most most of the parts.
func eachName(parts []string, most int, do func(string)) {
	texts := []string{""}
	for range most + 1 {
		var longer []string
		for _, s := range texts {
			do(s)
			for _, part := range parts {
				longer = append(longer, s+part)
			}
		}
		texts = longer
	}
}

// P2.1: domains.
func TestParseNames(t *testing.T) {
	for _, c := range []struct{ in, want string }{
		{"a", "a"},
		{"A.Example", "a.example"},
		{"localhost", "localhost"},
		{"XN--BCHER-KVA.example", "xn--bcher-kva.example"},
		{"-", "-"}, {"_", "_"}, {"-a-._b_", "-a-._b_"},
		{"a-b_c9.z0", "a-b_c9.z0"},
		{"1.b", "1.b"}, {"1.2.3.4.b", "1.2.3.4.b"}, {"1.2.3.4b", "1.2.3.4b"}, {"1.2.3.b4", "1.2.3.b4"},
		{"0x7f", "0x7f"}, {"1-2", "1-2"}, {"1_2", "1_2"}, {"1.2.3.-4", "1.2.3.-4"},
		{"04.a", "04.a"}, {"256.999.a", "256.999.a"},
		{strings.Repeat("A", 63), strings.Repeat("a", 63)},
		{strings.Repeat("a", 63) + ".b." + strings.Repeat("c", 63), strings.Repeat("a", 63) + ".b." + strings.Repeat("c", 63)},
		{long(252), long(252)}, {long(253), long(253)},
		{strings.Repeat("a.", 126) + "a", strings.Repeat("a.", 126) + "a"},
	} {
		if h, err := Parse(c.in); h != named(c.want) || err != api.OK {
			t.Errorf("Parse(%q) = %v, %d", c.in, h, err)
		}
	}
}

// P2.1: addresses.
func TestParseAddresses(t *testing.T) {
	for s, want := range map[string]uint32{
		"0.0.0.0":         0,
		"1.2.3.4":         0x01020304,
		"127.0.0.1":       0x7f000001,
		"255.0.1.127":     0xff00017f,
		"255.255.255.255": 0xffffffff,
		"0.0.0.255":       0xff,
		"0.0.255.0":       0xff00,
		"0.255.0.0":       0xff0000,
		"255.0.0.0":       0xff000000,
	} {
		if h, err := Parse(s); h != addressed(want) || err != api.OK {
			t.Errorf("Parse(%q) = %v, %d", s, h, err)
		}
	}
}

// P2.1: each number at each place of an address, up to the limit and beyond it.
func TestParseEachNumber(t *testing.T) {
	for at := range 4 {
		for n := range 300 {
			parts := []string{"1", "2", "3", "4"}
			parts[at] = strconv.Itoa(n)
			shift := 24 - 8*at
			want, wantErr := addressed(0x01020304&^(255<<shift)|uint32(n)<<shift), api.OK
			if n > 255 {
				want, wantErr = api.Host{}, api.ErrHostForm
			}
			s := strings.Join(parts, ".")
			if h, err := Parse(s); h != want || err != wantErr {
				t.Errorf("Parse(%q) = %v, %d", s, h, err)
			}
		}
	}
}

// P2.1: neither domains nor addresses.
func TestParseRefused(t *testing.T) {
	for _, s := range []string{
		"", ".", "..", "a.", ".a", "a..b", "a.b.", "..a",
		"a b", " a", "a ", "a:b", "a/b", "a@b", "a%b", "*.a", "a*", "[::1]", "é.a", "a.\xff", "\u212a.a", "a\x00", "a,b",
		"1", "0", "1.2", "1.2.3", "1.2.3.4.5", "1.2.3.4.5.6", "0.1.2.3.4", "a.1", "a.b.c.1", "1.2.a.4", "1.2.3.a.4",
		"1.2.3.04", "01.2.3.4", "1.00.3.4", "1.2.3.256", "1.2.256.4", "1.2.3.4.", ".1.2.3.4", "1..3.4", "1.2..3.4",
		"1.2.3.99999999999999999999", "4294967296", "-1.2.3.4", "1.2.3.4 ", "0x1.2.3.4", "_.2.3.4",
		strings.Repeat("a", 64), "b." + strings.Repeat("a", 64), strings.Repeat("a", 64) + ".b", strings.Repeat("1", 64),
		long(254), long(255), long(1000), strings.Repeat("a.", 127), strings.Repeat("a.", 127) + "a", strings.Repeat(".", 1000),
	} {
		if h, err := Parse(s); h != (api.Host{}) || err != api.ErrHostForm {
			t.Errorf("Parse(%q) = %v, %d", s, h, err)
		}
	}
}

// P2.1: each byte at the ends and within a label.
func TestParseEachByte(t *testing.T) {
	const good = "ABCDEFGHIJKLMNOPQRSTUVWXYZabcdefghijklmnopqrstuvwxyz0123456789-_"
	for i := range 256 {
		c := string([]byte{byte(i)})
		for _, s := range []string{c + "x", "x" + c, "x" + c + "x", c + ".x", "x." + c + "x", c + "x.x"} {
			want, wantErr := api.Host{}, api.ErrHostForm
			if strings.Contains(good, c) || c == "." && s == "x.x" {
				want, wantErr = named(strings.ToLower(s)), api.OK
			}
			if h, err := Parse(s); h != want || err != wantErr {
				t.Errorf("Parse(%q) = %v, %d", s, h, err)
			}
		}
	}
}

// P2.2: names are as they are, hosts by hand too; of an address the name doesn't count.
func TestText(t *testing.T) {
	for _, c := range []struct {
		h    api.Host
		want string
	}{
		{api.Host{}, ""},
		{named("a.example"), "a.example"},
		{named("A..\xff"), "A..\xff"},
		{named("1.2.3.4"), "1.2.3.4"},
		{api.Host{Name: "a", Addr: 7}, "a"},
		{addressed(0), "0.0.0.0"},
		{addressed(0x01020304), "1.2.3.4"},
		{addressed(0xff00017f), "255.0.1.127"},
		{addressed(0xffffffff), "255.255.255.255"},
		{addressed(0x0a64c80a), "10.100.200.10"},
		{api.Host{Name: "a.example", V4: true, Addr: 0x7f000001}, "127.0.0.1"},
	} {
		if got := Text(c.h); got != c.want {
			t.Errorf("Text(%v) = %q, not %q", c.h, got, c.want)
		}
	}
}

// P2.3: sites of names.
func TestSiteNames(t *testing.T) {
	uk := []string{"co.uk", "uk"}
	for _, c := range []struct {
		name     string
		suffixes []string
		want     string
	}{
		{"a.b.co.uk", uk, "b.co.uk"},
		{"a.b.co.uk", []string{"uk", "co.uk"}, "b.co.uk"},
		{"a.b.co.uk", []string{"uk"}, "co.uk"},
		{"a.b.co.uk", []string{"co.uk"}, "b.co.uk"},
		{"b.co.uk", uk, "b.co.uk"},
		{"co.uk", uk, "co.uk"},
		{"uk", uk, "uk"},
		{"a.uk", uk, "a.uk"},
		{"a.b.uk", uk, "b.uk"},
		{"a.b.c", nil, "b.c"},
		{"a.b.c", []string{}, "b.c"},
		{"b.c", nil, "b.c"},
		{"localhost", nil, "localhost"},
		{"localhost", []string{"localhost"}, "localhost"},
		{"a.b.c.d.e", uk, "d.e"},
		{"a.b.c.d.e", []string{"c.d.e", "d.e", "e"}, "b.c.d.e"},
		{"a.b.c.d.e", []string{"d.e", "c.d.e", "e"}, "b.c.d.e"},
		{"a.b.c.d.e", []string{"a.b.c.d.e"}, "a.b.c.d.e"},
		{"a.b.c.d.e", []string{"b.c.d.e"}, "a.b.c.d.e"},
		{"a.b.c.d.e", []string{"z.a.b.c.d.e"}, "d.e"},
		{"a.b.c.d.e", []string{"a.b", "c.d", "b.c.d"}, "d.e"},
	} {
		if got := Site(named(c.name), c.suffixes); got != c.want {
			t.Errorf("Site(%q, %q) = %q, not %q", c.name, c.suffixes, got, c.want)
		}
	}
}

// P2.3: a suffix matches by whole labels, byte for byte; odd ones and hosts by hand have labels, too.
func TestSiteOdd(t *testing.T) {
	for _, c := range []struct {
		name     string
		suffixes []string
		want     string
	}{
		{"a.example", []string{"le", "ple", "xample"}, "a.example"},
		{"a.b.xco.uk", []string{"co.uk"}, "xco.uk"},
		{"a.b.co.uk", []string{".co.uk"}, "co.uk"},
		{"a.b.co.uk", []string{"co.uk."}, "co.uk"},
		{"a.b.co.uk", []string{"CO.UK"}, "co.uk"},
		{"a.b.CO.UK", []string{"co.uk"}, "CO.UK"},
		{"a.b.CO.UK", []string{"CO.UK"}, "b.CO.UK"},
		{"a.b.co.uk", []string{"*.uk"}, "co.uk"},
		{"a.b.c", []string{""}, "b.c"},
		{"a.b.c", []string{"..", "...."}, "b.c"},
		{"", nil, ""},
		{"", []string{"", "a"}, ""},
		{".", nil, "."},
		{"..", nil, "."},
		{"..", []string{"."}, ".."},
		{"a.b.", nil, "b."},
		{"a.b.", []string{"b."}, "a.b."},
		{"x.a.b.", []string{"b."}, "a.b."},
		{"x.a..b", []string{".b"}, "a..b"},
		{"\xff.\x00.a b", nil, "\x00.a b"},
		{"1.2.3.4", nil, "3.4"},
	} {
		if got := Site(named(c.name), c.suffixes); got != c.want {
			t.Errorf("Site(%q, %q) = %q, not %q", c.name, c.suffixes, got, c.want)
		}
	}
}

// P2.3: the site of an address is its text.
func TestSiteAddresses(t *testing.T) {
	for _, suffixes := range [][]string{nil, {"4"}, {"3.4", "4"}, {"1.2.3.4"}, {"co.uk"}} {
		for _, name := range []string{"", "a.b.co.uk"} {
			if got := Site(api.Host{Name: name, V4: true, Addr: 0x01020304}, suffixes); got != "1.2.3.4" {
				t.Errorf("Site of 1.2.3.4 with %q = %q", suffixes, got)
			}
		}
	}
}

// R4: the suffixes stay as they are, and their order doesn't count.
func TestSiteSuffixesStay(t *testing.T) {
	suffixes := []string{"uk", "me.co.uk", "co.uk", "rest"}[:3]
	if got := Site(named("a.b.me.co.uk"), suffixes); got != "b.me.co.uk" {
		t.Errorf("site %q", got)
	}
	if !slices.Equal(suffixes[:4], []string{"uk", "me.co.uk", "co.uk", "rest"}) {
		t.Errorf("suffixes changed: %q", suffixes[:4])
	}
}

// P2.4: a parsed host's text is the input made small, and parses to the same host.
func TestParsedTexts(t *testing.T) {
	parsed := 0
	eachName([]string{"a", "B", "0", "25", ".", "-"}, 7, func(s string) {
		h, err := Parse(s)
		if err != api.OK {
			return
		}
		parsed++
		if Text(h) != octet.Lower(s) {
			t.Errorf("Parse(%q): text %q", s, Text(h))
		}
		if again, err := Parse(Text(h)); again != h || err != api.OK {
			t.Errorf("Parse(%q) = %v, then %v, %d", s, h, again, err)
		}
		if h.V4 && h.Name != "" || !h.V4 && h.Addr != 0 {
			t.Errorf("Parse(%q) = %v", s, h)
		}
	})
	if parsed == 0 {
		t.Error("nothing parsed")
	}
}

// P2.4: a site ends the host at a label's start and, if it is a domain, is its own site.
func TestSiteOfSite(t *testing.T) {
	for _, suffixes := range [][]string{nil, {"a"}, {"a.b"}, {"a.b", "b", "b.a.b"}, {"b.b.b"}, {"a.a", "b.a"}} {
		eachName([]string{"a", "b", ".", "1"}, 7, func(s string) {
			h, err := Parse(s)
			if err != api.OK {
				return
			}
			site := Site(h, suffixes)
			if site != s && !strings.HasSuffix(s, "."+site) {
				t.Errorf("Site(%q, %q) = %q", s, suffixes, site)
			}
			if h.V4 {
				return
			}
			if again := Site(named(site), suffixes); again != site {
				t.Errorf("Site(%q, %q) = %q, then %q", s, suffixes, site, again)
			}
		})
	}
}
