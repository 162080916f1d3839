package cspmatch

import (
	"math/rand"
	"regexp"
	"slices"
	"strconv"
	"strings"
	"testing"

	"glacis/api"
	"glacis/host"
	"glacis/samples"
)

// The second reckoning of Parse: one pattern for each kind of text.
var (
	schemeForm = regexp.MustCompile(`^([a-z][a-z0-9+.-]*):$`)
	hostForm   = regexp.MustCompile(`(?s)^(?:([a-z][a-z0-9+.-]*)://)?(\*|(?:\*\.)?([a-z0-9_-]{1,63}(?:\.[a-z0-9_-]{1,63})*))(?::(\*|0|[1-9][0-9]{0,4}))?(?:/.*)?$`)
	capital    = regexp.MustCompile(`[A-Z]`)
)

func reckonParse(s string) api.Source {
	s = capital.ReplaceAllStringFunc(s, strings.ToLower)
	if s == "'self'" {
		return own
	}
	if s == "*" {
		return all
	}
	if found := schemeForm.FindStringSubmatch(s); found != nil {
		return ofScheme(found[1])
	}
	found := hostForm.FindStringSubmatch(s)
	if found == nil || len(found[3]) > 253 {
		return none
	}
	port, err := strconv.Atoi(found[4])
	switch {
	case found[4] == "":
		port = -1
	case found[4] == "*":
		port = -2
	case err != nil || port > 65535:
		return none
	}
	return ofHost(found[1], found[2], port)
}

// P11.1: texts put together of pieces by a fixed seed.
func TestManyTexts(t *testing.T) {
	r := rand.New(rand.NewSource(11))
	schemes := []string{"http", "https", "X", "a+1", "1a", "-"}
	names := []string{"a", "b", "*", "*.", ".", "A-b_c", "1", "1.2.3.4", "x.y", strings.Repeat("z", 63), strings.Repeat("z", 64), strings.Repeat("q.", 100), "'self'"}
	ports := []string{"80", "0", "65535", "65536", "*", "", "08", "-1", "x"}
	pieces := slices.Concat(schemes, names, ports, []string{":", "/", "://", " ", "\xff", "é", "\u212a", "?", "#", "@", ",", "'"})
	some := func(chance int, from []string) string {
		if r.Intn(100) >= chance {
			return ""
		}
		return from[r.Intn(len(from))]
	}
	counts := make([]int, 5)
	for range 200000 {
		s := ""
		if r.Intn(4) == 0 {
			for range r.Intn(6) {
				s += pieces[r.Intn(len(pieces))]
			}
		} else {
			s = some(40, schemes) + some(40, []string{"://", "://", ":", "/"}) + some(70, names) + some(70, names)
			s += some(40, []string{":", ":", "/"}) + some(40, ports) + some(20, []string{"/", "/x", "?", ":"}) + some(10, pieces)
		}
		want := reckonParse(s)
		counts[want.Kind]++
		checkParse(t, s, want)
		if t.Failed() {
			t.FailNow()
		}
	}
	if slices.Min(counts) < 100 {
		t.Errorf("too few texts of one kind: %v", counts)
	}
}

// isOf tells whether there's such an entry among those that are meant.
func isOf[T comparable](x T, meant ...T) bool { return slices.Contains(meant, x) }

// safer are the schemes that a scheme means.
func safer(scheme string) []string {
	if scheme == "http" {
		return []string{"http", "https"}
	}
	return []string{scheme}
}

// reckonMatch is the second reckoning of Match: all that is meant is written out, and looked for.
func reckonMatch(s api.Source, o, self api.Origin) bool {
	type usual struct {
		scheme string
		port   int
	}
	isUsual := func(scheme string, port int) bool {
		return isOf(usual{scheme, port}, usual{"http", 80}, usual{"https", 443})
	}
	if o.Opaque {
		return false
	}
	switch s.Kind {
	case api.SrcAny:
		return true
	case api.SrcScheme:
		return isOf(o.Scheme, safer(s.Scheme)...)
	case api.SrcSelf:
		ports := []int{self.Port}
		if isUsual(self.Scheme, self.Port) && isUsual(o.Scheme, o.Port) {
			ports = append(ports, o.Port)
		}
		return !self.Opaque && o.Host == self.Host && isOf(o.Scheme, safer(self.Scheme)...) && isOf(o.Port, ports...)
	case api.SrcHost:
		schemes := safer(s.Scheme)
		if s.Scheme == "" && self.Opaque {
			schemes = safer("http")
		} else if s.Scheme == "" {
			schemes = safer(self.Scheme)
		}
		ports := []int{s.Port}
		if s.Port == -2 || s.Port == -1 && isUsual(o.Scheme, o.Port) || s.Port == 80 && o.Scheme == "https" && o.Port == 443 {
			ports = append(ports, o.Port)
		}
		name := host.Text(o.Host)
		names := []string{s.Host}
		if s.Host == "*" {
			names = append(names, name)
		}
		for i := 1; i <= len(name); i++ {
			if s.Host == "*"+name[i:] {
				names = append(names, name)
			}
		}
		return isOf(o.Scheme, schemes...) && isOf(o.Port, ports...) && isOf(name, names...)
	}
	return false
}

// manyOrigins are origins that URLs may have, and others.
func manyOrigins() []api.Origin {
	var out []api.Origin
	for _, scheme := range []string{"http", "https", "x", ""} {
		for _, h := range []api.Host{{Name: "a.b"}, {Name: "x.a.b"}, {Name: ""}, {Name: "*"}, {V4: true, Addr: 0x01020304}, {Name: "a.b", V4: true}} {
			for _, port := range []int{80, 443, 8, -1, -2} {
				out = append(out, api.Origin{Scheme: scheme, Host: h, Port: port})
			}
		}
	}
	filled := out[0]
	filled.Opaque = true
	return append(out, filled, numbered(0), numbered(1))
}

func manySources() []api.Source {
	var out []api.Source
	for kind := -1; kind <= 5; kind++ {
		for _, scheme := range []string{"http", "https", "x", ""} {
			if kind != api.SrcHost {
				out = append(out, api.Source{Kind: kind, Scheme: scheme, Host: "*", Port: -2})
				continue
			}
			for _, name := range []string{"a.b", "*.b", "*.a.b", "*", "**", "*b", "", "1.2.3.4", "*.3.4"} {
				for _, port := range []int{80, 443, 8, -1, -2, -3} {
					out = append(out, ofHost(scheme, name, port))
				}
			}
		}
	}
	return out
}

// P11.2, P11.3: each of many sources for each of many origins, by each.
func TestManyMatches(t *testing.T) {
	origins := manyOrigins()
	counts := [5][2]int{}
	for _, s := range manySources() {
		for _, o := range origins {
			for _, self := range origins {
				want := reckonMatch(s, o, self)
				if Match(s, o, self) != want {
					t.Fatalf("%s for %s by %s: not %v", brief(s), brief(o), brief(self), want)
				}
				if s.Kind > 0 && s.Kind < 5 {
					yes := 0
					if want {
						yes = 1
					}
					counts[s.Kind][yes]++
				}
			}
		}
	}
	for kind, of := range counts[1:] {
		if min(of[0], of[1]) < 100 {
			t.Errorf("too few of kind %d: %v", kind+1, of)
		}
	}
}

// P11.4, P11.5: lists and ancestors put together by a fixed seed, and then one more of each.
func TestManyPolicies(t *testing.T) {
	r := rand.New(rand.NewSource(12))
	texts := []string{"'self'", "'none'", "http:", "https:", "a", "*.a", "http://a", "https://x.a:8", "b:*", "a:80", "x.a:443", "", "*.b:8", "http://*:8", "'Self'", "HTTPS://B/c"}
	origins := samples.Origins("http://a", "https://a", "https://x.a:8", "http://x.a:8", "https://b", "http://b:9", "https://y.b:8", "data:,", "https://a:80", "http://x.a:443")
	counts := [4]int{}
	for range 50000 {
		l := make([]string, r.Intn(8))
		for i := range l {
			l[i] = texts[r.Intn(len(texts))]
		}
		ancestors := make([]api.Origin, r.Intn(4))
		for i := range ancestors {
			ancestors[i] = origins[r.Intn(len(origins))]
		}
		self := origins[r.Intn(len(origins))]
		outside := func(o api.Origin) bool {
			return !slices.ContainsFunc(l, func(s string) bool { return reckonMatch(reckonParse(s), o, self) })
		}
		want := !slices.ContainsFunc(ancestors, outside)
		checkFrames(t, anc(l...), self, ancestors, want)
		if want {
			counts[len(ancestors)]++
			more := slices.Insert(slices.Clone(l), r.Intn(len(l)+1), texts[r.Intn(len(texts))])
			checkFrames(t, anc(more...), self, ancestors, true)
		} else {
			more := slices.Insert(slices.Clone(ancestors), r.Intn(len(ancestors)+1), origins[r.Intn(len(origins))])
			checkFrames(t, anc(l...), self, more, false)
		}
		if t.Failed() {
			t.FailNow()
		}
	}
	if slices.Min(counts[:]) < 1000 {
		t.Errorf("too few that may frame: %v", counts)
	}
}
