package taint

import (
	"slices"
	"testing"

	"glacis/api"
	"glacis/samples"
)

// The second reckoning is of hops as they are written here: where each one is, by number, and what it allows. It asks each thing anew of all hops instead of going along them.

// place is a site that hops are of.
type place struct {
	text  string // of its origin
	isNet bool
}

var places = []place{{"https://a", true}, {"https://b", true}, {"http://a", true}, {"data:,", false}}

// leave is what a head allows.
type leave struct {
	has    bool
	origin string
	creds  bool
}

var leaves = []leave{{}, {true, "*", false}, {true, "*", true}, {true, "https://a", false}, {true, "https://a", true}, {true, "null", false}, {true, "null", true}}

// at is a hop.
type at struct {
	place int
	leave leave
}

// asked is a request: from is a place, or -1 for an opaque origin.
type asked struct {
	mode, creds, coep, from int
}

func (h leave) shares(text string, include bool) bool {
	if include {
		return h.has && h.origin == text && h.creds
	}
	return h.has && (h.origin == "*" || h.origin == text)
}

// isNull tells whether the origin is null at hop n.
func (q asked) isNull(l []at, n int) bool {
	for i := 1; i <= n; i++ {
		if l[i-1].place != q.from && l[i-1].place != l[i].place {
			return true
		}
	}
	return false
}

func (q asked) text(l []at, n int) string {
	if q.from < 0 || q.isNull(l, n) {
		return "null"
	}
	return places[q.from].text
}

// leftAt is the first hop that is not same-origin, or else how many there are.
func (q asked) leftAt(l []at) int {
	for i, h := range l {
		if h.place != q.from {
			return i
		}
	}
	return len(l)
}

func (q asked) refuses(l []at) bool {
	if q.mode != 3 {
		return false
	}
	for n := q.leftAt(l); n < len(l); n++ {
		if !l[n].leave.shares(q.text(l, n), q.creds == 2) {
			return true
		}
	}
	return false
}

func (q asked) reckon(l []at) (api.Fetched, int) {
	isLocal := func(h at) bool { return !places[h.place].isNet }
	switch {
	case len(l) == 1 && isLocal(l[0]):
		return api.Fetched{Taint: 1}, 0
	case len(l) == 0 || slices.ContainsFunc(l, isLocal):
		return api.Fetched{}, 130
	case q.refuses(l):
		return api.Fetched{}, 131
	}
	isBasic := q.leftAt(l) == len(l)
	isSame := isBasic
	if q.mode == 2 {
		isSame = l[len(l)-1].place == q.from
	}
	f := api.Fetched{Taint: 1, Null: q.isNull(l, len(l)-1)}
	f.Creds = q.creds == 2 || q.creds == 1 && isSame
	if q.mode == 2 && q.coep == 1 && !isBasic {
		f.Creds = false
	}
	if q.mode == 1 {
		f.Creds = true
	} else if !isBasic {
		f.Taint = []int{3, 2}[q.mode-2]
	}
	return f, 0
}

// hop is a hop of the program.
func (h at) hop() api.Hop {
	out := api.Hop{URL: samples.URL(places[h.place].text)}
	if h.leave.has {
		out.Head = samples.Lines(allow, h.leave.origin)
	}
	if h.leave.creds {
		out.Head = append(out.Head, samples.Lines(creds, "true")...)
	}
	return out
}

func (q asked) request() api.Request {
	r := api.Request{Mode: q.mode, Creds: q.creds, Coep: q.coep, Origin: api.Origin{Opaque: true}}
	if q.from >= 0 {
		r.Origin = samples.Origin(places[q.from].text)
	}
	return r
}

// everyAsked are requests of all modes, credentials and embedder policies, from some places.
func everyAsked() []asked {
	var out []asked
	for _, mode := range modes {
		for _, creds := range kinds {
			for _, coep := range embedders {
				for from := -1; from < 2; from++ {
					out = append(out, asked{mode, creds, coep, from})
				}
			}
		}
	}
	return out
}

// everyHop are hops of all places with all heads, each one beside itself as the program takes it.
func everyHop() ([]at, []api.Hop) {
	var ats []at
	var hops []api.Hop
	for p := range places {
		for _, l := range leaves {
			h := at{p, l}
			ats, hops = append(ats, h), append(hops, h.hop())
		}
	}
	return ats, hops
}

// P13.2, P13.3: all ways of up to three hops, by all requests.
func TestAllWays(t *testing.T) {
	ats, hops := everyHop()
	asks := everyAsked()
	counts := map[int]int{}
	check := func(way ...int) {
		var l []at
		var given []api.Hop
		for _, i := range way {
			l, given = append(l, ats[i]), append(given, hops[i])
		}
		for _, q := range asks {
			want, err := q.reckon(l)
			counts[1000*err+want.Taint]++
			got, e := Walk(q.request(), given)
			if got != want || int(e) != err {
				t.Fatalf("%+v by %+v: %v, %d, not %v, %d", q, l, got, e, want, err)
			}
		}
	}
	check()
	for a := range ats {
		check(a)
		for b := range ats {
			check(a, b)
			for c := range ats {
				check(a, b, c)
			}
		}
	}
	for _, key := range []int{1, 2, 3, 130000, 131000} {
		if counts[key] < 1000 {
			t.Errorf("%d: only %d times", key, counts[key])
		}
	}
}
