package cspparse

import (
	"math/rand"
	"regexp"
	"slices"
	"strings"
	"testing"

	"glacis/api"
)

// The second reckoning: directives and their words are found by patterns, and of each name's directives all are taken, the last one first.
var (
	eachPolicy    = regexp.MustCompile(`[^,]+`)
	eachDirective = regexp.MustCompile(`[^;]+`)
	eachWord      = regexp.MustCompile(`[^\t\n\f\r ]+`)
)

func reckonOne(s string) api.Policy {
	var p api.Policy
	found := eachDirective.FindAllString(s, -1)
	slices.Reverse(found)
	for _, directive := range found {
		words := eachWord.FindAllString(directive, -1)
		if words == nil {
			continue
		}
		switch strings.ToLower(words[0]) {
		case names[0]:
			p.HasAnc, p.Anc = true, words[1:]
		case names[1]:
			p.HasBox, p.Box = true, words[1:]
		}
	}
	return p
}

func reckonHead(l []api.Header) []api.Policy {
	var policies []api.Policy
	for _, h := range l {
		if !strings.EqualFold(h.Name, field) {
			continue
		}
		for _, text := range eachPolicy.FindAllString(h.Value, -1) {
			if p := reckonOne(text); p.HasAnc || p.HasBox {
				policies = append(policies, p)
			}
		}
	}
	return policies
}

func reckonText(p api.Policy) string {
	text := ""
	if p.HasAnc {
		text = names[0]
		for _, value := range p.Anc {
			text += " " + value
		}
	}
	if p.HasAnc && p.HasBox {
		text += "; "
	}
	if p.HasBox {
		text += names[1]
		for _, value := range p.Box {
			text += " " + value
		}
	}
	return text
}

// pieces are what policies are put together of.
func pieces() []string {
	return []string{
		"frame-ancestors", "sandbox", "Frame-Ancestors", "SANDBOX", "default-src", "frame-ancestors ", "sandbox ", ";frame-ancestors ", "; sandbox ", ";\tSandBox a ",
		" ", " ", " ", "\t", "\n", "\f", "\r", "\v", ";", ";", ";", "; ", ",", "a", "B", "'none'", "https://a", "*", `"`, `\`, "-", "\x00", "\xff", "é", "\u00a0",
	}
}

// P10.1, P10.3, P10.4: texts put together of pieces by a fixed seed.
func TestManyTexts(t *testing.T) {
	r := rand.New(rand.NewSource(10))
	all := pieces()
	var kinds [4]int
	for range 100000 {
		var s strings.Builder
		for range r.Intn(16) {
			s.WriteString(all[r.Intn(len(all))])
		}
		want := reckonOne(s.String())
		checkOne(t, s.String(), want)
		checkText(t, want, reckonText(want))
		kind := 0
		if want.HasAnc {
			kind++
		}
		if want.HasBox {
			kind += 2
		}
		kinds[kind]++
		if t.Failed() {
			t.FailNow()
		}
	}
	if slices.Min(kinds[:]) < 1000 {
		t.Errorf("too few texts of one kind: %v", kinds)
	}
}

// P10.2: heads put together likewise.
func TestManyHeads(t *testing.T) {
	r := rand.New(rand.NewSource(11))
	all := append(pieces(), ",", ",", ", ")
	fields := []string{field, field, "Content-Security-Policy", field + "-report-only", "x"}
	var counts [4]int
	for range 50000 {
		l := make([]api.Header, r.Intn(4))
		for i := range l {
			l[i].Name = fields[r.Intn(len(fields))]
			for range r.Intn(24) {
				l[i].Value += all[r.Intn(len(all))]
			}
		}
		want := reckonHead(l)
		counts[min(len(want), 3)]++
		checkHead(t, l, want...)
		if t.Failed() {
			t.FailNow()
		}
	}
	if slices.Min(counts[:]) < 1000 {
		t.Errorf("too few heads of one kind: %v", counts)
	}
}
