package embedhdr

import (
	"math/rand"
	"regexp"
	"slices"
	"strings"
	"testing"

	"glacis/api"
)

// The second reckoning: a resource policy is held against a pattern of the whole of it, and frame options are cut apart by another.
var (
	wholePolicy = regexp.MustCompile(`^[\t\n\f\r ]*(same-origin|same-site|cross-origin)[\t\n\f\r ]*$`)
	eachPart    = regexp.MustCompile(`(?s)(?:"(?:[^"\\]|\\.)*(?:"|\\?$)|[^,"])*`)
)

// valuesOf are the values of a name as they stand.
func valuesOf(l []api.Header, name string) []string {
	var values []string
	for _, h := range l {
		if strings.EqualFold(h.Name, name) {
			values = append(values, h.Value)
		}
	}
	return values
}

func reckonCorp(l []api.Header) int {
	values := valuesOf(l, corp)
	if len(values) != 1 {
		return 0
	}
	found := wholePolicy.FindStringSubmatch(values[0])
	if found == nil {
		return 0
	}
	return map[string]int{"same-origin": 1, "same-site": 2, "cross-origin": 3}[found[1]]
}

func reckonXfo(l []api.Header) int {
	var words []string
	for _, value := range valuesOf(l, xfo) {
		for _, part := range eachPart.FindAllString(value, -1) {
			words = append(words, strings.ToLower(strings.Trim(part, "\t\n\f\r ")))
		}
	}
	slices.Sort(words)
	words = slices.Compact(words)
	known := map[string]int{"deny": 1, "sameorigin": 2, "allowall": 3}
	if len(words) == 1 {
		return known[words[0]]
	}
	if slices.ContainsFunc(words, func(w string) bool { return known[w] > 0 }) {
		return 1
	}
	return 0
}

// P9.1 to P9.3: heads put together of pieces by a fixed seed.
func TestManyHeads(t *testing.T) {
	r := rand.New(rand.NewSource(9))
	names := []string{corp, xfo, xfo, "X-Frame-Options", "Cross-Origin-Resource-Policy", "x"}
	words := []string{"deny", "sameorigin", "allowall", "Deny", "DENY", "SameOrigin", "ALLOWALL", "same-origin", "same-site", "cross-origin", "Same-Origin"}
	noise := []string{",", ", ", `"`, `"`, `\`, `\"`, " ", "\t", "\v", "\x00", "x", "-", "é", "\xff", ""}
	known := [2][4]int{}
	for range 100000 {
		l := make([]api.Header, r.Intn(4))
		for i := range l {
			l[i].Name = names[r.Intn(len(names))]
			l[i].Value = words[r.Intn(len(words))]
			for range max(0, r.Intn(8)-3) {
				piece := noise[r.Intn(len(noise))]
				if r.Intn(2) == 0 {
					l[i].Value += "," + words[r.Intn(len(words))]
				} else if r.Intn(2) == 0 {
					l[i].Value = piece + l[i].Value
				} else {
					l[i].Value += piece
				}
			}
		}
		wantCorp, wantXfo := reckonCorp(l), reckonXfo(l)
		known[0][wantCorp]++
		known[1][wantXfo]++
		check(t, l, wantCorp, wantXfo)
		if t.Failed() {
			t.FailNow()
		}
	}
	for _, counts := range known {
		if slices.Min(counts[:]) < 1000 {
			t.Errorf("too few heads of one kind: %v", known)
		}
	}
}
