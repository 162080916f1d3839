package sandbox

import (
	"math/rand"
	"regexp"
	"strings"
	"testing"

	"glacis/api"
)

// patterns are of the six words, each letter in both sizes.
func patterns() []*regexp.Regexp {
	letter := regexp.MustCompile("[a-z]")
	var out []*regexp.Regexp
	for _, key := range keys {
		both := letter.ReplaceAllStringFunc(key, func(c string) string { return "[" + c + strings.ToUpper(c) + "]" })
		out = append(out, regexp.MustCompile(`\A(?:`+both+`)\z`))
	}
	return out
}

// reckonFlag tells by a word's pattern whether a sandbox takes away its flag.
func reckonFlag(pattern *regexp.Regexp, words []string) bool {
	for _, word := range words {
		if pattern.MatchString(word) {
			return false
		}
	}
	return true
}

// reckonAll goes through the flags, not through the policies.
func reckonAll(of []*regexp.Regexp, l []api.Policy) int {
	sum := 0
	for i, pattern := range of {
		for _, p := range l {
			if p.HasBox && reckonFlag(pattern, p.Box) {
				sum += bits[i]
				break
			}
		}
	}
	return sum
}

// randomWord is mostly one of the six, with letters of any size, and sometimes with a byte more or less.
func randomWord(r *rand.Rand) string {
	word := []byte(keys[r.Intn(len(keys))])
	for i := range word {
		if r.Intn(4) == 0 {
			word[i] = strings.ToUpper(string(word[i]))[0]
		}
	}
	i := r.Intn(len(word))
	switch r.Intn(12) {
	case 0:
		return string(word[:i]) + string(word[i+1:])
	case 1:
		return string(word[:i]) + string([]byte{byte(r.Intn(256))}) + string(word[i:])
	case 2:
		return string(word[:i])
	}
	return string(word)
}

func randomPolicies(r *rand.Rand) []api.Policy {
	var out []api.Policy
	for range r.Intn(4) {
		p := api.Policy{HasBox: r.Intn(4) > 0, HasAnc: r.Intn(2) == 0}
		for range r.Intn(16) {
			p.Box = append(p.Box, randomWord(r))
		}
		out = append(out, p)
	}
	return out
}

// P12.1, P12.2: random policies against a second reckoning; each flag is taken away by many of them and left by many.
func TestReckoned(t *testing.T) {
	r := rand.New(rand.NewSource(12))
	of := patterns()
	taken := make([]int, len(bits))
	const rounds = 20000
	for range rounds {
		l := randomPolicies(r)
		want := reckonAll(of, l)
		checkAll(t, l, want)
		for i, bit := range bits {
			taken[i] += want & bit / bit
		}
	}
	for i, n := range taken {
		if n < rounds/10 || n > rounds*9/10 {
			t.Errorf("%s: taken away %d times of %d", keys[i], n, rounds)
		}
	}
}
