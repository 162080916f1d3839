package sandbox

import (
	"slices"
	"strings"
	"testing"

	"glacis/api"
	"glacis/samples"
)

// keys are the six words in their order; each clears the flag of its place.
var keys = []string{
	"allow-scripts", "allow-same-origin", "allow-forms",
	"allow-popups", "allow-popups-to-escape-sandbox", "allow-top-navigation",
}

// bits are the six flags in the same order, by their numbers.
var bits = []int{1, 2, 4, 8, 16, 32}

// subset are those of the six words whose flags are set, in their order.
func subset(flags int) []string {
	var out []string
	for i, key := range keys {
		if flags&bits[i] != 0 {
			out = append(out, key)
		}
	}
	return out
}

// box is a policy with a sandbox.
func box(words ...string) api.Policy { return api.Policy{HasBox: true, Box: words} }

func checkFlags(t *testing.T, words []string, want int) {
	t.Helper()
	if got := Flags(words); got != want {
		t.Errorf("Flags of %.300q: %d, not %d", words, got, want)
	}
}

func checkAll(t *testing.T, l []api.Policy, want int) {
	t.Helper()
	if got := All(l); got != want {
		t.Errorf("All of %d policies: %d, not %d", len(l), got, want)
	}
}

func checkPopup(t *testing.T, flags, want int) {
	t.Helper()
	if got := Popup(flags); got != want {
		t.Errorf("Popup of %d: %d, not %d", flags, got, want)
	}
}

func checkWords(t *testing.T, flags int, want ...string) {
	t.Helper()
	if got := Words(flags); !slices.Equal(got, want) {
		t.Errorf("Words of %d: %q, not %q", flags, got, want)
	}
}

// checkNothing is of a text that is none of the six words: it clears nothing, alone or beside words.
func checkNothing(t *testing.T, text string) {
	t.Helper()
	checkFlags(t, []string{text}, 63)
	checkFlags(t, []string{"allow-forms", text, "allow-scripts"}, 58)
}

// P12.1: the numbers of the flags are the chapter's.
func TestNumbers(t *testing.T) {
	named := []int{api.BoxScripts, api.BoxOrigin, api.BoxForms, api.BoxPopups, api.BoxEscape, api.BoxTop}
	if !slices.Equal(named, bits) || api.BoxAll != 63 {
		t.Errorf("%d, all of them %d", named, api.BoxAll)
	}
}

// P12.1: no words at all leave nothing.
func TestFlagsOfNoWords(t *testing.T) {
	checkFlags(t, nil, 63)
	checkFlags(t, []string{}, 63)
}

// P12.1: each word clears its own flag and no other.
func TestFlagsOfEachWord(t *testing.T) {
	checkFlags(t, []string{"allow-scripts"}, 62)
	checkFlags(t, []string{"allow-same-origin"}, 61)
	checkFlags(t, []string{"allow-forms"}, 59)
	checkFlags(t, []string{"allow-popups"}, 55)
	checkFlags(t, []string{"allow-popups-to-escape-sandbox"}, 47)
	checkFlags(t, []string{"allow-top-navigation"}, 31)
}

// P12.1: all choices of the six words, forwards, backwards, and each word twice.
func TestFlagsOfAllChoices(t *testing.T) {
	for cleared := range 64 {
		words := subset(cleared)
		checkFlags(t, words, 63-cleared)
		checkFlags(t, append(words, words...), 63-cleared)
		slices.Reverse(words)
		checkFlags(t, words, 63-cleared)
	}
}

// P12.1: the same word again clears nothing more and sets nothing.
func TestFlagsOfSameWord(t *testing.T) {
	checkFlags(t, []string{"allow-forms", "allow-forms"}, 59)
	checkFlags(t, []string{"allow-forms", "ALLOW-FORMS", "x", "Allow-Forms"}, 59)
	checkFlags(t, slices.Repeat([]string{"allow-popups"}, 5), 55)
}

// P12.1: the size of letters doesn't count.
func TestFlagsOfSizes(t *testing.T) {
	for i, key := range keys {
		for _, text := range samples.Sizes(key) {
			checkFlags(t, []string{text}, 63-bits[i])
		}
	}
	checkFlags(t, []string{"Allow-Scripts", "x"}, 62)
	checkFlags(t, []string{"Allow-Popups-To-Escape-Sandbox", "aLLOW-sAME-oRIGIN"}, 45)
}

// P12.1: only the letters A to Z have another size.
func TestFlagsOfOtherLetters(t *testing.T) {
	checkNothing(t, "allow-\u017fcripts")
	checkNothing(t, "allow-form\u017f")
	checkNothing(t, "ALLOW-TOP-NAV\u0130GATION")
	checkNothing(t, "\uff41llow-forms")
	checkNothing(t, "\xc1llow-forms")
}

// P12.1: texts that are none of the six words clear nothing.
func TestFlagsOfOtherWords(t *testing.T) {
	for _, text := range []string{
		"", "x", "-", "allow", "allow-", "scripts", "forms", "none", "*", "'self'", "sandbox",
		"allow-modals", "allow-downloads", "allow-pointer-lock", "allow-presentation", "allow-orientation-lock",
		"allow-top-navigation-by-user-activation", "allow-top-navigation-to-custom-protocols",
		"allow-popups-to-escape", "allow-popups-", "allow-popups-to-escape-sandbox-", "allow-origin", "allow-top",
		"allow_scripts", "allowscripts", "allow--scripts", "allow-script", "allow-same-origins", "same-origin",
		"allow-scripts allow-forms", "allow-scripts,allow-forms", "allow-scripts;", "\"allow-scripts\"", "'allow-scripts'",
	} {
		checkNothing(t, text)
	}
}

// P12.1: blanks belong to a word; with them, it is none of the six.
func TestFlagsOfBlanks(t *testing.T) {
	for _, blank := range []string{" ", "\t", "\n", "\f", "\r", "\v", "\x00", "\u00a0", "  "} {
		checkNothing(t, blank)
		for _, key := range keys {
			checkNothing(t, blank+key)
			checkNothing(t, key+blank)
			checkNothing(t, blank+key+blank)
			checkNothing(t, key[:5]+blank+key[5:])
		}
	}
}

// P12.1: any part of a word that isn't all of it, and any byte more, is none of the six.
func TestFlagsOfParts(t *testing.T) {
	for _, key := range keys {
		for i := range len(key) + 1 {
			for _, part := range []string{key[:i], key[i:], key[:i] + key[min(i+1, len(key)):]} {
				if !slices.Contains(keys, part) {
					checkNothing(t, part)
				}
			}
			for _, text := range samples.Bytes() {
				checkNothing(t, key[:i]+text+key[i:])
			}
		}
	}
}

// P12.1: any byte in the place of another one makes it none of the six, but a letter's other size.
func TestFlagsOfChangedBytes(t *testing.T) {
	for k, key := range keys {
		for i := range len(key) {
			for _, text := range samples.Bytes() {
				changed := key[:i] + text + key[i+1:]
				if text == key[i:i+1] || text == strings.ToUpper(key[i:i+1]) {
					checkFlags(t, []string{changed}, 63-bits[k])
				} else {
					checkNothing(t, changed)
				}
			}
		}
	}
}

// P12.2: without policies, or without a box, nothing is taken away.
func TestAllOfNothing(t *testing.T) {
	checkAll(t, nil, 0)
	checkAll(t, []api.Policy{}, 0)
	checkAll(t, []api.Policy{{}}, 0)
	checkAll(t, []api.Policy{{HasAnc: true}, {HasAnc: true, Anc: keys}}, 0)
}

// P12.2: HasBox alone tells whether there is a box, whatever its words are.
func TestAllOfBoxes(t *testing.T) {
	checkAll(t, []api.Policy{box()}, 63)
	checkAll(t, []api.Policy{{HasBox: true, Box: []string{}}}, 63)
	checkAll(t, []api.Policy{{Box: []string{"x"}}}, 0)
	checkAll(t, []api.Policy{{Box: []string{"allow-forms"}}}, 0)
	checkAll(t, []api.Policy{{Box: []string{"x"}}, box("Allow-Forms"), {Box: keys}}, 59)
	checkAll(t, []api.Policy{box(keys...)}, 0)
	checkAll(t, []api.Policy{{HasAnc: true, Anc: []string{"allow-scripts"}, HasBox: true, Box: []string{"ALLOW-FORMS"}}}, 59)
}

// P12.2: what one of the policies takes away is taken away.
func TestAllOfSeveral(t *testing.T) {
	checkAll(t, []api.Policy{box(), box("allow-forms"), {}}, 63)
	checkAll(t, []api.Policy{box("allow-forms"), box()}, 63)
	checkAll(t, []api.Policy{box("allow-forms", "allow-scripts"), box("allow-scripts", "allow-popups")}, 62)
	checkAll(t, []api.Policy{box("allow-forms"), box("allow-scripts")}, 63)
	checkAll(t, []api.Policy{box(keys...), box("allow-scripts", "allow-forms")}, 58)
	checkAll(t, []api.Policy{box("allow-scripts", "allow-forms"), box(keys...), {}}, 58)
}

// P12.2: all pairs of boxes of the six words.
func TestAllOfPairs(t *testing.T) {
	for a := range 64 {
		for b := range 64 {
			checkAll(t, []api.Policy{box(subset(a)...), {}, box(subset(b)...)}, 63-a&b)
		}
	}
}

// P12.2: flags with BoxEscape go on to what opens, all of them; others don't at all.
func TestPopup(t *testing.T) {
	checkPopup(t, 0, 0)
	checkPopup(t, 63, 63)
	checkPopup(t, 15, 0)
	checkPopup(t, 16, 16)
	checkPopup(t, 47, 0)
	checkPopup(t, 48, 48)
	for flags := range 64 {
		want := 0
		if slices.Contains(subset(flags), "allow-popups-to-escape-sandbox") {
			want = flags
		}
		checkPopup(t, flags, want)
	}
}

// P12.2: flags outside BoxAll don't count, also in negative numbers.
func TestPopupOutside(t *testing.T) {
	checkPopup(t, 64, 0)
	checkPopup(t, 64+15, 0)
	checkPopup(t, 64+16, 16)
	checkPopup(t, 1<<40+63, 63)
	checkPopup(t, 1<<62, 0)
	checkPopup(t, -1, 63)
	checkPopup(t, -2, 62)
	checkPopup(t, -16, 48)
	checkPopup(t, -17, 0)
	checkPopup(t, -64, 0)
	checkPopup(t, 1<<63-1, 63)
	checkPopup(t, -1<<63, 0)
	checkPopup(t, -1<<63+16, 16)
}

// P12.2: the words of flags that are not set, in the order of P12.1.
func TestWords(t *testing.T) {
	checkWords(t, 63)
	checkWords(t, 0, "allow-scripts", "allow-same-origin", "allow-forms", "allow-popups", "allow-popups-to-escape-sandbox", "allow-top-navigation")
	checkWords(t, 62, "allow-scripts")
	checkWords(t, 61, "allow-same-origin")
	checkWords(t, 59, "allow-forms")
	checkWords(t, 55, "allow-popups")
	checkWords(t, 47, "allow-popups-to-escape-sandbox")
	checkWords(t, 31, "allow-top-navigation")
	checkWords(t, 21, "allow-same-origin", "allow-popups", "allow-top-navigation")
	for flags := range 64 {
		checkWords(t, flags, subset(63-flags)...)
	}
}

// P12.2: flags outside BoxAll have no words, also in negative numbers.
func TestWordsOutside(t *testing.T) {
	checkWords(t, 64, keys...)
	checkWords(t, 64+63)
	checkWords(t, 128+61, "allow-same-origin")
	checkWords(t, -1)
	checkWords(t, -2, "allow-scripts")
	checkWords(t, -64, keys...)
	checkWords(t, -33, "allow-top-navigation")
	checkWords(t, 1<<63-1)
	checkWords(t, -1<<63, keys...)
}

// P12.3: one word more, anywhere, never sets a flag.
func TestOneWordMore(t *testing.T) {
	for cleared := range 64 {
		words := subset(cleared)
		for _, more := range append([]string{"", "x", " allow-forms", "Allow-Forms", "ALLOW-SCRIPTS"}, keys...) {
			for i := range len(words) + 1 {
				longer := slices.Insert(slices.Clone(words), i, more)
				if set := Flags(longer) &^ Flags(words); set != 0 {
					t.Errorf("%q sets %d, which %q clears", longer, set, words)
				}
			}
		}
	}
}

// P12.3: one policy more, anywhere, never clears a flag.
func TestOnePolicyMore(t *testing.T) {
	more := []api.Policy{{}, {HasAnc: true}, {Box: []string{"allow-forms"}}, box(), box("x"), box("allow-scripts"), box(keys...)}
	for set := range 64 {
		l := []api.Policy{box(keys...), box(subset(63 - set)...)}
		for _, p := range more {
			for i := range len(l) + 1 {
				longer := slices.Insert(slices.Clone(l), i, p)
				if cleared := All(l) &^ All(longer); cleared != 0 {
					t.Errorf("one policy more clears %d of %d", cleared, set)
				}
			}
		}
	}
}

// P12.3: the words of any flags leave just those within BoxAll.
func TestThereAndBack(t *testing.T) {
	for flags := -200; flags <= 200; flags++ {
		checkFlags(t, Words(flags), (flags%64+64)%64)
	}
	for _, far := range []int{1 << 10, 1 << 31, 1 << 32, 1 << 62, -1 << 62, -1 << 63} {
		for within := range 64 {
			checkFlags(t, Words(far+within), within)
		}
	}
}

// R1: many words, long ones and many policies.
func TestLong(t *testing.T) {
	long := strings.Repeat("allow-scripts", 1<<17)
	checkFlags(t, []string{long, strings.ToUpper(long)}, 63)
	many := slices.Repeat([]string{"x", "Allow-Forms", long[:100]}, 1<<16)
	checkFlags(t, many, 59)
	checkFlags(t, append(many, keys...), 0)
	checkAll(t, slices.Repeat([]api.Policy{box(keys...), {}}, 1<<15), 0)
	checkAll(t, append(slices.Repeat([]api.Policy{box(keys...), {}}, 1<<15), box(keys[1:]...)), 1)
}

// R4: arguments stay as they are, with the room behind them; results are their own.
func TestArgumentsStay(t *testing.T) {
	words := []string{"Allow-Forms", "x", "ALLOW-POPUPS", "behind"}
	was := slices.Clone(words)
	checkFlags(t, words[:2], 59)
	l := []api.Policy{{HasBox: true, Box: words[:3]}, {HasBox: true}, {}}
	checkAll(t, l[:1], 51)
	if !slices.Equal(words, was) || len(l[0].Box) != 3 || !l[1].HasBox || l[2].HasBox {
		t.Errorf("changed: %q, %v", words, l)
	}
	a, b := Words(0), Words(0)
	for i := range a {
		a[i] = "changed"
	}
	a = append(a[:1], "more")
	if !slices.Equal(b, keys) || !slices.Equal(Words(0), keys) {
		t.Errorf("%q, with %q changed", b, a)
	}
}

// R5: no order of a map is to be seen.
func TestRepeated(t *testing.T) {
	for range 200 {
		checkWords(t, -64, keys...)
		checkWords(t, 36, "allow-scripts", "allow-same-origin", "allow-popups", "allow-popups-to-escape-sandbox")
	}
}
