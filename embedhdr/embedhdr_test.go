package embedhdr

import (
	"slices"
	"strings"
	"testing"

	"glacis/api"
	"glacis/samples"
)

// The two headers.
const (
	corp = "cross-origin-resource-policy"
	xfo  = "x-frame-options"
)

// check holds both answers of a head against what they should be.
func check(t *testing.T, l []api.Header, wantCorp, wantXfo int) {
	t.Helper()
	if got := Corp(l); got != wantCorp {
		t.Errorf("Corp of %.300q: %d, not %d", l, got, wantCorp)
	}
	if got := Xfo(l); got != wantXfo {
		t.Errorf("Xfo of %.300q: %d, not %d", l, got, wantXfo)
	}
}

// checkCorp is of a head with nothing but resource policies.
func checkCorp(t *testing.T, want int, values ...string) {
	t.Helper()
	check(t, samples.Lines(corp, values...), want, api.XfoNone)
}

// checkXfo is of a head with nothing but frame options.
func checkXfo(t *testing.T, want int, values ...string) {
	t.Helper()
	check(t, samples.Lines(xfo, values...), api.CorpNone, want)
}

// keyword is a value that a header knows.
type keyword struct {
	text  string
	value int
}

func corpKeywords() []keyword {
	return []keyword{{"same-origin", api.CorpSame}, {"same-site", api.CorpSite}, {"cross-origin", api.CorpAny}}
}

func xfoKeywords() []keyword {
	return []keyword{{"deny", api.XfoDeny}, {"sameorigin", api.XfoSame}, {"allowall", api.XfoAll}}
}

// P9.1, P9.2: the chapter's examples.
func TestExamples(t *testing.T) {
	checkCorp(t, api.CorpSite, "same-site")
	checkCorp(t, api.CorpNone, "Same-Site")
	checkCorp(t, api.CorpNone, "same-site", "same-site")
	checkXfo(t, api.XfoDeny, "DENY")
	checkXfo(t, api.XfoDeny, "deny, deny")
	checkXfo(t, api.XfoDeny, "deny", "sameorigin")
	checkXfo(t, api.XfoNone, "x, y")
	checkXfo(t, api.XfoDeny, "x, allowall")
	checkXfo(t, api.XfoNone, "x")
}

// P9.1: each value, with blanks at its ends, and beside other headers.
func TestCorp(t *testing.T) {
	for _, k := range corpKeywords() {
		for _, field := range []string{"K", " K", "K ", "  K  ", "\tK\t", "\n\f\r K\t\n\f\r "} {
			value := strings.ReplaceAll(field, "K", k.text)
			checkCorp(t, k.value, value)
			l := slices.Concat(samples.Lines("x", "cross-origin"), samples.Lines(corp, value), samples.Lines("cross-origin-embedder-policy", "same-site"))
			check(t, l, k.value, api.XfoNone)
		}
	}
}

// P9.1: values that are not known, empty ones and quoted ones; K stands for each known one.
func TestCorpUnknown(t *testing.T) {
	for _, field := range []string{
		"", " ", "\t", ",", ", ", "x", "*", "none", "null", "unsafe-none", "same", "origin", "site", "cross", "cross-site", "same_origin", "sameorigin", "deny", "same-origin-allow-popups", "require-corp", "same-", "-origin",
		`"K"`, `'K'`, `"K`, `K"`, `\K`, "K,", "K, ", ",K", ", K", "K,K", "K, K", "K, x", "x, K", "K K", "K x", "x K", "K;", "K;x", "K; x=1", "K=1", "K=K", "(K)", "<K>", "K\v", "\vK", "\x00K", "K\x00", "K\xff", "\xa0K", "K\u00a0", "K\u2003", "éK", "KK", "xK", "Kx",
	} {
		for _, k := range corpKeywords() {
			checkCorp(t, api.CorpNone, strings.ReplaceAll(field, "K", k.text))
		}
	}
}

// P9.1: values on several lines are joined by commas, and so are none that is known.
func TestCorpJoined(t *testing.T) {
	for _, k := range corpKeywords() {
		for _, other := range []string{k.text, "same-origin", "same-site", "cross-origin", "x", "", " ", `"`, ","} {
			checkCorp(t, api.CorpNone, k.text, other)
			checkCorp(t, api.CorpNone, other, k.text)
			checkCorp(t, api.CorpNone, k.text, other, k.text)
			l := slices.Concat(samples.Lines(corp, k.text), samples.Lines("x", "y"), samples.Lines(strings.ToUpper(corp), other))
			check(t, l, api.CorpNone, api.XfoNone)
		}
		checkCorp(t, api.CorpNone, k.text[:4], k.text[4:])
	}
	checkCorp(t, api.CorpNone, "", "")
}

// P9.1, P9.3: the exact bytes only: in letters of another size, with any byte another, one more or one less, it is not the value.
func TestCorpEachByte(t *testing.T) {
	for _, k := range corpKeywords() {
		for _, text := range samples.Sizes(k.text) {
			checkCorp(t, api.CorpNone, text)
		}
		for i := range len(k.text) {
			checkCorp(t, api.CorpNone, k.text[:i]+k.text[i+1:])
			for _, c := range samples.Bytes() {
				if c != k.text[i:i+1] {
					checkCorp(t, api.CorpNone, k.text[:i]+c+k.text[i+1:])
				}
				if i > 0 {
					checkCorp(t, api.CorpNone, k.text[:i]+c+k.text[i:])
				}
			}
		}
	}
}

// P9.2: each word alone, with blanks about it, once and again, in one line and in several.
func TestXfoOneWord(t *testing.T) {
	for _, k := range append(xfoKeywords(), keyword{"x", api.XfoNone}, keyword{"", api.XfoNone}) {
		for _, field := range []string{"K", " K", "K ", "\tK\t", "\n\f\r K\t\n\f\r ", "K,K", "K, K", " K ,\tK , K\n"} {
			value := strings.ReplaceAll(field, "K", k.text)
			checkXfo(t, k.value, value)
			checkXfo(t, k.value, value, k.text)
			checkXfo(t, k.value, k.text, value, " "+value)
			l := slices.Concat(samples.Lines("x", "deny"), samples.Lines(xfo, value), samples.Lines("x-frame-option", "allowall"), samples.Lines(xfo, k.text))
			check(t, l, api.CorpNone, k.value)
		}
	}
}

// P9.2: words of which one is known, besides one that is none: an empty one and a quoted one are words, too.
func TestXfoOneKnown(t *testing.T) {
	for _, k := range xfoKeywords() {
		for _, other := range []string{"x", "", "none", k.text + "s", k.text + " " + k.text, k.text + ";x", `"` + k.text + `"`, `"x, y"`, `"` + k.text + `,x"`, "\v", "\xff", "allow-from https://a/"} {
			checkXfo(t, api.XfoDeny, k.text, other)
			checkXfo(t, api.XfoDeny, other, k.text)
			checkXfo(t, api.XfoDeny, k.text+", "+other)
			checkXfo(t, api.XfoDeny, other+","+k.text)
			checkXfo(t, api.XfoDeny, other+","+other, other, k.text+","+other)
			checkXfo(t, api.XfoDeny, "y, "+other, strings.ToUpper(k.text))
		}
		checkXfo(t, api.XfoDeny, k.text+",")
		checkXfo(t, api.XfoDeny, ","+k.text)
		checkXfo(t, api.XfoDeny, " , "+k.text+" , ")
	}
}

// P9.2: two words that are known, and all three.
func TestXfoKnownWords(t *testing.T) {
	for _, a := range xfoKeywords() {
		for _, b := range xfoKeywords() {
			want := api.XfoDeny
			if a == b {
				want = a.value
			}
			checkXfo(t, want, a.text, b.text)
			checkXfo(t, want, a.text+","+b.text)
			checkXfo(t, want, a.text, strings.ToUpper(b.text)+", "+a.text)
			for _, c := range xfoKeywords() {
				if c != a && c != b {
					checkXfo(t, api.XfoDeny, a.text, b.text, c.text)
					checkXfo(t, api.XfoDeny, a.text+","+b.text+" , "+c.text)
				}
			}
		}
	}
}

// P9.2: values of which no word is known, alone and several; K stands for each known word.
func TestXfoUnknown(t *testing.T) {
	fields := []string{
		"", " ", ",", " , ", ",,", "x", "x,", "x,y", "*", "none", "null", "all", "allow", "same", "origin", "same-origin", "same-site", "allow-all", "allow-from", "allow-from https://a/", "denied",
		`"K"`, `'K'`, `"K`, `K"`, `\K`, `"K,K"`, `"K, x"`, `"x,K`, `"\",K,"`, `"`, `"a","b"`, `x"y,K"`, "K K", "K x", "x K", "K;", "K;x", "K;K", "K=1", "(K)", "K\v", "\vK", "\x00K", "K\x00", "K\xff", "\xa0K", "K\u00a0", "K\u2003", "éK", "KK", "xK", "Kx",
	}
	for _, k := range xfoKeywords() {
		for i, field := range fields {
			value, other := strings.ReplaceAll(field, "K", k.text), strings.ReplaceAll(fields[len(fields)-1-i], "K", k.text)
			checkXfo(t, api.XfoNone, value)
			checkXfo(t, api.XfoNone, value, value)
			checkXfo(t, api.XfoNone, value, other)
		}
	}
}

// P9.2: a string that is left open ends with its line, and one that is closed hides no comma behind it.
func TestXfoQuotes(t *testing.T) {
	for _, k := range xfoKeywords() {
		checkXfo(t, api.XfoDeny, `"x`, k.text)
		checkXfo(t, api.XfoDeny, `"x,y`, k.text, `z"`)
		checkXfo(t, api.XfoDeny, `"x",`+k.text)
		checkXfo(t, api.XfoDeny, `"x\\",`+k.text)
		checkXfo(t, api.XfoDeny, `"","",`+k.text)
		checkXfo(t, api.XfoDeny, `\",",`, k.text)
		checkXfo(t, api.XfoNone, `"x\",`+k.text)
		checkXfo(t, api.XfoNone, `\",`+k.text)
	}
}

// P9.2: a word with any byte another, one more or one less is not that word. A comma makes two words of it, none of them known.
func TestXfoEachByte(t *testing.T) {
	for _, k := range xfoKeywords() {
		for i := range len(k.text) {
			checkXfo(t, api.XfoNone, k.text[:i]+k.text[i+1:])
			for _, c := range samples.Bytes() {
				if !strings.EqualFold(c, k.text[i:i+1]) {
					checkXfo(t, api.XfoNone, k.text[:i]+c+k.text[i+1:])
				}
				if i > 0 {
					checkXfo(t, api.XfoNone, k.text[:i]+c+k.text[i:])
				}
			}
		}
	}
}

// P9.2, P9.3: words in letters of another size are the same words. No letter beyond A to Z has another size.
func TestXfoSizes(t *testing.T) {
	for _, k := range xfoKeywords() {
		for _, text := range samples.Sizes(k.text) {
			checkXfo(t, k.value, text)
			checkXfo(t, k.value, k.text, text)
			checkXfo(t, k.value, text+","+k.text, text)
			checkXfo(t, api.XfoDeny, text, "x")
		}
	}
	// Letters that strings.EqualFold would take for an s.
	checkXfo(t, api.XfoNone, "\u017fameorigin")
	checkXfo(t, api.XfoDeny, "\u017fameorigin", "sameorigin")
	checkXfo(t, api.XfoNone, "É", "é")
	checkXfo(t, api.XfoDeny, "É", "é", "allowall")
}

// P9.3: neither order nor repetition nor size of words is of any matter, nor how they stand on lines.
func TestXfoArrangements(t *testing.T) {
	words := []string{"deny", "sameorigin", "allowall", "x", "", `"deny"`}
	var grow func(list []string)
	grow = func(list []string) {
		if len(list) > 0 {
			checkArranged(t, list)
		}
		for i := 0; len(list) < 4 && i < len(words); i++ {
			grow(append(slices.Clone(list), words[i]))
		}
	}
	grow(nil)
}

// checkArranged puts the words on lines in all ways, with and without a comma between each two of them.
func checkArranged(t *testing.T, list []string) {
	t.Helper()
	want := stated(list)
	for joins := range 1 << (len(list) - 1) {
		values := []string{list[0]}
		for i, word := range list[1:] {
			if (joins+i)%3 == 0 {
				word = strings.ToUpper(word)
			}
			if joins>>i&1 == 0 {
				values[len(values)-1] += "," + word
			} else {
				values = append(values, word)
			}
		}
		checkXfo(t, want, values...)
	}
}

// stated is what words mean, of which each may come again.
func stated(list []string) int {
	first := list[0]
	if !slices.ContainsFunc(list, func(w string) bool { return w != first }) {
		return slices.Index([]string{"deny", "sameorigin", "allowall"}, first) + 1
	}
	if slices.Contains(list, "deny") || slices.Contains(list, "sameorigin") || slices.Contains(list, "allowall") {
		return api.XfoDeny
	}
	return api.XfoNone
}

// P9.1, P9.2: no header at all, and none of the two.
func TestNoHeader(t *testing.T) {
	for _, l := range [][]api.Header{nil, {}, {{}}, samples.Lines("x", "deny", "same-origin"), samples.Lines("", "deny", "same-origin"), samples.Lines("frame-options", "deny"), samples.Lines("cross-origin-embedder-policy", "same-origin"), samples.Lines("cross-origin-opener-policy", "same-origin"), samples.Lines(corp+"-report-only", "same-origin"), samples.Lines(xfo+"-report-only", "deny")} {
		check(t, l, api.CorpNone, api.XfoNone)
	}
	// What one of the headers knows is nothing to the other.
	for _, k := range corpKeywords() {
		checkXfo(t, api.XfoNone, k.text)
	}
	for _, k := range xfoKeywords() {
		checkCorp(t, api.CorpNone, k.text)
	}
}

// P9.1, P9.2: names of headers in letters of another size, and names that are neither of the two.
func TestNames(t *testing.T) {
	for _, name := range []string{corp, xfo} {
		value, wantCorp, wantXfo := "cross-origin", api.CorpAny, api.XfoNone
		if name == xfo {
			value, wantCorp, wantXfo = "sameorigin", api.CorpNone, api.XfoSame
		}
		for _, sized := range samples.Sizes(name) {
			check(t, samples.Lines(sized, value), wantCorp, wantXfo)
		}
		for i := range len(name) {
			check(t, samples.Lines(name[:i]+name[i+1:], value), api.CorpNone, api.XfoNone)
			check(t, samples.Lines(name[:i]+"_"+name[i+1:], value), api.CorpNone, api.XfoNone)
		}
		for _, other := range []string{" " + name, name + " ", name + "s", name + "-", name + "\x00", name + ":", "x" + name, "x-" + name, strings.Replace(name, "s", "\u017f", 1)} {
			check(t, samples.Lines(other, value), api.CorpNone, api.XfoNone)
			check(t, slices.Concat(samples.Lines(other, "deny"), samples.Lines(name, value), samples.Lines(other, "x")), wantCorp, wantXfo)
		}
	}
}

// P9.1, P9.2: both headers in one head, among each other.
func TestBoth(t *testing.T) {
	for _, c := range corpKeywords() {
		for _, x := range xfoKeywords() {
			check(t, slices.Concat(samples.Lines(corp, c.text), samples.Lines(xfo, x.text)), c.value, x.value)
			check(t, slices.Concat(samples.Lines(xfo, x.text), samples.Lines(corp, c.text), samples.Lines(xfo, x.text)), c.value, x.value)
			check(t, slices.Concat(samples.Lines(xfo, x.text), samples.Lines(corp, c.text), samples.Lines(xfo, "y")), c.value, api.XfoDeny)
			check(t, slices.Concat(samples.Lines(corp, "y"), samples.Lines(xfo, x.text), samples.Lines(corp, c.text)), api.CorpNone, x.value)
		}
	}
}

// R5: the order in which words are gone through is not to be seen.
func TestSameEachTime(t *testing.T) {
	for range 500 {
		checkXfo(t, api.XfoDeny, "x, allowall, y", "sameorigin, z")
		checkXfo(t, api.XfoDeny, "x, sameorigin, y, z, u, v, w")
		checkXfo(t, api.XfoNone, "x, y", "z", "u, v", "")
	}
}

// R4: what is handed in stays as it is, up to its capacity.
func TestNothingChanged(t *testing.T) {
	room := append(make([]api.Header, 0, 9), slices.Concat(samples.Lines(strings.ToUpper(corp), " same-site "), samples.Lines("X-Frame-Options", " DENY ,deny", "Deny "))...)
	before := slices.Clone(room[:cap(room)])
	for n := range len(room) + 1 {
		Corp(room[:n])
		Xfo(room[:n])
	}
	check(t, room, api.CorpSite, api.XfoDeny)
	if !slices.Equal(room[:cap(room)], before) {
		t.Errorf("%q was changed to %q", before, room[:cap(room)])
	}
}

// R1: heads that headers.Check refuses are read, too, in a time that doesn't grow with the square of their length.
func TestLong(t *testing.T) {
	const n = 1 << 20
	for _, value := range []string{strings.Repeat("x", n), strings.Repeat(",", n), strings.Repeat("\"", n), strings.Repeat("\\", n), strings.Repeat("same-origin,", n/8), strings.Repeat("x\n,", n/4)} {
		check(t, slices.Concat(samples.Lines(corp, value), samples.Lines(xfo, value)), api.CorpNone, api.XfoNone)
	}
	checkCorp(t, api.CorpSame, strings.Repeat(" ", n)+"same-origin"+strings.Repeat("\n", n))
	checkCorp(t, api.CorpNone, slices.Repeat([]string{"same-origin"}, n/8)...)
	checkXfo(t, api.XfoAll, strings.Repeat("allowall,\t", n/8)+strings.Repeat(" ", n)+"AllowAll")
	checkXfo(t, api.XfoSame, slices.Repeat([]string{"sameorigin", "SAMEORIGIN"}, n/8)...)
	var many strings.Builder
	for i := range n / 4 {
		many.WriteString(strings.Repeat("y", i%7) + string(rune('!'+i%999)) + strings.Repeat("z", i%11) + ",x")
	}
	checkXfo(t, api.XfoDeny, many.String(), "allowall")
	check(t, slices.Concat(slices.Repeat(samples.Lines("x", "deny"), n/8), samples.Lines(xfo, "deny"), samples.Lines(corp, "same-site")), api.CorpSite, api.XfoDeny)
}
