package octet

import (
	"math"
	"slices"
	"strconv"
	"strings"
	"testing"
)

// allBytes has each byte once, in order.
func allBytes() string {
	b := make([]byte, 256)
	for i := range b {
		b[i] = byte(i)
	}
	return string(b)
}

// eachText calls do with every text of at most most bytes of an alphabet.
func eachText(alphabet string, most int, do func(string)) {
	texts := []string{""}
	for range most + 1 {
		var longer []string
		for _, s := range texts {
			do(s)
			for i := range len(alphabet) {
				longer = append(longer, s+alphabet[i:i+1])
			}
		}
		texts = longer
	}
}

// P1.1: only A to Z change.
func TestLowerTexts(t *testing.T) {
	for _, c := range []struct{ in, want string }{
		{"", ""},
		{"abc", "abc"},
		{"AZaz", "azaz"},
		{"X-Frame-Options: DENY", "x-frame-options: deny"},
		{"aÉZ", "aÉz"},
		{"\u212a\u0130", "\u212a\u0130"},
		{"\xc3A\xff\x80Z", "\xc3a\xff\x80z"},
		{"\x00A\x00", "\x00a\x00"},
		{" A\t", " a\t"},
	} {
		if got := Lower(c.in); got != c.want {
			t.Errorf("Lower(%q) = %q, not %q", c.in, got, c.want)
		}
	}
}

// P1.1: each byte alone, and all of them in one text.
func TestLowerEachByte(t *testing.T) {
	all := allBytes()
	want := all[:'A'] + "abcdefghijklmnopqrstuvwxyz" + all['Z'+1:]
	if got := Lower(all); got != want {
		t.Errorf("Lower of all bytes = %q", got)
	}
	for i := range len(all) {
		if got := Lower(all[i : i+1]); got != want[i:i+1] {
			t.Errorf("Lower(%q) = %q, not %q", all[i:i+1], got, want[i:i+1])
		}
	}
}

// P1.1: Fold.
func TestFoldTexts(t *testing.T) {
	for _, c := range []struct {
		a, b string
		want bool
	}{
		{"", "", true},
		{"", "a", false},
		{"a", "", false},
		{"X-Y", "x-y", true},
		{"x-y", "X-Y", true},
		{"aBc", "AbC", true},
		{"a", "b", false},
		{"a", "aa", false},
		{"a ", "a", false},
		{"É", "é", false},
		{"É", "É", true},
		{"k", "\u212a", false},
		{"s", "\u017f", false},
		{"\xff", "\xfe", false},
		{"\xff", "\ufffd", false},
	} {
		if got := Fold(c.a, c.b); got != c.want {
			t.Errorf("Fold(%q, %q) = %v", c.a, c.b, got)
		}
	}
}

// P1.1: Fold of each two bytes; @ and 96, [ and { and their like differ in one bit, as A and a do, but are no letters.
func TestFoldEachPair(t *testing.T) {
	all := allBytes()
	for i := range len(all) {
		for j := range len(all) {
			want := i == j || 'A' <= i && i <= 'Z' && j == i+32 || 'A' <= j && j <= 'Z' && i == j+32
			if got := Fold(all[i:i+1], all[j:j+1]); got != want {
				t.Errorf("Fold(%q, %q) = %v", all[i:i+1], all[j:j+1], got)
			}
		}
	}
}

// P1.1: Trim.
func TestTrimTexts(t *testing.T) {
	for _, c := range []struct{ in, want string }{
		{"", ""},
		{" ", ""},
		{"\t\n\f\r ", ""},
		{"a", "a"},
		{"\ta b ", "a b"},
		{"\t\n\f\r a\t\n\f\r ", "a"},
		{"a\t\n\f\r b", "a\t\n\f\r b"},
		{"  a", "a"},
		{"a  ", "a"},
		{"\va\v", "\va\v"},
		{" \v ", "\v"},
		{"\x00 a \x00", "\x00 a \x00"},
		{"\u00a0a\u00a0", "\u00a0a\u00a0"},
		{"\u2003a\u0085", "\u2003a\u0085"},
		{" \xff ", "\xff"},
	} {
		if got := Trim(c.in); got != c.want {
			t.Errorf("Trim(%q) = %q, not %q", c.in, got, c.want)
		}
	}
}

// P1.1 and P1.2: the blanks are five bytes, and no other.
func TestBlanksEachByte(t *testing.T) {
	all := allBytes()
	for i := range len(all) {
		c := all[i : i+1]
		is := i == 9 || i == 10 || i == 12 || i == 13 || i == 32
		trimmed, words := "["+c+"]", []string{c + "[" + c + "]" + c}
		if is {
			words = []string{"[", "]"}
		} else {
			trimmed = c + trimmed + c
		}
		if got := Trim(c + "[" + c + "]" + c); got != trimmed {
			t.Errorf("Trim with byte %d: %q", i, got)
		}
		if got := Words(c + "[" + c + "]" + c); !slices.Equal(got, words) {
			t.Errorf("Words with byte %d: %q", i, got)
		}
	}
}

// P1.2: Split.
func TestSplitTexts(t *testing.T) {
	for _, c := range []struct {
		in   string
		by   byte
		want []string
	}{
		{"", ',', []string{""}},
		{",", ',', []string{"", ""}},
		{",,", ',', []string{"", "", ""}},
		{"a", ',', []string{"a"}},
		{"a,,b", ',', []string{"a", "", "b"}},
		{",a", ',', []string{"", "a"}},
		{"a,", ',', []string{"a", ""}},
		{",a,b,", ',', []string{"", "a", "b", ""}},
		{"b,a,b", ',', []string{"b", "a", "b"}},
		{" a , b ", ',', []string{" a ", " b "}},
		{"a;b,c", ';', []string{"a", "b,c"}},
		{"aXbxc", 'x', []string{"aXb", "c"}},
		{"a\x00b", 0, []string{"a", "b"}},
		{"a\xffb\xff", 0xff, []string{"a", "b", ""}},
		{"É", 0xc3, []string{"", "\x89"}},
		{"é", 0xe9, []string{"é"}},
	} {
		if got := Split(c.in, c.by); !slices.Equal(got, c.want) {
			t.Errorf("Split(%q, %q) = %q, not %q", c.in, c.by, got, c.want)
		}
	}
}

// P1.2: every byte may separate, and no other one does.
func TestSplitEachByte(t *testing.T) {
	all := allBytes()
	for i := range len(all) {
		if got := Split(all, byte(i)); !slices.Equal(got, []string{all[:i], all[i+1:]}) {
			t.Errorf("Split at byte %d: %q", i, got)
		}
	}
}

// P1.2: Words.
func TestWordsTexts(t *testing.T) {
	for _, c := range []struct {
		in   string
		want []string
	}{
		{"", nil},
		{" ", nil},
		{" \t\n\f\r ", nil},
		{"a", []string{"a"}},
		{" a  b ", []string{"a", "b"}},
		{"a\tb\nc\fd\re f", []string{"a", "b", "c", "d", "e", "f"}},
		{"b a b", []string{"b", "a", "b"}},
		{"a,b c", []string{"a,b", "c"}},
		{"a\vb", []string{"a\vb"}},
		{"a\x00b", []string{"a\x00b"}},
		{"a\u00a0b \xff", []string{"a\u00a0b", "\xff"}},
		{"frame-ancestors 'self'", []string{"frame-ancestors", "'self'"}},
	} {
		if got := Words(c.in); !slices.Equal(got, c.want) {
			t.Errorf("Words(%q) = %q, not %q", c.in, got, c.want)
		}
	}
}

// P1.2: the results of two calls are apart from each other, up to their capacity.
func TestPartsAreNew(t *testing.T) {
	first, second := Split("a,b,c", ','), Split("a,b,c", ',')
	_ = append(first[:1], "x", "y")
	if !slices.Equal(second, []string{"a", "b", "c"}) {
		t.Errorf("Split's results share memory: %q", second)
	}
	first, second = Words("a b c"), Words("a b c")
	_ = append(first[:1], "x", "y")
	if !slices.Equal(second, []string{"a", "b", "c"}) {
		t.Errorf("Words' results share memory: %q", second)
	}
}

// P1.3: each byte alone, within and at the ends of a token.
func TestTokenEachByte(t *testing.T) {
	const tokenBytes = "ABCDEFGHIJKLMNOPQRSTUVWXYZabcdefghijklmnopqrstuvwxyz0123456789" +
		"!#$%&'*+-.^_|~\x60"
	all := allBytes()
	for i := range len(all) {
		c := all[i : i+1]
		want := strings.Contains(tokenBytes, c)
		for _, s := range []string{c, "a" + c, c + "a", "a" + c + "a", c + c} {
			if got := Token(s); got != want {
				t.Errorf("Token(%q) = %v", s, got)
			}
		}
	}
}

// P1.3: texts, the empty one among them.
func TestTokenTexts(t *testing.T) {
	for s, want := range map[string]bool{
		"":             false,
		"x-y":          true,
		"x y":          false,
		" x":           false,
		"x ":           false,
		"Content-Type": true,
		"a:b":          false,
		"a/b":          false,
		"1.2":          true,
		"é":            false,
		"\x00":         false,
		"a\xff":        false,
	} {
		if got := Token(s); got != want {
			t.Errorf("Token(%q) = %v", s, got)
		}
	}
}

// P1.4: numbers at most the limit, the limit itself among them.
func TestNumberRead(t *testing.T) {
	for _, c := range []struct {
		s    string
		most int
		want int
	}{
		{"0", 0, 0},
		{"0", 9, 0},
		{"7", 7, 7},
		{"80", 99, 80},
		{"80", 80, 80},
		{"100", 100, 100},
		{"255", 255, 255},
		{"1090", 1090, 1090},
		{"65535", 65535, 65535},
		{"65535", math.MaxInt, 65535},
		{strconv.Itoa(math.MaxInt), math.MaxInt, math.MaxInt},
		{strconv.Itoa(math.MaxInt - 1), math.MaxInt - 1, math.MaxInt - 1},
	} {
		if n, is := Number(c.s, c.most); n != c.want || !is {
			t.Errorf("Number(%q, %d) = %d, %v", c.s, c.most, n, is)
		}
	}
}

// P1.4: all that is no number, or beyond the limit, is 0 and false.
func TestNumberRefused(t *testing.T) {
	for _, c := range []struct {
		s    string
		most int
	}{
		{"", 9}, {"", 0}, {"", -1},
		{"080", 99}, {"00", 99}, {"01", 99}, {"000", 0},
		{"80", 79}, {"1", 0}, {"10", 9}, {"256", 255}, {"65536", 65535}, {"101", 100},
		{"0", -1}, {"1", -1}, {"0", math.MinInt}, {"9", math.MinInt}, {"99", math.MinInt + 5},
		{"-1", 99}, {"-0", 99}, {"+1", 99}, {"1.0", 99}, {"1e1", 99}, {"0x1", 99}, {"1_0", 99},
		{" 1", 99}, {"1 ", 99}, {"1 2", 99}, {"a", 99}, {"1a", 999}, {"a1", 999},
		{"/", 99}, {":", 99}, {"1/", 999}, {"1:", 999}, {"\x00", 99}, {"1\x00", 999},
		{"\u0661", 99}, {"\uff11", 99}, {"\xb2", 99}, {"1\xff", 999},
		{strconv.Itoa(math.MaxInt), math.MaxInt - 1},
		{strconv.FormatUint(math.MaxInt+1, 10), math.MaxInt},
		{strconv.FormatUint(math.MaxUint, 10), math.MaxInt},
		{"18446744073709551616", math.MaxInt}, {"18446744073709551617", 9},
		{"4294967296", 65535}, {"4294967297", 65535},
		{"1" + strings.Repeat("0", 1000), math.MaxInt},
		{strings.Repeat("9", 100000), math.MaxInt},
		{strings.Repeat("0", 1000), math.MaxInt},
	} {
		if n, is := Number(c.s, c.most); n != 0 || is {
			t.Errorf("Number(%.30q, %d) = %d, %v", c.s, c.most, n, is)
		}
	}
}

// P1.4: each limit near each number.
func TestNumberNearLimits(t *testing.T) {
	for n := range 1200 {
		for most := n - 3; most <= n+3; most++ {
			want, wantIs := n, n <= most
			if !wantIs {
				want = 0
			}
			if got, is := Number(strconv.Itoa(n), most); got != want || is != wantIs {
				t.Errorf("Number(%d, %d) = %d, %v", n, most, got, is)
			}
		}
	}
}

// P1.5: the parts of Split, joined, are the text, and are as many as the separators and one more.
func TestSplitJoined(t *testing.T) {
	eachText("a, \xff", 6, func(s string) {
		for _, by := range []byte{',', ' ', 'a', 0xff, 'b'} {
			parts := Split(s, by)
			if got := strings.Join(parts, string([]byte{by})); got != s {
				t.Errorf("Split(%q, %q) joined: %q", s, by, got)
			}
			if len(parts) != 1+strings.Count(s, string([]byte{by})) {
				t.Errorf("Split(%q, %q): %d parts", s, by, len(parts))
			}
			for _, part := range parts {
				if strings.IndexByte(part, by) >= 0 {
					t.Errorf("Split(%q, %q): part %q", s, by, part)
				}
			}
		}
	})
}

// P1.5: Lower of Lower is Lower.
func TestLowerTwice(t *testing.T) {
	eachText("aAzZ@[\x60{\xc9", 4, func(s string) {
		once := Lower(s)
		if Lower(once) != once || len(once) != len(s) {
			t.Errorf("Lower(%q) = %q, then %q", s, once, Lower(once))
		}
		if !Fold(s, once) {
			t.Errorf("Fold(%q, %q)", s, once)
		}
	})
	if once := Lower(allBytes()); Lower(once) != once {
		t.Errorf("Lower of all bytes, twice: %q", Lower(once))
	}
}

// P1.1 and P1.2: a trimmed text has the same words, joined ones are the same words again, and none holds a blank.
func TestWordsAgree(t *testing.T) {
	eachText("a\t \v\n", 6, func(s string) {
		words := Words(s)
		if !slices.Equal(Words(Trim(s)), words) || !slices.Equal(Words(strings.Join(words, " \r\f")), words) {
			t.Errorf("Words(%q) = %q", s, words)
		}
		for _, w := range words {
			if w == "" || strings.ContainsAny(w, "\t\n\f\r ") {
				t.Errorf("Words(%q): %q", s, w)
			}
		}
	})
}
