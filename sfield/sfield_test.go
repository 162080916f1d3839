package sfield

import (
	"math"
	"reflect"
	"strconv"
	"strings"
	"testing"

	"glacis/api"
)

func integer(n int) api.Item     { return api.Item{Kind: api.SfInt, Int: n} }
func decimal(n int) api.Item     { return api.Item{Kind: api.SfDecimal, Int: n} }
func text(s string) api.Item     { return api.Item{Kind: api.SfText, Text: s} }
func token(s string) api.Item    { return api.Item{Kind: api.SfToken, Text: s} }
func sequence(s string) api.Item { return api.Item{Kind: api.SfBytes, Text: s} }
func boolean(n int) api.Item     { return api.Item{Kind: api.SfBool, Int: n} }

func with(x api.Item, l ...api.Param) api.Item {
	x.Params = l
	return x
}

func param(key string, x api.Item) api.Param {
	return api.Param{Key: key, Kind: x.Kind, Int: x.Int, Text: x.Text}
}

func flag(key string) api.Param { return param(key, boolean(1)) }

func single(x api.Item) api.Member { return api.Member{Item: x} }

func inner(items ...api.Item) api.Member { return api.Member{Inner: true, Items: items} }

func tailed(m api.Member, l ...api.Param) api.Member {
	m.Params = l
	return m
}

func keyed(key string, m api.Member) api.Member {
	m.Key = key
	return m
}

// plain writes an empty list as no list, so that the two are the same.
func plain(l []api.Member) []api.Member {
	var out []api.Member
	for _, m := range l {
		m.Item = plainItem(m.Item)
		var items []api.Item
		for _, x := range m.Items {
			items = append(items, plainItem(x))
		}
		m.Items = items
		m.Params = append([]api.Param(nil), m.Params...)
		out = append(out, m)
	}
	return out
}

func plainItem(x api.Item) api.Item {
	x.Params = append([]api.Param(nil), x.Params...)
	return x
}

func same(a, b []api.Member) bool { return reflect.DeepEqual(plain(a), plain(b)) }

func checkList(t *testing.T, s string, want ...api.Member) {
	t.Helper()
	if l, err := List(s); !same(l, want) || err != api.OK {
		t.Errorf("List(%q) = %v, %d, not %v", s, l, err, want)
	}
}

func checkDict(t *testing.T, s string, want ...api.Member) {
	t.Helper()
	if l, err := Dict(s); !same(l, want) || err != api.OK {
		t.Errorf("Dict(%q) = %v, %d, not %v", s, l, err, want)
	}
}

func checkNoList(t *testing.T, s string) {
	t.Helper()
	if l, err := List(s); len(l) != 0 || err != api.ErrSfForm {
		t.Errorf("List(%q) = %v, %d, not ErrSfForm", s, l, err)
	}
}

func checkNoDict(t *testing.T, s string) {
	t.Helper()
	if l, err := Dict(s); len(l) != 0 || err != api.ErrSfForm {
		t.Errorf("Dict(%q) = %v, %d, not ErrSfForm", s, l, err)
	}
}

// checkListText asks for a text that is also read as the members were (P6.4).
func checkListText(t *testing.T, want string, l ...api.Member) {
	t.Helper()
	if s, err := ListText(l); s != want || err != api.OK {
		t.Errorf("ListText(%v) = %q, %d, not %q", l, s, err, want)
	}
	checkList(t, want, l...)
}

func checkDictText(t *testing.T, want string, l ...api.Member) {
	t.Helper()
	if s, err := DictText(l); s != want || err != api.OK {
		t.Errorf("DictText(%v) = %q, %d, not %q", l, s, err, want)
	}
	checkDict(t, want, l...)
}

func checkNoListText(t *testing.T, l ...api.Member) {
	t.Helper()
	if s, err := ListText(l); s != "" || err != api.ErrSfForm {
		t.Errorf("ListText(%v) = %q, %d, not ErrSfForm", l, s, err)
	}
}

func checkNoDictText(t *testing.T, l ...api.Member) {
	t.Helper()
	if s, err := DictText(l); s != "" || err != api.ErrSfForm {
		t.Errorf("DictText(%v) = %q, %d, not ErrSfForm", l, s, err)
	}
}

// P6.1 to P6.3: the chapter's examples.
func TestExamples(t *testing.T) {
	a, b, e := single(token("a")), tailed(inner(token("b"), token("c")), flag("d")), single(text("e"))
	checkList(t, `a, (b c);d , "e"`, a, b, e)
	checkListText(t, `a, (b c);d, "e"`, a, b, e)
	x, y := keyed("a", inner(token("x"))), keyed("b", single(boolean(1)))
	checkDict(t, "a=1, b, a=(x)", x, y)
	checkDictText(t, "a=(x), b", x, y)
	for _, s := range []string{"a,", "a b", "(a", `(a"b")`} {
		checkNoList(t, s)
	}
	checkNoDict(t, "A=1")
}

// P6.1: a member that is an item, of each kind; what sfitem can't read is none.
func TestItems(t *testing.T) {
	for _, c := range []struct {
		s    string
		want api.Item
	}{
		{"1", integer(1)},
		{"-007", integer(-7)},
		{"1.50", decimal(1500)},
		{`"a, b"`, text("a, b")},
		{`"\",(\\"`, text(`",(\`)},
		{`"a=1;b"`, text("a=1;b")},
		{"tok/en:x", token("tok/en:x")},
		{":YQ==:", sequence("YQ==")},
		{"::", sequence("")},
		{"?0", boolean(0)},
		{"?1", boolean(1)},
		{"a;b", with(token("a"), flag("b"))},
		{"a;  b=1;c;b=2", with(token("a"), param("b", integer(2)), flag("c"))},
		{`1;a=";,)";b=?0`, with(integer(1), param("a", text(";,)")), param("b", boolean(0)))},
	} {
		checkList(t, c.s, single(c.want))
		checkList(t, "x,"+c.s+",y", single(token("x")), single(c.want), single(token("y")))
		checkList(t, "("+c.s+")", inner(c.want))
		checkList(t, "( "+c.s+"  "+c.s+" )", inner(c.want, c.want))
		checkDict(t, "k="+c.s, keyed("k", single(c.want)))
		checkDict(t, "k="+c.s+",m=("+c.s+")", keyed("k", single(c.want)), keyed("m", inner(c.want)))
	}
	for _, s := range []string{"-", "1.", "1.0000", "1000000000000000", `"a`, `"\a"`, "?", "?2", ":a", ":-:", "=", ";a", "a;", "a;A", "a;b=", "a;b=(c)", "@", "\x00", "\xff", "\u00e9"} {
		checkNoList(t, s)
		checkNoList(t, "a,"+s)
		checkNoList(t, "("+s+")")
		checkNoList(t, "(a "+s+")")
		checkNoDict(t, "k="+s)
		checkNoDict(t, "k=("+s+")")
		checkNoDict(t, "k=(a "+s+"),m")
	}
}

// P6.1: inner lists: their items, spaces and parameters.
func TestInnerLists(t *testing.T) {
	a, b, ab := token("a"), token("b"), inner(token("a"), token("b"))
	for _, c := range []struct {
		s    string
		want api.Member
	}{
		{"()", inner()},
		{"( )", inner()},
		{"(   )", inner()},
		{"();a", tailed(inner(), flag("a"))},
		{"(a)", inner(a)},
		{"( a)", inner(a)},
		{"(a )", inner(a)},
		{"(   a   )", inner(a)},
		{"(a b)", ab},
		{"(a    b)", ab},
		{"( a  b )", ab},
		{`("a" "b")`, inner(text("a"), text("b"))},
		{`(")" "(")`, inner(text(")"), text("("))},
		{"(1 2.5 ?0 :: * a)", inner(integer(1), decimal(2500), boolean(0), sequence(""), token("*"), a)},
		{"(a a)", inner(a, a)},
		{"(a;x b;y=1)", inner(with(a, flag("x")), with(b, param("y", integer(1))))},
		{"(a; x  b;  y)", inner(with(a, flag("x")), with(b, flag("y")))},
		{"(a;x=1;x=2)", inner(with(a, param("x", integer(2))))},
		{"(a b);x", tailed(ab, flag("x"))},
		{"(a b); x=?0;  y=\"(\"", tailed(ab, param("x", boolean(0)), param("y", text("(")))},
		{"(a b);x=1;y;x=2", tailed(ab, param("x", integer(2)), flag("y"))},
		{"(a;x);x=1", tailed(inner(with(a, flag("x"))), param("x", integer(1)))},
	} {
		checkList(t, c.s, c.want)
		checkList(t, "a,"+c.s+" ,b", single(a), c.want, single(b))
		checkDict(t, "k="+c.s, keyed("k", c.want))
		checkDict(t, "k="+c.s+"\t,\tm", keyed("k", c.want), keyed("m", single(boolean(1))))
	}
	for _, s := range []string{
		"(", "( ", ")", "(a", "(a ", "(a b", "(a;", "(a;x", "(a))", "()()", "(a)(b)", "(a)b", "(a) b", "a(b)", "a (b)",
		"((a))", "(())", "(a (b))", "(a,b)", "(a, b)", "(,)", "(a,)", "(;x)", "(a ;x)", "(a);", "(a);X", "(a) ;x", "(a);x=", "(a);x=(b)", "(a);x =1", "(a)=1",
		"(\ta)", "(a\t)", "(a\tb)", "(a \tb)", "(a\t b)", "(\t)", "(\n)", "(a\nb)", "(a\u00a0b)", "(\xff)",
		`(a"b")`, `("a""b")`, `("a"b)`, "(1a)", "(1:a:)", "(:a::b:)", "(?1?0)", "(?1a)", "(1\"a\")", "(a=1)",
	} {
		checkNoList(t, s)
		checkNoList(t, "a,"+s)
		checkNoList(t, s+",a")
		checkNoDict(t, "k="+s)
		checkNoDict(t, "k="+s+",m")
		checkNoDict(t, "m,k="+s)
	}
}

// P6.2: spaces at a field's ends, and the empty string.
func TestEnds(t *testing.T) {
	a, k := single(token("a")), keyed("a", single(boolean(1)))
	for _, s := range []string{"", " ", "  ", strings.Repeat(" ", api.MaxField)} {
		checkList(t, s)
		checkDict(t, s)
	}
	for _, s := range []string{"a", " a", "a ", "  a  ", "a\t", "a \t", "a\t ", "a \t \t ", " a\t\t"} {
		checkList(t, s, a)
		checkDict(t, s, k)
	}
	for _, s := range []string{"\t", " \t", "\t ", " \t ", "\ta", " \ta", "\t a", "\na", "a\n", "a\r", "a\v", "a\x00", "\x00", "a\u00a0", "\u2003a", "a\xff", "a \xff"} {
		checkNoList(t, s)
		checkNoDict(t, s)
	}
}

// P6.2: commas, and the spaces and tabs before and after them.
func TestCommas(t *testing.T) {
	a, b := single(token("a")), single(token("b"))
	yes := single(boolean(1))
	for _, before := range []string{"", " ", "\t", " \t", "\t \t  "} {
		for _, after := range []string{"", " ", "\t", "\t ", "  \t\t "} {
			for _, last := range []string{"", " ", "\t", " \t"} {
				checkList(t, "a"+before+","+after+"b"+last, a, b)
				checkList(t, "(a)"+before+","+after+"(b);x"+last, inner(token("a")), tailed(inner(token("b")), flag("x")))
				checkDict(t, "a"+before+","+after+"b"+last, keyed("a", yes), keyed("b", yes))
				checkDict(t, "a=(a)"+before+","+after+"b=b"+last, keyed("a", inner(token("a"))), keyed("b", b))
				for _, s := range []string{before + "," + after + last, before + "," + after + "a" + last, "a" + before + "," + after + last, "a" + before + "," + after + "," + last + "b"} {
					checkNoList(t, s)
					checkNoDict(t, s)
				}
			}
		}
	}
	checkList(t, "a,a,b,a", a, a, b, a)
	for _, s := range []string{"a b", "a\tb", "a \t b", "a;b c", "a, b c", "a b, c", "a;;b", "a ;b", "a; b ;c", "a\n,b", "a,\nb", "a;\tb", "a\x00,b", "a,b,", "a,b\t,\t"} {
		checkNoList(t, s)
		checkNoDict(t, s)
	}
}

// P6.2: a dictionary's keys, with and without a value.
func TestKeys(t *testing.T) {
	yes := single(boolean(1))
	for _, key := range []string{"a", "*", "abc", "a1", "a_-.*", "*a", "*-", "z9.z"} {
		checkDict(t, key, keyed(key, yes))
		checkDict(t, key+"=1", keyed(key, single(integer(1))))
		checkDict(t, key+"=()", keyed(key, inner()))
		checkDict(t, key+";x=1", keyed(key, single(with(boolean(1), param("x", integer(1))))))
		checkDict(t, key+"; x;  y=a", keyed(key, single(with(boolean(1), flag("x"), param("y", token("a"))))))
		checkDict(t, key+"=?1;x", keyed(key, single(with(boolean(1), flag("x")))))
		checkDict(t, key+"=?0", keyed(key, single(boolean(0))))
	}
	checkDict(t, "a,b;x,c=1;y,d=(1);z", keyed("a", yes), keyed("b", single(with(boolean(1), flag("x")))), keyed("c", single(with(integer(1), flag("y")))), keyed("d", tailed(inner(integer(1)), flag("z"))))
	for _, s := range []string{
		"A", "A=1", "aB", "aB=1", "1", "1=a", "-", "-a=1", "_=1", ".=1", "=", "=1", "a=", "a=,b", "a= 1", "a =1", "a = 1", "a\t=1", "a=\t1", "a==1", "a=1=2", "a=b=c",
		"a;", "a;=1", "a;x=", "a;X", "a;x=(1)", "a;x =1", "a;x= 1", "a ;x", "a/b=1", "a:b", `"a"=1`, `"a"`, "(a)", "()", "?1", "a(b)", "a b=1", "a=1 b=2", "a=1;", "a=1 ;x", "\u00e9=1", "a\xff=1", "a\x00",
	} {
		checkNoDict(t, s)
		checkNoDict(t, "k,"+s)
		checkNoDict(t, s+",k")
	}
}

// P6.2: the last member of a key counts, where the first one stood.
func TestKeyTwice(t *testing.T) {
	a, b, c := keyed("a", single(integer(1))), keyed("b", single(integer(2))), keyed("c", single(integer(3)))
	checkDict(t, "a=1,a=1", a)
	checkDict(t, "a=9,a=1", a)
	checkDict(t, "a,a=1", a)
	checkDict(t, "a=9;x,a=1", a)
	checkDict(t, "a=(9);x,a=1", a)
	checkDict(t, "a=9,b=2,a=1", a, b)
	checkDict(t, "a=9,b=9,c=9,b=2,a=1,c=3", a, b, c)
	checkDict(t, "c=9,c=8,b=2,c=3,a=1", c, b, a)
	checkDict(t, "b=9,b=8,b=7,a=1,b=2", b, a)
	checkDict(t, "a=9,a", keyed("a", single(boolean(1))))
	checkDict(t, "a=9,b=2,a;x", keyed("a", single(with(boolean(1), flag("x")))), b)
	checkDict(t, "a=9,b=2,a=();x", keyed("a", tailed(inner(), flag("x"))), b)
	checkDict(t, "a=1,*=1,a*=1", a, keyed("*", single(integer(1))), keyed("a*", single(integer(1))))
	for _, s := range []string{"a=(,a=1", "a=,a=1", "a=1,a=", "a=1,a=(", "a,a,", "a,A"} {
		checkNoDict(t, s)
	}
}

// P6.2: a field of MaxField bytes is read, and one of a byte more is not, whatever the bytes are.
func TestLimit(t *testing.T) {
	const most = api.MaxField
	long := strings.Repeat("a", most)
	checkList(t, long, single(token(long)))
	checkNoList(t, long+"a")
	checkDict(t, long, keyed(long, single(boolean(1))))
	checkNoDict(t, long+"a")
	for _, fill := range []string{" ", "\t"} {
		checkList(t, "a"+strings.Repeat(fill, most-1), single(token("a")))
		checkNoList(t, "a"+strings.Repeat(fill, most))
		checkDict(t, "a"+strings.Repeat(fill, most-1), keyed("a", single(boolean(1))))
		checkNoDict(t, "a"+strings.Repeat(fill, most))
	}
	checkList(t, strings.Repeat(" ", most-1)+"a", single(token("a")))
	checkNoList(t, strings.Repeat(" ", most)+"a")
	checkNoDict(t, strings.Repeat(" ", most)+"a")
	checkNoList(t, strings.Repeat(" ", most+1))
	checkNoDict(t, strings.Repeat(" ", most+1))
	checkList(t, "("+strings.Repeat(" ", most-2)+")", inner())
	checkNoList(t, "("+strings.Repeat(" ", most-1)+")")
	if l, err := List(strings.Repeat("1,", most/2-1) + "12"); len(l) != most/2 || err != api.OK {
		t.Errorf("%d members, %d", len(l), err)
	}
	if l, err := Dict(strings.Repeat("a,", most/2-1) + "a "); len(l) != 1 || err != api.OK {
		t.Errorf("%d members, %d", len(l), err)
	}
}

// P6.3: the texts of members, in a list and in a dictionary; P6.4: what they are read as.
func TestTexts(t *testing.T) {
	checkListText(t, "")
	checkDictText(t, "")
	for _, c := range []struct {
		m    api.Member
		want string
	}{
		{single(integer(0)), "0"},
		{single(integer(-7)), "-7"},
		{single(decimal(-12500)), "-12.5"},
		{single(decimal(0)), "0.0"},
		{single(text("")), `""`},
		{single(text(`a", "\`)), `"a\", \"\\"`},
		{single(token("*a/b")), "*a/b"},
		{single(sequence("")), "::"},
		{single(sequence("a+/=")), ":a+/=:"},
		{single(boolean(0)), "?0"},
		{single(with(boolean(0), flag("x"))), "?0;x"},
		{single(with(integer(1), param("x", integer(1)))), "1;x=1"},
		{single(with(token("a"), flag("x"), param("y", boolean(0)), param("*", text(";")))), `a;x;y=?0;*=";"`},
		{inner(), "()"},
		{inner(boolean(1)), "(?1)"},
		{inner(token("a"), token("b"), token("a")), "(a b a)"},
		{inner(text(" "), text(")")), `(" " ")")`},
		{inner(with(token("a"), flag("x")), with(integer(1), param("y", decimal(500)))), "(a;x 1;y=0.5)"},
		{tailed(inner(), flag("x")), "();x"},
		{tailed(inner(with(boolean(1), flag("x"))), param("x", boolean(0)), flag("y")), "(?1;x);x=?0;y"},
	} {
		checkListText(t, c.want, c.m)
		checkListText(t, c.want+", a, "+c.want, c.m, single(token("a")), c.m)
		checkDictText(t, "k="+c.want, keyed("k", c.m))
		checkDictText(t, "z, k="+c.want+", a="+c.want, keyed("z", single(boolean(1))), keyed("k", c.m), keyed("a", c.m))
	}
}

// P6.3: true is left out in a dictionary, and only there; an inner list of it is another thing.
func TestTrueTexts(t *testing.T) {
	yes, more := single(boolean(1)), single(with(boolean(1), flag("x"), param("y", integer(1))))
	checkListText(t, "?1, ?1;x;y=1", yes, more)
	checkDictText(t, "a, b;x;y=1", keyed("a", yes), keyed("b", more))
	checkDictText(t, "a=(?1), b=?0", keyed("a", inner(boolean(1))), keyed("b", single(boolean(0))))
	checkDictText(t, "a=1, b=0.001", keyed("a", single(integer(1))), keyed("b", single(decimal(1))))
}

// P6.3: empty lists that are not nil are empty fields.
func TestEmptyFields(t *testing.T) {
	x := api.Member{Item: api.Item{Kind: api.SfToken, Text: "a", Params: []api.Param{}}, Items: []api.Item{}, Params: []api.Param{}}
	y := api.Member{Inner: true, Item: api.Item{Params: []api.Param{}}, Items: []api.Item{}, Params: []api.Param{}}
	checkListText(t, "a, ()", x, y)
	checkDictText(t, "a=a, b=()", keyed("a", x), keyed("b", y))
	if s, err := ListText([]api.Member{}); s != "" || err != api.OK {
		t.Errorf("ListText of nothing = %q, %d", s, err)
	}
	if s, err := DictText([]api.Member{}); s != "" || err != api.OK {
		t.Errorf("DictText of nothing = %q, %d", s, err)
	}
}

// invalid are members, without a key, that neither a list nor a dictionary may have.
func invalid() []api.Member {
	bad := []api.Item{
		{}, {Kind: -1}, {Kind: 7}, {Kind: math.MaxInt}, {Kind: math.MinInt}, integer(1000000000000000), decimal(-1000000000000000),
		text("\n"), text("\x7f"), token(""), token("a b"), token("1"), token("a,"), sequence(":"), sequence("a b"), boolean(2), boolean(-1), integer(math.MinInt),
		{Kind: api.SfBool, Int: 1, Text: "x"}, {Kind: api.SfInt, Text: "1"}, {Kind: api.SfToken, Int: 1, Text: "a"},
		with(token("a"), flag("A")), with(token("a"), flag("")), with(token("a"), flag("x"), flag("x")), with(boolean(1), flag("x"), flag("x")), with(boolean(1), param("x", boolean(2))), with(integer(1), param("x", api.Item{})),
	}
	var l []api.Member
	for _, x := range bad {
		l = append(l, single(x), inner(x), inner(token("a"), x), inner(x, token("a")), tailed(inner(x), flag("x")))
	}
	for _, p := range [][]api.Param{{{}}, {flag("A")}, {flag("")}, {flag("a b")}, {flag("x"), flag("x")}, {flag("x"), flag("y"), param("x", integer(1))}, {param("x", api.Item{})}, {param("x", boolean(2))}, {param("x", text("\x00"))}} {
		l = append(l, tailed(inner(), p...), tailed(inner(token("a")), p...))
	}
	return append(l, withSurplus()...)
}

// withSurplus are members that would be valid but for a field that they should not have.
func withSurplus() []api.Member {
	a := token("a")
	l := []api.Member{
		{Item: a, Items: []api.Item{a}},
		{Item: a, Items: []api.Item{{}}},
		{Item: a, Params: []api.Param{flag("x")}},
		{Item: a, Params: []api.Param{{}}},
		{Item: boolean(1), Params: []api.Param{flag("x")}},
		{Item: boolean(1), Items: []api.Item{a}},
		{Items: []api.Item{a}},
		{Params: []api.Param{flag("x")}},
	}
	for _, x := range []api.Item{a, boolean(0), boolean(1), integer(0), {Kind: -1}, {Kind: 7}, {Int: 1}, {Int: -1}, {Text: "a"}, {Params: []api.Param{flag("x")}}, {Params: []api.Param{{}}}} {
		l = append(l, api.Member{Inner: true, Item: x}, api.Member{Inner: true, Item: x, Items: []api.Item{a}}, api.Member{Inner: true, Item: x, Params: []api.Param{flag("x")}})
	}
	return l
}

// P6.3: what is not valid has no text, alone or among others.
func TestNoTexts(t *testing.T) {
	a, b := single(token("a")), single(token("b"))
	for _, m := range invalid() {
		checkNoListText(t, m)
		checkNoListText(t, m, a)
		checkNoListText(t, a, m)
		checkNoListText(t, a, m, b)
		checkNoDictText(t, keyed("k", m))
		checkNoDictText(t, keyed("k", m), keyed("a", a))
		checkNoDictText(t, keyed("a", a), keyed("k", m))
		checkNoDictText(t, keyed("a", a), keyed("k", m), keyed("b", b))
	}
}

// P6.3: a key in a list, and in a dictionary what is no key, or comes twice.
func TestNoTextsByKey(t *testing.T) {
	values := []api.Member{single(token("a")), single(boolean(1)), single(integer(0)), inner(), tailed(inner(token("a")), flag("x"))}
	for i, m := range values {
		for _, key := range []string{"a", "*", "A", " ", "a b", "\x00"} {
			checkNoListText(t, keyed(key, m))
			checkNoListText(t, m, keyed(key, m))
		}
		for _, key := range []string{"", "A", "1", "_", "-", ".", " a", "a ", "aB", "a=", "a=1", "a;", "a;x", "a,", "a,b", "=", "a/b", "a\x00", "\u00e9", "a\u00e9", "\xff"} {
			checkNoDictText(t, keyed(key, m))
			checkNoDictText(t, keyed("a", m), keyed(key, m))
			checkNoDictText(t, keyed(key, m), keyed("a", m))
		}
		for _, other := range values {
			checkNoDictText(t, keyed("a", m), keyed("a", other))
			checkNoDictText(t, keyed("a", m), keyed("b", other), keyed("a", values[i]))
			checkNoDictText(t, keyed("b", m), keyed("a", other), keyed("a", m), keyed("c", m))
		}
	}
}

// R1, P6.3: a text may be longer than a field that is read, and many members take no time that grows with their square.
func TestLongTexts(t *testing.T) {
	const many = 100000
	var list, dict []api.Member
	var want strings.Builder
	for i := range many {
		list = append(list, single(integer(i)))
		dict = append(dict, keyed("k"+strconv.Itoa(i), single(boolean(1))))
		want.WriteString(", " + strconv.Itoa(i))
	}
	if s, err := ListText(list); s != want.String()[2:] || err != api.OK {
		t.Errorf("a list's text has %d bytes, %d", len(s), err)
	}
	if s, err := DictText(dict); s != strings.ReplaceAll(want.String(), ", ", ", k")[2:] || err != api.OK {
		t.Errorf("a dictionary's text has %d bytes, %d", len(s), err)
	}
	checkNoDictText(t, append(dict[:3000:3000], dict[0])...)
	long := strings.Repeat("a", api.MaxField+1)
	if s, err := ListText([]api.Member{single(token(long))}); s != long || err != api.OK {
		t.Errorf("a long text has %d bytes, %d", len(s), err)
	}
	checkNoList(t, strings.Repeat("(", many))
	checkNoList(t, strings.Repeat("a,", many)+"a")
}

// R4: what is handed in stays as it is, and an answer is nobody else's.
func TestNothingShared(t *testing.T) {
	make1 := func() []api.Member {
		return []api.Member{keyed("a", single(with(token("t"), flag("x"), flag("y")))), keyed("b", tailed(inner(with(integer(1), flag("x")), token("u")), flag("z"))), {}}
	}
	room := make1()
	if s, err := DictText(room[:2]); s != "a=t;x;y, b=(1;x u);z" || err != api.OK || !reflect.DeepEqual(room, make1()) {
		t.Errorf("DictText = %q, %d; then %v", s, err, room)
	}
	if _, err := ListText(room); err != api.ErrSfForm || !reflect.DeepEqual(room, make1()) {
		t.Errorf("ListText: %d; then %v", err, room)
	}
	first, _ := Dict("b=(1;x u);z, a=t;x;y, b=(1;x u);z")
	second, _ := Dict("b=(1;x u);z, a=t;x;y, b=(1;x u);z")
	want := []api.Member{make1()[1], make1()[0]}
	spoil(first)
	if !same(second, want) {
		t.Errorf("one answer changed with the other: %v", second)
	}
}

// spoil writes over the capacity of every list of an answer, and asks nothing of it.
func spoil(l []api.Member) {
	for _, m := range l {
		for _, x := range m.Items {
			_ = append(x.Params[:0], param("q", integer(9)))
		}
		_ = append(m.Items[:0], integer(9))
		_ = append(m.Params[:0], param("q", integer(9)))
		_ = append(m.Item.Params[:0], param("q", integer(9)))
	}
	_ = append(l[:0], api.Member{Key: "q"})
}

// R4: no two lists of one answer share memory, up to their capacity.
func TestListsApart(t *testing.T) {
	const s = "(a;x;y;z b;x c);x;y;z, (d e f;x);x, g;x;y;z, (h);x, i;x"
	l, err := List(s)
	want, _ := List(s)
	if err != api.OK {
		t.Fatalf("List(%q): %d", s, err)
	}
	for i := range l {
		_ = append(l[i].Items, integer(9), integer(9))
		_ = append(l[i].Params, flag("q"), flag("q"))
		_ = append(l[i].Item.Params, flag("q"), flag("q"))
		for _, x := range l[i].Items {
			_ = append(x.Params, flag("q"), flag("q"))
		}
	}
	if !same(l, want) {
		t.Errorf("lists share memory: %v", l)
	}
}

// R4: what is ranged over may be left early and used again.
func TestMembersAgain(t *testing.T) {
	seq := members("a, b, c d", readMember)
	for range 3 {
		for m, err := range seq {
			if m.Item.Text != "a" || err != api.OK {
				t.Errorf("%v, %d", m, err)
			}
			break
		}
		var told []string
		for m, err := range seq {
			told = append(told, m.Item.Text+strconv.Itoa(int(err)))
		}
		if got := strings.Join(told, " "); got != "a0 b0 50" {
			t.Errorf("told %q", got)
		}
	}
}
