package lex_test

import (
	"math/rand"
	"reflect"
	"strings"
	"testing"

	"penance/api"
	"penance/lex"
)

var keys = strings.Fields("var stack proc skip do push reverse accept merge block exit if else choose par call")

var marks = strings.Fields(":= -> == != <= >= && || { } ( ) ; + - * / % < > !")

func word(s string, at int) api.Sign   { return api.Sign{Kind: api.SWord, Text: s, At: at} }
func number(s string, at int) api.Sign { return api.Sign{Kind: api.SNumber, Text: s, At: at} }
func mark(s string, at int) api.Sign   { return api.Sign{Kind: api.SMark, Text: s, At: at} }

func same(a, b []api.Sign) bool {
	return len(a) == len(b) && (len(a) == 0 || reflect.DeepEqual(a, b))
}

func TestP101SignsOfOrdinaryTexts(t *testing.T) {
	nines := strings.Repeat("9", 18)
	long := strings.Repeat("z", 20)
	for s, want := range map[string][]api.Sign{
		"":                      nil,
		"a1 <=2":                {word("a1", 0), mark("<=", 3), number("2", 5)},
		" \t\r\nx":              {word("x", 4)},
		"# only a remark":       nil,
		"#":                     nil,
		"##\n#\nx":              {word("x", 5)},
		"a#b\nc":                {word("a", 0), word("c", 4)},
		"a#b\rc\nd":             {word("a", 0), word("d", 6)},
		"a#b\r\nc":              {word("a", 0), word("c", 5)},
		"# \xff é € \nb":        {word("b", 12)},
		"a # \xe2\nb":           {word("a", 0), word("b", 6)},
		"a_1_":                  {word("a_1_", 0)},
		"12ab":                  {number("12", 0), word("ab", 2)},
		"ab12":                  {word("ab12", 0)},
		"0":                     {number("0", 0)},
		"0 0":                   {number("0", 0), number("0", 2)},
		"0a":                    {number("0", 0), word("a", 1)},
		"10":                    {number("10", 0)},
		nines:                   {number(nines, 0)},
		long:                    {word(long, 0)},
		"-->":                   {mark("-", 0), mark("->", 1)},
		"x:=y":                  {word("x", 0), mark(":=", 1), word("y", 3)},
		"&&&&":                  {mark("&&", 0), mark("&&", 2)},
		"proc do9":              {word("proc", 0), word("do9", 5)},
		"a\tb\rc\nd":            {word("a", 0), word("b", 2), word("c", 4), word("d", 6)},
		"{x}#}\n;":              {mark("{", 0), word("x", 1), mark("}", 2), mark(";", 6)},
		strings.Repeat(" ", 10): nil,
	} {
		l, at, e := lex.Signs(s)
		if e != api.OK || at != 0 || !same(l, want) {
			t.Errorf("P101: %q: %v, %d, %v; want %v", s, l, at, e, want)
		}
	}
}

func TestP101EachMark(t *testing.T) {
	for _, m := range marks {
		l, at, e := lex.Signs(" " + m + " a")
		if e != api.OK || at != 0 || !same(l, []api.Sign{mark(m, 1), word("a", len(m)+2)}) {
			t.Errorf("P101: %q: %v, %d, %v", m, l, at, e)
		}
	}
}

func TestP101Errors(t *testing.T) {
	for _, x := range []struct {
		s  string
		at int
		e  api.Errno
	}{
		{strings.Repeat("a", 21), 0, api.Limit},
		{"; " + strings.Repeat("a", 20) + "_", 2, api.Limit},
		{"b " + strings.Repeat("a", 4000), 0, api.Limit},
		{"b " + strings.Repeat("a", 3000), 2, api.Limit},
		{strings.Repeat("1", 19), 0, api.Limit},
		{"x" + " " + "0" + strings.Repeat("1", 18), 2, api.Limit},
		{"x" + " " + "0" + strings.Repeat("1", 17), 2, api.BadSign},
		{"01", 0, api.BadSign},
		{"1 00", 2, api.BadSign},
		{"<==", 2, api.BadSign},
		{"!==", 2, api.BadSign},
		{"a=b", 1, api.BadSign},
		{"a : = b", 2, api.BadSign},
		{":", 0, api.BadSign},
		{"&|", 0, api.BadSign},
		{"a\n|", 2, api.BadSign},
		{"aB", 1, api.BadSign},
		{"_", 0, api.BadSign},
		{"aé", 1, api.BadSign},
		{"é", 0, api.BadSign},
		{"ab\xff", 2, api.BadSign},
		{"a\x00", 1, api.BadSign},
		{"a\vb", 1, api.BadSign},
		{"a\fb", 1, api.BadSign},
		{"a\u00a0b", 1, api.BadSign},
		{"a.b", 1, api.BadSign},
		{"# x\n\"", 4, api.BadSign},
		{"= " + strings.Repeat("a", 21), 0, api.BadSign},
		{strings.Repeat("a", 21) + " =", 0, api.Limit},
		{strings.Repeat("\n", 4001), 0, api.Limit},
		{"x #" + strings.Repeat(" ", 3998), 0, api.Limit},
		{"=" + strings.Repeat(" ", 4000), 0, api.Limit},
	} {
		l, at, e := lex.Signs(x.s)
		if e != x.e || at != x.at || len(l) != 0 {
			t.Errorf("P101: %.40q: %v, %d, %v; want %d, %v", x.s, l, at, e, x.at, x.e)
		}
	}
}

func TestP101LongestText(t *testing.T) {
	for _, s := range []string{strings.Repeat("a ", 2000), strings.Repeat("+", 4000), "#" + strings.Repeat("=", 3999)} {
		if _, at, e := lex.Signs(s); e != api.OK || at != 0 {
			t.Errorf("P101: %.10q: %d, %v", s, at, e)
		}
	}
	if l, _, _ := lex.Signs(strings.Repeat("+", 4000)); len(l) != 4000 || l[3999] != mark("+", 3999) {
		t.Errorf("P101: %d signs", len(l))
	}
}

// Signs of what is put together from pieces are these pieces again.
func TestP101PiecesComeBack(t *testing.T) {
	r := rand.New(rand.NewSource(1))
	gaps := []string{" ", "\t", "\n", "\r", "  ", " # gap {\n", "#\n"}
	for range 2000 {
		var text strings.Builder
		var want []api.Sign
		for range r.Intn(30) {
			text.WriteString(gaps[r.Intn(len(gaps))])
			s := piece(r)
			s.At = text.Len()
			text.WriteString(s.Text)
			want = append(want, s)
		}
		l, at, e := lex.Signs(text.String())
		if e != api.OK || at != 0 || !same(l, want) {
			t.Fatalf("P101: %q: %v, %d, %v", text.String(), l, at, e)
		}
	}
}

func piece(r *rand.Rand) api.Sign {
	switch r.Intn(3) {
	case 0:
		b := []byte{byte('a' + r.Intn(26))}
		for range r.Intn(20) {
			b = append(b, "az09_"[r.Intn(5)])
		}
		return word(string(b), 0)
	case 1:
		b := []byte{byte('1' + r.Intn(9))}
		for range r.Intn(18) {
			b = append(b, byte('0'+r.Intn(10)))
		}
		return number(string(b), 0)
	}
	return mark(marks[r.Intn(len(marks))], 0)
}

// Of any bytes: no panic, and what is told stands in the text where it says.
func TestP101AnyBytes(t *testing.T) {
	r := rand.New(rand.NewSource(2))
	for range 20000 {
		b := make([]byte, r.Intn(12))
		for i := range b {
			b[i] = byte(r.Intn(256))
			if r.Intn(2) == 0 {
				b[i] = "a0_ #\n:=-><&|!;"[r.Intn(15)]
			}
		}
		s := string(b)
		l, at, e := lex.Signs(s)
		if e != api.OK && (len(l) != 0 || at < 0 || at >= len(s)) || e == api.OK && at != 0 {
			t.Fatalf("P4: %q: %v, %d, %v", s, l, at, e)
		}
		for _, x := range l {
			if !strings.HasPrefix(s[x.At:], x.Text) || x.Text == "" {
				t.Fatalf("P101: %q: %v", s, l)
			}
		}
		if lex.Name(s) && lex.Key(s) {
			t.Fatalf("P101: %q is both", s)
		}
	}
}

func TestP101Keys(t *testing.T) {
	for _, s := range keys {
		if !lex.Key(s) || lex.Name(s) {
			t.Errorf("P101: %s: Key %v, Name %v", s, lex.Key(s), lex.Name(s))
		}
		for _, other := range []string{s + "s", s + "_", s + "0", "x" + s} {
			if lex.Key(other) || !lex.Name(other) {
				t.Errorf("P101: %s: Key %v, Name %v", other, lex.Key(other), lex.Name(other))
			}
		}
		for _, other := range []string{strings.ToUpper(s), s + " ", " " + s, strings.Title(s)} {
			if lex.Key(other) || lex.Name(other) {
				t.Errorf("P101: %q: Key %v, Name %v", other, lex.Key(other), lex.Name(other))
			}
		}
	}
	for _, s := range []string{"while", "main", "wait", "set", "seq", ""} {
		if lex.Key(s) {
			t.Errorf("P101: Key of %q", s)
		}
	}
}

func TestP101Names(t *testing.T) {
	for s, want := range map[string]bool{
		"a": true, "z": true, "a0": true, "a9": true, "a_": true, "az": true, "main": true,
		strings.Repeat("a", 20): true, strings.Repeat("a", 21): false, strings.Repeat("a", 10000): false,
		"": false, "_": false, "0": false, "0a": false, "A": false, "aA": false, "a ": false, " a": false, "a\n": false, "a-": false,
		"`": false, "{": false, "a`": false, "a{": false, "a/": false, "a:": false, "é": false, "aé": false, "a\xff": false, "\xff": false, "a\x00": false,
	} {
		if lex.Name(s) != want {
			t.Errorf("P101: Name of %.30q is not %v", s, want)
		}
	}
}

func TestP2AnswersAreNew(t *testing.T) {
	a, _, _ := lex.Signs("a b c")
	b, _, _ := lex.Signs("a b c")
	for i := range a {
		a[i] = api.Sign{}
	}
	if !same(b, []api.Sign{word("a", 0), word("b", 2), word("c", 4)}) {
		t.Error("P2: two answers share memory")
	}
}
