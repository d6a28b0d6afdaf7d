package lexer_test

import (
	"fmt"
	"math/rand"
	"reflect"
	"regexp"
	"slices"
	"strings"
	"testing"

	"metrolab/api"
	"metrolab/lexer"
)

// expect compares results; nil and empty slices are printed alike.
func expect(t *testing.T, what string, got, want []any) {
	t.Helper()
	text := func(l []any) string { return fmt.Sprintf("%v, that is %q", l, l) }
	if g, w := text(got), text(want); g != w {
		t.Errorf("%s: %.500s instead of %.500s", what, g, w)
	}
}

func of(kind int, texts ...string) []api.Token {
	var l []api.Token
	for _, s := range texts {
		l = append(l, api.Token{Kind: kind, Text: s})
	}
	return l
}

func word(texts ...string) []api.Token   { return of(api.TokenWord, texts...) }
func number(texts ...string) []api.Token { return of(api.TokenNumber, texts...) }
func sign(texts ...string) []api.Token   { return of(api.TokenSign, texts...) }
func end() []api.Token                   { return of(api.TokenEnd, "") }

const signs = ",;:()[]=+-*/<>|#"

var (
	isWord   = regexp.MustCompile(`^[A-Za-z][A-Za-z0-9_]*$`)
	isNumber = regexp.MustCompile(`^(0|[1-9][0-9]*)(\.[0-9]+)?$`)
	piece    = regexp.MustCompile(`^([A-Za-z][A-Za-z0-9_]*|[0-9]+(\.[0-9]+)?|[][,;:()=+*/<>|#-])`)
)

// formed returns the error of a word or a number by its definition.
func formed(s string, right *regexp.Regexp) api.Errno {
	switch {
	case !right.MatchString(s):
		return api.ErrForm
	case len(s) > 24:
		return api.ErrLong
	}
	return api.OK
}

// model scans a text by the definition.
func model(text string) ([]api.Token, int, api.Errno) {
	if len(text) > 4096 {
		return nil, 0, api.ErrLong
	}
	var l []api.Token
	for at := 0; at < len(text); {
		if text[at] == ' ' {
			at++
			continue
		}
		s := piece.FindString(text[at:])
		token, e := api.Token{Text: s, At: at}, api.OK
		switch {
		case s == "":
			e = api.ErrSyntax
		case strings.Contains(signs, s):
			token.Kind = api.TokenSign
		case s[0] >= '0' && s[0] <= '9':
			token.Kind, e = api.TokenNumber, formed(s, isNumber)
		default:
			token.Kind, e = api.TokenWord, formed(s, isWord)
		}
		if e != api.OK {
			return nil, at, e
		}
		l = append(l, token)
		at += len(s)
	}
	return append(l, api.Token{Kind: api.TokenEnd, At: len(text)}), 0, api.OK
}

// normal returns the normal text of right tokens by the definition.
func normal(l []api.Token) string {
	text, before := "", ""
	for _, token := range l {
		pair := before + string("wns "[token.Kind])
		if pair == "ww" || pair == "wn" || pair == "nn" {
			text += " "
		}
		text += token.Text
		before = pair[len(pair)-1:]
	}
	return text
}

// P14.1

func TestWordAndNumber(t *testing.T) {
	name, digits := strings.Repeat("x_9", 8), strings.Repeat("9", 24)
	for _, x := range []struct {
		s    string
		e, f api.Errno
	}{
		{"", api.ErrForm, api.ErrForm}, {"a", api.OK, api.ErrForm}, {"z", api.OK, api.ErrForm}, {"A", api.OK, api.ErrForm}, {"Z", api.OK, api.ErrForm}, {"H7", api.OK, api.ErrForm}, {"a_", api.OK, api.ErrForm}, {"_a", api.ErrForm, api.ErrForm}, {"7H", api.ErrForm, api.ErrForm}, {"a b", api.ErrForm, api.ErrForm}, {" a", api.ErrForm, api.ErrForm}, {"a ", api.ErrForm, api.ErrForm}, {"a-b", api.ErrForm, api.ErrForm}, {"\u00e4", api.ErrForm, api.ErrForm}, {"a\u00e4", api.ErrForm, api.ErrForm}, {"a\x00", api.ErrForm, api.ErrForm}, {"@", api.ErrForm, api.ErrForm}, {"a`", api.ErrForm, api.ErrForm}, {"a{", api.ErrForm, api.ErrForm}, {"a.b", api.ErrForm, api.ErrForm}, {"+", api.ErrForm, api.ErrForm},
		{"0", api.ErrForm, api.OK}, {"9", api.ErrForm, api.OK}, {"10", api.ErrForm, api.OK}, {"0.0", api.ErrForm, api.OK}, {"10.00", api.ErrForm, api.OK}, {"00", api.ErrForm, api.ErrForm}, {"00.5", api.ErrForm, api.ErrForm}, {"05", api.ErrForm, api.ErrForm}, {"5.", api.ErrForm, api.ErrForm}, {".5", api.ErrForm, api.ErrForm}, {".", api.ErrForm, api.ErrForm}, {"1.2.3", api.ErrForm, api.ErrForm}, {"-5", api.ErrForm, api.ErrForm}, {"+5", api.ErrForm, api.ErrForm}, {"5 ", api.ErrForm, api.ErrForm}, {" 5", api.ErrForm, api.ErrForm}, {"1e5", api.ErrForm, api.ErrForm}, {"1/2", api.ErrForm, api.ErrForm}, {"\u0665", api.ErrForm, api.ErrForm},
		{name, api.OK, api.ErrForm}, {name + "_", api.ErrLong, api.ErrForm}, {name + "-", api.ErrForm, api.ErrForm}, {strings.Repeat("a", 1<<20), api.ErrLong, api.ErrForm},
		{digits, api.ErrForm, api.OK}, {digits + "0", api.ErrForm, api.ErrLong}, {"0." + digits[2:], api.ErrForm, api.OK}, {"0." + digits[1:], api.ErrForm, api.ErrLong}, {digits + ".", api.ErrForm, api.ErrForm}, {"0" + digits, api.ErrForm, api.ErrForm}, {digits + ".5", api.ErrForm, api.ErrLong}, {strings.Repeat("0", 25), api.ErrForm, api.ErrForm},
	} {
		expect(t, fmt.Sprintf("%.50q", x.s), []any{lexer.Word(x.s), lexer.Number(x.s)}, []any{x.e, x.f})
		expect(t, fmt.Sprintf("the model of %.50q", x.s), []any{formed(x.s, isWord), formed(x.s, isNumber)}, []any{x.e, x.f})
	}
}

func TestScan(t *testing.T) {
	l, at, e := lexer.Scan("hole A 25 H7/g6")
	want := []api.Token{{Kind: api.TokenWord, Text: "hole"}, {Kind: api.TokenWord, Text: "A", At: 5}, {Kind: api.TokenNumber, Text: "25", At: 7}, {Kind: api.TokenWord, Text: "H7", At: 10}, {Kind: api.TokenSign, Text: "/", At: 12}, {Kind: api.TokenWord, Text: "g6", At: 13}, {Kind: api.TokenEnd, At: 15}}
	expect(t, "example", []any{l, at, e}, []any{want, 0, api.OK})
	name, digits := strings.Repeat("a", 25), strings.Repeat("1", 25)
	for _, x := range []struct {
		text string
		at   int
		e    api.Errno
	}{
		{"a 01", 2, api.ErrForm}, {"a ?", 2, api.ErrSyntax}, {"3.", 1, api.ErrSyntax}, {".5", 0, api.ErrSyntax}, {"5. 5", 1, api.ErrSyntax}, {"5 .5", 2, api.ErrSyntax}, {"5.a", 1, api.ErrSyntax}, {"a.5", 1, api.ErrSyntax}, {"1.5.5", 3, api.ErrSyntax}, {"_", 0, api.ErrSyntax}, {"5_", 1, api.ErrSyntax}, {"a\t", 1, api.ErrSyntax}, {"\n", 0, api.ErrSyntax}, {"a\x00b", 1, api.ErrSyntax}, {"a\u00a0b", 1, api.ErrSyntax}, {"\u00e9", 0, api.ErrSyntax}, {"(\xff)", 1, api.ErrSyntax},
		{"00.", 0, api.ErrForm}, {"00a", 0, api.ErrForm}, {"a5 05", 3, api.ErrForm}, {"(007)", 1, api.ErrForm}, {"1.05 0.10 00.1", 10, api.ErrForm},
		{"b " + name, 2, api.ErrLong}, {name + " ?", 0, api.ErrLong}, {"? " + name, 0, api.ErrSyntax}, {"b " + digits, 2, api.ErrLong}, {"(0" + digits, 1, api.ErrForm}, {digits + ".", 0, api.ErrLong}, {digits[1:] + ".", 24, api.ErrSyntax}, {digits[1:] + ".5", 0, api.ErrLong}, {digits[1:] + name[1:], 0, api.OK}, {"0." + digits, 0, api.ErrLong}, {"00." + digits, 0, api.ErrForm},
		{strings.Repeat(" ", 4096), 0, api.OK}, {strings.Repeat(" ", 4097), 0, api.ErrLong}, {strings.Repeat("(", 4096), 0, api.OK}, {strings.Repeat("?", 4097), 0, api.ErrLong}, {strings.Repeat("(", 4095) + "?", 4095, api.ErrSyntax}, {strings.Repeat("a", 1<<20), 0, api.ErrLong},
	} {
		l, at, e := lexer.Scan(x.text)
		expect(t, fmt.Sprintf("Scan(%.50q)", x.text), []any{at, e}, []any{x.at, x.e})
		if e != api.OK && len(l) > 0 {
			t.Errorf("Scan(%.50q): %v beside an error", x.text, l)
		}
		compare(t, x.text)
	}
	for c := range 256 {
		compare(t, string([]byte{byte(c)}))
		compare(t, string([]byte{'a', byte(c), 'b'}))
		compare(t, string([]byte{'5', byte(c), '5'}))
	}
}

// compare compares the tokens and the normal text of a text with the model, and returns the error.
func compare(t *testing.T, text string) api.Errno {
	t.Helper()
	want, place, error := model(text)
	l, at, e := lexer.Scan(text)
	expect(t, fmt.Sprintf("Scan(%.50q)", text), []any{l, at, e}, []any{want, place, error})
	s, at, e := lexer.Normal(text)
	expect(t, fmt.Sprintf("Normal(%.50q)", text), []any{s, at, e}, []any{normal(want), place, error})
	if e == api.OK {
		consequences(t, text, l, s)
	}
	return error
}

// consequences checks P14.3 for the tokens and the normal text of a text.
func consequences(t *testing.T, text string, l []api.Token, normal string) {
	t.Helper()
	at := 0
	for _, token := range l {
		between := strings.Trim(text[at:token.At], " ")
		at = token.At + len(token.Text)
		if between != "" || text[token.At:at] != token.Text {
			t.Errorf("%.50q: the token %v is not there", text, token)
		}
	}
	if at != len(text) {
		t.Errorf("%.50q: the end is at %d", text, at)
	}
	again, _, e := lexer.Scan(normal)
	same := slices.EqualFunc(l, again, func(a, b api.Token) bool { return a.Kind == b.Kind && a.Text == b.Text })
	twice, _, _ := lexer.Normal(normal)
	if !same || e != api.OK || twice != normal {
		t.Errorf("%.50q: the normal text %.50q has the tokens %v, error %d, and the normal text %.50q", text, normal, again, e, twice)
	}
	for _, tokens := range [][]api.Token{l, l[:len(l)-1]} {
		if joined, e := lexer.Join(tokens); joined != normal || e != api.OK {
			t.Errorf("%.50q: the tokens make %.50q, error %d", text, joined, e)
		}
	}
}

// P14.1 and P14.3: all short texts of some bytes, and random texts of longer runs.
func TestTexts(t *testing.T) {
	var all func(s string, more int)
	all = func(s string, more int) {
		compare(t, s)
		for _, c := range "a_01. (" {
			if more > 0 {
				all(s+string(c), more-1)
			}
		}
	}
	all("", 5)
	r := rand.New(rand.NewSource(14))
	found := map[api.Errno]int{}
	for range 20000 {
		text := ""
		for range r.Intn(12) {
			c := []string{"a", "Z", "_", "0", "7", ".", ".5", " ", " ", "x1", "20", string(signs[r.Intn(len(signs))]), string(rune(r.Intn(256)))}[r.Intn(13-min(1, r.Intn(9)))]
			text += strings.Repeat(c, 1+r.Intn(1+r.Intn(26)))
		}
		found[compare(t, text)]++
	}
	for _, e := range []api.Errno{api.OK, api.ErrForm, api.ErrSyntax, api.ErrLong} {
		if found[e] < 500 {
			t.Errorf("only %d texts with error %d", found[e], e)
		}
	}
}

func TestJoin(t *testing.T) {
	a, five, name := word("a"), number("5"), strings.Repeat("a", 24)
	for _, x := range []struct {
		l []api.Token
		s string
		e api.Errno
	}{
		{nil, "", api.OK}, {end(), "", api.OK}, {word("a", "b"), "a b", api.OK}, {number("5", "6"), "5 6", api.OK}, {slices.Concat(a, five), "a 5", api.OK}, {slices.Concat(five, a), "5a", api.OK}, {slices.Concat(five, a, end()), "5a", api.OK},
		{slices.Concat(a, sign("("), a, sign(")"), a, sign("-"), five, sign("+"), five, sign("*", "/"), a), "a(a)a-5+5*/a", api.OK}, {slices.Concat(word("hole", "A"), number("25"), word("H7"), sign("/"), word("g6"), end()), "hole A 25H7/g6", api.OK},
		{[]api.Token{{Kind: api.TokenWord, Text: "a", At: 99}, {Kind: api.TokenWord, Text: "b", At: -1}, {Kind: api.TokenEnd, At: 7}}, "a b", api.OK},
		{of(4, "a"), "", api.ErrArg}, {of(-1, "a"), "", api.ErrArg}, {of(4, ""), "", api.ErrArg}, {of(1<<40, ""), "", api.ErrArg},
		{slices.Concat(end(), end()), "", api.ErrOrder}, {slices.Concat(of(api.TokenEnd, "x"), a), "", api.ErrOrder}, {slices.Concat(end(), of(4, "")), "", api.ErrOrder}, {of(api.TokenEnd, "x"), "", api.ErrForm}, {slices.Concat(a, of(api.TokenEnd, " ")), "", api.ErrForm},
		{word(""), "", api.ErrForm}, {word("5"), "", api.ErrForm}, {word("a b"), "", api.ErrForm}, {word(name), name, api.OK}, {word(name + "a"), "", api.ErrLong}, {number(""), "", api.ErrForm}, {number("a"), "", api.ErrForm}, {number("05"), "", api.ErrForm}, {number("5."), "", api.ErrForm}, {number(strings.Repeat("1", 25)), "", api.ErrLong},
		{sign(""), "", api.ErrForm}, {sign("."), "", api.ErrForm}, {sign("((", "a"), "", api.ErrForm}, {sign("a"), "", api.ErrForm}, {sign(" "), "", api.ErrForm}, {sign("_"), "", api.ErrForm}, {sign("0"), "", api.ErrForm}, {sign("\u00e9"), "", api.ErrForm},
		{slices.Concat(word(name+"a"), of(4, "")), "", api.ErrLong}, {slices.Concat(of(4, ""), word(name+"a")), "", api.ErrArg}, {slices.Concat(number("05"), word(name+"a")), "", api.ErrForm},
		{sign(strings.Split(strings.Repeat("(", 4096), "")...), strings.Repeat("(", 4096), api.OK}, {slices.Concat(sign(strings.Split(strings.Repeat("(", 4096), "")...), end()), strings.Repeat("(", 4096), api.OK}, {sign(strings.Split(strings.Repeat("(", 4097), "")...), "", api.ErrLong}, {sign(strings.Split(strings.Repeat("?", 4098), "")...), "", api.ErrMany}, {slices.Concat(sign(strings.Split(strings.Repeat("(", 4097), "")...), end()), "", api.ErrMany},
		{word(slices.Repeat([]string{"a"}, 2048)...), strings.Repeat("a ", 2047) + "a", api.OK}, {word(slices.Repeat([]string{"a"}, 2049)...), "", api.ErrLong}, {slices.Concat(word(slices.Repeat([]string{"a"}, 2048)...), sign("(")), strings.Repeat("a ", 2047) + "a(", api.OK}, {slices.Concat(word(slices.Repeat([]string{"a"}, 2048)...), sign("(", "(")), "", api.ErrLong}, {slices.Concat(word(slices.Repeat([]string{"a"}, 2049)...), of(4, "")), "", api.ErrArg},
	} {
		kept := slices.Clone(x.l)
		s, e := lexer.Join(x.l)
		expect(t, fmt.Sprintf("Join(%.40v)", x.l[:min(5, len(x.l))]), []any{s, e}, []any{x.s, x.e})
		if !slices.Equal(kept, x.l) {
			t.Errorf("Join changed %v", kept[:min(5, len(kept))])
		}
	}
	for c := range 256 {
		s, want, error := string([]byte{byte(c)}), "", api.ErrForm
		if strings.Contains(signs, s) {
			want, error = s, api.OK
		}
		got, e := lexer.Join(sign(s))
		expect(t, "Join of a sign", []any{got, e}, []any{want, error})
	}
}

// P14.2

func TestParts(t *testing.T) {
	scan := func(text string) []api.Token {
		l, _, e := lexer.Scan(text)
		if e != api.OK {
			t.Fatalf("Scan(%q): error %d", text, e)
		}
		return l
	}
	for _, x := range []struct {
		text, sign string
		parts      []string
		e          api.Errno
	}{
		{"a, (b, c), d", ",", []string{"a", "(b,c)", "d"}, api.OK}, {"", ",", []string{""}, api.OK}, {",", ",", []string{"", ""}, api.OK}, {",,", ",", []string{"", "", ""}, api.OK}, {"a b 5", ",", []string{"a b 5"}, api.OK}, {"a;b,c", ";", []string{"a", "b,c"}, api.OK}, {"a;[b;(c;d);e];(f;g)h", ";", []string{"a", "[b;(c;d);e]", "(f;g)h"}, api.OK}, {"(;)", ";", []string{"(;)"}, api.OK}, {"()[]([])", ";", []string{"()[]([])"}, api.OK}, {"-5-6", "-", []string{"", "5", "6"}, api.OK}, {"a|b", "|", []string{"a", "b"}, api.OK}, {"a<b>c", "<", []string{"a", "b>c"}, api.OK},
		{"(", ",", nil, api.ErrForm}, {")", ",", nil, api.ErrForm}, {"[", ",", nil, api.ErrForm}, {"]", ",", nil, api.ErrForm}, {"(]", ",", nil, api.ErrForm}, {"[)", ",", nil, api.ErrForm}, {"([)]", ",", nil, api.ErrForm}, {")(", ",", nil, api.ErrForm}, {"(()", ",", nil, api.ErrForm}, {"())", ",", nil, api.ErrForm}, {"a,b,(c", ",", nil, api.ErrForm}, {"a),(b", ",", nil, api.ErrForm},
		{"a", "", nil, api.ErrArg}, {"a", "a", nil, api.ErrArg}, {"a", "(", nil, api.ErrArg}, {"a", ")", nil, api.ErrArg}, {"a", "[", nil, api.ErrArg}, {"a", "]", nil, api.ErrArg}, {"a", "()", nil, api.ErrArg}, {"a", ",,", nil, api.ErrArg}, {"a", ".", nil, api.ErrArg}, {"a", " ", nil, api.ErrArg}, {"a", "5", nil, api.ErrArg}, {"a", "_", nil, api.ErrArg}, {"(", "(", nil, api.ErrArg}, {"(", "?", nil, api.ErrArg},
	} {
		l := scan(x.text)
		for _, tokens := range [][]api.Token{l, l[:len(l)-1]} {
			parts, e := lexer.Parts(tokens, x.sign)
			var texts []string
			for _, part := range parts {
				s, e := lexer.Join(part)
				if e != api.OK {
					t.Errorf("Join(%v): error %d", part, e)
				}
				texts = append(texts, s)
			}
			expect(t, "Parts of "+x.text, []any{texts, e}, []any{x.parts, x.e})
			if e == api.OK {
				joined := slices.Concat(parts[0])
				for _, part := range parts[1:] {
					joined = slices.Concat(joined, sign(x.sign), part)
				}
				if !slices.EqualFunc(joined, l[:len(l)-1], func(a, b api.Token) bool { return a.Kind == b.Kind && a.Text == b.Text }) {
					t.Errorf("the parts of %s make %v", x.text, joined)
				}
			}
		}
	}
	many := sign(slices.Repeat([]string{","}, 4098)...)
	for _, x := range []struct {
		n    int
		sign string
		e    api.Errno
	}{{4097, ",", api.OK}, {4098, ",", api.ErrMany}, {4098, "(", api.ErrMany}} {
		parts, e := lexer.Parts(many[:x.n], x.sign)
		wanted := x.n + 1
		if x.e != api.OK {
			wanted = 0
		}
		expect(t, "Parts of many", []any{len(parts), e}, []any{wanted, x.e})
	}
	parts, e := lexer.Parts(slices.Concat(many[:4096], end()), ",")
	expect(t, "Parts of many", []any{len(parts), e}, []any{4097, api.OK})
	deep := sign(slices.Repeat([]string{"("}, 2048)...)
	deep = append(deep, sign(slices.Repeat([]string{")"}, 2048)...)...)
	parts, e = lexer.Parts(deep, ",")
	expect(t, "Parts of deep brackets", []any{parts, e}, []any{[][]api.Token{deep}, api.OK})
}

// Texts of other tokens than signs do not matter, nor do the kinds of other tokens.
func TestPartsOfAnyTokens(t *testing.T) {
	odd := slices.Concat(word("(", ","), number(")", ","), of(api.TokenEnd, ","), of(9, "]", ","), sign("?", ""))
	l := slices.Concat(odd, sign(","), end(), sign(","), end(), end())
	parts, e := lexer.Parts(l, ",")
	expect(t, "Parts", []any{parts, e}, []any{[][]api.Token{odd, end(), end()}, api.OK})
	parts, e = lexer.Parts(slices.Concat(sign("("), of(api.TokenEnd, ")")), ",")
	expect(t, "Parts", []any{parts, e}, []any{[][]api.Token(nil), api.ErrForm})
	parts, e = lexer.Parts(slices.Concat(word("a"), of(api.TokenEnd, "x")), ",")
	expect(t, "Parts", []any{parts, e}, []any{[][]api.Token{word("a")}, api.OK})
}

// Parts share no memory with the tokens, or with each other, and the tokens are not changed.
func TestMemory(t *testing.T) {
	l, _, _ := lexer.Scan("a b,(c,d),e f,g")
	kept := slices.Clone(l)
	want, _ := lexer.Parts(l, ",")
	for i := range want {
		parts, _ := lexer.Parts(l, ",")
		part := parts[i]
		for j := range part {
			part[j].Text = "changed"
		}
		_ = append(part, part...)
		part = part[:cap(part)]
		for j := range part {
			part[j].Text = "changed"
		}
		for j := range parts {
			if j != i && !reflect.DeepEqual(parts[j], want[j]) {
				t.Errorf("the part %d has changed with the part %d: %v", j, i, parts[j])
			}
		}
	}
	if !slices.Equal(l, kept) {
		t.Errorf("the tokens have changed: %v", l)
	}
	for i := range kept {
		l[i].Text = "changed"
	}
	for _, part := range want {
		for _, token := range part {
			if token.Text == "changed" {
				t.Errorf("a part has changed with the tokens: %v", part)
			}
		}
	}
}
