package scan_test

import (
	"regexp"
	"slices"
	"strconv"
	"strings"
	"testing"

	"spinnaker/api"
	"spinnaker/scan"
)

var keywords = []string{
	"mod", "loc", "thread", "reg", "skip", "set", "load", "store", "cas", "fadd", "xchg",
	"fence", "await", "if", "else", "while", "loop", "break", "forall", "exists", "always",
}

var signs = []string{
	";", ",", "{", "}", "(", ")", ".", "=", "+", "-", "*", "!", "<", "==", "!=", "<=", "&&", "||",
}

func ident(s string, at int) api.Token {
	return api.Token{Kind: api.Ident, Text: s, At: at}
}

func number(s string, n, at int) api.Token {
	return api.Token{Kind: api.Number, Text: s, N: n, At: at}
}

func sign(s string, at int) api.Token {
	return api.Token{Kind: api.Sign, Text: s, At: at}
}

// scans fails the test unless the text has exactly these tokens.
func scans(t *testing.T, s string, want ...api.Token) {
	t.Helper()
	l, e, at := scan.Scan(s)
	if e != api.OK || at != 0 || !slices.Equal(l, want) {
		t.Errorf("Scan(%.40q) = %v, %d, %d, want %v", s, l, e, at, want)
	}
}

// fails fails the test unless the text has this error at this offset, and no tokens.
func fails(t *testing.T, s string, e api.Errno, at int) {
	t.Helper()
	l, gotE, gotAt := scan.Scan(s)
	if len(l) != 0 || gotE != e || gotAt != at {
		t.Errorf("Scan(%.40q) = %v, %d, %d, want no tokens, %d, %d", s, l, gotE, gotAt, e, at)
	}
}

// P1.1: ordinary texts.

func TestScanProgram(t *testing.T) {
	scans(t, "mod 4;\nthread t1 { set a_b=x.y<=07; } # end",
		ident("mod", 0), number("4", 4, 4), sign(";", 5),
		ident("thread", 7), ident("t1", 14), sign("{", 17),
		ident("set", 19), ident("a_b", 23), sign("=", 26), ident("x", 27), sign(".", 28), ident("y", 29),
		sign("<=", 30), number("07", 7, 32), sign(";", 34), sign("}", 36))
}

func TestScanExamples(t *testing.T) {
	scans(t, "a=b==1 # no", ident("a", 0), sign("=", 1), ident("b", 2), sign("==", 3), number("1", 1, 5))
	fails(t, "a $", api.ErrChar, 2)
	fails(t, "10000", api.ErrNumber, 0)
}

func TestScanEmpty(t *testing.T) {
	for _, s := range []string{"", " ", "\t", "\n", "\r", " \t\r\n \n", "#", "# a $ 10000", "#\n#\n"} {
		scans(t, s)
	}
}

// P1.1: blanks and comments.

func TestScanBlanks(t *testing.T) {
	scans(t, "\ta\r\nb  c \t\n", ident("a", 1), ident("b", 4), ident("c", 7))
	for _, c := range []string{"\v", "\f", "\x00", "\u00a0", "\u2028"} {
		fails(t, "a"+c+"b", api.ErrChar, 1)
	}
}

func TestScanComments(t *testing.T) {
	scans(t, "a#b\nc", ident("a", 0), ident("c", 4))
	scans(t, "a # b", ident("a", 0))
	scans(t, "a #", ident("a", 0))
	scans(t, "a #\n", ident("a", 0))
	scans(t, "##a\n#\n\nb", ident("b", 7))
	scans(t, "# $ 10000 abcdefghijklmnopqr \xff\xe2\nx", ident("x", 32))
	scans(t, "#\xe2\x82\nx", ident("x", 4))
	scans(t, "# a carriage return is a blank and ends no line\rb\nc", ident("c", 50))
	fails(t, "# a\n$", api.ErrChar, 4)
}

// P1.1: the longest token.

func TestScanSigns(t *testing.T) {
	for _, s := range signs {
		scans(t, s, sign(s, 0))
		scans(t, " "+s+"a", sign(s, 1), ident("a", 1+len(s)))
		scans(t, "7"+s, number("7", 7, 0), sign(s, 1))
	}
	scans(t, "===", sign("==", 0), sign("=", 2))
	scans(t, "====", sign("==", 0), sign("==", 2))
	scans(t, "= =", sign("=", 0), sign("=", 2))
	scans(t, "!==", sign("!=", 0), sign("=", 2))
	scans(t, "!!=", sign("!", 0), sign("!=", 1))
	scans(t, "<==", sign("<=", 0), sign("=", 2))
	scans(t, "<<=", sign("<", 0), sign("<=", 1))
	scans(t, "=<", sign("=", 0), sign("<", 1))
	scans(t, "=!", sign("=", 0), sign("!", 1))
	scans(t, "=#=", sign("=", 0))
	scans(t, "&&&&||||", sign("&&", 0), sign("&&", 2), sign("||", 4), sign("||", 6))
}

func TestScanWords(t *testing.T) {
	scans(t, "_ __ _1 a1b2 Mod AZaz09_", ident("_", 0), ident("__", 2), ident("_1", 5), ident("a1b2", 8), ident("Mod", 13), ident("AZaz09_", 17))
	scans(t, "12ab3", number("12", 12, 0), ident("ab3", 2))
	scans(t, "1_", number("1", 1, 0), ident("_", 1))
	scans(t, "1.2", number("1", 1, 0), sign(".", 1), number("2", 2, 2))
	for _, s := range keywords {
		scans(t, s, ident(s, 0))
		scans(t, s+"x", ident(s+"x", 0))
	}
}

// P1.1: the errors.

func TestScanChars(t *testing.T) {
	for c := range 256 {
		s := string([]byte{byte(c)})
		switch {
		case strings.Contains(" \n\t\r#", s):
			scans(t, s)
		case c >= '0' && c <= '9':
			scans(t, s, number(s, c-'0', 0))
		case c == '_' || c >= 'a' && c <= 'z' || c >= 'A' && c <= 'Z':
			scans(t, s, ident(s, 0))
		case slices.Contains(signs, s):
			scans(t, s, sign(s, 0))
		default:
			fails(t, s, api.ErrChar, 0)
			fails(t, "ab 1"+s, api.ErrChar, 4)
			fails(t, "ab"+s+"\n", api.ErrChar, 2)
		}
	}
	fails(t, "a&", api.ErrChar, 1)
	fails(t, "&|", api.ErrChar, 0)
	fails(t, "&&&", api.ErrChar, 2)
	fails(t, "|||", api.ErrChar, 2)
	fails(t, "a| |b", api.ErrChar, 1)
	fails(t, "a\u00e9", api.ErrChar, 1)
	fails(t, "1\u0663", api.ErrChar, 1)
}

func TestScanNumbers(t *testing.T) {
	for _, n := range []int{0, 1, 9, 10, 999, 9998, 9999} {
		s := strconv.Itoa(n)
		scans(t, s, number(s, n, 0))
		scans(t, "000"+s, number("000"+s, n, 0))
	}
	zeros := strings.Repeat("0", api.MaxText)
	scans(t, zeros, number(zeros, 0, 0))
	for _, s := range []string{
		"10000", "10001", "99990", "00010000", "100000", "4294967297", "9223372036854775808",
		"18446744073709551616", "18446744073709551617", strings.Repeat("9", api.MaxText),
	} {
		fails(t, s, api.ErrNumber, 0)
	}
	fails(t, "9999 x 10000;", api.ErrNumber, 7)
	fails(t, "12345x", api.ErrNumber, 0)
}

func TestScanIdents(t *testing.T) {
	word := "abcdefgh_1234567"
	scans(t, word, ident(word, 0))
	fails(t, word+"8", api.ErrBig, 0)
	fails(t, word+"_", api.ErrBig, 0)
	fails(t, "x ;"+word+"z;", api.ErrBig, 3)
	fails(t, strings.Repeat("a", api.MaxText), api.ErrBig, 0)
	scans(t, word+"+", ident(word, 0), sign("+", 16))
	scans(t, "# "+word+word+"\n"+word, ident(word, 35))
}

func TestScanTextLimit(t *testing.T) {
	blanks := strings.Repeat(" ", api.MaxText-1)
	scans(t, blanks+"a", ident("a", api.MaxText-1))
	scans(t, blanks+" ")
	fails(t, blanks+"$", api.ErrChar, api.MaxText-1)
	fails(t, blanks+"  ", api.ErrBig, api.MaxText)
	fails(t, blanks+"\n#", api.ErrBig, api.MaxText)
	if l, e, at := scan.Scan(strings.Repeat(";", api.MaxText)); len(l) != api.MaxText || e != api.OK || at != 0 {
		t.Error(len(l), e, at)
	}
	fails(t, strings.Repeat("a;", 2*api.MaxText), api.ErrBig, api.MaxText)
}

func TestScanFirstError(t *testing.T) {
	long := "abcdefghijklmnopq"
	fails(t, "$ 10000 "+long, api.ErrChar, 0)
	fails(t, "10000 $ "+long, api.ErrNumber, 0)
	fails(t, long+" $ 10000", api.ErrBig, 0)
	fails(t, "a 10000$", api.ErrNumber, 2)
	fails(t, "a "+long+"$", api.ErrBig, 2)
	fails(t, "a $"+long, api.ErrChar, 2)
	// A text that is too long is reported ahead of what stands in it.
	for _, s := range []string{"$", "10000 ", long + " "} {
		fails(t, s+strings.Repeat(" ", api.MaxText), api.ErrBig, api.MaxText)
	}
}

// P1.1: against a scanner of another make, for all short texts of bytes that matter.

var (
	blankForm  = regexp.MustCompile(`^(?:[ \t\r\n]|#[^\n]*)+`)
	identForm  = regexp.MustCompile(`^[A-Za-z_][A-Za-z_0-9]*`)
	numberForm = regexp.MustCompile(`^[0-9]+`)
	signForm   = regexp.MustCompile(`^(?:==|!=|<=|&&|\|\||[;,{}().=+*!<-])`)
)

// plainScan holds for texts that are too short for ErrBig and ErrNumber.
func plainScan(s string) ([]api.Token, api.Errno, int) {
	var l []api.Token
	for at := 0; ; {
		at += len(blankForm.FindString(s[at:]))
		if at == len(s) {
			return l, api.OK, 0
		}
		t := api.Token{At: at}
		for kind, form := range map[int]*regexp.Regexp{api.Ident: identForm, api.Number: numberForm, api.Sign: signForm} {
			if text := form.FindString(s[at:]); text != "" {
				t.Kind, t.Text = kind, text
			}
		}
		if t.Kind == api.Number {
			t.N, _ = strconv.Atoi(t.Text)
		}
		if t.Kind == 0 {
			return nil, api.ErrChar, at
		}
		l = append(l, t)
		at += len(t.Text)
	}
}

// shortTexts calls f with all texts of up to n bytes of an alphabet.
func shortTexts(alphabet string, n int, f func(s string)) {
	var grow func(s string)
	grow = func(s string) {
		f(s)
		if len(s) == n {
			return
		}
		for i := range len(alphabet) {
			grow(s + alphabet[i:i+1])
		}
	}
	grow("")
}

func TestScanShortTexts(t *testing.T) {
	same := func(s string) {
		want, e, at := plainScan(s)
		l, gotE, gotAt := scan.Scan(s)
		if gotE != e || gotAt != at || !slices.Equal(l, want) {
			t.Fatalf("Scan(%q) = %v, %d, %d, want %v, %d, %d", s, l, gotE, gotAt, want, e, at)
		}
	}
	var bytes []byte
	for c := range 256 {
		bytes = append(bytes, byte(c))
	}
	shortTexts(string(bytes), 2, same)
	shortTexts("a_0 \n#=!<&|;$\xc3", 4, same)
}

// P1.2

func TestKeyword(t *testing.T) {
	for _, s := range keywords {
		if !scan.Keyword(s) {
			t.Errorf("%q is a keyword", s)
		}
		for _, other := range []string{s + "s", s + " ", " " + s, s[1:], s[:len(s)-1], strings.ToUpper(s), strings.ToUpper(s[:1]) + s[1:]} {
			if scan.Keyword(other) && !slices.Contains(keywords, other) {
				t.Errorf("%q is no keyword", other)
			}
		}
	}
	for _, s := range append([]string{"", "a", "_", "0", "weak", "budget", "sc", "\xff", "mod loc"}, signs...) {
		if scan.Keyword(s) {
			t.Errorf("%q is no keyword", s)
		}
	}
}

func TestName(t *testing.T) {
	for _, s := range []string{"a", "z", "A", "Z", "_", "__", "_0", "a0", "a9", "x_y", "Mod", "MOD", "mods", "mod1", "_mod", "iff", "abcdefghijklmnop", "_234567890123456"} {
		if !scan.Name(s) {
			t.Errorf("%q is a name", s)
		}
	}
	no := []string{"", "0", "9a", "1", " ", " a", "a ", "a b", "a.b", "a\n", "a\x00", "a-b", "#", "a#", "abcdefghijklmnopq", "_2345678901234567", "\u00e9", "a\u00e9", "\xff", "a\xff", "\u0663", "\uff41", "a\u0663"}
	for _, s := range slices.Concat(no, keywords, signs) {
		if scan.Name(s) {
			t.Errorf("%q is no name", s)
		}
	}
	for c := range 256 {
		b := byte(c)
		letter := b == '_' || b >= 'a' && b <= 'z' || b >= 'A' && b <= 'Z'
		if s := string([]byte{b}); scan.Name(s) != letter {
			t.Errorf("%q", s)
		}
		if s := string([]byte{'q', b}); scan.Name(s) != (letter || b >= '0' && b <= '9') {
			t.Errorf("%q", s)
		}
	}
}

// P1.3

func TestShow(t *testing.T) {
	for _, c := range []struct {
		texts []string
		want  string
	}{
		{nil, ""},
		{[]string{"a"}, "a"},
		{[]string{"a", "=", "b", "==", "1"}, "a = b == 1"},
		{[]string{"mod", "0004", ";"}, "mod 0004 ;"},
		// Tokens that no text has are shown too.
		{[]string{"", ""}, " "},
		{[]string{"$ $", "", "\xff\n"}, "$ $  \xff\n"},
	} {
		var l []api.Token
		for i, s := range c.texts {
			l = append(l, api.Token{Kind: i - 1, Text: s, N: 77, At: -i})
		}
		if s := scan.Show(l); s != c.want {
			t.Errorf("Show(%q) = %q, want %q", c.texts, s, c.want)
		}
	}
	if s := scan.Show([]api.Token{}); s != "" {
		t.Errorf("%q", s)
	}
}

func TestShowKeepsTokens(t *testing.T) {
	l := []api.Token{ident("a", 0), sign(";", 5), number("1", 1, 9)}
	before := slices.Clone(l)
	if s := scan.Show(l[:2]); s != "a ;" || !slices.Equal(l, before) {
		t.Error(s, l)
	}
}

// P1.4

// holds fails the test if a text's tokens do not have the properties.
func holds(t *testing.T, s string) {
	t.Helper()
	l, e, _ := scan.Scan(s)
	if e != api.OK {
		return
	}
	last := -1
	for i := range l {
		at, text := l[i].At, l[i].Text
		if at <= last || !strings.HasPrefix(s[at:], text) {
			t.Fatalf("%.60q: offset %d of %q", s, at, text)
		}
		last = at
	}
	shown := scan.Show(l)
	again, e, at := scan.Scan(shown)
	if e != api.OK || at != 0 || len(again) != len(l) {
		t.Fatalf("%.60q shown is %.60q, scanned again %d tokens, %d, %d", s, shown, len(again), e, at)
	}
	for i := range l {
		l[i].At, again[i].At = 0, 0
	}
	if !slices.Equal(l, again) {
		t.Fatalf("%.60q shown is %.60q, scanned again as other tokens", s, shown)
	}
}

func TestShownIsScanned(t *testing.T) {
	shortTexts("b9_ \n#=!<&|(", 4, func(s string) { holds(t, s) })
	all := strings.Join(keywords, " ") + strings.Join(signs, "")
	for _, s := range []string{
		all,
		"mod 4; loc x = 0; thread t { reg a; await x==1; } # once\nforall t.a<=1&&!(x==0);",
		"0009999 9999abc 0",
		strings.Repeat("ab;", 4000),
	} {
		if l, _, _ := scan.Scan(s); len(l) == 0 {
			t.Errorf("%.60q has no tokens", s)
		}
		holds(t, s)
	}
}

// The blanks of Show can make a text longer than a text may be; then the limit of P1.1 holds.
func TestShownIsTooLong(t *testing.T) {
	l, e, _ := scan.Scan(strings.Repeat(";", 10001))
	if e != api.OK || len(scan.Show(l[:10000])) != 19999 {
		t.Fatal(e, len(l))
	}
	holds(t, strings.Repeat(";", 10000))
	fails(t, scan.Show(l), api.ErrBig, api.MaxText)
}

// R4: what a call returns is its own.

func TestScanResultIsNew(t *testing.T) {
	a, _, _ := scan.Scan("a b c")
	b, _, _ := scan.Scan("a b c")
	clear(a[:cap(a)])
	if !slices.Equal(b, []api.Token{ident("a", 0), ident("b", 2), ident("c", 4)}) {
		t.Error(b)
	}
}
