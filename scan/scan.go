// Package scan is layer 1: see shared/doc/01-scan.md.
package scan

import (
	"strings"

	"spinnaker/api"
)

// maxNumber is the greatest value of a number in a text.
const maxNumber = 9999

// Scan is a text's tokens, or what is wrong, and where.
func Scan(s string) ([]api.Token, api.Errno, int) {
	if len(s) > api.MaxText {
		return nil, api.ErrBig, api.MaxText
	}
	var l []api.Token
	at := 0
text:
	for at < len(s) {
		switch s[at] {
		case ' ', '\n', '\t', '\r':
			at++
			continue text
		case '#':
			for ; at < len(s); at++ {
				if s[at] == '\n' {
					continue text
				}
			}
			break text
		}
		t, e := token(s[at:])
		if e != api.OK {
			return nil, e, at
		}
		t.At = at
		at += len(t.Text)
		l = append(l, t)
	}
	return l, api.OK, 0
}

// token is the token that a text begins with, without its offset. The text is not empty.
func token(s string) (api.Token, api.Errno) {
	first := rune(s[0])
	switch {
	case letter(first):
		return ident(s[:span(s, wordPart)])
	case digit(first):
		return number(s[:span(s, digit)])
	}
	if n := sign(s); n > 0 {
		return build(api.Sign, s[:n]), api.OK
	}
	return api.Token{}, api.ErrChar
}

func ident(s string) (api.Token, api.Errno) {
	if len(s) > api.MaxName {
		return api.Token{}, api.ErrBig
	}
	return build(api.Ident, s), api.OK
}

func number(s string) (api.Token, api.Errno) {
	n := value(s)
	if n > maxNumber {
		return api.Token{}, api.ErrNumber
	}
	t := build(api.Number, s)
	t.N = n
	return t, api.OK
}

// build copies the bytes, so that a token does not keep the whole text alive.
func build(kind int, s string) api.Token {
	return api.Token{Kind: kind, Text: strings.Clone(s)}
}

// value is the number that digits write, or some number above maxNumber if that is too great.
func value(digits string) int {
	n := 0
	for _, c := range digits {
		n = 10*n + int(c-'0')
		if n > maxNumber {
			// A text has room for more digits than an int has, so that going on could wrap round.
			return n
		}
	}
	return n
}

// sign is the length of the longest sign that a text begins with, or 0. The text is not empty.
func sign(s string) int {
	if len(s) > 1 {
		// Some of these begin with a shorter sign, so that they come first.
		switch s[:2] {
		case "==", "!=", "<=", "&&", "||":
			return 2
		}
	}
	switch s[0] {
	case ';', ',', '{', '}', '(', ')', '.', '=', '+', '-', '*', '!', '<':
		return 1
	}
	return 0
}

// span is how many bytes at a text's start belong to letters of a kind.
func span(s string, in func(rune) bool) int {
	for i, c := range s {
		if !in(c) {
			return i
		}
	}
	return len(s)
}

// letter says of the letters of ASCII only, since names have no others.
func letter(c rune) bool {
	return c == '_' || 'a' <= c && c <= 'z' || 'A' <= c && c <= 'Z'
}

func digit(c rune) bool {
	return '0' <= c && c <= '9'
}

func wordPart(c rune) bool {
	return letter(c) || digit(c)
}

// Keyword tells whether a text is a keyword.
func Keyword(s string) bool {
	switch s {
	case "mod", "loc", "thread", "reg",
		"skip", "set", "load", "store", "cas", "fadd", "xchg", "fence", "await",
		"if", "else", "while", "loop", "break",
		"forall", "exists", "always":
		return true
	}
	return false
}

// Name tells whether a text is a name.
func Name(s string) bool {
	if s == "" || len(s) > api.MaxName || Keyword(s) {
		return false
	}
	return letter(rune(s[0])) && span(s, wordPart) == len(s)
}

// Show is tokens as text.
func Show(l []api.Token) string {
	var b strings.Builder
	for i, t := range l {
		if i > 0 {
			b.WriteByte(' ')
		}
		b.WriteString(t.Text)
	}
	return b.String()
}
