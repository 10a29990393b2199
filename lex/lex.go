// Package lex: signs. See doc/01-lex.md.
package lex

import (
	"strings"

	"penance/api"
)

// More digits than these might be no int.
const maxDigits = 18

// Signs tells the signs of a text; of an error, its place.
func Signs(s string) (l []api.Sign, at int, e api.Errno) {
	if len(s) > api.MaxText {
		return nil, 0, api.Limit
	}
	end := 0 // all ahead of it is read
scan:
	for i, r := range s {
		switch {
		case i < end || blank(r):
			continue
		case r == '#':
			n := strings.IndexByte(s[i:], '\n')
			if n < 0 {
				break scan
			}
			end = i + n
			continue
		}
		sign, e := first(s[i:])
		if e != api.OK {
			return nil, i, e
		}
		sign.At = i
		l = append(l, sign)
		end = i + len(sign.Text)
	}
	return l, 0, api.OK
}

// first tells the sign that s, which isn't empty, begins with.
func first(s string) (api.Sign, api.Errno) {
	switch r := rune(s[0]); {
	case small(r):
		return word(s[:front(s, wordy)])
	case digit(r):
		return number(s[:front(s, digit)])
	}
	return mark(s)
}

func word(letters string) (api.Sign, api.Errno) {
	if len(letters) > api.MaxName {
		return api.Sign{}, api.Limit
	}
	return api.Sign{Kind: api.SWord, Text: letters}, api.OK
}

func number(digits string) (api.Sign, api.Errno) {
	switch {
	case len(digits) > maxDigits:
		return api.Sign{}, api.Limit
	case len(digits) > 1 && digits[0] == '0':
		return api.Sign{}, api.BadSign
	}
	return api.Sign{Kind: api.SNumber, Text: digits}, api.OK
}

// mark tells the mark that s begins with, the longer one of two.
func mark(s string) (api.Sign, api.Errno) {
	if len(s) > 1 {
		switch s[:2] {
		case ":=", "->", "==", "!=", "<=", ">=", "&&", "||":
			return api.Sign{Kind: api.SMark, Text: s[:2]}, api.OK
		}
	}
	if strings.IndexByte("{}();+-*/%<>!", s[0]) < 0 {
		return api.Sign{}, api.BadSign
	}
	return api.Sign{Kind: api.SMark, Text: s[:1]}, api.OK
}

// front tells how many bytes at the beginning of s are runes of a kind.
func front(s string, is func(rune) bool) int {
	for i, r := range s {
		if !is(r) {
			return i
		}
	}
	return len(s)
}

func blank(r rune) bool { return r == ' ' || r == '\t' || r == '\n' || r == '\r' }

func small(r rune) bool { return 'a' <= r && r <= 'z' }

func digit(r rune) bool { return '0' <= r && r <= '9' }

func wordy(r rune) bool { return small(r) || digit(r) || r == '_' }

// Name tells whether s is a name.
func Name(s string) bool {
	if s == "" || len(s) > api.MaxName || Key(s) {
		return false
	}
	return small(rune(s[0])) && front(s, wordy) == len(s)
}

// Key tells whether s is a key word.
func Key(s string) bool {
	switch s {
	case "var", "stack", "proc", "skip", "do", "push", "reverse", "accept", "merge", "block", "exit", "if", "else", "choose", "par", "call":
		return true
	}
	return false
}
