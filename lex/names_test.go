package lex_test

import (
	"fmt"
	"strings"
	"testing"

	"casket/api"
)

// Promise 11.1: names, words, and the doubles that have names.

func TestNames(t *testing.T) {
	wantTable(t, [][2]string{
		{"a", "Name a 0, End 1"}, {"_", "Name _ 0, End 1"}, {"__", "Name __ 0, End 2"}, {"_9", "Name _9 0, End 2"}, {"a0b1_", "Name a0b1_ 0, End 5"}, {"z9", "Name z9 0, End 2"}, {"x1p", "Name x1p 0, End 3"},
		{"a b", "Name a 0, Name b 2, End 3"}, {"a\nb", "Name a 0, Name b 2, End 3"}, {"a-b", "Name a 0, Mark - 1, Name b 2, End 3"}, {"9a", "Int 9 0, Name a 1, End 2"}, {`a"b"c`, `Name a 0, Text "b" 1, Name c 4, End 5`},
		{"aA", "Name a 0, ErrByte 1"}, {"aé", "Name a 0, ErrByte 1"}, {"a{", "Name a 0, Mark { 1, End 2"}, {"`a", "ErrByte 0"}, {"a`", "Name a 0, ErrByte 1"}, {"a/", "Name a 0, Mark / 1, End 2"}, {"a:", "Name a 0, Mark : 1, End 2"},
	})
}

func TestLongNames(t *testing.T) {
	for _, s := range []string{"a", "_", "z9", "let", "in_f"} {
		for _, n := range []int{1, 30, 31, 32, 33, 64, 65, 1000} {
			name := strings.Repeat(s, n)[:n]
			want := fmt.Sprintf("Name %s 2, Mark ; %d, End %d", name, n+2, n+3)
			if n > 31 {
				want = "ErrName 2"
			}
			wantTold(t, "\n\t"+name+";", want)
		}
	}
	longest := strings.Repeat("_", api.MaxName)
	wantTold(t, longest+" "+longest, "Name "+longest+" 0, Name "+longest+" 32, End 63")
	wantTold(t, longest+"A", "Name "+longest+" 0, ErrByte 31")
	wantTold(t, longest+"0", "ErrName 0")
	wantTold(t, "x "+longest+"_!", "Name x 0, ErrName 2")
}

func TestWords(t *testing.T) {
	if len(reserved) != 17 {
		t.Fatal("words")
	}
	for _, w := range reserved {
		n := len(w)
		wantTold(t, w, fmt.Sprintf("Word %s 0, End %d", w, n))
		wantTold(t, " "+w+"=", fmt.Sprintf("Word %s 1, Mark = %d, End %d", w, n+1, n+2))
		for _, more := range []string{"_", "0", "q"} {
			wantTold(t, w+more, fmt.Sprintf("Name %s%s 0, End %d", w, more, n+1))
		}
		for _, more := range []string{"_", "q"} {
			wantTold(t, more+w, fmt.Sprintf("Name %s%s 0, End %d", more, w, n+1))
		}
		wantTold(t, "1"+w, fmt.Sprintf("Int 1 0, Word %s 1, End %d", w, n+1))
		wantTold(t, strings.ToUpper(w), "ErrByte 0")
		wantTold(t, w+w, fmt.Sprintf("Name %s%s 0, End %d", w, w, 2*n))
	}
}

// A letter more, a letter less or another one, at each place.
func TestNearWords(t *testing.T) {
	const letters = "abcdefghijklmnopqrstuvwxyz_0"
	for _, w := range append([]string{"inf", "nan"}, reserved...) {
		for at := range len(w) {
			wantModel(t, w[:at]+w[at+1:])
			wantModel(t, w[:at])
			wantModel(t, w[at:])
			for i := range len(letters) {
				wantModel(t, w[:at]+letters[i:i+1]+w[at:])
				wantModel(t, w[:at]+letters[i:i+1]+w[at+1:])
				wantModel(t, w+letters[i:i+1])
			}
		}
	}
}

func TestNamedDoubles(t *testing.T) {
	wantTable(t, [][2]string{
		{"inf", "Float 7ff0000000000000 0, End 3"}, {"nan", "Float 7ff8000000000000 0, End 3"}, {" inf nan ", "Float 7ff0000000000000 1, Float 7ff8000000000000 5, End 9"},
		{"-inf", "Mark - 0, Float 7ff0000000000000 1, End 4"}, {"-nan", "Mark - 0, Float 7ff8000000000000 1, End 4"},
		{"in", "Word in 0, End 2"}, {"infx", "Name infx 0, End 4"}, {"inf_", "Name inf_ 0, End 4"}, {"inf0", "Name inf0 0, End 4"}, {"_inf", "Name _inf 0, End 4"}, {"infinity", "Name infinity 0, End 8"},
		{"na", "Name na 0, End 2"}, {"nano", "Name nano 0, End 4"}, {"nann", "Name nann 0, End 4"}, {"nan1", "Name nan1 0, End 4"}, {"1nan", "Int 1 0, Float 7ff8000000000000 1, End 4"}, {"inf.", "Float 7ff0000000000000 0, ErrByte 3"}, {"Inf", "ErrByte 0"}, {"iNf", "Name i 0, ErrByte 1"},
	})
}
