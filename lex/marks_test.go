package lex_test

import (
	"fmt"
	"testing"
)

// Promise 11.1: marks, the longest one first.

func TestMarks(t *testing.T) {
	if len(allMarks()) != 29 {
		t.Fatalf("%d marks", len(allMarks()))
	}
	for _, m := range allMarks() {
		n := len(m)
		wantTold(t, m, fmt.Sprintf("Mark %s 0, End %d", m, n))
		wantTold(t, "a"+m+"b", fmt.Sprintf("Name a 0, Mark %s 1, Name b %d, End %d", m, n+1, n+2))
		wantTold(t, "1"+m+"2", fmt.Sprintf("Int 1 0, Mark %s 1, Int 2 %d, End %d", m, n+1, n+2))
		wantTold(t, `"a"`+m+`"b"`, fmt.Sprintf(`Text "a" 0, Mark %s 3, Text "b" %d, End %d`, m, n+3, n+6))
		wantTold(t, "\t"+m+" "+m+"#"+m, fmt.Sprintf("Mark %s 1, Mark %s %d, End %d", m, m, n+2, 3*n+3))
	}
}

func TestLongestMarks(t *testing.T) {
	wantTable(t, [][2]string{
		{"===", "Mark == 0, Mark = 2, End 3"}, {"====", "Mark == 0, Mark == 2, End 4"}, {"= ==", "Mark = 0, Mark == 2, End 4"}, {"!==", "Mark != 0, Mark = 2, End 3"}, {"=!=", "Mark = 0, Mark != 1, End 3"}, {"=!", "Mark = 0, ErrByte 1"},
		{"<<=", "Mark << 0, Mark = 2, End 3"}, {"<<<", "Mark << 0, Mark < 2, End 3"}, {"<=<", "Mark <= 0, Mark < 2, End 3"}, {"<==", "Mark <= 0, Mark = 2, End 3"}, {"< <", "Mark < 0, Mark < 2, End 3"}, {"<>", "Mark < 0, Mark > 1, End 2"}, {"=<", "Mark = 0, Mark < 1, End 2"},
		{">>=", "Mark >> 0, Mark = 2, End 3"}, {">>>", "Mark >> 0, Mark > 2, End 3"}, {">=>", "Mark >= 0, Mark > 2, End 3"}, {">==", "Mark >= 0, Mark = 2, End 3"}, {"=>", "Mark = 0, Mark > 1, End 2"}, {"><", "Mark > 0, Mark < 1, End 2"},
		{"///", "Mark // 0, Mark / 2, End 3"}, {"////", "Mark // 0, Mark // 2, End 4"}, {"/ /", "Mark / 0, Mark / 2, End 3"}, {"...", "Mark .. 0, ErrByte 2"}, {"....", "Mark .. 0, Mark .. 2, End 4"}, {". ..", "ErrByte 0"}, {".. .", "Mark .. 0, ErrByte 3"},
		{"&&", "Mark & 0, Mark & 1, End 2"}, {"||", "Mark | 0, Mark | 1, End 2"}, {"**", "Mark * 0, Mark * 1, End 2"}, {"++", "Mark + 0, Mark + 1, End 2"}, {"--", "Mark - 0, Mark - 1, End 2"}, {"->", "Mark - 0, Mark > 1, End 2"}, {"+=", "Mark + 0, Mark = 1, End 2"}, {"~=", "Mark ~ 0, Mark = 1, End 2"}, {":=", "Mark : 0, Mark = 1, End 2"}, {"::", "Mark : 0, Mark : 1, End 2"}, {"()", "Mark ( 0, Mark ) 1, End 2"}, {"/*", "Mark / 0, Mark * 1, End 2"},
		{"=#\n=", "Mark = 0, Mark = 3, End 4"}, {"a[1]:=", "Name a 0, Mark [ 1, Int 1 2, Mark ] 3, Mark : 4, Mark = 5, End 6"},
	})
}

// Every two and every three marks in a row, and the bytes that are part of one and none alone.
func TestMarksInRow(t *testing.T) {
	all := append(allMarks(), "!", ".")
	for _, a := range all {
		for _, b := range all {
			wantModel(t, a+b)
			for _, c := range all {
				wantModel(t, a+b+c)
			}
		}
	}
	everyText("=<>!./", 6, func(s string) { wantModel(t, s) })
}
