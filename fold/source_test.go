package fold_test

import (
	"strings"
	"testing"

	"casket/api"
	"casket/fold"
)

// Promise 19.3: the text of sources, with each kind of statement.

func TestStatementsAsText(t *testing.T) {
	for _, x := range []struct{ is, want string }{
		{"let x = 1 + 2; x;", "let x = 3 ; x ;"},
		{"a = 1 + 2;", "a = 3 ;"}, {"g = not true;", "g = false ;"},
		{"a[1 + 1] = 2 * 3;", "a [ 2 ] = 6 ;"}, {"a[0][len(\"x\")] = text(1);", "a [ 0 ] [ 1 ] = \"1\" ;"}, {"(1 + 2)[3 + 4] = 5 + 6;", "3 [ 7 ] = 11 ;"},
		{"if 1 < 2 { out 1 + 1; }", "if true { out 2 ; }"},
		{"if not true { } else { 1 + 1; }", "if false { } else { 2 ; }"},
		{"if a { } else if true and true { 1 + 1; } else { 2 + 2; }", "if a { } else if true { 2 ; } else { 4 ; }"},
		{"while 1 > 2 { a = 1 + 1; }", "while false { a = 2 ; }"},
		{"l: while true or a { break l; }", "l : while true { break l ; }"},
		{"for i in 1 - 1..2 * 5 { out i + (1 + 1); }", "for i in 0 .. 10 { out ( i + 2 ) ; }"},
		{"l: for i in 0..len(\"ab\") { continue l; continue; break; }", "l : for i in 0 .. 2 { continue l ; continue ; break ; }"},
		{"return;", "return ;"}, {"return 1 + 1;", "return 2 ;"},
		{"out chr(65) + \"b\";", "out \"Ab\" ;"},
		{"1 + 1;", "2 ;"}, {"k(1 + 1);", "k ( 2 ) ;"},
		// Statements stay, even where it is known that they are not come to or do nothing.
		{"if false { out 1; }", "if false { out 1 ; }"}, {"while false { }", "while false { }"}, {"for i in 0..0 { }", "for i in 0 .. 0 { }"}, {"nil;", "nil ;"}, {"return 1; return 1 + 1;", "return 1 ; return 2 ;"},
		// A variable is none that is known, whatever it was made of.
		{"let x = 1; let y = x + 1;", "let x = 1 ; let y = ( x + 1 ) ;"},
	} {
		head := "let g ; fn k ( x ) { } fn f ( a ) { "
		wantSource(t, "let g; fn k(x) { } fn f(a) { "+x.is+" }", head+x.want+" }\n")
	}
}

func TestProgramsAsText(t *testing.T) {
	wantSource(t, "", "")
	wantSource(t, "# 1 + 2", "")
	wantSource(t, "let g;", "let g ;\n")
	wantSource(t, "fn f() { return 1 + 1; } let g; fn h(a, b) { g = 2 * 2; } fn k() { }", "fn f ( ) { return 2 ; } let g ; fn h ( a , b ) { g = 4 ; } fn k ( ) { }\n")
	wantSource(t, "\n\tfn f ( ){return(((1)+((2))));}# end", "fn f ( ) { return 3 ; }\n")
	wantSource(t, `fn f() { return chr(34) + chr(92) + chr(10) + chr(0) + "~" + chr(127) + chr(255); }`, "fn f ( ) { return \"\\\"\\\\\\n\\x00~\\x7f\\xff\" ; }\n")
}

// What is told may be longer than a source may be, or nest deeper: it is told all the same.
func TestLongText(t *testing.T) {
	src := "fn f() { return \"" + filler(api.MaxSource-21) + "\"; }"
	if len(src) != api.MaxSource {
		t.Fatal(len(src))
	}
	got, fault := fold.Source(src)
	if want := "fn f ( ) { return \"" + filler(api.MaxSource-21) + "\" ; }\n"; got != want || fault != (api.Fault{}) {
		t.Errorf("%d bytes, %v", len(got), fault)
	}
	wantSource(t, "fn f(a) { return "+strings.Repeat("a + ", 100)+"(1 + 2); }", "fn f ( a ) { return "+strings.Repeat("( ", 100)+"a"+strings.Repeat(" + a )", 99)+" + 3 ) ; }\n")
}
