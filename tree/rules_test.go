package tree_test

import (
	"fmt"
	"strings"
	"testing"

	"casket/api"
)

// Promises 12.1 to 12.3: each rule's node, with its kids, its place and what it says.

func TestUnits(t *testing.T) {
	for _, x := range [][2]string{
		{"", "Program 0"}, {" \n\t", "Program 0"}, {"# nothing", "Program 0"},
		{"let g;", "Program 0 (Global g 4)"}, {"  let  g  ;  ", "Program 0 (Global g 7)"}, {"let a;let b;let a;", "Program 0 (Global a 4, Global b 10, Global a 16)"},
		{"fn f(){}", "Program 0 (Func f 3 (Block 6))"}, {" fn\nf ( ) # r\n{ }", "Program 0 (Func f 4 (Block 14))"},
		{"fn f(a){}", "Program 0 (Func f 3 (Param a 5, Block 7))"}, {"fn f(a,bc,a){}", "Program 0 (Func f 3 (Param a 5, Param bc 7, Param a 10, Block 12))"},
		{"fn f(){}fn f(){}", "Program 0 (Func f 3 (Block 6), Func f 11 (Block 14))"}, {"fn f(){}let g;fn h(x){}", "Program 0 (Func f 3 (Block 6), Global g 12, Func h 17 (Param x 19, Block 21))"},
		{"let _;let infx;let nan_;let fnx;let a0_9;", "Program 0 (Global _ 4, Global infx 10, Global nan_ 19, Global fnx 28, Global a0_9 36)"},
		{"let " + strings.Repeat("z", 31) + ";", "Program 0 (Global " + strings.Repeat("z", 31) + " 4)"},
	} {
		wantRow(t, x[0], x[1])
	}
	var parameters, kids []string
	for i := range 40 {
		parameters = append(parameters, fmt.Sprintf("a%02d", i))
		kids = append(kids, fmt.Sprintf("Param a%02d %d", i, 5+4*i))
	}
	wantRow(t, "fn f("+strings.Join(parameters, ",")+"){}", "Program 0 (Func f 3 ("+strings.Join(kids, ", ")+", Block 165))")
}

func TestStatements(t *testing.T) {
	for _, x := range [][2]string{
		{"", ""},
		{"let x=1;", "Let x 4 (Int 1 6)"}, {"let x = x + 1;", "Let x 4 (Binary + 10 (Name x 8, Int 1 12))"}, {"let x=not a;", "Let x 4 (Not 6 (Name a 10))"},
		{"break;", "Break 0"}, {"break l;", "Break l 0"}, {"continue;", "Continue 0"}, {" continue  lab ;", "Continue lab 1"},
		{"return;", "Return 0"}, {"return 1;", "Return 0 (Int 1 7)"}, {"return-1;", "Return 0 (Unary - 6 (Int 1 7))"}, {"return(a);", "Return 0 (Name a 7)"},
		{"out a;", "Out 0 (Name a 4)"}, {"out a or b;", "Out 0 (Or 6 (Name a 4, Name b 9))"},
		{"a;", "Expr 0 (Name a 0)"}, {" (a);", "Expr 2 (Name a 2)"}, {"a+b;", "Expr 1 (Binary + 1 (Name a 0, Name b 2))"}, {"f(1);", "Expr 0 (Call f 0 (Int 1 2))"}, {"a[1];", "Expr 1 (Index 1 (Name a 0, Int 1 2))"}, {"not a;", "Expr 0 (Not 0 (Name a 4))"}, {"nil;", "Expr 0 (Nil 0)"}, {"\"a\";", "Expr 0 (Text \"a\" 0)"}, {"1;", "Expr 0 (Int 1 0)"},
		{"break;return;a;", "Break 0, Return 6, Expr 13 (Name a 13)"},
	} {
		wantStatements(t, x[0], x[1])
	}
}

func TestIf(t *testing.T) {
	for _, x := range [][2]string{
		{"if a{}", "If 0 (Name a 3, Block 4)"}, {"if a{}else{}", "If 0 (Name a 3, Block 4, Block 10)"}, {"if(a){b;}", "If 0 (Name a 3, Block 5 (Expr 6 (Name b 6)))"},
		{"if a{}else if b{}", "If 0 (Name a 3, Block 4, If 11 (Name b 14, Block 15))"},
		{"if a{}else if b{}else{}", "If 0 (Name a 3, Block 4, If 11 (Name b 14, Block 15, Block 21))"},
		{"if a{}else if b{}else if c{}else{x=1;}", "If 0 (Name a 3, Block 4, If 11 (Name b 14, Block 15, If 22 (Name c 25, Block 26, Block 32 (Assign x 33 (Int 1 35)))))"},
		{"if a{if b{}}else{}", "If 0 (Name a 3, Block 4 (If 5 (Name b 8, Block 9)), Block 16)"}, {"if a{}if b{}", "If 0 (Name a 3, Block 4), If 6 (Name b 9, Block 10)"},
		{"if a<b{}", "If 0 (Binary < 4 (Name a 3, Name b 5), Block 6)"}, {"if f(){}", "If 0 (Call f 3, Block 6)"}, {"if a[1]{}", "If 0 (Index 4 (Name a 3, Int 1 5), Block 7)"},
		{"if a{}else{if b{}}", "If 0 (Name a 3, Block 4, Block 10 (If 11 (Name b 14, Block 15)))"},
	} {
		wantStatements(t, x[0], x[1])
	}
}

func TestLoops(t *testing.T) {
	for _, x := range [][2]string{
		{"while a{}", "While 0 (Name a 6, Block 7)"}, {"while a{b;c;}", "While 0 (Name a 6, Block 7 (Expr 8 (Name b 8), Expr 10 (Name c 10)))"},
		{"l:while a{}", "While l 2 (Name a 8, Block 9)"}, {"l : while a{break l;}", "While l 4 (Name a 10, Block 11 (Break l 12))"},
		{"for i in a..b{}", "For i 0 (Name a 9, Name b 12, Block 13)"}, {"for i in 0..9{continue;}", "For i 0 (Int 0 9, Int 9 12, Block 13 (Continue 14))"},
		{"l:for i in a..b{}", "For i 2 (Label l 0, Name a 11, Name b 14, Block 15)"}, {" l : for i in a+1..b or c{continue l;}", "For i 5 (Label l 1, Binary + 15 (Name a 14, Int 1 16), Or 21 (Name b 19, Name c 24), Block 25 (Continue l 26))"},
		{"l:l2:", ""}, {"l:while a{m:for i in a..b{}}", "While l 2 (Name a 8, Block 9 (For i 12 (Label m 10, Name a 21, Name b 24, Block 25)))"}, {"while l{l:while l{}}", "While 0 (Name l 6, Block 7 (While l 10 (Name l 16, Block 17)))"},
		{"for l in l..l{l:for l in l..l{}}", "For l 0 (Name l 9, Name l 12, Block 13 (For l 16 (Label l 14, Name l 25, Name l 28, Block 29)))"},
	} {
		if x[1] == "" {
			wantFault(t, "fn f(){"+x[0], api.ErrSyntax, 9)
			continue
		}
		wantStatements(t, x[0], x[1])
	}
}

// Promise 12.3: what stands ahead of an "=".
func TestAssignments(t *testing.T) {
	for _, x := range [][2]string{
		{"x=1;", "Assign x 0 (Int 1 2)"}, {" x = y ;", "Assign x 1 (Name y 5)"}, {"(x)=1;", "Assign x 1 (Int 1 4)"}, {"(((x)))=(1);", "Assign x 3 (Int 1 9)"}, {"x=a or b;", "Assign x 0 (Or 4 (Name a 2, Name b 7))"},
		{"x[1]=2;", "Store 1 (Name x 0, Int 1 2, Int 2 5)"}, {"(x[1])=2;", "Store 2 (Name x 1, Int 1 3, Int 2 7)"}, {"((x)[1])=2;", "Store 4 (Name x 2, Int 1 5, Int 2 9)"}, {"(x)[1]=2;", "Store 3 (Name x 1, Int 1 4, Int 2 7)"},
		{"x[1][2]=3;", "Store 4 (Index 1 (Name x 0, Int 1 2), Int 2 5, Int 3 8)"}, {"x[1][2][y]=3;", "Store 7 (Index 4 (Index 1 (Name x 0, Int 1 2), Int 2 5), Name y 8, Int 3 11)"}, {"x[y[1]]=2;", "Store 1 (Name x 0, Index 3 (Name y 2, Int 1 4), Int 2 8)"},
		{"f()[1]=2;", "Store 3 (Call f 0, Int 1 4, Int 2 7)"}, {"(a+b)[1]=2;", "Store 5 (Binary + 2 (Name a 1, Name b 3), Int 1 6, Int 2 9)"}, {"1[2]=3;", "Store 1 (Int 1 0, Int 2 2, Int 3 5)"}, {"\"a\"[0]=1;", "Store 3 (Text \"a\" 0, Int 0 4, Int 1 7)"}, {"nil[0]=1;", "Store 3 (Nil 0, Int 0 4, Int 1 7)"}, {"(-a)[0]=1;", "Store 4 (Unary - 1 (Name a 2), Int 0 5, Int 1 8)"}, {"(not a)[b or c]=-1;", "Store 7 (Not 1 (Name a 5), Or 10 (Name b 8, Name c 13), Unary - 16 (Int 1 17))"},
	} {
		wantStatements(t, x[0], x[1])
	}
	for _, left := range []string{
		"1", "0x1p+0", "\"a\"", "true", "false", "nil", "f()", "f(a)", "(f())", "-a", "~a", "-a[1]", "not a", "not a[1]", "a or b", "a and b", "a<b", "a==b[1]", "a|b", "a^b", "a&b", "a<<b", "a+b", "a+b[1]", "a*b", "(a+b)", "(a or b[1])", "(-a)", "((1))", "a[1]+b", "f(a)+a",
	} {
		wantFault(t, "fn f(){"+left+"=1;}", api.ErrSyntax, 7+len(left))
		wantFault(t, "fn f(){"+left+" = $", api.ErrSyntax, 8+len(left))
	}
	for _, x := range []struct {
		body string
		at   int
	}{{"x=y=1;", 3}, {"x[1]=y=1;", 6}, {"x=1", 3}, {"x==1=2;", 4}, {"(x=1);", 2}, {"f(x=1);", 3}, {"a[x=1];", 3}, {"let x=y=1;", 7}, {"let x[1]=1;", 5}, {"let (x)=1;", 4}, {"return x=1;", 8}, {"out x=1;", 5}, {"if x=1{}", 4}, {"while x=1{}", 7}, {"=1;", 0}, {"x=;", 2}, {"x=1 2;", 4}, {"x:=1;", 2}, {"x+=1;", 2}} {
		wantFault(t, "fn f(){"+x.body+"}", api.ErrSyntax, 7+x.at)
	}
}

func TestPrimaries(t *testing.T) {
	for _, x := range [][2]string{
		{"0", "Int 0 0"}, {"9223372036854775807", "Int 9223372036854775807 0"}, {"0x1.8p+1", "Float 4008000000000000 0"}, {"0x0p+0", "Float 0 0"}, {"0x1p-1074", "Float 1 0"}, {"inf", "Float 7ff0000000000000 0"}, {"nan", "Float 7ff8000000000000 0"},
		{`""`, `Text "" 0`}, {`"a\n\x00\xff\"\\"`, `Text "a\n\x00\xff\"\\" 0`}, {`"let"`, `Text "let" 0`}, {`"("`, `Text "(" 0`}, {"true", "True 0"}, {"false", "False 0"}, {"nil", "Nil 0"}, {"a", "Name a 0"}, {"truex", "Name truex 0"},
		{"(a)", "Name a 1"}, {"((( a)))", "Name a 4"}, {"(1)", "Int 1 1"},
		{"f()", "Call f 0"}, {"f ( )", "Call f 0"}, {"f(a)", "Call f 0 (Name a 2)"}, {"f(a,1,\"x\")", "Call f 0 (Name a 2, Int 1 4, Text \"x\" 6)"}, {"f(g(),h(1))", "Call f 0 (Call g 2, Call h 6 (Int 1 8))"}, {"f((a),b or c,not d)", "Call f 0 (Name a 3, Or 8 (Name b 6, Name c 11), Not 13 (Name d 17))"}, {"f(f(f(f)))", "Call f 0 (Call f 2 (Call f 4 (Name f 6)))"},
		{"a[1]", "Index 1 (Name a 0, Int 1 2)"}, {"a[1][2]", "Index 4 (Index 1 (Name a 0, Int 1 2), Int 2 5)"}, {"a[b[c]]", "Index 1 (Name a 0, Index 3 (Name b 2, Name c 4))"}, {"a[b or c]", "Index 1 (Name a 0, Or 4 (Name b 2, Name c 7))"}, {"f(1)[2]", "Index 4 (Call f 0 (Int 1 2), Int 2 5)"}, {"(a+b)[2]", "Index 5 (Binary + 2 (Name a 1, Name b 3), Int 2 6)"}, {"1[2]", "Index 1 (Int 1 0, Int 2 2)"}, {"\"ab\"[0]", "Index 4 (Text \"ab\" 0, Int 0 5)"}, {"true[false]", "Index 4 (True 0, False 5)"}, {"(a)[(1)]", "Index 3 (Name a 1, Int 1 5)"},
	} {
		wantValue(t, x[0], x[1])
	}
	// What is called is a name, and nothing else.
	for _, what := range []string{"1", "0x1p+0", "\"f\"", "true", "false", "nil", "(f)", "f()", "f(a)", "a[1]", "(a+f)", "inf"} {
		wantFault(t, "fn f(){"+what+"(1);}", api.ErrSyntax, 7+len(what))
		wantFault(t, "fn f(){x="+what+"();}", api.ErrSyntax, 9+len(what))
	}
	// Two values in a row.
	for _, what := range []string{"1", "0x1p+0", "\"f\"", "true", "nil", "b", "(f)", "f()", "a[1]", "not b", "~b"} {
		if what != "(f)" {
			wantFault(t, "fn f(){return a "+what+";}", api.ErrSyntax, 16)
		}
		wantFault(t, "fn f(){return 1 "+what+";}", api.ErrSyntax, 16)
	}
}

// A place is a token's first byte, whatever stands between tokens.
func TestPlaces(t *testing.T) {
	wantRow(t, "#x\nlet\tg#y\n;\n\n fn  f\n(a\n,b ) # z\n{\n  a [ 1 ]\n = b ; # \"\n}\n#", "Program 0 (Global g 7, Func f 19 (Param a 22, Param b 25, Block 33 (Store 39 (Name a 37, Int 1 41, Name b 48))))")
	ahead := strings.Repeat("\n", api.MaxSource-len("let g;"))
	wantRow(t, ahead+"let g;", fmt.Sprintf("Program 0 (Global g %d)", len(ahead)+4))
}
