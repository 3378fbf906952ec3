package fold_test

import (
	"slices"
	"testing"

	"casket/api"
	"casket/ops"
)

// Promise 19.2: calls.

// arities are those of the functions that are worked out ahead.
var arities = map[string]int{"int": 1, "float": 1, "text": 1, "num": 1, "len": 1, "sub": 3, "byte": 2, "chr": 1, "bits": 1, "frombits": 1, "kind": 1}

// Each of them, with each literal in each place.
func TestEachFunction(t *testing.T) {
	literals := someLiterals()
	few := []api.Node{null, yes, whole(0), whole(1), whole(2), whole(1001), double(one), text(""), text("ab"), text("abcdef"), text(filler(1002))}
	for _, function := range foldedFunctions {
		var met outcomes
		switch arities[function] {
		case 1:
			for _, x := range literals {
				met.holdAgainst(t, api.NodeCall, function, x)
			}
		case 2:
			for _, x := range literals {
				for _, y := range literals {
					met.holdAgainst(t, api.NodeCall, function, x, y)
				}
			}
		case 3:
			for _, x := range few {
				for _, y := range few {
					for _, z := range few {
						met.holdAgainst(t, api.NodeCall, function, x, y, z)
					}
				}
			}
		}
		switch function {
		case "num", "sub": // a number below 0; a string that is too long
			met.wantSome(t, function, "lnr")
		case "kind":
			met.wantSome(t, function, "l")
		case "text":
			met.wantSome(t, function, "ln")
		default:
			met.wantSome(t, function, "lr")
		}
	}
}

func TestFunctionsAsText(t *testing.T) {
	for _, x := range []struct{ is, want string }{
		{"int(5)", "5"}, {"int(0x1.8p+1)", "3"}, {"int(0x1.cp-1)", "0"}, {"int(inf)", "int ( inf )"}, {"int(nan)", "int ( nan )"}, {"int(0x1p+63)", "int ( 0x1p+63 )"}, {`int("5")`, `int ( "5" )`}, {"int(nil)", "int ( nil )"},
		{"float(2)", "0x1p+1"}, {"float(0x1p+1)", "0x1p+1"}, {"float(9007199254740993)", "0x1p+53"}, {"float(true)", "float ( true )"},
		{"text(12)", `"12"`}, {"text(0x1.4p+1)", `"0x1.4p+1"`}, {"text(nan)", `"nan"`}, {"text(inf)", `"inf"`}, {"text(true)", `"true"`}, {"text(nil)", `"nil"`}, {`text("a\n")`, `"a\n"`},
		{`num("12")`, "12"}, {`num("0x18p-4")`, "0x1.8p+0"}, {`num("inf")`, "inf"}, {`num("x")`, `num ( "x" )`}, {`num("")`, `num ( "" )`}, {`num("-5")`, `num ( "-5" )`}, {`num("-inf")`, `num ( "-inf" )`}, {"num(5)", "num ( 5 )"}, {`num("9223372036854775808")`, `num ( "9223372036854775808" )`},
		{`len("")`, "0"}, {`len("abcdef")`, "6"}, {"len(5)", "len ( 5 )"}, {"len(nil)", "len ( nil )"},
		{`sub("abcdef", 1, 3)`, `"bc"`}, {`sub("abc", 0, 3)`, `"abc"`}, {`sub("abc", 3, 3)`, `""`}, {`sub("abc", 2, 1)`, `sub ( "abc" , 2 , 1 )`}, {`sub("abc", 0, 4)`, `sub ( "abc" , 0 , 4 )`}, {`sub("abc", 0, nil)`, `sub ( "abc" , 0 , nil )`}, {"sub(1, 0, 0)", "sub ( 1 , 0 , 0 )"},
		{`byte("a\xff", 1)`, "255"}, {`byte("a", 1)`, `byte ( "a" , 1 )`}, {`byte("a", 0x0p+0)`, `byte ( "a" , 0x0p+0 )`}, {"byte(97, 0)", "byte ( 97 , 0 )"},
		{"chr(65)", `"A"`}, {"chr(0)", `"\x00"`}, {"chr(255)", `"\xff"`}, {"chr(256)", "chr ( 256 )"}, {`chr("A")`, `chr ( "A" )`},
		{"bits(0x1p+0)", "4607182418800017408"}, {"bits(0x0p+0)", "0"}, {"bits(nan)", "9221120237041090560"}, {"bits(1)", "bits ( 1 )"},
		{"frombits(4607182418800017408)", "0x1p+0"}, {"frombits(0)", "0x0p+0"}, {"frombits(9221120237041090561)", "nan"}, {"frombits(0x0p+0)", "frombits ( 0x0p+0 )"},
		{"kind(nil)", `"nil"`}, {"kind(true)", `"bool"`}, {"kind(1)", `"int"`}, {"kind(nan)", `"float"`}, {`kind("")`, `"text"`},
	} {
		wantExpression(t, x.is, x.want)
	}
}

// Arguments that are no literals, in each place.
func TestFunctionsOfOthers(t *testing.T) {
	right := map[string][]api.Node{"int": {whole(1)}, "float": {whole(1)}, "text": {whole(1)}, "num": {text("1")}, "len": {text("ab")}, "sub": {text("abc"), whole(0), whole(1)}, "byte": {text("ab"), whole(1)}, "chr": {whole(65)}, "bits": {double(one)}, "frombits": {whole(1)}, "kind": {null}}
	others := [][]api.Node{leaf(name("a")), of(api.NodeCall, "f", leaf(whole(1))), of(api.NodeCall, "row", leaf(whole(1))), of(api.NodeUnary, "-", leaf(whole(1))), of(api.NodeIndex, "", leaf(name("a")), leaf(whole(0)))}
	for _, function := range foldedFunctions {
		if len(right[function]) != arities[function] {
			t.Fatal(function)
		}
		var args [][]api.Node
		for _, node := range right[function] {
			args = append(args, leaf(node))
		}
		if got := folded(t, returned(of(api.NodeCall, function, args...))); len(got) != ahead+1 {
			t.Errorf("%s of literals: %v", function, got)
		}
		for i := range args {
			for _, other := range others {
				mixed := slices.Clone(args)
				mixed[i] = other
				wantStays(t, returned(of(api.NodeCall, function, mixed...)))
			}
		}
	}
}

// Too few arguments, and too many.
func TestFunctionsMiscounted(t *testing.T) {
	for _, function := range foldedFunctions {
		n, known := ops.Arity(function)
		if !known || n != arities[function] {
			t.Fatal(function, n, known)
		}
		for count := range 6 {
			var args [][]api.Node
			for range count {
				args = append(args, leaf(whole(1)))
			}
			l := returned(of(api.NodeCall, function, args...))
			if count != n {
				wantFault(t, l, api.Fault{Code: api.ErrCount, At: l[ahead].At})
				continue
			}
			folded(t, l)
		}
	}
}

// Functions that make things, or ask for one, stay; so do the source's own, whatever they do. Their arguments are folded.
func TestOtherFunctions(t *testing.T) {
	for _, x := range []struct{ is, want string }{
		{"f64(2 + 1)", "f64 ( 3 )"}, {"f32(1)", "f32 ( 1 )"}, {"i16(0)", "i16 ( 0 )"}, {"u8(len(\"ab\"))", "u8 ( 2 )"}, {"row(1 - 1)", "row ( 0 )"}, {"row(nil)", "row ( nil )"},
		{`view(u8(8), "u" + "8", 0, 4 + 4)`, `view ( u8 ( 8 ) , "u8" , 0 , 8 )`}, {`view(1, "u8", 0, 1)`, `view ( 1 , "u8" , 0 , 1 )`},
		{"load(a, 1 + 1)", "load ( a , 2 )"}, {`load("ab", 0)`, `load ( "ab" , 0 )`}, {"store(a, 0, 1 < 2)", "store ( a , 0 , true )"}, {"store(nil, 0, 0)", "store ( nil , 0 , 0 )"},
		{"len(row(2))", "len ( row ( 2 ) )"}, {"kind(row(1))", "kind ( row ( 1 ) )"}, {"kind(u8(1 + 1))", "kind ( u8 ( 2 ) )"},
		{"h()", "h ( )"}, {"f(1 + 1, not true)", "f ( 2 , false )"}, {"f(h(), 2 * 3) + 1", "( f ( h ( ) , 6 ) + 1 )"}, {"len(h())", "len ( h ( ) )"}, {"text(f(1, 2))", "text ( f ( 1 , 2 ) )"},
		{"a[1 + 1]", "a [ 2 ]"}, {`"ab"[0 + 1]`, `"ab" [ 1 ]`}, {"(1 + 2)[3 + 4][0]", "3 [ 7 ] [ 0 ]"}, {"a[len(\"x\")][b]", "a [ 1 ] [ b ]"},
	} {
		wantExpression(t, x.is, x.want)
	}
}

// A variable may have a function's name: a call is the function's all the same.
func TestNamesOfFunctions(t *testing.T) {
	wantSource(t, `fn f(len) { let chr = len; return len("ab") + len + (chr + byte(chr(65), 0)); }`, "fn f ( len ) { let chr = len ; return ( ( 2 + len ) + ( chr + 65 ) ) ; }\n")
	l := parsed(t, "fn len(a) { return 1; } fn f() { return len(\"ab\"); }")
	wantFault(t, l, api.Fault{Code: api.ErrTwice, At: 3})
}
