package walk_test

import (
	"math"
	"testing"

	"casket/api"
)

// Promise 15.10: expressions.

func TestLiterals(t *testing.T) {
	for _, x := range []struct {
		text string
		want api.Raw
	}{
		{"0", whole(0)}, {"140737488355327", whole(1<<47 - 1)}, {"140737488355328", whole(1 << 47)}, {"9223372036854775807", whole(math.MaxInt64)},
		{"0x0p+0", double(0)}, {"0x1.8p+1", double(0x4008000000000000)}, {"inf", double(0x7ff0000000000000)}, {"nan", double(api.Canon)},
		{`""`, text("")}, {`"abcde"`, text("abcde")}, {`"abcdef"`, text("abcdef")}, {`"\n\x00\xff"`, text("\n\x00\xff")},
		{"true", truth(true)}, {"false", truth(false)}, {"nil", null},
	} {
		wantEndings(t, ending{src: "fn f() { return " + x.text + "; }", ticks: 2, value: x.want})
	}
}

// A literal is boxed each time: two are two cells.
func TestLiteralsAreBoxed(t *testing.T) {
	m := load(t, `fn f() { let r = row(2); for i in 0..2 { r[i] = "abcdefgh"; } return r; }`, plenty)
	value(t, m, "f")
	wantReach(t, m, 3+2+2)
	for src, need := range map[string]int{"@140737488355328": 2, `@"abcdef"`: 2, `@"abcdefghi"`: 3} {
		src, at := parted("fn f() { return " + src + "; }")
		for units := range need {
			wantRun(t, src, nil, units, 9, api.End{Code: api.ErrMemory, At: at, Ticks: 2})
		}
		if end := run(t, load(t, src, need), "f"); end.Code != api.OK {
			t.Errorf("%s with %d units: %v", src, need, end)
		}
	}
}

func TestNames(t *testing.T) {
	wantEndings(t,
		ending{src: "fn f(a, b) { return a; }", args: raws(whole(1), whole(2)), ticks: 2, value: whole(1)},
		ending{src: "fn f(a, b) { return b; }", args: raws(whole(1), whole(2)), ticks: 2, value: whole(2)},
		ending{src: "let g; fn f() { return g; }", ticks: 2},
		ending{src: "let g; fn f(g) { g = 2; h(); return g; } fn h() { out g; g = 3; }", args: raws(whole(1)), ticks: 7, value: whole(2), out: "nil"},
		ending{src: "let g; fn f() { g = 1; let g = g + 1; g = g + 1; out g; h(); } fn h() { out g; }", ticks: 8, out: "3 1"},
		ending{src: "fn f() { let x = 1; if true { let x = x + 1; if true { let x = x + 1; out x; x = 9; } out x; x = 8; } out x; }", ticks: 11, out: "3 2 1"},
		ending{src: "fn f() { let x = 1; if true { x = x + 1; let x = 5; x = 6; } return x; }", ticks: 7, value: whole(2)},
		ending{src: "fn f(i) { for i in 0..2 { let i = i * 10; out i; } return i; }", args: raws(whole(7)), ticks: 10, value: whole(7), out: "0 10"},
		ending{src: "fn f() { let len = \"abc\"; return len(len); }", ticks: 3, value: whole(3)},
		ending{src: "fn f() { if true { let x = 1; } if true { let x = nil; out x; } }", ticks: 6, out: "nil"},
	)
}

func TestOperators(t *testing.T) {
	two := raws(whole(7), whole(2))
	for _, x := range []struct {
		op   string
		want api.Raw
	}{
		{"+", whole(9)}, {"-", whole(5)}, {"*", whole(14)}, {"/", double(0x400c000000000000)}, {"//", whole(3)}, {"%", whole(1)},
		{"&", whole(2)}, {"|", whole(7)}, {"^", whole(5)}, {"<<", whole(28)}, {">>", whole(1)},
		{"<", truth(false)}, {"<=", truth(false)}, {">", truth(true)}, {">=", truth(true)}, {"==", truth(false)}, {"!=", truth(true)},
	} {
		wantEndings(t, ending{src: "fn f(a, b) { return a " + x.op + " b; }", args: two, ticks: 2, value: x.want})
		if x.op != "==" && x.op != "!=" {
			wantEndings(t, ending{src: "fn f(a, b) { return a @" + x.op + " b; }", args: raws(null, whole(2)), code: api.ErrType, ticks: 2})
			wantEndings(t, ending{src: "fn f(a, b) { return 1 == (a @" + x.op + " b); }", args: raws(whole(1), truth(true)), code: api.ErrType, ticks: 2})
		}
	}
	wantEndings(t,
		ending{src: "fn f(a) { return -a; }", args: raws(whole(5)), ticks: 2, value: whole(-5)},
		ending{src: "fn f(a) { return ~a; }", args: raws(whole(5)), ticks: 2, value: whole(-6)},
		ending{src: "fn f(a) { return not a; }", args: raws(truth(true)), ticks: 2, value: truth(false)},
		ending{src: "fn f(a) { return - - a; }", args: raws(double(0)), ticks: 2, value: double(0)},
		ending{src: "fn f(a) { return @-a; }", args: raws(text("5")), code: api.ErrType, ticks: 2},
		ending{src: "fn f(a) { return @~a; }", args: raws(double(0)), code: api.ErrType, ticks: 2},
		ending{src: "fn f(a) { return @not a; }", args: raws(whole(1)), code: api.ErrType, ticks: 2},
		ending{src: "fn f(a) { return @-a; }", args: raws(whole(math.MinInt64)), code: api.ErrOverflow, ticks: 2},
		ending{src: "fn f() { return 9223372036854775807 @+ 1; }", code: api.ErrOverflow, ticks: 2},
		ending{src: "fn f() { return 1 @// 0; }", code: api.ErrDivZero, ticks: 2},
		ending{src: "fn f() { return 1 @% 0; }", code: api.ErrDivZero, ticks: 2},
		ending{src: "fn f() { return 1 @<< 64; }", code: api.ErrShift, ticks: 2},
		ending{src: "fn f() { return 0 / 0; }", ticks: 2, value: double(api.Canon)},
		ending{src: "fn f() { return \"ab\" + \"cdef\"; }", ticks: 2, value: text("abcdef")},
		ending{src: "fn f() { return 9007199254740993 == 0x1p+53; }", ticks: 2, value: truth(false)},
		ending{src: "fn f() { return row(1) == row(1); }", ticks: 2, value: truth(false)},
		ending{src: "fn f() { let a = row(1); return a == a; }", ticks: 3, value: truth(true)},
		ending{src: "fn f(a, b, c) { return a - b - c * a // b; }", args: raws(whole(9), whole(2), whole(3)), ticks: 2, value: whole(-6)},
	)
}

// Kids are worked out from the first to the last; what is refused first ends the run.
func TestOrderOfKids(t *testing.T) {
	say := " fn s(n) { out n; return n; } fn r(n) { out n; return row(n); }"
	wantEndings(t,
		ending{src: "fn f() { return s(1) + s(2) * s(3) - s(4); }" + say, ticks: 14, value: whole(3), out: "1 2 3 4"},
		ending{src: "fn f() { return r(5)[s(1)]; }" + say, ticks: 8, out: "5 1"},
		ending{src: "fn f() { r(5)[s(1)] = s(2); }" + say, ticks: 11, out: "5 1 2"},
		ending{src: "fn f() { return g(s(1), s(2), s(3)); } fn g(a, b, c) { return c; }" + say, ticks: 13, value: whole(3), out: "1 2 3"},
		ending{src: "fn f() { return sub(text(s(123)), s(1), s(2)); }" + say, ticks: 11, value: text("2"), out: "123 1 2"},
		ending{src: "fn f() { for i in s(1)..s(2) { } }" + say, ticks: 10, out: "1 2"},
		ending{src: "fn f() { return (1 @// 0) + s(1); }" + say, code: api.ErrDivZero, ticks: 2},
		ending{src: "fn f() { return s(nil @+ 1) + nil; }" + say, code: api.ErrType, ticks: 2},
		ending{src: "fn f() { return s(1) + (nil @+ 1); }" + say, code: api.ErrType, ticks: 5, out: "1"},
		ending{src: "fn f() { return g(1 @// 0, nil + 1); } fn g(a, b) { }", code: api.ErrDivZero, ticks: 2},
		ending{src: "fn f() { nil[1 @// 0] = nil + 1; }", code: api.ErrDivZero, ticks: 2},
		ending{src: "fn f() { nil[0] = nil @+ 1; }", code: api.ErrType, ticks: 2},
		ending{src: "fn f() { nil@[0] = 1; }", code: api.ErrType, ticks: 2},
	)
}

// `or` and `and` do not look at their second kid where the first one settles it, and refuse what is no truth.
func TestOrAnd(t *testing.T) {
	bad := " fn bad() { out \"bad\"; return 1 // 0; }"
	wantEndings(t,
		ending{src: "fn f() { return true or bad(); }" + bad, ticks: 2, value: truth(true)},
		ending{src: "fn f() { return false and bad(); }" + bad, ticks: 2, value: truth(false)},
		ending{src: "fn f() { return true or nil; }", ticks: 2, value: truth(true)},
		ending{src: "fn f() { return false and nil; }", ticks: 2, value: truth(false)},
		ending{src: "fn f() { return false or true; }", ticks: 2, value: truth(true)},
		ending{src: "fn f() { return false or false; }", ticks: 2, value: truth(false)},
		ending{src: "fn f() { return true and true; }", ticks: 2, value: truth(true)},
		ending{src: "fn f() { return true and false; }", ticks: 2, value: truth(false)},
		ending{src: "fn f() { return nil @or true; }", code: api.ErrType, ticks: 2},
		ending{src: "fn f() { return 1 @and true; }", code: api.ErrType, ticks: 2},
		ending{src: "fn f() { return row(1) @and true; }", code: api.ErrType, ticks: 2},
		ending{src: "fn f() { return false @or nil; }", code: api.ErrType, ticks: 2},
		ending{src: "fn f() { return true @and 0; }", code: api.ErrType, ticks: 2},
		ending{src: "fn f() { return false @or \"true\"; }", code: api.ErrType, ticks: 2},
		ending{src: "fn f() { return nil @or bad(); }" + bad, code: api.ErrType, ticks: 2},
		ending{src: "fn f() { return false or bad(); } fn bad() { out \"bad\"; return 1 @// 0; }", code: api.ErrDivZero, ticks: 5, out: "bad"},
		ending{src: "fn f() { return false or true or bad(); }" + bad, ticks: 2, value: truth(true)},
		ending{src: "fn f() { return false and bad() or true; }" + bad, ticks: 2, value: truth(true)},
		ending{src: "fn f() { return not (true or bad()) or not not (true and true); }" + bad, ticks: 2, value: truth(true)},
		ending{src: "fn f() { return true and false @or nil; }", code: api.ErrType, ticks: 2},
		ending{src: "fn f() { return true and (false @or nil); }", code: api.ErrType, ticks: 2},
	)
}

func TestIndices(t *testing.T) {
	wantEndings(t,
		ending{src: "fn f() { let r = row(2); r[0] = 5; r[1] = r[0] + 1; return r[1]; }", ticks: 5, value: whole(6)},
		ending{src: "fn f() { let r = row(2); return r@[2]; }", code: api.ErrIndex, ticks: 3},
		ending{src: "fn f() { let r = row(2); return r@[-1]; }", code: api.ErrIndex, ticks: 3},
		ending{src: "fn f() { let r = row(2); return r@[0x0p+0]; }", code: api.ErrType, ticks: 3},
		ending{src: "fn f() { return \"abc\"@[0]; }", code: api.ErrType, ticks: 2},
		ending{src: "fn f() { let r = row(2); r@[2] = 1; }", code: api.ErrIndex, ticks: 3},
		ending{src: "fn f() { let b = u8(2); b@[0] = 256; }", code: api.ErrRange, ticks: 3},
		ending{src: "fn f() { let b = u8(2); b@[0] = nil; }", code: api.ErrType, ticks: 3},
		ending{src: "fn f() { let r = row(1); r[0] = row(1); r[0][0] = row(1); r[0][0][0] = 7; return r[0][0][0]; }", ticks: 6, value: whole(7)},
		ending{src: "fn f() { let r = row(1); r[0] = r; r[0][0][0] = 7; return r[0]; }", ticks: 5, value: whole(7)},
		ending{src: "fn f() { let r = row(1); return r[0]@[0]; }", code: api.ErrType, ticks: 3},
		ending{src: "fn f() { let b = u8(4); let v = view(b, \"i16\", 2, 1); v[0] = -2; return b[2] * 256 + b[3]; }", ticks: 5, value: whole(254*256 + 255)},
		ending{src: "fn f() { let b = f32(1); b[0] = 16777217; return b[0]; }", ticks: 4, value: double(0x4170000000000000)},
	)
}

// What load and store say is said at the index; what a call of them says, at the call.
func TestBuiltins(t *testing.T) {
	wantEndings(t,
		ending{src: "fn f() { return @len(1); }", code: api.ErrType, ticks: 2},
		ending{src: "fn f() { return 1 + @int(nan); }", code: api.ErrRange, ticks: 2},
		ending{src: "fn f() { return @num(\"x\"); }", code: api.ErrForm, ticks: 2},
		ending{src: "fn f() { return @chr(256); }", code: api.ErrRange, ticks: 2},
		ending{src: "fn f() { return @row(-1); }", code: api.ErrRange, ticks: 2},
		ending{src: "fn f() { return @row(1000); }", code: api.ErrMemory, ticks: 2},
		ending{src: "fn f() { return @row(9223372036854775807); }", code: api.ErrMemory, ticks: 2},
		ending{src: "fn f() { return @view(u8(1), \"row\", 0, 1); }", code: api.ErrKind, ticks: 2},
		ending{src: "fn f() { return @view(u8(9), \"i16\", 1, 1); }", code: api.ErrAlign, ticks: 2},
		ending{src: "fn f() { return @load(row(1), 1); }", code: api.ErrIndex, ticks: 2},
		ending{src: "fn f() { return @store(row(1), 1, 1); }", code: api.ErrIndex, ticks: 2},
		ending{src: "fn f() { return store(row(1), 0, 1); }", ticks: 2},
		ending{src: "fn f() { return load(f64(1), 0); }", ticks: 2, value: double(0)},
		ending{src: "fn f() { return kind(u8(1)) + kind(nil) + kind(kind(1)); }", ticks: 2, value: text("u8niltext")},
	)
}
