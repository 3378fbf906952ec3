package vm_test

import "casket/api"

// example is a source with a function f, and arguments for it.
type example struct {
	src  string
	args []api.Raw
}

// corpus has each part of the language, with what waits on the way, and what is refused.
func corpus() []example {
	var list []example
	for _, src := range append(append(append(expressions(), statements()...), calls()...), memories()...) {
		list = append(list, example{src: src})
	}
	return append(list, numbers()...)
}

// numbers are sources in which numbers meet, with arguments.
func numbers() []example {
	return []example{
		{"fn f(a) { return a + 1; }", raws(whole(1))},
		{"fn f(a) { return a + 1; }", raws(text("x"))},
		{"fn f(n) { if n <= 1 { return 1; } return n * f(n - 1); }", raws(whole(20))},
		{"fn f(n) { if n <= 1 { return 1; } return n * f(n - 1); }", raws(whole(21))},
		{"fn f(n) { if n < 2 { return n; } return f(n - 1) + f(n - 2); }", raws(whole(6))},
		{"fn f(n) { if n < 2 { return n; } return f(n - 1) + f(n - 2); }", raws(double(0x4014000000000000))},
		{"fn f(n) { if n == 0 { return true; } return odd(n - 1); } fn odd(n) { if n == 0 { return false; } return f(n - 1); }", raws(whole(5))},
		{"fn f(n, x) { let s = x; for i in 0..n { s = s * 3 // 2 + i % 3 - x / 4; if s > 50 or s != s { s = s - 49; } } return s; }", raws(whole(9), whole(2))},
		{"fn f(n, x) { let s = x; for i in 0..n { s = s * 3 // 2 + i % 3 - x / 4; if s > 50 or s != s { s = s - 49; } } return s; }", raws(whole(9), double(half))},
		{"fn f(n) { for i in 0..n { let x = i; if i % 4 == 3 { x = x * 0x1p+0; } if i % 5 == 4 { x = \"a\"; } out x == x; out x + x; } }", raws(whole(14))},
		{"fn f(a, b) { return a < b and a <= b and not (a > b) and b >= a and a != b or a == b; }", raws(whole(1), double(half))},
		{"fn f(a) { while a < 140737488355400 { a = a + 30; } return a; }", raws(whole(140737488355300))},
		{"fn f(a) { for i in 0..5 { a = a * a; } return a; }", raws(whole(-9))},
		{"fn f(a) { for i in 0..9 { a = a - 1; out 6 // a; out -7 % a; } }", raws(whole(5))},
		{"fn f(a, b) { return (a & 6) + (b | 1) - (a ^ b) * (a << 2) // (b >> 1); }", raws(whole(13), whole(7))},
		{"fn g(a, b) { return a + b; } fn f(n) { if n == 0 { return g(\"a\", \"b\"); } return g(f(n - 1), text(n)); }", raws(whole(5))},
		{"fn f(n) { let x = n; if n > 0 { x = n + f(n - 1); } return x * 0x1p-1; }", raws(whole(6))},
		{"fn f(n) { if n > 1 { return f(n - 1) + 1; } return 1; }", raws(whole(64))},
		{"fn f(n) { if n > 1 { return f(n - 1) + 1; } return 1; }", raws(whole(65))},
		{"fn f(a, b, c) { return a - b - c * a // b; }", raws(whole(17), whole(5), whole(3))},
		{"fn f(i) { for i in 0..2 { let i = i * 10; out i; } return i; }", raws(text("kept"))},
		{"fn f(i) { i: while i > 0 { i = i - 1; continue i; } return i; }", raws(whole(3))},
		{"fn f(a, b) { a = 9; b = a; out a; out b; }", raws(whole(1), whole(2))},
	}
}

func expressions() []string {
	return []string{
		"fn f() { 5; \"abcdefgh\"; nan; true; false; nil; }",
		"fn f() { return - -9223372036854775807 - 1; }",
		"fn f() { return -(-9223372036854775807 - 1); }",
		"fn f() { return ~5 + -5; }",
		"fn f() { return not nil; }",
		"fn f() { return -true; }",
		"fn f() { return 0 / 0; }",
		"fn f() { return 1 // 0; }",
		"fn f() { return 0x1p+0 % 0; }",
		"fn f() { return 1 << 64; }",
		"fn f() { return 9223372036854775807 + 1; }",
		"fn f() { return 9007199254740993 == 0x1p+53; }",
		"fn f() { let a = row(1); return a == a and a != row(1); }",
		"fn f() { return true or nil; }",
		"fn f() { return false and nil; }",
		"fn f() { return false or true; }",
		"fn f() { return true and 0; }",
		"fn f() { return false or \"true\"; }",
		"fn f() { return 1 and true; }",
		"fn f() { return row(1) or true; }",
		"fn f() { return true and false or nil; }",
		"fn f() { let t = false; let u = true; t = t or u; u = u and t; t = t and (u or t) and not u; return t or u; }",
		"fn f() { let t = true; t = t and nil; }",
		"fn f() { return false or bad(); } fn bad() { out \"bad\"; return 1 // 0; }",
		"fn f() { let r = row(2); r[0] = 5; r[1] = r[0] + 1; return r[1]; }",
		"fn f() { return row(2)[2]; }",
		"fn f() { let r = row(2); r[r] = 1; }",
		"fn f() { nil[1 // 0] = nil + 1; }",
		"fn f() { nil[0] = nil + 1; }",
		"fn f() { nil[0] = 1; }",
		"fn f() { let r = row(1); r[0] = r; r[0][0][0] = 7; return r[0]; }",
		"fn f() { let b = u8(4); let v = view(b, \"i16\", 2, 1); v[0] = -2; return b[2] * 256 + b[3]; }",
		"fn f() { let len = \"abc\"; return len(len); }",
		"fn f() { return len(1); }",
		"fn f() { return num(\"x\"); }",
		"fn f() { return kind(u8(1)) + kind(nil) + kind(kind(1)); }",
		"fn f() { return store(row(1), 0, 1) == nil; }",
		"fn f() { return 1 + (2 + (3 + (4 + (5 + (6 + 7 * 8))))); }",
		"fn f() { return ((((1 + 2) + 3) + 4) * 5 - 6) % 7; }",
	}
}

func statements() []string {
	return []string{
		"fn f() { }",
		"fn f() { return; }",
		"let g; fn f() { return g; }",
		"let g; fn f() { g = 1; let g = g + 1; g = g + 1; out g; h(); } fn h() { out g; }",
		"let g; fn f() { g = 3; g = g * g - g; return g + h() + g; } fn h() { g = g * 2; return 1; }",
		"fn f() { let x = 1; if true { let x = x + 1; if true { let x = x + 1; out x; x = 9; } out x; x = 8; } out x; }",
		"fn f() { let x = 1; let y = x; y = 2; x = x; out x; out y; y; }",
		"fn f() { if nil { } }",
		"fn f() { let c = 1; if c { } }",
		"fn f() { if false { out 1; } else if true { out 2; } else { out 3; } }",
		"fn f() { if false { out 1; } else if false { out 2; } else { out 3; } out 4; }",
		"fn f() { while 1 { } }",
		"fn f() { let a = true; while a { out 1; a = nil; } }",
		"fn f() { let n = 0; while n < 5 { n = n + 1; if n == 3 { continue; } out n; } return n; }",
		"fn f() { for i in -2..2 { out i; } }",
		"fn f() { for i in 5..3 { out i; } return 7; }",
		"fn f() { for i in 140737488355325..140737488355327 { out i; } }",
		"fn f() { for i in -140737488355328..-140737488355327 { out i; } }",
		"fn f() { for i in 0..140737488355328 { } }",
		"fn f() { for i in 140737488355328..nil { } }",
		"fn f() { for i in 0..0x1p+0 { } }",
		"fn f() { for i in 0..2 { i = i + 10; out i; } }",
		"fn f() { for i in 0..3 { i = nil; } }",
		"fn f() { let n = 2; for i in 0..n { n = 9; out i; } }",
		"fn f() { let i = 5; for i in 0..i - 3 { out i; } return i; }",
		"fn f() { for i in 1 + nil..nil { } }",
		"fn f() { for i in nil..1 // 0 { } }",
		"fn f() { a: for i in 0..3 { for j in 0..3 { if j == 1 { continue a; } if i == 2 { break a; } out i * 10 + j; } } }",
		"fn f() { a: for i in 0..2 { b: for j in 0..2 { c: for k in 0..2 { if k == 1 { continue b; } out i * 100 + j * 10 + k; } } } }",
		"fn f() { let n = 0; a: while n < 3 { n = n + 1; for i in 0..9 { while true { if i == 2 { continue a; } break; } out n * 10 + i; } } }",
		"fn f() { a: while true { while true { break a; } out 0; } out 1; }",
		"fn f() { a: while true { break a; } a: for i in 0..1 { continue a; } }",
		"fn f() { let a = 1; l: for i in 0..3 { let b = 2; while true { let c = 3; if i == 0 { let d = 4; continue l; } if i == 1 { let d = 4; break; } let e = 5; break l; } let g = 6; out g; } let h = 7; out h; }",
		"fn f() { out nil; out 0x1p+1; out \"a b\"; out row(1); }",
		"fn f() { let s = \"0123456789abcdef\"; while true { s = s + s; out len(s); } }",
		"fn f() { let s = \"0123456789abcdef\"; for i in 0..11 { s = s + s; } out s; out s; out 1; }",
		"fn f() { while true { } }",
	}
}

func calls() []string {
	return []string{
		"fn f() { return f(); }",
		"fn f() { return g(); } fn g() { 5; }",
		"fn f() { return g(1, 2, 3); } fn g(a, b, c) { return a * 100 + b * 10 + c; }",
		"fn f() { return g(g(9, 2), g(5, 4)); } fn g(a, b) { return a - b; }",
		"fn f() { let f = 1; return g(f); } fn g(g) { if g > 2 { return g; } return g(g + 1); }",
		"fn f() { let a = 1; g(a); return a; } fn g(a) { a = 2; let b = 3; }",
		"fn f() { let r = row(1); g(r); return r[0]; } fn g(a) { a[0] = 2; a = nil; }",
		"fn f() { let a = 1; let b = 2; return a + g(b) + b; } fn g(x) { let y = x * 10; x = y; return x + y; }",
		"fn f() { let a = 1; a = g(a, a + 1); a = g(a, g(a, a)); return a; } fn g(a, b) { a = a * b; return a; }",
		"fn f() { for i in 0..9 { if i == 3 { return i; } } return nil; }",
		"fn f() { a: while true { for i in 0..9 { b: while true { if true { let x = 5; return x; } } } } }",
		"fn f() { for i in 0..3 { out g(i); } return \"end\"; } fn g(n) { for j in 0..9 { for k in 0..9 { if j * k > n { return j * 10 + k; } } } }",
		"fn f() { let a = 1; if true { let b = g() + g(); out b; } return a; } fn g() { let c = 2; while true { let d = c; return d; } }",
		"fn f() { for i in g(0)..g(3) { out i; } } fn g(n) { for j in 0..9 { if j == n { return j; } } }",
		"fn f() { while g() { } } fn g() { return nil; }",
		"fn f() { return g(1 // 0, nil + 1); } fn g(a, b) { }",
		"fn f() { return row(3)[g()] == nil or g() == 0; } fn g() { out 1; return 0; }",
		"fn f() { return g(1, g(2, g(3, g(4, 5)))); } fn g(a, b) { return a * 10 + b; }",
		"fn f() { return g(0, 1, 2, 3, 4, 5, 6, 7, 8, 9, 10, 11, 12, 13, 14, 15); } fn g(a, b, c, d, e, f, g, h, i, j, k, l, m, n, o, p) { return p - a; }",
	}
}

// memories need cells: a row of three has 4 units, a string of eight bytes 2, a whole number that is not small 2.
func memories() []string {
	return []string{
		`fn f() { return "abcdefgh" + "abcdefgi" + "abcdefgj"; }`,
		`fn f() { return "a" + ("bcdefgh" + "abcdefgi"); }`,
		`fn f() { return row(3) == (row(3) == row(3)); }`,
		`fn f() { return (row(3) == row(3)) == (row(3) == row(3)); }`,
		`fn f() { return -140737488355329; }`,
		`fn f() { return -(140737488355328 + 140737488355329); }`,
		`fn f() { let n = 140737488355329; return row(3) == -n; }`,
		`fn f() { return 140737488355327 + 1; }`,
		`fn f() { let s = 0; for i in 0..6 { s = 140737488355325 + i; } return s; }`,
		`fn f() { return row(3)[len(row(3)) - 3]; }`,
		`fn f() { row(3)[len(row(3)) - 3] = row(3); }`,
		`fn f() { let r = row(2); r[0] = "abcdefgh"; r[1] = "abcdefgh"; r[0] = nil; r[1] = nil; r[0] = "abcdefgh"; }`,
		`fn f() { let b = u8(8); let v = view(b, "u8", 0, 1); b = nil; return len(row(3)); }`,
		`fn f() { return row(3)[row(3)]; }`,
		`fn g(a, b, c) { return 1; } fn f() { return g(row(1), row(1), row(1)); }`,
		`fn g(a, b, c) { return 1; } fn f() { let r = row(1); return g(r, 5, len(row(1))); }`,
		`fn f() { return sub("abcdefgh", len(row(3)) - 3, 5); }`,
		`fn f() { return store(row(3), 0, row(3)); }`,
		`fn g(a) { a = nil; return len(row(3)); } fn f() { return g(row(3)); }`,
		`fn g(a) { a = nil; return len(row(4)); } fn f() { return row(3) == g(row(3)); }`,
		`fn g(a) { a = nil; return len(row(3)); } fn f() { let b = row(3); return g(b); }`,
		`fn g() { return row(3); } fn f() { let a = row(3); a = g(); a = g(); return len(a); }`,
		`fn g() { return row(3); } fn h(a) { return row(1)[a == g()]; } fn f() { return row(2) == h(row(4)); }`,
		`fn g(n, a) { if n == 0 { return row(3); } return g(n - 1, row(3)); } fn f() { return g(5, nil); }`,
		`fn g() { return len(row(3)); } fn f() { if true { let a = row(3); } let b = row(3); g(); let c = row(1); }`,
		`fn g() { return len(row(3)); } fn f() { for i in "abcdefgh"..g() { } }`,
		`fn f() { l: for i in len(row(3))..len(row(3)) + 1 { let a = row(3); } }`,
		`fn f() { for i in 140737488355328..140737488355328 { } }`,
		`fn g() { let a = row(3); let b = nil; return len(a); } fn f() { return g() + g() + len(row(3)); }`,
		`fn g() { for i in 0..3 { while true { let a = row(3); return a; } } } fn f() { let a = g(); a = nil; return g(); }`,
		`fn f() { let a = row(3); a = row(3); a = row(3); return len(a); }`,
		`fn f() { let a = row(3); if true { let a = a; a = nil; let b = row(3); } }`,
		`fn f() { let a = row(3); if true { a = nil; let a = row(3); } let b = row(4); }`,
		`fn f() { if false { } else if true { let a = row(3); } let b = row(3); let c = nil; }`,
		`let g; let h; fn f() { g = row(3); h = g; g = nil; let b = row(3); }`,
		`let g; fn f() { g = row(1); return g == h(); } fn h() { g = nil; return len(row(3)); }`,
		`fn f() { if row(3) == nil { } else { row(3); } row(3); }`,
		`fn f() { return row(3) == nil or len(row(3)) == 3 and row(3) != nil; }`,
		`fn f() { let a = row(3) != nil and row(3) != nil; return len(row(4)); }`,
		`fn f() { out "abcdefgh" + "abcdefgh"; out "abcdefgh" + "abcdefgh"; }`,
		`fn f() { for i in 0..3 { i = row(3); let b = row(3); } let b = row(3); }`,
		`fn f() { let n = 0; while n < len(row(3)) { n = n + 1; let a = row(3); continue; } }`,
		`fn f() { for i in 0..3 { let a = row(3); if i == 1 { continue; } a = nil; let b = row(3); break; } let b = row(3); }`,
		`fn f() { l: for i in 0..2 { let a = row(3); while true { let b = row(3); for j in 0..9 { j = b; continue l; } } } let c = row(4); let d = row(2); }`,
		`let g; fn f() { let a = row(1); let b = row(1); a[0] = b; b[0] = a; g = nil; return 5; }`,
		`fn f() { let a = row(3); return a[0] == g(); } fn g() { return row(3) == nil; }`,
	}
}
