package turns_test

import (
	"math/rand"
	"strings"

	"casket/api"
)

// rule is what a capital letter may stand for; plain ones have no letters of their own.
type rule struct{ plain, deep []string }

// rules: N is a number, S a string, R a thing, T a truth, A anything, C a statement.
func rules() map[byte]rule {
	return map[byte]rule{
		'N': {[]string{"0", "1", "2", "7", "n", "i", "n", "0x1.8p+0", "140737488355327"},
			[]string{"(N + N)", "(N - N)", "(N * N)", "(N // N)", "(N % 5)", "(N / 4)", "-N", "(n & 6)", "len(S)", "len(R)", "int(N)", "float(N)", "k(A, N)", "r[0]", "b"}},
		'S': {[]string{`""`, `"ab"`, `"abcdefgh"`, "s", "s"}, []string{"(S + S)", "(S + S)", "text(N)", "sub(S, 0, 1)", "kind(A)"}},
		'R': {[]string{"r", "r", "row(2)", "f64(1)", "u8(9)"}, []string{`view(u8(8), "i16", 2, 3)`, "row(N)", "h(A)", "g"}},
		'T': {[]string{"true", "false"}, []string{"N < N", "N <= N", "N == N", "S == S", "S < S", "not (T)", "(T or T)", "(T and T)", "n < 9"}},
		'A': {[]string{"nil", "true", "n", "s", "r", "a", "g", "e"}, []string{"N", "S", "R", "T", "f(A, A)"}},
		'C': {[]string{"n = n + 1;", "out n;", "out s;", "g = r;"},
			[]string{"n = N;", "s = S;", "s = s + S;", "r = R;", "r[0] = A;", "R[1] = A;", "a = A;", "g = A;", "e = N;", "out N;", "out S;", "out T;", "k(A, N);", "h(A);", "return A;",
				"if true { let x = A; if T { let x = N; out x; } }", "if T B", "if T B else B", "if T B else if T B else B",
				"for i in 0..4 L", "for i in 0..N L", "x: while T L", "while n < 9 { n = n + 1; if true L }"}},
	}
}

// drawer writes a source: the deeper it is in what it writes, the less it takes what leads on.
type drawer struct {
	*rand.Rand
	strings.Builder
	rules map[byte]rule
}

// drawn is a source with functions f, k and h and globals g and e; mostly one that is taken.
func drawn(seed int64) string {
	d := &drawer{Rand: rand.New(rand.NewSource(seed)), rules: rules()}
	d.WriteString("let g; let e;\n")
	for _, head := range []string{"f(a, b) {", "k(a, b) {", "h(b) { let a = b;"} {
		d.WriteString("fn " + head + ` let n = 0; let i = 1; let s = "s"; let r = row(2); `)
		for range 2 + d.Intn(4) {
			d.write("C ", 3, false)
		}
		d.WriteString("return r; }\n")
	}
	return d.String()
}

// write puts what stands for the letters in their places. L is a block of a loop, and B one of whatever stands around it.
func (d *drawer) write(form string, depth int, loop bool) {
	for _, c := range []byte(form) {
		switch {
		case c == 'B' || c == 'L':
			d.block(depth-1, loop || c == 'L')
		case c >= 'A' && c <= 'Z':
			d.write(d.choose(c, depth), depth-1, loop)
		default:
			d.WriteByte(c)
		}
	}
}

func (d *drawer) choose(c byte, depth int) string {
	list := d.rules[c].deep
	if depth <= 0 || d.Intn(3) == 0 {
		list = d.rules[c].plain
	}
	return list[d.Intn(len(list))]
}

func (d *drawer) block(depth int, loop bool) {
	d.WriteString("{ ")
	for range d.Intn(4) {
		d.write("C ", depth, loop)
	}
	if loop && d.Intn(3) == 0 {
		d.write([]string{"break; ", "continue; ", "if T { break; } "}[d.Intn(3)], 1, loop)
	}
	d.WriteString("} ")
}

// drawnArg is one for a function; things are those that went out of the machine.
func drawnArg(d *rand.Rand, things []api.Raw) api.Raw {
	list := append(raws(null, whole(0), whole(3), whole(1<<47-1), whole(-1<<63), text("abc"), text("abcdefgh"),
		api.Raw{Kind: api.Bool, Int: 1}, api.Raw{Kind: api.Float, Bits: 0x3ff8000000000000}), things...)
	return list[d.Intn(len(list))]
}
