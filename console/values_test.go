package console_test

import (
	"fmt"
	"strconv"
	"strings"
	"testing"

	"casket/api"
)

// 18.2: values, in and out.

// Each value goes in by all ways that there are, and comes out by all of them.
func TestValues(t *testing.T) {
	for _, x := range []struct{ in, out string }{
		{"nil", "nil"}, {"true", "true"}, {"false", "false"},
		{"0", "0"}, {"1", "1"}, {"-1", "-1"}, {"42", "42"},
		{"140737488355327", "140737488355327"}, {"140737488355328", "140737488355328"},
		{"-140737488355328", "-140737488355328"}, {"-140737488355329", "-140737488355329"},
		{"9223372036854775807", "9223372036854775807"}, {"-9223372036854775808", "-9223372036854775808"},
		{"0x1p+0", "0x1p+0"}, {"0x18p-4", "0x1.8p+0"}, {"-0x1.8p+1", "-0x1.8p+1"}, {"0x1.80p+00001", "0x1.8p+1"},
		{"0x0p+0", "0x0p+0"}, {"-0x0p+0", "-0x0p+0"}, {"0x0.0p+7", "0x0p+0"}, {"-0x00p-9", "-0x0p+0"},
		{"0x1p-1074", "0x1p-1074"}, {"0x1.fffffffffffffp+1023", "0x1.fffffffffffffp+1023"}, {"-0x1.fffffffffffffp+1023", "-0x1.fffffffffffffp+1023"},
		{"inf", "inf"}, {"-inf", "-inf"}, {"nan", "nan"},
		{`""`, `""`}, {`"a"`, `"a"`}, {`"a b"`, `"a b"`}, {`"hello, world"`, `"hello, world"`},
		{`"\\"`, `"\\"`}, {`"\""`, `"\""`}, {`"\n"`, `"\n"`}, {`"\x0a"`, `"\n"`}, {`"\x41\x22\x5c"`, `"A\"\\"`}, {`"\x00\xff"`, `"\x00\xff"`},
		{`"\\n"`, `"\\n"`}, {`"\\\""`, `"\\\""`}, {`" "`, `" "`}, {`"~!'|#@"`, `"~!'|#@"`},
	} {
		both(t, "|let g; fn f(a) { return a; } fn r() { return row(2); }", "", "new 99", "ok",
			"run f 9 "+x.in, "value "+x.out+" ticks 2",
			"set g "+x.in, "ok", "global g", "value "+x.out,
			"run r 9", "value @0:row:2 ticks 2", "poke 0 1 "+x.in, "ok", "peek 0 1", "value "+x.out, "peek 0 0", "value nil",
			"start f 9 "+x.in, "ok", "step 1", "state 1 1 10 0 "+x.out, "step 9", "value "+x.out+" ticks 2",
			"run f 9 "+x.out, "value "+x.out+" ticks 2")
	}
}

// A string of each byte, as it is where it may be, and by its number.
func TestStringsOfEachByte(t *testing.T) {
	turns := []string{"|let g;", "", "new 99", "ok"}
	for b := range 256 {
		hex := fmt.Sprintf(`"\x%02x"`, b)
		out := spelt(string([]byte{byte(b)}))
		turns = append(turns, "set g "+hex, "ok", "global g", "value "+out)
		turns = append(turns, `set g "a`+hex[1:len(hex)-1]+` z"`, "ok", "global g", `value "a`+out[1:len(out)-1]+` z"`)
		switch plain := `"` + string([]byte{byte(b)}) + `"`; {
		case b == '\n': // that ends the line
		case b < 32 || b > 126 || b == '"' || b == '\\':
			turns = append(turns, "set g "+plain, "!110")
		default:
			turns = append(turns, "set g "+plain, "ok", "global g", "value "+out)
		}
	}
	both(t, turns...)
}

// spelt is a string as it is told.
func spelt(s string) string {
	var told strings.Builder
	for _, b := range []byte(s) {
		switch {
		case b == '\\' || b == '"':
			fmt.Fprintf(&told, `\%c`, b)
		case b == 10:
			told.WriteString(`\n`)
		case b >= 32 && b <= 126:
			told.WriteByte(b)
		default:
			fmt.Fprintf(&told, `\x%02x`, b)
		}
	}
	return `"` + told.String() + `"`
}

// What is no value is refused, whichever line asks for one; nothing is changed by it.
func TestNoValues(t *testing.T) {
	for _, word := range []string{
		"Nil", "NIL", "nill", "ni", "True", "truefalse", "t", "x", "f", "g", "'a'", "`a`", "*", "w", "n", "v",
		"+5", "-0", "007", "00", "-07", "--5", "-", "+", "5a", "1.5", "1e3", "1_000", "5-", "٣",
		"9223372036854775808", "-9223372036854775809", strings.Repeat("9", 64), strings.Repeat("9", 65),
		"0x", "0x1", "0x1p", "0x1p0", "0x1p+", "0X1p+0", "0x1P+0", "0x1p+0 x", "0x.8p+0", "0x1.p+0", "0xAp+0", "0x1p+123456", "+0x1p+0",
		"0x1p-1075", "0x1p+1024", "0x1.00000000000001p+0", "Inf", "+inf", "infinity", "-nan", "NaN",
		"@", "@-1", "@+1", "@-0", "@00", "@01", "@x", "@0x", "@ 0", "@@0", "@0@", "@0:row:1", "@0:row", "@1.0", "@9223372036854775808", "@99999999999999999999", "@" + strings.Repeat("1", 65), `@"0"`, "0@",
		`"`, `"a`, `"a b`, `"\"`, `"a\"`, `"\`, `"\q"`, `"\t"`, `"\N"`, `"\x"`, `"\x4"`, `"\x4g"`, `"\xAB"`, `"\X41"`, `"\u0041"`, `"\`,
		`"a"b`, `"a""b"`, `"a"1`, `"a"@0`, `""""`, `"a"\`, `"a"#`, `"a"nil`, `"a" "b`, `a"b"`, `a"b c"`, `'a b'`,
		"\"\t\"", "\"\x00\"", "\"\x7f\"", "\"\x80\"", "\"é\"", "\"a\"\t", "1\t", "nil\r",
	} {
		both(t, "|let g; fn f(a) { return row(1); }", "", "new 99", "ok", "run f 9 7", "value @0:row:1 ticks 2", "set g 8", "ok",
			"run f 9 "+word, "!110", "start f 9 "+word, "!110", "set g "+word, "!110", "poke 0 0 "+word, "!110",
			"run f 9 nil "+word, "!110", "run f 9 "+word+" nil", "!110",
			"step 0", "value @0:row:1 ticks 2", "global g", "value 8", "peek 0 0", "value nil")
	}
}

// makers has a function for things of each Kind, with as many elements as it is asked for.
const makers = "|let g; fn a(n) { return f64(n); } fn b(n) { return f32(n); } fn c(n) { return i16(n); } fn d(n) { return u8(n); } fn e(n) { return row(n); } fn k(x) { return kind(x); } fn v(x, k, i, n) { return view(x, k, i, n); } fn same(x, y) { return x == y; }"

var names = []struct{ maker, kind string }{{"a", "f64"}, {"b", "f32"}, {"c", "i16"}, {"d", "u8"}, {"e", "row"}}

// Things of each Kind, of no elements and of some.
func TestThingsOut(t *testing.T) {
	turns := []string{makers, "", "new 9999", "ok"}
	ref, at := 0, strings.Index(makers, "return kind")-len("|")
	for _, n := range []int{0, 1, 3, 100} {
		for _, x := range names {
			thing := fmt.Sprintf("@%d:%s:%d", ref, x.kind, n)
			in := "@" + strconv.Itoa(ref)
			turns = append(turns, fmt.Sprintf("run %s 9 %d", x.maker, n), "value "+thing+" ticks 2",
				"set g "+in, "ok", "global g", "value "+thing,
				"run k 9 "+in, `value "`+x.kind+`" ticks 2`, "run same 9 "+in+" "+in, "value true ticks 2",
				"start k 9 "+in, "ok", "step 2", fmt.Sprintf("state 2 1 %d 0 %s:%d", at, x.kind, n), "step 9", `value "`+x.kind+`" ticks 2`)
			ref++
		}
	}
	both(t, turns...)
}

// A thing that is handed in is told by its number alone, of whatever Kind it is; views, too.
func TestThingsIn(t *testing.T) {
	both(t, makers, "", "new 99", "ok",
		"run d 9 8", "value @0:u8:8 ticks 2",
		`run v 9 @0 "i16" 2 3`, "value @1:i16:3 ticks 2",
		`run v 9 @1 "f32" 2 1`, "value @2:f32:1 ticks 2",
		`run v 9 @0 "f64" 0 0`, "value @3:f64:0 ticks 2",
		"run e 9 4", "value @4:row:4 ticks 2",
		"poke 4 0 @0", "ok", "poke 4 1 @1", "ok", "poke 4 2 @4", "ok", "poke 4 3 @4", "ok",
		"peek 4 0", "value @0:u8:8", "peek 4 1", "value @1:i16:3", "peek 4 2", "value @4:row:4",
		"poke 0 3 1", "ok", "peek 1 0", "value 256", "poke 1 0 -2", "ok", "peek 0 2", "value 254", "peek 0 3", "value 255",
		"poke 2 0 0x1.8p+0", "ok", "peek 2 0", "value 0x1.8p+0", "peek 0 7", "value 63", "peek 3 0", "!31",
		"poke 0 0 256", "!13", "poke 0 0 @0", "!51", "poke 1 0 0x1p+0", "!51", "poke 2 0 3", "ok", "peek 2 0", "value 0x1.8p+1",
		"run same 9 @0 @1", "value false ticks 2", "run k 9 @2", `value "f32" ticks 2`)
}

// A thing keeps its number as long as it is held, and gets another one behind that.
func TestNumbersOfThings(t *testing.T) {
	both(t, makers, "", "new 99", "ok",
		"run e 9 1", "value @0:row:1 ticks 2", "run a 9 2", "value @1:f64:2 ticks 2",
		"set g @1", "ok", "global g", "value @1:f64:2", "global g", "value @1:f64:2",
		"release 1", "ok", "set g @1", "!101", "global g", "value @2:f64:2", "set g @1", "!101", "run k 9 @2", `value "f64" ticks 2`,
		"release 2", "ok", "release 2", "!101", "release 1", "!101", "release 0", "ok", "run k 9 @0", "!101", "global g", "value @3:f64:2",
		"run d 9 0", "value @4:u8:0 ticks 2", "release 4", "ok", "step 0", "value @4:u8:0 ticks 2", "run k 9 @4", "!101", "set none @4", "!101", "run c 9 1", "value @5:i16:1 ticks 2", "run k 9 @5", `value "i16" ticks 2`)
}

// What is held is held by one machine: another one begins anew.
func TestThingsOfAnotherMachine(t *testing.T) {
	both(t, makers, "", "new 99", "ok", "run e 9 1", "value @0:row:1 ticks 2", "run a 9 1", "value @1:f64:1 ticks 2",
		"new 99", "ok", "run k 9 @0", "!101", "set g @1", "!101", "run d 9 1", "value @0:u8:1 ticks 2", "run k 9 @0", `value "u8" ticks 2`, "run k 9 @1", "!101")
}

// A string in a script may be longer than a source is: it is read as a value, and has no bound but the script's.
func TestLongStrings(t *testing.T) {
	for _, n := range []int{api.MaxSource - 2, api.MaxSource - 1, api.MaxSource, 3 * api.MaxSource} {
		long := strings.Repeat("x y", n/3+1)[:n]
		both(t, "|let g; fn f(s) { g = s; return len(s); }", "", "new 99999", "ok", `run f 9 "`+long+`"`, fmt.Sprintf("value %d ticks 3", n), "global g", `value "`+long+`"`)
	}
}
