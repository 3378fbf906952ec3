package console_test

import "testing"

// 18.3: what is asked of a machine between runs, and of its sites.

func TestGlobals(t *testing.T) {
	both(t, "|let a; let b; fn f(x) { a = x; b = row(x); }", "", "new 20", "ok", "global a", "value nil", "global b", "value nil", "global c", "!63", "global f", "!63", "global x", "!63", "global A", "!63",
		"set a 5", "ok", "global a", "value 5", "global b", "value nil", "set c 5", "!63", "set f 5", "!63", "run f 9 2", "value nil ticks 3", "global a", "value 2", "global b", "value @0:row:2",
		"set a @0", "ok", "set b nil", "ok", "global a", "value @0:row:2", "set a \"a longer text than there is room for: it is refused, and the global stays what it was, by rule R2: there are twenty units of eight bytes, and this needs more of them\"", "!40", "global a", "value @0:row:2",
		"start f 9 1", "ok", "global a", "!102", "global c", "!102", "set a 1", "!102", "set c 1", "!102", "step 9", "value nil ticks 3", "global a", "value 1")
}

func TestPeekAndPoke(t *testing.T) {
	both(t, "|fn f(n) { return row(n); } fn u(n) { return u8(n); }", "", "new 20", "ok", "peek 0 0", "!101", "poke 0 0 1", "!101", "run f 9 3", "value @0:row:3 ticks 2",
		"peek 0 0", "value nil", "poke 0 0 7", "ok", "poke 0 1 \"ab\"", "ok", "poke 0 2 @0", "ok", "peek 0 0", "value 7", "peek 0 1", `value "ab"`, "peek 0 2", "value @0:row:3",
		"peek 0 3", "!31", "poke 0 3 1", "!31", "peek 0 9223372036854775807", "!31", "peek 1 0", "!101", "poke 1 0 1", "!101", "peek 9223372036854775807 0", "!101", "peek 4294967296 0", "!101", "poke 4294967296 0 5", "!101", "peek 2147483648 0", "!101", "peek 0 0", "value 7",
		"run u 9 2", "value @1:u8:2 ticks 2", "poke 1 0 255", "ok", "poke 1 1 256", "!13", "poke 1 1 -1", "!13", "poke 1 1 nil", "!51", "poke 1 1 0x1p+0", "!51", "peek 1 0", "value 255", "peek 1 1", "value 0",
		"poke 0 1 \"a text that is much longer than all the room that there is, and that is refused therefore: nothing is written, and it stays as it was\"", "!40", "peek 0 1", `value "ab"`,
		"start f 9 0", "ok", "peek 0 0", "!102", "poke 0 0 1", "!102", "peek 9 0", "!102", "poke 9 0 1", "!102", "step 9", "value @2:row:0 ticks 2", "peek 0 0", "value 7")
}

func TestRelease(t *testing.T) {
	both(t, "|fn f(n) { return row(n); }", "", "new 20", "ok", "release 0", "!101", "run f 9 3", "value @0:row:3 ticks 2", "release 1", "!101", "reach", "reach 4", "release 0", "ok", "reach", "reach 0", "release 0", "!101", "peek 0 0", "!101",
		"run f 9 1", "value @1:row:1 ticks 2", "start f 9 1", "ok", "release 1", "!102", "release 0", "!102", "step 9", "value @2:row:1 ticks 2", "release 2", "ok", "release 1", "ok", "release 9223372036854775807", "!101", "release 4294967297", "!101", "reach", "reach 0")
}

// What is reached: from globals, from what is held, and from a run that is under way.
func TestReach(t *testing.T) {
	both(t, "|let g; fn f(n) { let a = row(n); let b = \"abcdefgh\"; return a; }", "", "new 20", "ok", "reach", "reach 0", "set g \"abcdef\"", "ok", "reach", "reach 2", "start f 9 2", "ok", "reach", "reach 2", "step 3", "state 3 1 37 0 2 row:2", "reach", "reach 5", "step 1", `state 4 1 53 0 2 row:2 "abcdefgh"`, "reach", "reach 7",
		"step 1", "value @0:row:2 ticks 4", "reach", "reach 5", "set g @0", "ok", "reach", "reach 3", "release 0", "ok", "reach", "reach 3", "set g nil", "ok", "reach", "reach 0")
}

// Where what comes in finds no room.
func TestNoRoom(t *testing.T) {
	both(t, "|let g; fn f(a, b) { return a; }", "", "new 3", "ok", `run f 9 "abcdefghi" 1`, `value "abcdefghi" ticks 2`, `run f 9 "abcdefghi" "jklmno"`, "!40", `start f 9 140737488355328 140737488355328`, "!40", "step 0", `value "abcdefghi" ticks 2`,
		`set g "jklmno"`, "ok", "run f 9 140737488355328 0", "!40", "run f 9 140737488355327 0", "value 140737488355327 ticks 2", "reach", "reach 2")
}

func TestSites(t *testing.T) {
	talk(t, "vm 1", "ok", "sites", "sites 0", "|fn f() { return not true or ~1 & 2 == 3; }", "", "vm 1", "ok", "sites", "site 35 0 0 0 0",
		"clear", "ok", "|fn f() { return -1; }", "", "vm 1", "ok", "sites", "sites 0", "force 0 0", "!103",
		"clear", "ok", "|fn f(a, b) { return a + b; } fn g(a) { return a < 1; }", "", "vm 9", "ok", "sites", "site 22 0 0 0 0\nsite 48 0 0 0 0",
		"run f 9 1 2", "value 3 ticks 2", "sites", "site 22 0 1 0 0\nsite 48 0 0 0 0", "run f 9 1 2", "value 3 ticks 2", "run f 9 1 2", "value 3 ticks 2", "run f 9 1 2", "value 3 ticks 2", "sites", "site 22 1 3 1 0\nsite 48 0 0 0 0",
		"run f 9 0x1p+0 0x1p+0", "value 0x1p+1 ticks 2", "sites", "site 22 0 4 1 1\nsite 48 0 0 0 0", "force 1 2", "ok", "run g 9 0", "value true ticks 2", "sites", "site 22 0 4 1 1\nsite 48 0 1 0 1")
}

func TestForce(t *testing.T) {
	talk(t, "|fn f(a, b) { return a * b; }", "", "vm 9", "ok", "force 0 0", "ok", "sites", "site 22 0 0 0 0", "force 0 1", "ok", "sites", "site 22 1 0 0 0", "force 0 2", "ok", "sites", "site 22 2 0 0 0",
		"force 0 3", "!103", "force 1 0", "!103", "force 1 3", "!103", "force 9223372036854775807 0", "!103", "force 4294967296 0", "!103", "force 0 9223372036854775807", "!103", "force 0 4294967297", "!103", "sites", "site 22 2 0 0 0",
		"run f 9 3 4", "value 12 ticks 2", "sites", "site 22 0 1 0 1",
		"start f 9 0x1p+0 0x1p+1", "ok", "force 0 2", "ok", "step 1", "state 1 1 3 0 0x1p+0 0x1p+1", "sites", "site 22 2 1 0 1", "step 1", "state 2 1 13 0 0x1p+0 0x1p+1", "force 0 1", "ok", "force 0 2", "ok", "step 1", "value 0x1p+1 ticks 2", "sites", "site 22 2 1 1 1")
}
