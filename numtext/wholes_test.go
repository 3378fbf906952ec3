package numtext_test

import (
	"math/big"
	"regexp"
	"strings"
	"testing"

	"casket/api"
	"casket/numtext"
)

// Promise 4.1.

func TestIntByHand(t *testing.T) {
	for i, want := range map[int64]string{
		0: "0", 1: "1", -1: "-1", 9: "9", 10: "10", -9: "-9", -10: "-10", 99: "99", 100: "100", 1007: "1007",
		most: "9223372036854775807", least: "-9223372036854775808", least + 1: "-9223372036854775807",
		1000000000000000000: "1000000000000000000", 999999999999999999: "999999999999999999",
	} {
		if got := numtext.Int(i); got != want {
			t.Errorf("Int(%d) is %q; want %q", i, got, want)
		}
		wantParseInt(t, want, i, api.OK)
	}
}

func TestIntExactly(t *testing.T) {
	list := wholeEdges()
	for _, bits := range mixed(2000) {
		list = append(list, int64(bits), int64(bits)>>(bits%64))
	}
	for _, i := range list {
		want := big.NewInt(i).String()
		if got := numtext.Int(i); got != want {
			t.Errorf("Int(%d) is %q", i, got)
		}
		wantParseInt(t, want, i, api.OK)
	}
}

func TestParseIntForm(t *testing.T) {
	for _, s := range []string{
		"", "-", "+", "--", "--1", "-+1", "+-1", "+1", "+0", "-0", "00", "-00", "01", "07", "-07", "000", "0123456789",
		" ", " 1", "1 ", "1 2", "\t1", "1\n", "- 1", "1-", "1-2", "1+", "1_000", "1,000", "1.", "1.0", ".1", "1e3",
		"a", "1a", "a1", "-a", "0x", "0x1", "0x1p+0", "-0x1", "0b1", "0o7", "nan", "inf", "-inf",
		"/", ":", "1/", "1:", "/1", ":1", "\x00", "1\x00", "\x001", "\x80", "1\x80", "\xff", "\xb1", "٣", "１", "−1",
	} {
		wantParseInt(t, s, 0, api.ErrForm)
	}
}

func TestParseIntEveryByte(t *testing.T) {
	for c := range 256 {
		text := string([]byte{byte(c)})
		isDigit := c >= '0' && c <= '9'
		if isDigit {
			wantParseInt(t, text, int64(c-'0'), api.OK)
			wantParseInt(t, "1"+text+"2", int64(100+10*(c-'0')+2), api.OK)
			continue
		}
		wantParseInt(t, text, 0, api.ErrForm)
		wantParseInt(t, "1"+text, 0, api.ErrForm)
		wantParseInt(t, "1"+text+"2", 0, api.ErrForm)
		if c != '-' {
			wantParseInt(t, text+"1", 0, api.ErrForm)
		}
	}
}

func TestParseIntRange(t *testing.T) {
	for _, s := range []string{
		"9223372036854775808", "9223372036854775809", "9223372036854775810", "-9223372036854775809", "-9223372036854775810",
		"9300000000000000000", "9999999999999999999", "-9999999999999999999", "10000000000000000000", "18446744073709551615",
		"18446744073709551616", "18446744073709551617", "-18446744073709551616", "-18446744073709551617", "92233720368547758070",
		"36893488147419103232", "1" + strings.Repeat("0", 62), "-1" + strings.Repeat("0", 62), strings.Repeat("9", 63), "-" + strings.Repeat("9", 63),
	} {
		wantParseInt(t, s, 0, api.ErrRange)
	}
}

func TestParseIntLength(t *testing.T) {
	for _, length := range []int{63, 64} {
		wantParseInt(t, strings.Repeat("1", length), 0, api.ErrRange)
		wantParseInt(t, strings.Repeat("0", length), 0, api.ErrForm)
		wantParseInt(t, "0"+strings.Repeat("1", length-1), 0, api.ErrForm)
		wantParseInt(t, strings.Repeat("9", length-1)+"x", 0, api.ErrForm)
		wantParseInt(t, strings.Repeat("x", length), 0, api.ErrForm)
	}
	for _, length := range []int{65, 66, 1000, 1 << 20} {
		for _, part := range []string{"1", "0", "x", " ", "\xff"} {
			wantParseInt(t, strings.Repeat(part, length), 0, api.ErrLong)
		}
		wantParseInt(t, "-"+strings.Repeat("1", length-1), 0, api.ErrLong)
	}
	// The limit is one of bytes, not of characters.
	wantParseInt(t, strings.Repeat("é", 32), 0, api.ErrForm)
	wantParseInt(t, strings.Repeat("é", 33), 0, api.ErrLong)
}

var wholeForm = regexp.MustCompile(`^(0|-?[1-9][0-9]*)$`)

// Texts of few bytes, all of them, and texts about the bounds, against exact numbers.
func TestParseIntExactly(t *testing.T) {
	check := func(s string) {
		t.Helper()
		if !wholeForm.MatchString(s) {
			wantParseInt(t, s, 0, api.ErrForm)
			return
		}
		exact, _ := new(big.Int).SetString(s, 10)
		if exact.IsInt64() {
			wantParseInt(t, s, exact.Int64(), api.OK)
		} else {
			wantParseInt(t, s, 0, api.ErrRange)
		}
	}
	everyText("-+019 a", 5, check)
	for _, edge := range []int64{least, most} {
		for step := int64(-30); step <= 30; step++ {
			check(new(big.Int).Add(big.NewInt(edge), big.NewInt(step)).String())
		}
	}
	for _, bits := range mixed(3000) {
		digits := new(big.Int).SetUint64(bits)
		check(digits.String())
		check(new(big.Int).Neg(digits).String())
		check(digits.Mul(digits, digits).String())
	}
}

// everyText tells every text of at most so many of these bytes.
func everyText(letters string, longest int, tell func(s string)) {
	texts := []string{""}
	for range longest + 1 {
		var next []string
		for _, s := range texts {
			tell(s)
			for at := range len(letters) {
				next = append(next, s+letters[at:at+1])
			}
		}
		texts = next
	}
}
