package numtext_test

import (
	"testing"

	"casket/api"
)

// The chapter's table 'Examples', row by row.

func TestExamplePrinted(t *testing.T) {
	wantFloat(t, 0x3ff8000000000000, "0x1.8p+0")
	wantFloat(t, 0xbfe0000000000000, "-0x1p-1")
	wantFloat(t, 1, "0x1p-1074")
	wantFloat(t, 0x7fefffffffffffff, "0x1.fffffffffffffp+1023")
}

func TestExampleRead(t *testing.T) {
	wantParseFloat(t, "0x18p-4", 0x3ff8000000000000, api.OK)
	wantParseFloat(t, "0x0.0p+7", 0, api.OK)
	wantParseFloat(t, "-0x0p+0", 0x8000000000000000, api.OK)
}

func TestExampleInexact(t *testing.T) {
	wantParseFloat(t, "0x1p-1075", 0, api.ErrInexact)
	wantParseFloat(t, "0x1p+1024", 0, api.ErrInexact)
	wantParseFloat(t, "0x1.00000000000001p+0", 0, api.ErrInexact)
}

func TestExampleForm(t *testing.T) {
	wantParseFloat(t, "0x1p0", 0, api.ErrForm)
	wantParseFloat(t, "0x.8p+0", 0, api.ErrForm)
	wantParseFloat(t, "0X1p+0", 0, api.ErrForm)
	wantParseFloat(t, "1", 0, api.ErrForm)
	wantParseFloat(t, "0x1p+123456", 0, api.ErrForm)
}

func TestExampleWhole(t *testing.T) {
	wantParseInt(t, "-0", 0, api.ErrForm)
	wantParseInt(t, "07", 0, api.ErrForm)
	wantParseInt(t, "9223372036854775808", 0, api.ErrRange)
	wantParseInt(t, "-9223372036854775808", -1<<63, api.OK)
}
