package image

import (
	"slices"

	"casket/api"
)

// parts are bytes that are read from the front.
type parts struct {
	bytes []byte
	at    int       // where the next part begins
	told  api.Fault // what is wrong
}

// refuse does not come back: the face recovers, and answers what is told.
func (p *parts) refuse(code api.Errno, at int) {
	p.told = api.Fault{Code: code, At: at}
	panic(p.told)
}

// want refuses what is not right.
func (p *parts) want(right bool, code api.Errno, at int) {
	if !right {
		p.refuse(code, at)
	}
}

// run is the next n bytes, where they stand.
func (p *parts) run(n int64) []byte {
	p.want(n <= int64(len(p.bytes)-p.at), api.ErrCut, p.at)
	from := p.at
	p.at += int(n)
	return p.bytes[from:p.at]
}

func (p *parts) byte() int { return int(p.run(1)[0]) }

// eight is a number of eight bytes, the lowest first.
func (p *parts) eight() uint64 {
	x := uint64(0)
	for i, b := range p.run(8) {
		x |= uint64(b) << (8 * i)
	}
	return x
}

// Of a Short: how many bits of the number a byte has, what it has beside them, if another one comes, and how many bytes there are at most.
const (
	shortBits = 7
	shortMore = 1 << shortBits
	shortMost = 9
)

// short is a number of as few bytes as it needs. One of which the last byte is missing is not all there, however many bytes it has.
func (p *parts) short() int64 {
	at := p.at
	last := slices.IndexFunc(p.bytes[at:], func(b byte) bool { return b < shortMore })
	p.want(last >= 0, api.ErrCut, at)
	group := p.run(int64(last) + 1)
	p.want(len(group) <= shortMost && (last == 0 || group[last] != 0), api.ErrForm, at)
	x := int64(0)
	for i, b := range group {
		x |= int64(b%shortMore) << (shortBits * i)
	}
	return x
}

// bounded is a Short that is at most as great as it may be.
func (p *parts) bounded(most int64, code api.Errno) int64 {
	at := p.at
	x := p.short()
	p.want(x <= most, code, at)
	return x
}
