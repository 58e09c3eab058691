// Package ident is layer 1: see shared/doc/01-ident.md.
package ident

import (
	"cmp"
	"strconv"
	"strings"

	"copyist/api"
)

// ID is the name of an atom: its replica, and its number there, from 1 on.
type ID struct {
	R uint16
	N uint32
}

// Key is what atoms are put in order by.
type Key struct {
	Clock uint64
	R     uint16
	N     uint32
}

// Root tells whether an ID is none.
func (a ID) Root() bool { return a == ID{} }

// Right tells whether an atom may have an ID.
func (a ID) Right() bool { return a.N >= 1 && a.N <= api.MaxN }

// Compare is -1, 0 or 1: which of two IDs is the lesser one.
func (a ID) Compare(b ID) int {
	if c := cmp.Compare(a.R, b.R); c != 0 {
		return c
	}
	return cmp.Compare(a.N, b.N)
}

// Plus is the ID so many numbers behind one.
func (a ID) Plus(n int) ID { return ID{R: a.R, N: a.N + uint32(n)} }

// Compare is -1, 0 or 1: which of two keys is the lesser one.
func (k Key) Compare(o Key) int {
	if c := cmp.Compare(k.Clock, o.Clock); c != 0 {
		return c
	}
	return k.ID().Compare(o.ID())
}

// ID is the ID of the atom with a key.
func (k Key) ID() ID { return ID{R: k.R, N: k.N} }

// Plus is the key so many numbers behind one.
func (k Key) Plus(n int) Key { return Key{Clock: k.Clock, R: k.R, N: k.N + uint32(n)} }

// Show is an ID as a text.
func (a ID) Show() string {
	return strconv.FormatUint(uint64(a.R), 10) + ":" + strconv.FormatUint(uint64(a.N), 10)
}

// Read is the ID that a text shows.
func Read(s string) (ID, api.Errno) {
	// A text without a colon leaves nothing behind it, which is no number.
	before, behind, _ := strings.Cut(s, ":")
	r, err := strconv.ParseUint(before, 10, 16)
	if err != nil {
		return ID{}, api.ErrForm
	}
	n, err := strconv.ParseUint(behind, 10, 32)
	if err != nil {
		return ID{}, api.ErrForm
	}
	a := ID{R: uint16(r), N: uint32(n)}
	// Each ID is shown in one way alone, but strconv takes noughts ahead too.
	if a.Show() != s {
		return ID{}, api.ErrForm
	}
	return a, api.OK
}

// Tick is the time behind a time.
func Tick(clock uint64) (uint64, api.Errno) {
	if clock >= api.MaxClock {
		return 0, api.ErrOverflow
	}
	return clock + 1, api.OK
}

// Later is the latest of some times.
func Later(clock uint64, more ...uint64) uint64 {
	for _, c := range more {
		clock = max(clock, c)
	}
	return clock
}

// Take takes so many numbers, from the next one on; what is next then.
func Take(next uint32, count int) (uint32, api.Errno) {
	if count < 0 || next == 0 {
		return 0, api.ErrRange
	}
	// The greatest count and the greatest next together still fit 64 bits without a sign.
	sum := uint64(next) + uint64(count)
	if sum > api.MaxN+1 {
		return 0, api.ErrOverflow
	}
	return uint32(sum), api.OK
}
