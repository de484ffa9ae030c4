// Package accept: whether a machine program does what a source program does, whoever made it.
package accept

import (
	"spill/api"
	"spill/code"
)

// entry is what is known so far of a block: whether it can be reached, the pairs that it is begun with, and whether it has yet to be played with just these.
type entry struct {
	reached bool
	waits   bool
	pairs   pairs
}

// table has an entry for each block that a program can have.
type table struct {
	entries [api.MaxBlocks]entry
}

// Accepted tells whether machine program t is accepted for source program s.
func Accepted(s *code.Program, t *code.Program) bool {
	if len(s.Blocks) != len(t.Blocks) {
		return false
	}
	known := table{}
	first := atBeginning()
	known.handOn(0, &first)
	// A block waits when it is reached and whenever it has lost a pair, so there are more rounds than blocks that wait.
	for round := 0; round <= api.MaxBlocks*(mostPairs+1); round++ {
		b := known.next()
		if b == code.None {
			return true
		}
		// Blocks only lose pairs, and with fewer pairs nothing more is allowed: what is not well played now is not with those that are left in the end.
		if !known.playBlock(s, t, b) {
			return false
		}
	}
	return false
}

// next tells which block waits, and None if none does.
func (known *table) next() int {
	for b := 0; b < len(known.entries); b++ {
		if known.entries[b].waits {
			return b
		}
	}
	return code.None
}

// playBlock plays block b and hands on what it ends with; it answers false if the block is not well played.
func (known *table) playBlock(s *code.Program, t *code.Program, b int) bool {
	if b < 0 || b >= len(known.entries) || b >= len(s.Blocks) {
		return false
	}
	known.entries[b].waits = false
	e := known.entries[b].pairs
	if !e.play(s, t, b) {
		return false
	}
	last := s.Blocks[b].Last
	if last < 0 || last >= len(s.Code) {
		return false
	}
	known.handOn(s.Code[last].K, &e)
	known.handOn(s.Code[last].M, &e)
	return true
}

// handOn tells block b, which may be None, with which pairs it is come to.
func (known *table) handOn(b int, e *pairs) {
	if b < 0 || b >= len(known.entries) {
		return
	}
	if !known.entries[b].reached {
		known.entries[b] = entry{reached: true, waits: true, pairs: *e}
		return
	}
	before := known.entries[b].pairs
	known.entries[b].pairs.meet(e)
	if known.entries[b].pairs != before {
		known.entries[b].waits = true
	}
}
