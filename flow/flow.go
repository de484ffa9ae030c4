// Package flow: which registers may still be read, along the ways through a program.
package flow

import "spill/code"

// Set is a set of registers of a source program.
type Set struct {
	has [code.Registers]bool
}

// Has tells whether a register is in the set.
func (set *Set) Has(r int) bool {
	return r >= 0 && r < len(set.has) && set.has[r]
}

// put takes a register, which may be None, into the set or out of it.
func (set *Set) put(r int, in bool) {
	if r >= 0 && r < len(set.has) {
		set.has[r] = in
	}
}

// LiveAtStarts tells for each block which registers are live at its beginning.
func LiveAtStarts(p *code.Program) []Set {
	live := make([]Set, len(p.Blocks))
	// A way that comes to a block twice can be cut short, so the ways that count go through each block once at most: as many rounds as there are blocks find them all.
	for round := 0; round < len(p.Blocks); round++ {
		for b := len(p.Blocks) - 1; b >= 0; b-- {
			live[b] = liveAtStart(p, live, b)
		}
	}
	return live
}

// liveAtStart goes back through block b, from what is known so far of the blocks that may follow it.
func liveAtStart(p *code.Program, live []Set, b int) Set {
	set := Set{}
	if b < 0 || b >= len(p.Blocks) {
		return set
	}
	block := p.Blocks[b]
	for at := block.Last; at >= block.First && at >= 0 && at < len(p.Code); at-- {
		i := p.Code[at]
		set.join(live, i.K)
		set.join(live, i.M)
		set.goBack(i)
	}
	return set
}

// join adds what is live at the beginning of block b, which may be None.
func (set *Set) join(live []Set, b int) {
	if b < 0 || b >= len(live) {
		return
	}
	for r := 0; r < code.Registers; r++ {
		if live[b].Has(r) {
			set.put(r, true)
		}
	}
}

// goBack turns what is live behind an instruction into what is live ahead of it.
func (set *Set) goBack(i code.Instruction) {
	// An instruction reads ahead of writing, so going back the write comes first: a register that is both stays live.
	set.put(i.D, false)
	set.put(i.X, true)
	set.put(i.Y, true)
}

// MayReadUnset tells whether a register of a source program may be read unset: it is live at the very beginning, and nothing has written it there.
func MayReadUnset(p *code.Program) bool {
	live := LiveAtStarts(p)
	if len(live) == 0 {
		return false
	}
	unset := live[0]
	for n := 0; n < len(code.Arguments); n++ {
		unset.put(code.Arguments[n], false)
	}
	return unset != Set{}
}
