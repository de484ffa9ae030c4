// Package flow: which registers may still be read, along the ways through a program.
package flow

import "spill/code"

// LiveAhead tells for each instruction of a source program which registers are live ahead of it.
func LiveAhead(p *code.Program) []Set {
	live := make([]Set, len(p.Code))
	// A way that comes to a block twice can be cut short, so the ways that count go through each block once at most: as many rounds as there are blocks find them all.
	for round := 0; round < len(p.Blocks); round++ {
		for at := len(p.Code) - 1; at >= 0; at-- {
			live[at] = liveAhead(p, live, at)
		}
	}
	return live
}

// liveAhead goes back over one instruction, from what is known so far of those that may follow it.
func liveAhead(p *code.Program, live []Set, at int) Set {
	set := Set{}
	if at < 0 || at >= len(p.Code) {
		return set
	}
	i := p.Code[at]
	if !i.EndsBlock() {
		set.join(live, at+1)
	}
	set.join(live, p.Start(i.K))
	set.join(live, p.Start(i.M))
	// An instruction reads ahead of writing, so going back the write comes first: a register that is both stays live.
	set.Put(i.D, false)
	set.Put(i.X, true)
	set.Put(i.Y, true)
	return set
}

// AtBeginning tells which registers are live ahead of the first instruction of a source program.
func AtBeginning(p *code.Program) Set {
	live := LiveAhead(p)
	if len(live) == 0 {
		return Set{}
	}
	return live[0]
}

// MayReadUnset tells whether a register of a source program may be read unset: it is live at the very beginning, and nothing has written it there.
func MayReadUnset(p *code.Program) bool {
	unset := AtBeginning(p)
	for n := 0; n < len(code.Arguments); n++ {
		unset.Put(code.Arguments[n], false)
	}
	return unset != Set{}
}
