package flow

import "spill/code"

// Set is a set of registers of a source program.
type Set struct {
	has [code.Registers]bool
}

// Has tells whether a register is in the set.
func (set *Set) Has(r int) bool {
	return r >= 0 && r < len(set.has) && set.has[r]
}

// Put takes a register, which may be None, into the set or out of it.
func (set *Set) Put(r int, in bool) {
	if r >= 0 && r < len(set.has) {
		set.has[r] = in
	}
}

// Text has the letters of the set's registers, in rising order of their bytes.
func (set *Set) Text() string {
	text := []byte{}
	for n := 0; n < code.Registers; n++ {
		// Among the bytes capitals come first, among the numbers of registers they come last.
		r := (code.FirstSecret + n) % code.Registers
		if set.Has(r) {
			text = append(text, code.Letter(r))
		}
	}
	return string(text)
}

// join adds what is live ahead of an instruction, which may be None.
func (set *Set) join(live []Set, at int) {
	if at < 0 || at >= len(live) {
		return
	}
	for r := 0; r < code.Registers; r++ {
		if live[at].Has(r) {
			set.Put(r, true)
		}
	}
}
