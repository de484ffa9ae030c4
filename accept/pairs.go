package accept

import "spill/code"

// zero is the number 0 where a pair would else have a register of the source program.
const zero = code.Registers

// mostPairs is how many pairs there can be: of the registers and the number 0 with the places.
const mostPairs = (code.Registers + 1) * code.Places

// pairs is a set of pairs: for each place the values that it holds, a bit for each register of the source program and one for the number 0.
type pairs struct {
	held [code.Places]uint64
}

// bit is the bit that stands for a value; there is none for what is no value.
func bit(value int) uint64 {
	if value < 0 || value > zero {
		return 0
	}
	return uint64(1) << uint(value)
}

func isPlace(place int) bool {
	return place >= 0 && place < code.Places
}

func (e *pairs) has(value int, place int) bool {
	if !isPlace(place) {
		return false
	}
	b := bit(value)
	return e.held[place]&b != 0
}

// set lets a place hold one value and no other.
func (e *pairs) set(value int, place int) {
	if isPlace(place) {
		e.held[place] = bit(value)
	}
}

// copyPlace lets a place hold what another one holds, and nothing else.
func (e *pairs) copyPlace(to int, from int) {
	if isPlace(to) && isPlace(from) {
		e.held[to] = e.held[from]
	}
}

// copyRegister lets a register be held just where another one is.
func (e *pairs) copyRegister(d int, x int) {
	if d == x {
		return
	}
	e.lose(d)
	gained := bit(d)
	for place := 0; place < code.Places; place++ {
		if e.has(x, place) {
			e.held[place] |= gained
		}
	}
}

// lose takes away all pairs of a register.
func (e *pairs) lose(register int) {
	lost := bit(register)
	for place := 0; place < code.Places; place++ {
		e.held[place] &^= lost
	}
}

// meet keeps only the pairs that the other set has too.
func (e *pairs) meet(other *pairs) {
	for place := 0; place < code.Places; place++ {
		e.held[place] &= other.held[place]
	}
}

// areCleared tells whether every place but register 0 holds 0.
func (e *pairs) areCleared() bool {
	for place := 1; place < code.Places; place++ {
		if !e.has(zero, place) {
			return false
		}
	}
	return true
}

// atBeginning is what block 0 is begun with: the arguments in the first registers, and 0 everywhere else. That goes for registers too that the machine does not have: nothing names them, so they stay so, and need not be told from the others.
func atBeginning() pairs {
	e := pairs{}
	for place := 0; place < code.Places; place++ {
		e.set(zero, place)
	}
	for n := 0; n < len(code.Arguments); n++ {
		e.set(code.Arguments[n], n)
	}
	return e
}
