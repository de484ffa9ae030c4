// Package secrecy: whether a source program lets a secret show.
package secrecy

import "spill/code"

// MayShow tells whether an instruction of the program, reached or not, lets a secret show.
func MayShow(p *code.Program) bool {
	for _, i := range p.Code {
		if shows(i) {
			return true
		}
	}
	return false
}

func shows(i code.Instruction) bool {
	d := code.IsSecret(i.D)
	x := code.IsSecret(i.X)
	y := code.IsSecret(i.Y)
	switch i.Op {
	case '+', '-', '*', '&', '^', '=':
		return !d && (x || y)
	case 'l', 'S', '?':
		return x
	case 'L':
		return x || !d
	case 's':
		return x || y
	}
	return false
}
