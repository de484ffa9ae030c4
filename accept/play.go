package accept

import "spill/code"

// play goes through block b of both programs, from the pairs that it is begun with to those that it ends with; it answers false if the block is not well played.
func (e *pairs) play(s *code.Program, t *code.Program, b int) bool {
	if b < 0 || b >= len(s.Blocks) || b >= len(t.Blocks) {
		return false
	}
	next := s.Blocks[b].First
	for at := t.Blocks[b].First; at >= 0 && at <= t.Blocks[b].Last && at < len(t.Code); at++ {
		next = e.pass(s, next)
		i := t.Code[at]
		if isMove(i) {
			e.move(i)
			continue
		}
		if next < 0 || next >= len(s.Code) || !e.follow(s.Code[next], i) {
			return false
		}
		next++
	}
	return next == s.Blocks[b].Last+1
}

// pass goes over the copies of the source program that stand next, and tells where the first other instruction stands.
func (e *pairs) pass(s *code.Program, next int) int {
	for next >= 0 && next < len(s.Code) && s.Code[next].Op == '=' {
		e.copyRegister(s.Code[next].D, s.Code[next].X)
		next++
	}
	return next
}

// isMove tells whether an instruction of a machine stands for none of the source program.
func isMove(i code.Instruction) bool {
	return i.Op == '=' || i.Op == '>' || i.Op == '<' || i.Op == '~'
}

func (e *pairs) move(i code.Instruction) {
	if i.Op == '~' {
		e.set(zero, i.D)
		return
	}
	e.copyPlace(i.D, i.X)
}

// follow does the machine's instruction i, which must stand for the source program's instruction j; it answers false if it does not.
func (e *pairs) follow(j code.Instruction, i code.Instruction) bool {
	if i.Op != j.Op || i.N != j.N || i.K != j.K || i.M != j.M {
		return false
	}
	if !e.mayRead(j.X, i.X) || !e.mayRead(j.Y, i.Y) {
		return false
	}
	if j.D != code.None {
		e.lose(j.D)
		e.set(j.D, i.D)
	}
	return i.Op != 'r' || e.areCleared()
}

// mayRead tells whether a place holds the register that should be read; where none is read there is nothing to ask.
func (e *pairs) mayRead(register int, place int) bool {
	if register == code.None {
		return place == code.None
	}
	return e.has(register, place)
}
