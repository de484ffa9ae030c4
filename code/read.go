package code

// grammar tells how a kind of program is written: the registers of a source program are letters, those of a machine the digits below their number.
type grammar struct {
	machine   bool
	registers int
}

// ReadSource takes a source program apart; it answers false if the text is none.
func ReadSource(s string) (Program, bool) {
	g := grammar{}
	return g.read(s)
}

// ReadMachine takes a program of a machine with k registers apart; it answers false if the text is none.
func ReadMachine(t string, k int) (Program, bool) {
	g := grammar{machine: true, registers: k}
	return g.read(t)
}

func (g grammar) read(s string) (Program, bool) {
	p := Program{}
	if len(s)%Width != 0 {
		return Program{}, false
	}
	for at := 0; at+Width <= len(s); at += Width {
		i, ok := g.readInstruction(s[at : at+Width])
		if !ok {
			return Program{}, false
		}
		p.add(i)
	}
	if !p.isWhole() {
		return Program{}, false
	}
	return p, true
}

// shape tells what stands behind an instruction's first byte: registers d, x, y, slots D, X, a place q, the register 0, the tens t and the ones n of a number, blocks k, m, dots.
func (g grammar) shape(op byte) string {
	if !g.machine {
		return commonShape(op)
	}
	switch op {
	case '>':
		return "Dx."
	case '<':
		return "dX."
	case '~':
		return "q.."
	case 'r':
		return "0.."
	}
	return commonShape(op)
}

func commonShape(op byte) string {
	switch op {
	case '+', '-', '*', '&', '^':
		return "dxy"
	case '#':
		return "dtn"
	case '=', 'l', 'L':
		return "dx."
	case 's', 'S':
		return "xy."
	case 'j':
		return "k.."
	case '?':
		return "xkm"
	case 'r':
		return "x.."
	}
	return ""
}

func (g grammar) readInstruction(text string) (Instruction, bool) {
	if len(text) == 0 {
		return Instruction{}, false
	}
	i := Bare(text[0])
	parts := g.shape(i.Op)
	if len(parts) == 0 || len(parts)+1 != len(text) {
		return i, false
	}
	for at := 0; at < len(parts) && at+1 < len(text); at++ {
		b := text[at+1]
		place := g.place(parts[at], b)
		if !i.take(parts[at], b, place) {
			return i, false
		}
	}
	return i, true
}

// place tells which register or slot a byte of the text is, where the shape has one.
func (g grammar) place(part byte, b byte) int {
	switch part {
	case 'D', 'X':
		return slotOf(b)
	case 'q':
		if slot := slotOf(b); slot != None {
			return slot
		}
	case '0':
		if b != '0' {
			return None
		}
	}
	return g.register(b)
}

func (g grammar) register(b byte) int {
	if !g.machine {
		return letterOf(b)
	}
	digit := digitOf(b)
	if digit >= g.registers {
		return None
	}
	return digit
}

// take lays one byte of the text into the part of the instruction that the shape says, and answers false if it does not fit there.
func (i *Instruction) take(part byte, b byte, place int) bool {
	digit := digitOf(b)
	switch part {
	case 'd', 'D', 'q':
		i.D = place
		return place != None
	case 'x', 'X', '0':
		i.X = place
		return place != None
	case 'y':
		i.Y = place
		return place != None
	case 't', 'n':
		i.N = i.N*10 + digit
		return digit != None
	case 'k':
		i.K = digit
		return digit != None
	case 'm':
		i.M = digit
		return digit != None
	}
	return b == part
}

func slotOf(b byte) int {
	letter := letterOf(b)
	if letter == None {
		return None
	}
	return FirstSlot + letter
}

func letterOf(b byte) int {
	for n := 0; n < len(alphabet); n++ {
		if alphabet[n] == b {
			return n
		}
	}
	return None
}

func digitOf(b byte) int {
	if b >= '0' && b <= '9' {
		return int(b - '0')
	}
	return None
}
