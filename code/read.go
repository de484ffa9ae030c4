package code

// Read takes a source program apart; it answers false if the text is none.
func Read(s string) (Program, bool) {
	p := Program{}
	if len(s)%Width != 0 {
		return Program{}, false
	}
	for at := 0; at+Width <= len(s); at += Width {
		i, ok := readInstruction(s[at : at+Width])
		if !ok {
			return Program{}, false
		}
		p.add(i)
	}
	if !p.isWhole() {
		return Program{}, false
	}
	return p, true
}

// shape tells what stands behind an instruction's first byte: registers d, x, y, digits n, blocks k, m, dots.
func shape(op byte) string {
	switch op {
	case '+', '-', '*', '&', '^':
		return "dxy"
	case '#':
		return "dnn"
	case '=', 'l', 'L':
		return "dx."
	case 's', 'S':
		return "xy."
	case 'j':
		return "k.."
	case '?':
		return "xkm"
	case 'r':
		return "x.."
	}
	return ""
}

func readInstruction(text string) (Instruction, bool) {
	i := Instruction{D: None, X: None, Y: None, K: None, M: None}
	if len(text) == 0 {
		return i, false
	}
	i.Op = text[0]
	parts := shape(i.Op)
	if len(parts) == 0 || len(parts)+1 != len(text) {
		return i, false
	}
	for at := 0; at < len(parts) && at+1 < len(text); at++ {
		if !i.take(parts[at], text[at+1]) {
			return i, false
		}
	}
	return i, true
}

// take lays one byte of the text into the part of the instruction that the shape says, and answers false if it does not fit there.
func (i *Instruction) take(part byte, b byte) bool {
	digit := digitOf(b)
	register := registerOf(b)
	switch part {
	case 'd':
		i.D = register
		return register != None
	case 'x':
		i.X = register
		return register != None
	case 'y':
		i.Y = register
		return register != None
	case 'n':
		i.N = i.N*10 + digit
		return digit != None
	case 'k':
		i.K = digit
		return digit != None
	case 'm':
		i.M = digit
		return digit != None
	}
	return b == part
}

func registerOf(b byte) int {
	if b >= 'a' && b <= 'z' {
		return int(b - 'a')
	}
	if b >= 'A' && b <= 'Z' {
		return int(b-'A') + FirstSecret
	}
	return None
}

func digitOf(b byte) int {
	if b >= '0' && b <= '9' {
		return int(b - '0')
	}
	return None
}
