package code

// WriteMachine writes instructions of a machine one behind the other, so that ReadMachine finds the same ones in the text.
func WriteMachine(l []Instruction) string {
	g := grammar{machine: true}
	text := []byte{}
	for _, i := range l {
		text = append(text, i.Op)
		parts := g.shape(i.Op)
		for at := 0; at < len(parts); at++ {
			text = append(text, i.give(parts[at]))
		}
	}
	return string(text)
}

// give tells the byte that take would lay into a part of the instruction.
func (i Instruction) give(part byte) byte {
	switch part {
	case 'd', 'D', 'q':
		return placeByte(i.D)
	case 'x', 'X', '0':
		return placeByte(i.X)
	case 'y':
		return placeByte(i.Y)
	case 't':
		return digitByte(i.N / 10)
	case 'n':
		return digitByte(i.N % 10)
	case 'k':
		return digitByte(i.K)
	case 'm':
		return digitByte(i.M)
	}
	return part
}

func placeByte(place int) byte {
	if IsSlot(place) {
		return Letter(place - FirstSlot)
	}
	return digitByte(place)
}

// digitByte writes a number of one digit; any other, as where there is none, is a dot.
func digitByte(n int) byte {
	if n < 0 || n > 9 {
		return '.'
	}
	return byte('0' + n)
}
