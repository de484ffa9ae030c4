// Package run: runs programs, and tells what whoever watches would see.
package run

import (
	"strconv"

	"spill/api"
	"spill/code"
)

// state is all that a run changes.
type state struct {
	registers [code.Registers]int
	public    [api.Words]int
	secret    [api.Words]int
	trace     []byte
	ended     bool
	status    int
	value     int
}

// Source runs a source program; the input and the fuel are such as MayBegin allows.
func Source(p *code.Program, in api.Input, fuel int) api.Outcome {
	// A run that nothing ends is tired.
	m := state{public: in.Public, secret: in.Secret, status: api.Tired}
	for n := 0; n < len(code.Arguments) && n < len(in.Args); n++ {
		m.write(code.Arguments[n], in.Args[n])
	}
	m.walk(p, fuel)
	return api.Outcome{
		Status: m.status,
		Value:  m.value,
		Public: m.public,
		Secret: m.secret,
		Trace:  string(m.trace),
	}
}

// walk does instruction after instruction, until the run ends or the fuel does.
func (m *state) walk(p *code.Program, fuel int) {
	at := 0
	for done := 0; done < fuel && !m.ended; done++ {
		if at < 0 || at >= len(p.Code) {
			return
		}
		at = m.step(p, at, p.Code[at])
	}
}

// step does the instruction that stands at a place, and tells where the next one stands.
func (m *state) step(p *code.Program, at int, i code.Instruction) int {
	switch i.Op {
	case 'j':
		return p.Start(i.K)
	case '?':
		next := m.choose(i)
		return p.Start(next)
	case 'r':
		m.value = m.read(i.X)
		m.end(api.Returned)
	case 'l', 'L', 's', 'S':
		m.reach(i)
	default:
		result := m.compute(i)
		m.write(i.D, result)
	}
	return at + 1
}

// choose tells which block a `?` goes on to.
func (m *state) choose(i code.Instruction) int {
	if m.read(i.X) != 0 {
		m.show("?1")
		return i.K
	}
	m.show("?0")
	return i.M
}

// compute tells what the instructions that only work on registers write.
func (m *state) compute(i code.Instruction) int {
	x := m.read(i.X)
	y := m.read(i.Y)
	// Top is all ones, so the and with it is the rest modulo 65536, of numbers below 0 too.
	switch i.Op {
	case '+':
		return (x + y) & api.Top
	case '-':
		return (x - y) & api.Top
	case '*':
		return (x * y) & api.Top
	case '&':
		return x & y
	case '^':
		return x ^ y
	case '=':
		return x
	}
	return i.N
}

// reach does the instructions that go to a memory.
func (m *state) reach(i code.Instruction) {
	word := m.read(i.X)
	digits := strconv.Itoa(word)
	m.trace = append(m.trace, i.Op)
	m.show(digits)
	if word < 0 || word >= api.Words {
		m.show("!")
		m.end(api.Trapped)
		return
	}
	switch i.Op {
	case 'l':
		found := m.public[word]
		m.write(i.D, found)
	case 'L':
		found := m.secret[word]
		m.write(i.D, found)
	case 's':
		m.public[word] = m.read(i.Y)
	case 'S':
		m.secret[word] = m.read(i.Y)
	}
}

// read tells what a register holds; where an instruction has none, 0.
func (m *state) read(r int) int {
	if r < 0 || r >= len(m.registers) {
		return 0
	}
	return m.registers[r]
}

func (m *state) write(r int, value int) {
	if r >= 0 && r < len(m.registers) {
		m.registers[r] = value
	}
}

// show lays a piece behind the trace.
func (m *state) show(piece string) {
	m.trace = append(m.trace, piece...)
}

func (m *state) end(status int) {
	m.status = status
	m.ended = true
}
