// Package run: runs programs, and tells what whoever watches would see.
package run

import (
	"strconv"

	"spill/api"
	"spill/code"
)

// state is all that a run changes. A source program's registers lie where a machine's places do: there are fewer of them.
type state struct {
	places [code.Places]int
	public [api.Words]int
	secret [api.Words]int
	trace  []byte
	ended  bool
	status int
	value  int
}

// Source runs a source program; the input and the fuel are such as MayBegin allows.
func Source(p *code.Program, in api.Input, fuel int) api.Outcome {
	m := begin(in)
	for n := 0; n < len(code.Arguments) && n < len(in.Args); n++ {
		m.write(code.Arguments[n], in.Args[n])
	}
	m.walk(p, fuel)
	return m.outcome()
}

// Machine runs a machine program; the input and the fuel are such as MayBegin allows.
func Machine(p *code.Program, in api.Input, fuel int) api.Outcome {
	m := begin(in)
	for n := 0; n < len(in.Args); n++ {
		m.write(n, in.Args[n])
	}
	m.walk(p, fuel)
	o := m.outcome()
	for n := 0; n < len(o.Regs); n++ {
		o.Regs[n] = m.read(n)
	}
	for n := 0; n < len(o.Slots); n++ {
		o.Slots[n] = m.read(code.FirstSlot + n)
	}
	return o
}

func begin(in api.Input) state {
	// A run that nothing ends is tired.
	return state{public: in.Public, secret: in.Secret, status: api.Tired}
}

func (m *state) outcome() api.Outcome {
	return api.Outcome{
		Status: m.status,
		Value:  m.value,
		Public: m.public,
		Secret: m.secret,
		Trace:  string(m.trace),
	}
}

// walk does instruction after instruction, until the run ends or the fuel does.
func (m *state) walk(p *code.Program, fuel int) {
	at := 0
	for done := 0; done < fuel && !m.ended; done++ {
		if at < 0 || at >= len(p.Code) {
			return
		}
		at = m.step(p, at, p.Code[at])
	}
}

// step does the instruction that stands at a place, and tells where the next one stands.
func (m *state) step(p *code.Program, at int, i code.Instruction) int {
	switch i.Op {
	case 'j':
		return p.Start(i.K)
	case '?':
		next := m.choose(i)
		return p.Start(next)
	case 'r':
		m.value = m.read(i.X)
		m.end(api.Returned)
	case 'l', 'L', 's', 'S':
		m.reach(i)
	case '>', '<', '~':
		m.move(i)
	default:
		result := m.compute(i)
		m.write(i.D, result)
	}
	return at + 1
}

// choose tells which block a `?` goes on to.
func (m *state) choose(i code.Instruction) int {
	if m.read(i.X) != 0 {
		m.show("?1")
		return i.K
	}
	m.show("?0")
	return i.M
}

// compute tells what the instructions that only work on registers write.
func (m *state) compute(i code.Instruction) int {
	x := m.read(i.X)
	y := m.read(i.Y)
	// Top is all ones, so the and with it is the rest modulo 65536, of numbers below 0 too.
	switch i.Op {
	case '+':
		return (x + y) & api.Top
	case '-':
		return (x - y) & api.Top
	case '*':
		return (x * y) & api.Top
	case '&':
		return x & y
	case '^':
		return x ^ y
	case '=':
		return x
	}
	return i.N
}

// reach does the instructions that go to a memory.
func (m *state) reach(i code.Instruction) {
	word := m.read(i.X)
	digits := strconv.Itoa(word)
	m.trace = append(m.trace, i.Op)
	m.show(digits)
	if word < 0 || word >= api.Words {
		m.show("!")
		m.end(api.Trapped)
		return
	}
	switch i.Op {
	case 'l':
		found := m.public[word]
		m.write(i.D, found)
	case 'L':
		found := m.secret[word]
		m.write(i.D, found)
	case 's':
		m.public[word] = m.read(i.Y)
	case 'S':
		m.secret[word] = m.read(i.Y)
	}
}

// move does the instructions that a machine alone has. A `~` reads no place: so what it writes is 0.
func (m *state) move(i code.Instruction) {
	m.showSlot(i.Op, i.D)
	m.showSlot(i.Op, i.X)
	value := m.read(i.X)
	m.write(i.D, value)
}

// read tells what a place holds; where an instruction has none, 0.
func (m *state) read(place int) int {
	if place < 0 || place >= len(m.places) {
		return 0
	}
	return m.places[place]
}

func (m *state) write(place int, value int) {
	if place >= 0 && place < len(m.places) {
		m.places[place] = value
	}
}

// showSlot lays a piece behind the trace if the place is a slot: whoever watches sees the frame, but not the registers.
func (m *state) showSlot(op byte, place int) {
	if !code.IsSlot(place) {
		return
	}
	letter := code.Letter(place - code.FirstSlot)
	m.trace = append(m.trace, op, letter)
}

// show lays a piece behind the trace.
func (m *state) show(piece string) {
	m.trace = append(m.trace, piece...)
}

func (m *state) end(status int) {
	m.status = status
	m.ended = true
}
