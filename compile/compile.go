// Package compile: makes a machine program of a source program.
package compile

import (
	"spill/code"
	"spill/flow"
	"spill/home"
)

// maker lays the machine's instructions one behind the other. The registers one and two are spare: nobody lives there.
type maker struct {
	homes     home.Table
	registers int
	one, two  int
	made      []code.Instruction
}

// Machine makes a program of a machine with k registers that does what a source program does. Each of the source's instructions becomes four at the most: two that fetch what it reads, itself, and one that stores what it writes. Beyond that a run has 4 at its beginning, one an argument, and 62 at its end, one for the value and one for each other place, and the text is short enough though all ten blocks end so.
func Machine(p *code.Program, k int) string {
	first := k - home.Spare
	m := maker{registers: k, one: first, two: first + 1}
	m.homes = home.Of(p, k)
	m.begin(p)
	for _, i := range p.Code {
		m.follow(i)
	}
	return code.WriteMachine(m.made)
}

// begin brings home the arguments that will be read. Those that live in registers are there already; the others live in slots, so no argument is overwritten by another.
func (m *maker) begin(p *code.Program) {
	live := flow.AtBeginning(p)
	for n := 0; n < len(code.Arguments); n++ {
		r := code.Arguments[n]
		place := m.homes.Place(r)
		if live.Has(r) {
			m.move(place, n)
		}
	}
}

// follow lays what one instruction of the source program becomes.
func (m *maker) follow(i code.Instruction) {
	switch i.Op {
	case '=':
		place := m.homes.Place(i.D)
		m.bring(place, i.X)
	case 'r':
		m.end(i.X)
	default:
		m.work(i)
	}
}

// work lays an instruction with the machine's registers in it, between what fetches and stores what lives in slots.
func (m *maker) work(i code.Instruction) {
	i.X = m.fetch(i.X, m.one)
	i.Y = m.fetch(i.Y, m.two)
	place := m.homes.Place(i.D)
	i.D = m.reach(place)
	m.made = append(m.made, i)
	m.move(place, i.D)
}

// reach tells the register by way of which a place is written: itself, or for a slot a spare one, though that may have been filled for the same instruction: it reads ahead of writing.
func (m *maker) reach(place int) int {
	if code.IsSlot(place) {
		return m.two
	}
	return place
}

// fetch tells a register of the machine that holds what a register of the source program does, which may be None: the one where it lives, or another into which it is brought from its slot.
func (m *maker) fetch(r int, other int) int {
	place := m.homes.Place(r)
	if !code.IsSlot(place) {
		return place
	}
	m.move(other, place)
	return other
}

// bring lays what a register of the source program holds into a place.
func (m *maker) bring(place int, r int) {
	if m.homes.Place(r) == place {
		return
	}
	way := m.reach(place)
	from := m.fetch(r, way)
	m.move(place, from)
}

// end returns a register of the source program, and leaves nothing behind.
func (m *maker) end(r int) {
	m.bring(0, r)
	for place := 1; place < m.registers; place++ {
		m.clear(place)
	}
	for other := 0; other < code.Registers; other++ {
		place := m.homes.Place(other)
		if code.IsSlot(place) {
			m.clear(place)
		}
	}
	i := code.Bare('r')
	i.X = 0
	m.made = append(m.made, i)
}

// move lays what is in one place into another; one of them is a register, or both are None.
func (m *maker) move(to int, from int) {
	if to == from {
		return
	}
	i := code.Bare('=')
	if code.IsSlot(to) {
		i.Op = '>'
	} else if code.IsSlot(from) {
		i.Op = '<'
	}
	i.D = to
	i.X = from
	m.made = append(m.made, i)
}

func (m *maker) clear(place int) {
	i := code.Bare('~')
	i.D = place
	m.made = append(m.made, i)
}
