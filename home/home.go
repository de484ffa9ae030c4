// Package home: at which place of a machine each register of a source program lives, all through a run.
package home

import (
	"spill/code"
	"spill/flow"
	"spill/meet"
)

// Spare is how many registers of a machine, its last ones, are nobody's home: an instruction reads two registers at most, and these are for what lives in slots.
const Spare = 2

// Table has the home of each register of a source program, and None for those that do not stand in it.
type Table struct {
	places [code.Registers]int
}

// Of finds a home in a machine with k registers for each register of a source program; registers that meet have different ones.
func Of(p *code.Program, k int) Table {
	t := Table{}
	for r := 0; r < len(t.places); r++ {
		t.places[r] = code.None
	}
	graph := meet.Of(p)
	// Each register outside the core meets fewer of those ahead of it than there are to live in, so it never goes without: no more live in slots than the core has.
	for _, r := range graph.Order(k - Spare) {
		place := t.choose(&graph, r, k-Spare)
		t.settle(r, place)
	}
	t.seatArguments(p)
	return t
}

// Place tells the home of a register, and None if there is no such register.
func (t *Table) Place(r int) int {
	if r < 0 || r >= len(t.places) {
		return code.None
	}
	return t.places[r]
}

func (t *Table) settle(r int, place int) {
	if r >= 0 && r < len(t.places) {
		t.places[r] = place
	}
}

// choose finds a register of the machine, below a number of them, where a register can live; if there is none it is the slot of the same letter, which no other asks for.
func (t *Table) choose(graph *meet.Graph, r int, registers int) int {
	for place := 0; place < registers; place++ {
		if t.isFree(graph, r, place) {
			return place
		}
	}
	return code.FirstSlot + r
}

// isFree tells whether none of those that a register meets lives at a place.
func (t *Table) isFree(graph *meet.Graph, r int, place int) bool {
	for other := 0; other < len(t.places); other++ {
		if t.places[other] == place && graph.Meet(r, other) {
			return false
		}
	}
	return true
}

// seatArguments lets the arguments that are live at the beginning, and live in registers, live in those that hold them there: one register of a machine is as good as another, so homes can change names. Those arguments meet, so none takes the seat of another.
func (t *Table) seatArguments(p *code.Program) {
	live := flow.AtBeginning(p)
	for n := 0; n < len(code.Arguments); n++ {
		r := code.Arguments[n]
		place := t.Place(r)
		if live.Has(r) && !code.IsSlot(place) {
			t.exchange(place, n)
		}
	}
}

// exchange lets all who live at one of two places live at the other.
func (t *Table) exchange(place int, other int) {
	for r := 0; r < len(t.places); r++ {
		if t.places[r] == place {
			t.places[r] = other
		} else if t.places[r] == other {
			t.places[r] = place
		}
	}
}
