// Package meet: which registers of a source program meet, so that one place cannot hold both.
package meet

import (
	"spill/code"
	"spill/flow"
)

// Graph tells which registers stand in a program, and which of them meet.
type Graph struct {
	stands flow.Set
	meets  [code.Registers]flow.Set
}

// Of makes the graph of a source program.
func Of(p *code.Program) Graph {
	g := Graph{}
	live := flow.LiveAhead(p)
	// What is live is read somewhere, so the arguments that are live at the beginning are among those that stand in the program.
	for at, i := range p.Code {
		g.stand(i)
		if at+1 < len(live) {
			// An instruction that ends a block writes nothing, so what comes next in the text comes next in the block.
			g.meetAll(i.D, &live[at+1])
		}
	}
	if len(live) > 0 {
		for r := 0; r < code.Registers; r++ {
			if live[0].Has(r) {
				g.meetAll(r, &live[0])
			}
		}
	}
	return g
}

// stand notes the registers that stand in an instruction.
func (g *Graph) stand(i code.Instruction) {
	g.stands.Put(i.D, true)
	g.stands.Put(i.X, true)
	g.stands.Put(i.Y, true)
}

// meetAll lets a register, which may be None, meet each of a set but itself.
func (g *Graph) meetAll(r int, set *flow.Set) {
	if r < 0 || r >= len(g.meets) {
		return
	}
	for other := 0; other < code.Registers; other++ {
		if other != r && set.Has(other) {
			g.meets[r].Put(other, true)
			g.meets[other].Put(r, true)
		}
	}
}

// Meet tells whether two registers meet.
func (g *Graph) Meet(r int, other int) bool {
	return r >= 0 && r < len(g.meets) && g.meets[r].Has(other)
}

// peeling is what is left of a graph's registers, and those that were taken away, in that order.
type peeling struct {
	left  flow.Set
	taken []int
}

// peel takes away a register that meets fewer than c of those still there, as long as there is one.
func (g *Graph) peel(c int) peeling {
	all := peeling{left: g.stands}
	// This ends, as each time one is taken away.
	for r := g.loose(&all.left, c); r != code.None; r = g.loose(&all.left, c) {
		all.left.Put(r, false)
		all.taken = append(all.taken, r)
	}
	return all
}

// Core tells which registers are left, if one that meets fewer than c of those still there is taken away as long as there is one.
func (g *Graph) Core(c int) flow.Set {
	all := g.peel(c)
	return all.left
}

// Order lists the registers that stand in the program: those of the core, then the others, the one that was taken away last first. So each of the others meets fewer than c of those ahead of it.
func (g *Graph) Order(c int) []int {
	all := g.peel(c)
	order := []int{}
	for r := 0; r < code.Registers; r++ {
		if all.left.Has(r) {
			order = append(order, r)
		}
	}
	for at := len(all.taken) - 1; at >= 0; at-- {
		order = append(order, all.taken[at])
	}
	return order
}

// loose finds a register of a set that meets fewer than c of it, and None if there is none.
func (g *Graph) loose(set *flow.Set, c int) int {
	for r := 0; r < code.Registers; r++ {
		if set.Has(r) && g.meeting(r, set) < c {
			return r
		}
	}
	return code.None
}

// meeting counts the registers of a set that a register meets.
func (g *Graph) meeting(r int, set *flow.Set) int {
	count := 0
	for other := 0; other < code.Registers; other++ {
		if set.Has(other) && g.Meet(r, other) {
			count++
		}
	}
	return count
}
