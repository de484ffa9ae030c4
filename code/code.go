// Package code: what a program is made of, and how it is read from its text.
package code

import "spill/api"

// None stands where an instruction has no register or no block.
const None = -1

// Registers is how many registers a source program can name; those from FirstSecret on are secret.
const (
	Registers   = 52
	FirstSecret = 26
)

// A machine's places have numbers: its registers those from 0 on, its slots those from FirstSlot on, whatever the machine.
const (
	FirstSlot = api.MaxRegs
	Places    = FirstSlot + api.Slots
)

// Width is how many bytes an instruction has.
const Width = 4

// alphabet has the letters in the order in which registers of a source program, and slots, are numbered.
const alphabet = "abcdefghijklmnopqrstuvwxyzABCDEFGHIJKLMNOPQRSTUVWXYZ"

// Arguments: the registers a, b, A, B, which are written when a source program begins.
var Arguments = [4]int{0, 1, FirstSecret, FirstSecret + 1}

// Instruction is one instruction taken apart: its first byte, the registers d, x, y, the number n, the blocks k, m. In a machine program D, X, Y are places: what is written stands in D, what is read in X and Y, slots too.
type Instruction struct {
	Op      byte
	D, X, Y int
	N       int
	K, M    int
}

// Block tells where a block's first and last instructions stand.
type Block struct {
	First, Last int
}

// Program is a program taken apart.
type Program struct {
	Code   []Instruction
	Blocks []Block
}

// Bare is an instruction that has its first byte alone.
func Bare(op byte) Instruction {
	return Instruction{Op: op, D: None, X: None, Y: None, K: None, M: None}
}

// EndsBlock tells whether a block ends with the instruction.
func (i Instruction) EndsBlock() bool {
	return i.Op == 'j' || i.Op == '?' || i.Op == 'r'
}

// IsSecret tells whether a register, which may be None, is a secret one.
func IsSecret(r int) bool {
	return r >= FirstSecret
}

// IsSlot tells whether a place of a machine, which may be None, is a slot.
func IsSlot(place int) bool {
	return place >= FirstSlot
}

// Letter tells how a register of a source program, or a slot counted from 0 on, is written; where there is none, as a dot.
func Letter(n int) byte {
	if n < 0 || n >= len(alphabet) {
		return '.'
	}
	return alphabet[n]
}

// Start tells where block b begins, and None if it is not there.
func (p *Program) Start(b int) int {
	if b < 0 || b >= len(p.Blocks) {
		return None
	}
	return p.Blocks[b].First
}

// add lays an instruction behind the others, and closes the block that it ends.
func (p *Program) add(i Instruction) {
	at := len(p.Code)
	p.Code = append(p.Code, i)
	if !i.EndsBlock() {
		return
	}
	first := 0
	if last := len(p.Blocks) - 1; last >= 0 {
		first = p.Blocks[last].Last + 1
	}
	p.Blocks = append(p.Blocks, Block{First: first, Last: at})
}

// isWhole tells whether the blocks are as many as may be, nothing stands behind the last one, and each block that is named is there.
func (p *Program) isWhole() bool {
	n := len(p.Blocks)
	if n < 1 || n > api.MaxBlocks || p.Blocks[n-1].Last != len(p.Code)-1 {
		return false
	}
	for _, i := range p.Code {
		if !isTarget(i.K, n) || !isTarget(i.M, n) {
			return false
		}
	}
	return true
}

// isTarget tells whether an instruction may name block b of n blocks: nothing goes back to block 0.
func isTarget(b int, n int) bool {
	return b == None || b >= 1 && b < n
}
