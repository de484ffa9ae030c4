// Package spill: registers for a program, and a check of what was made: see DOC.md.
package spill

import (
	"spill/accept"
	"spill/api"
	"spill/code"
	"spill/compile"
	"spill/flow"
	"spill/meet"
	"spill/run"
	"spill/secrecy"
)

// Check tells whether a text is a source program that keeps its secrets (P3).
func Check(s string) (int, api.Errno) {
	p, e := readSafe(s)
	return len(p.Code), e
}

// Run runs a source program (P4).
func Run(s string, in api.Input, fuel int) (api.Outcome, api.Errno) {
	p, e := readSource(s)
	if e != api.OK {
		return api.Outcome{}, e
	}
	if !run.MayBegin(in, fuel) {
		return api.Outcome{}, api.ErrArg
	}
	return run.Source(&p, in, fuel), api.OK
}

// Exec runs a machine program (P5).
func Exec(t string, k int, in api.Input, fuel int) (api.Outcome, api.Errno) {
	if len(t) > api.MaxMachine {
		return api.Outcome{}, api.ErrLong
	}
	if !hasMachine(k) || !run.MayBegin(in, fuel) {
		return api.Outcome{}, api.ErrArg
	}
	p, ok := code.ReadMachine(t, k)
	if !ok {
		return api.Outcome{}, api.ErrCode
	}
	return run.Machine(&p, in, fuel), api.OK
}

// Accept tells whether a machine program does what a source program does (P6).
func Accept(s string, t string, k int) (bool, api.Errno) {
	if len(s) > api.MaxSource || len(t) > api.MaxMachine {
		return false, api.ErrLong
	}
	if !hasMachine(k) {
		return false, api.ErrArg
	}
	source, isSource := code.ReadSource(s)
	machine, isMachine := code.ReadMachine(t, k)
	if !isSource || !isMachine {
		return false, api.ErrCode
	}
	if flow.MayReadUnset(&source) {
		return false, api.ErrUnset
	}
	return accept.Accepted(&source, &machine), api.OK
}

// Live tells which registers are live ahead of an instruction (P7).
func Live(s string, i int) (string, api.Errno) {
	p, e := readSource(s)
	if e != api.OK {
		return "", e
	}
	live := flow.LiveAhead(&p)
	if i < 0 || i >= len(live) {
		return "", api.ErrArg
	}
	return live[i].Text(), api.OK
}

// Core tells which registers cannot be told apart with few colours, piece by piece (P8).
func Core(s string, c int) (string, api.Errno) {
	p, e := readSource(s)
	if e != api.OK {
		return "", e
	}
	if c < 1 || c > code.Registers {
		return "", api.ErrArg
	}
	graph := meet.Of(&p)
	core := graph.Core(c)
	return core.Text(), api.OK
}

// Compile makes a machine program of a source program (P9).
func Compile(s string, k int) (string, api.Errno) {
	p, e := readSafe(s)
	if e != api.OK {
		return "", e
	}
	if !hasMachine(k) {
		return "", api.ErrArg
	}
	return compile.Machine(&p, k), api.OK
}

// hasMachine tells whether there is a machine with k registers.
func hasMachine(k int) bool {
	return k >= api.MinRegs && k <= api.MaxRegs
}

// readSafe takes a source program apart that keeps its secrets, and answers the error of Check.
func readSafe(s string) (code.Program, api.Errno) {
	p, e := readSource(s)
	if e != api.OK {
		return code.Program{}, e
	}
	if secrecy.MayShow(&p) {
		return code.Program{}, api.ErrSecret
	}
	return p, api.OK
}

// readSource takes a source program apart, and answers the error of Check, but not ErrSecret: the calls that only look at a program take one in which a secret shows.
func readSource(s string) (code.Program, api.Errno) {
	if len(s) > api.MaxSource {
		return code.Program{}, api.ErrLong
	}
	p, ok := code.ReadSource(s)
	if !ok {
		return code.Program{}, api.ErrCode
	}
	if flow.MayReadUnset(&p) {
		return code.Program{}, api.ErrUnset
	}
	return p, api.OK
}
