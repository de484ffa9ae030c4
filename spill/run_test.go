package spill

import (
	"strings"
	"testing"

	"spill/api"
)

func begin(a, b, x, y int) api.Input { return api.Input{Args: [4]int{a, b, x, y}} }

// wantRun: how a run should end; it is held against the whole outcome.
func wantRun(t *testing.T, s string, in api.Input, fuel int, want api.Outcome) {
	t.Helper()
	if got, e := Run(s, in, fuel); e != api.OK || got != want {
		t.Errorf("P4: Run(%q, %v, %d) = %+v, %d, want %+v", s, in, fuel, got, e, want)
	}
}

// still: how a run ends that changes no memory.
func still(in api.Input, status int, value int, trace string) api.Outcome {
	return api.Outcome{Status: status, Value: value, Public: in.Public, Secret: in.Secret, Trace: trace}
}

func wantRefused(t *testing.T, s string, in api.Input, fuel int, want api.Errno) {
	t.Helper()
	if got, e := Run(s, in, fuel); e != want || got != (api.Outcome{}) {
		t.Errorf("P4: Run(%.80q, %v, %d) = %+v, %d, want %d", s, in, fuel, got, e, want)
	}
}

func TestRunExamples(t *testing.T) {
	in := begin(65535, 2, 0, 0)
	wantRun(t, "+cabrc..", in, 9, still(in, api.Returned, 1, ""))
	wantRun(t, "+cabrc..", in, 1, still(in, api.Tired, 0, ""))
	in = begin(3, 5, 0, 0)
	in.Public = [8]int{0, 1, 2, 4}
	want := still(in, api.Returned, 4, "l3s4")
	want.Public[4] = 5
	wantRun(t, "lca.scb.rc..", in, 9, want)
	in.Args[0] = 8
	wantRun(t, "lca.scb.rc..", in, 9, still(in, api.Trapped, 0, "l8!"))
	in = begin(0, 5, 0, 0)
	wantRun(t, "?a12#c07rc..rb..", in, 9, still(in, api.Returned, 5, "?0"))
	in = begin(1, 5, 0, 0)
	wantRun(t, "?a12#c07rc..rb..", in, 9, still(in, api.Returned, 7, "?1"))
}

func TestRunArithmetic(t *testing.T) {
	edges := []int{0, 1, 2, 255, 256, 257, 32767, 32768, 65534, 65535}
	for _, x := range edges {
		for _, y := range edges {
			in := begin(x, y, 0, 0)
			wantRun(t, "+cabrc..", in, 2, still(in, api.Returned, (x+y)%65536, ""))
			wantRun(t, "-cabrc..", in, 2, still(in, api.Returned, (x-y+65536)%65536, ""))
			wantRun(t, "*cabrc..", in, 2, still(in, api.Returned, int(int64(x)*int64(y)%65536), ""))
			wantRun(t, "&cabrc..", in, 2, still(in, api.Returned, x&y, ""))
			wantRun(t, "^cabrc..", in, 2, still(in, api.Returned, x^y, ""))
			wantRun(t, "=cb.rc..", in, 2, still(in, api.Returned, y, ""))
		}
	}
	in := begin(1, 2, 3, 4)
	wantRun(t, "#c00rc..", in, 2, still(in, api.Returned, 0, ""))
	wantRun(t, "#c99rc..", in, 2, still(in, api.Returned, 99, ""))
	wantRun(t, "#c70rc..", in, 2, still(in, api.Returned, 70, ""))
	wantRun(t, "-aabra..", in, 2, still(in, api.Returned, 65535, ""))
	wantRun(t, "=CB.+CCArC..", in, 3, still(in, api.Returned, 7, ""))
}

// TestRunEveryRegister: 52 registers, none of which is another.
func TestRunEveryRegister(t *testing.T) {
	letters := "abcdefghijklmnopqrstuvwxyzABCDEFGHIJKLMNOPQRSTUVWXYZ"
	in := begin(1, 2, 3, 4)
	s := ""
	for n, r := range letters {
		s += "#" + string(r) + string(rune('0'+(n+10)/10)) + string(rune('0'+(n+10)%10))
	}
	for n, r := range letters {
		wantRun(t, s+"r"+string(r)+"..", in, 53, still(in, api.Returned, n+10, ""))
	}
}

func TestRunMemories(t *testing.T) {
	for word := 0; word < 8; word++ {
		in := begin(word, 500, 0, 600)
		in.Public = [8]int{10, 11, 12, 13, 14, 15, 16, 17}
		in.Secret = [8]int{20, 21, 22, 23, 24, 25, 26, 27}
		digit := string(rune('0' + word))
		wantRun(t, "lca.rc..", in, 2, still(in, api.Returned, 10+word, "l"+digit))
		wantRun(t, "LCa.rC..", in, 2, still(in, api.Returned, 20+word, "L"+digit))
		want := still(in, api.Returned, word, "s"+digit)
		want.Public[word] = 500
		wantRun(t, "sab.ra..", in, 2, want)
		want = still(in, api.Returned, word, "S"+digit)
		want.Secret[word] = 600
		wantRun(t, "SaB.ra..", in, 2, want)
	}
}

func TestRunTraps(t *testing.T) {
	for _, c := range []struct {
		word   int
		digits string
	}{{8, "8"}, {9, "9"}, {10, "10"}, {100, "100"}, {32768, "32768"}, {65535, "65535"}} {
		in := begin(c.word, 5, 6, 7)
		in.Public[0] = 9
		in.Secret[7] = 9
		for _, i := range []string{"lba.", "LBa.", "sab.", "SaB."} {
			wantRun(t, i+"rb..", in, 1, still(in, api.Trapped, 0, i[:1]+c.digits+"!"))
			wantRun(t, i+"rb..", in, 20000, still(in, api.Trapped, 0, i[:1]+c.digits+"!"))
			wantRun(t, i+"rb..", in, 0, still(in, api.Tired, 0, ""))
		}
	}
	// What was written ahead of the trap stays.
	in := begin(8, 7, 6, 5)
	want := still(in, api.Trapped, 0, "s7S7s8!")
	want.Public[7] = 8
	want.Secret[7] = 6
	wantRun(t, "sba.SbA.sab.ra..", in, 9, want)
}

func TestRunFuel(t *testing.T) {
	in := begin(3, 9, 0, 0)
	s := "#c01j1..-aac?a12rb.."
	for fuel, trace := range []string{"", "", "", "", "?1", "?1", "?1?1", "?1?1", "?1?1?0"} {
		wantRun(t, s, in, fuel, still(in, api.Tired, 0, trace))
	}
	wantRun(t, s, in, 9, still(in, api.Returned, 9, "?1?1?0"))
	wantRun(t, s, in, 20000, still(in, api.Returned, 9, "?1?1?0"))
	// A run of 3 + 2*9998 + 1 = 20000 instructions, just as many as there may be; one round more is too many.
	s = "#c01#d00j1..-aac?a12rb.."
	in = begin(9998, 9, 0, 0)
	trace := strings.Repeat("?1", 9997) + "?0"
	wantRun(t, s, in, 20000, still(in, api.Returned, 9, trace))
	wantRun(t, s, in, 19999, still(in, api.Tired, 0, trace))
	in = begin(9999, 9, 0, 0)
	wantRun(t, s, in, 20000, still(in, api.Tired, 0, strings.Repeat("?1", 9998)))
}

func TestRunLongTrace(t *testing.T) {
	in := begin(7, 7, 0, 0)
	wantRun(t, "j1..lca.?a11", in, 20000, still(in, api.Tired, 0, strings.Repeat("l7?1", 9999)+"l7"))
}

func TestRunJumps(t *testing.T) {
	in := begin(1, 0, 0, 0)
	// Each block sets the register that is returned, so that a wrong way shows.
	s := "#c10j3..#c11rc..#c12rc..?a12"
	wantRun(t, s, in, 9, still(in, api.Returned, 11, "?1"))
	in.Args[0] = 0
	wantRun(t, s, in, 9, still(in, api.Returned, 12, "?0"))
	in.Args[0] = 65535
	wantRun(t, s, in, 9, still(in, api.Returned, 11, "?1"))
	wantRun(t, "j9..#c01rc..#c02rc..#c03rc..#c04rc..#c05rc..#c06rc..#c07rc..#c08rc..#c09rc..", in, 9, still(in, api.Returned, 9, ""))
}

func TestRunRefuses(t *testing.T) {
	good := begin(1, 2, 3, 4)
	for _, fuel := range []int{-1, 20001, 1 << 40, -1 << 40, -1 << 63, 1<<63 - 1} {
		wantRefused(t, "ra..", good, fuel, api.ErrArg)
	}
	for _, v := range []int{-1, 65536, 1 << 40, -1 << 63, 1<<63 - 1} {
		for n := 0; n < 4; n++ {
			in := good
			in.Args[n] = v
			wantRefused(t, "ra..", in, 9, api.ErrArg)
		}
		for n := 0; n < 8; n++ {
			in := good
			in.Public[n] = v
			wantRefused(t, "ra..", in, 9, api.ErrArg)
			in = good
			in.Secret[n] = v
			wantRefused(t, "ra..", in, 9, api.ErrArg)
		}
	}
	full := begin(65535, 65535, 65535, 65535)
	for n := 0; n < 8; n++ {
		full.Public[n] = 65535
		full.Secret[n] = 65535
	}
	wantRun(t, "rB..", full, 20000, still(full, api.Returned, 65535, ""))
}

// TestRunOrder: the errors of Check come ahead of ErrArg, and ErrSecret is none.
func TestRunOrder(t *testing.T) {
	bad := begin(-1, 0, 0, 0)
	wantRefused(t, strings.Repeat("ra..", 65), bad, -1, api.ErrLong)
	wantRefused(t, strings.Repeat("x", 256), bad, -1, api.ErrCode)
	wantRefused(t, "=aA.rc..", bad, -1, api.ErrUnset)
	wantRefused(t, "=aA.ra..", bad, 9, api.ErrArg)
	wantRefused(t, "=aA.ra..", begin(0, 0, 0, 0), -1, api.ErrArg)
	in := begin(1, 2, 5, 0)
	in.Secret[5] = 77
	wantRun(t, "=aA.ra..", in, 2, still(in, api.Returned, 5, ""))
	wantRun(t, "LcA.?A11rc..", in, 3, still(in, api.Returned, 77, "L5?1"))
}

// TestRunThrown holds Run against the reference at many thrown programs.
func TestRunThrown(t *testing.T) {
	d := &dice{now: 4}
	var seen [3]int
	for n := 0; n < 20000; n++ {
		s := d.program([]string{"ab", "abAB", "abcABC"}[d.throw(3)])
		_, e := referenceCheck(s)
		in := d.input()
		fuel := []int{d.throw(12), 60, 300}[d.throw(3)]
		if e != api.OK && e != api.ErrSecret {
			wantRefused(t, s, in, fuel, e)
			continue
		}
		want := referenceRun(s, in, fuel)
		wantRun(t, s, in, fuel, want)
		seen[want.Status]++
	}
	for status, n := range seen {
		if n < 1000 {
			t.Errorf("only %d of the thrown runs end with status %d", n, status)
		}
	}
}
