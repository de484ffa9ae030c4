package spill

import (
	"strings"
	"testing"

	"spill/api"
)

func wantCheck(t *testing.T, s string, n int, e api.Errno) {
	t.Helper()
	if gotN, gotE := Check(s); gotN != n || gotE != e {
		t.Errorf("P3: Check(%.80q) = %d, %d, want %d, %d", s, gotN, gotE, n, e)
	}
}

func TestCheckExamples(t *testing.T) {
	wantCheck(t, "rA..", 1, api.OK)
	wantCheck(t, "+cab*ccarc..", 3, api.OK)
	wantCheck(t, "+cAbrc..", 0, api.ErrSecret)
	wantCheck(t, "+CAbrC..", 2, api.OK)
	wantCheck(t, "rc..", 0, api.ErrUnset)
	for _, s := range []string{"ra.", "+cab", "j0..", "j1..", "ra..+cab", "r0..", ""} {
		wantCheck(t, s, 0, api.ErrCode)
	}
	wantCheck(t, "?a12#c07rc..rb..", 4, api.OK)
	wantCheck(t, "?a12#c07j2..rc..", 0, api.ErrUnset)
}

func TestCheckLengths(t *testing.T) {
	wantCheck(t, strings.Repeat("+aab", 63)+"ra..", 64, api.OK)
	wantCheck(t, strings.Repeat("+aab", 63)+"ra.", 0, api.ErrCode)
	wantCheck(t, strings.Repeat("+aab", 63)+"ra...", 0, api.ErrLong)
	wantCheck(t, strings.Repeat("+aab", 64)+"ra..", 0, api.ErrLong)
	for n := 1; n < 4; n++ {
		wantCheck(t, "ra.."[:n], 0, api.ErrCode)
		wantCheck(t, "ra.."+"rb.."[:n], 0, api.ErrCode)
	}
	wantCheck(t, strings.Repeat("\x00", 256), 0, api.ErrCode)
	wantCheck(t, strings.Repeat("\x00", 257), 0, api.ErrLong)
	wantCheck(t, strings.Repeat("é", 129), 0, api.ErrLong)
}

func TestCheckBlocks(t *testing.T) {
	wantCheck(t, strings.Repeat("ra..", 10), 10, api.OK)
	wantCheck(t, strings.Repeat("ra..", 11), 0, api.ErrCode)
	wantCheck(t, "j9.."+strings.Repeat("ra..", 9), 10, api.OK)
	wantCheck(t, "j9.."+strings.Repeat("ra..", 8), 0, api.ErrCode)
	wantCheck(t, "?a99"+strings.Repeat("ra..", 9), 10, api.OK)
	wantCheck(t, "?a91"+strings.Repeat("ra..", 8), 0, api.ErrCode)
	wantCheck(t, "?a19"+strings.Repeat("ra..", 8), 0, api.ErrCode)
	wantCheck(t, "j1..j1..", 2, api.OK)
	wantCheck(t, "j1..?a01", 0, api.ErrCode)
	wantCheck(t, "j1..?a10", 0, api.ErrCode)
	// Blocks that nothing comes to are held to the form too.
	wantCheck(t, "ra..j0..", 0, api.ErrCode)
	wantCheck(t, "ra..j2..", 0, api.ErrCode)
}

// TestCheckEveryByte puts every byte at every place of each kind of instruction.
func TestCheckEveryByte(t *testing.T) {
	for _, i := range []string{"+aab", "-AaB", "*aba", "&AAB", "^bbb", "#a07", "=ab.", "laa.", "LAa.", "sab.", "SaA.", "j1..", "?a12", "ra.."} {
		for at := 0; at < 4; at++ {
			for b := 0; b < 256; b++ {
				s := i[:at] + string([]byte{byte(b)}) + i[at+1:] + "ra..rb.."
				n, e := referenceCheck(s)
				wantCheck(t, s, n, e)
			}
		}
	}
}

// TestCheckEveryLetter: each of the 52 letters can be written, read, and is public or secret as it should be.
func TestCheckEveryLetter(t *testing.T) {
	for _, letter := range "abcdefghijklmnopqrstuvwxyzABCDEFGHIJKLMNOPQRSTUVWXYZ" {
		r := string(letter)
		wantCheck(t, "#"+r+"01r"+r+"..", 2, api.OK)
		if strings.Contains("abAB", r) {
			wantCheck(t, "r"+r+"..", 1, api.OK)
		} else {
			wantCheck(t, "r"+r+"..", 0, api.ErrUnset)
		}
		if r >= "a" {
			wantCheck(t, "="+r+"a.r"+r+"..", 2, api.OK)
			wantCheck(t, "="+r+"A.r"+r+"..", 0, api.ErrSecret)
		} else {
			wantCheck(t, "="+r+"A.r"+r+"..", 2, api.OK)
			wantCheck(t, "#"+r+"01=a"+r+".ra..", 0, api.ErrSecret)
		}
	}
}

func TestCheckUnset(t *testing.T) {
	// What is read and written by one instruction is read first.
	for _, s := range []string{"+ccarc..", "+cacrc..", "=cc.rc..", "lcc.rc..", "LCC.rC.."} {
		wantCheck(t, s, 0, api.ErrUnset)
	}
	// A store writes no register.
	wantCheck(t, "sca.rc..", 0, api.ErrUnset)
	wantCheck(t, "SaC.ra..", 0, api.ErrUnset)
	// A way through many blocks, in falling order of their numbers.
	wantCheck(t, "j9..rc..j1..j2..j3..j4..j5..j6..j7..j8..", 0, api.ErrUnset)
	wantCheck(t, "j9..rc..j1..j2..j3..j4..#c01j5..j6..j7..j8..", 11, api.OK)
	wantCheck(t, "#c01j9..rc..j1..j2..j3..j4..j5..j6..j7..j8..", 11, api.OK)
	// And in rising order.
	wantCheck(t, "j1..j2..j3..j4..j5..j6..j7..j8..j9..rc..", 0, api.ErrUnset)
	// A loop whose body sets what is read only at its second round.
	wantCheck(t, "j1..?a23#c01j1..rc..", 0, api.ErrUnset)
	wantCheck(t, "j1..#c01?a23j1..rc..", 5, api.OK)
	// Each side of a fork sets it, or only one.
	wantCheck(t, "?a12#c01j3..#c02j3..rc..", 6, api.OK)
	wantCheck(t, "?a12#c01j3..#d02j3..rc..", 0, api.ErrUnset)
	// Where nothing comes nothing is read.
	wantCheck(t, "ra..rc..", 2, api.OK)
	wantCheck(t, "ra..?c11", 2, api.OK)
	wantCheck(t, "j2..+dccrd..ra..", 4, api.OK)
}

func TestCheckSecret(t *testing.T) {
	// Every kind of instruction, with every mixture of public and secret registers.
	for _, op := range "+-*&^" {
		for _, d := range "aA" {
			for _, xy := range []string{"aa", "aA", "Aa", "AA"} {
				s := string(op) + string(d) + xy + "ra.."
				if d == 'a' && xy != "aa" {
					wantCheck(t, s, 0, api.ErrSecret)
				} else {
					wantCheck(t, s, 2, api.OK)
				}
			}
		}
	}
	for _, s := range []string{"=aa.", "=Aa.", "=AA.", "laa.", "lAa.", "LAa.", "saa.", "Saa.", "SaA.", "#a01", "#A01"} {
		wantCheck(t, s+"ra..", 2, api.OK)
		wantCheck(t, s+"rA..", 2, api.OK)
	}
	for _, s := range []string{"=aA.", "laA.", "lAA.", "LaA.", "LAA.", "Laa.", "sAa.", "saA.", "sAA.", "SAa.", "SAA."} {
		wantCheck(t, s+"ra..", 0, api.ErrSecret)
		wantCheck(t, "ra.."+s+"ra..", 0, api.ErrSecret)
	}
	wantCheck(t, "?a11ra..", 2, api.OK)
	wantCheck(t, "?A11ra..", 0, api.ErrSecret)
	wantCheck(t, "ra..?A11", 0, api.ErrSecret)
}

// TestCheckOrder: where several errors apply, the first one named is answered.
func TestCheckOrder(t *testing.T) {
	wantCheck(t, "=aA."+strings.Repeat("+cdd", 63)+"rc", 0, api.ErrLong)
	wantCheck(t, "=aA.rc..j0..", 0, api.ErrCode)
	wantCheck(t, "=aA.rc..", 0, api.ErrUnset)
	wantCheck(t, "=aC.ra..", 0, api.ErrUnset)
	wantCheck(t, "=aA.ra..", 0, api.ErrSecret)
}

// TestCheckThrown holds Check against the reference at many thrown texts.
func TestCheckThrown(t *testing.T) {
	d := &dice{now: 3}
	var seen [6]int
	for n := 0; n < 20000; n++ {
		s := d.program([]string{"ab", "abAB", "abcdABCD"}[d.throw(3)])
		if d.throw(4) == 0 {
			s = d.marred(s)
		}
		want, e := referenceCheck(s)
		wantCheck(t, s, want, e)
		seen[e]++
	}
	for e, n := range seen {
		if n < 200 && api.Errno(e) != api.ErrArg && api.Errno(e) != api.ErrLong {
			t.Errorf("only %d of the thrown texts are answered with %d", n, e)
		}
	}
}
