package spill

import (
	"testing"

	"spill/api"
)

// wantCore: what is left with 1 colour, with 2, and so on; with more colours than that nothing.
func wantCore(t *testing.T, s string, want ...string) {
	t.Helper()
	for c := 1; c <= 52; c++ {
		w := ""
		if c <= len(want) {
			w = want[c-1]
		}
		if l, e := Core(s, c); l != w || e != api.OK {
			t.Errorf("P8: Core(%.80q, %d) = %q, %d, want %q", s, c, l, e, w)
		}
	}
}

func wantCoreRefused(t *testing.T, s string, c int, e api.Errno) {
	t.Helper()
	if l, gotE := Core(s, c); l != "" || gotE != e {
		t.Errorf("P8: Core(%.80q, %d) = %q, %d, want error %d", s, c, l, gotE, e)
	}
}

func TestCoreExamples(t *testing.T) {
	wantCore(t, "+cab*ccarc..", "abc")
}

// TestCoreArguments: those that are live ahead of instruction 0 meet, the others do not for being arguments alone.
func TestCoreArguments(t *testing.T) {
	wantCore(t, "ra..")
	wantCore(t, "j1..j1..")
	wantCore(t, "#c01rc..")
	wantCore(t, "+aabra..", "ab")
	wantCore(t, "+AABrA..", "AB")
	wantCore(t, "+AAB+AAa+AAbrA..", "ABab", "ABab", "ABab")
	// b is written before it is read, and A and B stand nowhere.
	wantCore(t, "#b01+babrb..", "ab")
	wantCore(t, "#b01rb..")
	// a is live ahead of instruction 0; b, which is not, is written where a is no longer live.
	wantCore(t, "=ca.#b01+bcbrb..", "bc")
	// Live ahead of instruction 0 by one way alone.
	wantCore(t, "?a12rb..rB..", "Bab", "Bab")
	wantCore(t, "?a12rb..#b02rb..", "ab")
}

// TestCoreWrites: what an instruction writes meets what is live behind it, and not what it reads, nor itself.
func TestCoreWrites(t *testing.T) {
	wantCore(t, "=ca.rc..")
	wantCore(t, "=ca.+ccarc..", "ac")
	wantCore(t, "=aa.ra..")
	wantCore(t, "+aaara..")
	for _, i := range []string{"+caa", "-caa", "*caa", "&caa", "^caa", "#c07", "=ca.", "lca.", "Lca."} {
		wantCore(t, i+"rc..")
		wantCore(t, i+"+ccarc..", "ac")
		wantCore(t, i+"ra..", "ac")
	}
	// What writes nothing lets nothing meet.
	for _, i := range []string{"sbc.", "Sbc.", "scb.", "Scb."} {
		wantCore(t, "ra.."+i+"rd..")
	}
	wantCore(t, "ra..?b22rd..")
	wantCore(t, "=ca.=da.=ea.+ccd+ccerc..", "acde", "acde")
}

// TestCoreNeverRead: a register that is written and never read meets those that are live behind it.
func TestCoreNeverRead(t *testing.T) {
	wantCore(t, "#c01ra..", "ac")
	wantCore(t, "#c01#c02rc..")
	wantCore(t, "#c01#d02ra..", "acd")
	wantCore(t, "#c01#d02+aabra..", "abcd", "abcd")
	wantCore(t, "#c01#d02+aab+aaAra..", "Aabcd", "Aabcd", "Aabcd")
}

// TestCoreUnreached: registers stand and meet in blocks that nothing comes to as in others.
func TestCoreUnreached(t *testing.T) {
	wantCore(t, "ra..#z01ry..", "yz")
	wantCore(t, "ra..+cderc..")
	wantCore(t, "j2..+abbra..rB..")
	// c, d, e are live where a block begins: they do not meet for that, as it is not block 0.
	wantCore(t, "ra..+ccd+ccerc..", "ce")
	wantCore(t, "ra..+fcd+ffe+ffcrf..", "cef")
}

func TestCoreLoops(t *testing.T) {
	// b and c are live all round the loop in which a is written.
	wantCore(t, "#c01j1..-aac?a12rb..", "abc", "abc")
	// d is written in the loop, and no longer live where it begins anew.
	wantCore(t, "j1..#d01-aad?a12rA..", "Aad", "Aad")
	wantCore(t, "j1..j2..#c01?a12", "ac")
}

// five: c to g meet one another.
const five = "#c01#d02#e03#f04#g05+ccd+cce+ccf+ccg"

// TestCoreFalls: what is taken away makes others loose.
func TestCoreFalls(t *testing.T) {
	wantCore(t, five+"rc..", "cdefg", "cdefg", "cdefg", "cdefg")
	wantCore(t, five+"+ccarc..", "acdefg", "acdefg", "acdefg", "acdefg", "acdefg")
	wantCore(t, five+"rc..ra..#x01ry..", "cdefgxy", "cdefg", "cdefg", "cdefg")
	// a chain of c, d, e, f, each of which meets the next one
	wantCore(t, "#c01#d02+dcd#e03+ede#f04+fefrf..", "cdef")
	// the same, closed to a ring, in which each meets two
	wantCore(t, "ra..#c01#d02+dcd#e03+ede#f04+fef#c05+ccfrc..", "cdef", "cdef")
}

// TestCoreOrder: capitals stand ahead of small letters.
func TestCoreOrder(t *testing.T) {
	wantCore(t, "#z01#Z02#y03#Y04SzZ.SyY.ra..", "YZayz", "YZayz", "YZayz", "YZayz")
	// 26 that meet one another, of both kinds
	s := ""
	for n := 0; n < 13; n++ {
		s += "#" + letters[25-n:26-n] + "01#" + letters[26+n:27+n] + "02"
	}
	for n := 0; n < 13; n++ {
		s += "S" + letters[25-n:26-n] + letters[26+n:27+n] + "."
	}
	var want []string
	for c := 1; c < 26; c++ {
		want = append(want, "ABCDEFGHIJKLMnopqrstuvwxyz")
	}
	wantCore(t, s+"j1..j1..", want...)
}

// TestCoreSecrets: a program in which a secret shows is looked at as any other.
func TestCoreSecrets(t *testing.T) {
	wantCore(t, "=aA.ra..")
	wantCore(t, "+aABra..", "AB")
	wantCore(t, "?A12ra..rb..", "Aab", "Aab")
}

func TestCoreErrors(t *testing.T) {
	for _, c := range []int{0, -1, 53, 54, 1 << 32, 1<<32 + 1, -1 << 32, 1<<63 - 1, -1 << 63} {
		wantCoreRefused(t, "ra..", c, api.ErrArg)
		wantCoreRefused(t, "=aA.ra..", c, api.ErrArg)
	}
	// The text's faults come first, whatever the number.
	for _, c := range []int{-1 << 63, -1, 0, 1, 52, 53, 1<<63 - 1} {
		for _, text := range refusedTexts {
			wantCoreRefused(t, text.s, c, text.e)
		}
	}
}

// TestCoreThrown holds Core against registers taken away in whatever order.
func TestCoreThrown(t *testing.T) {
	d := &dice{now: 22}
	var seen [2]int
	for n := 0; n < 6000; n++ {
		s := d.begun()
		if d.throw(8) == 0 {
			s = d.marred(s)
		}
		c := d.throw(6)
		want := ""
		e := referenceRead(s)
		if e == api.OK && c == 0 {
			e = api.ErrArg
		}
		if e == api.OK {
			want = referenceCore(cut(s), c, d)
			seen[min(1, len(want))]++
		}
		if l, gotE := Core(s, c); l != want || gotE != e {
			t.Errorf("P8: Core(%q, %d) = %q, %d, want %q, %d", s, c, l, gotE, want, e)
		}
	}
	if seen[0] < 500 || seen[1] < 500 {
		t.Errorf("of the programs that were thrown %d have a core and %d none", seen[1], seen[0])
	}
}
