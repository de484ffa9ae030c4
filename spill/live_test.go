package spill

import (
	"strings"
	"testing"

	"spill/api"
)

// wantLive: what is live ahead of each instruction, and that there are no more instructions.
func wantLive(t *testing.T, s string, want ...string) {
	t.Helper()
	for i, w := range want {
		if l, e := Live(s, i); l != w || e != api.OK {
			t.Errorf("P7: Live(%.80q, %d) = %q, %d, want %q", s, i, l, e, w)
		}
	}
	wantLiveRefused(t, s, -1, api.ErrArg)
	wantLiveRefused(t, s, len(want), api.ErrArg)
}

func wantLiveRefused(t *testing.T, s string, i int, e api.Errno) {
	t.Helper()
	if l, gotE := Live(s, i); l != "" || gotE != e {
		t.Errorf("P7: Live(%.80q, %d) = %q, %d, want error %d", s, i, l, gotE, e)
	}
}

func TestLiveExamples(t *testing.T) {
	wantLive(t, "+cab*ccarc..", "ab", "ac", "c")
}

// TestLiveOfEachKind: what each kind of instruction reads and writes.
func TestLiveOfEachKind(t *testing.T) {
	wantLive(t, "ra..", "a")
	wantLive(t, "rB..", "B")
	for _, op := range []string{"+", "-", "*", "&", "^"} {
		wantLive(t, op+"cabrc..", "ab", "c")
		wantLive(t, op+"cbarc..", "ab", "c")
		wantLive(t, op+"caarc..", "a", "c")
		wantLive(t, op+"abbra..", "b", "a")
		wantLive(t, op+"aabra..", "ab", "a")
		wantLive(t, op+"abara..", "ab", "a")
		wantLive(t, op+"CABrb..", "ABb", "b")
	}
	wantLive(t, "#c07rc..", "", "c")
	wantLive(t, "#a07ra..", "", "a")
	wantLive(t, "#c07ra..", "a", "a")
	wantLive(t, "=ca.rc..", "a", "c")
	wantLive(t, "=ca.ra..", "a", "a")
	wantLive(t, "=aa.ra..", "a", "a")
	wantLive(t, "=aa.rb..", "ab", "b")
	for _, op := range []string{"l", "L"} {
		wantLive(t, op+"ca.rc..", "a", "c")
		wantLive(t, op+"ca.rb..", "ab", "b")
		wantLive(t, op+"aa.ra..", "a", "a")
		wantLive(t, op+"Ca.rC..", "a", "C")
	}
	for _, op := range []string{"s", "S"} {
		wantLive(t, op+"ab.rA..", "Aab", "A")
		wantLive(t, op+"aa.rb..", "ab", "b")
		wantLive(t, op+"ab.ra..", "ab", "a")
	}
	wantLive(t, "?a12rb..rB..", "Bab", "b", "B")
	wantLive(t, "?a11rb..", "ab", "b")
	wantLive(t, "j1..rb..", "b", "b")
}

// TestLiveNeverRead: what is written and never read is live nowhere, and what is written anew is not live ahead of it.
func TestLiveNeverRead(t *testing.T) {
	wantLive(t, "#c01#d02rb..", "b", "b", "b")
	wantLive(t, "#c01#c02rc..", "", "", "c")
	wantLive(t, "+caa#c02rc..", "a", "", "c")
	wantLive(t, "#a01ra..", "", "a")
	wantLive(t, "#b01ra..", "a", "a")
}

func TestLiveLoops(t *testing.T) {
	wantLive(t, "#c01j1..-aac?a12rb..", "ab", "abc", "abc", "abc", "b")
	wantLive(t, "j1..j1..", "", "")
	wantLive(t, "j1..?a11", "a", "a")
	wantLive(t, "j1..+aaa?a12rA..", "Aa", "Aa", "Aa", "A")
	// Written in the loop ahead of the read: not live round the loop.
	wantLive(t, "j1..#c02-aac?a12rb..", "ab", "ab", "abc", "ab", "b")
	// Read ahead of the write: live all round.
	wantLive(t, "#c02j1..-aac#c03?a12rb..", "ab", "abc", "abc", "ab", "abc", "b")
	// Two loops, one in the other.
	wantLive(t, "j1..=cb.j2..-cca?c23-bba?b14rA..",
		"Aab", "Aab", "Aabc", "Aabc", "Aabc", "Aab", "Aab", "A")
}

// TestLiveWays: one way of two is enough, and blocks follow in any order.
func TestLiveWays(t *testing.T) {
	wantLive(t, "?a12#c01j3..#c02j3..rc..", "a", "", "c", "", "c", "c")
	wantLive(t, "?a12#b01j3..j3..rb..", "ab", "", "b", "b", "b")
	wantLive(t, "?a12j3..#b01j3..rb..", "ab", "b", "", "b", "b")
	wantLive(t, "j3..ra..j1..j2..", "a", "a", "a", "a")
	wantLive(t, "#c01j9..rc..j1..j2..j3..j4..j5..j6..j7..j8..", "", "c", "c", "c", "c", "c", "c", "c", "c", "c", "c")
	wantLive(t, "#c01j1..j2..j3..j4..j5..j6..j7..j8..j9..rc..", "", "c", "c", "c", "c", "c", "c", "c", "c", "c", "c")
	// What stands behind in the text need not follow.
	wantLive(t, "j2..rb..ra..", "a", "b", "a")
}

// TestLiveUnreached: in a block that nothing comes to registers are live all the same, and need not be written.
func TestLiveUnreached(t *testing.T) {
	wantLive(t, "ra..rz..", "a", "z")
	wantLive(t, "ra..+cderZ..", "a", "Zde", "Z")
	wantLive(t, "j2..+cdej2..ra..", "a", "ade", "a", "a")
	wantLive(t, "ra..?c12?D12", "a", "Dc", "Dc")
	wantLive(t, "ra..ScD.j1..", "a", "Dc", "Dc")
}

// TestLiveSecrets: a program in which a secret shows is looked at as any other.
func TestLiveSecrets(t *testing.T) {
	wantLive(t, "=aA.ra..", "A", "a")
	wantLive(t, "?A12ra..rb..", "Aab", "a", "b")
	wantLive(t, "lcA.rc..", "A", "c")
	wantLive(t, "sAB.rA..", "AB", "A")
}

// TestLiveOrder: capitals stand ahead of small letters, each register once.
func TestLiveOrder(t *testing.T) {
	s := "ra.."
	want := []string{"a"}
	for n := 25; n >= 0; n-- {
		s += "S" + letters[n:n+1] + letters[26+n:27+n] + "."
		want = append(want, risingLetters[:n+1]+risingLetters[26:27+n])
	}
	wantLive(t, s+"ra..", append(want, "a")...)
}

func TestLiveLongest(t *testing.T) {
	s := strings.Repeat("+aab", 63) + "ra.."
	for i := 0; i < 63; i++ {
		if l, e := Live(s, i); l != "ab" || e != api.OK {
			t.Errorf("P7: Live(.., %d) = %q, %d", i, l, e)
		}
	}
	if l, e := Live(s, 63); l != "a" || e != api.OK {
		t.Errorf("P7: Live(.., 63) = %q, %d", l, e)
	}
	wantLiveRefused(t, s, 64, api.ErrArg)
}

func TestLiveErrors(t *testing.T) {
	for _, i := range []int{-1, 1, 2, 4, 1 << 32, -1 << 32, 1<<63 - 1, -1 << 63} {
		wantLiveRefused(t, "ra..", i, api.ErrArg)
	}
	// The text's faults come first, whatever the number.
	for _, i := range []int{-1 << 63, -1, 0, 1, 64, 1<<63 - 1} {
		for _, text := range refusedTexts {
			wantLiveRefused(t, text.s, i, text.e)
		}
	}
}

// TestLiveThrown holds Live against a walk over the text, for each register on its own.
func TestLiveThrown(t *testing.T) {
	d := &dice{now: 21}
	seen := 0
	for n := 0; n < 4000; n++ {
		s := d.begun()
		if d.throw(8) == 0 {
			s = d.marred(s)
		}
		i := d.throw(len(cut(s))+3) - 1
		want := ""
		e := referenceRead(s)
		if e == api.OK && (i < 0 || i >= len(cut(s))) {
			e = api.ErrArg
		}
		if e == api.OK {
			want = referenceLive(cut(s), i)
			seen++
		}
		if l, gotE := Live(s, i); l != want || gotE != e {
			t.Errorf("P7: Live(%q, %d) = %q, %d, want %q, %d", s, i, l, gotE, want, e)
		}
	}
	if seen < 1000 {
		t.Errorf("only %d of the texts that were thrown were taken", seen)
	}
}
