package spill

import (
	"strings"
	"testing"

	"spill/api"
)

// clear123: what a machine needs at the least to end with register 0 alone.
const clear123 = "~1..~2..~3..r0.."

func wantAccept(t *testing.T, s, m string, k int, want bool) {
	t.Helper()
	if got, e := Accept(s, m, k); e != api.OK || got != want {
		t.Errorf("P6: Accept(%.300q, %.300q, %d) = %v, %d, want %v", s, m, k, got, e, want)
	}
	if referenceAccept(s, m, k) != want {
		t.Errorf("P6: the reference has %v for %.300q, %.300q, %d", !want, s, m, k)
	}
}

func wantAcceptRefused(t *testing.T, s, m string, k int, want api.Errno) {
	t.Helper()
	if got, e := Accept(s, m, k); e != want || got {
		t.Errorf("P6: Accept(%.80q, %.80q, %d) = %v, %d, want %d", s, m, k, got, e, want)
	}
}

func TestAcceptExamples(t *testing.T) {
	wantAccept(t, "ra..", "~1..~2..~3..r0..", 6, true)
	wantAccept(t, "ra..", "r0..", 6, false)
	wantAccept(t, "rb..", "=01.~1..~2..~3..r0..", 6, true)
	wantAccept(t, "rb..", "~1..~2..~3..r0..", 6, false)
	wantAccept(t, "=cb.rc..", "=01.~1..~2..~3..r0..", 6, true)
	wantAccept(t, "ra..", "~1..~2..~3..j1..r0..", 6, false)
	wantAccept(t, "+cabrc..", "+401=04.~4..~1..~2..~3..r0..", 6, true)
	wantAccept(t, "+cabrc..", "+001~4..~1..~2..~3..r0..", 6, true)
	wantAccept(t, "+cabrc..", "+001~1..~2..~3..r0..", 6, true)
	wantAccept(t, "+cabrc..", "+410=04.~4..~1..~2..~3..r0..", 6, false)
}

// TestAcceptBegins: the arguments in registers 0 to 3, and 0 everywhere else.
func TestAcceptBegins(t *testing.T) {
	for n := range "abAB" {
		for place := 0; place < 6; place++ {
			m := "=0" + string(rune('0'+place)) + "." + clear123
			wantAccept(t, "r"+"abAB"[n:n+1]+"..", m, 6, n == place)
		}
	}
	for k := 6; k <= 10; k++ {
		for place := 1; place < k; place++ {
			// A register that holds 0 can stand in for a clearing, another cannot.
			digit := string(rune('0' + place))
			m := ">a" + digit + ".<5a.~a.." + clear123
			wantAccept(t, "ra..", m, k, place >= 4)
		}
	}
	for n := range letters {
		wantAccept(t, "ra..", "<1"+letters[n:n+1]+".=21.=32.r0..", 6, true)
	}
}

// TestAcceptEnds: whatever is left in any place but register 0 is seen.
func TestAcceptEnds(t *testing.T) {
	for k := 6; k <= 10; k++ {
		for place := 1; place < k; place++ {
			digit := string(rune('0' + place))
			kept := strings.Replace("~1..~2..~3..", "~"+digit+"..", "", 1)
			wantAccept(t, "ra..", kept+"="+digit+"0.r0..", k, false)
			wantAccept(t, "ra..", kept+"="+digit+"0.~"+digit+"..r0..", k, true)
			// It may well hold a 0 at run time: that must be known.
			wantAccept(t, "#c00ra..", kept+"#"+digit+"00r0..", k, false)
			wantAccept(t, "#c00ra..", kept+"#"+digit+"00~"+digit+"..r0..", k, true)
			if place < 4 {
				wantAccept(t, "ra..", kept+"r0..", k, false)
			}
		}
	}
	for n := range letters {
		slot := letters[n : n+1]
		wantAccept(t, "ra..", ">"+slot+"0."+clear123, 6, false)
		wantAccept(t, "ra..", ">"+slot+"4."+clear123, 6, true)
		wantAccept(t, "ra..", ">"+slot+"0.~"+slot+".."+clear123, 6, true)
		wantAccept(t, "ra..", "~"+slot+"..>"+slot+"0."+clear123, 6, false)
		wantAccept(t, "ra..", ">"+slot+"1.<0"+slot+".~"+slot+".."+clear123, 6, false)
	}
	wantAccept(t, "ra..", "~0.."+clear123, 6, false)
	wantAccept(t, "#a00ra..", "~0.."+clear123, 6, false)
}

// TestAcceptInstructions: for each kind of instruction all that must agree, each thing wrong on its own.
func TestAcceptInstructions(t *testing.T) {
	for _, op := range "+-*&^" {
		o := string(op)
		wantAccept(t, o+"cabrc..", o+"001"+clear123, 6, true)
		wantAccept(t, o+"cabrc..", o+"011"+clear123, 6, false)
		wantAccept(t, o+"cabrc..", o+"000"+clear123, 6, false)
		wantAccept(t, o+"cabrc..", o+"010"+clear123, 6, false)
		wantAccept(t, o+"cabrc..", o+"501"+clear123, 6, false)
		wantAccept(t, o+"cABrc..", o+"023"+clear123, 6, true)
		wantAccept(t, o+"caarc..", o+"000"+clear123, 6, true)
		wantAccept(t, o+"aabra..", o+"001"+clear123, 6, true)
		wantAccept(t, o+"aabrb..", o+"401=01.~4.."+clear123, 6, true)
		for _, other := range "+-*&^" {
			wantAccept(t, o+"cabrc..", string(other)+"001"+clear123, 6, op == other)
		}
	}
	for _, c := range []struct{ s, m string }{{"#c70", "#070"}, {"lca.", "l00."}, {"LCa.", "L00."}} {
		s := c.s + "r" + c.s[1:2] + ".."
		wantAccept(t, s, c.m+clear123, 6, true)
		for _, m := range []string{"#070", "#007", "#071", "#060", "#470", "l00.", "l01.", "l02.", "l40.", "L00.", "L01.", "L40.", "s00.", "=00.", "~0..", ""} {
			wantAccept(t, s, m+clear123, 6, m == c.m)
		}
	}
	for _, c := range []struct{ s, m string }{{"sab.", "s01."}, {"Sab.", "S01."}} {
		for _, m := range []string{"s01.", "s10.", "s00.", "s11.", "s04.", "S01.", "S10.", "S00.", "S11.", "l01.", ""} {
			wantAccept(t, c.s+"ra..", m+clear123, 6, m == c.m)
		}
	}
	// An instruction too many, or one too few.
	wantAccept(t, "sab.ra..", "s01.s01."+clear123, 6, false)
	wantAccept(t, "sab.sab.ra..", "s01."+clear123, 6, false)
	wantAccept(t, "sab.ra..", clear123, 6, false)
	wantAccept(t, "ra..", "s01."+clear123, 6, false)
	wantAccept(t, "sab.lca.ra..", "l40.s01.~4.."+clear123, 6, false)
}

// TestAcceptWrites: what is written is held at one place alone, and what that place held before is gone.
func TestAcceptWrites(t *testing.T) {
	// Register 4 still has the old a.
	wantAccept(t, "+aabra..", "=40.+001~4.."+clear123, 6, true)
	wantAccept(t, "+aabra..", "=40.+001=04.~4.."+clear123, 6, false)
	wantAccept(t, "#a07ra..", ">q0.#007<0q.~q.."+clear123, 6, false)
	wantAccept(t, "laa.ra..", "=40.l00.=04.~4.."+clear123, 6, false)
	// The place that is written held b, and a second place does or does not.
	wantAccept(t, "+cabrb..", "+101=01."+clear123, 6, false)
	wantAccept(t, "+cabrb..", "=51.+101=05.~5.."+clear123, 6, true)
	wantAccept(t, "+cabrb..", ">q1.+101<0q.~q.."+clear123, 6, true)
	// A place that was known to hold 0 holds it no more.
	wantAccept(t, "#c00ra..", "~5..#500"+clear123, 6, false)
	wantAccept(t, "#c00ra..", "~5..#500=54."+clear123, 6, true)
	// A store, a jump and a fork write nothing.
	wantAccept(t, "sab.SaA.rb..", "s01.S02.=01."+clear123, 6, true)
}

func TestAcceptMoves(t *testing.T) {
	// A move takes all that the place holds along, and leaves nothing that was there.
	wantAccept(t, "=cb.+dbcrd..", "=41.~1..=54.+045~4..~5.."+clear123, 6, true)
	wantAccept(t, "ra..", "=10.~0..=01."+clear123, 6, true)
	wantAccept(t, "rb..", "=10.=01."+clear123, 6, false)
	wantAccept(t, "ra..", "=01."+clear123, 6, false)
	wantAccept(t, "ra..", ">q0.>q1.<0q.~q.."+clear123, 6, false)
	wantAccept(t, "rb..", ">q0.>q1.<0q.~q.."+clear123, 6, true)
	// From a place to itself.
	wantAccept(t, "ra..", "=00.=11.=44."+clear123, 6, true)
	wantAccept(t, "ra..", "~1..=11.~2..~3..r0..", 6, true)
	// A chain through registers and slots.
	wantAccept(t, "rB..", ">Z3.<4Z.>a4.<5a.=05.~5..~4..~a..~Z.."+clear123, 6, true)
	wantAccept(t, "rB..", ">Z3.<4Z.>a4.<5b.=05.~5..~4..~a..~Z.."+clear123, 6, false)
	// Clearing twice, or what is clear.
	wantAccept(t, "ra..", "~4..~4..~m.."+clear123, 6, true)
	// a and b change places.
	wantAccept(t, "-cabrc..", "=40.=01.=14.-010~4.."+clear123, 6, true)
	wantAccept(t, "-cabrc..", "=40.=01.=14.-001~4.."+clear123, 6, false)
}

// TestAcceptPasses: the copies of the source program.
func TestAcceptPasses(t *testing.T) {
	wantAccept(t, "=ca.=dc.=ed.re..", clear123, 6, true)
	wantAccept(t, "=ca.=dc.=ed.#f01ra..", "#401~4.."+clear123, 6, true)
	wantAccept(t, "=ca.=db.+ecdre..", "+001"+clear123, 6, true)
	wantAccept(t, "=ca.=db.+ecdre..", "+010"+clear123, 6, false)
	// What was copied stays when the other is written anew, and the other way round.
	wantAccept(t, "=ca.#a07rc..", "#407~4.."+clear123, 6, true)
	wantAccept(t, "=ca.#a07rc..", "#007"+clear123, 6, false)
	wantAccept(t, "=ca.#c07ra..", "#407~4.."+clear123, 6, true)
	wantAccept(t, "=ca.#c07ra..", "#007"+clear123, 6, false)
	// What d held before the copy is gone.
	wantAccept(t, "=ab.ra..", clear123, 6, false)
	wantAccept(t, "=ab.ra..", "=01."+clear123, 6, true)
	wantAccept(t, "=ab.rb..", "=01."+clear123, 6, true)
	wantAccept(t, "=aa.=bb.ra..", clear123, 6, true)
	wantAccept(t, "=aa.rb..", clear123, 6, false)
	// A copy takes every place along where x is held.
	wantAccept(t, "sab.=cb.scc.rc..", "=41.s01.s14.=01.~4.."+clear123, 6, true)
	wantAccept(t, "sab.=cb.scc.rc..", "=41.s01.s41.=04.~4.."+clear123, 6, true)
	wantAccept(t, "sab.=cb.scc.rc..", "=41.s01.s41.=00.~4.."+clear123, 6, false)
	// Copies stand ahead of the last instruction, and alone in a block with it.
	wantAccept(t, "=ca.j1..=dc.rd..", "j1.."+clear123, 6, true)
	wantAccept(t, "=ca.?a12=dc.rd..=da.rd..", "?012"+clear123+clear123, 6, true)
	// A copy is passed ahead of a move, too, though it comes late: the place is the same.
	wantAccept(t, "sab.=ca.rc..", "s01.=40.~0..=04.~4.."+clear123, 6, true)
	// A copy of the machine does not stand for one of the source, nor the other way round.
	wantAccept(t, "=ca.sab.rc..", "=41.s01.~4.."+clear123, 6, true)
	wantAccept(t, "=cb.sab.rc..", "=40.s01.=04.~4.."+clear123, 6, false)
	// A loop that does nothing but copy: the two change places at every round.
	wantAccept(t, "j1..=ca.=ab.=bc.?a12ra..", "j1..=40.=01.=14.?012~4.."+clear123, 6, true)
	wantAccept(t, "j1..=ca.=ab.=bc.?a12ra..", "j1..?012"+clear123, 6, false)
}

func TestAcceptBlocks(t *testing.T) {
	wantAccept(t, "ra..ra..", clear123, 6, false)
	wantAccept(t, "ra..", clear123+"r0..", 6, false)
	wantAccept(t, "ra..ra..", clear123+"r0..", 6, true)
	wantAccept(t, strings.Repeat("ra..", 10), clear123+strings.Repeat("r0..", 9), 6, true)
	wantAccept(t, strings.Repeat("ra..", 10), clear123+strings.Repeat("r0..", 8), 6, false)
	wantAccept(t, "j9.."+strings.Repeat("ra..", 9), "j9.."+strings.Repeat("r0..", 8)+clear123, 6, true)
	wantAccept(t, "j9.."+strings.Repeat("ra..", 9), "j9..r0.."+clear123+strings.Repeat("r0..", 7), 6, false)
	wantAccept(t, "j9.."+strings.Repeat("ra..", 9), "j8.."+strings.Repeat("r0..", 7)+clear123+clear123, 6, false)
	// A jump is no fork, and a fork names its two blocks in this order.
	wantAccept(t, "j1..ra..", "?011"+clear123, 6, false)
	wantAccept(t, "?a11ra..", "j1.."+clear123, 6, false)
	wantAccept(t, "?a11ra..", "?011"+clear123, 6, true)
	wantAccept(t, "?a12ra..rb..", "?012"+clear123+"=01."+clear123, 6, true)
	wantAccept(t, "?a12ra..rb..", "?021=01."+clear123+clear123, 6, false)
	wantAccept(t, "?a12ra..ra..", "?011"+clear123+clear123, 6, false)
	wantAccept(t, "?a12ra..ra..", "?022"+clear123+clear123, 6, false)
	wantAccept(t, "?a12ra..ra..", "?412"+clear123+clear123, 6, false)
	// Blocks do not end together.
	wantAccept(t, "#c01j1..ra..", "j1..#401~4.."+clear123, 6, false)
	wantAccept(t, "j1..#c01ra..", "#401j1..~4.."+clear123, 6, false)
	wantAccept(t, "ra..j1..", "~1..j1..~2..~3..r0..", 6, false)
	// One of two that are reached is badly played.
	wantAccept(t, "?a12ra..ra..", "?012"+clear123+"r0..", 6, false)
	wantAccept(t, "?a12ra..ra..", "?012r0.."+clear123, 6, false)
}

// TestAcceptUnreached: a block that cannot be reached can be anything, and what it ends with counts for nothing.
func TestAcceptUnreached(t *testing.T) {
	for _, block := range []string{"r0..", "s10.j2..", "?012", "~0..j2..", "=01.?322", "l00.+123r0..", ">a0.j1.."} {
		wantAccept(t, "j2..+cabj2..ra..", "j2.."+block+clear123, 6, true)
		wantAccept(t, "j2..rb..ra..", "j2.."+block+clear123, 6, true)
		wantAccept(t, "j2..j2..ra..", "j2.."+block+clear123, 6, true)
	}
	// Two that name one another.
	wantAccept(t, "ra..j2..j1..", clear123+"#500j2..j1..", 6, true)
	// A block that only the machine program would come to, or only the source program.
	wantAccept(t, "j1..ra..ra..", "j2..r0.."+clear123, 6, false)
	wantAccept(t, "j2..ra..ra..", "j1.."+clear123+clear123, 6, false)
	// Reached by a long way round.
	wantAccept(t, "j9..ra..j1..j2..j3..j4..j5..j6..j7..j8..", "j9.."+clear123+"j1..j2..j3..j4..j5..j6..j7..j8..", 6, true)
	wantAccept(t, "j9..ra..j1..j2..j3..j4..j5..j6..j7..j8..", "j9.."+clear123+"j1..j2..j3..j4..~0..j5..j6..j7..j8..", 6, false)
	wantAccept(t, "j9..ra..j1..j2..j3..j4..j5..j6..j7..j8..", ">Q0.~0..j9.."+clear123+"j1..j2..j3..j4..<0Q.~Q..j5..j6..j7..j8..", 6, true)
}

func TestAcceptJoins(t *testing.T) {
	s := "?a12#c01j3..#c02j3..rc.."
	wantAccept(t, s, "?012#401j3..#402j3..=04.~4.."+clear123, 6, true)
	wantAccept(t, s, "?012#401j3..#502j3..=04.~4..~5.."+clear123, 6, false)
	wantAccept(t, s, "?012#401j3..#502j3..=05.~4..~5.."+clear123, 6, false)
	wantAccept(t, s, "?012#401j3..#502=45.~5..j3..=04.~4.."+clear123, 6, true)
	wantAccept(t, s, "?012#401>m4.~4..j3..#502>m5.~5..j3..<0m.~m.."+clear123, 6, true)
	wantAccept(t, s, "?012#401>m4.~4..j3..#502>n5.~5..j3..<0m.~m..~n.."+clear123, 6, false)
	// Cleared on one way alone.
	wantAccept(t, s, "?012#401~1..j3..#402j3..=04.~4..~2..~3..r0..", 6, false)
	wantAccept(t, s, "?012#401~1..j3..#402~1..j3..=04.~4..~2..~3..r0..", 6, true)
	// The same block named twice by one fork, and by its own end.
	wantAccept(t, "#c01?a11rc..", "#401?011=04.~4.."+clear123, 6, true)
	wantAccept(t, "#c01j1..?a12rc..", "#401j1..?012=04.~4.."+clear123, 6, true)
	// One register of the source in either of two places, both of them on both ways.
	wantAccept(t, "?a12j3..j3..ra..", "?012=40.j3..=40.j3..=04.~4.."+clear123, 6, true)
	wantAccept(t, "?a12j3..j3..ra..", "?012=40.j3..=50.j3..=04.~4..~5.."+clear123, 6, false)
	wantAccept(t, "?a12j3..j3..ra..", "?012=40.j3..=50.j3..~4..~5.."+clear123, 6, true)
}

// TestAcceptLoops: a loop keeps what it was begun with if it does nothing to it, and loses what any round loses.
func TestAcceptLoops(t *testing.T) {
	s := "j1..-aab?a12rb.."
	wantAccept(t, s, "j1..-001?012=01."+clear123, 6, true)
	wantAccept(t, s, "=41.j1..-004?012=04.~4.."+clear123, 6, true)
	wantAccept(t, s, "=41.j1..-004~1..?012=04.~4.."+clear123, 6, true)
	wantAccept(t, s, "=41.j1..-001~1..?012=04.~4.."+clear123, 6, false)
	wantAccept(t, s, "=41.j1..-001~4..?012=01."+clear123, 6, true)
	wantAccept(t, s, "=41.j1..-001~4..?012=04.~4.."+clear123, 6, false)
	wantAccept(t, s, ">b1.~1..j1..<1b.-001~1..?012<0b.~b.."+clear123, 6, true)
	// Lost in a loop within a loop, far from where it is asked for.
	nested := "j1..j2..?a23?b14ra.."
	wantAccept(t, nested, "j1..j2..?023?114"+clear123, 6, true)
	wantAccept(t, nested, "=40.j1..=04.j2..?023?114~4.."+clear123, 6, true)
	wantAccept(t, nested, "=40.j1..=04.j2..?023=41.?114~4.."+clear123, 6, false)
	wantAccept(t, nested, "j1..j2..?023>q2.?114~q.."+clear123, 6, true)
	wantAccept(t, nested, "j1..j2..?023>q2.?114"+clear123, 6, false)
	wantAccept(t, nested, "j1..<4q.j2..?023>q2.?114~q.."+clear123, 6, false)
	// A loop without an end asks for nothing.
	wantAccept(t, "j1..j1..", "j1..j1..", 6, true)
	wantAccept(t, "j1..j1..", "=01.>a0.j1..>b1.j1..", 6, true)
	wantAccept(t, "j1..#c01j1..", "j1..#001j1..", 6, true)
	wantAccept(t, "j1..sab.j1..", "j1..s01.~1..j1..", 6, false)
}

// TestAcceptLongWay: registers, or places, hand on what they hold in a loop, so that what is asked for is lost only after many rounds.
func TestAcceptLongWay(t *testing.T) {
	ring := "cdefghijklmnopqrstuvwxyz"
	same, other, round := "", "", "=Ac."
	for n := range ring {
		same += "=" + ring[n:n+1] + "a."
		round += "=" + ring[n:n+1] + (ring + "A")[n+1:n+2] + "."
	}
	other = strings.Replace(same, "=za.", "=zb.", 1)
	wantAccept(t, same+"j1.."+round+"?a12rc..", "j1..?012"+clear123, 6, true)
	wantAccept(t, other+"j1.."+round+"?a12rc..", "j1..?012"+clear123, 6, false)
	wantAccept(t, other+"j1.."+round+"?a12ra..", "j1..?012"+clear123, 6, true)

	same, round = "", "<5a."
	clearing := "~4..~5.."
	for n := range letters {
		same += ">" + letters[n:n+1] + "0."
		if n > 0 {
			round += "<4" + letters[n:n+1] + ".>" + letters[n-1:n] + "4."
		}
		clearing += "~" + letters[n:n+1] + ".."
	}
	other = strings.Replace(same, ">Z0.", ">Z1.", 1)
	round += ">Z5."
	wantAccept(t, "j1..?a12ra..", same+"j1.."+round+"?012<0a."+clearing+clear123, 6, true)
	wantAccept(t, "j1..?a12ra..", other+"j1.."+round+"?012<0a."+clearing+clear123, 6, false)
	wantAccept(t, "j1..?a12ra..", other+"j1.."+round+"?012"+clearing+clear123, 6, true)
	// The same through all blocks, from the last one down.
	s := "j9..ra..?a19j2..j3..j4..j5..j6..j7..j8.."
	down := "j2..j3..j4..j5..j6..j7..j8.."
	wantAccept(t, s, same+"j9..<0a."+clearing+clear123+round+"?019"+down, 6, true)
	wantAccept(t, s, other+"j9..<0a."+clearing+clear123+round+"?019"+down, 6, false)
}

// TestAcceptOrder: ErrLong, ErrArg, ErrCode, ErrUnset; what is secret is not looked at.
func TestAcceptOrder(t *testing.T) {
	long := strings.Repeat("+aab", 64) + "ra.."
	wantAcceptRefused(t, long, "x", 5, api.ErrLong)
	wantAcceptRefused(t, "x", strings.Repeat("=00.", 1024)+"r", 5, api.ErrLong)
	wantAcceptRefused(t, strings.Repeat("x", 257), clear123, 6, api.ErrLong)
	wantAcceptRefused(t, "ra..", strings.Repeat("x", 4097), 6, api.ErrLong)
	wantAcceptRefused(t, strings.Repeat("x", 256), strings.Repeat("x", 4096), 11, api.ErrArg)
	for _, k := range []int{5, 11, 0, -1, -6, -1 << 63, 1<<63 - 1, 1<<32 + 6} {
		wantAcceptRefused(t, "x", "x", k, api.ErrArg)
		wantAcceptRefused(t, "rc..", clear123, k, api.ErrArg)
		wantAcceptRefused(t, "ra..", clear123, k, api.ErrArg)
	}
	for _, s := range []string{"", "x", "r0..", "ra.", "j0..", "~a..ra..", ">ab.ra..", "<ab.ra..", strings.Repeat("ra..", 11)} {
		wantAcceptRefused(t, s, clear123, 6, api.ErrCode)
		wantAcceptRefused(t, s, "x", 6, api.ErrCode)
	}
	for _, m := range []string{"", "x", "ra..", "r1..", "r0.", "j0..", "=60.r0..", "+abcr0..", strings.Repeat("r0..", 11)} {
		wantAcceptRefused(t, "ra..", m, 6, api.ErrCode)
		wantAcceptRefused(t, "rc..", m, 6, api.ErrCode)
	}
	wantAcceptRefused(t, "rc..", clear123, 6, api.ErrUnset)
	wantAcceptRefused(t, "rc..", "r0..r0..", 6, api.ErrUnset)
	wantAcceptRefused(t, "=cc.ra..", clear123, 6, api.ErrUnset)
	wantAcceptRefused(t, "=aA.rc..", clear123, 6, api.ErrUnset)
	wantAccept(t, "=aA.ra..", "=02."+clear123, 6, true)
	wantAccept(t, "LaA.?A11ra..", "L02.?211"+clear123, 6, true)
}

func TestAcceptLengths(t *testing.T) {
	wantAccept(t, strings.Repeat("+aab", 63)+"ra..", strings.Repeat("+001", 63)+clear123, 6, true)
	wantAccept(t, strings.Repeat("+aab", 63)+"ra..", strings.Repeat("+001", 62)+clear123, 6, false)
	wantAccept(t, "ra..", strings.Repeat("=40.", 1019)+"~4.."+clear123, 6, true)
	wantAccept(t, "ra..", strings.Repeat("=40.", 1020)+clear123, 6, false)
	wantAcceptRefused(t, "ra..", strings.Repeat("=40.", 1020)+"~4.."+clear123, 6, api.ErrLong)
	wantAcceptRefused(t, strings.Repeat("+aab", 63)+"ra..", strings.Repeat("+001", 63)+clear123+".", 6, api.ErrCode)
	wantAcceptRefused(t, strings.Repeat("+aab", 63)+"ra...", strings.Repeat("+001", 63)+clear123, 6, api.ErrLong)
	for k := 6; k <= 10; k++ {
		wantAccept(t, "ra..", clear123, k, true)
		if k < 10 {
			wantAcceptRefused(t, "ra..", "~"+string(rune('0'+k))+".."+clear123, k, api.ErrCode)
		}
	}
}

// follows: what the document says of runs of a machine program that is accepted.
func follows(t *testing.T, s, m string, k int, in api.Input) {
	t.Helper()
	want, e := Run(s, in, 100)
	got, ge := Exec(m, k, in, api.MaxFuel)
	if e != api.OK || ge != api.OK {
		t.Fatalf("P6: %q: %d; %q: %d", s, e, m, ge)
	}
	if want.Status != api.Tired {
		endsAlike(t, s, m, want, got)
	}
}

// endsAlike: how the run of a machine program ends that is accepted, beside that of the source program.
func endsAlike(t *testing.T, s, m string, want, got api.Outcome) {
	t.Helper()
	if got.Status != want.Status || got.Value != want.Value || got.Public != want.Public || got.Secret != want.Secret {
		t.Errorf("P6, P9: %q ends with %+v, and %q, which is accepted, with %+v", s, want, m, got)
	}
	trace := ""
	for at := 0; at < len(got.Trace); at++ {
		if strings.IndexByte("<>~", got.Trace[at]) >= 0 {
			at++
		} else {
			trace += got.Trace[at : at+1]
		}
	}
	if trace != want.Trace {
		t.Errorf("P6, P9: %q shows %q, and %q, which is accepted, %q", s, want.Trace, m, got.Trace)
	}
	if want.Status == api.Returned && (got.Slots != [52]int{} || got.Regs != [10]int{got.Value}) {
		t.Errorf("P6, P9: %q, which is accepted, leaves %v, %v", m, got.Regs, got.Slots)
	}
}

// TestAcceptThrown holds Accept against the reference at many thrown programs, translated plainly and tampered with, and what is accepted against its runs.
func TestAcceptThrown(t *testing.T) {
	d := &dice{now: 8}
	var seen [2]int
	for n := 0; n < 8000; n++ {
		s := d.program([]string{"ab", "abAB", "abcdABCD"}[d.throw(3)])
		if _, e := referenceCheck(s); e != api.OK && e != api.ErrSecret {
			continue
		}
		k := 6 + d.throw(5)
		m := d.translate(s, k)
		wantAccept(t, s, m, k, true)
		follows(t, s, m, k, d.input())
		for times := d.throw(3); times >= 0; times-- {
			m = d.tampered(m, k)
		}
		if !isMachineProgram(m, k) {
			wantAcceptRefused(t, s, m, k, api.ErrCode)
			continue
		}
		want := referenceAccept(s, m, k)
		wantAccept(t, s, m, k, want)
		if want {
			seen[1]++
			follows(t, s, m, k, d.input())
		} else {
			seen[0]++
		}
	}
	if seen[0] < 1000 || seen[1] < 500 {
		t.Errorf("of the programs that were tampered with %d are accepted and %d not", seen[1], seen[0])
	}
}

// TestAcceptWandering does so with machine programs that move values about between any two instructions.
func TestAcceptWandering(t *testing.T) {
	d := &dice{now: 9}
	var seen [2]int
	for n := 0; n < 6000; n++ {
		s := d.chain("abcAB")
		if _, e := referenceCheck(s); e != api.OK && e != api.ErrSecret {
			continue
		}
		m := d.wander(s, 10)
		wantAccept(t, s, m, 10, true)
		follows(t, s, m, 10, d.input())
		m = d.tampered(d.tampered(m, 10), 10)
		if !isMachineProgram(m, 10) {
			continue
		}
		want := referenceAccept(s, m, 10)
		wantAccept(t, s, m, 10, want)
		if want {
			seen[1]++
			follows(t, s, m, 10, d.input())
		} else {
			seen[0]++
		}
	}
	if seen[0] < 1000 || seen[1] < 500 {
		t.Errorf("of the programs that were tampered with %d are accepted and %d not", seen[1], seen[0])
	}
}
