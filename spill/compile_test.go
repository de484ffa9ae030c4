package spill

import (
	"sort"
	"strings"
	"testing"

	"spill/api"
)

// slotsOf: the different slots that a machine program names.
func slotsOf(m string) string {
	slots := ""
	for _, i := range cut(m) {
		for _, b := range i[1:] {
			if strings.ContainsRune(letters, b) && !strings.ContainsRune(slots, b) {
				slots += string(b)
			}
		}
	}
	return slots
}

// wantCompiled holds what Compile makes against the points of its promise that need no run.
func wantCompiled(t *testing.T, s string, k int) string {
	t.Helper()
	m, e := Compile(s, k)
	if e != api.OK || len(m) > 4096 || !isMachineProgram(m, k) {
		t.Fatalf("P9: Compile(%q, %d) = %q, %d", s, k, m, e)
	}
	wantAccept(t, s, m, k, true)
	core, e := Core(s, k-2)
	if slots := slotsOf(m); e != api.OK || len(slots) > len(core) {
		t.Errorf("P9: Compile(%q, %d) = %q names the slots %q; the core is %q", s, k, m, slots, core)
	}
	if again, e := Compile(s, k); again != m || e != api.OK {
		t.Errorf("P9: Compile(%q, %d) = %q, and once more %q, %d", s, k, m, again, e)
	}
	return m
}

// wantPace: if the source program ends after n instructions, the machine program ends within 4n + 80, and alike. It answers n, and 4981 if it is more: no fuel is enough for it then.
func wantPace(t *testing.T, s, m string, k int, in api.Input) int {
	t.Helper()
	n := sort.Search(4981, func(n int) bool {
		o, e := Run(s, in, n)
		if e != api.OK {
			t.Fatalf("P4: Run(%q, %v, %d): %d", s, in, n, e)
		}
		return o.Status != api.Tired
	})
	if n > 4980 {
		return n
	}
	want, _ := Run(s, in, n)
	for _, fuel := range []int{4*n + 80, (4*n + 80 + api.MaxFuel) / 2, api.MaxFuel} {
		got, e := Exec(m, k, in, fuel)
		if e != api.OK {
			t.Fatalf("P9: Exec(%q, %d, %v, %d): %d", m, k, in, fuel, e)
		}
		endsAlike(t, s, m, want, got)
	}
	return n
}

// wantQuiet: runs that differ in what is secret alone show the same.
func wantQuiet(t *testing.T, m string, k int, in api.Input, d *dice) {
	t.Helper()
	other := d.input()
	other.Args[0], other.Args[1], other.Public = in.Args[0], in.Args[1], in.Public
	for _, fuel := range []int{d.throw(300), 2000} {
		one, e := Exec(m, k, in, fuel)
		two, f := Exec(m, k, other, fuel)
		if e != api.OK || f != api.OK || one.Trace != two.Trace || one.Status != two.Status {
			t.Errorf("P9: %q shows %q from %v, and %q from %v", m, one.Trace, in, two.Trace, other)
		}
	}
}

// wantKept: all points of the promise, at every number of registers.
func wantKept(t *testing.T, s string) {
	t.Helper()
	d := &dice{now: uint64(len(s))}
	for k := 6; k <= 10; k++ {
		m := wantCompiled(t, s, k)
		for n := 0; n < 6; n++ {
			in := d.input()
			in.Args[0] = n % 3
			wantPace(t, s, m, k, in)
			wantQuiet(t, m, k, in, d)
		}
	}
}

func wantCompileRefused(t *testing.T, s string, k int, e api.Errno) {
	t.Helper()
	if m, gotE := Compile(s, k); m != "" || gotE != e {
		t.Errorf("P9: Compile(%.80q, %d) = %q, %d, want error %d", s, k, m, gotE, e)
	}
}

func TestCompileErrors(t *testing.T) {
	for _, k := range []int{0, 5, 11, 12, -1, -6, 1 << 32, 1<<32 + 6, -1<<32 + 6, 1<<63 - 1, -1 << 63} {
		wantCompileRefused(t, "ra..", k, api.ErrArg)
		wantCompileRefused(t, "j1..j1..", k, api.ErrArg)
	}
	// The text's faults come first, whatever the number; so does a secret that shows.
	for _, k := range []int{-1 << 63, -1, 0, 5, 6, 10, 11, 1<<63 - 1} {
		for _, text := range refusedTexts {
			wantCompileRefused(t, text.s, k, text.e)
		}
		for _, i := range []string{"+cAb", "-caB", "*cAB", "&aAa", "^aaA", "=aA.", "lcA.", "lCA.", "LcA.", "Lca.", "LCA.", "sAb.", "SAb.", "saA.", "?A11"} {
			wantCompileRefused(t, i+"ra..", k, api.ErrSecret)
			wantCompileRefused(t, "ra.."+i+"ra..", k, api.ErrSecret)
		}
		wantCompileRefused(t, "=cC.ra..", k, api.ErrUnset)
	}
}

func TestCompileExamples(t *testing.T) {
	for _, s := range []string{"rA..", "+cab*ccarc..", "+CAbrC..", "?a12#c07rc..rb..", "+cabrc..", "lca.scb.rc..", "ra..", "rb..", "=cb.rc.."} {
		wantKept(t, s)
	}
}

// TestCompileInstructions: each kind of instruction, with its registers in whatever places.
func TestCompileInstructions(t *testing.T) {
	// so many registers are live that some live in registers and some in slots
	before, behind := "", ""
	for _, r := range "cdefgCDEFG" {
		before += "#" + string(r) + "05"
		behind += "+BB" + string(r)
	}
	for _, i := range []string{"+", "-", "*", "&", "^"} {
		for _, registers := range []string{"cde", "cGd", "ccc", "GGG", "GcG", "CGc", "GFE", "FFg", "gcd", "gff", "abc", "ABC", "Xab", "XAG", "xag"} {
			wantKept(t, before+hushed(i+registers)+behind+"rB..")
		}
	}
	for _, i := range []string{"#c99", "#G00", "#X10", "=cd.", "=cg.", "=gc.", "=gf.", "=CG.", "=GC.", "=GF.", "=GG.", "=cc.", "=ab.", "=BA.", "=Xa.", "=XG.", "=xg.",
		"lca.", "lcg.", "lgc.", "lgg.", "lGg.", "lxg.", "Lca.", "LCa.", "LGg.", "LXc.", "sab.", "scg.", "sgc.", "sgg.", "Sag.", "ScG.", "SgG.", "SgC."} {
		wantKept(t, before+hushed(i)+behind+"rB..")
	}
	for _, r := range "abcdefgABCDEFG" {
		wantKept(t, before+behind+"?b12r"+string(r)+"..rc..")
		wantKept(t, before+behind+hushed("?"+string(r)+"12")+"ra..r"+string(r)+"..")
	}
}

// TestCompileMoves: registers that change places, and moves that nothing comes of.
func TestCompileMoves(t *testing.T) {
	for _, s := range []string{
		"=aa.ra..", "=aa.=aa.rb..", "=ab.ra..", "=ab.rb..", "=ca.=ab.=bc.ra..", "=ca.=ab.=bc.rb..", "=CA.=AB.=BC.rA..",
		"=ca.=ab.=bc.=CA.=AB.=BC.+Aaa+Bbb^AABrA..",
		"=ca.=cc.=dc.=ad.=cb.ra..", "=Xa.=Yb.=ZA.=WB.=AX.=BY.+AZW*AAB-AAXrA..",
		"j1..=ca.=ab.=bc.?a12ra..", "j1..=CA.=AB.=BC.=cb.#b00=ac.?c12-AABrA..",
		"=ca.j1..=dc.=ed.j2..=fe.rf..", "?a12=ca.j3..=cb.j3..=dc.rd..",
		// round in a ring of more than the machine has
		"=ca.=da.=ea.=fa.=ga.=ha.=ia.=ja.=ka.#k01j1..=lc.=cd.=de.=ef.=fg.=gh.=hi.=ij.=jk.=kl.-aak+aac?a12+acd+aae+aaf+aag+aah+aairA..",
	} {
		wantKept(t, s)
	}
}

// TestCompileNeverRead: what is written and never read, and arguments that are not read, or are written first.
func TestCompileNeverRead(t *testing.T) {
	for _, s := range []string{
		"#c01ra..", "#c01#c02ra..", "#c01rc..", "#a01ra..", "#A01rA..", "#b01rb..", "#a01#b02+AabrA..", "j1..j1..", "#c01j1..#d02j1..",
		"lca.rb..", "LCa.rb..", "=ca.=da.rb..", "+cab+dab+eab+fab+gab+Cab+DAB+EABrb..", "#a01#b01#A01#B01rB..", "#B01+ABBrA..",
		"#c01#d02#e03#f04#g05#h06#i07#j08#k09ra..", "+XaA+YbB+ZXY+WABra..", "?a12#a01ra..#b02rb..",
		"+AAB+AAa+AAb#c01#d02#e03#f04#g05rA..",
	} {
		wantKept(t, s)
	}
}

func TestCompileBlocks(t *testing.T) {
	for _, s := range []string{
		"?a11rb..", "?a11?b11rb..", "j1..?a11", "j1..?a12?b12rA..", "j1..-aab?a12rB..", "#c01j1..-aac?a12rb..", "#c01j1..-aac+bbb?a12rb..",
		"j1..#c01#d02#e03#f04#g05#h06?a21+ccd+cce+ccf+ccg+cch+ccarc..",
		"#c01#d02#e03#f04#g05#h06#i07j1..-aac+Ade+Bfg^AAB+hhi?a12+AAh+AAirA..",
		"?a12#c01j3..#c02j3..rc..", "?a12#c01#d02j3..#d03#c04j3..-ccdrc..", "?a12=cb.j3..=ca.=bc.j3..+ccbrc..",
		// ten blocks: a chain, one from the last down, a ring, ends of all kinds
		"j1..j2..j3..j4..j5..j6..j7..j8..j9..rB..", "j9..ra..j1..j2..j3..j4..j5..j6..j7..j8..",
		"j1..?a21?a31?a41?a51?a61?a71?a81?a91rB..", "?a12?b34?b56?a78?b99ra..rb..rA..rB..rb..",
		"#c01#d02#e03#f04#g05#h06#i07#j08#k09?a12?b23?b34?b45?b56?b67?b78?b89+ccd+cce+ccf+ccg+cch+cci+ccj+cckrc..rk..",
		"ra..rb..rA..rB..ra..rb..rA..rB..ra..rb..",
	} {
		wantKept(t, s)
	}
}

// TestCompileUnreached: blocks that nothing comes to, which may read what nothing writes, and name others.
func TestCompileUnreached(t *testing.T) {
	for _, s := range []string{
		"ra..rc..", "ra..j1..", "ra..?c12rZ..", "j2..=dc.rd..ra..", "j2..+abcj2..ra..", "j2..#a01j2..ra..", "ra..#z01ry..", "ra..+fcd+ffe+ffcrf..",
		"j2..+cde+fgh+ijk+lmn+opqj2..+cab+dab+eab+fab+gab+hab+ccd+cce+ccf+ccg+cchrc..",
		"ra..#c01#d02#e03#f04#g05#h06+ccd+cce+ccf+ccg+cchrc..",
		"ra..+cde+fgh+ijk+lmn+opq+rst+uvw+xyz+CDE+FGH+IJK+LMN+OPQ+RST+UVW+XYZrZ..",
	} {
		wantKept(t, s)
	}
}

// TestCompileTraps: a run that traps ends as early.
func TestCompileTraps(t *testing.T) {
	for _, s := range []string{"#c08lcc.rc..", "#c08#d01scd.rd..", "#c99LCc.rC..", "#c08ScB.ra..", "sab.sbb.ra..", "lca.lcc.lcc.lcc.rc..", "LCa.SbC.rC..", "#c01j1..+aac-bbcSaB.?b12ra.."} {
		wantKept(t, s)
	}
}

// wide: n registers that are all live at once, and their sum.
func wide(n int) string {
	s, sum := "", ""
	for _, r := range "cdefghijklmnopqrstuvwxyzCDEFGHIJKLMNOPQRSTUVWXYZ"[:n] {
		s += "#" + string(r) + "0" + string("0123456789"[len(s)/4%10])
		sum += "+B" + string(r) + "B"
	}
	return s + sum + "rB.."
}

// TestCompileWide: as many live at one place as the machine has, fewer, and more.
func TestCompileWide(t *testing.T) {
	for n := 0; n <= 31; n++ {
		wantKept(t, wide(n))
	}
	for k := 6; k <= 10; k++ {
		for n := 0; n <= 31; n++ {
			m := wantCompiled(t, wide(n), k)
			// B is live as well
			if few := n+1 <= k-2; few != (slotsOf(m) == "") {
				t.Errorf("P9: of %d that are live at once, with %d registers, the slots %q", n+1, k, slotsOf(m))
			}
		}
	}
}

// TestCompileNoSlot: no slot where the core is empty, though more registers stand in the program than the machine has, and all of its homes are taken.
func TestCompileNoSlot(t *testing.T) {
	chain := ""
	for n := 2; n < 26; n++ {
		chain += "+" + letters[n:n+1] + letters[n-1:n] + letters[n-2:n-1]
	}
	for _, s := range []string{chain + "rz..", "+AAB+AAa+AAbrA..", "#c01#d02+dcd#e03+ede#f04+fefrf..", "+AAB+AAa+AAb#c01#d02+ccd#e03#f04+eef+ecerA..", "=ca.=dc.=ed.=fe.=gf.=hg.=ih.ri.."} {
		for k := 6; k <= 10; k++ {
			if core, e := Core(s, k-2); core != "" || e != api.OK {
				t.Fatalf("P8: Core(%q, %d) = %q, %d", s, k-2, core, e)
			}
			if m := wantCompiled(t, s, k); slotsOf(m) != "" || strings.ContainsAny(m, "<>") {
				t.Errorf("P9: Compile(%q, %d) = %q names slots", s, k, m)
			}
		}
	}
}

// most: as many registers live at once as can be in so many instructions: all but the arguments are written, and then they are read two at a time.
func most(instructions int) string {
	s, stores := "", ""
	for n := 0; n < (instructions+4)/3; n++ {
		public, secret := letters[n:n+1], letters[26+n:27+n]
		if n > 1 {
			s += "#" + public + "07#" + secret + "08"
		}
		stores += "S" + public + secret + "."
	}
	return s + stores
}

// TestCompileLong: programs of 256 bytes, and of as many ends and slots as can be.
func TestCompileLong(t *testing.T) {
	for _, s := range []string{
		strings.Repeat("+aab", 63) + "ra..", strings.Repeat("=ab.", 63) + "ra..", strings.Repeat("+cab", 63) + "rb..", strings.Repeat("SaB.", 63) + "rB..",
		strings.Repeat("+aab", 54) + strings.Repeat("ra..", 10), "j1.." + strings.Repeat("+aab", 61) + "?a12ra..",
	} {
		if len(s) != 256 {
			t.Fatalf("%q has %d bytes", s, len(s))
		}
		wantKept(t, s)
		wantCompileRefused(t, s+".", 6, api.ErrLong)
		wantCompileRefused(t, "=ab."+s, 6, api.ErrLong)
	}
	for _, s := range []string{
		most(63) + "rA..", most(54) + strings.Repeat("rA..", 10), "?a12rb.." + most(61) + "rB..",
		"?a12?b34?b56?a78?b99rB..rB..rB..rB.." + most(54) + "rB..",
		most(50) + "?a12?b34?b56?a78?b99rB..rB..rB..rB..rb..",
	} {
		wantKept(t, s)
		if m := wantCompiled(t, s, 6); len(slotsOf(m)) < 30 {
			t.Errorf("P9: %q has no more than the slots %q", m, slotsOf(m))
		}
	}
}

// TestCompilePace: loops in which each instruction reads and writes what lives in slots, round after round.
func TestCompilePace(t *testing.T) {
	names := "cdefghijklmnopq"
	before, behind := "#z01", ""
	for _, r := range names {
		before += "#" + string(r) + "01"
		behind += "+aa" + string(r)
	}
	for n := 0; n+2 < len(names); n++ {
		x, y, z := names[n:n+1], names[n+1:n+2], names[n+2:n+3]
		for _, loop := range []string{
			strings.Repeat("+"+x+y+z, 20) + "-aaz?a12",
			strings.Repeat("="+x+y+".", 10) + "-aaz?a12",
			"=" + x + y + ".=" + y + z + ".=" + z + x + ".^" + x + y + z + "-aaz?a12",
			"#" + x + "07s" + x + y + ".l" + y + x + ".S" + x + z + ".-aaz?a12",
			"*" + x + y + z + "?" + x + "22-aaz?a13",
		} {
			s := before + "j1.." + loop + behind + "ra.."
			for k := 6; k <= 10; k++ {
				m := wantCompiled(t, s, k)
				for _, rounds := range []int{1, 2, 40, 200} {
					if steps := wantPace(t, s, m, k, api.Input{Args: [4]int{rounds, 1, 2, 3}}); steps > 4980 {
						t.Errorf("P4: %q tires", s)
					}
				}
			}
		}
	}
}

// TestCompileAtOnce: an end that is come to at once, with many slots to leave empty; and one that is come to only after many rounds.
func TestCompileAtOnce(t *testing.T) {
	for s, want := range map[string]int{
		"?a12rb.." + most(61) + "rB..":             2,
		"#c00?c12" + most(61) + "rB..rb..":         3,
		"j1..?a21?a31?a41?a51?a61?a71?a81?a91rB..": 10,
		"#c01j1..-aac?a12rB..":                     2 + 2*2488 + 1,
	} {
		for k := 6; k <= 10; k++ {
			m := wantCompiled(t, s, k)
			if steps := wantPace(t, s, m, k, api.Input{Args: [4]int{2488, 2, 3, 4}}); steps != want {
				t.Errorf("P4: %q ends after %d, want %d", s, steps, want)
			}
		}
	}
}

// TestCompileThrown holds Compile against its promise at many thrown programs.
func TestCompileThrown(t *testing.T) {
	d := &dice{now: 31}
	var seen [2]int
	for n := 0; n < 2500; n++ {
		s := d.crowd()
		if d.throw(3) == 0 {
			s = ""
			for _, i := range cut(d.begun()) {
				s += hushed(i)
			}
		}
		k := 6 + d.throw(5)
		if _, e := referenceCheck(s); e != api.OK {
			wantCompileRefused(t, s, k, e)
			continue
		}
		m := wantCompiled(t, s, k)
		seen[min(1, len(slotsOf(m)))]++
		for times := 0; times < 3; times++ {
			in := d.input()
			wantPace(t, s, m, k, in)
			wantQuiet(t, m, k, in, d)
		}
	}
	if seen[0] < 300 || seen[1] < 300 {
		t.Errorf("of the programs that were thrown %d need slots and %d none", seen[1], seen[0])
	}
}

// TestCompileMarred: what is wrong with a text is told as Check tells it, whatever the number.
func TestCompileMarred(t *testing.T) {
	d := &dice{now: 32}
	var seen [6]int
	for n := 0; n < 4000; n++ {
		s := d.marred(d.begun())
		k := 4 + d.throw(9)
		_, want := referenceCheck(s)
		if want == api.OK && (k < 6 || k > 10) {
			want = api.ErrArg
		}
		m, e := Compile(s, k)
		if e != want || (e == api.OK) != (m != "") {
			t.Errorf("P9: Compile(%q, %d) = %q, %d, want error %d", s, k, m, e, want)
		}
		seen[want]++
	}
	for _, e := range []api.Errno{api.OK, api.ErrArg, api.ErrCode, api.ErrUnset, api.ErrSecret} {
		if seen[e] < 20 {
			t.Errorf("of the texts that were thrown %d answer %d", seen[e], e)
		}
	}
}
