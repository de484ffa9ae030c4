package meet

import (
	"strings"
	"testing"

	"spill/code"
	"spill/flow"
)

const letters = "abcdefghijklmnopqrstuvwxyzABCDEFGHIJKLMNOPQRSTUVWXYZ"

func graph(t *testing.T, s string) Graph {
	t.Helper()
	p, ok := code.ReadSource(s)
	if !ok {
		t.Fatalf("%q is no program", s)
	}
	return Of(&p)
}

// written: for each register that stands in the program whom it meets, such as a:bc.
func written(g Graph) string {
	var l []string
	for r := 0; r < code.Registers; r++ {
		text := g.meets[r].Text()
		if g.stands.Has(r) || text != "" {
			l = append(l, string([]byte{code.Letter(r)})+":"+text)
		}
	}
	return strings.Join(l, " ")
}

func TestOf(t *testing.T) {
	for _, c := range []struct{ s, want string }{
		{"ra..", "a:"},
		{"j1..j1..", ""},
		{"+cab*ccarc..", "a:bc b:a c:a"},
		{"+AAB+AAa+AAbrA..", "a:ABb b:ABa A:Bab B:Aab"},
		// The bytes of instructions are no registers.
		{"lca.LCa.sab.SaA.j1..rb..", "a:ACbc b:ACac c:Aab A:Cabc C:Aab"},
		// Written and never read.
		{"#c01ra..", "a:c c:a"},
		{"#c01#d02ra..", "a:cd c:a d:a"},
		{"ra..#z01rb..", "a: b:z z:b"},
		// Copies are no exception.
		{"=ca.+ccarc..", "a:c c:a"},
		{"=ca.rc..", "a: c:"},
		{"=aa.ra..", "a:"},
		// What is live behind the last write of a block, is so in the blocks that follow.
		{"#c01j2..rb..ra..", "a:c b: c:a"},
		{"#c01?a12rb..rB..", "a:Bbc b:Bac c:Bab B:abc"},
		// In a block that nothing comes to.
		{"ra..#c01+ccdrc..", "a: c:d d:c"},
		// What is live where a block begins does not meet by that alone, but for block 0.
		{"ra..+cderc..", "a: c: d: e:"},
	} {
		if got := written(graph(t, c.s)); got != c.want {
			t.Errorf("P8: of %q there meet %q, want %q", c.s, got, c.want)
		}
	}
}

// TestCore: three that meet one another, a fourth that meets one of them, two that meet each other alone, and one that meets none.
func TestCore(t *testing.T) {
	g := Graph{}
	for _, pair := range []string{"ab", "bc", "ca", "cd", "XY", "qq"} {
		r := strings.IndexByte(letters, pair[0])
		other := strings.IndexByte(letters, pair[1])
		both := flow.Set{}
		both.Put(r, true)
		both.Put(other, true)
		g.stand(code.Instruction{D: r, X: other, Y: code.None})
		g.meetAll(r, &both)
	}
	for c, want := range []string{"XYabcdq", "XYabcd", "abc", "", ""} {
		left := g.Core(c)
		if got := left.Text(); got != want {
			t.Errorf("P8: with %d there are left %q, want %q", c, got, want)
		}
	}
}

// TestCoreOfAChain: to take one away may make another one loose, one after the other, whichever end it begins at.
func TestCoreOfAChain(t *testing.T) {
	g := Graph{}
	for r := 0; r+1 < code.Registers; r++ {
		next := flow.Set{}
		next.Put(r+1, true)
		g.stand(code.Instruction{D: r, X: r + 1, Y: code.None})
		g.meetAll(r, &next)
	}
	if left := g.Core(2); left != (flow.Set{}) {
		t.Errorf("P8: of a chain there are left %q", left.Text())
	}
	ends := flow.Set{}
	ends.Put(0, true)
	g.meetAll(code.Registers-1, &ends)
	if left := g.Core(2); len(left.Text()) != code.Registers {
		t.Errorf("P8: of a ring there are left %q", left.Text())
	}
	if left := g.Core(3); left != (flow.Set{}) {
		t.Errorf("P8: of a ring there are left %q with 3", left.Text())
	}
}

// wantOrder: each register of the graph is listed once, those of the core first, and the others behind all but fewer than c of those that they meet.
func wantOrder(t *testing.T, g *Graph, c int) {
	t.Helper()
	core := g.Core(c)
	ahead := flow.Set{}
	for at, r := range g.Order(c) {
		inCore := at < len(core.Text())
		if ahead.Has(r) || !g.stands.Has(r) || core.Has(r) != inCore {
			t.Errorf("P9: with %d %c is listed as number %d; the core is %q", c, code.Letter(r), at, core.Text())
		}
		if count := g.meeting(r, &ahead); !inCore && count >= c {
			t.Errorf("P9: with %d %c is listed behind %d that it meets", c, code.Letter(r), count)
		}
		ahead.Put(r, true)
	}
	if ahead != g.stands {
		t.Errorf("P9: with %d there are listed %q of %q", c, ahead.Text(), g.stands.Text())
	}
}

func TestOrder(t *testing.T) {
	for _, s := range []string{
		"ra..", "j1..j1..", "+cab*ccarc..", "+AAB+AAa+AAbrA..", "#c01#d02#e03#f04#g05+ccd+cce+ccf+ccgrc..",
		"#c01#d02+dcd#e03+ede#f04+fefrf..", "ra..#c01#d02+dcd#e03+ede#f04+fef#c05+ccfrc..",
		"#c01#d02#e03+ccd#g01#h02#i03+ggh+ggi+cce+gcg#X01+XXX?g12rg..+AAB+AAa+AAbrA..",
	} {
		g := graph(t, s)
		for c := 1; c <= 8; c++ {
			wantOrder(t, &g, c)
		}
	}
}

func TestMeet(t *testing.T) {
	g := graph(t, "+cab*ccarc..")
	for r := -1; r <= code.Registers; r++ {
		for other := -1; other <= code.Registers; other++ {
			want := r == 0 && (other == 1 || other == 2) || other == 0 && (r == 1 || r == 2)
			if g.Meet(r, other) != want {
				t.Errorf("P8: Meet(%d, %d) = %v", r, other, !want)
			}
		}
	}
}

func TestOutside(t *testing.T) {
	g := Graph{}
	all := flow.Set{}
	for r := 0; r < code.Registers; r++ {
		all.Put(r, true)
	}
	g.meetAll(code.None, &all)
	g.meetAll(code.Registers, &all)
	if g != (Graph{}) || g.meeting(code.None, &all) != 0 || g.meeting(code.Registers, &all) != 0 {
		t.Error("what is no register meets others")
	}
	if none := Of(&code.Program{}); none != (Graph{}) {
		t.Error("something stands in a program of nothing")
	}
}
