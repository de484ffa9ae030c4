package home

import (
	"strings"
	"testing"

	"spill/code"
	"spill/flow"
	"spill/meet"
)

func read(t *testing.T, s string) *code.Program {
	t.Helper()
	p, ok := code.ReadSource(s)
	if !ok {
		t.Fatalf("%q is no program", s)
	}
	return &p
}

// wide: n registers that are all live at once.
func wide(n int) string {
	s, sum := "", ""
	for _, r := range "cdefghijklmnopqrstuvwxyz"[:n] {
		s += "#" + string(r) + "01"
		sum += "+cc" + string(r)
	}
	return s + sum + "rc.."
}

var programs = []string{
	"ra..", "rB..", "#c01rc..", "j1..j1..", "+cab*ccarc..", "=ca.=ab.=bc.ra..", "+AAB+AAa+AAbrA..", "#c01#d02ra..",
	"j1..-aab?a12rB..", "ra..+cde#z01ry..", "#c01+aac+bba#A02+BBA+BBa+BBbrB..",
	"+caA+dbB+ecd+fab+gAB+hef+igh+iic+iidri..",
	"+caA+dbB+ecd+fab+gAB+hef+igh+iic+iid+iia+iib+iiA+iiBri..",
	wide(3), wide(4), wide(5), wide(8), wide(9), wide(20),
}

// TestOf: all that stand in a program have homes, those that meet different ones, no spare register is one, and no more live in slots than the core has.
func TestOf(t *testing.T) {
	for _, s := range programs {
		p := read(t, s)
		graph := meet.Of(p)
		for k := 6; k <= 10; k++ {
			homes := Of(p, k)
			slots := 0
			for r := 0; r < code.Registers; r++ {
				place := homes.Place(r)
				stands := strings.IndexByte(letters(s), code.Letter(r)) >= 0
				if stands != (place != code.None) || place >= k-Spare && !code.IsSlot(place) || place >= code.Places {
					t.Errorf("P9: in %q, with %d, %c lives at %d", s, k, code.Letter(r), place)
				}
				if code.IsSlot(place) {
					slots++
				}
				for other := 0; other < r; other++ {
					if graph.Meet(r, other) && homes.Place(other) == place {
						t.Errorf("P9: in %q, with %d, %c and %c meet at %d", s, k, code.Letter(r), code.Letter(other), place)
					}
				}
			}
			core := graph.Core(k - Spare)
			if slots > len(core.Text()) {
				t.Errorf("P9: in %q, with %d, %d live in slots; the core is %q", s, k, slots, core.Text())
			}
		}
	}
}

// letters: what stands in a program, without the first bytes of its instructions.
func letters(s string) string {
	l := ""
	for at := 0; at < len(s); at += 4 {
		l += s[at+1 : at+4]
	}
	return l
}

// TestArgumentsSeated: an argument that will be read lives where it is when a run begins, or in a slot.
func TestArgumentsSeated(t *testing.T) {
	for _, s := range programs {
		p := read(t, s)
		live := flow.AtBeginning(p)
		for k := 6; k <= 10; k++ {
			homes := Of(p, k)
			for n, r := range code.Arguments {
				if place := homes.Place(r); live.Has(r) && place != n && !code.IsSlot(place) {
					t.Errorf("P9: in %q, with %d, argument %d lives at %d", s, k, n, place)
				}
			}
		}
	}
}

// TestFull: as many as there are registers but for the spare ones need no slot, and of one more one does.
func TestFull(t *testing.T) {
	for k := 6; k <= 10; k++ {
		for n, want := range map[int]int{k - 2: 0, k - 1: 1, k: 2, 20: 22 - k} {
			homes := Of(read(t, wide(n)), k)
			slots := 0
			for r := 0; r < code.Registers; r++ {
				if code.IsSlot(homes.Place(r)) {
					slots++
				}
			}
			if slots != want {
				t.Errorf("P9: of %d that meet, with %d registers, %d live in slots, want %d", n, k, slots, want)
			}
		}
	}
}

func TestOutside(t *testing.T) {
	homes := Of(read(t, "ra.."), 6)
	before := homes
	homes.settle(code.None, 3)
	homes.settle(code.Registers, 3)
	if homes != before || homes.Place(code.None) != code.None || homes.Place(code.Registers) != code.None {
		t.Error("what is no register has a home")
	}
	none := Of(&code.Program{}, 6)
	for r := 0; r < code.Registers; r++ {
		if none.Place(r) != code.None {
			t.Errorf("where nothing stands %c lives at %d", code.Letter(r), none.Place(r))
		}
	}
}
