package spill

import (
	"strings"
	"testing"

	"spill/api"
)

// wantExec: how a machine's run should end; it is held against the whole outcome.
func wantExec(t *testing.T, program string, k int, in api.Input, fuel int, want api.Outcome) {
	t.Helper()
	if got, e := Exec(program, k, in, fuel); e != api.OK || got != want {
		t.Errorf("P5: Exec(%.80q, %d, %v, %d) = %+v, %d, want %+v", program, k, in, fuel, got, e, want)
	}
}

// standing: how a machine's run ends that changes no memory and fills no slot.
func standing(in api.Input, status int, value int, trace string, regs ...int) api.Outcome {
	o := still(in, status, value, trace)
	copy(o.Regs[:], regs)
	return o
}

func wantExecRefused(t *testing.T, program string, k int, in api.Input, fuel int, want api.Errno) {
	t.Helper()
	if got, e := Exec(program, k, in, fuel); e != want || got != (api.Outcome{}) {
		t.Errorf("P5: Exec(%.80q, %d, %v, %d) = %+v, %d, want %d", program, k, in, fuel, got, e, want)
	}
}

func TestExecExamples(t *testing.T) {
	in := begin(9, 0, 0, 0)
	wantExec(t, ">q0.<4q.~q..=04.~4..r0..", 6, in, 9, standing(in, api.Returned, 9, ">q<q~q", 9))
	in = begin(9, 8, 0, 0)
	wantExec(t, ">q0.<4q.~q..=04.~4..r0..", 6, in, 9, standing(in, api.Returned, 9, ">q<q~q", 9, 8))
}

func TestExecBegins(t *testing.T) {
	in := begin(65535, 1, 0, 65534)
	in.Public = [8]int{1, 2, 3, 4, 5, 6, 7, 65535}
	in.Secret = [8]int{9, 8, 7, 6, 5, 4, 3, 65535}
	for k := 6; k <= 10; k++ {
		wantExec(t, "r0..", k, in, 0, standing(in, api.Tired, 0, "", 65535, 1, 0, 65534))
		wantExec(t, "r0..", k, in, 1, standing(in, api.Returned, 65535, "", 65535, 1, 0, 65534))
		wantExec(t, "=03.r0..", k, in, 20000, standing(in, api.Returned, 65534, "", 65534, 1, 0, 65534))
	}
}

// TestExecEveryRegister: as many registers as the machine has, none of which is another, and no more.
func TestExecEveryRegister(t *testing.T) {
	in := begin(1, 2, 3, 4)
	for k := 6; k <= 10; k++ {
		program := ""
		want := standing(in, api.Returned, 10, "")
		for n := 0; n < k; n++ {
			program += "#" + string(rune('0'+n)) + "1" + string(rune('0'+n))
			want.Regs[n] = 10 + n
		}
		wantExec(t, program+"r0..", k, in, 20, want)
		if k < 10 {
			digit := string(rune('0' + k))
			for _, i := range []string{"#D00", "+D00", "+0D0", "+00D", "-D00", "*D00", "&D00", "^D00", "=D0.", "=0D.", "lD0.", "l0D.", "LD0.", "L0D.", "sD0.", "s0D.", "SD0.", "S0D.", ">aD.", "<Da.", "~D.."} {
				i = strings.ReplaceAll(i, "D", digit)
				wantExecRefused(t, i+"r0..", k, in, 20, api.ErrCode)
				if _, e := Exec(i+"r0..", k+1, in, 20); e != api.OK {
					t.Errorf("P5: Exec(%q, %d) = %d", i+"r0..", k+1, e)
				}
			}
			wantExecRefused(t, "?"+digit+"11r0..", k, in, 20, api.ErrCode)
		}
	}
}

// TestExecEverySlot: 52 slots, none of which is another, or a register.
func TestExecEverySlot(t *testing.T) {
	in := begin(1, 2, 3, 4)
	fill, trace := "", ""
	want := standing(in, api.Returned, 1, "", 1, 2, 3, 4, 0, 61)
	for n := range letters {
		slot := letters[n : n+1]
		fill += "#5" + string(rune('0'+(n+10)/10)) + string(rune('0'+(n+10)%10)) + ">" + slot + "5."
		trace += ">" + slot
		want.Slots[n] = n + 10
	}
	want.Trace = trace
	wantExec(t, fill+"r0..", 6, in, 200, want)
	for n := range letters {
		slot := letters[n : n+1]
		one := want
		one.Trace = trace + "<" + slot
		one.Regs[0] = n + 10
		one.Value = n + 10
		wantExec(t, fill+"<0"+slot+".r0..", 6, in, 200, one)
		one = want
		one.Trace = trace + "~" + slot
		one.Slots[n] = 0
		wantExec(t, fill+"~"+slot+"..r0..", 6, in, 200, one)
	}
	for n := 0; n < 6; n++ {
		one := want
		one.Regs[n] = 0
		one.Value = one.Regs[0]
		wantExec(t, fill+"~"+string(rune('0'+n))+"..r0..", 6, in, 200, one)
	}
}

func TestExecArithmetic(t *testing.T) {
	edges := []int{0, 1, 2, 255, 256, 32767, 32768, 65535}
	for _, x := range edges {
		for _, y := range edges {
			in := begin(x, y, 3, 4)
			for op, v := range map[string]int{"+": (x + y) % 65536, "-": (x - y + 65536) % 65536, "*": int(int64(x) * int64(y) % 65536), "&": x & y, "^": x ^ y} {
				wantExec(t, op+"001r0..", 6, in, 2, standing(in, api.Returned, v, "", v, y, 3, 4))
				wantExec(t, op+"901r0..", 10, in, 2, standing(in, api.Returned, x, "", x, y, 3, 4, 0, 0, 0, 0, 0, v))
			}
		}
	}
}

func TestExecMemories(t *testing.T) {
	for word := 0; word < 8; word++ {
		in := begin(word, 500, 600, 0)
		in.Public = [8]int{10, 11, 12, 13, 14, 15, 16, 17}
		in.Secret = [8]int{20, 21, 22, 23, 24, 25, 26, 27}
		digit := string(rune('0' + word))
		wantExec(t, "l50.r0..", 6, in, 2, standing(in, api.Returned, word, "l"+digit, word, 500, 600, 0, 0, 10+word))
		wantExec(t, "L50.r0..", 6, in, 2, standing(in, api.Returned, word, "L"+digit, word, 500, 600, 0, 0, 20+word))
		want := standing(in, api.Returned, word, "s"+digit, word, 500, 600)
		want.Public[word] = 500
		wantExec(t, "s01.r0..", 6, in, 2, want)
		want = standing(in, api.Returned, word, "S"+digit, word, 500, 600)
		want.Secret[word] = 600
		wantExec(t, "S02.r0..", 6, in, 2, want)
	}
}

func TestExecTraps(t *testing.T) {
	for word, digits := range map[int]string{8: "8", 10: "10", 65535: "65535"} {
		in := begin(word, 5, 6, 7)
		for _, i := range []string{"l10.", "L10.", "s01.", "S01."} {
			want := standing(in, api.Trapped, 0, ">Q"+i[:1]+digits+"!", word, 5, 6, 7)
			want.Slots[42] = 6
			wantExec(t, ">Q2."+i+"~0..r0..", 6, in, 2, want)
			wantExec(t, ">Q2."+i+"~0..r0..", 6, in, 20000, want)
		}
	}
}

// TestExecFuel: each instruction takes one of the fuel, those too that a source program does not have.
func TestExecFuel(t *testing.T) {
	in := begin(9, 8, 0, 0)
	program := ">q0.<4q.~q..=54.~4..r0.."
	traces := []string{"", ">q", ">q<q", ">q<q~q", ">q<q~q", ">q<q~q", ">q<q~q"}
	regs := [][]int{{9, 8}, {9, 8}, {9, 8, 0, 0, 9}, {9, 8, 0, 0, 9}, {9, 8, 0, 0, 9, 9}, {9, 8, 0, 0, 0, 9}}
	for fuel := 0; fuel < 6; fuel++ {
		want := standing(in, api.Tired, 0, traces[fuel], regs[fuel]...)
		if fuel == 1 || fuel == 2 {
			want.Slots[16] = 9
		}
		wantExec(t, program, 6, in, fuel, want)
	}
	wantExec(t, program, 6, in, 6, standing(in, api.Returned, 9, ">q<q~q", 9, 8, 0, 0, 0, 9))
	// The longest program, to its last instruction and just short of it.
	long := strings.Repeat("=00.", 1023) + "r0.."
	wantExec(t, long, 6, in, 1024, standing(in, api.Returned, 9, "", 9, 8))
	wantExec(t, long, 6, in, 1023, standing(in, api.Tired, 0, "", 9, 8))
	// One jump, 4999 rounds of four, and three of the next.
	wantExec(t, "j1..>z0.<0z.~z..j1..", 6, in, 20000, standing(in, api.Tired, 0, strings.Repeat(">z<z~z", 5000), 9, 8))
}

func TestExecJumps(t *testing.T) {
	in := begin(1, 0, 0, 0)
	program := "j3..#011r0..#012r0..?012"
	wantExec(t, program, 6, in, 9, standing(in, api.Returned, 11, "?1", 11))
	in.Args[0] = 0
	wantExec(t, program, 6, in, 9, standing(in, api.Returned, 12, "?0", 12))
	wantExec(t, "j9..#001r0..#002r0..#003r0..#004r0..#005r0..#006r0..#007r0..#008r0..#009r0..", 6, in, 9, standing(in, api.Returned, 9, "", 9))
}

// TestExecEveryByte puts every byte at every place of each kind of instruction, on every machine.
func TestExecEveryByte(t *testing.T) {
	for k := 6; k <= 10; k++ {
		for _, i := range []string{"+012", "-345", "*000", "&111", "^210", "#007", "=01.", "l00.", "L10.", "s01.", "S23.", "j1..", "?012", "r0..", ">a0.", "<0Z.", "~0..", "~m.."} {
			for at := 0; at < 4; at++ {
				for b := 0; b < 256; b++ {
					program := i[:at] + string([]byte{byte(b)}) + i[at+1:] + "r0..r0.."
					if !isMachineProgram(program, k) {
						wantExecRefused(t, program, k, begin(1, 2, 3, 4), 9, api.ErrCode)
						continue
					}
					in := begin(1, 2, 3, 4)
					wantExec(t, program, k, in, 9, referenceExec(program, k, in, 9))
				}
			}
		}
	}
}

func TestExecForm(t *testing.T) {
	in := begin(1, 2, 3, 4)
	for _, program := range []string{"", "r", "r0", "r0.", "r0...", "r0..r", "ra..", "r1..", "r5..", "rA..", "+001", "r0..+001", "r0..~a..", "j0..", "j1..", "r0..j0..", "r0..j2..", "?011", "r0..?001", "r0..?010", "r0..?012", "+cabr0..", "~ab.r0..", ">ab.r0..", "<01.r0..", "> 0.r0..", "#0 1r0..", strings.Repeat("r0..", 11), strings.Repeat("\x00", 4096)} {
		wantExecRefused(t, program, 6, in, 9, api.ErrCode)
	}
	wantExec(t, strings.Repeat("r0..", 10), 6, in, 9, standing(in, api.Returned, 1, "", 1, 2, 3, 4))
	wantExec(t, "?099"+strings.Repeat("r0..", 9), 6, in, 9, standing(in, api.Returned, 1, "?1", 1, 2, 3, 4))
	wantExecRefused(t, "?099"+strings.Repeat("r0..", 8), 6, in, 9, api.ErrCode)
}

func TestExecRefuses(t *testing.T) {
	good := begin(1, 2, 3, 4)
	for _, k := range []int{5, 11, 0, 4, 16, -1, -6, -1 << 63, 1<<63 - 1, 1<<32 + 6} {
		wantExecRefused(t, "r0..", k, good, 9, api.ErrArg)
	}
	for _, fuel := range []int{-1, 20001, -1 << 63, 1<<63 - 1} {
		wantExecRefused(t, "r0..", 6, good, fuel, api.ErrArg)
	}
	for _, v := range []int{-1, 65536, -1 << 63, 1<<63 - 1} {
		for n := 0; n < 4; n++ {
			in := good
			in.Args[n] = v
			wantExecRefused(t, "r0..", 6, in, 9, api.ErrArg)
		}
		for n := 0; n < 8; n++ {
			in := good
			in.Public[n] = v
			wantExecRefused(t, "r0..", 6, in, 9, api.ErrArg)
			in = good
			in.Secret[n] = v
			wantExecRefused(t, "r0..", 6, in, 9, api.ErrArg)
		}
	}
}

// TestExecOrder: ErrLong, ErrArg, ErrCode.
func TestExecOrder(t *testing.T) {
	bad, good := begin(0, 0, 0, 65536), begin(1, 2, 3, 4)
	wantExecRefused(t, strings.Repeat("=00.", 1024)+"r0..", 6, good, 9, api.ErrLong)
	wantExecRefused(t, strings.Repeat("r0..", 1024)+".", 5, bad, -1, api.ErrLong)
	wantExecRefused(t, strings.Repeat("=00.", 1023)+"r0...", 6, good, 9, api.ErrLong)
	wantExecRefused(t, strings.Repeat("=00.", 1023)+"r0.", 6, good, 9, api.ErrCode)
	wantExecRefused(t, "x", 5, good, 9, api.ErrArg)
	wantExecRefused(t, "x", 6, bad, 9, api.ErrArg)
	wantExecRefused(t, "x", 6, good, -1, api.ErrArg)
	wantExecRefused(t, "x", 6, good, 9, api.ErrCode)
}

// TestExecThrown holds Exec against the reference at many thrown programs.
func TestExecThrown(t *testing.T) {
	d := &dice{now: 7}
	var seen [3]int
	refused := 0
	for n := 0; n < 20000; n++ {
		k := 6 + d.throw(5)
		program := d.machineProgram(k)
		if d.throw(4) == 0 {
			program = d.marred(program)
		}
		in := d.input()
		fuel := []int{d.throw(12), 60, 300}[d.throw(3)]
		if !isMachineProgram(program, k) {
			wantExecRefused(t, program, k, in, fuel, api.ErrCode)
			refused++
			continue
		}
		want := referenceExec(program, k, in, fuel)
		wantExec(t, program, k, in, fuel, want)
		seen[want.Status]++
	}
	for status, n := range seen {
		if n < 1000 {
			t.Errorf("only %d of the thrown runs end with status %d", n, status)
		}
	}
	if refused < 1000 {
		t.Errorf("only %d of the thrown texts are no program", refused)
	}
}
