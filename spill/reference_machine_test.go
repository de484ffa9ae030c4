package spill

import (
	"fmt"
	"regexp"
	"strings"

	"spill/api"
)

const letters = "abcdefghijklmnopqrstuvwxyzABCDEFGHIJKLMNOPQRSTUVWXYZ"

// machineForms: how an instruction of a machine is written, by the number of its registers.
var machineForms = func() (forms [11]*regexp.Regexp) {
	for k := 6; k <= 10; k++ {
		r := fmt.Sprintf("[0-%d]", k-1)
		forms[k] = regexp.MustCompile(strings.ReplaceAll(`\A(?:[-+*&^]RRR|#R[0-9]{2}|[=lLsS]RR\.|j[0-9]\.\.|\?R[0-9]{2}|r0\.\.|>[a-zA-Z]R\.|<R[a-zA-Z]\.|~(?:R|[a-zA-Z])\.\.)\z`, "R", r))
	}
	return forms
}()

func isMachineProgram(t string, k int) bool { return isProgram(t, machineForms[k]) }

func referenceExec(t string, k int, in api.Input, fuel int) api.Outcome {
	held := hold("0123", in)
	o := referenceWalk(t, held, in, fuel)
	for n := 0; n < k; n++ {
		o.Regs[n] = int(held[byte('0'+n)])
	}
	for n := 0; n < 52; n++ {
		o.Slots[n] = int(held[letters[n]])
	}
	return o
}

// step: one thing that happens while a block is played.
type step struct {
	kind  byte   // c: the source copies x to d; m: the machine moves x to d; ~: it clears d; i: it does an instruction
	d, x  byte   // of a copy, a move, a clearing
	asked []pair // of an instruction: the pairs it needs
	made  pair   // and the one that it makes, if any
}

type pair struct{ value, place byte }

// steps lays the blocks of both programs beside one another; it answers false where they cannot be.
func steps(s, t []string, k int) ([]step, bool) {
	var l []step
	for _, i := range t {
		for len(s) > 0 && s[0][0] == '=' {
			l = append(l, step{kind: 'c', d: s[0][1], x: s[0][2]})
			s = s[1:]
		}
		switch i[0] {
		case '=', '>', '<':
			l = append(l, step{kind: 'm', d: i[1], x: i[2]})
			continue
		case '~':
			l = append(l, step{kind: '~', d: i[1]})
			continue
		}
		if len(s) == 0 || s[0][0] != i[0] || named(s[0]) != named(i) || i[0] == '#' && s[0][2:] != i[2:] {
			return nil, false
		}
		one := step{kind: 'i'}
		for n := range reads(s[0]) {
			one.asked = append(one.asked, pair{reads(s[0])[n], reads(i)[n]})
		}
		if i[0] == 'r' {
			for _, place := range "123456789"[:k-1] + letters {
				one.asked = append(one.asked, pair{'0', byte(place)})
			}
		}
		if writes(i) != "" {
			one.made = pair{writes(s[0])[0], writes(i)[0]}
		}
		l = append(l, one)
		s = s[1:]
	}
	return l, len(s) == 0
}

func blocksOf(text string) [][]string {
	l := cut(text)
	starts := append(blockStarts(l), len(l))
	var blocks [][]string
	for b := 0; b+1 < len(starts); b++ {
		blocks = append(blocks, l[starts[b]:starts[b+1]])
	}
	return blocks
}

// board: the steps of the blocks that can be reached, and which of them name a block.
type board struct {
	steps  map[int][]step
	before map[int][]int
}

func (g *board) lay(s, t [][]string, k int) bool {
	todo := []int{0}
	for len(todo) > 0 {
		b := todo[0]
		todo = todo[1:]
		if _, seen := g.steps[b]; seen {
			continue
		}
		l, ok := steps(s[b], t[b], k)
		if !ok {
			return false
		}
		g.steps[b] = l
		for _, digit := range named(s[b][len(s[b])-1]) {
			g.before[int(digit-'0')] = append(g.before[int(digit-'0')], b)
			todo = append(todo, int(digit-'0'))
		}
	}
	return true
}

// back goes back over the steps ahead of number n of block b: where a pair came from, or whether it is there or not for certain.
func (g *board) back(b, n int, p pair) (from pair, certain, is bool) {
	for n--; n >= 0; n-- {
		one := g.steps[b][n]
		switch {
		case one.kind == 'c' && p.value == one.d:
			p.value = one.x
		case one.kind == 'm' && p.place == one.d:
			p.place = one.x
		case one.kind == '~' && p.place == one.d:
			return p, true, p.value == '0'
		case one.kind == 'i' && one.made != pair{} && (p.value == one.made.value || p.place == one.made.place):
			return p, true, p == one.made
		}
	}
	return p, false, false
}

// holds: no way from the beginning comes to number n of block b without the pair.
func (g *board) holds(b, n int, p pair) bool {
	type spot struct {
		b, n int
		p    pair
	}
	seen := map[spot]bool{}
	todo := []spot{{b, n, p}}
	for len(todo) > 0 {
		now := todo[0]
		todo = todo[1:]
		if seen[now] {
			continue
		}
		seen[now] = true
		from, certain, is := g.back(now.b, now.n, now.p)
		if certain {
			if !is {
				return false
			}
			continue
		}
		if now.b == 0 {
			at := strings.IndexByte("0123", from.place)
			if at >= 0 && from.value != "abAB"[at] || at < 0 && from.value != '0' {
				return false
			}
		}
		for _, before := range g.before[now.b] {
			todo = append(todo, spot{before, len(g.steps[before]), from})
		}
	}
	return true
}

// referenceAccept asks for each pair that is needed whether a way leads there without it, where the program goes forward with all pairs at once.
func referenceAccept(s, t string, k int) bool {
	sb, tb := blocksOf(s), blocksOf(t)
	g := &board{steps: map[int][]step{}, before: map[int][]int{}}
	if len(sb) != len(tb) || !g.lay(sb, tb, k) {
		return false
	}
	for b, l := range g.steps {
		for n, one := range l {
			for _, p := range one.asked {
				if !g.holds(b, n, p) {
					return false
				}
			}
		}
	}
	return true
}

// translation: a plain way to make a machine program of a source program, each register at a place of its own.
type translation struct {
	k     int
	homes map[byte]byte
	text  strings.Builder
}

func (tr *translation) emit(i string) { tr.text.WriteString(i) }

func (tr *translation) register(n int) byte { return byte('0' + n) }

func isDigit(b byte) bool { return b >= '0' && b <= '9' }

// move: from a place to a place, which are not both slots.
func (tr *translation) move(to, from byte) {
	switch {
	case isDigit(to) && isDigit(from):
		tr.emit("=" + string([]byte{to, from, '.'}))
	case isDigit(to):
		tr.emit("<" + string([]byte{to, from, '.'}))
	default:
		tr.emit(">" + string([]byte{to, from, '.'}))
	}
}

func (tr *translation) clear(place byte) { tr.emit("~" + string([]byte{place}) + "..") }

// begin: the arguments go by way of slots to where they are at home.
func (tr *translation) begin(spare string) {
	scratch := tr.register(tr.k - 1)
	for n := 0; n < 4; n++ {
		tr.move(spare[n], tr.register(n))
	}
	for n := 0; n < 4; n++ {
		home := tr.homes["abAB"[n]]
		if isDigit(home) {
			tr.move(home, spare[n])
		} else {
			tr.move(scratch, spare[n])
			tr.move(home, scratch)
		}
		tr.clear(spare[n])
	}
}

// fetch: a register of the machine that holds what a register of the source does.
func (tr *translation) fetch(r byte, scratch byte) byte {
	home := tr.homes[r]
	if isDigit(home) {
		return home
	}
	tr.move(scratch, home)
	return scratch
}

func (tr *translation) instruction(i string) {
	one, two := tr.register(tr.k-2), tr.register(tr.k-1)
	var read []byte
	for n, r := range reads(i) {
		read = append(read, tr.fetch(byte(r), []byte{one, two}[n]))
	}
	if writes(i) == "" {
		tr.emit(i[:1] + string(read) + i[1+len(read):])
		return
	}
	home := tr.homes[i[1]]
	d := home
	if !isDigit(home) {
		d = two
	}
	tr.emit(i[:1] + string([]byte{d}) + string(read) + i[2+len(read):])
	if d != home {
		tr.move(home, d)
	}
}

// end: the value to register 0, and every other place to 0.
func (tr *translation) end(x byte) {
	from := tr.fetch(x, '0')
	if from != '0' {
		tr.move('0', from)
	}
	for n := 1; n < tr.k; n++ {
		tr.clear(tr.register(n))
	}
	for r := range letters {
		if home := tr.homes[letters[r]]; home > '9' {
			tr.clear(home)
		}
	}
}

// translate makes a machine program that should be accepted for s.
func (d *dice) translate(s string, k int) string {
	tr := &translation{k: k, homes: map[byte]byte{}}
	slots := letters
	registers := "0123456789"[:k-2]
	pick := func(from *string) byte {
		n := d.throw(len(*from))
		b := (*from)[n]
		*from = (*from)[:n] + (*from)[n+1:]
		return b
	}
	for r := range letters {
		if strings.IndexByte(s+"abAB", letters[r]) < 0 {
			continue
		}
		if registers != "" && d.throw(2) == 0 {
			tr.homes[letters[r]] = pick(&registers)
		} else if len(slots) > 4 {
			tr.homes[letters[r]] = pick(&slots)
		}
	}
	tr.begin(string([]byte{pick(&slots), pick(&slots), pick(&slots), pick(&slots)}))
	for _, i := range cut(s) {
		if i[0] == 'r' {
			tr.end(i[1])
			tr.emit("r0..")
			continue
		}
		tr.instruction(i)
	}
	return tr.text.String()
}

// tampered: a machine program with an instruction left out, doubled, moved on, or with another register or slot in it.
func (d *dice) tampered(t string, k int) string {
	l := cut(t)
	n := d.throw(len(l))
	registers := "0123456789"[:k]
	switch d.throw(7) {
	case 0:
		return strings.Join(l[:n], "") + strings.Join(l[n+1:], "")
	case 1:
		return strings.Join(l[:n+1], "") + strings.Join(l[n:], "")
	case 2:
		if n+1 < len(l) {
			l[n], l[n+1] = l[n+1], l[n]
		}
		return strings.Join(l, "")
	case 3:
		moved := "~" + d.of(registers+letters) + ".."
		return strings.Join(l[:n], "") + moved + strings.Join(l[n:], "")
	case 4:
		moved := "=" + d.of(registers) + d.of(registers) + "."
		return strings.Join(l[:n], "") + moved + strings.Join(l[n:], "")
	case 5:
		other := cut(t)[d.throw(len(l))]
		if !endsBlock(other) && !endsBlock(l[n]) {
			l[n] = other
		}
		return strings.Join(l, "")
	}
	at := 1 + d.throw(3)
	if isDigit(l[n][at]) {
		l[n] = l[n][:at] + d.of(registers) + l[n][at+1:]
	} else if l[n][at] != '.' {
		l[n] = l[n][:at] + d.of("abAB"+letters) + l[n][at+1:]
	}
	return strings.Join(l, "")
}

// machineProgram makes a text that is most often a machine program.
func (d *dice) machineProgram(k int) string {
	registers := "0123456789"[:k]
	slots := []string{"aZ", "mAz", letters}[d.throw(3)]
	s := ""
	for _, i := range cut(d.program(registers)) {
		switch d.throw(5) {
		case 0:
			s += ">" + d.of(slots) + d.of(registers) + "."
		case 1:
			s += "<" + d.of(registers) + d.of(slots) + "."
		case 2:
			s += "~" + d.of(registers+slots) + ".."
		}
		if i[0] == 'r' {
			i = "r0.."
		}
		s += i
	}
	return s
}

// chain makes a source program whose blocks come one after another.
func (d *dice) chain(letters string) string {
	s := ""
	for block := 1 + d.throw(4); block > 0; block-- {
		for n := d.throw(5); n > 0; n-- {
			i := d.instruction(letters)
			if d.throw(3) == 0 {
				i = "=" + d.of(letters) + d.of(letters) + "."
			}
			s += i
		}
		if block == 1 {
			return s + "r" + d.of(letters) + ".."
		}
		next := string(rune('0' + len(blocksOf(s+"ra.."))))
		if d.throw(2) == 0 {
			s += "j" + next + ".."
		} else {
			s += "?" + d.of(letters) + next + next
		}
	}
	return s
}

// wanderer: what each place of a machine and each register of the source holds, as numbers of values; 0 is the number 0.
type wanderer struct {
	d      *dice
	k      int
	places map[byte]int
	source map[byte]int
	text   strings.Builder
}

// spare: no register of the source, but for one, loses its last place if this one is written.
func (w *wanderer) spare(place byte, but byte) bool {
	for r, value := range w.source {
		held := r == but
		for other, v := range w.places {
			held = held || other != place && v == value
		}
		if !held {
			return false
		}
	}
	return true
}

func (w *wanderer) registers() string { return "0123456789"[:w.k] }

// free: a register of the machine that may be written.
func (w *wanderer) free(but byte) byte {
	for {
		r := w.d.of(w.registers())[0]
		if w.spare(r, but) {
			return r
		}
	}
}

func (w *wanderer) move(to, from byte) {
	op := "="
	if !isDigit(to) {
		op = ">"
	} else if !isDigit(from) {
		op = "<"
	}
	w.text.WriteString(op + string([]byte{to, from, '.'}))
	w.places[to] = w.places[from]
}

func (w *wanderer) clear(place byte) {
	w.text.WriteString("~" + string([]byte{place}) + "..")
	w.places[place] = 0
}

func (w *wanderer) stroll() {
	for n := w.d.throw(4); n > 0; n-- {
		to := w.d.of(w.registers() + "aqzAZ")[0]
		from := w.d.of(w.registers() + "aqzAZ")[0]
		switch {
		case !w.spare(to, 0):
		case w.d.throw(4) == 0:
			w.clear(to)
		case isDigit(to) || isDigit(from):
			w.move(to, from)
		}
	}
}

// found: a register of the machine that holds a value, into which it is brought if need be.
func (w *wanderer) found(value int) byte {
	for _, r := range w.registers() {
		if w.places[byte(r)] == value {
			return byte(r)
		}
	}
	r := w.free(0)
	for n := range letters {
		if w.places[letters[n]] == value {
			w.move(r, letters[n])
			break
		}
	}
	return r
}

func (w *wanderer) end(x byte) {
	if r := w.found(w.source[x]); r != '0' {
		w.move('0', r)
	}
	for _, place := range w.registers()[1:] + letters {
		if w.places[byte(place)] != 0 {
			w.clear(byte(place))
		}
	}
	w.text.WriteString("r0..")
}

// operands: the registers of the machine that hold what an instruction of the source reads.
func (w *wanderer) operands(registers string) []byte {
	var read []byte
	for _, r := range registers {
		read = append(read, w.found(w.source[byte(r)]))
	}
	// The second may have been brought to where the first was.
	if len(read) == 2 && w.places[read[0]] != w.source[registers[0]] {
		return w.operands(registers)
	}
	return read
}

func (w *wanderer) instruction(i string, value int) {
	read := w.operands(reads(i))
	if writes(i) == "" {
		w.text.WriteString(i[:1] + string(read) + i[1+len(read):])
		return
	}
	d := w.free(i[1])
	w.text.WriteString(i[:1] + string([]byte{d}) + string(read) + i[2+len(read):])
	w.places[d] = value
	w.source[i[1]] = value
}

// wander makes a machine program for a chain of blocks that should be accepted.
func (d *dice) wander(s string, k int) string {
	w := &wanderer{d: d, k: k, places: map[byte]int{'0': 1, '1': 2, '2': 3, '3': 4}, source: map[byte]int{'a': 1, 'b': 2, 'A': 3, 'B': 4}}
	for n, i := range cut(s) {
		w.stroll()
		switch i[0] {
		case 'r':
			w.end(i[1])
		case '=':
			w.source[i[1]] = w.source[i[2]]
		default:
			w.instruction(i, n+5)
		}
	}
	return w.text.String()
}
