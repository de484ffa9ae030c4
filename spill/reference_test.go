package spill

import (
	"regexp"
	"strconv"
	"strings"

	"spill/api"
)

// The functions here follow the document's words straight on the text, by other means than the program does, so that both can be held against one another.

var instructionForm = regexp.MustCompile(`\A(?:[-+*&^][a-zA-Z]{3}|#[a-zA-Z][0-9]{2}|[=lLsS][a-zA-Z]{2}\.|j[0-9]\.\.|\?[a-zA-Z][0-9]{2}|r[a-zA-Z]\.\.)\z`)

func cut(s string) []string {
	var l []string
	for len(s) >= 4 {
		l = append(l, s[:4])
		s = s[4:]
	}
	if s != "" {
		l = append(l, s)
	}
	return l
}

func endsBlock(i string) bool { return strings.IndexByte("j?r", i[0]) >= 0 }

// named: the blocks that an instruction names, as digits.
func named(i string) string {
	switch i[0] {
	case 'j':
		return i[1:2]
	case '?':
		return i[2:4]
	}
	return ""
}

// blockStarts: the places at which blocks begin.
func blockStarts(l []string) []int {
	starts := []int{0}
	for n, i := range l {
		if endsBlock(i) && n+1 < len(l) {
			starts = append(starts, n+1)
		}
	}
	return starts
}

func reads(i string) string {
	switch i[0] {
	case '+', '-', '*', '&', '^':
		return i[2:4]
	case '=', 'l', 'L':
		return i[2:3]
	case 's', 'S':
		return i[1:3]
	case '?', 'r':
		return i[1:2]
	}
	return ""
}

func writes(i string) string {
	if strings.IndexByte("+-*&^#=lL", i[0]) >= 0 {
		return i[1:2]
	}
	return ""
}

func isProgram(s string, form *regexp.Regexp) bool {
	l := cut(s)
	if len(l) == 0 {
		return false
	}
	for _, i := range l {
		if !form.MatchString(i) {
			return false
		}
	}
	if !endsBlock(l[len(l)-1]) {
		return false
	}
	blocks := len(blockStarts(l))
	for _, i := range l {
		for _, digit := range named(i) {
			if digit == '0' || int(digit-'0') >= blocks {
				return false
			}
		}
	}
	return blocks <= 10
}

// isLive walks forward from an instruction, and tells whether a register is read before it is written.
func isLive(l []string, from int, r rune) bool {
	starts := blockStarts(l)
	seen := map[int]bool{}
	todo := []int{from}
	for len(todo) > 0 {
		at := todo[0]
		todo = todo[1:]
		if seen[at] {
			continue
		}
		seen[at] = true
		i := l[at]
		if strings.ContainsRune(reads(i), r) {
			return true
		}
		if strings.ContainsRune(writes(i), r) {
			continue
		}
		if !endsBlock(i) {
			todo = append(todo, at+1)
		}
		for _, digit := range named(i) {
			todo = append(todo, starts[digit-'0'])
		}
	}
	return false
}

func mayReadUnset(l []string) bool {
	for _, r := range "cdefghijklmnopqrstuvwxyzCDEFGHIJKLMNOPQRSTUVWXYZ" {
		if isLive(l, 0, r) {
			return true
		}
	}
	return false
}

var showForm = regexp.MustCompile(`\A(?:[-+*&^][a-z](?:[A-Z].|.[A-Z])|=[a-z][A-Z].|[lL].[A-Z].|[sS][A-Z]..|L[a-z]..|s.[A-Z].|\?[A-Z]..)\z`)

func mayShow(l []string) bool {
	for _, i := range l {
		if showForm.MatchString(i) {
			return true
		}
	}
	return false
}

func referenceCheck(s string) (int, api.Errno) {
	if len(s) > 256 {
		return 0, api.ErrLong
	}
	if !isProgram(s, instructionForm) {
		return 0, api.ErrCode
	}
	l := cut(s)
	if mayReadUnset(l) {
		return 0, api.ErrUnset
	}
	if mayShow(l) {
		return 0, api.ErrSecret
	}
	return len(l), api.OK
}

// referenceRead: the error of Check, but not ErrSecret.
func referenceRead(s string) api.Errno {
	_, e := referenceCheck(s)
	if e == api.ErrSecret {
		return api.OK
	}
	return e
}

// refusedTexts: texts that the calls which take a source program refuse, whatever their numbers.
var refusedTexts = []struct {
	s string
	e api.Errno
}{
	{strings.Repeat("ra..", 64) + "r", api.ErrLong},
	{strings.Repeat("\x00", 257), api.ErrLong},
	{strings.Repeat("\x00", 256), api.ErrCode},
	{"", api.ErrCode}, {"ra.", api.ErrCode}, {"+cab", api.ErrCode}, {"j0..", api.ErrCode}, {"j1..", api.ErrCode},
	{"ra..+cab", api.ErrCode}, {"r0..", api.ErrCode}, {"ra..\x00", api.ErrCode}, {">ab.ra..", api.ErrCode}, {"~a..ra..", api.ErrCode},
	{"rc..", api.ErrUnset}, {"=cc.ra..", api.ErrUnset}, {"?a12#c07j2..rc..", api.ErrUnset}, {"=aC.ra..", api.ErrUnset},
}

const risingLetters = "ABCDEFGHIJKLMNOPQRSTUVWXYZabcdefghijklmnopqrstuvwxyz"

func referenceLive(l []string, i int) string {
	live := ""
	for _, r := range risingLetters {
		if isLive(l, i, r) {
			live += string(r)
		}
	}
	return live
}

// doMeet: whether two different registers meet.
func doMeet(l []string, r, q rune) bool {
	if isLive(l, 0, r) && isLive(l, 0, q) {
		return true
	}
	for at, i := range l {
		if writes(i) == string(r) && isLive(l, at+1, q) || writes(i) == string(q) && isLive(l, at+1, r) {
			return true
		}
	}
	return false
}

// referenceCore takes registers away in an order that is thrown.
func referenceCore(l []string, c int, d *dice) string {
	there := map[rune]bool{}
	for _, i := range l {
		for _, r := range reads(i) + writes(i) {
			there[r] = true
		}
	}
	meets := map[[2]rune]bool{}
	for r := range there {
		for q := range there {
			meets[[2]rune{r, q}] = r != q && doMeet(l, r, q)
		}
	}
	for {
		var loose []rune
		left := ""
		for _, r := range risingLetters {
			count := 0
			for q := range there {
				if meets[[2]rune{r, q}] {
					count++
				}
			}
			if there[r] {
				left += string(r)
			}
			if there[r] && count < c {
				loose = append(loose, r)
			}
		}
		if len(loose) == 0 {
			return left
		}
		delete(there, loose[d.throw(len(loose))])
	}
}

// referenceRun runs a program that Check does not refuse but for its secrets.
func referenceRun(s string, in api.Input, fuel int) api.Outcome {
	return referenceWalk(s, hold("abAB", in), in, fuel)
}

// hold: the arguments, each in the register whose byte the text has for it.
func hold(names string, in api.Input) map[byte]uint16 {
	held := map[byte]uint16{}
	for n, v := range in.Args {
		held[names[n]] = uint16(v)
	}
	return held
}

// referenceWalk runs a program, of whatever kind, with what its registers and slots hold.
func referenceWalk(s string, held map[byte]uint16, in api.Input, fuel int) api.Outcome {
	l := cut(s)
	starts := blockStarts(l)
	o := api.Outcome{Status: api.Tired, Public: in.Public, Secret: in.Secret}
	at := 0
	for ; fuel > 0; fuel-- {
		i := l[at]
		at++
		switch i[0] {
		case '+':
			held[i[1]] = held[i[2]] + held[i[3]]
		case '-':
			held[i[1]] = held[i[2]] - held[i[3]]
		case '*':
			held[i[1]] = uint16(uint64(held[i[2]]) * uint64(held[i[3]]))
		case '&':
			held[i[1]] = held[i[2]] & held[i[3]]
		case '^':
			held[i[1]] = held[i[2]] ^ held[i[3]]
		case '#':
			n, _ := strconv.Atoi(i[2:4])
			held[i[1]] = uint16(n)
		case '=':
			held[i[1]] = held[i[2]]
		case '>', '<':
			held[i[1]] = held[i[2]]
			o.Trace += i[:1] + strings.Trim(i[1:3], "0123456789")
		case '~':
			held[i[1]] = 0
			if i[1] > '9' {
				o.Trace += i[:2]
			}
		case 'j':
			at = starts[i[1]-'0']
		case '?':
			if held[i[1]] != 0 {
				o.Trace += "?1"
				at = starts[i[2]-'0']
			} else {
				o.Trace += "?0"
				at = starts[i[3]-'0']
			}
		case 'r':
			o.Status = api.Returned
			o.Value = int(held[i[1]])
			return o
		default:
			memory := &o.Public
			if i[0] == 'L' || i[0] == 'S' {
				memory = &o.Secret
			}
			word := held[reads(i)[0]]
			o.Trace += i[:1] + strconv.Itoa(int(word))
			if word > 7 {
				o.Status = api.Trapped
				o.Trace += "!"
				return o
			}
			if i[0] == 'l' || i[0] == 'L' {
				held[i[1]] = uint16(memory[word])
			} else {
				memory[word] = int(held[i[2]])
			}
		}
	}
	return o
}

// dice: numbers that look thrown, the same at every run of the tests.
type dice struct{ now uint64 }

func (d *dice) throw(n int) int {
	d.now = d.now*6364136223846793005 + 1442695040888963407
	return int((d.now >> 33) % uint64(n))
}

func (d *dice) of(text string) string {
	n := d.throw(len(text))
	return text[n : n+1]
}

// instruction makes an instruction that ends no block, of a few registers.
func (d *dice) instruction(letters string) string {
	switch d.throw(8) {
	case 0, 1, 2:
		return d.of("+-*&^") + d.of(letters) + d.of(letters) + d.of(letters)
	case 3, 4:
		return "#" + d.of(letters) + d.of("00012") + d.of("0123456789")
	case 5:
		return "=" + d.of(letters) + d.of(letters) + "."
	case 6:
		return d.of("lL") + d.of(letters) + d.of(letters) + "."
	}
	return d.of("sS") + d.of(letters) + d.of(letters) + "."
}

// program makes a text that is most often a source program.
func (d *dice) program(letters string) string {
	blocks := 1 + d.throw(6)
	digits := "123456789"[:max(1, blocks-1)]
	if d.throw(40) == 0 {
		digits = "0123456789"
	}
	s := ""
	for b := 0; b < blocks; b++ {
		for n := d.throw(5); n > 0; n-- {
			s += d.instruction(letters)
		}
		s += d.blockEnd(b == blocks-1, letters, digits)
	}
	return s
}

// blockEnd makes an instruction that ends a block; a program ends with the last block most often.
func (d *dice) blockEnd(last bool, letters, digits string) string {
	switch {
	case last || d.throw(6) == 0:
		return "r" + d.of(letters) + ".."
	case d.throw(3) == 0:
		return "j" + d.of(digits) + ".."
	}
	return "?" + d.of(letters) + d.of(digits) + d.of(digits)
}

// begun makes a program that often writes its registers, more or fewer of them, ahead of all else.
func (d *dice) begun() string {
	names := "abABcdefCDEF"[:2+d.throw(11)]
	s := ""
	for _, r := range names {
		if d.throw(20) != 0 && (r > 'b' || r > 'B' && r < 'a' || d.throw(4) == 0) {
			s += "#" + string(r) + "0" + d.of("123456789")
		}
	}
	return s + d.program(names)
}

// hushed: an instruction, with other registers if need be, so that no secret shows by it.
func hushed(i string) string {
	if !showForm.MatchString(i) {
		return i
	}
	switch i[0] {
	case 'l', '?':
		return i[:1] + strings.ToLower(i[1:2]) + strings.ToLower(i[2:])
	case 'L':
		return "L" + strings.ToUpper(i[1:2]) + strings.ToLower(i[2:])
	case 's', 'S':
		return "S" + strings.ToLower(i[1:2]) + i[2:]
	}
	return i[:1] + strings.ToUpper(i[1:2]) + i[2:]
}

// crowd makes a program of many registers, in which no secret shows: most are written at the beginning, and read here and there.
func (d *dice) crowd() string {
	base := "abcdefghijkl"[:2+d.throw(11)]
	names := base + strings.ToUpper(base)
	s := ""
	for _, r := range names {
		if !strings.ContainsRune("abAB", r) || d.throw(4) == 0 {
			s += "#" + string(r) + "0" + d.of("0123456789")
		}
	}
	blocks := 1 + d.throw(10)
	digits := "123456789"[:max(1, blocks-1)]
	inner := (64 - len(s)/4 - blocks) / blocks
	for b := 0; b < blocks; b++ {
		for n := d.throw(inner + 1); n > 0; n-- {
			s += hushed(d.instruction(names))
		}
		s += hushed(d.blockEnd(b == blocks-1, names, digits))
	}
	return s
}

func (d *dice) value() int {
	switch d.throw(5) {
	case 0:
		return d.throw(65536)
	case 1:
		return 65535 - d.throw(3)
	}
	return d.throw(9)
}

func (d *dice) input() api.Input {
	in := api.Input{}
	for n := range in.Args {
		in.Args[n] = d.value()
	}
	for n := range in.Public {
		in.Public[n] = d.value()
		in.Secret[n] = d.value()
	}
	return in
}

// marred: a text with one byte of it changed, put in or left out.
func (d *dice) marred(s string) string {
	at := d.throw(len(s))
	b := string([]byte{byte(d.throw(256))})
	switch d.throw(4) {
	case 0:
		return s[:at] + s[at+1:]
	case 1:
		return s[:at] + b + s[at:]
	case 2:
		return s[:at] + d.of("abcABCjr?#.0129+") + s[at+1:]
	}
	return s[:at] + b + s[at+1:]
}
