package tests

import (
	"fmt"
	"regexp"
	"strings"
	"testing"

	"loop.example/g00364/impl"
)

// wordLines has one of each command but rules, whose rest is any text.
func wordLines() []string {
	return []string{
		"put 1 a P 2024-07-01 12:00:00 1 2",
		"drop 7",
		"batch 3",
		"at 7",
		"find 2024-07-01 12:00:00 2026-07-02 13:00:00",
		"asof 2",
	}
}

func rightLines() []string {
	return append(wordLines(), "rules Zone P 1:00 - X;Zone Q 2:00 - X;Link P Home;")
}

// lineStores are right: without anything, at rest, and on the way to new rules.
func lineStores(t *testing.T) []impl.Store {
	t.Helper()
	return []impl.Store{{}, atRest(t), aStore(t)}
}

func isNoCommand(t *testing.T, line string) {
	t.Helper()
	for _, s := range lineStores(t) {
		isNotDone(t, s, line, impl.ErrSyntax)
	}
}

// isCommand asks for no more than that something is told.
func isCommand(t *testing.T, line string) {
	t.Helper()
	for _, s := range lineStores(t) {
		if out := impl.Do(s, line); out.Code != impl.OK || len(out.Told) != 1 || out.Told[0] == "" {
			t.Errorf("%.80q: got %q, and the code %d", line, out.Told, out.Code)
		}
	}
}

func TestLinesWithAWordLessOrMore(t *testing.T) {
	for _, line := range wordLines() {
		isCommand(t, line)
		words := strings.Split(line, " ")
		for i := range words {
			less := append(append([]string{}, words[:i]...), words[i+1:]...)
			isNoCommand(t, strings.Join(less, " "))
			for _, word := range []string{"1", "a", "2024-07-01", "12:00:00", "-", "#", ";"} {
				more := append(append(append([]string{}, words[:i+1]...), word), words[i+1:]...)
				isNoCommand(t, strings.Join(more, " "))
			}
		}
		isNoCommand(t, line+" "+line)
	}
}

func TestLinesWithEmptyWords(t *testing.T) {
	for _, line := range wordLines() {
		words := strings.Split(line, " ")
		isNoCommand(t, " "+line)
		isNoCommand(t, line+" ")
		isNoCommand(t, strings.Repeat(" ", 2)+line)
		isNoCommand(t, strings.ReplaceAll(line, " ", "  "))
		isNoCommand(t, strings.ReplaceAll(line, " ", "\t"))
		for i := range words {
			empty := append([]string{}, words...)
			empty[i] = ""
			isNoCommand(t, strings.Join(empty, " "))
			if i > 0 {
				ahead, behind := strings.Join(words[:i], " "), strings.Join(words[i:], " ")
				for _, between := range []string{"  ", "   ", "\t", "\n", "\v", "\r", "\u00a0", "\u2003", ""} {
					isNoCommand(t, ahead+between+behind)
				}
			}
		}
	}
	for _, line := range []string{"", " ", "  ", "\t", ";", "x", "ok", "?", "sync", "crash 1", "help", "puts 1", "put", "drop", "rules", "batch", "at", "find", "asof", "as of 1", "1", "1 at"} {
		isNoCommand(t, line)
	}
}

func TestLinesInCapitals(t *testing.T) {
	for _, line := range rightLines() {
		word, rest, _ := strings.Cut(line, " ")
		for _, other := range []string{strings.ToUpper(word), strings.ToUpper(word[:1]) + word[1:], word[:1] + strings.ToUpper(word[1:]), word + "s", word[1:], word[:len(word)-1], "x" + word} {
			isNoCommand(t, other+" "+rest)
		}
		isNoCommand(t, strings.ToUpper(line))
	}
}

// A line feed anywhere makes a line none.
func TestLinesWithALineFeed(t *testing.T) {
	for _, line := range rightLines() {
		for i := range len(line) + 1 {
			isNoCommand(t, line[:i]+"\n"+line[i:])
			if i < len(line) {
				isNoCommand(t, line[:i]+"\n"+line[i+1:])
			}
		}
		isNoCommand(t, line+"\n"+line)
		isNoCommand(t, line+"\r\n")
	}
	isNoCommand(t, "\n")
	isNoCommand(t, "at\n7")
}

// numberPlaces are, for each command, the places of words that are numbers.
var numberPlaces = map[string][]int{
	"put 1 a P 2024-07-01 12:00:00 1 2": {1, 6, 7}, "drop 7": {1}, "batch 3": {1}, "at 7": {1}, "asof 2": {1},
}

func TestNumbersOfLines(t *testing.T) {
	for line, places := range numberPlaces {
		for _, place := range places {
			for _, n := range []string{"0", "1", "9", "10", "12", "100", "1000000", "1000001", "123456789", "100000000", "999999999"} {
				isCommand(t, with(line, place, n))
			}
			for _, n := range []string{
				"00", "01", "007", "000000000", "000000001", "0123456789", "1000000000", "1234567890", "9999999999", "0000000001", "10000000000000000000",
				"18446744073709551617", "36893488147419103233", "+1", "-1", "-0", "+0", "1.0", "1,000", "1_000", "1e3", "0x1", "0b1", "1a", "a1", "a", "-", "\u0661", "1\x00", "1\t", "\t1", "\u00b2", "/", ":",
			} {
				isNoCommand(t, with(line, place, n))
			}
		}
	}
}

// What a number is, is taken as it stands, digit by digit.
func TestNumbersThatAreTaken(t *testing.T) {
	s := impl.Store{Tx: 900000}
	for _, tx := range []int64{0, 1, 10, 99, 100, 899999, 900000} {
		isAsked(t, s, fmt.Sprint("asof ", tx), "-")
	}
	for _, tx := range []int64{900001, 1000000, 9000000, 123456789, 999999999} {
		isInVain(t, s, fmt.Sprint("asof ", tx), impl.ErrRange)
	}
	for _, id := range []int64{1, 9, 10, 987654, 1000000} {
		after := isDone(t, atRest(t), fmt.Sprintf("put %d a P 2024-07-01 12:00:00 0 0", id), "ok")
		isAsked(t, after, fmt.Sprint("at ", id), "2024-07-01 10:00:00")
		isDone(t, after, fmt.Sprint("drop ", id), "ok")
	}
}

// Words in capitals that are no numbers are any words, of any bytes but blanks and line feeds.
func TestAnyWords(t *testing.T) {
	for b := range 256 {
		word := string([]byte{byte(b)})
		for _, place := range []int{2, 3, 4, 5} {
			line := with(wordLines()[0], place, word)
			if b == ' ' || b == '\n' {
				isNoCommand(t, line)
			} else {
				isCommand(t, line)
			}
		}
		for _, place := range []int{1, 2, 3, 4} {
			line := with(wordLines()[4], place, "x"+word)
			if b == ' ' || b == '\n' {
				isNoCommand(t, line)
			} else {
				isInVain(t, impl.Store{}, line, impl.ErrSyntax)
			}
		}
		rest := "rules # " + word + ";"
		if b == '\n' {
			isNoCommand(t, rest)
		} else if b != ';' {
			isDone(t, impl.Store{}, rest, "ok")
		}
	}
	for _, word := range []string{"put", "rules", "\u00e9", "\u65e5", "\xc3", "a;b", "a\tb", "\"", "-", "N", "NAME"} {
		for _, place := range []int{2, 3, 4, 5} {
			isCommand(t, with(wordLines()[0], place, word))
		}
	}
}

// Lines of 8000 bytes, and of one more, which is told ahead of all else.
func TestLongLines(t *testing.T) {
	long := func(ahead string, fill string, behind string) string {
		return ahead + strings.Repeat(fill, 8000-len(ahead)-len(behind)) + behind
	}
	s := atRest(t)
	for _, line := range []string{long("put 1 ", "a", " P 2024-07-01 12:00:00 0 0"), long("put 1 a ", "P", " 2024-07-01 12:00:00 0 0")} {
		isInVain(t, s, line, impl.ErrForm)
		isNotDone(t, s, line[:6]+"a"+line[6:], impl.ErrSize)
	}
	for _, line := range []string{long("find ", "1", " y z w"), long("find x y z ", "1", ""), long("put 1 a P ", "2", " y 0 0"), long("put 1 a P x ", "2", " 0 0"), long("rules ", " ", ""), long("rules ", "x", "")} {
		isInVain(t, s, line, impl.ErrSyntax)
		isNotDone(t, s, line+"x", impl.ErrSize)
	}
	rules := long(rulesLine(olderText)+"#", " ", ";")
	isSameStore(t, "long rules", isDone(t, s, rules, "ok"), isStored(t, impl.Install(s, olderText)))
	isNotDone(t, s, rules+";", impl.ErrSize)
	isDone(t, impl.Store{}, long("rules ", ";", ""), "ok")
	for _, line := range []string{long("at ", "1", ""), long("at 7", " ", ""), long(" ", " ", ""), long("x", "x", ""), long("", "\n", "")} {
		isNotDone(t, s, line, impl.ErrSyntax)
		isNotDone(t, s, line+"x", impl.ErrSize)
		isNotDone(t, impl.Store{Tx: -1}, line, impl.ErrForm)
		isNotDone(t, impl.Store{Tx: -1}, line+"x", impl.ErrSize)
	}
	isNotDone(t, s, strings.Repeat("at 7\n", 200000), impl.ErrSize)
}

const (
	numberForm = `(0|[1-9][0-9]{0,8})`
	wordForm   = `([^ \n]+)`
)

// lineForms are those of the document's table, as they stand there.
var lineForms = madeLineForms()

func madeLineForms() map[string]*regexp.Regexp {
	forms := map[string]*regexp.Regexp{"rules": regexp.MustCompile(`^rules ([^\n]*)$`)}
	for _, form := range []string{"put N W W W W N N", "drop N", "batch N", "at N", "find W W W W", "asof N"} {
		word, _, _ := strings.Cut(form, " ")
		forms[word] = regexp.MustCompile("^" + strings.NewReplacer(" N", " "+numberForm, " W", " "+wordForm).Replace(form) + "$")
	}
	return forms
}

// Each right line with one byte less, one more, and another one.
func TestLinesThatAreOneByteOff(t *testing.T) {
	s := atRest(t)
	isAsTheForms := func(line string) {
		right := false
		for _, form := range lineForms {
			right = right || form.MatchString(line)
		}
		if out := impl.Do(s, line); (out.Code == impl.OK) != right || out.Code != impl.OK && out.Code != impl.ErrSyntax {
			t.Errorf("%q: got %q, and the code %d; is it a command? %v", line, out.Told, out.Code, right)
		}
	}
	for _, line := range rightLines() {
		for i := range len(line) {
			isAsTheForms(line[:i] + line[i+1:])
			isAsTheForms(line[:i])
			isAsTheForms(line[i:])
			for _, b := range []string{" ", "\n", "\t", "0", "1", "x", ";", "-", "\xff"} {
				isAsTheForms(line[:i] + b + line[i:])
				isAsTheForms(line[:i] + b + line[i+1:])
			}
		}
	}
}
