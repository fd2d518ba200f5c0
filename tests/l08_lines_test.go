package tests

import (
	"fmt"
	"slices"
	"strings"
	"testing"

	"loop.example/g00364/impl"
)

// deskText has those lines, each with a line feed at its end.
func deskText(lines ...string) string {
	return journal(0, lines...).Text
}

// isDesk asks for the text's lines, and for a line that is told of each (promise 15).
func isDesk(t *testing.T, lines []string, told ...string) {
	t.Helper()
	text := deskText(lines...)
	if got := impl.DeskLines(text); !slices.Equal(got, lines) {
		t.Errorf("%.200q: got the lines %.200q", text, got)
	}
	got, want := impl.DeskRun(text), impl.DeskOut{Text: deskText(told...)}
	if got != want {
		t.Errorf("%.2000q: got %.2000q and the code %d, want %.2000q", text, got.Text, got.Code, want.Text)
	}
	if len(told) != len(lines) {
		t.Errorf("%.200q: %d lines, and %d are asked for", text, len(lines), len(told))
	}
}

// isNoDesk asks for no lines, and nothing beside the code.
func isNoDesk(t *testing.T, text string, code int64) {
	t.Helper()
	if got := impl.DeskLines(text); len(got) > 0 {
		t.Errorf("%.80q, %d bytes: got %d lines, want none", text, len(text), len(got))
	}
	if got, want := impl.DeskRun(text), (impl.DeskOut{Code: code}); got != want {
		t.Errorf("%.80q, %d bytes: got %.80q and the code %d, want nothing but the code %d", text, len(text), got.Text, got.Code, code)
	}
}

// isNoCommandDesk is of lines that are all no commands.
func isNoCommandDesk(t *testing.T, lines ...string) {
	t.Helper()
	isDesk(t, lines, slices.Repeat([]string{"?"}, len(lines))...)
}

func TestDesksOfAllForms(t *testing.T) {
	if got := impl.DeskLines(""); len(got) > 0 {
		t.Errorf("got the lines %q of no text", got)
	}
	if got := impl.DeskRun(""); got != (impl.DeskOut{}) {
		t.Errorf("got %q and the code %d of no text", got.Text, got.Code)
	}
	for _, lines := range [][]string{{""}, {"", ""}, {"", "", ""}, {" "}, {"x"}, {"x", ""}, {"", "x"}, {"", "x", ""}, {"x", "y"}, {"~", " "}, {"  ", "#", ";"}, {"\\n"}} {
		isNoCommandDesk(t, lines...)
		text := deskText(lines...)
		for _, rest := range []string{"x", " ", "~", "at 1", "sync", "crash 0", "\r", "\x00", "\xff", strings.Repeat("x", 2000)} {
			isNoDesk(t, text+rest, impl.ErrSyntax)
			isNoDesk(t, rest, impl.ErrSyntax)
		}
	}
	for _, text := range []string{"x\r\n", "\r\n", "\r", "x\ty\n", "\t\n", "x\n\ty\n", "x\ny\r\nz\n", "\x00\n", "\x7f\n", "x\n\x7f\n", "\v\n", "\f\n", "\n\x1f\n"} {
		isNoDesk(t, text, impl.ErrSyntax)
	}
}

// A text that lacks its last line feed, cut anywhere.
func TestDesksThatAreCut(t *testing.T) {
	lines := []string{"rules Zone P 1:00 - X;", "put 1 a P 2024-07-01 12:00:00 0 0", "", "at 1", "sync", "crash 0"}
	told := []string{"ok", "ok", "?", "2024-07-01 11:00:00", "synced", "lines 4"}
	text := deskText(lines...)
	isDesk(t, lines, told...)
	for end := 1; end < len(text); end++ {
		if text[end-1] != '\n' {
			isNoDesk(t, text[:end], impl.ErrSyntax)
			continue
		}
		many := strings.Count(text[:end], "\n")
		isDesk(t, lines[:many], told[:many]...)
	}
}

// Each byte, in the first line and in the last one, at their ends and between.
func TestEachByteOfADesk(t *testing.T) {
	for b := range 256 {
		one := string([]byte{byte(b)})
		for _, form := range []string{"?", "?x", "x?", "x?x"} {
			line := strings.ReplaceAll(form, "?", one)
			for _, text := range []string{line + "\n", line + "\nx\n", "x\n" + line + "\n", "\n" + line + "\n\n"} {
				if b >= 32 && b <= 126 || b == '\n' {
					isNoCommandDesk(t, strings.Split(strings.TrimSuffix(text, "\n"), "\n")...)
				} else {
					isNoDesk(t, text, impl.ErrSyntax)
				}
			}
			if !strings.HasSuffix(line, "\n") {
				isNoDesk(t, line, impl.ErrSyntax)
				isNoDesk(t, "x\n"+line, impl.ErrSyntax)
			}
		}
	}
}

// Runes beyond one byte, and bytes that are no rune: whatever they are read as, they may not stand there; a line feed
// that is spelt in more bytes than it needs is none.
func TestRunesOfADesk(t *testing.T) {
	for _, runes := range []string{
		"\u0080", "\u0085", "\u00a0", "\u00e9", "\u010a", "\u0661", "\u2028", "\u2029", "\u65e5", "\ufeff", "\ufffd", "\uffff", "\U0001f600", "\U0010ffff",
		"\x80", "\xbf", "\xc3", "\xe6\x97", "\xf0\x9f\x98", "\xc0\x8a", "\xe0\x80\x8a", "\xf0\x80\x80\x8a", "\xed\xa0\x80", "\xf4\x90\x80\x80", "\xff", "\xfe\xff", "\xc3\xc3\xa9", "\xa9\xc3",
	} {
		for _, text := range []string{"?\n", "x?\n", "?x\n", "x\n?\n", "?\nx\n", "x\nx?x\nx\n", "at 1?\n", "sync?\n", "crash ?1\n", "rules # ?;\n"} {
			isNoDesk(t, strings.ReplaceAll(text, "?", runes), impl.ErrSyntax)
		}
		isNoDesk(t, runes, impl.ErrSyntax)
		isNoDesk(t, "x\n"+runes, impl.ErrSyntax)
	}
}

// As many lines as may be, and one more.
func TestDesksOfManyLines(t *testing.T) {
	if impl.MaxDesk != 40 {
		t.Fatalf("got %d", impl.MaxDesk)
	}
	for _, line := range []string{"", "x", strings.Repeat("x", 180)} {
		for _, many := range []int{1, 2, 39, 40} {
			isNoCommandDesk(t, slices.Repeat([]string{line}, many)...)
		}
		for _, many := range []int{41, 42} {
			isNoDesk(t, strings.Repeat(line+"\n", many), impl.ErrSyntax)
		}
		isNoDesk(t, strings.Repeat(line+"\n", 40)+"x", impl.ErrSyntax)
		isNoDesk(t, strings.Repeat(line+"\n", 40)+"\xff\n", impl.ErrSyntax)
		isNoDesk(t, strings.Repeat(line+"\n", 40)+"\xff", impl.ErrSyntax)
	}
	for line, told := range map[string]string{"sync": "synced", "crash 0": "lines 0", "at 1": "none", "drop 1": "error 5", "rules ": "ok"} {
		isDesk(t, slices.Repeat([]string{line}, 40), slices.Repeat([]string{told}, 40)...)
		isNoDesk(t, strings.Repeat(line+"\n", 41), impl.ErrSyntax)
	}
	isNoDesk(t, strings.Repeat("\n", 8000), impl.ErrSyntax)
	isNoDesk(t, strings.Repeat("\n", 8001), impl.ErrSize)
}

// Lines of 2000 bytes, and one more.
func TestDesksOfLongLines(t *testing.T) {
	long := strings.Repeat("x", 2000)
	for _, ahead := range [][]string{{}, {""}, {"x", "", "x"}, {long}} {
		for _, line := range []string{long[1:], long, strings.Repeat(" ", 2000), strings.Repeat("~", 2000)} {
			isNoCommandDesk(t, append(slices.Clone(ahead), line)...)
			isNoCommandDesk(t, append(slices.Clone(ahead), line, "x", line)...)
		}
		text := deskText(ahead...)
		for _, line := range []string{long + "x", long + " ", long + long, strings.Repeat(" ", 2001)} {
			isNoDesk(t, text+line+"\n", impl.ErrSyntax)
			isNoDesk(t, text+line+"\nx\n", impl.ErrSyntax)
			isNoDesk(t, text+line, impl.ErrSyntax)
		}
		isNoDesk(t, text+long, impl.ErrSyntax)
	}
	rules := "rules Zone P 1:00 - X;#"
	rules += strings.Repeat("x", 1999-len(rules)) + ";"
	isDesk(t, []string{rules, "put 1 a P 2024-07-01 12:00:00 0 0", "at 1"}, "ok", "ok", "2024-07-01 11:00:00")
	isNoDesk(t, deskText(rules+";", "at 1"), impl.ErrSyntax)
}

// Texts of 8000 bytes, and one more, which is told ahead of all else. A Journal of such a text just has room for it.
func TestLongDesks(t *testing.T) {
	long := strings.Repeat("x", 2000)
	for _, lines := range [][]string{{long, long, long, long[:1996]}, {long[:1999], long[:1999], long[:1999], long[:1999]}, slices.Repeat([]string{long[:199]}, 40)} {
		if many := len(deskText(lines...)); many != 8000 {
			t.Fatalf("got %d bytes", many)
		}
		isNoCommandDesk(t, lines...)
		isNoDesk(t, deskText(lines...)+"\n", impl.ErrSize)
		isNoDesk(t, "x"+deskText(lines...), impl.ErrSize)
		isNoDesk(t, deskText(lines...)[:7999], impl.ErrSyntax)
		isNoDesk(t, deskText(lines...)[:7999]+"x", impl.ErrSyntax)
	}
	for _, one := range []string{"x", "\n", "\xff", "\x00", "at 1\n"} {
		isNoDesk(t, strings.Repeat(one, 8000)[:8000], impl.ErrSyntax)
		isNoDesk(t, strings.Repeat(one, 8001)[:8001], impl.ErrSize)
		isNoDesk(t, strings.Repeat(one, 1000000), impl.ErrSize)
	}
}

// slowLines are those of a desk's text, line by line as the document says; false, if there are none.
func slowLines(text string) ([]string, bool) {
	if text == "" {
		return nil, true
	}
	lines := strings.SplitAfter(text, "\n")
	lines = lines[:len(lines)-1]
	if len(text) > 8000 || len(lines) > 40 || text[len(text)-1] != '\n' {
		return nil, false
	}
	for i, line := range lines {
		lines[i] = line[:len(line)-1]
		if len(lines[i]) > 2000 || strings.Trim(lines[i], printable()) != "" {
			return nil, false
		}
	}
	return lines, true
}

// printable has the bytes 32 to 126.
func printable() string {
	bytes := ""
	for b := range 95 {
		bytes += string(rune(32 + b))
	}
	return bytes
}

// Texts that are made, and then spoilt: lines are told of those that are right still.
func TestSpoiltDesks(t *testing.T) {
	c := newChance(121)
	kinds := storeKinds{}
	for range 8000 {
		text := ""
		for range c.from(0, 42) {
			text += pick(c, "at 1", "sync", "crash 0", "", c.text(" x~", 0, 3)) + "\n"
		}
		if c.Intn(2) == 0 {
			place := c.Intn(len(text) + 1)
			text = text[:place] + pick(c, "\n", "x", "\x1f", "\x7f", "\xc3", "\u00e9", "\r", strings.Repeat("y", 1990), strings.Repeat("y", 2000), strings.Repeat("y", 7900)) + text[place:]
		}
		if c.Intn(6) == 0 {
			text = text[:c.Intn(len(text)+1)]
		}
		want, right := slowLines(text)
		kinds[fmt.Sprint("lines: ", len(want) > 0, ", right: ", right)]++
		got := impl.DeskLines(text)
		if !slices.Equal(got, want) {
			t.Fatalf("%.200q, %d bytes: got %.200q, want %.200q", text, len(text), got, want)
		}
		code := impl.DeskRun(text).Code
		if (code == impl.OK) != right || code != impl.OK && (code == impl.ErrSize) != (len(text) > 8000) {
			t.Fatalf("%.200q, %d bytes: got the code %d, is it right? %v", text, len(text), code, right)
		}
	}
	kinds.hasAll(t, 100, "lines: false, right: false", "lines: true, right: true", "lines: false, right: true")
}

// Each answer is new memory, and nothing is kept from one call to the next.
func TestDesksAreTheirOwn(t *testing.T) {
	text := deskText("rules Zone P 1:00 - X;", "put 1 a P 2024-07-01 12:00:00 0 0", "sync", "at 1")
	first, second := impl.DeskLines(text), impl.DeskLines(text)
	spoilList(first, "spoilt")
	if slices.Contains(second, "spoilt") || slices.Contains(impl.DeskLines(text), "spoilt") {
		t.Errorf("got %q", second)
	}
	for range 3 {
		isDesk(t, []string{"at 1", "asof 1", "drop 1", "crash 9"}, "none", "error 4", "error 5", "lines 1")
		isDesk(t, strings.Split(strings.TrimSuffix(text, "\n"), "\n"), "ok", "ok", "synced", "2024-07-01 11:00:00")
	}
}
