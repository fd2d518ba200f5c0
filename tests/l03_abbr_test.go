package tests

import (
	"strings"
	"testing"

	"loop.example/g00364/impl"
)

func isAbbr(t *testing.T, format string, letter string, save int64, want string) {
	t.Helper()
	if got := impl.AbbrOf(format, letter, save); got != want {
		t.Errorf("%.40q with %.40q and %d: got %.60q, want %.60q", format, letter, save, got, want)
	}
}

// isAbbrs asks of a save of 0, and of others.
func isAbbrs(t *testing.T, format string, letter string, ofNone string, ofOther string) {
	t.Helper()
	isAbbr(t, format, letter, 0, ofNone)
	for _, save := range append([]int64{-7200, -1, 1, 3600}, extremes...) {
		isAbbr(t, format, letter, save, ofOther)
	}
}

func TestAbbreviations(t *testing.T) {
	isAbbrs(t, "LMT", "S", "LMT", "LMT")
	isAbbrs(t, "CE%sT", "S", "CEST", "CEST")
	isAbbrs(t, "CE%sT", "", "CET", "CET")
	isAbbrs(t, "%s", "", "", "")
	isAbbrs(t, "%s", "+03", "+03", "+03")
	isAbbrs(t, "", "S", "", "")
	isAbbrs(t, "GMT/BST", "S", "GMT", "BST")
	isAbbrs(t, "G%sT/B%s", "x", "GxT", "Bx")
	isAbbrs(t, "G%sT/BST", "x", "GxT", "BST")
	isAbbrs(t, "GMT/B%s", "x", "GMT", "Bx")
	isAbbrs(t, "/B", "x", "", "B")
	isAbbrs(t, "A/", "x", "A", "")
	isAbbrs(t, "/", "x", "", "")
}

// Just the first place takes the letter, and what the letter is does not matter.
func TestWhereTheLetterStands(t *testing.T) {
	isAbbrs(t, "%s%s", "S", "S%s", "S%s")
	isAbbrs(t, "a%sb%sc", "S", "aSb%sc", "aSb%sc")
	isAbbrs(t, "%%s", "S", "%S", "%S")
	isAbbrs(t, "%s%", "S", "S%", "S%")
	isAbbrs(t, "%S%", "S", "%S%", "%S%")
	isAbbrs(t, "s%", "S", "s%", "s%")
	isAbbrs(t, "%", "S", "%", "%")
	isAbbrs(t, "a%/sb", "S", "a%", "sb")
	isAbbrs(t, "a%s", "%s", "a%s", "a%s")
	isAbbrs(t, "a%sb", "/", "a/b", "a/b")
	isAbbrs(t, "a%sb/c", "x/y", "ax/yb", "c")
	isAbbrs(t, "%s%s/%s%s", "T", "T%s", "T%s")
	// A Format of a Release has no second one of these.
	isAbbrs(t, "A/B/C", "S", "A", "B/C")
	isAbbrs(t, "é %s\x00\xff", "\n", "é \n\x00\xff", "é \n\x00\xff")
}

func TestAbbreviationsOfLongTexts(t *testing.T) {
	long := strings.Repeat("x", impl.MaxBytes)
	isAbbrs(t, long, "", long, long)
	isAbbrs(t, long+"x", "", "", "")
	isAbbrs(t, long[1:]+"/", "", long[1:], "")
	isAbbrs(t, long+"/", "", "", "")
	isAbbrs(t, "a%sb", long, "a"+long+"b", "a"+long+"b")
	isAbbrs(t, "a%sb", long+"x", "", "")
	isAbbrs(t, "ab", long+"x", "", "")
	isAbbrs(t, long[2:]+"%s", long, long[2:]+long, long[2:]+long)
	isAbbrs(t, long[1:]+"%s", long, "", "")
}
