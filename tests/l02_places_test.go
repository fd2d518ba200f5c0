package tests

import (
	"fmt"
	"strings"
	"testing"

	"loop.example/g00364/impl"
)

// The kinds of lines, a byte each: y and Y have a YEAR.
const (
	aRuleKind   = 'R'
	aZoneKind   = 'Z'
	openZone    = 'Y'
	anEraKind   = 'e'
	openEra     = 'y'
	aLinkKind   = 'L'
	nothingKind = 'n'
	brokenKind  = '?'
	lineKinds   = "RZYeyLn?"
)

// lineOf makes a line of a kind, unlike others at other places, so that lines that stand right make a right Release.
func lineOf(kind byte, place int) string {
	switch kind {
	case aRuleKind:
		return fmt.Sprintf("Rule E%d 1980 max - Mar 1 2:00 1:00 S", place)
	case aZoneKind:
		return fmt.Sprintf("Zone P%d 0 - X", place)
	case openZone:
		return fmt.Sprintf("Zone P%d 0 - X %d", place, 1900+place)
	case anEraKind:
		return "1:00 - X"
	case openEra:
		return fmt.Sprintf("1:00 - X %d", 1900+place)
	case aLinkKind:
		return fmt.Sprintf("Link Home L%d", place)
	case brokenKind:
		return "Rule E 1980"
	}
	return " \t# nothing"
}

// firstFault tells the first line that may not stand where it does: as many as there are, if another must come; -1 of none.
func firstFault(kinds string) int64 {
	open := false
	for place, kind := range []byte(kinds) {
		era := kind == anEraKind || kind == openEra
		switch {
		case kind == nothingKind:
			continue
		case kind == brokenKind, era != open:
			return int64(place)
		}
		open = kind == openZone || kind == openEra
	}
	if open {
		return int64(len(kinds))
	}
	return -1
}

func textOf(kinds string) string {
	var text strings.Builder
	for place, kind := range []byte(kinds) {
		text.WriteString(lineOf(kind, place) + "\n")
	}
	return text.String()
}

// eachOrder calls with all orders of at most so many kinds.
func eachOrder(most int, call func(kinds string)) {
	orders := []string{""}
	for range most + 1 {
		var longer []string
		for _, kinds := range orders {
			call(kinds)
			for _, kind := range lineKinds {
				longer = append(longer, kinds+string(kind))
			}
		}
		orders = longer
	}
}

// The Zone that Links are to stands ahead of all others, so that each line's place is one more.
func TestWhereLinesMayCome(t *testing.T) {
	eachOrder(4, func(kinds string) {
		text := "Zone Home 0 - X\n" + textOf(kinds)
		if fault := firstFault(kinds); fault >= 0 {
			isSyntax(t, text, fault+1)
			return
		}
		if got := impl.ReleaseRead(text); got.Code != impl.OK || got.Line != 0 || len(got.Release.Zones) == 0 {
			t.Errorf("%q: got %+v", text, got)
		}
	})
}

func TestHowManyAreRead(t *testing.T) {
	got := impl.ReleaseRead("Zone Home 0 - X\n" + textOf("RnYnyneLRZLnn")).Release
	if len(got.Rules) != 2 || len(got.Zones) != 3 || len(got.Links) != 2 || len(got.Zones[0].Eras) != 1 || len(got.Zones[1].Eras) != 3 || len(got.Zones[2].Eras) != 1 {
		t.Errorf("got %+v", got)
	}
}

// A last line without its line feed is a fault of its own, whatever it is.
func TestTheLastLineWithoutItsLineFeed(t *testing.T) {
	eachOrder(3, func(kinds string) {
		if kinds == "" {
			return
		}
		fault := firstFault(kinds[:len(kinds)-1])
		if fault < 0 {
			fault = int64(len(kinds) - 1)
		}
		isSyntax(t, "Zone Home 0 - X\n"+strings.TrimSuffix(textOf(kinds), "\n"), fault+1)
	})
	for _, last := range []string{" ", "\t", "#", "# c", "Zone", "-", "x", "\r", "\x00"} {
		isSyntax(t, last, 0)
		isSyntax(t, "\n\n"+last, 2)
		isSyntax(t, ruleLine+"\n"+last, 1)
		isSyntax(t, "Zone P 0 - X 1990\n"+last, 1)
	}
	isSyntax(t, ruleLine, 0)
	isSyntax(t, "Zone P 0 - X", 0)
}

func TestTheFirstFaultIsTold(t *testing.T) {
	isSyntax(t, "x\ny\nz", 0)
	isSyntax(t, "\n# c\nx\ny\n", 2)
	isSyntax(t, ruleLine+"\n"+ruleLine+"\nRule x\n"+ruleLine, 2)
	isSyntax(t, "Zone P 0 - X 1990\n", 1)
	isSyntax(t, "Zone P 0 - X 1990\n\n \n#\n", 4)
	isSyntax(t, "Zone P 0 - X 1990\n\nZone Q 0 - X\n", 2)
	isSyntax(t, "Zone P 0 - X 1990\n0 - X 1991\n", 2)
	isSyntax(t, eraLine+"\n", 0)
	isSyntax(t, "Zone P 0 - X\n"+eraLine+"\n", 1)
	// A Release that is not right is told just where no line is at fault.
	isSyntax(t, "Zone P 0 None X\nZone P 0 - X\nx\n", 2)
	isSyntax(t, "Zone P 0 None X\nZone P 0 - X\nLink A B", 2)
}

func TestLinesThatAreNothing(t *testing.T) {
	nothing := []string{"", " ", "\t", " \t \t", "#", "##", "# c", " # c", "\t#\t", "#Rule x", "# Zone P 0 - X 1990", "#\x00\x01\xff\r", "#é", strings.Repeat(" ", 100), "#" + strings.Repeat("x ", 100)}
	for _, line := range nothing {
		isRelease(t, line+"\n", impl.Release{})
		zone := impl.Zone{Name: "P", Eras: []impl.Era{{Format: "A", Until: wallTime(1990, 1, 1, 0), Of: "w"}, aLast}}
		text := line + "\nZone P 0 - A 1990\n" + line + "\n" + line + "\n" + eraLine + "\n" + line + "\n" + ruleLine + "\n" + line + "\n"
		isRelease(t, text, impl.Release{Rules: []impl.Rule{aRule}, Zones: []impl.Zone{zone}})
		isSyntax(t, line+"\nZone P 0 - A 1990\n"+line+"\n", 3)
	}
	isRelease(t, "", impl.Release{})
	isRelease(t, strings.Join(nothing, "\n")+"\n", impl.Release{})
}

func TestHowWordsAreParted(t *testing.T) {
	spaced := []string{
		strings.ReplaceAll(ruleLine, " ", "\t"), strings.ReplaceAll(ruleLine, " ", "  "), strings.ReplaceAll(ruleLine, " ", " \t \t\t"),
		" " + ruleLine, "\t" + ruleLine, ruleLine + " ", ruleLine + "\t", "\t " + ruleLine + " \t",
		ruleLine + "#", ruleLine + "# c", ruleLine + " #", ruleLine + " # c", ruleLine + "#-", ruleLine + "\t#\x00\xff#",
	}
	for _, line := range spaced {
		isRuleLine(t, line, aRule)
	}
	// Nothing else parts words, nor is it nothing.
	for _, b := range []string{"\r", "\v", "\f", "\x00", "\x1f", "\x7f", "\u00a0", "\u0085", "\u2028", ",", ";", "//", "\""} {
		isSyntax(t, ruleLine+b+"\n", 0)
		isSyntax(t, ruleLine+" "+b+"\n", 0)
		isSyntax(t, b+ruleLine+"\n", 0)
		isSyntax(t, strings.Replace(ruleLine, " ", b, 1)+"\n", 0)
		isSyntax(t, b+"\n", 0)
	}
	// A word ends where the rest is nothing.
	isSyntax(t, strings.Replace(ruleLine, "lastSun", "last#Sun", 1)+"\n", 0)
	isSyntax(t, "#"+ruleLine+"\nx\n", 1)
	isRelease(t, "#"+ruleLine+"\n", impl.Release{})
	isRelease(t, "Zone P 0 - X#1990\n", impl.Release{Zones: []impl.Zone{{Name: "P", Eras: []impl.Era{aLast}}}})
}

func TestTextsThatAreTooLong(t *testing.T) {
	comment := "#" + strings.Repeat("c", impl.MaxBytes-2)
	isRelease(t, comment+"\n", impl.Release{})
	isRefused(t, comment+"c\n", 0, impl.ErrSize)
	isSyntax(t, comment+"c", 0)
	isRefused(t, comment+"cc", 0, impl.ErrSize)
	feeds := strings.Repeat("\n", impl.MaxBytes)
	isRelease(t, feeds, impl.Release{})
	isRefused(t, feeds+"\n", 0, impl.ErrSize)
	isRefused(t, feeds+"x", 0, impl.ErrSize)
	isSyntax(t, feeds[1:]+"x", impl.MaxBytes-1)
	// The size is looked for ahead of all else.
	isRefused(t, "x\n"+feeds, 0, impl.ErrSize)
	isSyntax(t, "x\n"+feeds[2:], 0)
	isSyntax(t, strings.Repeat("a ", impl.MaxBytes/2-1)+"a\n", 0)
}
