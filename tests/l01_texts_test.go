package tests

import (
	"fmt"
	"strings"
	"testing"
	"time"

	"loop.example/g00364/impl"
)

func isRead(t *testing.T, text string, got impl.NumOut, want impl.NumOut) {
	t.Helper()
	if got != want {
		t.Errorf("%.60q of %d bytes: got %+v, want %+v", text, len(text), got, want)
	}
}

func isText(t *testing.T, secs int64, got string, want string) {
	t.Helper()
	if got != want {
		t.Errorf("the text of %d: got %q, want %q", secs, got, want)
	}
}

// Promise 3, of times: the library's own texts are asked for, over all years.
func TestTimesComeBackFromTheirTexts(t *testing.T) {
	for secs := int64(impl.MinTime); secs <= impl.MaxTime; secs += 86399*3 + 7 {
		want := time.Unix(secs, 0).UTC().Format("2006-01-02 15:04:05")
		got := impl.TimeText(secs)
		if got != want {
			t.Fatalf("the text of %d: got %q, want %q", secs, got, want)
		}
		if back := impl.TimeRead(got); back != (impl.NumOut{N: secs}) {
			t.Fatalf("%q: got %+v, want %d", got, back, secs)
		}
	}
}

func TestEachSecondOfADayComesBack(t *testing.T) {
	for _, day := range []int64{firstDay, -1, 0, 11016, lastDay} {
		for clock := int64(0); clock < 86400; clock++ {
			secs := day*86400 + clock
			want := fmt.Sprintf("%02d:%02d:%02d", clock/3600, clock/60%60, clock%60)
			text := impl.TimeText(secs)
			if len(text) != 19 || text[11:] != want || impl.TimeRead(text) != (impl.NumOut{N: secs}) {
				t.Fatalf("%d: got %q, then %+v", secs, text, impl.TimeRead(text))
			}
		}
	}
}

func TestTimesAtTheLimits(t *testing.T) {
	texts := map[int64]string{
		impl.MinTime:     "0001-01-01 00:00:00",
		impl.MinTime + 1: "0001-01-01 00:00:01",
		-1:               "1969-12-31 23:59:59",
		0:                "1970-01-01 00:00:00",
		951782400:        "2000-02-29 00:00:00",
		1711846800:       "2024-03-31 01:00:00",
		impl.MaxTime - 1: "9999-12-31 23:59:58",
		impl.MaxTime:     "9999-12-31 23:59:59",
	}
	for secs, text := range texts {
		isText(t, secs, impl.TimeText(secs), text)
		isRead(t, text, impl.TimeRead(text), impl.NumOut{N: secs})
	}
}

func TestTimesOutsideTheLimits(t *testing.T) {
	outside := append([]int64{impl.MinTime - 1, impl.MinTime - 86400, impl.MaxTime + 1, impl.MaxTime + 86400}, extremes...)
	for _, secs := range outside {
		if secs >= impl.MinTime && secs <= impl.MaxTime {
			continue
		}
		isText(t, secs, impl.TimeText(secs), "")
	}
}

func TestTextsThatTellNoTime(t *testing.T) {
	none := []string{
		"", " ", "0", "now", "2000-03-01", "00:00:00", "2000-03-01 ", "2000-03-01 00:00", "2000-03-01 00:00:0", "2000-03-01 00:00:000",
		"200-03-01 00:00:00", "02000-03-01 00:00:00", "12000-03-01 00:00:00", "2000-3-01 00:00:00", "2000-3-001 00:00:00", "2000-03-1 00:00:00", "2000-03-01 0:00:00", "2000-03-01 0:000:00",
		" 2000-03-01 00:00:00", "2000-03-01 00:00:00 ", "2000-03-01 00:00:00\n", "2000-03-01  00:00:00",
		"2000/03-01 00:00:00", "2000-03/01 00:00:00", "2000-03-01T00:00:00", "2000-03-01\t00:00:00", "2000-03-01 00.00:00", "2000-03-01 00:00.00", "2000-03-01-00:00:00",
		"0000-01-01 00:00:00", "0000-12-31 23:59:59", "2000-00-01 00:00:00", "2000-13-01 00:00:00", "2000-01-00 00:00:00", "2000-01-32 00:00:00",
		"2001-02-29 00:00:00", "1900-02-29 00:00:00", "2000-02-30 00:00:00", "2000-04-31 00:00:00",
		"2000-03-01 24:00:00", "2000-03-01 25:00:00", "2000-03-01 99:00:00", "2000-03-01 00:60:00", "2000-03-01 00:99:00", "2000-03-01 00:00:60", "2000-03-01 00:00:99", "9999-12-31 24:00:00",
		"-001-01-01 00:00:00", "+200-03-01 00:00:00", "200a-03-01 00:00:00", "2000-0a-01 00:00:00", "2000-03-a1 00:00:00", "2000-03-01 a0:00:00", "2000-03-01 0a:00:00", "2000-03-01 00:a0:00", "2000-03-01 00:0a:00", "2000-03-01 00:00:a0", "2000-03-01 00:00:0a",
		"2000-03-01 -1:00:00", "2000-03-01 00:-1:00", "2000-03-01 00:00:-1", "2000-+3-01 00:00:00", "2000-03- 1 00:00:00", "2000-03-01 00:00: 0", "2000-03-01 00:00:0\x00",
		"/000-03-01 00:00:00", ":000-03-01 00:00:00", "2000-03-01 00:00:0/", "2000-03-01 00:00:0:", "２000-3-1 00:00:00", "\xff\xff\xff\xff-03-01 00:00:00",
	}
	for _, text := range none {
		isRead(t, text, impl.TimeRead(text), impl.NumOut{Code: impl.ErrSyntax})
	}
}

// isTimeText asks the library, which takes more than its own texts, and the year 0.
func isTimeText(text string) bool {
	const form = "2006-01-02 15:04:05"
	at, err := time.Parse(form, text)
	return err == nil && at.Year() > 0 && at.Format(form) == text
}

// Each byte of a right text in turn is made each other byte: what is still read must have just that text.
func TestTimeReadTakesNothingButTimeTexts(t *testing.T) {
	for _, whole := range []string{"2000-02-29 23:59:59", "0001-01-01 00:00:00"} {
		for i := range len(whole) {
			for b := range 256 {
				bent := []byte(whole)
				bent[i] = byte(b)
				out := impl.TimeRead(string(bent))
				told := out.Code == impl.OK && impl.TimeText(out.N) == string(bent)
				refused := out == impl.NumOut{Code: impl.ErrSyntax}
				if wanted := isTimeText(string(bent)); told != wanted || refused == wanted {
					t.Fatalf("%q: got %+v", bent, out)
				}
			}
		}
	}
}

func TestLongTextsTellNoTime(t *testing.T) {
	long := "2000-03-01 00:00:00" + strings.Repeat("0", impl.MaxBytes-19)
	isRead(t, long, impl.TimeRead(long), impl.NumOut{Code: impl.ErrSyntax})
	isRead(t, long+"0", impl.TimeRead(long+"0"), impl.NumOut{Code: impl.ErrSize})
}

// offsetText makes an offset's text by another way than the program.
func offsetText(secs int64) string {
	sign := ""
	if secs < 0 {
		sign, secs = "-", -secs
	}
	text := fmt.Sprintf("%s%d:%02d", sign, secs/3600, secs/60%60)
	if secs%60 != 0 {
		text += fmt.Sprintf(":%02d", secs%60)
	}
	return text
}

// Promise 3, of offsets: all that have a text.
func TestOffsetsComeBackFromTheirTexts(t *testing.T) {
	for secs := int64(-604800); secs <= 604800; secs++ {
		text := impl.OffsetText(secs)
		if text != offsetText(secs) {
			t.Fatalf("the text of %d: got %q, want %q", secs, text, offsetText(secs))
		}
		if back := impl.OffsetRead(text); back != (impl.NumOut{N: secs}) {
			t.Fatalf("%q: got %+v, want %d", text, back, secs)
		}
	}
}

func TestOffsetsAtTheLimits(t *testing.T) {
	texts := map[int64]string{
		0: "0:00", 1: "0:00:01", -1: "-0:00:01", 59: "0:00:59", 60: "0:01", -60: "-0:01", 3599: "0:59:59", 3600: "1:00", 3605: "1:00:05",
		-5400: "-1:30", 36000: "10:00", 359999: "99:59:59", 360000: "100:00", -360000: "-100:00",
		604799: "167:59:59", 604800: "168:00", -604799: "-167:59:59", -604800: "-168:00",
	}
	for secs, text := range texts {
		isText(t, secs, impl.OffsetText(secs), text)
		isRead(t, text, impl.OffsetRead(text), impl.NumOut{N: secs})
	}
	for _, secs := range append([]int64{604801, -604801, 604860, -604860, 608400, -608400}, extremes...) {
		isText(t, secs, impl.OffsetText(secs), "")
	}
}

func TestOffsetTextsOfOtherForms(t *testing.T) {
	texts := map[string]int64{
		"-": 0, "0": 0, "-0": 0, "00": 0, "000": 0, "-000": 0, "0:00:00": 0, "-0:00": 0, "-000:00:00": 0,
		"1": 3600, "-1": -3600, "01": 3600, "001": 3600, "-001": -3600, "12": 43200, "168": 604800, "-168": -604800,
		"01:30": 5400, "001:30": 5400, "-01:30": -5400, "1:30:00": 5400, "001:00:05": 3605, "-1:00:05": -3605,
		"168:00": 604800, "168:00:00": 604800, "-168:00:00": -604800, "167:59": 604740, "24:00": 86400,
	}
	for text, secs := range texts {
		isRead(t, text, impl.OffsetRead(text), impl.NumOut{N: secs})
	}
}

func TestTextsThatTellNoOffset(t *testing.T) {
	none := []string{
		"", " ", "--", "--1", "+", "+1", "1-", "- 1", " 1", "1 ", "a", "1a", "a1", "w", "1w", "0x1", "1.5", "-w",
		"0000", "0001", "1234", "-0001", "0001:00", "1234:00:00",
		"169", "-169", "999", "-999", "168:01", "168:00:01", "-168:00:01", "-168:01", "200:00", "999:59:59",
		":", ":00", "-:00", ":00:00", "-:", "1:", "-1:", "1:5", "1:005", "1:0a", "1:a0", "1:-5", "1: 5", "1:60", "1:99", "1;30", "1.30",
		"1:00:", "1:00:5", "1:00:005", "1:00:60", "1:00:99", "1:60:00", "1:00:0a", "1:00:a0", "1:5:00", "1::00", "1:00::00", "1::", "::", ":::",
		"1:00:00:", "1:00:00:00", "1:00:00 ", "1:00-00", "1:/0", "1:0/", "1:00:0:", "/", "0/", "1\n", "1\x00", "１", "\xff", "1:00:\xff0",
	}
	for _, text := range none {
		isRead(t, text, impl.OffsetRead(text), impl.NumOut{Code: impl.ErrSyntax})
	}
}

// Numbers of more digits than a number holds must not wrap round into one that is taken.
func TestLongTextsTellNoOffset(t *testing.T) {
	for _, text := range []string{"18446744073709551616", "18446744073709551617:00", "-18446744073709551617", "9223372036854775807", "-9223372036854775808"} {
		isRead(t, text, impl.OffsetRead(text), impl.NumOut{Code: impl.ErrSyntax})
	}
	for _, first := range []string{"-", "1", "0"} {
		long := first + strings.Repeat("0", impl.MaxBytes-1)
		isRead(t, long, impl.OffsetRead(long), impl.NumOut{Code: impl.ErrSyntax})
		isRead(t, long+"0", impl.OffsetRead(long+"0"), impl.NumOut{Code: impl.ErrSize})
	}
}

func TestNames(t *testing.T) {
	right := []string{"a", "z", "A", "Z", "Eu/A", "Europe/Berlin", "Etc/GMT+12", "Etc/GMT-1", "A_0123456789/+-", "a-", "last", strings.Repeat("a", 20), "Z" + strings.Repeat("9", 19)}
	for _, name := range right {
		if !impl.NameRight(name) {
			t.Errorf("%q is told to be no name", name)
		}
	}
	none := []string{"", " ", "1", "1a", "_", "_a", "/", "/a", "+a", "-a", "-", "a b", "a ", " a", "a.", "a:", "a*", "a\n", "a\x00", "é", "aé", "a\xff", strings.Repeat("a", 21), strings.Repeat("a", impl.MaxBytes), strings.Repeat("a", impl.MaxBytes+1)}
	for _, name := range none {
		if impl.NameRight(name) {
			t.Errorf("%.30q of %d bytes is told to be a name", name, len(name))
		}
	}
}

func TestEachByteOfAName(t *testing.T) {
	const letters = "abcdefghijklmnopqrstuvwxyzABCDEFGHIJKLMNOPQRSTUVWXYZ"
	for b := range 256 {
		one := string([]byte{byte(b)})
		if got, want := impl.NameRight(one), strings.Contains(letters, one); got != want {
			t.Errorf("the name %q: got %v, want %v", one, got, want)
		}
		if got, want := impl.NameRight("a"+one), strings.Contains(letters+"0123456789_/+-", one); got != want {
			t.Errorf("the name %q: got %v, want %v", "a"+one, got, want)
		}
	}
}
