package impl

import (
	"strconv"
	"strings"
)

// Constants, see chapter 1.
const (
	OK        = 0
	ErrForm   = 1
	ErrSize   = 2
	ErrSyntax = 3
	ErrRange  = 4
	ErrNone   = 5
	ErrThere  = 6
	ErrFull   = 7
	ErrGap    = 8
	ErrFold   = 9
	ErrState  = 10
	MaxBytes  = 8000
	MaxList   = 400
	MinTime   = -62135596800
	MaxTime   = 253402300799
)

// The months are counted from 1 on, as dates count them.
const (
	january = iota + 1
	february
	march
	april
	may
	june
	july
	august
	september
	october
	november
	december
)

// The limits of right dates, and of their days' numbers.
const (
	minYear = 1
	maxYear = 9999
	minDay  = -719162
	maxDay  = 2932896
)

// Lengths of time: of a century that does not end with a leap year, and of four
// centuries, which do.
const (
	minuteSeconds   = 60
	hourSeconds     = 60 * minuteSeconds
	daySeconds      = 24 * hourSeconds
	weekDays        = 7
	weekSeconds     = weekDays * daySeconds
	yearDays        = 365
	fourYearDays    = 4*yearDays + 1
	centuryDays     = 25*fourYearDays - 1
	fourCenturyDays = 4*centuryDays + 1
)

// Lengths of texts.
const (
	maxNameBytes   = 20
	maxDayDigits   = 2
	maxHourDigits  = 3
	shortBytes     = 3
	sixtiethsBytes = len(":MM")
	dateTextBytes  = len("YYYY-MM-DD")
	timeTextBytes  = len("YYYY-MM-DD HH:MM:SS")
)

// What is told where there is no day, or no weekday: neither is one's number.
const (
	noDay     = -1000000
	noWeekday = -1
)

// weekdayNames holds shortBytes a weekday, from Sunday on.
const weekdayNames = "SunMonTueWedThuFriSat"

// monthLengths tells the months of a year that is no leap year.
var monthLengths = [...]int64{
	january:   31,
	february:  28,
	march:     31,
	april:     30,
	may:       31,
	june:      30,
	july:      31,
	august:    31,
	september: 30,
	october:   31,
	november:  30,
	december:  31,
}

// Date is a thing of chapter 2.
type Date struct {
	Year  int64
	Month int64
	Day   int64
}

// NumOut is a thing of chapter 2.
type NumOut struct {
	N    int64
	Code int64
}

// NameRight: see chapter 2.
func NameRight(t string) bool {
	if len(t) < 1 || len(t) > maxNameBytes || !isLetter(t[0]) {
		return false
	}
	for i := 1; i < len(t); i++ {
		if !isNameByte(t[i]) {
			return false
		}
	}
	return true
}

func isLetter(b byte) bool {
	return b >= 'a' && b <= 'z' || b >= 'A' && b <= 'Z'
}

func isDigit(b byte) bool {
	return b >= '0' && b <= '9'
}

func isNameByte(b byte) bool {
	return isLetter(b) || isDigit(b) || b == '_' || b == '/' || b == '+' || b == '-'
}

// DateRight: see chapter 2.
func DateRight(d Date) bool {
	return d.Day >= 1 && d.Day <= MonthDays(d.Year, d.Month)
}

// DaysOf: see chapter 2.
func DaysOf(d Date) int64 {
	if !DateRight(d) {
		return 0
	}
	days := minDay + daysAheadOfYear(d.Year)
	for month := int64(january); month < d.Month; month++ {
		days += MonthDays(d.Year, month)
	}
	return days + d.Day - 1
}

// daysAheadOfYear counts from the first day of the year 1 on.
func daysAheadOfYear(year int64) int64 {
	whole := year - minYear
	return whole*yearDays + whole/4 - whole/100 + whole/400
}

// DateOf: see chapter 2.
func DateOf(days int64) Date {
	if days < minDay || days > maxDay {
		return Date{}
	}
	year := yearOfDay(days - minDay)
	rest := days - minDay - daysAheadOfYear(year)
	month := int64(january)
	for rest >= MonthDays(year, month) {
		rest -= MonthDays(year, month)
		month++
	}
	return Date{Year: year, Month: month, Day: rest + 1}
}

// yearOfDay takes a count of days from the first day of the year 1 on.
func yearOfDay(count int64) int64 {
	fourCenturies := count / fourCenturyDays
	count %= fourCenturyDays
	// The last century of four, and the last year of four, are a day longer
	// than the others: that day must not begin another.
	centuries := min(count/centuryDays, 3)
	count -= centuries * centuryDays
	fourYears := count / fourYearDays
	count %= fourYearDays
	years := min(count/yearDays, 3)
	return minYear + 400*fourCenturies + 100*centuries + 4*fourYears + years
}

// Weekday: see chapter 2.
func Weekday(days int64) int64 {
	if days < minDay || days > maxDay {
		return noWeekday
	}
	// The first day of the year 1 is a Monday.
	return (days - minDay + 1) % weekDays
}

// MonthDays: see chapter 2.
func MonthDays(year int64, month int64) int64 {
	if year < minYear || year > maxYear || month < january || month > december {
		return 0
	}
	if month == february && isLeap(year) {
		return monthLengths[february] + 1
	}
	return monthLengths[month]
}

func isLeap(year int64) bool {
	return year%4 == 0 && (year%100 != 0 || year%400 == 0)
}

// dayText is a text that tells a day, and the month that it is asked of.
type dayText struct {
	year  int64
	month int64
	on    string
}

// DayOn: see chapter 2.
func DayOn(year int64, month int64, on string) int64 {
	if len(on) > MaxBytes {
		return 0
	}
	return dayText{year: year, month: month, on: on}.told()
}

// told is DayOn of a text of any length: one that is a field is not refused for
// its size.
func (d dayText) told() int64 {
	if MonthDays(d.year, d.month) == 0 {
		return noDay
	}
	forms := [...]func(dayText) int64{
		dayText.dayOfMonth,
		dayText.lastOfMonth,
		dayText.firstFrom,
		dayText.lastUpTo,
	}
	for _, form := range forms {
		if days := form(d); days != noDay {
			return days
		}
	}
	return noDay
}

func (d dayText) dayOfMonth() int64 {
	return d.numbered(d.on)
}

func (d dayText) lastOfMonth() int64 {
	name, found := strings.CutPrefix(d.on, "last")
	if !found {
		return noDay
	}
	last := Date{Year: d.year, Month: d.month, Day: MonthDays(d.year, d.month)}
	return weekdayUpTo(weekdayNamed(name), DaysOf(last))
}

func (d dayText) firstFrom() int64 {
	name, digits, found := strings.Cut(d.on, ">=")
	if !found {
		return noDay
	}
	return weekdayFrom(weekdayNamed(name), d.numbered(digits))
}

func (d dayText) lastUpTo() int64 {
	name, digits, found := strings.Cut(d.on, "<=")
	if !found {
		return noDay
	}
	return weekdayUpTo(weekdayNamed(name), d.numbered(digits))
}

// numbered is the day of the month of that number, or noDay.
func (d dayText) numbered(digits string) int64 {
	if len(digits) > maxDayDigits {
		return noDay
	}
	day, ok := digitsRead(digits)
	date := Date{Year: d.year, Month: d.month, Day: day}
	if !ok || !DateRight(date) {
		return noDay
	}
	return DaysOf(date)
}

// weekdayNamed is the weekday of that name, or noWeekday.
func weekdayNamed(name string) int64 {
	place, found := shortPlace(weekdayNames, name)
	if !found {
		return noWeekday
	}
	return place
}

// shortPlace finds a name among names of shortBytes each.
func shortPlace(names string, name string) (int64, bool) {
	for place := range int64(len(names) / shortBytes) {
		if shortName(names, place) == name {
			return place, true
		}
	}
	return 0, false
}

func shortName(names string, place int64) string {
	return names[place*shortBytes : (place+1)*shortBytes]
}

// weekdayFrom takes noWeekday and noDay, too, and answers noDay of them. What
// it tells may lie behind maxDay.
func weekdayFrom(weekday int64, days int64) int64 {
	if weekday == noWeekday || days == noDay {
		return noDay
	}
	return days + (weekday-Weekday(days)+weekDays)%weekDays
}

// weekdayUpTo is weekdayFrom the other way; what it tells may lie ahead of
// minDay.
func weekdayUpTo(weekday int64, days int64) int64 {
	if weekday == noWeekday || days == noDay {
		return noDay
	}
	return days - (Weekday(days)-weekday+weekDays)%weekDays
}

// digitsRead reads a text of digits alone, at least one. Callers bound how
// many, so that the number can't wrap round.
func digitsRead(text string) (int64, bool) {
	if text == "" {
		return 0, false
	}
	n := int64(0)
	for i := 0; i < len(text); i++ {
		if !isDigit(text[i]) {
			return 0, false
		}
		n = n*10 + int64(text[i]-'0')
	}
	return n, true
}

// TimeText: see chapter 2.
func TimeText(secs int64) string {
	if !isTime(secs) {
		return ""
	}
	days, clock := dayAndClock(secs)
	return dateText(DateOf(days)) + " " + clockText(clock)
}

// isTime takes what may be an instant or a wall time.
func isTime(secs int64) bool {
	return secs >= MinTime && secs <= MaxTime
}

// dayAndClock parts a wall time into its day's number and the seconds of that
// day.
func dayAndClock(wall int64) (int64, int64) {
	// From MinTime on nothing is below 0, so that division rounds down.
	since := wall - MinTime
	return minDay + since/daySeconds, since % daySeconds
}

func dateText(d Date) string {
	return padded(d.Year, 4) + "-" + padded(d.Month, 2) + "-" + padded(d.Day, 2)
}

func clockText(secs int64) string {
	hours := secs / hourSeconds
	minutes := secs % hourSeconds / minuteSeconds
	return padded(hours, 2) + ":" + padded(minutes, 2) + ":" + padded(secs%minuteSeconds, 2)
}

func padded(n int64, width int) string {
	text := strconv.FormatInt(n, 10)
	for len(text) < width {
		text = "0" + text
	}
	return text
}

// TimeRead: see chapter 2.
func TimeRead(text string) NumOut {
	if len(text) > MaxBytes {
		return NumOut{Code: ErrSize}
	}
	if len(text) != timeTextBytes || text[dateTextBytes] != ' ' {
		return NumOut{Code: ErrSyntax}
	}
	date, dateOk := dateRead(text[:dateTextBytes])
	clock, clockOk := clockRead(text[dateTextBytes+1:])
	if !dateOk || !clockOk {
		return NumOut{Code: ErrSyntax}
	}
	return NumOut{N: DaysOf(date)*daySeconds + clock}
}

// dateRead takes a text as long as a date's.
func dateRead(text string) (Date, bool) {
	year, yearOk := digitsRead(text[:4])
	month, monthOk := digitsRead(text[5:7])
	day, dayOk := digitsRead(text[8:])
	date := Date{Year: year, Month: month, Day: day}
	parted := text[4] == '-' && text[7] == '-'
	return date, yearOk && monthOk && dayOk && parted && DateRight(date)
}

// clockRead takes a text as long as a clock's.
func clockRead(text string) (int64, bool) {
	hours, hoursOk := digitsRead(text[:2])
	minutes, minutesOk := sixtiethsRead(text[2:5])
	seconds, secondsOk := sixtiethsRead(text[5:])
	secs := hours*hourSeconds + minutes*minuteSeconds + seconds
	return secs, hoursOk && minutesOk && secondsOk && hours < 24
}

// sixtiethsRead reads a colon and two digits below 60.
func sixtiethsRead(text string) (int64, bool) {
	if len(text) != sixtiethsBytes || text[0] != ':' {
		return 0, false
	}
	n, ok := digitsRead(text[1:])
	return n, ok && n < 60
}

// OffsetText: see chapter 2.
func OffsetText(secs int64) string {
	if secs < -weekSeconds || secs > weekSeconds {
		return ""
	}
	sign := ""
	if secs < 0 {
		sign = "-"
		secs = -secs
	}
	text := sign + padded(secs/hourSeconds, 1) + ":" + padded(secs%hourSeconds/minuteSeconds, 2)
	if seconds := secs % minuteSeconds; seconds != 0 {
		text += ":" + padded(seconds, 2)
	}
	return text
}

// OffsetRead: see chapter 2.
func OffsetRead(text string) NumOut {
	if len(text) > MaxBytes {
		return NumOut{Code: ErrSize}
	}
	if text == "-" {
		return NumOut{}
	}
	rest, below := strings.CutPrefix(text, "-")
	secs, ok := spanText(rest).read()
	if !ok || secs > weekSeconds {
		return NumOut{Code: ErrSyntax}
	}
	if below {
		secs = -secs
	}
	return NumOut{N: secs}
}

// spanText is an offset's text without its sign.
type spanText string

func (t spanText) read() (int64, bool) {
	forms := [...]func(spanText) (int64, bool){
		spanText.hours,
		spanText.minutes,
		spanText.seconds,
	}
	for _, form := range forms {
		if secs, ok := form(t); ok {
			return secs, true
		}
	}
	return 0, false
}

func (t spanText) hours() (int64, bool) {
	if len(t) > maxHourDigits {
		return 0, false
	}
	n, ok := digitsRead(string(t))
	return n * hourSeconds, ok
}

func (t spanText) minutes() (int64, bool) {
	front, back := t.parted()
	hours, hoursOk := front.hours()
	n, ok := sixtiethsRead(back)
	return hours + n*minuteSeconds, hoursOk && ok
}

func (t spanText) seconds() (int64, bool) {
	front, back := t.parted()
	minutes, minutesOk := front.minutes()
	n, ok := sixtiethsRead(back)
	return minutes + n, minutesOk && ok
}

// parted cuts off what a colon and two digits would take; a text that is too
// short for these has nothing behind the cut.
func (t spanText) parted() (spanText, string) {
	cut := len(t) - sixtiethsBytes
	if cut < 0 {
		return t, ""
	}
	return t[:cut], string(t[cut:])
}
