package tests

import (
	"math"
	"slices"
	"testing"

	"loop.example/g00364/impl"
)

func isTouched(t *testing.T, spans []impl.Span, from int64, to int64, want bool) {
	t.Helper()
	if got := impl.Touched(spans, from, to); got != want {
		t.Errorf("%v from %d to %d: got %v, want %v", spans, from, to, got, want)
	}
}

// slowTouched tries the numbers that would be the first that both have.
func slowTouched(spans []impl.Span, from int64, to int64) bool {
	for _, s := range spans {
		for _, n := range []int64{s.From, from} {
			if s.From <= n && n <= s.To && from <= n && n <= to {
				return true
			}
		}
	}
	return false
}

func TestTouchedAtTheEndsOfASpan(t *testing.T) {
	one := []impl.Span{span(100, 199)}
	for _, row := range []struct {
		from, to int64
		want     bool
	}{
		{0, 99, false}, {0, 100, true}, {0, 101, true}, {99, 99, false}, {100, 100, true}, {150, 150, true}, {199, 199, true}, {200, 200, false},
		{198, 300, true}, {199, 300, true}, {200, 300, false}, {120, 130, true}, {100, 199, true}, {99, 200, true}, {0, 300, true},
		{math.MinInt64, 99, false}, {math.MinInt64, 100, true}, {199, math.MaxInt64, true}, {200, math.MaxInt64, false}, {math.MinInt64, math.MaxInt64, true},
		{math.MinInt64, math.MinInt64, false}, {math.MaxInt64, math.MaxInt64, false}, {impl.MinTime, impl.MaxTime, true},
	} {
		isTouched(t, one, row.from, row.to, row.want)
		isTouched(t, append(slices.Clone(one), span(-1000, -999)), row.from, row.to, row.want || row.from <= -999 && row.to >= -1000)
	}
	isTouched(t, []impl.Span{span(7, 7)}, 7, 7, true)
	isTouched(t, []impl.Span{span(7, 7)}, 6, 8, true)
	isTouched(t, []impl.Span{span(7, 7)}, 6, 6, false)
	isTouched(t, []impl.Span{span(7, 7)}, 8, 8, false)
}

// From behind to there is no instant, also within a Span.
func TestTouchedFromBehindTo(t *testing.T) {
	for _, s := range []impl.Span{span(100, 199), span(math.MinInt64, math.MaxInt64), span(impl.MinTime, impl.MaxTime)} {
		for _, row := range [][2]int64{{151, 150}, {180, 120}, {199, 100}, {200, 100}, {199, 99}, {300, 0}, {math.MaxInt64, math.MinInt64}, {impl.MaxTime, impl.MinTime}} {
			isTouched(t, []impl.Span{s}, row[0], row[1], false)
		}
	}
}

// A Span whose To is ahead of its From has no instant.
func TestTouchedOfSpansThatEndAheadOfTheirBeginning(t *testing.T) {
	for _, s := range []impl.Span{span(101, 100), span(199, 100), span(math.MaxInt64, math.MinInt64), span(impl.MaxTime, impl.MinTime)} {
		for _, row := range [][2]int64{{100, 100}, {101, 101}, {150, 150}, {100, 101}, {0, 1000}, {101, 100}, {math.MinInt64, math.MaxInt64}} {
			isTouched(t, []impl.Span{s}, row[0], row[1], false)
			isTouched(t, []impl.Span{s, span(-5, 2000)}, row[0], row[1], row[0] <= row[1])
			isTouched(t, []impl.Span{span(-5, 2000), s}, row[0], row[1], row[0] <= row[1])
		}
	}
}

func TestTouchedOfNoSpan(t *testing.T) {
	for _, from := range append([]int64{0, 1, impl.MinTime, impl.MaxTime}, extremes...) {
		for _, to := range append([]int64{0, 1, impl.MinTime, impl.MaxTime}, extremes...) {
			isTouched(t, nil, from, to, false)
			isTouched(t, []impl.Span{}, from, to, false)
		}
	}
}

func TestTouchedInAnyOrder(t *testing.T) {
	spans := []impl.Span{span(10, 19), span(30, 39), span(35, 50), span(80, 70)}
	for _, order := range orders(4) {
		list := []impl.Span{}
		for _, place := range order {
			list = append(list, spans[place])
		}
		for n := range int64(100) {
			isTouched(t, list, n, n, n >= 10 && n <= 19 || n >= 30 && n <= 50)
			isTouched(t, list, n, n+5, n >= 5 && n <= 19 || n >= 25 && n <= 50)
		}
	}
	isTouched(t, []impl.Span{{}}, 0, 0, true)
	isTouched(t, []impl.Span{{}}, 1, 5, false)
}

// All Spans and questions of small numbers, and of the least and the greatest.
func TestTouchedOfAnyNumbers(t *testing.T) {
	numbers := append([]int64{-2, -1, 0, 1, 2, impl.MinTime - 1, impl.MinTime, impl.MaxTime, impl.MaxTime + 1}, extremes...)
	for _, first := range numbers {
		for _, last := range numbers {
			for _, from := range numbers {
				for _, to := range numbers {
					list := []impl.Span{span(first, last)}
					isTouched(t, list, from, to, slowTouched(list, from, to))
				}
			}
		}
	}
	c := newChance(91)
	touched := 0
	for range 20000 {
		list := []impl.Span{}
		for range c.from(0, 6) {
			list = append(list, span(pick(c, numbers...), pick(c, numbers...)), span(c.from(-9, 9), c.from(-9, 9)))
		}
		from, to := c.from(-12, 12), c.from(-12, 12)
		want := false
		for _, s := range list {
			for n := from; n <= to; n++ {
				want = want || n >= s.From && n <= s.To
			}
		}
		isTouched(t, list, from, to, want)
		if want {
			touched++
		}
	}
	if touched < 1000 || touched > 19000 {
		t.Errorf("%d of 20000 are touched", touched)
	}
}

func TestTouchedOfLongLists(t *testing.T) {
	for many, want := range map[int]bool{1: true, 399: true, 400: true, 401: false, 402: false, 5000: false} {
		first := make([]impl.Span, many)
		first[0] = span(5, 6)
		isTouched(t, first, 5, 5, want)
		last := make([]impl.Span, many)
		last[many-1] = span(5, 6)
		isTouched(t, last, 6, 6, want)
		isTouched(t, last, 7, 7, false)
	}
}

func TestSpansHandedInStay(t *testing.T) {
	spans := []impl.Span{span(30, 39), span(10, 19), span(5, 1)}
	isTouched(t, spans, 12, 13, true)
	isTouched(t, spans, 40, 50, false)
	if !slices.Equal(spans, []impl.Span{span(30, 39), span(10, 19), span(5, 1)}) {
		t.Errorf("the Spans have become %v", spans)
	}
}
