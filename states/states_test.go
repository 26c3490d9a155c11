package states

import (
	"fmt"
	"math"
	"strings"
	"testing"
)

// chapter is the table of the document: i, Qe, Mps, Lps, Swap.
const chapter = `0 5601 1 1 1
1 3401 2 6 0
2 1801 3 9 0
3 0AC1 4 12 0
4 0521 5 29 0
5 0221 38 33 0
6 5601 7 6 1
7 5401 8 14 0
8 4801 9 14 0
9 3801 10 14 0
10 3001 11 17 0
11 2401 12 18 0
12 1C01 13 20 0
13 1601 29 21 0
14 5601 15 14 1
15 5401 16 14 0
16 5101 17 15 0
17 4801 18 16 0
18 3801 19 17 0
19 3401 20 18 0
20 3001 21 19 0
21 2801 22 19 0
22 2401 23 20 0
23 2201 24 21 0
24 1C01 25 22 0
25 1801 26 23 0
26 1601 27 24 0
27 1401 28 25 0
28 1201 29 26 0
29 1101 30 27 0
30 0AC1 31 28 0
31 09C1 32 29 0
32 08A1 33 30 0
33 0521 34 31 0
34 0441 35 32 0
35 02A1 36 33 0
36 0221 37 34 0
37 0141 38 35 0
38 0111 39 36 0
39 0085 40 37 0
40 0049 41 38 0
41 0025 42 39 0
42 0015 43 40 0
43 0009 44 41 0
44 0005 45 42 0
45 0001 45 43 0
46 5601 46 46 0`

func TestAtHasTheTable(t *testing.T) { // P301
	lines := strings.Split(chapter, "\n")
	if len(lines) != 47 {
		t.Fatal(len(lines))
	}
	for i, line := range lines {
		s, swap := At(i), 0
		if s.Swap {
			swap = 1
		}
		if got := fmt.Sprintf("%d %04X %d %d %d", i, s.Qe, s.Mps, s.Lps, swap); got != line {
			t.Errorf("%s, want %s", got, line)
		}
	}
}

func TestAtOutsideIsZero(t *testing.T) { // P301
	for _, i := range []int{-1, 47, 48, math.MinInt, math.MaxInt} {
		if s := At(i); s != (State{}) {
			t.Errorf("At(%d) = %v", i, s)
		}
	}
}

func TestBegin(t *testing.T) { // P301
	for _, cx := range []int{-1, 0, 1, 2, 9, 14, 16, 17, 18, 19, 46, math.MinInt, math.MaxInt} {
		want := map[int]int{0: 4, 17: 3, 18: 46}[cx]
		if got := Begin(cx); got != want {
			t.Errorf("Begin(%d) = %d, want %d", cx, got, want)
		}
	}
}

func TestStatesStayInTheTable(t *testing.T) { // P302
	for i := range 47 {
		s := At(i)
		if At(s.Mps).Qe == 0 || At(s.Lps).Qe == 0 {
			t.Errorf("state %d goes to a state that is none", i)
		}
		if s.Swap && s.Qe != 0x5601 {
			t.Errorf("state %d swaps with Qe %x", i, s.Qe)
		}
	}
}
