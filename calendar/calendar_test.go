package calendar_test

import (
	"math"
	"math/rand/v2"
	"slices"
	"testing"

	"postilion/api"
	"postilion/calendar"
)

const (
	lastDay  = 1000000    // days from -lastDay to lastDay are in range
	lastTime = 2000000000 // times from -lastTime to lastTime are in range
)

// week returns the working days of a week that are written as a text: a point for a day off.
func week(days string) []bool {
	var l []bool
	for _, b := range []byte(days) {
		l = append(l, b != '.')
	}
	return l
}

// every returns n days from a first one on, always a step apart.
func every(first, step, n int) []int {
	var l []int
	for i := range n {
		l = append(l, first+i*step)
	}
	return l
}

// office is the calendar of the chapter's examples.
func office() api.Calendar {
	return api.Calendar{Zone: 60, Week: week("MTWTF.."), Holidays: []int{5, 7}}
}

// mondays is a calendar of which only Mondays are working days, and the eight Mondays from 14 to 63 are holidays.
func mondays() api.Calendar {
	return api.Calendar{Week: week("M......"), Holidays: every(14, 7, 8)}
}

// wellFormed are calendars that are well-formed.
func wellFormed() []api.Calendar {
	return []api.Calendar{
		office(),
		mondays(),
		{Week: week(".......")},
		{Week: week("MTWTFSS"), Holidays: []int{}},
		{Zone: -720, Week: week("......S"), Holidays: []int{-1, 0, 6, 13}},
		{Zone: 840, Week: week(".TW.F.S"), Holidays: every(-20, 1, 40)},
		{Zone: -61, Week: week("MTWTFSS"), Holidays: every(-30, 2, 40)},
		{Zone: 330, Week: week("M.W.F.."), Holidays: []int{math.MinInt, -1000001, -1000000, -3, 0, 4, 9, 1000000, 1000001, math.MaxInt}},
	}
}

// malformed are calendars that are not well-formed, each because of one thing.
func malformed() map[string]api.Calendar {
	all := week("MTWTFSS")
	return map[string]api.Calendar{
		"the zero value":         {},
		"the zone -721":          {Zone: -721, Week: all},
		"the zone 841":           {Zone: 841, Week: all},
		"the least zone":         {Zone: math.MinInt, Week: all},
		"the greatest zone":      {Zone: math.MaxInt, Week: all},
		"no week":                {Week: []bool{}},
		"a week of one day":      {Week: week("M")},
		"a week of 6 days":       {Week: week("MTWTFS")},
		"a week of 8 days":       {Week: week("MTWTFSSM")},
		"two weeks":              {Week: week("MTWTFSSMTWTFSS")},
		"41 holidays":            {Week: all, Holidays: every(100, 1, 41)},
		"1000 holidays":          {Week: all, Holidays: every(100, 1, 1000)},
		"a holiday twice":        {Week: all, Holidays: []int{100, 100}},
		"holidays in no order":   {Week: all, Holidays: []int{101, 100}},
		"the last holiday twice": {Week: all, Holidays: []int{100, 101, 102, 102}},
		"the first one greater":  {Week: all, Holidays: []int{102, 101, 103, 104}},
		"the last one less":      {Week: all, Holidays: []int{100, 101, 103, 102}},
		"extremes in no order":   {Week: all, Holidays: []int{math.MaxInt, math.MinInt}},
	}
}

// isWork says by another way than B4 whether a day is a working day: it steps from the day 0, a Monday, to the day.
func isWork(c api.Calendar, day int) bool {
	weekday := 0
	for d := 0; d < day; d++ {
		if weekday++; weekday == 7 {
			weekday = 0
		}
	}
	for d := 0; d > day; d-- {
		if weekday--; weekday == -1 {
			weekday = 6
		}
	}
	return c.Week[weekday] && !slices.Contains(c.Holidays, day)
}

// clone returns a copy of a calendar that shares no memory with it.
func clone(c api.Calendar) api.Calendar {
	return api.Calendar{Zone: c.Zone, Week: slices.Clone(c.Week), Holidays: slices.Clone(c.Holidays)}
}

func equal(a, b api.Calendar) bool {
	return a.Zone == b.Zone && slices.Equal(a.Week, b.Week) && slices.Equal(a.Holidays, b.Holidays)
}

func wantLocal(t *testing.T, c api.Calendar, time, day, minute int) {
	t.Helper()
	if d, m := calendar.Local(c, time); d != day || m != minute {
		t.Errorf("Local(%v, %d) = %d, %d; want %d, %d", c, time, d, m, day, minute)
	}
}

func wantTime(t *testing.T, c api.Calendar, day, minute, want int) {
	t.Helper()
	if got := calendar.Time(c, day, minute); got != want {
		t.Errorf("Time(%v, %d, %d) = %d; want %d", c, day, minute, got, want)
	}
}

func wantWork(t *testing.T, c api.Calendar, day int, want bool) {
	t.Helper()
	if got := calendar.Work(c, day); got != want {
		t.Errorf("Work(%v, %d) = %t; want %t", c, day, got, want)
	}
}

func wantNext(t *testing.T, c api.Calendar, day, want int, wantErr api.Errno) {
	t.Helper()
	if got, errno := calendar.Next(c, day); got != want || errno != wantErr {
		t.Errorf("Next(%v, %d) = %d, %d; want %d, %d", c, day, got, errno, want, wantErr)
	}
}

func wantAdd(t *testing.T, c api.Calendar, day, n, want int, wantErr api.Errno) {
	t.Helper()
	if got, errno := calendar.Add(c, day, n); got != want || errno != wantErr {
		t.Errorf("Add(%v, %d, %d) = %d, %d; want %d, %d", c, day, n, got, errno, want, wantErr)
	}
}

func wantCount(t *testing.T, c api.Calendar, from, to, want int) {
	t.Helper()
	if got := calendar.Count(c, from, to); got != want {
		t.Errorf("Count(%v, %d, %d) = %d; want %d", c, from, to, got, want)
	}
}

func TestP2_1Examples(t *testing.T) {
	c := office()
	wantLocal(t, c, 1380, 1, 0)
	wantLocal(t, c, -61, -1, 1439)
	wantTime(t, c, 1, 0, 1380)
	wantWork(t, c, 4, true)
	wantWork(t, c, 5, false)
	wantWork(t, c, 7, false)
	wantWork(t, c, -3, true)
	wantNext(t, c, 5, 8, api.OK)
	wantAdd(t, c, 4, 1, 8, api.OK)
	wantAdd(t, c, 5, 0, 5, api.OK)
	wantAdd(t, c, 5, 2, 9, api.OK)
	wantCount(t, c, 4, 9, 2)
}

func TestP2_1Valid(t *testing.T) {
	for _, c := range wellFormed() {
		if !calendar.Valid(c) {
			t.Errorf("%v is not valid", c)
		}
	}
	for why, c := range malformed() {
		if calendar.Valid(c) {
			t.Errorf("%s: %v is valid", why, c)
		}
	}
}

func TestP2_1ValidOfTheEnds(t *testing.T) {
	for _, zone := range []int{-720, -719, -1, 0, 1, 839, 840} {
		if c := (api.Calendar{Zone: zone, Week: week(".......")}); !calendar.Valid(c) {
			t.Errorf("the zone %d is not valid", zone)
		}
	}
	for n := range 50 {
		c := api.Calendar{Week: week("MTWTF.."), Holidays: every(-10, 3, n)}
		if calendar.Valid(c) != (n <= 40) {
			t.Errorf("%d holidays: Valid is %t", n, calendar.Valid(c))
		}
		c = api.Calendar{Week: make([]bool, n)}
		if calendar.Valid(c) != (n == 7) {
			t.Errorf("a week of %d days: Valid is %t", n, calendar.Valid(c))
		}
	}
	// The order counts at each place of the list.
	for at := 1; at < 40; at++ {
		for _, step := range []int{0, -1} {
			c := api.Calendar{Week: week("MTWTF.."), Holidays: every(0, 5, 40)}
			c.Holidays[at] = c.Holidays[at-1] + step
			if calendar.Valid(c) {
				t.Errorf("holidays %v are valid", c.Holidays)
			}
		}
	}
}

// TestP2_1NotWellFormed calls each function with arguments that have a result for a calendar that is well-formed.
func TestP2_1NotWellFormed(t *testing.T) {
	for _, c := range malformed() {
		wantLocal(t, c, 10000, 0, 0)
		wantTime(t, c, 10, 100, 0)
		wantWork(t, c, 10, false)
		wantNext(t, c, 10, 0, api.ErrArg)
		wantAdd(t, c, 10, 0, 0, api.ErrArg)
		wantAdd(t, c, 10, 3, 0, api.ErrArg)
		wantCount(t, c, 10, 20, -1)
		wantCount(t, c, 20, 10, -1)
		wantCount(t, c, 10, 10, -1)
	}
}

func TestP2_1Local(t *testing.T) {
	c := api.Calendar{Week: week("MTWTF..")}
	for _, x := range []struct{ zone, time, day, minute int }{
		{0, 0, 0, 0}, {0, 1, 0, 1}, {0, 1439, 0, 1439}, {0, 1440, 1, 0}, {0, 14400, 10, 0},
		{0, -1, -1, 1439}, {0, -1440, -1, 0}, {0, -1441, -2, 1439}, {0, -2880, -2, 0},
		{840, 0, 0, 840}, {840, 599, 0, 1439}, {840, 600, 1, 0}, {840, -840, 0, 0}, {840, -841, -1, 1439},
		{-720, 0, -1, 720}, {-720, 719, -1, 1439}, {-720, 720, 0, 0}, {-720, -720, -1, 0}, {-720, -721, -2, 1439},
		// The ends of the range, in zones of which the local minutes are out of it.
		{0, lastTime, 1388888, 1280}, {0, -lastTime, -1388889, 160},
		{840, lastTime, 1388889, 680}, {-720, -lastTime, -1388890, 880},
		{840, -lastTime, -1388889, 1000}, {-720, lastTime, 1388888, 560},
		{840, lastTime - 1, 1388889, 679}, {-720, 1 - lastTime, -1388890, 881},
		{0, lastTime + 1, 0, 0}, {0, -lastTime - 1, 0, 0}, {-720, lastTime + 1, 0, 0}, {840, -lastTime - 1, 0, 0},
		{840, math.MaxInt, 0, 0}, {-720, math.MaxInt, 0, 0}, {840, math.MinInt, 0, 0}, {-720, math.MinInt, 0, 0},
	} {
		c.Zone = x.zone
		wantLocal(t, c, x.time, x.day, x.minute)
	}
}

func TestP2_1Time(t *testing.T) {
	c := api.Calendar{Week: week("MTWTF..")}
	for _, x := range []struct{ zone, day, minute, want int }{
		{0, 0, 0, 0}, {0, 0, 1439, 1439}, {0, 1, 0, 1440}, {0, -1, 1439, -1}, {0, -1, 0, -1440}, {0, 10, 30, 14430},
		{840, 0, 0, -840}, {840, 1, 0, 600}, {-720, 0, 0, 720}, {-720, -1, 0, -720},
		// The ends of the ranges.
		{840, lastDay, 1439, 1440000599}, {-720, lastDay, 1439, 1440002159}, {0, lastDay, 0, 1440000000},
		{840, -lastDay, 0, -1440000840}, {-720, -lastDay, 0, -1439999280}, {0, -lastDay, 1439, -1439998561},
		{60, 10, -1, 0}, {60, 10, 1440, 0}, {60, 10, math.MinInt, 0}, {60, 10, math.MaxInt, 0},
		{60, lastDay + 1, 0, 0}, {60, -lastDay - 1, 1439, 0}, {60, math.MaxInt, 5, 0}, {60, math.MinInt, 5, 0},
	} {
		c.Zone = x.zone
		wantTime(t, c, x.day, x.minute, x.want)
	}
}

func TestP2_1Work(t *testing.T) {
	for _, c := range wellFormed() {
		for day := -300; day <= 300; day++ {
			wantWork(t, c, day, isWork(c, day))
		}
	}
}

func TestP2_1WorkOfEachWeekday(t *testing.T) {
	for weekday := range 7 {
		c := api.Calendar{Week: make([]bool, 7)}
		c.Week[weekday] = true
		for other := range 7 {
			for _, weeks := range []int{-100000, -53, -2, -1, 0, 1, 2, 52, 100000} {
				wantWork(t, c, 7*weeks+other, other == weekday)
			}
		}
	}
}

func TestP2_1WorkOfTheEnds(t *testing.T) {
	c := api.Calendar{Week: week("MTWTFSS")}
	for _, day := range []int{-lastDay, -lastDay + 1, lastDay - 1, lastDay} {
		wantWork(t, c, day, true)
	}
	for _, day := range []int{-lastDay - 1, lastDay + 1, math.MinInt, math.MaxInt} {
		wantWork(t, c, day, false)
	}
	// -1000000 is a Sunday, 1000000 a Tuesday; the first and the last holiday are found, too.
	c = api.Calendar{Week: week(".T....S"), Holidays: []int{-lastDay + 7, lastDay - 7}}
	for day, want := range map[int]bool{
		-lastDay: true, -lastDay + 1: false, -lastDay + 2: true, -lastDay + 7: false, -lastDay + 14: true,
		lastDay: true, lastDay - 1: false, lastDay - 2: true, lastDay - 7: false, lastDay - 14: true,
	} {
		wantWork(t, c, day, want)
	}
}

// TestP2_1Holidays checks that each holiday is found in lists of each length.
func TestP2_1Holidays(t *testing.T) {
	for n := range 41 {
		c := api.Calendar{Week: week("MTWTFSS"), Holidays: every(-50, 3, n)}
		for day := -60; day <= 90; day++ {
			wantWork(t, c, day, !slices.Contains(c.Holidays, day))
		}
	}
}

func TestP2_1Next(t *testing.T) {
	for _, c := range wellFormed() {
		for day := -150; day <= 150; day++ {
			want, wantErr := 0, api.ErrDay
			for d := day + 59; d >= day; d-- {
				if isWork(c, d) {
					want, wantErr = d, api.OK
				}
			}
			wantNext(t, c, day, want, wantErr)
		}
	}
}

func TestP2_1NextAfter60Days(t *testing.T) {
	c := mondays()
	wantNext(t, c, 7, 7, api.OK)
	wantNext(t, c, 8, 0, api.ErrDay)
	wantNext(t, c, 10, 0, api.ErrDay) // 70 is the 61st day
	wantNext(t, c, 11, 70, api.OK)    // 70 is the 60th day
	wantNext(t, c, 70, 70, api.OK)
	c = api.Calendar{Week: week(".......")}
	wantNext(t, c, 0, 0, api.ErrDay)
	wantNext(t, c, -lastDay, 0, api.ErrDay)
	wantNext(t, c, lastDay, 0, api.ErrDay)
}

func TestP2_1NextOfTheEnds(t *testing.T) {
	c := api.Calendar{Week: week("M......"), Holidays: []int{lastDay + 6}}
	wantNext(t, c, lastDay, lastDay+13, api.OK)
	wantNext(t, c, lastDay-1, lastDay-1, api.OK)
	wantNext(t, c, -lastDay, -lastDay+1, api.OK)
	for _, day := range []int{lastDay + 1, -lastDay - 1, math.MaxInt, math.MinInt, math.MaxInt - 59} {
		wantNext(t, c, day, 0, api.ErrArg)
		wantNext(t, api.Calendar{Week: week(".......")}, day, 0, api.ErrArg) // and not ErrDay
	}
}

func TestP2_1Add(t *testing.T) {
	for _, c := range wellFormed() {
		for _, start := range []int{-107, -31, -1, 0, 4, 5, 9, 10, 11, 12, 13, 90} {
			day, failed := start, false
			wantAdd(t, c, start, 0, start, api.OK)
			for n := 1; n <= 60; n++ {
				next := day + 1
				for next <= day+60 && !isWork(c, next) {
					next++
				}
				if failed = failed || next > day+60; failed {
					wantAdd(t, c, start, n, 0, api.ErrDay)
					continue
				}
				day = next
				wantAdd(t, c, start, n, day, api.OK)
			}
		}
	}
}

func TestP2_1AddAfter60Days(t *testing.T) {
	c := mondays()
	wantAdd(t, c, 9, 1, 0, api.ErrDay) // 70 is the 61st day that follows
	wantAdd(t, c, 10, 1, 70, api.OK)   // 70 is the 60th one
	wantAdd(t, c, 10, 2, 77, api.OK)
	wantAdd(t, c, 0, 1, 7, api.OK)
	wantAdd(t, c, 0, 2, 0, api.ErrDay) // it is the second step that fails
	wantAdd(t, c, 0, 200, 0, api.ErrDay)
	wantAdd(t, c, -7*150, 151, 7, api.OK)
	wantAdd(t, c, -7*150, 152, 0, api.ErrDay)
	c = api.Calendar{Week: week(".......")}
	wantAdd(t, c, 3, 0, 3, api.OK)
	wantAdd(t, c, 3, 1, 0, api.ErrDay)
}

func TestP2_1AddOfTheEnds(t *testing.T) {
	c := api.Calendar{Week: week("M......")}
	wantAdd(t, c, lastDay, 0, lastDay, api.OK)
	wantAdd(t, c, lastDay, 1, lastDay+6, api.OK)
	wantAdd(t, c, lastDay, 200, lastDay+6+199*7, api.OK)
	wantAdd(t, c, lastDay-1, 1, lastDay+6, api.OK)
	wantAdd(t, c, -lastDay, 0, -lastDay, api.OK)
	wantAdd(t, c, -lastDay, 1, -lastDay+1, api.OK)
	wantAdd(t, c, -lastDay, 200, -lastDay+1+199*7, api.OK)
	for _, c := range []api.Calendar{c, {Week: week(".......")}} { // ErrArg, and not ErrDay
		for _, n := range []int{-1, 201, math.MinInt, math.MaxInt} {
			wantAdd(t, c, 0, n, 0, api.ErrArg)
		}
		for _, day := range []int{lastDay + 1, -lastDay - 1, math.MaxInt, math.MinInt} {
			for _, n := range []int{0, 1, 200} {
				wantAdd(t, c, day, n, 0, api.ErrArg)
			}
		}
	}
	wantAdd(t, api.Calendar{Week: week("MTWTFSS")}, 1000, 200, 1200, api.OK)
}

func TestP2_1Count(t *testing.T) {
	for _, c := range wellFormed() {
		for _, from := range []int{-100, -8, -1, 0, 1, 4, 7, 13, 62} {
			want := 0
			for to := from + 1; to <= from+120; to++ {
				if isWork(c, to) {
					want++
				}
				wantCount(t, c, from, to, want)
			}
			for _, to := range []int{from, from - 1, from - 7, from - 5000, -lastDay} {
				wantCount(t, c, from, to, 0)
			}
		}
	}
}

func TestP2_1CountOfTheEnds(t *testing.T) {
	c := api.Calendar{Week: week("MTWTFSS")}
	wantCount(t, c, 5, 2005, 2000)
	wantCount(t, c, 5, 2006, -1)
	wantCount(t, c, -2005, -4, -1)
	wantCount(t, c, -2005, -5, 2000)
	wantCount(t, c, -lastDay, lastDay, -1)
	wantCount(t, c, lastDay-2000, lastDay, 2000)
	wantCount(t, c, lastDay-2001, lastDay, -1)
	wantCount(t, c, -lastDay, -lastDay+2000, 2000)
	wantCount(t, c, lastDay, -lastDay, 0)
	wantCount(t, c, lastDay, lastDay, 0)
	wantCount(t, c, -lastDay, -lastDay, 0)
	for _, day := range []int{lastDay + 1, -lastDay - 1, math.MaxInt, math.MinInt} {
		for _, other := range []int{-lastDay, 0, lastDay, day} {
			wantCount(t, c, day, other, -1)
			wantCount(t, c, other, day, -1)
		}
	}
}

func TestP2_2DaysAndTimes(t *testing.T) {
	random := rand.New(rand.NewPCG(2, 2))
	for _, c := range wellFormed() {
		for i := range 2000 {
			day, minute := random.IntN(2*lastDay+1)-lastDay, random.IntN(1440)
			if i < 20 {
				day, minute = []int{-lastDay, -1, 0, 1, lastDay}[i%5], []int{0, 1, 1438, 1439}[i/5]
			}
			wantLocal(t, c, calendar.Time(c, day, minute), day, minute)
			time := random.IntN(2*1439000000+1) - 1439000000
			d, m := calendar.Local(c, time)
			wantTime(t, c, d, m, time)
			wantLocal(t, c, time+1440, d+1, m)
			if m < 1439 {
				wantLocal(t, c, time+1, d, m+1)
			} else {
				wantLocal(t, c, time+1, d+1, 0)
			}
			later := time + 1 + random.IntN(3000)
			if d2, m2 := calendar.Local(c, later); d2 < d || d2 == d && m2 <= m || m < 0 || m > 1439 {
				t.Errorf("the times %d and %d have the days %d, %d, and the minutes %d, %d", time, later, d, d2, m, m2)
			}
		}
	}
}

func TestP2_3TheNextWorkingDay(t *testing.T) {
	for _, c := range wellFormed() {
		last := math.MinInt
		for day := -200; day <= 200; day++ {
			next, errno := calendar.Next(c, day)
			if errno != api.OK {
				continue
			}
			if !calendar.Work(c, next) || next < day || next < last {
				t.Errorf("%v: Next of %d is %d; that of an earlier day is %d", c, day, next, last)
			}
			for d := day; d < next; d++ {
				wantWork(t, c, d, false)
			}
			wantNext(t, c, next, next, api.OK)
			last = next
		}
	}
}

func TestP2_4Adding(t *testing.T) {
	for _, c := range wellFormed() {
		for _, day := range []int{-lastDay, -250, -16, -1, 0, 3, 5, 10, 45, lastDay - 20, lastDay} {
			for a := 0; a <= 200; a += 11 {
				between, errno := calendar.Add(c, day, a)
				if errno != api.OK || between > lastDay {
					continue
				}
				if a > 0 {
					wantWork(t, c, between, true)
				}
				for _, b := range []int{0, 1, 2, 13, 200 - a} {
					want, wantErr := calendar.Add(c, day, min(a+b, 200))
					wantAdd(t, c, between, min(b, 200-a), want, wantErr)
					if b > 0 && a < 200 && wantErr == api.OK && want <= between {
						t.Errorf("%v: Add(%d, %d) is %d, with %d more it is %d", c, day, a, between, b, want)
					}
				}
			}
		}
	}
}

func TestP2_5Counting(t *testing.T) {
	random := rand.New(rand.NewPCG(5, 5))
	for _, c := range wellFormed() {
		for range 200 {
			a := random.IntN(300) - 150
			b := a + random.IntN(300)
			e := b + random.IntN(300)
			first, second, both := calendar.Count(c, a, b), calendar.Count(c, b, e), calendar.Count(c, a, e)
			if first+second != both {
				t.Errorf("%v: Counts from %d to %d to %d are %d and %d, together %d", c, a, b, e, first, second, both)
			}
			days := 0
			for d := a + 1; d <= e; d++ {
				if calendar.Work(c, d) {
					days++
				}
			}
			wantCount(t, c, a, e, days)
			n := random.IntN(201)
			if day, errno := calendar.Add(c, a, n); errno == api.OK && day-a <= 2000 {
				wantCount(t, c, a, day, n)
			}
		}
	}
}

func TestP2_6Weeks(t *testing.T) {
	for pattern := range 128 {
		c := api.Calendar{Zone: 5 * pattern, Week: make([]bool, 7)}
		days := 0
		for weekday := range 7 {
			if c.Week[weekday] = pattern>>weekday&1 == 1; c.Week[weekday] {
				days++
			}
		}
		for _, first := range []int{-lastDay, -30, -3, 0, 18, lastDay - 30} {
			for day := first; day < first+20; day++ {
				wantWork(t, c, day+7, calendar.Work(c, day))
				wantCount(t, c, day, day+7, days)
			}
		}
	}
}

func TestP2_7Holidays(t *testing.T) {
	for _, c := range []api.Calendar{office(), {Week: week("MTWTFSS"), Holidays: every(-30, 2, 39)}, {Week: week(".TW.F.S")}, mondays()} {
		for holiday := -40; holiday <= 60; holiday++ {
			if slices.Contains(c.Holidays, holiday) {
				continue
			}
			more := clone(c)
			more.Holidays = append(more.Holidays, holiday)
			slices.Sort(more.Holidays)
			wantWork(t, more, holiday, false) // also on a weekend
			for day := -60; day <= 80; day++ {
				if day != holiday {
					wantWork(t, more, day, calendar.Work(c, day))
				}
			}
			for from := -60; from <= 60; from += 6 {
				for _, to := range []int{from, from + 1, from + 6, from + 60, from + 1000} {
					want := calendar.Count(c, from, to)
					if from < holiday && holiday <= to && calendar.Work(c, holiday) {
						want--
					}
					wantCount(t, more, from, to, want)
				}
			}
		}
	}
}

func TestP2_8Zones(t *testing.T) {
	for _, c := range wellFormed() {
		zero := clone(c)
		zero.Zone = 0
		for _, zone := range []int{-720, -719, -60, -1, 0, 1, 345, 839, 840} {
			c.Zone = zone
			for _, time := range []int{-1439000000, -5000, -1441, -1440, -721, -1, 0, 1, 599, 600, 719, 720, 1439, 1440, 99999, 1439000000} {
				day, minute := calendar.Local(zero, time+zone)
				wantLocal(t, c, time, day, minute)
			}
			for day := -40; day <= 40; day++ {
				wantWork(t, c, day, calendar.Work(zero, day))
				next, errno := calendar.Next(zero, day)
				wantNext(t, c, day, next, errno)
				sum, errno := calendar.Add(zero, day, 9)
				wantAdd(t, c, day, 9, sum, errno)
				wantCount(t, c, day, day+33, calendar.Count(zero, day, day+33))
			}
		}
	}
}

// TestP1EveryCall checks that no arguments make a function fail, and that an error comes without another result.
func TestP1EveryCall(t *testing.T) {
	numbers := []int{
		math.MinInt, math.MinInt + 1, -lastTime - 1, -lastTime, -lastDay - 1, -lastDay, -721, -1, 0, 1, 7, 60, 200, 201, 1439, 1440,
		2000, 2001, lastDay, lastDay + 1, lastTime, lastTime + 1, math.MaxInt - 1, math.MaxInt,
	}
	calendars := wellFormed()
	for _, c := range malformed() {
		calendars = append(calendars, c)
	}
	for _, c := range calendars {
		before := clone(c)
		valid := calendar.Valid(c)
		for _, a := range numbers {
			if day, minute := calendar.Local(c, a); !valid && (day != 0 || minute != 0) || minute < 0 || minute > 1439 {
				t.Errorf("Local(%v, %d) = %d, %d", c, a, day, minute)
			}
			if calendar.Work(c, a) && !valid {
				t.Errorf("Work(%v, %d)", c, a)
			}
			if day, errno := calendar.Next(c, a); errno != api.OK && day != 0 || (errno == api.ErrArg) != (!valid || a < -lastDay || a > lastDay) {
				t.Errorf("Next(%v, %d) = %d, %d", c, a, day, errno)
			}
			for _, b := range numbers {
				if time := calendar.Time(c, a, b); !valid && time != 0 {
					t.Errorf("Time(%v, %d, %d) = %d", c, a, b, time)
				}
				if day, errno := calendar.Add(c, a, b); errno != api.OK && (day != 0 || errno != api.ErrArg && errno != api.ErrDay) {
					t.Errorf("Add(%v, %d, %d) = %d, %d", c, a, b, day, errno)
				}
				if n := calendar.Count(c, a, b); n < -1 || n > 2000 || !valid && n != -1 {
					t.Errorf("Count(%v, %d, %d) = %d", c, a, b, n)
				}
			}
		}
		if !equal(c, before) {
			t.Errorf("%v was changed to %v", before, c)
		}
	}
}

// TestP3Independence checks that calls do not depend on earlier ones, nor on memory that equal calendars share or do not share.
func TestP3Independence(t *testing.T) {
	for _, c := range wellFormed() {
		other := clone(c)
		other.Week = append(make([]bool, 0, 20), other.Week...)
		other.Holidays = append(make([]int, 0, 60), other.Holidays...)
		for range 2 {
			for day := -30; day <= 30; day++ {
				d, m := calendar.Local(c, 500*day)
				wantLocal(t, other, 500*day, d, m)
				wantTime(t, other, day, 77, calendar.Time(c, day, 77))
				wantWork(t, other, day, calendar.Work(c, day))
				next, errno := calendar.Next(c, day)
				wantNext(t, other, day, next, errno)
				sum, errno := calendar.Add(c, day, 5)
				wantAdd(t, other, day, 5, sum, errno)
				wantCount(t, other, day, day+50, calendar.Count(c, day, day+50))
			}
		}
		// A calendar that is changed after a call does not change what was said, and is read anew.
		before := calendar.Work(other, 100)
		other.Week[100%7] = !other.Week[100%7]
		if calendar.Work(other, 100) == before || calendar.Work(c, 100) != before {
			t.Errorf("%v and %v: Work of the day 100 was %t", c, other, before)
		}
	}
}
