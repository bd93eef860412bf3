package register_test

import (
	"fmt"
	"math"
	"math/rand/v2"
	"reflect"
	"regexp"
	"slices"
	"strings"
	"testing"
	"unsafe"

	"postilion/api"
	"postilion/register"
)

const (
	lastDay   = 1000000
	lastHouse = 9999
	most      = 60 // changes of a register
)

func opened(day int, code, town, name string, low, high int) api.Change {
	return api.Change{Day: day, Kind: api.ChOpen, Code: code, Town: town, Name: name, Low: low, High: high}
}

func renamed(day, street int, name string) api.Change {
	return api.Change{Day: day, Kind: api.ChRename, Street: street, Name: name}
}

func coded(day, street int, code string) api.Change {
	return api.Change{Day: day, Kind: api.ChCode, Street: street, Code: code}
}

func shifted(day, street, by int) api.Change {
	return api.Change{Day: day, Kind: api.ChShift, Street: street, Shift: by}
}

func aliased(day, street int, name string) api.Change {
	return api.Change{Day: day, Kind: api.ChAlias, Street: street, Name: name}
}

func closed(day, street int) api.Change {
	return api.Change{Day: day, Kind: api.ChClose, Street: street}
}

func changes(r ...api.Change) []api.Change { return r }

// with returns a register with further changes.
func with(r []api.Change, more ...api.Change) []api.Change { return slices.Concat(r, more) }

// usual is the register of the chapter's examples.
func usual() []api.Change {
	return changes(opened(0, "1000", "Town", "Main Street", 1, 20), shifted(5, 0, 100), aliased(5, 0, "High St"), renamed(9, 0, "Broad Way"), closed(30, 0))
}

func address(code, street string, number int) api.Address {
	return api.Address{Code: code, Street: street, Number: number}
}

func wantCheck(t *testing.T, r []api.Change, errno api.Errno, at int) {
	t.Helper()
	if e, i := register.Check(r); e != errno || i != at {
		t.Errorf("Check(%+v) = %d, %d, not %d, %d", r, e, i, errno, at)
	}
}

// wantSound checks that a register is sound.
func wantSound(t *testing.T, r ...api.Change) {
	t.Helper()
	wantCheck(t, r, api.OK, -1)
}

// wantLast checks that the last change of a register is the first one with an error.
func wantLast(t *testing.T, errno api.Errno, r ...api.Change) {
	t.Helper()
	wantCheck(t, r, errno, len(r)-1)
}

func sameStreets(a, b []api.Street) bool {
	return slices.EqualFunc(a, b, func(s, t api.Street) bool {
		return slices.Equal(s.Aliases, t.Aliases) && s.Code == t.Code && s.Town == t.Town && s.Name == t.Name &&
			s.Low == t.Low && s.High == t.High && s.Shift == t.Shift && s.Open == t.Open
	})
}

func wantStreets(t *testing.T, r []api.Change, day int, want ...api.Street) {
	t.Helper()
	if got := register.At(r, day); !sameStreets(got, want) {
		t.Errorf("At(%+v, %d) = %+v, not %+v", r, day, got, want)
	}
}

func wantFound(t *testing.T, r []api.Change, day int, a api.Address, want api.Point) {
	t.Helper()
	if got, errno := register.Find(r, day, a); got != want || errno != api.OK {
		t.Errorf("Find(%+v, %d, %+v) = %+v, %d, not %+v", r, day, a, got, errno, want)
	}
}

func wantNotFound(t *testing.T, r []api.Change, day int, a api.Address, errno api.Errno) {
	t.Helper()
	if got, e := register.Find(r, day, a); got != (api.Point{}) || e != errno {
		t.Errorf("Find(%+v, %d, %+v) = %+v, %d, not error %d", r, day, a, got, e, errno)
	}
}

func wantAddress(t *testing.T, r []api.Change, day int, p api.Point, want api.Address) {
	t.Helper()
	if got, errno := register.Name(r, day, p); got != want || errno != api.OK {
		t.Errorf("Name(%+v, %d, %+v) = %+v, %d, not %+v", r, day, p, got, errno, want)
	}
}

func wantNoAddress(t *testing.T, r []api.Change, day int, p api.Point, errno api.Errno) {
	t.Helper()
	if got, e := register.Name(r, day, p); got != (api.Address{}) || e != errno {
		t.Errorf("Name(%+v, %d, %+v) = %+v, %d, not error %d", r, day, p, got, e, errno)
	}
}

// What follows does what the package does, by other ways: with patterns, and with a list of all the names of all houses.

var (
	namePattern = regexp.MustCompile(`^[A-Za-z0-9'-]{1,20}( [A-Za-z0-9'-]{1,20}){0,3}$`)
	codePattern = regexp.MustCompile(`^[A-Z0-9]{1,8}$`)
)

var usedFields = map[int][]string{
	api.ChOpen:   {"Code", "Town", "Name", "Low", "High"},
	api.ChRename: {"Street", "Name"},
	api.ChCode:   {"Street", "Code"},
	api.ChShift:  {"Street", "Shift"},
	api.ChAlias:  {"Street", "Name"},
	api.ChClose:  {"Street"},
}

// lower returns a text with small letters for the 26 capital ones.
func lower(text string) string {
	b := []byte(text)
	for i, c := range b {
		if c >= 'A' && c <= 'Z' {
			b[i] = c ^ 0x20
		}
	}
	return string(b)
}

// upper returns a text with capital letters for the 26 small ones.
func upper(text string) string {
	b := []byte(text)
	for i, c := range b {
		if c >= 'a' && c <= 'z' {
			b[i] = c ^ 0x20
		}
	}
	return string(b)
}

func namesOf(s api.Street) []string { return append(slices.Clone(s.Aliases), s.Name) }

func isCalled(s api.Street, name string) bool {
	return slices.ContainsFunc(namesOf(s), func(own string) bool { return lower(own) == lower(name) })
}

// isWellFormed reports whether the fields of a change are those of its kind, as far as one change shows it.
func isWellFormed(c api.Change) bool {
	used, isKind := usedFields[c.Kind]
	if !isKind || c.Day > lastDay || c.Day < -lastDay {
		return false
	}
	v := reflect.ValueOf(c)
	for i := range v.NumField() {
		name := v.Type().Field(i).Name
		if name == "Day" || name == "Kind" {
			continue
		}
		if !slices.Contains(used, name) {
			if !v.Field(i).IsZero() {
				return false
			}
			continue
		}
		good := true
		switch name {
		case "Code":
			good = codePattern.MatchString(c.Code)
		case "Town", "Name":
			good = namePattern.MatchString(v.Field(i).String())
		case "Low", "High":
			good = c.Low > 0 && c.Low <= c.High && c.High < 10000
		}
		if !good {
			return false
		}
	}
	return true
}

// changed returns streets after a change without an error.
func changed(streets []api.Street, c api.Change) []api.Street {
	l := slices.Clone(streets)
	if c.Kind == api.ChOpen {
		return append(l, api.Street{Code: c.Code, Town: c.Town, Name: c.Name, Low: c.Low, High: c.High, Open: true})
	}
	s := l[c.Street]
	switch c.Kind {
	case api.ChRename:
		s.Name = c.Name
	case api.ChCode:
		s.Code = c.Code
	case api.ChShift:
		s.Low, s.High, s.Shift = s.Low+c.Shift, s.High+c.Shift, s.Shift+c.Shift
	case api.ChAlias:
		s.Aliases = append(slices.Clone(s.Aliases), c.Name)
	case api.ChClose:
		s.Open = false
	}
	l[c.Street] = s
	return l
}

// house is what is written of a house in an address, in small letters.
type house struct {
	code, name string
	number     int
}

// houses returns the points of open streets by all that is written of them. It reports whether each of these is written of one street alone.
func houses(streets []api.Street) (map[house]api.Point, bool) {
	l, alone := map[house]api.Point{}, true
	for i, s := range streets {
		if !s.Open {
			continue
		}
		for _, name := range namesOf(s) {
			for n := s.Low; n <= s.High; n++ {
				h := house{s.Code, lower(name), n}
				if p, isThere := l[h]; isThere && p.Street != i {
					alone = false
				}
				l[h] = api.Point{Street: i, Number: n - s.Shift}
			}
		}
	}
	return l, alone
}

// errorOf returns the error of a change after those before it, which have made streets.
func errorOf(r []api.Change, i int, streets []api.Street) api.Errno {
	c := r[i]
	switch {
	case i >= most:
		return api.ErrLimit
	case i > 0 && r[i-1].Day > c.Day:
		return api.ErrDate
	case !isWellFormed(c):
		return api.ErrArg
	}
	if c.Kind != api.ChOpen {
		if c.Street < 0 || c.Street >= len(streets) || !streets[c.Street].Open {
			return api.ErrNone
		}
		s := streets[c.Street]
		if c.Kind == api.ChShift && (c.Shift <= -s.Low || c.Shift > lastHouse-s.High) {
			return api.ErrArg
		}
		if c.Kind == api.ChAlias && isCalled(s, c.Name) {
			return api.ErrTwice
		}
	}
	if _, alone := houses(changed(streets, c)); !alone {
		return api.ErrClash
	}
	return api.OK
}

func check(r []api.Change) (api.Errno, int) {
	var streets []api.Street
	for i, c := range r {
		if errno := errorOf(r, i, streets); errno != api.OK {
			return errno, i
		}
		streets = changed(streets, c)
	}
	return api.OK, -1
}

// streetsAt returns the streets of a sound register.
func streetsAt(r []api.Change, day int) []api.Street {
	var streets []api.Street
	for _, c := range r {
		if c.Day <= day {
			streets = changed(streets, c)
		}
	}
	return streets
}

// pointsAt returns the points of streets, and their addresses.
func pointsAt(streets []api.Street) map[api.Point]api.Address {
	l := map[api.Point]api.Address{}
	for i, s := range streets {
		for n := s.Low; s.Open && n <= s.High; n++ {
			l[api.Point{Street: i, Number: n - s.Shift}] = api.Address{Street: s.Name, Number: n, Code: s.Code, Town: s.Town}
		}
	}
	return l
}

func source(n uint64) *rand.Rand { return rand.New(rand.NewPCG(5, n)) }

func pick[T any](r *rand.Rand, l ...T) T { return l[r.IntN(len(l))] }

func randomCase(r *rand.Rand, text string) string {
	b := []byte(text)
	for i := range b {
		b[i] = pick(r, upper, lower)(string(b[i]))[0]
	}
	return string(b)
}

func randomName(r *rand.Rand) string {
	name := pick(r, "Main", "Long Lane", "O'Hara St", "a-b", "7", "The Old High Road", strings.Repeat("x", 20))
	return pick(r, name, name, randomCase(r, name))
}

// randomChange returns a change that is well-formed, and often has no error.
func randomChange(r *rand.Rand, day, streets int) api.Change {
	street := r.IntN(max(streets, 1))
	switch r.IntN(12) {
	case 0, 1, 2:
		low := pick(r, 1+r.IntN(40), 1+r.IntN(9000), 9990)
		return opened(day, pick(r, "1000", "1000", "2A"), pick(r, "Town", "Old Ton"), randomName(r), low, min(low+r.IntN(30), lastHouse))
	case 3, 4:
		return renamed(day, street, randomName(r))
	case 5, 6:
		return coded(day, street, pick(r, "1000", "2A", "Z"))
	case 7, 8:
		return shifted(day, street, pick(r, r.IntN(60)-30, r.IntN(60)-30, 100, -1000))
	case 9, 10:
		return aliased(day, street, randomName(r))
	default:
		return closed(day, street)
	}
}

// spoilt returns a change with a field that is likely to be wrong.
func spoilt(r *rand.Rand, c api.Change) api.Change {
	number := pick(r, -1, 0, 1, 6, 7, 59, 9999, 10000, lastDay+1, -lastDay-1, math.MinInt, math.MaxInt)
	text := pick(r, "", " ", "a", "A B", "A  B", "a b c d e", "1000", "1000a", "123456789", "é", "St.", strings.Repeat("x", 21))
	v := reflect.ValueOf(&c).Elem()
	if f := v.Field(r.IntN(v.NumField())); f.Kind() == reflect.Int {
		f.SetInt(int64(number))
	} else {
		f.SetString(text)
	}
	return c
}

// randomRegister returns a register with one change or more, up to n; if it is not to be sound, some of them may have errors.
func randomRegister(r *rand.Rand, n int, sound bool) []api.Change {
	day := pick(r, 0, -3, -lastDay)
	l := changes(opened(day, "1000", "Town", randomName(r), 1, 9+r.IntN(20)))
	streets := changed(nil, l[0])
	for range 4 * n {
		if len(l) >= n {
			break
		}
		day += pick(r, 0, 0, 1, 2)
		c := randomChange(r, day, len(streets))
		if !sound && r.IntN(30) == 0 {
			c = spoilt(r, c)
		}
		if !sound && r.IntN(60) == 0 {
			c.Day = l[len(l)-1].Day - 1 - r.IntN(3)
		}
		next := append(l, c)
		errno := errorOf(next, len(l), streets)
		if errno == api.OK {
			streets = changed(streets, c)
		}
		if errno == api.OK || !sound && r.IntN(5) == 0 {
			l = next
		}
	}
	return l
}

// someDays returns the days of a register, those beside them, and some far ones.
func someDays(r []api.Change) []int {
	l := []int{math.MinInt, -lastDay - 1, -lastDay, 0, lastDay, lastDay + 1, math.MaxInt}
	for _, c := range r {
		l = append(l, c.Day-1, c.Day, c.Day+1)
	}
	slices.Sort(l)
	return slices.Compact(l)
}

// wantSame checks that the functions do what is done here.
func wantSame(t *testing.T, random *rand.Rand, r []api.Change) {
	t.Helper()
	errno, at := check(r)
	wantCheck(t, r, errno, at)
	for _, day := range someDays(r) {
		var streets []api.Street
		if errno == api.OK {
			streets = streetsAt(r, day)
		}
		wantStreets(t, r, day, streets...)
	}
	if errno != api.OK {
		for range 5 {
			day := pick(random, someDays(r)...)
			wantNotFound(t, r, day, address("1000", "Main", random.IntN(40)), api.ErrArg)
			wantNoAddress(t, r, day, api.Point{Street: random.IntN(3), Number: random.IntN(40)}, api.ErrArg)
		}
		return
	}
	for range 4 {
		day := pick(random, someDays(r)...)
		written, _ := houses(streetsAt(r, day))
		points := pointsAt(streetsAt(r, day))
		for range 12 {
			a := api.Address{Person: pick(random, "", "Ada"), Street: randomName(random), Number: pick(random, random.IntN(60), random.IntN(10001)), Code: pick(random, "1000", "2A", "Z"), Town: pick(random, "", "x")}
			if p, isThere := written[house{a.Code, lower(a.Street), a.Number}]; isThere {
				wantFound(t, r, day, a, p)
			} else {
				wantNotFound(t, r, day, a, api.ErrNone)
			}
			p := api.Point{Street: random.IntN(8) - 1, Number: pick(random, random.IntN(60), random.IntN(10001))}
			if a, isThere := points[p]; isThere {
				wantAddress(t, r, day, p, a)
			} else {
				wantNoAddress(t, r, day, p, api.ErrNone)
			}
		}
	}
}

func TestP5_1Examples(t *testing.T) {
	r := usual()
	wantSound(t, r...)
	wantFound(t, r, 0, address("1000", "main street", 7), api.Point{Number: 7})
	wantFound(t, r, 5, address("1000", "Main Street", 107), api.Point{Number: 7})
	wantNotFound(t, r, 5, address("1000", "Main Street", 7), api.ErrNone)
	wantAddress(t, r, 9, api.Point{Number: 7}, api.Address{Street: "Broad Way", Number: 107, Code: "1000", Town: "Town"})
	wantFound(t, r, 9, address("1000", "HIGH ST", 107), api.Point{Number: 7})
	wantNoAddress(t, r, 30, api.Point{Number: 7}, api.ErrNone)
	wantCheck(t, with(r[:4], opened(10, "1000", "Town", "high st", 120, 130)), api.ErrClash, 4)
	wantSound(t, with(r[:4], opened(10, "1000", "Town", "high st", 121, 130))...)
	wantSound(t, with(r[:4], opened(10, "1000", "Town", "main street", 120, 130))...)
}

func TestP5_1NumbersOfChanges(t *testing.T) {
	wantSound(t)
	wantStreets(t, nil, 0)
	wantNotFound(t, nil, 0, address("1000", "Main", 1), api.ErrNone)
	wantNoAddress(t, nil, 0, api.Point{}, api.ErrNone)
	var r []api.Change
	for i := range 200 {
		r = append(r, opened(i/2, "1000", "Town", fmt.Sprint("Street ", i), 1, 9))
		if len(r) <= 60 {
			wantSound(t, r...)
			continue
		}
		wantCheck(t, r, api.ErrLimit, 60)
		wantStreets(t, r, 0)
		wantNotFound(t, r, 0, address("1000", "Street 0", 1), api.ErrArg)
		wantNoAddress(t, r, 0, api.Point{Number: 1}, api.ErrArg)
	}
	wantCheck(t, slices.Repeat(r, 1000), api.ErrLimit, 60)
	wantCheck(t, with(r[:60], api.Change{}), api.ErrLimit, 60)
	r[59].Name = ""
	wantCheck(t, r, api.ErrArg, 59)
	r[0].Day = 1
	wantCheck(t, r, api.ErrDate, 1)
}

// TestP5_1FirstChange checks that the first change with an error counts, whatever errors come later.
func TestP5_1FirstChange(t *testing.T) {
	wrong := []struct {
		change api.Change
		errno  api.Errno
	}{
		{closed(-1, 0), api.ErrDate}, {api.Change{}, api.ErrArg}, {closed(0, 1), api.ErrNone}, {shifted(0, 0, -1), api.ErrArg},
		{aliased(0, 0, "a"), api.ErrTwice}, {opened(0, "1", "T", "A", 5, 5), api.ErrClash},
	}
	first := opened(0, "1", "T", "A", 1, 9)
	for _, a := range wrong {
		for _, b := range wrong {
			wantCheck(t, changes(first, a.change, b.change), a.errno, 1)
			wantCheck(t, changes(first, renamed(0, 0, "a"), a.change, b.change, first), a.errno, 2)
		}
	}
}

// TestP5_1OrderOfErrors checks each error against each later one of the list that a change can have with it.
func TestP5_1OrderOfErrors(t *testing.T) {
	// The street 0 clashes with another one if it is also called C, has the code 2, or is shifted by 1; the street 4 is closed.
	base := changes(
		opened(4, "1", "T", "A", 1, 9), aliased(4, 0, "B"),
		opened(4, "1", "T", "A", 10, 19), aliased(4, 1, "C"),
		opened(4, "1", "T", "C", 1, 9), opened(4, "2", "T", "A", 1, 9),
		opened(4, "3", "T", "D", 1, 9), closed(4, 4),
	)
	full := with(base, slices.Repeat(changes(shifted(4, 1, 0)), most-len(base))...)
	wantSound(t, full...)
	limit := func(c api.Change) { wantLast(t, api.ErrLimit, with(full, c)...) }
	early := func(c api.Change) api.Change { c.Day = 3; return c }
	late := func(c api.Change) api.Change { c.Day = lastDay + 1; return c }
	for _, x := range []struct {
		change api.Change
		errno  api.Errno
	}{
		{api.Change{Day: 4, Kind: 7}, api.ErrArg},
		// With a clash.
		{opened(4, "1", "", "A", 1, 9), api.ErrArg},
		{opened(4, "1", "T", "A", 9, 1), api.ErrArg},
		{opened(4, "1", "T", "A", 0, 9), api.ErrArg},
		{opened(4, "1", "T", "A", 1, 10000), api.ErrArg},
		{api.Change{Day: 4, Kind: api.ChOpen, Street: 9, Code: "1", Town: "T", Name: "A", Low: 1, High: 9}, api.ErrArg},
		{api.Change{Day: 4, Kind: api.ChRename, Street: 0, Name: "C", Code: "1"}, api.ErrArg},
		{api.Change{Day: 4, Kind: api.ChCode, Street: 0, Name: "C", Code: "2"}, api.ErrArg},
		{api.Change{Day: 4, Kind: api.ChShift, Street: 0, Name: "C", Shift: 1}, api.ErrArg},
		{api.Change{Day: 4, Kind: api.ChAlias, Street: 0, Name: "C", Town: "T"}, api.ErrArg},
		{shifted(4, 1, -10), api.ErrArg},
		// With a name twice.
		{api.Change{Day: 4, Kind: api.ChAlias, Street: 0, Name: "A", Code: "1"}, api.ErrArg},
		{aliased(4, 4, "D"), api.ErrNone},
		// With no street, or a closed one.
		{renamed(4, 9, ""), api.ErrArg},
		{coded(4, 4, ""), api.ErrArg},
		{aliased(4, 9, ""), api.ErrArg},
		{api.Change{Day: 4, Kind: api.ChShift, Street: 4, Low: 1}, api.ErrArg},
		{api.Change{Day: 4, Kind: api.ChClose, Street: 9, Shift: 1}, api.ErrArg},
		// With numbers out of range.
		{shifted(4, 4, 10000), api.ErrNone},
		{shifted(4, 9, -1), api.ErrNone},
		// Alone.
		{closed(4, 4), api.ErrNone}, {closed(4, -1), api.ErrNone}, {renamed(4, 4, "A"), api.ErrNone}, {coded(4, 4, "1"), api.ErrNone}, {aliased(4, 9, "D"), api.ErrNone},
		{shifted(4, 0, 9991), api.ErrArg}, {shifted(4, 0, -1), api.ErrArg},
		{aliased(4, 0, "a"), api.ErrTwice}, {aliased(4, 0, "b"), api.ErrTwice}, {aliased(4, 1, "c"), api.ErrTwice},
		{renamed(4, 0, "c"), api.ErrClash}, {coded(4, 0, "2"), api.ErrClash}, {shifted(4, 0, 1), api.ErrClash}, {aliased(4, 0, "c"), api.ErrClash},
		{opened(4, "1", "T", "b", 9, 10), api.ErrClash},
	} {
		wantLast(t, x.errno, with(base, x.change)...)
		wantLast(t, api.ErrDate, with(base, early(x.change))...)
		if x.errno != api.ErrArg {
			wantLast(t, api.ErrArg, with(base, late(x.change))...)
		}
		limit(x.change)
		limit(early(x.change))
		limit(late(x.change))
	}
	tooEarly := closed(-lastDay-1, 9)
	wantLast(t, api.ErrArg, tooEarly)
	wantLast(t, api.ErrDate, with(base, tooEarly)...)
}

// oneOfEach returns a change of each kind that has no error after the first one of them has been made.
func oneOfEach() []api.Change {
	return changes(opened(3, "1000", "Town", "Main", 5, 9), renamed(3, 0, "Long"), coded(3, 0, "2A"), shifted(3, 0, 4), aliased(3, 0, "High"), closed(3, 0))
}

func TestP5_1FieldsThatAKindDoesNotUse(t *testing.T) {
	base := changes(opened(3, "9", "Town", "Old", 1, 99))
	for _, c := range oneOfEach() {
		wantSound(t, with(base, c)...)
		v := reflect.ValueOf(&c).Elem()
		for i := range v.NumField() {
			name := v.Type().Field(i).Name
			if name == "Day" || name == "Kind" {
				continue
			}
			isUsed := slices.Contains(usedFields[c.Kind], name)
			before := v.Field(i).Interface()
			for _, number := range []int{1, -1, 7, math.MaxInt, math.MinInt} {
				if v.Field(i).Kind() == reflect.Int && !isUsed {
					v.Field(i).SetInt(int64(number))
					wantLast(t, api.ErrArg, with(base, c)...)
				}
			}
			for _, text := range []string{"A", "1", "x y", " ", "\x00"} {
				if v.Field(i).Kind() == reflect.String && !isUsed {
					v.Field(i).SetString(text)
					wantLast(t, api.ErrArg, with(base, c)...)
				}
			}
			if name != "Street" && name != "Shift" && isUsed { // these two may be zero
				v.Field(i).SetZero()
				wantLast(t, api.ErrArg, with(base, c)...)
			}
			v.Field(i).Set(reflect.ValueOf(before))
		}
		wantSound(t, with(base, c)...)
	}
}

func TestP5_1Kinds(t *testing.T) {
	base := changes(opened(3, "9", "Town", "Old", 1, 9))
	for _, kind := range []int{0, -1, 7, 8, 100, math.MaxInt, math.MinInt, 1 << 32, 1<<32 + 1} {
		wantLast(t, api.ErrArg, api.Change{Kind: kind})
		wantLast(t, api.ErrArg, with(base, api.Change{Day: 3, Kind: kind})...)
		for _, c := range oneOfEach() {
			c.Kind = kind
			wantLast(t, api.ErrArg, with(base, c)...)
		}
	}
	// A change that is of another kind than its fields has an error, unless this kind uses the same ones.
	for i, c := range oneOfEach() {
		for j, other := range oneOfEach() {
			c.Kind = other.Kind
			if i == j || i == 1 && j == 4 || i == 4 && j == 1 {
				wantSound(t, with(base, c)...)
			} else if i == 5 && j == 3 { // a shift by 0
				wantSound(t, with(base, c)...)
			} else {
				wantLast(t, api.ErrArg, with(base, c)...)
			}
		}
	}
}

func TestP5_1Days(t *testing.T) {
	for _, day := range []int{-lastDay, -lastDay + 1, -1, 0, 1, lastDay - 1, lastDay} {
		r := changes(opened(day, "1", "T", "A", 1, 9))
		open := api.Street{Code: "1", Town: "T", Name: "A", Low: 1, High: 9, Open: true}
		wantSound(t, r...)
		wantStreets(t, r, day-1)
		wantStreets(t, r, math.MinInt)
		wantStreets(t, r, -lastDay-1)
		wantStreets(t, r, day, open)
		wantStreets(t, r, day+1, open)
		wantStreets(t, r, lastDay+1, open)
		wantStreets(t, r, math.MaxInt, open)
		wantFound(t, r, day, address("1", "A", 9), api.Point{Number: 9})
		wantFound(t, r, math.MaxInt, address("1", "A", 9), api.Point{Number: 9})
		wantNotFound(t, r, day-1, address("1", "A", 9), api.ErrNone)
		wantNotFound(t, r, math.MinInt, address("1", "A", 9), api.ErrNone)
		wantAddress(t, r, math.MaxInt, api.Point{Number: 9}, api.Address{Street: "A", Number: 9, Code: "1", Town: "T"})
		wantNoAddress(t, r, day-1, api.Point{Number: 9}, api.ErrNone)
		wantNoAddress(t, r, math.MinInt, api.Point{Number: 9}, api.ErrNone)
	}
	for _, day := range []int{-lastDay - 1, lastDay + 1, math.MinInt, math.MaxInt, -lastDay * 2} {
		wantLast(t, api.ErrArg, opened(day, "1", "T", "A", 1, 9))
	}
	r := changes(opened(lastDay, "1", "T", "A", 1, 9))
	wantLast(t, api.ErrArg, with(r, closed(lastDay+1, 0))...)
	wantLast(t, api.ErrArg, with(r, closed(math.MaxInt, 0))...)
	wantLast(t, api.ErrDate, with(r, closed(lastDay-1, 0))...)
	wantLast(t, api.ErrDate, with(r, closed(math.MinInt, 0))...)
	wantSound(t, with(r, closed(lastDay, 0))...)
	wantSound(t, opened(-lastDay, "1", "T", "A", 1, 9), closed(lastDay, 0))
}

func TestP5_1ChangesOfOneDay(t *testing.T) {
	r := changes(opened(2, "1", "T", "A", 1, 9), renamed(2, 0, "B"), renamed(2, 0, "C"), opened(2, "1", "T", "A", 1, 9), closed(3, 1), renamed(3, 0, "A"))
	first := api.Street{Code: "1", Town: "T", Name: "C", Low: 1, High: 9, Open: true}
	second := api.Street{Code: "1", Town: "T", Name: "A", Low: 1, High: 9, Open: true}
	wantSound(t, r...)
	wantStreets(t, r, 1)
	wantStreets(t, r, 2, first, second)
	wantFound(t, r, 2, address("1", "a", 4), api.Point{Street: 1, Number: 4})
	first.Name, second.Open = "A", false
	wantStreets(t, r, 3, first, second)
	wantFound(t, r, 3, address("1", "a", 4), api.Point{Number: 4})
	// The changes of a day are made in their order, and not otherwise.
	wantLast(t, api.ErrClash, r[0], r[1], r[2], r[3], r[5])
	wantLast(t, api.ErrClash, r[0], r[3])
	wantLast(t, api.ErrNone, r[1])
	wantLast(t, api.ErrDate, with(r, closed(2, 0))...)
	wantLast(t, api.ErrDate, with(r, closed(math.MinInt, 0))...)
	wantLast(t, api.ErrDate, opened(2, "1", "T", "A", 1, 9), closed(1, 0))
	wantLast(t, api.ErrDate, opened(0, "1", "T", "A", 1, 9), closed(-1, 0))
}

func TestP5_1Names(t *testing.T) {
	texts := []string{
		"A", "a", "0", "-", "'", "A B", "A B C", "A B C D", "A B C D E", "A B C D ", " A B C D", "a b c d  e", "A  B", " ", "", "  ", " A", "A ", "A\tB", "A\n", "\nA", "A\nB", "A\u00a0B",
		strings.Repeat("x", 20), strings.Repeat("x", 21), "a " + strings.Repeat("Z", 20), "a " + strings.Repeat("Z", 21), strings.Repeat("9", 21) + " a",
		strings.TrimSpace(strings.Repeat(strings.Repeat("-", 20)+" ", 4)), strings.TrimSpace(strings.Repeat(strings.Repeat("-", 20)+" ", 5)), "O'Hara-Street 12 x", "St.", "a,b", "a_b", "é", "ß", "ſt", "\u212a", "１", "a/b", "\xff", "a\xffb",
		strings.Repeat("a ", 10000), strings.Repeat(" ", 10000), strings.Repeat("a", 10000),
	}
	for b := range 256 {
		c := string([]byte{byte(b)})
		texts = append(texts, c, c+"a", "a"+c, "a"+c+"b", "a b"+c+"c", "a b c d"+c, strings.Repeat("x", 19)+c)
	}
	base := changes(opened(0, "1", "T", "Q-Q", 1, 9))
	for _, text := range texts {
		for _, r := range [][]api.Change{
			{opened(0, "1", "T", text, 1, 9)}, {opened(0, "1", text, "A", 1, 9)}, with(base, renamed(0, 0, text)), with(base, aliased(0, 0, text)),
		} {
			if namePattern.MatchString(text) {
				wantSound(t, r...)
			} else {
				wantLast(t, api.ErrArg, r...)
			}
		}
	}
}

func TestP5_1Codes(t *testing.T) {
	texts := []string{"", "1", "A", "Z9", "12345678", "ABCDEFGH", "A1B2C3D4", "123456789", "ABCDEFGHI", "a", "1a", "A1b", "1000 ", " 1000", "10 00", "1-0", "1'0", "1.", "é", "Ä", "１", "\xff", "1000\n", strings.Repeat("A", 10000)}
	for b := range 256 {
		c := string([]byte{byte(b)})
		texts = append(texts, c, c+"1", "A"+c, "A"+c+"1", "1234567"+c, "12345678"+c)
	}
	base := changes(opened(0, "1", "T", "A", 1, 9))
	for _, text := range texts {
		if codePattern.MatchString(text) {
			wantSound(t, opened(0, text, "T", "A", 1, 9))
			wantSound(t, with(base, coded(0, 0, text))...)
			wantFound(t, with(base, coded(0, 0, text)), 0, address(text, "A", 2), api.Point{Number: 2})
			continue
		}
		wantLast(t, api.ErrArg, opened(0, text, "T", "A", 1, 9))
		wantLast(t, api.ErrArg, with(base, coded(0, 0, text))...)
	}
}

func TestP5_1HouseNumbers(t *testing.T) {
	numbers := []int{math.MinInt, -10000, -9999, -1, 0, 1, 2, 5000, 9998, 9999, 10000, 10001, math.MaxInt}
	for _, low := range numbers {
		for _, high := range numbers {
			if low >= 1 && low <= high && high <= 9999 {
				wantSound(t, opened(0, "1", "T", "A", low, high))
			} else {
				wantLast(t, api.ErrArg, opened(0, "1", "T", "A", low, high))
			}
		}
	}
}

func TestP5_1Shifts(t *testing.T) {
	r := changes(opened(0, "1", "T", "A", 10, 20))
	for by, isGood := range map[int]bool{
		0: true, 1: true, -9: true, -10: false, -20: false, -21: false, 9979: true, 9980: false, 9989: false, 9990: false, 10000: false, -10000: false,
		math.MaxInt: false, math.MinInt: false, math.MaxInt - 15: false, math.MinInt + 15: false, 1 << 32: false, -1 << 32: false,
	} {
		if !isGood {
			wantLast(t, api.ErrArg, with(r, shifted(0, 0, by))...)
			continue
		}
		wantSound(t, with(r, shifted(0, 0, by))...)
		wantStreets(t, with(r, shifted(0, 0, by)), 0, api.Street{Code: "1", Town: "T", Name: "A", Low: 10 + by, High: 20 + by, Shift: by, Open: true})
	}
	// It is the numbers after the shifts before that count.
	r = with(r, shifted(0, 0, 9979), shifted(1, 0, -9988), shifted(2, 0, 5))
	wantStreets(t, r, 0, api.Street{Code: "1", Town: "T", Name: "A", Low: 9989, High: 9999, Shift: 9979, Open: true})
	wantStreets(t, r, 1, api.Street{Code: "1", Town: "T", Name: "A", Low: 1, High: 11, Shift: -9, Open: true})
	wantStreets(t, r, 2, api.Street{Code: "1", Town: "T", Name: "A", Low: 6, High: 16, Shift: -4, Open: true})
	wantLast(t, api.ErrArg, with(r, shifted(2, 0, -6))...)
	wantSound(t, with(r, shifted(2, 0, -5))...)
	wantSound(t, with(r, shifted(2, 0, 9983))...)
	wantLast(t, api.ErrArg, with(r, shifted(2, 0, 9984))...)
	wantLast(t, api.ErrArg, opened(0, "1", "T", "A", 1, 9999), shifted(0, 0, 1))
	wantLast(t, api.ErrArg, opened(0, "1", "T", "A", 1, 9999), shifted(0, 0, -1))
	wantSound(t, opened(0, "1", "T", "A", 1, 9999), shifted(0, 0, 0))
}

func TestP5_1StreetsThatAreNotThere(t *testing.T) {
	base := changes(opened(0, "1", "T", "A", 1, 9), opened(0, "1", "T", "B", 1, 9), closed(0, 1))
	for _, street := range []int{math.MinInt, -2, -1, 0, 1, 2, 3, 60, 1 << 32, math.MaxInt} {
		for i, c := range oneOfEach() {
			if i == 0 {
				continue
			}
			c.Day, c.Street = 0, street
			wantLast(t, api.ErrNone, c)
			if street == 0 {
				wantSound(t, with(base, c)...)
			} else {
				wantLast(t, api.ErrNone, with(base, c)...)
			}
		}
	}
	wantSound(t, with(base, opened(0, "1", "T", "B", 1, 9), closed(0, 2))...) // the closed street keeps its number
}

func TestP5_1Aliases(t *testing.T) {
	base := changes(opened(0, "1", "T", "Main Street", 1, 9), aliased(0, 0, "High St"), aliased(0, 0, "Old Way"))
	for _, name := range []string{"Main Street", "main street", "MAIN STREET", "mAIN sTREET", "High St", "HIGH ST", "high st", "Old Way", "OLD WAY"} {
		wantLast(t, api.ErrTwice, with(base, aliased(0, 0, name))...)
	}
	for _, name := range []string{"Main", "Street", "Main Streets", "MainStreet", "Main-Street", "Main St", "High St 1", "0"} {
		wantSound(t, with(base, aliased(0, 0, name))...)
	}
	wantStreets(t, base, 0, api.Street{Code: "1", Town: "T", Name: "Main Street", Aliases: []string{"High St", "Old Way"}, Low: 1, High: 9, Open: true})
	// A new name may be one that the street has; the name that it had can become an alias then.
	r := with(base, renamed(1, 0, "high st"), renamed(1, 0, "HIGH ST"), aliased(1, 0, "main street"))
	wantSound(t, r...)
	wantStreets(t, r, 1, api.Street{Code: "1", Town: "T", Name: "HIGH ST", Aliases: []string{"High St", "Old Way", "main street"}, Low: 1, High: 9, Open: true})
	wantLast(t, api.ErrTwice, with(r, aliased(1, 0, "High St"))...)
	wantLast(t, api.ErrTwice, with(r, renamed(1, 0, "x"), aliased(1, 0, "high st"))...)
	wantLast(t, api.ErrTwice, with(r, aliased(1, 0, "Main Street"))...)
	// Another street may have the same alias, as far as it does not clash.
	wantSound(t, with(base, opened(0, "1", "T", "B", 10, 19), aliased(0, 1, "High St"), aliased(0, 1, "Main Street"))...)
	// 59 aliases of one street.
	r = base[:1]
	for i := range most - 1 {
		r = with(r, aliased(0, 0, fmt.Sprint("x", i)))
	}
	wantSound(t, r...)
	wantFound(t, r, 0, address("1", "X58", 3), api.Point{Number: 3})
}

func TestP5_1Clashes(t *testing.T) {
	// Each of the changes leads from a street that does not clash to one that does.
	first := changes(opened(0, "1", "T", "Main Street", 10, 20), aliased(0, 0, "High St"))
	for _, r := range [][]api.Change{
		{opened(0, "1", "T", "Main Street", 10, 20)}, {opened(0, "1", "T", "main street", 20, 30)}, {opened(0, "1", "T", "MAIN STREET", 1, 10)}, {opened(0, "1", "T", "Main Street", 15, 15)}, {opened(0, "1", "T", "Main Street", 1, 9999)},
		{opened(0, "1", "Other Town", "Main Street", 20, 20)}, {opened(0, "1", "T", "high ST", 10, 10)},
		{opened(0, "1", "T", "B", 10, 20), renamed(0, 1, "main Street")}, {opened(0, "1", "T", "B", 10, 20), renamed(0, 0, "b")}, {opened(0, "1", "T", "B", 10, 20), renamed(0, 1, "high st")},
		{opened(0, "1", "T", "B", 10, 20), aliased(0, 1, "C"), renamed(0, 0, "c")},
		{opened(0, "2", "T", "Main Street", 10, 20), coded(0, 1, "1")}, {opened(0, "2", "T", "Main Street", 10, 20), coded(0, 0, "2")}, {opened(0, "2", "T", "High St", 20, 20), coded(0, 1, "1")},
		{opened(0, "1", "T", "Main Street", 21, 30), shifted(0, 1, -1)}, {opened(0, "1", "T", "Main Street", 21, 30), shifted(0, 0, 1)}, {opened(0, "1", "T", "Main Street", 1, 9), shifted(0, 1, 1)},
		{opened(0, "1", "T", "Main Street", 1, 9), shifted(0, 0, -1)}, {opened(0, "1", "T", "High St", 1, 1), shifted(0, 1, 12)},
		{opened(0, "1", "T", "B", 10, 20), aliased(0, 1, "main street")}, {opened(0, "1", "T", "B", 10, 20), aliased(0, 0, "b")}, {opened(0, "1", "T", "B", 20, 20), aliased(0, 1, "HIGH ST")},
		{opened(0, "1", "T", "B", 20, 20), aliased(0, 1, "C"), aliased(0, 0, "c")},
		// Not only with the street before or after it.
		{opened(0, "1", "T", "B", 1, 9), opened(0, "1", "T", "C", 1, 9), opened(0, "1", "T", "high st", 1, 10)}, {opened(0, "1", "T", "B", 1, 9), opened(0, "1", "T", "C", 1, 9), renamed(0, 1, "c")},
	} {
		wantSound(t, with(first, r[:len(r)-1]...)...)
		wantLast(t, api.ErrClash, with(first, r...)...)
	}
}

func TestP5_1NoClashes(t *testing.T) {
	first := changes(opened(0, "1", "T", "Main Street", 10, 20), aliased(0, 0, "High St"))
	second := opened(3, "1", "T", "main street", 1, 30)
	alias := opened(3, "1", "T", "high st", 20, 20)
	wantLast(t, api.ErrClash, with(first, second)...)
	wantLast(t, api.ErrClash, with(first, alias)...)
	for _, r := range [][]api.Change{
		{opened(0, "1", "T", "Main Street", 21, 30), opened(0, "1", "T", "Main Street", 1, 9)}, {opened(0, "2", "T", "Main Street", 10, 20)}, {opened(0, "1", "T", "Main", 10, 20)}, {opened(0, "10", "T", "High St", 10, 20)},
		// A street that is closed, has moved away, has another code or another name.
		{closed(3, 0), second, alias}, {closed(2, 0), second}, {coded(3, 0, "2"), second, alias}, {shifted(3, 0, 21), second}, {shifted(3, 0, 1), opened(3, "1", "T", "Main Street", 1, 10)}, {shifted(3, 0, -1), opened(3, "1", "T", "High St", 20, 20)},
		{renamed(3, 0, "B"), second}, {closed(3, 0), second, closed(3, 1), second, closed(3, 2), second},
		// A closed street may be like others.
		{opened(0, "1", "T", "B", 10, 20), closed(1, 1), renamed(1, 0, "b"), aliased(1, 0, "C")}, {opened(0, "2", "T", "High St", 10, 20), closed(1, 0), coded(1, 1, "1")},
		// A street does not clash with itself.
		{renamed(0, 0, "main street")}, {renamed(0, 0, "High St")}, {coded(0, 0, "1")}, {shifted(0, 0, 0)}, {shifted(0, 0, 5)},
	} {
		wantSound(t, with(first, r...)...)
	}
	wantLast(t, api.ErrClash, with(first, renamed(3, 0, "B"), alias)...) // an alias stays when the name changes
	wantLast(t, api.ErrClash, with(first, closed(3, 0), second, second)...)
	wantLast(t, api.ErrClash, with(first, shifted(3, 0, 10), second)...)
	wantLast(t, api.ErrDate, with(first, closed(3, 0), second, closed(2, 1))...)
}

func TestP5_1Streets(t *testing.T) {
	r := changes(
		opened(-5, "1000", "Old Town", "Main Street", 1, 20), opened(0, "1000", "Town", "Mill Lane", 3, 3), aliased(0, 1, "Lane"), shifted(2, 1, 7), coded(2, 0, "Z9"),
		aliased(4, 1, "The Lane"), closed(4, 0), renamed(6, 1, "Road"), opened(6, "Z9", "Town", "Main Street", 5, 6), shifted(8, 1, -9), closed(8, 1),
	)
	main := api.Street{Code: "1000", Town: "Old Town", Name: "Main Street", Low: 1, High: 20, Open: true}
	wantStreets(t, r, -6)
	wantStreets(t, r, -5, main)
	wantStreets(t, r, -1, main)
	mill := api.Street{Code: "1000", Town: "Town", Name: "Mill Lane", Aliases: []string{"Lane"}, Low: 3, High: 3, Open: true}
	wantStreets(t, r, 0, main, mill)
	mill.Low, mill.High, mill.Shift, main.Code = 10, 10, 7, "Z9"
	wantStreets(t, r, 3, main, mill)
	mill.Aliases, main.Open = []string{"Lane", "The Lane"}, false
	wantStreets(t, r, 4, main, mill)
	mill.Name = "Road"
	other := api.Street{Code: "Z9", Town: "Town", Name: "Main Street", Low: 5, High: 6, Open: true}
	wantStreets(t, r, 7, main, mill, other)
	mill.Low, mill.High, mill.Shift, mill.Open = 1, 1, -2, false
	wantStreets(t, r, 8, main, mill, other)
	wantStreets(t, r, math.MaxInt, main, mill, other)
}

// TestP5_1NotSound checks that an error counts at each day, also at the days before it.
func TestP5_1NotSound(t *testing.T) {
	for _, last := range []api.Change{
		closed(29, 0), {}, {Day: 30, Kind: 9}, closed(30, 1), closed(30, 0), shifted(40, 0, 5), aliased(40, 0, "high st"), opened(50, "1", "T", "A", 9, 1),
	} {
		r := with(usual(), last)
		for _, day := range []int{math.MinInt, -1, 0, 5, 9, 29, 30, 31, 1000, math.MaxInt} {
			wantStreets(t, r, day)
			wantNotFound(t, r, day, address("1000", "Main Street", 7), api.ErrArg)
			wantNotFound(t, r, day, address("1000", "High St", 107), api.ErrArg)
			wantNotFound(t, r, day, api.Address{}, api.ErrArg)
			wantNoAddress(t, r, day, api.Point{Number: 7}, api.ErrArg)
			wantNoAddress(t, r, day, api.Point{Street: -1}, api.ErrArg)
		}
	}
}

func TestP5_1Find(t *testing.T) {
	r := changes(
		opened(0, "1000", "Town", "Main Street", 10, 20), opened(0, "1000", "Town", "Main Street", 21, 30), opened(0, "2000", "Town", "Main Street", 15, 25),
		aliased(1, 1, "High St"), shifted(2, 0, -9), shifted(2, 1, -9), closed(3, 2),
	)
	wantSound(t, r...)
	for number := -1; number <= 32; number++ {
		if number >= 10 && number <= 20 {
			wantFound(t, r, 0, address("1000", "Main Street", number), api.Point{Number: number})
		} else if number >= 21 && number <= 30 {
			wantFound(t, r, 0, address("1000", "Main Street", number), api.Point{Street: 1, Number: number})
		} else {
			wantNotFound(t, r, 0, address("1000", "Main Street", number), api.ErrNone)
		}
		if number >= 1 && number <= 11 {
			wantFound(t, r, 2, address("1000", "Main Street", number), api.Point{Number: number + 9})
		} else if number >= 12 && number <= 21 {
			wantFound(t, r, 2, address("1000", "Main Street", number), api.Point{Street: 1, Number: number + 9})
		} else {
			wantNotFound(t, r, 2, address("1000", "Main Street", number), api.ErrNone)
		}
		if number >= 15 && number <= 25 {
			wantFound(t, r, 0, address("2000", "Main Street", number), api.Point{Street: 2, Number: number})
		} else {
			wantNotFound(t, r, 0, address("2000", "Main Street", number), api.ErrNone)
		}
		wantNotFound(t, r, 3, address("2000", "Main Street", number), api.ErrNone)
		wantNotFound(t, r, 0, address("1000", "High St", number), api.ErrNone)
	}
	for _, number := range []int{math.MinInt, math.MaxInt, -9, 9999, 10000, 1<<32 + 15} {
		wantNotFound(t, r, 0, address("1000", "Main Street", number), api.ErrNone)
		wantNotFound(t, r, 9, address("1000", "Main Street", number), api.ErrNone)
	}
	wantFound(t, r, 2, address("1000", "High St", 12), api.Point{Street: 1, Number: 21})
	for _, street := range []string{"", " ", "Main", "Main  Street", " Main Street", "Main Street ", "Main Street.", "Main\tStreet", "MainStreet", "St", strings.Repeat("Main ", 100000)} {
		wantNotFound(t, r, 0, address("1000", street, 15), api.ErrNone)
	}
	for _, code := range []string{"", "100", "10000", "1000 ", "3000", "Town", "é"} {
		wantNotFound(t, r, 0, address(code, "Main Street", 15), api.ErrNone)
	}
}

func TestP5_1Name(t *testing.T) {
	r := changes(
		opened(0, "1000", "Town", "Main Street", 10, 20), opened(1, "1000", "Old Town", "Mill Lane", 9999, 9999), aliased(2, 0, "High St"),
		shifted(3, 0, 9), shifted(3, 1, -9998), coded(4, 0, "2A"), renamed(5, 0, "Broad Way"), closed(6, 0),
	)
	main := api.Address{Street: "Main Street", Code: "1000", Town: "Town"}
	mill := api.Address{Street: "Mill Lane", Number: 9999, Code: "1000", Town: "Old Town"}
	for day := range 8 {
		for number := 8; number <= 40; number++ {
			want := main
			want.Number = number
			if day >= 3 {
				want.Number = number + 9
			}
			if day >= 4 {
				want.Code = "2A"
			}
			if day >= 5 {
				want.Street = "Broad Way"
			}
			if number < 10 || number > 20 || day >= 6 {
				wantNoAddress(t, r, day, api.Point{Number: number}, api.ErrNone)
			} else {
				wantAddress(t, r, day, api.Point{Number: number}, want)
			}
		}
		if day == 3 {
			mill.Number = 1
		}
		if day >= 1 {
			wantAddress(t, r, day, api.Point{Street: 1, Number: 9999}, mill)
		} else {
			wantNoAddress(t, r, day, api.Point{Street: 1, Number: 9999}, api.ErrNone)
		}
		for _, number := range []int{1, 0, -1, 9998, 10000, math.MinInt, math.MinInt + 9998, math.MinInt + 9999, math.MaxInt, math.MaxInt - 8} {
			wantNoAddress(t, r, day, api.Point{Street: 1, Number: number}, api.ErrNone)
			wantNoAddress(t, r, day, api.Point{Street: 0, Number: number}, api.ErrNone)
		}
		for _, street := range []int{math.MinInt, -1, 2, 3, 60, 1 << 32, math.MaxInt} {
			wantNoAddress(t, r, day, api.Point{Street: street, Number: 15}, api.ErrNone)
		}
	}
}

func TestP5_1Random(t *testing.T) {
	random := source(1)
	var ends [600]int // by the error
	for range 1200 {
		r := randomRegister(random, random.IntN(25), random.IntN(4) == 0)
		wantSame(t, random, r)
		errno, _ := check(r)
		ends[errno]++
	}
	for range 40 {
		r := randomRegister(random, pick(random, 59, 60, 61, 62), true)
		wantSame(t, random, r)
	}
	for _, errno := range []api.Errno{api.OK, api.ErrArg, api.ErrNone, api.ErrTwice, api.ErrDate, api.ErrClash} {
		if ends[errno] < 15 {
			t.Errorf("only %d registers have error %d", ends[errno], errno)
		}
	}
}

func TestP5_2Beginnings(t *testing.T) {
	random := source(2)
	for range 150 {
		r := randomRegister(random, random.IntN(40), true)
		for n := range len(r) + 1 {
			wantSound(t, r[:n]...)
		}
		for _, day := range someDays(r) {
			n := 0
			for n < len(r) && r[n].Day <= day {
				n++
			}
			wantStreets(t, r, day, register.At(r[:n], day)...)
			wantStreets(t, r, day, register.At(r[:n], math.MaxInt)...)
			wantStreets(t, r, day, streetsAt(r[:n], day)...)
		}
	}
	// With an error, the beginnings are sound up to the change that has it.
	for range 300 {
		r := randomRegister(random, random.IntN(40), false)
		errno, at := check(r)
		for n := range len(r) + 1 {
			if errno != api.OK && n > at {
				wantCheck(t, r[:n], errno, at)
			} else {
				wantSound(t, r[:n]...)
			}
		}
	}
}

func TestP5_3Addresses(t *testing.T) {
	random := source(3)
	for range 60 {
		r := randomRegister(random, 1+random.IntN(30), true)
		day := r[random.IntN(len(r))].Day
		streets := register.At(r, day)
		for p, a := range pointsAt(streets) {
			wantAddress(t, r, day, p, a)
			wantFound(t, r, day, a, p)
			for _, name := range namesOf(streets[p.Street]) {
				other := address(a.Code, name, a.Number)
				found, _ := register.Find(r, day, other)
				back, errno := register.Name(r, day, found)
				if errno != api.OK || back.Code != a.Code || back.Number != a.Number || !isCalled(streets[found.Street], name) || back.Street != streets[found.Street].Name {
					t.Errorf("%+v: at %d, %+v is that of %+v, which has the address %+v, %d", r, day, other, found, back, errno)
				}
			}
		}
	}
}

func TestP5_4OnePoint(t *testing.T) {
	random := source(4)
	for range 60 {
		r := randomRegister(random, 1+random.IntN(40), true)
		day := r[random.IntN(len(r))].Day
		streets := register.At(r, day)
		points := map[api.Address]api.Point{}
		written := map[house]int{}
		for i, s := range streets {
			for n := s.Low - 3; n <= s.High+3; n++ {
				p := api.Point{Street: i, Number: n - s.Shift}
				a, errno := register.Name(r, day, p)
				if isPoint := s.Open && n >= s.Low && n <= s.High; (errno == api.OK) != isPoint {
					t.Errorf("Name(%+v, %d, %+v) = %+v, %d", r, day, p, a, errno)
				}
				if errno != api.OK {
					continue
				}
				if other, isThere := points[a]; isThere {
					t.Errorf("%+v: at %d, %+v is the address of %+v and %+v", r, day, a, p, other)
				}
				points[a] = p
				for _, name := range namesOf(s) {
					h := house{a.Code, lower(name), a.Number}
					if other, isThere := written[h]; isThere && other != i {
						t.Errorf("%+v: at %d, %+v is written of the streets %d and %d", r, day, h, other, i)
					}
					written[h] = i
				}
			}
		}
	}
}

func TestP5_5PointsStay(t *testing.T) {
	random := source(5)
	for range 60 {
		r := randomRegister(random, 1+random.IntN(30), true)
		ends := map[int]int{} // of the streets: the day when they are closed
		opening := map[int]api.Change{}
		for _, c := range r {
			if c.Kind == api.ChOpen {
				opening[len(opening)] = c
			} else if c.Kind == api.ChClose {
				ends[c.Street] = c.Day
			}
		}
		for street, first := range opening {
			for _, number := range []int{first.Low, (first.Low + first.High) / 2, first.High} {
				p := api.Point{Street: street, Number: number}
				for day := first.Day - 1; day <= r[len(r)-1].Day+1; day++ {
					end, isClosed := ends[street]
					a, errno := register.Name(r, day, p)
					if isThere := day >= first.Day && (!isClosed || day < end); (errno == api.OK) != isThere {
						t.Errorf("Name(%+v, %d, %+v) = %+v, %d", r, day, p, a, errno)
						continue
					}
					if errno == api.OK {
						wantHistory(t, r, day, p, first)
					}
				}
			}
		}
	}
}

// wantHistory checks that a point has the address that follows from the changes of its street alone.
func wantHistory(t *testing.T, r []api.Change, day int, p api.Point, first api.Change) {
	t.Helper()
	want := api.Address{Street: first.Name, Number: p.Number, Code: first.Code, Town: first.Town}
	opened := 0
	for _, c := range r {
		if c.Kind == api.ChOpen {
			opened++
		}
		if c.Day > day || opened <= p.Street || c.Street != p.Street || c.Kind == api.ChOpen {
			continue
		}
		want.Number += c.Shift
		if c.Kind == api.ChRename {
			want.Street = c.Name
		}
		if c.Kind == api.ChCode {
			want.Code = c.Code
		}
	}
	wantAddress(t, r, day, p, want)
}

// TestP5_5OtherStreets checks that changes of other streets do not matter to a point.
func TestP5_5OtherStreets(t *testing.T) {
	base := changes(opened(0, "1", "T", "A", 1, 9), opened(0, "1", "T", "B", 1, 9))
	for _, more := range [][]api.Change{
		{shifted(2, 1, 4)}, {renamed(2, 1, "C")}, {coded(2, 1, "2")}, {aliased(2, 1, "D")}, {closed(2, 1)}, {opened(2, "1", "U", "A", 10, 19)},
		{closed(2, 1), opened(3, "1", "T", "B", 1, 9), shifted(3, 2, 7)},
	} {
		r := with(base, more...)
		wantSound(t, r...)
		for day := range 5 {
			wantAddress(t, r, day, api.Point{Number: 5}, api.Address{Street: "A", Number: 5, Code: "1", Town: "T"})
			wantFound(t, r, day, address("1", "a", 5), api.Point{Number: 5})
		}
	}
}

func TestP5_6Folding(t *testing.T) {
	r := changes(opened(0, "1A", "Old Town", "Mark's Sky-Way 7k", 1, 9), aliased(1, 0, "KS ZA-az"))
	for _, street := range []string{"Mark's Sky-Way 7k", "mark's sky-way 7k", "MARK'S SKY-WAY 7K", "mARK'S sKY-wAY 7K", "ks za-az", "KS ZA-AZ", "kS zA-Az"} {
		for _, town := range []string{"", "Old Town", "old town", "Elsewhere", "é\xff", strings.Repeat("x", 1000)} {
			for _, person := range []string{"", "Ada Byron", "\x00", strings.Repeat("y ", 1000)} {
				wantFound(t, r, 1, api.Address{Person: person, Street: street, Number: 3, Code: "1A", Town: town}, api.Point{Number: 3})
			}
		}
	}
	// The letters that Unicode folds to small ones are not letters here; nor are the bytes beside the letters.
	for _, street := range []string{"Mar\u212a's Sky-Way 7k", "Mark's S\u212ay-Way 7k", "Mark'\u017f Sky-Way 7k", "Mark'S Sky-Way 7\u212a", "\u212aS ZA-az", "Mark's Sky\rWay 7k", "Mark\a" + "s Sky-Way 7k", "\u017fKS ZA-az", "KS [A-a{", "KS ZA-a\xda", "KS z`-az", "KS Z@-az", "KS\x00ZA-az"} {
		wantNotFound(t, r, 1, address("1A", street, 3), api.ErrNone)
	}
	wantNotFound(t, r, 1, address("1a", "Mark's Sky-Way 7k", 3), api.ErrNone) // a code is not folded
	for b := range 256 {
		text := string([]byte{byte(b)})
		for c := range 128 {
			name := string(rune(c))
			if !namePattern.MatchString(name) {
				continue
			}
			r := changes(opened(0, "1", "T", name, 1, 1))
			if lower(name) == lower(text) {
				wantFound(t, r, 0, address("1", text, 1), api.Point{Number: 1})
				wantLast(t, api.ErrTwice, with(r, aliased(0, 0, text))...)
			} else {
				wantNotFound(t, r, 0, address("1", text, 1), api.ErrNone)
			}
		}
	}
	random := source(6)
	for range 60 {
		r := randomRegister(random, 1+random.IntN(30), true)
		day := r[random.IntN(len(r))].Day
		written, _ := houses(register.At(r, day))
		for h, p := range written {
			a := api.Address{Person: randomName(random), Street: randomCase(random, h.name), Number: h.number, Code: h.code, Town: randomName(random)}
			wantFound(t, r, day, a, p)
		}
	}
}

func TestP5_7Aliases(t *testing.T) {
	r := changes(opened(0, "1", "T", "A", 1, 9), aliased(1, 0, "B"), aliased(2, 0, "C"), renamed(3, 0, "D"), shifted(4, 0, 2), renamed(5, 0, "B"), aliased(6, 0, "A"), coded(7, 0, "2"), renamed(8, 0, "E"))
	names := []string{"A", "AB", "ABC", "DBC", "DBC", "BC", "ABC", "ABC", "ABCE"} // by the day
	wantSound(t, r...)
	for day, all := range names {
		number, code := 5, "1"
		if day >= 4 {
			number = 7
		}
		if day >= 7 {
			code = "2"
		}
		for _, name := range "ABCDE" {
			a := address(code, string(name), number)
			if strings.ContainsRune(all, name) {
				wantFound(t, r, day, a, api.Point{Number: 5})
				a.Street = lower(a.Street)
				wantFound(t, r, day, a, api.Point{Number: 5})
			} else {
				wantNotFound(t, r, day, a, api.ErrNone)
			}
		}
	}
	random := source(7)
	for range 60 {
		r := randomRegister(random, 1+random.IntN(40), true)
		day := r[random.IntN(len(r))].Day
		for i, s := range register.At(r, day) {
			for _, name := range namesOf(s) {
				for _, number := range []int{s.Low, s.High} {
					if s.Open {
						wantFound(t, r, day, address(s.Code, name, number), api.Point{Street: i, Number: number - s.Shift})
					}
				}
			}
		}
	}
}

func TestP5_8Closing(t *testing.T) {
	r := changes(opened(0, "1", "T", "A", 1, 9), aliased(0, 0, "B"), shifted(1, 0, 1), closed(2, 0), opened(4, "1", "T", "A", 1, 9), aliased(5, 1, "B"), closed(6, 1), opened(6, "1", "T", "B", 2, 8))
	wantSound(t, r...)
	for day := range 9 {
		for number := 1; number <= 9; number++ {
			first, second, third := api.Point{Number: number}, api.Point{Street: 1, Number: number}, api.Point{Street: 2, Number: number}
			if day < 2 {
				wantAddress(t, r, day, first, api.Address{Street: "A", Number: number + day, Code: "1", Town: "T"})
				wantFound(t, r, day, address("1", "b", number+day), first)
			} else {
				wantNoAddress(t, r, day, first, api.ErrNone)
			}
			if day == 2 || day == 3 || day >= 6 {
				wantNotFound(t, r, day, address("1", "A", number), api.ErrNone)
			}
			if day == 2 || day == 3 || day == 4 {
				wantNotFound(t, r, day, address("1", "B", number), api.ErrNone)
			}
			if day == 4 || day == 5 {
				wantAddress(t, r, day, second, api.Address{Street: "A", Number: number, Code: "1", Town: "T"})
				wantFound(t, r, day, address("1", "A", number), second)
			} else {
				wantNoAddress(t, r, day, second, api.ErrNone)
			}
			if isThere := number >= 2 && number <= 8; day >= 6 && isThere {
				wantAddress(t, r, day, third, api.Address{Street: "B", Number: number, Code: "1", Town: "T"})
				wantFound(t, r, day, address("1", "B", number), third)
			} else {
				wantNoAddress(t, r, day, third, api.ErrNone)
			}
		}
	}
	wantLast(t, api.ErrNone, with(r, closed(6, 0))...)
	wantLast(t, api.ErrNone, with(r, renamed(6, 1, "C"))...)
	wantSound(t, with(r, renamed(6, 2, "C"))...)
}

// TestP5_8ClosingRandom checks that what was written of a street that is closed is found no more, or is another street's.
func TestP5_8ClosingRandom(t *testing.T) {
	random := source(8)
	closings := 0
	for range 200 {
		r := randomRegister(random, 1+random.IntN(40), true)
		for i, c := range r {
			if c.Kind != api.ChClose {
				continue
			}
			closings++
			before := register.At(r[:i], c.Day)[c.Street]
			for _, day := range []int{c.Day, c.Day + 1, r[len(r)-1].Day, math.MaxInt} {
				for n := before.Low; n <= before.High; n++ {
					wantNoAddress(t, r, day, api.Point{Street: c.Street, Number: n - before.Shift}, api.ErrNone)
					if p, errno := register.Find(r, day, address(before.Code, before.Name, n)); errno == api.OK && p.Street == c.Street {
						t.Errorf("%+v: at %d, %+v of a closed street is found", r, day, p)
					}
				}
			}
		}
	}
	if closings < 100 {
		t.Errorf("only %d streets are closed", closings)
	}
}

// TestP1EveryArgument checks that all functions return, whatever they are given, and that what is given stays as it was.
func TestP1EveryArgument(t *testing.T) {
	random := source(9)
	numbers := []int{math.MinInt, math.MinInt + 1, -1 << 32, -lastDay - 1, -lastDay, -10000, -1, 0, 1, 2, 3, 4, 5, 6, 7, 9, 59, 60, 9999, 10000, lastDay, lastDay + 1, 1 << 32, math.MaxInt - 1, math.MaxInt}
	texts := []string{"", " ", "A", "a", "A B", "1", "1000", "é", "\xff", "\x00", "Main", strings.Repeat("x", 21), strings.Repeat("x ", 5)}
	change := func() api.Change {
		return api.Change{
			Day: pick(random, numbers...), Kind: pick(random, numbers...), Street: pick(random, numbers...), Code: pick(random, texts...), Town: pick(random, texts...),
			Name: pick(random, texts...), Low: pick(random, numbers...), High: pick(random, numbers...), Shift: pick(random, numbers...),
		}
	}
	for range 3000 {
		r := randomRegister(random, random.IntN(10), random.IntN(2) == 0)
		for range random.IntN(3) {
			r = append(r, pick(random, change(), spoilt(random, randomChange(random, 0, 3))))
		}
		kept := slices.Clone(r)
		day := pick(random, numbers...)
		errno, at := register.Check(r)
		if (errno == api.OK) != (at == -1) || at < -1 || at >= max(len(r), 1) {
			t.Errorf("Check(%+v) = %d, %d", r, errno, at)
		}
		wantSame(t, random, r)
		if p, e := register.Find(r, day, api.Address{Person: pick(random, texts...), Street: pick(random, texts...), Number: pick(random, numbers...), Code: pick(random, texts...), Town: pick(random, texts...)}); e != api.OK && p != (api.Point{}) {
			t.Errorf("Find(%+v, %d, ..) = %+v, %d", r, day, p, e)
		}
		if a, e := register.Name(r, day, api.Point{Street: pick(random, numbers...), Number: pick(random, numbers...)}); e != api.OK && a != (api.Address{}) {
			t.Errorf("Name(%+v, %d, ..) = %+v, %d", r, day, a, e)
		}
		if !slices.Equal(r, kept) {
			t.Errorf("%+v has become %+v", kept, r)
		}
	}
	long := strings.Repeat("A ", 1000000)
	wantLast(t, api.ErrArg, opened(0, "1", "T", long, 1, 9))
	wantLast(t, api.ErrArg, opened(0, "1", long, "A", 1, 9))
	wantLast(t, api.ErrArg, opened(0, long, "T", "A", 1, 9))
	wantNotFound(t, usual(), 0, address("1000", long, 7), api.ErrNone)
	wantNotFound(t, usual(), 0, address(long, "Main Street", 7), api.ErrNone)
}

// shares reports whether two texts lie in the same memory.
func shares(a, b string) bool {
	return a != "" && b != "" && unsafe.StringData(a) == unsafe.StringData(b)
}

// TestP3Independence checks that calls do not depend on earlier ones, and that results share no memory with each other or with the register.
func TestP3Independence(t *testing.T) {
	random := source(10)
	for range 200 {
		r := randomRegister(random, 1+random.IntN(40), true)
		day := r[random.IntN(len(r))].Day
		want := streetsAt(r, day)
		first := register.At(r, day)
		for _, s := range first {
			for _, c := range r {
				if shares(s.Code, c.Code) || shares(s.Town, c.Town) || shares(s.Name, c.Name) || slices.ContainsFunc(s.Aliases, func(alias string) bool { return shares(alias, c.Name) }) {
					t.Errorf("At(%+v, %d): %+v shares memory with the register", r, day, s)
				}
			}
		}
		for i, s := range first {
			grown := append(s.Aliases, "changed")
			grown[0] = "changed"
			first[i].Name = "changed"
		}
		wantStreets(t, r, day, want...)
		wantSame(t, random, slices.Clone(r))
		wantStreets(t, slices.Clone(r), day, want...)
		// A register that changes after a call is another one; what was returned before stays.
		kept := register.At(r, day)
		clear(r)
		if !sameStreets(kept, want) {
			t.Errorf("At(..., %d) has become %+v, not %+v", day, kept, want)
		}
		wantCheck(t, r, api.ErrArg, 0)
	}
}
