package ident_test

import (
	"fmt"
	"slices"
	"strconv"
	"strings"
	"testing"

	"postilion/api"
	"postilion/ident"
)

// badDigits are texts that are not eight digits.
var badDigits = []string{
	"", "4", "4731248", "473124829", "47312482 ", " 7312482", "4731248a", "A7312482", "473124-2", "+7312482", "-7312482",
	"/7312482", ":7312482", "4731248/", "4731248:", "4731.482", "\x007312482", "4731248\x00", "é731248", "é7312482", "４７３", "\xff7312482",
	strings.Repeat("0", 100000),
}

// badShapes are texts that are no shapes.
var badShapes = []string{
	"", "RR", "RR47312482AA", "RR4731248290AA", "RR473124829A", "R473124829AA", "RR473124829AAA", "RRR473124829AA", "R473124829AAA", "RRR47312482AA",
	"rR473124829AA", "Rr473124829AA", "RR473124829aA", "RR473124829Aa", "R1473124829AA", "RR473124829A1", "1R473124829AA", "RR4731248291A",
	"RRx73124829AA", "RR47312482xAA", "RR4731 4829AA", "RR+73124829AA", "RR-73124829AA", "@R473124829AA", "R[473124829AA", "RR473124829@A", "RR473124829A[",
	"RR/73124829AA", "RR:73124829AA", "RR47312482/AA", "RR47312482:AA", "ÉR473124829A", "É473124829AA", "RR473124829É", "RR473124829\xff\xff", "RR473124829AA\n",
	"0000000000000", "AAAAAAAAAAAAA", strings.Repeat("A", 100000),
}

// sample returns serial numbers: the first ones, the last ones, and some from all between.
func sample() []int {
	l := []int{47312482}
	for i := range 300 {
		l = append(l, i, 99999999-i)
	}
	for n := 7; n <= 99999999; n += 49999 {
		l = append(l, n)
	}
	return l
}

// checkOf returns the check digit by another way than A1: the digit with which the sum of the products becomes divisible by 11, if there is one.
func checkOf(serial int) int {
	sum := 0
	for _, w := range []int{7, 9, 5, 3, 2, 4, 6, 8} {
		sum += w * (serial % 10)
		serial /= 10
	}
	if sum%11 == 0 {
		return 5
	}
	if sum%11 == 1 {
		return 0
	}
	c := 1
	for (sum+c)%11 != 0 {
		c++
	}
	return c
}

func shape(kind string, serial, check int, operator string) string {
	return fmt.Sprintf("%s%08d%d%s", kind, serial, check, operator)
}

// oneDigit returns the 81 shapes that differ from a shape in one digit.
func oneDigit(id string) []string {
	var l []string
	for at := 2; at < 11; at++ {
		for d := byte('0'); d <= '9'; d++ {
			if b := []byte(id); b[at] != d {
				b[at] = d
				l = append(l, string(b))
			}
		}
	}
	return l
}

// differences returns the places at which two texts of one length differ.
func differences(a, b string) []int {
	var l []int
	for i := range []byte(a) {
		if a[i] != b[i] {
			l = append(l, i)
		}
	}
	return l
}

func TestP1_1CheckOfEachWeight(t *testing.T) {
	for digits, want := range map[string]int{
		"10000000": 3, "01000000": 5, "00100000": 7, "00010000": 9, "00001000": 8, "00000100": 6, "00000010": 2, "00000001": 4,
		"47312482": 9, "12345678": 5, "99999999": 5,
	} {
		if got, errno := ident.Check(digits); got != want || errno != api.OK {
			t.Errorf("Check(%q) = %d, %d; want %d", digits, got, errno, want)
		}
	}
}

func TestP1_1CheckOfEachRemainder(t *testing.T) {
	for remainder, c := range []struct {
		digits string
		want   int
	}{
		{"00000000", 5}, // r is 11
		{"00000008", 0}, // r is 10
		{"00000005", 9},
		{"00000002", 8},
		{"00100000", 7},
		{"00000007", 6},
		{"00000004", 5}, // r is 5
		{"00000001", 4},
		{"00000009", 3},
		{"00000006", 2},
		{"00000003", 1},
	} {
		if got, errno := ident.Check(c.digits); got != c.want || errno != api.OK {
			t.Errorf("remainder %d: Check(%q) = %d, %d; want %d", remainder, c.digits, got, errno, c.want)
		}
	}
	for _, serial := range sample() {
		digits := fmt.Sprintf("%08d", serial)
		if got, errno := ident.Check(digits); got != checkOf(serial) || errno != api.OK {
			t.Errorf("Check(%q) = %d, %d; want %d", digits, got, errno, checkOf(serial))
		}
	}
}

func TestP1_1CheckOfOtherTexts(t *testing.T) {
	for _, digits := range badDigits {
		if got, errno := ident.Check(digits); got != 0 || errno != api.ErrArg {
			t.Errorf("Check(%.20q) = %d, %d; want 0, ErrArg", digits, got, errno)
		}
	}
}

func TestP1_1MakeOfParts(t *testing.T) {
	for _, c := range []struct {
		kind     string
		serial   int
		operator string
		want     string
	}{
		{"RR", 47312482, "AA", "RR473124829AA"},
		{"CP", 0, "CH", "CP000000005CH"},
		{"AZ", 8, "ZA", "AZ000000080ZA"},
		{"ZZ", 99999999, "ZZ", "ZZ999999995ZZ"},
		{"AA", 12345678, "QX", "AA123456785QX"},
	} {
		if got, errno := ident.Make(c.kind, c.serial, c.operator); got != c.want || errno != api.OK {
			t.Errorf("Make(%q, %d, %q) = %q, %d; want %q", c.kind, c.serial, c.operator, got, errno, c.want)
		}
	}
	for _, serial := range sample() {
		want := shape("RR", serial, checkOf(serial), "AA")
		if got, errno := ident.Make("RR", serial, "AA"); got != want || errno != api.OK {
			t.Errorf("Make of %d = %q, %d; want %q", serial, got, errno, want)
		}
	}
}

func TestP1_1MakeOfOtherParts(t *testing.T) {
	const min, max = -1 << 63, 1<<63 - 1
	for _, serial := range []int{-1, -99999999, 100000000, 147312482, min, max} {
		if got, errno := ident.Make("RR", serial, "AA"); got != "" || errno != api.ErrArg {
			t.Errorf("Make of %d = %q, %d; want ErrArg", serial, got, errno)
		}
	}
	for _, letters := range []string{"", "R", "RRR", "rR", "Rr", "R1", "1R", "R ", "@A", "A[", "É", "R\x00", "\xff\xff", strings.Repeat("R", 100000)} {
		if got, errno := ident.Make(letters, 47312482, "AA"); got != "" || errno != api.ErrArg {
			t.Errorf("Make of the kind %.20q = %q, %d; want ErrArg", letters, got, errno)
		}
		if got, errno := ident.Make("RR", 47312482, letters); got != "" || errno != api.ErrArg {
			t.Errorf("Make of the operator %.20q = %q, %d; want ErrArg", letters, got, errno)
		}
	}
}

func TestP1_1SerialOfEachCheckDigit(t *testing.T) {
	for _, serial := range sample() {
		for check := range 10 {
			id := shape("RR", serial, check, "AA")
			want, wantErr := serial, api.OK
			if check != checkOf(serial) {
				want, wantErr = 0, api.ErrDigit
			}
			if got, errno := ident.Serial(id); got != want || errno != wantErr {
				t.Errorf("Serial(%q) = %d, %d; want %d, %d", id, got, errno, want, wantErr)
			}
			if ident.Valid(id) != (wantErr == api.OK) {
				t.Errorf("Valid(%q) = %t", id, ident.Valid(id))
			}
		}
	}
}

func TestP1_1TextsThatAreNoShapes(t *testing.T) {
	for _, id := range badShapes {
		if ident.Valid(id) {
			t.Errorf("Valid(%.20q)", id)
		}
		if got, errno := ident.Serial(id); got != 0 || errno != api.ErrArg {
			t.Errorf("Serial(%.20q) = %d, %d; want 0, ErrArg", id, got, errno)
		}
		if got := ident.Misread(id); len(got) != 0 {
			t.Errorf("Misread(%.20q) = %v; want nothing", id, got)
		}
	}
}

func TestP1_1Misread(t *testing.T) {
	for id, want := range map[string][]string{
		"AA000000005AA": {"AA000000045AA", "AA000000805AA", "AA000020005AA", "AA000300005AA", "AA007000005AA", "AA010000005AA", "AA900000005AA"},
		"RR473124829AA": {}, // an identifier that cannot be misread without notice
		"AB000000080CD": {}, // nor can this one, whose check digit is 0
		// No identifiers: their check digit, or any other digit, may be the wrong one.
		"RR473124828AA": {"RR073124828AA", "RR473122828AA", "RR473124228AA", "RR473124829AA", "RR473164828AA", "RR473724828AA", "RR476124828AA", "RR493124828AA"},
		"ZZ999999999ZZ": {"ZZ199999999ZZ", "ZZ929999999ZZ", "ZZ994999999ZZ", "ZZ999969999ZZ", "ZZ999995999ZZ", "ZZ999999899ZZ", "ZZ999999939ZZ", "ZZ999999995ZZ"},
		// With the check digit 5, two digits at one place can be the right ones.
		"AB000000015CD": {
			"AB000000005CD", "AB000000014CD", "AB000000045CD", "AB000000615CD", "AB000000915CD", "AB000002015CD", "AB000003015CD", "AB000050015CD", "AB000070015CD",
			"AB000200015CD", "AB000500015CD", "AB001000015CD", "AB008000015CD", "AB080000015CD", "AB090000015CD", "AB400000015CD", "AB600000015CD",
		},
	} {
		if got := ident.Misread(id); !slices.Equal(got, want) {
			t.Errorf("Misread(%q) = %v; want %v", id, got, want)
		}
	}
}

func TestP1_1MisreadOfAllShapes(t *testing.T) {
	for i, serial := range sample() {
		id := shape("LX", serial, i%10, "QZ")
		var want []string
		for _, other := range oneDigit(id) {
			n, _ := strconv.Atoi(other[2:10])
			if other == shape("LX", n, checkOf(n), "QZ") {
				want = append(want, other)
			}
		}
		slices.Sort(want)
		if got := ident.Misread(id); !slices.Equal(got, want) {
			t.Errorf("Misread(%q) = %v; want %v", id, got, want)
		}
	}
}

func TestP1_2Making(t *testing.T) {
	made := map[string]string{}
	for _, letters := range []string{"AA", "AB", "BA", "RR", "ZZ"} {
		for _, serial := range []int{0, 1, 4, 5, 10, 100, 12345678, 23456781, 87654321, 99999998, 99999999} {
			for _, operator := range []string{"AA", "AB", "BA", "RR", "ZZ"} {
				id, errno := ident.Make(letters, serial, operator)
				parts := fmt.Sprint(letters, serial, operator)
				if errno != api.OK || made[id] != "" {
					t.Errorf("%s and %s have the identifier %q, %d", parts, made[id], id, errno)
				}
				made[id] = parts
			}
		}
	}
	for _, serial := range sample() {
		id := shape("QK", serial, checkOf(serial), "ZC")
		n, errno := ident.Serial(id)
		if errno != api.OK || n != serial || !ident.Valid(id) {
			t.Errorf("Serial(%q) = %d, %d; want %d", id, n, errno, serial)
		}
		if again, errno := ident.Make(id[:2], n, id[11:]); again != id || errno != api.OK {
			t.Errorf("Make(%q, %d, %q) = %q, %d; want %q", id[:2], n, id[11:], again, errno, id)
		}
	}
}

func TestP1_3OneDigit(t *testing.T) {
	pairs := 0
	for _, serial := range sample() {
		id, _ := ident.Make("RR", serial, "AA")
		for _, other := range oneDigit(id) {
			if !ident.Valid(other) {
				continue
			}
			pairs++
			if at := differences(id, other); at[0] >= 10 || id[10] != '5' || other[10] != '5' {
				t.Errorf("%q and %q are both identifiers", id, other)
			}
		}
	}
	if pairs == 0 {
		t.Error("no two identifiers differ in one digit; 00000000 and 01000000 do")
	}
}

func TestP1_4Misreading(t *testing.T) {
	found := 0
	for i, serial := range sample() {
		id := shape("CP", serial, checkOf(serial), "CH")
		if i%3 == 0 {
			id = shape("CP", serial, (checkOf(serial)+1+i%9)%10, "CH")
		}
		valid := ident.Valid(id)
		for _, other := range ident.Misread(id) {
			found++
			if !ident.Valid(other) || len(differences(id, other)) != 1 || other[:2] != "CP" || other[11:] != "CH" {
				t.Errorf("Misread(%q) has %q", id, other)
			}
			if slices.Contains(ident.Misread(other), id) != valid {
				t.Errorf("Misread(%q) has %q; the reverse is %t", id, other, !valid)
			}
		}
	}
	if found == 0 {
		t.Error("nothing can be misread")
	}
}

func TestP1_5Caught(t *testing.T) {
	least := 81
	for _, serial := range append(sample(), 55555555) {
		id, _ := ident.Make("RR", serial, "AA")
		caught := 0
		for _, other := range oneDigit(id) {
			if !ident.Valid(other) {
				caught++
			} else if other[10] != id[10] {
				t.Errorf("%q and %q differ in the check digit alone", id, other)
			}
		}
		if least = min(least, caught); caught < 73 {
			t.Errorf("%q: %d of 81 are caught", id, caught)
		}
	}
	if least != 73 {
		t.Errorf("at least %d are caught; of 55555555, 73 are", least)
	}
}

func TestP1_6Neighbours(t *testing.T) {
	for _, serial := range sample() {
		id, _ := ident.Make("RR", serial, "AA")
		for at := 2; at < 9; at++ {
			b := []byte(id)
			b[at], b[at+1] = b[at+1], b[at]
			if string(b) != id && id[10] != '5' && ident.Valid(string(b)) {
				t.Errorf("%q and %q are both identifiers", id, b)
			}
		}
	}
	// With the check digit 5 an exchange need not be caught: these two have the remainders 6 and 0.
	for _, id := range []string{"RR000000195AA", "RR000000915AA"} {
		if !ident.Valid(id) {
			t.Errorf("%q is no identifier", id)
		}
	}
}

// TestP1EveryCall checks that no text makes a function fail, also one that is cut or changed at any byte.
func TestP1EveryCall(t *testing.T) {
	for _, id := range append([]string{"RR473124829AA", "RR473124828AA", "AA000000005AA"}, badShapes...) {
		if len(id) > 20 {
			id = id[:20]
		}
		for cut := range len(id) + 1 {
			for _, b := range []byte{0, '/', '0', '5', '9', ':', '@', 'A', 'Z', '[', 'a', 0x80, 0xff} {
				text := id[:cut] + string([]byte{b}) + id[min(cut+1, len(id)):]
				serial, errno := ident.Serial(text)
				if errno != api.OK && (serial != 0 || errno != api.ErrArg && errno != api.ErrDigit) {
					t.Errorf("Serial(%q) = %d, %d", text, serial, errno)
				}
				if (errno == api.OK) != ident.Valid(text) || errno == api.ErrArg && len(ident.Misread(text)) != 0 {
					t.Errorf("Valid or Misread of %q", text)
				}
				if check, errno := ident.Check(text); len(text) != 8 && (check != 0 || errno != api.ErrArg) {
					t.Errorf("Check(%q) = %d, %d", text, check, errno)
				}
				if made, errno := ident.Make(text, -1, text); made != "" || errno != api.ErrArg {
					t.Errorf("Make(%q) = %q, %d", text, made, errno)
				}
			}
		}
	}
}

// TestP3Independence checks that calls do not depend on earlier ones, nor on what a caller does with a result.
func TestP3Independence(t *testing.T) {
	first := ident.Misread("AA000000005AA")
	want := slices.Clone(first)
	clear(first)
	for range 3 {
		if got := ident.Misread("AA000000005AA"); !slices.Equal(got, want) {
			t.Errorf("Misread = %v; want %v", got, want)
		}
		for _, digits := range []string{"47312482", "0", "00000000"} {
			a, aErr := ident.Check(digits)
			ident.Check("99999999")
			if b, bErr := ident.Check(digits); a != b || aErr != bErr {
				t.Errorf("Check(%q) = %d, %d, then %d, %d", digits, a, aErr, b, bErr)
			}
		}
		for _, id := range []string{"RR473124829AA", "RR473124828AA", ""} {
			a, aErr := ident.Serial(id)
			ident.Serial("ZZ999999995ZZ")
			if b, bErr := ident.Serial(id); a != b || aErr != bErr || ident.Valid(id) != ident.Valid(id) {
				t.Errorf("Serial(%q) = %d, %d, then %d, %d", id, a, aErr, b, bErr)
			}
		}
		for _, serial := range []int{47312482, -1} {
			a, aErr := ident.Make("RR", serial, "AA")
			ident.Make("ZZ", 0, "ZZ")
			if b, bErr := ident.Make("RR", serial, "AA"); a != b || aErr != bErr {
				t.Errorf("Make(%d) = %q, %d, then %q, %d", serial, a, aErr, b, bErr)
			}
		}
	}
}
