// Package ident is layer 1: see shared/doc/01-ident.md.
package ident

import (
	"iter"
	"slices"
	"strconv"
	"strings"

	"postilion/api"
)

// A shape is a kind, a serial number, a check digit and an operator.
const (
	letters   = 2             // of a kind, and of an operator
	serialEnd = letters + 8   // where the check digit stands
	checkEnd  = serialEnd + 1 // where the operator begins
	shapeLen  = checkEnd + letters
	maxSerial = 99999999
)

// weights are those of the digits of a serial number, the first one first.
var weights = [8]int{8, 6, 4, 2, 3, 5, 9, 7}

// Check returns the check digit of eight digits.
func Check(digits string) (int, api.Errno) {
	if len(digits) != len(weights) {
		return 0, api.ErrArg
	}
	sum, errno := 0, api.OK
visit:
	for i, b := range []byte(digits) {
		switch {
		case isDigit(b):
			sum += weights[i] * int(b-'0')
		default:
			errno = api.ErrArg
			break visit
		}
	}
	if errno != api.OK {
		return 0, errno
	}
	return checkDigit(sum), api.OK
}

// Valid reports whether a text is an identifier of an item.
func Valid(id string) bool {
	_, errno := Serial(id)
	return errno == api.OK
}

// Make returns the identifier of a serial number.
func Make(kind string, serial int, operator string) (string, api.Errno) {
	if !isLetters(kind) || serial < 0 || serial > maxSerial || !isLetters(operator) {
		return "", api.ErrArg
	}
	digits := strconv.Itoa(serial)
	digits = strings.Repeat("0", len(weights)-len(digits)) + digits
	check, _ := Check(digits) // has no error: these are eight digits
	return kind + digits + strconv.Itoa(check) + operator, api.OK
}

// Serial returns the serial number of an identifier.
func Serial(id string) (int, api.Errno) {
	if !isShape(id) {
		return 0, api.ErrArg
	}
	digits := id[letters:serialEnd]
	check, _ := Check(digits) // neither has an error: a shape has eight digits here
	serial, _ := strconv.Atoi(digits)
	if int(id[serialEnd]-'0') != check {
		return 0, api.ErrDigit
	}
	return serial, api.OK
}

// Misread returns the valid identifiers that differ from a text in exactly one digit.
func Misread(id string) []string {
	if !isShape(id) {
		return nil
	}
	var found []string
	for text := range misreadings(id) {
		if Valid(text) {
			found = append(found, text)
		}
	}
	slices.Sort(found)
	return found
}

// misreadings yields the shapes that differ from a shape in exactly one digit.
func misreadings(shape string) iter.Seq[string] {
	return func(yield func(string) bool) {
		for at := letters; at < checkEnd; at++ {
			for digit := byte('0'); digit <= '9'; digit++ {
				if digit == shape[at] {
					continue
				}
				if !yield(shape[:at] + string(digit) + shape[at+1:]) {
					return
				}
			}
		}
	}
}

// checkDigit returns the check digit that belongs to a weighted sum. The digit 5 stands for two remainders, 6 and 0: that is why some misreadings go unnoticed.
func checkDigit(sum int) int {
	switch r := 11 - sum%11; r {
	case 10:
		return 0
	case 11:
		return 5
	default:
		return r
	}
}

func isShape(text string) bool {
	if len(text) != shapeLen {
		return false
	}
	return isLetters(text[:letters]) && isDigits(text[letters:checkEnd]) && isLetters(text[checkEnd:])
}

func isLetters(text string) bool {
	if len(text) != letters {
		return false
	}
	for _, b := range []byte(text) {
		if b < 'A' || b > 'Z' {
			return false
		}
	}
	return true
}

func isDigits(text string) bool {
	for _, b := range []byte(text) {
		if !isDigit(b) {
			return false
		}
	}
	return true
}

func isDigit(b byte) bool { return b >= '0' && b <= '9' }
