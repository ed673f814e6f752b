package wire

import (
	"strconv"
	"strings"

	"adit/api"
)

// pairs is how many pairs of bytes an address of version 6 has.
const pairs = width6 / 2

// text4 is the text of an address of version 4.
func text4(a api.Addr) string {
	var numbers [width4]string
	for i := range numbers {
		numbers[i] = strconv.Itoa(int(a.B[i]))
	}
	return strings.Join(numbers[:], ".")
}

// text6 is the text of an address of version 6.
func text6(a api.Addr) string {
	var numbers [pairs]string
	for i := range numbers {
		numbers[i] = strconv.FormatUint(uint64(a.B[2*i])<<8|uint64(a.B[2*i+1]), 16)
	}
	from, many := longestRow(numbers)
	if many < 2 {
		return strings.Join(numbers[:], ":")
	}
	return strings.Join(numbers[:from], ":") + "::" + strings.Join(numbers[from+many:], ":")
}

// longestRow is where the longest row of numbers that are 0 begins (the first of several), and how many they are.
func longestRow(numbers [pairs]string) (from, many int) {
	row := 0
	for i, number := range numbers {
		if number != "0" {
			row = 0
			continue
		}
		row++
		if row > many {
			from, many = i+1-row, row
		}
	}
	return from, many
}

// parse4 is the address of version 4 that s says.
func parse4(s string) (api.Addr, bool) {
	numbers := strings.SplitN(s, ".", width4+1)
	if len(numbers) != width4 {
		return api.Addr{}, false
	}
	var a api.Addr
	for i, number := range numbers {
		n, err := strconv.ParseUint(number, 10, 8)
		if err != nil {
			return api.Addr{}, false
		}
		a.B[i] = byte(n)
	}
	return a, text4(a) == s // so there are no noughts ahead
}

// parse6 is the address of version 6 that s says.
func parse6(s string) (api.Addr, bool) {
	head, tail, cut := strings.Cut(s, "::")
	front, frontOK := parsePairs(head)
	back, backOK := parsePairs(tail)
	left := width6 - len(front) - len(back)
	if !frontOK || !backOK || left < 0 || cut != (left > 0) {
		return api.Addr{}, false
	}
	a, errno := From(front + strings.Repeat("\x00", left) + back)
	return a, errno == api.OK
}

// parsePairs are the bytes of the pairs that s says. One pair too many is enough to be refused, so it takes s no further apart.
func parsePairs(s string) (string, bool) {
	if s == "" {
		return "", true
	}
	told := ""
	for _, number := range strings.SplitN(s, ":", pairs+1) {
		n, err := strconv.ParseUint(number, 16, 16)
		if err != nil || len(number) > 4 { // noughts ahead, but not any count of them
			return "", false
		}
		told += Put(n, 2)
	}
	return told, true
}
