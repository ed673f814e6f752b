package wire

import (
	"fmt"
	"regexp"
	"strconv"
	"strings"

	"adit/api"
)

// The model goes by the chapter's words alone: it tries what may be, and takes the first that is.

// modelSum adds a carry at once, pair by pair.
func modelSum(text string) int {
	if len(text)%2 == 1 {
		text += "\x00"
	}
	sum := 0
	for i := 0; i < len(text); i += 2 {
		sum += int(text[i])*256 + int(text[i+1])
		if sum > 65535 {
			sum = sum - 65536 + 1
		}
	}
	return 65535 - sum
}

func modelText(a api.Addr) (string, api.Errno) {
	if !a.V6 {
		if [12]byte(a.B[4:]) != [12]byte{} {
			return "", api.ErrArg
		}
		return fmt.Sprintf("%d.%d.%d.%d", a.B[0], a.B[1], a.B[2], a.B[3]), api.OK
	}
	all := make([]string, 8)
	for i := range all {
		all[i] = fmt.Sprintf("%x", int(a.B[2*i])*256+int(a.B[2*i+1]))
	}
	for many := 8; many >= 2; many-- {
		for from := 0; from+many <= 8; from++ {
			if strings.Join(all[from:from+many], "") == strings.Repeat("0", many) {
				return strings.Join(all[:from], ":") + "::" + strings.Join(all[from+many:], ":"), api.OK
			}
		}
	}
	return strings.Join(all, ":"), api.OK
}

var (
	four  = regexp.MustCompile(`\A(0|[1-9][0-9]{0,2})\.(0|[1-9][0-9]{0,2})\.(0|[1-9][0-9]{0,2})\.(0|[1-9][0-9]{0,2})\z`)
	eight = regexp.MustCompile(`\A[0-9a-fA-F]{1,4}(:[0-9a-fA-F]{1,4}){7}\z`)
)

func modelParse(s string) (api.Addr, api.Errno) {
	if m := four.FindStringSubmatch(s); m != nil {
		return modelFour(m[1:])
	}
	for _, whole := range wholes(s) {
		if eight.MatchString(whole) {
			return modelEight(strings.Split(whole, ":")), api.OK
		}
	}
	return api.Addr{}, api.ErrText
}

func modelFour(numbers []string) (api.Addr, api.Errno) {
	var a api.Addr
	for i, number := range numbers {
		n, _ := strconv.Atoi(number)
		if n > 255 {
			return api.Addr{}, api.ErrText
		}
		a.B[i] = byte(n)
	}
	return a, api.OK
}

func modelEight(numbers []string) api.Addr {
	a := api.Addr{V6: true}
	for i, number := range numbers {
		n, _ := strconv.ParseInt(number, 16, 64)
		a.B[2*i], a.B[2*i+1] = byte(n/256), byte(n%256)
	}
	return a
}

// wholes are all texts without `::` that s might stand for.
func wholes(s string) []string {
	at := strings.Index(s, "::")
	if at < 0 {
		return []string{s}
	}
	var told []string
	for many := 1; many <= 8; many++ {
		whole := strings.Repeat("0:", many-1) + "0"
		if at > 0 {
			whole = s[:at] + ":" + whole
		}
		if at+2 < len(s) {
			whole += ":" + s[at+2:]
		}
		told = append(told, whole)
	}
	return told
}
