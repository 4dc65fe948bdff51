package script

import (
	"math"
	"strconv"
	"strings"

	"glean/api"
)

// messages: the words that name messages, by their kinds.
var messages = [...]string{
	api.MsgSend:       "send",
	api.MsgCreate:     "create",
	api.MsgDelegate:   "delegate",
	api.MsgUndelegate: "undelegate",
	api.MsgRedelegate: "redelegate",
	api.MsgWithdraw:   "withdraw",
	api.MsgCommission: "commission",
	api.MsgUnjail:     "unjail",
	api.MsgFund:       "fund",
	api.MsgSpend:      "spend",
}

// faults: the words that name faults, by their kinds; other faults have none.
var faults = [...]string{api.FaultDouble: "double", api.FaultDown: "down"}

const (
	noBytes = "-" // the hex of no bytes, as a word can't be empty
	digits  = "0123456789abcdef"
)

// wordsOf parts a line into its words; other blanks than this one are parts of words.
func wordsOf(line string) []string {
	return strings.FieldsFunc(line, func(r rune) bool { return r == ' ' })
}

// number reads a word as a number.
func number(word string) (uint64, error) {
	var n uint64
	for i, r := range word {
		if r < '0' || r > '9' || i > 0 && n == 0 { // a nought ahead of other digits
			return 0, api.ErrScriptNumber
		}
		digit := uint64(r - '0')
		if n > (math.MaxUint64-digit)/10 {
			return 0, api.ErrScriptNumber
		}
		n = 10*n + digit
	}
	return n, nil
}

// hex reads a word as bytes.
func hex(word string) ([]byte, error) {
	if word == noBytes {
		return nil, nil
	}
	if len(word)%2 != 0 {
		return nil, api.ErrScriptNumber
	}
	b := make([]byte, len(word)/2)
	for i, r := range word {
		digit := strings.IndexRune(digits, r)
		if digit < 0 {
			return nil, api.ErrScriptNumber
		}
		b[i/2] = b[i/2]<<4 | byte(digit)
	}
	return b, nil
}

// hexOf writes bytes as a word.
func hexOf(b []byte) string {
	if len(b) == 0 {
		return noBytes
	}
	var text strings.Builder
	for _, x := range b {
		text.WriteByte(digits[x>>4])
		text.WriteByte(digits[x&15])
	}
	return text.String()
}

// messageKind reads a word as a message's kind.
func messageKind(word string) (int, error) {
	for kind, name := range messages {
		if word == name {
			return kind, nil
		}
	}
	return 0, api.ErrScriptWord
}

// faultKind reads a word as a fault's kind, which is a byte of its item.
func faultKind(word string) (int, error) {
	for kind, name := range faults {
		if word == name {
			return kind, nil
		}
	}
	n, err := number(word)
	if err != nil || n > math.MaxUint8 {
		return 0, api.ErrScriptNumber
	}
	return int(n), nil
}

// faultWord writes a fault's kind.
func faultWord(kind int) string {
	if kind > 0 && kind < len(faults) {
		return faults[kind]
	}
	return strconv.Itoa(kind)
}
