package msg_test

import (
	"strings"
	"testing"

	"glean/api"
	"glean/msg"
)

// wantUses fails unless Uses tells those letters of a kind.
func wantUses(t *testing.T, kind int, letters string) {
	t.Helper()
	a, b, n := msg.Uses(kind)
	if a != strings.Contains(letters, "A") || b != strings.Contains(letters, "B") || n != strings.Contains(letters, "N") {
		t.Errorf("P17.1: Uses(%d): %t, %t, %t, not %q", kind, a, b, n, letters)
	}
}

// P17.1: the chapter's table, by the names of the kinds.
func TestUsesByName(t *testing.T) {
	wantUses(t, api.MsgSend, "AN")
	wantUses(t, api.MsgCreate, "AN")
	wantUses(t, api.MsgDelegate, "AN")
	wantUses(t, api.MsgUndelegate, "AN")
	wantUses(t, api.MsgRedelegate, "ABN")
	wantUses(t, api.MsgWithdraw, "A")
	wantUses(t, api.MsgCommission, "")
	wantUses(t, api.MsgUnjail, "")
	wantUses(t, api.MsgFund, "N")
	wantUses(t, api.MsgSpend, "AN")
}

// P17.1: the same, by their numbers.
func TestUsesByNumber(t *testing.T) {
	for kind, letters := range used() {
		wantUses(t, kind, letters)
	}
}

// P17.1: all are false of what is no kind.
func TestUsesOfNoKind(t *testing.T) {
	for _, kind := range noKinds() {
		wantUses(t, kind, "")
	}
	for kind := -3000; kind < 3000; kind++ {
		if !isKind(kind) {
			wantUses(t, kind, "")
		}
	}
}
