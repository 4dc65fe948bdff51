package share_test

import (
	"math/big"
	"math/rand"
	"strings"
	"testing"

	"glean/api"
	"glean/dec"
	"glean/share"
)

const (
	hair   = "0.000000000000000000000000000000000001"
	thirds = "0.333333333333333333333333333333333333"
)

// ten54 tells 10^54 as a text, with something at its end.
func ten54(behind string) string { return "1" + strings.Repeat("0", 54) + behind }

// nines54 tells 10^54 less 1.
func nines54() string { return strings.Repeat("9", 54) }

// P10.1 to P10.4: the numbers of the errors and the bounds are the chapter's.
func TestNumbers(t *testing.T) {
	if api.ErrShareDead != 100 || api.ErrShareSmall != 101 || api.ErrShareMuch != 102 || api.ErrShareBig != 103 {
		t.Errorf("P10.1: the chapter's errors are others")
	}
	if api.SharesPow != 54 || api.Parts != 10000 {
		t.Errorf("P10.1: the chapter's bounds are others")
	}
}

// P10.1, by hand.
func TestIssue(t *testing.T) {
	for _, x := range []struct {
		tokens uint64
		shares string
		t      uint64
		want   string
		e      api.Errno
	}{
		{0, "0", 5, "5", 0},
		{2, "3", 5, "7.5", 0},
		{0, "1", 5, "0", api.ErrShareDead},
		{0, hair, 1, "0", api.ErrShareDead},
		{0, "0", 0, "0", api.ErrShareSmall},
		{7, "0", 0, "0", api.ErrShareSmall},
		{7, "0", 5, "5", 0},
		{7, "0", top, "18446744073709551615", 0},
		{3, "1", 1, thirds, 0},
		{3, "2", 1, "0.666666666666666666666666666666666666", 0},
		{3, hair, 2, "0", api.ErrShareSmall},
		{3, hair, 3, hair, 0},
		{3, hair, 5, hair, 0},
		{1, "1", 1, "1", 0},
		{top, "18446744073709551615", top, "18446744073709551615", 0},
		{1, "5" + strings.Repeat("0", 53), 1, "5" + strings.Repeat("0", 53), 0},
		{1, "5" + strings.Repeat("0", 53) + "." + strings.Repeat("0", 35) + "1", 1, "0", api.ErrShareBig},
		{1, ten54(""), 1, "0", api.ErrShareBig},
		{2, nines54(), 1, "0", api.ErrShareBig},
	} {
		got, e := share.Issue(x.tokens, parsed(t, x.shares), x.t)
		sameDec(t, "P10.1: Issue", got, e, value(parsed(t, x.want)), x.e)
	}
}

// P10.1: up to the bound, not 10^-36 past it.
func TestIssueAtTheBound(t *testing.T) {
	for _, x := range []struct {
		shares string
		tokens uint64
		t      uint64
		e      api.Errno
	}{
		{nines54() + "." + strings.Repeat("9", 36), top, 1, api.ErrShareBig},
		{"5" + strings.Repeat("0", 53), 7, 7, 0},
		{"5" + strings.Repeat("0", 53), 7, 8, api.ErrShareBig},
		{"1" + strings.Repeat("0", 53), 1, 9, 0},
		{"1" + strings.Repeat("0", 53), 1, 10, api.ErrShareBig},
		{"1" + strings.Repeat("0", 53), api.MaxSupply, 9 * api.MaxSupply, 0},
		{"1" + strings.Repeat("0", 53), api.MaxSupply, 9*api.MaxSupply + 1, api.ErrShareBig},
	} {
		got, e := share.Issue(x.tokens, parsed(t, x.shares), x.t)
		want := low(value(parsed(t, x.shares)), whole(x.t), whole(x.tokens))
		sameDec(t, "P10.1: at the bound", got, e, want, x.e)
	}
	// Half of the bound, and 10^-36 beside it: one token more makes it twice as much.
	half := new(big.Int).Quo(most, big.NewInt(2))
	for d, want := range map[int64]api.Errno{-1: api.OK, 0: api.OK, 1: api.ErrShareBig} {
		shares := new(big.Int).Add(half, big.NewInt(d))
		got, e := share.Issue(1, decOf(shares), 1)
		sameDec(t, "P10.1: 10^-36 about the bound", got, e, shares, want)
	}
}

// P10.1: which error comes first, where several apply.
func TestWhichErrorOfIssue(t *testing.T) {
	for _, x := range []struct {
		tokens uint64
		shares string
		t      uint64
		e      api.Errno
	}{
		{0, "1", 0, api.ErrShareSmall},
		{0, ten54("1"), 0, api.ErrShareSmall},
		{1, ten54("1"), 0, api.ErrShareSmall},
		{0, ten54("1"), 1, api.ErrShareDead},
		{1, ten54("1"), 1, api.ErrShareBig},
	} {
		got, e := share.Issue(x.tokens, parsed(t, x.shares), x.t)
		sameDec(t, "P10.1: the first error", got, e, nil, x.e)
	}
}

// P10.2, by hand.
func TestRedeem(t *testing.T) {
	for _, x := range []struct {
		tokens    uint64
		shares, x string
		want      uint64
		e         api.Errno
	}{
		{10, "4", "1", 2, 0},
		{10, "4", "0", 0, 0},
		{10, "4", "0.399999999999999999999999999999999999", 0, 0},
		{10, "4", "0.4", 1, 0},
		{10, "4", "4", 10, 0},
		{10, "4", "4." + hair[2:], 0, api.ErrShareMuch},
		{10, "4", "5", 0, api.ErrShareMuch},
		{10, "0", hair, 0, api.ErrShareMuch},
		{0, "0", "0", 0, 0},
		{7, "0", "0", 7, 0},
		{0, "4", "3", 0, 0},
		{0, "4", "4", 0, 0},
		{0, "4", "5", 0, api.ErrShareMuch},
		{5, hair, hair, 5, 0},
		{5, hair, "0", 0, 0},
		{10, "3", "2.999999999999999999999999999999999999", 9, 0},
		{10, "3", "1", 3, 0},
		{top, "3", "1", top / 3, 0},
		{top, "2", "1", top / 2, 0},
		{top, ten54(""), nines54() + "." + strings.Repeat("9", 36), top - 1, 0},
		{1 << 63, "2", "1", 1 << 62, 0},
		{9, ten54("0"), ten54("0"), 9, 0},
	} {
		got, e := share.Redeem(x.tokens, parsed(t, x.shares), parsed(t, x.x))
		sameNumber(t, "P10.2: Redeem", got, e, x.want, x.e)
	}
}

// P10.3, by hand.
func TestNeed(t *testing.T) {
	for _, x := range []struct {
		tokens uint64
		shares string
		t      uint64
		want   string
		e      api.Errno
	}{
		{10, "4", 3, "1.2", 0},
		{10, "4", 0, "0", 0},
		{10, "4", 10, "4", 0},
		{10, "4", 11, "0", api.ErrShareMuch},
		{5, hair, 1, hair, 0},
		{5, hair, 5, hair, 0},
		{5, hair, 0, "0", 0},
		{5, "0", 3, "0", 0},
		{0, "1", 0, "0", api.ErrShareDead},
		{0, "0", 0, "0", api.ErrShareDead},
		{0, "1", 1, "0", api.ErrShareMuch},
		{0, "0", top, "0", api.ErrShareMuch},
		{top - 1, "1", top, "0", api.ErrShareMuch},
		{3, "1", 1, "0.333333333333333333333333333333333334", 0},
		{3, "1", 2, "0.666666666666666666666666666666666667", 0},
		{3, "1", 3, "1", 0},
		{top, "18446744073709551615", top, "18446744073709551615", 0},
		{2, ten54("2"), 1, "5" + strings.Repeat("0", 53) + "1", 0},
	} {
		got, e := share.Need(x.tokens, parsed(t, x.shares), x.t)
		sameDec(t, "P10.3: Need", got, e, value(parsed(t, x.want)), x.e)
	}
}

// P10.3: what Redeem tells of what Need told may be more.
func TestRedeemOfNeed(t *testing.T) {
	need, _ := share.Need(5, parsed(t, hair), 1)
	got, e := share.Redeem(5, parsed(t, hair), need)
	sameNumber(t, "P10.3: Redeem of Need", got, e, 5, api.OK)
}

// P10.4, by hand.
func TestWorth(t *testing.T) {
	for _, x := range []struct {
		tokens          uint64
		shares, x, want string
	}{
		{1, "3", "1", thirds},
		{2, "3", "1", "0.666666666666666666666666666666666666"},
		{5, "0", "1", "0"},
		{5, "0", "0", "0"},
		{0, "3", "1", "0"},
		{10, "4", "0", "0"},
		{10, "4", "1", "2.5"},
		{10, "4", "4", "10"},
		{10, "4", "8", "20"},
		{5, hair, "1", "5" + strings.Repeat("0", 36)},
		{top, "1", ten54(""), "18446744073709551615" + strings.Repeat("0", 54)},
		{1, ten54("0"), "1", "0"},
		{1, ten54(""), ten54(""), "1"},
	} {
		got := share.Worth(x.tokens, parsed(t, x.shares), parsed(t, x.x))
		sameDec(t, "P10.4: Worth", got, 0, value(parsed(t, x.want)), 0)
	}
}

// P10.4, by hand.
func TestCut(t *testing.T) {
	for _, x := range []struct{ n, parts, want uint64 }{
		{10, 1, 0},
		{9999, 1, 0},
		{10000, 1, 1},
		{19999, 1, 1},
		{1, 9999, 0},
		{1, 10000, 1},
		{7, 0, 0},
		{0, 5000, 0},
		{0, top, 0},
		{10000, 9999, 9999},
		{10000, 10000, 10000},
		{10000, 10001, 10000},
		{10000, 20000, 10000},
		{top, 0, 0},
		{top, 1, 1844674407370955},
		{top, 5000, 1<<63 - 1},
		{top, 9999, top - 1844674407370956},
		{top, 10000, top},
		{top, top, top},
		{1 << 63, 10001, 1 << 63},
	} {
		if got := share.Cut(x.n, x.parts); got != x.want {
			t.Errorf("P10.4: Cut(%d, %d): %d, not %d", x.n, x.parts, got, x.want)
		}
	}
}

// checkAll holds all calls against another arithmetic.
func checkAll(t *testing.T, tokens uint64, shares, x api.Dec, n uint64) {
	t.Helper()
	issued, e := share.Issue(tokens, shares, n)
	want, wantE := wantIssue(tokens, shares, n)
	sameDec(t, "P10.1: Issue", issued, e, want, wantE)
	redeemed, e := share.Redeem(tokens, shares, x)
	wantTokens, wantE := wantRedeem(tokens, shares, x)
	sameNumber(t, "P10.2: Redeem", redeemed, e, wantTokens, wantE)
	need, e := share.Need(tokens, shares, n)
	want, wantE = wantNeed(tokens, shares, n)
	sameDec(t, "P10.3: Need", need, e, want, wantE)
	sameDec(t, "P10.4: Worth", share.Worth(tokens, shares, x), 0, wantWorth(tokens, shares, x), 0)
	parts := min(n, 10000)
	sameNumber(t, "P10.4: Cut", share.Cut(tokens, n), 0, low(whole(tokens), whole(parts), big.NewInt(10000)).Uint64(), 0)
}

// P10.1 to P10.4, at all edges together.
func TestEdges(t *testing.T) {
	for _, tokens := range counts() {
		for _, shares := range amounts() {
			for _, n := range counts() {
				checkAll(t, tokens, shares, dec.Of(n), n)
			}
			for _, x := range amounts() {
				checkAll(t, tokens, shares, x, 5)
			}
		}
	}
}

// P10.1 to P10.4, at random.
func TestAtRandom(t *testing.T) {
	r := rand.New(rand.NewSource(101))
	for range 20000 {
		tokens, shares, x, n := drawnCount(r), drawnDec(r), drawnDec(r), drawnCount(r)
		if r.Intn(2) == 0 {
			x = drawnBelow(r, shares)
		}
		if r.Intn(8) == 0 {
			x = shares
		}
		checkAll(t, tokens, shares, x, n)
	}
}
