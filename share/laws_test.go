package share_test

import (
	"math/big"
	"math/rand"
	"sync"
	"testing"

	"glean/api"
	"glean/share"
)

// P10.5: tokens by shares never fall by Issue.
func TestIssueNeverThins(t *testing.T) {
	r := rand.New(rand.NewSource(105))
	var told int
	for range 20000 {
		tokens, shares, n := drawnCount(r), drawnDec(r), drawnCount(r)
		issued, e := share.Issue(tokens, shares, n)
		if e != api.OK || value(shares).Sign() == 0 {
			continue
		}
		told++
		behind := new(big.Int).Add(whole(tokens), whole(n))
		if falls(whole(tokens), shares, behind, plus(shares, issued)) {
			t.Fatalf("P10.5: Issue(%d, %v, %d) thins by %v", tokens, shares.Raw, n, issued.Raw)
		}
	}
	if told < 5000 {
		t.Errorf("P10.5: only %d were issued", told)
	}
}

// P10.5: nor by Redeem, which never takes all tokens for less than all shares.
func TestRedeemNeverThins(t *testing.T) {
	r := rand.New(rand.NewSource(106))
	for range 20000 {
		tokens, shares := drawnCount(r), drawnDec(r)
		if value(shares).Sign() == 0 {
			continue
		}
		x := drawnBelow(r, shares)
		redeemed, e := share.Redeem(tokens, shares, x)
		if e != api.OK {
			t.Fatalf("P10.5: Redeem(%d, %v, %v): %v", tokens, shares.Raw, x.Raw, e)
		}
		if tokens != 0 && redeemed >= tokens {
			t.Fatalf("P10.5: Redeem(%d, %v, %v) takes all", tokens, shares.Raw, x.Raw)
		}
		if falls(whole(tokens), shares, whole(tokens-redeemed), less(shares, x)) {
			t.Fatalf("P10.5: Redeem(%d, %v, %v) thins by %d", tokens, shares.Raw, x.Raw, redeemed)
		}
	}
}

// P10.6: what Need tells is enough.
func TestNeedIsEnough(t *testing.T) {
	r := rand.New(rand.NewSource(107))
	for range 20000 {
		tokens, shares := drawnCount(r), drawnDec(r)
		if tokens == 0 {
			continue
		}
		n := drawnCount(r)
		if n > tokens {
			n %= tokens
		}
		if r.Intn(8) == 0 {
			n = tokens
		}
		need, e := share.Need(tokens, shares, n)
		if e != api.OK {
			t.Fatalf("P10.6: Need(%d, %v, %d): %v", tokens, shares.Raw, n, e)
		}
		got, e := share.Redeem(tokens, shares, need)
		if e != api.OK || got < n {
			t.Fatalf("P10.6: Redeem of Need(%d, %v, %d): %d, %v", tokens, shares.Raw, n, got, e)
		}
	}
}

// P10.6: there and right back nobody gains.
func TestThereAndBack(t *testing.T) {
	r := rand.New(rand.NewSource(108))
	var told int
	for range 20000 {
		tokens, shares := drawnCount(r), drawnDec(r)
		n := drawnCount(r)
		if r.Intn(10) == 0 {
			tokens, shares = 0, api.Dec{}
		}
		sum := tokens + n
		if sum < n || value(shares).Sign() == 0 && tokens != 0 {
			continue
		}
		issued, e := share.Issue(tokens, shares, n)
		if e != api.OK {
			continue
		}
		told++
		got, e := share.Redeem(sum, plus(shares, issued), issued)
		if e != api.OK || got > n {
			t.Fatalf("P10.6: Redeem of Issue(%d, %v, %d): %d, %v", tokens, shares.Raw, n, got, e)
		}
	}
	if told < 5000 {
		t.Errorf("P10.6: only %d were issued", told)
	}
}

// P10.6: the parts are never worth more than the whole, and each one's whole part is what Redeem tells.
func TestPartsOfAll(t *testing.T) {
	r := rand.New(rand.NewSource(109))
	for range 3000 {
		tokens, shares := drawnCount(r), drawnDec(r)
		sum, rest := new(big.Int), shares
		for range r.Intn(8) {
			x := drawnBelow(r, rest)
			rest = less(rest, x)
			sum.Add(sum, value(share.Worth(tokens, shares, x)))
		}
		sum.Add(sum, value(share.Worth(tokens, shares, rest)))
		if sum.Cmp(times(whole(tokens), scale)) > 0 {
			t.Fatalf("P10.6: parts of %v, for %d tokens, are worth %v", shares.Raw, tokens, sum)
		}
	}
}

// P10.6: who has more gets no less; Redeem is Worth's whole part below S.
func TestMoreIsNoLess(t *testing.T) {
	r := rand.New(rand.NewSource(110))
	for range 10000 {
		tokens, shares := drawnCount(r), drawnDec(r)
		if value(shares).Sign() == 0 {
			continue
		}
		more := drawnBelow(r, shares)
		fewer := drawnBelow(r, more)
		high, low := share.Worth(tokens, shares, more), share.Worth(tokens, shares, fewer)
		if value(high).Cmp(value(low)) < 0 {
			t.Fatalf("P10.6: Worth falls: %d, %v, %v, %v", tokens, shares.Raw, more.Raw, fewer.Raw)
		}
		got, e := share.Redeem(tokens, shares, more)
		sameNumber(t, "P10.6: Worth's whole part", got, e, new(big.Int).Quo(value(high), scale).Uint64(), api.OK)
		smaller, e := share.Redeem(tokens, shares, fewer)
		if e != api.OK || smaller > got {
			t.Fatalf("P10.6: Redeem falls: %d, %v, %v, %v", tokens, shares.Raw, more.Raw, fewer.Raw)
		}
		if all, e := share.Redeem(tokens, shares, shares); e != api.OK || all < got {
			t.Fatalf("P10.6: Redeem falls at all shares: %d, %v, %v", tokens, shares.Raw, more.Raw)
		}
	}
}

// P10.1 to P10.4: what is answered hangs on the arguments alone, also where several ask at once.
func TestAskedBySeveral(t *testing.T) {
	var all sync.WaitGroup
	failed := make([]int, 8)
	for i := range failed {
		all.Go(func() {
			r := rand.New(rand.NewSource(int64(i)))
			for range 500 {
				tokens, shares, n := drawnCount(r), drawnDec(r), drawnCount(r)
				if want, wantE := wantIssue(tokens, shares, n); wantE == api.OK {
					if got, e := share.Issue(tokens, shares, n); e != api.OK || value(got).Cmp(want) != 0 {
						failed[i]++
					}
				}
				if want, wantE := wantNeed(tokens, shares, n); wantE == api.OK {
					if got, e := share.Need(tokens, shares, n); e != api.OK || value(got).Cmp(want) != 0 {
						failed[i]++
					}
				}
			}
		})
	}
	all.Wait()
	for i, n := range failed {
		if n > 0 {
			t.Errorf("P10.1: asked by several: %d of worker %d failed", n, i)
		}
	}
}
