package query_test

import (
	"fmt"
	"math"
	"testing"

	"glean/api"
	"glean/bank"
	"glean/dist"
	"glean/kv"
	"glean/query"
	"glean/slash"
	"glean/stake"
)

// plain tells a state whose numbers are reckoned by hand. 16, with the rate of a tenth, has 30 coins of its own and had 30 of 17; 18 has 8 of its own. Of 34 coins of fees 16 was given 30, 18 was given 4. Then 17 took 10 back from 16 (and was paid 13.5), and moved 5 to 18. Of 58 coins more 16 was given 45, 18 was given 13.
func plain(t *testing.T) *kv.Store {
	t.Helper()
	s := kv.New()
	stake.SetParams(s, api.Params{Max: 2, Unbond: 9, Entries: 3, Down: 5000, Age: 9, Keeper: 16})
	stake.SetChain(s, api.Chain{Height: 5, Next: 1})
	for id := uint64(16); id < 21; id++ {
		bank.Mint(s, id, 100)
	}
	stake.Create(s, 16, 1000, 30)
	stake.Create(s, 18, 0, 8)
	stake.Delegate(s, 16, 17, 30)
	stake.Elect(s)
	fees(s, 19, 34)
	stake.Undelegate(s, 16, 17, 10)
	stake.Redelegate(s, 16, 18, 17, 5)
	bank.Bump(s, 17)
	fees(s, 19, 58)
	return sounded(t, s)
}

// asked: a question and its answer.
type asked struct {
	ask  api.Ask
	want api.Answer
}

// wantAsked fails unless each question has its answer.
func wantAsked(t *testing.T, v *query.View, all []asked) {
	t.Helper()
	for _, x := range all {
		wantAnswer(t, fmt.Sprintf("P23.1: %v", x.ask), v.One(x.ask), x.want)
	}
}

// P23.1: what there is of each kind, by hand.
func TestByHand(t *testing.T) {
	v := query.New(plain(t))
	numbers := func(n ...uint64) []uint64 { return n }
	wantAsked(t, v, []asked{
		{api.Ask{Kind: askAccount, A: 16}, answered(t, numbers(70, 0))},
		{api.Ask{Kind: askAccount, A: 17}, answered(t, numbers(83, 1))},
		{api.Ask{Kind: askAccount, A: 20}, answered(t, numbers(100, 0))},
		{api.Ask{Kind: askAccount, A: 1}, answered(t, numbers(0, 0))},
		{api.Ask{Kind: askAccount, A: 2}, answered(t, numbers(58, 0))},
		{api.Ask{Kind: askAccount, A: 3}, answered(t, numbers(10, 0))},
		{api.Ask{Kind: askAccount, A: 4}, answered(t, numbers(79, 0))},
		{api.Ask{Kind: askVal, A: 16}, answered(t, numbers(1000, 45, 0, 0, 1, 5), "45", "40.5", "61.5", "7.5")},
		{api.Ask{Kind: askVal, A: 18}, answered(t, numbers(0, 13, 0, 0, 1, 3), "13", "13", "17", "0")},
		{api.Ask{Kind: askDelegation, A: 16, B: 16}, answered(t, numbers(30), "30")},
		{api.Ask{Kind: askDelegation, A: 16, B: 17}, answered(t, numbers(15), "15")},
		{api.Ask{Kind: askDelegation, A: 18, B: 17}, answered(t, numbers(5), "5")},
		{api.Ask{Kind: askClaim, A: 16, B: 16}, answered(t, numbers(40), "0.5")},
		{api.Ask{Kind: askClaim, A: 16, B: 17}, answered(t, numbers(13), "0.5")},
		{api.Ask{Kind: askClaim, A: 18, B: 17}, answered(t, numbers(5), "0")},
		{api.Ask{Kind: askClaim, A: 18, B: 18}, answered(t, numbers(12), "0")},
		{api.Ask{Kind: askBonded}, answered(t, numbers(16, 18))},
		{api.Ask{Kind: askPool}, answered(t, nil, "0.5")},
		{api.Ask{Kind: askFrom, A: 16}, api.Answer{Entries: []api.Entry{{Id: 1, Kind: api.KeyUnbonding}, {Id: 2, Kind: api.KeyMove}}}},
		{api.Ask{Kind: askHolds, A: 17}, answered(t, numbers(16, 18))},
		{api.Ask{Kind: askHolds, A: 18}, answered(t, numbers(18))},
		{api.Ask{Kind: askChain}, answered(t, numbers(5, 3))},
		{api.Ask{Kind: askUnbonding, A: 1}, answered(t, numbers(17, 16, 5, 14, 10, 10))},
		{api.Ask{Kind: askMove, A: 2}, answered(t, numbers(17, 16, 18, 5, 14, 5), "5")},
	})
}

// P23.1: a validator that was cut and is jailed; shares are worth whole tokens, rounded down; the claim goes along the cut.
func TestBehindACut(t *testing.T) {
	s := plain(t)
	stake.Delegate(s, 18, 20, 1)
	fees(s, 19, 1)
	if _, n, e := slash.Fault(s, api.FaultDown, 18, 5); e != api.OK || n != 7 {
		t.Fatalf("P16.1: %d, %v", n, e)
	}
	stake.Elect(s)
	v := query.New(sounded(t, s))
	jailed := v.One(api.Ask{Kind: askVal, A: 18})
	wantAnswer(t, "P23.1: a validator that was cut", jailed, seen(s).meant(api.Ask{Kind: askVal, A: 18}))
	wantAnswer(t, "P23.1: a validator that was cut", api.Answer{N: jailed.N[:5], D: jailed.D[:1]}, answered(t, []uint64{0, 7, 1, 5, 0}, "14"))
	wantAnswer(t, "P23.1: who is bonded still", v.One(api.Ask{Kind: askBonded}), answered(t, []uint64{16}))
	worth := v.One(api.Ask{Kind: askDelegation, A: 18, B: 20})
	wantAnswer(t, "P23.1: a share of a validator that was cut by half", worth, answered(t, []uint64{0}, "1"))
	all := v.One(api.Ask{Kind: askDelegation, A: 18, B: 18})
	wantAnswer(t, "P23.1: 8 shares of it", all, answered(t, []uint64{4}, "8"))
}

// P23.1: of what isn't there, numbers are 0 and lists empty, but for what must be there to be asked of.
func TestWhatIsNotThere(t *testing.T) {
	for _, v := range []*query.View{query.New(kv.New()), query.New(sounded(t, bare())), query.New(plain(t)), query.New(sounded(t, grown()))} {
		for _, id := range []uint64{99, 5, 0, top} {
			wantAnswer(t, "P23.1: no such account", v.One(api.Ask{Kind: askAccount, A: id}), api.Answer{N: []uint64{0, 0}})
			for _, kind := range []int{askFrom, askHolds} {
				wantAnswer(t, "P23.1: an empty list", v.One(api.Ask{Kind: kind, A: id}), api.Answer{})
			}
			for _, kind := range []int{askVal, askUnbonding, askMove, askDelegation, askClaim} {
				wantOnly(t, "P23.1: nothing is there", v.One(api.Ask{Kind: kind, A: id}), 231)
			}
			for _, kind := range []int{askDelegation, askClaim} {
				wantOnly(t, "P23.1: no such validator", v.One(api.Ask{Kind: kind, A: id, B: 16}), 231)
				wantOnly(t, "P23.1: no such delegator", v.One(api.Ask{Kind: kind, A: 16, B: id}), 231)
			}
		}
	}
	empty := query.New(kv.New())
	wantAnswer(t, "P23.1: the pool of an empty state", empty.One(api.Ask{Kind: askPool}), api.Answer{D: []api.Dec{{}}})
	wantAnswer(t, "P23.1: the chain of an empty state", empty.One(api.Ask{Kind: askChain}), api.Answer{N: []uint64{0, 0}})
	wantAnswer(t, "P23.1: nobody is bonded", empty.One(api.Ask{Kind: askBonded}), api.Answer{})
}

// P23.1: an entry of one kind is none of the other; a validator that has ended is none, though entries have left it.
func TestOfAnotherKind(t *testing.T) {
	s := plain(t)
	v := query.New(s)
	wantOnly(t, "P23.1: the number of a move", v.One(api.Ask{Kind: askUnbonding, A: 2}), 231)
	wantOnly(t, "P23.1: the number of an unbonding", v.One(api.Ask{Kind: askMove, A: 1}), 231)
	wantOnly(t, "P23.1: both the other way round", v.One(api.Ask{Kind: askDelegation, A: 17, B: 16}), 231)
	stake.Undelegate(s, 18, 17, 0)
	stake.Undelegate(s, 18, 18, 0)
	gone := query.New(sounded(t, s))
	wantOnly(t, "P23.1: a validator that has ended", gone.One(api.Ask{Kind: askVal, A: 18}), 231)
	wantOnly(t, "P23.1: a delegation that has ended", gone.One(api.Ask{Kind: askClaim, A: 18, B: 17}), 231)
	left := api.Answer{Entries: []api.Entry{{Id: 3, Kind: api.KeyUnbonding}, {Id: 4, Kind: api.KeyUnbonding}}}
	wantAnswer(t, "P23.1: what left it", gone.One(api.Ask{Kind: askFrom, A: 18}), left)
	wantAnswer(t, "P23.1: it is no longer held", gone.One(api.Ask{Kind: askHolds, A: 17}), api.Answer{N: []uint64{16}})
}

// P23.1: no such kind; and a number that the kind doesn't use, which is told ahead of what isn't there.
func TestNoQuestions(t *testing.T) {
	for _, v := range []*query.View{query.New(kv.New()), query.New(plain(t))} {
		for _, kind := range []int{0, -1, 12, 13, 255, 256, 257, math.MaxInt, math.MinInt} {
			for _, a := range []uint64{0, 16} {
				wantOnly(t, "P23.1: no such kind", v.One(api.Ask{Kind: kind, A: a}), 230)
				wantOnly(t, "P23.1: no such kind", v.One(api.Ask{Kind: kind, A: a, B: 17}), 230)
			}
		}
		for _, n := range []uint64{1, 17, top} {
			for _, kind := range []int{askBonded, askPool, askChain} {
				wantOnly(t, "P23.1: A isn't used", v.One(api.Ask{Kind: kind, A: n}), 230)
				wantOnly(t, "P23.1: B isn't used", v.One(api.Ask{Kind: kind, B: n}), 230)
			}
			for _, kind := range []int{askAccount, askVal, askFrom, askHolds, askUnbonding, askMove} {
				for _, id := range []uint64{0, 1, 2, 16, 99} {
					wantOnly(t, "P23.1: B isn't used", v.One(api.Ask{Kind: kind, A: id, B: n}), 230)
				}
			}
		}
	}
}

// P23.1, P23.4: the example of the periods' chapter: 4 tokens, 10 coins of fees, a cut to 2, 10 more; with a rate of 0 they are all of the one who stands behind it.
func TestClaimAlongACut(t *testing.T) {
	s := bare()
	stake.SetParams(s, api.Params{Max: 1, Unbond: 9, Entries: 3, Down: 5000, Age: 9, Keeper: 16})
	bank.Mint(s, 16, 4)
	bank.Mint(s, 17, 1000)
	stake.Create(s, 16, 0, 4)
	stake.Elect(s)
	fees(s, 17, 10)
	claims := func(n uint64) {
		t.Helper()
		wantAnswer(t, "P23.1: a claim", query.New(sounded(t, s)).One(api.Ask{Kind: askClaim, A: 16, B: 16}), api.Answer{N: []uint64{n}, D: []api.Dec{{}}})
	}
	claims(10)
	slash.Fault(s, api.FaultDown, 16, 0)
	stake.Elect(s)
	claims(10)
	slash.Unjail(s, 16)
	stake.Elect(s)
	fees(s, 17, 10)
	claims(20)
	dist.Withdraw(s, 16, 16)
	claims(0)
}

// P23.1: lists rise, by numbers and not by their digits.
func TestListsRise(t *testing.T) {
	s := bare()
	stake.SetParams(s, api.Params{Max: 64, Unbond: 9, Entries: 16, Keeper: 16})
	ids := []uint64{16, 255, 256, 65535, 65536, 1 << 32, top}
	bank.Mint(s, 16, 10)
	for _, id := range []uint64{65536, top, 16, 256, 1 << 32, 255, 65535} {
		bank.Mint(s, id, 10)
		stake.Create(s, id, 0, 1)
		stake.Delegate(s, id, 16, 1)
	}
	stake.Elect(s)
	v := query.New(sounded(t, s))
	wantAnswer(t, "P23.1: who is bonded", v.One(api.Ask{Kind: askBonded}), api.Answer{N: ids})
	wantAnswer(t, "P23.1: what 16 holds", v.One(api.Ask{Kind: askHolds, A: 16}), api.Answer{N: ids})
}
