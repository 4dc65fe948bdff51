package stake_test

import (
	"math/big"
	"math/rand"
	"slices"
	"testing"

	"glean/api"
	"glean/dec"
	"glean/stake"
)

// limbs tells the limbs of Decs, with the room behind them.
func limbs(all ...api.Dec) []api.Nat {
	var lists []api.Nat
	for _, d := range all {
		lists = append(lists, d.Raw[:cap(d.Raw)])
	}
	return lists
}

// decsOf tells the Decs of payments.
func decsOf(all ...api.Paid) []api.Dec {
	var decs []api.Dec
	for _, p := range all {
		decs = append(decs, p.Q, p.Left, p.Shares)
	}
	return decs
}

// spoil writes over each list by itself, and fails if that shows in another one of them.
func spoil(t *testing.T, lists []api.Nat) {
	t.Helper()
	for i, list := range lists {
		for j := range list {
			list[j] = uint64(i) + 1000
		}
	}
	for i, list := range lists {
		for _, limb := range list {
			if limb != uint64(i)+1000 {
				t.Fatal("two lists of one answer share memory")
			}
		}
	}
}

// DOC.md, what holds everywhere, 3: P15.3 to P15.8 answer new memory, and what is answered may be written over.
func TestAnswersAreNew(t *testing.T) {
	r := rand.New(rand.NewSource(191))
	for range 60 {
		s, b := drawnRun(r)
		for range 100 {
			step(t, r, s, b)
			val, del := drawnPair(r, b)
			other, n := drawnUser(r), drawnCoins(r)
			switch r.Intn(4) {
			case 0:
				z, _ := stake.Create(s, val, 0, n)
				b.create(val, 0, n)
				spoil(t, limbs(z))
			case 1:
				z, paid, _ := stake.Delegate(s, val, del, n)
				b.delegate(val, del, n)
				spoil(t, limbs(append(decsOf(paid), z)...))
			case 2:
				_, paid, _ := stake.Undelegate(s, val, del, n)
				b.undelegate(val, del, n)
				spoil(t, limbs(decsOf(paid)...))
			default:
				_, paid, _ := stake.Redelegate(s, val, other, del, n)
				b.redelegate(val, other, del, n)
				spoil(t, limbs(decsOf(paid...)...))
			}
			wantBook(t, "behind a spoilt answer", s, b)
		}
	}
}

// DOC.md, what holds everywhere, 3 and 10: Take neither changes nor keeps the shares that it is handed, which needn't be normal.
func TestWhatTakeIsHanded(t *testing.T) {
	for _, n := range []uint64{0, 1, 4, 10, 11} {
		for _, noughts := range []int{0, 1, 3} {
			s, b := begun()
			doCreate(t, s, b, 16, 0, 10)
			x := dec.Of(n)
			x.Raw = append(slices.Clone(x.Raw), make(api.Nat, noughts)...)
			x.Raw = append(x.Raw, 11, 12, 13)[:len(x.Raw)]
			was := slices.Clone(x.Raw[:cap(x.Raw)])
			r, paid, e := stake.Take(s, 16, 16, x)
			want, wanted, f := b.take(16, 16, coins(n))
			wantErr(t, "not normal: Take", e, f)
			wantCoins(t, "not normal: Take", r, want)
			wantPaid(t, "not normal: Take", paid, wanted)
			if !slices.Equal(x.Raw[:cap(x.Raw)], was) {
				t.Fatal("an argument was changed")
			}
			spoil(t, limbs(append(decsOf(paid), x)...))
			wantBook(t, "behind a spoilt argument", s, b)
		}
	}
}

// DOC.md, what holds everywhere, 2: a nil list and an empty one are the same.
func TestNoLimbs(t *testing.T) {
	s, b := begun()
	doCreate(t, s, b, 16, 0, 10)
	for _, x := range []api.Dec{{}, {Raw: api.Nat{}}, {Raw: api.Nat{0, 0}}} {
		_, _, e := stake.Take(s, 16, 16, x)
		wantErr(t, "P15.5: no limbs", e, api.ErrStakeZero)
		wantBook(t, "P15.5: no limbs", s, b)
	}
	doTake(t, s, b, 16, 16, new(big.Int))
}
