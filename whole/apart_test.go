package whole_test

import (
	"math/rand"
	"slices"
	"sync"
	"testing"

	"glean/api"
	"glean/app"
	"glean/audit"
	"glean/query"
)

// told: what a run's blocks come to, told by an engine and an audit while nobody else asks anything.
type told struct {
	reports []api.Report
	pairs   [][]api.Pair
	answers [][]api.Answer
	audited [][]api.Audited
}

// claims tells questions for all claims.
func claims() []api.Ask {
	var all []api.Ask
	for _, val := range users() {
		for _, del := range users() {
			all = append(all, api.Ask{Kind: api.AskClaim, A: val, B: del})
		}
	}
	return all
}

// alone tells what a run comes to.
func alone(t *testing.T, x run) told {
	t.Helper()
	var w told
	a, err := audit.New(x.begin)
	must(t, a, err)
	through(t, x, func(height int, e *app.Engine, report api.Report) {
		answers, err := query.New(e.Store()).Many(claims(), 1)
		must(t, answers, err)
		_, audited, err := a.Block(x.blocks[height-1])
		must(t, audited, err)
		w.reports, w.pairs = append(w.reports, report), append(w.pairs, e.Store().Dump())
		w.answers, w.audited = append(w.answers, answers), append(w.audited, audited)
	})
	return w
}

// sameAudited tells whether two payments were audited alike.
func sameAudited(x, y api.Audited) bool {
	return x.Val == y.Val && x.Del == y.Del && x.W == y.W && sameDec(x.Q, y.Q) && slices.Equal(x.E.Num, y.E.Num) && slices.Equal(x.E.Den, y.E.Den) && x.P == y.P && x.K == y.K && x.Fits == y.Fits
}

// player: a run under way: an engine, an audit that goes at its own pace, and a view of each state so far.
type player struct {
	x       run
	want    told
	engine  *app.Engine
	audit   *audit.Audit
	views   []*query.View
	audited int
}

// newPlayer tells one at a run's beginning.
func newPlayer(t *testing.T, x run) *player {
	t.Helper()
	a, err := audit.New(x.begin)
	return &player{x: x, want: alone(t, x), engine: begun(t, x.begin), audit: must(t, a, err)}
}

// block has the engine do the next block.
func (p *player) block(t *testing.T) {
	i := len(p.views)
	if i == len(p.x.blocks) {
		return
	}
	report, _ := p.engine.Block(p.x.blocks[i])
	if !sameReport(report, p.want.reports[i]) || !slices.EqualFunc(p.engine.Store().Dump(), p.want.pairs[i], samePair) {
		t.Errorf("P30.13: block %d beside others: %+v, not %+v", i, report, p.want.reports[i])
	}
	p.views = append(p.views, query.New(p.engine.Store()))
}

// hold has the audit do the next block.
func (p *player) hold(t *testing.T) {
	i := p.audited
	if i == len(p.x.blocks) {
		return
	}
	p.audited++
	report, all, _ := p.audit.Block(p.x.blocks[i])
	if !sameReport(report, p.want.reports[i]) || !slices.EqualFunc(all, p.want.audited[i], sameAudited) {
		t.Errorf("P30.13: audited beside others: %+v, %+v", report, all)
	}
}

// ask asks a view of some block so far.
func (p *player) ask(t *testing.T, r *rand.Rand) {
	if len(p.views) == 0 {
		return
	}
	i := r.Intn(len(p.views))
	if got, _ := p.views[i].Many(claims(), 1+r.Intn(api.MaxWorkers)); !slices.EqualFunc(got, p.want.answers[i], sameAnswer) {
		t.Errorf("P30.13: asked beside others: %+v, not %+v", got, p.want.answers[i])
	}
}

// step does one of these, whichever is drawn.
func (p *player) step(t *testing.T, r *rand.Rand) {
	switch r.Intn(5) {
	case 0, 1:
		p.block(t)
	case 2, 3:
		p.hold(t)
	default:
		p.ask(t, r)
	}
}

// P30.13: engines, audits and views tell what they tell alone, whatever order they are asked in.
func TestApart(t *testing.T) {
	r := rand.New(rand.NewSource(3016))
	for range 5 {
		var all []*player
		for range 4 {
			all = append(all, newPlayer(t, drawnRun(t, r, 10)))
		}
		all = append(all, newPlayer(t, all[0].x)) // the same run twice
		for range 200 {
			all[r.Intn(len(all))].step(t, r)
		}
	}
}

// P30.13: also by several goroutines, each of which has its own.
func TestApartAtTheSameTime(t *testing.T) {
	r := rand.New(rand.NewSource(3017))
	var group sync.WaitGroup
	for k := range 8 {
		p := newPlayer(t, drawnRun(t, r, 10))
		group.Go(func() {
			own := rand.New(rand.NewSource(int64(k)))
			for range 40 {
				p.step(t, own)
			}
		})
	}
	group.Wait()
}
