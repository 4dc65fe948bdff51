/- Lists of api.Pair in memory: one more at the end. -/
import Derived.Test.YtplminnejheceaaPgHe
namespace Go.Proofs.Ytplminnejheceaa
namespace Pg
open Go.RowKit Go.Lib
attribute [local go_sem] Oper.semAt_some
theorem KQ : Kd Try.prog 28 45 2 48 (.agg #[.slice none 0 0, .slice none 0 0]) := ⟨by kernel_rfl, by kernel_rfl, rfl, by simp [Value.cells, Value.oneCell'], by decide⟩
/-- a list of pairs, es, in blocks from B on -/
structure PrA (w : World) (B : Nat) (v : Value) (es : List En) : Prop where
  ex : (v = .slice none 0 0 ∧ es = []) ∨ ∃ b c, v = .slice (some ⟨b, 0, none⟩) es.length c ∧ B ≤ b ∧ Rw w 45 2 b es.length c (flat es)
  ents : ∀ e ∈ es, EnA w (B ≤ ·) e
theorem PrA.shape {w : World} {B : Nat} {v : Value} {es : List En} (h : PrA w B v es) : ∃ ao c, v = .slice ao es.length c := by
  rcases h.ex with ⟨rfl, rfl⟩ | ⟨b, c, rfl, _⟩
  · exact ⟨none, 0, rfl⟩
  · exact ⟨_, c, rfl⟩
theorem PrA.keep {w w' : World} {B : Nat} {v : Value} {es : List En} (h : PrA w B v es) (hb : Below w.heap.size w w') : PrA w' B v es :=
  ⟨h.ex.imp id (fun ⟨b, c, e, hl, hR⟩ => ⟨b, c, e, hl, hR.keep hb⟩), fun e he => (h.ents e he).keep hb⟩
/-- what writes over no pair and over bytes of others only -/
theorem PrA.spd {w w' : World} {B : Nat} {D : Nat → Prop} {v : Value} {es : List En} (h : PrA w B v es) (hT : ∀ e ∈ es, EnA w (fun b => B ≤ b ∧ ¬ D b) e) (hs : Spd D w w') : PrA w' B v es := by
  refine ⟨h.ex.imp id ?_, fun e he => ?_⟩
  · rintro ⟨b, c, e, hl, hR⟩
    refine ⟨b, c, e, hl, hR.chg hs.chg fun ⟨_, cs, k⟩ => ?_⟩
    obtain ⟨ds, k'⟩ := hR.kind
    have := (k.eq k').2
    revert this
    decide
  · have := hT e he
    exact ⟨(hs.ob this.k (fun b hb => hb.2)).mono (fun _ _ h => h.1), (hs.ob this.v (fun b hb => hb.2)).mono (fun _ _ h => h.1)⟩
/-- only lists of pairs in blocks from B on are written over -/
structure Spr (B : Nat) (w w' : World) : Prop where
  chg : Chg (fun b => B ≤ b ∧ ∃ cs, Blk w b cs 45) w w'
theorem Spr.keeps {B B' : Nat} {w w' : World} (h : Spr B w w') {Tp : TypeId → Prop} (hT : Tp 45) : KeepsT Tp B' w w' :=
  ⟨h.chg.size, fun k o _ hk ho => (h.chg.same k (lt_of_block hk) (fun ⟨_, cs, hb⟩ => by
    have e := hb.blk
    rw [hk] at e
    cases e
    exact ho _ _ _ rfl hT)).trans hk⟩
theorem Spr.ob {B : Nat} {w w' : World} (h : Spr B w w') {D : Nat → Prop} {v : Value} {l : List Int} (hv : OB w D v l) : OB w' D v l :=
  hv.chg h.chg (fun b ⟨_, cs, k⟩ ds k' => by
    have := (k.eq k').2
    revert this
    decide)
theorem Spr.blk {B : Nat} {w w' : World} (h : Spr B w w') {b : Nat} {cs : List Value} {t : TypeId} (hb : Blk w b cs t) (ht : t ≠ 45) : Blk w' b cs t :=
  hb.chg h.chg (fun ⟨_, _, k⟩ => ht (hb.eq k).2)
theorem Spr.of {B : Nat} {w w' : World} (h : Below w.heap.size w w') : Spr B w w' := ⟨Chg.of h⟩
theorem app_pair {w : World} {B : Nat} {ov : Value} {es : List En} {e : En} {a : Addr} (ty : TypeId) (h : PrA w B ov es) (hB : B ≤ w.heap.size) (he : EnA w (B ≤ ·) e) (hl : es.length ≤ 2000000000) (c0 : w.cell? (a.add 0) = some e.kv) (c1 : w.cell? (a.add 1) = some e.vv) :
    ∃ ov' w', (Builtin.append_ #[28, 28] ty #[ov, .slice (some a) 1 1]).run Try.prog w = .ok ov' w' ∧ PrA w' B ov' (es ++ [e]) ∧ Spr B w w' := by
  have hnews : ∀ j u, [e.kv, e.vv][j]? = some u → w.cell? (a.add j) = some u := fun j u hj => by
    match j with
    | 0 => simp at hj; rw [← hj]; exact c0
    | 1 => simp at hj; rw [← hj]; exact c1
    | k + 2 => simp at hj
  rcases h.ex with ⟨rfl, rfl⟩ | ⟨b, c, rfl, hb, hR⟩
  · obtain ⟨c', w', hr, hR, hw⟩ := app_nil (w := w) KQ ty a 1 1 [e.kv, e.vv] rfl hnews (by omega) (by omega) (by omega)
    refine ⟨_, w', hr, ⟨.inr ⟨_, c', rfl, hB, hR⟩, fun x hx => ?_⟩, Spr.of hw⟩
    simp at hx
    subst hx
    exact he.keep hw
  · obtain ⟨ak, nk, hk1⟩ := he.k.shape
    obtain ⟨av, nv, hv1⟩ := he.v.shape
    obtain ⟨b', c', w', hr, hb', hR', hw⟩ := app_row (w := w) KQ ty hR a 1 1 [e.kv, e.vv] rfl hnews (by rw [hk1, hv1]; simp [Value.oneCell']) (by omega) (by omega)
    obtain ⟨cs0, k0⟩ := hR.kind
    have hS : Spr B w w' := ⟨hw.mono (fun x _ ex => ⟨ex ▸ hb, cs0, ex ▸ k0⟩)⟩
    refine ⟨_, w', hr, ⟨.inr ⟨b', c', by simp, by rcases hb' with rfl | rfl <;> assumption, by rw [flat_append, List.length_append]; exact hR'⟩, fun x hx => ?_⟩, hS⟩
    have hx' : EnA w (B ≤ ·) x := by
      rcases List.mem_append.1 hx with hx | hx
      · exact h.ents x hx
      · simp at hx; rw [hx]; exact he
    exact ⟨hS.ob hx'.k, hS.ob hx'.v⟩
theorem ld_q {w : World} {g : Nat} {v : Value} (c : Blk w g [v] 28) : (loadVar 28 ⟨g, 0, none⟩).run Try.prog w = .ok v w := by
  have c := c.cell (i := 0) rfl
  go_simp
theorem run_bq {a : Act} {w : World} {o : Oper} {k : Nat} {kv vv : Value} (ho : o.op = .buildSlice 28 1 #[(0, .tmp k)]) (hk : a.eval (.tmp k) = .agg #[kv, vv]) : (execOp a.eval o).run Try.prog w = .ok (.value (.slice (some ⟨w.heap.size, 0, none⟩) 1 1)) (w.alloc (.cells #[kv, vv] 45)) := by
  have hk' : a.tmps[k]?.getD undef = .agg #[kv, vv] := by simpa [Act.eval] using hk
  simp only [execOp, ho]
  go_simp
theorem run_sq {a : Act} {w : World} {o : Oper} (k q : Nat) {g n c : Nat} {u : Value} {ao : Option Addr} (ho : o.op = .store 28 (.tmp k) (.tmp q)) (hp : a.eval (.tmp k) = .pointer (some ⟨g, 0, none⟩)) (hq : a.eval (.tmp q) = .slice ao n c) (hb : Blk w g [u] 28) :
    (execOp a.eval o).run Try.prog w = .ok .skip (w.setCell ⟨g, 0, none⟩ (.slice ao n c)) := by
  have hc := hb.cell (i := 0) rfl
  have hf := hb.free 0
  simp only [execOp, ho, hp, hq]
  go_simp
theorem run_ap {a : Act} {w w' : World} {o : Oper} {x y : Nat} {T ty : TypeId} {u v r : Value} (hty : o.type = ty) (ho : o.op = .call { callee := .builtin .append, args := #[.tmp x, .tmp y], argTypes := #[T, T] }) (hx : a.eval (.tmp x) = u) (hy : a.eval (.tmp y) = v) (hr : (Builtin.append_ #[T, T] ty #[u, v]).run Try.prog w = .ok r w') :
    (execOp a.eval o).run Try.prog w = .ok (.value r) w' := by
  subst hty
  unfold execOp
  simp only [ho, resolve, invoke, builtin, Sem.run_bind, Sem.run_pure, Result.andThen_ok, List.map_toArray, List.map_cons, List.map_nil, hx, hy, hr]
end Pg
end Go.Proofs.Ytplminnejheceaa
