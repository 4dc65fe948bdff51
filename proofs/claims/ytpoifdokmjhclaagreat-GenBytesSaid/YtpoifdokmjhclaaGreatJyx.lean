/- Several texts, joined: PwC, SdA, DiA, FoF, Dec1. -/
import Derived.Test.YtpoifdokmjhclaaGreatJyw
import Derived.Test.YtpoifdokmjhclaaGreatJyd
import Derived.Test.YtpoifdokmjhclaaGreatJya
import Derived.Handy
namespace Go.Proofs.YtpoifdokmjhclaaGreat
namespace Pw
open Go.RowKit Go.Lib Pg Kv Bk
attribute [local go_sem] Oper.semAt_some
theorem KU : Kd Tryz.prog 52 22 1 8 (.int .u64 0) := ⟨by kernel_rfl, by kernel_rfl, rfl, by simp [Value.cells, Value.oneCell'], by decide⟩
/-- numbers in a list of their own, in a block from B on -/
structure UA (w : World) (B : Nat) (v : Value) (l : List Int) : Prop where
  ex : (v = .slice none 0 0 ∧ l = []) ∨ ∃ b c, v = .slice (some ⟨b, 0, none⟩) l.length c ∧ B ≤ b ∧ Rw w 22 1 b l.length c (l.map (Value.int .u64))
section
variable {w w' : World} {B B' : Nat} {v : Value} {l : List Int}
theorem UA.shape (h : UA w B v l) : ∃ ao c, v = .slice ao l.length c := by
  rcases h.ex with ⟨rfl, rfl⟩ | ⟨b, c, rfl, _⟩
  · exact ⟨none, 0, rfl⟩
  · exact ⟨_, c, rfl⟩
theorem UA.nil (w : World) (B : Nat) : UA w B (.slice none 0 0) [] := ⟨.inl ⟨rfl, rfl⟩⟩
theorem UA.keep (h : UA w B v l) (hb : Below w.heap.size w w') : UA w' B v l := ⟨h.ex.imp id (fun ⟨b, c, e, hl, hR⟩ => ⟨b, c, e, hl, hR.keep hb⟩)⟩
theorem UA.chg {F : Nat → Prop} (h : UA w B v l) (hc : Chg F w w') (hF : ∀ b, F b → b < B) : UA w' B v l := ⟨h.ex.imp id (fun ⟨b, c, e, hl, hR⟩ => ⟨b, c, e, hl, hR.chg hc (fun hf => by have := hF b hf; omega)⟩)⟩
theorem UA.low (h : UA w B v l) (hB : B' ≤ B) : UA w B' v l := ⟨h.ex.imp id (fun ⟨b, c, e, hl, hR⟩ => ⟨b, c, e, Nat.le_trans hB hl, hR⟩)⟩
theorem UA.rcd {C : Nat} (h : UA w B v l) (hr : Rec C w w') : UA w' B v l := ⟨h.ex.imp id (fun ⟨b, c, e, hl, hR⟩ => ⟨b, c, e, hl, Kv.Rw.rcd hR hr⟩)⟩
theorem app_u {x : Int} {a : Addr} (ty : TypeId) (h : UA w B v l) (hB : B ≤ w.heap.size) (hl : l.length ≤ 2000000000) (c0 : w.cell? (a.add 0) = some (.int .u64 x)) :
    ∃ v' w', (Builtin.append_ #[52, 52] ty #[v, .slice (some a) 1 1]).run Tryz.prog w = .ok v' w' ∧ UA w' B v' (l ++ [x]) ∧ Chg (fun b => B ≤ b ∧ ∃ cs, Blk w b cs 22) w w' := by
  have hnews : ∀ j u, [Value.int .u64 x][j]? = some u → w.cell? (a.add j) = some u := fun j u hj => by
    match j with
    | 0 => simp at hj; rw [← hj]; exact c0
    | k + 1 => simp at hj
  rcases h.ex with ⟨rfl, rfl⟩ | ⟨b, c, rfl, hb, hR⟩
  · obtain ⟨c', w', hr, hR, hw⟩ := app_nil (w := w) KU ty a 1 1 [.int .u64 x] rfl hnews (by omega) (by omega) (by omega)
    exact ⟨_, w', hr, ⟨.inr ⟨_, c', rfl, hB, hR⟩⟩, Chg.of hw⟩
  · obtain ⟨b', c', w', hr, hb', hR', hC⟩ := app_row KU ty hR a 1 1 [.int .u64 x] rfl hnews (fun u hu => by simp at hu; subst hu; rfl) (by omega) (by omega)
    refine ⟨_, w', hr, ⟨.inr ⟨b', c', by simp, by rcases hb' with rfl | rfl <;> omega, ?_⟩⟩, hC.mono (fun y _ e => ?_)⟩
    · simpa using hR'
    · have e' : y = b := e
      subst e'
      exact ⟨hb, hR.kind⟩
end
theorem wli_ap16 {F : Fence} {n : Nat} {ops : Array Oper} {Q : Exit → Act → World → Prop} {rest : List Oper} {pos : String} {after : Array Edge} {a : Act} {w w' : World} {u v r : Value} (hF : ∀ f, F.fn f) (hu : a.eval (.tmp 12) = u) (hv : a.eval (.tmp 15) = v) (hr : (Builtin.append_ #[52, 52] 52 #[u, v]).run Tryz.prog w = .ok r w') (h : wpListIn F n Tryz.prog ops Q rest (a.put (some 16) r) w') :
    wpListIn F n Tryz.prog ops Q ({ dst := some 16, op := .call { callee := .builtin .append, args := #[.tmp 12, .tmp 15], argTypes := #[52, 52] }, type := 52, pos := pos, after := after, guard := none } :: rest) a w :=
  Ky.wli_val rfl hF (Oper.semAt_eq _ _ _ (fun c h => by cases h)) (Ky.run_app (x := 12) (y := 15) rfl rfl hu hv hr) h
theorem wli_ap12 {F : Fence} {n : Nat} {ops : Array Oper} {Q : Exit → Act → World → Prop} {rest : List Oper} {pos : String} {after : Array Edge} {a : Act} {w w' : World} {u v r : Value} (hF : ∀ f, F.fn f) (hu : a.eval (.tmp 8) = u) (hv : a.eval (.tmp 11) = v) (hr : (Builtin.append_ #[52, 52] 52 #[u, v]).run Tryz.prog w = .ok r w') (h : wpListIn F n Tryz.prog ops Q rest (a.put (some 12) r) w') :
    wpListIn F n Tryz.prog ops Q ({ dst := some 12, op := .call { callee := .builtin .append, args := #[.tmp 8, .tmp 11], argTypes := #[52, 52] }, type := 52, pos := pos, after := after, guard := none } :: rest) a w :=
  Ky.wli_val rfl hF (Oper.semAt_eq _ _ _ (fun c h => by cases h)) (Ky.run_app (x := 8) (y := 11) rfl rfl hu hv hr) h
theorem sa_rcd {w w' : World} {K D : Nat → Prop} {g n N B : Nat} {E : Ents} {W : List Ents} (h : SA w K D g E W n N) (hr : Rec B w w') : SA w' K D g E W n N :=
  h.same (fun b hK => by obtain ⟨cs, t, k, _⟩ := h.kind b hK; exact (hr.same b _ k.blk (.inr rfl)).trans k.blk.symm) (fun b _ _ hk => by obtain ⟨cs, k⟩ := hk; exact (hr.same b _ k.blk (.inr rfl)).trans k.blk.symm)
/-- while the numbers are gathered -/
structure TopI (Wb : World) (a t : Nat) (R : World) (K D : Nat → Prop) (g : Nat) (E : Ents) (Wn : List Ents) (N x : Nat) (l : List Int) (V : World) : Prop where
  chg : Chg (fun b => b = g ∨ b = t) Wb V
  sa : SA V K D g E Wn x N
  out : ∃ v, Blk V t [v] 52 ∧ UA V R.heap.size v l
  ext : ExtC a R V
structure TopO (Wb : World) (t : Nat) (K D : Nat → Prop) (g : Nat) (E : Ents) (Wn : List Ents) (N x : Nat) (V : World) : Prop where
  chg : Chg (fun b => b = g ∨ b = t) Wb V
  sa : SA V K D g E Wn x N
  out : Blk V t [.slice none 0 0] 52
section
variable {Wb V V' R : World} {a t g x N : Nat} {K D : Nat → Prop} {E : Ents} {Wn : List Ents} {l : List Int}
theorem top_ne {v : Value} (h : SA V K D g E Wn x N) (h1 : Blk V t [v] 52) : t ≠ g := fun e => by
  obtain ⟨cs, k⟩ := h.kv
  subst e
  exact absurd (h1.eq k).2 (by decide)
theorem TopI.rcd (h : TopI Wb a t R K D g E Wn N x l V) (hr : Rec Wb.heap.size V V') : TopI Wb a t R K D g E Wn N x l V' := by
  obtain ⟨v, h1, h2⟩ := h.out
  exact ⟨chg_rcd h.chg hr (Nat.le_refl _), sa_rcd h.sa hr, ⟨v, rec_cel h1 hr, h2.rcd hr⟩, h.ext.rcd hr⟩
theorem TopO.rcd (h : TopO Wb t K D g E Wn N x V) (hr : Rec Wb.heap.size V V') : TopO Wb t K D g E Wn N x V' := ⟨chg_rcd h.chg hr (Nat.le_refl _), sa_rcd h.sa hr, rec_cel h.out hr⟩
theorem TopI.tick (h : TopI Wb a t R K D g E Wn N x l V) (hg : g < a) (hR : a ≤ R.heap.size) : TopI Wb a t R K D g E Wn N (x + 1) l (tick g V x) := by
  obtain ⟨v, h1, h2⟩ := h.out
  have hc := chg_tick g x V
  exact ⟨h.chg.trans hc (fun b _ e => .inl e), h.sa.tick, ⟨v, h1.chg hc (top_ne h.sa h1), h2.chg hc (fun b e => by have e' : b = g := e; omega)⟩, h.ext.tick hg⟩
theorem TopO.tick (h : TopO Wb t K D g E Wn N x V) (hg : g < a) (hE : ExtC a R V) : TopI Wb a t R K D g E Wn N (x + 1) [] (tick g V x) := by
  have hc := chg_tick g x V
  exact ⟨h.chg.trans hc (fun b _ e => .inl e), h.sa.tick, ⟨_, h.out.chg hc (top_ne h.sa h.out), UA.nil _ _⟩, hE.tick hg⟩
theorem top_rd {v : Value} (hc : Chg (fun b => b = g ∨ b = t) Wb V) (hs : SA V K D g E Wn x N) (h1 : Blk V t [v] 52) : RdS Wb (fun b => b = g ∨ b = t) K D g E Wn N V := by
  refine ⟨hc, fun b hb cs k => ?_, _, hs⟩
  rcases hb with rfl | rfl
  · obtain ⟨cs', k'⟩ := hs.kv
    exact absurd (k.eq k').2 (by decide)
  · exact absurd (k.eq h1).2 (by decide)
end
set_option maxHeartbeats 8000000 in
set_option maxRecDepth 100000 in
theorem top_any_sa {w : World} {K D : Nat → Prop} {g x0 N m : Nat} {E : Ents} {Wn : List Ents} (hS : SA w K D g E Wn x0 N) (hm0 : 0 < m) (hm : m ≤ 1000000000) (hRk : ∀ x ∈ E, [105] <+: x.1 → Ky.frm (10 : Nat) = Ky.fIn x.1) (hN : N ≤ 100000000) (hx : x0 + N ≤ 2000000000000000000) :
    Calls Tryz.prog 100 #[.pointer (some ⟨g, 0, none⟩), .int .i64 m] w fun e w' => ∃ v j, e = .returned v ∧ UA w' w.heap.size v (((pks 10 105 E).map Prod.snd).take m) ∧ j = min m (pks 10 105 E).length ∧ SA w' K D g E Wn (x0 + 1 + j) N ∧ Chg (· = g) w w' := by
  have hglt : g < w.heap.size := hS.lt hS.top
  have b1 := below_alloc w (.cells #[.int .i64 m] 3)
  have b2 := below_alloc (w.alloc (.cells #[.int .i64 m] 3)) (.cells #[.slice none 0 0] 52)
  have c1 := (blk_new w [.int .i64 m] 3).keep b2
  have c2 := blk_new (w.alloc (.cells #[.int .i64 m] 3)) [.slice none 0 0] 52
  have s1 : (w.alloc (.cells #[.int .i64 m] 3)).heap.size = w.heap.size + 1 := by simp
  have s2 : ((w.alloc (.cells #[.int .i64 m] 3)).alloc (.cells #[.slice none 0 0] 52)).heap.size = w.heap.size + 2 := by simp
  rw [s1] at c2
  have b12 := joinB b1 b2
  have hm1 : ¬ ((m : Int) < 1) := by omega
  obtain ⟨Wp, hWp⟩ : ∃ Wp, Hid ((w.alloc (.cells #[.int .i64 m] 3)).alloc (.cells #[.slice none 0 0] 52) = Wp) := ⟨_, rfl⟩
  rw [hWp.out] at c1 c2 s2 b12
  clear b1 b2 s1
  have HS := hid3 hS
  have HRK := hid3 hRk
  clear hS hRk
  refine (callsIn_wide (n := 0)).1 ?_
  refine callsIn_of_wp_marks Tryz.func100 rfl trivial ?_ rfl
  simp only [Tryz.ntmps100, List.size_toArray, List.length_cons, List.length_nil, Nat.reduceAdd, Nat.reduceSub, Array.replicate_succ, Array.replicate_zero, List.push_toArray, List.append_toArray, List.nil_append, List.cons_append]
  gi_wp2_with (refine ⟨trivial, rfl, ?_⟩; gi_at_call 147; rw [hWp.out]; refine (callsIn_wide.2 (marked_mk (r := 10))).mono ?_; rintro e' Wb ⟨bs, bk, rfl, hbs, hbk, k1, k2, B1⟩)
  have BB := joinB b12 B1
  have T1 := c2.keep B1
  have SB := HS.out.keep BB
  have zb := B1.size
  have hKt : ∀ b, K b → b < w.heap.size := fun b hb => HS.out.lt hb
  have IT := marked_itr (X := fun b => b = g ∨ b = w.heap.size + 1) (r := 10) (m0 := 105) SB k1 (fun h => by rcases h with h | h <;> omega) k2 (fun h => by rcases h with h | h <;> omega) (by decide) (by decide) of10 HRK.out (fun b hb => hb.elim .inl (fun e => .inr (fun hk => by have := hKt b hk; omega))) (fun b hb => by have := T1.lt; rcases hb with h | h <;> omega) hN hx
  have I0 : TopO Wb (w.heap.size + 1) K D g E Wn N x0 Wb := ⟨Chg.refl _ _, SB, T1⟩
  have HB := hid3 BB
  have HN := hid3 (c1.keep B1)
  have hlen : ((pks 10 105 E).map Prod.snd).length = (pks 10 105 E).length := List.length_map ..
  clear SB k1 k2 B1 BB c2 c1
  refine rf_outerE IT (by rfl) (enters_of Tryz.func193 (by kernel_rfl) rfl) (fun i args n V V' h hc => h) (fun i args n V h => by obtain ⟨c, _, rfl⟩ := h; rfl)
    (fun V => TopO Wb (w.heap.size + 1) K D g E Wn N x0 V)
    (fun R i V => Wb.heap.size + 2 ≤ R.heap.size ∧ i < m ∧ TopI Wb (Wb.heap.size + 2) (w.heap.size + 1) R K D g E Wn N (x0 + 1 + i) (((pks 10 105 E).map Prod.snd).take i) V)
    (fun R i V => Wb.heap.size + 2 ≤ R.heap.size ∧ i < m ∧ TopI Wb (Wb.heap.size + 2) (w.heap.size + 1) R K D g E Wn N (x0 + 1 + i + 1) (((pks 10 105 E).map Prod.snd).take i) V)
    (fun R c i V => c = .exit 0 ∧ i = m ∧ TopI Wb (Wb.heap.size + 2) (w.heap.size + 1) R K D g E Wn N (x0 + 1 + i) (((pks 10 105 E).map Prod.snd).take i) V)
    (fun A B hx hr => hx.rcd hr) (fun R i A B hx hr => ⟨hx.1, hx.2.1, hx.2.2.rcd hr⟩) (fun R i A B hx hr => ⟨hx.1, hx.2.1, hx.2.2.rcd hr⟩) (fun R c i A B hx hr => ⟨hx.1, hx.2.1, hx.2.2.rcd hr⟩) (by omega)
    (fun V hv => by have q := hv.sa.cnt; exact ⟨q.1, q.2, top_rd hv.chg hv.sa hv.out, fun R hR hE => ⟨hR, hm0, by simpa using hv.tick (by omega) hE⟩⟩)
    (fun R i V hv => by have hT := hv.2.2; have q := hT.sa.cnt; obtain ⟨v, o1, o2⟩ := hT.out; exact ⟨q.1, q.2, top_rd hT.chg hT.sa o1, hT.ext, fun _ => ⟨hv.1, hv.2.1, hT.tick (by omega) hv.1⟩⟩)
    I0 ?_ ?_ ?_
  · rintro R hR l2 i args V Wv hl hlV hrec hiN ⟨-, him, hT⟩ hb ⟨c, hc, rfl⟩
    have hpi : ((pks 10 105 E).map Prod.snd)[i]? = some c.2 := by rw [List.getElem?_map, hc]; rfl
    simp
    gi_wp2
    refine ⟨below_alloc _ _, ?_⟩
    intro V2 W2 _ him2 hT2 hb2 hAr2 hoth hsz3 hV2 r hrec2
    obtain ⟨v, o1, o2⟩ := hT2.out
    have hlt : i < ((pks 10 105 E).map Prod.snd).length := (List.getElem?_eq_some_iff.1 hpi).1
    have hli : (((pks 10 105 E).map Prod.snd).take i).length = i := by rw [List.length_take]; omega
    obtain ⟨ao, cc, rfl⟩ := o2.shape
    rw [hli] at o1 o2
    have zV := hb.size
    have z2 := hb2.size
    have zT := hT2.chg.size
    have zE := hT2.ext.size
    have kk : Blk W2 Wv.heap.size [.int .i64 (10 : Nat), .int .u64 c.1, .int .u64 c.2] 103 := ⟨(hoth _ (by omega)).trans (blk_new Wv [.int .i64 (10 : Nat), .int .u64 c.1, .int .u64 c.2] 103).blk⟩
    have P0 := o1.keep hb2
    have Q0 := o2.keep hb2
    have hBa := below_alloc W2 (.cells #[.int .u64 c.2] 22)
    have N4 := blk_new W2 [.int .u64 c.2] 22
    obtain ⟨W4, hW4⟩ : ∃ W4, Hid (W2.alloc (.cells #[.int .u64 c.2] 22) = W4) := ⟨_, rfl⟩
    rw [hW4.out] at hBa N4
    have z4 := hBa.size
    obtain ⟨v5, w5, hr5, U5, C5⟩ := app_u (a := ⟨W2.heap.size, 0, none⟩) 52 (Q0.keep hBa) (by omega) (by have := hT2.sa.size; have : ((pks 10 105 E).map Prod.snd).length ≤ E.length := (by rw [List.length_map]; unfold pks; rw [List.length_map]; exact List.length_filter_le _ _); omega) (N4.cell (i := 0) rfl)
    have hl5 : (((pks 10 105 E).map Prod.snd).take i ++ [c.2]).length = i + 1 := by rw [List.length_append, hli]; rfl
    obtain ⟨a5, c5, rfl⟩ := U5.shape
    rw [hl5] at U5 hr5
    have he5 : ((pks 10 105 E).map Prod.snd).take (i + 1) = ((pks 10 105 E).map Prod.snd).take i ++ [c.2] := by rw [List.take_add_one, hpi]; rfl
    have S5 := (P0.keep hBa).chg C5 (fun h => by obtain ⟨_, cs, k⟩ := h; exact absurd (k.eq (P0.keep hBa)).2 (by decide))
    obtain ⟨q1, hq1⟩ : ∃ q1, Hid (i + 1 = q1) := ⟨_, rfl⟩
    rw [hq1.out] at U5 hr5
    have hC6 : Chg (· = w.heap.size + 1) w5 (w5.setCell ⟨w.heap.size + 1, 0, none⟩ (.slice a5 q1 c5)) := (Chg.refl (fun x => x = w.heap.size + 1) w5).cell (.inl (by rfl)) _
    have S6 := S5.setCell (i := 0) (.slice a5 q1 c5)
    have hK5 : KeepsT TpU Wb.heap.size W4 w5 := ⟨C5.size, fun k o _ h0 hs => (C5.same k (lt_of_block h0) (fun h => by
      obtain ⟨_, cs, kb⟩ := h
      rw [kb.blk] at h0
      cases h0
      exact hs _ _ _ rfl rfl)).trans h0⟩
    have hKe : KeepsT TpU Wb.heap.size W2 (w5.setCell ⟨w.heap.size + 1, 0, none⟩ (.slice a5 q1 c5)) := ((KeepsT.of hBa).trans hK5).trans ⟨hC6.size, fun k o hk h0 _ => (hC6.same k (lt_of_block h0) (fun e => by have e' : k = w.heap.size + 1 := e; have := T1.lt; omega)).trans h0⟩
    have hTI : TopI Wb (Wb.heap.size + 2) (w.heap.size + 1) R K D g E Wn N (x0 + 1 + q1) (((pks 10 105 E).map Prod.snd).take q1) (w5.setCell ⟨w.heap.size + 1, 0, none⟩ (.slice a5 q1 c5)) := by
      have hTl := T1.lt
      refine ⟨?_, ?_, ⟨_, S6, ?_⟩, ?_⟩
      · exact ((hT2.chg.trans (Chg.of (F := fun _ => False) (joinB hb2 hBa)) (fun _ _ h => h.elim)).trans C5 (fun b h1 h2 => by omega)).trans hC6 (fun b _ h => .inr h)
      · have q := ((hT2.sa.keep (joinB hb2 hBa)).chg C5 (fun b h1 hk => by have := hKt b hk; omega) (fun b h1 cs kk => by obtain ⟨_, cs', k'⟩ := h1; exact absurd (kk.eq k').2 (by decide))).chg hC6 (fun b e hk => by have e' : b = w.heap.size + 1 := e; have := hKt b hk; omega) (fun b e cs kk => by
          have e' : b = w.heap.size + 1 := e
          subst e'
          exact absurd (kk.eq S5).2 (by decide))
        rw [show x0 + 1 + q1 = x0 + 1 + i + 1 by have := hq1.out; omega]
        exact q
      · rw [← hq1.out, he5]
        have q := U5.chg hC6 (fun b e => by have e' : b = w.heap.size + 1 := e; omega)
        rw [← hq1.out] at q
        exact q
      · exact (((hT2.ext.keep hb2).keep hBa).chg C5 (fun b h => .inr h.1)).chg hC6 (fun b e => .inl (by have e' : b = w.heap.size + 1 := e; omega))
    have p0c := P0.cell (i := 0) rfl
    have kc := kk.cell (i := 2) rfl
    have s5c := S5.cell (i := 0) rfl
    have s5f := S5.free 0
    have t6c := S6.cell (i := 0) rfl
    have n6c := ((((((HN.out.chg hT2.chg (fun e => by rcases e with e | e <;> omega)).keep hb2).keep hBa).chg C5 (fun h => by omega))).chg hC6 (fun e => by have e' : w.heap.size = w.heap.size + 1 := e; omega)).cell (i := 0) rfl
    have HKE := hid3 hKe
    have HTI := hid3 hTI
    clear hT hoth hAr2 hb hT2 hb2 P0 Q0 N4 hBa U5 C5 S5 hC6 S6 hK5 hKe hTI o1 o2 kk hli hl5 he5 hpi hlt zV z2 zT zE z4 hc hsz3 hV2
    rw [← hW4.out] at hr5
    clear hW4
    by_cases hlast : q1 = m
    · subst hlast
      gi_wp2_with (first | (have gate := hr5; clear gate; (with_reducible refine wli_ap16 ?_ ?_ ?_ hr5 ?_); (exact fun _ => trivial); rfl; rfl; clear hr5))
      exact ⟨HKE.out, rfl, hq1.out, hq1.out ▸ HTI.out⟩
    · have hq : ¬ ((q1 : Int) = (m : Int)) := by omega
      gi_wp2_with (first | (have gate := hr5; clear gate; (with_reducible refine wli_ap16 ?_ ?_ ?_ hr5 ?_); (exact fun _ => trivial); rfl; rfl; clear hr5))
      exact ⟨HKE.out, hR, by have := hq1.out; omega, hq1.out ▸ HTI.out⟩
  · rintro R D' W' hR hD hK ⟨-, him, hT⟩
    obtain ⟨v, o1, o2⟩ := hT.out
    obtain ⟨ao, cc, rfl⟩ := o2.shape
    obtain ⟨ln, hln⟩ : ∃ ln, Hid ((((pks 10 105 E).map Prod.snd).take (pks 10 105 E).length).length = ln) := ⟨_, rfl⟩
    rw [hln.out] at o1 o2
    have h1c := o1.cell (i := 0) rfl
    have R3 := Rec.put hK rfl hD (.deferred none)
    have hT3 := hT.rcd R3
    have HH2 := hid3 o2
    have zW := HB.out.size
    clear o2
    gi_wp2
    refine ⟨by simp, .inl ⟨_, _, rfl, run_takeDeferred hK, ?_⟩⟩
    refine ⟨_, results_tmp rfl _ _ _, _, _, rfl, ?_, ?_, hT3.sa, ?_⟩
    · have q := (HH2.out.rcd R3).low (B' := w.heap.size) (by omega)
      rw [List.take_of_length_le (by rw [hlen]; omega)] at q ⊢
      exact q
    · rw [Nat.min_eq_right (by omega)]
    · exact (Chg.of (F := (· = g)) HB.out).trans hT3.chg (fun b hl e => e.elim id (fun e => by omega))
  · rintro R D' c i W' hR hD hK hiN ⟨rfl, him, hT⟩
    obtain ⟨v, o1, o2⟩ := hT.out
    obtain ⟨ao, cc, rfl⟩ := o2.shape
    obtain ⟨ln, hln⟩ : ∃ ln, Hid ((((pks 10 105 E).map Prod.snd).take (i + 1)).length = ln) := ⟨_, rfl⟩
    rw [hln.out] at o1 o2
    have h1c := o1.cell (i := 0) rfl
    have R3 := Rec.put hK rfl hD (.deferred none)
    have hT3 := hT.rcd R3
    have HH2 := hid3 o2
    have zW := HB.out.size
    clear o2
    gi_wp2
    refine ⟨by simp, .inl ⟨_, _, rfl, run_takeDeferred hK, ?_⟩⟩
    refine ⟨_, results_tmp rfl _ _ _, _, _, rfl, ?_, ?_, hT3.sa, ?_⟩
    · have q := (HH2.out.rcd R3).low (B' := w.heap.size) (by omega)
      rw [him] at q
      exact q
    · rw [Nat.min_eq_left (by omega)]; exact him
    · exact (Chg.of (F := (· = g)) HB.out).trans hT3.chg (fun b hl e => e.elim id (fun e => by omega))
set_option maxHeartbeats 8000000 in
set_option maxRecDepth 100000 in
theorem bonded_any_sa {w : World} {K D : Nat → Prop} {g x0 N  : Nat} {E : Ents} {Wn : List Ents} (hS : SA w K D g E Wn x0 N) (hRk : ∀ x ∈ E, [98] <+: x.1 → Ky.frm (11 : Nat) = Ky.fIn x.1) (hN : N ≤ 100000000) (hx : x0 + N ≤ 2000000000000000000) :
    Calls Tryz.prog 99 #[.pointer (some ⟨g, 0, none⟩)] w fun e w' => ∃ v j, e = .returned v ∧ UA w' w.heap.size v (((pks 11 98 E).map Prod.fst)) ∧ j = (pks 11 98 E).length ∧ SA w' K D g E Wn (x0 + 1 + j) N ∧ Chg (· = g) w w' := by
  have hglt : g < w.heap.size := hS.lt hS.top
  have b12 := below_alloc w (.cells #[.slice none 0 0] 52)
  have c2 := blk_new w [.slice none 0 0] 52
  have s2 : (w.alloc (.cells #[.slice none 0 0] 52)).heap.size = w.heap.size + 1 := by simp
  obtain ⟨Wp, hWp⟩ : ∃ Wp, Hid (w.alloc (.cells #[.slice none 0 0] 52) = Wp) := ⟨_, rfl⟩
  rw [hWp.out] at c2 s2 b12
  have HS := hid3 hS
  have HRK := hid3 hRk
  clear hS hRk
  refine (callsIn_wide (n := 0)).1 ?_
  refine callsIn_of_wp_marks Tryz.func99 rfl trivial ?_ rfl
  simp only [Tryz.ntmps99, List.size_toArray, List.length_cons, List.length_nil, Nat.reduceAdd, Nat.reduceSub, Array.replicate_succ, Array.replicate_zero, List.push_toArray, List.append_toArray, List.nil_append, List.cons_append]
  gi_wp2_with (refine ⟨trivial, rfl, ?_⟩; gi_at_call 147; rw [hWp.out]; refine (callsIn_wide.2 (marked_mk (r := 11))).mono ?_; rintro e' Wb ⟨bs, bk, rfl, hbs, hbk, k1, k2, B1⟩)
  have BB := joinB b12 B1
  have T1 := c2.keep B1
  have SB := HS.out.keep BB
  have zb := B1.size
  have hKt : ∀ b, K b → b < w.heap.size := fun b hb => HS.out.lt hb
  have IT := marked_itr (X := fun b => b = g ∨ b = w.heap.size) (r := 11) (m0 := 98) SB k1 (fun h => by rcases h with h | h <;> omega) k2 (fun h => by rcases h with h | h <;> omega) (by decide) (by decide) of11 HRK.out (fun b hb => hb.elim .inl (fun e => .inr (fun hk => by have := hKt b hk; omega))) (fun b hb => by have := T1.lt; rcases hb with h | h <;> omega) hN hx
  have I0 : TopO Wb (w.heap.size) K D g E Wn N x0 Wb := ⟨Chg.refl _ _, SB, T1⟩
  have HB := hid3 BB
  have hlen : ((pks 11 98 E).map Prod.fst).length = (pks 11 98 E).length := List.length_map ..
  clear SB k1 k2 B1 BB c2
  refine rf_outerE IT (by rfl) (enters_of Tryz.func193 (by kernel_rfl) rfl) (fun i args n V V' h hc => h) (fun i args n V h => by obtain ⟨c, _, rfl⟩ := h; rfl)
    (fun V => TopO Wb (w.heap.size) K D g E Wn N x0 V)
    (fun R i V => Wb.heap.size + 2 ≤ R.heap.size ∧ TopI Wb (Wb.heap.size + 2) (w.heap.size) R K D g E Wn N (x0 + 1 + i) (((pks 11 98 E).map Prod.fst).take i) V)
    (fun R i V => Wb.heap.size + 2 ≤ R.heap.size ∧ TopI Wb (Wb.heap.size + 2) (w.heap.size) R K D g E Wn N (x0 + 1 + i + 1) (((pks 11 98 E).map Prod.fst).take i) V)
    (fun R c i V => False)
    (fun A B hx hr => hx.rcd hr) (fun R i A B hx hr => ⟨hx.1, hx.2.rcd hr⟩) (fun R i A B hx hr => ⟨hx.1, hx.2.rcd hr⟩) (fun R c i A B hx hr => hx) (by omega)
    (fun V hv => by have q := hv.sa.cnt; exact ⟨q.1, q.2, top_rd hv.chg hv.sa hv.out, fun R hR hE => ⟨hR, by simpa using hv.tick (by omega) hE⟩⟩)
    (fun R i V hv => by have hT := hv.2; have q := hT.sa.cnt; obtain ⟨v, o1, o2⟩ := hT.out; exact ⟨q.1, q.2, top_rd hT.chg hT.sa o1, hT.ext, fun _ => ⟨hv.1, hT.tick (by omega) hv.1⟩⟩)
    I0 ?_ ?_ ?_
  · rintro R hR l2 i args V Wv hl hlV hrec hiN ⟨-, hT⟩ hb ⟨c, hc, rfl⟩
    have hpi : ((pks 11 98 E).map Prod.fst)[i]? = some c.1 := by rw [List.getElem?_map, hc]; rfl
    simp
    gi_wp2
    refine ⟨below_alloc _ _, ?_⟩
    intro V2 W2 _ hT2 hb2 hAr2 hoth hsz3 hV2 r hrec2
    obtain ⟨v, o1, o2⟩ := hT2.out
    have hlt : i < ((pks 11 98 E).map Prod.fst).length := (List.getElem?_eq_some_iff.1 hpi).1
    have hli : (((pks 11 98 E).map Prod.fst).take i).length = i := by rw [List.length_take]; omega
    obtain ⟨ao, cc, rfl⟩ := o2.shape
    rw [hli] at o1 o2
    have zV := hb.size
    have z2 := hb2.size
    have zT := hT2.chg.size
    have zE := hT2.ext.size
    have kk : Blk W2 Wv.heap.size [.int .i64 (11 : Nat), .int .u64 c.1, .int .u64 c.2] 103 := ⟨(hoth _ (by omega)).trans (blk_new Wv [.int .i64 (11 : Nat), .int .u64 c.1, .int .u64 c.2] 103).blk⟩
    have P0 := o1.keep hb2
    have Q0 := o2.keep hb2
    have hBa := below_alloc W2 (.cells #[.int .u64 c.1] 22)
    have N4 := blk_new W2 [.int .u64 c.1] 22
    obtain ⟨W4, hW4⟩ : ∃ W4, Hid (W2.alloc (.cells #[.int .u64 c.1] 22) = W4) := ⟨_, rfl⟩
    rw [hW4.out] at hBa N4
    have z4 := hBa.size
    obtain ⟨v5, w5, hr5, U5, C5⟩ := app_u (a := ⟨W2.heap.size, 0, none⟩) 52 (Q0.keep hBa) (by omega) (by have := hT2.sa.size; have : ((pks 11 98 E).map Prod.fst).length ≤ E.length := (by rw [List.length_map]; unfold pks; rw [List.length_map]; exact List.length_filter_le _ _); omega) (N4.cell (i := 0) rfl)
    have hl5 : (((pks 11 98 E).map Prod.fst).take i ++ [c.1]).length = i + 1 := by rw [List.length_append, hli]; rfl
    obtain ⟨a5, c5, rfl⟩ := U5.shape
    rw [hl5] at U5 hr5
    have he5 : ((pks 11 98 E).map Prod.fst).take (i + 1) = ((pks 11 98 E).map Prod.fst).take i ++ [c.1] := by rw [List.take_add_one, hpi]; rfl
    have S5 := (P0.keep hBa).chg C5 (fun h => by obtain ⟨_, cs, k⟩ := h; exact absurd (k.eq (P0.keep hBa)).2 (by decide))
    obtain ⟨q1, hq1⟩ : ∃ q1, Hid (i + 1 = q1) := ⟨_, rfl⟩
    rw [hq1.out] at U5 hr5
    have hC6 : Chg (· = w.heap.size) w5 (w5.setCell ⟨w.heap.size, 0, none⟩ (.slice a5 q1 c5)) := (Chg.refl (fun x => x = w.heap.size) w5).cell (.inl (by rfl)) _
    have S6 := S5.setCell (i := 0) (.slice a5 q1 c5)
    have hK5 : KeepsT TpU Wb.heap.size W4 w5 := ⟨C5.size, fun k o _ h0 hs => (C5.same k (lt_of_block h0) (fun h => by
      obtain ⟨_, cs, kb⟩ := h
      rw [kb.blk] at h0
      cases h0
      exact hs _ _ _ rfl rfl)).trans h0⟩
    have hKe : KeepsT TpU Wb.heap.size W2 (w5.setCell ⟨w.heap.size, 0, none⟩ (.slice a5 q1 c5)) := ((KeepsT.of hBa).trans hK5).trans ⟨hC6.size, fun k o hk h0 _ => (hC6.same k (lt_of_block h0) (fun e => by have e' : k = w.heap.size := e; have := T1.lt; omega)).trans h0⟩
    have hTI : TopI Wb (Wb.heap.size + 2) (w.heap.size) R K D g E Wn N (x0 + 1 + q1) (((pks 11 98 E).map Prod.fst).take q1) (w5.setCell ⟨w.heap.size, 0, none⟩ (.slice a5 q1 c5)) := by
      have hTl := T1.lt
      refine ⟨?_, ?_, ⟨_, S6, ?_⟩, ?_⟩
      · exact ((hT2.chg.trans (Chg.of (F := fun _ => False) (joinB hb2 hBa)) (fun _ _ h => h.elim)).trans C5 (fun b h1 h2 => by omega)).trans hC6 (fun b _ h => .inr h)
      · have q := ((hT2.sa.keep (joinB hb2 hBa)).chg C5 (fun b h1 hk => by have := hKt b hk; omega) (fun b h1 cs kk => by obtain ⟨_, cs', k'⟩ := h1; exact absurd (kk.eq k').2 (by decide))).chg hC6 (fun b e hk => by have e' : b = w.heap.size := e; have := hKt b hk; omega) (fun b e cs kk => by
          have e' : b = w.heap.size := e
          subst e'
          exact absurd (kk.eq S5).2 (by decide))
        rw [show x0 + 1 + q1 = x0 + 1 + i + 1 by have := hq1.out; omega]
        exact q
      · rw [← hq1.out, he5]
        have q := U5.chg hC6 (fun b e => by have e' : b = w.heap.size := e; omega)
        rw [← hq1.out] at q
        exact q
      · exact (((hT2.ext.keep hb2).keep hBa).chg C5 (fun b h => .inr h.1)).chg hC6 (fun b e => .inl (by have e' : b = w.heap.size := e; omega))
    have p0c := P0.cell (i := 0) rfl
    have kc := kk.cell (i := 1) rfl
    have s5c := S5.cell (i := 0) rfl
    have s5f := S5.free 0
    have HKE := hid3 hKe
    have HTI := hid3 hTI
    clear hT hoth hAr2 hb hT2 hb2 P0 Q0 N4 hBa U5 C5 S5 hC6 S6 hK5 hKe hTI o1 o2 kk hli hl5 he5 hpi hlt zV z2 zT zE z4 hc hsz3 hV2
    rw [← hW4.out] at hr5
    clear hW4
    gi_wp2_with (first | (have gate := hr5; clear gate; (with_reducible refine wli_ap12 ?_ ?_ ?_ hr5 ?_); (exact fun _ => trivial); rfl; rfl; clear hr5))
    exact ⟨HKE.out, hR, hq1.out ▸ HTI.out⟩
  · rintro R D' W' hR hD hK ⟨-, hT⟩
    obtain ⟨v, o1, o2⟩ := hT.out
    obtain ⟨ao, cc, rfl⟩ := o2.shape
    obtain ⟨ln, hln⟩ : ∃ ln, Hid ((((pks 11 98 E).map Prod.fst).take (pks 11 98 E).length).length = ln) := ⟨_, rfl⟩
    rw [hln.out] at o1 o2
    have h1c := o1.cell (i := 0) rfl
    have R3 := Rec.put hK rfl hD (.deferred none)
    have hT3 := hT.rcd R3
    have HH2 := hid3 o2
    have zW := HB.out.size
    clear o2
    gi_wp2
    refine ⟨by simp, .inl ⟨_, _, rfl, run_takeDeferred hK, ?_⟩⟩
    refine ⟨_, results_tmp rfl _ _ _, _, _, rfl, ?_, ?_, hT3.sa, ?_⟩
    · have q := (HH2.out.rcd R3).low (B' := w.heap.size) (by omega)
      rw [List.take_of_length_le (by rw [hlen]; omega)] at q
      exact q
    · rfl
    · exact (Chg.of (F := (· = g)) HB.out).trans hT3.chg (fun b hl e => e.elim id (fun e => by omega))
  · rintro R D' c i W' hR hD hK hiN h
    exact h.elim
end Pw
end Go.Proofs.YtpoifdokmjhclaaGreat

namespace Go.Proofs.YtpoifdokmjhclaaGreat
namespace Sd
open Go.RowKit Go.Lib Pg Lim Gl Kv Bk Pw
section
variable {B : Nat} {K : Nat → Prop} {g : Nat} {E : Ents} {Wn : List Ents} {x N c : Nat} {w w' : World} {v : Value}
end
section
variable {b : Nat} {Ds : List Nat} {w w' : World}
end
section
variable {n : Nat} {l : Fr} {fn : Func} {R : Ending → World → Prop} {w : World} {b : Nat}
end
section
variable {n : Nat} {ds : List Deferred} {l : Fr} {Q : Exit → Act → World → Prop} {w : World} {B : Nat} {K : Nat → Prop} {g : Nat} {E : Ents} {Wn : List Ents} {x N c : Nat} {v : Value}
end
end Sd
end Go.Proofs.YtpoifdokmjhclaaGreat

namespace Go.Proofs.YtpoifdokmjhclaaGreat
namespace Di
open Go.RowKit Go.Lib Pg Lim Gl Kv Bk Pw Sd
set_option maxRecDepth 100000
set_option linter.unusedVariables false
section
variable {P : Program} {ops : Array Oper} {Q : Exit → Act → World → Prop} {r : Option Nat}
end
section
variable {lo n : Nat} {ds : List Deferred} {Q Q' : Exit → Act → World → Prop} {l : Fr} {w : World}
end
section
variable {n : Nat} {ds : List Deferred} {ops : Array Oper} {rest : List Oper} {o : Oper} {Q Q' : Exit → Act → World → Prop} {l : Fr} {w : World}
end
end Di
end Go.Proofs.YtpoifdokmjhclaaGreat

namespace Go.Proofs.YtpoifdokmjhclaaGreat
namespace Fo
open Go.RowKit Lim
structure NatN (w : World) (B T : Nat) (ao : Option Addr) (n c : Nat) (x : Int) : Prop where
  ex : ∃ b o l, l.length = n ∧ n ≤ c ∧ IsN l x ∧ At w ao b o l ∧ Free w b o n ∧ (l = [] ∨ (B ≤ b ∧ b < T))
theorem natN_nil (w : World) (B T : Nat) : NatN w B T none 0 0 0 := ⟨0, 0, [], rfl, Nat.le_refl _, isN_nil, ⟨.inl rfl, fun i hi => by simp at hi⟩, fun i hi => by omega, .inl rfl⟩
theorem newV_n {w w' : World} {v : Value} {r : List Int} {x : Int} (h : NewV w w' v r) (hI : IsN r x) : ∃ a c, v = .slice a r.length c ∧ NatN w' w.heap.size w'.heap.size a r.length c x := by
  obtain ⟨ao, b, o, c, e, h1, h2, h3, h4⟩ := h.is
  refine ⟨ao, c, e, b, o, r, rfl, h1, hI, h3, h4, ?_⟩
  rcases h3.lt with e | e
  · exact .inl e
  · exact .inr ⟨h2, e⟩
def subV (x y : Int) : Int := if y ≤ x then x - y else 0
def subE (x y : Int) : Int := if y ≤ x then 0 else 10
theorem fAdd {w : World} {ao ao' : Option Addr} {n c n' c' : Nat} {x y : Int} (h : NatA w ao n c x) (h' : NatA w ao' n' c' y) (hn : n ≤ 1099511627776) (hn' : n' ≤ 1099511627776) :
    Calls Tryz.prog 229 #[.slice ao n c, .slice ao' n' c'] w fun e w' => ∃ a k d, e = .returned (.slice a k d) ∧ NatN w' w.heap.size w'.heap.size a k d (x + y) ∧ k ≤ n + n' + 1 ∧ Below w.heap.size w w' := by
  obtain ⟨b, o, l, h1, h2, h3, h4, rfl⟩ := h.ex
  obtain ⟨b', o', l', h1', h2', h3', h4', rfl⟩ := h'.ex
  refine (add_any ao n c b o ao' n' c' b' o' l l' w h1 h1' h2 h2' hn hn' h3 h3' h4 h4').mono ?_
  rintro e w' ⟨v, r, rfl, hnw, hI, hlen, hB⟩
  obtain ⟨a, d, rfl, hO⟩ := newV_n hnw hI
  exact ⟨a, _, d, rfl, hO, hlen, hB⟩
theorem fMul {w : World} {ao ao' : Option Addr} {n c n' c' : Nat} {x y : Int} (h : NatA w ao n c x) (h' : NatA w ao' n' c' y) (hn : n ≤ 1099511627776) (hn' : n' ≤ 1099511627776) :
    Calls Tryz.prog 267 #[.slice ao n c, .slice ao' n' c'] w fun e w' => ∃ a k d, e = .returned (.slice a k d) ∧ NatN w' w.heap.size w'.heap.size a k d (x * y) ∧ k ≤ n + n' ∧ Below w.heap.size w w' := by
  obtain ⟨b, o, l, h1, h2, h3, h4, rfl⟩ := h.ex
  obtain ⟨b', o', l', h1', h2', h3', h4', rfl⟩ := h'.ex
  refine (mul_any ao n c b o ao' n' c' b' o' l l' w h1 h1' h2 h2' hn hn' h3 h3' h4 h4').mono ?_
  rintro e w' ⟨v, r, rfl, hnw, hI, hlen, hB⟩
  obtain ⟨a, d, rfl, hO⟩ := newV_n hnw hI
  exact ⟨a, _, d, rfl, hO, hlen, hB⟩
theorem fSub {w : World} {ao ao' : Option Addr} {n c n' c' : Nat} {x y : Int} (h : NatA w ao n c x) (h' : NatA w ao' n' c' y) (hn : n ≤ 1099511627776) (hn' : n' ≤ 1099511627776) :
    Calls Tryz.prog 361 #[.slice ao n c, .slice ao' n' c'] w fun e w' => ∃ a k d, e = .returned (.tuple #[.slice a k d, .int .i64 (subE x y)]) ∧ NatN w' w.heap.size w'.heap.size a k d (subV x y) ∧ k ≤ n ∧ Below w.heap.size w w' := by
  obtain ⟨b, o, l, h1, h2, h3, h4, rfl⟩ := h.ex
  obtain ⟨b', o', l', h1', h2', h3', h4', rfl⟩ := h'.ex
  unfold subE subV
  by_cases hge : val l' ≤ val l
  · rw [if_pos hge, if_pos hge]
    refine (sub_ge ao n c b o ao' n' c' b' o' l l' w h1 h1' h2 h2' hn hn' h3 h3' h4 h4' hge).mono ?_
    rintro e w' ⟨v, r, rfl, hnw, hI, hlen, hB⟩
    obtain ⟨a, d, rfl, hO⟩ := newV_n hnw hI
    exact ⟨a, _, d, rfl, hO, hlen, hB⟩
  · rw [if_neg hge, if_neg hge]
    refine (sub_lt ao n c b o ao' n' c' b' o' l l' w h1 h1' h2 h2' hn hn' h3 h3' h4 h4' (by omega)).mono ?_
    rintro e w' ⟨rfl, hB⟩
    exact ⟨none, 0, 0, rfl, natN_nil _ _ _, Nat.zero_le _, hB⟩
def remV (x y : Int) : Int := if y = 0 then 0 else x % y
def divE (y : Int) : Int := if y = 0 then 11 else 0
theorem fMulDiv {w : World} {ao ao' ad : Option Addr} {n c n' c' nd cd : Nat} {x y z : Int} (h : NatA w ao n c x) (h' : NatA w ao' n' c' y) (hd : NatA w ad nd cd z) (hn : n ≤ 274877906944) (hn' : n' ≤ 274877906944) (hnd : nd ≤ 274877906944) :
    Calls Tryz.prog 321 #[.slice ao n c, .slice ao' n' c', .slice ad nd cd] w fun e w' => ∃ a k d a' k' d', e = .returned (.tuple #[.slice a k d, .slice a' k' d', .int .i64 (divE z)]) ∧ NatN w' w.heap.size w'.heap.size a k d (x * y / z) ∧ NatN w' w.heap.size w'.heap.size a' k' d' (remV (x * y) z) ∧ k ≤ n + n' ∧ k' ≤ n + n' + nd ∧ Below w.heap.size w w' := by
  by_cases hz : z = 0
  · unfold remV divE
    rw [if_pos hz, if_pos hz]
    have e0 : x * y / z = 0 := by rw [hz, Int.ediv_zero]
    rw [e0]
    refine (nMulDivZero h h' hd hn hn' hnd hz).mono ?_
    rintro e w' ⟨rfl, hB⟩
    exact ⟨none, 0, 0, none, 0, 0, rfl, natN_nil _ _ _, natN_nil _ _ _, Nat.zero_le _, Nat.zero_le _, hB⟩
  · unfold remV divE
    rw [if_neg hz, if_neg hz]
    obtain ⟨b, o, l, h1, h2, h3, h4, rfl⟩ := h.ex
    obtain ⟨b', o', l', h1', h2', h3', h4', rfl⟩ := h'.ex
    obtain ⟨bd, od, ld, h1d, h2d, h3d, h4d, rfl⟩ := hd.ex
    refine (muldiv_any ao n c b o ao' n' c' b' o' ad nd cd bd od l l' ld w h1 h1' h1d h2 h2' h2d hn hn' hnd h3 h3' h3d h4 h4' h4d hz).mono ?_
    rintro e w' ⟨v, u, r, s, rfl, hnw, hnu, hI, hJ, hlr, hls, hB⟩
    obtain ⟨a, d, rfl, hO⟩ := newV_n hnw hI
    obtain ⟨a', d', rfl, hO'⟩ := newV_n hnu hJ
    exact ⟨a, _, d, a', _, d', rfl, hO, hO', hlr, hls, hB⟩
end Fo
end Go.Proofs.YtpoifdokmjhclaaGreat

namespace Go.Proofs.YtpoifdokmjhclaaGreat
open Go.RowKit Lim

set_option maxHeartbeats 1000000 in
set_option maxRecDepth 100000 in
theorem dZero {w : World} {ao : Option Addr} {n c : Nat} {x : Int} (h : NatA w ao n c x) (hn : n ≤ 1099511627776) :
    Calls Tryz.prog 181 #[.agg #[.slice ao n c]] w fun e w' => e = .returned (.bool (decide (x = 0))) ∧ Below w.heap.size w w' := by
  have B0 := below_alloc w (.cells #[.slice ao n c] 55)
  have h := h.keep B0
  have t := nBits h hn
  have hm := bitLen_zero x h.nonneg
  by_cases hx : x = 0
  · have hm := hm.2 hx
    rw [hm] at t
    rw [decide_eq_true hx]
    clear hm hx h
    go_enter Tryz.func181, Tryz.ntmps181
    go_wp2_with fail
    refine t.mono ?_
    rintro e w1 ⟨rfl, hB⟩
    go_wp2
    go_ret
    exact ⟨rfl, joinB B0 hB⟩
  · have hm : bitLen x.toNat ≠ 0 := fun e => hx (hm.1 e)
    rw [decide_eq_false hx]
    generalize bitLen x.toNat = m at *
    obtain ⟨k, rfl⟩ : ∃ k, m = k + 1 := ⟨m - 1, by omega⟩
    clear hm hx h
    go_enter Tryz.func181, Tryz.ntmps181
    go_wp2_with fail
    refine t.mono ?_
    rintro e w1 ⟨rfl, hB⟩
    go_wp2
    go_ret
    refine ⟨?_, joinB B0 hB⟩
    congr 2

set_option maxHeartbeats 1000000 in
set_option maxRecDepth 100000 in
theorem dTenTo {w : World} (n : Nat) (hn : n ≤ 4096) :
    Calls Tryz.prog 320 #[.int .i64 n] w fun e w' => ∃ a k d, e = .returned (.slice a k d) ∧ NatO w' a k d (10 ^ n) ∧ k ≤ n + 2 ∧ Below w.heap.size w w' := by
  go_enter Tryz.func320, Tryz.ntmps320
  go_wp2_with fail
  refine (nPow n hn).mono ?_
  rintro e w1 ⟨a, k, d, rfl, hO, hk, hB⟩
  go_wp2
  go_ret
  exact ⟨a, k, d, rfl, hO, hk, hB⟩

/-- the Raw of 1 -/
def U36 : Int := 10 ^ 36
set_option maxHeartbeats 1000000 in
set_option maxRecDepth 100000 in
theorem dUnit {w : World} : Calls Tryz.prog 268 #[] w fun e w' => ∃ a k d, e = .returned (.slice a k d) ∧ NatO w' a k d U36 ∧ k ≤ 38 ∧ Below w.heap.size w w' := by
  go_enter Tryz.func268, Tryz.ntmps268
  go_wp2_with fail
  refine (dTenTo 36 (by decide)).mono ?_
  rintro e w1 ⟨a, k, d, rfl, hO, hk, hB⟩
  go_wp2
  go_ret
  exact ⟨a, k, d, rfl, hO, hk, hB⟩

end Go.Proofs.YtpoifdokmjhclaaGreat
