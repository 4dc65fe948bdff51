/- Several texts, joined: KyO, KyP, KyQ, KyR, KyS, KyU, KyV, KyW. -/
import Derived.Test.YtpoifdokmjhclaaGreatJyj
import Derived.Shelf.Abstract
import Derived.Shelf.RegionOpen
import Derived.OwnWalkIn
import Derived.TacticsInMore
import Derived.LoopNIn
import Derived.LoopIn
namespace Go.Proofs.YtpoifdokmjhclaaGreat
namespace Ky
open Go.RowKit Go.Lib Pg
attribute [local go_sem] Oper.semAt_some
def ArBB (Q : List Int) (i : Nat) (args : Array Value) (_ : Nat) (_ : World) : Prop := ∃ p j, j + 1 + i = Q.length ∧ Q[j]? = some p ∧ args = #[.int .i64 (j : Int), .int .u8 p]
set_option maxHeartbeats 4000000 in
set_option maxRecDepth 100000 in
theorem backB_itr {Tp : TypeId → Prop} {bs n c : Nat} {ao : Option Addr} {Q : List Int} {Rd : World → Prop} (hn : Q.length = n) (hbig : n ≤ 1000000000)
    (hb : ∀ V, Rd V → V.cell? ⟨bs, 0, none⟩ = some (.slice ao n c) ∧ ∀ j p, Q[j]? = some p → ∃ b o, ao = some ⟨b, o, none⟩ ∧ V.cell? ⟨b, o + j, none⟩ = some (.int .u8 p)) :
    Itr Tp 351 #[.pointer (some ⟨bs, 0, none⟩)] n (ArBB Q) Rd := by
  intro l J Jx W hJ hJx hRd hY h0
  have cb := (hb W (hRd 0 W h0)).1
  have hb : Hid _ := hb
  have hn : Hid _ := hn
  have w0 : IntKind.i64.wrap ((n : Int) - 1) = (n : Int) - 1 := by rw [IntKind.wrap_i64]; omega
  refine (callsIn_wide (n := 0)).1 ?_
  refine callsIn_of_wp Tryz.func351 rfl trivial ?_ rfl
  simp only [Tryz.ntmps351, List.size_toArray, List.length_cons, List.length_nil, Nat.reduceAdd, Nat.reduceSub, Array.replicate_succ, Array.replicate_zero, List.push_toArray, List.append_toArray, List.nil_append, List.cons_append]
  gi_wp2
  gi_loopw [3] (fun ti wr => ∃ i : Nat, i ≤ n ∧ ti = .int .i64 ((n : Int) - 1 - (i : Int)) ∧ W.heap.size ≤ wr.heap.size ∧ J i wr) (fun ti _ => (intOf ti + 1).toNat)
  case atStart => exact ⟨0, Nat.zero_le _, by simp, Nat.le_refl _, h0⟩
  case round =>
    clear cb
    obtain ⟨i, hi, rfl, hsz, hJi⟩ := hrel
    obtain ⟨cb, hat⟩ := hb.out wr (hRd _ _ hJi)
    by_cases hlt : i < n
    · obtain ⟨j, hj⟩ : ∃ j, j + 1 + i = n := ⟨n - 1 - i, by omega⟩
      obtain ⟨p, hp⟩ : ∃ p, Q[j]? = some p := ⟨Q[j]'(by have := hn.out; omega), List.getElem?_eq_getElem _⟩
      obtain ⟨b, o, rfl, cP⟩ := hat j p hp
      have ej : (n : Int) - 1 - (i : Int) = (j : Int) := by omega
      have HI : Hid (j + 1 + i = n) := hj
      have hY1 := hY i _ wr wr hlt hJi hsz (Below.refl _ _) ⟨p, j, by rw [hn.out]; exact hj, hp, rfl⟩
      obtain ⟨fn, tmps, assign, body, hy, hR⟩ := hY1
      rw [ej]
      have w1 : IntKind.i64.wrap ((j : Int) - 1) = (j : Int) - 1 := by rw [IntKind.wrap_i64]; omega
      have z1 : (j : Int) < n := by omega
      clear hat ej hj
      gi_wp2
      refine ⟨rfl, hR.mono ?_⟩
      rintro e' W4 ⟨hk4, ⟨rfl, hJ4⟩ | ⟨rfl, hJ4⟩⟩
      · gi_wp2
        go_roundw
        case rel => exact ⟨i + 1, by omega, by have := HI.out; congr 1; omega, Nat.le_trans hsz hk4.size, hJ4⟩
        case measure => simp [intOf]
      · gi_wp2
        refine bodyPost_ret (results_none rfl _ _ _) rfl ?_
        exact ⟨⟨_, rfl⟩, Nat.le_trans hsz hk4.size, .inr ⟨i, hlt, hJ4⟩⟩
    · have hin : i = n := by omega
      have ej : (n : Int) - 1 - (i : Int) = -1 := by omega
      rw [ej]
      have HJ : Hid (J n wr) := by show J n wr; rw [← hin]; exact hJi
      clear hat ej hin hJi
      gi_wp2
      go_end0
      exact ⟨⟨_, rfl⟩, hsz, .inl HJ.out⟩
set_option maxHeartbeats 1000000 in
set_option maxRecDepth 100000 in
theorem backB_mk {w : World} {ao : Option Addr} {n c : Nat} : Calls Tryz.prog 306 #[.slice ao n c] w fun e w' => e = .returned (.func (.func 351) #[] #[.pointer (some ⟨w.heap.size, 0, none⟩)]) ∧ Blk w' w.heap.size [.slice ao n c] 29 ∧ Below w.heap.size w w' := by
  go_enter Tryz.func306, Tryz.ntmps306
  go_wp2
  go_ret
  exact ⟨rfl, blk_new w _ _, below_alloc w _⟩
end Ky
end Go.Proofs.YtpoifdokmjhclaaGreat

namespace Go.Proofs.YtpoifdokmjhclaaGreat
namespace Ky
open Go.RowKit Go.Lib Pg
attribute [local go_sem] Oper.semAt_some
/-- the least bytes above all that begin so; none, where there is none -/
def nxt (l : List Int) : List Int := match l.reverse.dropWhile (· == 255) with
  | [] => []
  | x :: t => t.reverse ++ [x + 1]
theorem dw_all : ∀ {l : List Int}, (∀ x ∈ l, x = 255) → l.dropWhile (· == 255) = []
  | [], _ => rfl
  | x :: l, h => by
    have hx := h x List.mem_cons_self
    subst hx
    rw [List.dropWhile_cons_of_pos (by decide)]
    exact dw_all (fun y hy => h y (List.mem_cons_of_mem _ hy))
theorem dw_key (A B : List Int) {x : Int} (hx : x ≠ 255) (h : ∀ b ∈ B, b = 255) : (A ++ x :: B).reverse.dropWhile (· == 255) = x :: A.reverse := by
  rw [List.reverse_append, List.reverse_cons, List.append_assoc, List.dropWhile_append_of_pos (fun a ha => by simp [h a (List.mem_reverse.1 ha)]), List.singleton_append, List.dropWhile_cons_of_neg (by simp [hx])]
theorem nxt_all {l : List Int} (h : ∀ x ∈ l, x = 255) : nxt l = [] := by
  have : l.reverse.dropWhile (· == 255) = [] := by
    exact dw_all (fun x hx => h x (List.mem_reverse.1 hx))
  unfold nxt
  rw [this]
theorem nxt_at {l : List Int} {j : Nat} {x : Int} (hj : l[j]? = some x) (hx : x ≠ 255) (h : ∀ i y, l[i]? = some y → j < i → y = 255) : nxt l = l.take j ++ [x + 1] := by
  have hlt : j < l.length := (List.getElem?_eq_some_iff.1 hj).1
  have e : l = l.take j ++ x :: l.drop (j + 1) := by
    have h1 := (List.take_append_drop j l).symm
    have h2 : l.drop j = x :: l.drop (j + 1) := by
      rw [List.drop_eq_getElem_cons hlt]
      congr 1
      exact (List.getElem?_eq_some_iff.1 hj).2
    rw [h2] at h1
    exact h1
  have h3 : l.reverse.dropWhile (· == 255) = x :: (l.take j).reverse := by
    have h4 := dw_key (l.take j) (l.drop (j + 1)) hx (fun a ha => by
      obtain ⟨i, hi⟩ := List.getElem?_of_mem ha
      rw [List.getElem?_drop] at hi
      exact h (j + 1 + i) a hi (by omega))
    rw [← e] at h4
    exact h4
  unfold nxt
  rw [h3]
  simp
theorem below_rec {B0 B1 : Nat} {w A B : World} (h : Below B0 w A) (hr : Rec B1 A B) (hB : B0 ≤ B1) (hw : B0 ≤ A.heap.size) : Below B0 w B :=
  ⟨hr.os.trans h.os, hr.tape.trans h.tape, hr.output.trans h.output, Nat.le_trans h.size hr.size, fun k hk => by
    obtain ⟨o, ho⟩ : ∃ o, A.heap[k]? = some o := ⟨A.heap[k]'(by omega), Array.getElem?_eq_getElem _⟩
    rw [hr.same k o ho (.inl (by omega)), ← ho]
    exact h.block k hk⟩
theorem hr_blk {B g : Nat} {A A' : World} {cs : List Value} {ty : TypeId} (h : Blk A g cs ty) (hr : Rec B A A') : Blk A' g cs ty := hr.blk h
theorem OB.rcd {B : Nat} {D : Nat → Prop} {A A' : World} {v : Value} {l : List Int} (h : OB A D v l) (hr : Rec B A A') : OB A' D v l := by
  refine ⟨h.oct, h.ex.imp id ?_⟩
  rintro ⟨b, c, e, hd, hR⟩
  obtain ⟨cs, k⟩ := hR.kind
  exact ⟨b, c, e, hd, hR.same ((hr.blk k).blk.trans k.blk.symm)⟩
theorem By.take {w : World} {ao : Option Addr} {n c : Nat} {l : List Int} (h : By w (.slice ao n c) l) (j : Nat) (hj : j ≤ n) : By w (.slice ao j c) (l.take j) := by
  obtain ⟨hl, hc, hm⟩ := By.lens h
  obtain ⟨ao', c', e, h2, h3, h4, h5, h6⟩ := h.ex
  cases e
  have hlen : (l.take j).length = j := by rw [List.length_take]; omega
  refine ⟨ao, c, by rw [hlen], by rw [hlen]; omega, h3, h4, fun x hx => h5 x (List.mem_of_mem_take hx), ?_⟩
  rcases h6 with rfl | ⟨b', o', e, hlt, hcell⟩
  · exact .inl (by simp)
  · exact .inr ⟨b', o', e, hlt, fun i x hi => hcell i x (by
      rw [List.getElem?_take] at hi
      split at hi
      · exact hi
      · cases hi)⟩
theorem ld_sl {w : World} {g o : Nat} {v : Value} (c : w.cell? ⟨g, o, none⟩ = some v) : (loadVar 29 ⟨g, o, none⟩).run Tryz.prog w = .ok v w := by go_simp
theorem wli_val {F : Fence} {n : Nat} {ops : Array Oper} {Q : Exit → Act → World → Prop} {rest : List Oper} {o : Oper} {a : Act} {w w' : World} {v : Value} (hg : o.guard = none) (hF : ∀ f, F.fn f) (hs : o.semAt F.round a.eval = execOp a.eval o) (hrun : (execOp a.eval o).run Tryz.prog w = .ok (.value v) w') (h : wpListIn F n Tryz.prog ops Q rest (a.put o.dst v) w') : wpListIn F n Tryz.prog ops Q (o :: rest) a w :=
  wpListIn_plain hg fun K hK => by
    unfold Oper.wpIn
    rw [hs, hrun, Oper.uponIn_value]
    exact ⟨fun f _ => hF f, hK _ _ h⟩
theorem wli_app {F : Fence} {n : Nat} {ops : Array Oper} {Q : Exit → Act → World → Prop} {rest : List Oper} {pos : String} {after : Array Edge} {a : Act} {w w' : World} {u v r : Value} (hF : ∀ f, F.fn f) (hu : a.eval (.tmp 14) = u) (hv : a.eval (.tmp 17) = v) (hr : (Builtin.append_ #[29, 29] 29 #[u, v]).run Tryz.prog w = .ok r w') (h : wpListIn F n Tryz.prog ops Q rest (a.put (some 18) r) w') :
    wpListIn F n Tryz.prog ops Q ({ dst := some 18, op := .call { callee := .builtin .append, args := #[.tmp 14, .tmp 17], argTypes := #[29, 29] }, type := 29, pos := pos, after := after, guard := none } :: rest) a w :=
  wli_val rfl hF (Oper.semAt_eq _ _ _ (fun c h => by cases h)) (run_app (x := 14) (y := 17) rfl rfl hu hv hr) h
set_option maxHeartbeats 4000000 in
set_option maxRecDepth 100000 in
theorem next_any {w : World} {ao : Option Addr} {n c : Nat} {l : List Int} (h : By w (.slice ao n c) l) (hbig : n ≤ 1000000000) :
    Calls Tryz.prog 358 #[.slice ao n c] w fun e w' => ∃ v, e = .returned v ∧ OB w' (w.heap.size ≤ ·) v (nxt l) ∧ Below w.heap.size w w' := by
  obtain ⟨hl, hnc, hcm⟩ := By.lens h
  have c1 := blk_new w [.slice ao n c] 29
  have b1 := below_alloc w (.cells #[.slice ao n c] 29)
  have s1 : (w.alloc (.cells #[.slice ao n c] 29)).heap.size = w.heap.size + 1 := by simp
  have c2 := blk_new (w.alloc (.cells #[.slice ao n c] 29)) [.slice none 0 0] 29
  have b2 := below_alloc (w.alloc (.cells #[.slice ao n c] 29)) (.cells #[.slice none 0 0] 29)
  have s2 : ((w.alloc (.cells #[.slice ao n c] 29)).alloc (.cells #[.slice none 0 0] 29)).heap.size = w.heap.size + 2 := by simp
  rw [s1] at c2
  have c1' := c1.keep b2
  have b12 := joinB b1 b2
  obtain ⟨Wa, hWa⟩ : ∃ Wa, Hid ((w.alloc (.cells #[.slice ao n c] 29)).alloc (.cells #[.slice none 0 0] 29) = Wa) := ⟨_, rfl⟩
  rw [hWa.out] at c1' c2 s2 b12
  have HB := hid2 h
  clear h c1 b1 b2 s1
  refine (callsIn_wide (n := 0)).1 ?_
  refine callsIn_of_wp_marks Tryz.func358 rfl trivial ?_ rfl
  simp only [Tryz.ntmps358, List.size_toArray, List.length_cons, List.length_nil, Nat.reduceAdd, Nat.reduceSub, Array.replicate_succ, Array.replicate_zero, List.push_toArray, List.append_toArray, List.nil_append, List.cons_append]
  gi_wp2_with (refine ⟨trivial, rfl, ?_⟩; gi_at_call 306; rw [hWa.out]; refine (callsIn_wide.2 backB_mk).mono ?_; rintro e' w2 ⟨rfl, hBx, hB2⟩)
  rw [s2] at hBx
  have k1 := c1'.keep hB2
  have k2 := c2.keep hB2
  have B2 := joinB b12 hB2
  have hs2 := hB2.size
  have IT := backB_itr (Tp := fun _ => False) (bs := w.heap.size + 2) (c := c) (ao := ao) (Q := l) (n := n) (Rd := fun V => Below w2.heap.size w2 V) hl hbig (fun V hv => ⟨(hBx.keep hv).cell (i := 0) rfl, fun j p hj => By.at ((HB.out.keep B2).keep hv) hj⟩)
  refine rf_outer IT (by rfl) (enters_of Tryz.func351 (by kernel_rfl) rfl) (fun i args n V V' h _ => h) (fun i args n V h => by obtain ⟨p, j, _, _, rfl⟩ := h; rfl)
    (fun i V => Below w2.heap.size w2 V ∧ ∀ j x, l[j]? = some x → n ≤ j + i → x = 255)
    (fun c i V => c = .ret ∧ ∃ v, Blk V (w.heap.size + 1) [v] 29 ∧ OB V (w.heap.size ≤ ·) v (nxt l) ∧ Below w.heap.size w V)
    (fun i A B hx hr => ⟨below_rec hx.1 hr (Nat.le_refl _) hx.1.size, hx.2⟩)
    (fun c i A B hx hr => ⟨hx.1, by obtain ⟨v, h1, h2, h3⟩ := hx.2; exact ⟨v, hr.blk h1, OB.rcd h2 hr, below_rec h3 hr B2.size h3.size⟩⟩)
    (fun i V hv => hv.1) ⟨Below.refl _ _, fun j x hj hn => by have := (List.getElem?_eq_some_iff.1 hj).1; omega⟩ ?_ ?_ ?_
  · rintro l2 i args V Wv hl2 hlV hrec hiN ⟨hBV, hall⟩ hb ⟨p, j, hj, hp, rfl⟩
    simp
    gi_wp2
    refine ⟨Below.refl _ _, ?_⟩
    intro V2 W2 hBV2 hall2 hb2 hAr2 hoth hsz3 hV2 r hrec2
    have hBW := hBV2.trans (hb2.mono hBV2.size)
    have kb := (k1.keep hBW).cell (i := 0) rfl
    have kr := k2.keep hBW
    have hpo : 0 ≤ p ∧ p < 256 := HB.out.oct p (List.mem_of_getElem? hp)
    clear hall hb hBV hoth hAr2
    by_cases hp5 : p = 255
    · subst hp5
      gi_wp2
      refine ⟨KeepsT.of (Below.refl _ _), hBW, fun j2 x hx hn => ?_⟩
      by_cases e : j2 = j
      · subst e; rw [hp] at hx; cases hx; rfl
      · exact hall2 j2 x hx (by omega)
    · have hp6 : p < 255 := by omega
      have BY := By.take ((HB.out.keep B2).keep hBW) j (by omega)
      have hjl : (l.take j).length = j := by rw [List.length_take]; omega
      have hjn : (j : Int) ≤ c := by omega
      have w9 : IntKind.u8.wrap (p + 1) = p + 1 := by rw [IntKind.wrap_u8]; omega
      have HKR := hid2 kr
      have HW := hid2 hBW
      have HNX : Hid (nxt l = l.take j ++ [p + 1]) := nxt_at hp hp5 (fun i2 y hy hi => hall2 i2 y hy (by omega))
      clear kr hBW hall2
      gi_wp2_with (first
        | (have gate := hr6; clear gate; refine wli_app (fun _ => trivial) rfl rfl hr6 ?_; clear hr6)
        | (refine ⟨trivial, rfl, ?_⟩; gi_at_call 104; refine (CallsIn.inRound l2 (callsIn_wide.2 (clone_any BY (by omega)))).mono ?_; rintro e' w5 ⟨v5, rfl, O5, b5⟩; obtain ⟨v6, w6, hr6, O6, b6⟩ := app_byte (B := W2.heap.size) (x := p + 1) O5 b5.size (by omega) (by omega); have kr6 := (HKR.out.keep b5).keepB b6 (HKR.out.lt); have kc := kr6.cell (i := 0) rfl; have kfr := kr6.free 0; obtain ⟨a5, c5, rfl⟩ := OB.sh O5; obtain ⟨a6, c6, rfl⟩ := OB.sh O6; rw [hjl] at hr6 ⊢))
      have hlt : w.heap.size + 1 < w2.heap.size := k2.lt
      have hsW := HW.out.size
      have b56 := b5.trans b6
      have O7 : OB w6 (W2.heap.size ≤ ·) (.slice a6 (j + 1) c6) (l.take j ++ [p + 1]) := by
        have h9 := O6
        rw [show (l.take j ++ [p + 1]).length = j + 1 by rw [List.length_append, hjl]; rfl] at h9
        exact h9
      have O8 : OB (w6.setCell ⟨w.heap.size + 1, 0, none⟩ (.slice a6 (j + 1) c6)) (W2.heap.size ≤ ·) (.slice a6 (j + 1) c6) (l.take j ++ [p + 1]) := O7.same (fun b _ hb => Below.heap_setCell w6 _ _ b (by show b ≠ w.heap.size + 1; omega))
      have B6 : Below w.heap.size w w6 := (B2.trans (HW.out.mono B2.size)).trans (b56.mono (Nat.le_trans B2.size hsW))
      refine ⟨(KeepsT.of b56).trans ⟨?_, fun k o hk h0 _ => (Below.heap_setCell w6 _ _ k (by show k ≠ w.heap.size + 1; omega)).trans h0⟩, rfl, _, kr6.setCell (i := 0) _, ?_, B6.setCell (show w.heap.size ≤ w.heap.size + 1 by omega) _⟩
      · exact ((Chg.refl (fun x => x = w.heap.size + 1) w6).cell (g := w.heap.size + 1) (i := 0) (.inl rfl) _).size
      · rw [HNX.out]
        exact O8.mono (fun b _ hb => by have := B2.size; omega)
  · rintro D' W' hD hK ⟨hBW, hall⟩
    have kr := k2.keep hBW
    have kc := kr.cell (i := 0) rfl
    have kf := kr.free 0
    have hlt : w.heap.size + 1 < w2.heap.size := k2.lt
    have hK3 : (W'.setCell ⟨w.heap.size + 1, 0, none⟩ (.slice none 0 0)).heap[D']? = some (.deferred (some [])) := (Below.heap_setCell W' _ _ D' (by show D' ≠ w.heap.size + 1; omega)).trans hK
    gi_wp2
    refine ⟨by simp, .inl ⟨_, _, rfl, run_takeDeferred hK3, ?_⟩⟩
    have R3 := Rec.put (B := w2.heap.size) hK3 rfl hD (.deferred none)
    have k3 := hr_blk (kr.setCell (i := 0) (.slice none 0 0)) R3
    refine ⟨_, res_cell rfl rfl (ld_sl (k3.cell (i := 0) rfl)), _, rfl, ?_, ?_⟩
    · rw [nxt_all (fun x hx => by
        obtain ⟨j, hj⟩ := List.getElem?_of_mem hx
        exact hall j x hj (by omega))]
      exact ob_nil _ _
    · have h9 : Below w.heap.size w (W'.setCell ⟨w.heap.size + 1, 0, none⟩ (.slice none 0 0)) := (B2.trans (hBW.mono B2.size)).setCell (show w.heap.size ≤ w.heap.size + 1 by omega) _
      exact below_rec h9 R3 B2.size h9.size
  · rintro D' c i W' hD hK hiN ⟨rfl, v, h1, h2, h3⟩
    gi_wp2
    refine ⟨by simp, .inl ⟨_, _, rfl, run_takeDeferred hK, ?_⟩⟩
    have R3 := Rec.put (B := w2.heap.size) hK rfl hD (.deferred none)
    have k3 := hr_blk h1 R3
    exact ⟨_, res_cell rfl rfl (ld_sl (k3.cell (i := 0) rfl)), _, rfl, OB.rcd h2 R3, below_rec h3 R3 B2.size h3.size⟩
end Ky
end Go.Proofs.YtpoifdokmjhclaaGreat

namespace Go.Proofs.YtpoifdokmjhclaaGreat
namespace Ky
open Go.RowKit Go.Lib Pg
attribute [local go_sem] Oper.semAt_some
end Ky
end Go.Proofs.YtpoifdokmjhclaaGreat

namespace Go.Proofs.YtpoifdokmjhclaaGreat
namespace Ky
open Go.RowKit Go.Lib Pg
theorem lt_cons {x y : Int} {a b : List Int} : Lt (x :: a) (y :: b) ↔ x < y ∨ (x = y ∧ Lt a b) := by
  unfold Lt
  rw [cmpB]
  by_cases h1 : x < y
  · simp [h1]
  · by_cases h2 : y < x
    · rw [if_neg h1, if_pos h2]
      constructor
      · intro h; exact absurd h (by decide)
      · rintro (h | ⟨h, _⟩) <;> omega
    · rw [if_neg h1, if_neg h2]
      have : x = y := by omega
      simp [this]
theorem lt_nil_cons {y : Int} {b : List Int} : Lt [] (y :: b) := by simp [Lt, cmpB]
theorem not_lt_nil {a : List Int} : ¬ Lt a [] := by cases a <;> simp [Lt, cmpB]
theorem lt_app (s : List Int) {a b : List Int} : Lt (s ++ a) (s ++ b) ↔ Lt a b := by
  induction s with
  | nil => exact Iff.rfl
  | cons x s ih => rw [List.cons_append, List.cons_append, lt_cons, ih]; simp
theorem lt_app_len : ∀ {x y s t : List Int}, x.length = y.length → (Lt (x ++ s) (y ++ t) ↔ Lt x y ∨ (x = y ∧ Lt s t))
  | [], [], s, t, _ => by simp [lt_irrefl]
  | [], _ :: _, _, _, h => by simp at h
  | _ :: _, [], _, _, h => by simp at h
  | a :: x, b :: y, s, t, h => by
    rw [List.cons_append, List.cons_append, lt_cons, lt_cons, lt_app_len (by simpa using h)]
    constructor
    · rintro (h1 | ⟨h1, h2 | ⟨h2, h3⟩⟩)
      · exact .inl (.inl h1)
      · exact .inl (.inr ⟨h1, h2⟩)
      · exact .inr ⟨by rw [h1, h2], h3⟩
    · rintro ((h1 | ⟨h1, h2⟩) | ⟨h1, h2⟩)
      · exact .inl h1
      · exact .inr ⟨h1, .inl h2⟩
      · cases h1; exact .inr ⟨rfl, .inr ⟨rfl, h2⟩⟩
theorem last255 : ∀ l : List Int, (∀ x ∈ l, x = 255) ∨ ∃ A x B, l = A ++ x :: B ∧ x ≠ 255 ∧ ∀ b ∈ B, b = 255
  | [] => .inl (fun _ h => by simp at h)
  | y :: t => by
    rcases last255 t with h | ⟨A, x, B, rfl, hx, hB⟩
    · by_cases hy : y = 255
      · exact .inl (fun x hx => by
          rcases List.mem_cons.1 hx with rfl | hx
          · exact hy
          · exact h x hx)
      · exact .inr ⟨[], y, t, rfl, hy, h⟩
    · exact .inr ⟨y :: A, x, B, rfl, hx, hB⟩
theorem nxt_eq {A B : List Int} {x : Int} (hx : x ≠ 255) (hB : ∀ b ∈ B, b = 255) : nxt (A ++ x :: B) = A ++ [x + 1] := by
  unfold nxt
  rw [dw_key A B hx hB]
  simp
theorem nxt_nil {l : List Int} (h : nxt l = []) : ∀ x ∈ l, x = 255 := by
  rcases last255 l with h1 | ⟨A, x, B, rfl, hx, hB⟩
  · exact h1
  · rw [nxt_eq hx hB] at h
    simp at h
theorem lt_nxt {l : List Int} (h : nxt l ≠ []) : Lt l (nxt l) := by
  rcases last255 l with h1 | ⟨A, x, B, rfl, hx, hB⟩
  · exact absurd (nxt_all h1) h
  · rw [nxt_eq hx hB, lt_app, lt_cons]
    exact .inl (by omega)
theorem not_pre_nxt {l : List Int} (h : nxt l ≠ []) : ¬ l <+: nxt l := by
  rcases last255 l with h1 | ⟨A, x, B, rfl, hx, hB⟩
  · exact absurd (nxt_all h1) h
  · rw [nxt_eq hx hB, List.prefix_append_right_inj, List.cons_prefix_cons]
    rintro ⟨h2, _⟩
    omega
theorem pre_lt_nxt {l c : List Int} (h : nxt l ≠ []) (hc : l <+: c) : Lt c (nxt l) := by
  rcases last255 l with h1 | ⟨A, x, B, rfl, hx, hB⟩
  · exact absurd (nxt_all h1) h
  · obtain ⟨t, rfl⟩ := hc
    rw [nxt_eq hx hB, List.append_assoc, lt_app, List.cons_append, lt_cons]
    exact .inl (by omega)
theorem all255 : ∀ {B t : List Int}, (∀ b ∈ B, b = 255) → Oct t → Lt t B ∨ B <+: t
  | [], _, _, _ => .inr (List.nil_prefix)
  | b :: B, [], _, _ => .inl lt_nil_cons
  | b :: B, z :: t, hB, ht => by
    have hb := hB b List.mem_cons_self
    have hz := ht z List.mem_cons_self
    subst hb
    by_cases h : z = 255
    · subst h
      rcases all255 (fun b hb => hB b (List.mem_cons_of_mem _ hb)) (fun y hy => ht y (List.mem_cons_of_mem _ hy)) with h1 | h1
      · exact .inl (lt_cons.2 (.inr ⟨rfl, h1⟩))
      · exact .inr (List.cons_prefix_cons.2 ⟨rfl, h1⟩)
    · exact .inl (lt_cons.2 (.inl (by omega)))
theorem below_nxt : ∀ {A B c : List Int} {x : Int}, (∀ b ∈ B, b = 255) → Oct c → Lt c (A ++ [x + 1]) → Lt c (A ++ x :: B) ∨ (A ++ x :: B) <+: c
  | [], B, [], x, _, _, _ => .inl lt_nil_cons
  | [], B, y :: t, x, hB, hc, h => by
    rw [List.nil_append, lt_cons] at h
    rw [List.nil_append]
    rcases h with h | ⟨_, h⟩
    · by_cases e : y = x
      · subst e
        rcases all255 hB (fun z hz => hc z (List.mem_cons_of_mem _ hz)) with h1 | h1
        · exact .inl (lt_cons.2 (.inr ⟨rfl, h1⟩))
        · exact .inr (List.cons_prefix_cons.2 ⟨rfl, h1⟩)
      · exact .inl (lt_cons.2 (.inl (by omega)))
    · exact absurd h not_lt_nil
  | a :: A, B, [], x, _, _, _ => .inl lt_nil_cons
  | a :: A, B, y :: t, x, hB, hc, h => by
    rw [List.cons_append, lt_cons] at h
    rw [List.cons_append]
    rcases h with h | ⟨h1, h2⟩
    · exact .inl (lt_cons.2 (.inl h))
    · subst h1
      rcases below_nxt hB (fun z hz => hc z (List.mem_cons_of_mem _ hz)) h2 with h3 | h3
      · exact .inl (lt_cons.2 (.inr ⟨rfl, h3⟩))
      · exact .inr (List.cons_prefix_cons.2 ⟨rfl, h3⟩)
theorem not_lt_nxt {l c : List Int} (hc : Oct c) (h1 : ¬ l <+: c) (h2 : ¬ Lt c l) : ¬ Lt c (nxt l) := by
  rcases last255 l with h3 | ⟨A, x, B, rfl, hx, hB⟩
  · rw [nxt_all h3]; exact not_lt_nil
  · rw [nxt_eq hx hB]
    intro h
    rcases below_nxt hB hc h with h4 | h4
    · exact h2 h4
    · exact h1 h4
/-- a number's last byte -/
theorem be_snoc : ∀ (n : Nat) (a : Int), be (n + 1) a = be n (a / 256) ++ [a % 256]
  | 0, a => by simp [be]
  | n + 1, a => by
    rw [be, be_snoc n a, be, List.cons_append]
    congr 2
    rw [Int.ediv_ediv_of_nonneg (by decide), Int.pow_succ, Int.mul_comm]
theorem pow_up (n : Nat) : (256 : Int) ^ (n + 1) = 256 ^ n * 256 := Int.pow_succ 256 n
/-- bytes of numbers stand in the numbers' order -/
theorem be_lt : ∀ (n : Nat) {a b : Int}, 0 ≤ a → a < 256 ^ n → 0 ≤ b → b < 256 ^ n → (Lt (be n a) (be n b) ↔ a < b)
  | 0, a, b, h1, h2, h3, h4 => by
    simp at h2 h4
    constructor
    · intro h; exact absurd h (lt_irrefl _)
    · intro h; omega
  | n + 1, a, b, h1, h2, h3, h4 => by
    rw [pow_up] at h2 h4
    have ih := be_lt n (a := a / 256) (b := b / 256) (by omega) (by omega) (by omega) (by omega)
    rw [be_snoc, be_snoc, lt_app_len (by rw [be_length, be_length]), ih]
    constructor
    · rintro (h | ⟨h, h'⟩)
      · omega
      · have he : a / 256 = b / 256 := by
          rcases Int.lt_trichotomy (a / 256) (b / 256) with h5 | h5 | h5
          · have := ih.2 h5; rw [h] at this; exact absurd this (lt_irrefl _)
          · exact h5
          · have ih2 := be_lt n (a := b / 256) (b := a / 256) (by omega) (by omega) (by omega) (by omega)
            have := ih2.2 h5; rw [h] at this; exact absurd this (lt_irrefl _)
        have h6 : a % 256 < b % 256 := by
          rcases lt_cons.1 h' with h7 | ⟨_, h7⟩
          · exact h7
          · exact absurd h7 not_lt_nil
        omega
    · intro h
      by_cases he : a / 256 < b / 256
      · exact .inl he
      · have he2 : a / 256 = b / 256 := by omega
        exact .inr ⟨by rw [he2], lt_cons.2 (.inl (by omega))⟩
theorem be_inj {n : Nat} {a b : Int} (h1 : 0 ≤ a) (h2 : a < 256 ^ n) (h3 : 0 ≤ b) (h4 : b < 256 ^ n) (h : be n a = be n b) : a = b := by
  rcases Int.lt_trichotomy a b with h5 | h5 | h5
  · have := (be_lt n h1 h2 h3 h4).2 h5; rw [h] at this; exact absurd this (lt_irrefl _)
  · exact h5
  · have := (be_lt n h3 h4 h1 h2).2 h5; rw [h] at this; exact absurd this (lt_irrefl _)
theorem bv_be : ∀ (n : Nat) {a : Int}, 0 ≤ a → a < 256 ^ n → bv (be n a) = a
  | 0, a, h1, h2 => by simp at h2; simp [be, bv]; omega
  | n + 1, a, h1, h2 => by
    rw [pow_up] at h2
    rw [be_snoc, bv_snoc, bv_be n (by omega) (by omega)]
    omega
end Ky
end Go.Proofs.YtpoifdokmjhclaaGreat

namespace Go.Proofs.YtpoifdokmjhclaaGreat
namespace Ky
open Go.RowKit Go.Lib Pg
attribute [local go_sem] Oper.semAt_some eq50
theorem frm_none {k : Int} (h : k ≠ 1 ∧ k ≠ 2 ∧ k ≠ 3 ∧ k ≠ 4 ∧ k ≠ 5 ∧ k ≠ 6 ∧ k ≠ 7 ∧ k ≠ 8 ∧ k ≠ 9 ∧ k ≠ 10 ∧ k ≠ 11 ∧ k ≠ 12 ∧ k ≠ 13 ∧ k ≠ 14 ∧ k ≠ 15 ∧ k ≠ 16 ∧ k ≠ 17) : frm k = (0, 0, 0) := by
  by_cases h0 : 0 ≤ k ∧ k < 18
  · have : k = 0 := by omega
    subst this
    rfl
  · exact if_neg h0
end Ky
end Go.Proofs.YtpoifdokmjhclaaGreat

namespace Go.Proofs.YtpoifdokmjhclaaGreat
namespace Ky
open Go.RowKit Go.Lib Pg
attribute [local go_sem] Oper.semAt_some eq50
theorem frm_doc (k : Int) : ∃ (n N : Nat) (m0 m1 : Int), frm k = ((n : Int), m0, m1) ∧ (n : Int) / 8 = (N : Int) ∧ N ≤ 2 ∧ (n ≤ 8 ↔ N = 0) ∧ (n ≤ 16 ↔ N ≤ 1) ∧ (m0 = 0 ↔ n = 0) ∧ (0 ≤ m0 ∧ m0 < 256) ∧ (0 ≤ m1 ∧ m1 < 256) ∧ (N = 0 → m1 = 0) ∧ (k = 10 → N = 2 ∧ m1 = 0) := by
  by_cases h : 0 ≤ k ∧ k < 18
  · obtain ⟨j, rfl⟩ := Int.eq_ofNat_of_zero_le h.1
    have hj : j < 18 := by omega
    match j, hj with
    | 0, _ => exact ⟨0, 0, 0, 0, rfl, by decide, by decide, by decide, by decide, by decide, by decide, by decide, by decide, by decide⟩
    | 1, _ => exact ⟨1, 0, 112, 0, rfl, by decide, by decide, by decide, by decide, by decide, by decide, by decide, by decide, by decide⟩
    | 2, _ => exact ⟨1, 0, 99, 0, rfl, by decide, by decide, by decide, by decide, by decide, by decide, by decide, by decide, by decide⟩
    | 3, _ => exact ⟨1, 0, 109, 0, rfl, by decide, by decide, by decide, by decide, by decide, by decide, by decide, by decide, by decide⟩
    | 4, _ => exact ⟨9, 1, 97, 0, rfl, by decide, by decide, by decide, by decide, by decide, by decide, by decide, by decide, by decide⟩
    | 5, _ => exact ⟨10, 1, 118, 48, rfl, by decide, by decide, by decide, by decide, by decide, by decide, by decide, by decide, by decide⟩
    | 6, _ => exact ⟨18, 2, 118, 100, rfl, by decide, by decide, by decide, by decide, by decide, by decide, by decide, by decide, by decide⟩
    | 7, _ => exact ⟨18, 2, 118, 104, rfl, by decide, by decide, by decide, by decide, by decide, by decide, by decide, by decide, by decide⟩
    | 8, _ => exact ⟨18, 2, 118, 115, rfl, by decide, by decide, by decide, by decide, by decide, by decide, by decide, by decide, by decide⟩
    | 9, _ => exact ⟨9, 1, 116, 0, rfl, by decide, by decide, by decide, by decide, by decide, by decide, by decide, by decide, by decide⟩
    | 10, _ => exact ⟨17, 2, 105, 0, rfl, by decide, by decide, by decide, by decide, by decide, by decide, by decide, by decide, by decide⟩
    | 11, _ => exact ⟨9, 1, 98, 0, rfl, by decide, by decide, by decide, by decide, by decide, by decide, by decide, by decide, by decide⟩
    | 12, _ => exact ⟨9, 1, 117, 0, rfl, by decide, by decide, by decide, by decide, by decide, by decide, by decide, by decide, by decide⟩
    | 13, _ => exact ⟨9, 1, 114, 0, rfl, by decide, by decide, by decide, by decide, by decide, by decide, by decide, by decide, by decide⟩
    | 14, _ => exact ⟨17, 2, 113, 0, rfl, by decide, by decide, by decide, by decide, by decide, by decide, by decide, by decide, by decide⟩
    | 15, _ => exact ⟨17, 2, 101, 0, rfl, by decide, by decide, by decide, by decide, by decide, by decide, by decide, by decide, by decide⟩
    | 16, _ => exact ⟨17, 2, 110, 0, rfl, by decide, by decide, by decide, by decide, by decide, by decide, by decide, by decide, by decide⟩
    | 17, _ => exact ⟨17, 2, 107, 0, rfl, by decide, by decide, by decide, by decide, by decide, by decide, by decide, by decide, by decide⟩
    | j + 18, h => omega
  · exact ⟨0, 0, 0, 0, if_neg h, by decide, by decide, by decide, by decide, by decide, by decide, by decide, by decide, fun h' => by omega⟩
end Ky
end Go.Proofs.YtpoifdokmjhclaaGreat

namespace Go.Proofs.YtpoifdokmjhclaaGreat
namespace Ky
open Go.RowKit Go.Lib Pg
attribute [local go_sem] Oper.semAt_some eq50
/-- append where there is no room behind a window -/
theorem app_grow {w : World} {a a2 : Addr} {n m c2 : Nat} {l l2 : List Int} (h : By w (.slice (some a) n n) l) (h2 : By w (.slice (some a2) m c2) l2) (hm : 0 < m) (hl : n + m ≤ 1000000000) :
    ∃ c' w', (Builtin.append_ #[29, 29] 29 #[.slice (some a) n n, .slice (some a2) m c2]).run Tryz.prog w = .ok (.slice (some ⟨w.heap.size, 0, none⟩) (n + m) c') w' ∧ OB w' (w.heap.size ≤ ·) (.slice (some ⟨w.heap.size, 0, none⟩) (n + m) c') (l ++ l2) ∧ Below w.heap.size w w' := by
  obtain ⟨i, hi, hz, hs, hb⟩ := info_parts KB.inf
  obtain ⟨l1, -, -⟩ := By.lens h
  obtain ⟨l3, -, -⟩ := By.lens h2
  have o1 := h.oct
  have o2 := h2.oct
  have c1 : ∀ j u, (l.map (Value.int .u8))[j]? = some u → w.cell? (a.add j) = some u := fun j u hj => by
    rw [List.getElem?_map] at hj
    obtain ⟨x, hx, rfl⟩ := Option.map_eq_some_iff.1 hj
    obtain ⟨b, o, e, hc⟩ := By.at h hx
    cases e
    rw [Addr.add_lit]; exact hc
  have c3 : ∀ j u, (l2.map (Value.int .u8))[j]? = some u → w.cell? (a2.add j) = some u := fun j u hj => by
    rw [List.getElem?_map] at hj
    obtain ⟨x, hx, rfl⟩ := Option.map_eq_some_iff.1 hj
    obtain ⟨b, o, e, hc⟩ := By.at h2 hx
    cases e
    rw [Addr.add_lit]; exact hc
  have hr := run_append_grow (P := Tryz.prog) w 29 29 5 i (.int .u8 0) KB.und hi hz a n n (l.map (Value.int .u8)) (by rw [hs, List.length_map, l1]; omega) c1 a2 m c2 (l2.map (Value.int .u8)) (by rw [hs, List.length_map, l3]; omega) c3 (by omega) (by omega) (growslice_fits (by omega) (by rw [hb]; omega))
  have hR := new_row w 5 (Value.int .u8 0).cells 1 (n + m) (grownCap w (n + m) n 5) (l.map (Value.int .u8) ++ l2.map (Value.int .u8)) (by simp [Value.cells]) (by rw [List.length_append, List.length_map, List.length_map, l1, l3]; omega) (grownCap_ge w _ _ _) (grownCap_le_maxLen w _ _ _ (by simp only [maxLen]; omega))
  refine ⟨_, _, hr, ⟨fun x hx => (List.mem_append.1 hx).elim (o1 x) (o2 x), .inr ⟨w.heap.size, _, by rw [List.length_append, l1, l3], Nat.le_refl _, ?_⟩⟩, ?_⟩
  · rw [List.length_append, l1, l3, List.map_append]
    simpa using hR
  · exact ⟨rfl, rfl, rfl, by simp, fun b hb => (below_alloc w.drew _).block b hb⟩
theorem ob_lit {w : World} {g : Nat} {l : List Int} (h : Blk w g (l.map (Value.int .u8)) 5) (ho : Oct l) (hl : l.length ≤ 1000) : OB w (· = g) (.slice (some ⟨g, 0, none⟩) l.length l.length) l :=
  ⟨ho, .inr ⟨g, l.length, rfl, rfl, blk_rw h (by simp) (by simp only [maxLen]; omega)⟩⟩
def kb1 : List Int := [118, 0, 0, 0, 0, 0, 0, 0, 16, 104, 0, 0, 0, 0, 0, 0, 0, 2]
def kb2 : List Int := [118, 0, 0, 0, 0, 0, 0, 0, 16, 115]
theorem kmake1 {w : World} : Calls Tryz.prog 72 #[.agg #[.int .i64 7, .int .u64 16, .int .u64 2]] w fun e w' => ∃ ao c, e = .returned (.tuple #[.slice ao 18 c, .int .i64 0]) ∧ OB w' (w.heap.size ≤ ·) (.slice ao 18 c) kb1 ∧ Below w.heap.size w w' := by
  refine (make_any (w := w) (k := 7) (a := 16) (b := 2) (by decide) (by decide)).mono ?_
  rw [show mkE 7 16 2 = false from by decide +kernel, show mk 7 16 2 = kb1 from by decide +kernel]
  rintro e w' ⟨v, rfl, O, b⟩
  obtain ⟨ao, c, rfl⟩ := OB.sh O
  exact ⟨ao, c, rfl, O, b⟩
theorem kmake2 {w : World} : Calls Tryz.prog 72 #[.agg #[.int .i64 3, .int .u64 1, .int .u64 0]] w fun e w' => ∃ ao c, e = .returned (.tuple #[.slice ao 0 c, .int .i64 70]) ∧ Below w.heap.size w w' := by
  refine (make_any (w := w) (k := 3) (a := 1) (b := 0) (by decide) (by decide)).mono ?_
  rw [show mkE 3 1 0 = true from by decide +kernel]
  rintro e w' ⟨v, rfl, O, b⟩
  obtain ⟨ao, c, rfl⟩ := OB.sh O
  exact ⟨ao, c, rfl, b⟩
theorem kread1 {w : World} {ao : Option Addr} {c : Nat} (h : By w (.slice ao 18 c) kb1) : Calls Tryz.prog 196 #[.slice ao 18 c] w fun e w' => e = .returned (.tuple #[.agg #[.int .i64 7, .int .u64 16, .int .u64 2], .int .i64 0]) ∧ Below w.heap.size w w' := by
  refine (read_yes h (by decide) (r := 7) (by decide) (by decide) (by decide +kernel)).mono ?_
  rw [show rdA 7 kb1 = 16 from by decide +kernel, show rdB kb1 = 2 from by decide +kernel]
  exact fun e w' h => h
theorem kof1 {w : World} : Calls Tryz.prog 194 #[.int .i64 5] w fun e w' => ∃ ao c, e = .returned (.tuple #[.slice ao 1 c, .int .i64 0]) ∧ OB w' (w.heap.size ≤ ·) (.slice ao 1 c) [118] ∧ Below w.heap.size w w' := by
  refine (of_any (w := w) (k := 5)).mono ?_
  rw [if_neg (show ¬ (frm 5).1 = 0 from by decide +kernel), if_neg (show ¬ (frm 5).1 = 0 from by decide +kernel), show (frm 5).2.1 = 118 from by decide +kernel]
  rintro e w' ⟨v, rfl, O, b⟩
  obtain ⟨ao, c, rfl⟩ := OB.sh O
  exact ⟨ao, c, rfl, O, b⟩
theorem knext1 {w : World} {ao : Option Addr} {c : Nat} (h : By w (.slice ao 3 c) [112, 255, 255]) : Calls Tryz.prog 358 #[.slice ao 3 c] w fun e w' => ∃ a2 c2, e = .returned (.slice a2 1 c2) ∧ By w' (.slice a2 1 c2) [113] ∧ Below w.heap.size w w' := by
  refine (next_any h (by decide)).mono ?_
  rw [show nxt [112, 255, 255] = [113] from by decide +kernel]
  rintro e w' ⟨v, rfl, O, b⟩
  obtain ⟨ao, c, rfl⟩ := OB.sh O
  exact ⟨ao, c, rfl, O.by, b⟩
end Ky
end Go.Proofs.YtpoifdokmjhclaaGreat

namespace Go.Proofs.YtpoifdokmjhclaaGreat
namespace Ky
open Go.RowKit Go.Lib Pg
attribute [local go_sem] Oper.semAt_some eq50
theorem win9 {w : World} {g : Nat} (h : By w (.slice (some ⟨g, 0, none⟩) 18 18) kb1) : By w (.slice (some ⟨g, 0, none⟩) 9 9) (kb1.take 9) := by
  obtain ⟨ao, c, e, h2, h3, h4, h5, h6⟩ := h.ex
  cases e
  refine ⟨_, 9, rfl, by decide, by decide, (fun e => by cases e), fun x hx => h5 x (List.mem_of_mem_take hx), .inr ?_⟩
  obtain ⟨b, o, e, hlt, hc⟩ := h6.resolve_left (by decide)
  cases e
  refine ⟨_, _, rfl, hlt, fun i x hi => hc i x ?_⟩
  rw [List.getElem?_take] at hi
  split at hi
  · exact hi
  · cases hi
end Ky
end Go.Proofs.YtpoifdokmjhclaaGreat
