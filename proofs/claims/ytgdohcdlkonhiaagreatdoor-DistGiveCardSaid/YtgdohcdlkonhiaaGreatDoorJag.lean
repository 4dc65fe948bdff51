/- Several texts, joined: KyO, KyP, KyQ, KyR, KyS, KyU, KyV, KyW. -/
import Derived.Test.YtgdohcdlkonhiaaGreatDoorJaf
import Derived.Shelf.Abstract
import Derived.Shelf.RegionOpen
import Derived.OwnWalkIn
import Derived.TacticsInMore
import Derived.LoopNIn
import Derived.LoopIn
namespace Go.Proofs.YtgdohcdlkonhiaaGreatDoor
namespace Ky
open Go.RowKit Go.Lib Pg
attribute [local go_sem] Oper.semAt_some
def ArBB (Q : List Int) (i : Nat) (args : Array Value) (_ : Nat) (_ : World) : Prop := ∃ p j, j + 1 + i = Q.length ∧ Q[j]? = some p ∧ args = #[.int .i64 (j : Int), .int .u8 p]
set_option maxHeartbeats 4000000 in
set_option maxRecDepth 100000 in
theorem backB_itr {Tp : TypeId → Prop} {bs n c : Nat} {ao : Option Addr} {Q : List Int} {Rd : World → Prop} (hn : Q.length = n) (hbig : n ≤ 1000000000)
    (hb : ∀ V, Rd V → V.cell? ⟨bs, 0, none⟩ = some (.slice ao n c) ∧ ∀ j p, Q[j]? = some p → ∃ b o, ao = some ⟨b, o, none⟩ ∧ V.cell? ⟨b, o + j, none⟩ = some (.int .u8 p)) :
    Itr Tp 321 #[.pointer (some ⟨bs, 0, none⟩)] n (ArBB Q) Rd := by
  intro l J Jx W hJ hJx hRd hY h0
  have cb := (hb W (hRd 0 W h0)).1
  have hb : Hid _ := hb
  have hn : Hid _ := hn
  have w0 : IntKind.i64.wrap ((n : Int) - 1) = (n : Int) - 1 := by rw [IntKind.wrap_i64]; omega
  refine (callsIn_wide (n := 0)).1 ?_
  refine callsIn_of_wp Tryz.func321 rfl trivial ?_ rfl
  simp only [Tryz.ntmps321, List.size_toArray, List.length_cons, List.length_nil, Nat.reduceAdd, Nat.reduceSub, Array.replicate_succ, Array.replicate_zero, List.push_toArray, List.append_toArray, List.nil_append, List.cons_append]
  gi_wp2
  gi_loopw [3] (fun ti wr => ∃ i : Nat, i ≤ n ∧ ti = .int .i64 ((n : Int) - 1 - (i : Int)) ∧ W.heap.size ≤ wr.heap.size ∧ J i wr) (fun ti _ => (intOf ti + 1).toNat)
  case atStart => exact ⟨0, Nat.zero_le _, by simp, Nat.le_refl _, h0⟩
  case round =>
    clear cb
    obtain ⟨i, hi, rfl, hsz, hJi⟩ := hrel
    obtain ⟨cb, hat⟩ := hb.out wr (hRd _ _ hJi)
    by_cases hlt : i < n
    · obtain ⟨j, hj⟩ : ∃ j, j + 1 + i = n := ⟨n - 1 - i, by omega⟩
      obtain ⟨p, hp⟩ : ∃ p, Q[j]? = some p := ⟨Q[j]'(by have := hn.out; omega), List.getElem?_eq_getElem _⟩
      obtain ⟨b, o, rfl, cP⟩ := hat j p hp
      have ej : (n : Int) - 1 - (i : Int) = (j : Int) := by omega
      have HI : Hid (j + 1 + i = n) := hj
      have hY1 := hY i _ wr wr hlt hJi hsz (Below.refl _ _) ⟨p, j, by rw [hn.out]; exact hj, hp, rfl⟩
      obtain ⟨fn, tmps, assign, body, hy, hR⟩ := hY1
      rw [ej]
      have w1 : IntKind.i64.wrap ((j : Int) - 1) = (j : Int) - 1 := by rw [IntKind.wrap_i64]; omega
      have z1 : (j : Int) < n := by omega
      clear hat ej hj
      gi_wp2
      refine ⟨rfl, hR.mono ?_⟩
      rintro e' W4 ⟨hk4, ⟨rfl, hJ4⟩ | ⟨rfl, hJ4⟩⟩
      · gi_wp2
        go_roundw
        case rel => exact ⟨i + 1, by omega, by have := HI.out; congr 1; omega, Nat.le_trans hsz hk4.size, hJ4⟩
        case measure => simp [intOf]
      · gi_wp2
        refine bodyPost_ret (results_none rfl _ _ _) rfl ?_
        exact ⟨⟨_, rfl⟩, Nat.le_trans hsz hk4.size, .inr ⟨i, hlt, hJ4⟩⟩
    · have hin : i = n := by omega
      have ej : (n : Int) - 1 - (i : Int) = -1 := by omega
      rw [ej]
      have HJ : Hid (J n wr) := by show J n wr; rw [← hin]; exact hJi
      clear hat ej hin hJi
      gi_wp2
      go_end0
      exact ⟨⟨_, rfl⟩, hsz, .inl HJ.out⟩
set_option maxHeartbeats 1000000 in
set_option maxRecDepth 100000 in
theorem backB_mk {w : World} {ao : Option Addr} {n c : Nat} : Calls Tryz.prog 304 #[.slice ao n c] w fun e w' => e = .returned (.func (.func 321) #[] #[.pointer (some ⟨w.heap.size, 0, none⟩)]) ∧ Blk w' w.heap.size [.slice ao n c] 42 ∧ Below w.heap.size w w' := by
  go_enter Tryz.func304, Tryz.ntmps304
  go_wp2
  go_ret
  exact ⟨rfl, blk_new w _ _, below_alloc w _⟩
end Ky
end Go.Proofs.YtgdohcdlkonhiaaGreatDoor

namespace Go.Proofs.YtgdohcdlkonhiaaGreatDoor
namespace Ky
open Go.RowKit Go.Lib Pg
attribute [local go_sem] Oper.semAt_some
/-- the least bytes above all that begin so; none, where there is none -/
def nxt (l : List Int) : List Int := match l.reverse.dropWhile (· == 255) with
  | [] => []
  | x :: t => t.reverse ++ [x + 1]
theorem dw_all : ∀ {l : List Int}, (∀ x ∈ l, x = 255) → l.dropWhile (· == 255) = []
  | [], _ => rfl
  | x :: l, h => by
    have hx := h x List.mem_cons_self
    subst hx
    rw [List.dropWhile_cons_of_pos (by decide)]
    exact dw_all (fun y hy => h y (List.mem_cons_of_mem _ hy))
theorem dw_key (A B : List Int) {x : Int} (hx : x ≠ 255) (h : ∀ b ∈ B, b = 255) : (A ++ x :: B).reverse.dropWhile (· == 255) = x :: A.reverse := by
  rw [List.reverse_append, List.reverse_cons, List.append_assoc, List.dropWhile_append_of_pos (fun a ha => by simp [h a (List.mem_reverse.1 ha)]), List.singleton_append, List.dropWhile_cons_of_neg (by simp [hx])]
theorem nxt_all {l : List Int} (h : ∀ x ∈ l, x = 255) : nxt l = [] := by
  have : l.reverse.dropWhile (· == 255) = [] := by
    exact dw_all (fun x hx => h x (List.mem_reverse.1 hx))
  unfold nxt
  rw [this]
theorem nxt_at {l : List Int} {j : Nat} {x : Int} (hj : l[j]? = some x) (hx : x ≠ 255) (h : ∀ i y, l[i]? = some y → j < i → y = 255) : nxt l = l.take j ++ [x + 1] := by
  have hlt : j < l.length := (List.getElem?_eq_some_iff.1 hj).1
  have e : l = l.take j ++ x :: l.drop (j + 1) := by
    have h1 := (List.take_append_drop j l).symm
    have h2 : l.drop j = x :: l.drop (j + 1) := by
      rw [List.drop_eq_getElem_cons hlt]
      congr 1
      exact (List.getElem?_eq_some_iff.1 hj).2
    rw [h2] at h1
    exact h1
  have h3 : l.reverse.dropWhile (· == 255) = x :: (l.take j).reverse := by
    have h4 := dw_key (l.take j) (l.drop (j + 1)) hx (fun a ha => by
      obtain ⟨i, hi⟩ := List.getElem?_of_mem ha
      rw [List.getElem?_drop] at hi
      exact h (j + 1 + i) a hi (by omega))
    rw [← e] at h4
    exact h4
  unfold nxt
  rw [h3]
  simp
theorem below_rec {B0 B1 : Nat} {w A B : World} (h : Below B0 w A) (hr : Rec B1 A B) (hB : B0 ≤ B1) (hw : B0 ≤ A.heap.size) : Below B0 w B :=
  ⟨hr.os.trans h.os, hr.tape.trans h.tape, hr.output.trans h.output, Nat.le_trans h.size hr.size, fun k hk => by
    obtain ⟨o, ho⟩ : ∃ o, A.heap[k]? = some o := ⟨A.heap[k]'(by omega), Array.getElem?_eq_getElem _⟩
    rw [hr.same k o ho (.inl (by omega)), ← ho]
    exact h.block k hk⟩
theorem hr_blk {B g : Nat} {A A' : World} {cs : List Value} {ty : TypeId} (h : Blk A g cs ty) (hr : Rec B A A') : Blk A' g cs ty := hr.blk h
theorem OB.rcd {B : Nat} {D : Nat → Prop} {A A' : World} {v : Value} {l : List Int} (h : OB A D v l) (hr : Rec B A A') : OB A' D v l := by
  refine ⟨h.oct, h.ex.imp id ?_⟩
  rintro ⟨b, c, e, hd, hR⟩
  obtain ⟨cs, k⟩ := hR.kind
  exact ⟨b, c, e, hd, hR.same ((hr.blk k).blk.trans k.blk.symm)⟩
theorem By.take {w : World} {ao : Option Addr} {n c : Nat} {l : List Int} (h : By w (.slice ao n c) l) (j : Nat) (hj : j ≤ n) : By w (.slice ao j c) (l.take j) := by
  obtain ⟨hl, hc, hm⟩ := By.lens h
  obtain ⟨ao', c', e, h2, h3, h4, h5, h6⟩ := h.ex
  cases e
  have hlen : (l.take j).length = j := by rw [List.length_take]; omega
  refine ⟨ao, c, by rw [hlen], by rw [hlen]; omega, h3, h4, fun x hx => h5 x (List.mem_of_mem_take hx), ?_⟩
  rcases h6 with rfl | ⟨b', o', e, hlt, hcell⟩
  · exact .inl (by simp)
  · exact .inr ⟨b', o', e, hlt, fun i x hi => hcell i x (by
      rw [List.getElem?_take] at hi
      split at hi
      · exact hi
      · cases hi)⟩
theorem ld_sl {w : World} {g o : Nat} {v : Value} (c : w.cell? ⟨g, o, none⟩ = some v) : (loadVar 42 ⟨g, o, none⟩).run Tryz.prog w = .ok v w := by go_simp
theorem wli_val {F : Fence} {n : Nat} {ops : Array Oper} {Q : Exit → Act → World → Prop} {rest : List Oper} {o : Oper} {a : Act} {w w' : World} {v : Value} (hg : o.guard = none) (hF : ∀ f, F.fn f) (hs : o.semAt F.round a.eval = execOp a.eval o) (hrun : (execOp a.eval o).run Tryz.prog w = .ok (.value v) w') (h : wpListIn F n Tryz.prog ops Q rest (a.put o.dst v) w') : wpListIn F n Tryz.prog ops Q (o :: rest) a w :=
  wpListIn_plain hg fun K hK => by
    unfold Oper.wpIn
    rw [hs, hrun, Oper.uponIn_value]
    exact ⟨fun f _ => hF f, hK _ _ h⟩
theorem wli_app {F : Fence} {n : Nat} {ops : Array Oper} {Q : Exit → Act → World → Prop} {rest : List Oper} {pos : String} {after : Array Edge} {a : Act} {w w' : World} {u v r : Value} (hF : ∀ f, F.fn f) (hu : a.eval (.tmp 14) = u) (hv : a.eval (.tmp 17) = v) (hr : (Builtin.append_ #[42, 42] 42 #[u, v]).run Tryz.prog w = .ok r w') (h : wpListIn F n Tryz.prog ops Q rest (a.put (some 18) r) w') :
    wpListIn F n Tryz.prog ops Q ({ dst := some 18, op := .call { callee := .builtin .append, args := #[.tmp 14, .tmp 17], argTypes := #[42, 42] }, type := 42, pos := pos, after := after, guard := none } :: rest) a w :=
  wli_val rfl hF (Oper.semAt_eq _ _ _ (fun c h => by cases h)) (run_app (x := 14) (y := 17) rfl rfl hu hv hr) h
set_option maxHeartbeats 4000000 in
set_option maxRecDepth 100000 in
theorem next_any {w : World} {ao : Option Addr} {n c : Nat} {l : List Int} (h : By w (.slice ao n c) l) (hbig : n ≤ 1000000000) :
    Calls Tryz.prog 265 #[.slice ao n c] w fun e w' => ∃ v, e = .returned v ∧ OB w' (w.heap.size ≤ ·) v (nxt l) ∧ Below w.heap.size w w' := by
  obtain ⟨hl, hnc, hcm⟩ := By.lens h
  have c1 := blk_new w [.slice ao n c] 42
  have b1 := below_alloc w (.cells #[.slice ao n c] 42)
  have s1 : (w.alloc (.cells #[.slice ao n c] 42)).heap.size = w.heap.size + 1 := by simp
  have c2 := blk_new (w.alloc (.cells #[.slice ao n c] 42)) [.slice none 0 0] 42
  have b2 := below_alloc (w.alloc (.cells #[.slice ao n c] 42)) (.cells #[.slice none 0 0] 42)
  have s2 : ((w.alloc (.cells #[.slice ao n c] 42)).alloc (.cells #[.slice none 0 0] 42)).heap.size = w.heap.size + 2 := by simp
  rw [s1] at c2
  have c1' := c1.keep b2
  have b12 := joinB b1 b2
  obtain ⟨Wa, hWa⟩ : ∃ Wa, Hid ((w.alloc (.cells #[.slice ao n c] 42)).alloc (.cells #[.slice none 0 0] 42) = Wa) := ⟨_, rfl⟩
  rw [hWa.out] at c1' c2 s2 b12
  have HB := hid2 h
  clear h c1 b1 b2 s1
  refine (callsIn_wide (n := 0)).1 ?_
  refine callsIn_of_wp_marks Tryz.func265 rfl trivial ?_ rfl
  simp only [Tryz.ntmps265, List.size_toArray, List.length_cons, List.length_nil, Nat.reduceAdd, Nat.reduceSub, Array.replicate_succ, Array.replicate_zero, List.push_toArray, List.append_toArray, List.nil_append, List.cons_append]
  gi_wp2_with (refine ⟨trivial, rfl, ?_⟩; gi_at_call 304; rw [hWa.out]; refine (callsIn_wide.2 backB_mk).mono ?_; rintro e' w2 ⟨rfl, hBx, hB2⟩)
  rw [s2] at hBx
  have k1 := c1'.keep hB2
  have k2 := c2.keep hB2
  have B2 := joinB b12 hB2
  have hs2 := hB2.size
  have IT := backB_itr (Tp := fun _ => False) (bs := w.heap.size + 2) (c := c) (ao := ao) (Q := l) (n := n) (Rd := fun V => Below w2.heap.size w2 V) hl hbig (fun V hv => ⟨(hBx.keep hv).cell (i := 0) rfl, fun j p hj => By.at ((HB.out.keep B2).keep hv) hj⟩)
  refine rf_outer IT (by rfl) (enters_of Tryz.func321 (by kernel_rfl) rfl) (fun i args n V V' h _ => h) (fun i args n V h => by obtain ⟨p, j, _, _, rfl⟩ := h; rfl)
    (fun i V => Below w2.heap.size w2 V ∧ ∀ j x, l[j]? = some x → n ≤ j + i → x = 255)
    (fun c i V => c = .ret ∧ ∃ v, Blk V (w.heap.size + 1) [v] 42 ∧ OB V (w.heap.size ≤ ·) v (nxt l) ∧ Below w.heap.size w V)
    (fun i A B hx hr => ⟨below_rec hx.1 hr (Nat.le_refl _) hx.1.size, hx.2⟩)
    (fun c i A B hx hr => ⟨hx.1, by obtain ⟨v, h1, h2, h3⟩ := hx.2; exact ⟨v, hr.blk h1, OB.rcd h2 hr, below_rec h3 hr B2.size h3.size⟩⟩)
    (fun i V hv => hv.1) ⟨Below.refl _ _, fun j x hj hn => by have := (List.getElem?_eq_some_iff.1 hj).1; omega⟩ ?_ ?_ ?_
  · rintro l2 i args V Wv hl2 hlV hrec hiN ⟨hBV, hall⟩ hb ⟨p, j, hj, hp, rfl⟩
    simp
    gi_wp2
    refine ⟨Below.refl _ _, ?_⟩
    intro V2 W2 hBV2 hall2 hb2 hAr2 hoth hsz3 hV2 r hrec2
    have hBW := hBV2.trans (hb2.mono hBV2.size)
    have kb := (k1.keep hBW).cell (i := 0) rfl
    have kr := k2.keep hBW
    have hpo : 0 ≤ p ∧ p < 256 := HB.out.oct p (List.mem_of_getElem? hp)
    clear hall hb hBV hoth hAr2
    by_cases hp5 : p = 255
    · subst hp5
      gi_wp2
      refine ⟨KeepsT.of (Below.refl _ _), hBW, fun j2 x hx hn => ?_⟩
      by_cases e : j2 = j
      · subst e; rw [hp] at hx; cases hx; rfl
      · exact hall2 j2 x hx (by omega)
    · have hp6 : p < 255 := by omega
      have BY := By.take ((HB.out.keep B2).keep hBW) j (by omega)
      have hjl : (l.take j).length = j := by rw [List.length_take]; omega
      have hjn : (j : Int) ≤ c := by omega
      have w9 : IntKind.u8.wrap (p + 1) = p + 1 := by rw [IntKind.wrap_u8]; omega
      have HKR := hid2 kr
      have HW := hid2 hBW
      have HNX : Hid (nxt l = l.take j ++ [p + 1]) := nxt_at hp hp5 (fun i2 y hy hi => hall2 i2 y hy (by omega))
      clear kr hBW hall2
      gi_wp2_with (first
        | (have gate := hr6; clear gate; refine wli_app (fun _ => trivial) rfl rfl hr6 ?_; clear hr6)
        | (refine ⟨trivial, rfl, ?_⟩; gi_at_call 101; refine (CallsIn.inRound l2 (callsIn_wide.2 (clone_any BY (by omega)))).mono ?_; rintro e' w5 ⟨v5, rfl, O5, b5⟩; obtain ⟨v6, w6, hr6, O6, b6⟩ := app_byte (B := W2.heap.size) (x := p + 1) O5 b5.size (by omega) (by omega); have kr6 := (HKR.out.keep b5).keepB b6 (HKR.out.lt); have kc := kr6.cell (i := 0) rfl; have kfr := kr6.free 0; obtain ⟨a5, c5, rfl⟩ := OB.sh O5; obtain ⟨a6, c6, rfl⟩ := OB.sh O6; rw [hjl] at hr6 ⊢))
      have hlt : w.heap.size + 1 < w2.heap.size := k2.lt
      have hsW := HW.out.size
      have b56 := b5.trans b6
      have O7 : OB w6 (W2.heap.size ≤ ·) (.slice a6 (j + 1) c6) (l.take j ++ [p + 1]) := by
        have h9 := O6
        rw [show (l.take j ++ [p + 1]).length = j + 1 by rw [List.length_append, hjl]; rfl] at h9
        exact h9
      have O8 : OB (w6.setCell ⟨w.heap.size + 1, 0, none⟩ (.slice a6 (j + 1) c6)) (W2.heap.size ≤ ·) (.slice a6 (j + 1) c6) (l.take j ++ [p + 1]) := O7.same (fun b _ hb => Below.heap_setCell w6 _ _ b (by show b ≠ w.heap.size + 1; omega))
      have B6 : Below w.heap.size w w6 := (B2.trans (HW.out.mono B2.size)).trans (b56.mono (Nat.le_trans B2.size hsW))
      refine ⟨(KeepsT.of b56).trans ⟨?_, fun k o hk h0 _ => (Below.heap_setCell w6 _ _ k (by show k ≠ w.heap.size + 1; omega)).trans h0⟩, rfl, _, kr6.setCell (i := 0) _, ?_, B6.setCell (show w.heap.size ≤ w.heap.size + 1 by omega) _⟩
      · exact ((Chg.refl (fun x => x = w.heap.size + 1) w6).cell (g := w.heap.size + 1) (i := 0) (.inl rfl) _).size
      · rw [HNX.out]
        exact O8.mono (fun b _ hb => by have := B2.size; omega)
  · rintro D' W' hD hK ⟨hBW, hall⟩
    have kr := k2.keep hBW
    have kc := kr.cell (i := 0) rfl
    have kf := kr.free 0
    have hlt : w.heap.size + 1 < w2.heap.size := k2.lt
    have hK3 : (W'.setCell ⟨w.heap.size + 1, 0, none⟩ (.slice none 0 0)).heap[D']? = some (.deferred (some [])) := (Below.heap_setCell W' _ _ D' (by show D' ≠ w.heap.size + 1; omega)).trans hK
    gi_wp2
    refine ⟨by simp, .inl ⟨_, _, rfl, run_takeDeferred hK3, ?_⟩⟩
    have R3 := Rec.put (B := w2.heap.size) hK3 rfl hD (.deferred none)
    have k3 := hr_blk (kr.setCell (i := 0) (.slice none 0 0)) R3
    refine ⟨_, res_cell rfl rfl (ld_sl (k3.cell (i := 0) rfl)), _, rfl, ?_, ?_⟩
    · rw [nxt_all (fun x hx => by
        obtain ⟨j, hj⟩ := List.getElem?_of_mem hx
        exact hall j x hj (by omega))]
      exact ob_nil _ _
    · have h9 : Below w.heap.size w (W'.setCell ⟨w.heap.size + 1, 0, none⟩ (.slice none 0 0)) := (B2.trans (hBW.mono B2.size)).setCell (show w.heap.size ≤ w.heap.size + 1 by omega) _
      exact below_rec h9 R3 B2.size h9.size
  · rintro D' c i W' hD hK hiN ⟨rfl, v, h1, h2, h3⟩
    gi_wp2
    refine ⟨by simp, .inl ⟨_, _, rfl, run_takeDeferred hK, ?_⟩⟩
    have R3 := Rec.put (B := w2.heap.size) hK rfl hD (.deferred none)
    have k3 := hr_blk h1 R3
    exact ⟨_, res_cell rfl rfl (ld_sl (k3.cell (i := 0) rfl)), _, rfl, OB.rcd h2 R3, below_rec h3 R3 B2.size h3.size⟩
end Ky
end Go.Proofs.YtgdohcdlkonhiaaGreatDoor

namespace Go.Proofs.YtgdohcdlkonhiaaGreatDoor
namespace Ky
open Go.RowKit Go.Lib Pg
attribute [local go_sem] Oper.semAt_some
end Ky
end Go.Proofs.YtgdohcdlkonhiaaGreatDoor

namespace Go.Proofs.YtgdohcdlkonhiaaGreatDoor
namespace Ky
open Go.RowKit Go.Lib Pg
end Ky
end Go.Proofs.YtgdohcdlkonhiaaGreatDoor

namespace Go.Proofs.YtgdohcdlkonhiaaGreatDoor
namespace Ky
open Go.RowKit Go.Lib Pg
attribute [local go_sem] Oper.semAt_some eq50
end Ky
end Go.Proofs.YtgdohcdlkonhiaaGreatDoor

namespace Go.Proofs.YtgdohcdlkonhiaaGreatDoor
namespace Ky
open Go.RowKit Go.Lib Pg
attribute [local go_sem] Oper.semAt_some eq50
end Ky
end Go.Proofs.YtgdohcdlkonhiaaGreatDoor

namespace Go.Proofs.YtgdohcdlkonhiaaGreatDoor
namespace Ky
open Go.RowKit Go.Lib Pg
attribute [local go_sem] Oper.semAt_some eq50
end Ky
end Go.Proofs.YtgdohcdlkonhiaaGreatDoor

namespace Go.Proofs.YtgdohcdlkonhiaaGreatDoor
namespace Ky
open Go.RowKit Go.Lib Pg
attribute [local go_sem] Oper.semAt_some eq50
end Ky
end Go.Proofs.YtgdohcdlkonhiaaGreatDoor
