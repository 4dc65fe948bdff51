/- Several texts, joined: QuK, QuL, QuM, QuO, QuP, QuQ, PwD, PwE, PwF. -/
import Derived.Test.YtidnifmehnjipaaGreatJaq
import Derived.Laws.IdiomRangeMap
import Derived.MapKept
import Derived.Test.YtidnifmehnjipaaGreatJai
namespace Go.Proofs.YtidnifmehnjipaaGreat
namespace Qu
open Go.RowKit Go.Lib Pg Kv Bk Pw
theorem KN : Kd Tryz.prog 74 61 2 16 (.agg #[.int .u64 0, .int .i64 0]) := ⟨by kernel_rfl, by kernel_rfl, rfl, by simp [Value.cells, Value.oneCell'], by decide⟩
/-- an entry's cells: its number, its kind -/
def ecs (p : Int × Int) : List Value := [.int .u64 p.1, .int .i64 p.2]
def ecl (l : List (Int × Int)) : List Value := (l.map ecs).flatten
theorem ecl_len (l : List (Int × Int)) : (ecl l).length = l.length * 2 := by
  induction l with
  | nil => rfl
  | cons a l ih => simp only [ecl, List.map_cons, List.flatten_cons, List.length_append, List.length_cons] at *; rw [ih]; simp [ecs]; omega
/-- entries in a list of their own, in a block from B on -/
structure EA (w : World) (B : Nat) (v : Value) (l : List (Int × Int)) : Prop where
  ex : (v = .slice none 0 0 ∧ l = []) ∨ ∃ b c, v = .slice (some ⟨b, 0, none⟩) l.length c ∧ B ≤ b ∧ Rw w 61 2 b l.length c (ecl l)
section
variable {w w' : World} {B B' : Nat} {v : Value} {l : List (Int × Int)}
theorem EA.shape (h : EA w B v l) : ∃ ao c, v = .slice ao l.length c := by
  rcases h.ex with ⟨rfl, rfl⟩ | ⟨b, c, rfl, _⟩
  · exact ⟨none, 0, rfl⟩
  · exact ⟨_, c, rfl⟩
theorem EA.nil (w : World) (B : Nat) : EA w B (.slice none 0 0) [] := ⟨.inl ⟨rfl, rfl⟩⟩
theorem EA.keep (h : EA w B v l) (hb : Below w.heap.size w w') : EA w' B v l := ⟨h.ex.imp id (fun ⟨b, c, e, hl, hR⟩ => ⟨b, c, e, hl, hR.keep hb⟩)⟩
theorem EA.chg {F : Nat → Prop} (h : EA w B v l) (hc : Chg F w w') (hF : ∀ b, F b → b < B) : EA w' B v l := ⟨h.ex.imp id (fun ⟨b, c, e, hl, hR⟩ => ⟨b, c, e, hl, hR.chg hc (fun hf => by have := hF b hf; omega)⟩)⟩
theorem EA.low (h : EA w B v l) (hB : B' ≤ B) : EA w B' v l := ⟨h.ex.imp id (fun ⟨b, c, e, hl, hR⟩ => ⟨b, c, e, Nat.le_trans hB hl, hR⟩)⟩
theorem EA.rcd {C : Nat} (h : EA w B v l) (hr : Rec C w w') : EA w' B v l := ⟨h.ex.imp id (fun ⟨b, c, e, hl, hR⟩ => ⟨b, c, e, hl, Kv.Rw.rcd hR hr⟩)⟩
theorem app_e {p : Int × Int} {a : Addr} (ty : TypeId) (h : EA w B v l) (hB : B ≤ w.heap.size) (hl : l.length ≤ 2000000000) (c0 : w.cell? (a.add 0) = some (.int .u64 p.1)) (c1 : w.cell? (a.add 1) = some (.int .i64 p.2)) :
    ∃ v' w', (Builtin.append_ #[74, 74] ty #[v, .slice (some a) 1 1]).run Tryz.prog w = .ok v' w' ∧ EA w' B v' (l ++ [p]) ∧ Chg (fun b => B ≤ b ∧ ∃ cs, Blk w b cs 61) w w' := by
  have hnews : ∀ j u, (ecs p)[j]? = some u → w.cell? (a.add j) = some u := fun j u hj => by
    match j with
    | 0 => simp [ecs] at hj; rw [← hj]; exact c0
    | 1 => simp [ecs] at hj; rw [← hj]; exact c1
    | k + 2 => simp [ecs] at hj
  rcases h.ex with ⟨rfl, rfl⟩ | ⟨b, c, rfl, hb, hR⟩
  · obtain ⟨c', w', hr, hR, hw⟩ := app_nil (w := w) KN ty a 1 1 (ecs p) rfl hnews (by omega) (by omega) (by omega)
    exact ⟨_, w', hr, ⟨.inr ⟨_, c', rfl, hB, by simpa [ecl] using hR⟩⟩, Chg.of hw⟩
  · obtain ⟨b', c', w', hr, hb', hR', hC⟩ := app_row KN ty hR a 1 1 (ecs p) rfl hnews (fun u hu => by simp [ecs] at hu; rcases hu with rfl | rfl <;> rfl) (by omega) (by omega)
    refine ⟨_, w', hr, ⟨.inr ⟨b', c', by simp, by rcases hb' with rfl | rfl <;> omega, ?_⟩⟩, hC.mono (fun y _ e => ?_)⟩
    · simpa [ecl] using hR'
    · have e' : y = b := e
      subst e'
      exact ⟨hb, hR.kind⟩
end
end Qu
end Go.Proofs.YtidnifmehnjipaaGreat

namespace Go.Proofs.YtidnifmehnjipaaGreat
namespace Qu
open Go.RowKit Go.Lib Pg Kv Bk Pw
attribute [local go_sem] Oper.semAt_some
theorem entries_mk {w : World} {f : FuncId} {lb : Array Value} : Calls Tryz.prog 72 #[.func (.func f) #[] lb] w fun e w' => ∃ bm, e = .returned (.func (.func 120) #[] #[.pointer (some ⟨bm, 0, none⟩)]) ∧ w.heap.size ≤ bm ∧ Blk w' bm [.func (.func f) #[] lb] 133 ∧ Below w.heap.size w w' := by
  have b1 := below_alloc w (.cells #[.func (.func f) #[] lb] 133)
  have c1 := blk_new w [.func (.func f) #[] lb] 133
  go_enter Tryz.func72, Tryz.ntmps72
  go_wp2
  go_ret
  exact ⟨_, rfl, Nat.le_refl _, c1, b1⟩
set_option maxHeartbeats 4000000 in
set_option maxRecDepth 100000 in
theorem swalkG {Tp : TypeId → Prop} {X : Nat → Prop} {w : World} {K D : Nat → Prop} {g n N : Nat} {E : Ents} {W : List Ents} {fv tv : Value} {f t : List Int} (h : SA w K D g E W n N) (hN : N ≤ 100000000) (hf : By w fv f) (ht : By w tv t) (hfl : f.length ≤ 1000000000) (htl : t.length ≤ 1000000000) (hX1 : ∀ b, X b → b = g ∨ ¬ K b) (hXU : ∀ b, X b → ∀ cs, ¬ Blk w b cs 5) (hXl : ∀ b, X b → b < w.heap.size) (hT : ¬ Tp 131) (hTe : ¬ Tp 211) :
    Calls Tryz.prog 73 #[.pointer (some ⟨g, 0, none⟩), fv, tv] w fun e w' => ∃ v EL, e = .returned v ∧ IterG Tp X w.heap.size w' g EL v ∧ EL.map En.kl2 = E.filter (abtw f t) ∧ Below w.heap.size w w' := by
  obtain ⟨F, V, m, Q, jv, T, oj, hX, rfl, hB⟩ := h.open
  obtain ⟨L, Km, hw⟩ := xwmG hX hN hX1 hXU hXl
  have tW := walk_any (Tp := Tp) Km hf ht hfl htl hT hTe
  have c0 := hX.blk.cell (i := 0) rfl
  obtain ⟨fa, fc, rfl, -⟩ := id hf.ex
  obtain ⟨ta, tc, rfl, -⟩ := id ht.ex
  generalize hfn : f.length = fn at *
  generalize htn : t.length = tn at *
  have HX := hid3 hX
  have HK := hid3 Km
  have HW := hid3 hw
  clear hX Km hw h hB hf ht hfn htn hX1 hXU hXl hT hTe
  go_enter Tryz.func73, Tryz.ntmps73
  go_wp2_with first
    | (go_at_call 62; go_must (refine tW.mono ?_); rintro e w1 ⟨bw, rfl, B1, IT⟩; clear tW)
    | (go_at_call 122; go_must (refine counted_mk.mono ?_); rintro e w2 ⟨rfl, k1, k2, B2⟩)
  go_ret
  exact ⟨_, _, rfl, iterG_of HX.out.blk HK.out B1 IT k1 k2 B2 (Nat.le_refl _), HW.out f t, joinB B1 B2⟩
/-- the entries to which marks lead, in their order -/
def ents (l : List (List Int × List Int)) : List (Int × Int) := l.map (fun x => (Ky.rdB x.1, numB x.2))
end Qu
end Go.Proofs.YtidnifmehnjipaaGreat

namespace Go.Proofs.YtidnifmehnjipaaGreat
namespace Qu
open Go.RowKit Go.Lib Pg Kv Bk Pw
attribute [local go_sem] Oper.semAt_some
def TpQ (t : TypeId) : Prop := t = 61
def ArN (EL : List En) (i : Nat) (args : Array Value) (_ : Nat) (_ : World) : Prop := ∃ e, EL[i]? = some e ∧ args = #[.agg #[.int .u64 (Ky.rdB e.kl), .int .i64 (wrap64 (numB e.vl))]]
set_option maxHeartbeats 8000000 in
set_option maxRecDepth 100000 in
theorem entries_itr {W0 W1 : World} {K D X XI : Nat → Prop} {g bm bs1 bs2 bw x0 N r : Nat} {E : Ents} {Wn : List Ents} {EL : List En} (IT : Itr TpQ 158 #[.pointer (some ⟨bw, 0, none⟩)] EL.length (ArC EL) (fun V => Chg XI W1 V)) (hXX : ∀ b, b < W1.heap.size → X b → XI b) (hRd : RdC XI W1 g bs1 bs2 bw W0) (hbm : Blk W0 bm [.func (.func 173) #[] #[.pointer (some ⟨bs1, 0, none⟩), .pointer (some ⟨bs2, 0, none⟩)]] 133) (hXm : ¬ X bm) (hXs : ¬ X bs1) (hXt : ¬ X bs2) (hsm : ∀ e ∈ EL, e.kl.length ≤ 1000000000 ∧ e.vl.length ≤ 1000000000) (hr : r < 18) (hr0 : 0 < r) (hRk : ∀ e ∈ EL, Ky.frm r = Ky.fIn e.kl) (hle : EL.length ≤ N) (hx : x0 + N ≤ 2000000000000000000) :
    ItrE W0 TpQ g x0 120 #[.pointer (some ⟨bm, 0, none⟩)] EL.length (ArN EL) (RdS W0 X K D g E Wn N) := by
  intro l J0 J Jt Jx W hNB hW0 hS0 hSJ hSt hSx hgW hJ0 hJ hY h0
  obtain ⟨_, _, ⟨c0, u0, xx, s0⟩, _⟩ := hJ0 _ h0
  have B1 := below_alloc W (.cells #[.func (.yield l) #[] #[]] 195)
  have Y1 := blk_new W [.func (.yield l) #[] #[]] 195
  have s1 : (W.alloc (.cells #[.func (.yield l) #[] #[]] 195)).heap.size = W.heap.size + 1 := by simp
  have cK : (W.alloc (.cells #[.func (.yield l) #[] #[]] 195)).cell? ⟨bm, 0, none⟩ = some (.func (.func 173) #[] #[.pointer (some ⟨bs1, 0, none⟩), .pointer (some ⟨bs2, 0, none⟩)]) := ((hbm.chg c0 hXm).keep B1).cell (i := 0) rfl
  obtain ⟨w2, hWa⟩ : ∃ Wa, Hid (W.alloc (.cells #[.func (.yield l) #[] #[]] 195) = Wa) := ⟨_, rfl⟩
  rw [hWa.out] at B1 Y1 s1
  have HY := hid3 hY
  have HJ := hid3 hJ
  have HJ0 := hid3 hJ0
  have J2 := hS0 _ _ h0 (Rec.of B1)
  have E2 : Ext W.heap.size w2 w2 := ⟨fun _ _ _ => rfl, Nat.le_refl _⟩
  have hw2 : W.heap.size + 1 ≤ w2.heap.size := by omega
  have ITC := counted_itr (g := g) (bs1 := bs1) (bs2 := bs2) (x0 := x0) IT (by unfold TpQ; decide) (by omega)
  have RDC : Hid (∀ V, RdS W0 X K D g E Wn N V → RdC XI W1 g bs1 bs2 bw V) := hid3 (fun V hR => by
    obtain ⟨c1, _, x, s1⟩ := hR
    exact ⟨hRd.1.trans c1 hXX, hRd.2.1.chg c1 hXs, hRd.2.2.1.chg c1 hXt, s1.kv⟩)
  have HSM := hid3 hsm
  have HRK := hid3 hRk
  have HYB := hid3 Y1
  clear hJ0 hJ hY h0 s0 c0 Y1 hNB u0 hsm hRk hRd IT
  refine (callsIn_wide (n := 0)).1 ?_
  refine callsIn_of_wp_marks Tryz.func120 rfl trivial ?_ rfl
  simp only [Tryz.ntmps120, List.size_toArray, List.length_cons, List.length_nil, Nat.reduceAdd, Nat.reduceSub, Array.replicate_succ, Array.replicate_zero, List.push_toArray, List.append_toArray, List.nil_append, List.cons_append]
  gi_wp2
  rw [hWa.out]
  refine rf_outerC ITC (by rfl) (enters_of Tryz.func173 (by kernel_rfl) rfl) (fun i args n V V' h hc => h.cel hc) (fun i args n V h => by obtain ⟨e, kv, vv, s, _, rfl, _⟩ := h; rfl)
    (fun V => J0 V ∧ Ext W.heap.size w2 V)
    (fun i V => J w2 i V ∧ Ext W.heap.size w2 V)
    (fun i V => Jt w2 i V ∧ Ext W.heap.size w2 V)
    (fun c i V => c = .ret ∧ Jx w2 i V ∧ w2.heap.size ≤ V.heap.size)
    (fun A B hx hr => ⟨hS0 A B hx.1 (hr.mono (by omega)), hx.2.rcd hr⟩)
    (fun i A B hx hr => ⟨hSJ w2 i A B hx.1 (hr.mono (by omega)), hx.2.rcd hr⟩)
    (fun i A B hx hr => ⟨hSt w2 i A B hx.1 (hr.mono (by omega)), hx.2.rcd hr⟩)
    (fun c i A B hx hr => ⟨hx.1, hSx w2 i A B hx.2.1 (hr.mono (by omega)), Nat.le_trans hx.2.2 hr.size⟩)
    (by omega)
    (fun V hv => by obtain ⟨q1, q2, q3, q4⟩ := HJ0.out V hv.1; exact ⟨q1, q2, RDC.out V q3, q4 w2 (by omega) (ExtC.of hv.2), hv.2.tick hgW⟩)
    (fun i V hv => by obtain ⟨q1, q2, q3, q5, q4⟩ := HJ.out w2 i V hv.1; exact ⟨q1, q2, RDC.out V q3, fun hi => ⟨q4 (by omega), hv.2.tick hgW⟩⟩)
    ⟨J2, E2⟩ ?_ ?_ ?_
  · rintro l2 i args V Wv hl hlV hrec hiN ⟨hJi, hExt⟩ hb ⟨e0, kv, vv, s0, he0, rfl, hk0, hv0, _⟩
    obtain ⟨ak0, nk, hk1⟩ := hk0.shape
    obtain ⟨av, nv, hv1⟩ := hv0.shape
    subst hk1 hv1
    simp
    gi_wp2
    refine ⟨Below.refl _ _, ?_⟩
    intro V2 W2 hJ2 hExt2 hb2 hAr2 hoth hsz3 hV2 rl hrec2
    obtain ⟨e1, kv1, vv1, t1, he1, harr, hk2, hv2, ht1⟩ := hAr2
    obtain rfl : e1 = e0 := by rw [he0] at he1; cases he1; rfl
    simp at harr
    obtain ⟨rfl, rfl⟩ := harr
    have hmE := List.mem_of_getElem? he0
    have tA := Ky.read_yes hk2.by (HSM.out e1 hmE).1 hr hr0 (HRK.out e1 hmE)
    have hN2 := hid3 (fun w3 (B3 : Below W2.heap.size W2 w3) => number_rd (ByU.of (hv2.keep B3)) (HSM.out e1 hmE).2)
    have hci : EL[i]? = some e1 := he0
    have yB := hExt2.blk HYB.out (Nat.le_refl _)
    have HE2 := hid3 hExt2
    have HYY := hid3 (HY.out w2 i #[.agg #[.int .u64 (Ky.rdB e1.kl), .int .i64 (wrap64 (numB e1.vl))]] V2)
    have HJT := hid3 hJ2
    have HB2 := hid3 hb2
    have hs2 : w2.heap.size ≤ V2.heap.size := hExt2.2
    have hs3 : V2.heap.size ≤ W2.heap.size := hb2.size
    have HYV := hid3 (yB.keep hb2)
    have HAr : Hid (∃ e, EL[i]? = some e ∧ (#[.agg #[.int .u64 (Ky.rdB e1.kl), .int .i64 (wrap64 (numB e1.vl))]] : Array Value) = #[.agg #[.int .u64 (Ky.rdB e.kl), .int .i64 (wrap64 (numB e.vl))]]) := hid3 ⟨e1, hci, rfl⟩
    clear hJi hExt hb hk0 hv0 hk2 hv2 hoth hExt2 hJ2 hb2 yB he1 he0 ht1 hci hmE
    obtain ⟨cc, hcc⟩ : ∃ cc, Hid (Ky.rdA r e1.kl = cc) := ⟨_, rfl⟩
    obtain ⟨ss, hss⟩ : ∃ ss, Hid (Ky.rdB e1.kl = ss) := ⟨_, rfl⟩
    obtain ⟨nn, hnn⟩ : ∃ nn, Hid (numB e1.vl = nn) := ⟨_, rfl⟩
    obtain ⟨oo, hoo⟩ : ∃ oo, Hid (Rc.outR (Rc.stNumber e1.vl) = oo) := ⟨_, rfl⟩
    simp only [hcc.out, hss.out] at tA
    have HA2 : Hid (∃ e, EL[i]? = some e ∧ (#[.agg #[.int .u64 ss, .int .i64 (wrap64 nn)]] : Array Value) = #[.agg #[.int .u64 (Ky.rdB e.kl), .int .i64 (wrap64 (numB e.vl))]]) := by
      rw [← hss.out, ← hnn.out]; exact HAr
    have HY2 := hid3 (HY.out w2 i #[.agg #[.int .u64 ss, .int .i64 (wrap64 nn)]] V2)
    clear HYY HAr
    gi_wp2_with first
      | (refine ⟨trivial, rfl, ?_⟩; gi_at_call 121; refine (CallsIn.inRound l2 (callsIn_wide.2 tA)).mono ?_; rintro e' w3 ⟨rfl, B3⟩; clear tA; have B4 := below_alloc w3 (.cells #[.int .i64 (r : Int), .int .u64 cc, .int .u64 ss] 90); have k4 := blk_new w3 [.int .i64 (r : Int), .int .u64 cc, .int .u64 ss] 90; have tN := hN2.out _ (joinB B3 B4); rw [hnn.out, hoo.out] at tN)
      | (refine ⟨trivial, rfl, ?_⟩; gi_at_call 65; refine (CallsIn.inRound l2 (callsIn_wide.2 tN)).mono ?_; rintro e' w5 ⟨rfl, B5⟩; clear tN; have B6 := joinB (joinB B3 B4) B5; have kC := (k4.keep B5).cell (i := 2) rfl; have yC := (HYV.out.keep B6).cell (i := 0) rfl; have hYY := HY2.out _ (by omega) (by omega) HJT.out (by omega) (joinB HB2.out B6) HA2.out; obtain ⟨fn, tmps, assign, body, hy, hR⟩ := hYY; have hR2 : RoundIn (Fence.wide.inRound l2) 0 Tryz.prog l fn tmps assign body w5 _ := ⟨hR.1, fun c cs _ => hR.2 c cs (fun _ h => by cases h)⟩; have HR := hid3 hR2; have HK := hid3 B6; clear hR hR2 B3 B4 B5 B6 k4)
    refine ⟨rfl, HR.out.mono ?_⟩
    rintro e' w7 ⟨hk5, h5⟩
    have hkk : KeepsT TpQ W.heap.size W2 w7 := (KeepsT.of HK.out).trans hk5
    have hk2 : KeepsT TpQ w2.heap.size W2 w7 := hkk.mono (by omega)
    rcases h5 with ⟨rfl, hJ5⟩ | ⟨rfl, hJ5⟩
    · gi_wp2
      exact ⟨hk2, hJ5, Ext.mix (HE2.out.keep HB2.out) hkk (HJ.out w2 (i + 1) w7 hJ5).2.2.2.1⟩
    · gi_wp2
      exact ⟨hk2, rfl, hJ5, Nat.le_trans (HE2.out.keep HB2.out).2 hkk.size⟩
  · rintro D' W' hD hK ⟨hJn, hE⟩
    gi_wp2
    refine ⟨by simp, .inl ⟨_, _, rfl, run_takeDeferred hK, ?_⟩⟩
    have := hE.2
    exact ⟨_, results_none rfl _ _ _, ⟨_, rfl⟩, by simp; omega, w2, by omega, .inl (hSJ w2 _ _ _ hJn (Rec.put hK rfl (by omega) _))⟩
  · rintro D' c i W' hD hK hiN ⟨rfl, hJx', hsz⟩
    gi_wp2
    refine ⟨by simp, .inl ⟨_, _, rfl, run_takeDeferred hK, ?_⟩⟩
    exact ⟨_, results_none rfl _ _ _, ⟨_, rfl⟩, by simp; omega, w2, by omega, .inr ⟨i, by omega, hSx w2 (i + 1) _ _ hJx' (Rec.put hK rfl (by omega) _)⟩⟩
end Qu
end Go.Proofs.YtidnifmehnjipaaGreat

namespace Go.Proofs.YtidnifmehnjipaaGreat
namespace Qu
open Go.RowKit Go.Lib Pg Kv Bk Pw
attribute [local go_sem] Oper.semAt_some
def entp (e : En) : Int × Int := (Ky.rdB e.kl, wrap64 (numB e.vl))
theorem wli_ap11 {F : Fence} {n : Nat} {ops : Array Oper} {Q : Exit → Act → World → Prop} {rest : List Oper} {pos : String} {after : Array Edge} {a : Act} {w w' : World} {u v r : Value} (hF : ∀ f, F.fn f) (hu : a.eval (.tmp 8) = u) (hv : a.eval (.tmp 10) = v) (hr : (Builtin.append_ #[74, 74] 74 #[u, v]).run Tryz.prog w = .ok r w') (h : wpListIn F n Tryz.prog ops Q rest (a.put (some 11) r) w') :
    wpListIn F n Tryz.prog ops Q ({ dst := some 11, op := .call { callee := .builtin .append, args := #[.tmp 8, .tmp 10], argTypes := #[74, 74] }, type := 74, pos := pos, after := after, guard := none } :: rest) a w :=
  Ky.wli_val rfl hF (Oper.semAt_eq _ _ _ (fun c h => by cases h)) (Ky.run_app (x := 8) (y := 10) rfl rfl hu hv hr) h
/-- while the numbers are gathered -/
structure TqI (Wb : World) (a t : Nat) (R : World) (K D : Nat → Prop) (g : Nat) (E : Ents) (Wn : List Ents) (N x : Nat) (l : List (Int × Int)) (V : World) : Prop where
  chg : Chg (fun b => b = g ∨ b = t) Wb V
  sa : SA V K D g E Wn x N
  out : ∃ v, Blk V t [v] 74 ∧ EA V R.heap.size v l
  ext : ExtC a R V
structure TqO (Wb : World) (t : Nat) (K D : Nat → Prop) (g : Nat) (E : Ents) (Wn : List Ents) (N x : Nat) (V : World) : Prop where
  chg : Chg (fun b => b = g ∨ b = t) Wb V
  sa : SA V K D g E Wn x N
  out : Blk V t [.slice none 0 0] 74
section
variable {Wb V V' R : World} {a t g x N : Nat} {K D : Nat → Prop} {E : Ents} {Wn : List Ents} {l : List (Int × Int)}
theorem tq_ne {v : Value} (h : SA V K D g E Wn x N) (h1 : Blk V t [v] 74) : t ≠ g := fun e => by
  obtain ⟨cs, k⟩ := h.kv
  subst e
  exact absurd (h1.eq k).2 (by decide)
theorem TqI.rcd (h : TqI Wb a t R K D g E Wn N x l V) (hr : Rec Wb.heap.size V V') : TqI Wb a t R K D g E Wn N x l V' := by
  obtain ⟨v, h1, h2⟩ := h.out
  exact ⟨chg_rcd h.chg hr (Nat.le_refl _), sa_rcd h.sa hr, ⟨v, rec_cel h1 hr, h2.rcd hr⟩, h.ext.rcd hr⟩
theorem TqO.rcd (h : TqO Wb t K D g E Wn N x V) (hr : Rec Wb.heap.size V V') : TqO Wb t K D g E Wn N x V' := ⟨chg_rcd h.chg hr (Nat.le_refl _), sa_rcd h.sa hr, rec_cel h.out hr⟩
theorem TqI.tick (h : TqI Wb a t R K D g E Wn N x l V) (hg : g < a) (hR : a ≤ R.heap.size) : TqI Wb a t R K D g E Wn N (x + 1) l (tick g V x) := by
  obtain ⟨v, h1, h2⟩ := h.out
  have hc := chg_tick g x V
  exact ⟨h.chg.trans hc (fun b _ e => .inl e), h.sa.tick, ⟨v, h1.chg hc (tq_ne h.sa h1), h2.chg hc (fun b e => by have e' : b = g := e; omega)⟩, h.ext.tick hg⟩
theorem TqO.tick (h : TqO Wb t K D g E Wn N x V) (hg : g < a) (hE : ExtC a R V) : TqI Wb a t R K D g E Wn N (x + 1) [] (tick g V x) := by
  have hc := chg_tick g x V
  exact ⟨h.chg.trans hc (fun b _ e => .inl e), h.sa.tick, ⟨_, h.out.chg hc (tq_ne h.sa h.out), EA.nil _ _⟩, hE.tick hg⟩
theorem tq_rd {v : Value} (hc : Chg (fun b => b = g ∨ b = t) Wb V) (hs : SA V K D g E Wn x N) (h1 : Blk V t [v] 74) : RdS Wb (fun b => b = g ∨ b = t) K D g E Wn N V := by
  refine ⟨hc, fun b hb cs k => ?_, _, hs⟩
  rcases hb with rfl | rfl
  · obtain ⟨cs', k'⟩ := hs.kv
    exact absurd (k.eq k').2 (by decide)
  · exact absurd (k.eq h1).2 (by decide)
end
set_option maxHeartbeats 8000000 in
set_option maxRecDepth 100000 in
theorem appendSeq_any {w W1 : World} {K D : Nat → Prop} {g x0 N bm bs1 bs2 bw r : Nat} {E : Ents} {Wn : List Ents} {EL : List En} (hS : SA w K D g E Wn x0 N) (IT0 : Itr TpQ 158 #[.pointer (some ⟨bw, 0, none⟩)] EL.length (ArC EL) (fun V => Chg (· = g) W1 V)) (hRd : RdC (· = g) W1 g bs1 bs2 bw w) (hbm : Blk w bm [.func (.func 173) #[] #[.pointer (some ⟨bs1, 0, none⟩), .pointer (some ⟨bs2, 0, none⟩)]] 133) (hsm : ∀ e ∈ EL, e.kl.length ≤ 1000000000 ∧ e.vl.length ≤ 1000000000) (hr : r < 18) (hr0 : 0 < r) (hRk : ∀ e ∈ EL, Ky.frm r = Ky.fIn e.kl) (hle : EL.length ≤ N) (hN : N ≤ 100000000) (hx : x0 + N ≤ 2000000000000000000) :
    Calls Tryz.prog 119 #[.slice none 0 0, .func (.func 120) #[] #[.pointer (some ⟨bm, 0, none⟩)]] w fun e w' => ∃ v j, e = .returned v ∧ EA w' w.heap.size v (EL.map entp) ∧ j = EL.length ∧ SA w' K D g E Wn (x0 + 1 + j) N ∧ Chg (· = g) w w' := by
  have hglt : g < w.heap.size := hS.lt hS.top
  have b12 := below_alloc w (.cells #[.slice none 0 0] 74)
  have c2 := blk_new w [.slice none 0 0] 74
  have s2 : (w.alloc (.cells #[.slice none 0 0] 74)).heap.size = w.heap.size + 1 := by simp
  obtain ⟨Wp, hWp⟩ : ∃ Wp, Hid (w.alloc (.cells #[.slice none 0 0] 74) = Wp) := ⟨_, rfl⟩
  rw [hWp.out] at c2 s2 b12
  have HS := hid3 hS
  clear hS
  refine (callsIn_wide (n := 0)).1 ?_
  refine callsIn_of_wp_marks Tryz.func119 rfl trivial ?_ rfl
  simp only [Tryz.ntmps119, List.size_toArray, List.length_cons, List.length_nil, Nat.reduceAdd, Nat.reduceSub, Array.replicate_succ, Array.replicate_zero, List.push_toArray, List.append_toArray, List.nil_append, List.cons_append]
  gi_wp2
  rw [hWp.out]
  have SB := HS.out.keep b12
  have hKt : ∀ b, K b → b < w.heap.size := fun b hb => HS.out.lt hb
  have zW1 := hRd.1.size
  have n1 : bs1 ≠ g := fun e => by obtain ⟨cs, k⟩ := hRd.2.2.2; subst e; exact absurd (k.eq hRd.2.1).2 (by decide)
  have n2 : bs2 ≠ g := fun e => by obtain ⟨cs, k⟩ := hRd.2.2.2; subst e; exact absurd (k.eq hRd.2.2.1).2 (by decide)
  have n3 : bm ≠ g := fun e => by obtain ⟨cs, k⟩ := hRd.2.2.2; subst e; exact absurd (k.eq hbm).2 (by decide)
  have m1 := hRd.2.1.lt
  have m2 := hRd.2.2.1.lt
  have m3 := hbm.lt
  have IT := entries_itr (K := K) (D := D) (E := E) (Wn := Wn) (X := fun b => b = g ∨ b = w.heap.size) IT0 (fun b hb h => h.elim id (fun e => by omega)) ⟨hRd.1.trans (Chg.of (F := fun _ => False) b12) (fun _ _ h => h.elim), hRd.2.1.keep b12, hRd.2.2.1.keep b12, by obtain ⟨cs, k⟩ := hRd.2.2.2; exact ⟨cs, k.keep b12⟩⟩ (hbm.keep b12) (fun h => by rcases h with h | h <;> omega) (fun h => by rcases h with h | h <;> omega) (fun h => by rcases h with h | h <;> omega) hsm hr hr0 hRk hle hx
  have T1 := c2
  have zb : w.heap.size + 1 ≤ Wp.heap.size := by omega
  have I0 : TqO Wp (w.heap.size) K D g E Wn N x0 Wp := ⟨Chg.refl _ _, SB, T1⟩
  have HB := hid3 b12
  have hlen : (EL.map entp).length = EL.length := (by simp)
  clear SB IT0 hRd hbm hsm hRk
  refine rf_outerE IT (by rfl) (enters_of Tryz.func120 (by kernel_rfl) rfl) (fun i args n V V' h hc => h) (fun i args n V h => by obtain ⟨c, _, rfl⟩ := h; rfl)
    (fun V => TqO Wp (w.heap.size) K D g E Wn N x0 V)
    (fun R i V => Wp.heap.size + 2 ≤ R.heap.size ∧ TqI Wp (Wp.heap.size + 2) (w.heap.size) R K D g E Wn N (x0 + 1 + i) ((EL.map entp).take i) V)
    (fun R i V => Wp.heap.size + 2 ≤ R.heap.size ∧ TqI Wp (Wp.heap.size + 2) (w.heap.size) R K D g E Wn N (x0 + 1 + i + 1) ((EL.map entp).take i) V)
    (fun R c i V => False)
    (fun A B hx hr => hx.rcd hr) (fun R i A B hx hr => ⟨hx.1, hx.2.rcd hr⟩) (fun R i A B hx hr => ⟨hx.1, hx.2.rcd hr⟩) (fun R c i A B hx hr => hx) (by omega)
    (fun V hv => by have q := hv.sa.cnt; exact ⟨q.1, q.2, tq_rd hv.chg hv.sa hv.out, fun R hR hE => ⟨hR, by simpa using hv.tick (by omega) hE⟩⟩)
    (fun R i V hv => by have hT := hv.2; have q := hT.sa.cnt; obtain ⟨v, o1, o2⟩ := hT.out; exact ⟨q.1, q.2, tq_rd hT.chg hT.sa o1, hT.ext, fun _ => ⟨hv.1, hT.tick (by omega) hv.1⟩⟩)
    I0 ?_ ?_ ?_
  · rintro R hR l2 i args V Wv hl hlV hrec hiN ⟨-, hT⟩ hb ⟨c, hc, rfl⟩
    have hpi : (EL.map entp)[i]? = some (entp c) := by rw [List.getElem?_map, hc]; rfl
    simp
    gi_wp2
    refine ⟨below_alloc _ _, ?_⟩
    intro V2 W2 _ hT2 hb2 hAr2 hoth hsz3 hV2 r hrec2
    obtain ⟨v, o1, o2⟩ := hT2.out
    have hlt : i < (EL.map entp).length := (List.getElem?_eq_some_iff.1 hpi).1
    have hli : ((EL.map entp).take i).length = i := by rw [List.length_take]; omega
    obtain ⟨ao, cc, rfl⟩ := o2.shape
    rw [hli] at o1 o2
    have zV := hb.size
    have z2 := hb2.size
    have zT := hT2.chg.size
    have zE := hT2.ext.size
    have kk : Blk W2 Wv.heap.size [.int .u64 (entp c).1, .int .i64 (entp c).2] 61 := ⟨(hoth _ (by omega)).trans (blk_new Wv [.int .u64 (entp c).1, .int .i64 (entp c).2] 61).blk⟩
    have P0 := o1.keep hb2
    have Q0 := o2.keep hb2
    have hBa := below_alloc W2 (.cells #[.int .u64 (entp c).1, .int .i64 (entp c).2] 61)
    have N4 := blk_new W2 [.int .u64 (entp c).1, .int .i64 (entp c).2] 61
    obtain ⟨W4, hW4⟩ : ∃ W4, Hid (W2.alloc (.cells #[.int .u64 (entp c).1, .int .i64 (entp c).2] 61) = W4) := ⟨_, rfl⟩
    rw [hW4.out] at hBa N4
    have z4 := hBa.size
    obtain ⟨v5, w5, hr5, U5, C5⟩ := app_e (p := entp c) (a := ⟨W2.heap.size, 0, none⟩) 74 (Q0.keep hBa) (by omega) (by rw [hli]; omega) (N4.cell (i := 0) rfl) (N4.cell (i := 1) rfl)
    have hl5 : ((EL.map entp).take i ++ [entp c]).length = i + 1 := by rw [List.length_append, hli]; rfl
    obtain ⟨a5, c5, rfl⟩ := U5.shape
    rw [hl5] at U5 hr5
    have he5 : (EL.map entp).take (i + 1) = (EL.map entp).take i ++ [entp c] := by rw [List.take_add_one, hpi]; rfl
    have S5 := (P0.keep hBa).chg C5 (fun h => by obtain ⟨_, cs, k⟩ := h; exact absurd (k.eq (P0.keep hBa)).2 (by decide))
    obtain ⟨q1, hq1⟩ : ∃ q1, Hid (i + 1 = q1) := ⟨_, rfl⟩
    rw [hq1.out] at U5 hr5
    have hC6 : Chg (· = w.heap.size) w5 (w5.setCell ⟨w.heap.size, 0, none⟩ (.slice a5 q1 c5)) := (Chg.refl (fun x => x = w.heap.size) w5).cell (.inl (by rfl)) _
    have S6 := S5.setCell (i := 0) (.slice a5 q1 c5)
    have hK5 : KeepsT TpQ Wp.heap.size W4 w5 := ⟨C5.size, fun k o _ h0 hs => (C5.same k (lt_of_block h0) (fun h => by
      obtain ⟨_, cs, kb⟩ := h
      rw [kb.blk] at h0
      cases h0
      exact hs _ _ _ rfl rfl)).trans h0⟩
    have hKe : KeepsT TpQ Wp.heap.size W2 (w5.setCell ⟨w.heap.size, 0, none⟩ (.slice a5 q1 c5)) := ((KeepsT.of hBa).trans hK5).trans ⟨hC6.size, fun k o hk h0 _ => (hC6.same k (lt_of_block h0) (fun e => by have e' : k = w.heap.size := e; have := T1.lt; omega)).trans h0⟩
    have hTI : TqI Wp (Wp.heap.size + 2) (w.heap.size) R K D g E Wn N (x0 + 1 + q1) ((EL.map entp).take q1) (w5.setCell ⟨w.heap.size, 0, none⟩ (.slice a5 q1 c5)) := by
      have hTl := T1.lt
      refine ⟨?_, ?_, ⟨_, S6, ?_⟩, ?_⟩
      · exact ((hT2.chg.trans (Chg.of (F := fun _ => False) (joinB hb2 hBa)) (fun _ _ h => h.elim)).trans C5 (fun b h1 h2 => by omega)).trans hC6 (fun b _ h => .inr h)
      · have q := ((hT2.sa.keep (joinB hb2 hBa)).chg C5 (fun b h1 hk => by have := hKt b hk; omega) (fun b h1 cs kk => by obtain ⟨_, cs', k'⟩ := h1; exact absurd (kk.eq k').2 (by decide))).chg hC6 (fun b e hk => by have e' : b = w.heap.size := e; have := hKt b hk; omega) (fun b e cs kk => by
          have e' : b = w.heap.size := e
          subst e'
          exact absurd (kk.eq S5).2 (by decide))
        rw [show x0 + 1 + q1 = x0 + 1 + i + 1 by have := hq1.out; omega]
        exact q
      · rw [← hq1.out, he5]
        have q := U5.chg hC6 (fun b e => by have e' : b = w.heap.size := e; omega)
        rw [← hq1.out] at q
        exact q
      · exact (((hT2.ext.keep hb2).keep hBa).chg C5 (fun b h => .inr h.1)).chg hC6 (fun b e => .inl (by have e' : b = w.heap.size := e; omega))
    have p0c := P0.cell (i := 0) rfl
    have kc := kk.cell (i := 0) rfl
    have kd := kk.cell (i := 1) rfl
    have s5c := S5.cell (i := 0) rfl
    have s5f := S5.free 0
    have HKE := hid3 hKe
    have HTI := hid3 hTI
    clear hT hoth hAr2 hb hT2 hb2 P0 Q0 N4 hBa U5 C5 S5 hC6 S6 hK5 hKe hTI o1 o2 kk hli hl5 he5 hpi hlt zV z2 zT zE z4 hc hsz3 hV2
    rw [← hW4.out] at hr5
    clear hW4
    gi_wp2_with (first | (have gate := hr5; clear gate; (with_reducible refine wli_ap11 ?_ ?_ ?_ hr5 ?_); (exact fun _ => trivial); rfl; rfl; clear hr5))
    exact ⟨HKE.out, hR, hq1.out ▸ HTI.out⟩
  · rintro R D' W' hR hD hK ⟨-, hT⟩
    obtain ⟨v, o1, o2⟩ := hT.out
    obtain ⟨ao, cc, rfl⟩ := o2.shape
    obtain ⟨ln, hln⟩ : ∃ ln, Hid (((EL.map entp).take EL.length).length = ln) := ⟨_, rfl⟩
    rw [hln.out] at o1 o2
    have h1c := o1.cell (i := 0) rfl
    have R3 := Rec.put hK rfl hD (.deferred none)
    have hT3 := hT.rcd R3
    have HH2 := hid3 o2
    have zW := HB.out.size
    clear o2
    gi_wp2
    refine ⟨by simp, .inl ⟨_, _, rfl, run_takeDeferred hK, ?_⟩⟩
    refine ⟨_, results_tmp rfl _ _ _, _, _, rfl, ?_, ?_, hT3.sa, ?_⟩
    · have q := (HH2.out.rcd R3).low (B' := w.heap.size) (by omega)
      rw [List.take_of_length_le (by rw [hlen]; omega)] at q
      exact q
    · rfl
    · exact (Chg.of (F := (· = g)) HB.out).trans hT3.chg (fun b hl e => e.elim id (fun e => by omega))
  · rintro R D' c i W' hR hD hK hiN h
    exact h.elim
end Qu
end Go.Proofs.YtidnifmehnjipaaGreat

namespace Go.Proofs.YtidnifmehnjipaaGreat
namespace Qu
open Go.RowKit Go.Lib Pg Lim Gl Kv Bk Pw
attribute [local go_sem] Oper.semAt_some
set_option maxRecDepth 100000
set_option linter.unusedVariables false
set_option linter.unusedSimpArgs false
set_option maxHeartbeats 2000000
theorem collect_any {w W1 : World} {K D : Nat → Prop} {g x0 N bm bs1 bs2 bw r : Nat} {E : Ents} {Wn : List Ents} {EL : List En} (hS : SA w K D g E Wn x0 N) (IT0 : Itr TpQ 158 #[.pointer (some ⟨bw, 0, none⟩)] EL.length (ArC EL) (fun V => Chg (· = g) W1 V)) (hRd : RdC (· = g) W1 g bs1 bs2 bw w) (hbm : Blk w bm [.func (.func 173) #[] #[.pointer (some ⟨bs1, 0, none⟩), .pointer (some ⟨bs2, 0, none⟩)]] 133) (hsm : ∀ e ∈ EL, e.kl.length ≤ 1000000000 ∧ e.vl.length ≤ 1000000000) (hr : r < 18) (hr0 : 0 < r) (hRk : ∀ e ∈ EL, Ky.frm r = Ky.fIn e.kl) (hle : EL.length ≤ N) (hN : N ≤ 100000000) (hx : x0 + N ≤ 2000000000000000000) :
    Calls Tryz.prog 71 #[.func (.func 120) #[] #[.pointer (some ⟨bm, 0, none⟩)]] w fun e w' => ∃ v j, e = .returned v ∧ EA w' w.heap.size v (EL.map entp) ∧ j = EL.length ∧ SA w' K D g E Wn (x0 + 1 + j) N ∧ Chg (· = g) w w' := by
  refine gc_enter (n := 5) Tryz.func71 rfl (by kernel_rfl) (by kernel_rfl) ?_
  refine gc_seq ?_
  refine gc_reg ?_
  refine t 2 (.slice none 0 0) ?_
  refine gl_nil ?_
  refine ge_then ?_
  refine gc_seq ?_
  refine gc_reg ?_
  refine t 3 (.func (.func 120) #[] #[.pointer (some ⟨bm, 0, none⟩)]) ?_
  refine tc 4 119 #[.slice none 0 0, .func (.func 120) #[] #[.pointer (some ⟨bm, 0, none⟩)]] (appendSeq_any hS IT0 hRd hbm hsm hr hr0 hRk hle hN hx) ?_
  rintro _ v1 ⟨v, j, rfl, F1⟩
  refine ⟨_, rfl, ?_⟩
  refine t 2 (v) ?_
  refine gl_nil ?_
  refine ge_then ?_
  refine gc_ret ?_
  refine ge_ret (v) (rs1 2 (by kernel_rfl) (by kernel_rfl)) ?_
  exact ⟨v, j, rfl, F1⟩
theorem rdc_keep {X : Nat → Prop} {W1 V V' : World} {g bs1 bs2 bw : Nat} (h : RdC X W1 g bs1 bs2 bw V) (b : Below V.heap.size V V') : RdC X W1 g bs1 bs2 bw V' := ⟨h.1.trans (Chg.of (F := fun _ => False) b) (fun _ _ h => h.elim), h.2.1.keep b, h.2.2.1.keep b, h.2.2.2.imp fun _ k => k.keep b⟩
/-- the entries to which marks under a beginning lead -/
def under (E : Ents) (p : List Int) : List (Int × Int) := (E.filter (fun x => decide (p <+: x.1))).map (fun x => (Ky.rdB x.1, wrap64 (numB x.2)))
theorem und15 {w : World} {v : Int} (hv : 0 ≤ v ∧ v < 18446744073709551616) : Calls Tryz.prog 70 #[.int .i64 15, .int .u64 v] w fun e w' => ∃ u, e = .returned (.tuple #[u, .int .i64 0]) ∧ OB w' (w.heap.size ≤ ·) u (Ky.mkb (Ky.frm 15) (Ky.tn 15 v)) ∧ Below w.heap.size w w' := Ky.under_any (k := 15) hv.1 hv.2
theorem from_sa {w : World} {K D : Nat → Prop} {g x0 N : Nat} {v : Int} {E : Ents} {Wn : List Ents} (hS : SA w K D g E Wn x0 N) (hv : 0 ≤ v ∧ v < 18446744073709551616) (hul : (Ky.mkb (Ky.frm 15) (Ky.tn 15 v)).length ≤ 100) (hRk : ∀ x ∈ E, (Ky.mkb (Ky.frm 15) (Ky.tn 15 v)) <+: x.1 → Ky.frm (15 : Nat) = Ky.fIn x.1) (hN : N ≤ 100000000) (hx : x0 + N ≤ 2000000000000000000) :
    Calls Tryz.prog 30 #[pg g, .int .u64 v] w fun e w' => ∃ u j, e = .returned u ∧ EA w' w.heap.size u (under E (Ky.mkb (Ky.frm 15) (Ky.tn 15 v))) ∧ j = (under E (Ky.mkb (Ky.frm 15) (Ky.tn 15 v))).length ∧ SA w' K D g E Wn (x0 + 1 + j) N ∧ Chg (· = g) w w' := by
  have BB := Below.refl w.heap.size w
  refine gc_enter (n := 17) Tryz.func30 rfl (by kernel_rfl) (by kernel_rfl) ?_
  refine gc_seq ?_
  refine gc_reg ?_
  refine t 4 (.slice none 0 0) ?_
  refine gl_nil ?_
  refine ge_then ?_
  refine gc_seq ?_
  refine gc_reg ?_
  refine t 8 (.int .u64 v) ?_
  refine tc 9 70 #[.int .i64 15, .int .u64 v] (und15 hv) ?_
  rintro _ v1 ⟨u, rfl, O, B⟩
  refine ⟨_, rfl, ?_⟩
  replace BB := joinB BB B
  replace hS := hS.keep B
  clear B
  refine t 7 (.tuple #[u, .int .i64 0]) ?_
  refine t 10 (u) ?_
  refine t 11 (.int .i64 0) ?_
  refine t 5 (u) ?_
  refine t 6 (.int .i64 0) ?_
  refine gl_nil ?_
  refine ge_then ?_
  refine gc_seq ?_
  refine gc_reg ?_
  refine t 12 (pg g) ?_
  refine t 13 (u) ?_
  refine tc 14 75 #[pg g, u] (sprefixG (Tp := TpQ) (X := (· = g)) hS hN O.by (by have : (Ky.mkb (Ky.frm 15) (Ky.tn 15 v)).length ≤ 100 := hul; omega) (fun b e => .inl e) (fun b e cs k => by have e' : b = g := e; subst e'; obtain ⟨cs', k'⟩ := hS.kv; exact absurd (k.eq k').2 (by decide)) (fun b e => by have e' : b = g := e; subst e'; exact hS.lt hS.top) (by unfold TpQ; decide) (by unfold TpQ; decide)) ?_
  rintro _ v2 ⟨pv, EL, rfl, IG, hEL, B⟩
  refine ⟨_, rfl, ?_⟩
  obtain ⟨bs1, bs2, bw, W1, rfl, IT, hRd, hb1, hb2⟩ := IG.ex
  have hsm := IG.small
  clear IG
  replace BB := joinB BB B
  replace hS := hS.keep B
  replace O := O.keep B
  clear B
  clear O
  refine tc 15 72 #[.func (.func 173) #[] #[.pointer (some ⟨bs1, 0, none⟩), .pointer (some ⟨bs2, 0, none⟩)]] (entries_mk) ?_
  rintro _ v3 ⟨bm, rfl, hb3, hbm, B⟩
  refine ⟨_, rfl, ?_⟩
  replace BB := joinB BB B
  replace hS := hS.keep B
  replace hRd := rdc_keep hRd B
  clear B
  have hle : EL.length ≤ N := by
    have h1 := hS.size
    have h2 : (EL.map En.kl2).length ≤ E.length := by rw [hEL]; exact List.length_filter_le _ _
    rw [List.length_map] at h2
    omega
  have hRk2 : ∀ e ∈ EL, Ky.frm (15 : Nat) = Ky.fIn e.kl := fun e he => by
    have hm : e.kl2 ∈ E.filter (fun x => decide ((Ky.mkb (Ky.frm 15) (Ky.tn 15 v)) <+: x.1)) := by rw [← hEL]; exact List.mem_map.2 ⟨e, he, rfl⟩
    exact hRk _ (List.mem_filter.1 hm).1 (of_decide_eq_true (List.mem_filter.1 hm).2)
  refine tc 16 71 #[.func (.func 120) #[] #[.pointer (some ⟨bm, 0, none⟩)]] (collect_any (r := 15) hS IT hRd hbm hsm (by decide) (by decide) hRk2 hle hN hx) ?_
  rintro _ v4 ⟨vv, j, rfl, hEA, hj, hSA, hC⟩
  refine ⟨_, rfl, ?_⟩
  refine t 4 (vv) ?_
  refine gl_nil ?_
  refine ge_then ?_
  refine gc_fr [(4, vv)] (by kernel_rfl) ?_
  refine gc_ret ?_
  refine ge_ret (vv) (rs1 4 (by kernel_rfl) (by kernel_rfl)) ?_
  have eL : EL.map entp = under E (Ky.mkb (Ky.frm 15) (Ky.tn 15 v)) := by unfold under; rw [← hEL, List.map_map]; rfl
  rw [eL] at hEA
  have zz := BB.size
  exact ⟨_, j, rfl, hEA.low zz, (by rw [hj, ← eL, List.length_map]), hSA, (Chg.of (F := (· = g)) BB).trans hC (fun _ _ h => h)⟩
end Qu
end Go.Proofs.YtidnifmehnjipaaGreat

namespace Go.Proofs.YtidnifmehnjipaaGreat
namespace Qu
open Go.RowKit Go.Lib Pg Lim Gl Kv Bk Pw
attribute [local go_sem] Oper.semAt_some
set_option maxRecDepth 100000
set_option linter.unusedVariables false
set_option linter.unusedSimpArgs false
set_option maxHeartbeats 2000000
theorem und14 {w : World} {v : Int} (hv : 0 ≤ v ∧ v < 18446744073709551616) : Calls Tryz.prog 70 #[.int .i64 14, .int .u64 v] w fun e w' => ∃ u, e = .returned (.tuple #[u, .int .i64 0]) ∧ OB w' (w.heap.size ≤ ·) u (Ky.mkb (Ky.frm 14) (Ky.tn 14 v)) ∧ Below w.heap.size w w' := Ky.under_any (k := 14) hv.1 hv.2
theorem of14 (w : World) : Calls Tryz.prog 69 #[.int .i64 14] w fun e w' => ∃ v, e = .returned (.tuple #[v, .int .i64 0]) ∧ OB w' (w.heap.size ≤ ·) v [113] ∧ Below w.heap.size w w' := Ky.of_any (k := 14)
theorem nextQ {w : World} {v : Value} {l : List Int} (h : By w v l) (hl : l.length ≤ 1000000000) : Calls Tryz.prog 74 #[v] w fun e w' => ∃ u, e = .returned u ∧ OB w' (w.heap.size ≤ ·) u (Ky.nxt l) ∧ Below w.heap.size w w' := by
  obtain ⟨ao, c, rfl, _⟩ := id h.ex
  exact Ky.next_any h hl
theorem nxt_len (p : List Int) : (Ky.nxt p).length ≤ p.length := by
  rcases Ky.last255 p with h1 | ⟨A, x, B, rfl, hx, hB⟩
  · rw [Ky.nxt_all h1]; simp
  · rw [Ky.nxt_eq hx hB]; simp
/-- the entries to which marks up to a time lead -/
def upto (E : Ents) (p : List Int) : List (Int × Int) := (E.filter (abtw [113] (Ky.nxt p))).map (fun x => (Ky.rdB x.1, wrap64 (numB x.2)))
theorem due_sa {w : World} {K D : Nat → Prop} {g x0 N : Nat} {v : Int} {E : Ents} {Wn : List Ents} (hS : SA w K D g E Wn x0 N) (hv : 0 ≤ v ∧ v < 18446744073709551616) (hul : (Ky.mkb (Ky.frm 14) (Ky.tn 14 v)).length ≤ 100) (hRk : ∀ x ∈ E, abtw [113] (Ky.nxt (Ky.mkb (Ky.frm 14) (Ky.tn 14 v))) x = true → Ky.frm (14 : Nat) = Ky.fIn x.1) (hN : N ≤ 100000000) (hx : x0 + N ≤ 2000000000000000000) :
    Calls Tryz.prog 29 #[pg g, .int .u64 v] w fun e w' => ∃ u j, e = .returned u ∧ EA w' w.heap.size u (upto E (Ky.mkb (Ky.frm 14) (Ky.tn 14 v))) ∧ j = (upto E (Ky.mkb (Ky.frm 14) (Ky.tn 14 v))).length ∧ SA w' K D g E Wn (x0 + 1 + j) N ∧ Chg (· = g) w w' := by
  have BB := Below.refl w.heap.size w
  refine gc_enter (n := 25) Tryz.func29 rfl (by kernel_rfl) (by kernel_rfl) ?_
  refine gc_seq ?_
  refine gc_reg ?_
  refine t 4 (.slice none 0 0) ?_
  refine gl_nil ?_
  refine ge_then ?_
  refine gc_seq ?_
  refine gc_reg ?_
  refine tc 10 69 #[.int .i64 14] (of14 _) ?_
  rintro _ v1 ⟨f, rfl, P, B⟩
  refine ⟨_, rfl, ?_⟩
  replace BB := joinB BB B
  replace hS := hS.keep B
  clear B
  refine t 9 (.tuple #[f, .int .i64 0]) ?_
  refine t 11 (f) ?_
  refine t 12 (.int .i64 0) ?_
  refine t 5 (f) ?_
  refine t 6 (.int .i64 0) ?_
  refine gl_nil ?_
  refine ge_then ?_
  refine gc_seq ?_
  refine gc_reg ?_
  refine t 14 (.int .u64 v) ?_
  refine tc 15 70 #[.int .i64 14, .int .u64 v] (und14 hv) ?_
  rintro _ v2 ⟨u, rfl, O, B⟩
  refine ⟨_, rfl, ?_⟩
  replace BB := joinB BB B
  replace hS := hS.keep B
  replace P := P.keep B
  clear B
  refine t 13 (.tuple #[u, .int .i64 0]) ?_
  refine t 16 (u) ?_
  refine t 17 (.int .i64 0) ?_
  refine t 7 (u) ?_
  refine t 8 (.int .i64 0) ?_
  refine gl_nil ?_
  refine ge_then ?_
  refine gc_fr [(0, pg g), (4, .slice none 0 0), (5, f), (7, u)] (by kernel_rfl) ?_
  refine gc_seq ?_
  refine gc_reg ?_
  refine t 18 (pg g) ?_
  refine t 19 (f) ?_
  refine t 20 (u) ?_
  refine tc 21 74 #[u] (nextQ O.by (Nat.le_trans hul (by decide))) ?_
  rintro _ v3 ⟨nx, rfl, Q, B⟩
  refine ⟨_, rfl, ?_⟩
  replace BB := joinB BB B
  replace hS := hS.keep B
  replace P := P.keep B
  replace O := O.keep B
  clear B
  clear O
  refine tc 22 73 #[pg g, f, nx] (swalkG (Tp := TpQ) (X := (· = g)) hS hN P.by Q.by (by decide) (Nat.le_trans (nxt_len _) (Nat.le_trans hul (by decide))) (fun b e => .inl e) (fun b e cs k => by have e' : b = g := e; subst e'; obtain ⟨cs', k'⟩ := hS.kv; exact absurd (k.eq k').2 (by decide)) (fun b e => by have e' : b = g := e; subst e'; exact hS.lt hS.top) (by unfold TpQ; decide) (by unfold TpQ; decide)) ?_
  rintro _ v4 ⟨pv, EL, rfl, IG, hEL, B⟩
  refine ⟨_, rfl, ?_⟩
  obtain ⟨bs1, bs2, bw, W1, rfl, IT, hRd, hb1, hb2⟩ := IG.ex
  have hsm := IG.small
  clear IG
  replace BB := joinB BB B
  replace hS := hS.keep B
  replace P := P.keep B
  replace Q := Q.keep B
  clear B
  clear P
  clear Q
  refine tc 23 72 #[.func (.func 173) #[] #[.pointer (some ⟨bs1, 0, none⟩), .pointer (some ⟨bs2, 0, none⟩)]] (entries_mk) ?_
  rintro _ v5 ⟨bm, rfl, hb3, hbm, B⟩
  refine ⟨_, rfl, ?_⟩
  replace BB := joinB BB B
  replace hS := hS.keep B
  replace hRd := rdc_keep hRd B
  clear B
  have hle : EL.length ≤ N := by
    have h1 := hS.size
    have h2 : (EL.map En.kl2).length ≤ E.length := by rw [hEL]; exact List.length_filter_le _ _
    rw [List.length_map] at h2
    omega
  have hRk2 : ∀ e ∈ EL, Ky.frm (14 : Nat) = Ky.fIn e.kl := fun e he => by
    have hm : e.kl2 ∈ E.filter (abtw [113] (Ky.nxt (Ky.mkb (Ky.frm 14) (Ky.tn 14 v)))) := by rw [← hEL]; exact List.mem_map.2 ⟨e, he, rfl⟩
    exact hRk _ (List.mem_filter.1 hm).1 (List.mem_filter.1 hm).2
  refine tc 24 71 #[.func (.func 120) #[] #[.pointer (some ⟨bm, 0, none⟩)]] (collect_any (r := 14) hS IT hRd hbm hsm (by decide) (by decide) hRk2 hle hN hx) ?_
  rintro _ v6 ⟨vv, j, rfl, hEA, hj, hSA, hC⟩
  refine ⟨_, rfl, ?_⟩
  refine t 4 (vv) ?_
  refine gl_nil ?_
  refine ge_then ?_
  refine gc_ret ?_
  refine ge_ret (vv) (rs1 4 (by kernel_rfl) (by kernel_rfl)) ?_
  have eL : EL.map entp = upto E (Ky.mkb (Ky.frm 14) (Ky.tn 14 v)) := by unfold upto; rw [← hEL, List.map_map]; rfl
  rw [eL] at hEA
  have zz := BB.size
  exact ⟨_, j, rfl, hEA.low zz, (by rw [hj, ← eL, List.length_map]), hSA, (Chg.of (F := (· = g)) BB).trans hC (fun _ _ h => h)⟩
end Qu
end Go.Proofs.YtidnifmehnjipaaGreat

namespace Go.Proofs.YtidnifmehnjipaaGreat
namespace Pw
open Go.RowKit Go.Lib Pg Kv Bk Gl
attribute [local go_sem] Oper.semAt_some
theorem und_u : Tryz.prog.underlying 22 = some (.int .u64) := by kernel_rfl
theorem und_i : Tryz.prog.underlying 3 = some (.int .i64) := by kernel_rfl
section
variable {w : World} {bm clock : Nat} {es : Array MapEntry} {k : Int}
theorem isk (k : Int) : MapKept.IsKey (.int .u64) (.int .u64 k) := by
  simp [MapKept.IsKey]
/-- an object is laid anew -/
def wset (w : World) (r : Nat) (o : Obj) : World := { w with heap := w.heap.setIfInBounds r o }
theorem wset_at {r : Nat} {o o' : Obj} (h : w.heap[r]? = some o') : (wset w r o).heap[r]? = some o := by
  have := lt_of_block h
  simp [wset, this]
theorem wset_chg (r : Nat) (o : Obj) : Chg (· = r) w (wset w r o) := ⟨rfl, rfl, rfl, by simp [wset], fun b _ hb => by
  have hb' : ¬ (b = r) := hb
  simp only [wset]
  rw [Array.getElem?_setIfInBounds_ne (fun e => hb' e.symm)]⟩
theorem run_setI {r b d : Nat} {a : Option Nat} {c : Array Nat} {o : Obj} (h : w.heap[r]? = some (.mapIter a b c d)) : (setObj r o).run Tryz.prog w = .ok () (wset w r o) := by
  simp only [setObj, Sem.run]
  rw [h]
  rfl
theorem run_getI {r b d : Nat} {a : Option Nat} {c : Array Nat} (h : w.heap[r]? = some (.mapIter a b c d)) : (getObj r).run Tryz.prog w = .ok (.mapIter a b c d) w := by
  simp only [getObj, Sem.run]
  rw [h]
/-- one entry that is left, whichever it be -/
theorem run_nx {r since c0 : Nat} {seen : Array Nat} (ty : TypeId) (hr : w.heap[r]? = some (.mapIter (some bm) since seen c0)) (hb : w.heap[bm]? = some (.map es clock)) (hold : ∀ x ∈ es.toList, x.born < since) (hsc : since ≤ c0) :
    ((leftOf es seen).size = 0 ∧ (Instr.next (.pointer (some ⟨r, 0, none⟩)) false ty).run Tryz.prog w = .ok (.tuple #[.bool false]) w) ∨
    ∃ e ∈ (leftOf es seen).toList, ∃ w1, (Instr.next (.pointer (some ⟨r, 0, none⟩)) false ty).run Tryz.prog w = .ok (.tuple #[.bool true, e.key, e.val]) w1 ∧ w1.heap[r]? = some (.mapIter (some bm) since (seen.push e.born) clock) ∧ Chg (· = r) w w1 := by
  have test := next_test_false seen es since c0 hold hsc
  have hL : ∀ x ∈ (leftOf es seen).toList, x.born < since := fun x hx => hold x (mem_left hx).1
  simp only [Instr.next, Sem.run_bind, run_getI hr, Result.andThen_ok, MapKept.run_getObj_map hb, test, Bool.false_eq_true, if_false]
  change ((leftOf es seen).size = 0 ∧ _) ∨ _
  rw [show (es.filter fun e => !seen.contains e.born) = leftOf es seen from rfl]
  obtain ⟨L, hLe⟩ : ∃ L, leftOf es seen = L := ⟨_, rfl⟩
  rw [hLe] at hL ⊢
  have old : (L.filter fun x => decide (x.born < since)) = L := Array.filter_eq_self.2 (fun x hx => by simpa using hL x (by simpa using hx))
  have new : (L.filter fun x => decide (x.born ≥ since)) = #[] := Array.filter_eq_empty_iff.2 (fun x hx => by have := hL x (by simpa using hx); simp; omega)
  rw [old, new, Array.append_empty]
  by_cases h0 : L.size = 0
  · refine .inl ⟨h0, ?_⟩
    obtain rfl : L = #[] := Array.eq_empty_of_size_eq_zero h0
    simp [choose, Sem.run, Question.forced]
  · refine .inr ?_
    have ne : L.isEmpty = false := by simp [Array.isEmpty, h0]
    rw [ne]
    have draw : ∃ (j : Nat) (w1 : World), j < L.size ∧ (w1 = w ∨ w1 = w.drew) ∧ (choose (Question.mapNext L.size)).run Tryz.prog w = .ok j w1 := by
      by_cases hf : L.size ≤ 1
      · exact ⟨0, w, by omega, .inl rfl, by simp [choose, Sem.run, Question.forced, hf]⟩
      · exact ⟨_, w.drew, Nat.mod_lt _ (by omega), .inr rfl, by
          simp only [choose, Sem.run, Question.forced, decide_eq_true_eq, hf, if_false, Question.cut]
          rfl⟩
    obtain ⟨j, w1, hj, hw, hrun⟩ := draw
    have h1 : w1.heap[r]? = some (.mapIter (some bm) since seen c0) := by rcases hw with rfl | rfl <;> exact hr
    refine ⟨L[j], by simp, wset w1 r (.mapIter (some bm) since (seen.push L[j].born) clock), ?_, wset_at h1, ?_⟩
    · simp only [Bool.false_eq_true, if_false, Array.empty_append, Array.size_map, hrun, Result.andThen_ok, Array.getElem?_map, Array.getElem?_eq_getElem hj, Option.map_some, Sem.run_bind, run_setI h1, Sem.run_pure]
    · have c := wset_chg (w := w1) r (.mapIter (some bm) since (seen.push L[j].born) clock)
      rcases hw with rfl | rfl
      · exact c
      · exact (Chg.of (F := (· = r)) (Below.refl _ _).drew).trans c (fun _ _ h => h)
theorem run_en0 {r since : Nat} {seen : Array Nat} {e : MapEntry} (hr : w.heap[r]? = some (.mapIter (some bm) since (seen.push e.born) clock)) (hb : w.heap[bm]? = some (.map es clock)) (he : e ∈ es.toList) (hn : (es.toList.map (·.born)).Nodup) :
    (Instr.entry (.pointer (some ⟨r, 0, none⟩))).run Tryz.prog w = .ok (.tuple #[e.key, e.val]) w := by
  have hf : es.find? (·.born == e.born) = some e := by rw [← Array.find?_toList]; exact find_born e es.toList hn he
  simp only [Instr.entry, Sem.run_bind, run_getI hr, Result.andThen_ok, MapKept.run_getObj_map hb, Array.back?_push, bne_self_eq_false, Bool.false_eq_true, if_false, hf, Sem.run_pure]
end
section
variable {P : Program} {n : Nat} {ds : List Deferred} {ops : Array Oper} {Q : Exit → Act → World → Prop} {rest : List Oper} {o : Oper} {l : Fr} {w : World}
theorem tmk (d : Nat) (h : ∀ w1 g, w1.heap[g]? = some (.map #[] 0) → w.heap.size ≤ g → Below w.heap.size w w1 → GL P n ds ops Q rest ((d, .map (some g)) :: l) w1) (hg : gd ops l o = some true := by kernel_rfl) (hc : chk n l o (some d) = true := by kernel_rfl) (hrun : (execOp (evL l) o).run P w = .ok (.value (.map (some w.heap.size))) (w.alloc (.map #[] 0)) := by kernel_rfl) : GL P n ds ops Q (o :: rest) l w :=
  tw d _ _ hrun (h _ _ (World.alloc_heap_new w _) (Nat.le_refl _) (below_alloc w _)) hg hc
end
section
variable {n : Nat} {ds : List Deferred} {ops : Array Oper} {Q : Exit → Act → World → Prop} {rest : List Oper} {o : Oper} {l : Fr} {w : World}
/-- the next entry: none is left, or one that is left comes -/
theorem tnx (d : Nat) {r bm since c0 clock : Nat} {seen : Array Nat} {es : Array MapEntry} (hr : w.heap[r]? = some (.mapIter (some bm) since seen c0)) (hb : w.heap[bm]? = some (.map es clock)) (hold : ∀ x ∈ es.toList, x.born < since) (hsc : since ≤ c0) (h0 : (leftOf es seen).size = 0 → GL Tryz.prog n ds ops Q rest ((d, .tuple #[.bool false]) :: l) w)
    (h1 : ∀ e ∈ (leftOf es seen).toList, ∀ w1, w1.heap[r]? = some (.mapIter (some bm) since (seen.push e.born) clock) → Chg (· = r) w w1 → GL Tryz.prog n ds ops Q rest ((d, .tuple #[.bool true, e.key, e.val]) :: l) w1) (hg : gd ops l o = some true := by kernel_rfl) (hc : chk n l o (some d) = true := by kernel_rfl) (ho : ∃ x, o.op = .next x false ∧ evL l x = .pointer (some ⟨r, 0, none⟩) := by exact ⟨_, rfl, by kernel_rfl⟩) : GL Tryz.prog n ds ops Q (o :: rest) l w := by
  obtain ⟨x, k0, k1⟩ := ho
  rcases run_nx o.type hr hb hold hsc with ⟨e0, hu⟩ | ⟨e, he, w1, hu, a1, a2⟩
  · refine tw d _ _ ?_ (h0 e0) hg hc
    simp only [execOp, k0, k1, Sem.run_bind, hu, Result.andThen_ok, Sem.run_pure]
  · refine tw d _ _ ?_ (h1 e he w1 a1 a2) hg hc
    simp only [execOp, k0, k1, Sem.run_bind, hu, Result.andThen_ok, Sem.run_pure]
theorem run_en {ρ : Operand → Value} {r bm since clock : Nat} {seen : Array Nat} {es : Array MapEntry} (e : MapEntry) (hr : w.heap[r]? = some (.mapIter (some bm) since (seen.push e.born) clock)) (hb : w.heap[bm]? = some (.map es clock)) (he : e ∈ es.toList) (hn : (es.toList.map (·.born)).Nodup) (ho : ∃ x, o.op = .entry x ∧ ρ x = .pointer (some ⟨r, 0, none⟩) := by exact ⟨_, rfl, by kernel_rfl⟩) : (execOp ρ o).run Tryz.prog w = .ok (.value (.tuple #[e.key, e.val])) w := by
  obtain ⟨x, k0, k1⟩ := ho
  simp only [execOp, k0, k1, Sem.run_bind, run_en0 hr hb he hn, Result.andThen_ok, Sem.run_pure]
end
end Pw
end Go.Proofs.YtidnifmehnjipaaGreat

namespace Go.Proofs.YtidnifmehnjipaaGreat
namespace Pw
open Go.RowKit Go.Lib Pg Kv Bk Gl
attribute [local go_sem] Oper.semAt_some
set_option maxRecDepth 100000
set_option linter.unusedVariables false
set_option maxHeartbeats 2000000
theorem len64_1 {w : World} : Calls Tryz.prog 259 #[.int .u64 1] w fun e w' => e = .returned (.int .i64 1) ∧ w' = w := len64 1 w (by decide) (by decide)
/-- what lies at a place that is no variable -/
structure MapW (w : World) (g : Nat) (o : Obj) : Prop where
  ob : w.heap[g]? = some o
section
variable {w w' : World} {g B : Nat} {o : Obj} {v : Value} {l : List Int}
theorem MapW.lt (h : MapW w g o) : g < w.heap.size := lt_of_block h.ob
theorem MapW.keep (h : MapW w g o) (b : Below w.heap.size w w') : MapW w' g o := ⟨(b.block g h.lt).trans h.ob⟩
theorem MapW.drew (h : MapW w g o) : MapW w.drew g o := ⟨h.ob⟩
theorem MapW.chg {x : Nat} (h : MapW w g o) (C : Chg (· = x) w w') (hne : g ≠ x) : MapW w' g o := ⟨(C.same g h.lt hne).trans h.ob⟩
theorem MapW.cel {F : Nat → Prop} (h : MapW w g o) (ho : ∀ cs t m, o ≠ .cells cs t m) (C : Chg F w w') (hF : ∀ b, F b → ∃ cs t, Blk w b cs t) : MapW w' g o := ⟨(C.same g h.lt (fun hf => by
  obtain ⟨cs, t, k⟩ := hF g hf
  have := k.blk.symm.trans h.ob
  cases this
  exact ho _ _ _ rfl)).trans h.ob⟩
theorem UA.it (h : UA w B v l) (I : MapW w g o) (ho : ∀ cs t m, o ≠ .cells cs t m) (C : Chg (· = g) w w') : UA w' B v l := ⟨h.ex.imp id (fun ⟨b, c, e, hl, hR⟩ => ⟨b, c, e, hl, hR.chg C (fun hb => by
  have hb' : b = g := hb
  subst hb'
  obtain ⟨cs, k⟩ := hR.kind
  have := k.blk.symm.trans I.ob
  cases this
  exact ho _ _ _ rfl)⟩)⟩
theorem UA.one {x : Int} {a : Option Addr} {k d : Nat} (h : UA w B (.slice a k d) [x]) : k = 1 := by
  rcases h.ex with ⟨_, e⟩ | ⟨b, c, e, _⟩
  · cases e
  · cases e; rfl
end
theorem run_apU {ρ : Operand → Value} {w w' : World} {o : Oper} {u v r : Value} (hr : (Builtin.append_ #[43, 43] 43 #[u, v]).run Tryz.prog w = .ok r w') (ho : ∃ x y, o.op = .call { callee := .builtin .append, args := #[x, y], argTypes := #[43, 43] } ∧ o.type = 43 ∧ ρ x = u ∧ ρ y = v := by exact ⟨_, _, rfl, rfl, by kernel_rfl, by kernel_rfl⟩) : (execOp ρ o).run Tryz.prog w = .ok (.value r) w' := by
  obtain ⟨x, y, h, ht, h1, h2⟩ := ho
  unfold execOp
  simp only [h, ht, resolve, invoke, builtin, Sem.run_bind, Sem.run_pure, Result.andThen_ok, List.map_toArray, List.map_cons, List.map_nil, h1, h2, hr]
def e0F : MapEntry := ⟨.int .u64 1, .int .i64 1, 0⟩
def e1F : MapEntry := ⟨.int .u64 2, .int .i64 3, 1⟩
def e2F : MapEntry := ⟨.int .u64 3, .int .i64 2, 2⟩
def esF : Array MapEntry := #[e0F, e1F, e2F]
theorem esF_mem {e : MapEntry} (h : e ∈ esF.toList) : e = e0F ∨ e = e1F ∨ e = e2F := by simpa [esF] using h
theorem esF_nd : (esF.toList.map (·.born)).Nodup := by decide +kernel
theorem esF_born : ∀ x ∈ esF.toList, x.born < 3 := fun x h => by rcases esF_mem h with rfl | rfl | rfl <;> decide
end Pw
end Go.Proofs.YtidnifmehnjipaaGreat

namespace Go.Proofs.YtidnifmehnjipaaGreat
namespace Pw
open Go.RowKit Go.Lib Pg Lim Gl Kv Bk
attribute [local go_sem] Oper.semAt_some
set_option maxRecDepth 100000
set_option linter.unusedVariables false
set_option maxHeartbeats 2000000
theorem run_ld64 {ρ : Operand → Value} {o : Oper} {w : World} {b off : Nat} {v : Value} (hc : w.cell? ⟨b, off, none⟩ = some v) (ho : ∃ p, o.op = .load 22 p ∧ ρ p = .pointer (some ⟨b, off, none⟩) := by exact ⟨_, rfl, by kernel_rfl⟩) : (execOp ρ o).run Tryz.prog w = .ok (.value v) w := by
  obtain ⟨p, h, hp⟩ := ho
  have : (loadVar 22 ⟨b, off, none⟩).run Tryz.prog w = .ok v w := by go_simp
  simp only [execOp, h, hp]
  simp [Instr.loadAt, Instr.sureAddr, Result.andThen, this]
theorem cellB {w W : World} {b o : Nat} {v : Value} (B : Below w.heap.size w W) (h : w.cell? ⟨b, o, none⟩ = some v) : W.cell? ⟨b, o, none⟩ = some v := by
  rw [World.cell?_of_block (w := w) (B.block b (cell_lt h))]; exact h
theorem run_ixa {P : Program} {ρ : Operand → Value} {o : Oper} {w : World} {ao : Option Addr} (sz b off n c k : Nat) (hk : k < n) (hao : 0 < n → ao = some ⟨b, off, none⟩) (ho : ∃ T x y, o.op = .indexAddr T x y ∧ slT P T sz = true ∧ ρ x = .slice ao n c ∧ ρ y = .int .i64 (k : Int) := by exact ⟨_, _, _, rfl, by kernel_rfl, by kernel_rfl, by kernel_rfl⟩) : (execOp ρ o).run P w = .ok (.value (.pointer (some ⟨b, off + k * sz, none⟩))) w := by
  rw [hao (by omega)] at ho
  exact run_ixs sz b off n c k hk ho
theorem UA.cells {w : World} {B : Nat} {a : Option Addr} {n c : Nat} {l : List Int} (h : UA w B (.slice a n c) l) : n = l.length ∧ ∃ pb, (0 < n → a = some ⟨pb, 0, none⟩) ∧ ∀ i, i < n → w.cell? ⟨pb, 0 + i * 1, none⟩ = some (.int .u64 (l.getD i 0)) := by
  rcases h.ex with ⟨e, rfl⟩ | ⟨b, c', e, _, hR⟩
  · cases e
    exact ⟨rfl, 0, fun h => by omega, fun i h => by omega⟩
  · cases e
    refine ⟨rfl, b, fun _ => rfl, fun i hi => ?_⟩
    rw [Nat.zero_add, Nat.mul_one]
    refine hR.cell ?_
    rw [List.getElem?_map, List.getElem?_eq_getElem hi]
    simp [List.getD, hi]
theorem ua_blk {w : World} {g B : Nat} {cs : List Value} (l : List Int) (X : Blk w g cs 22) (e : cs = l.map (Value.int .u64)) (hB : B ≤ g) (hl : l.length ≤ 1000000) : UA w B (sg l.length g) l := by
  subst e
  exact ⟨.inr ⟨g, l.length, rfl, hB, ⟨[], by simpa using X, by simp, by simp, Nat.le_refl _, Nat.le_trans hl (by decide)⟩⟩⟩
/-- what was laid from n0 on up to wz lies beside the store's blocks K, and lies there still -/
structure Zp (K : Nat → Prop) (n0 : Nat) (wz V : World) : Prop where
  ext : Ext n0 wz V
  off : ∀ b, n0 ≤ b → b < wz.heap.size → ¬ K b
section
variable {K K' : Nat → Prop} {n0 : Nat} {wz V V' : World}
theorem Zp.keep (h : Zp K n0 wz V) (hb : Below V.heap.size V V') : Zp K n0 wz V' := ⟨h.ext.keep hb, h.off⟩
theorem Zp.drew (h : Zp K n0 wz V) : Zp K n0 wz V.drew := h.keep (Below.refl _ _).drew
theorem Zp.cell {x : Nat} (h : Zp K n0 wz V) (C : Chg (· = x) V V') (hx : x < n0 ∨ wz.heap.size ≤ x) : Zp K n0 wz V' :=
  ⟨⟨fun b h1 h2 => (C.same b (Nat.lt_of_lt_of_le h2 h.ext.2) (fun e => by have e' : b = x := e; omega)).trans (h.ext.1 b h1 h2), Nat.le_trans h.ext.2 C.size⟩, h.off⟩
theorem Zp.op (h : Zp K n0 wz V) (hC : Chg K V V') (hK : ∀ b, K' b → K b ∨ V.heap.size ≤ b) : Zp K' n0 wz V' :=
  ⟨⟨fun b h1 h2 => (hC.same b (Nat.lt_of_lt_of_le h2 h.ext.2) (h.off b h1 h2)).trans (h.ext.1 b h1 h2), Nat.le_trans h.ext.2 hC.size⟩, fun b h1 h2 hk => (hK b hk).elim (h.off b h1 h2) (fun h3 => by have := h.ext.2; omega)⟩
theorem zp_new (hk : ∀ b, K b → b < V.heap.size) : Zp K V.heap.size V' V' := ⟨⟨fun _ _ _ => rfl, Nat.le_refl _⟩, fun b h1 _ hb2 => by have := hk b hb2; omega⟩
theorem Zp.ua {v : Value} {l : List Int} (h : Zp K n0 wz V) (U : UA wz n0 v l) : UA V n0 v l := ⟨U.ex.imp id (fun ⟨b, c, e, hl, hR⟩ => ⟨b, c, e, hl, hR.same (h.ext.1 b hl hR.lt)⟩)⟩
theorem Zp.prs {v : Value} {es : List En} (h : Zp K n0 wz V) (hp : PrA wz n0 v es) : PrA V n0 v es :=
  ⟨hp.ex.imp id (fun ⟨b, c, e, hl, hR⟩ => ⟨b, c, e, hl, hR.same (h.ext.1 b hl hR.lt)⟩), fun e he => (hp.ents e he).same fun b h1 h2 => h.ext.1 b h2 h1⟩
end
theorem belowO {w V V' : World} {K : Nat → Prop} (h : Below w.heap.size w V) (hC : Chg K V V') (hk : ∀ b, K b → w.heap.size ≤ b) : Below w.heap.size w V' :=
  ((Chg.of (F := fun _ => False) h).trans hC (fun b hl hb => by have := hk b hb; omega)).nothing
theorem snewP {w : World} (Bz : Nat) (hb : Bz = w.heap.size) : Calls Tryz.prog 6 #[] w fun e w' => ∃ g K, e = .returned (pg g) ∧ Sx Bz w' K g [] [] 0 0 ∧ (∀ b, K b → Bz ≤ b) ∧ Below w.heap.size w w' := by
  subst hb
  refine snew.mono ?_
  rintro e w' ⟨g, K, rfl, S, hK, B⟩
  exact ⟨g, K, rfl, ⟨S.mono (fun _ _ h => h.elim), B.size, hK⟩, hK, B⟩
theorem NumE.cast {B : Nat} {w : World} {K : Nat → Prop} {g : Nat} {E : Ents} {W : List Ents} {n n' N P : Nat} {l l' : List Int} {args : Array Value} (h : Calls Tryz.prog P args w (NumE B w K g E W n N l)) (hn : n = n') (hl : l = l') : Calls Tryz.prog P args w (NumE B w K g E W n' N l') := by subst hn hl; exact h
end Pw
end Go.Proofs.YtidnifmehnjipaaGreat
