/- Several texts, joined: SdE, SdF. -/
import Derived.Test.YtopifdikfhffgaaGreatJaq
import Derived.Test.YtopifdikfhffgaaGreatJan
import Derived.Test.YtopifdikfhffgaaGreatJar
set_option maxRecDepth 100000
set_option maxHeartbeats 8000000
namespace Go.Proofs.YtopifdikfhffgaaGreat
section
namespace Sd
open Go.RowKit Go.Lib Pg Lim Kv Bk Pw
attribute [local go_sem] Oper.semAt_some
def TpN (_:TypeId):Prop:=False
def ArK (EL:List En) (i:Nat) (args:Array Value) (n:Nat) (V:World):Prop:=∃ e vv,EL[i]? = some e/\args=#[.agg #[.int .i64 4,.int .u64 (Ky.rdA 4 e.kl),.int .u64 (Ky.rdB e.kl)],vv]/\OB V (n <= ·) vv e.vl
theorem ArK.cel {EL:List En} {i n:Nat} {args:Array Value} {V W:World} (h:ArK EL i args n V) (hc:Cel V W):ArK EL i args n W:=by
 obtain ⟨e,vv,h1,h2,h3⟩:=h
 exact ⟨e,vv,h1,h2,h3.cel hc⟩
theorem among_itr {W0 : World} {g x0 gf ba bk : Nat} {lb : Array Value} {EL : List En} {Rd1 : World → Prop} (ITC : ItrC TpN g x0 gf lb EL.length (ArC EL) Rd1) (eg : ∀ args w, (callFunc gf args).run Tryz.prog w = .ok (.enter gf args) w) (ha : Blk W0 ba [.func (.func gf) #[] lb] 121) (hk : Blk W0 bk [.int .i64 4] 3) (nba : ba ≠ g) (nbk : bk ≠ g) (hfr : ∀ e ∈ EL, Ky.frm (4 : Nat) = Ky.fIn e.kl) (hsm : ∀ e ∈ EL, e.kl.length ≤ 1000000000 ∧ e.vl.length ≤ 1000000000) :
    ItrC TpN g x0 247 #[.pointer (some ⟨ba, 0, none⟩), .pointer (some ⟨bk, 0, none⟩)] EL.length (ArK EL) (fun V => Rd1 V ∧ Chg (· = g) W0 V) := by
  intro l J0 J Jt Jx W hS0 hSJ hSt hSx hgW hJ0 hJ hY h0
  have B1 := below_alloc W (.cells #[.func (.yield l) #[] #[]] 348)
  have Y1 := blk_new W [.func (.yield l) #[] #[]] 348
  have J1 := hS0 _ _ h0 (Rec.of B1)
  have s1 : (W.alloc (.cells #[.func (.yield l) #[] #[]] 348)).heap.size = W.heap.size + 1 := by simp
  have cA := (ha.chg (hJ0 _ J1).2.2.1.2 nba).cell (i := 0) rfl
  have HY := hid3 hY
  have HJ := hid3 hJ
  have HJ0 := hid3 hJ0
  have HK := hid3 hk
  have HF := hid3 hfr
  have HM := hid3 hsm
  clear hJ0 hJ hY h0 B1 hk hfr hsm
  obtain ⟨Wa, hWa⟩ : ∃ Wa, Hid (W.alloc (.cells #[.func (.yield l) #[] #[]] 348) = Wa) := ⟨_, rfl⟩
  rw [hWa.out] at J1 s1 Y1
  refine (callsIn_wide (n := 0)).1 ?_
  refine callsIn_of_wp_marks Tryz.func247 rfl trivial ?_ rfl
  simp only [Tryz.ntmps247, List.size_toArray, List.length_cons, List.length_nil, Nat.reduceAdd, Nat.reduceSub, Array.replicate_succ, Array.replicate_zero, List.push_toArray, List.append_toArray, List.nil_append, List.cons_append]
  gi_wp2
  rw [hWa.out]
  clear cA
  refine rf_outerC ITC (by rfl) eg (fun i args n V V' h hc => h.cel hc) (fun i args n V h => by obtain ⟨e, kv, vv, s, _, rfl, _⟩ := h; rfl)
    (fun V => J0 V ∧ W.heap.size + 1 ≤ V.heap.size ∧ Blk V W.heap.size [.func (.yield l) #[] #[]] 348)
    (fun i V => J i V ∧ W.heap.size + 1 ≤ V.heap.size ∧ Blk V W.heap.size [.func (.yield l) #[] #[]] 348)
    (fun i V => Jt i V ∧ W.heap.size + 1 ≤ V.heap.size ∧ Blk V W.heap.size [.func (.yield l) #[] #[]] 348 ∧ Blk V bk [.int .i64 4] 3)
    (fun c i V => c = .ret ∧ Jx i V ∧ W.heap.size + 1 ≤ V.heap.size)
    (fun A B hx hr => ⟨hS0 A B hx.1 (hr.mono (by omega)), Nat.le_trans hx.2.1 hr.size, rec_cel hx.2.2 hr⟩)
    (fun i A B hx hr => ⟨hSJ i A B hx.1 (hr.mono (by omega)), Nat.le_trans hx.2.1 hr.size, rec_cel hx.2.2 hr⟩)
    (fun i A B hx hr => ⟨hSt i A B hx.1 (hr.mono (by omega)), Nat.le_trans hx.2.1 hr.size, rec_cel hx.2.2.1 hr, rec_cel hx.2.2.2 hr⟩)
    (fun c i A B hx hr => ⟨hx.1, hSx i A B hx.2.1 (hr.mono (by omega)), Nat.le_trans hx.2.2 hr.size⟩)
    (by omega)
    (fun V hv => by
      obtain ⟨q1, q2, q3, q4⟩ := HJ0.out V hv.1
      exact ⟨q1, q2, q3.1, q4, by rw [tick_size]; exact hv.2.1, hv.2.2.chg (chg_tick g x0 V) (by omega)⟩)
    (fun i V hv => by
      obtain ⟨q1, q2, q3, q4⟩ := HJ.out i V hv.1
      exact ⟨q1, q2, q3.1, fun hi => ⟨q4 hi, by rw [tick_size]; exact hv.2.1, hv.2.2.chg (chg_tick g _ V) (by omega), (HK.out.chg q3.2 nbk).chg (chg_tick g _ V) nbk⟩⟩)
    ⟨J1, by omega, Y1⟩ ?_ ?_ ?_
  · rintro l2 i args V Wv hl hlV hrec hiN ⟨hJi, hsz, hY2, hK2⟩ hb ⟨e0, kv, vv, s0, he0, rfl, hk0, hv0, _⟩
    obtain ⟨ak0, nk, hk1⟩ := hk0.shape
    obtain ⟨av, nv, hv1⟩ := hv0.shape
    subst hk1 hv1
    simp
    gi_wp2
    refine ⟨Below.refl _ _, ?_⟩
    intro V2 W2 hJ2 hsz2 hYb hKb hb2 hAr2 hoth hsz3 hV2 rl hrec2
    obtain ⟨e1, kv1, vv1, t1, he1, harr, hk2, hv2, ht1⟩ := hAr2
    obtain rfl : e1 = e0 := by rw [he0] at he1; cases he1; rfl
    simp at harr
    obtain ⟨rfl, rfl⟩ := harr
    have hm0 := List.mem_of_getElem? he0
    have tA := Ky.read_yes hk2.by (HM.out e1 hm0).1 (r := 4) (by decide) (by decide) (HF.out e1 hm0)
    have HYY := hid3 (HY.out i #[.agg #[.int .i64 4, .int .u64 (Ky.rdA 4 e1.kl), .int .u64 (Ky.rdB e1.kl)], .slice av e1.vl.length nv] V2)
    have HJT := hid3 hJ2
    have HB2 := hid3 hb2
    have hs2 : W.heap.size + 1 ≤ V2.heap.size := hsz2
    have hs3 : V2.heap.size ≤ W2.heap.size := hb2.size
    have HYV := hid3 (hYb.keep hb2)
    have HKV := hid3 (hKb.keep hb2)
    have HV := hid3 (hv2.mono (D' := (V2.heap.size ≤ ·)) (fun b _ h => Nat.le_trans ht1 h))
    have HE := hid3 he0
    clear hJi hb hk0 hv0 hk2 hv2 hoth hJ2 hb2 hYb hKb he1 ht1 hY2 hK2 he0 hm0
    obtain ⟨cc, hcc⟩ : ∃ cc, Hid (Ky.rdA 4 e1.kl = cc) := ⟨_, rfl⟩
    obtain ⟨ss, hss⟩ : ∃ ss, Hid (Ky.rdB e1.kl = ss) := ⟨_, rfl⟩
    simp only [hcc.out, hss.out] at tA HYY
    gi_wp2_with (refine ⟨trivial, rfl, ?_⟩; gi_at_call 72; refine (CallsIn.inRound l2 (callsIn_wide.2 tA)).mono ?_; rintro e' w3 ⟨rfl, B3⟩; clear tA; have B4 := below_alloc w3 (.cells #[.int .i64 4, .int .u64 cc, .int .u64 ss] 35); have kC := (HKV.out.keep (joinB B3 B4)).cell (i := 0) rfl; have yC := (HYV.out.keep (joinB B3 B4)).cell (i := 0) rfl; have hYY := HYY.out _ hiN HJT.out (by omega) (joinB HB2.out (joinB B3 B4)) ⟨_, _, HE.out, by rw [hcc.out, hss.out], HV.out.keep (joinB B3 B4)⟩; obtain ⟨fn, tmps, assign, body, hy, hR⟩ := hYY; have hR2 : RoundIn (Fence.wide.inRound l2) 0 Tryz.prog l fn tmps assign body (w3.alloc (.cells #[.int .i64 4, .int .u64 cc, .int .u64 ss] 35)) _ := ⟨hR.1, fun c cs _ => hR.2 c cs (fun _ h => by cases h)⟩; have HR := hid3 hR2; have HK2 := hid3 (joinB B3 B4); clear hR hR2 B3 B4)
    refine ⟨rfl, HR.out.mono ?_⟩
    rintro e' w5 ⟨hk5, h5⟩
    have hY5 := hk5.blk (HYV.out.keep HK2.out) (Nat.le_refl _) (fun h => h)
    have hkk : KeepsT TpN W.heap.size W2 w5 := (KeepsT.of HK2.out).trans hk5
    have hk6 : KeepsT TpN Wa.heap.size W2 w5 := hkk.mono (by omega)
    have hsz5 : W.heap.size + 1 ≤ w5.heap.size := Nat.le_trans (by omega) hkk.size
    rcases h5 with ⟨rfl, hJ5⟩ | ⟨rfl, hJ5⟩
    · gi_wp2
      exact ⟨hk6, hJ5, hsz5, hY5⟩
    · gi_wp2
      exact ⟨hk6, rfl, hJ5, hsz5⟩
  · rintro D' W' hD hK ⟨hJn, hsz, hYb⟩
    gi_wp2
    refine ⟨by simp, .inl ⟨_, _, rfl, run_takeDeferred hK, ?_⟩⟩
    exact ⟨_, results_none rfl _ _ _, ⟨_, rfl⟩, by simp; omega, .inl (hSJ _ _ _ hJn (Rec.put hK rfl (by omega) _))⟩
  · rintro D' c i W' hD hK hiN ⟨rfl, hJx', hsz⟩
    gi_wp2
    refine ⟨by simp, .inl ⟨_, _, rfl, run_takeDeferred hK, ?_⟩⟩
    exact ⟨_, results_none rfl _ _ _, ⟨_, rfl⟩, by simp; omega, .inr ⟨i, hiN, hSx (i + 1) _ _ hJx' (Rec.put hK rfl (by omega) _)⟩⟩
def ArA (EL:List En) (i:Nat) (args:Array Value) (_:Nat) (_:World):Prop:=∃ e,EL[i]? = some e/\args=#[.agg #[.int .i64 4,.int .u64 (Ky.rdA 4 e.kl),.int .u64 (Ky.rdB e.kl)],.agg #[.int .u64 (coinB e.vl),.int .u64 (seqB e.vl)]]
theorem parsed_itr {W0 : World} {g x0 gf ba bk : Nat} {lb : Array Value} {EL : List En} {Rd1 : World → Prop} (ITC : ItrC TpN g x0 gf lb EL.length (ArK EL) Rd1) (eg : ∀ args w, (callFunc gf args).run Tryz.prog w = .ok (.enter gf args) w) (ha : Blk W0 ba [.func (.func gf) #[] lb] 142) (hk : Blk W0 bk [.func (.func 76) #[] #[]] 130) (nba : ba ≠ g) (nbk : bk ≠ g) (hsm : ∀ e ∈ EL, e.kl.length ≤ 1000000000 ∧ e.vl.length ≤ 1000000000) :
    ItrC TpN g x0 231 #[.pointer (some ⟨ba, 0, none⟩), .pointer (some ⟨bk, 0, none⟩)] EL.length (ArA EL) (fun V => Rd1 V ∧ Chg (· = g) W0 V) := by
  intro l J0 J Jt Jx W hS0 hSJ hSt hSx hgW hJ0 hJ hY h0
  have B1 := below_alloc W (.cells #[.func (.yield l) #[] #[]] 336)
  have Y1 := blk_new W [.func (.yield l) #[] #[]] 336
  have J1 := hS0 _ _ h0 (Rec.of B1)
  have s1 : (W.alloc (.cells #[.func (.yield l) #[] #[]] 336)).heap.size = W.heap.size + 1 := by simp
  have cA := (ha.chg (hJ0 _ J1).2.2.1.2 nba).cell (i := 0) rfl
  have HY := hid3 hY
  have HJ := hid3 hJ
  have HJ0 := hid3 hJ0
  have HK := hid3 hk
  have HM := hid3 hsm
  clear hJ0 hJ hY h0 B1 hk hsm
  obtain ⟨Wa, hWa⟩ : ∃ Wa, Hid (W.alloc (.cells #[.func (.yield l) #[] #[]] 336) = Wa) := ⟨_, rfl⟩
  rw [hWa.out] at J1 s1 Y1
  refine (callsIn_wide (n := 0)).1 ?_
  refine callsIn_of_wp_marks Tryz.func231 rfl trivial ?_ rfl
  simp only [Tryz.ntmps231, List.size_toArray, List.length_cons, List.length_nil, Nat.reduceAdd, Nat.reduceSub, Array.replicate_succ, Array.replicate_zero, List.push_toArray, List.append_toArray, List.nil_append, List.cons_append]
  gi_wp2
  rw [hWa.out]
  clear cA
  refine rf_outerC ITC (by rfl) eg (fun i args n V V' h hc => h.cel hc) (fun i args n V h => by obtain ⟨e, vv, _, rfl, _⟩ := h; rfl)
    (fun V => J0 V ∧ W.heap.size + 1 ≤ V.heap.size ∧ Blk V W.heap.size [.func (.yield l) #[] #[]] 336)
    (fun i V => J i V ∧ W.heap.size + 1 ≤ V.heap.size ∧ Blk V W.heap.size [.func (.yield l) #[] #[]] 336)
    (fun i V => Jt i V ∧ W.heap.size + 1 ≤ V.heap.size ∧ Blk V W.heap.size [.func (.yield l) #[] #[]] 336 ∧ Blk V bk [.func (.func 76) #[] #[]] 130)
    (fun c i V => c = .ret ∧ Jx i V ∧ W.heap.size + 1 ≤ V.heap.size)
    (fun A B hx hr => ⟨hS0 A B hx.1 (hr.mono (by omega)), Nat.le_trans hx.2.1 hr.size, rec_cel hx.2.2 hr⟩)
    (fun i A B hx hr => ⟨hSJ i A B hx.1 (hr.mono (by omega)), Nat.le_trans hx.2.1 hr.size, rec_cel hx.2.2 hr⟩)
    (fun i A B hx hr => ⟨hSt i A B hx.1 (hr.mono (by omega)), Nat.le_trans hx.2.1 hr.size, rec_cel hx.2.2.1 hr, rec_cel hx.2.2.2 hr⟩)
    (fun c i A B hx hr => ⟨hx.1, hSx i A B hx.2.1 (hr.mono (by omega)), Nat.le_trans hx.2.2 hr.size⟩)
    (by omega)
    (fun V hv => by
      obtain ⟨q1, q2, q3, q4⟩ := HJ0.out V hv.1
      exact ⟨q1, q2, q3.1, q4, by rw [tick_size]; exact hv.2.1, hv.2.2.chg (chg_tick g x0 V) (by omega)⟩)
    (fun i V hv => by
      obtain ⟨q1, q2, q3, q4⟩ := HJ.out i V hv.1
      exact ⟨q1, q2, q3.1, fun hi => ⟨q4 hi, by rw [tick_size]; exact hv.2.1, hv.2.2.chg (chg_tick g _ V) (by omega), (HK.out.chg q3.2 nbk).chg (chg_tick g _ V) nbk⟩⟩)
    ⟨J1, by omega, Y1⟩ ?_ ?_ ?_
  · rintro l2 i args V Wv hl hlV hrec hiN ⟨hJi, hsz, hY2, hK2⟩ hb ⟨e0, vv, he0, rfl, hv0⟩
    obtain ⟨av, nv, hv1⟩ := hv0.shape
    subst hv1
    have hVW := hb.size
    have nK := hid3 (blk_new Wv [.int .i64 4, .int .u64 (Ky.rdA 4 e0.kl), .int .u64 (Ky.rdB e0.kl)] 35)
    simp
    gi_wp2
    refine ⟨below_alloc _ _, ?_⟩
    intro V2 W2 hJ2 hsz2 hYb hKb hb2 hAr2 hoth hsz3 hV2 rl hrec2
    obtain ⟨e1, vv1, he1, harr, hv2⟩ := hAr2
    obtain rfl : e1 = e0 := by rw [he0] at he1; cases he1; rfl
    simp at harr
    obtain rfl := harr
    have hm0 := List.mem_of_getElem? he0
    have tA := acct_any (ByU.of hv2) (HM.out e1 hm0).2
    have HYY := hid3 (HY.out i #[.agg #[.int .i64 4, .int .u64 (Ky.rdA 4 e1.kl), .int .u64 (Ky.rdB e1.kl)], .agg #[.int .u64 (coinB e1.vl), .int .u64 (seqB e1.vl)]] V2)
    have HJT := hid3 hJ2
    have HB2 := hid3 hb2
    have hs2 : W.heap.size + 1 ≤ V2.heap.size := hsz2
    have hs3 : V2.heap.size ≤ W2.heap.size := hb2.size
    have kB : Blk W2 Wv.heap.size [.int .i64 4, .int .u64 (Ky.rdA 4 e1.kl), .int .u64 (Ky.rdB e1.kl)] 35 := ⟨by rw [hoth _ (by omega)]; exact nK.out.blk⟩
    have HKB := hid3 kB
    have HYV := hid3 (hYb.keep hb2)
    have cR := (hKb.keep hb2).cell (i := 0) rfl
    have HE := hid3 he0
    clear hJi hb hv0 hv2 hoth hJ2 hb2 hYb hKb he1 hY2 hK2 he0 hm0 kB nK hsz3 hV2
    obtain ⟨xx, hxx⟩ : ∃ xx, Hid (coinB e1.vl = xx) := ⟨_, rfl⟩
    obtain ⟨yy, hyy⟩ : ∃ yy, Hid (seqB e1.vl = yy) := ⟨_, rfl⟩
    simp only [hxx.out, hyy.out] at tA HYY
    gi_wp2_with (refine ⟨trivial, rfl, ?_⟩; gi_at_call 76; refine (CallsIn.inRound l2 (callsIn_wide.2 tA)).mono ?_; rintro e' w3 ⟨rfl, B3⟩; clear tA cR; have B4 := below_alloc w3 (.cells #[.int .u64 xx, .int .u64 yy] 39); have k0 := (HKB.out.keep (joinB B3 B4)).cell (i := 0) rfl; have k1 := (HKB.out.keep (joinB B3 B4)).cell (i := 1) rfl; have k2 := (HKB.out.keep (joinB B3 B4)).cell (i := 2) rfl; have yC := (HYV.out.keep (joinB B3 B4)).cell (i := 0) rfl; have hYY := HYY.out _ hiN HJT.out (by omega) (joinB HB2.out (joinB B3 B4)) ⟨_, HE.out, by rw [hxx.out, hyy.out]⟩; obtain ⟨fn, tmps, assign, body, hy, hR⟩ := hYY; have hR2 : RoundIn (Fence.wide.inRound l2) 0 Tryz.prog l fn tmps assign body (w3.alloc (.cells #[.int .u64 xx, .int .u64 yy] 39)) _ := ⟨hR.1, fun c cs _ => hR.2 c cs (fun _ h => by cases h)⟩; have HR := hid3 hR2; have HK2 := hid3 (joinB B3 B4); clear hR hR2 B3 B4)
    refine ⟨rfl, HR.out.mono ?_⟩
    rintro e' w5 ⟨hk5, h5⟩
    have hY5 := hk5.blk (HYV.out.keep HK2.out) (Nat.le_refl _) (fun h => h)
    have hkk : KeepsT TpN W.heap.size W2 w5 := (KeepsT.of HK2.out).trans hk5
    have hk6 : KeepsT TpN Wa.heap.size W2 w5 := hkk.mono (by omega)
    have hsz5 : W.heap.size + 1 ≤ w5.heap.size := Nat.le_trans (by omega) hkk.size
    rcases h5 with ⟨rfl, hJ5⟩ | ⟨rfl, hJ5⟩
    · gi_wp2
      exact ⟨hk6, hJ5, hsz5, hY5⟩
    · gi_wp2
      exact ⟨hk6, rfl, hJ5, hsz5⟩
  · rintro D' W' hD hK ⟨hJn, hsz, hYb⟩
    gi_wp2
    refine ⟨by simp, .inl ⟨_, _, rfl, run_takeDeferred hK, ?_⟩⟩
    exact ⟨_, results_none rfl _ _ _, ⟨_, rfl⟩, by simp; omega, .inl (hSJ _ _ _ hJn (Rec.put hK rfl (by omega) _))⟩
  · rintro D' c i W' hD hK hiN ⟨rfl, hJx', hsz⟩
    gi_wp2
    refine ⟨by simp, .inl ⟨_, _, rfl, run_takeDeferred hK, ?_⟩⟩
    exact ⟨_, results_none rfl _ _ _, ⟨_, rfl⟩, by simp; omega, .inr ⟨i, hiN, hSx (i + 1) _ _ hJx' (Rec.put hK rfl (by omega) _)⟩⟩
end Sd
end
section
namespace Sd
open Go.RowKit Go.Lib Pg Lim Gl Kv Bk Pw
attribute [local go_sem] Oper.semAt_some
set_option linter.unusedSimpArgs false
set_option linter.unusedVariables false
def RdAll (g:Nat) (w:World) (Rd1:World->Prop):Prop:=∀ V,Chg (· = g) w V->(∃ cs,Blk V g cs 57)->Rd1 V
theorem RdAll.keep {g:Nat} {w w':World} {Rd1:World->Prop} (h:RdAll g w Rd1) (b:Below w.heap.size w w'):RdAll g w' Rd1:=fun V c k=>h V ((Chg.of b).trans c (fun _ _ h=>h)) k
theorem it_of {B:Nat} {w w':World} {K:Nat->Prop} {g:Nat} {E:Ents} {n N:Nat} {v:Value} {EL:List En} {F:Ents} (h:Sx B w K g E [] n N) (hn:n + N<=100000000) (IG:IterG TpN (· = g) w.heap.size w' g EL v) (hEL:EL.map En.kl2=F) (Bw:Below w.heap.size w w') (hF:F.length<=E.length):∃ b1 b2 EL Rd1,Ending.returned v=.returned (.func (.func 227) #[] #[pg b1,pg b2])/\ItrC TpN g n 227 #[pg b1,pg b2] EL.length (ArC EL) Rd1/\RdAll g w' Rd1/\EL.map En.kl2=F/\(∀ e∈EL,e.kl.length<=1000000000/\e.vl.length<=1000000000)/\Below w.heap.size w w':=by
 obtain ⟨bs1,bs2,bw,W1,rfl,IT,hRd,hb1,hb2⟩:=IG.ex
 have n1:bs1≠g:=fun e=>by obtain ⟨cs',k'⟩:=(h.keep Bw).sa.kv; subst e; exact absurd (hRd.2.1.eq k').2 (by decide)
 have n2:bs2≠g:=fun e=>by obtain ⟨cs',k'⟩:=(h.keep Bw).sa.kv; subst e; exact absurd (hRd.2.2.1.eq k').2 (by decide)
 have hl:EL.length<=N:=by
  have h1:=congrArg List.length hEL
  rw [List.length_map] at h1
  have:=h.sa.size
  omega
 exact ⟨bs1,bs2,EL,_,rfl,counted_itr (g:=g) (x0:=n) IT (fun h=>h) (by omega),fun V c k=>⟨hRd.1.trans c (fun _ _ h=>h),hRd.2.1.chg c n1,hRd.2.2.1.chg c n2,k⟩,hEL,IG.small,Bw⟩
theorem gc_it {n : Nat} {ds : List Deferred} {l : Fr} {Q : Exit → Act → World → Prop} {w : World} {B : Nat} {K : Nat → Prop} {g : Nat} {E : Ents} {x0 N N0 gf : Nat} {lb : Array Value} {Ar : Nat → Array Value → Nat → World → Prop} {Rd1 : World → Prop} {t : Nat} {ps : Array Tmp} {asn body : Code} (IT : ItrC TpN g x0 gf lb N0 Ar Rd1) (eg : ∀ args w, (callFunc gf args).run Tryz.prog w = .ok (.enter gf args) w) (hArS : ∀ i args n V W, Ar i args n V → Cel V W → Ar i args n W) (hAn : ∀ i args n V, Ar i args n V → args.size = ps.size) (S : Sx B w K g E [] x0 N) (hRd : RdAll g w Rd1) (J : Nat → Prop) (X : World → Prop) (hX : St w.heap.size X) (hJ : J 0)
    (hround : ∀ a, Rd n ds l a → RoundC TpN w N0 0 ps asn body a.tmps Ar (fun i V => J i ∧ Sx B V K g E [] (x0 + 1 + i + 1) N ∧ Chg (· = g) w V) (fun i V => J i ∧ Sx B V K g E [] (x0 + 1 + i) N ∧ Chg (· = g) w V) (fun c _ V => c = .ret ∧ X V))
    (hdone : J N0 → ∀ D W, w.heap.size ≤ D → W.heap[D]? = some (.deferred (some [])) → Sx B W K g E [] (x0 + 1 + N0) N → Chg (· = g) w W → GE n (col D :: ds) Q .normal l W)
    (hstop : ∀ D W, w.heap.size ≤ D → W.heap[D]? = some (.deferred (some [])) → X W → GE n (col D :: ds) Q .ret l W) (hv : lk l t = some (.func (.func gf) #[] lb) := by kernel_rfl) : GC Tryz.prog n ds (Code.rangeFunc (.tmp t) ps asn body) Q l w := ⟨fun a r => by
  have ev : a.eval (.tmp t) = .func (.func gf) #[] lb := by
    have h1 := r.gD hv
    simp at h1
    simp [Act.eval, h1]
  have rd : ∀ D : Nat, Rd n (col D :: ds) l { a with defers := { target := .collected D, args := #[] } :: a.defers } := fun D => ⟨r.1, by show _ :: a.defers = _ :: ds; rw [r.dfs]; rfl, r.3⟩
  have gl : g < w.heap.size := S.sa.lt S.sa.top
  refine wpIn_wide.1 (rf_outerC (n := 0) IT ev eg hArS hAn (fun V => Sx B V K g E [] x0 N ∧ Chg (· = g) w V) (fun i V => J i ∧ Sx B V K g E [] (x0 + 1 + i) N ∧ Chg (· = g) w V) (fun i V => J i ∧ Sx B V K g E [] (x0 + 1 + i + 1) N ∧ Chg (· = g) w V) (fun c _ V => c = .ret ∧ X V)
    (fun A C hx hr => ⟨sx_rcd hx.1 hr, chg_rcd hx.2 hr (Nat.le_refl _)⟩) (fun i A C hx hr => ⟨hx.1, sx_rcd hx.2.1 hr, chg_rcd hx.2.2 hr (Nat.le_refl _)⟩) (fun i A C hx hr => ⟨hx.1, sx_rcd hx.2.1 hr, chg_rcd hx.2.2 hr (Nat.le_refl _)⟩) (fun c i A C hx hr => ⟨hx.1, hX _ _ hx.2 hr⟩) gl ?_ ?_ ⟨S, Chg.refl _ _⟩ (hround a r) ?_ ?_)
  · rintro V ⟨s, c⟩
    have q := s.sa.cnt
    exact ⟨q.1, q.2, hRd V c s.sa.kv, hJ, sx_tick s, c.trans (chg_tick g x0 V) (fun _ _ h => h)⟩
  · rintro i V ⟨j, s, c⟩
    have q := s.sa.cnt
    exact ⟨q.1, q.2, hRd V c s.sa.kv, fun _ => ⟨j, sx_tick s, c.trans (chg_tick g _ V) (fun _ _ h => h)⟩⟩
  · rintro D W hD hK ⟨j, s, c⟩
    exact (hdone j D W hD hK s c).out _ (rd D)
  · rintro D c i W hD hK hi ⟨rfl, hx⟩
    exact wpIn_wide.2 ((gc_ret (hstop D W hD hK hx)).out _ (rd D))⟩
theorem fr_op {n:Nat} {l:Fr} {a:Act} (r:Rd n [] l a):∃ x:Nat->Value,a.tmps=((List.range n).map fun k=>(lk l k).getD (x k)).toArray:=by
 refine ⟨fun k=>a.tmps.getD k undef,?_⟩
 obtain ⟨tm,df⟩:=a
 obtain ⟨h1,h2,h3⟩:=r
 simp only at h1 h2 h3 ⊢
 apply Array.ext
 ·simp [h1]
 ·intro i hi _
  simp only [List.getElem_toArray,List.getElem_map,List.getElem_range]
  cases e:lk l i with
  | none=>simp [hi]
  | some v =>
   have:=h3 i v e
   rw [Array.getElem?_eq_getElem hi] at this
   simpa using this
theorem of4 (w:World):Calls Tryz.prog 163 #[.int .i64 4] w fun e w'=>∃ v,e=.returned (.tuple #[v,.int .i64 0])/\OB w' (w.heap.size <= ·) v [97]/\Below w.heap.size w w':=Ky.of_any (k:=4)
theorem pre4 {B:Nat} {w:World} {K:Nat->Prop} {g:Nat} {E:Ents} {n N:Nat} {pv:Value} {p:List Int} (h:Sx B w K g E [] n N) (hn:n<=1000000) (hN:N<=1000) (hp:By w pv p) (hpl:p.length<=1000):Calls Tryz.prog 165 #[pg g,pv] w fun e w'=>∃ b1 b2 EL Rd1,e=.returned (.func (.func 227) #[] #[pg b1,pg b2])/\ItrC TpN g n 227 #[pg b1,pg b2] EL.length (ArC EL) Rd1/\RdAll g w' Rd1/\EL.map En.kl2=E.filter (fun x=>decide (p <+: x.1))/\(∀ e∈EL,e.kl.length<=1000000000/\e.vl.length<=1000000000)/\Below w.heap.size w w':=by
 refine (sprefixG (Tp:=TpN) (X:=(· = g)) h.sa (by omega) hp (by omega) (fun b e=>.inl e) (fun b e cs k => ?_) (fun b e => ?_) (fun h=>h) (fun h=>h)).mono ?_
 ·have e':b=g:=e
  subst e'
  obtain ⟨cs',k'⟩:=h.sa.kv
  exact absurd (k.eq k').2 (by decide)
 ·have e':b=g:=e
  subst e'
  exact h.sa.lt h.sa.top
 rintro e w' ⟨v,EL,rfl,IG,hEL,Bw⟩
 exact it_of h (by omega) IG hEL Bw (List.length_filter_le _ _)
theorem among_mk4 {w:World} {gf:Nat} {lb:Array Value}:Calls Tryz.prog 164 #[.func (.func gf) #[] lb,.int .i64 4] w fun e w'=>∃ ba bk,e=.returned (.func (.func 247) #[] #[pg ba,pg bk])/\w.heap.size<=ba/\w.heap.size<=bk/\Blk w' ba [.func (.func gf) #[] lb] 121/\Blk w' bk [.int .i64 4] 3/\Below w.heap.size w w':=by
 have BB:=Below.refl w.heap.size w
 refine gc_enter (n:=6) Tryz.func164 rfl ?_
 refine gc_seq (gc_reg (ta 2 [.func (.func gf) #[] lb] 121 (pg) ?_))
 intro v1 g2 Xg2 hg2 B
 replace BB:=joinB BB B
 refine ta 3 [iI 4] 3 (pg) ?_
 have BB0:=BB
 intro v3 g4 Xg4 hg4 B
 replace BB:=joinB BB B
 replace Xg2:=Xg2.keep B
 refine t 4 (.nilFunc) (gl_nil (ge_then (gc_seq (gc_reg (t 5 (.func (.func 247) #[] #[pg g2,pg g4]) (t 4 (.func (.func 247) #[] #[pg g2,pg g4]) (gl_nil (ge_then (gc_ret (ge_ret (.func (.func 247) #[] #[pg g2,pg g4]) (rs1 4 (by kernel_rfl) (by kernel_rfl)) ?_))))))))))
 exact ⟨_,_,rfl,hg2,Nat.le_trans BB0.size hg4,Xg2,Xg4,BB⟩
theorem laid4 {B:Nat} {w:World} {K:Nat->Prop} {g:Nat} {E:Ents} {n N:Nat} (h:Sx B w K g E [] n N) (hn:n<=1000000) (hN:N<=1000) (hfr:∀ x∈E.filter (fun x=>decide (([97]:List Int) <+: x.1)),Ky.frm (4:Nat)=Ky.fIn x.1):Calls Tryz.prog 86 #[pg g,.int .i64 4] w fun e w'=>∃ ba bk EL Rd1,e=.returned (.func (.func 247) #[] #[pg ba,pg bk])/\ItrC TpN g n 247 #[pg ba,pg bk] EL.length (ArK EL) Rd1/\RdAll g w' Rd1/\EL.map En.kl2=E.filter (fun x=>decide (([97]:List Int) <+: x.1))/\(∀ e∈EL,e.kl.length<=1000000000/\e.vl.length<=1000000000)/\Below w.heap.size w w':=by
 have S0:=h
 have BB:=Below.refl w.heap.size w
 refine gc_enter (n:=17) Tryz.func86 rfl ?_
 refine gc_seq (gc_reg (t 4 (.nilFunc) (gl_nil (ge_then (gc_seq (gc_reg (t 8 (iI 4) (tc 9 163 #[iI 4] (of4 _) ?_))))))))
 rintro _ v1 ⟨ov,rfl,O,B⟩
 refine ⟨_,rfl,?_⟩
 replace S0:=S0.keep B
 replace BB:=joinB BB B
 refine t 7 (.tuple #[ov,iI 0]) (t 10 (ov) (t 11 (iI 0) (t 5 (ov) (t 6 (iI 0) (gl_nil (ge_then (gc_seq (gc_reg (t 12 (pg g) (t 13 (ov) (tc 14 165 #[pg g,ov] (pre4 S0 hn hN O.by (by decide)) ?_)))))))))))
 rintro _ v2 ⟨b1,b2,EL,Rd1,rfl,IT,RA,hEL,hsm,B⟩
 refine ⟨_,rfl,?_⟩
 replace S0:=S0.keep B
 replace BB:=joinB BB B
 replace O:=O.keep B
 clear O
 refine t 15 (iI 4) (tc 16 164 #[.func (.func 227) #[] #[pg b1,pg b2],iI 4] (among_mk4) ?_)
 rintro _ v3 ⟨ba,bk,rfl,hba,hbk,Xa,Xk,B⟩
 refine ⟨_,rfl,?_⟩
 have gl:=S0.sa.lt S0.sa.top
 replace S0:=S0.keep B
 replace BB:=joinB BB B
 replace RA:=RA.keep B
 refine t 4 (.func (.func 247) #[] #[pg ba,pg bk]) (gl_nil (ge_then (gc_fr [(4,.func (.func 247) #[] #[pg ba,pg bk])] (gc_ret (ge_ret (.func (.func 247) #[] #[pg ba,pg bk]) (rs1 4 (by kernel_rfl) (by kernel_rfl)) ?_)))))
 have XA:=Xa
 have XK:=Xk
 exact ⟨ba,bk,EL,_,rfl,among_itr (W0:=v3) IT (enters_of Tryz.func227 (by kernel_rfl) rfl) Xa Xk (by omega) (by omega) (fun e he=>hfr _ (by rw [<- hEL]; exact List.mem_map.2 ⟨e,he,rfl⟩)) hsm,fun V c k=>⟨RA V c k,c⟩,hEL,hsm,BB⟩
theorem pmk4 {w:World} {gf:Nat} {lb:Array Value}:Calls Tryz.prog 151 #[.func (.func gf) #[] lb,.func (.func 76) #[] #[]] w fun e w'=>∃ ba bk,e=.returned (.func (.func 231) #[] #[pg ba,pg bk])/\w.heap.size<=ba/\w.heap.size<=bk/\Blk w' ba [.func (.func gf) #[] lb] 142/\Blk w' bk [.func (.func 76) #[] #[]] 130/\Below w.heap.size w w':=by
 have BB:=Below.refl w.heap.size w
 refine gc_enter (n:=6) Tryz.func151 rfl ?_
 refine gc_seq (gc_reg (ta 2 [.func (.func gf) #[] lb] 142 (pg) ?_))
 intro v1 g2 Xg2 hg2 B
 replace BB:=joinB BB B
 refine ta 3 [.func (.func 76) #[] #[]] 130 (pg) ?_
 have BB0:=BB
 intro v3 g4 Xg4 hg4 B
 replace BB:=joinB BB B
 replace Xg2:=Xg2.keep B
 refine t 4 (.nilFunc) (gl_nil (ge_then (gc_seq (gc_reg (t 5 (.func (.func 231) #[] #[pg g2,pg g4]) (t 4 (.func (.func 231) #[] #[pg g2,pg g4]) (gl_nil (ge_then (gc_ret (ge_ret (.func (.func 231) #[] #[pg g2,pg g4]) (rs1 4 (by kernel_rfl) (by kernel_rfl)) ?_))))))))))
 exact ⟨_,_,rfl,hg2,Nat.le_trans BB0.size hg4,Xg2,Xg4,BB⟩
theorem recs4 {B:Nat} {w:World} {K:Nat->Prop} {g:Nat} {E:Ents} {n N:Nat} (h:Sx B w K g E [] n N) (hn:n<=1000000) (hN:N<=1000) (hfr:∀ x∈E.filter (fun x=>decide (([97]:List Int) <+: x.1)),Ky.frm (4:Nat)=Ky.fIn x.1):Calls Tryz.prog 75 #[pg g,.int .i64 4,.func (.func 76) #[] #[]] w fun e w'=>∃ bp br EL Rd1,e=.returned (.func (.func 231) #[] #[pg bp,pg br])/\ItrC TpN g n 231 #[pg bp,pg br] EL.length (ArA EL) Rd1/\RdAll g w' Rd1/\EL.map En.kl2=E.filter (fun x=>decide (([97]:List Int) <+: x.1))/\Below w.heap.size w w':=by
 have S0:=h
 have BB:=Below.refl w.heap.size w
 refine gc_enter (n:=12) Tryz.func75 rfl ?_
 refine gc_seq (gc_reg (t 6 (.nilFunc) (gl_nil (ge_then (gc_seq (gc_reg (t 7 (pg g) (t 8 (iI 4) (tc 9 86 #[pg g,iI 4] (laid4 S0 hn hN hfr) ?_)))))))))
 rintro _ v1 ⟨ba,bk,EL,Rd1,rfl,IT,RA,hEL,hsm,B⟩
 refine ⟨_,rfl,?_⟩
 replace S0:=S0.keep B
 replace BB:=joinB BB B
 refine t 10 (.func (.func 76) #[] #[]) (tc 11 151 #[.func (.func 247) #[] #[pg ba,pg bk],.func (.func 76) #[] #[]] (pmk4) ?_)
 rintro _ v2 ⟨bp,br,rfl,hbp,hbr,Xp,Xr,B⟩
 refine ⟨_,rfl,?_⟩
 have gl:=S0.sa.lt S0.sa.top
 replace S0:=S0.keep B
 replace BB:=joinB BB B
 replace RA:=RA.keep B
 refine t 6 (.func (.func 231) #[] #[pg bp,pg br]) (gl_nil (ge_then (gc_ret (ge_ret (.func (.func 231) #[] #[pg bp,pg br]) (rs1 6 (by kernel_rfl) (by kernel_rfl)) ?_))))
 exact ⟨bp,br,EL,_,rfl,parsed_itr (W0:=v2) IT (enters_of Tryz.func247 (by kernel_rfl) rfl) Xp Xr (by omega) (by omega) hsm,fun V c k=>⟨RA V c k,c⟩,hEL,BB⟩
end Sd
end
end Go.Proofs.YtopifdikfhffgaaGreat
