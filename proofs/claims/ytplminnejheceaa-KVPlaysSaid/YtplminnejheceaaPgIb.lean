/- copies: an iterator that hands out copies of another one's entries. -/
import Derived.Test.YtplminnejheceaaPgHd
namespace Go.Proofs.Ytplminnejheceaa
namespace Pg
open Go.RowKit Go.Lib
attribute [local go_sem] Oper.semAt_some
/-- arguments that are copies of the entry's bytes, made since -/
def ArC (E : List En) (i : Nat) (args : Array Value) (n : Nat) (V : World) : Prop :=
  ∃ e kv vv s, E[i]? = some e ∧ args = #[kv, vv] ∧ OB V (fun b => n ≤ b ∧ b < s) kv e.kl ∧ OB V (s ≤ ·) vv e.vl ∧ n ≤ s
def ArE (E : List En) (i : Nat) (args : Array Value) (_ : Nat) (_ : World) : Prop := ∃ e, E[i]? = some e ∧ args = #[.agg #[e.kv, e.vv]]
theorem OB.cel {W W' : World} {D : Nat → Prop} {v : Value} {l : List Int} (h : OB W D v l) (hc : Cel W W') : OB W' D v l := by
  refine ⟨h.oct, h.ex.imp id ?_⟩
  rintro ⟨b, c, e, hd, hR⟩
  obtain ⟨cs, k⟩ := hR.kind
  exact ⟨b, c, e, hd, hR.same ((hc.same b _ k.blk rfl).trans k.blk.symm)⟩
theorem ArC.cel {E : List En} {i : Nat} {args : Array Value} {n : Nat} {V W : World} (h : ArC E i args n V) (hc : Cel V W) : ArC E i args n W := by
  obtain ⟨e, kv, vv, s, h1, h2, h3, h4, h5⟩ := h
  exact ⟨e, kv, vv, s, h1, h2, h3.cel hc, h4.cel hc, h5⟩
theorem ld_f {w : World} {g : Nat} {v : Value} (c : Blk w g [v] 46) : (loadVar 46 ⟨g, 0, none⟩).run Try.prog w = .ok v w := by
  have c := c.cell (i := 0) rfl
  go_simp
theorem ld_b {w : World} {g o : Nat} {v : Value} (c : w.cell? ⟨g, o, none⟩ = some v) : (loadVar 32 ⟨g, o, none⟩).run Try.prog w = .ok v w := by go_simp
theorem OB.lt' {w : World} {D : Nat → Prop} {v : Value} {l : List Int} (h : OB w D v l) : OB w (fun b => D b ∧ b < w.heap.size) v l := by
  refine ⟨h.oct, h.ex.imp id ?_⟩
  rintro ⟨b, c, e, hd, hR⟩
  exact ⟨b, c, e, ⟨hd, hR.lt⟩, hR⟩
theorem run_yv2 {a : Act} {w : World} {o : Oper} {f x y l : Nat} {t1 t2 : TypeId} {u v : Value} (ho : o.op = .call { callee := .value (.tmp f), args := #[.tmp x, .tmp y], argTypes := #[t1, t2] }) (hf : a.eval (.tmp f) = .func (.yield l) #[] #[]) (hx : a.eval (.tmp x) = u) (hy : a.eval (.tmp y) = v) :
    (execOp a.eval o).run Try.prog w = (Instr.yield l #[u, v]).run Try.prog w := by
  have hx' : a.tmps[x]?.getD undef = u := by simpa [Act.eval] using hx
  have hy' : a.tmps[y]?.getD undef = v := by simpa [Act.eval] using hy
  simp only [execOp, ho, resolve, hf]
  simp [go_sem, hx', hy', invoke]
theorem rec_cel {B : Nat} {W W' : World} {b : Nat} {cs : List Value} {t : TypeId} (h : Blk W b cs t) (hr : Rec B W W') : Blk W' b cs t := ⟨hr.same b _ h.blk (.inr rfl)⟩
set_option maxHeartbeats 4000000 in
set_option maxRecDepth 100000 in
theorem copies_itr {Tp : TypeId → Prop} {gf bw N : Nat} {lb : Array Value} {E : List En} {D : Nat → Prop} {Rd : World → Prop} (IT : Itr Tp gf lb N (ArE E) Rd) (eg : ∀ args w, (callFunc gf args).run Try.prog w = .ok (.enter gf args) w) (hT : ¬ Tp 46) (hTe : ¬ Tp 90)
    (hbw : ∀ V, Rd V → V.cell? ⟨bw, 0, none⟩ = some (.func (.func gf) #[] lb)) (hEn : ∀ V, Rd V → ∀ e ∈ E, EnA V D e) (hbig : ∀ e ∈ E, e.kl.length ≤ 1000000000 ∧ e.vl.length ≤ 1000000000) :
    Itr Tp 73 #[.pointer (some ⟨bw, 0, none⟩)] N (ArC E) Rd := by
  intro l J Jx W hJ hJx hRd hY h0
  have cw := hbw _ (hRd 0 W h0)
  have J1 := hJ 0 _ _ h0 (Rec.of (below_alloc W (.cells #[.func (.yield l) #[] #[]] 46)))
  have cw1 := hbw _ (hRd 0 _ J1)
  have Y1 := blk_new W [.func (.yield l) #[] #[]] 46
  refine (callsIn_wide (n := 0)).1 ?_
  refine callsIn_of_wp_marks Try.func73 rfl trivial ?_ rfl
  simp only [Try.ntmps73, List.size_toArray, List.length_cons, List.length_nil, Nat.reduceAdd, Nat.reduceSub, Array.replicate_succ, Array.replicate_zero, List.push_toArray, List.append_toArray, List.nil_append, List.cons_append]
  gi_wp2
  have hs1 : (W.alloc (.cells #[.func (.yield l) #[] #[]] 46)).heap.size = W.heap.size + 1 := by simp
  generalize W.alloc (.cells #[.func (.yield l) #[] #[]] 46) = W1 at *
  refine rf_outer IT (by rfl) eg (fun i args n V V' h _ => h) (fun i args n V h => by obtain ⟨e, _, rfl⟩ := h; rfl)
    (fun i V => J i V ∧ W1.heap.size ≤ V.heap.size ∧ Blk V W.heap.size [.func (.yield l) #[] #[]] 46)
    (fun c i V => c = .ret ∧ Jx i V ∧ W1.heap.size ≤ V.heap.size)
    (fun i X Y hx hr => ⟨hJ i X Y hx.1 (hr.mono (by omega)), Nat.le_trans hx.2.1 hr.size, rec_cel hx.2.2 hr⟩)
    (fun c i X Y hx hr => ⟨hx.1, hJx i X Y hx.2.1 (hr.mono (by omega)), Nat.le_trans hx.2.2 hr.size⟩)
    (fun i V hv => hRd i V hv.1) ⟨J1, Nat.le_refl _, Y1⟩ ?_ ?_ ?_
  · rintro l2 i args V Wv hl hlV hrec hiN ⟨hJi, hsz, hY2⟩ hb ⟨e, he, rfl⟩
    have hem := List.mem_of_getElem? he
    have hEnV := hEn V (hRd i V hJi) e hem
    obtain ⟨hkb, hvb⟩ := hbig e hem
    obtain ⟨ekv, ekl, evv, evl⟩ := e
    obtain ⟨ak, nk, hk1⟩ := hEnV.k.shape
    obtain ⟨av, nv, hv1⟩ := hEnV.v.shape
    simp only at hk1 hv1
    subst hk1 hv1
    simp
    gi_wp2
    refine ⟨below_alloc Wv _, ?_⟩
    intro V2 W2 hJ2 hsz2 hYb hb2 _ hoth hsz3 hV2 r hrec2
    have hEn2 := (hEn V2 (hRd i V2 hJ2) _ hem).keep (joinB hb2 (belowD W2))
    have hEb : Blk W2 Wv.heap.size [.slice ak ekl.length nk, .slice av evl.length nv] 90 := (blk_new Wv [.slice ak ekl.length nk, .slice av evl.length nv] 90).same (hoth _ (by have := hb.size; omega))
    have hYW := hYb.keep hb2
    gi_wp2
    refine ih_start (S := fun w' => Blk w' W.heap.size [.func (.yield l) #[] #[]] 46 ∧ Blk w' Wv.heap.size [.slice ak ekl.length nk, .slice av evl.length nv] 90) (by kernel_rfl) ?_
    have hS := (show _ ∧ _ from ⟨hYW.drew, hEb.drew⟩)
    have q1 := hb.size
    have q2 := hb2.size
    refine ih_load 0 (some 6) (.func (.yield l) #[] #[]) 46 2 W.heap.size 0 (by kernel_rfl) (by kernel_rfl) (by kernel_rfl) (by kernel_rfl) (fun w' h => ld_f h.1) (fun _ _ _ h => h) hS ?_
    refine ih_take 1 (some 7) (.pointer (some ⟨Wv.heap.size, 0, none⟩)) (by kernel_rfl) (by kernel_rfl) (fun _ _ => by kernel_rfl) (fun _ _ _ h => h) hS ?_
    refine ih_load 2 (some 8) (.slice ak ekl.length nk) 32 7 Wv.heap.size 0 (by kernel_rfl) (by kernel_rfl) (by kernel_rfl) (by kernel_rfl) (fun w' h => ld_b (h.2.cell (i := 0) rfl)) (fun _ _ _ h => h) hS ?_
    refine ih_take 4 (some 10) (.pointer (some ⟨Wv.heap.size, 1, none⟩)) (by kernel_rfl) (by kernel_rfl) (fun _ _ => by kernel_rfl) (fun _ _ _ h => h) hS ?_
    refine ih_load 5 (some 11) (.slice av evl.length nv) 32 10 Wv.heap.size 1 (by kernel_rfl) (by kernel_rfl) (by kernel_rfl) (by kernel_rfl) (fun w' h => ld_b (h.2.cell (i := 1) rfl)) (fun _ _ _ h => h) hS ?_
    refine ih_call 3 (some 9) 62 #[.slice ak ekl.length nk] (by kernel_rfl) (by kernel_rfl) (by kernel_rfl) (clone_any hEn2.k.by hkb) ?_
    rintro e' w3 ⟨nkv, rfl, hO3, hB3⟩
    refine ⟨_, rfl, ⟨hS.1.keep hB3, hS.2.keep hB3⟩, ?_⟩
    replace hS := (show _ ∧ _ from ⟨hS.1.keep hB3, hS.2.keep hB3⟩)
    refine ih_call 6 (some 12) 62 #[.slice av evl.length nv] (by kernel_rfl) (by kernel_rfl) (by kernel_rfl) (clone_any (hEn2.v.keep hB3).by hvb) ?_
    rintro e' w4 ⟨nvv, rfl, hO4, hB4⟩
    refine ⟨_, rfl, ⟨hS.1.keep hB4, hS.2.keep hB4⟩, ?_⟩
    replace hS := (show _ ∧ _ from ⟨hS.1.keep hB4, hS.2.keep hB4⟩)
    have hBV : Below V2.heap.size V2 w4 := joinB (joinB (joinB hb2 (belowD W2)) hB3) hB4
    have hBW : Below W2.heap.size W2 w4 := joinB (joinB (belowD W2) hB3) hB4
    have hAr : ArC E i #[nkv, nvv] V2.heap.size w4 := ⟨_, nkv, nvv, w3.heap.size, he, rfl, (hO3.lt'.keep hB4).mono (fun b _ hb => ⟨Nat.le_trans hb2.size hb.1, hb.2⟩), hO4, Nat.le_trans hb2.size hB3.size⟩
    refine ih_yield 7 (some 13) l #[nkv, nvv] (by kernel_rfl) (by kernel_rfl) (run_yv2 (t1 := 32) (t2 := 32) (f := 6) (x := 9) (y := 12) (by kernel_rfl) (by kernel_rfl) (by kernel_rfl) (by kernel_rfl)) (hY i _ V2 w4 hiN hJ2 (by omega) hBV hAr) ?_
    rintro e' w5 ⟨hk5, h5⟩
    have hY5 := hk5.blk hS.1 (Nat.le_refl _) hT
    have hE5 := hk5.blk hS.2 (by omega) hTe
    have hkk : KeepsT Tp (W.heap.size + 1) W2 w5 := (KeepsT.of (B := W.heap.size + 1) hBW).trans (hk5.mono (by omega))
    have hsz5 : W.heap.size + 1 ≤ w5.heap.size := by have := hkk.size; omega
    rcases h5 with ⟨rfl, hJ5⟩ | ⟨rfl, hJ5⟩
    · refine ⟨_, rfl, ⟨hY5, hE5⟩, ?_⟩
      have hS := (show _ ∧ _ from ⟨hY5, hE5⟩)
      refine ih_take 8 (some 14) (.bool false) (by kernel_rfl) (by kernel_rfl) (fun _ _ => by kernel_rfl) (fun _ _ _ h => h) hS ?_
      refine ih_done (by kernel_rfl) ?_
      simp only [Act.put, List.setIfInBounds_toArray, List.set_cons_zero, List.set_cons_succ]
      gi_wp2
      exact ⟨hkk, hJ5, hsz5, hY5⟩
    · refine ⟨_, rfl, ⟨hY5, hE5⟩, ?_⟩
      have hS := (show _ ∧ _ from ⟨hY5, hE5⟩)
      refine ih_take 8 (some 14) (.bool true) (by kernel_rfl) (by kernel_rfl) (fun _ _ => by kernel_rfl) (fun _ _ _ h => h) hS ?_
      refine ih_done (by kernel_rfl) ?_
      simp only [Act.put, List.setIfInBounds_toArray, List.set_cons_zero, List.set_cons_succ]
      gi_wp2
      exact ⟨hkk, rfl, hJ5, hsz5⟩
  · rintro D' W' hD hK ⟨hJn, hsz, hYb⟩
    gi_wp2
    refine ⟨by simp, .inl ⟨_, _, rfl, run_takeDeferred hK, ?_⟩⟩
    exact ⟨_, results_none rfl _ _ _, ⟨_, rfl⟩, by simp; omega, .inl (hJ N _ _ hJn (Rec.put hK rfl (by omega) _))⟩
  · rintro D' c i W' hD hK hiN ⟨rfl, hJx', hsz⟩
    gi_wp2
    refine ⟨by simp, .inl ⟨_, _, rfl, run_takeDeferred hK, ?_⟩⟩
    exact ⟨_, results_none rfl _ _ _, ⟨_, rfl⟩, by simp; omega, .inr ⟨i, hiN, hJx (i + 1) _ _ hJx' (Rec.put hK rfl (by omega) _)⟩⟩
end Pg
end Go.Proofs.Ytplminnejheceaa
