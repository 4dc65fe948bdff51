/- Several texts, joined: BkC. -/
import Derived.Test.YtpoifdokmjhclaaGreatJyt
namespace Go.Proofs.YtpoifdokmjhclaaGreat
namespace Kv
open Go.RowKit Go.Lib Pg
attribute [local go_sem] Oper.semAt_some
structure IterG (Tp : TypeId → Prop) (X : Nat → Prop) (n0 : Nat) (w : World) (g : Nat) (EL : List En) (v : Value) : Prop where
  ex : ∃ bs1 bs2 bw W1, v = .func (.func 303) #[] #[.pointer (some ⟨bs1, 0, none⟩), .pointer (some ⟨bs2, 0, none⟩)] ∧ Itr Tp 347 #[.pointer (some ⟨bw, 0, none⟩)] EL.length (ArC EL) (fun V => Chg X W1 V) ∧ RdC X W1 g bs1 bs2 bw w ∧ n0 ≤ bs1 ∧ n0 ≤ bs2
  small : ∀ e ∈ EL, e.kl.length ≤ 1000000000 ∧ e.vl.length ≤ 1000000000
theorem xwmG {w : World} {K D F V : Nat → Prop} {g m : Nat} {Q : List (List KV)} {jv : Value} {T : List Jr} {oj : Option Nat} {n N : Nat} (h : SX w K D F V g m Q jv T oj n N) (hN : N ≤ 100000000) {X : Nat → Prop} (hx : ∀ b, X b → b = g ∨ ¬ K b) (hU : ∀ b, X b → ∀ cs, ¬ Blk w b cs 5) (hl : ∀ b, X b → b < w.heap.size) : ∃ L, Wm w X F D m L ∧ ∀ f t, (wlk (ens L) f t).map En.kl2 = Q.flatten.filter (abtw f t) :=
  h.wm hN (fun b hb hF => (hx b hb).elim (fun e => by subst e; exact h.own.ntop hF) (fun n => n (h.own.map b hF))) hU hl
theorem iterG_of {Tp : TypeId → Prop} {X : Nat → Prop} {n0 : Nat} {w w1 w2 : World} {F D : Nat → Prop} {g m bw : Nat} {jv : Value} {n : Int} {L : List Pg} {f t : List Int} (hg : Blk w g [.pointer (some ⟨m, 0, none⟩), jv, .int .i64 n] 152) (Km : Wm w X F D m L) (B1 : Below w.heap.size w w1) (IT : Itr Tp 347 #[.pointer (some ⟨bw, 0, none⟩)] (wlk (ens L) f t).length (ArC (wlk (ens L) f t)) (fun V => Chg X w1 V))
    (b1 : Blk w2 w1.heap.size [.pointer (some ⟨g, 0, none⟩)] 46) (b2 : Blk w2 (w1.heap.size + 1) [.func (.func 347) #[] #[.pointer (some ⟨bw, 0, none⟩)]] 291) (B2 : Below w1.heap.size w1 w2) (h0 : n0 ≤ w.heap.size) :
    IterG Tp X n0 w2 g (wlk (ens L) f t) (.func (.func 303) #[] #[.pointer (some ⟨w1.heap.size, 0, none⟩), .pointer (some ⟨w1.heap.size + 1, 0, none⟩)]) :=
  ⟨⟨_, _, bw, w1, rfl, IT, ⟨Chg.of B2, b1, b2, ⟨_, (hg.keep B1).keep B2⟩⟩, Nat.le_trans h0 B1.size, by have := B1.size; omega⟩, fun e he => by
    obtain ⟨es, h1, h2⟩ := wlk_mem he
    exact Km.small es h1 e h2⟩
set_option maxHeartbeats 4000000 in
set_option maxRecDepth 100000 in
theorem sprefixG {Tp : TypeId → Prop} {X : Nat → Prop} {w : World} {K D : Nat → Prop} {g n N : Nat} {E : Ents} {W : List Ents} {pv : Value} {p : List Int} (h : SA w K D g E W n N) (hN : N ≤ 100000000) (hp : By w pv p) (hpl : p.length ≤ 1000000) (hX1 : ∀ b, X b → b = g ∨ ¬ K b) (hXU : ∀ b, X b → ∀ cs, ¬ Blk w b cs 5) (hXl : ∀ b, X b → b < w.heap.size) (hT : ¬ Tp 38) (hTe : ¬ Tp 197) :
    Calls Tryz.prog 195 #[.pointer (some ⟨g, 0, none⟩), pv] w fun e w' => ∃ v EL, e = .returned v ∧ IterG Tp X w.heap.size w' g EL v ∧ EL.map En.kl2 = E.filter (fun x => decide (p <+: x.1)) ∧ Below w.heap.size w w' := by
  have hOct := h.oct
  have HXX := hid3 (show (∀ b, X b → b = g ∨ ¬ K b) ∧ (∀ b, X b → ∀ cs, ¬ Blk w b cs 5) ∧ (∀ b, X b → b < w.heap.size) from ⟨hX1, hXU, hXl⟩)
  have HTT := hid3 (show ¬ Tp 38 ∧ ¬ Tp 197 from ⟨hT, hTe⟩)
  clear hX1 hXU hXl hT hTe
  obtain ⟨F, V, m, Q, jv, T, oj, hX, rfl, hB⟩ := h.open
  obtain ⟨pa, pc, rfl, -⟩ := id hp.ex
  have hbel := next_any hp.drew (by omega)
  have hS := hX.blk.drew
  have HX := hid3 hX
  have HP := hid3 hp
  have HO := hid3 hOct
  have hpl2 := hid3 hpl
  have bD : Below w.heap.size w w.drew := ⟨rfl, rfl, rfl, Nat.le_refl _, fun _ _ => rfl⟩
  clear hX hp h hB hOct hpl
  obtain ⟨pn, hpn⟩ : ∃ pn, Hid (p.length = pn) := ⟨_, rfl⟩
  rw [hpn.out] at HP hbel ⊢
  go_enter Tryz.func195, Tryz.ntmps195
  go_wp2_with fail
  refine rg_start (S := fun w' => Blk w' g [.pointer (some ⟨m, 0, none⟩), jv, .int .i64 n] 152) (by kernel_rfl) hS ?_
  refine rg_take 0 (some 5) (.pointer (some ⟨g, 0, none⟩)) (by kernel_rfl) (fun _ _ => by kernel_rfl) (fun _ _ _ h => h) hS ?_
  refine rg_take 1 (some 6) (.pointer (some ⟨g, 0, none⟩)) (by kernel_rfl) (fun _ _ => by kernel_rfl) (fun _ _ _ h => h) hS ?_
  refine rg_take 2 (some 7) (.pointer (some ⟨g, 0, none⟩)) (by kernel_rfl) (fun _ _ => by kernel_rfl) (fun _ _ _ h => h) hS ?_
  refine rg_take 3 (some 8) (.pointer (some ⟨g, 0, none⟩)) (by kernel_rfl) (fun _ _ => by kernel_rfl) (fun _ _ _ h => h) hS ?_
  refine rg_load 4 (some 9) (.pointer (some ⟨m, 0, none⟩)) 144 8 g 0 (by kernel_rfl) (by kernel_rfl) (by kernel_rfl) (fun w' h => ld_mp (h.cell (i := 0) rfl)) (fun _ _ _ h => h) hS ?_
  refine rg_take 5 (some 10) (.slice pa pn pc) (by kernel_rfl) (fun _ _ => by kernel_rfl) (fun _ _ _ h => h) hS ?_
  refine rg_take 6 (some 11) (.slice pa pn pc) (by kernel_rfl) (fun _ _ => by kernel_rfl) (fun _ _ _ h => h) hS ?_
  refine rg_call 7 (some 12) 245 #[.slice pa pn pc] (by kernel_rfl) (by kernel_rfl) hbel ?_
  rintro e' w1 ⟨nv, rfl, O1, B1⟩
  refine ⟨_, rfl, hS.keep B1, ?_⟩
  have B1' := joinB bD B1
  replace hS := hS.keep B1
  have X1 := HX.out.keep B1'
  obtain ⟨L, Km, hw⟩ := xwmG X1 hN HXX.out.1 (fun b hb cs k => HXX.out.2.1 b hb cs ⟨by rw [← B1'.block b (HXX.out.2.2 b hb)]; exact k.blk⟩) (fun b hb => Nat.lt_of_lt_of_le (HXX.out.2.2 b hb) B1'.size)
  have hnl : (nxt p).length ≤ p.length := by
    rcases last255 p with h1 | ⟨A, x, B, rfl, hx, hB⟩
    · rw [nxt_all h1]; simp
    · rw [nxt_eq hx hB]; simp
  have tW := walk_any (Tp := Tp) Km (HP.out.keep B1') O1.by (by have := hpl2.out; omega) (by have := hpl2.out; omega) HTT.out.1 HTT.out.2
  refine rg_call 8 (some 13) 244 #[.pointer (some ⟨m, 0, none⟩), .slice pa pn pc, nv] (by kernel_rfl) (by kernel_rfl) tW ?_
  rintro e' w2 ⟨bw, rfl, B2, IT⟩
  refine ⟨_, rfl, hS.keep B2, ?_⟩
  replace hS := hS.keep B2
  refine rg_call 9 (some 14) 243 #[.pointer (some ⟨g, 0, none⟩), .func (.func 347) #[] #[.pointer (some ⟨bw, 0, none⟩)]] (by kernel_rfl) (by kernel_rfl) counted_mk ?_
  rintro e' w3 ⟨rfl, k1, k2, B3⟩
  refine ⟨_, rfl, hS.keep B3, ?_⟩
  replace hS := hS.keep B3
  refine rg_take 10 (some 4) (.func (.func 303) #[] #[.pointer (some ⟨w2.heap.size, 0, none⟩), .pointer (some ⟨w2.heap.size + 1, 0, none⟩)]) (by kernel_rfl) (fun _ _ => by kernel_rfl) (fun _ _ _ h => h) hS ?_
  refine rg_done (by kernel_rfl) ?_
  simp only [Act.put, List.setIfInBounds_toArray, List.set_cons_zero, List.set_cons_succ]
  have FI := hid3 (iterG_of X1.blk Km B2 IT k1 k2 B3 B1'.size)
  have HW := hid3 (hw p (nxt p))
  have BB := hid3 (joinB (joinB B1' B2) B3)
  clear hS X1 Km hw tW IT k1 k2 B3 B2 B1 B1' O1 bD
  go_wp2
  go_ret
  refine ⟨_, _, rfl, FI.out, ?_, BB.out⟩
  rw [HW.out]
  exact List.filter_congr (fun x hx => abtw_pre (HO.out x hx))
/-- one more operation -/
theorem SA.tick {w : World} {K D : Nat → Prop} {g n N : Nat} {E : Ents} {W : List Ents} (h : SA w K D g E W n N) : SA (tick g w n) K D g E W (n + 1) N := by
  obtain ⟨F, V, m, Q, jv, T, oj, hX, hE, hB⟩ := h.open
  exact (hX.top (chg_tick g n w) (hX.blk.setCell (i := 2) _)).shut hE hB
theorem SA.cnt {w : World} {K D : Nat → Prop} {g n N : Nat} {E : Ents} {W : List Ents} (h : SA w K D g E W n N) : w.cell? ⟨g, 2, none⟩ = some (.int .i64 n) ∧ w.frozen? ⟨g, 2, none⟩ = false := by
  obtain ⟨F, V, m, Q, jv, T, oj, hX, hE, hB⟩ := h.open
  exact ⟨hX.blk.cell (i := 2) rfl, hX.blk.free 2⟩
theorem SA.kv {w : World} {K D : Nat → Prop} {g n N : Nat} {E : Ents} {W : List Ents} (h : SA w K D g E W n N) : ∃ cs, Blk w g cs 152 := by
  obtain ⟨F, V, m, Q, jv, T, oj, hX, hE, hB⟩ := h.open
  exact ⟨_, hX.blk⟩
end Kv
end Go.Proofs.YtpoifdokmjhclaaGreat
