/- Walk and Back: their iterators. -/
import Derived.Test.YtplminnejheceaaPgId
namespace Go.Proofs.Ytplminnejheceaa
namespace Pg
open Go.RowKit Go.Lib
attribute [local go_sem] Oper.semAt_some
set_option maxHeartbeats 1000000 in
set_option maxRecDepth 100000 in
theorem rising_mk {w : World} {pm pf pt : Option Addr} {nf cf nt ct : Nat} : Calls Try.prog 61 #[.pointer pm, .slice pf nf cf, .slice pt nt ct] w fun e w' => e = .returned (.func (.func 74) #[] #[.pointer (some ⟨w.heap.size, 0, none⟩), .pointer (some ⟨w.heap.size + 1, 0, none⟩), .pointer (some ⟨w.heap.size + 2, 0, none⟩)]) ∧ Blk w' w.heap.size [.pointer pm] 58 ∧ Blk w' (w.heap.size + 1) [.slice pf nf cf] 32 ∧ Blk w' (w.heap.size + 2) [.slice pt nt ct] 32 ∧ Below w.heap.size w w' := by
  have b1 := below_alloc w (.cells #[.pointer pm] 58)
  have b2 := below_alloc (w.alloc (.cells #[.pointer pm] 58)) (.cells #[.slice pf nf cf] 32)
  have b3 := below_alloc ((w.alloc (.cells #[.pointer pm] 58)).alloc (.cells #[.slice pf nf cf] 32)) (.cells #[.slice pt nt ct] 32)
  have c1 := ((blk_new w [.pointer pm] 58).keep b2).keep b3
  have c2 := (blk_new (w.alloc (.cells #[.pointer pm] 58)) [.slice pf nf cf] 32).keep b3
  have c3 := blk_new ((w.alloc (.cells #[.pointer pm] 58)).alloc (.cells #[.slice pf nf cf] 32)) [.slice pt nt ct] 32
  have s1 : (w.alloc (.cells #[.pointer pm] 58)).heap.size = w.heap.size + 1 := by simp
  have s2 : ((w.alloc (.cells #[.pointer pm] 58)).alloc (.cells #[.slice pf nf cf] 32)).heap.size = w.heap.size + 2 := by simp
  rw [s1] at c2
  rw [s2] at c3
  clear s1 s2
  go_enter Try.func61, Try.ntmps61
  go_wp2
  go_ret
  exact ⟨by simp, c1, c2, c3, joinB (joinB b1 b2) b3⟩
set_option maxHeartbeats 1000000 in
set_option maxRecDepth 100000 in
theorem copies_mk {w : World} {k : Nat} {lb : Array Value} : Calls Try.prog 60 #[.func (.func k) #[] lb] w fun e w' => e = .returned (.func (.func 73) #[] #[.pointer (some ⟨w.heap.size, 0, none⟩)]) ∧ Blk w' w.heap.size [.func (.func k) #[] lb] 95 ∧ Below w.heap.size w w' := by
  go_enter Try.func60, Try.ntmps60
  go_wp2
  go_ret
  exact ⟨rfl, blk_new w _ _, below_alloc w _⟩
theorem wlk_mem {P : List (List En)} {f t : List Int} {e : En} (h : e ∈ wlk P f t) : ∃ es ∈ P, e ∈ es := by
  unfold wlk at h
  obtain ⟨es, h1, h2⟩ := List.mem_flatMap.1 h
  exact ⟨es, cut_mem h1, cut_mem h2⟩
/-- what holds of a map that is walked -/
structure Wm (W : World) (X F D : Nat → Prop) (g : Nat) (L : List Pg) : Prop where
  map : MapA W F D g L
  ord : Ord (ens L)
  few : ∀ es ∈ ens L, es.length ≤ 32
  big : L.length ≤ 100000000
  small : ∀ es ∈ ens L, ∀ e ∈ es, e.kl.length ≤ 1000000000 ∧ e.vl.length ≤ 1000000000
  xF : ∀ b, X b → ¬ F b
  xU : ∀ b, X b → ∀ cs, ¬ Blk W b cs 5
  xl : ∀ b, X b → b < W.heap.size
/-- an iterator over entries, made of a map's -/
theorem Wm.copies {Tp : TypeId → Prop} {W W1 : World} {X F D : Nat → Prop} {g gf bw N : Nat} {L : List Pg} {lb : Array Value} {E : List En} (K : Wm W X F D g L) (hB : Below W.heap.size W W1) (IT : Itr Tp gf lb N (ArE E) (fun V => Chg X W1 V)) (eg : ∀ args w, (callFunc gf args).run Try.prog w = .ok (.enter gf args) w) (hT : ¬ Tp 46) (hTe : ¬ Tp 90)
    (hw : Blk W1 bw [.func (.func gf) #[] lb] 95) (hbw : W.heap.size ≤ bw) (hE : ∀ e ∈ E, ∃ es ∈ ens L, e ∈ es) : Itr Tp 73 #[.pointer (some ⟨bw, 0, none⟩)] N (ArC E) (fun V => Chg X W1 V) := by
  refine copies_itr (D := D) IT eg hT hTe (fun V hV => (hw.chg hV (fun x => by have := K.xl _ x; omega)).cell (i := 0) rfl) (fun V hV e he => ?_) (fun e he => ?_)
  · obtain ⟨es, h1, h2⟩ := hE e he
    obtain ⟨p, hp, rfl⟩ := List.mem_map.1 h1
    have A := (K.map.keep hB).chg hV K.xF (fun b hb cs k => K.xU b hb cs (k.same (hB.block b (K.xl b hb)).symm))
    exact (A.pages p hp).1.ents e h2
  · obtain ⟨es, h1, h2⟩ := hE e he
    exact K.small es h1 e h2
theorem Wm.wk {W W1 : World} {X F D : Nat → Prop} {g : Nat} {L : List Pg} {bm bf bt : Nat} {fv tv : Value} {f t : List Int} (K : Wm W X F D g L) (hB : Below W.heap.size W W1) (hm : Blk W1 bm [.pointer (some ⟨g, 0, none⟩)] 58) (hf : Blk W1 bf [fv] 32) (ht : Blk W1 bt [tv] 32) (lm : W.heap.size ≤ bm) (lf : W.heap.size ≤ bf) (lt : W.heap.size ≤ bt) {Df Dt : Nat → Prop} (of : OB W1 Df fv f) (ot : OB W1 Dt tv t) : Wk W1 X F D g L bm bf bt fv tv f t :=
  ⟨K.map.keep hB, K.ord, K.few, K.big, K.xF, fun b hb cs k => K.xU b hb cs (k.same (hB.block b (K.xl b hb)).symm), ⟨hm, fun x => by have := K.xl _ x; omega⟩, ⟨hf, fun x => by have := K.xl _ x; omega⟩, ⟨ht, fun x => by have := K.xl _ x; omega⟩, ⟨_, of⟩, ⟨_, ot⟩⟩
set_option maxHeartbeats 2000000 in
set_option maxRecDepth 100000 in
theorem walk_any {Tp : TypeId → Prop} {W : World} {X F D : Nat → Prop} {g : Nat} {L : List Pg} {fv tv : Value} {f t : List Int} (K : Wm W X F D g L) (hf : By W fv f) (ht : By W tv t) (hfl : f.length ≤ 1000000000) (htl : t.length ≤ 1000000000) (hT : ¬ Tp 46) (hTe : ¬ Tp 90) :
    Calls Try.prog 43 #[.pointer (some ⟨g, 0, none⟩), fv, tv] W fun e W' => ∃ bw, e = .returned (.func (.func 73) #[] #[.pointer (some ⟨bw, 0, none⟩)]) ∧ Below W.heap.size W W' ∧ Itr Tp 73 #[.pointer (some ⟨bw, 0, none⟩)] (wlk (ens L) f t).length (ArC (wlk (ens L) f t)) (fun V => Chg X W' V) := by
  have t1 := clone_any hf hfl
  go_enter Try.func43, Try.ntmps43
  go_wp2_with (go_at_call 62; refine t1.mono ?_; rintro e w1 ⟨v1, rfl, O1, B1⟩; obtain ⟨a1, d1, rfl⟩ := O1.shape)
  have t2 := clone_any (ht.keep B1) htl
  go_wp2_with (first
    | (go_at_call 62; refine t2.mono ?_; rintro e w2 ⟨v2, rfl, O2, B2⟩; obtain ⟨a2, d2, rfl⟩ := O2.shape)
    | (go_at_call 61; refine rising_mk.mono ?_; rintro e w3 ⟨rfl, m3, f3, t3, B3⟩)
    | (go_at_call 60; refine copies_mk.mono ?_; rintro e w4 ⟨rfl, c4, B4⟩))
  go_ret
  have B12 := joinB B1 B2
  have B13 := joinB B12 B3
  have B14 := joinB B13 B4
  have s2 := B12.size
  have s3 := B13.size
  have B34 := joinB B3 B4
  have WK := K.wk B14 (m3.keep B4) (f3.keep B4) (t3.keep B4) (by omega) (by omega) (by omega) ((O1.keep B2).keep B34) (O2.keep B34)
  exact ⟨_, rfl, B14, K.copies B14 (rising_itr WK) (enters_of Try.func74 (by kernel_rfl) rfl) hT hTe c4 (by omega) (fun e he => wlk_mem he)⟩
end Pg
end Go.Proofs.Ytplminnejheceaa
