/- Several texts, joined: RcN, EncM, RcT, RcRd. -/
import Derived.Test.YtjmkhdlhjnlbiaaGreatJgk
namespace Go.Proofs.YtjmkhdlhjnlbiaaGreat
namespace Rc
open Go.RowKit Go.Lib Pg Lim
/-- where the ways of a stretch of code come together -/
structure CutP (a : Act) (slots : List Nat) (F : World → Prop) (a' : Act) (w' : World) : Prop where
  ex : ∃ x : Nat → Value, a' = putAll a (slots.map fun i => (some i, x i)) ∧ F w'
theorem wp_cut {c d : Code} {a : Act} {w : World} {Q : Exit → Act → World → Prop} (slots : List Nat) (F : World → Prop) (h1 : c.wp Tryz.prog (Exit.then (CutP a slots F) (fun _ _ _ => False)) a w) (h2 : ∀ (x : Nat → Value) w', F w' → d.wp Tryz.prog Q (putAll a (slots.map fun i => (some i, x i))) w') : (Code.seq c d).wp Tryz.prog Q a w :=
  wp_seq (Code.wp_mono (fun e a' w' h => by
    cases e <;> first
      | (obtain ⟨x, rfl, hF⟩ := h; exact h2 x w' hF)
      | exact h.elim) h1)
theorem cut_end {a a' : Act} {w : World} {F : World → Prop} {slots : List Nat} (h : a' = putAll a (slots.map fun i => (some i, a'.tmps.getD i undef))) (hF : F w) : CutP a slots F a' w := ⟨fun i => a'.tmps.getD i undef, h, hF⟩
theorem endE_zero {err : Int} {l : List Int} (h : endE err l = 0) : err = 0 ∧ l = [] := by
  unfold endE at h
  split at h
  · rename_i he
    split at h
    · rename_i hl
      exact ⟨he, List.eq_nil_of_length_eq_zero hl⟩
    · exact absurd h (by decide)
  · exact absurd h (by assumption)
/-- what is read whole is laid again as it was -/
theorem ones (ks : List (Nat × Nat)) (l : List Int) (ho : Octets l) (hnd : (ks.map Prod.snd).Nodup) (h : endE (thr rnx ks (0, l, fun _ => 0)).1 (thr rnx ks (0, l, fun _ => 0)).2.1 = 0) : thr (pnx (thr rnx ks (0, l, fun _ => 0)).2.2) ks [] = l := by
  obtain ⟨h1, h2⟩ := endE_zero h
  have := thr_one ks l (fun _ => 0) ho hnd h1 []
  rw [h2, List.append_nil, List.nil_append] at this
  exact this
theorem thr_congr {xs ys : Nat → Int} (ks : List (Nat × Nat)) (h : ∀ p ∈ ks, xs p.2 = ys p.2) : ∀ L, thr (pnx xs) ks L = thr (pnx ys) ks L := by
  induction ks with
  | nil => intro L; rfl
  | cons p ks ih =>
    intro L
    rw [thr_cons, thr_cons]
    have e : pnx xs p.1 p.2 L = pnx ys p.1 p.2 L := by unfold pnx; rw [h p List.mem_cons_self]
    rw [e]
    exact ih (fun q hq => h q (List.mem_cons_of_mem _ hq)) _
theorem fix8 (l : List Int) : (8 ≤ l.length → rdE (pFix 8 l) 0 = 0 ∧ rdL (pFix 8 l) 0 l = l.drop 8) ∧ (l.length < 8 → rdE (pFix 8 l) 0 ≠ 0) := by
  refine ⟨fun h => ?_, fun h => ?_⟩
  · unfold pFix
    rw [if_pos h]
    exact ⟨rfl, rfl⟩
  · unfold pFix
    rw [if_neg (by omega)]
    decide
/-- numbers alone: so many bytes -/
theorem len_u (k : Nat) : ∀ (ks : List (Nat × Nat)) (l : List Int) (xs : Nat → Int), ks.length = k → (∀ p ∈ ks, p.1 = 0) → (endE (thr rnx ks (0, l, xs)).1 (thr rnx ks (0, l, xs)).2.1 = 0 ↔ l.length = 8 * k) := by
  induction k with
  | zero =>
    intro ks l xs hk _
    obtain rfl : ks = [] := List.eq_nil_of_length_eq_zero hk
    show endE 0 l = 0 ↔ _
    unfold endE
    rw [if_pos rfl]
    constructor
    · intro h
      split at h
      · omega
      · exact absurd h (by decide)
    · intro h
      rw [if_pos (by omega)]
  | succ k ih =>
    intro ks l xs hk h0
    match ks, hk with
    | p :: ks, hk =>
      have hp : p.1 = 0 := h0 p List.mem_cons_self
      rw [thr_cons]
      by_cases hl : 8 ≤ l.length
      · obtain ⟨e1, e2⟩ := (fix8 l).1 hl
        have es : rnx p.1 p.2 (0, l, xs) = (0, l.drop 8, fun i => if i = p.2 then rdV 0 (pFix 8 l) 0 else xs i) := by
          rw [hp]
          show (rdE (pFix 8 l) 0, rdL (pFix 8 l) 0 l, _) = _
          rw [e1, e2]
          rfl
        rw [es, ih ks (l.drop 8) _ (by simpa using hk) (fun q hq => h0 q (List.mem_cons_of_mem _ hq)), List.length_drop]
        omega
      · have e1 : (rnx p.1 p.2 (0, l, xs)).1 ≠ 0 := by rw [hp]; exact (fix8 l).2 (by omega)
        have e2 := thr_bad ks _ e1
        constructor
        · intro h
          obtain ⟨h1, _⟩ := endE_zero h
          rw [e2] at h1
          exact absurd h1 e1
        · intro h
          omega
end Rc
end Go.Proofs.YtjmkhdlhjnlbiaaGreat

namespace Go.Proofs.YtjmkhdlhjnlbiaaGreat
open Go.RowKit Lim

theorem AtB.byt {B : Nat} {w w' : World} {ao : Option Addr} {b o : Nat} {l : List Int} (h : AtB w ao b o l) (hb : l = [] ∨ b < B) (k : Byt B w w') : AtB w' ao b o l :=
  ⟨h.loc, fun i hi => by
    have hc := h.cell i hi
    rcases hb with e | e
    · subst e; simp at hi
    · rw [World.cell?_of_block (w := w) (k.low b e (cell_lt hc))]
      exact hc⟩
theorem atB_src {w : World} {x : Addr} {b o : Nat} {l : List Int} (h : AtB w (some x) b o l) : ∀ j u, (l.map (Value.int .u8))[j]? = some u → w.cell? (x.add j) = some u := by
  intro j u hu
  rw [List.getElem?_map] at hu
  rcases Nat.lt_or_ge j l.length with hj | hj
  · rw [List.getElem?_eq_getElem hj] at hu
    simp at hu
    subst hu
    have hx : x = ⟨b, o, none⟩ := by
      rcases h.loc with e | e
      · subst e; simp at hj
      · simpa using e
    subst hx
    have := h.cell j hj
    rw [nth_eq hj] at this
    rw [addr_add]
    exact this
  · rw [List.getElem?_eq_none hj] at hu; simp at hu
theorem mineB_app {w : World} {B n : Nat} {v : Value} {L l : List Int} (h : w.ownsRow B 5 1 v n (L.map (Value.int .u8) ++ l.map (Value.int .u8))) (hn : n = L.length + l.length) : MineB w B v (L ++ l) := by
  unfold MineB
  rw [List.length_append, List.map_append, ← hn]
  exact h
end Go.Proofs.YtjmkhdlhjnlbiaaGreat

namespace Go.Proofs.YtjmkhdlhjnlbiaaGreat
namespace Rc
open Go.RowKit Go.Lib Pg Lim
attribute [local go_sem] Oper.semAt_some
theorem mineB_off {w : World} {B g i : Nat} {v : Value} {l : List Int} {cs : List Value} {t : TypeId} (h : MineB w B v l) (k : Blk w g cs t) (ht : t ≠ 5) (u : Value) : MineB (w.setCell ⟨g, i, none⟩ u) B v l := by
  obtain ⟨h1, h2⟩ := h
  refine ⟨h1, ?_⟩
  rcases h2 with h2 | ⟨g', cap, cur, h3, h4, h5, h6⟩
  · exact .inl h2
  · refine .inr ⟨g', cap, cur, h3, h4, ?_, h6⟩
    have hne : g' ≠ g := fun e => by
      subst e
      have := k.blk.symm.trans h5
      simp at this
      exact ht this.2
    rw [Below.heap_setCell w _ u g' hne]
    exact h5
theorem Blk.byt {B : Nat} {w w' : World} {g : Nat} {cs : List Value} {t : TypeId} (h : Blk w g cs t) (b : Byt B w w') (ht : t ≠ 5) : Blk w' g cs t := ⟨by rw [b.typ g _ t _ h.blk ht]; exact h.blk⟩
end Rc
end Go.Proofs.YtjmkhdlhjnlbiaaGreat

namespace Go.Proofs.YtjmkhdlhjnlbiaaGreat
namespace Rc
open Go.RowKit Go.Lib Pg Lim Gl
/-- what a record's reading gives -/
def outR (s : RSt) : Int := if endE s.1 s.2.1 = 0 then 0 else 80
def outX (s : RSt) : Nat → Int := if endE s.1 s.2.1 = 0 then s.2.2 else fun _ => 0
theorem outX_ok {s : RSt} (h : outR s = 0) : outX s = s.2.2 := by
  unfold outR at h
  unfold outX
  split at h
  · rename_i h'; rw [if_pos h']
  · cases h
theorem outX_no {s : RSt} (h : ¬ outR s = 0) : outX s = fun _ => 0 := by
  unfold outR at h
  unfold outX
  split at h
  · exact absurd rfl h
  · rename_i h'; rw [if_neg h']
theorem out_of {s : RSt} {xs : Nat → Int} {r : Int} (h1 : endE s.1 s.2.1 = 0 → r = 0 ∧ xs = s.2.2) (h2 : endE s.1 s.2.1 ≠ 0 → r = 80 ∧ xs = fun _ => 0) : xs = outX s ∧ r = outR s := by
  unfold outX outR
  by_cases h : endE s.1 s.2.1 = 0
  · rw [if_pos h, if_pos h]; exact ⟨(h1 h).2, (h1 h).1⟩
  · rw [if_neg h, if_neg h]; exact ⟨(h2 h).2, (h2 h).1⟩
theorem But.blk {w w' : World} {b g : Nat} {cs : List Value} {t : TypeId} (h : But b w w') (X : Blk w g cs t) (hn : g ≠ b) : Blk w' g cs t := X.same (h.block g X.lt hn)
theorem chg_but {g : Nat} {w w' : World} (h : Chg (· = g) w w') : But g w w' := ⟨h.os, h.tape, h.output, h.size, fun b hb hne => h.same b hb hne⟩
def u8V : Value → Bool
  | .int .u8 _ => true
  | _ => false
theorem NatW.keep {w w' : World} {B n c : Nat} {ao : Option Addr} {x : Int} (h : NatW w B ao n c x) (hb : Below w.heap.size w w') : NatW w' B ao n c x := h.off hb.size fun b _ hl => hb.block b hl
theorem NatW.but {w w' : World} {B n c g : Nat} {ao : Option Addr} {x : Int} (h : NatW w B ao n c x) (hb : But g w w') (hg : g < B) : NatW w' B ao n c x := h.off hb.size fun b hB hl => hb.block b hl (by omega)
/-- a number in blocks from B to T that stay as they were -/
structure NatX (w : World) (B T : Nat) (ao : Option Addr) (n c : Nat) (x : Int) : Prop where
  ex : ∃ w0 : World, w0.heap.size = T ∧ T ≤ w.heap.size ∧ NatW w0 B ao n c x ∧ ∀ b, B ≤ b → b < T → w.heap[b]? = w0.heap[b]?
theorem natX {w : World} {B n c : Nat} {ao : Option Addr} {x : Int} (h : NatW w B ao n c x) : NatX w B w.heap.size ao n c x := ⟨w, rfl, Nat.le_refl _, h, fun _ _ _ => rfl⟩
theorem NatX.nat {w : World} {B T n c : Nat} {ao : Option Addr} {x : Int} (h : NatX w B T ao n c x) : NatW w B ao n c x := by
  obtain ⟨w0, h1, h2, h3, h4⟩ := h.ex
  exact h3.off (by omega) fun b hb hl => h4 b hb (by omega)
theorem NatX.but {w w' : World} {B T n c g : Nat} {ao : Option Addr} {x : Int} (h : NatX w B T ao n c x) (U : But g w w') (hg : g < B ∨ T ≤ g) : NatX w' B T ao n c x := by
  obtain ⟨w0, h1, h2, h3, h4⟩ := h.ex
  exact ⟨w0, h1, Nat.le_trans h2 U.size, h3, fun b hb hl => (U.block b (by omega) (by omega)).trans (h4 b hb hl)⟩
theorem NatX.keep {w w' : World} {B T n c : Nat} {ao : Option Addr} {x : Int} (h : NatX w B T ao n c x) (U : Below w.heap.size w w') : NatX w' B T ao n c x := by
  obtain ⟨w0, h1, h2, h3, h4⟩ := h.ex
  exact ⟨w0, h1, Nat.le_trans h2 U.size, h3, fun b hb hl => (U.block b (by omega)).trans (h4 b hb hl)⟩
def stParams (l : List Int) : RSt := thr rnx [(0, 0), (0, 1), (0, 2), (0, 3), (0, 4), (0, 5), (0, 6), (0, 7), (0, 8), (0, 9)] (0, l, fun _ => 0)
theorem outParams {w w' : World} {s : RSt} {e : Ending} (h : FinR w kd_Params 10 mkA s e w') : e = .returned (.tuple #[.agg #[.int .u64 (outX s 0), .int .u64 (outX s 1), .int .u64 (outX s 2), .int .u64 (outX s 3), .int .u64 (outX s 4), .int .u64 (outX s 5), .int .u64 (outX s 6), .int .u64 (outX s 7), .int .u64 (outX s 8), .int .u64 (outX s 9)], .int .i64 (outR s)]) ∧ Below w.heap.size w w' := by
  obtain ⟨⟨cs, xs, r, rfl, h1, h2, h3, h4⟩, B⟩ := h
  obtain ⟨e1, e2⟩ := out_of h3 h4
  subst e1 e2
  have q0 := (h2 0).1 rfl
  have q1 := (h2 1).1 rfl
  have q2 := (h2 2).1 rfl
  have q3 := (h2 3).1 rfl
  have q4 := (h2 4).1 rfl
  have q5 := (h2 5).1 rfl
  have q6 := (h2 6).1 rfl
  have q7 := (h2 7).1 rfl
  have q8 := (h2 8).1 rfl
  have q9 := (h2 9).1 rfl
  have ecs : cs = [.int .u64 (outX s 0), .int .u64 (outX s 1), .int .u64 (outX s 2), .int .u64 (outX s 3), .int .u64 (outX s 4), .int .u64 (outX s 5), .int .u64 (outX s 6), .int .u64 (outX s 7), .int .u64 (outX s 8), .int .u64 (outX s 9)] := by
    refine List.ext_getElem? fun i => ?_
    rcases Nat.lt_or_ge i 10 with hi | hi
    · match i, hi with
      | 0, _ => exact q0
      | 1, _ => exact q1
      | 2, _ => exact q2
      | 3, _ => exact q3
      | 4, _ => exact q4
      | 5, _ => exact q5
      | 6, _ => exact q6
      | 7, _ => exact q7
      | 8, _ => exact q8
      | 9, _ => exact q9
      | n + 10, h => exact absurd h (by omega)
    · rw [List.getElem?_eq_none (by omega), List.getElem?_eq_none hi]
  subst ecs
  exact ⟨rfl, B⟩
theorem oParams {w : World} {bb n c : Nat} {ao : Option Addr} {l : List Int} (A : ByA w bb ao n c l) (hn : n ≤ 1000000000) : Calls Tryz.prog 132 #[.slice ao n c] w fun e w' => e = .returned (.tuple #[.agg #[.int .u64 (outX (stParams l) 0), .int .u64 (outX (stParams l) 1), .int .u64 (outX (stParams l) 2), .int .u64 (outX (stParams l) 3), .int .u64 (outX (stParams l) 4), .int .u64 (outX (stParams l) 5), .int .u64 (outX (stParams l) 6), .int .u64 (outX (stParams l) 7), .int .u64 (outX (stParams l) 8), .int .u64 (outX (stParams l) 9)], .int .i64 (outR (stParams l))]) ∧ Below w.heap.size w w' := by
  refine (Params_any A hn (by obtain ⟨o, h1, _⟩ := A.ex; exact h1)).mono ?_
  intro e w' h
  exact outParams h
def stChain (l : List Int) : RSt := thr rnx [(0, 0), (0, 1)] (0, l, fun _ => 0)
theorem outChain {w w' : World} {s : RSt} {e : Ending} (h : FinR w kd_Chain 2 mkA s e w') : e = .returned (.tuple #[.agg #[.int .u64 (outX s 0), .int .u64 (outX s 1)], .int .i64 (outR s)]) ∧ Below w.heap.size w w' := by
  obtain ⟨⟨cs, xs, r, rfl, h1, h2, h3, h4⟩, B⟩ := h
  obtain ⟨e1, e2⟩ := out_of h3 h4
  subst e1 e2
  have q0 := (h2 0).1 rfl
  have q1 := (h2 1).1 rfl
  have ecs : cs = [.int .u64 (outX s 0), .int .u64 (outX s 1)] := by
    refine List.ext_getElem? fun i => ?_
    rcases Nat.lt_or_ge i 2 with hi | hi
    · match i, hi with
      | 0, _ => exact q0
      | 1, _ => exact q1
      | n + 2, h => exact absurd h (by omega)
    · rw [List.getElem?_eq_none (by omega), List.getElem?_eq_none hi]
  subst ecs
  exact ⟨rfl, B⟩
def stPool (l : List Int) : RSt := thr rnx [(2, 0)] (0, l, fun _ => 0)
theorem outPool {w w' : World} {s : RSt} {e : Ending} (h : FinR w kd_Pool 1 mkA s e w') : ∃ a0 n0 c0, e = .returned (.tuple #[.agg #[.slice a0 n0 c0], .int .i64 (outR s)]) ∧ (NatW w' w.heap.size a0 n0 c0 (outX s 0) ∧ n0 ≤ 510) ∧ Below w.heap.size w w' := by
  obtain ⟨⟨cs, xs, r, rfl, h1, h2, h3, h4⟩, B⟩ := h
  obtain ⟨e1, e2⟩ := out_of h3 h4
  subst e1 e2
  obtain ⟨a0, n0, c0, q0, y0, z0⟩ := (h2 0).2.2 rfl
  have ecs : cs = [.slice a0 n0 c0] := by
    refine List.ext_getElem? fun i => ?_
    rcases Nat.lt_or_ge i 1 with hi | hi
    · match i, hi with
      | 0, _ => exact q0
      | n + 1, h => exact absurd h (by omega)
    · rw [List.getElem?_eq_none (by omega), List.getElem?_eq_none hi]
  subst ecs
  exact ⟨a0, n0, c0, rfl, ⟨y0, by omega⟩, B⟩
theorem oPool {w : World} {bb n c : Nat} {ao : Option Addr} {l : List Int} (A : ByA w bb ao n c l) (hn : n ≤ 1000000000) : Calls Tryz.prog 326 #[.slice ao n c] w fun e w' => ∃ a0 n0 c0, e = .returned (.tuple #[.agg #[.slice a0 n0 c0], .int .i64 (outR (stPool l))]) ∧ (NatW w' w.heap.size a0 n0 c0 (outX (stPool l) 0) ∧ n0 ≤ 510) ∧ Below w.heap.size w w' := by
  refine (Pool_any A hn (by obtain ⟨o, h1, _⟩ := A.ex; exact h1)).mono ?_
  intro e w' h
  exact outPool h
def stAccount (l : List Int) : RSt := thr rnx [(0, 0), (0, 1)] (0, l, fun _ => 0)
theorem outAccount {w w' : World} {s : RSt} {e : Ending} (h : FinR w kd_Account 2 mkA s e w') : e = .returned (.tuple #[.agg #[.int .u64 (outX s 0), .int .u64 (outX s 1)], .int .i64 (outR s)]) ∧ Below w.heap.size w w' := by
  obtain ⟨⟨cs, xs, r, rfl, h1, h2, h3, h4⟩, B⟩ := h
  obtain ⟨e1, e2⟩ := out_of h3 h4
  subst e1 e2
  have q0 := (h2 0).1 rfl
  have q1 := (h2 1).1 rfl
  have ecs : cs = [.int .u64 (outX s 0), .int .u64 (outX s 1)] := by
    refine List.ext_getElem? fun i => ?_
    rcases Nat.lt_or_ge i 2 with hi | hi
    · match i, hi with
      | 0, _ => exact q0
      | 1, _ => exact q1
      | n + 2, h => exact absurd h (by omega)
    · rw [List.getElem?_eq_none (by omega), List.getElem?_eq_none hi]
  subst ecs
  exact ⟨rfl, B⟩
theorem oAccount {w : World} {bb n c : Nat} {ao : Option Addr} {l : List Int} (A : ByA w bb ao n c l) (hn : n ≤ 1000000000) : Calls Tryz.prog 31 #[.slice ao n c] w fun e w' => e = .returned (.tuple #[.agg #[.int .u64 (outX (stAccount l) 0), .int .u64 (outX (stAccount l) 1)], .int .i64 (outR (stAccount l))]) ∧ Below w.heap.size w w' := by
  refine (Account_any A hn (by obtain ⟨o, h1, _⟩ := A.ex; exact h1)).mono ?_
  intro e w' h
  exact outAccount h
def stVal (l : List Int) : RSt := thr rnx [(0, 0), (0, 1), (2, 2), (1, 3), (0, 4), (1, 5), (0, 6), (2, 7), (2, 8), (2, 9)] (0, l, fun _ => 0)
theorem outVal {w w' : World} {s : RSt} {e : Ending} (h : FinR w kd_Val 10 mkA s e w') : ∃ a2 n2 c2 a7 n7 c7 a8 n8 c8 a9 n9 c9, e = .returned (.tuple #[.agg #[.int .u64 (outX s 0), .int .u64 (outX s 1), .slice a2 n2 c2, .bool (outX s 3 == 1), .int .u64 (outX s 4), .bool (outX s 5 == 1), .int .u64 (outX s 6), .slice a7 n7 c7, .slice a8 n8 c8, .slice a9 n9 c9], .int .i64 (outR s)]) ∧ (NatW w' w.heap.size a2 n2 c2 (outX s 2) ∧ n2 ≤ 510) ∧ (NatW w' w.heap.size a7 n7 c7 (outX s 7) ∧ n7 ≤ 510) ∧ (NatW w' w.heap.size a8 n8 c8 (outX s 8) ∧ n8 ≤ 510) ∧ (NatW w' w.heap.size a9 n9 c9 (outX s 9) ∧ n9 ≤ 510) ∧ Below w.heap.size w w' := by
  obtain ⟨⟨cs, xs, r, rfl, h1, h2, h3, h4⟩, B⟩ := h
  obtain ⟨e1, e2⟩ := out_of h3 h4
  subst e1 e2
  have q0 := (h2 0).1 rfl
  have q1 := (h2 1).1 rfl
  obtain ⟨a2, n2, c2, q2, y2, z2⟩ := (h2 2).2.2 rfl
  obtain ⟨t3, q3, y3⟩ := (h2 3).2.1 rfl
  have y3 : (outX s 3 == 1) = t3 := by rw [y3]; cases t3 <;> rfl
  rw [← y3] at q3
  have q4 := (h2 4).1 rfl
  obtain ⟨t5, q5, y5⟩ := (h2 5).2.1 rfl
  have y5 : (outX s 5 == 1) = t5 := by rw [y5]; cases t5 <;> rfl
  rw [← y5] at q5
  have q6 := (h2 6).1 rfl
  obtain ⟨a7, n7, c7, q7, y7, z7⟩ := (h2 7).2.2 rfl
  obtain ⟨a8, n8, c8, q8, y8, z8⟩ := (h2 8).2.2 rfl
  obtain ⟨a9, n9, c9, q9, y9, z9⟩ := (h2 9).2.2 rfl
  have ecs : cs = [.int .u64 (outX s 0), .int .u64 (outX s 1), .slice a2 n2 c2, .bool (outX s 3 == 1), .int .u64 (outX s 4), .bool (outX s 5 == 1), .int .u64 (outX s 6), .slice a7 n7 c7, .slice a8 n8 c8, .slice a9 n9 c9] := by
    refine List.ext_getElem? fun i => ?_
    rcases Nat.lt_or_ge i 10 with hi | hi
    · match i, hi with
      | 0, _ => exact q0
      | 1, _ => exact q1
      | 2, _ => exact q2
      | 3, _ => exact q3
      | 4, _ => exact q4
      | 5, _ => exact q5
      | 6, _ => exact q6
      | 7, _ => exact q7
      | 8, _ => exact q8
      | 9, _ => exact q9
      | n + 10, h => exact absurd h (by omega)
    · rw [List.getElem?_eq_none (by omega), List.getElem?_eq_none hi]
  subst ecs
  exact ⟨a2, n2, c2, a7, n7, c7, a8, n8, c8, a9, n9, c9, rfl, ⟨y2, by omega⟩, ⟨y7, by omega⟩, ⟨y8, by omega⟩, ⟨y9, by omega⟩, B⟩
theorem oVal {w : World} {bb n c : Nat} {ao : Option Addr} {l : List Int} (A : ByA w bb ao n c l) (hn : n ≤ 1000000000) : Calls Tryz.prog 33 #[.slice ao n c] w fun e w' => ∃ a2 n2 c2 a7 n7 c7 a8 n8 c8 a9 n9 c9, e = .returned (.tuple #[.agg #[.int .u64 (outX (stVal l) 0), .int .u64 (outX (stVal l) 1), .slice a2 n2 c2, .bool (outX (stVal l) 3 == 1), .int .u64 (outX (stVal l) 4), .bool (outX (stVal l) 5 == 1), .int .u64 (outX (stVal l) 6), .slice a7 n7 c7, .slice a8 n8 c8, .slice a9 n9 c9], .int .i64 (outR (stVal l))]) ∧ (NatW w' w.heap.size a2 n2 c2 (outX (stVal l) 2) ∧ n2 ≤ 510) ∧ (NatW w' w.heap.size a7 n7 c7 (outX (stVal l) 7) ∧ n7 ≤ 510) ∧ (NatW w' w.heap.size a8 n8 c8 (outX (stVal l) 8) ∧ n8 ≤ 510) ∧ (NatW w' w.heap.size a9 n9 c9 (outX (stVal l) 9) ∧ n9 ≤ 510) ∧ Below w.heap.size w w' := by
  refine (Val_any A hn (by obtain ⟨o, h1, _⟩ := A.ex; exact h1)).mono ?_
  intro e w' h
  exact outVal h
def stDelegation (l : List Int) : RSt := thr rnx [(2, 0), (0, 1), (2, 2)] (0, l, fun _ => 0)
theorem outDelegation {w w' : World} {s : RSt} {e : Ending} (h : FinR w kd_Delegation 3 mkA s e w') : ∃ a0 n0 c0 a2 n2 c2, e = .returned (.tuple #[.agg #[.slice a0 n0 c0, .int .u64 (outX s 1), .slice a2 n2 c2], .int .i64 (outR s)]) ∧ (NatW w' w.heap.size a0 n0 c0 (outX s 0) ∧ n0 ≤ 510) ∧ (NatW w' w.heap.size a2 n2 c2 (outX s 2) ∧ n2 ≤ 510) ∧ Below w.heap.size w w' := by
  obtain ⟨⟨cs, xs, r, rfl, h1, h2, h3, h4⟩, B⟩ := h
  obtain ⟨e1, e2⟩ := out_of h3 h4
  subst e1 e2
  obtain ⟨a0, n0, c0, q0, y0, z0⟩ := (h2 0).2.2 rfl
  have q1 := (h2 1).1 rfl
  obtain ⟨a2, n2, c2, q2, y2, z2⟩ := (h2 2).2.2 rfl
  have ecs : cs = [.slice a0 n0 c0, .int .u64 (outX s 1), .slice a2 n2 c2] := by
    refine List.ext_getElem? fun i => ?_
    rcases Nat.lt_or_ge i 3 with hi | hi
    · match i, hi with
      | 0, _ => exact q0
      | 1, _ => exact q1
      | 2, _ => exact q2
      | n + 3, h => exact absurd h (by omega)
    · rw [List.getElem?_eq_none (by omega), List.getElem?_eq_none hi]
  subst ecs
  exact ⟨a0, n0, c0, a2, n2, c2, rfl, ⟨y0, by omega⟩, ⟨y2, by omega⟩, B⟩
theorem oDelegation {w : World} {bb n c : Nat} {ao : Option Addr} {l : List Int} (A : ByA w bb ao n c l) (hn : n ≤ 1000000000) : Calls Tryz.prog 315 #[.slice ao n c] w fun e w' => ∃ a0 n0 c0 a2 n2 c2, e = .returned (.tuple #[.agg #[.slice a0 n0 c0, .int .u64 (outX (stDelegation l) 1), .slice a2 n2 c2], .int .i64 (outR (stDelegation l))]) ∧ (NatW w' w.heap.size a0 n0 c0 (outX (stDelegation l) 0) ∧ n0 ≤ 510) ∧ (NatW w' w.heap.size a2 n2 c2 (outX (stDelegation l) 2) ∧ n2 ≤ 510) ∧ Below w.heap.size w w' := by
  refine (Delegation_any A hn (by obtain ⟨o, h1, _⟩ := A.ex; exact h1)).mono ?_
  intro e w' h
  exact outDelegation h
def stHistory (l : List Int) : RSt := thr rnx [(2, 0), (0, 1)] (0, l, fun _ => 0)
theorem outHistory {w w' : World} {s : RSt} {e : Ending} (h : FinR w kd_History 2 mkA s e w') : ∃ a0 n0 c0, e = .returned (.tuple #[.agg #[.slice a0 n0 c0, .int .u64 (outX s 1)], .int .i64 (outR s)]) ∧ (NatW w' w.heap.size a0 n0 c0 (outX s 0) ∧ n0 ≤ 510) ∧ Below w.heap.size w w' := by
  obtain ⟨⟨cs, xs, r, rfl, h1, h2, h3, h4⟩, B⟩ := h
  obtain ⟨e1, e2⟩ := out_of h3 h4
  subst e1 e2
  obtain ⟨a0, n0, c0, q0, y0, z0⟩ := (h2 0).2.2 rfl
  have q1 := (h2 1).1 rfl
  have ecs : cs = [.slice a0 n0 c0, .int .u64 (outX s 1)] := by
    refine List.ext_getElem? fun i => ?_
    rcases Nat.lt_or_ge i 2 with hi | hi
    · match i, hi with
      | 0, _ => exact q0
      | 1, _ => exact q1
      | n + 2, h => exact absurd h (by omega)
    · rw [List.getElem?_eq_none (by omega), List.getElem?_eq_none hi]
  subst ecs
  exact ⟨a0, n0, c0, rfl, ⟨y0, by omega⟩, B⟩
theorem oHistory {w : World} {bb n c : Nat} {ao : Option Addr} {l : List Int} (A : ByA w bb ao n c l) (hn : n ≤ 1000000000) : Calls Tryz.prog 207 #[.slice ao n c] w fun e w' => ∃ a0 n0 c0, e = .returned (.tuple #[.agg #[.slice a0 n0 c0, .int .u64 (outX (stHistory l) 1)], .int .i64 (outR (stHistory l))]) ∧ (NatW w' w.heap.size a0 n0 c0 (outX (stHistory l) 0) ∧ n0 ≤ 510) ∧ Below w.heap.size w w' := by
  refine (History_any A hn (by obtain ⟨o, h1, _⟩ := A.ex; exact h1)).mono ?_
  intro e w' h
  exact outHistory h
def stCut (l : List Int) : RSt := thr rnx [(0, 0), (0, 1)] (0, l, fun _ => 0)
theorem outCut {w w' : World} {s : RSt} {e : Ending} (h : FinR w kd_Cut 2 mkA s e w') : e = .returned (.tuple #[.agg #[.int .u64 (outX s 0), .int .u64 (outX s 1)], .int .i64 (outR s)]) ∧ Below w.heap.size w w' := by
  obtain ⟨⟨cs, xs, r, rfl, h1, h2, h3, h4⟩, B⟩ := h
  obtain ⟨e1, e2⟩ := out_of h3 h4
  subst e1 e2
  have q0 := (h2 0).1 rfl
  have q1 := (h2 1).1 rfl
  have ecs : cs = [.int .u64 (outX s 0), .int .u64 (outX s 1)] := by
    refine List.ext_getElem? fun i => ?_
    rcases Nat.lt_or_ge i 2 with hi | hi
    · match i, hi with
      | 0, _ => exact q0
      | 1, _ => exact q1
      | n + 2, h => exact absurd h (by omega)
    · rw [List.getElem?_eq_none (by omega), List.getElem?_eq_none hi]
  subst ecs
  exact ⟨rfl, B⟩
theorem oCut {w : World} {bb n c : Nat} {ao : Option Addr} {l : List Int} (A : ByA w bb ao n c l) (hn : n ≤ 1000000000) : Calls Tryz.prog 347 #[.slice ao n c] w fun e w' => e = .returned (.tuple #[.agg #[.int .u64 (outX (stCut l) 0), .int .u64 (outX (stCut l) 1)], .int .i64 (outR (stCut l))]) ∧ Below w.heap.size w w' := by
  refine (Cut_any A hn (by obtain ⟨o, h1, _⟩ := A.ex; exact h1)).mono ?_
  intro e w' h
  exact outCut h
def stUnbonding (l : List Int) : RSt := thr rnx [(0, 0), (0, 1), (0, 2), (0, 3), (0, 4), (0, 5)] (0, l, fun _ => 0)
theorem outUnbonding {w w' : World} {s : RSt} {e : Ending} (h : FinR w kd_Unbonding 6 mkA s e w') : e = .returned (.tuple #[.agg #[.int .u64 (outX s 0), .int .u64 (outX s 1), .int .u64 (outX s 2), .int .u64 (outX s 3), .int .u64 (outX s 4), .int .u64 (outX s 5)], .int .i64 (outR s)]) ∧ Below w.heap.size w w' := by
  obtain ⟨⟨cs, xs, r, rfl, h1, h2, h3, h4⟩, B⟩ := h
  obtain ⟨e1, e2⟩ := out_of h3 h4
  subst e1 e2
  have q0 := (h2 0).1 rfl
  have q1 := (h2 1).1 rfl
  have q2 := (h2 2).1 rfl
  have q3 := (h2 3).1 rfl
  have q4 := (h2 4).1 rfl
  have q5 := (h2 5).1 rfl
  have ecs : cs = [.int .u64 (outX s 0), .int .u64 (outX s 1), .int .u64 (outX s 2), .int .u64 (outX s 3), .int .u64 (outX s 4), .int .u64 (outX s 5)] := by
    refine List.ext_getElem? fun i => ?_
    rcases Nat.lt_or_ge i 6 with hi | hi
    · match i, hi with
      | 0, _ => exact q0
      | 1, _ => exact q1
      | 2, _ => exact q2
      | 3, _ => exact q3
      | 4, _ => exact q4
      | 5, _ => exact q5
      | n + 6, h => exact absurd h (by omega)
    · rw [List.getElem?_eq_none (by omega), List.getElem?_eq_none hi]
  subst ecs
  exact ⟨rfl, B⟩
def stMove (l : List Int) : RSt := thr rnx [(0, 0), (0, 1), (0, 2), (0, 3), (0, 4), (0, 5), (2, 6)] (0, l, fun _ => 0)
theorem outMove {w w' : World} {s : RSt} {e : Ending} (h : FinR w kd_Move 7 mkA s e w') : ∃ a6 n6 c6, e = .returned (.tuple #[.agg #[.int .u64 (outX s 0), .int .u64 (outX s 1), .int .u64 (outX s 2), .int .u64 (outX s 3), .int .u64 (outX s 4), .int .u64 (outX s 5), .slice a6 n6 c6], .int .i64 (outR s)]) ∧ (NatW w' w.heap.size a6 n6 c6 (outX s 6) ∧ n6 ≤ 510) ∧ Below w.heap.size w w' := by
  obtain ⟨⟨cs, xs, r, rfl, h1, h2, h3, h4⟩, B⟩ := h
  obtain ⟨e1, e2⟩ := out_of h3 h4
  subst e1 e2
  have q0 := (h2 0).1 rfl
  have q1 := (h2 1).1 rfl
  have q2 := (h2 2).1 rfl
  have q3 := (h2 3).1 rfl
  have q4 := (h2 4).1 rfl
  have q5 := (h2 5).1 rfl
  obtain ⟨a6, n6, c6, q6, y6, z6⟩ := (h2 6).2.2 rfl
  have ecs : cs = [.int .u64 (outX s 0), .int .u64 (outX s 1), .int .u64 (outX s 2), .int .u64 (outX s 3), .int .u64 (outX s 4), .int .u64 (outX s 5), .slice a6 n6 c6] := by
    refine List.ext_getElem? fun i => ?_
    rcases Nat.lt_or_ge i 7 with hi | hi
    · match i, hi with
      | 0, _ => exact q0
      | 1, _ => exact q1
      | 2, _ => exact q2
      | 3, _ => exact q3
      | 4, _ => exact q4
      | 5, _ => exact q5
      | 6, _ => exact q6
      | n + 7, h => exact absurd h (by omega)
    · rw [List.getElem?_eq_none (by omega), List.getElem?_eq_none hi]
  subst ecs
  exact ⟨a6, n6, c6, rfl, ⟨y6, by omega⟩, B⟩
def stNumber (l : List Int) : RSt := thr rnx [(0, 0)] (0, l, fun _ => 0)
theorem outNumber {w w' : World} {s : RSt} {e : Ending} (h : FinR w kd_Number 1 mkO s e w') : e = .returned (.tuple #[.int .u64 (outX s 0), .int .i64 (outR s)]) ∧ Below w.heap.size w w' := by
  obtain ⟨⟨cs, xs, r, rfl, h1, h2, h3, h4⟩, B⟩ := h
  obtain ⟨e1, e2⟩ := out_of h3 h4
  subst e1 e2
  have q0 := (h2 0).1 rfl
  have ecs : cs = [.int .u64 (outX s 0)] := by
    refine List.ext_getElem? fun i => ?_
    rcases Nat.lt_or_ge i 1 with hi | hi
    · match i, hi with
      | 0, _ => exact q0
      | n + 1, h => exact absurd h (by omega)
    · rw [List.getElem?_eq_none (by omega), List.getElem?_eq_none hi]
  subst ecs
  exact ⟨rfl, B⟩
end Rc
end Go.Proofs.YtjmkhdlhjnlbiaaGreat
