/- gleanlaw7.made. -/
import Derived.Test.YtfljmcfipnmkgaaKyRd
namespace Go.Proofs.Ytfljmcfipnmkgaa
namespace Ky
open Go.RowKit Go.Lib Pg
attribute [local go_sem] Oper.semAt_some eq50
/-- what a call of keys tells: bytes of its own and a number -/
def Tells (w : World) (L : List Int) (E : Int) (e : Ending) (w' : World) : Prop := ∃ ao n c, e = .returned (.tuple #[.slice ao n c, .int .i64 E]) ∧ OB w' (fun b => w.heap.size ≤ b ∧ b < w'.heap.size) (.slice ao n c) L ∧ Below w.heap.size w w'
def Says (w : World) (L : List Int) (E : Int) (e : Ending) (w' : World) : Prop := ∃ ao n c, e = .returned (.tuple #[.slice ao n c, .int .i64 E]) ∧ By w' (.slice ao n c) L ∧ Below w.heap.size w w'
theorem tells {w : World} {L : List Int} {E : Int} {e : Ending} {w' : World} (h : ∃ v, e = .returned (.tuple #[v, .int .i64 E]) ∧ OB w' (w.heap.size ≤ ·) v L ∧ Below w.heap.size w w') : Tells w L E e w' := by
  obtain ⟨v, rfl, O, b⟩ := h
  obtain ⟨ao, c, rfl⟩ := OB.sh O
  exact ⟨ao, _, c, rfl, O.mono (fun b h1 h2 => ⟨h2, h1⟩), b⟩
theorem says {w : World} {L : List Int} {E : Int} {e : Ending} {w' : World} (h : ∃ v, e = .returned (.tuple #[v, .int .i64 E]) ∧ By w' v L ∧ Below w.heap.size w w') : Says w L E e w' := by
  obtain ⟨v, rfl, O, b⟩ := h
  obtain ⟨ao, c, rfl, _⟩ := id O.ex
  exact ⟨ao, _, c, rfl, O, b⟩
theorem spd_below {D : Nat → Prop} {B : Nat} {w w' : World} (h : Spd D w w') (hD : ∀ b, D b → B ≤ b) (hB : B ≤ w.heap.size) : Below B w w' := h.chg.below (fun b hb => hD b hb.1) hB
set_option maxHeartbeats 8000000 in
set_option maxRecDepth 100000 in
theorem made_any {w : World} {kind a b : Int} (ha : U64 a) : Calls Try.prog 8 #[.int .i64 kind, .int .u64 a, .int .u64 b] w fun e w' => e = .returned (.bool true) ∧ Below w.heap.size w w' := by
  have u1 := fun w => (make_any (w := w) (k := kind) (b := b) ha.1 ha.2).mono (fun e w' h => tells h)
  have u2 := fun w => (rmake_any (w := w) (k := kind) (b := b) ha.1 ha.2).mono (fun e w' h => tells h)
  have u3 := fun w => (of_any (w := w) (k := kind)).mono (fun e w' h => tells h)
  have u4 := fun w => (rof_any (w := w) (k := kind)).mono (fun e w' h => tells h)
  have u5 := fun w => (under_any (w := w) (k := kind) ha.1 ha.2).mono (fun e w' h => tells h)
  have u6 := fun w => (runder_any (w := w) (k := kind) ha.1 ha.2).mono (fun e w' h => says h)
  have L1 : Hid ((if mkE kind a b then [] else mk kind a b).length ≤ 1000) := by
    have h := mk_len kind a b
    show _ ≤ _
    split
    · simp
    · omega
  have L2 : Hid ((if (frm kind).1 = 0 then [] else [(frm kind).2.1]).length ≤ 1000) := by
    show _ ≤ _
    split <;> simp
  have L3 : Hid ((if 16 < (frm kind).1 then mkb (frm kind) (tn kind a) else []).length ≤ 1000) := by
    have h := mkb_len (frm kind) (tn kind a)
    show _ ≤ _
    split
    · omega
    · simp
  generalize (if mkE kind a b then [] else mk kind a b) = l1 at *
  generalize (if mkE kind a b then (70 : Int) else 0) = e1 at *
  generalize (if (frm kind).1 = 0 then [] else [(frm kind).2.1]) = l2 at *
  generalize (if (frm kind).1 = 0 then (70 : Int) else 0) = e2 at *
  generalize (if 16 < (frm kind).1 then mkb (frm kind) (tn kind a) else []) = l3 at *
  generalize (if 16 < (frm kind).1 then (0 : Int) else 70) = e3 at *
  clear ha
  have G1 : True := trivial
  have G2 : True := trivial
  have S1 : True := trivial
  have S2 : True := trivial
  go_enter Try.func8, Try.ntmps8
  go_wp2_with first
    | (go_at_call 18; go_must (refine (u1 _).mono ?_); rintro e w1 ⟨x1, n1, c1, rfl, O1, B1⟩; have T1 := hid2 B1.size)
    | (go_at_call 23; go_must (refine (u2 _).mono ?_); rintro e w2 ⟨x2, n2, c2, rfl, O2, B2⟩; replace O1 := O1.keep B2; have T2 := hid2 B2.size; replace B1 := joinB B1 B2)
    | (go_at_call 22; go_must (refine (u3 _).mono ?_); rintro e w3 ⟨x3, n3, c3, rfl, O3, B3⟩; replace O1 := O1.keep B3; replace O2 := O2.keep B3; have T3 := hid2 B3.size; replace B1 := joinB B1 B3)
    | (go_at_call 24; go_must (refine (u4 _).mono ?_); rintro e w4 ⟨x4, n4, c4, rfl, O4, B4⟩; replace O1 := O1.keep B4; replace O2 := O2.keep B4; replace O3 := O3.keep B4; have T4 := hid2 B4.size; replace B1 := joinB B1 B4)
    | (go_at_call 21; go_must (refine (u5 _).mono ?_); rintro e w5 ⟨x5, n5, c5, rfl, O5, B5⟩; replace O1 := O1.keep B5; replace O2 := O2.keep B5; replace O3 := O3.keep B5; replace O4 := O4.keep B5; have T5 := hid2 B5.size; replace B1 := joinB B1 B5)
    | (go_at_call 25; go_must (refine (u6 _).mono ?_); rintro e w6 ⟨x6, n6, c6, rfl, O6, B6⟩; replace O1 := O1.keep B6; replace O2 := O2.keep B6; replace O3 := O3.keep B6; replace O4 := O4.keep B6; replace O5 := O5.keep B6; replace B1 := joinB B1 B6; clear B2 B3 B4 B5 B6)
    | (go_at_call 9; have gate := G1; clear gate; go_must (refine (bytes_is O1.by O2.by L1.out L1.out (decide_eq_true rfl)).mono ?_); clear G1; rintro e w7 ⟨rfl, B7⟩; replace O1 := O1.keep B7; replace O3 := O3.keep B7; replace O4 := O4.keep B7; replace O5 := O5.keep B7; replace O6 := O6.keep B7; replace B1 := joinB B1 B7; clear B7 O2)
    | (go_at_call 9; have gate := G2; clear gate; go_must (refine (bytes_is O3.by O4.by L2.out L2.out (decide_eq_true rfl)).mono ?_); clear G2; rintro e w8 ⟨rfl, B8⟩; replace O1 := O1.keep B8; replace O3 := O3.keep B8; replace O5 := O5.keep B8; replace O6 := O6.keep B8; replace B1 := joinB B1 B8; clear B8 O4)
    | (go_at_call 9; go_must (refine (bytes_is O5.by O6 L3.out L3.out (decide_eq_true rfl)).mono ?_); rintro e w9 ⟨rfl, B9⟩; replace O1 := O1.keep B9; replace O3 := O3.keep B9; replace O5 := O5.keep B9; replace B1 := joinB B1 B9; clear B9 O6)
    | (go_at_call 26; have gate := S1; clear gate; go_must (refine (spoil_any O1 (by have := L1.out; omega)).mono ?_); clear S1; rintro e y1 ⟨rfl, P1⟩; replace O3 := P1.ob O3 (fun b h1 h2 => by have := T2.out; omega); replace O5 := P1.ob O5 (fun b h1 h2 => by have := T2.out; have := T3.out; have := T4.out; omega); replace B1 := B1.trans (spd_below P1 (fun b h => h.1) B1.size); clear P1 O1)
    | (go_at_call 26; have gate := S2; clear gate; go_must (refine (spoil_any O3 (by have := L2.out; omega)).mono ?_); clear S2; rintro e y2 ⟨rfl, P2⟩; replace O5 := P2.ob O5 (fun b h1 h2 => by have := T4.out; omega); replace B1 := B1.trans (spd_below P2 (fun b h => by have := T1.out; have := T2.out; omega) B1.size); clear P2 O3)
    | (go_at_call 26; go_must (refine (spoil_any O5 (by have := L3.out; omega)).mono ?_); rintro e y3 ⟨rfl, P3⟩; replace B1 := B1.trans (spd_below P3 (fun b h => by have := T1.out; have := T2.out; have := T3.out; have := T4.out; omega) B1.size); clear P3 O5)
  go_ret
  exact ⟨by first | rfl | simp, B1⟩
end Ky
end Go.Proofs.Ytfljmcfipnmkgaa
