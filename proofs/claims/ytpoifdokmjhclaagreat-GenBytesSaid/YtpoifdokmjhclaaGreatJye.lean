/- Several texts, joined: GnA, MgB. -/
import Derived.Test.YtpoifdokmjhclaaGreatJyd
namespace Go.Proofs.YtpoifdokmjhclaaGreat
namespace Gn
open Go.RowKit Go.Lib Pg Lim Gl Mg
def w8 : List Int → List Int
  | [] => []
  | x :: l => be 8 x ++ w8 l
theorem w8_app (a b : List Int) : w8 (a ++ b) = w8 a ++ w8 b := by
  induction a with
  | nil => rfl
  | cons x l ih => simp only [List.cons_append, w8, ih, List.append_assoc]
theorem w8_len (l : List Int) : (w8 l).length = 8 * l.length := by
  induction l with
  | nil => rfl
  | cons x l ih => simp only [w8, List.length_append, be_length, ih, List.length_cons]; omega
theorem w8_oct (l : List Int) : Octets (w8 l) := by
  induction l with
  | nil => exact fun y hy => absurd hy List.not_mem_nil
  | cons x l ih => exact oct_app (be_oct _ _) ih
def rN : Nat → St → List Int × St
  | 0, s => ([], s)
  | k + 1, s => ((rU 8 s).1 :: (rN k (rU 8 s).2).1, (rN k (rU 8 s).2).2)
theorem rN_len : ∀ k s, (rN k s).1.length = k
  | 0, _ => rfl
  | k + 1, s => by simp only [rN, List.length_cons, rN_len k]
theorem rN_add : ∀ a b s, rN (a + b) s = ((rN a s).1 ++ (rN b (rN a s).2).1, (rN b (rN a s).2).2)
  | 0, b, s => by simp [rN]
  | a + 1, b, s => by
    rw [show a + 1 + b = (a + b) + 1 by omega]
    simp only [rN, rN_add a b, List.cons_append]
theorem rN_fwd : ∀ (l : List Int) (r : List Int), (∀ x ∈ l, In8 x) → rN l.length (0, w8 l ++ r) = (l, 0, r)
  | [], r, _ => rfl
  | x :: l, r, h => by
    simp only [List.length_cons, rN, w8, List.append_assoc]
    rw [r8 (h x List.mem_cons_self)]
    simp only
    rw [rN_fwd l r fun y hy => h y (List.mem_cons_of_mem _ hy)]
theorem rN_inv : ∀ k (s : St), Octets s.2 → (Octets (rN k s).2.2 ∧ ∀ x ∈ (rN k s).1, In8 x) ∧ ((rN k s).2.1 = 0 → s.1 = 0 ∧ s.2 = w8 (rN k s).1 ++ (rN k s).2.2)
  | 0, s, h => ⟨⟨h, fun _ hx => absurd hx List.not_mem_nil⟩, fun e => ⟨e, rfl⟩⟩
  | k + 1, s, h => by
    obtain ⟨⟨h1, h2, h3⟩, h4⟩ := rU_inv (m := 8) (s := s) (x := (rU 8 s).1) (s' := (rU 8 s).2) rfl h
    obtain ⟨⟨g1, g2⟩, g3⟩ := rN_inv k (rU 8 s).2 h1
    simp only [rN, w8]
    refine ⟨⟨g1, fun x hx => ?_⟩, fun e => ?_⟩
    · rcases List.mem_cons.1 hx with e | e
      · subst e; exact ⟨h2, by rw [← p8]; exact h3⟩
      · exact g2 x e
    · obtain ⟨e1, e2⟩ := g3 e
      obtain ⟨e3, e4⟩ := h4 e1
      exact ⟨e3, by rw [List.append_assoc, ← e2]; exact e4⟩
/-- the numbers of a genesis: ten params, two an account, three a founder -/
structure Ge where
  p : List Int
  a : List Int
  v : List Int
structure Ge.Ok (g : Ge) (na nv : Nat) : Prop where
  p : g.p.length = 10
  a : g.a.length = na * 2
  v : g.v.length = nv * 3
  rp : ∀ x ∈ g.p, In8 x
  ra : ∀ x ∈ g.a, In8 x
  rv : ∀ x ∈ g.v, In8 x
def mk0 : Int := 1196183089
def bG (g : Ge) (na nv : Nat) : List Int := be 4 mk0 ++ (w8 g.p ++ (be 4 na ++ (w8 g.a ++ (be 4 nv ++ w8 g.v))))
theorem bG_len {g : Ge} {na nv : Nat} (h : g.Ok na nv) : (bG g na nv).length = 92 + 16 * na + 24 * nv := by
  simp only [bG, List.length_append, be_length, w8_len, h.p, h.a, h.v]
  omega
theorem bG_oct (g : Ge) (na nv : Nat) : Octets (bG g na nv) := oct_app (be_oct _ _) (oct_app (w8_oct _) (oct_app (be_oct _ _) (oct_app (w8_oct _) (oct_app (be_oct _ _) (w8_oct _)))))
/-- a list that is read: how many, at most; k numbers each -/
def rL (most k : Nat) (s : St) : (Int × List Int) × St := if (rU 4 s).1 ≤ most then (((rU 4 s).1, (rN ((rU 4 s).1.toNat * k) (rU 4 s).2).1), (rN ((rU 4 s).1.toNat * k) (rU 4 s).2).2) else (((rU 4 s).1, []), (rU 4 s).2)
theorem rL_fwd {most k n : Nat} {l r : List Int} (hn : n ≤ most) (hm : most ≤ 256) (hl : l.length = n * k) (h : ∀ x ∈ l, In8 x) : rL most k (0, be 4 n ++ (w8 l ++ r)) = (((n : Int), l), 0, r) := by
  have h4 : rU 4 (0, be 4 (n : Int) ++ (w8 l ++ r)) = ((n : Int), 0, w8 l ++ r) := rU_fwd 4 n _ (by omega) (by rw [show (256 : Int) ^ 4 = 4294967296 from rfl]; omega)
  unfold rL
  rw [h4]
  simp only
  rw [if_pos (by omega), Int.toNat_natCast, ← hl, rN_fwd l r h]
/-- what was wrong of it, once more -/
def bad (most k : Nat) (s : St) : Bool := !decide ((rL most k s).1.1 ≤ most)
def sH (l : List Int) : St := (rU 4 (0, l)).2
def sP (l : List Int) : St := (rN 10 (sH l)).2
def sA (l : List Int) : St := (rL 256 2 (sP l)).2
def sV (l : List Int) : St := (rL 64 3 (sA l)).2
def gD (l : List Int) : Ge := ⟨(rN 10 (sH l)).1, (rL 256 2 (sP l)).1.2, (rL 64 3 (sA l)).1.2⟩
def wrongG (l : List Int) : Bool := (!decide ((rU 4 (0, l)).1 = mk0) || bad 256 2 (sP l)) || bad 64 3 (sA l)
def eD (l : List Int) : Int := if 65536 < l.length then 211 else if endE (sV l).1 (sV l).2 = 0 ∧ wrongG l = false then 0 else 210
theorem d_back {g : Ge} {na nv : Nat} (h : g.Ok na nv) (ha : na ≤ 256) (hv : nv ≤ 64) (r : List Int) : (rU 4 (0, bG g na nv ++ r)).1 = mk0 ∧ gD (bG g na nv ++ r) = g ∧ sV (bG g na nv ++ r) = (0, r) ∧ wrongG (bG g na nv ++ r) = false ∧ (rL 256 2 (sP (bG g na nv ++ r))).1.1 = na ∧ (rL 64 3 (sA (bG g na nv ++ r))).1.1 = nv := by
  have e : bG g na nv ++ r = be 4 mk0 ++ (w8 g.p ++ (be 4 na ++ (w8 g.a ++ (be 4 nv ++ (w8 g.v ++ r))))) := by simp only [bG, List.append_assoc]
  have h4 : rU 4 (0, bG g na nv ++ r) = (mk0, 0, w8 g.p ++ (be 4 na ++ (w8 g.a ++ (be 4 nv ++ (w8 g.v ++ r))))) := by rw [e]; exact rU_fwd 4 mk0 _ (by decide) (by decide)
  have hp : rN 10 (sH (bG g na nv ++ r)) = (g.p, 0, be 4 na ++ (w8 g.a ++ (be 4 nv ++ (w8 g.v ++ r)))) := by
    unfold sH
    rw [h4, ← h.p]
    exact rN_fwd _ _ h.rp
  have hA : rL 256 2 (sP (bG g na nv ++ r)) = (((na : Int), g.a), 0, be 4 nv ++ (w8 g.v ++ r)) := by
    unfold sP
    rw [hp]
    exact rL_fwd ha (by decide) h.a h.ra
  have hV : rL 64 3 (sA (bG g na nv ++ r)) = (((nv : Int), g.v), 0, r) := by
    unfold sA
    rw [hA]
    exact rL_fwd hv (by decide) h.v h.rv
  refine ⟨by rw [h4], ?_, ?_, ?_, by rw [hA], by rw [hV]⟩
  · unfold gD
    rw [hp, hA, hV]
  · unfold sV
    rw [hV]
  · unfold wrongG bad
    rw [h4, hA, hV]
    simp
    omega
theorem rL_inv {most k : Nat} {s : St} (ho : Octets s.2) (h : (rL most k s).1.1 ≤ most) : (Octets (rL most k s).2.2 ∧ (∀ x ∈ (rL most k s).1.2, In8 x) ∧ ∃ n : Nat, (rL most k s).1.1 = n ∧ n ≤ most ∧ (rL most k s).1.2.length = n * k) ∧ ((rL most k s).2.1 = 0 → s.1 = 0 ∧ s.2 = be 4 (rL most k s).1.1 ++ (w8 (rL most k s).1.2 ++ (rL most k s).2.2)) := by
  obtain ⟨⟨h1, h2, h3⟩, h4⟩ := rU_inv (m := 4) (s := s) (x := (rU 4 s).1) (s' := (rU 4 s).2) rfl ho
  have hle : (rU 4 s).1 ≤ most := by
    unfold rL at h
    split at h
    · exact h
    · exact h
  have e : rL most k s = (((rU 4 s).1, (rN ((rU 4 s).1.toNat * k) (rU 4 s).2).1), (rN ((rU 4 s).1.toNat * k) (rU 4 s).2).2) := by unfold rL; rw [if_pos hle]
  obtain ⟨⟨g1, g2⟩, g3⟩ := rN_inv ((rU 4 s).1.toNat * k) (rU 4 s).2 h1
  rw [e]
  refine ⟨⟨g1, g2, (rU 4 s).1.toNat, by simp only; omega, by omega, rN_len _ _⟩, fun e0 => ?_⟩
  obtain ⟨e1, e2⟩ := g3 e0
  obtain ⟨e3, e4⟩ := h4 e1
  exact ⟨e3, by rw [e4, e2]⟩
theorem eD_zero {l : List Int} (h : eD l = 0) : (endE (sV l).1 (sV l).2 = 0 ∧ wrongG l = false) ∧ l.length ≤ 65536 := by
  unfold eD at h
  split at h
  · exact absurd h (by decide)
  · rename_i hl
    split at h
    · rename_i hh; exact ⟨hh, by omega⟩
    · exact absurd h (by decide)
theorem endE_zero {e : Int} {l : List Int} (h : endE e l = 0) : e = 0 ∧ l = [] := by
  unfold endE at h
  split at h
  · rename_i he
    split at h
    · rename_i hl; exact ⟨he, List.length_eq_zero_iff.1 hl⟩
    · exact absurd h (by decide)
  · rename_i he; exact absurd h he
theorem d_fwd {l : List Int} (ho : Octets l) (h : eD l = 0) : ∃ na nv : Nat, na ≤ 256 ∧ nv ≤ 64 ∧ (gD l).Ok na nv ∧ bG (gD l) na nv = l ∧ (rL 256 2 (sP l)).1.1 = na ∧ (rL 64 3 (sA l)).1.1 = nv := by
  obtain ⟨⟨hE, hW⟩, hl⟩ := eD_zero h
  obtain ⟨z1, z2⟩ := endE_zero hE
  unfold wrongG bad at hW
  simp only [Bool.or_eq_false_iff, Bool.not_eq_false', decide_eq_true_eq] at hW
  obtain ⟨⟨w1, w2⟩, w3⟩ := hW
  obtain ⟨⟨h1, h2, h3⟩, h4⟩ := rU_inv (m := 4) (s := (0, l)) (x := (rU 4 (0, l)).1) (s' := sH l) rfl ho
  obtain ⟨⟨i1, i2⟩, i3⟩ := rN_inv 10 (sH l) h1
  obtain ⟨⟨j1, j2, na, j3, j4, j5⟩, j6⟩ := rL_inv (most := 256) (k := 2) (s := sP l) i1 w2
  obtain ⟨⟨k1, k2, nv, k3, k4, k5⟩, k6⟩ := rL_inv (most := 64) (k := 3) (s := sA l) j1 w3
  obtain ⟨a1, a2⟩ := k6 z1
  obtain ⟨b1, b2⟩ := j6 a1
  obtain ⟨c1, c2⟩ := i3 b1
  obtain ⟨d1, d2⟩ := h4 c1
  refine ⟨na, nv, j4, k4, ⟨rN_len _ _, j5, k5, i2, j2, k2⟩, ?_, j3, k3⟩
  have e1 : (sV l).2 = [] := z2
  unfold sV at e1
  simp only at d2
  rw [w1] at d2
  rw [e1, List.append_nil, k3] at a2
  rw [show (rL 256 2 (sP l)).2.2 = (sA l).2 from rfl, a2, j3] at b2
  rw [show (rN 10 (sH l)).2.2 = (sP l).2 from rfl, b2] at c2
  rw [c2] at d2
  exact d2.symm
end Gn
end Go.Proofs.YtpoifdokmjhclaaGreat

namespace Go.Proofs.YtpoifdokmjhclaaGreat
namespace Mg
open Go.RowKit Go.Lib Pg Lim Gl
attribute [local go_sem] Oper.semAt_some
theorem But.blk {w w' : World} {b g : Nat} {cs : List Value} {t : TypeId} (h : But b w w') (X : Blk w g cs t) (hn : g ≠ b) : Blk w' g cs t := X.same (h.block g X.lt hn)
theorem chg_but {g : Nat} {w w' : World} (h : Chg (· = g) w w') : But g w w' := ⟨h.os, h.tape, h.output, h.size, fun b hb hne => h.same b hb hne⟩
theorem butC {g g' : Nat} {w w1 w2 : World} (h : But g w w1) (c : Chg (· = g') w1 w2) (hg : w.heap.size ≤ g') : But g w w2 := ⟨c.os.trans h.os, c.tape.trans h.tape, c.output.trans h.output, Nat.le_trans h.size c.size, fun k h1 h2 => (c.same k (Nat.lt_of_lt_of_le h1 h.size) (fun e => by have e' : k = g' := e; omega)).trans (h.block k h1 h2)⟩
def u8V : Value → Bool
  | .int .u8 _ => true
  | _ => false
theorem nou8 {cs : List Value} (hno : cs.any u8V = false) : ∀ v ∈ cs, ∀ x, v ≠ .int .u8 x := fun v hv x e => by
  have := List.any_eq_false.1 hno v hv
  rw [e] at this
  exact this rfl
theorem RdA.offB {w w' : World} {g g' b : Nat} {err : Int} {l : List Int} {cs : List Value} {t : TypeId} (h : RdA w g b err l) (X : Blk w g' cs t) (hno : cs.any u8V = false) (hne : g ≠ g') (hB : But g' w w') : RdA w' g b err l := by
  obtain ⟨ao, n, c, Y, A⟩ := h.ex
  exact ⟨ao, n, c, ⟨by rw [hB.block g Y.lt hne]; exact Y.blk⟩, A.but ⟨X.blk⟩ (nou8 hno) hB⟩
theorem RfA.offB {w w' : World} {g g' b : Nat} {err : Int} {l : List Int} {cs : List Value} {t : TypeId} (h : RfA w g b err l) (X : Blk w g' cs t) (hno : cs.any u8V = false) (hne : g ≠ g') (hB : But g' w w') : RfA w' g b err l := by
  obtain ⟨ao, n, c, Y, A⟩ := h.ex
  exact ⟨ao, n, c, ⟨by rw [hB.block g Y.lt hne]; exact Y.blk⟩, A.but ⟨X.blk⟩ (nou8 hno) hB⟩
theorem WrA.offB {w w' : World} {g g' : Nat} {err : Int} {l : List Int} {cs : List Value} {t : TypeId} (h : WrA w g err l) (X : Blk w g' cs t) (ht : t ≠ 124) (hne : g ≠ g') (hB : But g' w w') : WrA w' g err l := by
  obtain ⟨p, ps, lat, u, Y, P, hu, e⟩ := h.ex
  exact ⟨p, ps, lat, u, ⟨Y.len, by rw [hB.block g Y.lt hne]; exact Y.blk⟩, P.off2 ht ⟨X.blk⟩ hB.block, hu, e⟩
theorem xU64 {w : World} {g b : Nat} {s : St} (R : RdA w g b s.1 s.2) : Calls Tryz.prog 48 #[pg g] w fun e w' => ∃ v s', rU 8 s = (v, s') ∧ e = .returned (.int .u64 v) ∧ RdA w' g b s'.1 s'.2 ∧ But g w w' := by
  refine (rdU64 R).mono ?_
  rintro e w' ⟨rfl, R', U⟩
  exact ⟨_, _, rfl, rfl, R', U⟩
theorem yU8 {w : World} {g b : Nat} {s : St} (R : RfA w g b s.1 s.2) : Calls Tryz.prog 25 #[pg g, .int .i64 8] w fun e w' => ∃ v s', rU 8 s = (v, s') ∧ e = .returned (.int .u64 v) ∧ RfA w' g b s'.1 s'.2 ∧ But g w w' := by
  refine (rfU (m := 8) R (by decide)).mono ?_
  rintro e w' ⟨rfl, R', U⟩
  exact ⟨_, _, rfl, rfl, R', U⟩
theorem len1 (L : List Int) (x : Int) : (L ++ be 1 x).length = L.length + 1 := by rw [List.length_append, be_length]
end Mg
end Go.Proofs.YtpoifdokmjhclaaGreat
