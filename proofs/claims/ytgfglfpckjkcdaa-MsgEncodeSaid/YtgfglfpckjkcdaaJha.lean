/- Several texts, joined: MgA, MgP, MgB, MgT, MgC, MgD. -/
import Derived.Test.YtgfglfpckjkcdaaJca
import Derived.Test.YtgfglfpckjkcdaaJpa
import Derived.Test.YtgfglfpckjkcdaaJga
import Derived.LoopN
namespace Go.Proofs.Ytgfglfpckjkcdaa
namespace Mg
open Go.RowKit Go.Lib Pg Lim Gl
/-- which of A, B, N a kind uses; whether it is one -/
def uA (k : Int) : Bool := decide (1 ≤ k ∧ k ≤ 6) || decide (k = 10)
def uB (k : Int) : Bool := decide (k = 5)
def uN (k : Int) : Bool := decide (1 ≤ k ∧ k ≤ 5) || decide (9 ≤ k ∧ k ≤ 10)
def uK (k : Int) : Bool := decide (1 ≤ k ∧ k ≤ 10)
structure It where
  k : Int
  s : Int
  q : Int
  f : Int
  m : Int
  a : Int
  b : Int
  n : Int
  z : Int
  v : Int
  h : Int
def It.zero : It := ⟨0, 0, 0, 0, 0, 0, 0, 0, 0, 0, 0⟩
def It.val (i : It) : Value := .agg #[.int .i64 i.k, .int .u64 i.s, .int .u64 i.q, .int .u64 i.f, .int .i64 i.m, .int .u64 i.a, .int .u64 i.b, .int .u64 i.n, .int .i64 i.z, .int .u64 i.v, .int .u64 i.h]
def okM (m a b n : Int) : Bool := uK m && ((uA m || decide (a = 0)) && ((uB m || decide (b = 0)) && (uN m || decide (n = 0))))
abbrev noF (i : It) : Prop := i.z = 0 ∧ i.v = 0 ∧ i.h = 0
abbrev noT (i : It) : Prop := i.s = 0 ∧ i.q = 0 ∧ i.f = 0 ∧ i.m = 0 ∧ i.a = 0 ∧ i.b = 0 ∧ i.n = 0
abbrev Ok (i : It) : Prop := (i.k = 1 ∧ noF i ∧ okM i.m i.a i.b i.n = true) ∨ (i.k = 2 ∧ noT i ∧ 0 ≤ i.z ∧ i.z ≤ 255)
def opt (c : Bool) (x : Int) : List Int := if c = true then be 8 x else []
def bsM (m a b n : Int) : List Int := be 1 m ++ (opt (uA m) a ++ (opt (uB m) b ++ opt (uN m) n))
def bs (i : It) : List Int := if i.k = 1 then be 1 84 ++ (be 8 i.s ++ (be 8 i.q ++ (be 8 i.f ++ bsM i.m i.a i.b i.n))) else be 1 70 ++ (be 1 i.z ++ (be 8 i.v ++ be 8 i.h))
/-- a number in the words of its fields -/
def In8 (x : Int) : Prop := 0 ≤ x ∧ x < 18446744073709551616
structure It.Rng (i : It) : Prop where
  s : In8 i.s
  q : In8 i.q
  f : In8 i.f
  a : In8 i.a
  b : In8 i.b
  n : In8 i.n
  v : In8 i.v
  h : In8 i.h
abbrev St := Int × List Int
def rU (m : Nat) (s : St) : Int × St := (rdV 0 (pFix m s.2) s.1, rdE (pFix m s.2) s.1, rdL (pFix m s.2) s.1 s.2)
def rQ (c : Bool) (s : St) : Int × St := if c = true then rU 8 s else (0, s)
def rM (s : St) : (Int × Int × Int × Int) × St :=
  let p := rU 1 s
  let A := rQ (uA p.1) p.2
  let B := rQ (uB p.1) A.2
  let N := rQ (uN p.1) B.2
  ((p.1, A.1, B.1, N.1), N.2)
def rT (s : St) : It × St :=
  let a := rU 8 s
  let b := rU 8 a.2
  let c := rU 8 b.2
  let m := rM c.2
  (⟨1, a.1, b.1, c.1, m.1.1, m.1.2.1, m.1.2.2.1, m.1.2.2.2, 0, 0, 0⟩, m.2)
def rF (s : St) : It × St :=
  let a := rU 1 s
  let b := rU 8 a.2
  let c := rU 8 b.2
  (⟨2, 0, 0, 0, 0, 0, 0, 0, a.1, b.1, c.1⟩, c.2)
def rI (s : St) : It × St :=
  let p := rU 1 s
  if p.1 = 84 then rT p.2 else if p.1 = 70 then rF p.2 else (It.zero, p.2)
/-- what Decode answers -/
def dI (l : List Int) : It × Int :=
  if 1024 < l.length then (It.zero, 171)
  else if endE (rI (0, l)).2.1 (rI (0, l)).2.2 = 0 ∧ Ok (rI (0, l)).1 then ((rI (0, l)).1, 0) else (It.zero, 170)
theorem rU_fwd (m : Nat) (x : Int) (r : List Int) (h0 : 0 ≤ x) (h1 : x < 256 ^ m) : rU m (0, be m x ++ r) = (x, 0, r) := by
  have hl := be_length m x
  have hp : pFix m (be m x ++ r) = .inr (x, m) := by
    unfold pFix
    rw [if_pos (by rw [List.length_append]; omega), List.take_left' hl, be_val m h0, Int.emod_eq_of_lt h0 h1]
  simp only [rU, hp, rdV, rdE, rdL, if_pos]
  rw [List.drop_left' hl]
theorem rU_inv {m : Nat} {s : St} {x : Int} {s' : St} (e : rU m s = (x, s')) (ho : Octets s.2) : (Octets s'.2 ∧ 0 ≤ x ∧ x < 256 ^ m) ∧ (s'.1 = 0 → s.1 = 0 ∧ s.2 = be m x ++ s'.2) := by
  obtain ⟨err, l⟩ := s
  have hp : (0 : Int) < 256 ^ m := Int.pow_pos (by decide)
  simp only [rU, Prod.mk.injEq] at e
  obtain ⟨e1, e2⟩ := e
  subst e2
  simp only at e1 ⊢
  by_cases he : err = 0
  · subst he
    by_cases hm : m ≤ l.length
    · have hq : pFix m l = .inr (bval (l.take m), m) := by unfold pFix; rw [if_pos hm]
      simp only [hq, rdV, rdE, rdL, if_pos] at e1 ⊢
      subst e1
      have hot : Octets (l.take m) := fun y hy => ho y (List.mem_of_mem_take hy)
      refine ⟨⟨fun y hy => ho y (List.mem_of_mem_drop hy), ?_⟩, fun _ => ⟨trivial, ?_⟩⟩
      · have h := be_take ho hm
        have h2 := (bval_bound hot).1
        have h3 := be_val m h2
        rw [h] at h3
        have h4 := Int.emod_lt_of_pos (bval (l.take m)) hp
        rw [← h3] at h4
        exact ⟨h2, h4⟩
      · rw [be_take ho hm, List.take_append_drop]
    · have hq : pFix m l = .inl 40 := by unfold pFix; rw [if_neg hm]
      simp only [hq, rdV, rdE, rdL, if_pos] at e1 ⊢
      subst e1
      exact ⟨⟨ho, Int.le_refl _, hp⟩, fun h => absurd h (by decide)⟩
  · rw [rdV_bad he] at e1
    subst e1
    rw [rdE_bad he, rdL_bad he]
    exact ⟨⟨ho, Int.le_refl _, hp⟩, fun h => absurd h he⟩
end Mg
end Go.Proofs.Ytgfglfpckjkcdaa

namespace Go.Proofs.Ytgfglfpckjkcdaa
namespace Mg
open Go.RowKit Go.Lib Pg Lim Gl
theorem opt_len (c : Bool) (x : Int) : (opt c x).length ≤ 8 := by
  unfold opt
  split
  · rw [be_length]; exact Nat.le_refl _
  · exact Nat.zero_le _
theorem bs_len (i : It) : 18 ≤ (bs i).length ∧ (bs i).length ≤ 50 := by
  unfold bs
  split
  · have h1 := opt_len (uA i.m) i.a
    have h2 := opt_len (uB i.m) i.b
    have h3 := opt_len (uN i.m) i.n
    simp only [bsM, List.length_append, be_length]
    omega
  · simp only [List.length_append, be_length]
    omega
theorem opt_oct (c : Bool) (x : Int) : Octets (opt c x) := by
  unfold opt
  split
  · exact be_oct _ _
  · exact fun y hy => absurd hy List.not_mem_nil
theorem oct_app {a b : List Int} (ha : Octets a) (hb : Octets b) : Octets (a ++ b) := fun y hy => (List.mem_append.1 hy).elim (ha y) (hb y)
theorem bs_oct (i : It) : Octets (bs i) := by
  unfold bs bsM
  split
  · exact oct_app (be_oct _ _) (oct_app (be_oct _ _) (oct_app (be_oct _ _) (oct_app (be_oct _ _) (oct_app (be_oct _ _) (oct_app (opt_oct _ _) (oct_app (opt_oct _ _) (opt_oct _ _)))))))
  · exact oct_app (be_oct _ _) (oct_app (be_oct _ _) (oct_app (be_oct _ _) (be_oct _ _)))
theorem p8 : (256 : Int) ^ 8 = 18446744073709551616 := by decide
theorem p1 : (256 : Int) ^ 1 = 256 := by decide
theorem r8 {x : Int} {r : List Int} (h : In8 x) : rU 8 (0, be 8 x ++ r) = (x, 0, r) := rU_fwd 8 x r h.1 (by rw [p8]; exact h.2)
theorem r1 {x : Int} {r : List Int} (h0 : 0 ≤ x) (h1 : x ≤ 255) : rU 1 (0, be 1 x ++ r) = (x, 0, r) := rU_fwd 1 x r h0 (by rw [p1]; omega)
theorem rq {c : Bool} {x : Int} {r : List Int} (h : In8 x) (hc : c = true ∨ x = 0) : rQ c (0, opt c x ++ r) = (x, 0, r) := by
  unfold rQ opt
  cases c with
  | true => rw [if_pos rfl, if_pos rfl]; exact r8 h
  | false =>
    rcases hc with e | e
    · cases e
    · subst e; simp
theorem uK_rng {m : Int} (h : uK m = true) : 1 ≤ m ∧ m ≤ 10 := by simpa [uK] using h
theorem okM_is {m a b n : Int} (h : okM m a b n = true) : uK m = true ∧ (uA m = true ∨ a = 0) ∧ (uB m = true ∨ b = 0) ∧ (uN m = true ∨ n = 0) := by
  simpa [okM] using h
theorem rM_fwd {m a b n : Int} {r : List Int} (h : okM m a b n = true) (ha : In8 a) (hb : In8 b) (hn : In8 n) : rM (0, bsM m a b n ++ r) = ((m, a, b, n), 0, r) := by
  obtain ⟨h0, h1, h2, h3⟩ := okM_is h
  have hk := uK_rng h0
  simp only [rM, bsM, List.append_assoc]
  rw [r1 (by omega) (by omega)]
  simp only
  rw [rq ha h1]
  simp only
  rw [rq hb h2]
  simp only
  rw [rq hn h3]
theorem rI_fwd {i : It} {r : List Int} (h : Ok i) (g : i.Rng) : rI (0, bs i ++ r) = (i, 0, r) := by
  obtain ⟨k, s, q, f, m, a, b, n, z, v, y⟩ := i
  rcases h with ⟨h0, ⟨h1, h2, h3⟩, h4⟩ | ⟨h0, ⟨h1, h2, h3, h4, h5, h6, h7⟩, h8, h9⟩
  · simp only at h0 h1 h2 h3 h4
    subst h0 h1 h2 h3
    simp only [rI, bs, if_pos, List.append_assoc]
    rw [r1 (by decide) (by decide)]
    simp only [if_pos, rT]
    rw [r8 g.s]
    simp only
    rw [r8 g.q]
    simp only
    rw [r8 g.f]
    simp only
    rw [rM_fwd h4 g.a g.b g.n]
  · simp only at h0 h1 h2 h3 h4 h5 h6 h7 h8 h9
    subst h0 h1 h2 h3 h4 h5 h6 h7
    have eb : bs ⟨2, 0, 0, 0, 0, 0, 0, 0, z, v, y⟩ ++ r = be 1 70 ++ (be 1 z ++ (be 8 v ++ (be 8 y ++ r))) := by
      show (if (2 : Int) = 1 then _ else _) ++ r = _
      rw [if_neg (by decide)]
      simp only [List.append_assoc]
    rw [eb]
    unfold rI
    rw [r1 (by decide) (by decide)]
    simp only
    rw [if_neg (by decide), if_pos trivial]
    simp only [rF]
    rw [r1 h8 h9]
    simp only
    rw [r8 g.v]
    simp only
    rw [r8 g.h]
theorem i8 {s s' : St} {x : Int} (e : rU 8 s = (x, s')) (ho : Octets s.2) : (Octets s'.2 ∧ In8 x) ∧ (s'.1 = 0 → s.1 = 0 ∧ s.2 = be 8 x ++ s'.2) := by
  have h := rU_inv e ho
  rw [p8] at h
  exact h
theorem i1 {s s' : St} {x : Int} (e : rU 1 s = (x, s')) (ho : Octets s.2) : (Octets s'.2 ∧ 0 ≤ x ∧ x < 256) ∧ (s'.1 = 0 → s.1 = 0 ∧ s.2 = be 1 x ++ s'.2) := by
  have h := rU_inv e ho
  rw [p1] at h
  exact h
theorem iq {c : Bool} {s s' : St} {x : Int} (e : rQ c s = (x, s')) (ho : Octets s.2) : (Octets s'.2 ∧ In8 x) ∧ (s'.1 = 0 → s.1 = 0 ∧ s.2 = opt c x ++ s'.2) := by
  unfold rQ at e
  unfold opt
  cases c with
  | true => rw [if_pos rfl] at e; rw [if_pos rfl]; exact i8 e ho
  | false =>
    simp only [Bool.false_eq_true, if_false, Prod.mk.injEq] at e
    obtain ⟨e1, e2⟩ := e
    subst e1 e2
    exact ⟨⟨ho, by decide, by decide⟩, fun h => ⟨h, by simp⟩⟩
theorem iM {s s' : St} {m a b n : Int} (e : rM s = ((m, a, b, n), s')) (ho : Octets s.2) : (Octets s'.2 ∧ In8 a ∧ In8 b ∧ In8 n) ∧ (s'.1 = 0 → s.1 = 0 ∧ s.2 = bsM m a b n ++ s'.2) := by
  obtain ⟨x0, s0⟩ : ∃ x0, x0 = rU 1 s := ⟨_, rfl⟩
  obtain ⟨k, t0⟩ := x0
  obtain ⟨x1, s1⟩ : ∃ x1, x1 = rQ (uA k) t0 := ⟨_, rfl⟩
  obtain ⟨y1, t1⟩ := x1
  obtain ⟨x2, s2⟩ : ∃ x2, x2 = rQ (uB k) t1 := ⟨_, rfl⟩
  obtain ⟨y2, t2⟩ := x2
  obtain ⟨x3, s3⟩ : ∃ x3, x3 = rQ (uN k) t2 := ⟨_, rfl⟩
  obtain ⟨y3, t3⟩ := x3
  simp only [rM, ← s0, ← s1, ← s2, ← s3, Prod.mk.injEq] at e
  obtain ⟨⟨rfl, rfl, rfl, rfl⟩, rfl⟩ := e
  have h0 := i1 s0.symm ho
  have h1 := iq s1.symm h0.1.1
  have h2 := iq s2.symm h1.1.1
  have h3 := iq s3.symm h2.1.1
  refine ⟨⟨h3.1.1, h1.1.2, h2.1.2, h3.1.2⟩, fun z => ?_⟩
  obtain ⟨z3, e3⟩ := h3.2 z
  obtain ⟨z2, e2⟩ := h2.2 z3
  obtain ⟨z1, e1⟩ := h1.2 z2
  obtain ⟨z0, e0⟩ := h0.2 z1
  refine ⟨z0, ?_⟩
  rw [e0, e1, e2, e3]
  simp only [bsM, List.append_assoc]
theorem rng0 : In8 0 := ⟨by decide, by decide⟩
theorem iI {l : List Int} {i : It} {s' : St} (e : rI (0, l) = (i, s')) (ho : Octets l) (hk : Ok i) (hz : s'.1 = 0) : i.Rng ∧ l = bs i ++ s'.2 := by
  obtain ⟨x0, s0⟩ : ∃ x0, x0 = rU 1 (0, l) := ⟨_, rfl⟩
  obtain ⟨k, t0⟩ := x0
  have h0 := i1 s0.symm ho
  simp only [rI, ← s0] at e
  split at e
  · rename_i ek
    obtain ⟨x1, s1⟩ : ∃ x1, x1 = rU 8 t0 := ⟨_, rfl⟩
    obtain ⟨y1, t1⟩ := x1
    obtain ⟨x2, s2⟩ : ∃ x2, x2 = rU 8 t1 := ⟨_, rfl⟩
    obtain ⟨y2, t2⟩ := x2
    obtain ⟨x3, s3⟩ : ∃ x3, x3 = rU 8 t2 := ⟨_, rfl⟩
    obtain ⟨y3, t3⟩ := x3
    obtain ⟨x4, s4⟩ : ∃ x4, x4 = rM t3 := ⟨_, rfl⟩
    obtain ⟨⟨m, a, b, n⟩, t4⟩ := x4
    simp only [rT, ← s1, ← s2, ← s3, ← s4, Prod.mk.injEq] at e
    obtain ⟨rfl, rfl⟩ := e
    have h1 := i8 s1.symm h0.1.1
    have h2 := i8 s2.symm h1.1.1
    have h3 := i8 s3.symm h2.1.1
    have h4 := iM s4.symm h3.1.1
    obtain ⟨z4, e4⟩ := h4.2 hz
    obtain ⟨z3, e3⟩ := h3.2 z4
    obtain ⟨z2, e2⟩ := h2.2 z3
    obtain ⟨z1, e1⟩ := h1.2 z2
    obtain ⟨z0, e0⟩ := h0.2 z1
    refine ⟨⟨h1.1.2, h2.1.2, h3.1.2, h4.1.2.1, h4.1.2.2.1, h4.1.2.2.2, rng0, rng0⟩, ?_⟩
    simp only at e0
    rw [e0, e1, e2, e3, e4, ek]
    simp only [bs, if_pos, List.append_assoc]
  · split at e
    · rename_i ek
      obtain ⟨x1, s1⟩ : ∃ x1, x1 = rU 1 t0 := ⟨_, rfl⟩
      obtain ⟨y1, t1⟩ := x1
      obtain ⟨x2, s2⟩ : ∃ x2, x2 = rU 8 t1 := ⟨_, rfl⟩
      obtain ⟨y2, t2⟩ := x2
      obtain ⟨x3, s3⟩ : ∃ x3, x3 = rU 8 t2 := ⟨_, rfl⟩
      obtain ⟨y3, t3⟩ := x3
      simp only [rF, ← s1, ← s2, ← s3, Prod.mk.injEq] at e
      obtain ⟨rfl, rfl⟩ := e
      have h1 := i1 s1.symm h0.1.1
      have h2 := i8 s2.symm h1.1.1
      have h3 := i8 s3.symm h2.1.1
      obtain ⟨z3, e3⟩ := h3.2 hz
      obtain ⟨z2, e2⟩ := h2.2 z3
      obtain ⟨z1, e1⟩ := h1.2 z2
      obtain ⟨z0, e0⟩ := h0.2 z1
      refine ⟨⟨rng0, rng0, rng0, rng0, rng0, rng0, h2.1.2, h3.1.2⟩, ?_⟩
      simp only at e0
      rw [e0, e1, e2, e3, ek]
      show _ = (if (2 : Int) = 1 then _ else _) ++ _
      rw [if_neg (by decide)]
      simp only [List.append_assoc]
    · simp only [Prod.mk.injEq] at e
      obtain ⟨rfl, rfl⟩ := e
      exact absurd hk (by decide)
theorem endE_0 {s : St} (h : endE s.1 s.2 = 0) : s = (0, []) := by
  obtain ⟨e, l⟩ := s
  simp only [endE] at h
  split at h
  · rename_i he
    split at h
    · rename_i hl
      rw [he, List.length_eq_zero_iff.1 hl]
    · exact absurd h (by decide)
  · rename_i he; exact absurd h he
theorem dI_bad {l : List Int} (h : (dI l).2 ≠ 0) : (dI l).1 = It.zero := by
  unfold dI at h ⊢
  split
  · rfl
  · rename_i hl
    rw [if_neg hl] at h
    split
    · rename_i hq
      rw [if_pos hq] at h
      exact absurd rfl h
    · rfl
theorem dI_ok {l : List Int} (ho : Octets l) (h : (dI l).2 = 0) : Ok (dI l).1 ∧ (dI l).1.Rng ∧ bs (dI l).1 = l := by
  unfold dI at h ⊢
  split
  · rename_i hl; rw [if_pos hl] at h; exact absurd h (by decide)
  · rename_i hl
    rw [if_neg hl] at h
    split
    · rename_i hq
      obtain ⟨x, hx⟩ : ∃ x, rI (0, l) = x := ⟨_, rfl⟩
      obtain ⟨i, s'⟩ := x
      rw [hx] at hq ⊢
      have hs := endE_0 hq.1
      simp only at hs
      subst hs
      have := iI hx ho hq.2 rfl
      simp only [List.append_nil] at this
      exact ⟨hq.2, this.1, this.2.symm⟩
    · rename_i hq; rw [if_neg hq] at h; exact absurd h (by decide)
theorem dI_back {i : It} (h : Ok i) (g : i.Rng) : dI (bs i) = (i, 0) := by
  have hl := bs_len i
  have e := rI_fwd (r := []) h g
  rw [List.append_nil] at e
  unfold dI
  rw [if_neg (by omega), e, if_pos ⟨rfl, h⟩]
theorem dI_more {i : It} (h : Ok i) (g : i.Rng) : dI (bs i ++ [0]) = (It.zero, 170) := by
  have hl := bs_len i
  have e := rI_fwd (r := [0]) h g
  unfold dI
  rw [if_neg (by rw [List.length_append]; simp only [List.length_singleton]; omega), e, if_neg (fun q => absurd q.1 (by show ¬ endE 0 [0] = 0; decide))]
theorem dI_less {i : It} (h : Ok i) (g : i.Rng) : dI ((bs i).take ((bs i).length - 1)) = (It.zero, 170) := by
  have hl := bs_len i
  have ho : Octets ((bs i).take ((bs i).length - 1)) := fun y hy => bs_oct i y (List.mem_of_mem_take hy)
  by_cases hd : (dI ((bs i).take ((bs i).length - 1))).2 = 0
  · exfalso
    obtain ⟨h1, h2, h3⟩ := dI_ok ho hd
    obtain ⟨j, hj⟩ : ∃ j, (dI ((bs i).take ((bs i).length - 1))).1 = j := ⟨_, rfl⟩
    rw [hj] at h1 h2 h3
    have e1 := rI_fwd (r := (bs i).drop ((bs i).length - 1)) h1 h2
    rw [h3, List.take_append_drop] at e1
    have e2 := rI_fwd (r := []) h g
    rw [List.append_nil, e1] at e2
    simp only [Prod.mk.injEq, true_and] at e2
    have := congrArg List.length e2.2
    rw [List.length_drop] at this
    simp only [List.length_nil] at this
    omega
  · refine Prod.ext (dI_bad hd) ?_
    unfold dI at hd ⊢
    have hl' : ¬ 1024 < ((bs i).take ((bs i).length - 1)).length := by rw [List.length_take]; omega
    rw [if_neg hl'] at hd ⊢
    split
    · rename_i hq; rw [if_pos hq] at hd; exact absurd rfl hd
    · rfl
end Mg
end Go.Proofs.Ytgfglfpckjkcdaa

namespace Go.Proofs.Ytgfglfpckjkcdaa
namespace Mg
open Go.RowKit Go.Lib Pg Lim Gl
attribute [local go_sem] Oper.semAt_some
theorem gc_rds {P : Program} {n : Nat} {ds : List Deferred} {l : Fr} {w : World} {Q : Exit → Act → World → Prop} {c : Code} (k : Nat) (h : GC P n ds c (Exit.then (Code.rounds P c Q k) Q) l w) : GC P n ds (Code.loop c) Q l w := ⟨fun a r => wp_loop_rounds (k + 1) (h.out a r)⟩
theorem ge_rd {P : Program} {n : Nat} {ds : List Deferred} {l : Fr} {w : World} {Q Q' : Exit → Act → World → Prop} {c : Code} {k : Nat} (h : GC P n ds c (Exit.then (Code.rounds P c Q k) Q) l w) : GE n ds (Exit.then (Code.rounds P c Q (k + 1)) Q') .normal l w := ⟨fun a r => h.out a r⟩
theorem But.blk {w w' : World} {b g : Nat} {cs : List Value} {t : TypeId} (h : But b w w') (X : Blk w g cs t) (hn : g ≠ b) : Blk w' g cs t := X.same (h.block g X.lt hn)
theorem chg_but {g : Nat} {w w' : World} (h : Chg (· = g) w w') : But g w w' := ⟨h.os, h.tape, h.output, h.size, fun b hb hne => h.same b hb hne⟩
theorem butC {g g' : Nat} {w w1 w2 : World} (h : But g w w1) (c : Chg (· = g') w1 w2) (hg : w.heap.size ≤ g') : But g w w2 := ⟨c.os.trans h.os, c.tape.trans h.tape, c.output.trans h.output, Nat.le_trans h.size c.size, fun k h1 h2 => (c.same k (Nat.lt_of_lt_of_le h1 h.size) (fun e => by have e' : k = g' := e; omega)).trans (h.block k h1 h2)⟩
def u8V : Value → Bool
  | .int .u8 _ => true
  | _ => false
theorem nou8 {cs : List Value} (hno : cs.any u8V = false) : ∀ v ∈ cs, ∀ x, v ≠ .int .u8 x := fun v hv x e => by
  have := List.any_eq_false.1 hno v hv
  rw [e] at this
  exact this rfl
theorem RdA.offB {w w' : World} {g g' b : Nat} {err : Int} {l : List Int} {cs : List Value} {t : TypeId} (h : RdA w g b err l) (X : Blk w g' cs t) (hno : cs.any u8V = false) (hne : g ≠ g') (hB : But g' w w') : RdA w' g b err l := by
  obtain ⟨ao, n, c, Y, A⟩ := h.ex
  exact ⟨ao, n, c, ⟨by rw [hB.block g Y.lt hne]; exact Y.blk⟩, A.but ⟨X.blk⟩ (nou8 hno) hB⟩
theorem RfA.offB {w w' : World} {g g' b : Nat} {err : Int} {l : List Int} {cs : List Value} {t : TypeId} (h : RfA w g b err l) (X : Blk w g' cs t) (hno : cs.any u8V = false) (hne : g ≠ g') (hB : But g' w w') : RfA w' g b err l := by
  obtain ⟨ao, n, c, Y, A⟩ := h.ex
  exact ⟨ao, n, c, ⟨by rw [hB.block g Y.lt hne]; exact Y.blk⟩, A.but ⟨X.blk⟩ (nou8 hno) hB⟩
theorem ByA.offB {w w' : World} {g' b n c : Nat} {ao : Option Addr} {l : List Int} {cs : List Value} {t : TypeId} (h : ByA w b ao n c l) (X : Blk w g' cs t) (hno : cs.any u8V = false) (hB : But g' w w') : ByA w' b ao n c l := h.but ⟨X.blk⟩ (nou8 hno) hB
theorem WrA.offB {w w' : World} {g g' : Nat} {err : Int} {l : List Int} {cs : List Value} {t : TypeId} (h : WrA w g err l) (X : Blk w g' cs t) (ht : t ≠ 77) (hne : g ≠ g') (hB : But g' w w') : WrA w' g err l := by
  obtain ⟨p, ps, lat, u, Y, P, hu, e⟩ := h.ex
  exact ⟨p, ps, lat, u, ⟨Y.len, by rw [hB.block g Y.lt hne]; exact Y.blk⟩, P.off2 ht ⟨X.blk⟩ hB.block, hu, e⟩
def wz : List Value := wcells 0 none 0 (List.replicate 256 0) 0
theorem wrNewB {w : World} {g : Nat} (X : Blk w g wz 54) : WrA w g 0 [] := ⟨none, [], List.replicate 256 0, 0, ⟨by rw [List.length_replicate], X.blk⟩, .nil, by decide, by simp⟩
theorem xU8 {w : World} {g b : Nat} {s : St} (R : RdA w g b s.1 s.2) : Calls Try.prog 33 #[pg g] w fun e w' => ∃ v s', rU 1 s = (v, s') ∧ (0 ≤ v ∧ v < 256) ∧ e = .returned (.int .u8 v) ∧ RdA w' g b s'.1 s'.2 ∧ But g w w' := by
  refine (rdU8 R).mono ?_
  rintro e w' ⟨rfl, R', U⟩
  exact ⟨_, _, rfl, (i1 rfl R.oct).1.2, rfl, R', U⟩
theorem xU64 {w : World} {g b : Nat} {s : St} (R : RdA w g b s.1 s.2) : Calls Try.prog 42 #[pg g] w fun e w' => ∃ v s', rU 8 s = (v, s') ∧ e = .returned (.int .u64 v) ∧ RdA w' g b s'.1 s'.2 ∧ But g w w' := by
  refine (rdU64 R).mono ?_
  rintro e w' ⟨rfl, R', U⟩
  exact ⟨_, _, rfl, rfl, R', U⟩
theorem yU1 {w : World} {g b : Nat} {s : St} (R : RfA w g b s.1 s.2) : Calls Try.prog 24 #[pg g, .int .i64 1] w fun e w' => ∃ v s', rU 1 s = (v, s') ∧ (0 ≤ v ∧ v < 256) ∧ e = .returned (.int .u64 v) ∧ RfA w' g b s'.1 s'.2 ∧ But g w w' := by
  refine (rfU (m := 1) R (by decide)).mono ?_
  rintro e w' ⟨rfl, R', U⟩
  exact ⟨_, _, rfl, (i1 rfl R.oct).1.2, rfl, R', U⟩
theorem yU8 {w : World} {g b : Nat} {s : St} (R : RfA w g b s.1 s.2) : Calls Try.prog 24 #[pg g, .int .i64 8] w fun e w' => ∃ v s', rU 8 s = (v, s') ∧ e = .returned (.int .u64 v) ∧ RfA w' g b s'.1 s'.2 ∧ But g w w' := by
  refine (rfU (m := 8) R (by decide)).mono ?_
  rintro e w' ⟨rfl, R', U⟩
  exact ⟨_, _, rfl, rfl, R', U⟩
theorem zW8 {w : World} {g : Nat} {x : Int} {L : List Int} (X : WrA w g 0 L) (hx : 0 ≤ x ∧ x < 256) (hL : L.length ≤ 1000) : Calls Try.prog 27 #[pg g, .int .u8 x] w fun e w' => e = .returned (.tuple #[]) ∧ WrA w' g 0 (L ++ be 1 x) ∧ But g w w' := by
  have h := wrU8 X hx.1 hx.2 (by omega)
  simp only [wrote, if_pos] at h
  exact h
theorem zW64 {w : World} {g : Nat} {x : Int} {L : List Int} (X : WrA w g 0 L) (hL : L.length ≤ 1000) : Calls Try.prog 28 #[pg g, .int .u64 x] w fun e w' => e = .returned (.tuple #[]) ∧ WrA w' g 0 (L ++ be 8 x) ∧ But g w w' := by
  have h := wrU64 (x := x) X (by omega)
  simp only [wrote, if_pos] at h
  exact h
theorem len8 (L : List Int) (x : Int) : (L ++ be 8 x).length = L.length + 8 := by rw [List.length_append, be_length]
theorem len1 (L : List Int) (x : Int) : (L ++ be 1 x).length = L.length + 1 := by rw [List.length_append, be_length]
theorem cv_ui {ρ : Operand → Value} {w : World} {o : Oper} (k : Int) (hk : 0 ≤ k ∧ k < 256) (ho : ∃ u, o.op = .convert 5 3 u ∧ ρ u = .int .u8 k := by exact ⟨_, rfl, by kernel_rfl⟩) : (execOp ρ o).run Try.prog w = .ok (.value (.int .i64 k)) w := by
  obtain ⟨u, h, h1⟩ := ho
  simp only [execOp, h, h1]
  go_simp
  rw [IntKind.wrap_i64]
  omega
theorem cv_iu {ρ : Operand → Value} {w : World} {o : Oper} (k : Int) (hk : 0 ≤ k ∧ k < 256) (ho : ∃ u, o.op = .convert 3 5 u ∧ ρ u = .int .i64 k := by exact ⟨_, rfl, by kernel_rfl⟩) : (execOp ρ o).run Try.prog w = .ok (.value (.int .u8 k)) w := by
  obtain ⟨u, h, h1⟩ := ho
  simp only [execOp, h, h1]
  go_simp
  rw [show IntKind.u8.wrap k = k % 256 from rfl]
  omega
theorem cv_Ui {ρ : Operand → Value} {w : World} {o : Oper} (k : Int) (hk : 0 ≤ k ∧ k < 256) (ho : ∃ u, o.op = .convert 22 3 u ∧ ρ u = .int .u64 k := by exact ⟨_, rfl, by kernel_rfl⟩) : (execOp ρ o).run Try.prog w = .ok (.value (.int .i64 k)) w := by
  obtain ⟨u, h, h1⟩ := ho
  simp only [execOp, h, h1]
  go_simp
  rw [IntKind.wrap_i64]
  omega
end Mg
end Go.Proofs.Ytgfglfpckjkcdaa

namespace Go.Proofs.Ytgfglfpckjkcdaa
namespace Mg
open Go.RowKit Go.Lib Pg Lim Gl
attribute [local go_sem] Oper.semAt_some
set_option maxRecDepth 100000
theorem eqF {ρ : Operand → Value} {w : World} {o : Oper} (x0 x1 x2 y0 y1 y2 : Int) (ho : ∃ x y, o.op = .binOp .eql 28 x y 28 ∧ ρ x = .agg #[.int .i64 x0, .int .u64 x1, .int .u64 x2] ∧ ρ y = .agg #[.int .i64 y0, .int .u64 y1, .int .u64 y2] := by exact ⟨_, _, rfl, by kernel_rfl, by kernel_rfl⟩) : (execOp ρ o).run Try.prog w = .ok (.value (.bool (decide (x0 = y0 ∧ x1 = y1 ∧ x2 = y2)))) w := by
  obtain ⟨x, y, h, hx, hy⟩ := ho
  simp only [execOp, h, hx, hy]
  go_simp
  by_cases h0 : x0 = y0 <;> by_cases h1 : x1 = y1 <;> by_cases h2 : x2 = y2 <;> simp [h0, h1, h2]
theorem neF {ρ : Operand → Value} {w : World} {o : Oper} (x0 x1 x2 y0 y1 y2 : Int) (ho : ∃ x y, o.op = .binOp .neq 28 x y 28 ∧ ρ x = .agg #[.int .i64 x0, .int .u64 x1, .int .u64 x2] ∧ ρ y = .agg #[.int .i64 y0, .int .u64 y1, .int .u64 y2] := by exact ⟨_, _, rfl, by kernel_rfl, by kernel_rfl⟩) : (execOp ρ o).run Try.prog w = .ok (.value (.bool (decide (¬ (x0 = y0 ∧ x1 = y1 ∧ x2 = y2))))) w := by
  obtain ⟨x, y, h, hx, hy⟩ := ho
  simp only [execOp, h, hx, hy]
  go_simp
  by_cases h0 : x0 = y0 <;> by_cases h1 : x1 = y1 <;> by_cases h2 : x2 = y2 <;> simp [h0, h1, h2]
abbrev TX (s q f m a b n : Int) : Value := .agg #[.int .u64 s, .int .u64 q, .int .u64 f, .int .i64 m, .int .u64 a, .int .u64 b, .int .u64 n]
theorem eqT {ρ : Operand → Value} {w : World} {o : Oper} (s q f m a b n : Int) (ho : ∃ x y, o.op = .binOp .eql 26 x y 26 ∧ ρ x = TX s q f m a b n ∧ ρ y = TX 0 0 0 0 0 0 0 := by exact ⟨_, _, rfl, by kernel_rfl, by kernel_rfl⟩) : (execOp ρ o).run Try.prog w = .ok (.value (.bool (decide (s = 0 ∧ q = 0 ∧ f = 0 ∧ m = 0 ∧ a = 0 ∧ b = 0 ∧ n = 0)))) w := by
  obtain ⟨x, y, h, hx, hy⟩ := ho
  simp only [execOp, h, hx, hy]
  go_simp
  by_cases h0 : s = 0 <;> by_cases h1 : q = 0 <;> by_cases h2 : f = 0 <;> by_cases h3 : m = 0 <;> by_cases h4 : a = 0 <;> by_cases h5 : b = 0 <;> by_cases h6 : n = 0 <;> simp [h0, h1, h2, h3, h4, h5, h6]
theorem neT {ρ : Operand → Value} {w : World} {o : Oper} (s q f m a b n : Int) (ho : ∃ x y, o.op = .binOp .neq 26 x y 26 ∧ ρ x = TX s q f m a b n ∧ ρ y = TX 0 0 0 0 0 0 0 := by exact ⟨_, _, rfl, by kernel_rfl, by kernel_rfl⟩) : (execOp ρ o).run Try.prog w = .ok (.value (.bool (decide (¬ (s = 0 ∧ q = 0 ∧ f = 0 ∧ m = 0 ∧ a = 0 ∧ b = 0 ∧ n = 0))))) w := by
  obtain ⟨x, y, h, hx, hy⟩ := ho
  simp only [execOp, h, hx, hy]
  go_simp
  by_cases h0 : s = 0 <;> by_cases h1 : q = 0 <;> by_cases h2 : f = 0 <;> by_cases h3 : m = 0 <;> by_cases h4 : a = 0 <;> by_cases h5 : b = 0 <;> by_cases h6 : n = 0 <;> simp [h0, h1, h2, h3, h4, h5, h6]
/-- an item that is compared with itself -/
theorem eqI {ρ : Operand → Value} {w : World} {o : Oper} (k s q f m a b n z v h : Int) (ho : ∃ x y, o.op = .binOp .eql 30 x y 30 ∧ ρ x = (It.mk k s q f m a b n z v h).val ∧ ρ y = (It.mk k s q f m a b n z v h).val := by exact ⟨_, _, rfl, by kernel_rfl, by kernel_rfl⟩) : (execOp ρ o).run Try.prog w = .ok (.value (.bool true)) w := by
  obtain ⟨x, y, h, hx, hy⟩ := ho
  simp only [execOp, h, hx, hy, It.val]
  go_simp
theorem neI {ρ : Operand → Value} {w : World} {o : Oper} (k s q f m a b n z v h : Int) (ho : ∃ x y, o.op = .binOp .neq 30 x y 30 ∧ ρ x = (It.mk k s q f m a b n z v h).val ∧ ρ y = (It.mk k s q f m a b n z v h).val := by exact ⟨_, _, rfl, by kernel_rfl, by kernel_rfl⟩) : (execOp ρ o).run Try.prog w = .ok (.value (.bool false)) w := by
  obtain ⟨x, y, h, hx, hy⟩ := ho
  simp only [execOp, h, hx, hy, It.val]
  go_simp
theorem iaU {ρ : Operand → Value} {w : World} {o : Oper} (g k : Nat) (hk : k < 4) (ho : ∃ x y, o.op = .indexAddr 61 x y ∧ ρ x = pg g ∧ ρ y = .int .i64 (k : Int) := by exact ⟨_, _, rfl, by kernel_rfl, by kernel_rfl⟩) : (execOp ρ o).run Try.prog w = .ok (.value (pq g k)) w := by
  obtain ⟨x, y, h, hx, hy⟩ := ho
  simp only [execOp, h, hx, hy]
  go_simp
  intro h4
  omega
theorem iaV {ρ : Operand → Value} {w : World} {o : Oper} (g k : Nat) (hk : k < 3) (ho : ∃ x y, o.op = .indexAddr 91 x y ∧ ρ x = pg g ∧ ρ y = .int .i64 (k : Int) := by exact ⟨_, _, rfl, by kernel_rfl, by kernel_rfl⟩) : (execOp ρ o).run Try.prog w = .ok (.value (pq g k)) w := by
  obtain ⟨x, y, h, hx, hy⟩ := ho
  simp only [execOp, h, hx, hy]
  go_simp
  intro h4
  omega
theorem iaW {ρ : Operand → Value} {w : World} {o : Oper} (g k : Nat) (hk : k < 11) (ho : ∃ x y, o.op = .indexAddr 78 x y ∧ ρ x = pg g ∧ ρ y = .int .i64 (k : Int) := by exact ⟨_, _, rfl, by kernel_rfl, by kernel_rfl⟩) : (execOp ρ o).run Try.prog w = .ok (.value (pq g (k * 4))) w := by
  obtain ⟨x, y, h, hx, hy⟩ := ho
  simp only [execOp, h, hx, hy]
  go_simp
  intro h4
  omega
theorem ixV {ρ : Operand → Value} {w : World} {o : Oper} (a b c : Int) (k : Nat) (v : Int) (hv : [a, b, c][k]? = some v) (ho : ∃ x y, o.op = .index 91 x y ∧ ρ x = .agg #[.int .u64 a, .int .u64 b, .int .u64 c] ∧ ρ y = .int .i64 (k : Int) := by exact ⟨_, _, rfl, by kernel_rfl, by kernel_rfl⟩) : (execOp ρ o).run Try.prog w = .ok (.value (.int .u64 v)) w := by
  obtain ⟨x, y, h, hx, hy⟩ := ho
  simp only [execOp, h, hx, hy]
  match k, hv with
  | 0, hv => cases hv; unfold Instr.index; go_simp
  | 1, hv => cases hv; unfold Instr.index; go_simp
  | 2, hv => cases hv; unfold Instr.index; go_simp
theorem eqA (x0 x1 x2 x3 y0 y1 y2 y3 : Bool) (w : World) : (Op.equalIn 10000 61 (.agg #[.bool x0, .bool x1, .bool x2, .bool x3]) (.agg #[.bool y0, .bool y1, .bool y2, .bool y3])).run Try.prog w = .ok (x0 == y0 && (x1 == y1 && (x2 == y2 && x3 == y3))) w := by
  cases x0 <;> cases x1 <;> cases x2 <;> cases x3 <;> cases y0 <;> cases y1 <;> cases y2 <;> cases y3 <;> kernel_rfl
theorem eqU {ρ : Operand → Value} {w : World} {o : Oper} (x0 x1 x2 x3 y0 y1 y2 y3 : Bool) (ho : ∃ x y, o.op = .binOp .eql 61 x y 61 ∧ ρ x = .agg #[.bool x0, .bool x1, .bool x2, .bool x3] ∧ ρ y = .agg #[.bool y0, .bool y1, .bool y2, .bool y3] := by exact ⟨_, _, rfl, by kernel_rfl, by kernel_rfl⟩) : (execOp ρ o).run Try.prog w = .ok (.value (.bool (x0 == y0 && (x1 == y1 && (x2 == y2 && x3 == y3))))) w := by
  obtain ⟨x, y, h, hx, hy⟩ := ho
  simp only [execOp, h, hx, hy]
  go_simp
  rw [eqA]
  go_simp
end Mg
end Go.Proofs.Ytgfglfpckjkcdaa

namespace Go.Proofs.Ytgfglfpckjkcdaa
namespace Mg
open Go.RowKit Go.Lib Pg Lim Gl
set_option maxRecDepth 100000
set_option linter.unusedVariables false
set_option maxHeartbeats 2000000
def usL : List Value := [.bool false, .bool false, .bool false, .bool false, .bool true, .bool false, .bool true, .bool true, .bool true, .bool false, .bool true, .bool true, .bool true, .bool false, .bool true, .bool true, .bool true, .bool false, .bool true, .bool true, .bool true, .bool true, .bool true, .bool true, .bool true, .bool false, .bool false, .bool true, .bool false, .bool false, .bool false, .bool true, .bool false, .bool false, .bool false, .bool true, .bool false, .bool false, .bool true, .bool true, .bool true, .bool false, .bool true, .bool true]
theorem uses_any {w : World}  : Calls Try.prog 31 #[] w fun e w' => e = .returned (.agg #[.bool false, .bool false, .bool false, .bool false, .bool true, .bool false, .bool true, .bool true, .bool true, .bool false, .bool true, .bool true, .bool true, .bool false, .bool true, .bool true, .bool true, .bool false, .bool true, .bool true, .bool true, .bool true, .bool true, .bool true, .bool true, .bool false, .bool false, .bool true, .bool false, .bool false, .bool false, .bool true, .bool false, .bool false, .bool false, .bool true, .bool false, .bool false, .bool true, .bool true, .bool true, .bool false, .bool true, .bool true]) ∧ Below w.heap.size w w' := by
  have BB := Below.refl w.heap.size w
  refine gc_enter (n := 12) Try.func31 rfl (by kernel_rfl) (by kernel_rfl) ?_
  refine gc_seq ?_
  refine gc_reg ?_
  refine ta 0 [.bool false, .bool false, .bool false, .bool false, .bool false, .bool false, .bool false, .bool false, .bool false, .bool false, .bool false, .bool false, .bool false, .bool false, .bool false, .bool false, .bool false, .bool false, .bool false, .bool false, .bool false, .bool false, .bool false, .bool false, .bool false, .bool false, .bool false, .bool false, .bool false, .bool false, .bool false, .bool false, .bool false, .bool false, .bool false, .bool false, .bool false, .bool false, .bool false, .bool false, .bool false, .bool false, .bool false, .bool false] 78 (pg) ?_
  intro v1 g2 Xg2 hg2 B
  have zg2 := Nat.le_trans BB.size hg2
  replace BB := joinB BB B
  clear B
  refine gl_nil ?_
  refine ge_then ?_
  refine gc_seq ?_
  refine gc_reg ?_
  refine t 1 (.agg #[.bool true, .bool false, .bool true, .bool true]) ?_
  refine t 2 (.agg #[.bool true, .bool false, .bool true, .bool true]) ?_
  refine t 3 (.agg #[.bool true, .bool false, .bool true, .bool true]) ?_
  refine t 4 (.agg #[.bool true, .bool false, .bool true, .bool true]) ?_
  refine t 5 (.agg #[.bool true, .bool true, .bool true, .bool true]) ?_
  refine t 6 (.agg #[.bool true, .bool false, .bool false, .bool true]) ?_
  refine t 7 (.agg #[.bool false, .bool false, .bool false, .bool true]) ?_
  refine t 8 (.agg #[.bool false, .bool false, .bool false, .bool true]) ?_
  refine t 9 (.agg #[.bool false, .bool false, .bool true, .bool true]) ?_
  refine t 10 (.agg #[.bool true, .bool false, .bool true, .bool true]) ?_
  refine t 11 (.agg #[.bool false, .bool false, .bool false, .bool false, .bool true, .bool false, .bool true, .bool true, .bool true, .bool false, .bool true, .bool true, .bool true, .bool false, .bool true, .bool true, .bool true, .bool false, .bool true, .bool true, .bool true, .bool true, .bool true, .bool true, .bool true, .bool false, .bool false, .bool true, .bool false, .bool false, .bool false, .bool true, .bool false, .bool false, .bool false, .bool true, .bool false, .bool false, .bool true, .bool true, .bool true, .bool false, .bool true, .bool true]) ?_
  refine ts Xg2 0 (.agg #[.bool false, .bool false, .bool false, .bool false, .bool true, .bool false, .bool true, .bool true, .bool true, .bool false, .bool true, .bool true, .bool true, .bool false, .bool true, .bool true, .bool true, .bool false, .bool true, .bool true, .bool true, .bool true, .bool true, .bool true, .bool true, .bool false, .bool false, .bool true, .bool false, .bool false, .bool false, .bool true, .bool false, .bool false, .bool false, .bool true, .bool false, .bool false, .bool true, .bool true, .bool true, .bool false, .bool true, .bool true]) [.bool false, .bool false, .bool false, .bool false, .bool true, .bool false, .bool true, .bool true, .bool true, .bool false, .bool true, .bool true, .bool true, .bool false, .bool true, .bool true, .bool true, .bool false, .bool true, .bool true, .bool true, .bool true, .bool true, .bool true, .bool true, .bool false, .bool false, .bool true, .bool false, .bool false, .bool false, .bool true, .bool false, .bool false, .bool false, .bool true, .bool false, .bool false, .bool true, .bool true, .bool true, .bool false, .bool true, .bool true] [.bool false, .bool false, .bool false, .bool false, .bool true, .bool false, .bool true, .bool true, .bool true, .bool false, .bool true, .bool true, .bool true, .bool false, .bool true, .bool true, .bool true, .bool false, .bool true, .bool true, .bool true, .bool true, .bool true, .bool true, .bool true, .bool false, .bool false, .bool true, .bool false, .bool false, .bool false, .bool true, .bool false, .bool false, .bool false, .bool true, .bool false, .bool false, .bool true, .bool true, .bool true, .bool false, .bool true, .bool true] ?_
  intro v3 Y C
  replace BB := belowC BB C (by omega)
  clear C Xg2
  have Xg2 := Y
  clear Y
  refine gl_nil ?_
  refine ge_then ?_
  refine gc_ret ?_
  refine ge_ret (.agg #[.bool false, .bool false, .bool false, .bool false, .bool true, .bool false, .bool true, .bool true, .bool true, .bool false, .bool true, .bool true, .bool true, .bool false, .bool true, .bool true, .bool true, .bool false, .bool true, .bool true, .bool true, .bool true, .bool true, .bool true, .bool true, .bool false, .bool false, .bool true, .bool false, .bool false, .bool false, .bool true, .bool false, .bool false, .bool false, .bool true, .bool false, .bool false, .bool true, .bool true, .bool true, .bool false, .bool true, .bool true]) (rsc 0 (T := 78) (by kernel_rfl) (by kernel_rfl) (lr Xg2 0)) ?_
  exact ⟨rfl, BB⟩
theorem useOf_0 {w : World}  : Calls Try.prog 20 #[.int .i64 0] w fun e w' => e = .returned (.agg #[.bool false, .bool false, .bool false, .bool false]) ∧ Below w.heap.size w w' := by
  have BB := Below.refl w.heap.size w
  refine gc_enter (n := 15) Try.func20 rfl (by kernel_rfl) (by kernel_rfl) ?_
  refine gc_seq ?_
  refine gc_reg ?_
  refine ta 2 [.bool false, .bool false, .bool false, .bool false] 61 (pg) ?_
  intro v1 g2 Xg2 hg2 B
  have zg2 := Nat.le_trans BB.size hg2
  replace BB := joinB BB B
  clear B
  refine gl_nil ?_
  refine ge_then ?_
  refine gc_seq ?_
  refine gc_reg ?_
  refine tc 4 31 #[] (uses_any) ?_
  rintro _ v3 ⟨rfl, B⟩
  refine ⟨_, rfl, ?_⟩
  replace BB := joinB BB B
  replace Xg2 := Xg2.keep B
  clear B
  have lXg2 := Xg2.lt
  refine ta 3 [.bool false, .bool false, .bool false, .bool false, .bool false, .bool false, .bool false, .bool false, .bool false, .bool false, .bool false, .bool false, .bool false, .bool false, .bool false, .bool false, .bool false, .bool false, .bool false, .bool false, .bool false, .bool false, .bool false, .bool false, .bool false, .bool false, .bool false, .bool false, .bool false, .bool false, .bool false, .bool false, .bool false, .bool false, .bool false, .bool false, .bool false, .bool false, .bool false, .bool false, .bool false, .bool false, .bool false, .bool false] 78 (pg) ?_
  intro v4 g5 Xg5 hg5 B
  have zg5 := Nat.le_trans BB.size hg5
  replace BB := joinB BB B
  replace Xg2 := Xg2.keep B
  clear B
  refine ts Xg5 0 (.agg #[.bool false, .bool false, .bool false, .bool false, .bool true, .bool false, .bool true, .bool true, .bool true, .bool false, .bool true, .bool true, .bool true, .bool false, .bool true, .bool true, .bool true, .bool false, .bool true, .bool true, .bool true, .bool true, .bool true, .bool true, .bool true, .bool false, .bool false, .bool true, .bool false, .bool false, .bool false, .bool true, .bool false, .bool false, .bool false, .bool true, .bool false, .bool false, .bool true, .bool true, .bool true, .bool false, .bool true, .bool true]) [.bool false, .bool false, .bool false, .bool false, .bool true, .bool false, .bool true, .bool true, .bool true, .bool false, .bool true, .bool true, .bool true, .bool false, .bool true, .bool true, .bool true, .bool false, .bool true, .bool true, .bool true, .bool true, .bool true, .bool true, .bool true, .bool false, .bool false, .bool true, .bool false, .bool false, .bool false, .bool true, .bool false, .bool false, .bool false, .bool true, .bool false, .bool false, .bool true, .bool true, .bool true, .bool false, .bool true, .bool true] [.bool false, .bool false, .bool false, .bool false, .bool true, .bool false, .bool true, .bool true, .bool true, .bool false, .bool true, .bool true, .bool true, .bool false, .bool true, .bool true, .bool true, .bool false, .bool true, .bool true, .bool true, .bool true, .bool true, .bool true, .bool true, .bool false, .bool false, .bool true, .bool false, .bool false, .bool false, .bool true, .bool false, .bool false, .bool false, .bool true, .bool false, .bool false, .bool true, .bool true, .bool true, .bool false, .bool true, .bool true] ?_
  intro v6 Y C
  replace BB := belowC BB C (by omega)
  replace Xg2 := Xg2.chg C (show g2 ≠ g5 by omega)
  clear C Xg5
  have Xg5 := Y
  clear Y
  refine gl_nil ?_
  refine ge_then ?_
  refine gc_seq ?_
  refine gc_seq ?_
  refine gc_reg ?_
  refine t 5 (.int .i64 0) ?_
  refine t 6 (.bool false) ?_
  refine t 7 (.bool false) ?_
  refine t 8 (.int .i64 0) ?_
  refine t 9 (.bool false) ?_
  refine t 10 (.bool false) ?_
  refine gl_nil ?_
  refine ge_then ?_
  refine gc_no ?_
  refine gc_skip ?_
  refine ge_then ?_
  refine gc_seq ?_
  refine gc_reg ?_
  refine t 12 (.int .i64 0) ?_
  refine tr 13 (pg g5) (iaW g5 0 (by decide)) ?_
  refine tlr 14 [.bool false, .bool false, .bool false, .bool false] Xg5 0 ?_
  refine ts Xg2 0 (.agg #[.bool false, .bool false, .bool false, .bool false]) [.bool false, .bool false, .bool false, .bool false] [.bool false, .bool false, .bool false, .bool false] ?_
  intro v7 Y C
  replace BB := belowC BB C (by omega)
  replace Xg5 := Xg5.chg C (show g5 ≠ g2 by omega)
  clear C Xg2
  have Xg2 := Y
  clear Y
  refine gl_nil ?_
  refine ge_then ?_
  clear Xg5
  refine gc_ret ?_
  refine ge_ret (.agg #[.bool false, .bool false, .bool false, .bool false]) (rsc 2 (T := 61) (by kernel_rfl) (by kernel_rfl) (lr Xg2 0)) ?_
  exact ⟨rfl, BB⟩
theorem useOf_1 {w : World}  : Calls Try.prog 20 #[.int .i64 1] w fun e w' => e = .returned (.agg #[.bool true, .bool false, .bool true, .bool true]) ∧ Below w.heap.size w w' := by
  have BB := Below.refl w.heap.size w
  refine gc_enter (n := 15) Try.func20 rfl (by kernel_rfl) (by kernel_rfl) ?_
  refine gc_seq ?_
  refine gc_reg ?_
  refine ta 2 [.bool false, .bool false, .bool false, .bool false] 61 (pg) ?_
  intro v1 g2 Xg2 hg2 B
  have zg2 := Nat.le_trans BB.size hg2
  replace BB := joinB BB B
  clear B
  refine gl_nil ?_
  refine ge_then ?_
  refine gc_seq ?_
  refine gc_reg ?_
  refine tc 4 31 #[] (uses_any) ?_
  rintro _ v3 ⟨rfl, B⟩
  refine ⟨_, rfl, ?_⟩
  replace BB := joinB BB B
  replace Xg2 := Xg2.keep B
  clear B
  have lXg2 := Xg2.lt
  refine ta 3 [.bool false, .bool false, .bool false, .bool false, .bool false, .bool false, .bool false, .bool false, .bool false, .bool false, .bool false, .bool false, .bool false, .bool false, .bool false, .bool false, .bool false, .bool false, .bool false, .bool false, .bool false, .bool false, .bool false, .bool false, .bool false, .bool false, .bool false, .bool false, .bool false, .bool false, .bool false, .bool false, .bool false, .bool false, .bool false, .bool false, .bool false, .bool false, .bool false, .bool false, .bool false, .bool false, .bool false, .bool false] 78 (pg) ?_
  intro v4 g5 Xg5 hg5 B
  have zg5 := Nat.le_trans BB.size hg5
  replace BB := joinB BB B
  replace Xg2 := Xg2.keep B
  clear B
  refine ts Xg5 0 (.agg #[.bool false, .bool false, .bool false, .bool false, .bool true, .bool false, .bool true, .bool true, .bool true, .bool false, .bool true, .bool true, .bool true, .bool false, .bool true, .bool true, .bool true, .bool false, .bool true, .bool true, .bool true, .bool true, .bool true, .bool true, .bool true, .bool false, .bool false, .bool true, .bool false, .bool false, .bool false, .bool true, .bool false, .bool false, .bool false, .bool true, .bool false, .bool false, .bool true, .bool true, .bool true, .bool false, .bool true, .bool true]) [.bool false, .bool false, .bool false, .bool false, .bool true, .bool false, .bool true, .bool true, .bool true, .bool false, .bool true, .bool true, .bool true, .bool false, .bool true, .bool true, .bool true, .bool false, .bool true, .bool true, .bool true, .bool true, .bool true, .bool true, .bool true, .bool false, .bool false, .bool true, .bool false, .bool false, .bool false, .bool true, .bool false, .bool false, .bool false, .bool true, .bool false, .bool false, .bool true, .bool true, .bool true, .bool false, .bool true, .bool true] [.bool false, .bool false, .bool false, .bool false, .bool true, .bool false, .bool true, .bool true, .bool true, .bool false, .bool true, .bool true, .bool true, .bool false, .bool true, .bool true, .bool true, .bool false, .bool true, .bool true, .bool true, .bool true, .bool true, .bool true, .bool true, .bool false, .bool false, .bool true, .bool false, .bool false, .bool false, .bool true, .bool false, .bool false, .bool false, .bool true, .bool false, .bool false, .bool true, .bool true, .bool true, .bool false, .bool true, .bool true] ?_
  intro v6 Y C
  replace BB := belowC BB C (by omega)
  replace Xg2 := Xg2.chg C (show g2 ≠ g5 by omega)
  clear C Xg5
  have Xg5 := Y
  clear Y
  refine gl_nil ?_
  refine ge_then ?_
  refine gc_seq ?_
  refine gc_seq ?_
  refine gc_reg ?_
  refine t 5 (.int .i64 1) ?_
  refine t 6 (.bool false) ?_
  refine t 7 (.bool false) ?_
  refine t 8 (.int .i64 1) ?_
  refine t 9 (.bool false) ?_
  refine t 10 (.bool false) ?_
  refine gl_nil ?_
  refine ge_then ?_
  refine gc_no ?_
  refine gc_skip ?_
  refine ge_then ?_
  refine gc_seq ?_
  refine gc_reg ?_
  refine t 12 (.int .i64 1) ?_
  refine tr 13 (pq g5 4) (iaW g5 1 (by decide)) ?_
  refine tlr 14 [.bool true, .bool false, .bool true, .bool true] Xg5 4 ?_
  refine ts Xg2 0 (.agg #[.bool true, .bool false, .bool true, .bool true]) [.bool true, .bool false, .bool true, .bool true] [.bool true, .bool false, .bool true, .bool true] ?_
  intro v7 Y C
  replace BB := belowC BB C (by omega)
  replace Xg5 := Xg5.chg C (show g5 ≠ g2 by omega)
  clear C Xg2
  have Xg2 := Y
  clear Y
  refine gl_nil ?_
  refine ge_then ?_
  clear Xg5
  refine gc_ret ?_
  refine ge_ret (.agg #[.bool true, .bool false, .bool true, .bool true]) (rsc 2 (T := 61) (by kernel_rfl) (by kernel_rfl) (lr Xg2 0)) ?_
  exact ⟨rfl, BB⟩
theorem useOf_2 {w : World}  : Calls Try.prog 20 #[.int .i64 2] w fun e w' => e = .returned (.agg #[.bool true, .bool false, .bool true, .bool true]) ∧ Below w.heap.size w w' := by
  have BB := Below.refl w.heap.size w
  refine gc_enter (n := 15) Try.func20 rfl (by kernel_rfl) (by kernel_rfl) ?_
  refine gc_seq ?_
  refine gc_reg ?_
  refine ta 2 [.bool false, .bool false, .bool false, .bool false] 61 (pg) ?_
  intro v1 g2 Xg2 hg2 B
  have zg2 := Nat.le_trans BB.size hg2
  replace BB := joinB BB B
  clear B
  refine gl_nil ?_
  refine ge_then ?_
  refine gc_seq ?_
  refine gc_reg ?_
  refine tc 4 31 #[] (uses_any) ?_
  rintro _ v3 ⟨rfl, B⟩
  refine ⟨_, rfl, ?_⟩
  replace BB := joinB BB B
  replace Xg2 := Xg2.keep B
  clear B
  have lXg2 := Xg2.lt
  refine ta 3 [.bool false, .bool false, .bool false, .bool false, .bool false, .bool false, .bool false, .bool false, .bool false, .bool false, .bool false, .bool false, .bool false, .bool false, .bool false, .bool false, .bool false, .bool false, .bool false, .bool false, .bool false, .bool false, .bool false, .bool false, .bool false, .bool false, .bool false, .bool false, .bool false, .bool false, .bool false, .bool false, .bool false, .bool false, .bool false, .bool false, .bool false, .bool false, .bool false, .bool false, .bool false, .bool false, .bool false, .bool false] 78 (pg) ?_
  intro v4 g5 Xg5 hg5 B
  have zg5 := Nat.le_trans BB.size hg5
  replace BB := joinB BB B
  replace Xg2 := Xg2.keep B
  clear B
  refine ts Xg5 0 (.agg #[.bool false, .bool false, .bool false, .bool false, .bool true, .bool false, .bool true, .bool true, .bool true, .bool false, .bool true, .bool true, .bool true, .bool false, .bool true, .bool true, .bool true, .bool false, .bool true, .bool true, .bool true, .bool true, .bool true, .bool true, .bool true, .bool false, .bool false, .bool true, .bool false, .bool false, .bool false, .bool true, .bool false, .bool false, .bool false, .bool true, .bool false, .bool false, .bool true, .bool true, .bool true, .bool false, .bool true, .bool true]) [.bool false, .bool false, .bool false, .bool false, .bool true, .bool false, .bool true, .bool true, .bool true, .bool false, .bool true, .bool true, .bool true, .bool false, .bool true, .bool true, .bool true, .bool false, .bool true, .bool true, .bool true, .bool true, .bool true, .bool true, .bool true, .bool false, .bool false, .bool true, .bool false, .bool false, .bool false, .bool true, .bool false, .bool false, .bool false, .bool true, .bool false, .bool false, .bool true, .bool true, .bool true, .bool false, .bool true, .bool true] [.bool false, .bool false, .bool false, .bool false, .bool true, .bool false, .bool true, .bool true, .bool true, .bool false, .bool true, .bool true, .bool true, .bool false, .bool true, .bool true, .bool true, .bool false, .bool true, .bool true, .bool true, .bool true, .bool true, .bool true, .bool true, .bool false, .bool false, .bool true, .bool false, .bool false, .bool false, .bool true, .bool false, .bool false, .bool false, .bool true, .bool false, .bool false, .bool true, .bool true, .bool true, .bool false, .bool true, .bool true] ?_
  intro v6 Y C
  replace BB := belowC BB C (by omega)
  replace Xg2 := Xg2.chg C (show g2 ≠ g5 by omega)
  clear C Xg5
  have Xg5 := Y
  clear Y
  refine gl_nil ?_
  refine ge_then ?_
  refine gc_seq ?_
  refine gc_seq ?_
  refine gc_reg ?_
  refine t 5 (.int .i64 2) ?_
  refine t 6 (.bool false) ?_
  refine t 7 (.bool false) ?_
  refine t 8 (.int .i64 2) ?_
  refine t 9 (.bool false) ?_
  refine t 10 (.bool false) ?_
  refine gl_nil ?_
  refine ge_then ?_
  refine gc_no ?_
  refine gc_skip ?_
  refine ge_then ?_
  refine gc_seq ?_
  refine gc_reg ?_
  refine t 12 (.int .i64 2) ?_
  refine tr 13 (pq g5 8) (iaW g5 2 (by decide)) ?_
  refine tlr 14 [.bool true, .bool false, .bool true, .bool true] Xg5 8 ?_
  refine ts Xg2 0 (.agg #[.bool true, .bool false, .bool true, .bool true]) [.bool true, .bool false, .bool true, .bool true] [.bool true, .bool false, .bool true, .bool true] ?_
  intro v7 Y C
  replace BB := belowC BB C (by omega)
  replace Xg5 := Xg5.chg C (show g5 ≠ g2 by omega)
  clear C Xg2
  have Xg2 := Y
  clear Y
  refine gl_nil ?_
  refine ge_then ?_
  clear Xg5
  refine gc_ret ?_
  refine ge_ret (.agg #[.bool true, .bool false, .bool true, .bool true]) (rsc 2 (T := 61) (by kernel_rfl) (by kernel_rfl) (lr Xg2 0)) ?_
  exact ⟨rfl, BB⟩
theorem useOf_3 {w : World}  : Calls Try.prog 20 #[.int .i64 3] w fun e w' => e = .returned (.agg #[.bool true, .bool false, .bool true, .bool true]) ∧ Below w.heap.size w w' := by
  have BB := Below.refl w.heap.size w
  refine gc_enter (n := 15) Try.func20 rfl (by kernel_rfl) (by kernel_rfl) ?_
  refine gc_seq ?_
  refine gc_reg ?_
  refine ta 2 [.bool false, .bool false, .bool false, .bool false] 61 (pg) ?_
  intro v1 g2 Xg2 hg2 B
  have zg2 := Nat.le_trans BB.size hg2
  replace BB := joinB BB B
  clear B
  refine gl_nil ?_
  refine ge_then ?_
  refine gc_seq ?_
  refine gc_reg ?_
  refine tc 4 31 #[] (uses_any) ?_
  rintro _ v3 ⟨rfl, B⟩
  refine ⟨_, rfl, ?_⟩
  replace BB := joinB BB B
  replace Xg2 := Xg2.keep B
  clear B
  have lXg2 := Xg2.lt
  refine ta 3 [.bool false, .bool false, .bool false, .bool false, .bool false, .bool false, .bool false, .bool false, .bool false, .bool false, .bool false, .bool false, .bool false, .bool false, .bool false, .bool false, .bool false, .bool false, .bool false, .bool false, .bool false, .bool false, .bool false, .bool false, .bool false, .bool false, .bool false, .bool false, .bool false, .bool false, .bool false, .bool false, .bool false, .bool false, .bool false, .bool false, .bool false, .bool false, .bool false, .bool false, .bool false, .bool false, .bool false, .bool false] 78 (pg) ?_
  intro v4 g5 Xg5 hg5 B
  have zg5 := Nat.le_trans BB.size hg5
  replace BB := joinB BB B
  replace Xg2 := Xg2.keep B
  clear B
  refine ts Xg5 0 (.agg #[.bool false, .bool false, .bool false, .bool false, .bool true, .bool false, .bool true, .bool true, .bool true, .bool false, .bool true, .bool true, .bool true, .bool false, .bool true, .bool true, .bool true, .bool false, .bool true, .bool true, .bool true, .bool true, .bool true, .bool true, .bool true, .bool false, .bool false, .bool true, .bool false, .bool false, .bool false, .bool true, .bool false, .bool false, .bool false, .bool true, .bool false, .bool false, .bool true, .bool true, .bool true, .bool false, .bool true, .bool true]) [.bool false, .bool false, .bool false, .bool false, .bool true, .bool false, .bool true, .bool true, .bool true, .bool false, .bool true, .bool true, .bool true, .bool false, .bool true, .bool true, .bool true, .bool false, .bool true, .bool true, .bool true, .bool true, .bool true, .bool true, .bool true, .bool false, .bool false, .bool true, .bool false, .bool false, .bool false, .bool true, .bool false, .bool false, .bool false, .bool true, .bool false, .bool false, .bool true, .bool true, .bool true, .bool false, .bool true, .bool true] [.bool false, .bool false, .bool false, .bool false, .bool true, .bool false, .bool true, .bool true, .bool true, .bool false, .bool true, .bool true, .bool true, .bool false, .bool true, .bool true, .bool true, .bool false, .bool true, .bool true, .bool true, .bool true, .bool true, .bool true, .bool true, .bool false, .bool false, .bool true, .bool false, .bool false, .bool false, .bool true, .bool false, .bool false, .bool false, .bool true, .bool false, .bool false, .bool true, .bool true, .bool true, .bool false, .bool true, .bool true] ?_
  intro v6 Y C
  replace BB := belowC BB C (by omega)
  replace Xg2 := Xg2.chg C (show g2 ≠ g5 by omega)
  clear C Xg5
  have Xg5 := Y
  clear Y
  refine gl_nil ?_
  refine ge_then ?_
  refine gc_seq ?_
  refine gc_seq ?_
  refine gc_reg ?_
  refine t 5 (.int .i64 3) ?_
  refine t 6 (.bool false) ?_
  refine t 7 (.bool false) ?_
  refine t 8 (.int .i64 3) ?_
  refine t 9 (.bool false) ?_
  refine t 10 (.bool false) ?_
  refine gl_nil ?_
  refine ge_then ?_
  refine gc_no ?_
  refine gc_skip ?_
  refine ge_then ?_
  refine gc_seq ?_
  refine gc_reg ?_
  refine t 12 (.int .i64 3) ?_
  refine tr 13 (pq g5 12) (iaW g5 3 (by decide)) ?_
  refine tlr 14 [.bool true, .bool false, .bool true, .bool true] Xg5 12 ?_
  refine ts Xg2 0 (.agg #[.bool true, .bool false, .bool true, .bool true]) [.bool true, .bool false, .bool true, .bool true] [.bool true, .bool false, .bool true, .bool true] ?_
  intro v7 Y C
  replace BB := belowC BB C (by omega)
  replace Xg5 := Xg5.chg C (show g5 ≠ g2 by omega)
  clear C Xg2
  have Xg2 := Y
  clear Y
  refine gl_nil ?_
  refine ge_then ?_
  clear Xg5
  refine gc_ret ?_
  refine ge_ret (.agg #[.bool true, .bool false, .bool true, .bool true]) (rsc 2 (T := 61) (by kernel_rfl) (by kernel_rfl) (lr Xg2 0)) ?_
  exact ⟨rfl, BB⟩
theorem useOf_4 {w : World}  : Calls Try.prog 20 #[.int .i64 4] w fun e w' => e = .returned (.agg #[.bool true, .bool false, .bool true, .bool true]) ∧ Below w.heap.size w w' := by
  have BB := Below.refl w.heap.size w
  refine gc_enter (n := 15) Try.func20 rfl (by kernel_rfl) (by kernel_rfl) ?_
  refine gc_seq ?_
  refine gc_reg ?_
  refine ta 2 [.bool false, .bool false, .bool false, .bool false] 61 (pg) ?_
  intro v1 g2 Xg2 hg2 B
  have zg2 := Nat.le_trans BB.size hg2
  replace BB := joinB BB B
  clear B
  refine gl_nil ?_
  refine ge_then ?_
  refine gc_seq ?_
  refine gc_reg ?_
  refine tc 4 31 #[] (uses_any) ?_
  rintro _ v3 ⟨rfl, B⟩
  refine ⟨_, rfl, ?_⟩
  replace BB := joinB BB B
  replace Xg2 := Xg2.keep B
  clear B
  have lXg2 := Xg2.lt
  refine ta 3 [.bool false, .bool false, .bool false, .bool false, .bool false, .bool false, .bool false, .bool false, .bool false, .bool false, .bool false, .bool false, .bool false, .bool false, .bool false, .bool false, .bool false, .bool false, .bool false, .bool false, .bool false, .bool false, .bool false, .bool false, .bool false, .bool false, .bool false, .bool false, .bool false, .bool false, .bool false, .bool false, .bool false, .bool false, .bool false, .bool false, .bool false, .bool false, .bool false, .bool false, .bool false, .bool false, .bool false, .bool false] 78 (pg) ?_
  intro v4 g5 Xg5 hg5 B
  have zg5 := Nat.le_trans BB.size hg5
  replace BB := joinB BB B
  replace Xg2 := Xg2.keep B
  clear B
  refine ts Xg5 0 (.agg #[.bool false, .bool false, .bool false, .bool false, .bool true, .bool false, .bool true, .bool true, .bool true, .bool false, .bool true, .bool true, .bool true, .bool false, .bool true, .bool true, .bool true, .bool false, .bool true, .bool true, .bool true, .bool true, .bool true, .bool true, .bool true, .bool false, .bool false, .bool true, .bool false, .bool false, .bool false, .bool true, .bool false, .bool false, .bool false, .bool true, .bool false, .bool false, .bool true, .bool true, .bool true, .bool false, .bool true, .bool true]) [.bool false, .bool false, .bool false, .bool false, .bool true, .bool false, .bool true, .bool true, .bool true, .bool false, .bool true, .bool true, .bool true, .bool false, .bool true, .bool true, .bool true, .bool false, .bool true, .bool true, .bool true, .bool true, .bool true, .bool true, .bool true, .bool false, .bool false, .bool true, .bool false, .bool false, .bool false, .bool true, .bool false, .bool false, .bool false, .bool true, .bool false, .bool false, .bool true, .bool true, .bool true, .bool false, .bool true, .bool true] [.bool false, .bool false, .bool false, .bool false, .bool true, .bool false, .bool true, .bool true, .bool true, .bool false, .bool true, .bool true, .bool true, .bool false, .bool true, .bool true, .bool true, .bool false, .bool true, .bool true, .bool true, .bool true, .bool true, .bool true, .bool true, .bool false, .bool false, .bool true, .bool false, .bool false, .bool false, .bool true, .bool false, .bool false, .bool false, .bool true, .bool false, .bool false, .bool true, .bool true, .bool true, .bool false, .bool true, .bool true] ?_
  intro v6 Y C
  replace BB := belowC BB C (by omega)
  replace Xg2 := Xg2.chg C (show g2 ≠ g5 by omega)
  clear C Xg5
  have Xg5 := Y
  clear Y
  refine gl_nil ?_
  refine ge_then ?_
  refine gc_seq ?_
  refine gc_seq ?_
  refine gc_reg ?_
  refine t 5 (.int .i64 4) ?_
  refine t 6 (.bool false) ?_
  refine t 7 (.bool false) ?_
  refine t 8 (.int .i64 4) ?_
  refine t 9 (.bool false) ?_
  refine t 10 (.bool false) ?_
  refine gl_nil ?_
  refine ge_then ?_
  refine gc_no ?_
  refine gc_skip ?_
  refine ge_then ?_
  refine gc_seq ?_
  refine gc_reg ?_
  refine t 12 (.int .i64 4) ?_
  refine tr 13 (pq g5 16) (iaW g5 4 (by decide)) ?_
  refine tlr 14 [.bool true, .bool false, .bool true, .bool true] Xg5 16 ?_
  refine ts Xg2 0 (.agg #[.bool true, .bool false, .bool true, .bool true]) [.bool true, .bool false, .bool true, .bool true] [.bool true, .bool false, .bool true, .bool true] ?_
  intro v7 Y C
  replace BB := belowC BB C (by omega)
  replace Xg5 := Xg5.chg C (show g5 ≠ g2 by omega)
  clear C Xg2
  have Xg2 := Y
  clear Y
  refine gl_nil ?_
  refine ge_then ?_
  clear Xg5
  refine gc_ret ?_
  refine ge_ret (.agg #[.bool true, .bool false, .bool true, .bool true]) (rsc 2 (T := 61) (by kernel_rfl) (by kernel_rfl) (lr Xg2 0)) ?_
  exact ⟨rfl, BB⟩
theorem useOf_5 {w : World}  : Calls Try.prog 20 #[.int .i64 5] w fun e w' => e = .returned (.agg #[.bool true, .bool true, .bool true, .bool true]) ∧ Below w.heap.size w w' := by
  have BB := Below.refl w.heap.size w
  refine gc_enter (n := 15) Try.func20 rfl (by kernel_rfl) (by kernel_rfl) ?_
  refine gc_seq ?_
  refine gc_reg ?_
  refine ta 2 [.bool false, .bool false, .bool false, .bool false] 61 (pg) ?_
  intro v1 g2 Xg2 hg2 B
  have zg2 := Nat.le_trans BB.size hg2
  replace BB := joinB BB B
  clear B
  refine gl_nil ?_
  refine ge_then ?_
  refine gc_seq ?_
  refine gc_reg ?_
  refine tc 4 31 #[] (uses_any) ?_
  rintro _ v3 ⟨rfl, B⟩
  refine ⟨_, rfl, ?_⟩
  replace BB := joinB BB B
  replace Xg2 := Xg2.keep B
  clear B
  have lXg2 := Xg2.lt
  refine ta 3 [.bool false, .bool false, .bool false, .bool false, .bool false, .bool false, .bool false, .bool false, .bool false, .bool false, .bool false, .bool false, .bool false, .bool false, .bool false, .bool false, .bool false, .bool false, .bool false, .bool false, .bool false, .bool false, .bool false, .bool false, .bool false, .bool false, .bool false, .bool false, .bool false, .bool false, .bool false, .bool false, .bool false, .bool false, .bool false, .bool false, .bool false, .bool false, .bool false, .bool false, .bool false, .bool false, .bool false, .bool false] 78 (pg) ?_
  intro v4 g5 Xg5 hg5 B
  have zg5 := Nat.le_trans BB.size hg5
  replace BB := joinB BB B
  replace Xg2 := Xg2.keep B
  clear B
  refine ts Xg5 0 (.agg #[.bool false, .bool false, .bool false, .bool false, .bool true, .bool false, .bool true, .bool true, .bool true, .bool false, .bool true, .bool true, .bool true, .bool false, .bool true, .bool true, .bool true, .bool false, .bool true, .bool true, .bool true, .bool true, .bool true, .bool true, .bool true, .bool false, .bool false, .bool true, .bool false, .bool false, .bool false, .bool true, .bool false, .bool false, .bool false, .bool true, .bool false, .bool false, .bool true, .bool true, .bool true, .bool false, .bool true, .bool true]) [.bool false, .bool false, .bool false, .bool false, .bool true, .bool false, .bool true, .bool true, .bool true, .bool false, .bool true, .bool true, .bool true, .bool false, .bool true, .bool true, .bool true, .bool false, .bool true, .bool true, .bool true, .bool true, .bool true, .bool true, .bool true, .bool false, .bool false, .bool true, .bool false, .bool false, .bool false, .bool true, .bool false, .bool false, .bool false, .bool true, .bool false, .bool false, .bool true, .bool true, .bool true, .bool false, .bool true, .bool true] [.bool false, .bool false, .bool false, .bool false, .bool true, .bool false, .bool true, .bool true, .bool true, .bool false, .bool true, .bool true, .bool true, .bool false, .bool true, .bool true, .bool true, .bool false, .bool true, .bool true, .bool true, .bool true, .bool true, .bool true, .bool true, .bool false, .bool false, .bool true, .bool false, .bool false, .bool false, .bool true, .bool false, .bool false, .bool false, .bool true, .bool false, .bool false, .bool true, .bool true, .bool true, .bool false, .bool true, .bool true] ?_
  intro v6 Y C
  replace BB := belowC BB C (by omega)
  replace Xg2 := Xg2.chg C (show g2 ≠ g5 by omega)
  clear C Xg5
  have Xg5 := Y
  clear Y
  refine gl_nil ?_
  refine ge_then ?_
  refine gc_seq ?_
  refine gc_seq ?_
  refine gc_reg ?_
  refine t 5 (.int .i64 5) ?_
  refine t 6 (.bool false) ?_
  refine t 7 (.bool false) ?_
  refine t 8 (.int .i64 5) ?_
  refine t 9 (.bool false) ?_
  refine t 10 (.bool false) ?_
  refine gl_nil ?_
  refine ge_then ?_
  refine gc_no ?_
  refine gc_skip ?_
  refine ge_then ?_
  refine gc_seq ?_
  refine gc_reg ?_
  refine t 12 (.int .i64 5) ?_
  refine tr 13 (pq g5 20) (iaW g5 5 (by decide)) ?_
  refine tlr 14 [.bool true, .bool true, .bool true, .bool true] Xg5 20 ?_
  refine ts Xg2 0 (.agg #[.bool true, .bool true, .bool true, .bool true]) [.bool true, .bool true, .bool true, .bool true] [.bool true, .bool true, .bool true, .bool true] ?_
  intro v7 Y C
  replace BB := belowC BB C (by omega)
  replace Xg5 := Xg5.chg C (show g5 ≠ g2 by omega)
  clear C Xg2
  have Xg2 := Y
  clear Y
  refine gl_nil ?_
  refine ge_then ?_
  clear Xg5
  refine gc_ret ?_
  refine ge_ret (.agg #[.bool true, .bool true, .bool true, .bool true]) (rsc 2 (T := 61) (by kernel_rfl) (by kernel_rfl) (lr Xg2 0)) ?_
  exact ⟨rfl, BB⟩
theorem useOf_6 {w : World}  : Calls Try.prog 20 #[.int .i64 6] w fun e w' => e = .returned (.agg #[.bool true, .bool false, .bool false, .bool true]) ∧ Below w.heap.size w w' := by
  have BB := Below.refl w.heap.size w
  refine gc_enter (n := 15) Try.func20 rfl (by kernel_rfl) (by kernel_rfl) ?_
  refine gc_seq ?_
  refine gc_reg ?_
  refine ta 2 [.bool false, .bool false, .bool false, .bool false] 61 (pg) ?_
  intro v1 g2 Xg2 hg2 B
  have zg2 := Nat.le_trans BB.size hg2
  replace BB := joinB BB B
  clear B
  refine gl_nil ?_
  refine ge_then ?_
  refine gc_seq ?_
  refine gc_reg ?_
  refine tc 4 31 #[] (uses_any) ?_
  rintro _ v3 ⟨rfl, B⟩
  refine ⟨_, rfl, ?_⟩
  replace BB := joinB BB B
  replace Xg2 := Xg2.keep B
  clear B
  have lXg2 := Xg2.lt
  refine ta 3 [.bool false, .bool false, .bool false, .bool false, .bool false, .bool false, .bool false, .bool false, .bool false, .bool false, .bool false, .bool false, .bool false, .bool false, .bool false, .bool false, .bool false, .bool false, .bool false, .bool false, .bool false, .bool false, .bool false, .bool false, .bool false, .bool false, .bool false, .bool false, .bool false, .bool false, .bool false, .bool false, .bool false, .bool false, .bool false, .bool false, .bool false, .bool false, .bool false, .bool false, .bool false, .bool false, .bool false, .bool false] 78 (pg) ?_
  intro v4 g5 Xg5 hg5 B
  have zg5 := Nat.le_trans BB.size hg5
  replace BB := joinB BB B
  replace Xg2 := Xg2.keep B
  clear B
  refine ts Xg5 0 (.agg #[.bool false, .bool false, .bool false, .bool false, .bool true, .bool false, .bool true, .bool true, .bool true, .bool false, .bool true, .bool true, .bool true, .bool false, .bool true, .bool true, .bool true, .bool false, .bool true, .bool true, .bool true, .bool true, .bool true, .bool true, .bool true, .bool false, .bool false, .bool true, .bool false, .bool false, .bool false, .bool true, .bool false, .bool false, .bool false, .bool true, .bool false, .bool false, .bool true, .bool true, .bool true, .bool false, .bool true, .bool true]) [.bool false, .bool false, .bool false, .bool false, .bool true, .bool false, .bool true, .bool true, .bool true, .bool false, .bool true, .bool true, .bool true, .bool false, .bool true, .bool true, .bool true, .bool false, .bool true, .bool true, .bool true, .bool true, .bool true, .bool true, .bool true, .bool false, .bool false, .bool true, .bool false, .bool false, .bool false, .bool true, .bool false, .bool false, .bool false, .bool true, .bool false, .bool false, .bool true, .bool true, .bool true, .bool false, .bool true, .bool true] [.bool false, .bool false, .bool false, .bool false, .bool true, .bool false, .bool true, .bool true, .bool true, .bool false, .bool true, .bool true, .bool true, .bool false, .bool true, .bool true, .bool true, .bool false, .bool true, .bool true, .bool true, .bool true, .bool true, .bool true, .bool true, .bool false, .bool false, .bool true, .bool false, .bool false, .bool false, .bool true, .bool false, .bool false, .bool false, .bool true, .bool false, .bool false, .bool true, .bool true, .bool true, .bool false, .bool true, .bool true] ?_
  intro v6 Y C
  replace BB := belowC BB C (by omega)
  replace Xg2 := Xg2.chg C (show g2 ≠ g5 by omega)
  clear C Xg5
  have Xg5 := Y
  clear Y
  refine gl_nil ?_
  refine ge_then ?_
  refine gc_seq ?_
  refine gc_seq ?_
  refine gc_reg ?_
  refine t 5 (.int .i64 6) ?_
  refine t 6 (.bool false) ?_
  refine t 7 (.bool false) ?_
  refine t 8 (.int .i64 6) ?_
  refine t 9 (.bool false) ?_
  refine t 10 (.bool false) ?_
  refine gl_nil ?_
  refine ge_then ?_
  refine gc_no ?_
  refine gc_skip ?_
  refine ge_then ?_
  refine gc_seq ?_
  refine gc_reg ?_
  refine t 12 (.int .i64 6) ?_
  refine tr 13 (pq g5 24) (iaW g5 6 (by decide)) ?_
  refine tlr 14 [.bool true, .bool false, .bool false, .bool true] Xg5 24 ?_
  refine ts Xg2 0 (.agg #[.bool true, .bool false, .bool false, .bool true]) [.bool true, .bool false, .bool false, .bool true] [.bool true, .bool false, .bool false, .bool true] ?_
  intro v7 Y C
  replace BB := belowC BB C (by omega)
  replace Xg5 := Xg5.chg C (show g5 ≠ g2 by omega)
  clear C Xg2
  have Xg2 := Y
  clear Y
  refine gl_nil ?_
  refine ge_then ?_
  clear Xg5
  refine gc_ret ?_
  refine ge_ret (.agg #[.bool true, .bool false, .bool false, .bool true]) (rsc 2 (T := 61) (by kernel_rfl) (by kernel_rfl) (lr Xg2 0)) ?_
  exact ⟨rfl, BB⟩
theorem useOf_7 {w : World}  : Calls Try.prog 20 #[.int .i64 7] w fun e w' => e = .returned (.agg #[.bool false, .bool false, .bool false, .bool true]) ∧ Below w.heap.size w w' := by
  have BB := Below.refl w.heap.size w
  refine gc_enter (n := 15) Try.func20 rfl (by kernel_rfl) (by kernel_rfl) ?_
  refine gc_seq ?_
  refine gc_reg ?_
  refine ta 2 [.bool false, .bool false, .bool false, .bool false] 61 (pg) ?_
  intro v1 g2 Xg2 hg2 B
  have zg2 := Nat.le_trans BB.size hg2
  replace BB := joinB BB B
  clear B
  refine gl_nil ?_
  refine ge_then ?_
  refine gc_seq ?_
  refine gc_reg ?_
  refine tc 4 31 #[] (uses_any) ?_
  rintro _ v3 ⟨rfl, B⟩
  refine ⟨_, rfl, ?_⟩
  replace BB := joinB BB B
  replace Xg2 := Xg2.keep B
  clear B
  have lXg2 := Xg2.lt
  refine ta 3 [.bool false, .bool false, .bool false, .bool false, .bool false, .bool false, .bool false, .bool false, .bool false, .bool false, .bool false, .bool false, .bool false, .bool false, .bool false, .bool false, .bool false, .bool false, .bool false, .bool false, .bool false, .bool false, .bool false, .bool false, .bool false, .bool false, .bool false, .bool false, .bool false, .bool false, .bool false, .bool false, .bool false, .bool false, .bool false, .bool false, .bool false, .bool false, .bool false, .bool false, .bool false, .bool false, .bool false, .bool false] 78 (pg) ?_
  intro v4 g5 Xg5 hg5 B
  have zg5 := Nat.le_trans BB.size hg5
  replace BB := joinB BB B
  replace Xg2 := Xg2.keep B
  clear B
  refine ts Xg5 0 (.agg #[.bool false, .bool false, .bool false, .bool false, .bool true, .bool false, .bool true, .bool true, .bool true, .bool false, .bool true, .bool true, .bool true, .bool false, .bool true, .bool true, .bool true, .bool false, .bool true, .bool true, .bool true, .bool true, .bool true, .bool true, .bool true, .bool false, .bool false, .bool true, .bool false, .bool false, .bool false, .bool true, .bool false, .bool false, .bool false, .bool true, .bool false, .bool false, .bool true, .bool true, .bool true, .bool false, .bool true, .bool true]) [.bool false, .bool false, .bool false, .bool false, .bool true, .bool false, .bool true, .bool true, .bool true, .bool false, .bool true, .bool true, .bool true, .bool false, .bool true, .bool true, .bool true, .bool false, .bool true, .bool true, .bool true, .bool true, .bool true, .bool true, .bool true, .bool false, .bool false, .bool true, .bool false, .bool false, .bool false, .bool true, .bool false, .bool false, .bool false, .bool true, .bool false, .bool false, .bool true, .bool true, .bool true, .bool false, .bool true, .bool true] [.bool false, .bool false, .bool false, .bool false, .bool true, .bool false, .bool true, .bool true, .bool true, .bool false, .bool true, .bool true, .bool true, .bool false, .bool true, .bool true, .bool true, .bool false, .bool true, .bool true, .bool true, .bool true, .bool true, .bool true, .bool true, .bool false, .bool false, .bool true, .bool false, .bool false, .bool false, .bool true, .bool false, .bool false, .bool false, .bool true, .bool false, .bool false, .bool true, .bool true, .bool true, .bool false, .bool true, .bool true] ?_
  intro v6 Y C
  replace BB := belowC BB C (by omega)
  replace Xg2 := Xg2.chg C (show g2 ≠ g5 by omega)
  clear C Xg5
  have Xg5 := Y
  clear Y
  refine gl_nil ?_
  refine ge_then ?_
  refine gc_seq ?_
  refine gc_seq ?_
  refine gc_reg ?_
  refine t 5 (.int .i64 7) ?_
  refine t 6 (.bool false) ?_
  refine t 7 (.bool false) ?_
  refine t 8 (.int .i64 7) ?_
  refine t 9 (.bool false) ?_
  refine t 10 (.bool false) ?_
  refine gl_nil ?_
  refine ge_then ?_
  refine gc_no ?_
  refine gc_skip ?_
  refine ge_then ?_
  refine gc_seq ?_
  refine gc_reg ?_
  refine t 12 (.int .i64 7) ?_
  refine tr 13 (pq g5 28) (iaW g5 7 (by decide)) ?_
  refine tlr 14 [.bool false, .bool false, .bool false, .bool true] Xg5 28 ?_
  refine ts Xg2 0 (.agg #[.bool false, .bool false, .bool false, .bool true]) [.bool false, .bool false, .bool false, .bool true] [.bool false, .bool false, .bool false, .bool true] ?_
  intro v7 Y C
  replace BB := belowC BB C (by omega)
  replace Xg5 := Xg5.chg C (show g5 ≠ g2 by omega)
  clear C Xg2
  have Xg2 := Y
  clear Y
  refine gl_nil ?_
  refine ge_then ?_
  clear Xg5
  refine gc_ret ?_
  refine ge_ret (.agg #[.bool false, .bool false, .bool false, .bool true]) (rsc 2 (T := 61) (by kernel_rfl) (by kernel_rfl) (lr Xg2 0)) ?_
  exact ⟨rfl, BB⟩
theorem useOf_8 {w : World}  : Calls Try.prog 20 #[.int .i64 8] w fun e w' => e = .returned (.agg #[.bool false, .bool false, .bool false, .bool true]) ∧ Below w.heap.size w w' := by
  have BB := Below.refl w.heap.size w
  refine gc_enter (n := 15) Try.func20 rfl (by kernel_rfl) (by kernel_rfl) ?_
  refine gc_seq ?_
  refine gc_reg ?_
  refine ta 2 [.bool false, .bool false, .bool false, .bool false] 61 (pg) ?_
  intro v1 g2 Xg2 hg2 B
  have zg2 := Nat.le_trans BB.size hg2
  replace BB := joinB BB B
  clear B
  refine gl_nil ?_
  refine ge_then ?_
  refine gc_seq ?_
  refine gc_reg ?_
  refine tc 4 31 #[] (uses_any) ?_
  rintro _ v3 ⟨rfl, B⟩
  refine ⟨_, rfl, ?_⟩
  replace BB := joinB BB B
  replace Xg2 := Xg2.keep B
  clear B
  have lXg2 := Xg2.lt
  refine ta 3 [.bool false, .bool false, .bool false, .bool false, .bool false, .bool false, .bool false, .bool false, .bool false, .bool false, .bool false, .bool false, .bool false, .bool false, .bool false, .bool false, .bool false, .bool false, .bool false, .bool false, .bool false, .bool false, .bool false, .bool false, .bool false, .bool false, .bool false, .bool false, .bool false, .bool false, .bool false, .bool false, .bool false, .bool false, .bool false, .bool false, .bool false, .bool false, .bool false, .bool false, .bool false, .bool false, .bool false, .bool false] 78 (pg) ?_
  intro v4 g5 Xg5 hg5 B
  have zg5 := Nat.le_trans BB.size hg5
  replace BB := joinB BB B
  replace Xg2 := Xg2.keep B
  clear B
  refine ts Xg5 0 (.agg #[.bool false, .bool false, .bool false, .bool false, .bool true, .bool false, .bool true, .bool true, .bool true, .bool false, .bool true, .bool true, .bool true, .bool false, .bool true, .bool true, .bool true, .bool false, .bool true, .bool true, .bool true, .bool true, .bool true, .bool true, .bool true, .bool false, .bool false, .bool true, .bool false, .bool false, .bool false, .bool true, .bool false, .bool false, .bool false, .bool true, .bool false, .bool false, .bool true, .bool true, .bool true, .bool false, .bool true, .bool true]) [.bool false, .bool false, .bool false, .bool false, .bool true, .bool false, .bool true, .bool true, .bool true, .bool false, .bool true, .bool true, .bool true, .bool false, .bool true, .bool true, .bool true, .bool false, .bool true, .bool true, .bool true, .bool true, .bool true, .bool true, .bool true, .bool false, .bool false, .bool true, .bool false, .bool false, .bool false, .bool true, .bool false, .bool false, .bool false, .bool true, .bool false, .bool false, .bool true, .bool true, .bool true, .bool false, .bool true, .bool true] [.bool false, .bool false, .bool false, .bool false, .bool true, .bool false, .bool true, .bool true, .bool true, .bool false, .bool true, .bool true, .bool true, .bool false, .bool true, .bool true, .bool true, .bool false, .bool true, .bool true, .bool true, .bool true, .bool true, .bool true, .bool true, .bool false, .bool false, .bool true, .bool false, .bool false, .bool false, .bool true, .bool false, .bool false, .bool false, .bool true, .bool false, .bool false, .bool true, .bool true, .bool true, .bool false, .bool true, .bool true] ?_
  intro v6 Y C
  replace BB := belowC BB C (by omega)
  replace Xg2 := Xg2.chg C (show g2 ≠ g5 by omega)
  clear C Xg5
  have Xg5 := Y
  clear Y
  refine gl_nil ?_
  refine ge_then ?_
  refine gc_seq ?_
  refine gc_seq ?_
  refine gc_reg ?_
  refine t 5 (.int .i64 8) ?_
  refine t 6 (.bool false) ?_
  refine t 7 (.bool false) ?_
  refine t 8 (.int .i64 8) ?_
  refine t 9 (.bool false) ?_
  refine t 10 (.bool false) ?_
  refine gl_nil ?_
  refine ge_then ?_
  refine gc_no ?_
  refine gc_skip ?_
  refine ge_then ?_
  refine gc_seq ?_
  refine gc_reg ?_
  refine t 12 (.int .i64 8) ?_
  refine tr 13 (pq g5 32) (iaW g5 8 (by decide)) ?_
  refine tlr 14 [.bool false, .bool false, .bool false, .bool true] Xg5 32 ?_
  refine ts Xg2 0 (.agg #[.bool false, .bool false, .bool false, .bool true]) [.bool false, .bool false, .bool false, .bool true] [.bool false, .bool false, .bool false, .bool true] ?_
  intro v7 Y C
  replace BB := belowC BB C (by omega)
  replace Xg5 := Xg5.chg C (show g5 ≠ g2 by omega)
  clear C Xg2
  have Xg2 := Y
  clear Y
  refine gl_nil ?_
  refine ge_then ?_
  clear Xg5
  refine gc_ret ?_
  refine ge_ret (.agg #[.bool false, .bool false, .bool false, .bool true]) (rsc 2 (T := 61) (by kernel_rfl) (by kernel_rfl) (lr Xg2 0)) ?_
  exact ⟨rfl, BB⟩
theorem useOf_9 {w : World}  : Calls Try.prog 20 #[.int .i64 9] w fun e w' => e = .returned (.agg #[.bool false, .bool false, .bool true, .bool true]) ∧ Below w.heap.size w w' := by
  have BB := Below.refl w.heap.size w
  refine gc_enter (n := 15) Try.func20 rfl (by kernel_rfl) (by kernel_rfl) ?_
  refine gc_seq ?_
  refine gc_reg ?_
  refine ta 2 [.bool false, .bool false, .bool false, .bool false] 61 (pg) ?_
  intro v1 g2 Xg2 hg2 B
  have zg2 := Nat.le_trans BB.size hg2
  replace BB := joinB BB B
  clear B
  refine gl_nil ?_
  refine ge_then ?_
  refine gc_seq ?_
  refine gc_reg ?_
  refine tc 4 31 #[] (uses_any) ?_
  rintro _ v3 ⟨rfl, B⟩
  refine ⟨_, rfl, ?_⟩
  replace BB := joinB BB B
  replace Xg2 := Xg2.keep B
  clear B
  have lXg2 := Xg2.lt
  refine ta 3 [.bool false, .bool false, .bool false, .bool false, .bool false, .bool false, .bool false, .bool false, .bool false, .bool false, .bool false, .bool false, .bool false, .bool false, .bool false, .bool false, .bool false, .bool false, .bool false, .bool false, .bool false, .bool false, .bool false, .bool false, .bool false, .bool false, .bool false, .bool false, .bool false, .bool false, .bool false, .bool false, .bool false, .bool false, .bool false, .bool false, .bool false, .bool false, .bool false, .bool false, .bool false, .bool false, .bool false, .bool false] 78 (pg) ?_
  intro v4 g5 Xg5 hg5 B
  have zg5 := Nat.le_trans BB.size hg5
  replace BB := joinB BB B
  replace Xg2 := Xg2.keep B
  clear B
  refine ts Xg5 0 (.agg #[.bool false, .bool false, .bool false, .bool false, .bool true, .bool false, .bool true, .bool true, .bool true, .bool false, .bool true, .bool true, .bool true, .bool false, .bool true, .bool true, .bool true, .bool false, .bool true, .bool true, .bool true, .bool true, .bool true, .bool true, .bool true, .bool false, .bool false, .bool true, .bool false, .bool false, .bool false, .bool true, .bool false, .bool false, .bool false, .bool true, .bool false, .bool false, .bool true, .bool true, .bool true, .bool false, .bool true, .bool true]) [.bool false, .bool false, .bool false, .bool false, .bool true, .bool false, .bool true, .bool true, .bool true, .bool false, .bool true, .bool true, .bool true, .bool false, .bool true, .bool true, .bool true, .bool false, .bool true, .bool true, .bool true, .bool true, .bool true, .bool true, .bool true, .bool false, .bool false, .bool true, .bool false, .bool false, .bool false, .bool true, .bool false, .bool false, .bool false, .bool true, .bool false, .bool false, .bool true, .bool true, .bool true, .bool false, .bool true, .bool true] [.bool false, .bool false, .bool false, .bool false, .bool true, .bool false, .bool true, .bool true, .bool true, .bool false, .bool true, .bool true, .bool true, .bool false, .bool true, .bool true, .bool true, .bool false, .bool true, .bool true, .bool true, .bool true, .bool true, .bool true, .bool true, .bool false, .bool false, .bool true, .bool false, .bool false, .bool false, .bool true, .bool false, .bool false, .bool false, .bool true, .bool false, .bool false, .bool true, .bool true, .bool true, .bool false, .bool true, .bool true] ?_
  intro v6 Y C
  replace BB := belowC BB C (by omega)
  replace Xg2 := Xg2.chg C (show g2 ≠ g5 by omega)
  clear C Xg5
  have Xg5 := Y
  clear Y
  refine gl_nil ?_
  refine ge_then ?_
  refine gc_seq ?_
  refine gc_seq ?_
  refine gc_reg ?_
  refine t 5 (.int .i64 9) ?_
  refine t 6 (.bool false) ?_
  refine t 7 (.bool false) ?_
  refine t 8 (.int .i64 9) ?_
  refine t 9 (.bool false) ?_
  refine t 10 (.bool false) ?_
  refine gl_nil ?_
  refine ge_then ?_
  refine gc_no ?_
  refine gc_skip ?_
  refine ge_then ?_
  refine gc_seq ?_
  refine gc_reg ?_
  refine t 12 (.int .i64 9) ?_
  refine tr 13 (pq g5 36) (iaW g5 9 (by decide)) ?_
  refine tlr 14 [.bool false, .bool false, .bool true, .bool true] Xg5 36 ?_
  refine ts Xg2 0 (.agg #[.bool false, .bool false, .bool true, .bool true]) [.bool false, .bool false, .bool true, .bool true] [.bool false, .bool false, .bool true, .bool true] ?_
  intro v7 Y C
  replace BB := belowC BB C (by omega)
  replace Xg5 := Xg5.chg C (show g5 ≠ g2 by omega)
  clear C Xg2
  have Xg2 := Y
  clear Y
  refine gl_nil ?_
  refine ge_then ?_
  clear Xg5
  refine gc_ret ?_
  refine ge_ret (.agg #[.bool false, .bool false, .bool true, .bool true]) (rsc 2 (T := 61) (by kernel_rfl) (by kernel_rfl) (lr Xg2 0)) ?_
  exact ⟨rfl, BB⟩
theorem useOf_10 {w : World}  : Calls Try.prog 20 #[.int .i64 10] w fun e w' => e = .returned (.agg #[.bool true, .bool false, .bool true, .bool true]) ∧ Below w.heap.size w w' := by
  have BB := Below.refl w.heap.size w
  refine gc_enter (n := 15) Try.func20 rfl (by kernel_rfl) (by kernel_rfl) ?_
  refine gc_seq ?_
  refine gc_reg ?_
  refine ta 2 [.bool false, .bool false, .bool false, .bool false] 61 (pg) ?_
  intro v1 g2 Xg2 hg2 B
  have zg2 := Nat.le_trans BB.size hg2
  replace BB := joinB BB B
  clear B
  refine gl_nil ?_
  refine ge_then ?_
  refine gc_seq ?_
  refine gc_reg ?_
  refine tc 4 31 #[] (uses_any) ?_
  rintro _ v3 ⟨rfl, B⟩
  refine ⟨_, rfl, ?_⟩
  replace BB := joinB BB B
  replace Xg2 := Xg2.keep B
  clear B
  have lXg2 := Xg2.lt
  refine ta 3 [.bool false, .bool false, .bool false, .bool false, .bool false, .bool false, .bool false, .bool false, .bool false, .bool false, .bool false, .bool false, .bool false, .bool false, .bool false, .bool false, .bool false, .bool false, .bool false, .bool false, .bool false, .bool false, .bool false, .bool false, .bool false, .bool false, .bool false, .bool false, .bool false, .bool false, .bool false, .bool false, .bool false, .bool false, .bool false, .bool false, .bool false, .bool false, .bool false, .bool false, .bool false, .bool false, .bool false, .bool false] 78 (pg) ?_
  intro v4 g5 Xg5 hg5 B
  have zg5 := Nat.le_trans BB.size hg5
  replace BB := joinB BB B
  replace Xg2 := Xg2.keep B
  clear B
  refine ts Xg5 0 (.agg #[.bool false, .bool false, .bool false, .bool false, .bool true, .bool false, .bool true, .bool true, .bool true, .bool false, .bool true, .bool true, .bool true, .bool false, .bool true, .bool true, .bool true, .bool false, .bool true, .bool true, .bool true, .bool true, .bool true, .bool true, .bool true, .bool false, .bool false, .bool true, .bool false, .bool false, .bool false, .bool true, .bool false, .bool false, .bool false, .bool true, .bool false, .bool false, .bool true, .bool true, .bool true, .bool false, .bool true, .bool true]) [.bool false, .bool false, .bool false, .bool false, .bool true, .bool false, .bool true, .bool true, .bool true, .bool false, .bool true, .bool true, .bool true, .bool false, .bool true, .bool true, .bool true, .bool false, .bool true, .bool true, .bool true, .bool true, .bool true, .bool true, .bool true, .bool false, .bool false, .bool true, .bool false, .bool false, .bool false, .bool true, .bool false, .bool false, .bool false, .bool true, .bool false, .bool false, .bool true, .bool true, .bool true, .bool false, .bool true, .bool true] [.bool false, .bool false, .bool false, .bool false, .bool true, .bool false, .bool true, .bool true, .bool true, .bool false, .bool true, .bool true, .bool true, .bool false, .bool true, .bool true, .bool true, .bool false, .bool true, .bool true, .bool true, .bool true, .bool true, .bool true, .bool true, .bool false, .bool false, .bool true, .bool false, .bool false, .bool false, .bool true, .bool false, .bool false, .bool false, .bool true, .bool false, .bool false, .bool true, .bool true, .bool true, .bool false, .bool true, .bool true] ?_
  intro v6 Y C
  replace BB := belowC BB C (by omega)
  replace Xg2 := Xg2.chg C (show g2 ≠ g5 by omega)
  clear C Xg5
  have Xg5 := Y
  clear Y
  refine gl_nil ?_
  refine ge_then ?_
  refine gc_seq ?_
  refine gc_seq ?_
  refine gc_reg ?_
  refine t 5 (.int .i64 10) ?_
  refine t 6 (.bool false) ?_
  refine t 7 (.bool false) ?_
  refine t 8 (.int .i64 10) ?_
  refine t 9 (.bool false) ?_
  refine t 10 (.bool false) ?_
  refine gl_nil ?_
  refine ge_then ?_
  refine gc_no ?_
  refine gc_skip ?_
  refine ge_then ?_
  refine gc_seq ?_
  refine gc_reg ?_
  refine t 12 (.int .i64 10) ?_
  refine tr 13 (pq g5 40) (iaW g5 10 (by decide)) ?_
  refine tlr 14 [.bool true, .bool false, .bool true, .bool true] Xg5 40 ?_
  refine ts Xg2 0 (.agg #[.bool true, .bool false, .bool true, .bool true]) [.bool true, .bool false, .bool true, .bool true] [.bool true, .bool false, .bool true, .bool true] ?_
  intro v7 Y C
  replace BB := belowC BB C (by omega)
  replace Xg5 := Xg5.chg C (show g5 ≠ g2 by omega)
  clear C Xg2
  have Xg2 := Y
  clear Y
  refine gl_nil ?_
  refine ge_then ?_
  clear Xg5
  refine gc_ret ?_
  refine ge_ret (.agg #[.bool true, .bool false, .bool true, .bool true]) (rsc 2 (T := 61) (by kernel_rfl) (by kernel_rfl) (lr Xg2 0)) ?_
  exact ⟨rfl, BB⟩
theorem useOf_out {w : World} {k : Int} (hk : k < 0 ∨ 11 ≤ k) : Calls Try.prog 20 #[.int .i64 k] w fun e w' => e = .returned (.agg #[.bool false, .bool false, .bool false, .bool false]) ∧ Below w.heap.size w w' := by
  have BB := Below.refl w.heap.size w
  refine gc_enter (n := 15) Try.func20 rfl (by kernel_rfl) (by kernel_rfl) ?_
  refine gc_seq ?_
  refine gc_reg ?_
  refine ta 2 [.bool false, .bool false, .bool false, .bool false] 61 (pg) ?_
  intro v1 g2 Xg2 hg2 B
  have zg2 := Nat.le_trans BB.size hg2
  replace BB := joinB BB B
  clear B
  refine gl_nil ?_
  refine ge_then ?_
  refine gc_seq ?_
  refine gc_reg ?_
  refine tc 4 31 #[] (uses_any) ?_
  rintro _ v3 ⟨rfl, B⟩
  refine ⟨_, rfl, ?_⟩
  replace BB := joinB BB B
  replace Xg2 := Xg2.keep B
  clear B
  have lXg2 := Xg2.lt
  refine ta 3 [.bool false, .bool false, .bool false, .bool false, .bool false, .bool false, .bool false, .bool false, .bool false, .bool false, .bool false, .bool false, .bool false, .bool false, .bool false, .bool false, .bool false, .bool false, .bool false, .bool false, .bool false, .bool false, .bool false, .bool false, .bool false, .bool false, .bool false, .bool false, .bool false, .bool false, .bool false, .bool false, .bool false, .bool false, .bool false, .bool false, .bool false, .bool false, .bool false, .bool false, .bool false, .bool false, .bool false, .bool false] 78 (pg) ?_
  intro v4 g5 Xg5 hg5 B
  have zg5 := Nat.le_trans BB.size hg5
  replace BB := joinB BB B
  replace Xg2 := Xg2.keep B
  clear B
  refine ts Xg5 0 (.agg #[.bool false, .bool false, .bool false, .bool false, .bool true, .bool false, .bool true, .bool true, .bool true, .bool false, .bool true, .bool true, .bool true, .bool false, .bool true, .bool true, .bool true, .bool false, .bool true, .bool true, .bool true, .bool true, .bool true, .bool true, .bool true, .bool false, .bool false, .bool true, .bool false, .bool false, .bool false, .bool true, .bool false, .bool false, .bool false, .bool true, .bool false, .bool false, .bool true, .bool true, .bool true, .bool false, .bool true, .bool true]) [.bool false, .bool false, .bool false, .bool false, .bool true, .bool false, .bool true, .bool true, .bool true, .bool false, .bool true, .bool true, .bool true, .bool false, .bool true, .bool true, .bool true, .bool false, .bool true, .bool true, .bool true, .bool true, .bool true, .bool true, .bool true, .bool false, .bool false, .bool true, .bool false, .bool false, .bool false, .bool true, .bool false, .bool false, .bool false, .bool true, .bool false, .bool false, .bool true, .bool true, .bool true, .bool false, .bool true, .bool true] [.bool false, .bool false, .bool false, .bool false, .bool true, .bool false, .bool true, .bool true, .bool true, .bool false, .bool true, .bool true, .bool true, .bool false, .bool true, .bool true, .bool true, .bool false, .bool true, .bool true, .bool true, .bool true, .bool true, .bool true, .bool true, .bool false, .bool false, .bool true, .bool false, .bool false, .bool false, .bool true, .bool false, .bool false, .bool false, .bool true, .bool false, .bool false, .bool true, .bool true, .bool true, .bool false, .bool true, .bool true] ?_
  intro v6 Y C
  replace BB := belowC BB C (by omega)
  replace Xg2 := Xg2.chg C (show g2 ≠ g5 by omega)
  clear C Xg5
  have Xg5 := Y
  clear Y
  refine gl_nil ?_
  refine ge_then ?_
  refine gc_seq ?_
  refine gc_seq ?_
  refine gc_reg ?_
  refine t 5 (.int .i64 k) ?_
  by_cases c7 : (k : Int) < 0
  · refine tq 6 (.bool (decide ((k : Int) < 0))) (.bool true) (congrArg Value.bool (decide_eq_true c7)) ?_
    refine t 7 (.bool true) ?_
    refine tn 8 ?_
    refine tn 9 ?_
    refine t 10 (.bool true) ?_
    refine gl_nil ?_
    refine ge_then ?_
    refine gc_yes ?_
    refine gc_seq ?_
    refine gc_reg ?_
    refine t 11 (.agg #[.bool false, .bool false, .bool false, .bool false]) ?_
    refine ts Xg2 0 (.agg #[.bool false, .bool false, .bool false, .bool false]) [.bool false, .bool false, .bool false, .bool false] [.bool false, .bool false, .bool false, .bool false] ?_
    intro v8 Y C
    replace BB := belowC BB C (by omega)
    replace Xg5 := Xg5.chg C (show g5 ≠ g2 by omega)
    clear C Xg2
    have Xg2 := Y
    clear Y
    refine gl_nil ?_
    refine ge_then ?_
    refine gc_ret ?_
    refine ge_tr ?_
    refine ge_ret (.agg #[.bool false, .bool false, .bool false, .bool false]) (rsc 2 (T := 61) (by kernel_rfl) (by kernel_rfl) (lr Xg2 0)) ?_
    exact ⟨rfl, BB⟩
  · refine tq 6 (.bool (decide ((k : Int) < 0))) (.bool false) (congrArg Value.bool (decide_eq_false c7)) ?_
    refine t 7 (.bool false) ?_
    refine t 8 (.int .i64 k) ?_
    refine tq 9 (.bool (decide ((11 : Int) ≤ k))) (.bool true) (congrArg Value.bool (decide_eq_true (by omega))) ?_
    refine t 10 (.bool true) ?_
    refine gl_nil ?_
    refine ge_then ?_
    refine gc_yes ?_
    refine gc_seq ?_
    refine gc_reg ?_
    refine t 11 (.agg #[.bool false, .bool false, .bool false, .bool false]) ?_
    refine ts Xg2 0 (.agg #[.bool false, .bool false, .bool false, .bool false]) [.bool false, .bool false, .bool false, .bool false] [.bool false, .bool false, .bool false, .bool false] ?_
    intro v9 Y C
    replace BB := belowC BB C (by omega)
    replace Xg5 := Xg5.chg C (show g5 ≠ g2 by omega)
    clear C Xg2
    have Xg2 := Y
    clear Y
    refine gl_nil ?_
    refine ge_then ?_
    refine gc_ret ?_
    refine ge_tr ?_
    refine ge_ret (.agg #[.bool false, .bool false, .bool false, .bool false]) (rsc 2 (T := 61) (by kernel_rfl) (by kernel_rfl) (lr Xg2 0)) ?_
    exact ⟨rfl, BB⟩
theorem useOf_any {w : World} (k : Int) : Calls Try.prog 20 #[.int .i64 k] w fun e w' => e = .returned (.agg #[.bool (uA k), .bool (uB k), .bool (uN k), .bool (uK k)]) ∧ Below w.heap.size w w' := by
  by_cases h : k < 0 ∨ 11 ≤ k
  · have e : uA k = false ∧ uB k = false ∧ uN k = false ∧ uK k = false := by
      simp only [uA, uB, uN, uK, Bool.or_eq_false_iff, decide_eq_false_iff_not]
      omega
    rw [e.1, e.2.1, e.2.2.1, e.2.2.2]
    exact useOf_out h
  · have h2 : k = 0 ∨ k = 1 ∨ k = 2 ∨ k = 3 ∨ k = 4 ∨ k = 5 ∨ k = 6 ∨ k = 7 ∨ k = 8 ∨ k = 9 ∨ k = 10 := by omega
    rcases h2 with e | e | e | e | e | e | e | e | e | e | e <;> subst e
    · exact useOf_0
    · exact useOf_1
    · exact useOf_2
    · exact useOf_3
    · exact useOf_4
    · exact useOf_5
    · exact useOf_6
    · exact useOf_7
    · exact useOf_8
    · exact useOf_9
    · exact useOf_10
theorem both_any {w : World} (x0 x1 x2 x3 y0 y1 y2 y3 : Bool) : Calls Try.prog 39 #[.agg #[.bool x0, .bool x1, .bool x2, .bool x3], .agg #[.bool y0, .bool y1, .bool y2, .bool y3]] w fun e w' => e = .returned (.agg #[.bool (x0 && y0), .bool (x1 && y1), .bool (x2 && y2), .bool (x3 && y3)]) ∧ Below w.heap.size w w' := by
  have BB := Below.refl w.heap.size w
  refine gc_enter (n := 22) Try.func39 rfl (by kernel_rfl) (by kernel_rfl) ?_
  refine gc_seq ?_
  refine gc_reg ?_
  refine ta 2 [.bool x0, .bool x1, .bool x2, .bool x3] 61 (pg) ?_
  intro v1 g2 Xg2 hg2 B
  have zg2 := Nat.le_trans BB.size hg2
  replace BB := joinB BB B
  clear B
  have lXg2 := Xg2.lt
  refine ta 3 [.bool y0, .bool y1, .bool y2, .bool y3] 61 (pg) ?_
  intro v3 g4 Xg4 hg4 B
  have zg4 := Nat.le_trans BB.size hg4
  replace BB := joinB BB B
  replace Xg2 := Xg2.keep B
  clear B
  have lXg2 := Xg2.lt
  have lXg4 := Xg4.lt
  refine ta 4 [.bool false, .bool false, .bool false, .bool false] 61 (pg) ?_
  intro v5 g6 Xg6 hg6 B
  have zg6 := Nat.le_trans BB.size hg6
  replace BB := joinB BB B
  replace Xg2 := Xg2.keep B
  replace Xg4 := Xg4.keep B
  clear B
  refine gl_nil ?_
  refine ge_then ?_
  refine gc_seq ?_
  refine gc_reg ?_
  have lXg2 := Xg2.lt
  have lXg4 := Xg4.lt
  have lXg6 := Xg6.lt
  refine ta 5 [.bool false, .bool false, .bool false, .bool false] 61 (pg) ?_
  intro v7 g8 Xg8 hg8 B
  have zg8 := Nat.le_trans BB.size hg8
  replace BB := joinB BB B
  replace Xg2 := Xg2.keep B
  replace Xg4 := Xg4.keep B
  replace Xg6 := Xg6.keep B
  clear B
  refine gl_nil ?_
  refine ge_then ?_
  refine gc_seq ?_
  refine gc_seq ?_
  refine gc_reg ?_
  refine t 7 (.int .i64 0) ?_
  refine gl_nil ?_
  refine ge_then ?_
  refine gc_block ?_
  refine gc_rds 4 ?_
  refine gc_seq ?_
  refine gc_reg ?_
  refine t 8 (.bool true) ?_
  refine gl_nil ?_
  refine ge_then ?_
  refine gc_seq ?_
  refine gc_yes ?_
  refine gc_skip ?_
  refine ge_then ?_
  refine gc_join (fun (_ : Unit) => [(2, pg g2), (3, pg g4), (4, pg g6), (5, pg g8), (7, .int .i64 0)]) (fun (_ : Unit) W => Below w.heap.size w W ∧ Blk W g2 [.bool x0, .bool x1, .bool x2, .bool x3] 61 ∧ Blk W g4 [.bool y0, .bool y1, .bool y2, .bool y3] 61 ∧ Blk W g8 [.bool (x0 && y0), .bool false, .bool false, .bool false] 61 ∧ Blk W g6 [.bool false, .bool false, .bool false, .bool false] 61) ?_ ?_
  · refine gc_block ?_
    refine gc_seq ?_
    refine gc_reg ?_
    refine t 9 (.int .i64 0) ?_
    refine t 6 (.int .i64 0) ?_
    refine gl_nil ?_
    refine ge_then ?_
    refine gc_reg ?_
    refine t 10 (.int .i64 0) ?_
    refine t 11 (.int .i64 0) ?_
    refine tr 12 (pg g2) (iaU g2 0 (by decide)) ?_
    refine tl 13 (.bool x0) Xg2 0 ?_
    by_cases c9 : x0 = true
    · refine tq 14 (.bool x0) (.bool true) (congrArg Value.bool c9) ?_
      refine t 15 (.int .i64 0) ?_
      refine tr 16 (pg g4) (iaU g4 0 (by decide)) ?_
      refine tl 17 (.bool y0) Xg4 0 ?_
      refine t 18 (.bool y0) ?_
      refine tr 19 (pg g8) (iaU g8 0 (by decide)) ?_
      refine ts Xg8 0 (.bool y0) [.bool y0] [.bool y0, .bool false, .bool false, .bool false] ?_
      intro v10 Y C
      replace BB := belowC BB C (by omega)
      replace Xg2 := Xg2.chg C (show g2 ≠ g8 by omega)
      replace Xg4 := Xg4.chg C (show g4 ≠ g8 by omega)
      replace Xg6 := Xg6.chg C (show g6 ≠ g8 by omega)
      clear C Xg8
      have Xg8 := Y
      clear Y
      refine gl_nil ?_
      refine ge_bn ?_
      exact ge_join () ⟨BB, Xg2, Xg4, (by rw [show (x0 && y0) = y0 by rw [c9, Bool.true_and]]; exact Xg8), Xg6⟩ (by kernel_rfl)
    · refine tq 14 (.bool x0) (.bool false) (congrArg Value.bool (Bool.eq_false_iff.2 c9)) ?_
      refine tn 15 ?_
      refine tn 16 ?_
      refine tn 17 ?_
      refine t 18 (.bool false) ?_
      refine tr 19 (pg g8) (iaU g8 0 (by decide)) ?_
      refine ts Xg8 0 (.bool false) [.bool false] [.bool false, .bool false, .bool false, .bool false] ?_
      intro v11 Y C
      replace BB := belowC BB C (by omega)
      replace Xg2 := Xg2.chg C (show g2 ≠ g8 by omega)
      replace Xg4 := Xg4.chg C (show g4 ≠ g8 by omega)
      replace Xg6 := Xg6.chg C (show g6 ≠ g8 by omega)
      clear C Xg8
      have Xg8 := Y
      clear Y
      refine gl_nil ?_
      refine ge_bn ?_
      exact ge_join () ⟨BB, Xg2, Xg4, (by rw [show (x0 && y0) = false by rw [Bool.eq_false_iff.2 c9, Bool.false_and]]; exact Xg8), Xg6⟩ (by kernel_rfl)
  clear BB Xg2 Xg4 Xg8 Xg6
  rintro _ v12 ⟨BB, Xg2, Xg4, Xg8, Xg6⟩
  refine gc_reg ?_
  refine t 20 (.int .i64 1) ?_
  refine t 7 (.int .i64 1) ?_
  refine gl_nil ?_
  refine ge_rd ?_
  refine gc_fr [(2, pg g2), (3, pg g4), (4, pg g6), (5, pg g8), (7, .int .i64 1), (20, .int .i64 1)] (by kernel_rfl) ?_
  refine gc_seq ?_
  refine gc_reg ?_
  refine t 8 (.bool true) ?_
  refine gl_nil ?_
  refine ge_then ?_
  refine gc_seq ?_
  refine gc_yes ?_
  refine gc_skip ?_
  refine ge_then ?_
  refine gc_join (fun (_ : Unit) => [(2, pg g2), (3, pg g4), (4, pg g6), (5, pg g8), (7, .int .i64 1)]) (fun (_ : Unit) W => Below w.heap.size w W ∧ Blk W g2 [.bool x0, .bool x1, .bool x2, .bool x3] 61 ∧ Blk W g4 [.bool y0, .bool y1, .bool y2, .bool y3] 61 ∧ Blk W g8 [.bool (x0 && y0), .bool (x1 && y1), .bool false, .bool false] 61 ∧ Blk W g6 [.bool false, .bool false, .bool false, .bool false] 61) ?_ ?_
  · refine gc_block ?_
    refine gc_seq ?_
    refine gc_reg ?_
    refine t 9 (.int .i64 1) ?_
    refine t 6 (.int .i64 1) ?_
    refine gl_nil ?_
    refine ge_then ?_
    refine gc_reg ?_
    refine t 10 (.int .i64 1) ?_
    refine t 11 (.int .i64 1) ?_
    refine tr 12 (pq g2 1) (iaU g2 1 (by decide)) ?_
    refine tl 13 (.bool x1) Xg2 1 ?_
    by_cases c13 : x1 = true
    · refine tq 14 (.bool x1) (.bool true) (congrArg Value.bool c13) ?_
      refine t 15 (.int .i64 1) ?_
      refine tr 16 (pq g4 1) (iaU g4 1 (by decide)) ?_
      refine tl 17 (.bool y1) Xg4 1 ?_
      refine t 18 (.bool y1) ?_
      refine tr 19 (pq g8 1) (iaU g8 1 (by decide)) ?_
      refine ts Xg8 1 (.bool y1) [.bool y1] [.bool (x0 && y0), .bool y1, .bool false, .bool false] ?_
      intro v14 Y C
      replace BB := belowC BB C (by omega)
      replace Xg2 := Xg2.chg C (show g2 ≠ g8 by omega)
      replace Xg4 := Xg4.chg C (show g4 ≠ g8 by omega)
      replace Xg6 := Xg6.chg C (show g6 ≠ g8 by omega)
      clear C Xg8
      have Xg8 := Y
      clear Y
      refine gl_nil ?_
      refine ge_bn ?_
      exact ge_join () ⟨BB, Xg2, Xg4, (by rw [show (x1 && y1) = y1 by rw [c13, Bool.true_and]]; exact Xg8), Xg6⟩ (by kernel_rfl)
    · refine tq 14 (.bool x1) (.bool false) (congrArg Value.bool (Bool.eq_false_iff.2 c13)) ?_
      refine tn 15 ?_
      refine tn 16 ?_
      refine tn 17 ?_
      refine t 18 (.bool false) ?_
      refine tr 19 (pq g8 1) (iaU g8 1 (by decide)) ?_
      refine ts Xg8 1 (.bool false) [.bool false] [.bool (x0 && y0), .bool false, .bool false, .bool false] ?_
      intro v15 Y C
      replace BB := belowC BB C (by omega)
      replace Xg2 := Xg2.chg C (show g2 ≠ g8 by omega)
      replace Xg4 := Xg4.chg C (show g4 ≠ g8 by omega)
      replace Xg6 := Xg6.chg C (show g6 ≠ g8 by omega)
      clear C Xg8
      have Xg8 := Y
      clear Y
      refine gl_nil ?_
      refine ge_bn ?_
      exact ge_join () ⟨BB, Xg2, Xg4, (by rw [show (x1 && y1) = false by rw [Bool.eq_false_iff.2 c13, Bool.false_and]]; exact Xg8), Xg6⟩ (by kernel_rfl)
  clear BB Xg2 Xg4 Xg8 Xg6
  rintro _ v16 ⟨BB, Xg2, Xg4, Xg8, Xg6⟩
  refine gc_reg ?_
  refine t 20 (.int .i64 2) ?_
  refine t 7 (.int .i64 2) ?_
  refine gl_nil ?_
  refine ge_rd ?_
  refine gc_fr [(2, pg g2), (3, pg g4), (4, pg g6), (5, pg g8), (7, .int .i64 2), (20, .int .i64 2)] (by kernel_rfl) ?_
  refine gc_seq ?_
  refine gc_reg ?_
  refine t 8 (.bool true) ?_
  refine gl_nil ?_
  refine ge_then ?_
  refine gc_seq ?_
  refine gc_yes ?_
  refine gc_skip ?_
  refine ge_then ?_
  refine gc_join (fun (_ : Unit) => [(2, pg g2), (3, pg g4), (4, pg g6), (5, pg g8), (7, .int .i64 2)]) (fun (_ : Unit) W => Below w.heap.size w W ∧ Blk W g2 [.bool x0, .bool x1, .bool x2, .bool x3] 61 ∧ Blk W g4 [.bool y0, .bool y1, .bool y2, .bool y3] 61 ∧ Blk W g8 [.bool (x0 && y0), .bool (x1 && y1), .bool (x2 && y2), .bool false] 61 ∧ Blk W g6 [.bool false, .bool false, .bool false, .bool false] 61) ?_ ?_
  · refine gc_block ?_
    refine gc_seq ?_
    refine gc_reg ?_
    refine t 9 (.int .i64 2) ?_
    refine t 6 (.int .i64 2) ?_
    refine gl_nil ?_
    refine ge_then ?_
    refine gc_reg ?_
    refine t 10 (.int .i64 2) ?_
    refine t 11 (.int .i64 2) ?_
    refine tr 12 (pq g2 2) (iaU g2 2 (by decide)) ?_
    refine tl 13 (.bool x2) Xg2 2 ?_
    by_cases c17 : x2 = true
    · refine tq 14 (.bool x2) (.bool true) (congrArg Value.bool c17) ?_
      refine t 15 (.int .i64 2) ?_
      refine tr 16 (pq g4 2) (iaU g4 2 (by decide)) ?_
      refine tl 17 (.bool y2) Xg4 2 ?_
      refine t 18 (.bool y2) ?_
      refine tr 19 (pq g8 2) (iaU g8 2 (by decide)) ?_
      refine ts Xg8 2 (.bool y2) [.bool y2] [.bool (x0 && y0), .bool (x1 && y1), .bool y2, .bool false] ?_
      intro v18 Y C
      replace BB := belowC BB C (by omega)
      replace Xg2 := Xg2.chg C (show g2 ≠ g8 by omega)
      replace Xg4 := Xg4.chg C (show g4 ≠ g8 by omega)
      replace Xg6 := Xg6.chg C (show g6 ≠ g8 by omega)
      clear C Xg8
      have Xg8 := Y
      clear Y
      refine gl_nil ?_
      refine ge_bn ?_
      exact ge_join () ⟨BB, Xg2, Xg4, (by rw [show (x2 && y2) = y2 by rw [c17, Bool.true_and]]; exact Xg8), Xg6⟩ (by kernel_rfl)
    · refine tq 14 (.bool x2) (.bool false) (congrArg Value.bool (Bool.eq_false_iff.2 c17)) ?_
      refine tn 15 ?_
      refine tn 16 ?_
      refine tn 17 ?_
      refine t 18 (.bool false) ?_
      refine tr 19 (pq g8 2) (iaU g8 2 (by decide)) ?_
      refine ts Xg8 2 (.bool false) [.bool false] [.bool (x0 && y0), .bool (x1 && y1), .bool false, .bool false] ?_
      intro v19 Y C
      replace BB := belowC BB C (by omega)
      replace Xg2 := Xg2.chg C (show g2 ≠ g8 by omega)
      replace Xg4 := Xg4.chg C (show g4 ≠ g8 by omega)
      replace Xg6 := Xg6.chg C (show g6 ≠ g8 by omega)
      clear C Xg8
      have Xg8 := Y
      clear Y
      refine gl_nil ?_
      refine ge_bn ?_
      exact ge_join () ⟨BB, Xg2, Xg4, (by rw [show (x2 && y2) = false by rw [Bool.eq_false_iff.2 c17, Bool.false_and]]; exact Xg8), Xg6⟩ (by kernel_rfl)
  clear BB Xg2 Xg4 Xg8 Xg6
  rintro _ v20 ⟨BB, Xg2, Xg4, Xg8, Xg6⟩
  refine gc_reg ?_
  refine t 20 (.int .i64 3) ?_
  refine t 7 (.int .i64 3) ?_
  refine gl_nil ?_
  refine ge_rd ?_
  refine gc_fr [(2, pg g2), (3, pg g4), (4, pg g6), (5, pg g8), (7, .int .i64 3), (20, .int .i64 3)] (by kernel_rfl) ?_
  refine gc_seq ?_
  refine gc_reg ?_
  refine t 8 (.bool true) ?_
  refine gl_nil ?_
  refine ge_then ?_
  refine gc_seq ?_
  refine gc_yes ?_
  refine gc_skip ?_
  refine ge_then ?_
  refine gc_join (fun (_ : Unit) => [(2, pg g2), (3, pg g4), (4, pg g6), (5, pg g8), (7, .int .i64 3)]) (fun (_ : Unit) W => Below w.heap.size w W ∧ Blk W g2 [.bool x0, .bool x1, .bool x2, .bool x3] 61 ∧ Blk W g4 [.bool y0, .bool y1, .bool y2, .bool y3] 61 ∧ Blk W g8 [.bool (x0 && y0), .bool (x1 && y1), .bool (x2 && y2), .bool (x3 && y3)] 61 ∧ Blk W g6 [.bool false, .bool false, .bool false, .bool false] 61) ?_ ?_
  · refine gc_block ?_
    refine gc_seq ?_
    refine gc_reg ?_
    refine t 9 (.int .i64 3) ?_
    refine t 6 (.int .i64 3) ?_
    refine gl_nil ?_
    refine ge_then ?_
    refine gc_reg ?_
    refine t 10 (.int .i64 3) ?_
    refine t 11 (.int .i64 3) ?_
    refine tr 12 (pq g2 3) (iaU g2 3 (by decide)) ?_
    refine tl 13 (.bool x3) Xg2 3 ?_
    by_cases c21 : x3 = true
    · refine tq 14 (.bool x3) (.bool true) (congrArg Value.bool c21) ?_
      refine t 15 (.int .i64 3) ?_
      refine tr 16 (pq g4 3) (iaU g4 3 (by decide)) ?_
      refine tl 17 (.bool y3) Xg4 3 ?_
      refine t 18 (.bool y3) ?_
      refine tr 19 (pq g8 3) (iaU g8 3 (by decide)) ?_
      refine ts Xg8 3 (.bool y3) [.bool y3] [.bool (x0 && y0), .bool (x1 && y1), .bool (x2 && y2), .bool y3] ?_
      intro v22 Y C
      replace BB := belowC BB C (by omega)
      replace Xg2 := Xg2.chg C (show g2 ≠ g8 by omega)
      replace Xg4 := Xg4.chg C (show g4 ≠ g8 by omega)
      replace Xg6 := Xg6.chg C (show g6 ≠ g8 by omega)
      clear C Xg8
      have Xg8 := Y
      clear Y
      refine gl_nil ?_
      refine ge_bn ?_
      exact ge_join () ⟨BB, Xg2, Xg4, (by rw [show (x3 && y3) = y3 by rw [c21, Bool.true_and]]; exact Xg8), Xg6⟩ (by kernel_rfl)
    · refine tq 14 (.bool x3) (.bool false) (congrArg Value.bool (Bool.eq_false_iff.2 c21)) ?_
      refine tn 15 ?_
      refine tn 16 ?_
      refine tn 17 ?_
      refine t 18 (.bool false) ?_
      refine tr 19 (pq g8 3) (iaU g8 3 (by decide)) ?_
      refine ts Xg8 3 (.bool false) [.bool false] [.bool (x0 && y0), .bool (x1 && y1), .bool (x2 && y2), .bool false] ?_
      intro v23 Y C
      replace BB := belowC BB C (by omega)
      replace Xg2 := Xg2.chg C (show g2 ≠ g8 by omega)
      replace Xg4 := Xg4.chg C (show g4 ≠ g8 by omega)
      replace Xg6 := Xg6.chg C (show g6 ≠ g8 by omega)
      clear C Xg8
      have Xg8 := Y
      clear Y
      refine gl_nil ?_
      refine ge_bn ?_
      exact ge_join () ⟨BB, Xg2, Xg4, (by rw [show (x3 && y3) = false by rw [Bool.eq_false_iff.2 c21, Bool.false_and]]; exact Xg8), Xg6⟩ (by kernel_rfl)
  clear BB Xg2 Xg4 Xg8 Xg6
  rintro _ v24 ⟨BB, Xg2, Xg4, Xg8, Xg6⟩
  refine gc_reg ?_
  refine t 20 (.int .i64 4) ?_
  refine t 7 (.int .i64 4) ?_
  refine gl_nil ?_
  refine ge_rd ?_
  refine gc_fr [(2, pg g2), (3, pg g4), (4, pg g6), (5, pg g8), (7, .int .i64 4), (20, .int .i64 4)] (by kernel_rfl) ?_
  refine gc_seq ?_
  refine gc_reg ?_
  refine t 8 (.bool false) ?_
  refine gl_nil ?_
  refine ge_then ?_
  refine gc_seq ?_
  refine gc_no ?_
  refine gc_exit ?_
  refine ge_tx ?_
  refine ge_tx ?_
  refine ge_bx ?_
  refine ge_then ?_
  clear Xg2
  clear Xg4
  refine gc_seq ?_
  refine gc_reg ?_
  refine tlr 21 [.bool (x0 && y0), .bool (x1 && y1), .bool (x2 && y2), .bool (x3 && y3)] Xg8 0 ?_
  refine ts Xg6 0 (.agg #[.bool (x0 && y0), .bool (x1 && y1), .bool (x2 && y2), .bool (x3 && y3)]) [.bool (x0 && y0), .bool (x1 && y1), .bool (x2 && y2), .bool (x3 && y3)] [.bool (x0 && y0), .bool (x1 && y1), .bool (x2 && y2), .bool (x3 && y3)] ?_
  intro v25 Y C
  replace BB := belowC BB C (by omega)
  replace Xg8 := Xg8.chg C (show g8 ≠ g6 by omega)
  clear C Xg6
  have Xg6 := Y
  clear Y
  refine gl_nil ?_
  refine ge_then ?_
  clear Xg8
  refine gc_ret ?_
  refine ge_ret (.agg #[.bool (x0 && y0), .bool (x1 && y1), .bool (x2 && y2), .bool (x3 && y3)]) (rsc 4 (T := 61) (by kernel_rfl) (by kernel_rfl) (lr Xg6 0)) ?_
  exact ⟨rfl, BB⟩
end Mg
end Go.Proofs.Ytgfglfpckjkcdaa

namespace Go.Proofs.Ytgfglfpckjkcdaa
namespace Mg
open Go.RowKit Go.Lib Pg Lim Gl
set_option maxRecDepth 100000
set_option linter.unusedVariables false
set_option linter.unusedSimpArgs false
set_option maxHeartbeats 2000000
theorem okM_eq (m a b n : Int) : ((((a != 0) && uA m) == (a != 0)) && ((((b != 0) && uB m) == (b != 0)) && ((((n != 0) && uN m) == (n != 0)) && ((true && uK m) == true)))) = okM m a b n := by
  unfold okM
  by_cases ha : a = 0 <;> by_cases hb : b = 0 <;> by_cases hn : n = 0 <;> cases uA m <;> cases uB m <;> cases uN m <;> cases uK m <;> simp [ha, hb, hn]
theorem ok1 {i : It} (h : i.k = 1) (f : i.z = 0 ∧ i.v = 0 ∧ i.h = 0) : okM i.m i.a i.b i.n = decide (Ok i) := by
  rw [Bool.eq_iff_iff, decide_eq_true_iff]
  exact ⟨fun o => .inl ⟨h, f, o⟩, fun o => o.elim (fun q => q.2.2) (fun q => by have := q.1; omega)⟩
theorem ok2 {i : It} (h : i.k = 1) (f : ¬ (i.z = 0 ∧ i.v = 0 ∧ i.h = 0)) : false = decide (Ok i) := by
  symm
  rw [decide_eq_false_iff_not]
  exact fun o => o.elim (fun q => f q.2.1) (fun q => by have := q.1; omega)
abbrev NT (i : It) : Prop := i.s = 0 ∧ i.q = 0 ∧ i.f = 0 ∧ i.m = 0 ∧ i.a = 0 ∧ i.b = 0 ∧ i.n = 0
theorem ok3 {i : It} (h : i.k = 2) (t : NT i) (z0 : 0 ≤ i.z) (z1 : i.z ≤ 255) : true = decide (Ok i) := by
  symm
  rw [decide_eq_true_iff]
  exact .inr ⟨h, t, z0, z1⟩
theorem ok4 {i : It} (h : i.k = 2) (t : NT i → 0 ≤ i.z → ¬ i.z ≤ 255) : false = decide (Ok i) := by
  symm
  rw [decide_eq_false_iff_not]
  exact fun o => o.elim (fun q => by have := q.1; omega) (fun q => t q.2.1 q.2.2.1 q.2.2.2)
theorem ok5 {i : It} (h : ¬ i.k = 1) (h2 : ¬ i.k = 2) : false = decide (Ok i) := by
  symm
  rw [decide_eq_false_iff_not]
  exact fun o => o.elim (fun q => h q.1) (fun q => h2 q.1)
theorem Ok.msg {i : It} (h : Ok i) (k : i.k = 1) : okM i.m i.a i.b i.n = true := h.elim (fun q => q.2.2) (fun q => by have := q.1; omega)
theorem Ok.two {i : It} (h : Ok i) (k : ¬ i.k = 1) : i.k = 2 ∧ 0 ≤ i.z ∧ i.z < 256 := h.elim (fun q => absurd q.1 k) (fun q => ⟨q.1, q.2.2.1, by have := q.2.2.2; omega⟩)
theorem okM_byte {m a b n : Int} (h : okM m a b n = true) : 0 ≤ m ∧ m < 256 := by
  have := uK_rng (okM_is h).1
  omega
def bsT (i : It) : List Int := be 1 84 ++ (be 8 i.s ++ (be 8 i.q ++ (be 8 i.f ++ bsM i.m i.a i.b i.n)))
def bsF (i : It) : List Int := be 1 70 ++ (be 1 i.z ++ (be 8 i.v ++ be 8 i.h))
theorem bs_t {i : It} (h : i.k = 1) : [] ++ bsT i = bs i := by unfold bs; rw [if_pos h]; rfl
theorem bs_f {i : It} (h : ¬ i.k = 1) : [] ++ bsF i = bs i := by unfold bs; rw [if_neg h]; rfl
theorem rq_t {c : Bool} {s s' : St} {x : Int} (h : c = true) (e : rU 8 s = (x, s')) : rQ c s = (x, s') := by unfold rQ; rw [if_pos h]; exact e
theorem rq_f {c : Bool} {s : St} (h : c = false) : rQ c s = (0, s) := by unfold rQ; rw [if_neg (by rw [h]; decide)]
theorem rM_mk {s s0 s1 s2 s3 : St} {k a b n : Int} (e0 : rU 1 s = (k, s0)) (e1 : rQ (uA k) s0 = (a, s1)) (e2 : rQ (uB k) s1 = (b, s2)) (e3 : rQ (uN k) s2 = (n, s3)) : rM s = ((k, a, b, n), s3) := by
  simp only [rM, e0, e1, e2, e3]
theorem rT_mk {s s0 s1 s2 s3 : St} {x y z m a b n : Int} (e0 : rU 8 s = (x, s0)) (e1 : rU 8 s0 = (y, s1)) (e2 : rU 8 s1 = (z, s2)) (e3 : rM s2 = ((m, a, b, n), s3)) : rT s = (⟨1, x, y, z, m, a, b, n, 0, 0, 0⟩, s3) := by
  simp only [rT, e0, e1, e2, e3]
theorem rF_mk {s s0 s1 s2 : St} {x y z : Int} (e0 : rU 1 s = (x, s0)) (e1 : rU 8 s0 = (y, s1)) (e2 : rU 8 s1 = (z, s2)) : rF s = (⟨2, 0, 0, 0, 0, 0, 0, 0, x, y, z⟩, s2) := by
  simp only [rF, e0, e1, e2]
theorem rI_t {s s0 : St} {x : Int} {p : It × St} (e0 : rU 1 s = (x, s0)) (h : x = 84) (e : rT s0 = p) : rI s = p := by
  simp only [rI, e0, if_pos h, e]
theorem rI_f {s s0 : St} {x : Int} {p : It × St} (e0 : rU 1 s = (x, s0)) (h : x = 70) (e : rF s0 = p) : rI s = p := by
  simp only [rI, e0]
  rw [if_neg (by omega), if_pos h, e]
theorem rI_o {s s0 : St} {x : Int} (e0 : rU 1 s = (x, s0)) (h : ¬ x = 84) (h2 : ¬ x = 70) : rI s = (It.zero, s0) := by
  simp only [rI, e0]
  rw [if_neg h, if_neg h2]
theorem dI_1 {l : List Int} (h : 1024 < l.length) : (It.zero, (171 : Int)) = dI l := by unfold dI; rw [if_pos h]
theorem dI_2 {l : List Int} {i : It} {s : St} (h : ¬ 1024 < l.length) (e : rI (0, l) = (i, s)) (q : ¬ (endE s.1 s.2 = 0 ∧ Ok i)) : (It.zero, (170 : Int)) = dI l := by unfold dI; rw [if_neg h, e, if_neg q]
theorem dI_3 {l : List Int} {i : It} {s : St} (h : ¬ 1024 < l.length) (e : rI (0, l) = (i, s)) (q : endE s.1 s.2 = 0 ∧ Ok i) : (i, (0 : Int)) = dI l := by unfold dI; rw [if_neg h, e, if_pos q]
theorem rs3 {P : Program} {n : Nat} {l : Fr} {w : World} {fn : Func} (i j k : Nat) {t u v : Value} (h : fn.results = #[.tmp i, .tmp j, .tmp k]) (ht : lk l i = some t) (hu : lk l j = some u) (hv : lk l k = some v) (a : Act) (r : Rd n [] l a) : (results fn a.tmps).run P w = .ok (.tuple #[t, u, v]) w := by
  have h0 := r.gD ht
  have h1 := r.gD hu
  have h2 := r.gD hv
  simp at h0 h1 h2
  simp [results, h, h0, h1, h2]
theorem RdA.len {w : World} {g b : Nat} {err : Int} {l : List Int} (h : RdA w g b err l) : l.length ≤ 9223372036854775807 := by
  obtain ⟨ao, n, c, X, A⟩ := h.ex
  obtain ⟨o, h1, h2, h3, h4, h5⟩ := A.ex
  have := h3.1
  omega
theorem isMsg_any {w : World} (m a b n : Int) : Calls Try.prog 26 #[.agg #[.int .i64 m, .int .u64 a, .int .u64 b, .int .u64 n]] w fun e w' => e = .returned (.bool (okM m a b n)) ∧ Below w.heap.size w w' := by
  have BB := Below.refl w.heap.size w
  refine gc_enter (n := 21) Try.func26 rfl (by kernel_rfl) (by kernel_rfl) ?_
  refine gc_seq ?_
  refine gc_reg ?_
  refine ta 1 [.int .i64 m, .int .u64 a, .int .u64 b, .int .u64 n] 24 (pg) ?_
  intro v1 g2 Xg2 hg2 B
  have zg2 := Nat.le_trans BB.size hg2
  replace BB := joinB BB B
  clear B
  refine t 2 (.bool false) ?_
  refine gl_nil ?_
  refine ge_then ?_
  refine gc_seq ?_
  refine gc_reg ?_
  refine t 4 (pq g2 1) ?_
  refine tl 5 (.int .u64 a) Xg2 1 ?_
  refine tq 6 (.bool (a != 0)) (.bool (a != 0)) (rfl) ?_
  refine t 7 (pq g2 2) ?_
  refine tl 8 (.int .u64 b) Xg2 2 ?_
  refine tq 9 (.bool (b != 0)) (.bool (b != 0)) (rfl) ?_
  refine t 10 (pq g2 3) ?_
  refine tl 11 (.int .u64 n) Xg2 3 ?_
  refine tq 12 (.bool (n != 0)) (.bool (n != 0)) (rfl) ?_
  refine t 13 (.agg #[.bool (a != 0), .bool (b != 0), .bool (n != 0), .bool true]) ?_
  have lXg2 := Xg2.lt
  refine ta 3 [.bool false, .bool false, .bool false, .bool false] 61 (pg) ?_
  intro v3 g4 Xg4 hg4 B
  have zg4 := Nat.le_trans BB.size hg4
  replace BB := joinB BB B
  replace Xg2 := Xg2.keep B
  clear B
  refine ts Xg4 0 (.agg #[.bool (a != 0), .bool (b != 0), .bool (n != 0), .bool true]) [.bool (a != 0), .bool (b != 0), .bool (n != 0), .bool true] [.bool (a != 0), .bool (b != 0), .bool (n != 0), .bool true] ?_
  intro v5 Y C
  replace BB := belowC BB C (by omega)
  replace Xg2 := Xg2.chg C (show g2 ≠ g4 by omega)
  clear C Xg4
  have Xg4 := Y
  clear Y
  refine gl_nil ?_
  refine ge_then ?_
  refine gc_seq ?_
  replace BB := BB.drew
  replace Xg2 := Xg2.drew
  replace Xg4 := Xg4.drew
  refine gc_draw (fun w' => Blk w' g4 [.bool (a != 0), .bool (b != 0), .bool (n != 0), .bool true] 61 ∧ Blk w' g2 [.int .i64 m, .int .u64 a, .int .u64 b, .int .u64 n] 24) (fun _ => false) ⟨Xg4, Xg2⟩ ?_
  refine zlr 0 14 [.bool (a != 0), .bool (b != 0), .bool (n != 0), .bool true] (fun _ h => h.1) 0 ?_
  refine z 1 15 (pg g2) ?_
  refine zl 2 16 (.int .i64 m) (fun _ h => h.2) 0 ?_
  refine zlr 5 19 [.bool (a != 0), .bool (b != 0), .bool (n != 0), .bool true] (fun _ h => h.1) 0 ?_
  refine zc 3 17 20 #[.int .i64 m] (useOf_any m) ?_
  rintro _ v6 ⟨rfl, B⟩
  replace BB := joinB BB B
  replace Xg2 := Xg2.keep B
  replace Xg4 := Xg4.keep B
  clear B
  refine ⟨_, rfl, ⟨Xg4, Xg2⟩, ?_⟩
  refine zc 4 18 39 #[.agg #[.bool (a != 0), .bool (b != 0), .bool (n != 0), .bool true], .agg #[.bool (uA m), .bool (uB m), .bool (uN m), .bool (uK m)]] (both_any (a != 0) (b != 0) (n != 0) true (uA m) (uB m) (uN m) (uK m)) ?_
  rintro _ v7 ⟨rfl, B⟩
  replace BB := joinB BB B
  replace Xg2 := Xg2.keep B
  replace Xg4 := Xg4.keep B
  clear B
  refine ⟨_, rfl, ⟨Xg4, Xg2⟩, ?_⟩
  refine zr 6 20 (.bool ((((a != 0) && (uA m)) == (a != 0)) && ((((b != 0) && (uB m)) == (b != 0)) && ((((n != 0) && (uN m)) == (n != 0)) && (((true && (uK m)) == true)))))) (fun _ _ => eqU ((a != 0) && (uA m)) ((b != 0) && (uB m)) ((n != 0) && (uN m)) (true && (uK m)) (a != 0) (b != 0) (n != 0) true) ?_
  refine z 7 2 (.bool ((((a != 0) && (uA m)) == (a != 0)) && ((((b != 0) && (uB m)) == (b != 0)) && ((((n != 0) && (uN m)) == (n != 0)) && (((true && (uK m)) == true)))))) ?_
  refine gz_done ?_
  refine ge_then ?_
  clear Xg2
  clear Xg4
  refine gc_fr [(2, .bool ((((a != 0) && (uA m)) == (a != 0)) && ((((b != 0) && (uB m)) == (b != 0)) && ((((n != 0) && (uN m)) == (n != 0)) && (((true && (uK m)) == true))))))] (by kernel_rfl) ?_
  refine gc_ret ?_
  refine ge_ret (.bool ((((a != 0) && (uA m)) == (a != 0)) && ((((b != 0) && (uB m)) == (b != 0)) && ((((n != 0) && (uN m)) == (n != 0)) && (((true && (uK m)) == true)))))) (rs1 2 (by kernel_rfl) (by kernel_rfl)) ?_
  exact ⟨congrArg (fun b => Ending.returned (.bool b)) (okM_eq m a b n), BB⟩
theorem isItem_any {w : World} (i : It) : Calls Try.prog 15 #[.agg #[.int .i64 i.k, .int .u64 i.s, .int .u64 i.q, .int .u64 i.f, .int .i64 i.m, .int .u64 i.a, .int .u64 i.b, .int .u64 i.n, .int .i64 i.z, .int .u64 i.v, .int .u64 i.h]] w fun e w' => e = .returned (.bool (decide (Ok i))) ∧ Below w.heap.size w w' := by
  have BB := Below.refl w.heap.size w
  refine gc_enter (n := 35) Try.func15 rfl (by kernel_rfl) (by kernel_rfl) ?_
  refine gc_seq ?_
  refine gc_reg ?_
  refine ta 1 [.int .i64 i.k, .int .u64 i.s, .int .u64 i.q, .int .u64 i.f, .int .i64 i.m, .int .u64 i.a, .int .u64 i.b, .int .u64 i.n, .int .i64 i.z, .int .u64 i.v, .int .u64 i.h] 30 (pg) ?_
  intro v1 g2 Xg2 hg2 B
  have zg2 := Nat.le_trans BB.size hg2
  replace BB := joinB BB B
  clear B
  refine t 2 (.bool false) ?_
  refine gl_nil ?_
  refine ge_then ?_
  refine gc_seq ?_
  refine gc_seq ?_
  refine gc_reg ?_
  refine t 3 (pg g2) ?_
  refine tl 4 (.int .i64 i.k) Xg2 0 ?_
  refine gl_nil ?_
  refine ge_then ?_
  refine gc_block ?_
  refine gc_seq ?_
  refine gc_reg ?_
  by_cases c3 : (i.k : Int) = 1
  · refine tq 6 (.bool ((i.k : Int) == 1)) (.bool true) (congrArg Value.bool (beq_iff_eq.2 c3)) ?_
    refine t 5 (.bool true) ?_
    refine gl_nil ?_
    refine ge_then ?_
    refine gc_yes ?_
    refine gc_seq ?_
    refine gc_reg ?_
    refine t 7 (pq g2 8) ?_
    refine tlr 8 [.int .i64 i.z, .int .u64 i.v, .int .u64 i.h] Xg2 8 ?_
    refine t 9 (.agg #[.int .i64 0, .int .u64 0, .int .u64 0]) ?_
    by_cases c4 : i.z = 0 ∧ i.v = 0 ∧ i.h = 0
    · refine tr 10 (.bool true) (congr_v (congrArg Value.bool (decide_eq_true c4)) (eqF i.z i.v i.h 0 0 0)) ?_
      refine t 11 (.bool true) ?_
      refine t 12 (pq g2 1) ?_
      refine t 13 (pq g2 4) ?_
      refine tlr 14 [.int .i64 i.m, .int .u64 i.a, .int .u64 i.b, .int .u64 i.n] Xg2 4 ?_
      refine tc 15 26 #[.agg #[.int .i64 i.m, .int .u64 i.a, .int .u64 i.b, .int .u64 i.n]] (isMsg_any i.m i.a i.b i.n) ?_
      rintro _ v5 ⟨rfl, B⟩
      refine ⟨_, rfl, ?_⟩
      replace BB := joinB BB B
      replace Xg2 := Xg2.keep B
      clear B
      refine t 16 (.bool (okM i.m i.a i.b i.n)) ?_
      refine t 2 (.bool (okM i.m i.a i.b i.n)) ?_
      refine gl_nil ?_
      refine ge_then ?_
      clear Xg2
      refine gc_fr [(2, .bool (okM i.m i.a i.b i.n))] (by kernel_rfl) ?_
      refine gc_ret ?_
      refine ge_br ?_
      refine ge_tr ?_
      refine ge_ret (.bool (okM i.m i.a i.b i.n)) (rs1 2 (by kernel_rfl) (by kernel_rfl)) ?_
      exact ⟨congrArg (fun b => Ending.returned (.bool b)) (ok1 c3 c4), BB⟩
    · refine tr 10 (.bool false) (congr_v (congrArg Value.bool (decide_eq_false c4)) (eqF i.z i.v i.h 0 0 0)) ?_
      refine t 11 (.bool false) ?_
      refine tn 12 ?_
      refine tn 13 ?_
      refine tn 14 ?_
      refine tn 15 ?_
      refine t 16 (.bool false) ?_
      refine t 2 (.bool false) ?_
      refine gl_nil ?_
      refine ge_then ?_
      clear Xg2
      refine gc_fr [(2, .bool false)] (by kernel_rfl) ?_
      refine gc_ret ?_
      refine ge_br ?_
      refine ge_tr ?_
      refine ge_ret (.bool false) (rs1 2 (by kernel_rfl) (by kernel_rfl)) ?_
      exact ⟨congrArg (fun b => Ending.returned (.bool b)) (ok2 c3 c4), BB⟩
  · refine tq 6 (.bool ((i.k : Int) == 1)) (.bool false) (congrArg Value.bool (beq_eq_false_iff_ne.2 c3)) ?_
    refine t 5 (.bool false) ?_
    refine gl_nil ?_
    refine ge_then ?_
    refine gc_no ?_
    refine gc_seq ?_
    refine gc_reg ?_
    by_cases c6 : (i.k : Int) = 2
    · refine tq 18 (.bool ((i.k : Int) == 2)) (.bool true) (congrArg Value.bool (beq_iff_eq.2 c6)) ?_
      refine t 17 (.bool true) ?_
      refine gl_nil ?_
      refine ge_then ?_
      refine gc_yes ?_
      refine gc_seq ?_
      refine gc_reg ?_
      refine t 19 (pq g2 1) ?_
      refine tlr 20 [.int .u64 i.s, .int .u64 i.q, .int .u64 i.f, .int .i64 i.m, .int .u64 i.a, .int .u64 i.b, .int .u64 i.n] Xg2 1 ?_
      refine t 21 (.agg #[.int .u64 0, .int .u64 0, .int .u64 0, .int .i64 0, .int .u64 0, .int .u64 0, .int .u64 0]) ?_
      by_cases c7 : i.s = 0 ∧ i.q = 0 ∧ i.f = 0 ∧ i.m = 0 ∧ i.a = 0 ∧ i.b = 0 ∧ i.n = 0
      · refine tr 22 (.bool true) (congr_v (congrArg Value.bool (decide_eq_true c7)) (eqT i.s i.q i.f i.m i.a i.b i.n)) ?_
        refine t 23 (.bool true) ?_
        refine t 24 (pq g2 8) ?_
        refine t 25 (pq g2 8) ?_
        refine tl 26 (.int .i64 i.z) Xg2 8 ?_
        by_cases c8 : (0 : Int) ≤ i.z
        · refine tq 27 (.bool (decide ((0 : Int) ≤ i.z))) (.bool true) (congrArg Value.bool (decide_eq_true c8)) ?_
          refine t 28 (.bool true) ?_
          refine t 29 (.bool true) ?_
          refine t 30 (pq g2 8) ?_
          refine t 31 (pq g2 8) ?_
          refine tl 32 (.int .i64 i.z) Xg2 8 ?_
          by_cases c9 : (i.z : Int) ≤ 255
          · refine tq 33 (.bool (decide ((i.z : Int) ≤ 255))) (.bool true) (congrArg Value.bool (decide_eq_true c9)) ?_
            refine t 34 (.bool true) ?_
            refine t 2 (.bool true) ?_
            refine gl_nil ?_
            refine ge_then ?_
            clear Xg2
            refine gc_fr [(2, .bool true)] (by kernel_rfl) ?_
            refine gc_ret ?_
            refine ge_br ?_
            refine ge_tr ?_
            refine ge_ret (.bool true) (rs1 2 (by kernel_rfl) (by kernel_rfl)) ?_
            exact ⟨congrArg (fun b => Ending.returned (.bool b)) (ok3 c6 c7 c8 c9), BB⟩
          · refine tq 33 (.bool (decide ((i.z : Int) ≤ 255))) (.bool false) (congrArg Value.bool (decide_eq_false c9)) ?_
            refine t 34 (.bool false) ?_
            refine t 2 (.bool false) ?_
            refine gl_nil ?_
            refine ge_then ?_
            clear Xg2
            refine gc_fr [(2, .bool false)] (by kernel_rfl) ?_
            refine gc_ret ?_
            refine ge_br ?_
            refine ge_tr ?_
            refine ge_ret (.bool false) (rs1 2 (by kernel_rfl) (by kernel_rfl)) ?_
            exact ⟨congrArg (fun b => Ending.returned (.bool b)) (ok4 c6 (fun _ _ => c9)), BB⟩
        · refine tq 27 (.bool (decide ((0 : Int) ≤ i.z))) (.bool false) (congrArg Value.bool (decide_eq_false c8)) ?_
          refine t 28 (.bool false) ?_
          refine t 29 (.bool false) ?_
          refine tn 30 ?_
          refine tn 31 ?_
          refine tn 32 ?_
          refine tn 33 ?_
          refine t 34 (.bool false) ?_
          refine t 2 (.bool false) ?_
          refine gl_nil ?_
          refine ge_then ?_
          clear Xg2
          refine gc_fr [(2, .bool false)] (by kernel_rfl) ?_
          refine gc_ret ?_
          refine ge_br ?_
          refine ge_tr ?_
          refine ge_ret (.bool false) (rs1 2 (by kernel_rfl) (by kernel_rfl)) ?_
          exact ⟨congrArg (fun b => Ending.returned (.bool b)) (ok4 c6 (fun _ q => absurd q c8)), BB⟩
      · refine tr 22 (.bool false) (congr_v (congrArg Value.bool (decide_eq_false c7)) (eqT i.s i.q i.f i.m i.a i.b i.n)) ?_
        refine t 23 (.bool false) ?_
        refine tn 24 ?_
        refine tn 25 ?_
        refine tn 26 ?_
        refine tn 27 ?_
        refine t 28 (.bool false) ?_
        refine t 29 (.bool false) ?_
        refine tn 30 ?_
        refine tn 31 ?_
        refine tn 32 ?_
        refine tn 33 ?_
        refine t 34 (.bool false) ?_
        refine t 2 (.bool false) ?_
        refine gl_nil ?_
        refine ge_then ?_
        clear Xg2
        refine gc_fr [(2, .bool false)] (by kernel_rfl) ?_
        refine gc_ret ?_
        refine ge_br ?_
        refine ge_tr ?_
        refine ge_ret (.bool false) (rs1 2 (by kernel_rfl) (by kernel_rfl)) ?_
        exact ⟨congrArg (fun b => Ending.returned (.bool b)) (ok4 c6 (fun q => absurd q c7)), BB⟩
    · refine tq 18 (.bool ((i.k : Int) == 2)) (.bool false) (congrArg Value.bool (beq_eq_false_iff_ne.2 c6)) ?_
      refine t 17 (.bool false) ?_
      refine gl_nil ?_
      refine ge_then ?_
      refine gc_no ?_
      refine gc_skip ?_
      refine ge_bn ?_
      refine ge_then ?_
      clear Xg2
      refine gc_seq ?_
      refine gc_reg ?_
      refine t 2 (.bool false) ?_
      refine gl_nil ?_
      refine ge_then ?_
      refine gc_ret ?_
      refine ge_ret (.bool false) (rs1 2 (by kernel_rfl) (by kernel_rfl)) ?_
      exact ⟨congrArg (fun b => Ending.returned (.bool b)) (ok5 c3 c6), BB⟩
theorem isItem_t {w : World} {i : It} (h : Ok i) : Calls Try.prog 15 #[.agg #[.int .i64 i.k, .int .u64 i.s, .int .u64 i.q, .int .u64 i.f, .int .i64 i.m, .int .u64 i.a, .int .u64 i.b, .int .u64 i.n, .int .i64 i.z, .int .u64 i.v, .int .u64 i.h]] w fun e w' => e = .returned (.bool true) ∧ Below w.heap.size w w' := by
  have := isItem_any (w := w) i
  rw [decide_eq_true h] at this
  exact this
theorem isItem_f {w : World} {i : It} (h : ¬ Ok i) : Calls Try.prog 15 #[.agg #[.int .i64 i.k, .int .u64 i.s, .int .u64 i.q, .int .u64 i.f, .int .i64 i.m, .int .u64 i.a, .int .u64 i.b, .int .u64 i.n, .int .i64 i.z, .int .u64 i.v, .int .u64 i.h]] w fun e w' => e = .returned (.bool false) ∧ Below w.heap.size w w' := by
  have := isItem_any (w := w) i
  rw [decide_eq_false h] at this
  exact this
theorem Uses_any {w : World} (k : Int) : Calls Try.prog 9 #[.int .i64 k] w fun e w' => e = .returned (.tuple #[.bool (uA k), .bool (uB k), .bool (uN k)]) ∧ Below w.heap.size w w' := by
  have BB := Below.refl w.heap.size w
  refine gc_enter (n := 14) Try.func9 rfl (by kernel_rfl) (by kernel_rfl) ?_
  refine gc_seq ?_
  refine gc_reg ?_
  refine t 2 (.bool false) ?_
  refine t 3 (.bool false) ?_
  refine t 4 (.bool false) ?_
  refine gl_nil ?_
  refine ge_then ?_
  refine gc_seq ?_
  refine gc_reg ?_
  refine t 6 (.int .i64 k) ?_
  refine tc 7 20 #[.int .i64 k] (useOf_any k) ?_
  rintro _ v1 ⟨rfl, B⟩
  refine ⟨_, rfl, ?_⟩
  replace BB := joinB BB B
  clear B
  refine ta 5 [.bool false, .bool false, .bool false, .bool false] 61 (pg) ?_
  intro v2 g3 Xg3 hg3 B
  have zg3 := Nat.le_trans BB.size hg3
  replace BB := joinB BB B
  clear B
  refine ts Xg3 0 (.agg #[.bool (uA k), .bool (uB k), .bool (uN k), .bool (uK k)]) [.bool (uA k), .bool (uB k), .bool (uN k), .bool (uK k)] [.bool (uA k), .bool (uB k), .bool (uN k), .bool (uK k)] ?_
  intro v4 Y C
  replace BB := belowC BB C (by omega)
  clear C Xg3
  have Xg3 := Y
  clear Y
  refine gl_nil ?_
  refine ge_then ?_
  refine gc_seq ?_
  replace BB := BB.drew
  replace Xg3 := Xg3.drew
  refine gc_draw (fun w' => Blk w' g3 [.bool (uA k), .bool (uB k), .bool (uN k), .bool (uK k)] 61) (fun _ => false) Xg3 ?_
  refine zr 0 8 (pg g3) (fun _ _ => iaU g3 0 (by decide)) ?_
  refine zl 1 9 (.bool (uA k)) (fun _ h => h) 0 ?_
  refine zr 2 10 (pq g3 1) (fun _ _ => iaU g3 1 (by decide)) ?_
  refine zl 3 11 (.bool (uB k)) (fun _ h => h) 1 ?_
  refine zr 4 12 (pq g3 2) (fun _ _ => iaU g3 2 (by decide)) ?_
  refine zl 5 13 (.bool (uN k)) (fun _ h => h) 2 ?_
  refine z 6 2 (.bool (uA k)) ?_
  refine z 7 3 (.bool (uB k)) ?_
  refine z 8 4 (.bool (uN k)) ?_
  refine gz_done ?_
  refine ge_then ?_
  clear Xg3
  refine gc_fr [(2, .bool (uA k)), (3, .bool (uB k)), (4, .bool (uN k))] (by kernel_rfl) ?_
  refine gc_ret ?_
  refine ge_ret (.tuple #[.bool (uA k), .bool (uB k), .bool (uN k)]) (rs3 2 3 4 (by kernel_rfl) (by kernel_rfl) (by kernel_rfl) (by kernel_rfl)) ?_
  exact ⟨rfl, BB⟩
theorem putMsg_any {w : World} {g : Nat} {L : List Int} {m a b n : Int} (WR : WrA w g 0 L) (hL : L.length ≤ 900) (ho : okM m a b n = true) : Calls Try.prog 29 #[pg g, .agg #[.int .i64 m, .int .u64 a, .int .u64 b, .int .u64 n]] w fun e w' => e = .returned (.tuple #[]) ∧ WrA w' g 0 (L ++ bsM m a b n) ∧ But g w w' := by
  have BU := But.refl g w
  have lWR := WR.lt
  refine gc_enter (n := 33) Try.func29 rfl (by kernel_rfl) (by kernel_rfl) ?_
  refine gc_seq ?_
  refine gc_reg ?_
  have lWR := WR.lt
  refine ta 3 [.int .i64 m, .int .u64 a, .int .u64 b, .int .u64 n] 24 (pg) ?_
  intro v1 g2 Xg2 hg2 B
  have zg2 := Nat.le_trans BU.size hg2
  replace BU := BU.trans (But.of B)
  replace WR := WR.keep B
  clear B
  refine gl_nil ?_
  refine ge_then ?_
  refine gc_seq ?_
  refine gc_reg ?_
  refine t 7 (pg g) ?_
  refine t 8 (pg g2) ?_
  refine tl 9 (.int .i64 m) Xg2 0 ?_
  refine tr 10 (.int .u8 m) (cv_iu m (okM_byte ho)) ?_
  refine tc 11 27 #[pg g, .int .u8 m] (zW8 WR (okM_byte ho) (by omega)) ?_
  rintro _ v3 ⟨rfl, WX, U⟩
  refine ⟨_, rfl, ?_⟩
  replace BU := BU.trans U
  replace Xg2 := But.blk U Xg2 (show g2 ≠ g by omega)
  clear U
  clear WR
  have WR := WX
  clear WX
  refine gl_nil ?_
  refine ge_then ?_
  refine gc_seq ?_
  refine gc_reg ?_
  refine t 12 (pg g2) ?_
  refine tl 13 (.int .i64 m) Xg2 0 ?_
  refine tc 14 20 #[.int .i64 m] (useOf_any m) ?_
  rintro _ v4 ⟨rfl, B⟩
  refine ⟨_, rfl, ?_⟩
  replace BU := BU.trans (But.of B)
  replace WR := WR.keep B
  replace Xg2 := Xg2.keep B
  clear B
  have lWR := WR.lt
  have lXg2 := Xg2.lt
  refine ta 4 [.bool false, .bool false, .bool false, .bool false] 61 (pg) ?_
  intro v5 g6 Xg6 hg6 B
  have zg6 := Nat.le_trans BU.size hg6
  replace BU := BU.trans (But.of B)
  replace WR := WR.keep B
  replace Xg2 := Xg2.keep B
  clear B
  refine ts Xg6 0 (.agg #[.bool (uA m), .bool (uB m), .bool (uN m), .bool (uK m)]) [.bool (uA m), .bool (uB m), .bool (uN m), .bool (uK m)] [.bool (uA m), .bool (uB m), .bool (uN m), .bool (uK m)] ?_
  intro v7 Y C
  replace BU := butC BU C (by omega)
  replace WR := WrA.offB WR Xg6 (by decide) (by omega) (chg_but C)
  replace Xg2 := Xg2.chg C (show g2 ≠ g6 by omega)
  clear C Xg6
  have Xg6 := Y
  clear Y
  refine gl_nil ?_
  refine ge_then ?_
  refine gc_seq ?_
  refine gc_reg ?_
  refine t 15 (pq g2 1) ?_
  refine tl 16 (.int .u64 a) Xg2 1 ?_
  refine t 17 (pq g2 2) ?_
  refine tl 18 (.int .u64 b) Xg2 2 ?_
  refine t 19 (pq g2 3) ?_
  refine tl 20 (.int .u64 n) Xg2 3 ?_
  refine t 21 (.agg #[.int .u64 a, .int .u64 b, .int .u64 n]) ?_
  refine t 22 (.int .i64 0) ?_
  refine gl_nil ?_
  refine ge_then ?_
  clear Xg2
  refine gc_fr [(0, pg g), (4, pg g6), (21, .agg #[.int .u64 a, .int .u64 b, .int .u64 n]), (22, .int .i64 0)] (by kernel_rfl) ?_
  refine gc_block ?_
  refine gc_rds 3 ?_
  refine gc_seq ?_
  refine gc_reg ?_
  refine t 23 (.bool true) ?_
  refine gl_nil ?_
  refine ge_then ?_
  refine gc_seq ?_
  refine gc_yes ?_
  refine gc_skip ?_
  refine ge_then ?_
  refine gc_seq ?_
  refine gc_block ?_
  refine gc_seq ?_
  refine gc_reg ?_
  refine t 24 (.int .i64 0) ?_
  refine tr 25 (.int .u64 a) (ixV a b n 0 a rfl) ?_
  refine t 5 (.int .i64 0) ?_
  refine t 6 (.int .u64 a) ?_
  refine gl_nil ?_
  refine ge_then ?_
  refine gc_seq ?_
  refine gc_reg ?_
  refine t 26 (.int .i64 0) ?_
  refine tr 27 (pg g6) (iaU g6 0 (by decide)) ?_
  refine tl 28 (.bool (uA m)) Xg6 0 ?_
  refine gl_nil ?_
  refine ge_then ?_
  rcases Bool.eq_false_or_eq_true (uA m) with b8 | b8
  · refine gc_yes (hc := congrArg Value.bool b8) ?_
    refine gc_reg ?_
    refine t 29 (pg g) ?_
    refine t 30 (.int .u64 a) ?_
    refine tc 31 28 #[pg g, .int .u64 a] (zW64 WR (by simp only [len1, len8]; omega)) ?_
    rintro _ v9 ⟨rfl, WX, U⟩
    refine ⟨_, rfl, ?_⟩
    replace BU := BU.trans U
    replace Xg6 := But.blk U Xg6 (show g6 ≠ g by omega)
    clear U
    clear WR
    have WR := WX
    clear WX
    refine gl_nil ?_
    refine ge_bn ?_
    refine ge_then ?_
    refine gc_reg ?_
    refine t 32 (.int .i64 1) ?_
    refine t 22 (.int .i64 1) ?_
    refine gl_nil ?_
    refine ge_rd ?_
    refine gc_fr [(0, pg g), (4, pg g6), (5, .int .i64 0), (6, .int .u64 a), (21, .agg #[.int .u64 a, .int .u64 b, .int .u64 n]), (22, .int .i64 1), (23, .bool true), (24, .int .i64 0), (25, .int .u64 a), (26, .int .i64 0), (27, pg g6), (28, .bool (uA m)), (29, pg g), (30, .int .u64 a), (32, .int .i64 1)] (by kernel_rfl) ?_
    refine gc_seq ?_
    refine gc_reg ?_
    refine t 23 (.bool true) ?_
    refine gl_nil ?_
    refine ge_then ?_
    refine gc_seq ?_
    refine gc_yes ?_
    refine gc_skip ?_
    refine ge_then ?_
    refine gc_seq ?_
    refine gc_block ?_
    refine gc_seq ?_
    refine gc_reg ?_
    refine t 24 (.int .i64 1) ?_
    refine tr 25 (.int .u64 b) (ixV a b n 1 b rfl) ?_
    refine t 5 (.int .i64 1) ?_
    refine t 6 (.int .u64 b) ?_
    refine gl_nil ?_
    refine ge_then ?_
    refine gc_seq ?_
    refine gc_reg ?_
    refine t 26 (.int .i64 1) ?_
    refine tr 27 (pq g6 1) (iaU g6 1 (by decide)) ?_
    refine tl 28 (.bool (uB m)) Xg6 1 ?_
    refine gl_nil ?_
    refine ge_then ?_
    rcases Bool.eq_false_or_eq_true (uB m) with b10 | b10
    · refine gc_yes (hc := congrArg Value.bool b10) ?_
      refine gc_reg ?_
      refine t 29 (pg g) ?_
      refine t 30 (.int .u64 b) ?_
      refine tc 31 28 #[pg g, .int .u64 b] (zW64 WR (by simp only [len1, len8]; omega)) ?_
      rintro _ v11 ⟨rfl, WX, U⟩
      refine ⟨_, rfl, ?_⟩
      replace BU := BU.trans U
      replace Xg6 := But.blk U Xg6 (show g6 ≠ g by omega)
      clear U
      clear WR
      have WR := WX
      clear WX
      refine gl_nil ?_
      refine ge_bn ?_
      refine ge_then ?_
      refine gc_reg ?_
      refine t 32 (.int .i64 2) ?_
      refine t 22 (.int .i64 2) ?_
      refine gl_nil ?_
      refine ge_rd ?_
      refine gc_fr [(0, pg g), (4, pg g6), (5, .int .i64 1), (6, .int .u64 b), (21, .agg #[.int .u64 a, .int .u64 b, .int .u64 n]), (22, .int .i64 2), (23, .bool true), (24, .int .i64 1), (25, .int .u64 b), (26, .int .i64 1), (27, pq g6 1), (28, .bool (uB m)), (29, pg g), (30, .int .u64 b), (32, .int .i64 2)] (by kernel_rfl) ?_
      refine gc_seq ?_
      refine gc_reg ?_
      refine t 23 (.bool true) ?_
      refine gl_nil ?_
      refine ge_then ?_
      refine gc_seq ?_
      refine gc_yes ?_
      refine gc_skip ?_
      refine ge_then ?_
      refine gc_seq ?_
      refine gc_block ?_
      refine gc_seq ?_
      refine gc_reg ?_
      refine t 24 (.int .i64 2) ?_
      refine tr 25 (.int .u64 n) (ixV a b n 2 n rfl) ?_
      refine t 5 (.int .i64 2) ?_
      refine t 6 (.int .u64 n) ?_
      refine gl_nil ?_
      refine ge_then ?_
      refine gc_seq ?_
      refine gc_reg ?_
      refine t 26 (.int .i64 2) ?_
      refine tr 27 (pq g6 2) (iaU g6 2 (by decide)) ?_
      refine tl 28 (.bool (uN m)) Xg6 2 ?_
      refine gl_nil ?_
      refine ge_then ?_
      rcases Bool.eq_false_or_eq_true (uN m) with b12 | b12
      · refine gc_yes (hc := congrArg Value.bool b12) ?_
        refine gc_reg ?_
        refine t 29 (pg g) ?_
        refine t 30 (.int .u64 n) ?_
        refine tc 31 28 #[pg g, .int .u64 n] (zW64 WR (by simp only [len1, len8]; omega)) ?_
        rintro _ v13 ⟨rfl, WX, U⟩
        refine ⟨_, rfl, ?_⟩
        replace BU := BU.trans U
        replace Xg6 := But.blk U Xg6 (show g6 ≠ g by omega)
        clear U
        clear WR
        have WR := WX
        clear WX
        refine gl_nil ?_
        refine ge_bn ?_
        refine ge_then ?_
        refine gc_reg ?_
        refine t 32 (.int .i64 3) ?_
        refine t 22 (.int .i64 3) ?_
        refine gl_nil ?_
        refine ge_rd ?_
        refine gc_fr [(0, pg g), (4, pg g6), (5, .int .i64 2), (6, .int .u64 n), (21, .agg #[.int .u64 a, .int .u64 b, .int .u64 n]), (22, .int .i64 3), (23, .bool true), (24, .int .i64 2), (25, .int .u64 n), (26, .int .i64 2), (27, pq g6 2), (28, .bool (uN m)), (29, pg g), (30, .int .u64 n), (32, .int .i64 3)] (by kernel_rfl) ?_
        refine gc_seq ?_
        refine gc_reg ?_
        refine t 23 (.bool false) ?_
        refine gl_nil ?_
        refine ge_then ?_
        refine gc_seq ?_
        refine gc_no ?_
        refine gc_exit ?_
        refine ge_tx ?_
        refine ge_tx ?_
        refine ge_bx ?_
        refine ge_end (.tuple #[]) (rs0 (by kernel_rfl)) ?_
        have e : L ++ bsM m a b n = (L ++ be 1 m ++ be 8 a ++ be 8 b ++ be 8 n) := by simp only [bsM, opt, b8, b10, b12, if_true, Bool.false_eq_true, if_false, List.append_nil, List.nil_append, List.append_assoc]
        rw [e]
        exact ⟨rfl, WR, BU⟩
      · refine gc_no (hc := congrArg Value.bool b12) ?_
        refine gc_skip ?_
        refine ge_bn ?_
        refine ge_then ?_
        refine gc_reg ?_
        refine t 32 (.int .i64 3) ?_
        refine t 22 (.int .i64 3) ?_
        refine gl_nil ?_
        refine ge_rd ?_
        refine gc_fr [(0, pg g), (4, pg g6), (5, .int .i64 2), (6, .int .u64 n), (21, .agg #[.int .u64 a, .int .u64 b, .int .u64 n]), (22, .int .i64 3), (23, .bool true), (24, .int .i64 2), (25, .int .u64 n), (26, .int .i64 2), (27, pq g6 2), (28, .bool (uN m)), (29, pg g), (30, .int .u64 b), (32, .int .i64 3)] (by kernel_rfl) ?_
        refine gc_seq ?_
        refine gc_reg ?_
        refine t 23 (.bool false) ?_
        refine gl_nil ?_
        refine ge_then ?_
        refine gc_seq ?_
        refine gc_no ?_
        refine gc_exit ?_
        refine ge_tx ?_
        refine ge_tx ?_
        refine ge_bx ?_
        refine ge_end (.tuple #[]) (rs0 (by kernel_rfl)) ?_
        have e : L ++ bsM m a b n = (L ++ be 1 m ++ be 8 a ++ be 8 b) := by simp only [bsM, opt, b8, b10, b12, if_true, Bool.false_eq_true, if_false, List.append_nil, List.nil_append, List.append_assoc]
        rw [e]
        exact ⟨rfl, WR, BU⟩
    · refine gc_no (hc := congrArg Value.bool b10) ?_
      refine gc_skip ?_
      refine ge_bn ?_
      refine ge_then ?_
      refine gc_reg ?_
      refine t 32 (.int .i64 2) ?_
      refine t 22 (.int .i64 2) ?_
      refine gl_nil ?_
      refine ge_rd ?_
      refine gc_fr [(0, pg g), (4, pg g6), (5, .int .i64 1), (6, .int .u64 b), (21, .agg #[.int .u64 a, .int .u64 b, .int .u64 n]), (22, .int .i64 2), (23, .bool true), (24, .int .i64 1), (25, .int .u64 b), (26, .int .i64 1), (27, pq g6 1), (28, .bool (uB m)), (29, pg g), (30, .int .u64 a), (32, .int .i64 2)] (by kernel_rfl) ?_
      refine gc_seq ?_
      refine gc_reg ?_
      refine t 23 (.bool true) ?_
      refine gl_nil ?_
      refine ge_then ?_
      refine gc_seq ?_
      refine gc_yes ?_
      refine gc_skip ?_
      refine ge_then ?_
      refine gc_seq ?_
      refine gc_block ?_
      refine gc_seq ?_
      refine gc_reg ?_
      refine t 24 (.int .i64 2) ?_
      refine tr 25 (.int .u64 n) (ixV a b n 2 n rfl) ?_
      refine t 5 (.int .i64 2) ?_
      refine t 6 (.int .u64 n) ?_
      refine gl_nil ?_
      refine ge_then ?_
      refine gc_seq ?_
      refine gc_reg ?_
      refine t 26 (.int .i64 2) ?_
      refine tr 27 (pq g6 2) (iaU g6 2 (by decide)) ?_
      refine tl 28 (.bool (uN m)) Xg6 2 ?_
      refine gl_nil ?_
      refine ge_then ?_
      rcases Bool.eq_false_or_eq_true (uN m) with b14 | b14
      · refine gc_yes (hc := congrArg Value.bool b14) ?_
        refine gc_reg ?_
        refine t 29 (pg g) ?_
        refine t 30 (.int .u64 n) ?_
        refine tc 31 28 #[pg g, .int .u64 n] (zW64 WR (by simp only [len1, len8]; omega)) ?_
        rintro _ v15 ⟨rfl, WX, U⟩
        refine ⟨_, rfl, ?_⟩
        replace BU := BU.trans U
        replace Xg6 := But.blk U Xg6 (show g6 ≠ g by omega)
        clear U
        clear WR
        have WR := WX
        clear WX
        refine gl_nil ?_
        refine ge_bn ?_
        refine ge_then ?_
        refine gc_reg ?_
        refine t 32 (.int .i64 3) ?_
        refine t 22 (.int .i64 3) ?_
        refine gl_nil ?_
        refine ge_rd ?_
        refine gc_fr [(0, pg g), (4, pg g6), (5, .int .i64 2), (6, .int .u64 n), (21, .agg #[.int .u64 a, .int .u64 b, .int .u64 n]), (22, .int .i64 3), (23, .bool true), (24, .int .i64 2), (25, .int .u64 n), (26, .int .i64 2), (27, pq g6 2), (28, .bool (uN m)), (29, pg g), (30, .int .u64 n), (32, .int .i64 3)] (by kernel_rfl) ?_
        refine gc_seq ?_
        refine gc_reg ?_
        refine t 23 (.bool false) ?_
        refine gl_nil ?_
        refine ge_then ?_
        refine gc_seq ?_
        refine gc_no ?_
        refine gc_exit ?_
        refine ge_tx ?_
        refine ge_tx ?_
        refine ge_bx ?_
        refine ge_end (.tuple #[]) (rs0 (by kernel_rfl)) ?_
        have e : L ++ bsM m a b n = (L ++ be 1 m ++ be 8 a ++ be 8 n) := by simp only [bsM, opt, b8, b10, b14, if_true, Bool.false_eq_true, if_false, List.append_nil, List.nil_append, List.append_assoc]
        rw [e]
        exact ⟨rfl, WR, BU⟩
      · refine gc_no (hc := congrArg Value.bool b14) ?_
        refine gc_skip ?_
        refine ge_bn ?_
        refine ge_then ?_
        refine gc_reg ?_
        refine t 32 (.int .i64 3) ?_
        refine t 22 (.int .i64 3) ?_
        refine gl_nil ?_
        refine ge_rd ?_
        refine gc_fr [(0, pg g), (4, pg g6), (5, .int .i64 2), (6, .int .u64 n), (21, .agg #[.int .u64 a, .int .u64 b, .int .u64 n]), (22, .int .i64 3), (23, .bool true), (24, .int .i64 2), (25, .int .u64 n), (26, .int .i64 2), (27, pq g6 2), (28, .bool (uN m)), (29, pg g), (30, .int .u64 a), (32, .int .i64 3)] (by kernel_rfl) ?_
        refine gc_seq ?_
        refine gc_reg ?_
        refine t 23 (.bool false) ?_
        refine gl_nil ?_
        refine ge_then ?_
        refine gc_seq ?_
        refine gc_no ?_
        refine gc_exit ?_
        refine ge_tx ?_
        refine ge_tx ?_
        refine ge_bx ?_
        refine ge_end (.tuple #[]) (rs0 (by kernel_rfl)) ?_
        have e : L ++ bsM m a b n = (L ++ be 1 m ++ be 8 a) := by simp only [bsM, opt, b8, b10, b14, if_true, Bool.false_eq_true, if_false, List.append_nil, List.nil_append, List.append_assoc]
        rw [e]
        exact ⟨rfl, WR, BU⟩
  · refine gc_no (hc := congrArg Value.bool b8) ?_
    refine gc_skip ?_
    refine ge_bn ?_
    refine ge_then ?_
    refine gc_reg ?_
    refine t 32 (.int .i64 1) ?_
    refine t 22 (.int .i64 1) ?_
    refine gl_nil ?_
    refine ge_rd ?_
    refine gc_fr [(0, pg g), (4, pg g6), (5, .int .i64 0), (6, .int .u64 a), (21, .agg #[.int .u64 a, .int .u64 b, .int .u64 n]), (22, .int .i64 1), (23, .bool true), (24, .int .i64 0), (25, .int .u64 a), (26, .int .i64 0), (27, pg g6), (28, .bool (uA m)), (32, .int .i64 1)] (by kernel_rfl) ?_
    refine gc_seq ?_
    refine gc_reg ?_
    refine t 23 (.bool true) ?_
    refine gl_nil ?_
    refine ge_then ?_
    refine gc_seq ?_
    refine gc_yes ?_
    refine gc_skip ?_
    refine ge_then ?_
    refine gc_seq ?_
    refine gc_block ?_
    refine gc_seq ?_
    refine gc_reg ?_
    refine t 24 (.int .i64 1) ?_
    refine tr 25 (.int .u64 b) (ixV a b n 1 b rfl) ?_
    refine t 5 (.int .i64 1) ?_
    refine t 6 (.int .u64 b) ?_
    refine gl_nil ?_
    refine ge_then ?_
    refine gc_seq ?_
    refine gc_reg ?_
    refine t 26 (.int .i64 1) ?_
    refine tr 27 (pq g6 1) (iaU g6 1 (by decide)) ?_
    refine tl 28 (.bool (uB m)) Xg6 1 ?_
    refine gl_nil ?_
    refine ge_then ?_
    rcases Bool.eq_false_or_eq_true (uB m) with b16 | b16
    · refine gc_yes (hc := congrArg Value.bool b16) ?_
      refine gc_reg ?_
      refine t 29 (pg g) ?_
      refine t 30 (.int .u64 b) ?_
      refine tc 31 28 #[pg g, .int .u64 b] (zW64 WR (by simp only [len1, len8]; omega)) ?_
      rintro _ v17 ⟨rfl, WX, U⟩
      refine ⟨_, rfl, ?_⟩
      replace BU := BU.trans U
      replace Xg6 := But.blk U Xg6 (show g6 ≠ g by omega)
      clear U
      clear WR
      have WR := WX
      clear WX
      refine gl_nil ?_
      refine ge_bn ?_
      refine ge_then ?_
      refine gc_reg ?_
      refine t 32 (.int .i64 2) ?_
      refine t 22 (.int .i64 2) ?_
      refine gl_nil ?_
      refine ge_rd ?_
      refine gc_fr [(0, pg g), (4, pg g6), (5, .int .i64 1), (6, .int .u64 b), (21, .agg #[.int .u64 a, .int .u64 b, .int .u64 n]), (22, .int .i64 2), (23, .bool true), (24, .int .i64 1), (25, .int .u64 b), (26, .int .i64 1), (27, pq g6 1), (28, .bool (uB m)), (29, pg g), (30, .int .u64 b), (32, .int .i64 2)] (by kernel_rfl) ?_
      refine gc_seq ?_
      refine gc_reg ?_
      refine t 23 (.bool true) ?_
      refine gl_nil ?_
      refine ge_then ?_
      refine gc_seq ?_
      refine gc_yes ?_
      refine gc_skip ?_
      refine ge_then ?_
      refine gc_seq ?_
      refine gc_block ?_
      refine gc_seq ?_
      refine gc_reg ?_
      refine t 24 (.int .i64 2) ?_
      refine tr 25 (.int .u64 n) (ixV a b n 2 n rfl) ?_
      refine t 5 (.int .i64 2) ?_
      refine t 6 (.int .u64 n) ?_
      refine gl_nil ?_
      refine ge_then ?_
      refine gc_seq ?_
      refine gc_reg ?_
      refine t 26 (.int .i64 2) ?_
      refine tr 27 (pq g6 2) (iaU g6 2 (by decide)) ?_
      refine tl 28 (.bool (uN m)) Xg6 2 ?_
      refine gl_nil ?_
      refine ge_then ?_
      rcases Bool.eq_false_or_eq_true (uN m) with b18 | b18
      · refine gc_yes (hc := congrArg Value.bool b18) ?_
        refine gc_reg ?_
        refine t 29 (pg g) ?_
        refine t 30 (.int .u64 n) ?_
        refine tc 31 28 #[pg g, .int .u64 n] (zW64 WR (by simp only [len1, len8]; omega)) ?_
        rintro _ v19 ⟨rfl, WX, U⟩
        refine ⟨_, rfl, ?_⟩
        replace BU := BU.trans U
        replace Xg6 := But.blk U Xg6 (show g6 ≠ g by omega)
        clear U
        clear WR
        have WR := WX
        clear WX
        refine gl_nil ?_
        refine ge_bn ?_
        refine ge_then ?_
        refine gc_reg ?_
        refine t 32 (.int .i64 3) ?_
        refine t 22 (.int .i64 3) ?_
        refine gl_nil ?_
        refine ge_rd ?_
        refine gc_fr [(0, pg g), (4, pg g6), (5, .int .i64 2), (6, .int .u64 n), (21, .agg #[.int .u64 a, .int .u64 b, .int .u64 n]), (22, .int .i64 3), (23, .bool true), (24, .int .i64 2), (25, .int .u64 n), (26, .int .i64 2), (27, pq g6 2), (28, .bool (uN m)), (29, pg g), (30, .int .u64 n), (32, .int .i64 3)] (by kernel_rfl) ?_
        refine gc_seq ?_
        refine gc_reg ?_
        refine t 23 (.bool false) ?_
        refine gl_nil ?_
        refine ge_then ?_
        refine gc_seq ?_
        refine gc_no ?_
        refine gc_exit ?_
        refine ge_tx ?_
        refine ge_tx ?_
        refine ge_bx ?_
        refine ge_end (.tuple #[]) (rs0 (by kernel_rfl)) ?_
        have e : L ++ bsM m a b n = (L ++ be 1 m ++ be 8 b ++ be 8 n) := by simp only [bsM, opt, b8, b16, b18, if_true, Bool.false_eq_true, if_false, List.append_nil, List.nil_append, List.append_assoc]
        rw [e]
        exact ⟨rfl, WR, BU⟩
      · refine gc_no (hc := congrArg Value.bool b18) ?_
        refine gc_skip ?_
        refine ge_bn ?_
        refine ge_then ?_
        refine gc_reg ?_
        refine t 32 (.int .i64 3) ?_
        refine t 22 (.int .i64 3) ?_
        refine gl_nil ?_
        refine ge_rd ?_
        refine gc_fr [(0, pg g), (4, pg g6), (5, .int .i64 2), (6, .int .u64 n), (21, .agg #[.int .u64 a, .int .u64 b, .int .u64 n]), (22, .int .i64 3), (23, .bool true), (24, .int .i64 2), (25, .int .u64 n), (26, .int .i64 2), (27, pq g6 2), (28, .bool (uN m)), (29, pg g), (30, .int .u64 b), (32, .int .i64 3)] (by kernel_rfl) ?_
        refine gc_seq ?_
        refine gc_reg ?_
        refine t 23 (.bool false) ?_
        refine gl_nil ?_
        refine ge_then ?_
        refine gc_seq ?_
        refine gc_no ?_
        refine gc_exit ?_
        refine ge_tx ?_
        refine ge_tx ?_
        refine ge_bx ?_
        refine ge_end (.tuple #[]) (rs0 (by kernel_rfl)) ?_
        have e : L ++ bsM m a b n = (L ++ be 1 m ++ be 8 b) := by simp only [bsM, opt, b8, b16, b18, if_true, Bool.false_eq_true, if_false, List.append_nil, List.nil_append, List.append_assoc]
        rw [e]
        exact ⟨rfl, WR, BU⟩
    · refine gc_no (hc := congrArg Value.bool b16) ?_
      refine gc_skip ?_
      refine ge_bn ?_
      refine ge_then ?_
      refine gc_reg ?_
      refine t 32 (.int .i64 2) ?_
      refine t 22 (.int .i64 2) ?_
      refine gl_nil ?_
      refine ge_rd ?_
      refine gc_fr [(0, pg g), (4, pg g6), (5, .int .i64 1), (6, .int .u64 b), (21, .agg #[.int .u64 a, .int .u64 b, .int .u64 n]), (22, .int .i64 2), (23, .bool true), (24, .int .i64 1), (25, .int .u64 b), (26, .int .i64 1), (27, pq g6 1), (28, .bool (uB m)), (32, .int .i64 2)] (by kernel_rfl) ?_
      refine gc_seq ?_
      refine gc_reg ?_
      refine t 23 (.bool true) ?_
      refine gl_nil ?_
      refine ge_then ?_
      refine gc_seq ?_
      refine gc_yes ?_
      refine gc_skip ?_
      refine ge_then ?_
      refine gc_seq ?_
      refine gc_block ?_
      refine gc_seq ?_
      refine gc_reg ?_
      refine t 24 (.int .i64 2) ?_
      refine tr 25 (.int .u64 n) (ixV a b n 2 n rfl) ?_
      refine t 5 (.int .i64 2) ?_
      refine t 6 (.int .u64 n) ?_
      refine gl_nil ?_
      refine ge_then ?_
      refine gc_seq ?_
      refine gc_reg ?_
      refine t 26 (.int .i64 2) ?_
      refine tr 27 (pq g6 2) (iaU g6 2 (by decide)) ?_
      refine tl 28 (.bool (uN m)) Xg6 2 ?_
      refine gl_nil ?_
      refine ge_then ?_
      rcases Bool.eq_false_or_eq_true (uN m) with b20 | b20
      · refine gc_yes (hc := congrArg Value.bool b20) ?_
        refine gc_reg ?_
        refine t 29 (pg g) ?_
        refine t 30 (.int .u64 n) ?_
        refine tc 31 28 #[pg g, .int .u64 n] (zW64 WR (by simp only [len1, len8]; omega)) ?_
        rintro _ v21 ⟨rfl, WX, U⟩
        refine ⟨_, rfl, ?_⟩
        replace BU := BU.trans U
        replace Xg6 := But.blk U Xg6 (show g6 ≠ g by omega)
        clear U
        clear WR
        have WR := WX
        clear WX
        refine gl_nil ?_
        refine ge_bn ?_
        refine ge_then ?_
        refine gc_reg ?_
        refine t 32 (.int .i64 3) ?_
        refine t 22 (.int .i64 3) ?_
        refine gl_nil ?_
        refine ge_rd ?_
        refine gc_fr [(0, pg g), (4, pg g6), (5, .int .i64 2), (6, .int .u64 n), (21, .agg #[.int .u64 a, .int .u64 b, .int .u64 n]), (22, .int .i64 3), (23, .bool true), (24, .int .i64 2), (25, .int .u64 n), (26, .int .i64 2), (27, pq g6 2), (28, .bool (uN m)), (29, pg g), (30, .int .u64 n), (32, .int .i64 3)] (by kernel_rfl) ?_
        refine gc_seq ?_
        refine gc_reg ?_
        refine t 23 (.bool false) ?_
        refine gl_nil ?_
        refine ge_then ?_
        refine gc_seq ?_
        refine gc_no ?_
        refine gc_exit ?_
        refine ge_tx ?_
        refine ge_tx ?_
        refine ge_bx ?_
        refine ge_end (.tuple #[]) (rs0 (by kernel_rfl)) ?_
        have e : L ++ bsM m a b n = (L ++ be 1 m ++ be 8 n) := by simp only [bsM, opt, b8, b16, b20, if_true, Bool.false_eq_true, if_false, List.append_nil, List.nil_append, List.append_assoc]
        rw [e]
        exact ⟨rfl, WR, BU⟩
      · refine gc_no (hc := congrArg Value.bool b20) ?_
        refine gc_skip ?_
        refine ge_bn ?_
        refine ge_then ?_
        refine gc_reg ?_
        refine t 32 (.int .i64 3) ?_
        refine t 22 (.int .i64 3) ?_
        refine gl_nil ?_
        refine ge_rd ?_
        refine gc_fr [(0, pg g), (4, pg g6), (5, .int .i64 2), (6, .int .u64 n), (21, .agg #[.int .u64 a, .int .u64 b, .int .u64 n]), (22, .int .i64 3), (23, .bool true), (24, .int .i64 2), (25, .int .u64 n), (26, .int .i64 2), (27, pq g6 2), (28, .bool (uN m)), (32, .int .i64 3)] (by kernel_rfl) ?_
        refine gc_seq ?_
        refine gc_reg ?_
        refine t 23 (.bool false) ?_
        refine gl_nil ?_
        refine ge_then ?_
        refine gc_seq ?_
        refine gc_no ?_
        refine gc_exit ?_
        refine ge_tx ?_
        refine ge_tx ?_
        refine ge_bx ?_
        refine ge_end (.tuple #[]) (rs0 (by kernel_rfl)) ?_
        have e : L ++ bsM m a b n = (L ++ be 1 m) := by simp only [bsM, opt, b8, b16, b20, if_true, Bool.false_eq_true, if_false, List.append_nil, List.nil_append, List.append_assoc]
        rw [e]
        exact ⟨rfl, WR, BU⟩
theorem putTx_any {w : World} {g : Nat} {L : List Int} {i : It} (WR : WrA w g 0 L) (hL : L.length ≤ 800) (ho : okM i.m i.a i.b i.n = true) : Calls Try.prog 16 #[pg g, .agg #[.int .u64 i.s, .int .u64 i.q, .int .u64 i.f, .int .i64 i.m, .int .u64 i.a, .int .u64 i.b, .int .u64 i.n]] w fun e w' => e = .returned (.tuple #[]) ∧ WrA w' g 0 (L ++ bsT i) ∧ But g w w' := by
  have BU := But.refl g w
  have lWR := WR.lt
  refine gc_enter (n := 22) Try.func16 rfl (by kernel_rfl) (by kernel_rfl) ?_
  refine gc_seq ?_
  refine gc_reg ?_
  have lWR := WR.lt
  refine ta 3 [.int .u64 i.s, .int .u64 i.q, .int .u64 i.f, .int .i64 i.m, .int .u64 i.a, .int .u64 i.b, .int .u64 i.n] 26 (pg) ?_
  intro v1 g2 Xg2 hg2 B
  have zg2 := Nat.le_trans BU.size hg2
  replace BU := BU.trans (But.of B)
  replace WR := WR.keep B
  clear B
  refine gl_nil ?_
  refine ge_then ?_
  refine gc_seq ?_
  refine gc_reg ?_
  refine t 4 (pg g) ?_
  refine tc 5 27 #[pg g, .int .u8 84] (zW8 WR ⟨by decide, by decide⟩ (by omega)) ?_
  rintro _ v3 ⟨rfl, WX, U⟩
  refine ⟨_, rfl, ?_⟩
  replace BU := BU.trans U
  replace Xg2 := But.blk U Xg2 (show g2 ≠ g by omega)
  clear U
  clear WR
  have WR := WX
  clear WX
  refine gl_nil ?_
  refine ge_then ?_
  refine gc_seq ?_
  refine gc_reg ?_
  refine t 6 (pg g) ?_
  refine t 7 (pg g2) ?_
  refine tl 8 (.int .u64 i.s) Xg2 0 ?_
  refine tc 9 28 #[pg g, .int .u64 i.s] (zW64 WR (by simp only [len1, len8]; omega)) ?_
  rintro _ v4 ⟨rfl, WX, U⟩
  refine ⟨_, rfl, ?_⟩
  replace BU := BU.trans U
  replace Xg2 := But.blk U Xg2 (show g2 ≠ g by omega)
  clear U
  clear WR
  have WR := WX
  clear WX
  refine gl_nil ?_
  refine ge_then ?_
  refine gc_seq ?_
  refine gc_reg ?_
  refine t 10 (pg g) ?_
  refine t 11 (pq g2 1) ?_
  refine tl 12 (.int .u64 i.q) Xg2 1 ?_
  refine tc 13 28 #[pg g, .int .u64 i.q] (zW64 WR (by simp only [len1, len8]; omega)) ?_
  rintro _ v5 ⟨rfl, WX, U⟩
  refine ⟨_, rfl, ?_⟩
  replace BU := BU.trans U
  replace Xg2 := But.blk U Xg2 (show g2 ≠ g by omega)
  clear U
  clear WR
  have WR := WX
  clear WX
  refine gl_nil ?_
  refine ge_then ?_
  refine gc_seq ?_
  refine gc_reg ?_
  refine t 14 (pg g) ?_
  refine t 15 (pq g2 2) ?_
  refine tl 16 (.int .u64 i.f) Xg2 2 ?_
  refine tc 17 28 #[pg g, .int .u64 i.f] (zW64 WR (by simp only [len1, len8]; omega)) ?_
  rintro _ v6 ⟨rfl, WX, U⟩
  refine ⟨_, rfl, ?_⟩
  replace BU := BU.trans U
  replace Xg2 := But.blk U Xg2 (show g2 ≠ g by omega)
  clear U
  clear WR
  have WR := WX
  clear WX
  refine gl_nil ?_
  refine ge_then ?_
  refine gc_fr [(0, pg g), (3, pg g2)] (by kernel_rfl) ?_
  refine gc_reg ?_
  refine t 18 (pg g) ?_
  refine t 19 (pq g2 3) ?_
  refine tlr 20 [.int .i64 i.m, .int .u64 i.a, .int .u64 i.b, .int .u64 i.n] Xg2 3 ?_
  refine tc 21 29 #[pg g, .agg #[.int .i64 i.m, .int .u64 i.a, .int .u64 i.b, .int .u64 i.n]] (putMsg_any WR (by simp only [len1, len8]; omega) ho) ?_
  rintro _ v7 ⟨rfl, WX, U⟩
  refine ⟨_, rfl, ?_⟩
  replace BU := BU.trans U
  replace Xg2 := But.blk U Xg2 (show g2 ≠ g by omega)
  clear U
  clear WR
  have WR := WX
  clear WX
  refine gl_nil ?_
  refine ge_end (.tuple #[]) (rs0 (by kernel_rfl)) ?_
  have e : L ++ bsT i = (L ++ be 1 84 ++ be 8 i.s ++ be 8 i.q ++ be 8 i.f ++ bsM i.m i.a i.b i.n) := by simp only [bsT, List.append_assoc]
  rw [e]
  exact ⟨rfl, WR, BU⟩
theorem putFault_any {w : World} {g : Nat} {L : List Int} {i : It} (WR : WrA w g 0 L) (hL : L.length ≤ 800) (ho : 0 ≤ i.z ∧ i.z < 256) : Calls Try.prog 17 #[pg g, .agg #[.int .i64 i.z, .int .u64 i.v, .int .u64 i.h]] w fun e w' => e = .returned (.tuple #[]) ∧ WrA w' g 0 (L ++ bsF i) ∧ But g w w' := by
  have BU := But.refl g w
  have lWR := WR.lt
  refine gc_enter (n := 19) Try.func17 rfl (by kernel_rfl) (by kernel_rfl) ?_
  refine gc_seq ?_
  refine gc_reg ?_
  have lWR := WR.lt
  refine ta 3 [.int .i64 i.z, .int .u64 i.v, .int .u64 i.h] 28 (pg) ?_
  intro v1 g2 Xg2 hg2 B
  have zg2 := Nat.le_trans BU.size hg2
  replace BU := BU.trans (But.of B)
  replace WR := WR.keep B
  clear B
  refine gl_nil ?_
  refine ge_then ?_
  refine gc_seq ?_
  refine gc_reg ?_
  refine t 4 (pg g) ?_
  refine tc 5 27 #[pg g, .int .u8 70] (zW8 WR ⟨by decide, by decide⟩ (by omega)) ?_
  rintro _ v3 ⟨rfl, WX, U⟩
  refine ⟨_, rfl, ?_⟩
  replace BU := BU.trans U
  replace Xg2 := But.blk U Xg2 (show g2 ≠ g by omega)
  clear U
  clear WR
  have WR := WX
  clear WX
  refine gl_nil ?_
  refine ge_then ?_
  refine gc_seq ?_
  refine gc_reg ?_
  refine t 6 (pg g) ?_
  refine t 7 (pg g2) ?_
  refine tl 8 (.int .i64 i.z) Xg2 0 ?_
  refine tr 9 (.int .u8 i.z) (cv_iu i.z ho) ?_
  refine tc 10 27 #[pg g, .int .u8 i.z] (zW8 WR ho (by simp only [len1, len8]; omega)) ?_
  rintro _ v4 ⟨rfl, WX, U⟩
  refine ⟨_, rfl, ?_⟩
  replace BU := BU.trans U
  replace Xg2 := But.blk U Xg2 (show g2 ≠ g by omega)
  clear U
  clear WR
  have WR := WX
  clear WX
  refine gl_nil ?_
  refine ge_then ?_
  refine gc_seq ?_
  refine gc_reg ?_
  refine t 11 (pg g) ?_
  refine t 12 (pq g2 1) ?_
  refine tl 13 (.int .u64 i.v) Xg2 1 ?_
  refine tc 14 28 #[pg g, .int .u64 i.v] (zW64 WR (by simp only [len1, len8]; omega)) ?_
  rintro _ v5 ⟨rfl, WX, U⟩
  refine ⟨_, rfl, ?_⟩
  replace BU := BU.trans U
  replace Xg2 := But.blk U Xg2 (show g2 ≠ g by omega)
  clear U
  clear WR
  have WR := WX
  clear WX
  refine gl_nil ?_
  refine ge_then ?_
  refine gc_reg ?_
  refine t 15 (pg g) ?_
  refine t 16 (pq g2 2) ?_
  refine tl 17 (.int .u64 i.h) Xg2 2 ?_
  refine tc 18 28 #[pg g, .int .u64 i.h] (zW64 WR (by simp only [len1, len8]; omega)) ?_
  rintro _ v6 ⟨rfl, WX, U⟩
  refine ⟨_, rfl, ?_⟩
  replace BU := BU.trans U
  replace Xg2 := But.blk U Xg2 (show g2 ≠ g by omega)
  clear U
  clear WR
  have WR := WX
  clear WX
  refine gl_nil ?_
  refine ge_end (.tuple #[]) (rs0 (by kernel_rfl)) ?_
  have e : L ++ bsF i = (L ++ be 1 70 ++ be 1 i.z ++ be 8 i.v ++ be 8 i.h) := by simp only [bsF, List.append_assoc]
  rw [e]
  exact ⟨rfl, WR, BU⟩
theorem enc_ok {w : World} {i : It} (h : Ok i) : Calls Try.prog 7 #[.agg #[.int .i64 i.k, .int .u64 i.s, .int .u64 i.q, .int .u64 i.f, .int .i64 i.m, .int .u64 i.a, .int .u64 i.b, .int .u64 i.n, .int .i64 i.z, .int .u64 i.v, .int .u64 i.h]] w fun e w' => ∃ g, e = .returned (.tuple #[.slice (some ⟨g, 0, none⟩) (bs i).length (bs i).length, .int .i64 0]) ∧ w.heap.size ≤ g ∧ Box w' g ((bs i).map (Value.int .u8)) 5 ∧ Below w.heap.size w w' := by
  have BB := Below.refl w.heap.size w
  refine gc_enter (n := 24) Try.func7 rfl (by kernel_rfl) (by kernel_rfl) ?_
  refine gc_seq ?_
  refine gc_reg ?_
  refine ta 1 [.int .i64 i.k, .int .u64 i.s, .int .u64 i.q, .int .u64 i.f, .int .i64 i.m, .int .u64 i.a, .int .u64 i.b, .int .u64 i.n, .int .i64 i.z, .int .u64 i.v, .int .u64 i.h] 30 (pg) ?_
  intro v1 g2 Xg2 hg2 B
  have zg2 := Nat.le_trans BB.size hg2
  replace BB := joinB BB B
  clear B
  refine t 2 (.slice none 0 0) ?_
  refine t 3 (.int .i64 0) ?_
  refine gl_nil ?_
  refine ge_then ?_
  refine gc_seq ?_
  refine gc_seq ?_
  refine gc_reg ?_
  refine tlr 7 [.int .i64 i.k, .int .u64 i.s, .int .u64 i.q, .int .u64 i.f, .int .i64 i.m, .int .u64 i.a, .int .u64 i.b, .int .u64 i.n, .int .i64 i.z, .int .u64 i.v, .int .u64 i.h] Xg2 0 ?_
  refine tc 8 15 #[.agg #[.int .i64 i.k, .int .u64 i.s, .int .u64 i.q, .int .u64 i.f, .int .i64 i.m, .int .u64 i.a, .int .u64 i.b, .int .u64 i.n, .int .i64 i.z, .int .u64 i.v, .int .u64 i.h]] (isItem_t h) ?_
  rintro _ v3 ⟨rfl, B⟩
  refine ⟨_, rfl, ?_⟩
  replace BB := joinB BB B
  replace Xg2 := Xg2.keep B
  clear B
  refine t 9 (.bool false) ?_
  refine gl_nil ?_
  refine ge_then ?_
  refine gc_no ?_
  refine gc_skip ?_
  refine ge_then ?_
  refine gc_seq ?_
  refine gc_reg ?_
  have lXg2 := Xg2.lt
  refine ta 4 wz 54 pg ?_
  intro v4 g5 XW hg5 B
  replace BB := joinB BB B
  replace Xg2 := Xg2.keep B
  clear B
  have WR := wrNewB XW
  clear XW
  have lWR := WR.lt
  refine gl_nil ?_
  refine ge_then ?_
  refine gc_seq ?_
  refine gc_seq ?_
  refine gc_reg ?_
  refine t 10 (pg g2) ?_
  refine tl 11 (.int .i64 i.k) Xg2 0 ?_
  by_cases c6 : (i.k : Int) = 1
  · refine tq 12 (.bool ((i.k : Int) == 1)) (.bool true) (congrArg Value.bool (beq_iff_eq.2 c6)) ?_
    refine gl_nil ?_
    refine ge_then ?_
    refine gc_yes ?_
    refine gc_reg ?_
    refine t 13 (pq g2 1) ?_
    refine tlr 14 [.int .u64 i.s, .int .u64 i.q, .int .u64 i.f, .int .i64 i.m, .int .u64 i.a, .int .u64 i.b, .int .u64 i.n] Xg2 1 ?_
    refine tc 15 16 #[pg g5, .agg #[.int .u64 i.s, .int .u64 i.q, .int .u64 i.f, .int .i64 i.m, .int .u64 i.a, .int .u64 i.b, .int .u64 i.n]] (putTx_any (i := i) WR (by decide) (Ok.msg h c6)) ?_
    rintro _ v7 ⟨rfl, WX, U⟩
    refine ⟨_, rfl, ?_⟩
    replace BB := But.below U BB (by omega) (Nat.le_refl _)
    replace Xg2 := But.blk U Xg2 (show g2 ≠ g5 by omega)
    clear U
    clear WR
    have WR := WX
    clear WX
    rw [bs_t c6] at WR
    refine gl_nil ?_
    refine ge_then ?_
    clear Xg2
    refine gc_seq ?_
    refine gc_reg ?_
    obtain ⟨hb18, hb50⟩ := bs_len i
    have hsz := BB.size
    obtain ⟨q8, eq8⟩ : ∃ q8, q8 = v7.heap.size := ⟨_, rfl⟩
    refine tc 20 18 #[pg g5] (wrOut WR (by omega)) ?_
    rintro _ v9 ⟨rfl, XB, B⟩
    refine ⟨_, rfl, ?_⟩
    replace BB := joinB BB B
    replace WR := WR.keep B
    clear B
    refine t 19 (.tuple #[.slice (some ⟨v7.heap.size, 0, none⟩) (bs i).length (bs i).length, .int .i64 0]) ?_
    refine t 21 (.slice (some ⟨v7.heap.size, 0, none⟩) (bs i).length (bs i).length) ?_
    refine t 22 (.int .i64 0) ?_
    refine t 5 (.slice (some ⟨v7.heap.size, 0, none⟩) (bs i).length (bs i).length) ?_
    refine t 6 (.int .i64 0) ?_
    refine gl_nil ?_
    refine ge_then ?_
    refine gc_fr [(2, .slice none 0 0), (3, .int .i64 0), (5, .slice (some ⟨v7.heap.size, 0, none⟩) (bs i).length (bs i).length)] (by kernel_rfl) ?_
    refine gc_seq ?_
    refine gc_reg ?_
    refine t 23 (.slice (some ⟨v7.heap.size, 0, none⟩) (bs i).length (bs i).length) ?_
    refine t 2 (.slice (some ⟨v7.heap.size, 0, none⟩) (bs i).length (bs i).length) ?_
    refine t 3 (.int .i64 0) ?_
    refine gl_nil ?_
    refine ge_then ?_
    refine gc_ret ?_
    refine ge_ret (.tuple #[.slice (some ⟨v7.heap.size, 0, none⟩) (bs i).length (bs i).length, .int .i64 0]) (rs2 2 3 (by kernel_rfl) (by kernel_rfl) (by kernel_rfl)) ?_
    exact ⟨_, rfl, hsz, XB, BB⟩
  · refine tq 12 (.bool ((i.k : Int) == 1)) (.bool false) (congrArg Value.bool (beq_eq_false_iff_ne.2 c6)) ?_
    refine gl_nil ?_
    refine ge_then ?_
    refine gc_no ?_
    refine gc_reg ?_
    refine t 16 (pq g2 8) ?_
    refine tlr 17 [.int .i64 i.z, .int .u64 i.v, .int .u64 i.h] Xg2 8 ?_
    refine tc 18 17 #[pg g5, .agg #[.int .i64 i.z, .int .u64 i.v, .int .u64 i.h]] (putFault_any (i := i) WR (by decide) (Ok.two h c6).2) ?_
    rintro _ v10 ⟨rfl, WX, U⟩
    refine ⟨_, rfl, ?_⟩
    replace BB := But.below U BB (by omega) (Nat.le_refl _)
    replace Xg2 := But.blk U Xg2 (show g2 ≠ g5 by omega)
    clear U
    clear WR
    have WR := WX
    clear WX
    rw [bs_f c6] at WR
    refine gl_nil ?_
    refine ge_then ?_
    clear Xg2
    refine gc_seq ?_
    refine gc_reg ?_
    obtain ⟨hb18, hb50⟩ := bs_len i
    have hsz := BB.size
    obtain ⟨q11, eq11⟩ : ∃ q11, q11 = v10.heap.size := ⟨_, rfl⟩
    refine tc 20 18 #[pg g5] (wrOut WR (by omega)) ?_
    rintro _ v12 ⟨rfl, XB, B⟩
    refine ⟨_, rfl, ?_⟩
    replace BB := joinB BB B
    replace WR := WR.keep B
    clear B
    refine t 19 (.tuple #[.slice (some ⟨v10.heap.size, 0, none⟩) (bs i).length (bs i).length, .int .i64 0]) ?_
    refine t 21 (.slice (some ⟨v10.heap.size, 0, none⟩) (bs i).length (bs i).length) ?_
    refine t 22 (.int .i64 0) ?_
    refine t 5 (.slice (some ⟨v10.heap.size, 0, none⟩) (bs i).length (bs i).length) ?_
    refine t 6 (.int .i64 0) ?_
    refine gl_nil ?_
    refine ge_then ?_
    refine gc_fr [(2, .slice none 0 0), (3, .int .i64 0), (5, .slice (some ⟨v10.heap.size, 0, none⟩) (bs i).length (bs i).length)] (by kernel_rfl) ?_
    refine gc_seq ?_
    refine gc_reg ?_
    refine t 23 (.slice (some ⟨v10.heap.size, 0, none⟩) (bs i).length (bs i).length) ?_
    refine t 2 (.slice (some ⟨v10.heap.size, 0, none⟩) (bs i).length (bs i).length) ?_
    refine t 3 (.int .i64 0) ?_
    refine gl_nil ?_
    refine ge_then ?_
    refine gc_ret ?_
    refine ge_ret (.tuple #[.slice (some ⟨v10.heap.size, 0, none⟩) (bs i).length (bs i).length, .int .i64 0]) (rs2 2 3 (by kernel_rfl) (by kernel_rfl) (by kernel_rfl)) ?_
    exact ⟨_, rfl, hsz, XB, BB⟩
theorem enc_no {w : World} {i : It} (h : ¬ Ok i) : Calls Try.prog 7 #[.agg #[.int .i64 i.k, .int .u64 i.s, .int .u64 i.q, .int .u64 i.f, .int .i64 i.m, .int .u64 i.a, .int .u64 i.b, .int .u64 i.n, .int .i64 i.z, .int .u64 i.v, .int .u64 i.h]] w fun e w' => e = .returned (.tuple #[.slice none 0 0, .int .i64 170]) ∧ Below w.heap.size w w' := by
  have BB := Below.refl w.heap.size w
  refine gc_enter (n := 24) Try.func7 rfl (by kernel_rfl) (by kernel_rfl) ?_
  refine gc_seq ?_
  refine gc_reg ?_
  refine ta 1 [.int .i64 i.k, .int .u64 i.s, .int .u64 i.q, .int .u64 i.f, .int .i64 i.m, .int .u64 i.a, .int .u64 i.b, .int .u64 i.n, .int .i64 i.z, .int .u64 i.v, .int .u64 i.h] 30 (pg) ?_
  intro v1 g2 Xg2 hg2 B
  have zg2 := Nat.le_trans BB.size hg2
  replace BB := joinB BB B
  clear B
  refine t 2 (.slice none 0 0) ?_
  refine t 3 (.int .i64 0) ?_
  refine gl_nil ?_
  refine ge_then ?_
  refine gc_seq ?_
  refine gc_seq ?_
  refine gc_reg ?_
  refine tlr 7 [.int .i64 i.k, .int .u64 i.s, .int .u64 i.q, .int .u64 i.f, .int .i64 i.m, .int .u64 i.a, .int .u64 i.b, .int .u64 i.n, .int .i64 i.z, .int .u64 i.v, .int .u64 i.h] Xg2 0 ?_
  refine tc 8 15 #[.agg #[.int .i64 i.k, .int .u64 i.s, .int .u64 i.q, .int .u64 i.f, .int .i64 i.m, .int .u64 i.a, .int .u64 i.b, .int .u64 i.n, .int .i64 i.z, .int .u64 i.v, .int .u64 i.h]] (isItem_f h) ?_
  rintro _ v3 ⟨rfl, B⟩
  refine ⟨_, rfl, ?_⟩
  replace BB := joinB BB B
  replace Xg2 := Xg2.keep B
  clear B
  refine t 9 (.bool true) ?_
  refine gl_nil ?_
  refine ge_then ?_
  refine gc_yes ?_
  refine gc_seq ?_
  refine gc_reg ?_
  refine t 2 (.slice none 0 0) ?_
  refine t 3 (.int .i64 170) ?_
  refine gl_nil ?_
  refine ge_then ?_
  refine gc_ret ?_
  refine ge_tr ?_
  refine ge_ret (.tuple #[.slice none 0 0, .int .i64 170]) (rs2 2 3 (by kernel_rfl) (by kernel_rfl) (by kernel_rfl)) ?_
  exact ⟨rfl, BB⟩
theorem readMsg_any {w : World} {g b : Nat} {s : St} (RD : RdA w g b s.1 s.2) : Calls Try.prog 43 #[pg g] w fun e w' => ∃ k x y z s', rM s = ((k, x, y, z), s') ∧ e = .returned (.agg #[.int .i64 k, .int .u64 x, .int .u64 y, .int .u64 z]) ∧ RdA w' g b s'.1 s'.2 ∧ But g w w' := by
  have BU := But.refl g w
  have lRD := RD.lt
  refine gc_enter (n := 31) Try.func43 rfl (by kernel_rfl) (by kernel_rfl) ?_
  refine gc_seq ?_
  refine gc_reg ?_
  have lRD := RD.lt
  refine ta 2 [.int .i64 0, .int .u64 0, .int .u64 0, .int .u64 0] 24 (pg) ?_
  intro v1 g2 Xg2 hg2 B
  have zg2 := Nat.le_trans BU.size hg2
  replace BU := BU.trans (But.of B)
  replace RD := RD.keep B
  clear B
  refine gl_nil ?_
  refine ge_then ?_
  refine gc_seq ?_
  refine gc_reg ?_
  refine t 7 (pg g) ?_
  refine tc 8 33 #[pg g] (xU8 (s := s) RD) ?_
  rintro _ v5 ⟨x3, s4, Ex3, Hx3, rfl, RX, U⟩
  refine ⟨_, rfl, ?_⟩
  replace BU := BU.trans U
  replace Xg2 := But.blk U Xg2 (show g2 ≠ g by omega)
  clear U
  clear RD
  have RD := RX
  clear RX
  refine tr 9 (.int .i64 x3) (cv_ui x3 Hx3) ?_
  refine t 3 (.int .i64 x3) ?_
  refine gl_nil ?_
  refine ge_then ?_
  refine gc_seq ?_
  refine gc_reg ?_
  refine t 10 (.int .i64 x3) ?_
  refine tc 11 20 #[.int .i64 x3] (useOf_any x3) ?_
  rintro _ v6 ⟨rfl, B⟩
  refine ⟨_, rfl, ?_⟩
  replace BU := BU.trans (But.of B)
  replace RD := RD.keep B
  replace Xg2 := Xg2.keep B
  clear B
  have lRD := RD.lt
  have lXg2 := Xg2.lt
  refine ta 4 [.bool false, .bool false, .bool false, .bool false] 61 (pg) ?_
  intro v7 g8 Xg8 hg8 B
  have zg8 := Nat.le_trans BU.size hg8
  replace BU := BU.trans (But.of B)
  replace RD := RD.keep B
  replace Xg2 := Xg2.keep B
  clear B
  refine ts Xg8 0 (.agg #[.bool (uA x3), .bool (uB x3), .bool (uN x3), .bool (uK x3)]) [.bool (uA x3), .bool (uB x3), .bool (uN x3), .bool (uK x3)] [.bool (uA x3), .bool (uB x3), .bool (uN x3), .bool (uK x3)] ?_
  intro v9 Y C
  replace BU := butC BU C (by omega)
  replace RD := RdA.offB RD Xg8 rfl (by omega) (chg_but C)
  replace Xg2 := Xg2.chg C (show g2 ≠ g8 by omega)
  clear C Xg8
  have Xg8 := Y
  clear Y
  refine gl_nil ?_
  refine ge_then ?_
  refine gc_seq ?_
  refine gc_reg ?_
  have lRD := RD.lt
  have lXg2 := Xg2.lt
  have lXg8 := Xg8.lt
  refine ta 5 [.int .u64 0, .int .u64 0, .int .u64 0] 91 (pg) ?_
  intro v10 g11 Xg11 hg11 B
  have zg11 := Nat.le_trans BU.size hg11
  replace BU := BU.trans (But.of B)
  replace RD := RD.keep B
  replace Xg2 := Xg2.keep B
  replace Xg8 := Xg8.keep B
  clear B
  refine gl_nil ?_
  refine ge_then ?_
  refine gc_seq ?_
  refine gc_seq ?_
  refine gc_reg ?_
  refine t 12 (.int .i64 0) ?_
  refine gl_nil ?_
  refine ge_then ?_
  refine gc_block ?_
  refine gc_rds 3 ?_
  refine gc_seq ?_
  refine gc_reg ?_
  refine t 13 (.bool true) ?_
  refine gl_nil ?_
  refine ge_then ?_
  refine gc_seq ?_
  refine gc_yes ?_
  refine gc_skip ?_
  refine ge_then ?_
  refine gc_seq ?_
  refine gc_block ?_
  refine gc_seq ?_
  refine gc_reg ?_
  refine t 14 (.int .i64 0) ?_
  refine t 6 (.int .i64 0) ?_
  refine gl_nil ?_
  refine ge_then ?_
  refine gc_seq ?_
  refine gc_reg ?_
  refine t 15 (.int .i64 0) ?_
  refine tr 16 (pg g8) (iaU g8 0 (by decide)) ?_
  refine tl 17 (.bool (uA x3)) Xg8 0 ?_
  refine gl_nil ?_
  refine ge_then ?_
  refine gc_fr [(0, pg g), (2, pg g2), (3, .int .i64 x3), (4, pg g8), (5, pg g11), (6, .int .i64 0), (12, .int .i64 0), (13, .bool true), (14, .int .i64 0), (15, .int .i64 0), (16, pg g8), (17, .bool (uA x3))] (by kernel_rfl) ?_
  rcases Bool.eq_false_or_eq_true (uA x3) with b12 | b12
  · refine gc_yes (hc := congrArg Value.bool b12) ?_
    refine gc_reg ?_
    refine t 18 (.int .i64 0) ?_
    refine t 19 (pg g) ?_
    refine tc 20 42 #[pg g] (xU64 (s := s4) RD) ?_
    rintro _ v15 ⟨x13, s14, Ex13, rfl, RX, U⟩
    refine ⟨_, rfl, ?_⟩
    replace BU := BU.trans U
    replace Xg2 := But.blk U Xg2 (show g2 ≠ g by omega)
    replace Xg8 := But.blk U Xg8 (show g8 ≠ g by omega)
    replace Xg11 := But.blk U Xg11 (show g11 ≠ g by omega)
    clear U
    clear RD
    have RD := RX
    clear RX
    refine tr 21 (pg g11) (iaV g11 0 (by decide)) ?_
    refine ts Xg11 0 (.int .u64 x13) [.int .u64 x13] [.int .u64 x13, .int .u64 0, .int .u64 0] ?_
    intro v16 Y C
    replace BU := butC BU C (by omega)
    replace RD := RdA.offB RD Xg11 rfl (by omega) (chg_but C)
    replace Xg2 := Xg2.chg C (show g2 ≠ g11 by omega)
    replace Xg8 := Xg8.chg C (show g8 ≠ g11 by omega)
    clear C Xg11
    have Xg11 := Y
    clear Y
    refine gl_nil ?_
    refine ge_bn ?_
    refine ge_then ?_
    refine gc_reg ?_
    refine t 22 (.int .i64 1) ?_
    refine t 12 (.int .i64 1) ?_
    refine gl_nil ?_
    refine ge_rd ?_
    refine gc_fr [(0, pg g), (2, pg g2), (3, .int .i64 x3), (4, pg g8), (5, pg g11), (6, .int .i64 0), (12, .int .i64 1), (13, .bool true), (14, .int .i64 0), (15, .int .i64 0), (16, pg g8), (17, .bool (uA x3)), (18, .int .i64 0), (19, pg g), (20, .int .u64 x13), (21, pg g11), (22, .int .i64 1)] (by kernel_rfl) ?_
    refine gc_seq ?_
    refine gc_reg ?_
    refine t 13 (.bool true) ?_
    refine gl_nil ?_
    refine ge_then ?_
    refine gc_seq ?_
    refine gc_yes ?_
    refine gc_skip ?_
    refine ge_then ?_
    refine gc_seq ?_
    refine gc_block ?_
    refine gc_seq ?_
    refine gc_reg ?_
    refine t 14 (.int .i64 1) ?_
    refine t 6 (.int .i64 1) ?_
    refine gl_nil ?_
    refine ge_then ?_
    refine gc_seq ?_
    refine gc_reg ?_
    refine t 15 (.int .i64 1) ?_
    refine tr 16 (pq g8 1) (iaU g8 1 (by decide)) ?_
    refine tl 17 (.bool (uB x3)) Xg8 1 ?_
    refine gl_nil ?_
    refine ge_then ?_
    rcases Bool.eq_false_or_eq_true (uB x3) with b17 | b17
    · refine gc_yes (hc := congrArg Value.bool b17) ?_
      refine gc_reg ?_
      refine t 18 (.int .i64 1) ?_
      refine t 19 (pg g) ?_
      refine tc 20 42 #[pg g] (xU64 (s := s14) RD) ?_
      rintro _ v20 ⟨x18, s19, Ex18, rfl, RX, U⟩
      refine ⟨_, rfl, ?_⟩
      replace BU := BU.trans U
      replace Xg2 := But.blk U Xg2 (show g2 ≠ g by omega)
      replace Xg8 := But.blk U Xg8 (show g8 ≠ g by omega)
      replace Xg11 := But.blk U Xg11 (show g11 ≠ g by omega)
      clear U
      clear RD
      have RD := RX
      clear RX
      refine tr 21 (pq g11 1) (iaV g11 1 (by decide)) ?_
      refine ts Xg11 1 (.int .u64 x18) [.int .u64 x18] [.int .u64 x13, .int .u64 x18, .int .u64 0] ?_
      intro v21 Y C
      replace BU := butC BU C (by omega)
      replace RD := RdA.offB RD Xg11 rfl (by omega) (chg_but C)
      replace Xg2 := Xg2.chg C (show g2 ≠ g11 by omega)
      replace Xg8 := Xg8.chg C (show g8 ≠ g11 by omega)
      clear C Xg11
      have Xg11 := Y
      clear Y
      refine gl_nil ?_
      refine ge_bn ?_
      refine ge_then ?_
      refine gc_reg ?_
      refine t 22 (.int .i64 2) ?_
      refine t 12 (.int .i64 2) ?_
      refine gl_nil ?_
      refine ge_rd ?_
      refine gc_fr [(0, pg g), (2, pg g2), (3, .int .i64 x3), (4, pg g8), (5, pg g11), (6, .int .i64 1), (12, .int .i64 2), (13, .bool true), (14, .int .i64 1), (15, .int .i64 1), (16, pq g8 1), (17, .bool (uB x3)), (18, .int .i64 1), (19, pg g), (20, .int .u64 x18), (21, pq g11 1), (22, .int .i64 2)] (by kernel_rfl) ?_
      refine gc_seq ?_
      refine gc_reg ?_
      refine t 13 (.bool true) ?_
      refine gl_nil ?_
      refine ge_then ?_
      refine gc_seq ?_
      refine gc_yes ?_
      refine gc_skip ?_
      refine ge_then ?_
      refine gc_seq ?_
      refine gc_block ?_
      refine gc_seq ?_
      refine gc_reg ?_
      refine t 14 (.int .i64 2) ?_
      refine t 6 (.int .i64 2) ?_
      refine gl_nil ?_
      refine ge_then ?_
      refine gc_seq ?_
      refine gc_reg ?_
      refine t 15 (.int .i64 2) ?_
      refine tr 16 (pq g8 2) (iaU g8 2 (by decide)) ?_
      refine tl 17 (.bool (uN x3)) Xg8 2 ?_
      refine gl_nil ?_
      refine ge_then ?_
      rcases Bool.eq_false_or_eq_true (uN x3) with b22 | b22
      · refine gc_yes (hc := congrArg Value.bool b22) ?_
        refine gc_reg ?_
        refine t 18 (.int .i64 2) ?_
        refine t 19 (pg g) ?_
        refine tc 20 42 #[pg g] (xU64 (s := s19) RD) ?_
        rintro _ v25 ⟨x23, s24, Ex23, rfl, RX, U⟩
        refine ⟨_, rfl, ?_⟩
        replace BU := BU.trans U
        replace Xg2 := But.blk U Xg2 (show g2 ≠ g by omega)
        replace Xg8 := But.blk U Xg8 (show g8 ≠ g by omega)
        replace Xg11 := But.blk U Xg11 (show g11 ≠ g by omega)
        clear U
        clear RD
        have RD := RX
        clear RX
        refine tr 21 (pq g11 2) (iaV g11 2 (by decide)) ?_
        refine ts Xg11 2 (.int .u64 x23) [.int .u64 x23] [.int .u64 x13, .int .u64 x18, .int .u64 x23] ?_
        intro v26 Y C
        replace BU := butC BU C (by omega)
        replace RD := RdA.offB RD Xg11 rfl (by omega) (chg_but C)
        replace Xg2 := Xg2.chg C (show g2 ≠ g11 by omega)
        replace Xg8 := Xg8.chg C (show g8 ≠ g11 by omega)
        clear C Xg11
        have Xg11 := Y
        clear Y
        refine gl_nil ?_
        refine ge_bn ?_
        refine ge_then ?_
        refine gc_reg ?_
        refine t 22 (.int .i64 3) ?_
        refine t 12 (.int .i64 3) ?_
        refine gl_nil ?_
        refine ge_rd ?_
        refine gc_fr [(0, pg g), (2, pg g2), (3, .int .i64 x3), (4, pg g8), (5, pg g11), (6, .int .i64 2), (12, .int .i64 3), (13, .bool true), (14, .int .i64 2), (15, .int .i64 2), (16, pq g8 2), (17, .bool (uN x3)), (18, .int .i64 2), (19, pg g), (20, .int .u64 x23), (21, pq g11 2), (22, .int .i64 3)] (by kernel_rfl) ?_
        refine gc_seq ?_
        refine gc_reg ?_
        refine t 13 (.bool false) ?_
        refine gl_nil ?_
        refine ge_then ?_
        refine gc_seq ?_
        refine gc_no ?_
        refine gc_exit ?_
        refine ge_tx ?_
        refine ge_tx ?_
        refine ge_bx ?_
        refine ge_then ?_
        clear Xg8
        refine gc_seq ?_
        refine gc_reg ?_
        refine t 23 (.int .i64 x3) ?_
        refine tr 24 (pg g11) (iaV g11 0 (by decide)) ?_
        refine tl 25 (.int .u64 x13) Xg11 0 ?_
        refine tr 26 (pq g11 1) (iaV g11 1 (by decide)) ?_
        refine tl 27 (.int .u64 x18) Xg11 1 ?_
        refine tr 28 (pq g11 2) (iaV g11 2 (by decide)) ?_
        refine tl 29 (.int .u64 x23) Xg11 2 ?_
        refine t 30 (.agg #[.int .i64 x3, .int .u64 x13, .int .u64 x18, .int .u64 x23]) ?_
        refine ts Xg2 0 (.agg #[.int .i64 x3, .int .u64 x13, .int .u64 x18, .int .u64 x23]) [.int .i64 x3, .int .u64 x13, .int .u64 x18, .int .u64 x23] [.int .i64 x3, .int .u64 x13, .int .u64 x18, .int .u64 x23] ?_
        intro v27 Y C
        replace BU := butC BU C (by omega)
        replace RD := RdA.offB RD Xg2 rfl (by omega) (chg_but C)
        replace Xg11 := Xg11.chg C (show g11 ≠ g2 by omega)
        clear C Xg2
        have Xg2 := Y
        clear Y
        refine gl_nil ?_
        refine ge_then ?_
        clear Xg11
        refine gc_ret ?_
        refine ge_ret (.agg #[.int .i64 x3, .int .u64 x13, .int .u64 x18, .int .u64 x23]) (rsc 2 (T := 24) (by kernel_rfl) (by kernel_rfl) (lr Xg2 0)) ?_
        exact ⟨x3, x13, x18, x23, _, rM_mk Ex3 (rq_t b12 Ex13) (rq_t b17 Ex18) (rq_t b22 Ex23), rfl, RD, BU⟩
      · refine gc_no (hc := congrArg Value.bool b22) ?_
        refine gc_skip ?_
        refine ge_bn ?_
        refine ge_then ?_
        refine gc_reg ?_
        refine t 22 (.int .i64 3) ?_
        refine t 12 (.int .i64 3) ?_
        refine gl_nil ?_
        refine ge_rd ?_
        refine gc_fr [(0, pg g), (2, pg g2), (3, .int .i64 x3), (4, pg g8), (5, pg g11), (6, .int .i64 2), (12, .int .i64 3), (13, .bool true), (14, .int .i64 2), (15, .int .i64 2), (16, pq g8 2), (17, .bool (uN x3)), (18, .int .i64 1), (19, pg g), (20, .int .u64 x18), (21, pq g11 1), (22, .int .i64 3)] (by kernel_rfl) ?_
        refine gc_seq ?_
        refine gc_reg ?_
        refine t 13 (.bool false) ?_
        refine gl_nil ?_
        refine ge_then ?_
        refine gc_seq ?_
        refine gc_no ?_
        refine gc_exit ?_
        refine ge_tx ?_
        refine ge_tx ?_
        refine ge_bx ?_
        refine ge_then ?_
        clear Xg8
        refine gc_seq ?_
        refine gc_reg ?_
        refine t 23 (.int .i64 x3) ?_
        refine tr 24 (pg g11) (iaV g11 0 (by decide)) ?_
        refine tl 25 (.int .u64 x13) Xg11 0 ?_
        refine tr 26 (pq g11 1) (iaV g11 1 (by decide)) ?_
        refine tl 27 (.int .u64 x18) Xg11 1 ?_
        refine tr 28 (pq g11 2) (iaV g11 2 (by decide)) ?_
        refine tl 29 (.int .u64 0) Xg11 2 ?_
        refine t 30 (.agg #[.int .i64 x3, .int .u64 x13, .int .u64 x18, .int .u64 0]) ?_
        refine ts Xg2 0 (.agg #[.int .i64 x3, .int .u64 x13, .int .u64 x18, .int .u64 0]) [.int .i64 x3, .int .u64 x13, .int .u64 x18, .int .u64 0] [.int .i64 x3, .int .u64 x13, .int .u64 x18, .int .u64 0] ?_
        intro v28 Y C
        replace BU := butC BU C (by omega)
        replace RD := RdA.offB RD Xg2 rfl (by omega) (chg_but C)
        replace Xg11 := Xg11.chg C (show g11 ≠ g2 by omega)
        clear C Xg2
        have Xg2 := Y
        clear Y
        refine gl_nil ?_
        refine ge_then ?_
        clear Xg11
        refine gc_ret ?_
        refine ge_ret (.agg #[.int .i64 x3, .int .u64 x13, .int .u64 x18, .int .u64 0]) (rsc 2 (T := 24) (by kernel_rfl) (by kernel_rfl) (lr Xg2 0)) ?_
        exact ⟨x3, x13, x18, 0, _, rM_mk Ex3 (rq_t b12 Ex13) (rq_t b17 Ex18) (rq_f b22), rfl, RD, BU⟩
    · refine gc_no (hc := congrArg Value.bool b17) ?_
      refine gc_skip ?_
      refine ge_bn ?_
      refine ge_then ?_
      refine gc_reg ?_
      refine t 22 (.int .i64 2) ?_
      refine t 12 (.int .i64 2) ?_
      refine gl_nil ?_
      refine ge_rd ?_
      refine gc_fr [(0, pg g), (2, pg g2), (3, .int .i64 x3), (4, pg g8), (5, pg g11), (6, .int .i64 1), (12, .int .i64 2), (13, .bool true), (14, .int .i64 1), (15, .int .i64 1), (16, pq g8 1), (17, .bool (uB x3)), (18, .int .i64 0), (19, pg g), (20, .int .u64 x13), (21, pg g11), (22, .int .i64 2)] (by kernel_rfl) ?_
      refine gc_seq ?_
      refine gc_reg ?_
      refine t 13 (.bool true) ?_
      refine gl_nil ?_
      refine ge_then ?_
      refine gc_seq ?_
      refine gc_yes ?_
      refine gc_skip ?_
      refine ge_then ?_
      refine gc_seq ?_
      refine gc_block ?_
      refine gc_seq ?_
      refine gc_reg ?_
      refine t 14 (.int .i64 2) ?_
      refine t 6 (.int .i64 2) ?_
      refine gl_nil ?_
      refine ge_then ?_
      refine gc_seq ?_
      refine gc_reg ?_
      refine t 15 (.int .i64 2) ?_
      refine tr 16 (pq g8 2) (iaU g8 2 (by decide)) ?_
      refine tl 17 (.bool (uN x3)) Xg8 2 ?_
      refine gl_nil ?_
      refine ge_then ?_
      rcases Bool.eq_false_or_eq_true (uN x3) with b29 | b29
      · refine gc_yes (hc := congrArg Value.bool b29) ?_
        refine gc_reg ?_
        refine t 18 (.int .i64 2) ?_
        refine t 19 (pg g) ?_
        refine tc 20 42 #[pg g] (xU64 (s := s14) RD) ?_
        rintro _ v32 ⟨x30, s31, Ex30, rfl, RX, U⟩
        refine ⟨_, rfl, ?_⟩
        replace BU := BU.trans U
        replace Xg2 := But.blk U Xg2 (show g2 ≠ g by omega)
        replace Xg8 := But.blk U Xg8 (show g8 ≠ g by omega)
        replace Xg11 := But.blk U Xg11 (show g11 ≠ g by omega)
        clear U
        clear RD
        have RD := RX
        clear RX
        refine tr 21 (pq g11 2) (iaV g11 2 (by decide)) ?_
        refine ts Xg11 2 (.int .u64 x30) [.int .u64 x30] [.int .u64 x13, .int .u64 0, .int .u64 x30] ?_
        intro v33 Y C
        replace BU := butC BU C (by omega)
        replace RD := RdA.offB RD Xg11 rfl (by omega) (chg_but C)
        replace Xg2 := Xg2.chg C (show g2 ≠ g11 by omega)
        replace Xg8 := Xg8.chg C (show g8 ≠ g11 by omega)
        clear C Xg11
        have Xg11 := Y
        clear Y
        refine gl_nil ?_
        refine ge_bn ?_
        refine ge_then ?_
        refine gc_reg ?_
        refine t 22 (.int .i64 3) ?_
        refine t 12 (.int .i64 3) ?_
        refine gl_nil ?_
        refine ge_rd ?_
        refine gc_fr [(0, pg g), (2, pg g2), (3, .int .i64 x3), (4, pg g8), (5, pg g11), (6, .int .i64 2), (12, .int .i64 3), (13, .bool true), (14, .int .i64 2), (15, .int .i64 2), (16, pq g8 2), (17, .bool (uN x3)), (18, .int .i64 2), (19, pg g), (20, .int .u64 x30), (21, pq g11 2), (22, .int .i64 3)] (by kernel_rfl) ?_
        refine gc_seq ?_
        refine gc_reg ?_
        refine t 13 (.bool false) ?_
        refine gl_nil ?_
        refine ge_then ?_
        refine gc_seq ?_
        refine gc_no ?_
        refine gc_exit ?_
        refine ge_tx ?_
        refine ge_tx ?_
        refine ge_bx ?_
        refine ge_then ?_
        clear Xg8
        refine gc_seq ?_
        refine gc_reg ?_
        refine t 23 (.int .i64 x3) ?_
        refine tr 24 (pg g11) (iaV g11 0 (by decide)) ?_
        refine tl 25 (.int .u64 x13) Xg11 0 ?_
        refine tr 26 (pq g11 1) (iaV g11 1 (by decide)) ?_
        refine tl 27 (.int .u64 0) Xg11 1 ?_
        refine tr 28 (pq g11 2) (iaV g11 2 (by decide)) ?_
        refine tl 29 (.int .u64 x30) Xg11 2 ?_
        refine t 30 (.agg #[.int .i64 x3, .int .u64 x13, .int .u64 0, .int .u64 x30]) ?_
        refine ts Xg2 0 (.agg #[.int .i64 x3, .int .u64 x13, .int .u64 0, .int .u64 x30]) [.int .i64 x3, .int .u64 x13, .int .u64 0, .int .u64 x30] [.int .i64 x3, .int .u64 x13, .int .u64 0, .int .u64 x30] ?_
        intro v34 Y C
        replace BU := butC BU C (by omega)
        replace RD := RdA.offB RD Xg2 rfl (by omega) (chg_but C)
        replace Xg11 := Xg11.chg C (show g11 ≠ g2 by omega)
        clear C Xg2
        have Xg2 := Y
        clear Y
        refine gl_nil ?_
        refine ge_then ?_
        clear Xg11
        refine gc_ret ?_
        refine ge_ret (.agg #[.int .i64 x3, .int .u64 x13, .int .u64 0, .int .u64 x30]) (rsc 2 (T := 24) (by kernel_rfl) (by kernel_rfl) (lr Xg2 0)) ?_
        exact ⟨x3, x13, 0, x30, _, rM_mk Ex3 (rq_t b12 Ex13) (rq_f b17) (rq_t b29 Ex30), rfl, RD, BU⟩
      · refine gc_no (hc := congrArg Value.bool b29) ?_
        refine gc_skip ?_
        refine ge_bn ?_
        refine ge_then ?_
        refine gc_reg ?_
        refine t 22 (.int .i64 3) ?_
        refine t 12 (.int .i64 3) ?_
        refine gl_nil ?_
        refine ge_rd ?_
        refine gc_fr [(0, pg g), (2, pg g2), (3, .int .i64 x3), (4, pg g8), (5, pg g11), (6, .int .i64 2), (12, .int .i64 3), (13, .bool true), (14, .int .i64 2), (15, .int .i64 2), (16, pq g8 2), (17, .bool (uN x3)), (18, .int .i64 0), (19, pg g), (20, .int .u64 x13), (21, pg g11), (22, .int .i64 3)] (by kernel_rfl) ?_
        refine gc_seq ?_
        refine gc_reg ?_
        refine t 13 (.bool false) ?_
        refine gl_nil ?_
        refine ge_then ?_
        refine gc_seq ?_
        refine gc_no ?_
        refine gc_exit ?_
        refine ge_tx ?_
        refine ge_tx ?_
        refine ge_bx ?_
        refine ge_then ?_
        clear Xg8
        refine gc_seq ?_
        refine gc_reg ?_
        refine t 23 (.int .i64 x3) ?_
        refine tr 24 (pg g11) (iaV g11 0 (by decide)) ?_
        refine tl 25 (.int .u64 x13) Xg11 0 ?_
        refine tr 26 (pq g11 1) (iaV g11 1 (by decide)) ?_
        refine tl 27 (.int .u64 0) Xg11 1 ?_
        refine tr 28 (pq g11 2) (iaV g11 2 (by decide)) ?_
        refine tl 29 (.int .u64 0) Xg11 2 ?_
        refine t 30 (.agg #[.int .i64 x3, .int .u64 x13, .int .u64 0, .int .u64 0]) ?_
        refine ts Xg2 0 (.agg #[.int .i64 x3, .int .u64 x13, .int .u64 0, .int .u64 0]) [.int .i64 x3, .int .u64 x13, .int .u64 0, .int .u64 0] [.int .i64 x3, .int .u64 x13, .int .u64 0, .int .u64 0] ?_
        intro v35 Y C
        replace BU := butC BU C (by omega)
        replace RD := RdA.offB RD Xg2 rfl (by omega) (chg_but C)
        replace Xg11 := Xg11.chg C (show g11 ≠ g2 by omega)
        clear C Xg2
        have Xg2 := Y
        clear Y
        refine gl_nil ?_
        refine ge_then ?_
        clear Xg11
        refine gc_ret ?_
        refine ge_ret (.agg #[.int .i64 x3, .int .u64 x13, .int .u64 0, .int .u64 0]) (rsc 2 (T := 24) (by kernel_rfl) (by kernel_rfl) (lr Xg2 0)) ?_
        exact ⟨x3, x13, 0, 0, _, rM_mk Ex3 (rq_t b12 Ex13) (rq_f b17) (rq_f b29), rfl, RD, BU⟩
  · refine gc_no (hc := congrArg Value.bool b12) ?_
    refine gc_skip ?_
    refine ge_bn ?_
    refine ge_then ?_
    refine gc_reg ?_
    refine t 22 (.int .i64 1) ?_
    refine t 12 (.int .i64 1) ?_
    refine gl_nil ?_
    refine ge_rd ?_
    refine gc_fr [(0, pg g), (2, pg g2), (3, .int .i64 x3), (4, pg g8), (5, pg g11), (6, .int .i64 0), (12, .int .i64 1), (13, .bool true), (14, .int .i64 0), (15, .int .i64 0), (16, pg g8), (17, .bool (uA x3)), (22, .int .i64 1)] (by kernel_rfl) ?_
    refine gc_seq ?_
    refine gc_reg ?_
    refine t 13 (.bool true) ?_
    refine gl_nil ?_
    refine ge_then ?_
    refine gc_seq ?_
    refine gc_yes ?_
    refine gc_skip ?_
    refine ge_then ?_
    refine gc_seq ?_
    refine gc_block ?_
    refine gc_seq ?_
    refine gc_reg ?_
    refine t 14 (.int .i64 1) ?_
    refine t 6 (.int .i64 1) ?_
    refine gl_nil ?_
    refine ge_then ?_
    refine gc_seq ?_
    refine gc_reg ?_
    refine t 15 (.int .i64 1) ?_
    refine tr 16 (pq g8 1) (iaU g8 1 (by decide)) ?_
    refine tl 17 (.bool (uB x3)) Xg8 1 ?_
    refine gl_nil ?_
    refine ge_then ?_
    rcases Bool.eq_false_or_eq_true (uB x3) with b36 | b36
    · refine gc_yes (hc := congrArg Value.bool b36) ?_
      refine gc_reg ?_
      refine t 18 (.int .i64 1) ?_
      refine t 19 (pg g) ?_
      refine tc 20 42 #[pg g] (xU64 (s := s4) RD) ?_
      rintro _ v39 ⟨x37, s38, Ex37, rfl, RX, U⟩
      refine ⟨_, rfl, ?_⟩
      replace BU := BU.trans U
      replace Xg2 := But.blk U Xg2 (show g2 ≠ g by omega)
      replace Xg8 := But.blk U Xg8 (show g8 ≠ g by omega)
      replace Xg11 := But.blk U Xg11 (show g11 ≠ g by omega)
      clear U
      clear RD
      have RD := RX
      clear RX
      refine tr 21 (pq g11 1) (iaV g11 1 (by decide)) ?_
      refine ts Xg11 1 (.int .u64 x37) [.int .u64 x37] [.int .u64 0, .int .u64 x37, .int .u64 0] ?_
      intro v40 Y C
      replace BU := butC BU C (by omega)
      replace RD := RdA.offB RD Xg11 rfl (by omega) (chg_but C)
      replace Xg2 := Xg2.chg C (show g2 ≠ g11 by omega)
      replace Xg8 := Xg8.chg C (show g8 ≠ g11 by omega)
      clear C Xg11
      have Xg11 := Y
      clear Y
      refine gl_nil ?_
      refine ge_bn ?_
      refine ge_then ?_
      refine gc_reg ?_
      refine t 22 (.int .i64 2) ?_
      refine t 12 (.int .i64 2) ?_
      refine gl_nil ?_
      refine ge_rd ?_
      refine gc_fr [(0, pg g), (2, pg g2), (3, .int .i64 x3), (4, pg g8), (5, pg g11), (6, .int .i64 1), (12, .int .i64 2), (13, .bool true), (14, .int .i64 1), (15, .int .i64 1), (16, pq g8 1), (17, .bool (uB x3)), (18, .int .i64 1), (19, pg g), (20, .int .u64 x37), (21, pq g11 1), (22, .int .i64 2)] (by kernel_rfl) ?_
      refine gc_seq ?_
      refine gc_reg ?_
      refine t 13 (.bool true) ?_
      refine gl_nil ?_
      refine ge_then ?_
      refine gc_seq ?_
      refine gc_yes ?_
      refine gc_skip ?_
      refine ge_then ?_
      refine gc_seq ?_
      refine gc_block ?_
      refine gc_seq ?_
      refine gc_reg ?_
      refine t 14 (.int .i64 2) ?_
      refine t 6 (.int .i64 2) ?_
      refine gl_nil ?_
      refine ge_then ?_
      refine gc_seq ?_
      refine gc_reg ?_
      refine t 15 (.int .i64 2) ?_
      refine tr 16 (pq g8 2) (iaU g8 2 (by decide)) ?_
      refine tl 17 (.bool (uN x3)) Xg8 2 ?_
      refine gl_nil ?_
      refine ge_then ?_
      rcases Bool.eq_false_or_eq_true (uN x3) with b41 | b41
      · refine gc_yes (hc := congrArg Value.bool b41) ?_
        refine gc_reg ?_
        refine t 18 (.int .i64 2) ?_
        refine t 19 (pg g) ?_
        refine tc 20 42 #[pg g] (xU64 (s := s38) RD) ?_
        rintro _ v44 ⟨x42, s43, Ex42, rfl, RX, U⟩
        refine ⟨_, rfl, ?_⟩
        replace BU := BU.trans U
        replace Xg2 := But.blk U Xg2 (show g2 ≠ g by omega)
        replace Xg8 := But.blk U Xg8 (show g8 ≠ g by omega)
        replace Xg11 := But.blk U Xg11 (show g11 ≠ g by omega)
        clear U
        clear RD
        have RD := RX
        clear RX
        refine tr 21 (pq g11 2) (iaV g11 2 (by decide)) ?_
        refine ts Xg11 2 (.int .u64 x42) [.int .u64 x42] [.int .u64 0, .int .u64 x37, .int .u64 x42] ?_
        intro v45 Y C
        replace BU := butC BU C (by omega)
        replace RD := RdA.offB RD Xg11 rfl (by omega) (chg_but C)
        replace Xg2 := Xg2.chg C (show g2 ≠ g11 by omega)
        replace Xg8 := Xg8.chg C (show g8 ≠ g11 by omega)
        clear C Xg11
        have Xg11 := Y
        clear Y
        refine gl_nil ?_
        refine ge_bn ?_
        refine ge_then ?_
        refine gc_reg ?_
        refine t 22 (.int .i64 3) ?_
        refine t 12 (.int .i64 3) ?_
        refine gl_nil ?_
        refine ge_rd ?_
        refine gc_fr [(0, pg g), (2, pg g2), (3, .int .i64 x3), (4, pg g8), (5, pg g11), (6, .int .i64 2), (12, .int .i64 3), (13, .bool true), (14, .int .i64 2), (15, .int .i64 2), (16, pq g8 2), (17, .bool (uN x3)), (18, .int .i64 2), (19, pg g), (20, .int .u64 x42), (21, pq g11 2), (22, .int .i64 3)] (by kernel_rfl) ?_
        refine gc_seq ?_
        refine gc_reg ?_
        refine t 13 (.bool false) ?_
        refine gl_nil ?_
        refine ge_then ?_
        refine gc_seq ?_
        refine gc_no ?_
        refine gc_exit ?_
        refine ge_tx ?_
        refine ge_tx ?_
        refine ge_bx ?_
        refine ge_then ?_
        clear Xg8
        refine gc_seq ?_
        refine gc_reg ?_
        refine t 23 (.int .i64 x3) ?_
        refine tr 24 (pg g11) (iaV g11 0 (by decide)) ?_
        refine tl 25 (.int .u64 0) Xg11 0 ?_
        refine tr 26 (pq g11 1) (iaV g11 1 (by decide)) ?_
        refine tl 27 (.int .u64 x37) Xg11 1 ?_
        refine tr 28 (pq g11 2) (iaV g11 2 (by decide)) ?_
        refine tl 29 (.int .u64 x42) Xg11 2 ?_
        refine t 30 (.agg #[.int .i64 x3, .int .u64 0, .int .u64 x37, .int .u64 x42]) ?_
        refine ts Xg2 0 (.agg #[.int .i64 x3, .int .u64 0, .int .u64 x37, .int .u64 x42]) [.int .i64 x3, .int .u64 0, .int .u64 x37, .int .u64 x42] [.int .i64 x3, .int .u64 0, .int .u64 x37, .int .u64 x42] ?_
        intro v46 Y C
        replace BU := butC BU C (by omega)
        replace RD := RdA.offB RD Xg2 rfl (by omega) (chg_but C)
        replace Xg11 := Xg11.chg C (show g11 ≠ g2 by omega)
        clear C Xg2
        have Xg2 := Y
        clear Y
        refine gl_nil ?_
        refine ge_then ?_
        clear Xg11
        refine gc_ret ?_
        refine ge_ret (.agg #[.int .i64 x3, .int .u64 0, .int .u64 x37, .int .u64 x42]) (rsc 2 (T := 24) (by kernel_rfl) (by kernel_rfl) (lr Xg2 0)) ?_
        exact ⟨x3, 0, x37, x42, _, rM_mk Ex3 (rq_f b12) (rq_t b36 Ex37) (rq_t b41 Ex42), rfl, RD, BU⟩
      · refine gc_no (hc := congrArg Value.bool b41) ?_
        refine gc_skip ?_
        refine ge_bn ?_
        refine ge_then ?_
        refine gc_reg ?_
        refine t 22 (.int .i64 3) ?_
        refine t 12 (.int .i64 3) ?_
        refine gl_nil ?_
        refine ge_rd ?_
        refine gc_fr [(0, pg g), (2, pg g2), (3, .int .i64 x3), (4, pg g8), (5, pg g11), (6, .int .i64 2), (12, .int .i64 3), (13, .bool true), (14, .int .i64 2), (15, .int .i64 2), (16, pq g8 2), (17, .bool (uN x3)), (18, .int .i64 1), (19, pg g), (20, .int .u64 x37), (21, pq g11 1), (22, .int .i64 3)] (by kernel_rfl) ?_
        refine gc_seq ?_
        refine gc_reg ?_
        refine t 13 (.bool false) ?_
        refine gl_nil ?_
        refine ge_then ?_
        refine gc_seq ?_
        refine gc_no ?_
        refine gc_exit ?_
        refine ge_tx ?_
        refine ge_tx ?_
        refine ge_bx ?_
        refine ge_then ?_
        clear Xg8
        refine gc_seq ?_
        refine gc_reg ?_
        refine t 23 (.int .i64 x3) ?_
        refine tr 24 (pg g11) (iaV g11 0 (by decide)) ?_
        refine tl 25 (.int .u64 0) Xg11 0 ?_
        refine tr 26 (pq g11 1) (iaV g11 1 (by decide)) ?_
        refine tl 27 (.int .u64 x37) Xg11 1 ?_
        refine tr 28 (pq g11 2) (iaV g11 2 (by decide)) ?_
        refine tl 29 (.int .u64 0) Xg11 2 ?_
        refine t 30 (.agg #[.int .i64 x3, .int .u64 0, .int .u64 x37, .int .u64 0]) ?_
        refine ts Xg2 0 (.agg #[.int .i64 x3, .int .u64 0, .int .u64 x37, .int .u64 0]) [.int .i64 x3, .int .u64 0, .int .u64 x37, .int .u64 0] [.int .i64 x3, .int .u64 0, .int .u64 x37, .int .u64 0] ?_
        intro v47 Y C
        replace BU := butC BU C (by omega)
        replace RD := RdA.offB RD Xg2 rfl (by omega) (chg_but C)
        replace Xg11 := Xg11.chg C (show g11 ≠ g2 by omega)
        clear C Xg2
        have Xg2 := Y
        clear Y
        refine gl_nil ?_
        refine ge_then ?_
        clear Xg11
        refine gc_ret ?_
        refine ge_ret (.agg #[.int .i64 x3, .int .u64 0, .int .u64 x37, .int .u64 0]) (rsc 2 (T := 24) (by kernel_rfl) (by kernel_rfl) (lr Xg2 0)) ?_
        exact ⟨x3, 0, x37, 0, _, rM_mk Ex3 (rq_f b12) (rq_t b36 Ex37) (rq_f b41), rfl, RD, BU⟩
    · refine gc_no (hc := congrArg Value.bool b36) ?_
      refine gc_skip ?_
      refine ge_bn ?_
      refine ge_then ?_
      refine gc_reg ?_
      refine t 22 (.int .i64 2) ?_
      refine t 12 (.int .i64 2) ?_
      refine gl_nil ?_
      refine ge_rd ?_
      refine gc_fr [(0, pg g), (2, pg g2), (3, .int .i64 x3), (4, pg g8), (5, pg g11), (6, .int .i64 1), (12, .int .i64 2), (13, .bool true), (14, .int .i64 1), (15, .int .i64 1), (16, pq g8 1), (17, .bool (uB x3)), (22, .int .i64 2)] (by kernel_rfl) ?_
      refine gc_seq ?_
      refine gc_reg ?_
      refine t 13 (.bool true) ?_
      refine gl_nil ?_
      refine ge_then ?_
      refine gc_seq ?_
      refine gc_yes ?_
      refine gc_skip ?_
      refine ge_then ?_
      refine gc_seq ?_
      refine gc_block ?_
      refine gc_seq ?_
      refine gc_reg ?_
      refine t 14 (.int .i64 2) ?_
      refine t 6 (.int .i64 2) ?_
      refine gl_nil ?_
      refine ge_then ?_
      refine gc_seq ?_
      refine gc_reg ?_
      refine t 15 (.int .i64 2) ?_
      refine tr 16 (pq g8 2) (iaU g8 2 (by decide)) ?_
      refine tl 17 (.bool (uN x3)) Xg8 2 ?_
      refine gl_nil ?_
      refine ge_then ?_
      rcases Bool.eq_false_or_eq_true (uN x3) with b48 | b48
      · refine gc_yes (hc := congrArg Value.bool b48) ?_
        refine gc_reg ?_
        refine t 18 (.int .i64 2) ?_
        refine t 19 (pg g) ?_
        refine tc 20 42 #[pg g] (xU64 (s := s4) RD) ?_
        rintro _ v51 ⟨x49, s50, Ex49, rfl, RX, U⟩
        refine ⟨_, rfl, ?_⟩
        replace BU := BU.trans U
        replace Xg2 := But.blk U Xg2 (show g2 ≠ g by omega)
        replace Xg8 := But.blk U Xg8 (show g8 ≠ g by omega)
        replace Xg11 := But.blk U Xg11 (show g11 ≠ g by omega)
        clear U
        clear RD
        have RD := RX
        clear RX
        refine tr 21 (pq g11 2) (iaV g11 2 (by decide)) ?_
        refine ts Xg11 2 (.int .u64 x49) [.int .u64 x49] [.int .u64 0, .int .u64 0, .int .u64 x49] ?_
        intro v52 Y C
        replace BU := butC BU C (by omega)
        replace RD := RdA.offB RD Xg11 rfl (by omega) (chg_but C)
        replace Xg2 := Xg2.chg C (show g2 ≠ g11 by omega)
        replace Xg8 := Xg8.chg C (show g8 ≠ g11 by omega)
        clear C Xg11
        have Xg11 := Y
        clear Y
        refine gl_nil ?_
        refine ge_bn ?_
        refine ge_then ?_
        refine gc_reg ?_
        refine t 22 (.int .i64 3) ?_
        refine t 12 (.int .i64 3) ?_
        refine gl_nil ?_
        refine ge_rd ?_
        refine gc_fr [(0, pg g), (2, pg g2), (3, .int .i64 x3), (4, pg g8), (5, pg g11), (6, .int .i64 2), (12, .int .i64 3), (13, .bool true), (14, .int .i64 2), (15, .int .i64 2), (16, pq g8 2), (17, .bool (uN x3)), (18, .int .i64 2), (19, pg g), (20, .int .u64 x49), (21, pq g11 2), (22, .int .i64 3)] (by kernel_rfl) ?_
        refine gc_seq ?_
        refine gc_reg ?_
        refine t 13 (.bool false) ?_
        refine gl_nil ?_
        refine ge_then ?_
        refine gc_seq ?_
        refine gc_no ?_
        refine gc_exit ?_
        refine ge_tx ?_
        refine ge_tx ?_
        refine ge_bx ?_
        refine ge_then ?_
        clear Xg8
        refine gc_seq ?_
        refine gc_reg ?_
        refine t 23 (.int .i64 x3) ?_
        refine tr 24 (pg g11) (iaV g11 0 (by decide)) ?_
        refine tl 25 (.int .u64 0) Xg11 0 ?_
        refine tr 26 (pq g11 1) (iaV g11 1 (by decide)) ?_
        refine tl 27 (.int .u64 0) Xg11 1 ?_
        refine tr 28 (pq g11 2) (iaV g11 2 (by decide)) ?_
        refine tl 29 (.int .u64 x49) Xg11 2 ?_
        refine t 30 (.agg #[.int .i64 x3, .int .u64 0, .int .u64 0, .int .u64 x49]) ?_
        refine ts Xg2 0 (.agg #[.int .i64 x3, .int .u64 0, .int .u64 0, .int .u64 x49]) [.int .i64 x3, .int .u64 0, .int .u64 0, .int .u64 x49] [.int .i64 x3, .int .u64 0, .int .u64 0, .int .u64 x49] ?_
        intro v53 Y C
        replace BU := butC BU C (by omega)
        replace RD := RdA.offB RD Xg2 rfl (by omega) (chg_but C)
        replace Xg11 := Xg11.chg C (show g11 ≠ g2 by omega)
        clear C Xg2
        have Xg2 := Y
        clear Y
        refine gl_nil ?_
        refine ge_then ?_
        clear Xg11
        refine gc_ret ?_
        refine ge_ret (.agg #[.int .i64 x3, .int .u64 0, .int .u64 0, .int .u64 x49]) (rsc 2 (T := 24) (by kernel_rfl) (by kernel_rfl) (lr Xg2 0)) ?_
        exact ⟨x3, 0, 0, x49, _, rM_mk Ex3 (rq_f b12) (rq_f b36) (rq_t b48 Ex49), rfl, RD, BU⟩
      · refine gc_no (hc := congrArg Value.bool b48) ?_
        refine gc_skip ?_
        refine ge_bn ?_
        refine ge_then ?_
        refine gc_reg ?_
        refine t 22 (.int .i64 3) ?_
        refine t 12 (.int .i64 3) ?_
        refine gl_nil ?_
        refine ge_rd ?_
        refine gc_fr [(0, pg g), (2, pg g2), (3, .int .i64 x3), (4, pg g8), (5, pg g11), (6, .int .i64 2), (12, .int .i64 3), (13, .bool true), (14, .int .i64 2), (15, .int .i64 2), (16, pq g8 2), (17, .bool (uN x3)), (22, .int .i64 3)] (by kernel_rfl) ?_
        refine gc_seq ?_
        refine gc_reg ?_
        refine t 13 (.bool false) ?_
        refine gl_nil ?_
        refine ge_then ?_
        refine gc_seq ?_
        refine gc_no ?_
        refine gc_exit ?_
        refine ge_tx ?_
        refine ge_tx ?_
        refine ge_bx ?_
        refine ge_then ?_
        clear Xg8
        refine gc_seq ?_
        refine gc_reg ?_
        refine t 23 (.int .i64 x3) ?_
        refine tr 24 (pg g11) (iaV g11 0 (by decide)) ?_
        refine tl 25 (.int .u64 0) Xg11 0 ?_
        refine tr 26 (pq g11 1) (iaV g11 1 (by decide)) ?_
        refine tl 27 (.int .u64 0) Xg11 1 ?_
        refine tr 28 (pq g11 2) (iaV g11 2 (by decide)) ?_
        refine tl 29 (.int .u64 0) Xg11 2 ?_
        refine t 30 (.agg #[.int .i64 x3, .int .u64 0, .int .u64 0, .int .u64 0]) ?_
        refine ts Xg2 0 (.agg #[.int .i64 x3, .int .u64 0, .int .u64 0, .int .u64 0]) [.int .i64 x3, .int .u64 0, .int .u64 0, .int .u64 0] [.int .i64 x3, .int .u64 0, .int .u64 0, .int .u64 0] ?_
        intro v54 Y C
        replace BU := butC BU C (by omega)
        replace RD := RdA.offB RD Xg2 rfl (by omega) (chg_but C)
        replace Xg11 := Xg11.chg C (show g11 ≠ g2 by omega)
        clear C Xg2
        have Xg2 := Y
        clear Y
        refine gl_nil ?_
        refine ge_then ?_
        clear Xg11
        refine gc_ret ?_
        refine ge_ret (.agg #[.int .i64 x3, .int .u64 0, .int .u64 0, .int .u64 0]) (rsc 2 (T := 24) (by kernel_rfl) (by kernel_rfl) (lr Xg2 0)) ?_
        exact ⟨x3, 0, 0, 0, _, rM_mk Ex3 (rq_f b12) (rq_f b36) (rq_f b48), rfl, RD, BU⟩
theorem readTx_any {w : World} {g b : Nat} {s : St} (RD : RdA w g b s.1 s.2) : Calls Try.prog 34 #[pg g] w fun e w' => ∃ x y z m p q r s', rT s = (⟨1, x, y, z, m, p, q, r, 0, 0, 0⟩, s') ∧ e = .returned (TX x y z m p q r) ∧ RdA w' g b s'.1 s'.2 ∧ But g w w' := by
  have BU := But.refl g w
  have lRD := RD.lt
  refine gc_enter (n := 17) Try.func34 rfl (by kernel_rfl) (by kernel_rfl) ?_
  refine gc_seq ?_
  refine gc_reg ?_
  have lRD := RD.lt
  refine ta 2 [.int .u64 0, .int .u64 0, .int .u64 0, .int .i64 0, .int .u64 0, .int .u64 0, .int .u64 0] 26 (pg) ?_
  intro v1 g2 Xg2 hg2 B
  have zg2 := Nat.le_trans BU.size hg2
  replace BU := BU.trans (But.of B)
  replace RD := RD.keep B
  clear B
  refine gl_nil ?_
  refine ge_then ?_
  refine gc_seq ?_
  refine gc_reg ?_
  refine t 4 (pg g) ?_
  refine tc 5 42 #[pg g] (xU64 (s := s) RD) ?_
  rintro _ v5 ⟨x3, s4, Ex3, rfl, RX, U⟩
  refine ⟨_, rfl, ?_⟩
  replace BU := BU.trans U
  replace Xg2 := But.blk U Xg2 (show g2 ≠ g by omega)
  clear U
  clear RD
  have RD := RX
  clear RX
  refine t 6 (.agg #[.int .u64 x3, .int .u64 0, .int .u64 0, .int .i64 0, .int .u64 0, .int .u64 0, .int .u64 0]) ?_
  have lRD := RD.lt
  have lXg2 := Xg2.lt
  refine ta 3 [.int .u64 0, .int .u64 0, .int .u64 0, .int .i64 0, .int .u64 0, .int .u64 0, .int .u64 0] 26 (pg) ?_
  intro v6 g7 Xg7 hg7 B
  have zg7 := Nat.le_trans BU.size hg7
  replace BU := BU.trans (But.of B)
  replace RD := RD.keep B
  replace Xg2 := Xg2.keep B
  clear B
  refine ts Xg7 0 (.agg #[.int .u64 x3, .int .u64 0, .int .u64 0, .int .i64 0, .int .u64 0, .int .u64 0, .int .u64 0]) [.int .u64 x3, .int .u64 0, .int .u64 0, .int .i64 0, .int .u64 0, .int .u64 0, .int .u64 0] [.int .u64 x3, .int .u64 0, .int .u64 0, .int .i64 0, .int .u64 0, .int .u64 0, .int .u64 0] ?_
  intro v8 Y C
  replace BU := butC BU C (by omega)
  replace RD := RdA.offB RD Xg7 rfl (by omega) (chg_but C)
  replace Xg2 := Xg2.chg C (show g2 ≠ g7 by omega)
  clear C Xg7
  have Xg7 := Y
  clear Y
  refine gl_nil ?_
  refine ge_then ?_
  refine gc_seq ?_
  refine gc_reg ?_
  refine t 7 (pg g) ?_
  refine tc 8 42 #[pg g] (xU64 (s := s4) RD) ?_
  rintro _ v11 ⟨x9, s10, Ex9, rfl, RX, U⟩
  refine ⟨_, rfl, ?_⟩
  replace BU := BU.trans U
  replace Xg2 := But.blk U Xg2 (show g2 ≠ g by omega)
  replace Xg7 := But.blk U Xg7 (show g7 ≠ g by omega)
  clear U
  clear RD
  have RD := RX
  clear RX
  refine t 9 (pq g7 1) ?_
  refine ts Xg7 1 (.int .u64 x9) [.int .u64 x9] [.int .u64 x3, .int .u64 x9, .int .u64 0, .int .i64 0, .int .u64 0, .int .u64 0, .int .u64 0] ?_
  intro v12 Y C
  replace BU := butC BU C (by omega)
  replace RD := RdA.offB RD Xg7 rfl (by omega) (chg_but C)
  replace Xg2 := Xg2.chg C (show g2 ≠ g7 by omega)
  clear C Xg7
  have Xg7 := Y
  clear Y
  refine gl_nil ?_
  refine ge_then ?_
  refine gc_seq ?_
  refine gc_reg ?_
  refine t 10 (pg g) ?_
  refine tc 11 42 #[pg g] (xU64 (s := s10) RD) ?_
  rintro _ v15 ⟨x13, s14, Ex13, rfl, RX, U⟩
  refine ⟨_, rfl, ?_⟩
  replace BU := BU.trans U
  replace Xg2 := But.blk U Xg2 (show g2 ≠ g by omega)
  replace Xg7 := But.blk U Xg7 (show g7 ≠ g by omega)
  clear U
  clear RD
  have RD := RX
  clear RX
  refine t 12 (pq g7 2) ?_
  refine ts Xg7 2 (.int .u64 x13) [.int .u64 x13] [.int .u64 x3, .int .u64 x9, .int .u64 x13, .int .i64 0, .int .u64 0, .int .u64 0, .int .u64 0] ?_
  intro v16 Y C
  replace BU := butC BU C (by omega)
  replace RD := RdA.offB RD Xg7 rfl (by omega) (chg_but C)
  replace Xg2 := Xg2.chg C (show g2 ≠ g7 by omega)
  clear C Xg7
  have Xg7 := Y
  clear Y
  refine gl_nil ?_
  refine ge_then ?_
  refine gc_seq ?_
  refine gc_reg ?_
  refine t 13 (pg g) ?_
  refine tc 14 43 #[pg g] (readMsg_any (s := s14) RD) ?_
  rintro _ v19 ⟨mx17, ax17, bx17, nx17, s18, Ex17, rfl, RX, U⟩
  refine ⟨_, rfl, ?_⟩
  replace BU := BU.trans U
  replace Xg2 := But.blk U Xg2 (show g2 ≠ g by omega)
  replace Xg7 := But.blk U Xg7 (show g7 ≠ g by omega)
  clear U
  clear RD
  have RD := RX
  clear RX
  refine t 15 (pq g7 3) ?_
  refine ts Xg7 3 (.agg #[.int .i64 mx17, .int .u64 ax17, .int .u64 bx17, .int .u64 nx17]) [.int .i64 mx17, .int .u64 ax17, .int .u64 bx17, .int .u64 nx17] [.int .u64 x3, .int .u64 x9, .int .u64 x13, .int .i64 mx17, .int .u64 ax17, .int .u64 bx17, .int .u64 nx17] ?_
  intro v20 Y C
  replace BU := butC BU C (by omega)
  replace RD := RdA.offB RD Xg7 rfl (by omega) (chg_but C)
  replace Xg2 := Xg2.chg C (show g2 ≠ g7 by omega)
  clear C Xg7
  have Xg7 := Y
  clear Y
  refine gl_nil ?_
  refine ge_then ?_
  refine gc_seq ?_
  refine gc_reg ?_
  refine tlr 16 [.int .u64 x3, .int .u64 x9, .int .u64 x13, .int .i64 mx17, .int .u64 ax17, .int .u64 bx17, .int .u64 nx17] Xg7 0 ?_
  refine ts Xg2 0 (.agg #[.int .u64 x3, .int .u64 x9, .int .u64 x13, .int .i64 mx17, .int .u64 ax17, .int .u64 bx17, .int .u64 nx17]) [.int .u64 x3, .int .u64 x9, .int .u64 x13, .int .i64 mx17, .int .u64 ax17, .int .u64 bx17, .int .u64 nx17] [.int .u64 x3, .int .u64 x9, .int .u64 x13, .int .i64 mx17, .int .u64 ax17, .int .u64 bx17, .int .u64 nx17] ?_
  intro v21 Y C
  replace BU := butC BU C (by omega)
  replace RD := RdA.offB RD Xg2 rfl (by omega) (chg_but C)
  replace Xg7 := Xg7.chg C (show g7 ≠ g2 by omega)
  clear C Xg2
  have Xg2 := Y
  clear Y
  refine gl_nil ?_
  refine ge_then ?_
  clear Xg7
  refine gc_fr [(2, pg g2)] (by kernel_rfl) ?_
  refine gc_ret ?_
  refine ge_ret (.agg #[.int .u64 x3, .int .u64 x9, .int .u64 x13, .int .i64 mx17, .int .u64 ax17, .int .u64 bx17, .int .u64 nx17]) (rsc 2 (T := 26) (by kernel_rfl) (by kernel_rfl) (lr Xg2 0)) ?_
  exact ⟨_, _, _, _, _, _, _, _, rT_mk Ex3 Ex9 Ex13 Ex17, rfl, RD, BU⟩
theorem readFault_any {w : World} {g b : Nat} {s : St} (RD : RdA w g b s.1 s.2) : Calls Try.prog 35 #[pg g] w fun e w' => ∃ x y z s', rF s = (⟨2, 0, 0, 0, 0, 0, 0, 0, x, y, z⟩, s') ∧ e = .returned (.agg #[.int .i64 x, .int .u64 y, .int .u64 z]) ∧ RdA w' g b s'.1 s'.2 ∧ But g w w' := by
  have BU := But.refl g w
  have lRD := RD.lt
  refine gc_enter (n := 15) Try.func35 rfl (by kernel_rfl) (by kernel_rfl) ?_
  refine gc_seq ?_
  refine gc_reg ?_
  have lRD := RD.lt
  refine ta 2 [.int .i64 0, .int .u64 0, .int .u64 0] 28 (pg) ?_
  intro v1 g2 Xg2 hg2 B
  have zg2 := Nat.le_trans BU.size hg2
  replace BU := BU.trans (But.of B)
  replace RD := RD.keep B
  clear B
  refine gl_nil ?_
  refine ge_then ?_
  refine gc_seq ?_
  refine gc_reg ?_
  refine t 4 (pg g) ?_
  refine tc 5 33 #[pg g] (xU8 (s := s) RD) ?_
  rintro _ v5 ⟨x3, s4, Ex3, Hx3, rfl, RX, U⟩
  refine ⟨_, rfl, ?_⟩
  replace BU := BU.trans U
  replace Xg2 := But.blk U Xg2 (show g2 ≠ g by omega)
  clear U
  clear RD
  have RD := RX
  clear RX
  refine tr 6 (.int .i64 x3) (cv_ui x3 Hx3) ?_
  refine t 7 (.agg #[.int .i64 x3, .int .u64 0, .int .u64 0]) ?_
  have lRD := RD.lt
  have lXg2 := Xg2.lt
  refine ta 3 [.int .i64 0, .int .u64 0, .int .u64 0] 28 (pg) ?_
  intro v6 g7 Xg7 hg7 B
  have zg7 := Nat.le_trans BU.size hg7
  replace BU := BU.trans (But.of B)
  replace RD := RD.keep B
  replace Xg2 := Xg2.keep B
  clear B
  refine ts Xg7 0 (.agg #[.int .i64 x3, .int .u64 0, .int .u64 0]) [.int .i64 x3, .int .u64 0, .int .u64 0] [.int .i64 x3, .int .u64 0, .int .u64 0] ?_
  intro v8 Y C
  replace BU := butC BU C (by omega)
  replace RD := RdA.offB RD Xg7 rfl (by omega) (chg_but C)
  replace Xg2 := Xg2.chg C (show g2 ≠ g7 by omega)
  clear C Xg7
  have Xg7 := Y
  clear Y
  refine gl_nil ?_
  refine ge_then ?_
  refine gc_seq ?_
  refine gc_reg ?_
  refine t 8 (pg g) ?_
  refine tc 9 42 #[pg g] (xU64 (s := s4) RD) ?_
  rintro _ v11 ⟨x9, s10, Ex9, rfl, RX, U⟩
  refine ⟨_, rfl, ?_⟩
  replace BU := BU.trans U
  replace Xg2 := But.blk U Xg2 (show g2 ≠ g by omega)
  replace Xg7 := But.blk U Xg7 (show g7 ≠ g by omega)
  clear U
  clear RD
  have RD := RX
  clear RX
  refine t 10 (pq g7 1) ?_
  refine ts Xg7 1 (.int .u64 x9) [.int .u64 x9] [.int .i64 x3, .int .u64 x9, .int .u64 0] ?_
  intro v12 Y C
  replace BU := butC BU C (by omega)
  replace RD := RdA.offB RD Xg7 rfl (by omega) (chg_but C)
  replace Xg2 := Xg2.chg C (show g2 ≠ g7 by omega)
  clear C Xg7
  have Xg7 := Y
  clear Y
  refine gl_nil ?_
  refine ge_then ?_
  refine gc_seq ?_
  refine gc_reg ?_
  refine t 11 (pg g) ?_
  refine tc 12 42 #[pg g] (xU64 (s := s10) RD) ?_
  rintro _ v15 ⟨x13, s14, Ex13, rfl, RX, U⟩
  refine ⟨_, rfl, ?_⟩
  replace BU := BU.trans U
  replace Xg2 := But.blk U Xg2 (show g2 ≠ g by omega)
  replace Xg7 := But.blk U Xg7 (show g7 ≠ g by omega)
  clear U
  clear RD
  have RD := RX
  clear RX
  refine t 13 (pq g7 2) ?_
  refine ts Xg7 2 (.int .u64 x13) [.int .u64 x13] [.int .i64 x3, .int .u64 x9, .int .u64 x13] ?_
  intro v16 Y C
  replace BU := butC BU C (by omega)
  replace RD := RdA.offB RD Xg7 rfl (by omega) (chg_but C)
  replace Xg2 := Xg2.chg C (show g2 ≠ g7 by omega)
  clear C Xg7
  have Xg7 := Y
  clear Y
  refine gl_nil ?_
  refine ge_then ?_
  refine gc_seq ?_
  refine gc_reg ?_
  refine tlr 14 [.int .i64 x3, .int .u64 x9, .int .u64 x13] Xg7 0 ?_
  refine ts Xg2 0 (.agg #[.int .i64 x3, .int .u64 x9, .int .u64 x13]) [.int .i64 x3, .int .u64 x9, .int .u64 x13] [.int .i64 x3, .int .u64 x9, .int .u64 x13] ?_
  intro v17 Y C
  replace BU := butC BU C (by omega)
  replace RD := RdA.offB RD Xg2 rfl (by omega) (chg_but C)
  replace Xg7 := Xg7.chg C (show g7 ≠ g2 by omega)
  clear C Xg2
  have Xg2 := Y
  clear Y
  refine gl_nil ?_
  refine ge_then ?_
  clear Xg7
  refine gc_ret ?_
  refine ge_ret (.agg #[.int .i64 x3, .int .u64 x9, .int .u64 x13]) (rsc 2 (T := 28) (by kernel_rfl) (by kernel_rfl) (lr Xg2 0)) ?_
  exact ⟨_, _, _, _, rF_mk Ex3 Ex9 Ex13, rfl, RD, BU⟩
theorem readItem_any {w : World} {g b : Nat} {s : St} (RD : RdA w g b s.1 s.2) : Calls Try.prog 22 #[pg g] w fun e w' => ∃ i s', rI s = (i, s') ∧ e = .returned i.val ∧ RdA w' g b s'.1 s'.2 ∧ But g w w' := by
  have BU := But.refl g w
  have lRD := RD.lt
  refine gc_enter (n := 16) Try.func22 rfl (by kernel_rfl) (by kernel_rfl) ?_
  refine gc_seq ?_
  refine gc_reg ?_
  have lRD := RD.lt
  refine ta 2 [.int .i64 0, .int .u64 0, .int .u64 0, .int .u64 0, .int .i64 0, .int .u64 0, .int .u64 0, .int .u64 0, .int .i64 0, .int .u64 0, .int .u64 0] 30 (pg) ?_
  intro v1 g2 Xg2 hg2 B
  have zg2 := Nat.le_trans BU.size hg2
  replace BU := BU.trans (But.of B)
  replace RD := RD.keep B
  clear B
  refine gl_nil ?_
  refine ge_then ?_
  refine gc_seq ?_
  refine gc_seq ?_
  refine gc_reg ?_
  refine t 3 (pg g) ?_
  refine tc 4 33 #[pg g] (xU8 (s := s) RD) ?_
  rintro _ v5 ⟨x3, s4, Ex3, Hx3, rfl, RX, U⟩
  refine ⟨_, rfl, ?_⟩
  replace BU := BU.trans U
  replace Xg2 := But.blk U Xg2 (show g2 ≠ g by omega)
  clear U
  clear RD
  have RD := RX
  clear RX
  refine gl_nil ?_
  refine ge_then ?_
  refine gc_block ?_
  refine gc_seq ?_
  refine gc_reg ?_
  by_cases c6 : (x3 : Int) = 84
  · refine tq 6 (.bool ((x3 : Int) == 84)) (.bool true) (congrArg Value.bool (beq_iff_eq.2 c6)) ?_
    refine t 5 (.bool true) ?_
    refine gl_nil ?_
    refine ge_then ?_
    refine gc_yes ?_
    refine gc_seq ?_
    refine gc_reg ?_
    refine t 7 (pg g) ?_
    refine tc 8 34 #[pg g] (readTx_any (s := s4) RD) ?_
    rintro _ v9 ⟨ax7, bx7, cx7, dx7, ex7, fx7, hx7, s8, Ex7, rfl, RX, U⟩
    refine ⟨_, rfl, ?_⟩
    replace BU := BU.trans U
    replace Xg2 := But.blk U Xg2 (show g2 ≠ g by omega)
    clear U
    clear RD
    have RD := RX
    clear RX
    refine t 9 (.agg #[.int .i64 1, .int .u64 ax7, .int .u64 bx7, .int .u64 cx7, .int .i64 dx7, .int .u64 ex7, .int .u64 fx7, .int .u64 hx7, .int .i64 0, .int .u64 0, .int .u64 0]) ?_
    refine ts Xg2 0 (.agg #[.int .i64 1, .int .u64 ax7, .int .u64 bx7, .int .u64 cx7, .int .i64 dx7, .int .u64 ex7, .int .u64 fx7, .int .u64 hx7, .int .i64 0, .int .u64 0, .int .u64 0]) [.int .i64 1, .int .u64 ax7, .int .u64 bx7, .int .u64 cx7, .int .i64 dx7, .int .u64 ex7, .int .u64 fx7, .int .u64 hx7, .int .i64 0, .int .u64 0, .int .u64 0] [.int .i64 1, .int .u64 ax7, .int .u64 bx7, .int .u64 cx7, .int .i64 dx7, .int .u64 ex7, .int .u64 fx7, .int .u64 hx7, .int .i64 0, .int .u64 0, .int .u64 0] ?_
    intro v10 Y C
    replace BU := butC BU C (by omega)
    replace RD := RdA.offB RD Xg2 rfl (by omega) (chg_but C)
    clear C Xg2
    have Xg2 := Y
    clear Y
    refine gl_nil ?_
    refine ge_then ?_
    refine gc_ret ?_
    refine ge_br ?_
    refine ge_tr ?_
    refine ge_ret (.agg #[.int .i64 1, .int .u64 ax7, .int .u64 bx7, .int .u64 cx7, .int .i64 dx7, .int .u64 ex7, .int .u64 fx7, .int .u64 hx7, .int .i64 0, .int .u64 0, .int .u64 0]) (rsc 2 (T := 30) (by kernel_rfl) (by kernel_rfl) (lr Xg2 0)) ?_
    exact ⟨_, _, rI_t Ex3 c6 Ex7, rfl, RD, BU⟩
  · refine tq 6 (.bool ((x3 : Int) == 84)) (.bool false) (congrArg Value.bool (beq_eq_false_iff_ne.2 c6)) ?_
    refine t 5 (.bool false) ?_
    refine gl_nil ?_
    refine ge_then ?_
    refine gc_no ?_
    refine gc_seq ?_
    refine gc_reg ?_
    by_cases c11 : (x3 : Int) = 70
    · refine tq 11 (.bool ((x3 : Int) == 70)) (.bool true) (congrArg Value.bool (beq_iff_eq.2 c11)) ?_
      refine t 10 (.bool true) ?_
      refine gl_nil ?_
      refine ge_then ?_
      refine gc_yes ?_
      refine gc_seq ?_
      refine gc_reg ?_
      refine t 12 (pg g) ?_
      refine tc 13 35 #[pg g] (readFault_any (s := s4) RD) ?_
      rintro _ v14 ⟨ax12, bx12, cx12, s13, Ex12, rfl, RX, U⟩
      refine ⟨_, rfl, ?_⟩
      replace BU := BU.trans U
      replace Xg2 := But.blk U Xg2 (show g2 ≠ g by omega)
      clear U
      clear RD
      have RD := RX
      clear RX
      refine t 14 (.agg #[.int .i64 2, .int .u64 0, .int .u64 0, .int .u64 0, .int .i64 0, .int .u64 0, .int .u64 0, .int .u64 0, .int .i64 ax12, .int .u64 bx12, .int .u64 cx12]) ?_
      refine ts Xg2 0 (.agg #[.int .i64 2, .int .u64 0, .int .u64 0, .int .u64 0, .int .i64 0, .int .u64 0, .int .u64 0, .int .u64 0, .int .i64 ax12, .int .u64 bx12, .int .u64 cx12]) [.int .i64 2, .int .u64 0, .int .u64 0, .int .u64 0, .int .i64 0, .int .u64 0, .int .u64 0, .int .u64 0, .int .i64 ax12, .int .u64 bx12, .int .u64 cx12] [.int .i64 2, .int .u64 0, .int .u64 0, .int .u64 0, .int .i64 0, .int .u64 0, .int .u64 0, .int .u64 0, .int .i64 ax12, .int .u64 bx12, .int .u64 cx12] ?_
      intro v15 Y C
      replace BU := butC BU C (by omega)
      replace RD := RdA.offB RD Xg2 rfl (by omega) (chg_but C)
      clear C Xg2
      have Xg2 := Y
      clear Y
      refine gl_nil ?_
      refine ge_then ?_
      refine gc_ret ?_
      refine ge_br ?_
      refine ge_tr ?_
      refine ge_ret (.agg #[.int .i64 2, .int .u64 0, .int .u64 0, .int .u64 0, .int .i64 0, .int .u64 0, .int .u64 0, .int .u64 0, .int .i64 ax12, .int .u64 bx12, .int .u64 cx12]) (rsc 2 (T := 30) (by kernel_rfl) (by kernel_rfl) (lr Xg2 0)) ?_
      exact ⟨_, _, rI_f Ex3 c11 Ex12, rfl, RD, BU⟩
    · refine tq 11 (.bool ((x3 : Int) == 70)) (.bool false) (congrArg Value.bool (beq_eq_false_iff_ne.2 c11)) ?_
      refine t 10 (.bool false) ?_
      refine gl_nil ?_
      refine ge_then ?_
      refine gc_no ?_
      refine gc_skip ?_
      refine ge_bn ?_
      refine ge_then ?_
      refine gc_seq ?_
      refine gc_reg ?_
      refine t 15 (.agg #[.int .i64 0, .int .u64 0, .int .u64 0, .int .u64 0, .int .i64 0, .int .u64 0, .int .u64 0, .int .u64 0, .int .i64 0, .int .u64 0, .int .u64 0]) ?_
      refine ts Xg2 0 (.agg #[.int .i64 0, .int .u64 0, .int .u64 0, .int .u64 0, .int .i64 0, .int .u64 0, .int .u64 0, .int .u64 0, .int .i64 0, .int .u64 0, .int .u64 0]) [.int .i64 0, .int .u64 0, .int .u64 0, .int .u64 0, .int .i64 0, .int .u64 0, .int .u64 0, .int .u64 0, .int .i64 0, .int .u64 0, .int .u64 0] [.int .i64 0, .int .u64 0, .int .u64 0, .int .u64 0, .int .i64 0, .int .u64 0, .int .u64 0, .int .u64 0, .int .i64 0, .int .u64 0, .int .u64 0] ?_
      intro v16 Y C
      replace BU := butC BU C (by omega)
      replace RD := RdA.offB RD Xg2 rfl (by omega) (chg_but C)
      clear C Xg2
      have Xg2 := Y
      clear Y
      refine gl_nil ?_
      refine ge_then ?_
      refine gc_ret ?_
      refine ge_ret (.agg #[.int .i64 0, .int .u64 0, .int .u64 0, .int .u64 0, .int .i64 0, .int .u64 0, .int .u64 0, .int .u64 0, .int .i64 0, .int .u64 0, .int .u64 0]) (rsc 2 (T := 30) (by kernel_rfl) (by kernel_rfl) (lr Xg2 0)) ?_
      exact ⟨_, _, rI_o Ex3 c6 c11, rfl, RD, BU⟩
theorem dec_any {w : World} {b n c : Nat} {ao : Option Addr} {l : List Int} (A : ByA w b ao n c l) (hn : n ≤ 1000000000) : Calls Try.prog 13 #[.slice ao n c] w fun e w' => e = .returned (.tuple #[(dI l).1.val, .int .i64 (dI l).2]) ∧ Below w.heap.size w w' := by
  obtain ⟨o, hl, hnc, hc2, ho, hat⟩ := A.ex
  have BB := Below.refl w.heap.size w
  refine gc_enter (n := 24) Try.func13 rfl (by kernel_rfl) (by kernel_rfl) ?_
  refine gc_seq ?_
  refine gc_reg ?_
  refine ta 2 [.int .i64 0, .int .u64 0, .int .u64 0, .int .u64 0, .int .i64 0, .int .u64 0, .int .u64 0, .int .u64 0, .int .i64 0, .int .u64 0, .int .u64 0] 30 (pg) ?_
  intro v1 g2 Xg2 hg2 B
  have zg2 := Nat.le_trans BB.size hg2
  replace BB := joinB BB B
  clear B
  refine t 3 (.int .i64 0) ?_
  refine gl_nil ?_
  refine ge_then ?_
  refine gc_seq ?_
  refine gc_seq ?_
  refine gc_reg ?_
  refine t 6 (.slice ao n c) ?_
  refine t 7 (.int .i64 ((n : Nat) : Int)) ?_
  by_cases c3 : (1024 : Int) < ((n : Nat) : Int)
  · refine tq 8 (.bool (decide ((1024 : Int) < ((n : Nat) : Int)))) (.bool true) (congrArg Value.bool (decide_eq_true c3)) ?_
    refine gl_nil ?_
    refine ge_then ?_
    refine gc_yes ?_
    refine gc_seq ?_
    refine gc_reg ?_
    refine t 9 (.agg #[.int .i64 0, .int .u64 0, .int .u64 0, .int .u64 0, .int .i64 0, .int .u64 0, .int .u64 0, .int .u64 0, .int .i64 0, .int .u64 0, .int .u64 0]) ?_
    refine ts Xg2 0 (.agg #[.int .i64 0, .int .u64 0, .int .u64 0, .int .u64 0, .int .i64 0, .int .u64 0, .int .u64 0, .int .u64 0, .int .i64 0, .int .u64 0, .int .u64 0]) [.int .i64 0, .int .u64 0, .int .u64 0, .int .u64 0, .int .i64 0, .int .u64 0, .int .u64 0, .int .u64 0, .int .i64 0, .int .u64 0, .int .u64 0] [.int .i64 0, .int .u64 0, .int .u64 0, .int .u64 0, .int .i64 0, .int .u64 0, .int .u64 0, .int .u64 0, .int .i64 0, .int .u64 0, .int .u64 0] ?_
    intro v4 Y C
    replace BB := belowC BB C (by omega)
    clear C Xg2
    have Xg2 := Y
    clear Y
    refine t 3 (.int .i64 171) ?_
    refine gl_nil ?_
    refine ge_then ?_
    refine gc_ret ?_
    refine ge_tr ?_
    refine ge_ret (.tuple #[.agg #[.int .i64 0, .int .u64 0, .int .u64 0, .int .u64 0, .int .i64 0, .int .u64 0, .int .u64 0, .int .u64 0, .int .i64 0, .int .u64 0, .int .u64 0], .int .i64 171]) (rsct 2 3 (T := 30) (by kernel_rfl) (by kernel_rfl) (by kernel_rfl) (lr Xg2 0)) ?_
    have E := dI_1 (l := l) (by omega)
    exact ⟨by rw [← E]; rfl, BB⟩
  · refine tq 8 (.bool (decide ((1024 : Int) < ((n : Nat) : Int)))) (.bool false) (congrArg Value.bool (decide_eq_false c3)) ?_
    refine gl_nil ?_
    refine ge_then ?_
    refine gc_no ?_
    refine gc_skip ?_
    refine ge_then ?_
    refine gc_seq ?_
    refine gc_reg ?_
    refine t 10 (.slice ao n c) ?_
    have lXg2 := Xg2.lt
    have BB0 := BB
    refine tc 11 21 #[.slice ao n c] (rdNew2 (A.keep BB) (by omega)) ?_
    rintro _ v5 ⟨gr, br, rfl, ⟨hgr, -, -⟩, RD0, B⟩
    refine ⟨_, rfl, ?_⟩
    replace BB := joinB BB B
    replace Xg2 := Xg2.keep B
    clear B
    have RD : RdA _ gr br ((0 : Int), l).1 ((0 : Int), l).2 := RD0
    clear RD0
    have lRD := RD.lt
    have zgr := Nat.le_trans BB0.size hgr
    refine t 4 (pg gr) ?_
    refine gl_nil ?_
    refine ge_then ?_
    refine gc_seq ?_
    refine gc_reg ?_
    refine t 12 (pg gr) ?_
    refine tc 13 22 #[pg gr] (readItem_any (s := ((0 : Int), l)) RD) ?_
    rintro _ v6 ⟨i, s1, EI, rfl, RX, U⟩
    refine ⟨_, rfl, ?_⟩
    replace BB := But.below U BB (by omega) (Nat.le_refl _)
    replace Xg2 := But.blk U Xg2 (show g2 ≠ gr by omega)
    clear U
    clear RD
    have RD := RX
    clear RX
    have lXg2 := Xg2.lt
    have lRD := RD.lt
    refine ta 5 [.int .i64 0, .int .u64 0, .int .u64 0, .int .u64 0, .int .i64 0, .int .u64 0, .int .u64 0, .int .u64 0, .int .i64 0, .int .u64 0, .int .u64 0] 30 (pg) ?_
    intro v7 g8 Xg8 hg8 B
    have zg8 := Nat.le_trans BB.size hg8
    replace BB := joinB BB B
    replace Xg2 := Xg2.keep B
    replace RD := RD.keep B
    clear B
    refine ts Xg8 0 (.agg #[.int .i64 i.k, .int .u64 i.s, .int .u64 i.q, .int .u64 i.f, .int .i64 i.m, .int .u64 i.a, .int .u64 i.b, .int .u64 i.n, .int .i64 i.z, .int .u64 i.v, .int .u64 i.h]) [.int .i64 i.k, .int .u64 i.s, .int .u64 i.q, .int .u64 i.f, .int .i64 i.m, .int .u64 i.a, .int .u64 i.b, .int .u64 i.n, .int .i64 i.z, .int .u64 i.v, .int .u64 i.h] [.int .i64 i.k, .int .u64 i.s, .int .u64 i.q, .int .u64 i.f, .int .i64 i.m, .int .u64 i.a, .int .u64 i.b, .int .u64 i.n, .int .i64 i.z, .int .u64 i.v, .int .u64 i.h] ?_
    intro v9 Y C
    replace BB := belowC BB C (by omega)
    replace Xg2 := Xg2.chg C (show g2 ≠ g8 by omega)
    replace RD := RdA.offB RD Xg8 rfl (by omega) (chg_but C)
    clear C Xg8
    have Xg8 := Y
    clear Y
    refine gl_nil ?_
    refine ge_then ?_
    refine gc_seq ?_
    refine gc_seq ?_
    refine gc_reg ?_
    refine t 14 (pg gr) ?_
    refine tc 15 23 #[pg gr] (rdEnd RD (RdA.len RD)) ?_
    rintro _ v10 ⟨rfl, RX, U⟩
    refine ⟨_, rfl, ?_⟩
    replace BB := But.below U BB (by omega) (Nat.le_refl _)
    replace Xg2 := But.blk U Xg2 (show g2 ≠ gr by omega)
    replace Xg8 := But.blk U Xg8 (show g8 ≠ gr by omega)
    clear U
    clear RD RX
    by_cases c11 : (endE s1.1 s1.2 : Int) = 0
    · refine tq 16 (.bool ((endE s1.1 s1.2 : Int) != 0)) (.bool false) (congrArg Value.bool (bne_eq_false_iff_eq.2 c11)) ?_
      refine t 17 (.bool false) ?_
      refine tlr 18 [.int .i64 i.k, .int .u64 i.s, .int .u64 i.q, .int .u64 i.f, .int .i64 i.m, .int .u64 i.a, .int .u64 i.b, .int .u64 i.n, .int .i64 i.z, .int .u64 i.v, .int .u64 i.h] Xg8 0 ?_
      by_cases c12 : Ok i
      · refine tc 19 15 #[.agg #[.int .i64 i.k, .int .u64 i.s, .int .u64 i.q, .int .u64 i.f, .int .i64 i.m, .int .u64 i.a, .int .u64 i.b, .int .u64 i.n, .int .i64 i.z, .int .u64 i.v, .int .u64 i.h]] (isItem_t c12) ?_
        rintro _ v13 ⟨rfl, B⟩
        refine ⟨_, rfl, ?_⟩
        replace BB := joinB BB B
        replace Xg2 := Xg2.keep B
        replace Xg8 := Xg8.keep B
        clear B
        refine t 20 (.bool false) ?_
        refine t 21 (.bool false) ?_
        refine gl_nil ?_
        refine ge_then ?_
        refine gc_fr [(2, pg g2), (3, .int .i64 0), (5, pg g8), (21, .bool false)] (by kernel_rfl) ?_
        refine gc_no ?_
        refine gc_skip ?_
        refine ge_then ?_
        refine gc_seq ?_
        refine gc_reg ?_
        refine tlr 23 [.int .i64 i.k, .int .u64 i.s, .int .u64 i.q, .int .u64 i.f, .int .i64 i.m, .int .u64 i.a, .int .u64 i.b, .int .u64 i.n, .int .i64 i.z, .int .u64 i.v, .int .u64 i.h] Xg8 0 ?_
        refine ts Xg2 0 (.agg #[.int .i64 i.k, .int .u64 i.s, .int .u64 i.q, .int .u64 i.f, .int .i64 i.m, .int .u64 i.a, .int .u64 i.b, .int .u64 i.n, .int .i64 i.z, .int .u64 i.v, .int .u64 i.h]) [.int .i64 i.k, .int .u64 i.s, .int .u64 i.q, .int .u64 i.f, .int .i64 i.m, .int .u64 i.a, .int .u64 i.b, .int .u64 i.n, .int .i64 i.z, .int .u64 i.v, .int .u64 i.h] [.int .i64 i.k, .int .u64 i.s, .int .u64 i.q, .int .u64 i.f, .int .i64 i.m, .int .u64 i.a, .int .u64 i.b, .int .u64 i.n, .int .i64 i.z, .int .u64 i.v, .int .u64 i.h] ?_
        intro v14 Y C
        replace BB := belowC BB C (by omega)
        replace Xg8 := Xg8.chg C (show g8 ≠ g2 by omega)
        clear C Xg2
        have Xg2 := Y
        clear Y
        refine t 3 (.int .i64 0) ?_
        refine gl_nil ?_
        refine ge_then ?_
        clear Xg8
        refine gc_ret ?_
        refine ge_ret (.tuple #[.agg #[.int .i64 i.k, .int .u64 i.s, .int .u64 i.q, .int .u64 i.f, .int .i64 i.m, .int .u64 i.a, .int .u64 i.b, .int .u64 i.n, .int .i64 i.z, .int .u64 i.v, .int .u64 i.h], .int .i64 0]) (rsct 2 3 (T := 30) (by kernel_rfl) (by kernel_rfl) (by kernel_rfl) (lr Xg2 0)) ?_
        have E := dI_3 (l := l) (by omega) EI ⟨c11, c12⟩
        exact ⟨by rw [← E]; rfl, BB⟩
      · refine tc 19 15 #[.agg #[.int .i64 i.k, .int .u64 i.s, .int .u64 i.q, .int .u64 i.f, .int .i64 i.m, .int .u64 i.a, .int .u64 i.b, .int .u64 i.n, .int .i64 i.z, .int .u64 i.v, .int .u64 i.h]] (isItem_f c12) ?_
        rintro _ v15 ⟨rfl, B⟩
        refine ⟨_, rfl, ?_⟩
        replace BB := joinB BB B
        replace Xg2 := Xg2.keep B
        replace Xg8 := Xg8.keep B
        clear B
        refine t 20 (.bool true) ?_
        refine t 21 (.bool true) ?_
        refine gl_nil ?_
        refine ge_then ?_
        refine gc_fr [(2, pg g2), (3, .int .i64 0), (5, pg g8), (21, .bool true)] (by kernel_rfl) ?_
        refine gc_yes ?_
        refine gc_seq ?_
        refine gc_reg ?_
        refine t 22 (.agg #[.int .i64 0, .int .u64 0, .int .u64 0, .int .u64 0, .int .i64 0, .int .u64 0, .int .u64 0, .int .u64 0, .int .i64 0, .int .u64 0, .int .u64 0]) ?_
        refine ts Xg2 0 (.agg #[.int .i64 0, .int .u64 0, .int .u64 0, .int .u64 0, .int .i64 0, .int .u64 0, .int .u64 0, .int .u64 0, .int .i64 0, .int .u64 0, .int .u64 0]) [.int .i64 0, .int .u64 0, .int .u64 0, .int .u64 0, .int .i64 0, .int .u64 0, .int .u64 0, .int .u64 0, .int .i64 0, .int .u64 0, .int .u64 0] [.int .i64 0, .int .u64 0, .int .u64 0, .int .u64 0, .int .i64 0, .int .u64 0, .int .u64 0, .int .u64 0, .int .i64 0, .int .u64 0, .int .u64 0] ?_
        intro v16 Y C
        replace BB := belowC BB C (by omega)
        replace Xg8 := Xg8.chg C (show g8 ≠ g2 by omega)
        clear C Xg2
        have Xg2 := Y
        clear Y
        refine t 3 (.int .i64 170) ?_
        refine gl_nil ?_
        refine ge_then ?_
        refine gc_ret ?_
        refine ge_tr ?_
        refine ge_ret (.tuple #[.agg #[.int .i64 0, .int .u64 0, .int .u64 0, .int .u64 0, .int .i64 0, .int .u64 0, .int .u64 0, .int .u64 0, .int .i64 0, .int .u64 0, .int .u64 0], .int .i64 170]) (rsct 2 3 (T := 30) (by kernel_rfl) (by kernel_rfl) (by kernel_rfl) (lr Xg2 0)) ?_
        have E := dI_2 (l := l) (by omega) EI (fun q => c12 q.2)
        exact ⟨by rw [← E]; rfl, BB⟩
    · refine tq 16 (.bool ((endE s1.1 s1.2 : Int) != 0)) (.bool true) (congrArg Value.bool (bne_iff_ne.2 c11)) ?_
      refine t 17 (.bool true) ?_
      refine tn 18 ?_
      refine tn 19 ?_
      refine tn 20 ?_
      refine t 21 (.bool true) ?_
      refine gl_nil ?_
      refine ge_then ?_
      refine gc_fr [(2, pg g2), (3, .int .i64 0), (5, pg g8), (21, .bool true)] (by kernel_rfl) ?_
      refine gc_yes ?_
      refine gc_seq ?_
      refine gc_reg ?_
      refine t 22 (.agg #[.int .i64 0, .int .u64 0, .int .u64 0, .int .u64 0, .int .i64 0, .int .u64 0, .int .u64 0, .int .u64 0, .int .i64 0, .int .u64 0, .int .u64 0]) ?_
      refine ts Xg2 0 (.agg #[.int .i64 0, .int .u64 0, .int .u64 0, .int .u64 0, .int .i64 0, .int .u64 0, .int .u64 0, .int .u64 0, .int .i64 0, .int .u64 0, .int .u64 0]) [.int .i64 0, .int .u64 0, .int .u64 0, .int .u64 0, .int .i64 0, .int .u64 0, .int .u64 0, .int .u64 0, .int .i64 0, .int .u64 0, .int .u64 0] [.int .i64 0, .int .u64 0, .int .u64 0, .int .u64 0, .int .i64 0, .int .u64 0, .int .u64 0, .int .u64 0, .int .i64 0, .int .u64 0, .int .u64 0] ?_
      intro v17 Y C
      replace BB := belowC BB C (by omega)
      replace Xg8 := Xg8.chg C (show g8 ≠ g2 by omega)
      clear C Xg2
      have Xg2 := Y
      clear Y
      refine t 3 (.int .i64 170) ?_
      refine gl_nil ?_
      refine ge_then ?_
      refine gc_ret ?_
      refine ge_tr ?_
      refine ge_ret (.tuple #[.agg #[.int .i64 0, .int .u64 0, .int .u64 0, .int .u64 0, .int .i64 0, .int .u64 0, .int .u64 0, .int .u64 0, .int .i64 0, .int .u64 0, .int .u64 0], .int .i64 170]) (rsct 2 3 (T := 30) (by kernel_rfl) (by kernel_rfl) (by kernel_rfl) (lr Xg2 0)) ?_
      have E := dI_2 (l := l) (by omega) EI (fun q => c11 q.1)
      exact ⟨by rw [← E]; rfl, BB⟩
end Mg
end Go.Proofs.Ytgfglfpckjkcdaa
