/- Several texts, joined: KvCg. -/
import Derived.Test.YtipokbenolekbaaJma
namespace Go.Proofs.Ytipokbenolekbaa
namespace Kv
open Go.RowKit Go.Lib Pg
theorem look_skip {X Y : Ents} {k v x : List Int} (h : ¬ k = x) : look (X ++ (k, v) :: Y) x = look (X ++ Y) x := by
  unfold look
  rw [List.find?_append, List.find?_append, List.find?_cons]
  simp [h]
theorem look_put {E : Ents} (h : Rise E) (k v x : List Int) : look (put E k v) x = if k = x then some v else look E x := by
  obtain ⟨X, Y, c, ⟨rfl, _⟩ | ⟨y, rfl, _⟩⟩ := h.cut k
  · rw [c.put0]
    split
    · rename_i e; subst e; exact c.look1
    · rename_i e; exact look_skip e
  · rw [c.put1]
    split
    · rename_i e; subst e; exact c.look1
    · rename_i e; rw [look_skip e, look_skip e]
theorem look_rem {E : Ents} (h : Rise E) (k x : List Int) : look (rem E k) x = if k = x then none else look E x := by
  obtain ⟨X, Y, c, ⟨rfl, _⟩ | ⟨y, rfl, _⟩⟩ := h.cut k
  · rw [c.rem0]
    split
    · rename_i e; subst e; exact c.look0
    · rfl
  · rw [c.rem1]
    split
    · rename_i e; subst e; exact c.look0
    · rename_i e; rw [look_skip e]
def good (s : Ste) : Prop := ¬ s.what.tmod 2 = 0 ∨ (1 ≤ s.kl.length ∧ s.kl.length ≤ 64 ∧ s.vl.length ≤ 4096)
instance (s : Ste) : Decidable (good s) := by unfold good; infer_instance
theorem set_good (k v : List Int) : setE k v = 0 ↔ (1 ≤ k.length ∧ k.length ≤ 64 ∧ v.length ≤ 4096) := by
  unfold setE
  split
  · constructor
    · intro h; simp at h
    · intro h; omega
  · split
    · constructor
      · intro h; simp at h
      · intro h; omega
    · constructor
      · intro _; omega
      · intro _; rfl
/-- the entries behind the first j steps -/
def run (ss : List Ste) : Nat → Ents
  | 0 => []
  | j + 1 => match ss[j]? with
    | some s => chgd (run ss j) s.what s.kl s.vl
    | none => run ss j
/-- the last step of the first j that counts for this key, or -1 -/
def lastI (ss : List Ste) (x : List Int) : Nat → Int
  | 0 => -1
  | j + 1 => match ss[j]? with
    | some s => if s.kl = x ∧ good s then (j : Int) else lastI ss x j
    | none => lastI ss x j
theorem run_at {ss : List Ste} {j : Nat} {s : Ste} (h : ss[j]? = some s) : run ss (j + 1) = chgd (run ss j) s.what s.kl s.vl := by
  simp only [run, h]
theorem last_yes {ss : List Ste} {x : List Int} {j : Nat} {s : Ste} (h : ss[j]? = some s) (h1 : s.kl = x) (h2 : good s) : lastI ss x (j + 1) = (j : Int) := by
  simp only [lastI, h]
  rw [if_pos ⟨h1, h2⟩]
theorem last_no {ss : List Ste} {x : List Int} {j : Nat} {s : Ste} (h : ss[j]? = some s) (h1 : ¬ (s.kl = x ∧ good s)) : lastI ss x (j + 1) = lastI ss x j := by
  simp only [lastI, h]
  rw [if_neg h1]
theorem rise_chgd {E : Ents} (h : Rise E) (what : Int) (k v : List Int) : Rise (chgd E what k v) := by
  unfold chgd setd
  split
  · split
    · exact h.put k v
    · exact h
  · exact h.rem k
theorem rise_run (ss : List Ste) : ∀ j, Rise (run ss j)
  | 0 => List.Pairwise.nil
  | j + 1 => by
    have ih := rise_run ss j
    simp only [run]
    split
    · exact rise_chgd ih _ _ _
    · exact ih
theorem look_chgd {E : Ents} (h : Rise E) (s : Ste) (x : List Int) : look (chgd E s.what s.kl s.vl) x = if s.kl = x ∧ good s then (if s.what.tmod 2 = 0 then some s.vl else none) else look E x := by
  unfold chgd
  by_cases hw : s.what.tmod 2 = 0
  · rw [if_pos hw]
    unfold setd
    by_cases hg : setE s.kl s.vl = 0
    · have g : good s := .inr ((set_good _ _).1 hg)
      rw [if_pos hg, look_put h]
      by_cases hk : s.kl = x
      · rw [if_pos hk, if_pos ⟨hk, g⟩, if_pos hw]
      · rw [if_neg hk, if_neg (fun h => hk h.1)]
    · have g : ¬ good s := fun g => g.elim (fun h => h hw) (fun h => hg ((set_good _ _).2 h))
      rw [if_neg hg, if_neg (fun h => g h.2)]
  · rw [if_neg hw, look_rem h]
    have g : good s := .inl hw
    by_cases hk : s.kl = x
    · rw [if_pos hk, if_pos ⟨hk, g⟩, if_neg hw]
    · rw [if_neg hk, if_neg (fun h => hk h.1)]
theorem look_run (ss : List Ste) (x : List Int) : ∀ j, (lastI ss x j = -1 ∧ look (run ss j) x = none) ∨ ∃ (t : Nat) (s : Ste), t < j ∧ ss[t]? = some s ∧ lastI ss x j = (t : Int) ∧ look (run ss j) x = (if s.what.tmod 2 = 0 then some s.vl else none)
  | 0 => .inl ⟨rfl, rfl⟩
  | j + 1 => by
    have ih := look_run ss x j
    cases h : ss[j]? with
    | none =>
      have e1 : run ss (j + 1) = run ss j := by simp only [run, h]
      have e2 : lastI ss x (j + 1) = lastI ss x j := by simp only [lastI, h]
      rw [e1, e2]
      exact ih.imp id (fun ⟨t, s, a, b⟩ => ⟨t, s, by omega, b⟩)
    | some s =>
      rw [run_at h, look_chgd (rise_run ss j)]
      by_cases hc : s.kl = x ∧ good s
      · rw [if_pos hc]
        exact .inr ⟨j, s, by omega, h, last_yes h hc.1 hc.2, rfl⟩
      · rw [if_neg hc, last_no h hc]
        exact ih.imp id (fun ⟨t, s, a, b⟩ => ⟨t, s, by omega, b⟩)
theorem StesA.ata {w : World} {b o n : Nat} {ss : List Ste} (h : StesA w (some ⟨b, o, none⟩) n ss) {i : Nat} {s : Ste} (hi : ss[i]? = some s) : SteC w b (o + i * 4) s ∧ SteA w s := by
  obtain ⟨b', o', e, h1, h2⟩ := h.get i s hi
  cases e
  exact ⟨h1, h2⟩
theorem KB.drop {w0 w : World} {f : Fm} {g : Nat} {E : Ents} {W : List Ents} {B : Nat} {v : Value} {l : List Int} (h : KB w0 w (f.by v l) g E W B) : KB w0 w f g E W B := by
  obtain ⟨n, N, h, h3, h4⟩ := h.ex
  exact ⟨n, N, h.drop, h3, h4⟩
theorem bbytes {w0 w : World} {f : Fm} {g : Nat} {E : Ents} {W : List Ents} {B : Nat} {u v : Value} {a b : List Int} {r : Bool} (h : KB w0 w f g E W B) (hu : Fr w0 f u a) (hv : Fr w0 f v b) (ha : a.length ≤ 1000000000) (hb : b.length ≤ 1000000000) (hr : decide (a = b) = r) :
    Calls Try.prog 23 #[u, v] w (FinB w0 f g E W B (.bool r)) := by
  subst hr
  obtain ⟨n, N, h, h3, h4⟩ := h.ex
  refine (kbytes h hu hv ha hb).mono ?_
  rintro e w' ⟨rfl, h⟩
  exact ⟨rfl, n, N, h, h3, h4⟩
end Kv
end Go.Proofs.Ytipokbenolekbaa
