/- Several texts, joined: KvCd, KvCe, KvCg. -/
import Derived.Test.YtipokbenolekbaaJkd
namespace Go.Proofs.Ytipokbenolekbaa
namespace Kv
open Go.RowKit Go.Lib Pg
structure K2 (w0 w : World) (f : Fm) (g : Nat) (E : Ents) (W : List Ents) (g2 : Nat) (E2 : Ents) (W2 : List Ents) (B : Nat) : Prop where
  ex : ∃ n2 N2, KB w0 w (f.st ⟨g2, E2, W2, n2, N2⟩) g E W B ∧ n2 ≤ 10 * B ∧ N2 ≤ 2 * B
structure FinK (w0 : World) (f : Fm) (g : Nat) (E : Ents) (W : List Ents) (g2 : Nat) (E2 : Ents) (W2 : List Ents) (B : Nat) (r : Value) (e : Ending) (w' : World) : Prop where
  ret : e = .returned r
  k2 : K2 w0 w' f g E W g2 E2 W2 B
theorem K2.swap {w0 w : World} {f : Fm} {g g2 : Nat} {E E2 : Ents} {W W2 : List Ents} {B : Nat} (h : K2 w0 w f g E W g2 E2 W2 B) : K2 w0 w f g2 E2 W2 g E W B := by
  obtain ⟨n2, N2, h, h1, h2⟩ := h.ex
  obtain ⟨n, N, h, h3, h4⟩ := h.ex
  exact ⟨n, N, ⟨n2, N2, h.swap rfl, h1, h2⟩, h3, h4⟩
theorem K2.keep {w0 w w' : World} {f : Fm} {g g2 : Nat} {E E2 : Ents} {W W2 : List Ents} {B : Nat} (h : K2 w0 w f g E W g2 E2 W2 B) (hb : Below w.heap.size w w') : K2 w0 w' f g E W g2 E2 W2 B := by
  obtain ⟨n2, N2, h, h1, h2⟩ := h.ex
  exact ⟨n2, N2, h.keep hb, h1, h2⟩
theorem K2.drew {w0 w : World} {f : Fm} {g g2 : Nat} {E E2 : Ents} {W W2 : List Ents} {B : Nat} (h : K2 w0 w f g E W g2 E2 W2 B) : K2 w0 w.drew f g E W g2 E2 W2 B := h.keep (belowD' w)
theorem K2.below {w0 w : World} {f : Fm} {g g2 : Nat} {E E2 : Ents} {W W2 : List Ents} {B : Nat} (h : K2 w0 w f g E W g2 E2 W2 B) : Below w0.heap.size w0 w := by
  obtain ⟨n2, N2, h, h1, h2⟩ := h.ex
  exact h.below
theorem K2.more {w0 w : World} {f : Fm} {g g2 : Nat} {E E2 : Ents} {W W2 : List Ents} {B B' : Nat} (h : K2 w0 w f g E W g2 E2 W2 B) (hB : B ≤ B') : K2 w0 w f g E W g2 E2 W2 B' := by
  obtain ⟨n2, N2, h, h1, h2⟩ := h.ex
  exact ⟨n2, N2, h.more hB, by omega, by omega⟩
theorem K2.size {w0 w : World} {f : Fm} {g g2 : Nat} {E E2 : Ents} {W W2 : List Ents} {B : Nat} (h : K2 w0 w f g E W g2 E2 W2 B) : E.length ≤ 2 * B := by
  obtain ⟨n2, N2, h, h1, h2⟩ := h.ex
  exact h.size
theorem K2.small {w0 w : World} {f : Fm} {g g2 : Nat} {E E2 : Ents} {W W2 : List Ents} {B : Nat} (h : K2 w0 w f g E W g2 E2 W2 B) : ∀ x ∈ E, x.1.length ≤ 1000000000 ∧ x.2.length ≤ 1000000000 := by
  obtain ⟨n2, N2, h, h1, h2⟩ := h.ex
  exact h.small
theorem K2.depth {w0 w : World} {f : Fm} {g g2 : Nat} {E E2 : Ents} {W W2 : List Ents} {B : Nat} (h : K2 w0 w f g E W g2 E2 W2 B) : W.length ≤ 16 := by
  obtain ⟨n2, N2, h, h1, h2⟩ := h.ex
  exact h.depth
theorem K2.lift {w0 w : World} {f : Fm} {g g2 : Nat} {E E2 E' : Ents} {W W2 W' : List Ents} {B B' : Nat} {P : Nat} {args : Array Value} {r : Value} (h : K2 w0 w f g E W g2 E2 W2 B) (u : ∀ s, KB w0 w (f.st s) g E W B → Calls Try.prog P args w (FinB w0 (f.st s) g E' W' B' r)) (hB : B ≤ B') : Calls Try.prog P args w (FinK w0 f g E' W' g2 E2 W2 B' r) := by
  obtain ⟨n2, N2, h, h1, h2⟩ := h.ex
  refine (u _ h).mono ?_
  rintro e w' ⟨rfl, h⟩
  exact ⟨rfl, n2, N2, h, by omega, by omega⟩
structure FinKR (w0 : World) (f : Fm) (g : Nat) (E : Ents) (W : List Ents) (g2 : Nat) (E2 : Ents) (W2 : List Ents) (B : Nat) (e : Ending) (w' : World) : Prop where
  ex : ∃ ao n c, e = .returned (.slice ao n c) ∧ K2 w0 w' (f.pr (.slice ao n c) E) g E W g2 E2 W2 B
theorem K2.dump {w0 w : World} {f : Fm} {g g2 : Nat} {E E2 : Ents} {W W2 : List Ents} {B : Nat} (h : K2 w0 w f g E W g2 E2 W2 B) (hB : B ≤ 1000000) : Calls Try.prog 15 #[.pointer (some ⟨g, 0, none⟩)] w (FinKR w0 f g E W g2 E2 W2 B) := by
  obtain ⟨n2, N2, h, h1, h2⟩ := h.ex
  refine (bdump h hB).mono ?_
  rintro e w' ⟨ao, n, c, rfl, h⟩
  exact ⟨ao, n, c, rfl, n2, N2, h, h1, h2⟩
theorem K2.dep {w0 w : World} {f : Fm} {g g2 : Nat} {E E2 : Ents} {W W2 : List Ents} {B : Nat} {r : Int} (h : K2 w0 w f g E W g2 E2 W2 B) (hr : ((W.length : Nat) : Int) = r) : Calls Try.prog 16 #[.pointer (some ⟨g, 0, none⟩)] w fun e w' => e = .returned (.int .i64 r) ∧ w' = w := by
  obtain ⟨n2, N2, h, h1, h2⟩ := h.ex
  exact bdepth h hr
structure FinD (w0 : World) (g : Nat) (e : Ending) (w' : World) : Prop where
  ex : ∃ g2, e = .returned (.pointer (some ⟨g2, 0, none⟩)) ∧ K2 w0 w' ⟨[], [], []⟩ g [] [] g2 [] [] 0
theorem bnew2 {w0 w : World} {g : Nat} (h : KB w0 w ⟨[], [], []⟩ g [] [] 0) : Calls Try.prog 11 #[] w (FinD w0 g) := by
  obtain ⟨n, N, h, h1, h2⟩ := h.ex
  refine (knew2 h).mono ?_
  rintro e w' ⟨g2, rfl, h⟩
  exact ⟨g2, rfl, K2.swap ⟨n, N, ⟨_, _, h, by omega, by omega⟩, h1, h2⟩⟩
end Kv
end Go.Proofs.Ytipokbenolekbaa

namespace Go.Proofs.Ytipokbenolekbaa
namespace Kv
open Go.RowKit Go.Lib Pg
theorem Kn.drop {w0 w : World} {f : Fm} {g : Nat} {E : Ents} {W : List Ents} {n N : Nat} {v : Value} {l : List Int} (h : Kn w0 w (f.by v l) g E W n N) : Kn w0 w f g E W n N := by
  obtain ⟨K, h⟩ := h.ex
  exact ⟨K, h.sa, h.kz, fun p hp => h.bys p (List.mem_cons_of_mem _ hp), h.prs, h.oth, h.bel⟩
theorem K2.drop {w0 w : World} {f : Fm} {g g2 : Nat} {E E2 : Ents} {W W2 : List Ents} {B : Nat} {v : Value} {l : List Int} (h : K2 w0 w (f.by v l) g E W g2 E2 W2 B) : K2 w0 w f g E W g2 E2 W2 B := by
  obtain ⟨n2, N2, h, h1, h2⟩ := h.ex
  obtain ⟨n, N, h, h3, h4⟩ := h.ex
  exact ⟨n2, N2, ⟨n, N, Kn.drop (v := v) (l := l) h, h3, h4⟩, h1, h2⟩
theorem K2.lits {w0 w : World} {f : Fm} {g g2 : Nat} {E E2 : Ents} {W W2 : List Ents} {B : Nat} (h : K2 w0 w f g E W g2 E2 W2 B) {x y : Int} (hx : 0 ≤ x ∧ x < 256) (hy : 0 ≤ y ∧ y < 256) : K2 w0 ((w.alloc (.cells #[.int .u8 x] 5)).alloc (.cells #[.int .u8 y] 5)) ((f.by (.slice (some ⟨w.heap.size, 0, none⟩) 1 1) [x]).by (.slice (some ⟨w.heap.size + 1, 0, none⟩) 1 1) [y]) g E W g2 E2 W2 B := by
  obtain ⟨n2, N2, h, h1, h2⟩ := h.ex
  obtain ⟨n, N, h, h3, h4⟩ := h.ex
  have h' := (h.lit hx).lit hy
  simp only [size_al] at h'
  exact ⟨n2, N2, ⟨n, N, h', h3, h4⟩, h1, h2⟩
structure FinX (w0 : World) (f : Fm) (g : Nat) (E : Ents) (W : List Ents) (B : Nat) (e : Ending) (w' : World) : Prop where
  ex : ∃ g2 N2, e = .returned (.pointer (some ⟨g2, 0, none⟩)) ∧ KB w0 w' (f.st ⟨g2, E, [], 0, N2⟩) g E W B ∧ N2 ≤ 2 * B
theorem bcopy {w0 w : World} {f : Fm} {g : Nat} {E : Ents} {W : List Ents} {B : Nat} (h : KB w0 w f g E W B) (hB : B ≤ 1000000) :
    Calls Try.prog 12 #[.pointer (some ⟨g, 0, none⟩)] w (FinX w0 f g E W B) := by
  obtain ⟨n, N, h, h1, h2⟩ := h.ex
  refine (kcopy h (by omega)).mono ?_
  rintro e w' ⟨g2, rfl, h⟩
  exact ⟨g2, N, rfl, ⟨n, N, h.swap rfl, h1, h2⟩, h2⟩
theorem KB.odep {w0 w : World} {f : Fm} {g g2 : Nat} {E : Ents} {W : List Ents} {B : Nat} {E2 : Ents} {W2 : List Ents} {n2 N2 : Nat} {r : Int} (h : KB w0 w (f.st ⟨g2, E2, W2, n2, N2⟩) g E W B) (hr : ((W2.length : Nat) : Int) = r) : Calls Try.prog 16 #[.pointer (some ⟨g2, 0, none⟩)] w fun e w' => e = .returned (.int .i64 r) ∧ w' = w := by
  obtain ⟨n, N, h, h1, h2⟩ := h.ex
  exact kdp1 (h.swap rfl) hr
theorem KB.oops {w0 w : World} {f : Fm} {g g2 : Nat} {E : Ents} {W : List Ents} {B : Nat} {E2 : Ents} {W2 : List Ents} {n2 N2 : Nat} {r : Int} (h : KB w0 w (f.st ⟨g2, E2, W2, n2, N2⟩) g E W B) (hr : ((n2 : Nat) : Int) = r) : Calls Try.prog 17 #[.pointer (some ⟨g2, 0, none⟩)] w fun e w' => e = .returned (.int .i64 r) ∧ w' = w := by
  obtain ⟨n, N, h, h1, h2⟩ := h.ex
  exact kop1 (h.swap rfl) hr
/-- how many journals there are, as the store's block says -/
def jln (w : World) (g : Nat) : Nat := match w.cell? ⟨g, 1, none⟩ with
  | some (.slice _ n _) => n
  | _ => 0
theorem SA.jln {w : World} {K D : Nat → Prop} {g n N : Nat} {E : Ents} {W : List Ents} (h : SA w K D g E W n N) : jln w g = W.length := by
  obtain ⟨F, V, m, Q, jv, T, oj, hb, _, _, hj, hk, _⟩ := h.ex
  have hl := hk.len
  simp at hl
  have hc := hb.cell (i := 1) rfl
  unfold Kv.jln
  rw [hc, ← hl]
  rcases hj.row with ⟨_, rfl, rfl⟩ | ⟨b, c, _, rfl, _⟩ <;> rfl
theorem K2.jln {w0 w : World} {f : Fm} {g g2 : Nat} {E E2 : Ents} {W W2 : List Ents} {B : Nat} (h : K2 w0 w f g E W g2 E2 W2 B) : jln w g = W.length := by
  obtain ⟨n2, N2, h, _⟩ := h.ex
  obtain ⟨n, N, h, _⟩ := h.ex
  obtain ⟨K, h⟩ := h.ex
  exact h.sa.jln
end Kv
end Go.Proofs.Ytipokbenolekbaa

namespace Go.Proofs.Ytipokbenolekbaa
namespace Kv
open Go.RowKit Go.Lib Pg
theorem look_skip {X Y : Ents} {k v x : List Int} (h : ¬ k = x) : look (X ++ (k, v) :: Y) x = look (X ++ Y) x := by
  unfold look
  rw [List.find?_append, List.find?_append, List.find?_cons]
  simp [h]
theorem look_put {E : Ents} (h : Rise E) (k v x : List Int) : look (put E k v) x = if k = x then some v else look E x := by
  obtain ⟨X, Y, c, ⟨rfl, _⟩ | ⟨y, rfl, _⟩⟩ := h.cut k
  · rw [c.put0]
    split
    · rename_i e; subst e; exact c.look1
    · rename_i e; exact look_skip e
  · rw [c.put1]
    split
    · rename_i e; subst e; exact c.look1
    · rename_i e; rw [look_skip e, look_skip e]
theorem look_rem {E : Ents} (h : Rise E) (k x : List Int) : look (rem E k) x = if k = x then none else look E x := by
  obtain ⟨X, Y, c, ⟨rfl, _⟩ | ⟨y, rfl, _⟩⟩ := h.cut k
  · rw [c.rem0]
    split
    · rename_i e; subst e; exact c.look0
    · rfl
  · rw [c.rem1]
    split
    · rename_i e; subst e; exact c.look0
    · rename_i e; rw [look_skip e]
abbrev good (s : Ste) : Prop := ¬ s.what.tmod 2 = 0 ∨ (1 ≤ s.kl.length ∧ s.kl.length ≤ 64 ∧ s.vl.length ≤ 4096)
theorem set_good (k v : List Int) : setE k v = 0 ↔ (1 ≤ k.length ∧ k.length ≤ 64 ∧ v.length ≤ 4096) := by
  unfold setE
  split
  · constructor
    · intro h; simp at h
    · intro h; omega
  · split
    · constructor
      · intro h; simp at h
      · intro h; omega
    · constructor
      · intro _; omega
      · intro _; rfl
/-- the entries behind the first j steps -/
def run (ss : List Ste) : Nat → Ents
  | 0 => []
  | j + 1 => match ss[j]? with
    | some s => chgd (run ss j) s.what s.kl s.vl
    | none => run ss j
/-- the last step of the first j that counts for this key, or -1 -/
def lastI (ss : List Ste) (x : List Int) : Nat → Int
  | 0 => -1
  | j + 1 => match ss[j]? with
    | some s => if s.kl = x ∧ good s then (j : Int) else lastI ss x j
    | none => lastI ss x j
theorem run_at {ss : List Ste} {j : Nat} {s : Ste} (h : ss[j]? = some s) : run ss (j + 1) = chgd (run ss j) s.what s.kl s.vl := by
  simp only [run, h]
theorem last_yes {ss : List Ste} {x : List Int} {j : Nat} {s : Ste} (h : ss[j]? = some s) (h1 : s.kl = x) (h2 : good s) : lastI ss x (j + 1) = (j : Int) := by
  simp only [lastI, h]
  rw [if_pos ⟨h1, h2⟩]
theorem last_no {ss : List Ste} {x : List Int} {j : Nat} {s : Ste} (h : ss[j]? = some s) (h1 : ¬ (s.kl = x ∧ good s)) : lastI ss x (j + 1) = lastI ss x j := by
  simp only [lastI, h]
  rw [if_neg h1]
theorem rise_chgd {E : Ents} (h : Rise E) (what : Int) (k v : List Int) : Rise (chgd E what k v) := by
  unfold chgd setd
  split
  · split
    · exact h.put k v
    · exact h
  · exact h.rem k
theorem rise_run (ss : List Ste) : ∀ j, Rise (run ss j)
  | 0 => List.Pairwise.nil
  | j + 1 => by
    have ih := rise_run ss j
    simp only [run]
    split
    · exact rise_chgd ih _ _ _
    · exact ih
theorem look_chgd {E : Ents} (h : Rise E) (s : Ste) (x : List Int) : look (chgd E s.what s.kl s.vl) x = if s.kl = x ∧ good s then (if s.what.tmod 2 = 0 then some s.vl else none) else look E x := by
  unfold chgd
  by_cases hw : s.what.tmod 2 = 0
  · rw [if_pos hw]
    unfold setd
    by_cases hg : setE s.kl s.vl = 0
    · have g : good s := .inr ((set_good _ _).1 hg)
      rw [if_pos hg, look_put h]
      by_cases hk : s.kl = x
      · rw [if_pos hk, if_pos ⟨hk, g⟩, if_pos hw]
      · rw [if_neg hk, if_neg (fun h => hk h.1)]
    · have g : ¬ good s := fun g => g.elim (fun h => h hw) (fun h => hg ((set_good _ _).2 h))
      rw [if_neg hg, if_neg (fun h => g h.2)]
  · rw [if_neg hw, look_rem h]
    have g : good s := .inl hw
    by_cases hk : s.kl = x
    · rw [if_pos hk, if_pos ⟨hk, g⟩, if_neg hw]
    · rw [if_neg hk, if_neg (fun h => hk h.1)]
theorem look_run (ss : List Ste) (x : List Int) : ∀ j, (lastI ss x j = -1 ∧ look (run ss j) x = none) ∨ ∃ (t : Nat) (s : Ste), t < j ∧ ss[t]? = some s ∧ lastI ss x j = (t : Int) ∧ look (run ss j) x = (if s.what.tmod 2 = 0 then some s.vl else none)
  | 0 => .inl ⟨rfl, rfl⟩
  | j + 1 => by
    have ih := look_run ss x j
    cases h : ss[j]? with
    | none =>
      have e1 : run ss (j + 1) = run ss j := by simp only [run, h]
      have e2 : lastI ss x (j + 1) = lastI ss x j := by simp only [lastI, h]
      rw [e1, e2]
      exact ih.imp id (fun ⟨t, s, a, b⟩ => ⟨t, s, by omega, b⟩)
    | some s =>
      rw [run_at h, look_chgd (rise_run ss j)]
      by_cases hc : s.kl = x ∧ good s
      · rw [if_pos hc]
        exact .inr ⟨j, s, by omega, h, last_yes h hc.1 hc.2, rfl⟩
      · rw [if_neg hc, last_no h hc]
        exact ih.imp id (fun ⟨t, s, a, b⟩ => ⟨t, s, by omega, b⟩)
theorem StesA.ata {w : World} {b o n : Nat} {ss : List Ste} (h : StesA w (some ⟨b, o, none⟩) n ss) {i : Nat} {s : Ste} (hi : ss[i]? = some s) : SteC w b (o + i * 4) s ∧ SteA w s := by
  obtain ⟨b', o', e, h1, h2⟩ := h.get i s hi
  cases e
  exact ⟨h1, h2⟩
theorem KB.drop {w0 w : World} {f : Fm} {g : Nat} {E : Ents} {W : List Ents} {B : Nat} {v : Value} {l : List Int} (h : KB w0 w (f.by v l) g E W B) : KB w0 w f g E W B := by
  obtain ⟨n, N, h, h3, h4⟩ := h.ex
  exact ⟨n, N, h.drop, h3, h4⟩
theorem bbytes {w0 w : World} {f : Fm} {g : Nat} {E : Ents} {W : List Ents} {B : Nat} {u v : Value} {a b : List Int} {r : Bool} (h : KB w0 w f g E W B) (hu : Fr w0 f u a) (hv : Fr w0 f v b) (ha : a.length ≤ 1000000000) (hb : b.length ≤ 1000000000) (hr : decide (a = b) = r) :
    Calls Try.prog 23 #[u, v] w (FinB w0 f g E W B (.bool r)) := by
  subst hr
  obtain ⟨n, N, h, h3, h4⟩ := h.ex
  refine (kbytes h hu hv ha hb).mono ?_
  rintro e w' ⟨rfl, h⟩
  exact ⟨rfl, n, N, h, h3, h4⟩
end Kv
end Go.Proofs.Ytipokbenolekbaa
