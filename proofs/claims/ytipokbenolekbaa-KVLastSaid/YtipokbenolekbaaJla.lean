/- Several texts, joined: KvCd. -/
import Derived.Test.YtipokbenolekbaaJkd
namespace Go.Proofs.Ytipokbenolekbaa
namespace Kv
open Go.RowKit Go.Lib Pg
structure K2 (w0 w : World) (f : Fm) (g : Nat) (E : Ents) (W : List Ents) (g2 : Nat) (E2 : Ents) (W2 : List Ents) (B : Nat) : Prop where
  ex : ∃ n2 N2, KB w0 w (f.st ⟨g2, E2, W2, n2, N2⟩) g E W B ∧ n2 ≤ 10 * B ∧ N2 ≤ 2 * B
structure FinK (w0 : World) (f : Fm) (g : Nat) (E : Ents) (W : List Ents) (g2 : Nat) (E2 : Ents) (W2 : List Ents) (B : Nat) (r : Value) (e : Ending) (w' : World) : Prop where
  ret : e = .returned r
  k2 : K2 w0 w' f g E W g2 E2 W2 B
theorem K2.swap {w0 w : World} {f : Fm} {g g2 : Nat} {E E2 : Ents} {W W2 : List Ents} {B : Nat} (h : K2 w0 w f g E W g2 E2 W2 B) : K2 w0 w f g2 E2 W2 g E W B := by
  obtain ⟨n2, N2, h, h1, h2⟩ := h.ex
  obtain ⟨n, N, h, h3, h4⟩ := h.ex
  exact ⟨n, N, ⟨n2, N2, h.swap rfl, h1, h2⟩, h3, h4⟩
theorem K2.keep {w0 w w' : World} {f : Fm} {g g2 : Nat} {E E2 : Ents} {W W2 : List Ents} {B : Nat} (h : K2 w0 w f g E W g2 E2 W2 B) (hb : Below w.heap.size w w') : K2 w0 w' f g E W g2 E2 W2 B := by
  obtain ⟨n2, N2, h, h1, h2⟩ := h.ex
  exact ⟨n2, N2, h.keep hb, h1, h2⟩
theorem K2.drew {w0 w : World} {f : Fm} {g g2 : Nat} {E E2 : Ents} {W W2 : List Ents} {B : Nat} (h : K2 w0 w f g E W g2 E2 W2 B) : K2 w0 w.drew f g E W g2 E2 W2 B := h.keep (belowD' w)
theorem K2.below {w0 w : World} {f : Fm} {g g2 : Nat} {E E2 : Ents} {W W2 : List Ents} {B : Nat} (h : K2 w0 w f g E W g2 E2 W2 B) : Below w0.heap.size w0 w := by
  obtain ⟨n2, N2, h, h1, h2⟩ := h.ex
  exact h.below
theorem K2.more {w0 w : World} {f : Fm} {g g2 : Nat} {E E2 : Ents} {W W2 : List Ents} {B B' : Nat} (h : K2 w0 w f g E W g2 E2 W2 B) (hB : B ≤ B') : K2 w0 w f g E W g2 E2 W2 B' := by
  obtain ⟨n2, N2, h, h1, h2⟩ := h.ex
  exact ⟨n2, N2, h.more hB, by omega, by omega⟩
theorem K2.size {w0 w : World} {f : Fm} {g g2 : Nat} {E E2 : Ents} {W W2 : List Ents} {B : Nat} (h : K2 w0 w f g E W g2 E2 W2 B) : E.length ≤ 2 * B := by
  obtain ⟨n2, N2, h, h1, h2⟩ := h.ex
  exact h.size
theorem K2.small {w0 w : World} {f : Fm} {g g2 : Nat} {E E2 : Ents} {W W2 : List Ents} {B : Nat} (h : K2 w0 w f g E W g2 E2 W2 B) : ∀ x ∈ E, x.1.length ≤ 1000000000 ∧ x.2.length ≤ 1000000000 := by
  obtain ⟨n2, N2, h, h1, h2⟩ := h.ex
  exact h.small
theorem K2.depth {w0 w : World} {f : Fm} {g g2 : Nat} {E E2 : Ents} {W W2 : List Ents} {B : Nat} (h : K2 w0 w f g E W g2 E2 W2 B) : W.length ≤ 16 := by
  obtain ⟨n2, N2, h, h1, h2⟩ := h.ex
  exact h.depth
theorem K2.lift {w0 w : World} {f : Fm} {g g2 : Nat} {E E2 E' : Ents} {W W2 W' : List Ents} {B B' : Nat} {P : Nat} {args : Array Value} {r : Value} (h : K2 w0 w f g E W g2 E2 W2 B) (u : ∀ s, KB w0 w (f.st s) g E W B → Calls Try.prog P args w (FinB w0 (f.st s) g E' W' B' r)) (hB : B ≤ B') : Calls Try.prog P args w (FinK w0 f g E' W' g2 E2 W2 B' r) := by
  obtain ⟨n2, N2, h, h1, h2⟩ := h.ex
  refine (u _ h).mono ?_
  rintro e w' ⟨rfl, h⟩
  exact ⟨rfl, n2, N2, h, by omega, by omega⟩
structure FinKR (w0 : World) (f : Fm) (g : Nat) (E : Ents) (W : List Ents) (g2 : Nat) (E2 : Ents) (W2 : List Ents) (B : Nat) (e : Ending) (w' : World) : Prop where
  ex : ∃ ao n c, e = .returned (.slice ao n c) ∧ K2 w0 w' (f.pr (.slice ao n c) E) g E W g2 E2 W2 B
theorem K2.dump {w0 w : World} {f : Fm} {g g2 : Nat} {E E2 : Ents} {W W2 : List Ents} {B : Nat} (h : K2 w0 w f g E W g2 E2 W2 B) (hB : B ≤ 1000000) : Calls Try.prog 15 #[.pointer (some ⟨g, 0, none⟩)] w (FinKR w0 f g E W g2 E2 W2 B) := by
  obtain ⟨n2, N2, h, h1, h2⟩ := h.ex
  refine (bdump h hB).mono ?_
  rintro e w' ⟨ao, n, c, rfl, h⟩
  exact ⟨ao, n, c, rfl, n2, N2, h, h1, h2⟩
theorem K2.dep {w0 w : World} {f : Fm} {g g2 : Nat} {E E2 : Ents} {W W2 : List Ents} {B : Nat} {r : Int} (h : K2 w0 w f g E W g2 E2 W2 B) (hr : ((W.length : Nat) : Int) = r) : Calls Try.prog 16 #[.pointer (some ⟨g, 0, none⟩)] w fun e w' => e = .returned (.int .i64 r) ∧ w' = w := by
  obtain ⟨n2, N2, h, h1, h2⟩ := h.ex
  exact bdepth h hr
structure FinD (w0 : World) (g : Nat) (e : Ending) (w' : World) : Prop where
  ex : ∃ g2, e = .returned (.pointer (some ⟨g2, 0, none⟩)) ∧ K2 w0 w' ⟨[], [], []⟩ g [] [] g2 [] [] 0
theorem bnew2 {w0 w : World} {g : Nat} (h : KB w0 w ⟨[], [], []⟩ g [] [] 0) : Calls Try.prog 11 #[] w (FinD w0 g) := by
  obtain ⟨n, N, h, h1, h2⟩ := h.ex
  refine (knew2 h).mono ?_
  rintro e w' ⟨g2, rfl, h⟩
  exact ⟨g2, rfl, K2.swap ⟨n, N, ⟨_, _, h, by omega, by omega⟩, h1, h2⟩⟩
end Kv
end Go.Proofs.Ytipokbenolekbaa
