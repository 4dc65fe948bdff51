/- Several texts, joined: KvCe. -/
import Derived.Test.YtipokbenolekbaaJla
namespace Go.Proofs.Ytipokbenolekbaa
namespace Kv
open Go.RowKit Go.Lib Pg
theorem Kn.drop {w0 w : World} {f : Fm} {g : Nat} {E : Ents} {W : List Ents} {n N : Nat} {v : Value} {l : List Int} (h : Kn w0 w (f.by v l) g E W n N) : Kn w0 w f g E W n N := by
  obtain ⟨K, h⟩ := h.ex
  exact ⟨K, h.sa, h.kz, fun p hp => h.bys p (List.mem_cons_of_mem _ hp), h.prs, h.oth, h.bel⟩
theorem K2.drop {w0 w : World} {f : Fm} {g g2 : Nat} {E E2 : Ents} {W W2 : List Ents} {B : Nat} {v : Value} {l : List Int} (h : K2 w0 w (f.by v l) g E W g2 E2 W2 B) : K2 w0 w f g E W g2 E2 W2 B := by
  obtain ⟨n2, N2, h, h1, h2⟩ := h.ex
  obtain ⟨n, N, h, h3, h4⟩ := h.ex
  exact ⟨n2, N2, ⟨n, N, Kn.drop (v := v) (l := l) h, h3, h4⟩, h1, h2⟩
theorem K2.lits {w0 w : World} {f : Fm} {g g2 : Nat} {E E2 : Ents} {W W2 : List Ents} {B : Nat} (h : K2 w0 w f g E W g2 E2 W2 B) {x y : Int} (hx : 0 ≤ x ∧ x < 256) (hy : 0 ≤ y ∧ y < 256) : K2 w0 ((w.alloc (.cells #[.int .u8 x] 5)).alloc (.cells #[.int .u8 y] 5)) ((f.by (.slice (some ⟨w.heap.size, 0, none⟩) 1 1) [x]).by (.slice (some ⟨w.heap.size + 1, 0, none⟩) 1 1) [y]) g E W g2 E2 W2 B := by
  obtain ⟨n2, N2, h, h1, h2⟩ := h.ex
  obtain ⟨n, N, h, h3, h4⟩ := h.ex
  have h' := (h.lit hx).lit hy
  simp only [size_al] at h'
  exact ⟨n2, N2, ⟨n, N, h', h3, h4⟩, h1, h2⟩
structure FinX (w0 : World) (f : Fm) (g : Nat) (E : Ents) (W : List Ents) (B : Nat) (e : Ending) (w' : World) : Prop where
  ex : ∃ g2 N2, e = .returned (.pointer (some ⟨g2, 0, none⟩)) ∧ KB w0 w' (f.st ⟨g2, E, [], 0, N2⟩) g E W B ∧ N2 ≤ 2 * B
theorem bcopy {w0 w : World} {f : Fm} {g : Nat} {E : Ents} {W : List Ents} {B : Nat} (h : KB w0 w f g E W B) (hB : B ≤ 1000000) :
    Calls Try.prog 12 #[.pointer (some ⟨g, 0, none⟩)] w (FinX w0 f g E W B) := by
  obtain ⟨n, N, h, h1, h2⟩ := h.ex
  refine (kcopy h (by omega)).mono ?_
  rintro e w' ⟨g2, rfl, h⟩
  exact ⟨g2, N, rfl, ⟨n, N, h.swap rfl, h1, h2⟩, h2⟩
theorem KB.odep {w0 w : World} {f : Fm} {g g2 : Nat} {E : Ents} {W : List Ents} {B : Nat} {E2 : Ents} {W2 : List Ents} {n2 N2 : Nat} {r : Int} (h : KB w0 w (f.st ⟨g2, E2, W2, n2, N2⟩) g E W B) (hr : ((W2.length : Nat) : Int) = r) : Calls Try.prog 16 #[.pointer (some ⟨g2, 0, none⟩)] w fun e w' => e = .returned (.int .i64 r) ∧ w' = w := by
  obtain ⟨n, N, h, h1, h2⟩ := h.ex
  exact kdp1 (h.swap rfl) hr
theorem KB.oops {w0 w : World} {f : Fm} {g g2 : Nat} {E : Ents} {W : List Ents} {B : Nat} {E2 : Ents} {W2 : List Ents} {n2 N2 : Nat} {r : Int} (h : KB w0 w (f.st ⟨g2, E2, W2, n2, N2⟩) g E W B) (hr : ((n2 : Nat) : Int) = r) : Calls Try.prog 17 #[.pointer (some ⟨g2, 0, none⟩)] w fun e w' => e = .returned (.int .i64 r) ∧ w' = w := by
  obtain ⟨n, N, h, h1, h2⟩ := h.ex
  exact kop1 (h.swap rfl) hr
/-- how many journals there are, as the store's block says -/
def jln (w : World) (g : Nat) : Nat := match w.cell? ⟨g, 1, none⟩ with
  | some (.slice _ n _) => n
  | _ => 0
theorem SA.jln {w : World} {K D : Nat → Prop} {g n N : Nat} {E : Ents} {W : List Ents} (h : SA w K D g E W n N) : jln w g = W.length := by
  obtain ⟨F, V, m, Q, jv, T, oj, hb, _, _, hj, hk, _⟩ := h.ex
  have hl := hk.len
  simp at hl
  have hc := hb.cell (i := 1) rfl
  unfold Kv.jln
  rw [hc, ← hl]
  rcases hj.row with ⟨_, rfl, rfl⟩ | ⟨b, c, _, rfl, _⟩ <;> rfl
theorem K2.jln {w0 w : World} {f : Fm} {g g2 : Nat} {E E2 : Ents} {W W2 : List Ents} {B : Nat} (h : K2 w0 w f g E W g2 E2 W2 B) : jln w g = W.length := by
  obtain ⟨n2, N2, h, _⟩ := h.ex
  obtain ⟨n, N, h, _⟩ := h.ex
  obtain ⟨K, h⟩ := h.ex
  exact h.sa.jln
end Kv
end Go.Proofs.Ytipokbenolekbaa
