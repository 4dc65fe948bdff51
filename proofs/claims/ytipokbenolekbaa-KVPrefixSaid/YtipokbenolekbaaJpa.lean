/- Several texts, joined: KvCd, KvCe, KvCf. -/
import Derived.Test.YtipokbenolekbaaJkd
namespace Go.Proofs.Ytipokbenolekbaa
namespace Kv
open Go.RowKit Go.Lib Pg
structure K2 (w0 w : World) (f : Fm) (g : Nat) (E : Ents) (W : List Ents) (g2 : Nat) (E2 : Ents) (W2 : List Ents) (B : Nat) : Prop where
  ex : ∃ n2 N2, KB w0 w (f.st ⟨g2, E2, W2, n2, N2⟩) g E W B ∧ n2 ≤ 10 * B ∧ N2 ≤ 2 * B
structure FinK (w0 : World) (f : Fm) (g : Nat) (E : Ents) (W : List Ents) (g2 : Nat) (E2 : Ents) (W2 : List Ents) (B : Nat) (r : Value) (e : Ending) (w' : World) : Prop where
  ret : e = .returned r
  k2 : K2 w0 w' f g E W g2 E2 W2 B
theorem K2.swap {w0 w : World} {f : Fm} {g g2 : Nat} {E E2 : Ents} {W W2 : List Ents} {B : Nat} (h : K2 w0 w f g E W g2 E2 W2 B) : K2 w0 w f g2 E2 W2 g E W B := by
  obtain ⟨n2, N2, h, h1, h2⟩ := h.ex
  obtain ⟨n, N, h, h3, h4⟩ := h.ex
  exact ⟨n, N, ⟨n2, N2, h.swap rfl, h1, h2⟩, h3, h4⟩
theorem K2.keep {w0 w w' : World} {f : Fm} {g g2 : Nat} {E E2 : Ents} {W W2 : List Ents} {B : Nat} (h : K2 w0 w f g E W g2 E2 W2 B) (hb : Below w.heap.size w w') : K2 w0 w' f g E W g2 E2 W2 B := by
  obtain ⟨n2, N2, h, h1, h2⟩ := h.ex
  exact ⟨n2, N2, h.keep hb, h1, h2⟩
theorem K2.drew {w0 w : World} {f : Fm} {g g2 : Nat} {E E2 : Ents} {W W2 : List Ents} {B : Nat} (h : K2 w0 w f g E W g2 E2 W2 B) : K2 w0 w.drew f g E W g2 E2 W2 B := h.keep (belowD' w)
theorem K2.below {w0 w : World} {f : Fm} {g g2 : Nat} {E E2 : Ents} {W W2 : List Ents} {B : Nat} (h : K2 w0 w f g E W g2 E2 W2 B) : Below w0.heap.size w0 w := by
  obtain ⟨n2, N2, h, h1, h2⟩ := h.ex
  exact h.below
theorem K2.more {w0 w : World} {f : Fm} {g g2 : Nat} {E E2 : Ents} {W W2 : List Ents} {B B' : Nat} (h : K2 w0 w f g E W g2 E2 W2 B) (hB : B ≤ B') : K2 w0 w f g E W g2 E2 W2 B' := by
  obtain ⟨n2, N2, h, h1, h2⟩ := h.ex
  exact ⟨n2, N2, h.more hB, by omega, by omega⟩
theorem K2.size {w0 w : World} {f : Fm} {g g2 : Nat} {E E2 : Ents} {W W2 : List Ents} {B : Nat} (h : K2 w0 w f g E W g2 E2 W2 B) : E.length ≤ 2 * B := by
  obtain ⟨n2, N2, h, h1, h2⟩ := h.ex
  exact h.size
theorem K2.small {w0 w : World} {f : Fm} {g g2 : Nat} {E E2 : Ents} {W W2 : List Ents} {B : Nat} (h : K2 w0 w f g E W g2 E2 W2 B) : ∀ x ∈ E, x.1.length ≤ 1000000000 ∧ x.2.length ≤ 1000000000 := by
  obtain ⟨n2, N2, h, h1, h2⟩ := h.ex
  exact h.small
theorem K2.depth {w0 w : World} {f : Fm} {g g2 : Nat} {E E2 : Ents} {W W2 : List Ents} {B : Nat} (h : K2 w0 w f g E W g2 E2 W2 B) : W.length ≤ 16 := by
  obtain ⟨n2, N2, h, h1, h2⟩ := h.ex
  exact h.depth
theorem K2.lift {w0 w : World} {f : Fm} {g g2 : Nat} {E E2 E' : Ents} {W W2 W' : List Ents} {B B' : Nat} {P : Nat} {args : Array Value} {r : Value} (h : K2 w0 w f g E W g2 E2 W2 B) (u : ∀ s, KB w0 w (f.st s) g E W B → Calls Try.prog P args w (FinB w0 (f.st s) g E' W' B' r)) (hB : B ≤ B') : Calls Try.prog P args w (FinK w0 f g E' W' g2 E2 W2 B' r) := by
  obtain ⟨n2, N2, h, h1, h2⟩ := h.ex
  refine (u _ h).mono ?_
  rintro e w' ⟨rfl, h⟩
  exact ⟨rfl, n2, N2, h, by omega, by omega⟩
structure FinKR (w0 : World) (f : Fm) (g : Nat) (E : Ents) (W : List Ents) (g2 : Nat) (E2 : Ents) (W2 : List Ents) (B : Nat) (e : Ending) (w' : World) : Prop where
  ex : ∃ ao n c, e = .returned (.slice ao n c) ∧ K2 w0 w' (f.pr (.slice ao n c) E) g E W g2 E2 W2 B
theorem K2.dump {w0 w : World} {f : Fm} {g g2 : Nat} {E E2 : Ents} {W W2 : List Ents} {B : Nat} (h : K2 w0 w f g E W g2 E2 W2 B) (hB : B ≤ 1000000) : Calls Try.prog 15 #[.pointer (some ⟨g, 0, none⟩)] w (FinKR w0 f g E W g2 E2 W2 B) := by
  obtain ⟨n2, N2, h, h1, h2⟩ := h.ex
  refine (bdump h hB).mono ?_
  rintro e w' ⟨ao, n, c, rfl, h⟩
  exact ⟨ao, n, c, rfl, n2, N2, h, h1, h2⟩
theorem K2.dep {w0 w : World} {f : Fm} {g g2 : Nat} {E E2 : Ents} {W W2 : List Ents} {B : Nat} {r : Int} (h : K2 w0 w f g E W g2 E2 W2 B) (hr : ((W.length : Nat) : Int) = r) : Calls Try.prog 16 #[.pointer (some ⟨g, 0, none⟩)] w fun e w' => e = .returned (.int .i64 r) ∧ w' = w := by
  obtain ⟨n2, N2, h, h1, h2⟩ := h.ex
  exact bdepth h hr
structure FinD (w0 : World) (g : Nat) (e : Ending) (w' : World) : Prop where
  ex : ∃ g2, e = .returned (.pointer (some ⟨g2, 0, none⟩)) ∧ K2 w0 w' ⟨[], [], []⟩ g [] [] g2 [] [] 0
theorem bnew2 {w0 w : World} {g : Nat} (h : KB w0 w ⟨[], [], []⟩ g [] [] 0) : Calls Try.prog 11 #[] w (FinD w0 g) := by
  obtain ⟨n, N, h, h1, h2⟩ := h.ex
  refine (knew2 h).mono ?_
  rintro e w' ⟨g2, rfl, h⟩
  exact ⟨g2, rfl, K2.swap ⟨n, N, ⟨_, _, h, by omega, by omega⟩, h1, h2⟩⟩
end Kv
end Go.Proofs.Ytipokbenolekbaa

namespace Go.Proofs.Ytipokbenolekbaa
namespace Kv
open Go.RowKit Go.Lib Pg
theorem Kn.drop {w0 w : World} {f : Fm} {g : Nat} {E : Ents} {W : List Ents} {n N : Nat} {v : Value} {l : List Int} (h : Kn w0 w (f.by v l) g E W n N) : Kn w0 w f g E W n N := by
  obtain ⟨K, h⟩ := h.ex
  exact ⟨K, h.sa, h.kz, fun p hp => h.bys p (List.mem_cons_of_mem _ hp), h.prs, h.oth, h.bel⟩
theorem K2.drop {w0 w : World} {f : Fm} {g g2 : Nat} {E E2 : Ents} {W W2 : List Ents} {B : Nat} {v : Value} {l : List Int} (h : K2 w0 w (f.by v l) g E W g2 E2 W2 B) : K2 w0 w f g E W g2 E2 W2 B := by
  obtain ⟨n2, N2, h, h1, h2⟩ := h.ex
  obtain ⟨n, N, h, h3, h4⟩ := h.ex
  exact ⟨n2, N2, ⟨n, N, Kn.drop (v := v) (l := l) h, h3, h4⟩, h1, h2⟩
theorem K2.lits {w0 w : World} {f : Fm} {g g2 : Nat} {E E2 : Ents} {W W2 : List Ents} {B : Nat} (h : K2 w0 w f g E W g2 E2 W2 B) {x y : Int} (hx : 0 ≤ x ∧ x < 256) (hy : 0 ≤ y ∧ y < 256) : K2 w0 ((w.alloc (.cells #[.int .u8 x] 5)).alloc (.cells #[.int .u8 y] 5)) ((f.by (.slice (some ⟨w.heap.size, 0, none⟩) 1 1) [x]).by (.slice (some ⟨w.heap.size + 1, 0, none⟩) 1 1) [y]) g E W g2 E2 W2 B := by
  obtain ⟨n2, N2, h, h1, h2⟩ := h.ex
  obtain ⟨n, N, h, h3, h4⟩ := h.ex
  have h' := (h.lit hx).lit hy
  simp only [size_al] at h'
  exact ⟨n2, N2, ⟨n, N, h', h3, h4⟩, h1, h2⟩
structure FinX (w0 : World) (f : Fm) (g : Nat) (E : Ents) (W : List Ents) (B : Nat) (e : Ending) (w' : World) : Prop where
  ex : ∃ g2 N2, e = .returned (.pointer (some ⟨g2, 0, none⟩)) ∧ KB w0 w' (f.st ⟨g2, E, [], 0, N2⟩) g E W B ∧ N2 ≤ 2 * B
theorem bcopy {w0 w : World} {f : Fm} {g : Nat} {E : Ents} {W : List Ents} {B : Nat} (h : KB w0 w f g E W B) (hB : B ≤ 1000000) :
    Calls Try.prog 12 #[.pointer (some ⟨g, 0, none⟩)] w (FinX w0 f g E W B) := by
  obtain ⟨n, N, h, h1, h2⟩ := h.ex
  refine (kcopy h (by omega)).mono ?_
  rintro e w' ⟨g2, rfl, h⟩
  exact ⟨g2, N, rfl, ⟨n, N, h.swap rfl, h1, h2⟩, h2⟩
theorem KB.odep {w0 w : World} {f : Fm} {g g2 : Nat} {E : Ents} {W : List Ents} {B : Nat} {E2 : Ents} {W2 : List Ents} {n2 N2 : Nat} {r : Int} (h : KB w0 w (f.st ⟨g2, E2, W2, n2, N2⟩) g E W B) (hr : ((W2.length : Nat) : Int) = r) : Calls Try.prog 16 #[.pointer (some ⟨g2, 0, none⟩)] w fun e w' => e = .returned (.int .i64 r) ∧ w' = w := by
  obtain ⟨n, N, h, h1, h2⟩ := h.ex
  exact kdp1 (h.swap rfl) hr
theorem KB.oops {w0 w : World} {f : Fm} {g g2 : Nat} {E : Ents} {W : List Ents} {B : Nat} {E2 : Ents} {W2 : List Ents} {n2 N2 : Nat} {r : Int} (h : KB w0 w (f.st ⟨g2, E2, W2, n2, N2⟩) g E W B) (hr : ((n2 : Nat) : Int) = r) : Calls Try.prog 17 #[.pointer (some ⟨g2, 0, none⟩)] w fun e w' => e = .returned (.int .i64 r) ∧ w' = w := by
  obtain ⟨n, N, h, h1, h2⟩ := h.ex
  exact kop1 (h.swap rfl) hr
/-- how many journals there are, as the store's block says -/
def jln (w : World) (g : Nat) : Nat := match w.cell? ⟨g, 1, none⟩ with
  | some (.slice _ n _) => n
  | _ => 0
theorem SA.jln {w : World} {K D : Nat → Prop} {g n N : Nat} {E : Ents} {W : List Ents} (h : SA w K D g E W n N) : jln w g = W.length := by
  obtain ⟨F, V, m, Q, jv, T, oj, hb, _, _, hj, hk, _⟩ := h.ex
  have hl := hk.len
  simp at hl
  have hc := hb.cell (i := 1) rfl
  unfold Kv.jln
  rw [hc, ← hl]
  rcases hj.row with ⟨_, rfl, rfl⟩ | ⟨b, c, _, rfl, _⟩ <;> rfl
theorem K2.jln {w0 w : World} {f : Fm} {g g2 : Nat} {E E2 : Ents} {W W2 : List Ents} {B : Nat} (h : K2 w0 w f g E W g2 E2 W2 B) : jln w g = W.length := by
  obtain ⟨n2, N2, h, _⟩ := h.ex
  obtain ⟨n, N, h, _⟩ := h.ex
  obtain ⟨K, h⟩ := h.ex
  exact h.sa.jln
end Kv
end Go.Proofs.Ytipokbenolekbaa

namespace Go.Proofs.Ytipokbenolekbaa
namespace Kv
open Go.RowKit Go.Lib Pg
attribute [local go_sem] Oper.semAt_some
/-- a list of pairs, es, in a block from B on; its bytes in D's -/
structure Pq (w : World) (B : Nat) (D : Nat → Prop) (v : Value) (es : List En) : Prop where
  ex : (v = .slice none 0 0 ∧ es = []) ∨ ∃ b c, v = .slice (some ⟨b, 0, none⟩) es.length c ∧ B ≤ b ∧ Rw w 45 2 b es.length c (flat es)
  ents : ∀ e ∈ es, EnA w D e
theorem Pq.shape {w : World} {B : Nat} {D : Nat → Prop} {v : Value} {es : List En} (h : Pq w B D v es) : ∃ ao c, v = .slice ao es.length c := by
  rcases h.ex with ⟨rfl, rfl⟩ | ⟨b, c, rfl, _⟩
  · exact ⟨none, 0, rfl⟩
  · exact ⟨_, c, rfl⟩
theorem Pq.keep {w w' : World} {B : Nat} {D : Nat → Prop} {v : Value} {es : List En} (h : Pq w B D v es) (hb : Below w.heap.size w w') : Pq w' B D v es :=
  ⟨h.ex.imp id (fun ⟨b, c, e, hl, hR⟩ => ⟨b, c, e, hl, hR.keep hb⟩), fun e he => (h.ents e he).keep hb⟩
theorem Pq.nil (w : World) (B : Nat) (D : Nat → Prop) : Pq w B D (.slice none 0 0) [] := ⟨.inl ⟨rfl, rfl⟩, fun _ h => by simp at h⟩
theorem PrAq {w : World} {B : Nat} {v : Value} {es : List En} (h : PrA w B v es) : Pq w B (B ≤ ·) v es := ⟨h.ex, h.ents⟩
theorem Pq.a {w : World} {B B0 : Nat} {D : Nat → Prop} {v : Value} {es : List En} (h : Pq w B D v es) (hB : B0 ≤ B) (hD : ∀ b, b < w.heap.size → D b → B0 ≤ b) : PrA w B0 v es :=
  ⟨h.ex.imp id (fun ⟨b, c, e, hl, hR⟩ => ⟨b, c, e, by omega, hR⟩), fun e he => (h.ents e he).mono hD⟩
theorem Pq.spr {w w' : World} {B B1 : Nat} {D : Nat → Prop} {v : Value} {es : List En} (h : Pq w B D v es) (hS : Spr B1 w w') (hb : ∀ b c, v = .slice (some ⟨b, 0, none⟩) es.length c → b < B1) : Pq w' B D v es :=
  ⟨h.ex.imp id (fun ⟨b, c, e, hl, hR⟩ => ⟨b, c, e, hl, hR.chg hS.chg (fun ⟨h1, _⟩ => by have := hb b c e; omega)⟩), fun e he => ⟨hS.ob (h.ents e he).k, hS.ob (h.ents e he).v⟩⟩
theorem Pq.cells {w : World} {B p n c : Nat} {D : Nat → Prop} {es : List En} (h : Pq w B D (.slice (some ⟨p, 0, none⟩) n c) es) {k : Nat} {e : En} (hk : es[k]? = some e) : w.cell? ⟨p, k * 2, none⟩ = some e.kv ∧ w.cell? ⟨p, k * 2 + 1, none⟩ = some e.vv ∧ p < w.heap.size := by
  rcases h.ex with ⟨e1, rfl⟩ | ⟨b, c', e1, hl, hR⟩
  · simp at hk
  · cases e1
    obtain ⟨h1, h2⟩ := flat_at hk
    exact ⟨hR.cell h1, hR.cell h2, hR.lt⟩
theorem Pq.some {w : World} {B n c : Nat} {ao : Option Addr} {D : Nat → Prop} {es : List En} (h : Pq w B D (.slice ao n c) es) {k : Nat} {e : En} (hk : es[k]? = some e) : ∃ p, ao = Option.some ⟨p, 0, none⟩ := by
  rcases h.ex with ⟨_, e⟩ | ⟨p, c', e, _⟩
  · subst e; simp at hk
  · cases e; exact ⟨p, rfl⟩
theorem app_pq {w : World} {B : Nat} {D : Nat → Prop} {ov : Value} {es : List En} {e : En} {a : Addr} (ty : TypeId) (h : Pq w B D ov es) (hB : B ≤ w.heap.size) (he : EnA w D e) (hl : es.length ≤ 2000000000) (c0 : w.cell? (a.add 0) = some e.kv) (c1 : w.cell? (a.add 1) = some e.vv) :
    ∃ ov' w', (Builtin.append_ #[28, 28] ty #[ov, .slice (some a) 1 1]).run Try.prog w = .ok ov' w' ∧ Pq w' B D ov' (es ++ [e]) ∧ Spr B w w' := by
  have hnews : ∀ j u, [e.kv, e.vv][j]? = some u → w.cell? (a.add j) = some u := fun j u hj => by
    match j with
    | 0 => simp at hj; rw [← hj]; exact c0
    | 1 => simp at hj; rw [← hj]; exact c1
    | k + 2 => simp at hj
  rcases h.ex with ⟨rfl, rfl⟩ | ⟨b, c, rfl, hb, hR⟩
  · obtain ⟨c', w', hr, hR, hw⟩ := app_nil (w := w) KQ ty a 1 1 [e.kv, e.vv] rfl hnews (by omega) (by omega) (by omega)
    refine ⟨_, w', hr, ⟨.inr ⟨_, c', rfl, hB, hR⟩, fun x hx => ?_⟩, Spr.of hw⟩
    simp at hx
    subst hx
    exact he.keep hw
  · obtain ⟨ak, nk, hk1⟩ := he.k.shape
    obtain ⟨av, nv, hv1⟩ := he.v.shape
    obtain ⟨b', c', w', hr, hb', hR', hw⟩ := app_row (w := w) KQ ty hR a 1 1 [e.kv, e.vv] rfl hnews (by rw [hk1, hv1]; simp [Value.oneCell']) (by omega) (by omega)
    obtain ⟨cs0, k0⟩ := hR.kind
    have hS : Spr B w w' := ⟨hw.mono (fun x _ ex => ⟨ex ▸ hb, cs0, ex ▸ k0⟩)⟩
    refine ⟨_, w', hr, ⟨.inr ⟨b', c', by simp, by rcases hb' with rfl | rfl <;> assumption, by rw [flat_append, List.length_append]; exact hR'⟩, fun x hx => ?_⟩, hS⟩
    have hx' : EnA w D x := by
      rcases List.mem_append.1 hx with hx | hx
      · exact h.ents x hx
      · simp at hx; rw [hx]; exact he
    exact ⟨hS.ob hx'.k, hS.ob hx'.v⟩
theorem Spr_below {B : Nat} {w w' : World} (h : Spr B w w') (hB : B ≤ w.heap.size) : Below B w w' := h.chg.below (fun _ h => h.1) hB
theorem lit2 (w : World) (u v : Value) (t : TypeId) : (w.alloc (.cells #[u, v] t)).cell? ((⟨w.heap.size, 0, none⟩ : Addr).add 0) = some u ∧ (w.alloc (.cells #[u, v] t)).cell? ((⟨w.heap.size, 0, none⟩ : Addr).add 1) = some v := by
  have h := blk_new w [u, v] t
  exact ⟨h.cell (i := 0) rfl, h.cell (i := 1) rfl⟩
/-- one more pair, a copy of one that lies elsewhere -/
theorem app_copy {w : World} {B : Nat} {D : Nat → Prop} {ov : Value} {es : List En} {e : En} (h : Pq w B D ov es) (hB : B ≤ w.heap.size) (he : EnA w D e) (hl : es.length ≤ 2000000000) :
    ∃ ov' w', (Builtin.append_ #[28, 28] 28 #[ov, .slice (some ⟨w.heap.size, 0, none⟩) 1 1]).run Try.prog (w.alloc (.cells #[e.kv, e.vv] 45)) = .ok ov' w' ∧ Pq w' B D ov' (es ++ [e]) ∧ Below B w w' := by
  have hb := below_alloc w (.cells #[e.kv, e.vv] 45)
  obtain ⟨c0, c1⟩ := lit2 w e.kv e.vv 45
  obtain ⟨ov', w', hr, hP, hS⟩ := app_pq (a := ⟨w.heap.size, 0, none⟩) 28 (h.keep hb) (Nat.le_trans hB hb.size) (he.keep hb) hl c0 c1
  exact ⟨ov', w', hr, hP, (hb.mono hB).trans (Spr_below hS (Nat.le_trans hB hb.size))⟩

/-- a list of pairs comes beside the store -/
theorem KnK.stepQ {w0 w w' : World} {f : Fm} {K : Nat → Prop} {g : Nat} {E F : Ents} {W : List Ents} {n N : Nat} {v : Value} {es : List En} (h : KnK w0 w f K g E W n N) (B : Below w.heap.size w w') (P : PrA w' w0.heap.size v es) (he : es.map En.kl2 = F) (hb : ∀ b m c, v = .slice (some ⟨b, 0, none⟩) m c → w.heap.size ≤ b) : KnK w0 w' (f.pr v F) K g E W n N := by
  have h' := h.keep B
  refine ⟨h'.sa, fun b hk => ⟨(h.kz b hk).1, ?_⟩, h'.bys, fun p hp => ?_, fun s hs' => ?_, h'.bel⟩
  · rintro ⟨p, hp, m, c, e⟩
    rcases List.mem_cons.1 hp with rfl | hp
    · have := hb b m c e
      have := h.sa.lt hk
      omega
    · exact (h.kz b hk).2 ⟨p, hp, m, c, e⟩
  · rcases List.mem_cons.1 hp with rfl | hp
    · exact ⟨es, P, he⟩
    · exact h'.prs p hp
  · obtain ⟨J, hJ, hj⟩ := h.oth s hs'
    refine ⟨J, hJ.keep B, fun b hb' => ⟨(hj b hb').1, ?_, (hj b hb').2.2⟩⟩
    rintro ⟨p, hp, m, c, e⟩
    rcases List.mem_cons.1 hp with rfl | hp
    · have := hb b m c e
      have := hJ.lt hb'
      omega
    · exact (hj b hb').2.1 ⟨p, hp, m, c, e⟩
theorem Kn.pairs {w0 w : World} {f : Fm} {g : Nat} {E : Ents} {W : List Ents} {n N : Nat} {w' : World} {F : Ents} {v : Value} {es : List En} (h : Kn w0 w f g E W n N) (B : Below w.heap.size w w') (P : PrA w' w0.heap.size v es) (he : es.map En.kl2 = F) (hb : ∀ b m c, v = .slice (some ⟨b, 0, none⟩) m c → w.heap.size ≤ b) : Kn w0 w' (f.pr v F) g E W n N := by
  obtain ⟨K, h⟩ := h.ex
  exact ⟨K, h.stepQ B P he hb⟩
theorem Kn.pr_of {w0 w : World} {f : Fm} {g : Nat} {E : Ents} {W : List Ents} {n N : Nat} {F : Ents} {v : Value} (h : Kn w0 w f g E W n N) (hv : (v, F) ∈ f.R) : ∃ es, PrA w w0.heap.size v es ∧ es.map En.kl2 = F := by
  obtain ⟨K, h⟩ := h.ex
  exact h.prs _ hv
theorem Kn.small {w0 w : World} {f : Fm} {g : Nat} {E : Ents} {W : List Ents} {n N : Nat} (h : Kn w0 w f g E W n N) : ∀ x ∈ E, x.1.length ≤ 1000000000 ∧ x.2.length ≤ 1000000000 := by
  obtain ⟨K, h⟩ := h.ex
  exact h.sa.small
/-- the store and a walk of it -/
structure KI (w0 w : World) (f : Fm) (g : Nat) (E : Ents) (W : List Ents) (n N : Nat) (EL : List En) (v : Value) : Prop where
  kn : Kn w0 w f g E W n N
  it : Iter w g EL v
structure FinI (w0 : World) (f : Fm) (g : Nat) (E : Ents) (W : List Ents) (n N m : Nat) (F : Ents) (EL : List En) (u : Value) (e : Ending) (w' : World) : Prop where
  ex : ∃ ao c, e = .returned (.slice ao m c) ∧ KI w0 w' (f.pr (.slice ao m c) F) g E W n N EL u
theorem ktk2 {w0 w : World} {f : Fm} {g : Nat} {E : Ents} {W : List Ents} {n N : Nat} {F F' : Ents} {m n' m' : Nat} {v : Value} {EL : List En} (h : KI w0 w f g E W n N EL v) (hF : EL.map En.kl2 = F) (hm0 : 0 < m) (hm : m ≤ 1073741824) (hx : n + F.length ≤ 3000000000000000000) (hF' : F.take m = F') (e1 : n + 1 + F'.length = n') (e2 : F'.length = m') :
    Calls Try.prog 24 #[v, .int .i64 m] w (FinI w0 f g E W n' N m' F' EL v) := by
  have hI := h.it
  obtain ⟨K, h⟩ := h.kn.ex
  have hl : F.length = EL.length := by rw [← hF, List.length_map]
  refine (staken h.sa hI hm0 hm (by omega)).mono ?_
  rintro e w' ⟨v2, es, rfl, P, he, S, c⟩
  rw [hF, hF'] at he
  obtain ⟨ao, d, rfl⟩ := P.shape
  have hl2 : es.length = F'.length := by rw [← he, List.length_map]
  rw [hl2] at P S ⊢
  rw [e1] at S
  rw [e2] at P ⊢
  obtain ⟨F0, V0, m0, Q0, jv0, T0, oj0, hb0, _⟩ := S.ex
  exact ⟨ao, d, rfl, ⟨K, h.stepP S (fun _ h => .inl h) (fun _ h => h) ⟨c.os, c.tape, c.output, c.size, fun b hb hk => c.same b hb (fun e => hk (by rw [e]; exact h.sa.top))⟩ P he⟩, hI.chg c ⟨_, hb0⟩⟩
structure FinJ (w0 : World) (f : Fm) (g : Nat) (E : Ents) (W : List Ents) (n N : Nat) (EL : List En) (u : Value) (e : Ending) (w' : World) : Prop where
  ret : e = .returned (.bool true)
  ki : KI w0 w' f g E W n N EL u
theorem kpairsI {w0 w : World} {f : Fm} {g : Nat} {E : Ents} {W : List Ents} {n N : Nat} {F : Ents} {u v x : Value} {EL : List En} (h : KI w0 w f g E W n N EL x) (hu : (u, F) ∈ f.R) (hv : (v, F) ∈ f.R) (hF : F.length ≤ 1000000000) (hs : ∀ x ∈ F, x.1.length ≤ 1000000000 ∧ x.2.length ≤ 1000000000) :
    Calls Try.prog 14 #[u, v] w (FinJ w0 f g E W n N EL x) := by
  have hI := h.it
  obtain ⟨K, h⟩ := h.kn.ex
  obtain ⟨es, P, e1⟩ := h.prs _ hu
  obtain ⟨es2, P2, e2⟩ := h.prs _ hv
  obtain ⟨F0, V0, m0, Q0, jv0, T0, oj0, hb0, _⟩ := h.sa.ex
  refine (pairs_same P P2 (e1.trans e2.symm) (fun e he => ?_) ?_).mono ?_
  · exact hs (En.kl2 e) (by rw [← (show es.map En.kl2 = F from e1)]; exact List.mem_map_of_mem he)
  · have := congrArg List.length e1
    simp only [List.length_map] at this
    omega
  · rintro e w' ⟨rfl, B⟩
    exact ⟨rfl, ⟨K, h.keep B⟩, hI.chg (Chg.of B) ⟨_, hb0.keep B⟩⟩
theorem kpairs1 {w0 w : World} {f : Fm} {g : Nat} {E : Ents} {W : List Ents} {n N : Nat} {F : Ents} {u v : Value} (h : Kn w0 w f g E W n N) (hu : (u, F) ∈ f.R) (hv : (v, F) ∈ f.R) (hF : F.length ≤ 1000000000) (hs : ∀ x ∈ F, x.1.length ≤ 1000000000 ∧ x.2.length ≤ 1000000000) :
    Calls Try.prog 14 #[u, v] w (Fin w0 f g E W n N (.bool true)) := by
  refine (kpairs h hu hv hF hs).mono ?_
  rintro e w' ⟨rfl, h⟩
  exact ⟨rfl, h⟩
end Kv
end Go.Proofs.Ytipokbenolekbaa
