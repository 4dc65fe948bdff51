/- Several texts, joined: GnR. -/
import Derived.Test.YtpoifdokmjhclaaGreatJgN
import Derived.Test.YtpoifdokmjhclaaGreatJgQ
namespace Go.Proofs.YtpoifdokmjhclaaGreat
namespace Fo
open Go.RowKit Go.Lib Pg Lim Gl Mg
set_option maxRecDepth 100000
set_option linter.unusedVariables false
set_option maxHeartbeats 1000000
theorem back0 {g : Gn.Ge} {na nv : Nat} (h : g.Ok na nv) (ha : na ≤ 256) (hv : nv ≤ 64) : Gn.eD (Gn.bG g na nv) = 0 ∧ Gn.gD (Gn.bG g na nv) = g ∧ (Gn.bG g na nv).length ≤ 6000 := by
  obtain ⟨-, h2, h3, h4, -, -⟩ := Gn.d_back h ha hv []
  rw [List.append_nil] at h2 h3 h4
  have hl := Gn.bG_len h
  refine ⟨?_, h2, by omega⟩
  unfold Gn.eD
  rw [if_neg (by omega), h3, h4]
  rfl
theorem back1 {g : Gn.Ge} {na nv : Nat} (h : g.Ok na nv) (ha : na ≤ 256) (hv : nv ≤ 64) : Gn.eD (Gn.bG g na nv ++ [0]) = 210 := by
  obtain ⟨-, h2, h3, h4, -, -⟩ := Gn.d_back h ha hv [0]
  have hl := Gn.bG_len h
  unfold Gn.eD
  rw [if_neg (by rw [List.length_append, List.length_singleton]; omega), h3]
  rfl
theorem enc_n {w : World} {p0 p1 p2 p3 p4 p5 p6 p7 p8 p9 : Int} {A V L : List Int} {a1 a2 : Option Addr} {na nv c1 c2 b1 o1 b2 o2 m : Nat} (N1 : Gn.Nl w a1 na 2 b1 o1 A) (N2 : Gn.Nl w a2 nv 3 b2 o2 V) (hL : Gn.bG ⟨[p0, p1, p2, p3, p4, p5, p6, p7, p8, p9], A, V⟩ na nv = L) (hm : L.length = m) (ha : na ≤ 1000) (hv : nv ≤ 1000) : Calls Tryz.prog 11 #[.agg #[.int .u64 p0, .int .u64 p1, .int .u64 p2, .int .u64 p3, .int .u64 p4, .int .u64 p5, .int .u64 p6, .int .u64 p7, .int .u64 p8, .int .u64 p9, .slice a1 na c1, .slice a2 nv c2]] w fun e w' => ∃ b, e = .returned (.slice (some ⟨b, 0, none⟩) m m) ∧ Blk w' b (L.map (Value.int .u8)) 5 ∧ w.heap.size ≤ b ∧ Below w.heap.size w w' := by
  subst hL
  subst hm
  refine (Gn.encode_any N1 N2 ha hv).mono ?_
  rintro e w' ⟨b, rfl, hb, Y, BB⟩
  exact ⟨b, rfl, ⟨Y.blk⟩, hb, BB⟩
theorem cellC {w w' : World} {g b i : Nat} {v : Value} (C : Chg (· = g) w w') (h : w.cell? ⟨b, i, none⟩ = some v) (hne : b ≠ g) : w'.cell? ⟨b, i, none⟩ = some v := by
  have e := C.same b (cell_lt h) hne
  simp only [World.cell?] at h ⊢
  rw [e]
  exact h
theorem nlC {w w' : World} {g b n k o : Nat} {ao : Option Addr} {l : List Int} (N : Gn.Nl w ao n k b o l) (C : Chg (· = g) w w') (hb : 0 < n → b ≠ g) : Gn.Nl w' ao n k b o l := ⟨N.len, N.ptr, fun i hi => cellC C (N.cell i hi) (hb (by rcases Nat.eq_zero_or_pos n with h | h; (rw [h] at hi; omega); exact h)), N.rng⟩
/-- what Decode answers to any bytes -/
theorem dec_n {w : World} {b n c : Nat} {ao : Option Addr} {l : List Int} (H : ByA w b ao n c l) (hn : n ≤ 1000000000) : Calls Tryz.prog 8 #[.slice ao n c] w fun e w' => ∃ p0 p1 p2 p3 p4 p5 p6 p7 p8 p9 a1 m1 g1 a2 m2 g2 A V, e = .returned (.tuple #[.agg #[.int .u64 p0, .int .u64 p1, .int .u64 p2, .int .u64 p3, .int .u64 p4, .int .u64 p5, .int .u64 p6, .int .u64 p7, .int .u64 p8, .int .u64 p9, .slice a1 m1 m1, .slice a2 m2 m2], .int .i64 (Gn.eD l)]) ∧ (Gn.eD l = 0 → Gn.bG ⟨[p0, p1, p2, p3, p4, p5, p6, p7, p8, p9], A, V⟩ m1 m2 = l ∧ m1 ≤ 1000 ∧ m2 ≤ 1000 ∧ l.length ≤ 65536) ∧ Gn.Nl w' a1 m1 2 g1 0 A ∧ Gn.Nl w' a2 m2 3 g2 0 V ∧ (0 < m1 → w.heap.size ≤ g1) ∧ (0 < m2 → w.heap.size ≤ g2) ∧ Below w.heap.size w w' := by
  have ho : Octets l := by
    obtain ⟨o, _, _, _, h4, _⟩ := H.ex
    exact h4
  refine (Gn.decode_any H hn).mono ?_
  rintro e w' ⟨v, rfl, G, BB⟩
  obtain ⟨p0, p1, p2, p3, p4, p5, p6, p7, p8, p9, a1, m1, g1, a2, m2, g2, rfl, hp, L1, L2⟩ := G.ex
  have k1 : 0 < m1 → w.heap.size ≤ g1 := fun h => L1.ex.elim (fun q => by omega) (fun q => q.2.1)
  have k2 : 0 < m2 → w.heap.size ≤ g2 := fun h => L2.ex.elim (fun q => by omega) (fun q => q.2.1)
  by_cases h0 : Gn.eD l = 0
  · rw [if_pos h0] at hp L1 L2
    obtain ⟨na, nv, h1, h2, ok, hb, -, -⟩ := Gn.d_fwd ho h0
    have e1 := L1.len
    have e2 := L2.len
    have e3 := ok.a
    have e4 := ok.v
    obtain rfl : m1 = na := by omega
    obtain rfl : m2 = nv := by omega
    have hg : Gn.gD l = ⟨[p0, p1, p2, p3, p4, p5, p6, p7, p8, p9], (Gn.gD l).a, (Gn.gD l).v⟩ := by
      rw [← hp]
    exact ⟨p0, p1, p2, p3, p4, p5, p6, p7, p8, p9, a1, m1, g1, a2, m2, g2, (Gn.gD l).a, (Gn.gD l).v, rfl, fun _ => ⟨by rw [← hg]; exact hb, by omega, by omega, (Gn.eD_zero h0).2⟩, L1.nl ok.ra, L2.nl ok.rv, k1, k2, BB⟩
  · rw [if_neg h0] at hp L1 L2
    exact ⟨p0, p1, p2, p3, p4, p5, p6, p7, p8, p9, a1, m1, g1, a2, m2, g2, [], [], rfl, fun h => absurd h h0, L1.nl (fun _ h => absurd h List.not_mem_nil), L2.nl (fun _ h => absurd h List.not_mem_nil), k1, k2, BB⟩
theorem dec_g {w : World} {b n c : Nat} {ao : Option Addr} {L : List Int} {p0 p1 p2 p3 p4 p5 p6 p7 p8 p9 : Int} {A V : List Int} {na nv : Nat} (H : ByA w b ao n c L) (hn : n ≤ 1000000000) (hE : Gn.eD L = 0) (hG : Gn.gD L = ⟨[p0, p1, p2, p3, p4, p5, p6, p7, p8, p9], A, V⟩) (ok : Gn.Ge.Ok ⟨[p0, p1, p2, p3, p4, p5, p6, p7, p8, p9], A, V⟩ na nv) : Calls Tryz.prog 8 #[.slice ao n c] w fun e w' => ∃ a3 g3 a4 g4, e = .returned (.tuple #[.agg #[.int .u64 p0, .int .u64 p1, .int .u64 p2, .int .u64 p3, .int .u64 p4, .int .u64 p5, .int .u64 p6, .int .u64 p7, .int .u64 p8, .int .u64 p9, .slice a3 na na, .slice a4 nv nv], .int .i64 0]) ∧ Gn.Nl w' a3 na 2 g3 0 A ∧ Gn.Nl w' a4 nv 3 g4 0 V ∧ Below w.heap.size w w' := by
  refine (Gn.decode_any H hn).mono ?_
  rintro e w' ⟨v, rfl, G, BB⟩
  rw [if_pos hE, hG] at G
  rw [hE]
  obtain ⟨q0, q1, q2, q3, q4, q5, q6, q7, q8, q9, a1, m1, g1, a2, m2, g2, rfl, hp, L1, L2⟩ := G.ex
  have hp' : [p0, p1, p2, p3, p4, p5, p6, p7, p8, p9] = [q0, q1, q2, q3, q4, q5, q6, q7, q8, q9] := hp
  cases hp'
  have e1 : A.length = m1 * 2 := L1.len
  have e2 : V.length = m2 * 3 := L2.len
  have e3 : A.length = na * 2 := ok.a
  have e4 : V.length = nv * 3 := ok.v
  obtain rfl : m1 = na := by omega
  obtain rfl : m2 = nv := by omega
  exact ⟨a1, g1, a2, g2, rfl, L1.nl ok.ra, L2.nl ok.rv, BB⟩
theorem by_oct {w : World} {b n c : Nat} {ao : Option Addr} {l : List Int} (H : ByA w b ao n c l) : Octets l ∧ l.length = n := by
  obtain ⟨o, h1, _, _, h4, _⟩ := H.ex
  exact ⟨h4, h1⟩
theorem bytS {w : World} {b0 b1 n0 c0 n1 c1 : Nat} {a0 a1 : Option Addr} {l : List Int} (h0 : ByA w b0 a0 n0 c0 l) (h1 : ByA w b1 a1 n1 c1 l) (hn : l.length ≤ 100000) : Calls Tryz.prog 10 #[.slice a0 n0 c0, .slice a1 n1 c1] w fun e w' => e = .returned (.bool true) ∧ Below w.heap.size w w' := by
  have e0 := (by_oct h0).2
  have e1 := (by_oct h1).2
  have h := bSame h0 h1 (by omega) (by omega)
  have e : eqB l l = true := by simp [eqB]
  rw [e] at h
  exact h
end Fo
end Go.Proofs.YtpoifdokmjhclaaGreat
