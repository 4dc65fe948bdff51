/- Several texts, joined: FoA. -/
import Derived.Test.YtpoifdokmjhclaaGreatJyx
import Derived.Test.YtpoifdokmjhclaaGreatJyd
namespace Go.Proofs.YtpoifdokmjhclaaGreat
namespace Fo
open Go.RowKit Go.Lib Pg Lim Gl
set_option maxRecDepth 100000
set_option maxHeartbeats 4000000
set_option linter.unusedVariables false
/-- the normal list of x, in block z (where there are any limbs) -/
structure Nf (w : World) (z : Nat) (ao : Option Addr) (n c : Nat) (x : Int) : Prop where
  lt : n = 0 ∨ z < w.heap.size
  to : ∀ w' : World, (n ≠ 0 → w'.heap[z]? = w.heap[z]?) → NatO w' ao n c x
section
variable {w w' : World} {z n c : Nat} {ao : Option Addr} {x y : Int}
theorem Nf.o (h : Nf w z ao n c x) : NatO w ao n c x := h.to w (fun _ => rfl)
theorem Nf.nat (h : Nf w z ao n c x) : NatA w ao n c x := h.o.a
theorem Nf.keep (h : Nf w z ao n c x) (hb : Below w.heap.size w w') : Nf w' z ao n c x :=
  ⟨h.lt.imp_right fun h => Nat.lt_of_lt_of_le h hb.size, fun w2 h2 => h.to w2 fun hn => (h2 hn).trans (hb.block z (h.lt.resolve_left hn))⟩
theorem Nf.drew (h : Nf w z ao n c x) : Nf w.drew z ao n c x := h.keep (Below.refl _ _).drew
theorem Nf.cell {g : Nat} (h : Nf w z ao n c x) (hc : Chg (· = g) w w') (hne : n = 0 ∨ z ≠ g) : Nf w' z ao n c x :=
  ⟨h.lt.imp_right fun h => Nat.lt_of_lt_of_le h hc.size, fun w2 h2 => h.to w2 fun hn => (h2 hn).trans (hc.same z (h.lt.resolve_left hn) (hne.resolve_left hn))⟩
theorem Nf.eqv (h : Nf w z ao n c x) (e : x = y) : Nf w z ao n c y := e ▸ h
theorem nf_nil (w : World) (z : Nat) : Nf w z none 0 0 0 := ⟨.inl rfl, fun w2 _ => ⟨0, 0, [], rfl, Nat.le_refl _, isN_nil, ⟨.inl rfl, fun i hi => by simp at hi⟩⟩⟩
theorem nf_of {B T : Nat} (h : NatN w B T ao n c x) : ∃ z, Nf w z ao n c x ∧ (n = 0 ∨ B ≤ z) := by
  obtain ⟨b, o, l, h1, h2, h3, h4, h5, h6⟩ := h.ex
  refine ⟨b, ⟨?_, fun w2 hw => ⟨b, o, l, h1, h2, h3, ⟨h4.loc, fun i hi => ?_⟩⟩⟩, ?_⟩
  · rcases h4.lt with e | e
    · exact .inl (by rw [← h1, e]; rfl)
    · exact .inr e
  · rw [World.cell?_of_block (w := w) (hw (by omega))]
    exact h4.cell i hi
  · rcases h6 with e | e
    · exact .inl (by rw [← h1, e]; rfl)
    · exact .inr e.1
end
/-- a number is answered, in a block of its own: as limbs, as a decimal, with an error -/
structure NsE (w : World) (P : Nat → Prop) (V : Int) (e : Ending) (w' : World) : Prop where
  ex : ∃ a k d z, e = .returned (.slice a k d) ∧ Nf w' z a k d V ∧ (k = 0 ∨ w.heap.size ≤ z) ∧ P k ∧ Below w.heap.size w w'
structure NuE (er : Int) (w : World) (P : Nat → Prop) (V : Int) (e : Ending) (w' : World) : Prop where
  ex : ∃ a k d z, e = .returned (.tuple #[.slice a k d, .int .i64 er]) ∧ Nf w' z a k d V ∧ (k = 0 ∨ w.heap.size ≤ z) ∧ P k ∧ Below w.heap.size w w'
structure NdE (w : World) (P : Nat → Prop) (V : Int) (e : Ending) (w' : World) : Prop where
  ex : ∃ a k d z, e = .returned (.agg #[.slice a k d]) ∧ Nf w' z a k d V ∧ (k = 0 ∨ w.heap.size ≤ z) ∧ P k ∧ Below w.heap.size w w'
structure NtE (er : Int) (w : World) (P : Nat → Prop) (V : Int) (e : Ending) (w' : World) : Prop where
  ex : ∃ a k d z, e = .returned (.tuple #[.agg #[.slice a k d], .int .i64 er]) ∧ Nf w' z a k d V ∧ (k = 0 ∨ w.heap.size ≤ z) ∧ P k ∧ Below w.heap.size w w'
section
variable {w : World} {a0 a1 a2 : Option Addr} {n0 c0 n1 c1 n2 c2 : Nat} {x0 x1 x2 : Int}
theorem nfAdd (h : NatA w a0 n0 c0 x0) (h' : NatA w a1 n1 c1 x1) (hn : n0 ≤ 1099511627776) (hn' : n1 ≤ 1099511627776) : Calls Tryz.prog 229 #[.slice a0 n0 c0, .slice a1 n1 c1] w (NsE w (· ≤ n0 + n1 + 1) (x0 + x1)) := by
  refine (fAdd h h' (by omega) (by omega)).mono ?_
  rintro e w' ⟨a, k, d, rfl, N, hk, B⟩
  obtain ⟨z, M, hz⟩ := nf_of N
  exact ⟨a, k, d, z, rfl, M, hz, hk, B⟩
theorem nfMul (h : NatA w a0 n0 c0 x0) (h' : NatA w a1 n1 c1 x1) (hn : n0 ≤ 274877906944) (hn' : n1 ≤ 274877906944) : Calls Tryz.prog 267 #[.slice a0 n0 c0, .slice a1 n1 c1] w (NsE w (· ≤ n0 + n1) (x0 * x1)) := by
  refine (fMul h h' (by omega) (by omega)).mono ?_
  rintro e w' ⟨a, k, d, rfl, N, hk, B⟩
  obtain ⟨z, M, hz⟩ := nf_of N
  exact ⟨a, k, d, z, rfl, M, hz, hk, B⟩
theorem nfSub (h : NatA w a0 n0 c0 x0) (h' : NatA w a1 n1 c1 x1) (hn : n0 ≤ 274877906944) (hn' : n1 ≤ 274877906944) : Calls Tryz.prog 361 #[.slice a0 n0 c0, .slice a1 n1 c1] w (NuE (subE x0 x1) w (· ≤ n0) (subV x0 x1)) := by
  refine (fSub h h' (by omega) (by omega)).mono ?_
  rintro e w' ⟨a, k, d, rfl, N, hk, B⟩
  obtain ⟨z, M, hz⟩ := nf_of N
  exact ⟨a, k, d, z, rfl, M, hz, hk, B⟩
theorem nfOf {x : Int} (h0 : 0 ≤ x) (h1 : x < 18446744073709551616) : Calls Tryz.prog 224 #[.int .u64 x] w (NsE w (· ≤ 1) x) := by
  refine (of_any x w h0 h1).mono ?_
  rintro e w' ⟨v, r, rfl, hnw, hI, hlen, hB⟩
  obtain ⟨a, c, rfl, N⟩ := newV_n hnw hI
  obtain ⟨z, M, hz⟩ := nf_of N
  exact ⟨a, _, c, z, rfl, M, hz, hlen, hB⟩
structure MdE (w : World) (n : Nat) (V R : Int) (er : Int) (e : Ending) (w' : World) : Prop where
  ex : ∃ a k d z a' k' d' z', e = .returned (.tuple #[.slice a k d, .slice a' k' d', .int .i64 er]) ∧ Nf w' z a k d V ∧ Nf w' z' a' k' d' R ∧ (k = 0 ∨ w.heap.size ≤ z) ∧ (k' = 0 ∨ w.heap.size ≤ z') ∧ k ≤ n ∧ k' ≤ n + n ∧ Below w.heap.size w w'
theorem nfMulDiv (h : NatA w a0 n0 c0 x0) (h' : NatA w a1 n1 c1 x1) (hd : NatA w a2 n2 c2 x2) (hn : n0 ≤ 274877906944) (hn' : n1 ≤ 274877906944) (hnd : n2 ≤ 274877906944) : Calls Tryz.prog 321 #[.slice a0 n0 c0, .slice a1 n1 c1, .slice a2 n2 c2] w (MdE w (n0 + n1 + n2) (x0 * x1 / x2) (remV (x0 * x1) x2) (divE x2)) := by
  refine (fMulDiv h h' hd hn hn' hnd).mono ?_
  rintro e w' ⟨a, k, d, a', k', d', rfl, N, N', hk, hk', B⟩
  obtain ⟨z, M, hz⟩ := nf_of N
  obtain ⟨z', M', hz'⟩ := nf_of N'
  exact ⟨a, k, d, z, a', k', d', z', rfl, M, M', hz, hz', by omega, by omega, B⟩
end
theorem eAdd {w : World} {a0 : Option Addr} {n0 c0 : Nat} {x0 : Int} {a1 : Option Addr} {n1 c1 : Nat} {x1 : Int} (h0 : NatA w a0 n0 c0 x0) (k0 : n0 ≤ 1000000000000) (h1 : NatA w a1 n1 c1 x1) (k1 : n1 ≤ 1000000000000) : Calls Tryz.prog 185 #[.agg #[.slice a0 n0 c0], .agg #[.slice a1 n1 c1]] w (NdE w (· ≤ n0 + n1 + 1) (x0 + x1)) := by
  have BB := Below.refl w.heap.size w
  refine gc_enter (n := 11) Tryz.func185 rfl (by kernel_rfl) (by kernel_rfl) ?_
  refine gc_seq ?_
  refine gc_reg ?_
  refine ta 2 [.slice a0 n0 c0] 55 (pg) ?_
  intro v1 g2 Xg2 hg2 B
  replace BB := joinB BB B
  clear B
  have lXg2 := Xg2.lt
  refine ta 3 [.slice a1 n1 c1] 55 (pg) ?_
  intro v3 g4 Xg4 hg4 B
  replace BB := joinB BB B
  replace Xg2 := Xg2.keep B
  clear B
  have lXg2 := Xg2.lt
  have lXg4 := Xg4.lt
  refine ta 4 [.slice none 0 0] 55 (pg) ?_
  intro v5 g6 Xg6 hg6 B
  replace BB := joinB BB B
  replace Xg2 := Xg2.keep B
  replace Xg4 := Xg4.keep B
  clear B
  refine gl_nil ?_
  refine ge_then ?_
  refine gc_seq ?_
  refine gc_reg ?_
  refine t 5 (pg g2) ?_
  refine tl 6 (.slice a0 n0 c0) Xg2 0 ?_
  refine t 7 (pg g4) ?_
  refine tl 8 (.slice a1 n1 c1) Xg4 0 ?_
  have lXg2 := Xg2.lt
  have lXg4 := Xg4.lt
  have lXg6 := Xg6.lt
  refine tc 9 229 #[.slice a0 n0 c0, .slice a1 n1 c1] (nfAdd (h0.keep BB) (h1.keep BB) (by omega) (by omega)) ?_
  rintro _ v8 ⟨aq7, nq7, cq7, zq7, rfl, Nq7, hq7, mq7, B⟩
  refine ⟨_, rfl, ?_⟩
  replace BB := joinB BB B
  replace Xg2 := Xg2.keep B
  replace Xg4 := Xg4.keep B
  replace Xg6 := Xg6.keep B
  clear B
  refine t 10 (.agg #[.slice aq7 nq7 cq7]) ?_
  refine ts Xg6 0 (.agg #[.slice aq7 nq7 cq7]) [.slice aq7 nq7 cq7] [.slice aq7 nq7 cq7] ?_
  intro v9 Y C
  replace BB := belowC BB C (by omega)
  replace Xg2 := Xg2.chg C (show g2 ≠ g6 by omega)
  replace Xg4 := Xg4.chg C (show g4 ≠ g6 by omega)
  replace Nq7 := Nq7.cell C (show nq7 = 0 ∨ zq7 ≠ g6 by omega)
  clear C Xg6
  have Xg6 := Y
  clear Y
  refine gl_nil ?_
  refine ge_then ?_
  refine gc_ret ?_
  refine ge_ret (.agg #[.slice aq7 nq7 cq7]) (rsc 4 (T := 55) (by kernel_rfl) (by kernel_rfl) (lr Xg6 0)) ?_
  exact ⟨_, _, _, _, rfl, Nq7, by omega, by omega, BB⟩
theorem eOfNat {w : World} {a0 : Option Addr} {n0 c0 : Nat} {x0 : Int} (h0 : NatA w a0 n0 c0 x0) (k0 : n0 ≤ 100000000000) : Calls Tryz.prog 223 #[.slice a0 n0 c0] w (NdE w (· ≤ n0 + 38) (x0 * U36)) := by
  have BB := Below.refl w.heap.size w
  refine gc_enter (n := 7) Tryz.func223 rfl (by kernel_rfl) (by kernel_rfl) ?_
  refine gc_seq ?_
  refine gc_reg ?_
  refine ta 2 [.slice none 0 0] 55 (pg) ?_
  intro v1 g2 Xg2 hg2 B
  replace BB := joinB BB B
  clear B
  refine gl_nil ?_
  refine ge_then ?_
  refine gc_seq ?_
  refine gc_reg ?_
  refine t 3 (.slice a0 n0 c0) ?_
  have lXg2 := Xg2.lt
  refine tc 4 268 #[] (dUnit) ?_
  rintro _ v4 ⟨aq3, nq3, cq3, rfl, Nq3, mq3, B⟩
  refine ⟨_, rfl, ?_⟩
  replace BB := joinB BB B
  replace Xg2 := Xg2.keep B
  clear B
  have lXg2 := Xg2.lt
  refine tc 5 267 #[.slice a0 n0 c0, .slice aq3 nq3 cq3] (nfMul (h0.keep BB) Nq3.a (by omega) (by omega)) ?_
  rintro _ v6 ⟨aq5, nq5, cq5, zq5, rfl, Nq5, hq5, mq5, B⟩
  refine ⟨_, rfl, ?_⟩
  replace BB := joinB BB B
  replace Xg2 := Xg2.keep B
  replace Nq3 := Nq3.keep B
  clear B
  refine t 6 (.agg #[.slice aq5 nq5 cq5]) ?_
  refine ts Xg2 0 (.agg #[.slice aq5 nq5 cq5]) [.slice aq5 nq5 cq5] [.slice aq5 nq5 cq5] ?_
  intro v7 Y C
  replace BB := belowC BB C (by omega)
  clear Nq3
  replace Nq5 := Nq5.cell C (show nq5 = 0 ∨ zq5 ≠ g2 by omega)
  clear C Xg2
  have Xg2 := Y
  clear Y
  refine gl_nil ?_
  refine ge_then ?_
  refine gc_ret ?_
  refine ge_ret (.agg #[.slice aq5 nq5 cq5]) (rsc 2 (T := 55) (by kernel_rfl) (by kernel_rfl) (lr Xg2 0)) ?_
  exact ⟨_, _, _, _, rfl, Nq5, by omega, by omega, BB⟩
theorem eOf {w : World} {y : Int} (hy : 0 ≤ y ∧ y < 18446744073709551616) : Calls Tryz.prog 182 #[.int .u64 y] w (NdE w (· ≤ 40) (y * U36)) := by
  have BB := Below.refl w.heap.size w
  refine gc_enter (n := 6) Tryz.func182 rfl (by kernel_rfl) (by kernel_rfl) ?_
  refine gc_seq ?_
  refine gc_reg ?_
  refine ta 2 [.slice none 0 0] 55 (pg) ?_
  intro v1 g2 Xg2 hg2 B
  replace BB := joinB BB B
  clear B
  refine gl_nil ?_
  refine ge_then ?_
  refine gc_seq ?_
  refine gc_reg ?_
  refine t 3 (.int .u64 y) ?_
  have lXg2 := Xg2.lt
  refine tc 4 224 #[.int .u64 y] (nfOf (x := y) hy.1 hy.2) ?_
  rintro _ v4 ⟨aq3, nq3, cq3, zq3, rfl, Nq3, hq3, mq3, B⟩
  refine ⟨_, rfl, ?_⟩
  replace BB := joinB BB B
  replace Xg2 := Xg2.keep B
  clear B
  have lXg2 := Xg2.lt
  refine tc 5 223 #[.slice aq3 nq3 cq3] (eOfNat Nq3.nat (by omega)) ?_
  rintro _ v6 ⟨aq5, nq5, cq5, zq5, rfl, Nq5, hq5, mq5, B⟩
  refine ⟨_, rfl, ?_⟩
  replace BB := joinB BB B
  replace Xg2 := Xg2.keep B
  replace Nq3 := Nq3.keep B
  clear B
  refine ts Xg2 0 (.agg #[.slice aq5 nq5 cq5]) [.slice aq5 nq5 cq5] [.slice aq5 nq5 cq5] ?_
  intro v7 Y C
  replace BB := belowC BB C (by omega)
  replace Nq3 := Nq3.cell C (show nq3 = 0 ∨ zq3 ≠ g2 by omega)
  replace Nq5 := Nq5.cell C (show nq5 = 0 ∨ zq5 ≠ g2 by omega)
  clear C Xg2
  have Xg2 := Y
  clear Y
  refine gl_nil ?_
  refine ge_then ?_
  refine gc_ret ?_
  refine ge_ret (.agg #[.slice aq5 nq5 cq5]) (rsc 2 (T := 55) (by kernel_rfl) (by kernel_rfl) (lr Xg2 0)) ?_
  exact ⟨_, _, _, _, rfl, Nq5, by omega, by omega, BB⟩
def sbE (x y : Int) : Int := if y ≤ x then 0 else 20
theorem eSub {w : World} {a0 : Option Addr} {n0 c0 : Nat} {x0 : Int} {a1 : Option Addr} {n1 c1 : Nat} {x1 : Int} (h0 : NatA w a0 n0 c0 x0) (k0 : n0 ≤ 100000000000) (h1 : NatA w a1 n1 c1 x1) (k1 : n1 ≤ 100000000000) : Calls Tryz.prog 336 #[.agg #[.slice a0 n0 c0], .agg #[.slice a1 n1 c1]] w (NtE (sbE x0 x1) w (· ≤ n0) (subV x0 x1)) := by
  have BB := Below.refl w.heap.size w
  refine gc_enter (n := 21) Tryz.func336 rfl (by kernel_rfl) (by kernel_rfl) ?_
  refine gc_seq ?_
  refine gc_reg ?_
  refine ta 2 [.slice a0 n0 c0] 55 (pg) ?_
  intro v1 g2 Xg2 hg2 B
  replace BB := joinB BB B
  clear B
  have lXg2 := Xg2.lt
  refine ta 3 [.slice a1 n1 c1] 55 (pg) ?_
  intro v3 g4 Xg4 hg4 B
  replace BB := joinB BB B
  replace Xg2 := Xg2.keep B
  clear B
  have lXg2 := Xg2.lt
  have lXg4 := Xg4.lt
  refine ta 4 [.slice none 0 0] 55 (pg) ?_
  intro v5 g6 Xg6 hg6 B
  replace BB := joinB BB B
  replace Xg2 := Xg2.keep B
  replace Xg4 := Xg4.keep B
  clear B
  refine t 5 (.int .i64 0) ?_
  refine gl_nil ?_
  refine ge_then ?_
  refine gc_seq ?_
  refine gc_reg ?_
  refine t 9 (pg g2) ?_
  refine tl 10 (.slice a0 n0 c0) Xg2 0 ?_
  refine t 11 (pg g4) ?_
  refine tl 12 (.slice a1 n1 c1) Xg4 0 ?_
  have lXg2 := Xg2.lt
  have lXg4 := Xg4.lt
  have lXg6 := Xg6.lt
  refine tc 13 361 #[.slice a0 n0 c0, .slice a1 n1 c1] (nfSub (h0.keep BB) (h1.keep BB) (by omega) (by omega)) ?_
  rintro _ v8 ⟨aq7, nq7, cq7, zq7, rfl, Nq7, hq7, mq7, B⟩
  refine ⟨_, rfl, ?_⟩
  replace BB := joinB BB B
  replace Xg2 := Xg2.keep B
  replace Xg4 := Xg4.keep B
  replace Xg6 := Xg6.keep B
  clear B
  refine t 8 (.tuple #[.slice aq7 nq7 cq7, .int .i64 (subE x0 x1)]) ?_
  refine t 14 (.slice aq7 nq7 cq7) ?_
  refine t 15 (.int .i64 (subE x0 x1)) ?_
  refine t 6 (.slice aq7 nq7 cq7) ?_
  refine t 7 (.int .i64 (subE x0 x1)) ?_
  refine gl_nil ?_
  refine ge_then ?_
  refine gc_fr [(4, pg g6), (5, .int .i64 0), (6, .slice aq7 nq7 cq7), (7, .int .i64 (subE x0 x1))] (by kernel_rfl) ?_
  refine gc_seq ?_
  refine gc_seq ?_
  refine gc_reg ?_
  refine t 16 (.int .i64 (subE x0 x1)) ?_
  by_cases cs : x1 ≤ x0
  · have t9 : (subE x0 x1 : Int) = 0 := if_pos cs
    refine tq 17 (.bool ((subE x0 x1 : Int) != 0)) (.bool false) (congrArg Value.bool (bne_eq_false_iff_eq.2 t9)) ?_
    refine gl_nil ?_
    refine ge_then ?_
    refine gc_no ?_
    refine gc_skip ?_
    refine ge_then ?_
    refine gc_seq ?_
    refine gc_reg ?_
    refine t 19 (.slice aq7 nq7 cq7) ?_
    refine t 20 (.agg #[.slice aq7 nq7 cq7]) ?_
    refine ts Xg6 0 (.agg #[.slice aq7 nq7 cq7]) [.slice aq7 nq7 cq7] [.slice aq7 nq7 cq7] ?_
    intro v10 Y C
    replace BB := belowC BB C (by omega)
    replace Xg2 := Xg2.chg C (show g2 ≠ g6 by omega)
    replace Xg4 := Xg4.chg C (show g4 ≠ g6 by omega)
    replace Nq7 := Nq7.cell C (show nq7 = 0 ∨ zq7 ≠ g6 by omega)
    clear C Xg6
    have Xg6 := Y
    clear Y
    refine t 5 (.int .i64 0) ?_
    refine gl_nil ?_
    refine ge_then ?_
    refine gc_ret ?_
    refine ge_ret (.tuple #[.agg #[.slice aq7 nq7 cq7], .int .i64 0]) (rsct 4 5 (T := 55) (by kernel_rfl) (by kernel_rfl) (by kernel_rfl) (lr Xg6 0)) ?_
    rw [show sbE x0 x1 = 0 from if_pos cs]
    exact ⟨_, _, _, _, rfl, Nq7, by omega, by omega, BB⟩
  · have t11 : ¬ (subE x0 x1 : Int) = 0 := by unfold subE; rw [if_neg cs]; decide
    refine tq 17 (.bool ((subE x0 x1 : Int) != 0)) (.bool true) (congrArg Value.bool (bne_iff_ne.2 t11)) ?_
    refine gl_nil ?_
    refine ge_then ?_
    refine gc_yes ?_
    refine gc_seq ?_
    refine gc_reg ?_
    refine t 18 (.agg #[.slice none 0 0]) ?_
    refine ts Xg6 0 (.agg #[.slice none 0 0]) [.slice none 0 0] [.slice none 0 0] ?_
    intro v12 Y C
    replace BB := belowC BB C (by omega)
    replace Xg2 := Xg2.chg C (show g2 ≠ g6 by omega)
    replace Xg4 := Xg4.chg C (show g4 ≠ g6 by omega)
    replace Nq7 := Nq7.cell C (show nq7 = 0 ∨ zq7 ≠ g6 by omega)
    clear C Xg6
    have Xg6 := Y
    clear Y
    refine t 5 (.int .i64 20) ?_
    refine gl_nil ?_
    refine ge_then ?_
    refine gc_ret ?_
    refine ge_tr ?_
    refine ge_ret (.tuple #[.agg #[.slice none 0 0], .int .i64 20]) (rsct 4 5 (T := 55) (by kernel_rfl) (by kernel_rfl) (by kernel_rfl) (lr Xg6 0)) ?_
    rw [show sbE x0 x1 = 20 from if_neg cs, show subV x0 x1 = 0 from if_neg cs]
    exact ⟨_, _, _, 0, rfl, nf_nil _ 0, .inl rfl, by omega, BB⟩
theorem rnd_mk {w : World} : Calls Tryz.prog 270 #[.bool false] w fun e w' => ∃ g, e = .returned (.func (.func 322) #[] #[pg g]) ∧ Blk w' g [.bool false] 4 ∧ w.heap.size ≤ g ∧ Below w.heap.size w w' := by
  have BB := Below.refl w.heap.size w
  refine gc_enter (n := 4) Tryz.func270 rfl (by kernel_rfl) (by kernel_rfl) ?_
  refine gc_seq ?_
  refine gc_reg ?_
  refine ta 1 [.bool false] 4 (pg) ?_
  intro v1 g2 Xg2 hg2 B
  replace BB := joinB BB B
  clear B
  refine t 2 (.nilFunc) ?_
  refine gl_nil ?_
  refine ge_then ?_
  refine gc_seq ?_
  refine gc_reg ?_
  refine t 3 (.func (.func 322) #[] #[pg g2]) ?_
  refine t 2 (.func (.func 322) #[] #[pg g2]) ?_
  refine gl_nil ?_
  refine ge_then ?_
  refine gc_ret ?_
  refine ge_ret (.func (.func 322) #[] #[pg g2]) (rs1 2 (by kernel_rfl) (by kernel_rfl)) ?_
  exact ⟨_, rfl, Xg2, hg2, BB⟩
theorem rnd_down {w : World} {a0 : Option Addr} {n0 c0 : Nat} {x0 : Int} {a1 : Option Addr} {n1 c1 : Nat} {g z0 : Nat} (N0 : Nf w z0 a0 n0 c0 x0) (Xr : Blk w g [.bool false] 4) : Calls Tryz.prog 322 #[.slice a0 n0 c0, .slice a1 n1 c1, pg g] w fun e w' => e = .returned (.agg #[.slice a0 n0 c0]) ∧ Nf w' z0 a0 n0 c0 x0 ∧ Below w.heap.size w w' := by
  have lXr := Xr.lt
  have lN0 := N0.lt
  have BB := Below.refl w.heap.size w
  refine gc_enter (n := 17) Tryz.func322 rfl (by kernel_rfl) (by kernel_rfl) ?_
  refine gc_seq ?_
  refine gc_reg ?_
  have lXr := Xr.lt
  have lN0 := N0.lt
  refine ta 5 [.slice none 0 0] 55 (pg) ?_
  intro v1 g2 Xg2 hg2 B
  replace BB := joinB BB B
  replace Xr := Xr.keep B
  replace N0 := N0.keep B
  clear B
  refine gl_nil ?_
  refine ge_then ?_
  refine gc_seq ?_
  refine gc_seq ?_
  refine gc_reg ?_
  refine tl 6 (.bool false) Xr 0 ?_
  refine t 7 (.bool false) ?_
  refine tn 8 ?_
  refine tn 9 ?_
  refine tn 10 ?_
  refine t 11 (.bool false) ?_
  refine gl_nil ?_
  refine ge_then ?_
  refine gc_no ?_
  refine gc_skip ?_
  refine ge_then ?_
  refine gc_seq ?_
  refine gc_reg ?_
  refine t 15 (.slice a0 n0 c0) ?_
  refine t 16 (.agg #[.slice a0 n0 c0]) ?_
  refine ts Xg2 0 (.agg #[.slice a0 n0 c0]) [.slice a0 n0 c0] [.slice a0 n0 c0] ?_
  intro v3 Y C
  replace BB := belowC BB C (by omega)
  replace Xr := Xr.chg C (show g ≠ g2 by omega)
  replace N0 := N0.cell C (show n0 = 0 ∨ z0 ≠ g2 by omega)
  clear C Xg2
  have Xg2 := Y
  clear Y
  refine gl_nil ?_
  refine ge_then ?_
  refine gc_fr [(5, pg g2)] (by kernel_rfl) ?_
  refine gc_ret ?_
  refine ge_ret (.agg #[.slice a0 n0 c0]) (rsc 5 (T := 55) (by kernel_rfl) (by kernel_rfl) (lr Xg2 0)) ?_
  exact ⟨rfl, N0, BB⟩
def dvZ (y : Int) : Int := if y = 0 then 21 else 0
theorem eDivide {w : World} {a0 : Option Addr} {n0 c0 : Nat} {x0 : Int} {a1 : Option Addr} {n1 c1 : Nat} {x1 : Int} {a2 : Option Addr} {n2 c2 : Nat} {x2 : Int} {g : Nat} (h0 : NatA w a0 n0 c0 x0) (k0 : n0 ≤ 100000000000) (h1 : NatA w a1 n1 c1 x1) (k1 : n1 ≤ 100000000000) (h2 : NatA w a2 n2 c2 x2) (k2 : n2 ≤ 100000000000) (Xr : Blk w g [.bool false] 4) : Calls Tryz.prog 269 #[.slice a0 n0 c0, .slice a1 n1 c1, .slice a2 n2 c2, .func (.func 322) #[] #[pg g]] w (NtE (dvZ x2) w (· ≤ n0 + n1 + n2) (x0 * x1 / x2)) := by
  have lXr := Xr.lt
  have BB := Below.refl w.heap.size w
  refine gc_enter (n := 28) Tryz.func269 rfl (by kernel_rfl) (by kernel_rfl) ?_
  refine gc_seq ?_
  refine gc_reg ?_
  have lXr := Xr.lt
  refine ta 8 [.slice none 0 0] 55 (pg) ?_
  intro v1 g2 Xg2 hg2 B
  replace BB := joinB BB B
  replace Xr := Xr.keep B
  clear B
  refine t 9 (.int .i64 0) ?_
  refine gl_nil ?_
  refine ge_then ?_
  refine gc_seq ?_
  refine gc_reg ?_
  refine t 14 (.slice a0 n0 c0) ?_
  refine t 15 (.slice a1 n1 c1) ?_
  refine t 16 (.slice a2 n2 c2) ?_
  have lXr := Xr.lt
  have lXg2 := Xg2.lt
  refine tc 17 321 #[.slice a0 n0 c0, .slice a1 n1 c1, .slice a2 n2 c2] (nfMulDiv (h0.keep BB) (h1.keep BB) (h2.keep BB) (by omega) (by omega) (by omega)) ?_
  rintro _ v4 ⟨aq3, nq3, cq3, zq3, bq3, rq3, dq3, yq3, rfl, Nq3, Rq3, hq3, gq3, mq3, kq3, B⟩
  refine ⟨_, rfl, ?_⟩
  replace BB := joinB BB B
  replace Xr := Xr.keep B
  replace Xg2 := Xg2.keep B
  clear B
  refine t 13 (.tuple #[.slice aq3 nq3 cq3, .slice bq3 rq3 dq3, .int .i64 (divE x2)]) ?_
  refine t 18 (.slice aq3 nq3 cq3) ?_
  refine t 19 (.slice bq3 rq3 dq3) ?_
  refine t 20 (.int .i64 (divE x2)) ?_
  refine t 10 (.slice aq3 nq3 cq3) ?_
  refine t 11 (.slice bq3 rq3 dq3) ?_
  refine t 12 (.int .i64 (divE x2)) ?_
  refine gl_nil ?_
  refine ge_then ?_
  refine gc_fr [(3, .func (.func 322) #[] #[pg g]), (8, pg g2), (9, .int .i64 0), (10, .slice aq3 nq3 cq3), (11, .slice bq3 rq3 dq3), (12, .int .i64 (divE x2))] (by kernel_rfl) ?_
  refine gc_seq ?_
  refine gc_seq ?_
  refine gc_reg ?_
  refine t 21 (.int .i64 (divE x2)) ?_
  by_cases cz : x2 = 0
  · have t5 : ¬ (divE x2 : Int) = 0 := by unfold divE; rw [if_pos cz]; decide
    refine tq 22 (.bool ((divE x2 : Int) != 0)) (.bool true) (congrArg Value.bool (bne_iff_ne.2 t5)) ?_
    refine gl_nil ?_
    refine ge_then ?_
    refine gc_yes ?_
    refine gc_seq ?_
    refine gc_reg ?_
    refine t 23 (.agg #[.slice none 0 0]) ?_
    refine ts Xg2 0 (.agg #[.slice none 0 0]) [.slice none 0 0] [.slice none 0 0] ?_
    intro v6 Y C
    replace BB := belowC BB C (by omega)
    replace Xr := Xr.chg C (show g ≠ g2 by omega)
    replace Nq3 := Nq3.cell C (show nq3 = 0 ∨ zq3 ≠ g2 by omega)
    replace Rq3 := Rq3.cell C (show rq3 = 0 ∨ yq3 ≠ g2 by omega)
    clear C Xg2
    have Xg2 := Y
    clear Y
    refine t 9 (.int .i64 21) ?_
    refine gl_nil ?_
    refine ge_then ?_
    refine gc_ret ?_
    refine ge_tr ?_
    refine ge_ret (.tuple #[.agg #[.slice none 0 0], .int .i64 21]) (rsct 8 9 (T := 55) (by kernel_rfl) (by kernel_rfl) (by kernel_rfl) (lr Xg2 0)) ?_
    subst cz
    rw [show dvZ 0 = 21 from if_pos rfl, Int.ediv_zero]
    exact ⟨_, _, _, 0, rfl, nf_nil _ 0, .inl rfl, by omega, BB⟩
  · have t7 : (divE x2 : Int) = 0 := if_neg cz
    refine tq 22 (.bool ((divE x2 : Int) != 0)) (.bool false) (congrArg Value.bool (bne_eq_false_iff_eq.2 t7)) ?_
    refine gl_nil ?_
    refine ge_then ?_
    refine gc_no ?_
    refine gc_skip ?_
    refine ge_then ?_
    refine gc_seq ?_
    refine gc_reg ?_
    refine t 24 (.func (.func 322) #[] #[pg g]) ?_
    refine t 25 (.slice aq3 nq3 cq3) ?_
    refine t 26 (.slice bq3 rq3 dq3) ?_
    have lXr := Xr.lt
    have lXg2 := Xg2.lt
    refine tc 27 322 #[.slice aq3 nq3 cq3, .slice bq3 rq3 dq3, pg g] (rnd_down Nq3 Xr) ?_
    rintro _ v8 ⟨rfl, Oq3, B⟩
    refine ⟨_, rfl, ?_⟩
    clear Nq3
    have Nq3 := Oq3
    clear Oq3
    replace BB := joinB BB B
    replace Xr := Xr.keep B
    replace Xg2 := Xg2.keep B
    replace Rq3 := Rq3.keep B
    clear B
    refine ts Xg2 0 (.agg #[.slice aq3 nq3 cq3]) [.slice aq3 nq3 cq3] [.slice aq3 nq3 cq3] ?_
    intro v9 Y C
    replace BB := belowC BB C (by omega)
    replace Xr := Xr.chg C (show g ≠ g2 by omega)
    replace Nq3 := Nq3.cell C (show nq3 = 0 ∨ zq3 ≠ g2 by omega)
    replace Rq3 := Rq3.cell C (show rq3 = 0 ∨ yq3 ≠ g2 by omega)
    clear C Xg2
    have Xg2 := Y
    clear Y
    refine t 9 (.int .i64 0) ?_
    refine gl_nil ?_
    refine ge_then ?_
    refine gc_ret ?_
    refine ge_ret (.tuple #[.agg #[.slice aq3 nq3 cq3], .int .i64 0]) (rsct 8 9 (T := 55) (by kernel_rfl) (by kernel_rfl) (by kernel_rfl) (lr Xg2 0)) ?_
    rw [show dvZ x2 = 0 from if_neg cz]
    exact ⟨_, _, _, _, rfl, Nq3, by omega, by omega, BB⟩
theorem eMulDiv {w : World} {a0 : Option Addr} {n0 c0 : Nat} {x0 : Int} {a1 : Option Addr} {n1 c1 : Nat} {x1 : Int} {a2 : Option Addr} {n2 c2 : Nat} {x2 : Int} (h0 : NatA w a0 n0 c0 x0) (k0 : n0 ≤ 100000000000) (h1 : NatA w a1 n1 c1 x1) (k1 : n1 ≤ 100000000000) (h2 : NatA w a2 n2 c2 x2) (k2 : n2 ≤ 100000000000) : Calls Tryz.prog 225 #[.agg #[.slice a0 n0 c0], .agg #[.slice a1 n1 c1], .agg #[.slice a2 n2 c2]] w (NtE (dvZ x2) w (· ≤ n0 + n1 + n2) (x0 * x1 / x2)) := by
  have BB := Below.refl w.heap.size w
  refine gc_enter (n := 18) Tryz.func225 rfl (by kernel_rfl) (by kernel_rfl) ?_
  refine gc_seq ?_
  refine gc_reg ?_
  refine ta 3 [.slice a0 n0 c0] 55 (pg) ?_
  intro v1 g2 Xg2 hg2 B
  replace BB := joinB BB B
  clear B
  have lXg2 := Xg2.lt
  refine ta 4 [.slice a1 n1 c1] 55 (pg) ?_
  intro v3 g4 Xg4 hg4 B
  replace BB := joinB BB B
  replace Xg2 := Xg2.keep B
  clear B
  have lXg2 := Xg2.lt
  have lXg4 := Xg4.lt
  refine ta 5 [.slice a2 n2 c2] 55 (pg) ?_
  intro v5 g6 Xg6 hg6 B
  replace BB := joinB BB B
  replace Xg2 := Xg2.keep B
  replace Xg4 := Xg4.keep B
  clear B
  have lXg2 := Xg2.lt
  have lXg4 := Xg4.lt
  have lXg6 := Xg6.lt
  refine ta 6 [.slice none 0 0] 55 (pg) ?_
  intro v7 g8 Xg8 hg8 B
  replace BB := joinB BB B
  replace Xg2 := Xg2.keep B
  replace Xg4 := Xg4.keep B
  replace Xg6 := Xg6.keep B
  clear B
  refine t 7 (.int .i64 0) ?_
  refine gl_nil ?_
  refine ge_then ?_
  refine gc_seq ?_
  replace BB := BB.drew
  replace Xg2 := Xg2.drew
  replace Xg4 := Xg4.drew
  replace Xg6 := Xg6.drew
  replace Xg8 := Xg8.drew
  refine gc_draw (fun w' => Blk w' g2 [.slice a0 n0 c0] 55 ∧ Blk w' g4 [.slice a1 n1 c1] 55 ∧ Blk w' g6 [.slice a2 n2 c2] 55) (fun _ => false) ⟨Xg2, Xg4, Xg6⟩ ?_
  refine z 0 8 (pg g2) ?_
  refine zl 1 9 (.slice a0 n0 c0) (fun _ h => h.1) 0 ?_
  refine z 2 10 (pg g4) ?_
  refine zl 3 11 (.slice a1 n1 c1) (fun _ h => h.2.1) 0 ?_
  refine z 4 12 (pg g6) ?_
  refine zl 5 13 (.slice a2 n2 c2) (fun _ h => h.2.2) 0 ?_
  have lXg2 := Xg2.lt
  have lXg4 := Xg4.lt
  have lXg6 := Xg6.lt
  have lXg8 := Xg8.lt
  refine zc 6 14 270 #[.bool false] (rnd_mk) ?_
  rintro _ v9 ⟨g, rfl, Xr, hg, B⟩
  replace BB := joinB BB B
  replace Xg2 := Xg2.keep B
  replace Xg4 := Xg4.keep B
  replace Xg6 := Xg6.keep B
  replace Xg8 := Xg8.keep B
  clear B
  refine ⟨_, rfl, ⟨Xg2, Xg4, Xg6⟩, ?_⟩
  have lXg2 := Xg2.lt
  have lXg4 := Xg4.lt
  have lXg6 := Xg6.lt
  have lXg8 := Xg8.lt
  have lXr := Xr.lt
  refine zc 7 15 269 #[.slice a0 n0 c0, .slice a1 n1 c1, .slice a2 n2 c2, .func (.func 322) #[] #[pg g]] (eDivide (h0.keep BB) (by omega) (h1.keep BB) (by omega) (h2.keep BB) (by omega) Xr) ?_
  rintro _ v11 ⟨aq10, nq10, cq10, zq10, rfl, Nq10, hq10, mq10, B⟩
  replace BB := joinB BB B
  replace Xg2 := Xg2.keep B
  replace Xg4 := Xg4.keep B
  replace Xg6 := Xg6.keep B
  replace Xg8 := Xg8.keep B
  replace Xr := Xr.keep B
  clear B
  refine ⟨_, rfl, ⟨Xg2, Xg4, Xg6⟩, ?_⟩
  refine z 8 16 (.agg #[.slice aq10 nq10 cq10]) ?_
  refine z 9 17 (.int .i64 (dvZ x2)) ?_
  refine zs 10 Xg8 0 (.agg #[.slice aq10 nq10 cq10]) [.slice aq10 nq10 cq10] [.slice aq10 nq10 cq10] ?_
  intro v12 Y C
  replace BB := belowC BB C (by omega)
  replace Xg2 := Xg2.chg C (show g2 ≠ g8 by omega)
  replace Xg4 := Xg4.chg C (show g4 ≠ g8 by omega)
  replace Xg6 := Xg6.chg C (show g6 ≠ g8 by omega)
  replace Xr := Xr.chg C (show g ≠ g8 by omega)
  replace Nq10 := Nq10.cell C (show nq10 = 0 ∨ zq10 ≠ g8 by omega)
  clear C Xg8
  have Xg8 := Y
  clear Y
  refine ⟨⟨Xg2, Xg4, Xg6⟩, ?_⟩
  refine z 11 7 (.int .i64 (dvZ x2)) ?_
  refine gz_done ?_
  refine ge_then ?_
  refine gc_fr [(6, pg g8), (7, .int .i64 (dvZ x2))] (by kernel_rfl) ?_
  refine gc_ret ?_
  refine ge_ret (.tuple #[.agg #[.slice aq10 nq10 cq10], .int .i64 (dvZ x2)]) (rsct 6 7 (T := 55) (by kernel_rfl) (by kernel_rfl) (by kernel_rfl) (lr Xg8 0)) ?_
  exact ⟨_, _, _, _, rfl, Nq10, by omega, by omega, BB⟩
theorem eOver {w : World} {a0 : Option Addr} {n0 c0 : Nat} {x0 : Int} {y : Int} (h0 : NatA w a0 n0 c0 x0) (k0 : n0 ≤ 100000000000) (hy : 0 ≤ y ∧ y < 18446744073709551616) : Calls Tryz.prog 283 #[.agg #[.slice a0 n0 c0], .int .u64 y] w (NtE (dvZ y) w (· ≤ n0 + 2) (x0 / y)) := by
  have BB := Below.refl w.heap.size w
  refine gc_enter (n := 15) Tryz.func283 rfl (by kernel_rfl) (by kernel_rfl) ?_
  refine gc_seq ?_
  refine gc_reg ?_
  refine ta 2 [.slice a0 n0 c0] 55 (pg) ?_
  intro v1 g2 Xg2 hg2 B
  replace BB := joinB BB B
  clear B
  have lXg2 := Xg2.lt
  refine ta 4 [.slice none 0 0] 55 (pg) ?_
  intro v3 g4 Xg4 hg4 B
  replace BB := joinB BB B
  replace Xg2 := Xg2.keep B
  clear B
  refine t 5 (.int .i64 0) ?_
  refine gl_nil ?_
  refine ge_then ?_
  refine gc_seq ?_
  replace BB := BB.drew
  replace Xg2 := Xg2.drew
  replace Xg4 := Xg4.drew
  refine gc_draw (fun w' => Blk w' g2 [.slice a0 n0 c0] 55) (fun _ => false) Xg2 ?_
  refine z 0 6 (pg g2) ?_
  refine zl 1 7 (.slice a0 n0 c0) (fun _ h => h) 0 ?_
  refine z 3 9 (.int .u64 y) ?_
  have lXg2 := Xg2.lt
  have lXg4 := Xg4.lt
  refine zc 2 8 224 #[.int .u64 1] (nfOf (x := 1) (by decide) (by decide)) ?_
  rintro _ v6 ⟨aq5, nq5, cq5, zq5, rfl, Nq5, hq5, mq5, B⟩
  replace BB := joinB BB B
  replace Xg2 := Xg2.keep B
  replace Xg4 := Xg4.keep B
  clear B
  refine ⟨_, rfl, Xg2, ?_⟩
  have lXg2 := Xg2.lt
  have lXg4 := Xg4.lt
  refine zc 4 10 224 #[.int .u64 y] (nfOf (x := y) hy.1 hy.2) ?_
  rintro _ v8 ⟨aq7, nq7, cq7, zq7, rfl, Nq7, hq7, mq7, B⟩
  replace BB := joinB BB B
  replace Xg2 := Xg2.keep B
  replace Xg4 := Xg4.keep B
  replace Nq5 := Nq5.keep B
  clear B
  refine ⟨_, rfl, Xg2, ?_⟩
  have lXg2 := Xg2.lt
  have lXg4 := Xg4.lt
  refine zc 5 11 270 #[.bool false] (rnd_mk) ?_
  rintro _ v9 ⟨g, rfl, Xr, hg, B⟩
  replace BB := joinB BB B
  replace Xg2 := Xg2.keep B
  replace Xg4 := Xg4.keep B
  replace Nq5 := Nq5.keep B
  replace Nq7 := Nq7.keep B
  clear B
  refine ⟨_, rfl, Xg2, ?_⟩
  have lXg2 := Xg2.lt
  have lXg4 := Xg4.lt
  have lXr := Xr.lt
  refine zc 6 12 269 #[.slice a0 n0 c0, .slice aq5 nq5 cq5, .slice aq7 nq7 cq7, .func (.func 322) #[] #[pg g]] (eDivide (h0.keep BB) (by omega) Nq5.nat (by omega) Nq7.nat (by omega) Xr) ?_
  rintro _ v11 ⟨aq10, nq10, cq10, zq10, rfl, Nq10, hq10, mq10, B⟩
  replace BB := joinB BB B
  replace Xg2 := Xg2.keep B
  replace Xg4 := Xg4.keep B
  replace Nq5 := Nq5.keep B
  replace Nq7 := Nq7.keep B
  replace Xr := Xr.keep B
  clear B
  refine ⟨_, rfl, Xg2, ?_⟩
  refine z 7 13 (.agg #[.slice aq10 nq10 cq10]) ?_
  refine z 8 14 (.int .i64 (dvZ y)) ?_
  refine zs 9 Xg4 0 (.agg #[.slice aq10 nq10 cq10]) [.slice aq10 nq10 cq10] [.slice aq10 nq10 cq10] ?_
  intro v12 Y C
  replace BB := belowC BB C (by omega)
  replace Xg2 := Xg2.chg C (show g2 ≠ g4 by omega)
  replace Nq5 := Nq5.cell C (show nq5 = 0 ∨ zq5 ≠ g4 by omega)
  replace Nq7 := Nq7.cell C (show nq7 = 0 ∨ zq7 ≠ g4 by omega)
  replace Xr := Xr.chg C (show g ≠ g4 by omega)
  replace Nq10 := Nq10.cell C (show nq10 = 0 ∨ zq10 ≠ g4 by omega)
  clear C Xg4
  have Xg4 := Y
  clear Y
  refine ⟨Xg2, ?_⟩
  refine z 10 5 (.int .i64 (dvZ y)) ?_
  refine gz_done ?_
  refine ge_then ?_
  refine gc_fr [(4, pg g4), (5, .int .i64 (dvZ y))] (by kernel_rfl) ?_
  refine gc_ret ?_
  refine ge_ret (.tuple #[.agg #[.slice aq10 nq10 cq10], .int .i64 (dvZ y)]) (rsct 4 5 (T := 55) (by kernel_rfl) (by kernel_rfl) (by kernel_rfl) (lr Xg4 0)) ?_
  exact ⟨_, _, _, _, rfl, Nq10.eqv (by rw [Int.mul_one]), by omega, by omega, BB⟩
end Fo
end Go.Proofs.YtpoifdokmjhclaaGreat
