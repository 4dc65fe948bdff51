/- gleanlaw21.GenBytes returns true for every input, and leaves its arguments as they are. Conditions: none but the form's own. -/
import Derived.Test.YtpoifdokmjhclaaGreatLGenBytes
import Derived.Test.YtpoifdokmjhclaaGreatGnV
import Derived.Test.YtpoifdokmjhclaaGreatEncH
import Derived.Test.YtpoifdokmjhclaaGreatRows
import Derived.WalkKit
import Derived.ProofKit
import Derived.OpenShut
import Derived.ChangeOld
import Derived.Below
import Derived.ChangeSame
import Derived.SizedLaws
import Derived.JoinedOf
namespace Go.Proofs.YtpoifdokmjhclaaGreat
namespace genBytes
open Go.ChangeShapes Go.WideShapes Go.ChangeAt Go.RowKit Lim Mg

theorem own : ownKnob Tryz.prog.godebug = none := by kernel_rfl
theorem laidOut : laidOutB Tryz.prog = true := by kernel_rfl
set_option maxRecDepth 100000 in
theorem contract (H : Type) (enc : TypeId × Value → H) (W : World) (base : Nat) (args : Array Value) (ds gs : List (DataW H)) (before : List MemPlace)
    (hval0 : ∀ (j : Nat) t v, Tryz.f3.params[j]? = some t → args[j]? = some v → Value.okWide Tryz.prog W .any base t v)
    (hW : DataW.Whole enc Tryz.prog Tryz.f3.params.toList Rows.genBytesSpec.vars false W args.toList ds gs before)
    (hZ : (DataW.weightsEach Tryz.prog (Tryz.f3.params.toList ++ Rows.genBytesSpec.plain.varTypes Tryz.prog) (ds ++ gs)).all (· ≤ reachBytes) = true) :
    Calls Tryz.prog 3 args W fun e W' => ∃ v, e = .returned v ∧ Rows.genBytesSpec.post enc Tryz.prog Tryz.f3 false true false false W args v W' := by
  have hval : ∀ (j : Nat) t v, Tryz.f3.params[j]? = some t → args[j]? = some v → Value.okWide Tryz.prog W .any base t v := hval0
  have hW' := hW
  obtain ⟨p, q, hA0, hV, rfl, hfz, hnd⟩ := hW
  have hA : DataW.TrodAll enc Tryz.prog W 0 (fun _ => true) true Tryz.f3.params.toList args.toList ds p := hA0
  rw [Tryz.params3] at hA hval
  obtain ⟨v0, vs0, d0, ds0, p0, q0, hargs, rfl, rfl, h0, r0⟩ := trodAll_cons hA
  obtain ⟨v1, vs1, d1, ds1, p1, q1, rfl, rfl, rfl, h1, r1⟩ := trodAll_cons r0
  obtain ⟨rfl, rfl, rfl⟩ := trodAll_nil r1
  obtain rfl : args = #[v0, v1] := by cases args; simp_all
  obtain ⟨rfl, rfl⟩ := trodVars_none hV
  have z0 : ∀ k ∈ d0.weights Tryz.prog 28, k ≤ reachBytes := fun k hk => by
    have := List.all_eq_true.1 hZ k (DataW.weights_mem_each (j := 0) (t := 28) (d := d0) rfl rfl k hk)
    simpa using this
  have z1 : ∀ k ∈ d1.weights Tryz.prog 29, k ≤ reachBytes := fun k hk => by
    have := List.all_eq_true.1 hZ k (DataW.weights_mem_each (j := 1) (t := 29) (d := d1) rfl rfl k hk)
    simpa using this
  obtain ⟨cs0, rfl, hcs0⟩ := okWide_struct Tryz.underlying28 (hval 0 28 v0 rfl rfl)
  have k0 := h0
  have lt0 : ∀ x ∈ p0, x.block < W.heap.size := by obtain ⟨m, hm⟩ := k0; exact DataW.trod_lt m _ _ _ hm
  obtain ⟨u0, u1, u2, u3, u4, u5, u6, u7, u8, u9, x1, na, c1, x2, nv, c2, bb1, o1, bb2, o2, A, V, ei0, hp, N1, N2, m1, m2⟩ : ∃ u0 u1 u2 u3 u4 u5 u6 u7 u8 u9 x1 na c1 x2 nv c2 bb1 o1 bb2 o2 A V, cs0.toList = [.int .u64 u0, .int .u64 u1, .int .u64 u2, .int .u64 u3, .int .u64 u4, .int .u64 u5, .int .u64 u6, .int .u64 u7, .int .u64 u8, .int .u64 u9, .slice x1 na c1, .slice x2 nv c2] ∧ (∀ y ∈ ([u0, u1, u2, u3, u4, u5, u6, u7, u8, u9] : List Int), Mg.In8 y) ∧ Gn.Nl W x1 na 2 bb1 o1 A ∧ Gn.Nl W x2 nv 3 bb2 o2 V ∧ na ≤ 9223372036854775807 ∧ nv ≤ 9223372036854775807 := by
    obtain ⟨fuel, hf⟩ := h0
    exact Ga.gen_in (fun _ => rfl) (by rw [Array.length_toList, hcs0]; kernel_rfl) (fun _ _ _ h => Ga.slP_in h) (fun _ _ _ h => Ga.slF_in h) hf
  obtain rfl : cs0 = #[.int .u64 u0, .int .u64 u1, .int .u64 u2, .int .u64 u3, .int .u64 u4, .int .u64 u5, .int .u64 u6, .int .u64 u7, .int .u64 u8, .int .u64 u9, .slice x1 na c1, .slice x2 nv c2] := by rw [← Array.toArray_toList (xs := cs0), ei0]
  obtain ⟨a1, len1, cap1, rfl⟩ := okWide_slice Tryz.underlying29 (hval 1 29 v1 rfl rfl)
  have k1 := h1
  have lt1 : ∀ x ∈ p1, x.block < W.heap.size := by obtain ⟨m, hm⟩ := k1; exact DataW.trod_lt m _ _ _ hm
  obtain ⟨b1, l1, w1⟩ : ∃ b l, ByA W b a1 len1 cap1 l := by
    obtain ⟨fuel, hf⟩ := h1
    obtain ⟨a, n, m, b, l, e, hY, _⟩ := row_bytes (c := .slice a1 len1 cap1) hf (fun _ => rfl) z1
    cases e
    exact ⟨b, l, hY⟩
  clear hA0 hval0
  refine (Gn.genBytes_walk hp N1 N2 m1 m2 w1 (by obtain ⟨_, h1, h2, ⟨h3, _⟩, _⟩ := w1.ex; omega)).mono fun e W' ⟨he, bel⟩ => ?_
  subst he
  exact ⟨_, rfl, _, _, _, [], _, [], hW', trodAll_mk1 (shut_bool Tryz.underlying4 _), (trodAll_cons_mk (Below.trod laidOut (by kernel_rfl) (of_decide_eq_true (by kernel_rfl)) k0 bel lt0) (trodAll_cons_mk (Below.trod laidOut (by kernel_rfl) (of_decide_eq_true (by kernel_rfl)) k1 bel lt1) trodAll_mk0)), rfl, bel.frame _, fun h => by cases h⟩

set_option maxRecDepth 100000 in
theorem lifted (os : Os) (started : os.Started) (H : Type) (enc : TypeId × Value → H) :
    ReturnsInHanded {} Tryz.checked os 3 .any (Rows.genBytesSpec.pre6 enc Tryz.prog Tryz.f3 Rows.genBytesRow.domain false) (Rows.genBytesSpec.post enc Tryz.prog Tryz.f3 false true false false) := by
  refine returnsInHanded_of_change_sized (C := Tryz.checked) own started (by kernel_rfl) Tryz.func3
    (ChangeSpec.witness6 (enc := enc) (C := Tryz.checked) false ⟨#[], #[.agg #[.int .u64 0, .int .u64 0, .int .u64 0, .int .u64 0, .int .u64 0, .int .u64 0, .int .u64 0, .int .u64 0, .int .u64 0, .int .u64 0, .slice none 0 0, .slice none 0 0], .slice none 0 0], []⟩ 8 (by kernel_rfl) (by kernel_rfl) (by kernel_rfl) (by kernel_rfl)) ?_
  intro W base args ds gs before hval hW _ hZ _
  exact contract H enc W base args ds gs before hval hW hZ
set_option maxHeartbeats 4000000 in
set_option maxRecDepth 100000 in
theorem closed : joinedFacts Tryz.prog 3 Tryz.f3 Rows.genBytesSpec Rows.genBytesRow = true := by
  unfold joinedFacts
  simp only [Bool.and_eq_true]
  repeat' refine And.intro ?_ ?_
  all_goals (as_aux_lemma => kernel_rfl)
end genBytes
/-- the statement -/
theorem genBytes_said : Rows.GenBytesSaid :=
  OpenClaim.holds_of_wide 3 Tryz.f3 rfl rfl rfl rfl rfl rfl rfl ⟨rfl, rfl, rfl, rfl, rfl⟩ rfl rfl rfl rfl rfl (by kernel_rfl) Tryz.func3 genBytes.closed
    (of_decide_eq_true (by kernel_rfl)) (by unfold Func.isWrapper; first | (rw [if_pos (by decide +kernel)]; kernel_rfl) | (rw [if_neg (by decide +kernel)]; exact ⟨rfl, rfl⟩))
    (fun os started H enc _ => genBytes.lifted os started H enc)
end Go.Proofs.YtpoifdokmjhclaaGreat
