/- gleanlaw17.MsgBack returns true for every input, and leaves its arguments as they are. Conditions: none but the form's own. -/
import Derived.Test.YtgfglfpckjkcdaaLMsgBack
import Derived.Test.YtgfglfpckjkcdaaJja
import Derived.Test.YtgfglfpckjkcdaaRows
import Derived.WalkKit
import Derived.ProofKit
import Derived.OpenShut
import Derived.ChangeOld
import Derived.Below
import Derived.ChangeSame
import Derived.SizedLaws
namespace Go.Proofs.Ytgfglfpckjkcdaa
namespace msgBack
open Go.ChangeShapes Go.WideShapes Go.ChangeAt Go.RowKit Mg

theorem own : ownKnob Try.prog.godebug = none := by kernel_rfl
theorem laidOut : laidOutB Try.prog = true := by kernel_rfl
set_option maxRecDepth 100000 in
theorem contract (H : Type) (enc : TypeId × Value → H) (W : World) (base : Nat) (args : Array Value) (ds gs : List (DataW H)) (before : List MemPlace)
    (hval0 : ∀ (j : Nat) t v, Try.f5.params[j]? = some t → args[j]? = some v → Value.okWide Try.prog W .any base t v)
    (hW : DataW.Whole enc Try.prog Try.f5.params.toList Rows.msgBackSpec.vars false W args.toList ds gs before)
    (hZ : (DataW.weightsEach Try.prog (Try.f5.params.toList ++ Rows.msgBackSpec.plain.varTypes Try.prog) (ds ++ gs)).all (· ≤ reachBytes) = true) :
    Calls Try.prog 5 args W fun e W' => ∃ v, e = .returned v ∧ Rows.msgBackSpec.post enc Try.prog Try.f5 false true false false W args v W' := by
  have hval : ∀ (j : Nat) t v, Try.f5.params[j]? = some t → args[j]? = some v → Value.okWide Try.prog W .any base t v := hval0
  have hW' := hW
  obtain ⟨p, q, hA0, hV, rfl, hfz, hnd⟩ := hW
  have hA : DataW.TrodAll enc Try.prog W 0 (fun _ => true) true Try.f5.params.toList args.toList ds p := hA0
  rw [Try.params5] at hA hval
  obtain ⟨v0, vs0, d0, ds0, p0, q0, hargs, rfl, rfl, h0, r0⟩ := trodAll_cons hA
  obtain ⟨v1, vs1, d1, ds1, p1, q1, rfl, rfl, rfl, h1, r1⟩ := trodAll_cons r0
  obtain ⟨rfl, rfl, rfl⟩ := trodAll_nil r1
  obtain rfl : args = #[v0, v1] := by cases args; simp_all
  obtain ⟨rfl, rfl⟩ := trodVars_none hV
  have z0 : ∀ k ∈ d0.weights Try.prog 30, k ≤ reachBytes := fun k hk => by
    have := List.all_eq_true.1 hZ k (DataW.weights_mem_each (j := 0) (t := 30) (d := d0) rfl rfl k hk)
    simpa using this
  have z1 : ∀ k ∈ d1.weights Try.prog 32, k ≤ reachBytes := fun k hk => by
    have := List.all_eq_true.1 hZ k (DataW.weights_mem_each (j := 1) (t := 32) (d := d1) rfl rfl k hk)
    simpa using this
  obtain ⟨cs0, rfl, hcs0⟩ := okWide_struct Try.underlying30 (hval 0 30 v0 rfl rfl)
  have k0 := h0
  have lt0 : ∀ x ∈ p0, x.block < W.heap.size := by obtain ⟨m, hm⟩ := k0; exact DataW.trod_lt m _ _ _ hm
  obtain ⟨it0, w0, ei0⟩ : ∃ i : It, i.Rng ∧ cs0.toList = [.int .i64 i.k, .int .u64 i.s, .int .u64 i.q, .int .u64 i.f, .int .i64 i.m, .int .u64 i.a, .int .u64 i.b, .int .u64 i.n, .int .i64 i.z, .int .u64 i.v, .int .u64 i.h] := by
    obtain ⟨fuel, hf⟩ := h0
    exact item_in (by rw [Array.length_toList, hcs0]; kernel_rfl) hf z0
  obtain rfl : cs0 = #[.int .i64 it0.k, .int .u64 it0.s, .int .u64 it0.q, .int .u64 it0.f, .int .i64 it0.m, .int .u64 it0.a, .int .u64 it0.b, .int .u64 it0.n, .int .i64 it0.z, .int .u64 it0.v, .int .u64 it0.h] := by rw [← Array.toArray_toList (xs := cs0), ei0]
  obtain ⟨a1, len1, cap1, rfl⟩ := okWide_slice Try.underlying32 (hval 1 32 v1 rfl rfl)
  have k1 := h1
  have lt1 : ∀ x ∈ p1, x.block < W.heap.size := by obtain ⟨m, hm⟩ := k1; exact DataW.trod_lt m _ _ _ hm
  obtain ⟨b1, l1, w1⟩ : ∃ b l, ByA W b a1 len1 cap1 l := by
    obtain ⟨fuel, hf⟩ := h1
    obtain ⟨a, n, m, b, l, e, hY, _⟩ := row_bytes (c := .slice a1 len1 cap1) hf (fun _ => rfl) z1
    cases e
    exact ⟨b, l, hY⟩
  clear hA0 hval0
  refine (msgBack_walk w0 w1).mono fun e W' ⟨he, bel⟩ => ?_
  subst he
  exact ⟨_, rfl, _, _, _, [], _, [], hW', trodAll_mk1 (shut_bool Try.underlying4 _), (trodAll_cons_mk (Below.trod laidOut (by kernel_rfl) (of_decide_eq_true (by kernel_rfl)) k0 bel lt0) (trodAll_cons_mk (Below.trod laidOut (by kernel_rfl) (of_decide_eq_true (by kernel_rfl)) k1 bel lt1) trodAll_mk0)), rfl, bel.frame _, fun h => by cases h⟩

set_option maxRecDepth 100000 in
theorem lifted (os : Os) (started : os.Started) (H : Type) (enc : TypeId × Value → H) :
    ReturnsInHanded {} Try.checked os 5 .any (Rows.msgBackSpec.pre6 enc Try.prog Try.f5 Rows.msgBackRow.domain false) (Rows.msgBackSpec.post enc Try.prog Try.f5 false true false false) := by
  refine returnsInHanded_of_change_sized (C := Try.checked) own started (by kernel_rfl) Try.func5
    (ChangeSpec.witness6 (enc := enc) (C := Try.checked) false ⟨#[], #[.agg #[.int .i64 0, .int .u64 0, .int .u64 0, .int .u64 0, .int .i64 0, .int .u64 0, .int .u64 0, .int .u64 0, .int .i64 0, .int .u64 0, .int .u64 0], .slice none 0 0], []⟩ 8 (by kernel_rfl) (by kernel_rfl) (by kernel_rfl) (by kernel_rfl)) ?_
  intro W base args ds gs before hval hW _ hZ _
  exact contract H enc W base args ds gs before hval hW hZ
end msgBack
/-- the statement -/
theorem msgBack_said : Rows.MsgBackSaid :=
  OpenClaim.holds_of_wide 5 Try.f5 rfl rfl rfl rfl rfl rfl rfl ⟨rfl, rfl, rfl, rfl, rfl⟩ rfl rfl rfl rfl rfl (by kernel_rfl) Try.func5 (by kernel_rfl)
    (of_decide_eq_true (by kernel_rfl)) (by unfold Func.isWrapper; first | (rw [if_pos (by decide +kernel)]; kernel_rfl) | (rw [if_neg (by decide +kernel)]; exact ⟨rfl, rfl⟩))
    (fun os started H enc _ => msgBack.lifted os started H enc)
end Go.Proofs.Ytgfglfpckjkcdaa
