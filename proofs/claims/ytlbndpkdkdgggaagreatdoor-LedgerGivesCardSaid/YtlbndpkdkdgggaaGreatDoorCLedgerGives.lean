/- gleanlaw24.LedgerGives returns true for every input, and leaves its arguments as they are: the card, with the listed tables tied to the program's text. Conditions: none but the card's own (the tables that the row lists start as their initialisers lay them). -/
import Derived.Test.YtlbndpkdkdgggaaGreatDoorLLedgerGives
import Derived.Test.YtlbndpkdkdgggaaGreatDoorCards
import Derived.Test.YtlbndpkdkdgggaaGreatDoorTie
import Derived.WalkKit
import Derived.ProofKit
import Derived.OpenShut
import Derived.ShutString
import Derived.ChangeOld
import Derived.Below
import Derived.Lib.LaidTab
import Derived.ChangeSame
import Derived.Deep.DeepHandedRow
import Derived.Deep.Slices
namespace Go.Proofs.YtlbndpkdkdgggaaGreatDoor
namespace ledgerGives
open Go.ChangeShapes Go.WideShapes Go.ChangeAt Go.RowKit
open Go.ChangeMaps (open_string shut_string)
open Lg

theorem one_cell {cs : Array Value} (h : cs.size = 1) : ∃ c, cs = #[c] := by
  match cs, h with
  | ⟨[c]⟩, _ => exact ⟨c, rfl⟩
theorem own : ownKnob Tryz.prog.godebug = none := by kernel_rfl
theorem laidOut : laidOutB Tryz.prog = true := by kernel_rfl

theorem nat_cell {H : Type} {enc : TypeId × Value → H} {W : World} {base fuel : Nat} {spare : Nat → Bool} {held : Bool} {c : Value} {x : DataW H × List MemPlace} (h : DataW.trod enc Tryz.prog W base spare held fuel 33 [c] = some x) (hs : ∀ b, spare b = true) : ∃ a len cap zs, c = .slice a len cap ∧ IsRow W a len cap zs := by
  rcases open_ints Tryz.underlying33 Tryz.underlying31 (by kernel_rfl) h with ⟨hc1, _⟩ | ⟨x, l, c1, zs, hc1, _, hl, hm, hz, _, hcell, hwz⟩
  · exact ⟨none, 0, 0, [], List.cons.inj hc1 |>.1, .inl ⟨rfl, rfl, rfl, rfl⟩⟩
  · exact ⟨some x, l, c1, zs, List.cons.inj hc1 |>.1, .inr ⟨_, rfl, hl, hm, by simpa [hs] using hz, hcell, hwz⟩⟩
theorem spot_none {w : World} {x : Addr} {v : Value} (hx : w.cell? x = some v) : x.spot = none := by
  simp only [World.cell?] at hx
  cases hh : w.heap[x.block]? with
  | none => rw [hh] at hx; simp at hx
  | some ob =>
    rw [hh] at hx
    cases ob with
    | cells c e f =>
      simp at hx
      cases hs : x.spot with
      | none => rfl
      | some s => rw [hs] at hx; simp at hx
    | _ => simp at hx
set_option maxRecDepth 100000 in
theorem decs_in {H : Type} {enc : TypeId × Value → H} {W : World} {base n : Nat} {spare : Nat → Bool} {held : Bool} {x : Addr} {len cap m : Nat} {V : Nat → Value} {D : Nat → DataW H} {Pl : Nat → List MemPlace} (hs : ∀ b, spare b = true) (hl : len ≤ cap) (hm : cap ≤ maxLen) (hmm : m = if spare x.block then cap else len)
    (hx : ∀ i, i < m → W.cell? (x.add i) = some (V i) ∧ DataW.trod enc Tryz.prog W base spare held n 35 [V i] = some (D i, Pl i)) : DecsIn W (some x) len cap := by
  refine ⟨⟨hl, hm⟩, fun i hi => ?_⟩
  obtain ⟨h1, h3⟩ := hx i (by rw [hmm, hs]; simp; omega)
  have hsp : x.spot = none := spot_none (x := x) (by
    have h0 := (hx 0 (by rw [hmm, hs]; simp; omega)).1
    have e0 : x.add 0 = x := by unfold Addr.add; simp
    rw [e0] at h0; exact h0)
  obtain ⟨y0, m0, _, hlen, hy⟩ := trod_struct1 Tryz.underlying35 h3
  obtain ⟨a0, n0, c0, z0, e0, r0⟩ := nat_cell hy hs
  rw [e0] at h1
  obtain ⟨b, o, s⟩ := x
  obtain rfl : s = none := hsp
  have ha : ∀ n, (⟨b, o, none⟩ : Addr).add n = ⟨b, o + n, none⟩ := fun n => by
    unfold Addr.add
    split
    · subst n; rfl
    · rfl
  rw [ha] at h1
  exact ⟨b, o, a0, n0, c0, z0, rfl, h1, r0⟩
set_option maxRecDepth 100000 in
theorem contract (H : Type) (enc : TypeId × Value → H) (W : World) (base : Nat) (args : Array Value) (ds gs : List (DataW H)) (before : List MemPlace)
    (hval0 : ∀ (j : Nat) t v, Tryz.f5.params[j]? = some t → args[j]? = some v → Value.okWide Tryz.prog W .any base t v)
    (hW : DataW.Whole enc Tryz.prog Tryz.f5.params.toList Rows.ledgerGivesSpec.vars false W args.toList ds gs before) :
    Calls Tryz.prog 5 args W fun e W' => ∃ v, e = .returned v ∧ Rows.ledgerGivesSpec.post enc Tryz.prog Tryz.f5 false true false false W args v W' := by
  have hval : ∀ (j : Nat) t v, Tryz.f5.params[j]? = some t → args[j]? = some v → Value.okWide Tryz.prog W .any base t v := hval0
  have hW' := hW
  obtain ⟨p, q, hA0, hV, rfl, hfz, hnd⟩ := hW
  have hA : DataW.TrodAll enc Tryz.prog W 0 (fun _ => true) true Tryz.f5.params.toList args.toList ds p := hA0
  rw [Tryz.params5] at hA hval
  obtain ⟨v0, vs0, d0, ds0, p0, q0, hargs, rfl, rfl, h0, r0⟩ := trodAll_cons hA
  obtain ⟨v1, vs1, d1, ds1, p1, q1, rfl, rfl, rfl, h1, r1⟩ := trodAll_cons r0
  obtain ⟨v2, vs2, d2, ds2, p2, q2, rfl, rfl, rfl, h2, r2⟩ := trodAll_cons r1
  obtain ⟨v3, vs3, d3, ds3, p3, q3, rfl, rfl, rfl, h3, r3⟩ := trodAll_cons r2
  obtain ⟨v4, vs4, d4, ds4, p4, q4, rfl, rfl, rfl, h4, r4⟩ := trodAll_cons r3
  obtain ⟨rfl, rfl, rfl⟩ := trodAll_nil r4
  obtain rfl : args = #[v0, v1, v2, v3, v4] := by cases args; simp_all
  obtain ⟨rfl, rfl⟩ := trodVars_none hV
  obtain ⟨a0, len0, cap0, rfl⟩ := okWide_slice Tryz.underlying50 (hval 0 50 v0 rfl rfl)
  have k0 := h0
  have lt0 : ∀ x ∈ p0, x.block < W.heap.size := by obtain ⟨m, hm⟩ := k0; exact DataW.trod_lt m _ _ _ hm
  have w0 : DecsIn W a0 len0 cap0 := by
    obtain ⟨fuel, hf⟩ := h0
    rcases Go.Deep.open_slice1 Tryz.underlying50 (by kernel_rfl) hf with ⟨hcs, _⟩ | ⟨x, l, c, m, n, V, D, Pl, hcs, _, hl, hm, hmm, _, hx⟩
    · simp [Value.cells] at hcs
      obtain ⟨rfl, rfl, rfl⟩ := hcs
      exact ⟨⟨Nat.le_refl _, by decide⟩, fun i hi => absurd hi (Nat.not_lt_zero _)⟩
    · simp [Value.cells] at hcs
      obtain ⟨rfl, rfl, rfl⟩ := hcs
      exact decs_in (fun _ => rfl) hl hm hmm hx
  obtain ⟨cs1, rfl, hcs1⟩ := okWide_struct Tryz.underlying35 (hval 1 35 v1 rfl rfl)
  have k1 := h1
  have lt1 : ∀ x ∈ p1, x.block < W.heap.size := by obtain ⟨m, hm⟩ := k1; exact DataW.trod_lt m _ _ _ hm
  obtain ⟨a1, len1, cap1, z1, ecs1, w1⟩ : ∃ a len cap zs, cs1 = #[Value.slice a len cap] ∧ IsRow W a len cap zs := by
    obtain ⟨fuel, hf⟩ := h1
    obtain ⟨y0, m, _, hlen, hy⟩ := trod_struct1 Tryz.underlying35 hf
    obtain ⟨c, rfl⟩ : ∃ c, cs1 = #[c] := one_cell (hcs1.trans (by kernel_rfl))
    rcases open_ints Tryz.underlying33 Tryz.underlying31 (by kernel_rfl) hy with ⟨hc1, _⟩ | ⟨x, l, c1, zs, hc1, _, hl, hm, hz, _, hcell, hwz⟩
    · refine ⟨none, 0, 0, [], ?_, .inl ⟨rfl, rfl, rfl, rfl⟩⟩
      have hc2 : [c] = [Value.slice none 0 0] := hc1
      rw [List.cons.inj hc2 |>.1]
    · refine ⟨some x, l, c1, zs, ?_, .inr ⟨_, rfl, hl, hm, by simpa using hz, hcell, hwz⟩⟩
      have hc2 : [c] = [Value.slice (some x) l c1] := hc1
      rw [List.cons.inj hc2 |>.1]
  subst ecs1
  obtain ⟨cs2, rfl, hcs2⟩ := okWide_struct Tryz.underlying35 (hval 2 35 v2 rfl rfl)
  have k2 := h2
  have lt2 : ∀ x ∈ p2, x.block < W.heap.size := by obtain ⟨m, hm⟩ := k2; exact DataW.trod_lt m _ _ _ hm
  obtain ⟨a2, len2, cap2, z2, ecs2, w2⟩ : ∃ a len cap zs, cs2 = #[Value.slice a len cap] ∧ IsRow W a len cap zs := by
    obtain ⟨fuel, hf⟩ := h2
    obtain ⟨y0, m, _, hlen, hy⟩ := trod_struct1 Tryz.underlying35 hf
    obtain ⟨c, rfl⟩ : ∃ c, cs2 = #[c] := one_cell (hcs2.trans (by kernel_rfl))
    rcases open_ints Tryz.underlying33 Tryz.underlying31 (by kernel_rfl) hy with ⟨hc1, _⟩ | ⟨x, l, c1, zs, hc1, _, hl, hm, hz, _, hcell, hwz⟩
    · refine ⟨none, 0, 0, [], ?_, .inl ⟨rfl, rfl, rfl, rfl⟩⟩
      have hc2 : [c] = [Value.slice none 0 0] := hc1
      rw [List.cons.inj hc2 |>.1]
    · refine ⟨some x, l, c1, zs, ?_, .inr ⟨_, rfl, hl, hm, by simpa using hz, hcell, hwz⟩⟩
      have hc2 : [c] = [Value.slice (some x) l c1] := hc1
      rw [List.cons.inj hc2 |>.1]
  subst ecs2
  obtain ⟨x3, rfl, rfl, rfl, wx3⟩ := open_int Tryz.underlying31 (hval 3 31 v3 rfl rfl) h3
  obtain ⟨x4, rfl, rfl, rfl, wx4⟩ := open_int Tryz.underlying31 (hval 4 31 v4 rfl rfl) h4
  clear hA0 hval0
  refine (walk a0 len0 cap0 a1 len1 cap1 z1 a2 len2 cap2 z2 x3 x4 W w0 w1 w2 wx3 wx4).mono fun e W' ⟨he, bel⟩ => ?_
  subst he
  exact ⟨_, rfl, _, _, _, [], _, [], hW', trodAll_mk1 (shut_bool Tryz.underlying4 _), (trodAll_cons_mk (Below.trod laidOut (by kernel_rfl) (of_decide_eq_true (by kernel_rfl)) k0 bel lt0) (trodAll_cons_mk (Below.trod laidOut (by kernel_rfl) (of_decide_eq_true (by kernel_rfl)) k1 bel lt1) (trodAll_cons_mk (Below.trod laidOut (by kernel_rfl) (of_decide_eq_true (by kernel_rfl)) k2 bel lt2) (trodAll_cons_mk (shut_int Tryz.underlying31 wx3) (trodAll_cons_mk (shut_int Tryz.underlying31 wx4) trodAll_mk0))))), rfl, bel.frame _, fun h => by cases h⟩

def putCells (h : Array Obj) (k : Nat) (cs : Array Value) : Array Obj := h.modify k fun
  | .cells _ t frozen => .cells cs t frozen
  | o => o
/-- a world for the witness: the settled one, the tables holding what their initialisers lay -/
noncomputable def laidWorld (os : Os) : World :=
  { World.holding Tryz.prog os ⟨#[], #[], []⟩ with heap := putCells (putCells ((World.holding Tryz.prog os ⟨#[], #[], []⟩).heap) 4 #[.int .u8 128, .int .u8 191, .int .u8 160, .int .u8 191, .int .u8 128, .int .u8 159, .int .u8 144, .int .u8 191, .int .u8 128, .int .u8 143, .int .u8 0, .int .u8 0, .int .u8 0, .int .u8 0, .int .u8 0, .int .u8 0, .int .u8 0, .int .u8 0, .int .u8 0, .int .u8 0, .int .u8 0, .int .u8 0, .int .u8 0, .int .u8 0, .int .u8 0, .int .u8 0, .int .u8 0, .int .u8 0, .int .u8 0, .int .u8 0, .int .u8 0, .int .u8 0]) 3 (Go.Pinned.utf8FirstZ.map fun n : Nat => Value.int .u8 (n : Int)).toArray }
theorem laid_met (os : Os) : laidMet Tryz.prog Rows.ledgerGivesRow.laid ((laidWorld os).forCall (fun _ _ => 0) ⟨#[], #[.slice none 0 0, .agg #[.slice none 0 0], .agg #[.slice none 0 0], .int .u64 0, .int .u64 0], []⟩).memory :=
  laidMet_of_run' 8 (by kernel_rfl) (by kernel_rfl)
theorem reads (os : Os) {H : Type} (enc : TypeId × Value → H) : ∃ places, DataW.whole enc Tryz.prog ((laidWorld os).forCall (fun _ _ => 0) ⟨#[], #[.slice none 0 0, .agg #[.slice none 0 0], .agg #[.slice none 0 0], .int .u64 0, .int .u64 0], []⟩).memory Tryz.f5.params.toList Rows.ledgerGivesSpec.vars false (#[.slice none 0 0, .agg #[.slice none 0 0], .agg #[.slice none 0 0], .int .u64 0, .int .u64 0] : Array Value).toList 8 = some ([.nil, .agg [.nil], .agg [.nil], .lit (.int .u64 0), .lit (.int .u64 0)], [], places) :=
  ⟨[], by kernel_rfl⟩

set_option maxRecDepth 100000 in
theorem lifted (os : Os) (started : os.Started) (H : Type) (enc : TypeId × Value → H) (F : Stop.Interp) :
    ReturnsInHanded {} Tryz.checked os 5 .any ((OpenSpec.ofChange Rows.ledgerGivesSpec).preRow enc Tryz.prog Tryz.f5 Rows.ledgerGivesRow.domain false Rows.ledgerGivesRow.laid) (((OpenSpec.ofChange Rows.ledgerGivesSpec).at F).post enc Tryz.prog Tryz.f5 false true false false) := by
  obtain ⟨places, hx⟩ := reads os enc
  refine returnsInHanded_of_row (C := Tryz.checked) (s := OpenSpec.ofChange Rows.ledgerGivesSpec) own started (by kernel_rfl) Tryz.func5
    (witness_row_at (enc := enc) (C := Tryz.checked) false (laidWorld os) #[.slice none 0 0, .agg #[.slice none 0 0], .agg #[.slice none 0 0], .int .u64 0, .int .u64 0] rfl (by kernel_rfl) (by kernel_rfl) (by kernel_rfl)
      (OpenSpec.preRow_of_cond 8 hx (by kernel_rfl) (fun k hk => by cases hk) (by kernel_rfl) (laid_met os))) ?_
  intro W base args ds gs before hval hW _ _ _ _ _ _
  exact contract H enc W base args ds gs before hval hW

theorem said : Rows.LedgerGivesSaid :=
  OpenClaim.holds_of_cond 5 Tryz.f5 rfl rfl rfl rfl rfl rfl rfl ⟨rfl, rfl, rfl, rfl, rfl⟩ rfl rfl rfl rfl rfl (by kernel_rfl) Tryz.func5 (by kernel_rfl)
    (of_decide_eq_true (by kernel_rfl)) (by unfold Func.isWrapper; first | (rw [if_pos (by decide +kernel)]; kernel_rfl) | (rw [if_neg (by decide +kernel)]; exact ⟨rfl, rfl⟩))
    (fun os started H enc _ F => by rw [OpenClaim.pre_eq_preRow]; exact lifted os started H enc F)

theorem plain (f : FuncId) (fn : Func) (hf : Tryz.pinned.checked.prog.funcNamed "glean/gleanlaw24.LedgerGives" = some f) (hfn : Tryz.pinned.checked.prog.funcs[f]? = some fn) :
    false = Tryz.pinned.checked.prog.looks [] ∧ ∀ (j : Nat) t, fn.params[j]? = some t → Tryz.pinned.checked.prog.wantsStandIn t = false := by
  obtain rfl : f = 5 := Option.some.inj ((show Tryz.prog.funcNamed "glean/gleanlaw24.LedgerGives" = some 5 by kernel_rfl).symm.trans hf) |>.symm
  obtain rfl : fn = Tryz.f5 := (Option.some.inj (Tryz.func5.symm.trans hfn)).symm
  refine ⟨by kernel_rfl, fun j t ht => ?_⟩
  rw [Tryz.params5] at ht
  have hm := Array.mem_of_getElem? ht
  have h3 : t = 50 ∨ t = 35 ∨ t = 31 := by
    simp only [List.mem_toArray, List.mem_cons, List.not_mem_nil, or_false] at hm
    rcases hm with rfl | rfl | rfl | rfl | rfl <;> simp
  rcases h3 with rfl | rfl | rfl
  · exact (show Tryz.prog.wantsStandIn 50 = false by kernel_rfl)
  · exact (show Tryz.prog.wantsStandIn 35 = false by kernel_rfl)
  · exact (show Tryz.prog.wantsStandIn 31 = false by kernel_rfl)

end ledgerGives
/-- the card -/
theorem ledgerGives_card : Rows.LedgerGivesCardSaid :=
  Claim7.holds_tied_plain_at .later [] _ _ _ _ ledgerGives.said (fun _ h => by cases h) (by kernel_rfl) (fun _ h => by cases h) ledgerGives_row_tie rfl ⟨rfl, rfl⟩ (by kernel_rfl) rfl ledgerGives.plain (by kernel_rfl)
end Go.Proofs.YtlbndpkdkdgggaaGreatDoor
