/- A fraction is a struct of two lists of limbs. -/
import Derived.Test.YtjihgkanbhccpaaGreatDoorRegA
import Derived.Test.YtjihgkanbhccpaaGreatDoorDec1
import Derived.Test.YtjihgkanbhccpaaGreatDoorGcdV
namespace Go.Proofs.YtjihgkanbhccpaaGreatDoor
open Go.RowKit Lim

theorem info_rat : (Tryz.prog.info? 30).map (·.size) = some 2 := by kernel_rfl
theorem under_rat : ∃ f, Tryz.prog.underlying 30 = some (.struct f) := by
  cases h : Tryz.prog.underlying 30 with
  | none => exact absurd h (by have : (Tryz.prog.underlying 30).isSome = true := by kernel_rfl
                               intro e; rw [e] at this; simp at this)
  | some d =>
    have : (match Tryz.prog.underlying 30 with | some (.struct _) => true | _ => false) = true := by kernel_rfl
    rw [h] at this
    cases d <;> first | exact ⟨_, rfl⟩ | simp at this
theorem load_rat {w : World} {g : Nat} {u v : Value} {t : TypeId} (s : Box w g [u, v] t) : (loadVar 30 ⟨g, 0, none⟩).run Tryz.prog w = .ok (.agg #[u, v]) w := by
  obtain ⟨f, hu⟩ := under_rat
  exact run_loadVar_row w g t 30 #[u, v] (0, 0) _ s.blk hu rfl info_rat
theorem Box.cells2 {w : World} {g : Nat} {u v : Value} {t : TypeId} (h : Box w g [u, v] t) : w.cell? ⟨g, 0, none⟩ = some u ∧ w.cell? ⟨g, 1, none⟩ = some v ∧ w.frozen? ⟨g, 0, none⟩ = false ∧ w.frozen? ⟨g, 1, none⟩ = false := by
  have := h.blk
  simp [World.cell?, World.frozen?, this]
theorem ret_rat {fn : Func} {p : Tmp} (h : fn.results = #[.cell p 30]) {tmps : Array Value} {w : World} {g : Nat} {u v : Value} {t : TypeId} (hp : tmps.getD p undef = .pointer (some ⟨g, 0, none⟩)) (s : Box w g [u, v] t) :
    (results fn tmps).run Tryz.prog w = .ok (.agg #[u, v]) w := by
  have hp' : tmps[p]?.getD undef = .pointer (some ⟨g, 0, none⟩) := by simpa using hp
  simp [results, h, hp', asAddr, load_rat s]
theorem ret_rat_tmp {fn : Func} {p q : Tmp} (h : fn.results = #[.cell p 30, .tmp q]) {tmps : Array Value} {w : World} {g : Nat} {u v x : Value} {t : TypeId} (hp : tmps.getD p undef = .pointer (some ⟨g, 0, none⟩)) (hu : tmps.getD q undef = x) (s : Box w g [u, v] t) :
    (results fn tmps).run Tryz.prog w = .ok (.tuple #[.agg #[u, v], x]) w := by
  have hp' : tmps[p]?.getD undef = .pointer (some ⟨g, 0, none⟩) := by simpa using hp
  have hu' : tmps[q]?.getD undef = x := by simpa using hu
  simp [results, h, hp', hu', asAddr, load_rat s]

theorem field_dec (v : Value) (w : World) : (Instr.field 46 (.agg #[v]) 0).run Tryz.prog w = .ok v w := by kernel_rfl
set_option maxHeartbeats 1000000 in
set_option maxRecDepth 100000 in
theorem qQuot {w : World} {ao ao' : Option Addr} {n c n' c' : Nat} {x y : Int} (h : NatA w ao n c x) (h' : NatA w ao' n' c' y) (hn : n ≤ 1099511627776) (hn' : n' ≤ 1099511627776) (hne : y ≠ 0) :
    Calls Tryz.prog 83 #[.slice ao n c, .slice ao' n' c'] w fun e w' => ∃ a k d, e = .returned (.slice a k d) ∧ NatO w' a k d (x / y) ∧ k ≤ n ∧ Below w.heap.size w w' := by
  go_enter Tryz.func83, Tryz.ntmps83
  go_wp2_with fail
  refine (nDiv h h' hn hn' hne).mono ?_
  rintro e w1 ⟨a, k, d, a', k', d', rfl, O1, O2, hk, hk', hB⟩
  go_wp2
  go_ret
  exact ⟨a, k, d, rfl, O1, hk, hB⟩
set_option maxHeartbeats 1000000 in
set_option maxRecDepth 100000 in
theorem qUnit {w : World} : Calls Tryz.prog 91 #[] w fun e w' => ∃ a k d, e = .returned (.slice a k d) ∧ NatO w' a k d U36 ∧ k ≤ 39 ∧ Below w.heap.size w w' := by
  go_enter Tryz.func91, Tryz.ntmps91
  go_wp2_with fail
  refine (dOf (x := 1) (by decide) (by decide)).mono ?_
  rintro e w1 ⟨a, k, d, rfl, O1, hk, hB⟩
  replace O1 := O1.eqv (Int.one_mul _)
  have hfld := fun w => field_dec (.slice a k d) w
  go_wp2
  go_ret
  exact ⟨a, k, d, rfl, O1, hk, hB⟩
set_option maxHeartbeats 1000000 in
set_option maxRecDepth 100000 in
theorem qOfNat {w : World} {ao : Option Addr} {n c : Nat} {x : Int} (h : NatA w ao n c x) (hn : n ≤ 1099511627776) :
    Calls Tryz.prog 21 #[.slice ao n c] w fun e w' => ∃ a k d a' k' d', e = .returned (.agg #[.slice a k d, .slice a' k' d']) ∧ NatO w' a k d x ∧ NatO w' a' k' d' 1 ∧ k ≤ n ∧ k' ≤ 1 ∧ Below w.heap.size w w' := by
  have B0 := below_alloc w (.cells #[.slice none 0 0, .slice none 0 0] 30)
  have S0 := box_new w [.slice none 0 0, .slice none 0 0] 30
  have h := h.keep B0
  go_enter Tryz.func21, Tryz.ntmps21
  go_wp2_with fail
  refine (nNorm h hn).mono ?_
  rintro e w1 ⟨a, k, d, rfl, O1, hk, hB⟩
  replace S0 := S0.keep hB
  replace B0 := joinB B0 hB
  clear hB
  go_wp2_with fail
  refine (nOf (x := 1) (by decide) (by decide)).mono ?_
  rintro e w2 ⟨a', k', d', rfl, O2, hk', hB⟩
  replace O1 := O1.keep hB
  replace S0 := S0.keep hB
  replace B0 := joinB B0 hB
  obtain ⟨c1, c2, f1, f2⟩ := S0.cells2
  have S2 := S0.put2 (.slice a k d) (.slice a' k' d')
  have P1 := O1.put2 S0 (.slice a k d) (.slice a' k' d')
  have P2 := O2.put2 S0 (.slice a k d) (.slice a' k' d')
  have HB := below_put2 B0 (Nat.le_refl _) (.slice a k d) (.slice a' k' d')
  clear hB h O1 O2 S0 B0
  go_wp2
  refine bodyPost_ret (ret_rat rfl rfl S2) rfl ?_
  exact ⟨a, k, d, a', k', d', rfl, P1, P2, hk, hk', HB⟩
set_option maxHeartbeats 1000000 in
set_option maxRecDepth 100000 in
theorem qReduced {w : World} {ao ao' : Option Addr} {n c n' c' : Nat} {x y : Int} (h : NatA w ao n c x) (h' : NatA w ao' n' c' y) (hn : n ≤ 274877906944) (hn' : n' ≤ 274877906944) (hne : y ≠ 0) :
    Calls Tryz.prog 87 #[.slice ao n c, .slice ao' n' c'] w fun e w' => ∃ a k d a' k' d', e = .returned (.agg #[.slice a k d, .slice a' k' d']) ∧ NatO w' a k d (x / (Int.gcd x y : Nat)) ∧ NatO w' a' k' d' (y / (Int.gcd x y : Nat)) ∧ k ≤ n ∧ k' ≤ n' ∧ Below w.heap.size w w' := by
  have hg : ((Int.gcd x y : Nat) : Int) ≠ 0 := fun e => hne (Int.gcd_eq_zero_iff (a := x) (b := y) |>.1 (by omega)).2
  have HG := (show Hid _ from hg)
  clear hg
  have B0 := below_alloc w (.cells #[.slice none 0 0, .slice none 0 0] 30)
  have S0 := box_new w [.slice none 0 0, .slice none 0 0] 30
  replace h := h.keep B0
  replace h' := h'.keep B0
  go_enter Tryz.func87, Tryz.ntmps87
  go_wp2_with fail
  refine (nGcd h h' hn hn').mono ?_
  rintro e w1 ⟨ag, kg, dg, rfl, OG, hkg, hB⟩
  replace h := h.keep hB
  replace h' := h'.keep hB
  replace S0 := S0.keep hB
  replace B0 := joinB B0 hB
  clear hB
  go_wp2_with fail
  refine (qQuot h OG.a (by omega) (by omega) HG.out).mono ?_
  rintro e w2 ⟨a, k, d, rfl, O1, hk, hB⟩
  replace h' := h'.keep hB
  replace OG := OG.keep hB
  replace S0 := S0.keep hB
  replace B0 := joinB B0 hB
  clear hB
  go_wp2_with fail
  refine (qQuot h' OG.a (by omega) (by omega) HG.out).mono ?_
  rintro e w3 ⟨a', k', d', rfl, O2, hk', hB⟩
  replace O1 := O1.keep hB
  replace S0 := S0.keep hB
  replace B0 := joinB B0 hB
  obtain ⟨c1, c2, f1, f2⟩ := S0.cells2
  have S2 := S0.put2 (.slice a k d) (.slice a' k' d')
  have P1 := O1.put2 S0 (.slice a k d) (.slice a' k' d')
  have P2 := O2.put2 S0 (.slice a k d) (.slice a' k' d')
  have HB := below_put2 B0 (Nat.le_refl _) (.slice a k d) (.slice a' k' d')
  clear hB h h' O1 O2 OG S0 B0
  go_wp2
  refine bodyPost_ret (ret_rat rfl rfl S2) rfl ?_
  exact ⟨a, k, d, a', k', d', rfl, P1, P2, hk, hk', HB⟩
/-- a fraction's parts, one without a denominator counting as 0 -/
def cn (x y : Int) : Int := if y = 0 then 0 else x
def cd (y : Int) : Int := if y = 0 then 1 else y
theorem cd_ne (y : Int) : cd y ≠ 0 := by unfold cd; split <;> omega
set_option maxHeartbeats 1000000 in
set_option maxRecDepth 100000 in
theorem qCounted {w : World} {ao ao' : Option Addr} {n c n' c' : Nat} {x y : Int} (h : NatA w ao n c x) (h' : NatA w ao' n' c' y) (hn : n ≤ 274877906944) (hn' : n' ≤ 274877906944) :
    Calls Tryz.prog 80 #[.agg #[.slice ao n c, .slice ao' n' c']] w fun e w' => ∃ a k d a' k' d', e = .returned (.agg #[.slice a k d, .slice a' k' d']) ∧ NatA w' a k d (cn x y) ∧ NatA w' a' k' d' (cd y) ∧ k ≤ n ∧ k' ≤ n' + 1 ∧ Below w.heap.size w w' := by
  unfold cn cd
  have hbz := bitLen_zero y h'.nonneg
  have B0 := below2 w (.cells #[.slice ao n c, .slice ao' n' c'] 30) (.cells #[.slice none 0 0, .slice none 0 0] 30)
  have BA := below_alloc w (.cells #[.slice ao n c, .slice ao' n' c'] 30)
  have SP := (box_new w [.slice ao n c, .slice ao' n' c'] 30).keep (below_alloc _ (.cells #[.slice none 0 0, .slice none 0 0] 30))
  have S0 := box_new (w.alloc (.cells #[.slice ao n c, .slice ao' n' c'] 30)) [.slice none 0 0, .slice none 0 0] 30
  rw [show (w.alloc (.cells #[.slice ao n c, .slice ao' n' c'] 30)).heap.size = w.heap.size + 1 by simp] at S0
  replace h := h.keep B0
  replace h' := h'.keep B0
  obtain ⟨p1, p2, p3, p4⟩ := SP.cells2
  have t := nBits h' (by omega)
  by_cases hy : y = 0
  · rw [hbz.2 hy] at t
    rw [if_pos hy, if_pos hy]
    clear hbz hy BA
    go_enter Tryz.func80, Tryz.ntmps80
    go_wp2_with fail
    refine t.mono ?_
    rintro e w1 ⟨rfl, hB⟩
    replace S0 := S0.keep hB
    replace B0 := joinB B0 hB
    clear hB t
    go_wp2_with fail
    refine (qOfNat (natO_nil w1).a (by omega)).mono ?_
    rintro e w2 ⟨a, k, d, a', k', d', rfl, O1, O2, hk, hk', hB⟩
    replace S0 := S0.keep hB
    replace B0 := joinB B0 hB
    obtain ⟨c1, c2, f1, f2⟩ := S0.cells2
    have S2 := S0.put2 (.slice a k d) (.slice a' k' d')
    have P1 := O1.put2 S0 (.slice a k d) (.slice a' k' d')
    have P2 := O2.put2 S0 (.slice a k d) (.slice a' k' d')
    have HB := below_put2 B0 (g := w.heap.size + 1) (by omega) (.slice a k d) (.slice a' k' d')
    clear hB h h' O1 O2 S0 B0
    go_wp2
    refine bodyPost_ret (ret_rat rfl rfl S2) rfl ?_
    exact ⟨a, k, d, a', k', d', rfl, P1.a, P2.a, by omega, by omega, HB⟩
  · have hm : bitLen y.toNat ≠ 0 := fun e => hy (hbz.1 e)
    rw [if_neg hy, if_neg hy]
    generalize bitLen y.toNat = m at *
    obtain ⟨j, rfl⟩ : ∃ j, m = j + 1 := ⟨m - 1, by omega⟩
    clear hm hy hbz BA
    go_enter Tryz.func80, Tryz.ntmps80
    go_wp2_with fail
    refine t.mono ?_
    rintro e w1 ⟨rfl, hB⟩
    replace S0 := S0.keep hB
    replace SP := SP.keep hB
    replace h := h.keep hB
    replace h' := h'.keep hB
    replace B0 := joinB B0 hB
    obtain ⟨p1, p2, p3, p4⟩ := SP.cells2
    obtain ⟨c1, c2, f1, f2⟩ := S0.cells2
    have S2 := S0.put2 (.slice ao n c) (.slice ao' n' c')
    have P1 := h.put2 S0 (.slice ao n c) (.slice ao' n' c')
    have P2 := h'.put2 S0 (.slice ao n c) (.slice ao' n' c')
    have HB := below_put2 B0 (g := w.heap.size + 1) (by omega) (.slice ao n c) (.slice ao' n' c')
    clear hB h h' S0 B0 SP t
    go_wp2
    refine bodyPost_ret (ret_rat rfl rfl S2) rfl ?_
    exact ⟨ao, n, c, ao', n', c', rfl, P1, P2, by omega, by omega, HB⟩
end Go.Proofs.YtjihgkanbhccpaaGreatDoor
