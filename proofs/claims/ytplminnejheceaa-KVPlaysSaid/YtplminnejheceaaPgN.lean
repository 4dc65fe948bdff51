/- Delete, New, Len. -/
import Derived.Test.YtplminnejheceaaPgL
namespace Go.Proofs.Ytplminnejheceaa
namespace Pg
open Go.RowKit Go.Lib
set_option maxHeartbeats 2000000 in
set_option maxRecDepth 100000 in
theorem delete_any {w : World} {F D : Nat → Prop} {g : Nat} {L : List Pg} {kv : Value} {k : List Int} (A : MapA w F D g L) (O : Ord (ens L)) (hs : ∀ es ∈ ens L, es.length ≤ 32) (hn : L.length ≤ 100000000) (h : By w kv k) :
    Calls Try.prog 49 #[.pointer (some ⟨g, 0, none⟩), kv] w fun e w' => e = .returned (.bool (has (ens L) k)) ∧ ∃ F' L', ens L' = delQ (ens L) k ∧ MapA w' F' D g L' ∧ (∀ b, F' b → F b ∨ w.heap.size ≤ b) ∧ Chg F w w' := by
  by_cases hL : L = []
  · subst hL
    have t := find_nil (v := kv) A
    have e1 : has (ens []) k = false := rfl
    have e2 : Hid (delQ (ens []) k = ens []) := rfl
    rw [e1]
    have HA := (show Hid _ from A)
    clear A O hs h
    go_enter Try.func49, Try.ntmps49
    go_wp2_with (go_at_call 66; refine t.mono ?_; rintro e' w1 ⟨rfl, rfl⟩)
    go_ret
    exact ⟨rfl, F, [], e2.out.symm, HA.out, fun b hb => .inl hb, Chg.refl _ _⟩
  · obtain ⟨p, hp, hpe⟩ := at_page hL k
    have hpm := List.mem_of_getElem? hp
    have hps := hs p.es (List.mem_map.2 ⟨p, hpm, rfl⟩)
    have t := find_at A O h (by omega) hp (by omega)
    have hh : has (ens L) k = thr (kys p.es) k := by
      unfold has
      rw [hpe]
      have : (ens L).isEmpty = false := by simp [ens, hL]
      simp [this]
    rw [hh]
    by_cases ht : thr (kys p.es) k = true
    · obtain ⟨e, he, hek⟩ := thr_get ht
      have hql := (List.getElem?_eq_some_iff.1 he).1
      have hD : Hid (delQ (ens L) k = rmQ (ens L) (pgi (ens L) k) (plc (kys p.es) k)) := by
        show _ = _
        unfold delQ
        rw [hh, ht, if_pos rfl, hpe]
      have tR : ∀ w', Below w.heap.size w w' → _ := fun w' hB => remove_any (A.keep hB) hp hql hs O.full hn
      rw [ht] at t ⊢
      generalize pgi (ens L) k = i at *
      generalize plc (kys p.es) k = q at *
      clear A O hs h ht hh
      go_enter Try.func49, Try.ntmps49
      go_wp2_with (first
        | (go_at_call 66; refine t.mono ?_; rintro e' w1 ⟨rfl, hB⟩; have tR1 := tR w1 hB; clear t tR)
        | (go_at_call 68; refine tR1.mono ?_; rintro e' w2 ⟨F', L', rfl, hE, hA, hF, hC⟩))
      go_ret
      exact ⟨rfl, F', L', hE.trans hD.out.symm, hA, fun b hb => (hF b hb).imp id (fun h => Nat.le_trans hB.size h), (Chg.of (F := F) hB).trans hC (fun _ _ h => h)⟩
    · have ht' : thr (kys p.es) k = false := by simpa using ht
      have hD : Hid (delQ (ens L) k = ens L) := by
        show _ = _
        unfold delQ
        rw [hh, ht', if_neg (by decide)]
      rw [ht'] at t ⊢
      generalize pgi (ens L) k = i at *
      generalize plc (kys p.es) k = q at *
      have HA := (show Hid _ from A)
      clear A O hs h ht ht' hh
      go_enter Try.func49, Try.ntmps49
      go_wp2_with (go_at_call 66; refine t.mono ?_; rintro e' w1 ⟨rfl, hB⟩)
      go_ret
      exact ⟨rfl, F, L, hD.out.symm, HA.out.keep hB, fun b hb => .inl hb, Chg.of hB⟩
set_option maxHeartbeats 1000000 in
set_option maxRecDepth 100000 in
theorem new_any {w : World} : Calls Try.prog 30 #[] w fun e w' => ∃ g, e = .returned (.pointer (some ⟨g, 0, none⟩)) ∧ g = w.heap.size ∧ MapA w' (· = g) (fun _ => False) g [] ∧ Below w.heap.size w w' := by
  go_enter Try.func30, Try.ntmps30
  go_wp2
  go_ret
  refine ⟨_, rfl, rfl, ⟨⟨_, blk_new w [.slice none 0 0] 86, rfl, .inl ⟨rfl, rfl⟩⟩, fun p hp => by simp at hp, by simp, fun b hb => ?_⟩, below_alloc w _⟩
  subst hb
  exact ⟨_, _, blk_new w [.slice none 0 0] 86, by decide⟩
theorem flen_succ {P : List (List En)} {k : Nat} {es : List En} (h : P[k]? = some es) : ((P.take (k + 1)).flatten).length = ((P.take k).flatten).length + es.length := by
  rw [List.take_add_one, h]
  simp
theorem made_row {zc : Value} (n : Nat) (hz : zc.cells = #[zc]) : madeCells zc.cells n = (List.replicate n zc).toArray := by
  apply Array.ext
  · simp [size_madeCells, hz]
  · intro j h1 h2
    simp [madeCells, hz, Nat.mod_one]
/-- make of a list -/
theorem make_row {P : Program} {w : World} {T E : TypeId} {bytes : Nat} {z : Value} (H : Kd P T E 1 bytes z) (hz : z.cells = #[z]) (n : Nat) (hn : n ≤ 1000000000) (hb : bytes ≤ 1000) :
    ∃ w', (Instr.makeSlice T (.int .i64 n) (.int .i64 n)).run P w = .ok (.slice (some ⟨w.heap.size, 0, none⟩) n n) w' ∧ Rw w' E 1 w.heap.size n n (List.replicate n z) ∧ Below w.heap.size w w' := by
  obtain ⟨i, hi, hz0, hs, hb0⟩ := info_parts H.inf
  have hnb : n * i.bytes ≤ 1000000000 * 1000 := Nat.mul_le_mul hn (by rw [hb0]; exact hb)
  have hrun := run_make (P := P) w T E i z H.und hi hz0 .i64 .i64 (n : Int) (n : Int) (by omega) (by omega) (by
    rw [Int.mul_comm]
    have : (n : Int) * (i.bytes : Int) = ((n * i.bytes : Nat) : Int) := by rw [Int.natCast_mul]
    omega) (by omega)
  refine ⟨_, by simpa using hrun, ?_, below_alloc w _⟩
  rw [hs, Nat.mul_one, made_row n hz]
  exact blk_rw (blk_new w (List.replicate n z) E) (by simp) (by simp only [maxLen]; omega)
end Pg
end Go.Proofs.Ytplminnejheceaa
