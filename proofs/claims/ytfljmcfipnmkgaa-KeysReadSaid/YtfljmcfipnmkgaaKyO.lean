/- slices.Backward over bytes. -/
import Derived.Test.YtfljmcfipnmkgaaKyN
import Derived.Shelf.Abstract
import Derived.Shelf.RegionOpen
import Derived.OwnWalkIn
import Derived.TacticsInMore
import Derived.LoopNIn
import Derived.LoopIn
namespace Go.Proofs.Ytfljmcfipnmkgaa
namespace Ky
open Go.RowKit Go.Lib Pg
attribute [local go_sem] Oper.semAt_some
def ArBB (Q : List Int) (i : Nat) (args : Array Value) (_ : Nat) (_ : World) : Prop := ∃ p j, j + 1 + i = Q.length ∧ Q[j]? = some p ∧ args = #[.int .i64 (j : Int), .int .u8 p]
set_option maxHeartbeats 4000000 in
set_option maxRecDepth 100000 in
theorem backB_itr {Tp : TypeId → Prop} {bs n c : Nat} {ao : Option Addr} {Q : List Int} {Rd : World → Prop} (hn : Q.length = n) (hbig : n ≤ 1000000000)
    (hb : ∀ V, Rd V → V.cell? ⟨bs, 0, none⟩ = some (.slice ao n c) ∧ ∀ j p, Q[j]? = some p → ∃ b o, ao = some ⟨b, o, none⟩ ∧ V.cell? ⟨b, o + j, none⟩ = some (.int .u8 p)) :
    Itr Tp 43 #[.pointer (some ⟨bs, 0, none⟩)] n (ArBB Q) Rd := by
  intro l J Jx W hJ hJx hRd hY h0
  have cb := (hb W (hRd 0 W h0)).1
  have hb : Hid _ := hb
  have hn : Hid _ := hn
  have w0 : IntKind.i64.wrap ((n : Int) - 1) = (n : Int) - 1 := by rw [IntKind.wrap_i64]; omega
  refine (callsIn_wide (n := 0)).1 ?_
  refine callsIn_of_wp Try.func43 rfl trivial ?_ rfl
  simp only [Try.ntmps43, List.size_toArray, List.length_cons, List.length_nil, Nat.reduceAdd, Nat.reduceSub, Array.replicate_succ, Array.replicate_zero, List.push_toArray, List.append_toArray, List.nil_append, List.cons_append]
  gi_wp2
  gi_loopw [3] (fun ti wr => ∃ i : Nat, i ≤ n ∧ ti = .int .i64 ((n : Int) - 1 - (i : Int)) ∧ W.heap.size ≤ wr.heap.size ∧ J i wr) (fun ti _ => (intOf ti + 1).toNat)
  case atStart => exact ⟨0, Nat.zero_le _, by simp, Nat.le_refl _, h0⟩
  case round =>
    clear cb
    obtain ⟨i, hi, rfl, hsz, hJi⟩ := hrel
    obtain ⟨cb, hat⟩ := hb.out wr (hRd _ _ hJi)
    by_cases hlt : i < n
    · obtain ⟨j, hj⟩ : ∃ j, j + 1 + i = n := ⟨n - 1 - i, by omega⟩
      obtain ⟨p, hp⟩ : ∃ p, Q[j]? = some p := ⟨Q[j]'(by have := hn.out; omega), List.getElem?_eq_getElem _⟩
      obtain ⟨b, o, rfl, cP⟩ := hat j p hp
      have ej : (n : Int) - 1 - (i : Int) = (j : Int) := by omega
      have HI : Hid (j + 1 + i = n) := hj
      have hY1 := hY i _ wr wr hlt hJi hsz (Below.refl _ _) ⟨p, j, by rw [hn.out]; exact hj, hp, rfl⟩
      obtain ⟨fn, tmps, assign, body, hy, hR⟩ := hY1
      rw [ej]
      have w1 : IntKind.i64.wrap ((j : Int) - 1) = (j : Int) - 1 := by rw [IntKind.wrap_i64]; omega
      have z1 : (j : Int) < n := by omega
      clear hat ej hj
      gi_wp2
      refine ⟨rfl, hR.mono ?_⟩
      rintro e' W4 ⟨hk4, ⟨rfl, hJ4⟩ | ⟨rfl, hJ4⟩⟩
      · gi_wp2
        go_roundw
        case rel => exact ⟨i + 1, by omega, by have := HI.out; congr 1; omega, Nat.le_trans hsz hk4.size, hJ4⟩
        case measure => simp [intOf]
      · gi_wp2
        refine bodyPost_ret (results_none rfl _ _ _) rfl ?_
        exact ⟨⟨_, rfl⟩, Nat.le_trans hsz hk4.size, .inr ⟨i, hlt, hJ4⟩⟩
    · have hin : i = n := by omega
      have ej : (n : Int) - 1 - (i : Int) = -1 := by omega
      rw [ej]
      have HJ : Hid (J n wr) := by show J n wr; rw [← hin]; exact hJi
      clear hat ej hin hJi
      gi_wp2
      go_end0
      exact ⟨⟨_, rfl⟩, hsz, .inl HJ.out⟩
set_option maxHeartbeats 1000000 in
set_option maxRecDepth 100000 in
theorem backB_mk {w : World} {ao : Option Addr} {n c : Nat} : Calls Try.prog 38 #[.slice ao n c] w fun e w' => e = .returned (.func (.func 43) #[] #[.pointer (some ⟨w.heap.size, 0, none⟩)]) ∧ Blk w' w.heap.size [.slice ao n c] 26 ∧ Below w.heap.size w w' := by
  go_enter Try.func38, Try.ntmps38
  go_wp2
  go_ret
  exact ⟨rfl, blk_new w _ _, below_alloc w _⟩
end Ky
end Go.Proofs.Ytfljmcfipnmkgaa
