/- nat.Norm tells a new list: the same limbs without noughts at the end. nat.Of, nat.Small, nat.Bits. -/
import Derived.Test.YtjihgkanbhccpaaGreatDoorOwn
namespace Go.Proofs.YtjihgkanbhccpaaGreatDoor
open Go.RowKit Lim

theorem NewV.of {w w' : World} {l : List Int} {ao : Option Addr} {n c b o : Nat} (hn : n = l.length) (h1 : n ≤ c) (h2 : w.heap.size ≤ b) (h3 : At w' ao b o l) (h4 : Free w' b o n) : NewV w w' (.slice ao n c) l := by
  subst hn; exact ⟨ao, b, o, c, rfl, h1, h2, h3, h4⟩

set_option maxHeartbeats 1000000 in
set_option maxRecDepth 100000 in
theorem norm_any (ao : Option Addr) (n c b o : Nat) (l : List Int) (w : World) (hl : l.length = n) (hc : n ≤ c) (hbig : n ≤ 1099511627776) (ha : At w ao b o l) :
    Calls Tryz.prog 73 #[.slice ao n c] w fun e w' => e = .returned (.slice (some ⟨w.heap.size, 0, none⟩) (nlen l) (nlen l)) ∧ Row w' w.heap.size (norm l) ∧ Below w.heap.size w w' := by
  have hn := nlen_le l
  have t1 := trim_any ao n c l w hl hc (by omega) ha.cells
  have hs := ha.sub (nlen l)
  have hnl := norm_length l
  rw [show l.take (nlen l) = norm l from rfl] at hs
  generalize nlen l = N at *
  generalize norm l = L at *
  go_enter Tryz.func73, Tryz.ntmps73
  go_wp2_with fail
  refine t1.mono ?_
  rintro e w1 ⟨rfl, rfl⟩
  clear t1
  go_wp2_with (first
    | (at_make; refine wpList_makeN rfl _ _ rfl N _ _ rfl rfl rfl rfl (by omega) ?_; intro w2 hrow hbel hsz; have hs2 := hs.keep hbel)
    | (refine wpList_copyN rfl (.tmp 10) (.tmp 11) rfl _ _ _ _ _ _ rfl rfl _ _ hrow (by simp) _ _ hnl (Nat.le_refl _) hs2 ?_; intro w3 hrow3 hwr))
  go_ret
  refine ⟨rfl, ?_, ?_⟩
  · simpa using hrow3
  · exact hbel.trans (hwr.below (Nat.le_refl _))
end Go.Proofs.YtjihgkanbhccpaaGreatDoor
