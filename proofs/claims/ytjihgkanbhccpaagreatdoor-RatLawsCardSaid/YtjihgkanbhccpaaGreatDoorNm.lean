/- Numbers in memory, told by their values: the contracts of package nat once more, in fewer words. -/
import Derived.Test.YtjihgkanbhccpaaGreatDoorDivM
import Derived.Test.YtjihgkanbhccpaaGreatDoorPow
import Derived.Test.YtjihgkanbhccpaaGreatDoorFromB
import Derived.Test.YtjihgkanbhccpaaGreatDoorParse
import Derived.Test.YtjihgkanbhccpaaGreatDoorHelp
import Derived.OneCell
namespace Go.Proofs.YtjihgkanbhccpaaGreatDoor
open Go.RowKit Lim

/-- limbs worth x lie at ao -/
structure NatA (w : World) (ao : Option Addr) (n c : Nat) (x : Int) : Prop where
  ex : ∃ b o l, l.length = n ∧ n ≤ c ∧ Words l ∧ At w ao b o l ∧ val l = x
/-- the normal list of x lies at ao -/
structure NatO (w : World) (ao : Option Addr) (n c : Nat) (x : Int) : Prop where
  ex : ∃ b o l, l.length = n ∧ n ≤ c ∧ IsN l x ∧ At w ao b o l
theorem NatO.a {w : World} {ao : Option Addr} {n c : Nat} {x : Int} (h : NatO w ao n c x) : NatA w ao n c x := by
  obtain ⟨b, o, l, h1, h2, h3, h4⟩ := h.ex
  exact ⟨b, o, l, h1, h2, h3.1, h4, h3.2.2⟩
theorem NatA.keep {w w' : World} {ao : Option Addr} {n c : Nat} {x : Int} (h : NatA w ao n c x) (hb : Below w.heap.size w w') : NatA w' ao n c x := by
  obtain ⟨b, o, l, h1, h2, h3, h4, h5⟩ := h.ex
  exact ⟨b, o, l, h1, h2, h3, h4.keep hb, h5⟩
theorem NatO.keep {w w' : World} {ao : Option Addr} {n c : Nat} {x : Int} (h : NatO w ao n c x) (hb : Below w.heap.size w w') : NatO w' ao n c x := by
  obtain ⟨b, o, l, h1, h2, h3, h4⟩ := h.ex
  exact ⟨b, o, l, h1, h2, h3, h4.keep hb⟩
theorem NatA.nonneg {w : World} {ao : Option Addr} {n c : Nat} {x : Int} (h : NatA w ao n c x) : 0 ≤ x := by
  obtain ⟨b, o, l, h1, h2, h3, h4, h5⟩ := h.ex
  rw [← h5]; exact val_nonneg h3
theorem NatO.zero_iff {w : World} {ao : Option Addr} {n c : Nat} {x : Int} (h : NatO w ao n c x) : n = 0 ↔ x = 0 := by
  obtain ⟨b, o, l, h1, h2, h3, h4⟩ := h.ex
  rw [← h3.2.2, ← nlen_eq_zero_iff_val h3.1, h3.2.1, h1]
theorem NatO.eqv {w : World} {ao : Option Addr} {n c : Nat} {x y : Int} (h : NatO w ao n c x) (e : x = y) : NatO w ao n c y := e ▸ h
theorem NatA.eqv {w : World} {ao : Option Addr} {n c : Nat} {x y : Int} (h : NatA w ao n c x) (e : x = y) : NatA w ao n c y := e ▸ h
theorem natO_nil (w : World) : NatO w none 0 0 0 := ⟨0, 0, [], rfl, Nat.le_refl _, isN_nil, .inl rfl, fun i hi => by simp at hi⟩
theorem NewV.o {w w' : World} {v : Value} {r : List Int} {x : Int} (h : NewV w w' v r) (hI : IsN r x) : ∃ a c, v = .slice a r.length c ∧ NatO w' a r.length c x := by
  obtain ⟨ao, b, o, c, e, h1, h2, h3, h4⟩ := h.is
  exact ⟨ao, c, e, b, o, r, rfl, h1, hI, h3⟩
theorem joinB {w wa w' : World} (b : Below w.heap.size w wa) (h : Below wa.heap.size wa w') : Below w.heap.size w w' := b.trans (h.mono b.size)

theorem nAdd {w : World} {ao ao' : Option Addr} {n c n' c' : Nat} {x y : Int} (h : NatA w ao n c x) (h' : NatA w ao' n' c' y) (hn : n ≤ 1099511627776) (hn' : n' ≤ 1099511627776) :
    Calls Tryz.prog 22 #[.slice ao n c, .slice ao' n' c'] w fun e w' => ∃ a k d, e = .returned (.slice a k d) ∧ NatO w' a k d (x + y) ∧ k ≤ n + n' + 1 ∧ Below w.heap.size w w' := by
  obtain ⟨b, o, l, h1, h2, h3, h4, rfl⟩ := h.ex
  obtain ⟨b', o', l', h1', h2', h3', h4', rfl⟩ := h'.ex
  refine (add_any ao n c b o ao' n' c' b' o' l l' w h1 h1' h2 h2' hn hn' h3 h3' h4 h4').mono ?_
  rintro e w' ⟨v, r, rfl, hnw, hI, hlen, hB⟩
  obtain ⟨a, d, rfl, hO⟩ := hnw.o hI
  exact ⟨a, _, d, rfl, hO, hlen, hB⟩
theorem nMul {w : World} {ao ao' : Option Addr} {n c n' c' : Nat} {x y : Int} (h : NatA w ao n c x) (h' : NatA w ao' n' c' y) (hn : n ≤ 1099511627776) (hn' : n' ≤ 1099511627776) :
    Calls Tryz.prog 82 #[.slice ao n c, .slice ao' n' c'] w fun e w' => ∃ a k d, e = .returned (.slice a k d) ∧ NatO w' a k d (x * y) ∧ k ≤ n + n' ∧ Below w.heap.size w w' := by
  obtain ⟨b, o, l, h1, h2, h3, h4, rfl⟩ := h.ex
  obtain ⟨b', o', l', h1', h2', h3', h4', rfl⟩ := h'.ex
  refine (mul_any ao n c b o ao' n' c' b' o' l l' w h1 h1' h2 h2' hn hn' h3 h3' h4 h4').mono ?_
  rintro e w' ⟨v, r, rfl, hnw, hI, hlen, hB⟩
  obtain ⟨a, d, rfl, hO⟩ := hnw.o hI
  exact ⟨a, _, d, rfl, hO, hlen, hB⟩
theorem nCmp {w : World} {ao ao' : Option Addr} {n c n' c' : Nat} {x y : Int} (h : NatA w ao n c x) (h' : NatA w ao' n' c' y) (hn : n ≤ 1099511627776) (hn' : n' ≤ 1099511627776) :
    Calls Tryz.prog 81 #[.slice ao n c, .slice ao' n' c'] w fun e w' => e = .returned (.int .i64 (sgn x y)) ∧ Below w.heap.size w w' := by
  obtain ⟨b, o, l, h1, h2, h3, h4, rfl⟩ := h.ex
  obtain ⟨b', o', l', h1', h2', h3', h4', rfl⟩ := h'.ex
  exact cmp_any ao n c b o ao' n' c' b' o' l l' w h1 h1' h2 h2' hn hn' h3 h3' h4 h4'
theorem nSub {w : World} {ao ao' : Option Addr} {n c n' c' : Nat} {x y : Int} (h : NatA w ao n c x) (h' : NatA w ao' n' c' y) (hn : n ≤ 1099511627776) (hn' : n' ≤ 1099511627776) (hge : y ≤ x) :
    Calls Tryz.prog 90 #[.slice ao n c, .slice ao' n' c'] w fun e w' => ∃ a k d, e = .returned (.tuple #[.slice a k d, .int .i64 0]) ∧ NatO w' a k d (x - y) ∧ k ≤ n + n' ∧ Below w.heap.size w w' := by
  obtain ⟨b, o, l, h1, h2, h3, h4, rfl⟩ := h.ex
  obtain ⟨b', o', l', h1', h2', h3', h4', rfl⟩ := h'.ex
  refine (sub_ge ao n c b o ao' n' c' b' o' l l' w h1 h1' h2 h2' hn hn' h3 h3' h4 h4' hge).mono ?_
  rintro e w' ⟨v, r, rfl, hnw, hI, hlen, hB⟩
  obtain ⟨a, d, rfl, hO⟩ := hnw.o hI
  exact ⟨a, _, d, rfl, hO, by omega, hB⟩
theorem nSubLt {w : World} {ao ao' : Option Addr} {n c n' c' : Nat} {x y : Int} (h : NatA w ao n c x) (h' : NatA w ao' n' c' y) (hn : n ≤ 1099511627776) (hn' : n' ≤ 1099511627776) (hlt : x < y) :
    Calls Tryz.prog 90 #[.slice ao n c, .slice ao' n' c'] w fun e w' => e = .returned (.tuple #[.slice none 0 0, .int .i64 10]) ∧ Below w.heap.size w w' := by
  obtain ⟨b, o, l, h1, h2, h3, h4, rfl⟩ := h.ex
  obtain ⟨b', o', l', h1', h2', h3', h4', rfl⟩ := h'.ex
  exact sub_lt ao n c b o ao' n' c' b' o' l l' w h1 h1' h2 h2' hn hn' h3 h3' h4 h4' hlt
theorem nDiv {w : World} {ao ao' : Option Addr} {n c n' c' : Nat} {x y : Int} (h : NatA w ao n c x) (h' : NatA w ao' n' c' y) (hn : n ≤ 1099511627776) (hn' : n' ≤ 1099511627776) (hne : y ≠ 0) :
    Calls Tryz.prog 110 #[.slice ao n c, .slice ao' n' c'] w fun e w' => ∃ a k d a' k' d', e = .returned (.tuple #[.slice a k d, .slice a' k' d', .int .i64 0]) ∧ NatO w' a k d (x / y) ∧ NatO w' a' k' d' (x % y) ∧ k ≤ n ∧ k' ≤ n + n' ∧ Below w.heap.size w w' := by
  obtain ⟨b, o, l, h1, h2, h3, h4, rfl⟩ := h.ex
  obtain ⟨b', o', l', h1', h2', h3', h4', rfl⟩ := h'.ex
  refine (div_any ao n c b o ao' n' c' b' o' l l' w h1 h1' h2 h2' hn hn' h3 h3' h4 h4' hne).mono ?_
  rintro e w' ⟨v, u, r, s, rfl, hnw, hnu, hI, hJ, hlr, hls, hB⟩
  obtain ⟨a, d, rfl, hO⟩ := hnw.o hI
  obtain ⟨a', d', rfl, hO'⟩ := hnu.o hJ
  exact ⟨a, _, d, a', _, d', rfl, hO, hO', hlr, hls, hB⟩
theorem nDivZero {w : World} {v : Value} {ao' : Option Addr} {n' c' : Nat} {y : Int} (h' : NatA w ao' n' c' y) (hn' : n' ≤ 1099511627776) (hz : y = 0) :
    Calls Tryz.prog 110 #[v, .slice ao' n' c'] w fun e w' => e = .returned (.tuple #[.slice none 0 0, .slice none 0 0, .int .i64 11]) ∧ w' = w := by
  obtain ⟨b', o', l', h1', h2', h3', h4', rfl⟩ := h'.ex
  exact div_zero v ao' n' c' b' o' l' w h1' h2' hn' h3' h4' hz
theorem nMulDiv {w : World} {ao ao' ad : Option Addr} {n c n' c' nd cd : Nat} {x y z : Int} (h : NatA w ao n c x) (h' : NatA w ao' n' c' y) (hd : NatA w ad nd cd z) (hn : n ≤ 274877906944) (hn' : n' ≤ 274877906944) (hnd : nd ≤ 274877906944) (hne : z ≠ 0) :
    Calls Tryz.prog 129 #[.slice ao n c, .slice ao' n' c', .slice ad nd cd] w fun e w' => ∃ a k d a' k' d', e = .returned (.tuple #[.slice a k d, .slice a' k' d', .int .i64 0]) ∧ NatO w' a k d (x * y / z) ∧ NatO w' a' k' d' (x * y % z) ∧ k ≤ n + n' ∧ k' ≤ n + n' + nd ∧ Below w.heap.size w w' := by
  obtain ⟨b, o, l, h1, h2, h3, h4, rfl⟩ := h.ex
  obtain ⟨b', o', l', h1', h2', h3', h4', rfl⟩ := h'.ex
  obtain ⟨bd, od, ld, h1d, h2d, h3d, h4d, rfl⟩ := hd.ex
  refine (muldiv_any ao n c b o ao' n' c' b' o' ad nd cd bd od l l' ld w h1 h1' h1d h2 h2' h2d hn hn' hnd h3 h3' h3d h4 h4' h4d hne).mono ?_
  rintro e w' ⟨v, u, r, s, rfl, hnw, hnu, hI, hJ, hlr, hls, hB⟩
  obtain ⟨a, d, rfl, hO⟩ := hnw.o hI
  obtain ⟨a', d', rfl, hO'⟩ := hnu.o hJ
  exact ⟨a, _, d, a', _, d', rfl, hO, hO', hlr, hls, hB⟩
theorem nMulDivZero {w : World} {ao ao' ad : Option Addr} {n c n' c' nd cd : Nat} {x y z : Int} (h : NatA w ao n c x) (h' : NatA w ao' n' c' y) (hd : NatA w ad nd cd z) (hn : n ≤ 274877906944) (hn' : n' ≤ 274877906944) (hnd : nd ≤ 274877906944) (hz : z = 0) :
    Calls Tryz.prog 129 #[.slice ao n c, .slice ao' n' c', .slice ad nd cd] w fun e w' => e = .returned (.tuple #[.slice none 0 0, .slice none 0 0, .int .i64 11]) ∧ Below w.heap.size w w' := by
  go_enter Tryz.func129, Tryz.ntmps129
  go_wp2_with fail
  refine (nMul h h' (by omega) (by omega)).mono ?_
  rintro e w1 ⟨a, k, d, rfl, hO, hk, hB⟩
  go_wp2_with fail
  refine (nDivZero (hd.keep hB) (by omega) hz).mono ?_
  rintro e w2 ⟨rfl, rfl⟩
  go_wp2
  go_ret3
  exact ⟨rfl, hB⟩
theorem nOf {w : World} {x : Int} (h0 : 0 ≤ x) (h1 : x < 18446744073709551616) :
    Calls Tryz.prog 23 #[.int .u64 x] w fun e w' => ∃ a k d, e = .returned (.slice a k d) ∧ NatO w' a k d x ∧ k ≤ 1 ∧ Below w.heap.size w w' := by
  refine (of_any x w h0 h1).mono ?_
  rintro e w' ⟨v, r, rfl, hnw, hI, hlen, hB⟩
  obtain ⟨a, d, rfl, hO⟩ := hnw.o hI
  exact ⟨a, _, d, rfl, hO, hlen, hB⟩
theorem nNorm {w : World} {ao : Option Addr} {n c : Nat} {x : Int} (h : NatA w ao n c x) (hn : n ≤ 1099511627776) :
    Calls Tryz.prog 73 #[.slice ao n c] w fun e w' => ∃ a k d, e = .returned (.slice a k d) ∧ NatO w' a k d x ∧ k ≤ n ∧ Below w.heap.size w w' := by
  obtain ⟨b, o, l, h1, h2, h3, h4, rfl⟩ := h.ex
  refine (norm_any ao n c b o l w h1 h2 hn h4).mono ?_
  rintro e w' ⟨rfl, hrow, hB⟩
  exact ⟨_, _, _, rfl, ⟨_, _, norm l, norm_length l, Nat.le_refl _, isN_norm h3, hrow.at⟩, by have := nlen_le l; omega, hB⟩
theorem nBits {w : World} {ao : Option Addr} {n c : Nat} {x : Int} (h : NatA w ao n c x) (hn : n ≤ 1099511627776) :
    Calls Tryz.prog 86 #[.slice ao n c] w fun e w' => e = .returned (.int .i64 (bitLen x.toNat)) ∧ Below w.heap.size w w' := by
  obtain ⟨b, o, l, h1, h2, h3, h4, rfl⟩ := h.ex
  exact bits_any ao n c b o l w h1 h2 hn h3 h4
theorem nPow {w : World} (n : Nat) (hn : n ≤ 4096) :
    Calls Tryz.prog 168 #[.int .i64 n] w fun e w' => ∃ a k d, e = .returned (.tuple #[.slice a k d, .int .i64 0]) ∧ NatO w' a k d (10 ^ n) ∧ k ≤ n + 2 ∧ Below w.heap.size w w' := by
  refine (pow10_any n w hn).mono ?_
  rintro e w' ⟨v, r, rfl, hnw, hI, hlen, hB⟩
  obtain ⟨a, d, rfl, hO⟩ := hnw.o hI
  exact ⟨a, _, d, rfl, hO, hlen, hB⟩
theorem nSame {w : World} {ao ao' : Option Addr} {n c n' c' : Nat} {x y : Int} (h : NatO w ao n c x) (h' : NatO w ao' n' c' y) (hn : n ≤ 4398046511104) (hn' : n' ≤ 4398046511104) :
    Calls Tryz.prog 42 #[.slice ao n c, .slice ao' n' c'] w fun e w' => e = .returned (.bool (decide (x = y))) ∧ Below w.heap.size w w' := by
  obtain ⟨b, o, l, h1, h2, h3, h4⟩ := h.ex
  obtain ⟨b', o', l', h1', h2', h3', h4'⟩ := h'.ex
  have t := helpNat ao n c b o ao' n' c' b' o' l l' w h1 h1' hn hn' h4 h4'
  have e : eqB l l' = decide (x = y) := by
    unfold eqB
    by_cases k : x = y
    · rw [decide_eq_true k, decide_eq_true (isN_unique h3 (k ▸ h3'))]
    · rw [decide_eq_false k, decide_eq_false (fun q => k (by rw [← h3.2.2, ← h3'.2.2, q]))]
  rw [e] at t
  exact t
theorem bitLen_zero (x : Int) (hx : 0 ≤ x) : (bitLen x.toNat = 0) ↔ x = 0 := by
  constructor
  · intro h
    by_cases e : x.toNat = 0
    · omega
    · have := bitLen_pos e; omega
  · intro h; subst h; rfl
/-- block g is a variable of one cell that holds v -/
structure Slot (w : World) (g : Nat) (v : Value) (t : TypeId) : Prop where
  blk : w.heap[g]? = some (.cells #[v] t (0, 0))
theorem Slot.cell {w : World} {g : Nat} {v : Value} {t : TypeId} (h : Slot w g v t) : w.cell? ⟨g, 0, none⟩ = some v := cell_of_one h.blk
theorem Slot.free {w : World} {g : Nat} {v : Value} {t : TypeId} (h : Slot w g v t) : w.frozen? ⟨g, 0, none⟩ = false := free_of_one h.blk
theorem Slot.lt {w : World} {g : Nat} {v : Value} {t : TypeId} (h : Slot w g v t) : g < w.heap.size := lt_of_block h.blk
theorem Slot.keep {w w' : World} {g : Nat} {v : Value} {t : TypeId} (h : Slot w g v t) (hb : Below w.heap.size w w') : Slot w' g v t := ⟨by rw [hb.block g h.lt]; exact h.blk⟩
theorem Slot.put {w : World} {g : Nat} {v : Value} {t : TypeId} (h : Slot w g v t) (u : Value) : Slot (w.setCell ⟨g, 0, none⟩ u) g u t := ⟨one_setCell h.blk⟩
theorem Slot.other {w : World} {g g' : Nat} {v : Value} {t : TypeId} (h : Slot w g v t) (hne : g ≠ g') (u : Value) : Slot (w.setCell ⟨g', 0, none⟩ u) g v t := ⟨by rw [Below.heap_setCell w _ u g hne]; exact h.blk⟩
theorem slot_new (w : World) (v : Value) (t : TypeId) : Slot (w.alloc (.cells #[v] t)) w.heap.size v t := ⟨by
  show (w.heap.push _)[w.heap.size]? = _
  rw [Array.getElem?_push_size]⟩
theorem Slot.alloc {w : World} {g : Nat} {v : Value} {t : TypeId} (h : Slot w g v t) (o : Obj) : Slot (w.alloc o) g v t := h.keep (below_alloc w o)
theorem slot_last2 (w : World) (o : Obj) (v : Value) (t : TypeId) : Slot ((w.alloc o).alloc (.cells #[v] t)) (w.heap.size + 1) v t := by
  have := slot_new (w.alloc o) v t
  rwa [show (w.alloc o).heap.size = w.heap.size + 1 by simp] at this
theorem slot_last3 (w : World) (o o' : Obj) (v : Value) (t : TypeId) : Slot (((w.alloc o).alloc o').alloc (.cells #[v] t)) (w.heap.size + 1 + 1) v t := by
  have := slot_last2 (w.alloc o) o' v t
  rwa [show (w.alloc o).heap.size = w.heap.size + 1 by simp] at this
theorem slot_last4 (w : World) (o o' o'' : Obj) (v : Value) (t : TypeId) : Slot ((((w.alloc o).alloc o').alloc o'').alloc (.cells #[v] t)) (w.heap.size + 1 + 1 + 1) v t := by
  have := slot_last3 (w.alloc o) o' o'' v t
  rwa [show (w.alloc o).heap.size = w.heap.size + 1 by simp] at this
theorem below2 (w : World) (o o' : Obj) : Below w.heap.size w ((w.alloc o).alloc o') := joinB (below_alloc w o) (below_alloc _ o')
theorem below3 (w : World) (o o' o'' : Obj) : Below w.heap.size w (((w.alloc o).alloc o').alloc o'') := joinB (below2 w o o') (below_alloc _ o'')
theorem below4 (w : World) (o o' o'' o3 : Obj) : Below w.heap.size w ((((w.alloc o).alloc o').alloc o'').alloc o3) := joinB (below3 w o o' o'') (below_alloc _ o3)
/-- what is stored into a variable that held a list's words turns no limb -/
theorem At.put {w : World} {ao : Option Addr} {b o g : Nat} {l : List Int} (k : At w ao b o l) {v : Value} {t : TypeId} (s : Slot w g v t) (hv : ∀ x, v ≠ .int .u64 x) (u : Value) : At (w.setCell ⟨g, 0, none⟩ u) ao b o l :=
  ⟨k.loc, fun i hi => by
    have hc := k.cell i hi
    by_cases e : b = g
    · subst e
      have h0 : o + i = 0 → False := fun e0 => by
        rw [e0, s.cell] at hc
        exact hv _ (Option.some.inj hc)
      have hs := s.blk
      simp only [World.cell?, hs] at hc
      have : o + i < 1 := by
        have := (Array.getElem?_eq_some_iff.1 hc).1
        simpa using this
      exact (h0 (by omega)).elim
    · rw [World.cell?_of_block (w := w) (Below.heap_setCell w _ u b e)]; exact hc⟩
theorem NatO.put {w : World} {ao : Option Addr} {n c g : Nat} {x : Int} (h : NatO w ao n c x) {v : Value} {t : TypeId} (s : Slot w g v t) (hv : ∀ x, v ≠ .int .u64 x) (u : Value) : NatO (w.setCell ⟨g, 0, none⟩ u) ao n c x := by
  obtain ⟨b, o, l, h1, h2, h3, h4⟩ := h.ex
  exact ⟨b, o, l, h1, h2, h3, h4.put s hv u⟩
theorem NatA.put {w : World} {ao : Option Addr} {n c g : Nat} {x : Int} (h : NatA w ao n c x) {v : Value} {t : TypeId} (s : Slot w g v t) (hv : ∀ x, v ≠ .int .u64 x) (u : Value) : NatA (w.setCell ⟨g, 0, none⟩ u) ao n c x := by
  obtain ⟨b, o, l, h1, h2, h3, h4, h5⟩ := h.ex
  exact ⟨b, o, l, h1, h2, h3, h4.put s hv u, h5⟩
theorem not_int {ao : Option Addr} {n c : Nat} : ∀ x, Value.slice ao n c ≠ .int .u64 x := fun _ h => by cases h
/-- behind a call made among new blocks, one of them stored: nothing old is changed -/
theorem belowPut {w W w1 : World} (b : Below w.heap.size w W) (h : Below W.heap.size W w1) {g : Nat} (hg : w.heap.size ≤ g) (u : Value) : Below w.heap.size w (w1.setCell ⟨g, 0, none⟩ u) := (joinB b h).setCell hg u
theorem Slot.drew {w : World} {g : Nat} {v : Value} {t : TypeId} (h : Slot w g v t) : Slot w.drew g v t := ⟨h.blk⟩
theorem NatA.drew {w : World} {ao : Option Addr} {n c : Nat} {x : Int} (h : NatA w ao n c x) : NatA w.drew ao n c x := by
  obtain ⟨b, o, l, h1, h2, h3, h4, h5⟩ := h.ex
  exact ⟨b, o, l, h1, h2, h3, h4.drew, h5⟩
theorem NatO.drew {w : World} {ao : Option Addr} {n c : Nat} {x : Int} (h : NatO w ao n c x) : NatO w.drew ao n c x := by
  obtain ⟨b, o, l, h1, h2, h3, h4⟩ := h.ex
  exact ⟨b, o, l, h1, h2, h3, h4.drew⟩
theorem info_dec : (Tryz.prog.info? 46).map (·.size) = some 1 := by kernel_rfl
theorem under_dec : ∃ f, Tryz.prog.underlying 46 = some (.struct f) := by
  cases h : Tryz.prog.underlying 46 with
  | none => exact absurd h (by have : (Tryz.prog.underlying 46).isSome = true := by kernel_rfl
                               intro e; rw [e] at this; simp at this)
  | some d =>
    have : (match Tryz.prog.underlying 46 with | some (.struct _) => true | _ => false) = true := by kernel_rfl
    rw [h] at this
    cases d <;> first | exact ⟨_, rfl⟩ | simp at this
theorem load_dec {w : World} {g : Nat} {v : Value} {t : TypeId} (s : Slot w g v t) : (loadVar 46 ⟨g, 0, none⟩).run Tryz.prog w = .ok (.agg #[v]) w := by
  obtain ⟨f, hu⟩ := under_dec
  exact run_loadVar_row w g t 46 #[v] (0, 0) _ s.blk hu rfl info_dec
theorem ret_dec {fn : Func} {p : Tmp} (h : fn.results = #[.cell p 46]) {tmps : Array Value} {w : World} {g : Nat} {v : Value} {t : TypeId} (hp : tmps.getD p undef = .pointer (some ⟨g, 0, none⟩)) (s : Slot w g v t) :
    (results fn tmps).run Tryz.prog w = .ok (.agg #[v]) w := by
  have hp' : tmps[p]?.getD undef = .pointer (some ⟨g, 0, none⟩) := by simpa using hp
  simp [results, h, hp', asAddr, load_dec s]
theorem ret_dec_tmp {fn : Func} {p u : Tmp} (h : fn.results = #[.cell p 46, .tmp u]) {tmps : Array Value} {w : World} {g : Nat} {v x : Value} {t : TypeId} (hp : tmps.getD p undef = .pointer (some ⟨g, 0, none⟩)) (hu : tmps.getD u undef = x) (s : Slot w g v t) :
    (results fn tmps).run Tryz.prog w = .ok (.tuple #[.agg #[v], x]) w := by
  have hp' : tmps[p]?.getD undef = .pointer (some ⟨g, 0, none⟩) := by simpa using hp
  have hu' : tmps[u]?.getD undef = x := by simpa using hu
  simp [results, h, hp', hu', asAddr, load_dec s]
theorem ret_tmp_dec {fn : Func} {p u : Tmp} (h : fn.results = #[.tmp u, .cell p 46]) {tmps : Array Value} {w : World} {g : Nat} {v x : Value} {t : TypeId} (hp : tmps.getD p undef = .pointer (some ⟨g, 0, none⟩)) (hu : tmps.getD u undef = x) (s : Slot w g v t) :
    (results fn tmps).run Tryz.prog w = .ok (.tuple #[x, .agg #[v]]) w := by
  have hp' : tmps[p]?.getD undef = .pointer (some ⟨g, 0, none⟩) := by simpa using hp
  have hu' : tmps[u]?.getD undef = x := by simpa using hu
  simp [results, h, hp', hu', asAddr, load_dec s]
end Go.Proofs.YtjihgkanbhccpaaGreatDoor
