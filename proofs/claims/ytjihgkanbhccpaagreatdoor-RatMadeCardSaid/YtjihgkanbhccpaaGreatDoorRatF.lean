/- Package rat: rat.Of's answer lies in memory of its own. -/
import Derived.Test.YtjihgkanbhccpaaGreatDoorJxb
import Derived.Test.YtjihgkanbhccpaaGreatDoorJya
namespace Go.Proofs.YtjihgkanbhccpaaGreatDoor
open Go.RowKit Lim

theorem NatN.mono {w : World} {B T B' T' : Nat} {ao : Option Addr} {n c : Nat} {x : Int} (h : NatN w B T ao n c x) (hB : B' ≤ B) (hT : T ≤ T') : NatN w B' T' ao n c x := by
  obtain ⟨b, o, l, h1, h2, h3, h4, h5, h6⟩ := h.ex
  refine ⟨b, o, l, h1, h2, h3, h4, h5, ?_⟩
  rcases h6 with e | e
  · exact .inl e
  · exact .inr (by omega)
theorem Free.blk {w w' : World} {ao : Option Addr} {b o g n : Nat} {l : List Int} (k : At w ao b o l) (hl : l.length = n) (hf : Free w b o n) {cs : List Value} {t : TypeId} (s : Box w g cs t) (hv : ∀ v ∈ cs, ∀ x, v ≠ .int .u64 x) (hw : ∀ k, k ≠ g → w'.heap[k]? = w.heap[k]?) : Free w' b o n := fun i hi => by
  have hc := k.cell i (by omega)
  by_cases e : b = g
  · subst e
    simp only [World.cell?, s.blk] at hc
    have h1 : cs.toArray[o + i]? = some (.int .u64 (nth l i)) := by simpa using hc
    rw [List.getElem?_toArray] at h1
    exact absurd rfl (hv _ (List.mem_of_getElem? h1) _)
  · rw [World.frozen?_of_block (w := w) (hw b e)]; exact hf i hi
theorem NatN.put2 {w : World} {B T : Nat} {ao : Option Addr} {n c g : Nat} {x : Int} (h : NatN w B T ao n c x) {a b : Option Addr} {i j m d : Nat} {t : TypeId} (s : Box w g [.slice a i j, .slice b m d] t) (u v : Value) : NatN ((w.setCell ⟨g, 0, none⟩ u).setCell ⟨g, 1, none⟩ v) B T ao n c x := by
  obtain ⟨b, o, l, h1, h2, h3, h4, h5, h6⟩ := h.ex
  exact ⟨b, o, l, h1, h2, h3, h4.blk s (no_ints2 _ _ _ _ _ _) (fun k hk => set2_other w g u v k hk), Free.blk h4 h1 h5 s (no_ints2 _ _ _ _ _ _) (fun k hk => set2_other w g u v k hk), h6⟩
theorem NatN.drew {w : World} {B T : Nat} {ao : Option Addr} {n c : Nat} {x : Int} (h : NatN w B T ao n c x) : NatN w.drew B T ao n c x := by
  obtain ⟨b, o, l, h1, h2, h3, h4, h5, h6⟩ := h.ex
  exact ⟨b, o, l, h1, h2, h3, h4.drew, h5.drew, h6⟩
theorem WdN.drew {w : World} {B T : Nat} {ao : Option Addr} {n c : Nat} (h : WdN w B T ao n c) : WdN w.drew B T ao n c := by
  obtain ⟨b, o, l, h1, h2, h3, h4, h5, h6⟩ := h.ex
  exact ⟨b, o, l, h1, h2, h3, h4.drew, h5.drew, h6⟩
theorem LimA.drew {w : World} {ao : Option Addr} {n c : Nat} {l : List Int} (h : LimA w ao n c l) : LimA w.drew ao n c l := by
  obtain ⟨b, o, h1, h2, h3, h4⟩ := h.ex
  exact ⟨b, o, h1, h2, h3, h4.drew⟩
theorem Box.turn {B T : Nat} {w w' : World} {g : Nat} {cs : List Value} {t : TypeId} (h : Box w g cs t) (k : TurnW B T w w') (hg : g < B ∨ T ≤ g) : Box w' g cs t := ⟨by rw [k.t.block g hg]; exact h.blk⟩
theorem size_put2 (w : World) (g : Nat) (u v : Value) : ((w.setCell ⟨g, 0, none⟩ u).setCell ⟨g, 1, none⟩ v).heap.size = w.heap.size := by
  simp [World.setCell]
set_option maxHeartbeats 1000000 in
set_option maxRecDepth 100000 in
theorem qQuotF {w : World} {ao ao' : Option Addr} {n c n' c' : Nat} {x y : Int} (h : NatA w ao n c x) (h' : NatA w ao' n' c' y) (hn : n ≤ 1099511627776) (hn' : n' ≤ 1099511627776) (hne : y ≠ 0) :
    Calls Tryz.prog 83 #[.slice ao n c, .slice ao' n' c'] w fun e w' => ∃ a k d, e = .returned (.slice a k d) ∧ NatN w' w.heap.size w'.heap.size a k d (x / y) ∧ k ≤ n ∧ Below w.heap.size w w' := by
  have t := fDiv h h' hn hn'
  have e0 : divE y = 0 := by unfold divE; rw [if_neg hne]
  rw [e0] at t
  clear e0
  go_enter Tryz.func83, Tryz.ntmps83
  go_wp2_with fail
  refine t.mono ?_
  rintro e w1 ⟨a, k, d, a', k', d', rfl, O1, O2, hk, hk', hB⟩
  clear t O2
  go_wp2
  go_ret
  exact ⟨a, k, d, rfl, O1, hk, hB⟩
set_option maxHeartbeats 1000000 in
set_option maxRecDepth 100000 in
theorem qReducedF {w : World} {ao ao' : Option Addr} {n c n' c' : Nat} {x y : Int} (h : NatA w ao n c x) (h' : NatA w ao' n' c' y) (hn : n ≤ 274877906944) (hn' : n' ≤ 274877906944) (hne : y ≠ 0) :
    Calls Tryz.prog 87 #[.slice ao n c, .slice ao' n' c'] w fun e w' => ∃ a k d a' k' d', e = .returned (.agg #[.slice a k d, .slice a' k' d']) ∧ NatN w' w.heap.size w'.heap.size a k d (x / (Int.gcd x y : Nat)) ∧ NatN w' w.heap.size w'.heap.size a' k' d' (y / (Int.gcd x y : Nat)) ∧ k ≤ n ∧ k' ≤ n' ∧ Below w.heap.size w w' := by
  have hg : ((Int.gcd x y : Nat) : Int) ≠ 0 := fun e => hne (Int.gcd_eq_zero_iff (a := x) (b := y) |>.1 (by omega)).2
  have HG := (show Hid _ from hg)
  clear hg
  have B0 := below_alloc w (.cells #[.slice none 0 0, .slice none 0 0] 30)
  have S0 := box_new w [.slice none 0 0, .slice none 0 0] 30
  replace h := h.keep B0
  replace h' := h'.keep B0
  go_enter Tryz.func87, Tryz.ntmps87
  go_wp2_with fail
  refine (nGcd h h' hn hn').mono ?_
  rintro e w1 ⟨ag, kg, dg, rfl, OG, hkg, hB⟩
  replace h := h.keep hB
  replace h' := h'.keep hB
  replace S0 := S0.keep hB
  replace B0 := joinB B0 hB
  clear hB
  go_wp2_with fail
  refine (qQuotF h OG.a (by omega) (by omega) HG.out).mono ?_
  rintro e w2 ⟨a, k, d, rfl, O1, hk, hB⟩
  have z1 := B0.size
  have z2 := hB.size
  replace h' := h'.keep hB
  replace OG := OG.keep hB
  replace S0 := S0.keep hB
  replace B0 := joinB B0 hB
  clear hB
  go_wp2_with fail
  refine (qQuotF h' OG.a (by omega) (by omega) HG.out).mono ?_
  rintro e w3 ⟨a', k', d', rfl, O2, hk', hB⟩
  have z3 := hB.size
  replace O1 := O1.keep hB
  replace S0 := S0.keep hB
  replace B0 := joinB B0 hB
  obtain ⟨c1, c2, f1, f2⟩ := S0.cells2
  have S2 := S0.put2 (.slice a k d) (.slice a' k' d')
  have P1 := O1.put2 S0 (.slice a k d) (.slice a' k' d')
  have P2 := O2.put2 S0 (.slice a k d) (.slice a' k' d')
  have HB := below_put2 B0 (Nat.le_refl _) (.slice a k d) (.slice a' k' d')
  clear hB h h' O1 O2 OG S0 B0
  go_wp2
  refine bodyPost_ret (ret_rat rfl rfl S2) rfl ?_
  exact ⟨a, k, d, a', k', d', rfl, P1.mono (by omega) (by rw [size_put2]; omega), P2.mono (by omega) (by rw [size_put2]; omega), hk, hk', HB⟩
set_option maxHeartbeats 1000000 in
set_option maxRecDepth 100000 in
theorem qOfF {w : World} {ao ao' : Option Addr} {n c n' c' : Nat} {x y : Int} (h : NatA w ao n c x) (h' : NatA w ao' n' c' y) (hn : n ≤ 274877906944) (hn' : n' ≤ 274877906944) (hne : y ≠ 0) :
    Calls Tryz.prog 38 #[.slice ao n c, .slice ao' n' c'] w fun e w' => ∃ a k d a' k' d', e = .returned (.tuple #[.agg #[.slice a k d, .slice a' k' d'], .int .i64 0]) ∧ NatN w' w.heap.size w'.heap.size a k d (rn x y) ∧ NatN w' w.heap.size w'.heap.size a' k' d' (rd x y) ∧ k ≤ n ∧ k' ≤ n' ∧ Below w.heap.size w w' := by
  have hm : bitLen y.toNat ≠ 0 := fun e => hne ((bitLen_zero y h'.nonneg).1 e)
  have HNE := (show Hid _ from hne)
  clear hne
  have B0 := below_alloc w (.cells #[.slice none 0 0, .slice none 0 0] 30)
  have S0 := box_new w [.slice none 0 0, .slice none 0 0] 30
  replace h := h.keep B0
  replace h' := h'.keep B0
  have t := nBits h' (by omega)
  generalize bitLen y.toNat = m at *
  obtain ⟨j, rfl⟩ : ∃ j, m = j + 1 := ⟨m - 1, by omega⟩
  clear hm
  go_enter Tryz.func38, Tryz.ntmps38
  go_wp2_with fail
  refine t.mono ?_
  rintro e w1 ⟨rfl, hB⟩
  replace h := h.keep hB
  replace h' := h'.keep hB
  replace S0 := S0.keep hB
  replace B0 := joinB B0 hB
  clear hB t
  go_wp2_with fail
  refine (qReducedF h h' (by omega) (by omega) HNE.out).mono ?_
  rintro e w2 ⟨a, k, d, a', k', d', rfl, O1, O2, hk, hk', hB⟩
  have z1 := B0.size
  have z2 := hB.size
  replace S0 := S0.keep hB
  replace B0 := joinB B0 hB
  obtain ⟨c1, c2, f1, f2⟩ := S0.cells2
  have S2 := S0.put2 (.slice a k d) (.slice a' k' d')
  have P1 := O1.put2 S0 (.slice a k d) (.slice a' k' d')
  have P2 := O2.put2 S0 (.slice a k d) (.slice a' k' d')
  have HB := below_put2 B0 (g := w.heap.size) (by omega) (.slice a k d) (.slice a' k' d')
  clear hB O1 O2 S0 B0 h h'
  go_wp2
  refine bodyPost_ret (ret_rat_tmp rfl rfl rfl S2) rfl ?_
  exact ⟨a, k, d, a', k', d', rfl, P1.mono (by omega) (by rw [size_put2]; omega), P2.mono (by omega) (by rw [size_put2]; omega), by omega, by omega, HB⟩
end Go.Proofs.YtjihgkanbhccpaaGreatDoor
