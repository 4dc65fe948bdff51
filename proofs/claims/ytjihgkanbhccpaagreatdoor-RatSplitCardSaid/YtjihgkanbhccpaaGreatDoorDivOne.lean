/- nat.Of; nat.DivMod by nothing, by a greater number and by one limb. -/
import Derived.Test.YtjihgkanbhccpaaGreatDoorDivS
import Derived.Test.YtjihgkanbhccpaaGreatDoorSub
namespace Go.Proofs.YtjihgkanbhccpaaGreatDoor
open Go.RowKit Lim

theorem Row.built (w : World) (l : List Int) : Row (w.alloc (.cells (l.map (Value.int .u64)).toArray 39)) w.heap.size l := by
  show (w.heap.push _)[w.heap.size]? = _
  rw [Array.getElem?_push_size]
theorem Row.built1 (w : World) (x : Int) : Row (w.alloc (.cells #[.int .u64 x] 39)) w.heap.size [x] := Row.built w [x]
theorem Row.built2 (w : World) (x y : Int) : Row (w.alloc (.cells #[.int .u64 x, .int .u64 y] 39)) w.heap.size [x, y] := Row.built w [x, y]
theorem below_alloc (w : World) (o : Obj) : Below w.heap.size w (w.alloc o) := (Below.refl _ _).alloc (Nat.le_refl _) _

set_option maxHeartbeats 1000000 in
set_option maxRecDepth 100000 in
theorem of_any (x : Int) (w : World) (h0 : 0 ≤ x) (h1 : x < 18446744073709551616) :
    Calls Tryz.prog 23 #[.int .u64 x] w fun e w' => ∃ v r, e = .returned v ∧ NewV w w' v r ∧ IsN r x ∧ r.length ≤ 1 ∧ Below w.heap.size w w' := by
  have hr := Row.built1 w x
  have hb := below_alloc w (.cells #[.int .u64 x] 39)
  have hw : Words [x] := Words.cons h0 h1 Words.nil
  have t1 := trim_any (some ⟨w.heap.size, 0, none⟩) 1 1 [x] (w.alloc (.cells #[.int .u64 x] 39)) rfl (by decide) (by decide) hr.at.cells
  have hz1 := nlen_le [x]
  have hz2 := norm_length [x]
  have hz3 := hr.at.sub (nlen [x])
  have HF : IsN (norm [x]) x := by have := isN_norm hw; rwa [val_single] at this
  have hfz := hr.free 0 1
  rw [show [x].take (nlen [x]) = norm [x] from rfl] at hz3
  rw [List.length_singleton] at hz1
  generalize nlen [x] = K at *
  generalize norm [x] = R at *
  clear hr
  go_enter Tryz.func23, Tryz.ntmps23
  go_wp2_with fail
  refine t1.mono ?_
  rintro e w6 ⟨rfl, rfl⟩
  go_wp2
  go_ret
  exact ⟨_, R, rfl, NewV.of hz2.symm (Nat.le_refl _) (Nat.le_refl _) hz3 (fun i hi => hfz i (by omega)), HF, by omega, hb⟩

set_option maxHeartbeats 1000000 in
set_option maxRecDepth 100000 in
theorem div_zero (v : Value) (ao' : Option Addr) (n' c' b' o' : Nat) (l' : List Int) (w : World) (hl' : l'.length = n') (hc' : n' ≤ c') (hbig' : n' ≤ 1099511627776)
    (wl' : Words l') (ha' : At w ao' b' o' l') (h0 : val l' = 0) :
    Calls Tryz.prog 110 #[v, .slice ao' n' c'] w fun e w' => e = .returned (.tuple #[.slice none 0 0, .slice none 0 0, .int .i64 11]) ∧ w' = w := by
  have t1 := trim_any ao' n' c' l' w hl' hc' (by omega) ha'.cells
  rw [(nlen_eq_zero_iff_val wl').2 h0] at t1
  go_enter Tryz.func110, Tryz.ntmps110
  go_wp2_with fail
  refine t1.mono ?_
  rintro e w1 ⟨rfl, rfl⟩
  go_wp2_with fail
  go_ret3
  exact ⟨rfl, rfl⟩

/-- what DivMod answers -/
def DivPost (w w' : World) (e : Ending) (x y : Int) (n n' : Nat) : Prop :=
  ∃ v u r s, e = .returned (.tuple #[v, u, .int .i64 0]) ∧ NewV w w' v r ∧ NewV w w' u s ∧ IsN r (x / y) ∧ IsN s (x % y) ∧ r.length ≤ n ∧ s.length ≤ n + n' ∧ Below w.heap.size w w'

theorem NewV.nil (w w' : World) : NewV w w' (.slice none 0 0) [] := ⟨none, w.heap.size, 0, 0, rfl, Nat.le_refl _, Nat.le_refl _, ⟨.inl rfl, fun i hi => by simp at hi⟩, fun i hi => by simp at hi⟩
theorem isN_nil : IsN [] 0 := ⟨Words.nil, rfl, rfl⟩
theorem NewV.later {w w1 w2 : World} {v : Value} {l : List Int} (h : NewV w w1 v l) (hb : Below w1.heap.size w1 w2) : NewV w w2 v l := by
  obtain ⟨ao, b, o, c, e, h1, h2, h3, h4⟩ := h
  refine ⟨ao, b, o, c, e, h1, h2, h3.keep hb, fun i hi => ?_⟩
  have hlt := cell_lt (h3.cell i hi)
  rw [hb.frozen (p := ⟨b, o + i, none⟩) hlt]; exact h4 i hi
theorem NewV.mono {w0 w w1 : World} {v : Value} {l : List Int} (h : NewV w w1 v l) (hb : w0.heap.size ≤ w.heap.size) : NewV w0 w1 v l := by
  obtain ⟨ao, b, o, c, e, h1, h2, h3, h4⟩ := h
  exact ⟨ao, b, o, c, e, h1, by omega, h3, h4⟩

set_option maxHeartbeats 1000000 in
set_option maxRecDepth 100000 in
theorem div_lt (ao : Option Addr) (n c b o : Nat) (ao' : Option Addr) (n' c' b' o' : Nat) (l l' : List Int) (w : World) (hl : l.length = n) (hl' : l'.length = n') (hc : n ≤ c) (hc' : n' ≤ c') (hbig : n ≤ 1099511627776) (hbig' : n' ≤ 1099511627776)
    (wl : Words l) (wl' : Words l') (ha : At w ao b o l) (ha' : At w ao' b' o' l') (hlt : val l < val l') :
    Calls Tryz.prog 110 #[.slice ao n c, .slice ao' n' c'] w fun e w' => DivPost w w' e (val l) (val l') n n' := by
  have h0 := val_nonneg wl
  have hn := nlen_le l
  have hn' := nlen_le l'
  have hk0 : nlen l' ≠ 0 := fun e => by have := (nlen_eq_zero_iff_val wl').1 e; omega
  have t1 := trim_any ao' n' c' l' w hl' hc' (by omega) ha'.cells
  have hs' := ha'.sub (nlen l')
  rw [show l'.take (nlen l') = norm l' from rfl] at hs'
  have t2 := cmp_any ao n c b o ao' (nlen l') (nlen l') b' o' l (norm l') w hl (norm_length l') hc (Nat.le_refl _) hbig (by omega) wl wl'.norm ha hs'
  rw [val_norm, sgn_lt hlt] at t2
  have HI := isN_norm wl
  have hnl := norm_length l
  have hnb : ((nlen l' : Int) == 0) = false := beq_eq_false_iff_ne.2 (by omega)
  go_enter Tryz.func110, Tryz.ntmps110
  go_wp2_with fail
  refine t1.mono ?_
  rintro e w1 ⟨rfl, rfl⟩
  go_wp2_with fail
  refine t2.mono ?_
  rintro e w2 ⟨rfl, hb2⟩
  go_wp2_with fail
  refine (norm_any ao n c b o l w2 hl hc hbig (ha.keep hb2)).mono ?_
  rintro e w3 ⟨rfl, hrow, hb3⟩
  clear t1 t2
  go_wp2
  go_ret3
  have hsz := hb2.size
  exact ⟨_, _, [], norm l, rfl, NewV.nil _ _, NewV.of hnl.symm (Nat.le_refl _) hsz hrow.at (hrow.free _ _), by rw [Int.ediv_eq_zero_of_lt h0 hlt]; exact isN_nil, by rw [Int.emod_eq_of_lt h0 hlt]; exact HI, by simp, by omega, hb2.trans (hb3.mono hsz)⟩

set_option maxHeartbeats 1000000 in
set_option maxRecDepth 100000 in
theorem div_one (ao : Option Addr) (n c b o : Nat) (ao' : Option Addr) (n' c' b' o' : Nat) (l l' : List Int) (w : World) (hl : l.length = n) (hl' : l'.length = n') (hc : n ≤ c) (hc' : n' ≤ c') (hbig : n ≤ 1099511627776) (hbig' : n' ≤ 1099511627776)
    (wl : Words l) (wl' : Words l') (ha : At w ao b o l) (ha' : At w ao' b' o' l') (hge : val l' ≤ val l) (h1 : nlen l' = 1) :
    Calls Tryz.prog 110 #[.slice ao n c, .slice ao' n' c'] w fun e w' => DivPost w w' e (val l) (val l') n n' := by
  have h0 := val_nonneg wl
  have hn := nlen_le l
  have hn' := nlen_le l'
  have t1 := trim_any ao' n' c' l' w hl' hc' (by omega) ha'.cells
  have hs' := ha'.sub (nlen l')
  rw [show l'.take (nlen l') = norm l' from rfl] at hs'
  have t2 := cmp_any ao n c b o ao' (nlen l') (nlen l') b' o' l (norm l') w hl (norm_length l') hc (Nat.le_refl _) hbig (by omega) wl wl'.norm ha hs'
  rw [val_norm] at t2
  have hs0 : 0 ≤ sgn (val l) (val l') := by unfold sgn; split <;> (try split) <;> omega
  have hnl' := norm_length l'
  have hI' := isN_norm wl'
  rw [h1] at t1 t2 hnl'
  generalize hN' : norm l' = L' at *
  obtain ⟨d, rfl⟩ := List.length_eq_one_iff.1 hnl'
  have hd : val l' = d := by have := hI'.2.2; rw [val_single] at this; exact this.symm
  have hdw := hI'.1 d (by simp)
  have hd0 : 0 < d := by
    have h2 := hI'.2.1
    by_cases c : d = 0
    · subst c; simp [nlen] at h2
    · omega
  rw [hd] at hge t2 ⊢
  rw [hd] at hs0
  generalize sgn (val l) d = sg at *
  rcases hs'.loc with e | rfl
  · simp at e
  go_enter Tryz.func110, Tryz.ntmps110
  go_wp2_with fail
  refine t1.mono ?_
  rintro e w1 ⟨rfl, rfl⟩
  go_wp2_with fail
  refine t2.mono ?_
  rintro e w2 ⟨rfl, hb2⟩
  go_wp2_with fail
  refine (norm_any ao n c b o l w2 hl hc hbig (ha.keep hb2)).mono ?_
  rintro e w3 ⟨rfl, hrow, hb3⟩
  have hsz := hb2.size
  have hsz3 := hb3.size
  have hcd := ((hs'.keep hb2).keep hb3).cell 0 (by simp)
  rw [nth_zero] at hcd
  rw [Nat.add_zero] at hcd
  have hwn := wl.norm
  have hvn := val_norm l
  have hnl := norm_length l
  clear t1 t2
  generalize nlen l = N at *
  generalize norm l = L at *
  go_wp2_with fail
  refine (divideSmall_any (some ⟨w2.heap.size, 0, none⟩) w2.heap.size 0 N N d L w3 hnl (by omega) (Nat.le_refl _) hd0 hdw.2 hwn hrow.at (hrow.free _ _)).mono ?_
  rintro e w4 ⟨left, lz, rfl, hf0, hf1, hlz, hwz, hatz, hwr, hvz⟩
  have hfz := hwr.free (hrow.free 0 N)
  have hz1 := nlen_le lz
  have hz2 := norm_length lz
  have hz3 := hatz.sub (nlen lz)
  have HF := isN_norm hwz
  have hrow4 := hwr.size
  have hlt3 := hrow.lt
  rw [show lz.take (nlen lz) = norm lz from rfl] at hz3
  have t3 := trim_any (some ⟨w2.heap.size, 0, none⟩) N N lz w4 hlz (Nat.le_refl _) (by omega) hatz.cells
  have HB : Below w1.heap.size w1 w4 := (hb2.trans (hb3.mono hsz)).trans (hwr.below hsz)
  have ev : val lz = val l / d ∧ left = val l % d := by
    have hh := Int.ediv_emod_unique (a := val l) (b := d) (r := left) (q := val lz) hd0
    have := hh.2 ⟨by rw [← hvn, ← hvz, Int.mul_comm]; omega, hf0, hf1⟩
    exact ⟨this.1.symm, this.2.symm⟩
  rw [ev.1] at HF
  have hleft : Hid (left = val l % d) := ev.2
  clear hwr hrow hvz hb2 hb3 hs' ev
  generalize nlen lz = K at *
  generalize norm lz = R at *
  go_wp2_with fail
  refine t3.mono ?_
  rintro e w5 ⟨rfl, rfl⟩
  go_wp2_with fail
  refine (of_any left w5 hf0 (by omega)).mono ?_
  rintro e w6 ⟨u, s, rfl, hnew, hIs, hsl, hb6⟩
  go_wp2
  go_ret3
  refine ⟨_, u, R, s, rfl, (NewV.of hz2.symm (Nat.le_refl _) hsz hz3 (fun i hi => hfz i (by omega))).later hb6, hnew.mono (by omega), HF, by rw [← hleft.out]; exact hIs, by omega, by omega, HB.trans (hb6.mono (by omega))⟩
end Go.Proofs.YtjihgkanbhccpaaGreatDoor
