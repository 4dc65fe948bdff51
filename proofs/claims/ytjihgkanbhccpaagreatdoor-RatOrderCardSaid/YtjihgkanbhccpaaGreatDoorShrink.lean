/- nat.shrink: several of Euclid's steps at once. -/
import Derived.Test.YtjihgkanbhccpaaGreatDoorLehm
import Derived.Deep.RegionHeld3
namespace Go.Proofs.YtjihgkanbhccpaaGreatDoor
open Go.RowKit Lim

/-- a list of limbs in block b, memory that was not there before -/
structure NewN (w w' : World) (v : Value) (b : Nat) (l : List Int) : Prop where
  is : ∃ ao o c, v = .slice ao l.length c ∧ l.length ≤ c ∧ w.heap.size ≤ b ∧ At w' ao b o l ∧ Free w' b o l.length
theorem NewV.b {w w' : World} {v : Value} {l : List Int} (h : NewV w w' v l) : ∃ b, NewN w w' v b l := by
  obtain ⟨ao, b, o, c, h1, h2, h3, h4, h5⟩ := h.is
  exact ⟨b, ao, o, c, h1, h2, h3, h4, h5⟩
theorem NewN.v {w w' : World} {v : Value} {b : Nat} {l : List Int} (h : NewN w w' v b l) : NewV w w' v l := by
  obtain ⟨ao, o, c, h1, h2, h3, h4, h5⟩ := h.is
  exact ⟨ao, b, o, c, h1, h2, h3, h4, h5⟩
theorem NewN.mono {w0 w w1 : World} {v : Value} {b : Nat} {l : List Int} (h : NewN w w1 v b l) (hb : w0.heap.size ≤ w.heap.size) : NewN w0 w1 v b l := by
  obtain ⟨ao, o, c, h1, h2, h3, h4, h5⟩ := h.is
  exact ⟨ao, o, c, h1, h2, Nat.le_trans hb h3, h4, h5⟩
theorem NewN.later {w w1 w2 : World} {v : Value} {b : Nat} {l : List Int} (h : NewN w w1 v b l) (hb : Below w1.heap.size w1 w2) : NewN w w2 v b l := by
  obtain ⟨ao, o, c, h1, h2, h3, h4, h5⟩ := h.is
  refine ⟨ao, o, c, h1, h2, h3, h4.keep hb, ?_⟩
  rcases h4.lt with e | e
  · subst e; exact fun i hi => by simp at hi
  · exact Free.below hb h5 e
theorem NewN.ge {w w' : World} {v : Value} {b : Nat} {l : List Int} (h : NewN w w' v b l) : w.heap.size ≤ b := by
  obtain ⟨ao, o, c, h1, h2, h3, h4, h5⟩ := h.is
  exact h3
theorem NewN.lt {w w' : World} {v : Value} {b : Nat} {l : List Int} (h : NewN w w' v b l) : l = [] ∨ b < w'.heap.size := by
  obtain ⟨ao, o, c, h1, h2, h3, h4, h5⟩ := h.is
  exact h4.lt
theorem ne_nil_of_pos {l : List Int} {x : Int} (h : IsN l x) (hx : 0 < x) : l ≠ [] := by
  rintro rfl
  have := h.2.2
  simp [val] at this
  omega
structure ShrPost (w : World) (e : Ending) (w' : World) (X Y : Int) (vy : Value) (by' : Nat) (ly : List Int) : Prop where
  ex : ∃ v1 v2 r1 r2 b1 b2 X' Y', e = .returned (.tuple #[v1, v2]) ∧ (NewN w w' v1 b1 r1 ∨ (v1 = vy ∧ r1 = ly ∧ b1 = by')) ∧ NewN w w' v2 b2 r2 ∧ b1 ≠ b2 ∧ IsN r1 X' ∧ IsN r2 Y' ∧ Int.gcd X' Y' = Int.gcd X Y ∧ Y' < X' ∧ X' ≤ Y ∧ Below w.heap.size w w'

/-- a variable of type steps -/
structure Steps (w : World) (g : Nat) (px qx py qy : Int) (odd : Bool) : Prop where
  blk : w.heap[g]? = some (.cells #[.int .u64 px, .int .u64 qx, .int .u64 py, .int .u64 qy, .bool odd] 158 (0, 0))
theorem Steps.keep {w w' : World} {g : Nat} {px qx py qy : Int} {odd : Bool} (h : Steps w g px qx py qy odd) (hb : Below w.heap.size w w') : Steps w' g px qx py qy odd :=
  ⟨by rw [hb.block g (Array.getElem?_eq_some_iff.1 h.blk).1]; exact h.blk⟩
theorem Steps.cells {w : World} {g : Nat} {px qx py qy : Int} {odd : Bool} (h : Steps w g px qx py qy odd) :
    w.cell? ⟨g, 0, none⟩ = some (.int .u64 px) ∧ w.cell? ⟨g, 1, none⟩ = some (.int .u64 qx) ∧ w.cell? ⟨g, 2, none⟩ = some (.int .u64 py) ∧ w.cell? ⟨g, 3, none⟩ = some (.int .u64 qy) ∧ w.cell? ⟨g, 4, none⟩ = some (.bool odd) := by
  have := h.blk
  simp [World.cell?, this]
theorem Steps.drew {w : World} {g : Nat} {px qx py qy : Int} {odd : Bool} (h : Steps w g px qx py qy odd) : Steps w.drew g px qx py qy odd := ⟨h.blk⟩

set_option maxHeartbeats 4000000 in
set_option maxRecDepth 100000 in
theorem shrink_any (ao : Option Addr) (n c b o : Nat) (ao' : Option Addr) (n' c' b' o' : Nat) (l l' : List Int) (w : World) (hl : l.length = n) (hl' : l'.length = n') (hc : n ≤ c) (hc' : n' ≤ c') (hbig : n ≤ 1099511627776) (hbig' : n' ≤ 1099511627776)
    (hI : IsN l (val l)) (hI' : IsN l' (val l')) (ha : At w ao b o l) (ha' : At w ao' b' o' l') (hge : val l' ≤ val l) (h2 : 2 ≤ n') :
    Calls Tryz.prog 125 #[.slice ao n c, .slice ao' n' c'] w fun e w' => ShrPost w e w' (val l) (val l') (.slice ao' n' c') b' l' := by
  have wl := hI.1
  have wl' := hI'.1
  have hnn : n' ≤ n := by
    rcases Nat.lt_or_ge n n' with h | h
    · have := val_lt_of_nlen_lt wl wl' (by rw [hI.2.1, hI'.2.1]; omega); omega
    · exact h
  obtain ⟨k, rfl⟩ : ∃ k, n = k + 2 := ⟨n - 2, by omega⟩
  have htop : nth l (k + 1) ≠ 0 := by
    have := nlen_last (l := l) (by rw [hI.2.1]; omega)
    rw [hI.2.1, hl] at this
    exact this
  have hw1 := wl.nth (k + 1)
  have hle := top_le wl wl' hl (by omega) hge
  have hle0 := (wl'.nth (k + 1)).1
  have hv0' : val l' ≠ 0 := by
    intro e
    have := (nlen_eq_zero_iff_val wl').2 e
    rw [hI'.2.1] at this; omega
  have tD := fun W (hb : Below w.heap.size w W) => div_any ao (k + 2) c b o ao' n' c' b' o' l l' W hl hl' hc hc' hbig hbig' wl wl' (ha.keep hb) (ha'.keep hb) hv0'
  have tX := fun W (hb : Below w.heap.size w W) (m m' : Int) (m0 : 0 ≤ m) (m1 : m < 18446744073709551616) (m0' : 0 ≤ m') (m1' : m' < 18446744073709551616) (hg : val l' * m' ≤ val l * m) => differ_any ao (k + 2) c b o ao' n' c' b' o' l l' m m' W hl hl' hc hc' hbig hbig' wl wl' (ha.keep hb) (ha'.keep hb) m0 m1 m0' m1' hg
  have tY := fun W (hb : Below w.heap.size w W) (m m' : Int) (m0 : 0 ≤ m) (m1 : m < 18446744073709551616) (m0' : 0 ≤ m') (m1' : m' < 18446744073709551616) (hg : val l * m' ≤ val l' * m) => differ_any ao' n' c' b' o' ao (k + 2) c b o l' l m m' W hl' hl hc' hc hbig' hbig wl' wl (ha'.keep hb) (ha.keep hb) m0 m1 m0' m1' hg
  have tH := fun (s : Nat) W (hb : Below w.heap.size w W) hs h1 => highBits_any ao (k + 2) c b o k s l W hl (by omega) (by omega) wl (ha.keep hb) hs h1
  have tH' := fun (s : Nat) W (hb : Below w.heap.size w W) hs h1 => highBits_any ao' n' c' b' o' k s l' W hl' (by omega) (by omega) wl' (ha'.keep hb) hs h1
  have hV := fun (s : Nat) hs => high_val (s := s) wl (k := k) (by omega) hs
  have hV' := fun (s : Nat) hs => high_val (s := s) wl' (k := k) (by omega) hs
  have hO := fun (s : Nat) hs (h1 : nth l (k + 1) * 2 ^ s < 18446744073709551616) => high_or (s := s) hs hw1.1 h1 (wl.nth k).1 (wl.nth k).2
  have hO' := fun (s : Nat) hs (h1 : nth l' (k + 1) * 2 ^ s < 18446744073709551616) => high_or (s := s) hs hle0 h1 (wl'.nth k).1 (wl'.nth k).2
  rcases ha.loc with e | rfl
  · subst e; simp at hl
  have hcell := ha.cell (k + 1) (by omega)
  have hidx : ((k + 2 : Nat) : Int) - 1 = (k + 1 : Nat) := by omega
  have hblt : b' < w.heap.size := by
    rcases ha'.lt with e | e
    · subst e; simp at hl'; omega
    · exact e
  clear ha ha' wl wl'
  go_enter Tryz.func125, Tryz.ntmps125
  go_wp2_with fail
  refine (clz_n _ w (by omega) hw1.2).mono ?_
  rintro e w1 ⟨s, rfl, hs, HS, hww⟩
  subst w1
  have hs2 := HS.out.2
  have hpp : (0 : Int) < 2 ^ s := Int.pow_pos (by decide)
  have hs3 : nth l' (k + 1) * 2 ^ s < 18446744073709551616 := by
    have := Int.mul_le_mul_of_nonneg_right hle (Int.le_of_lt hpp)
    omega
  obtain ⟨a, hXa, a0, a1⟩ := hV s hs
  obtain ⟨a', hYa, a0', a1'⟩ := hV' s hs
  have q1 := (hO s hs hs2).2
  have q2 := (hO' s hs hs3).2
  have hx0 : 0 < nth l (k + 1) * 2 ^ s + nth l k / 2 ^ (64 - s) := by
    have hh := HS.out.1
    have hD : (0 : Int) < 2 ^ (64 - s) := Int.pow_pos (by decide)
    have : 0 ≤ nth l k / 2 ^ (64 - s) := Int.ediv_nonneg (hI.1.nth k).1 (Int.le_of_lt hD)
    omega
  have tH1 := fun W hb => tH s W hb hs hs2
  have tH2 := fun W hb => tH' s W hb hs hs3
  clear hV hV' hO hO' tH tH'
  generalize nth l (k + 1) * 2 ^ s + nth l k / 2 ^ (64 - s) = x0 at *
  generalize nth l' (k + 1) * 2 ^ s + nth l' k / 2 ^ (64 - s) = y0 at *
  generalize (18446744073709551616 : Int) ^ k * 2 ^ (64 - s) = Kk at *
  have hyx : y0 ≤ x0 := by
    by_cases c : y0 ≤ x0
    · exact c
    · have : (x0 + 1) * Kk ≤ y0 * Kk := Int.mul_le_mul_of_nonneg_right (by omega) (by omega)
      rw [Int.add_mul] at this
      omega
  have HX : Hid (val l = x0 * Kk + a) := hXa
  have HY : Hid (val l' = y0 * Kk + a') := hYa
  clear hXa hYa hs2 hs3 hle
  go_wp2_with fail
  refine (tH1 w (Below.refl _ _)).mono ?_
  rintro e w1 ⟨rfl, hb1⟩
  go_wp2_with fail
  refine (tH2 w1 hb1).mono ?_
  rintro e w2 ⟨rfl, hb2⟩
  have HB2 : Below w.heap.size w w2 := hb1.trans (hb2.mono hb1.size)
  go_wp2_with fail
  refine (foresee_any x0 y0 w2 q2.1 hyx q1.2).mono ?_
  rintro e w3 hfe
  obtain ⟨x, y, px, qx, py, qy, odd, rfl, hF, hb3⟩ := hfe.ex
  have HB3 : Below w.heap.size w w3 := HB2.trans (hb3.mono HB2.size)
  obtain ⟨z1, z2, z3, z4⟩ := hF.small hx0
  have z5 := hF.px0
  have z6 := hF.qx0
  have z7 := hF.py0
  have z8 := hF.qy1
  have HF : Hid (Fore x0 y0 x y px qx py qy odd) := hF
  clear hF hb1 hb2 hb3 HB2 hfe tH1 tH2
  by_cases hq : qx = 0
  · subst hq
    have HB4 : Below w.heap.size w (w3.alloc (.cells #[.int .u64 px, .int .u64 0, .int .u64 py, .int .u64 qy, .bool odd] 158)) := HB3.alloc HB3.size _
    have hm := Int.emod_lt_of_pos (val l) (show 0 < val l' by have := val_nonneg hI'.1; omega)
    go_wp2_with fail
    refine (tD _ HB4).mono ?_
    rintro e w5 ⟨v, u, r, t, rfl, hn1, hn2, i1, i2, -, -, hb5⟩
    go_wp2
    go_ret2
    obtain ⟨bu, hn2⟩ := (hn2.mono HB4.size).b
    have hbu := hn2.ge
    exact ⟨_, u, l', t, b', bu, _, _, rfl, .inr ⟨rfl, rfl, rfl⟩, hn2, by omega, hI', i2, gcd_step _ _ (val_nonneg hI.1) (val_nonneg hI'.1), hm, Int.le_refl _, HB4.trans (hb5.mono HB4.size)⟩
  · have hq' : (qx == 0) = false := beq_eq_false_iff_ne.2 hq
    cases odd
    · go_wp2_with fail
      have hSt : Steps (w3.alloc (.cells #[.int .u64 px, .int .u64 qx, .int .u64 py, .int .u64 qy, .bool false] 158)) w3.heap.size px qx py qy false := ⟨Array.getElem?_push_size⟩
      have HB4 : Below w.heap.size w (w3.alloc (.cells #[.int .u64 px, .int .u64 qx, .int .u64 py, .int .u64 qy, .bool false] 158)).drew := (HB3.alloc HB3.size _).drew
      obtain ⟨g1, g2, g3', g4, g5⟩ := HF.out.even_out HX.out HY.out a0 a1 a0' a1' hq
      generalize w3.alloc (.cells #[.int .u64 px, .int .u64 qx, .int .u64 py, .int .u64 qy, .bool false] 158) = W at *
      generalize w3.heap.size = g at *
      obtain ⟨c0, c1, c2, c3, c4⟩ := hSt.cells
      have hz4 := HB4.size
      have g3 := (show Hid _ from g3')
      clear g3' hcell tD c4
      have mark0 : True := trivial
      have mark1 : True := trivial
      go_region_held3 (fun w' => w'.cell? ⟨g, 0, none⟩ = some (.int .u64 px) ∧ w'.cell? ⟨g, 1, none⟩ = some (.int .u64 qx) ∧ w'.cell? ⟨g, 2, none⟩ = some (.int .u64 py) ∧ w'.cell? ⟨g, 3, none⟩ = some (.int .u64 qy)) (first | exact ⟨by assumption, by assumption, by assumption, by assumption⟩ | go_keep)
        (first
        | (go_at_call 165; clear mark0; refine (tX _ HB4 px qx (by omega) (by omega) (by omega) (by omega) (by omega)).mono ?_; rintro e wA ⟨vA, rA, rfl, nA, iA, bA⟩; obtain ⟨c0, c1, c2, c3, c4⟩ := (hSt.drew.keep bA).cells; clear c4; have HBA := HB4.trans (bA.mono hz4))
        | (go_at_call 165; clear mark1; refine (tY _ HBA qy py (by omega) (by omega) (by omega) (by omega) (by omega)).mono ?_; rintro e wZ ⟨vB, rB, rfl, nB, iB, bB⟩; obtain ⟨c0, c1, c2, c3, c4⟩ := ((hSt.drew.keep bA).keep bB).cells; clear c4; have HBZ := HBA.trans (bB.mono HBA.size)))
      go_wp2
      go_ret2
      obtain ⟨uA, nA'⟩ := nA.b
      obtain ⟨uB, nB'⟩ := nB.b
      have hlA : uA < wA.heap.size := nA'.lt.resolve_left (ne_nil_of_pos iA (by have := val_nonneg iB.1; have := iB.2.2; omega))
      have hgB := nB'.ge
      exact ⟨vA, vB, rA, rB, uA, uB, _, _, rfl, .inl ((nA'.later bB).mono hz4), nB'.mono HBA.size, by omega, iA, iB, g3.out, g4, g5, HBZ⟩
    · go_wp2_with fail
      have hSt : Steps (w3.alloc (.cells #[.int .u64 px, .int .u64 qx, .int .u64 py, .int .u64 qy, .bool true] 158)) w3.heap.size px qx py qy true := ⟨Array.getElem?_push_size⟩
      have HB4 : Below w.heap.size w (w3.alloc (.cells #[.int .u64 px, .int .u64 qx, .int .u64 py, .int .u64 qy, .bool true] 158)).drew := (HB3.alloc HB3.size _).drew
      obtain ⟨g1, g2, g3', g4, g5⟩ := HF.out.odd_out HX.out HY.out a0 a1 a0' a1' hq
      generalize w3.alloc (.cells #[.int .u64 px, .int .u64 qx, .int .u64 py, .int .u64 qy, .bool true] 158) = W at *
      generalize w3.heap.size = g at *
      obtain ⟨c0, c1, c2, c3, c4⟩ := hSt.cells
      have hz4 := HB4.size
      have g3 := (show Hid _ from g3')
      clear g3' hcell tD c4
      have mark0 : True := trivial
      have mark1 : True := trivial
      go_region_held3 (fun w' => w'.cell? ⟨g, 0, none⟩ = some (.int .u64 px) ∧ w'.cell? ⟨g, 1, none⟩ = some (.int .u64 qx) ∧ w'.cell? ⟨g, 2, none⟩ = some (.int .u64 py) ∧ w'.cell? ⟨g, 3, none⟩ = some (.int .u64 qy)) (first | exact ⟨by assumption, by assumption, by assumption, by assumption⟩ | go_keep)
        (first
        | (go_at_call 165; clear mark0; refine (tY _ HB4 qx px (by omega) (by omega) (by omega) (by omega) (by omega)).mono ?_; rintro e wA ⟨vA, rA, rfl, nA, iA, bA⟩; obtain ⟨c0, c1, c2, c3, c4⟩ := (hSt.drew.keep bA).cells; clear c4; have HBA := HB4.trans (bA.mono hz4))
        | (go_at_call 165; clear mark1; refine (tX _ HBA py qy (by omega) (by omega) (by omega) (by omega) (by omega)).mono ?_; rintro e wZ ⟨vB, rB, rfl, nB, iB, bB⟩; obtain ⟨c0, c1, c2, c3, c4⟩ := ((hSt.drew.keep bA).keep bB).cells; clear c4; have HBZ := HBA.trans (bB.mono HBA.size)))
      go_wp2
      go_ret2
      obtain ⟨uA, nA'⟩ := nA.b
      obtain ⟨uB, nB'⟩ := nB.b
      have hlA : uA < wA.heap.size := nA'.lt.resolve_left (ne_nil_of_pos iA (by have := val_nonneg iB.1; have := iB.2.2; omega))
      have hgB := nB'.ge
      exact ⟨vA, vB, rA, rB, uA, uB, _, _, rfl, .inl ((nA'.later bB).mono hz4), nB'.mono HBA.size, by omega, iA, iB, g3.out, g4, g5, HBZ⟩
end Go.Proofs.YtjihgkanbhccpaaGreatDoor
