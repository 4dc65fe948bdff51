/- nat.Gcd, of any two numbers. -/
import Derived.Test.YtjihgkanbhccpaaGreatDoorShrink
namespace Go.Proofs.YtjihgkanbhccpaaGreatDoor
open Go.RowKit Lim

/-- the number that a slice of limbs holds -/
def memVal (w : World) : Value → Int
  | .slice (some a) n _ => val ((List.range n).map fun i => intOf ((w.cell? ⟨a.block, a.off + i, none⟩).getD undef))
  | _ => 0
theorem memVal_at {w : World} {ao : Option Addr} {b o c : Nat} {l : List Int} (h : At w ao b o l) : memVal w (.slice ao l.length c) = val l := by
  rcases h.loc with e | e
  · subst e; cases ao <;> simp [memVal, val]
  · subst e
    have e : ((List.range l.length).map fun i => intOf ((w.cell? ⟨b, o + i, none⟩).getD undef)) = l := by
      refine nth_ext (by rw [List.length_map, List.length_range]) fun i hi => ?_
      rw [List.length_map, List.length_range] at hi
      rw [nth_eq (by rw [List.length_map, List.length_range]; exact hi)]
      simp [h.cell i hi, intOf]
    show val _ = val l
    rw [e]
def gcdMu (v : Value) (w : World) : Nat := (memVal w v).toNat
theorem isN_len_le {a b : List Int} {x y : Int} (ha : IsN a x) (hb : IsN b y) (h : x ≤ y) : a.length ≤ b.length := by
  rcases Nat.lt_or_ge b.length a.length with k | k
  · have := val_lt_of_nlen_lt hb.1 ha.1 (by rw [ha.2.1, hb.2.1]; exact k)
    rw [ha.2.2, hb.2.2] at this; omega
  · exact k
structure GcdIn (w : World) (X Y : Int) (N : Nat) (tx ty : Value) (wr : World) : Prop where
  ex : ∃ lx ly bx by', NewN w wr tx bx lx ∧ NewN w wr ty by' ly ∧ bx ≠ by' ∧ IsN lx (val lx) ∧ IsN ly (val ly) ∧ val ly ≤ val lx ∧ Int.gcd (val lx) (val ly) = Int.gcd X Y ∧ lx.length ≤ N ∧ ly.length ≤ N ∧ Below w.heap.size w wr
structure GcdEnd (w : World) (e : Ending) (w' : World) (X Y : Int) (N : Nat) : Prop where
  ex : ∃ v r, e = .returned v ∧ NewV w w' v r ∧ IsN r (Int.gcd X Y : Nat) ∧ r.length ≤ N + 1 ∧ Below w.heap.size w w'
theorem Row.newN {w w' : World} {g : Nat} {l : List Int} (h : Row w' g l) (hg : w.heap.size ≤ g) (n : Nat) (hn : l.length = n) : NewN w w' (.slice (some ⟨g, 0, none⟩) n n) g l :=
  ⟨_, 0, n, by rw [hn], by omega, hg, h.at, h.free _ _⟩

set_option maxHeartbeats 4000000 in
set_option maxRecDepth 100000 in
theorem gcd_any (ao : Option Addr) (n c b o : Nat) (ao' : Option Addr) (n' c' b' o' : Nat) (l l' : List Int) (w : World) (hl : l.length = n) (hl' : l'.length = n') (hc : n ≤ c) (hc' : n' ≤ c') (hbig : n ≤ 274877906944) (hbig' : n' ≤ 274877906944)
    (wl : Words l) (wl' : Words l') (ha : At w ao b o l) (ha' : At w ao' b' o' l') :
    Calls Tryz.prog 89 #[.slice ao n c, .slice ao' n' c'] w fun e w' => GcdEnd w e w' (val l) (val l') (n + n') := by
  have hn := nlen_le l
  have hn' := nlen_le l'
  have hnl := norm_length l
  have hnl' := norm_length l'
  have hI := isN_norm wl
  have hI' := isN_norm wl'
  go_enter Tryz.func89, Tryz.ntmps89
  go_wp2_with fail
  refine (norm_any ao n c b o l w hl hc (by omega) ha).mono ?_
  rintro e w1 ⟨rfl, hr1, hb1⟩
  go_wp2_with fail
  refine (norm_any ao' n' c' b' o' l' w1 hl' hc' (by omega) (ha'.keep hb1)).mono ?_
  rintro e w2 ⟨rfl, hr2, hb2⟩
  have hr1' := hr1.keep hb2
  have hz1 := hb1.size
  have hz2 := hb2.size
  have hlt1 := hr1.lt
  have hlt2 := hr2.lt
  have t1 := cmp_any (some ⟨w.heap.size, 0, none⟩) (nlen l) (nlen l) w.heap.size 0 (some ⟨w1.heap.size, 0, none⟩) (nlen l') (nlen l') w1.heap.size 0 (norm l) (norm l') w2 hnl hnl' (Nat.le_refl _) (Nat.le_refl _) (by omega) (by omega) hI.1 hI'.1 hr1'.at hr2.at
  rw [val_norm, val_norm] at t1
  have HB := hb1.trans (hb2.mono hz1)
  have N1 := hr1'.newN (w := w) (Nat.le_refl _) _ hnl
  have N2 := hr2.newN (w := w) hz1 _ hnl'
  have HV1 := (show Hid _ from hI.2.2)
  have HV2 := (show Hid _ from hI'.2.2)
  clear hr1 hr2 hr1' hb1 hb2 ha ha'
  generalize nlen l = A at *
  generalize nlen l' = A' at *
  generalize norm l = L at *
  generalize norm l' = L' at *
  have hJ : IsN L (val L) := ⟨hI.1, hI.2.1, rfl⟩
  have hJ' : IsN L' (val L') := ⟨hI'.1, hI'.2.1, rfl⟩
  clear hI hI'
  have hgne : w.heap.size ≠ w1.heap.size := by omega
  rcases Int.lt_or_le (val l) (val l') with hlt | hge
  rw [sgn_lt hlt] at t1
  have hat : ∀ w3, Below w2.heap.size w2 w3 → GcdIn w (val l) (val l') (n + n') (.slice (some ⟨w1.heap.size, 0, none⟩) A' A') (.slice (some ⟨w.heap.size, 0, none⟩) A A) w3 := fun w3 hb => ⟨L', L, _, _, N2.later hb, N1.later hb, hgne.symm, hJ', hJ, by rw [HV1.out, HV2.out]; omega, by rw [HV1.out, HV2.out, Int.gcd_comm], by omega, by omega, HB.trans (hb.mono HB.size)⟩
  rotate_left
  have hsg : sgn (val l) (val l') ≥ 0 := by unfold sgn; split <;> (try split) <;> omega
  generalize sgn (val l) (val l') = sg at *
  have hat : ∀ w3, Below w2.heap.size w2 w3 → GcdIn w (val l) (val l') (n + n') (.slice (some ⟨w.heap.size, 0, none⟩) A A) (.slice (some ⟨w1.heap.size, 0, none⟩) A' A') w3 := fun w3 hb => ⟨L, L', _, _, N1.later hb, N2.later hb, hgne, hJ, hJ', by rw [HV1.out, HV2.out]; omega, by rw [HV1.out, HV2.out], by omega, by omega, HB.trans (hb.mono HB.size)⟩
  all_goals
    clear hJ hJ' N1 N2 HV1 HV2
    go_wp2_with fail
    refine t1.mono ?_
    rintro e w3 ⟨rfl, hb3⟩
    replace hat := hat w3 hb3
    clear t1
    go_wp2_with fail
    go_loopw [5, 6] (fun tx ty wr => GcdIn w (val l) (val l') (n + n') tx ty wr) (fun _ ty wr => gcdMu ty wr)
    case atStart => exact hat
    case round =>
      clear hat
      obtain ⟨lx, ly, bx, by', NX, NY, hbne, iX, iY, hle, hg, hlx, hly, hB⟩ := hrel.ex
      obtain ⟨ax, ox, cx, rfl, kx, gx, atX, frX⟩ := NX.is
      obtain ⟨ay, oy, cy, rfl, ky, gy, atY, frY⟩ := NY.is
      have HG := (show Hid _ from hg)
      have hBs := hB.size
      clear hg hrel
      by_cases h1 : 1 < ly.length
      · have ts := shrink_any ax lx.length cx bx ox ay ly.length cy by' oy lx ly wr rfl rfl kx ky (by omega) (by omega) iX iY atX atY hle h1
        have hmu := memVal_at (c := cy) atY
        have HM := (show Hid _ from hmu)
        have HNY := (show Hid _ from NY)
        clear atX atY NX hmu NY
        generalize hLX : lx.length = nx at *
        generalize hLY : ly.length = ny at *
        go_wp2_with fail
        refine ts.mono ?_
        rintro e w5 hp
        obtain ⟨v1, v2, r1, r2, b1, b2, X', Y', rfl, hv1, hv2, hne, i1, i2, hg2, hlt2, hle2, hb5⟩ := hp.ex
        have hB5 := hB.trans (hb5.mono hB.size)
        have hr1 := isN_len_le i1 iY hle2
        have hr2 := isN_len_le i2 iY (by omega)
        have hM2 : gcdMu v2 w5 < gcdMu (.slice ay ny cy) wr := by
          obtain ⟨a2, o2, c2, rfl, -, -, at2, -⟩ := hv2.is
          unfold gcdMu
          rw [memVal_at at2, i2.2.2, HM.out]
          have := val_nonneg i2.1
          rw [i2.2.2] at this
          omega
        have hN1 : NewN w w5 v1 b1 r1 := by
          rcases hv1 with h | ⟨rfl, rfl, rfl⟩
          · exact h.mono hB.size
          · exact HNY.out.later hb5
        have hin : GcdIn w (val l) (val l') (n + n') v1 v2 w5 := ⟨r1, r2, b1, b2, hN1, hv2.mono hB.size, hne, by rw [i1.2.2]; exact i1, by rw [i2.2.2]; exact i2, by rw [i1.2.2, i2.2.2]; omega, by rw [i1.2.2, i2.2.2, hg2]; exact HG.out, by omega, by omega, hB5⟩
        clear hv1 hv2 hg2 hp HG HM HNY ts iX iY hN1 i1 i2
        go_wp2
        exact ⟨hin, hM2⟩
      · by_cases h0 : ly.length = 0
        · have e0 : ly = [] := List.eq_nil_of_length_eq_zero h0
          subst e0
          have hv : val lx = (Int.gcd (val l) (val l') : Nat) := by
            have := HG.out
            rw [show val [] = 0 from rfl, Int.gcd_zero_right] at this
            have := val_nonneg iX.1
            omega
          rw [hv] at iX
          go_wp2
          go_ret
          exact ⟨_, lx, rfl, NX.v, iX, by omega, hB⟩
        · have h01 : ly.length = 1 := by omega
          obtain ⟨d, rfl⟩ := List.length_eq_one_iff.1 h01
          have hdw := iY.1 d (by simp)
          have hd0 : 0 < d := by
            have h2 := iY.2.1
            by_cases c : d = 0
            · subst c; simp [nlen] at h2
            · omega
          have HV : Hid (val [d] = d) := val_single d
          obtain rfl : ay = some ⟨by', oy, none⟩ := by
            rcases atY.loc with e | e
            · simp at e
            · exact e
          have hcd := atY.cell 0 (by simp)
          rw [nth_zero, Nat.add_zero] at hcd
          have hcd1 : wr.drew.cell? ⟨by', oy, none⟩ = some (.int .u64 d) := hcd
          have tD := divideSmall_any ax bx ox lx.length cx d lx wr.drew rfl (by omega) kx hd0 hdw.2 iX.1 atX.drew frX.drew
          have HX := (show Hid _ from iX)
          have hnx : lx.length ≤ n + n' := hlx
          have hv0 := val_nonneg iX.1
          have HVX := (show Hid (0 ≤ val lx) from hv0)
          clear atX atY NX NY iX iY frX frY hle hv0 hlx
          generalize hLX : lx.length = nx at *
          clear hLX
          go_wp2_with fail
          go_region_with (first
            | (go_at_call 127; refine tD.mono ?_; rintro e w4 ⟨left, lz, rfl, hf0, hf1, hlz, hwz, hatz, hwr, hvz⟩; have hcd4 := (hwr.other (k := by') (i := oy) hbne.symm).trans hcd1)
            | (go_at_call 126; refine (gcdSmall_any d left _ (by omega) (by omega) hf0 (by omega)).mono ?_; rintro e w5 ⟨rfl, nd, rfl⟩)
            | (go_at_call 23; refine (of_any _ _ (by omega) (gcd_bound d left hd0 hdw.2)).mono ?_; rintro e w6 ⟨v, r, rfl, hnew, hI6, hlen6, hb6⟩))
          all_goals go_wp2
          all_goals go_ret
          all_goals
            have hleft : left = val lx % d := by
              have hh := Int.ediv_emod_unique (a := val lx) (b := d) (r := left) (q := Lim.val lz) hd0
              exact (hh.2 ⟨by rw [← hvz, Int.mul_comm]; omega, hf0, hf1⟩).2.symm
            have hwz4 := hwr.size
            have hsz4 : w.heap.size ≤ (w4.drewN nd).heap.size := by
              show w.heap.size ≤ w4.heap.size
              have : wr.drew.heap.size = wr.heap.size := rfl
              omega
            have HBz : Below w.heap.size w w6 := (below_drewN ((hB.drew).trans (hwr.below gx)) nd).trans (hb6.mono hsz4)
            refine ⟨v, r, rfl, hnew.mono hsz4, ?_, by omega, HBz⟩
            rw [gcd_one HVX.out hd0 HV.out hleft, HG.out] at hI6
            exact hI6
end Go.Proofs.YtjihgkanbhccpaaGreatDoor
