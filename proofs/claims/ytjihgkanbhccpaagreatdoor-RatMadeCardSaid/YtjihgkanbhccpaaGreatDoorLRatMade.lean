/- gleanlaw3.RatMade returns true for all numbers and decimals. -/
import Derived.Test.YtjihgkanbhccpaaGreatDoorJrd
import Derived.Test.YtjihgkanbhccpaaGreatDoorJrb
import Derived.Test.YtjihgkanbhccpaaGreatDoorJda
namespace Go.Proofs.YtjihgkanbhccpaaGreatDoor
namespace ratMade
open Go.RowKit Lim

theorem sameDec {w : World} {ao ao' : Option Addr} {n c n' c' : Nat} {x : Int} (h : NatO w ao n c x) (h' : NatO w ao' n' c' x) (hn : n ≤ 4398046511104) (hn' : n' ≤ 4398046511104) :
    Calls Tryz.prog 36 #[.agg #[.slice ao n c], .agg #[.slice ao' n' c']] w fun e w' => e = .returned (.bool true) ∧ Below w.heap.size w w' := by
  have t := hDec h h' hn hn'
  rw [decide_eq_true rfl] at t
  exact t
set_option maxHeartbeats 16000000 in
set_option maxRecDepth 100000 in
theorem walk (a0 : Option Addr) (len0 cap0 : Nat) (z0 : List Int) (a1 : Option Addr) (len1 cap1 : Nat) (z1 : List Int) (a2 : Option Addr) (len2 cap2 : Nat) (z2 : List Int) (w : World) (w0 : IsRow w a0 len0 cap0 z0) (w1 : IsRow w a1 len1 cap1 z1) (w2 : IsRow w a2 len2 cap2 z2) :
    Calls Tryz.prog 7 #[.slice a0 len0 cap0, .slice a1 len1 cap1, .agg #[.slice a2 len2 cap2]] w fun e w' => e = .returned (.bool true) ∧ Below w.heap.size w w' := by
  have hnil0 := (show Hid _ from isRow_nil w0)
  obtain ⟨g0, o0, l0, hl0, hc0, hm0, W0, h0⟩ := w0.open
  have N0 : LimA w a0 len0 cap0 l0 := ⟨g0, o0, hl0, hc0, W0, h0⟩
  clear h0 w0 W0 hl0
  have hnil1 := (show Hid _ from isRow_nil w1)
  obtain ⟨g1, o1, l1, hl1, hc1, hm1, W1, h1⟩ := w1.open
  have N1 : LimA w a1 len1 cap1 l1 := ⟨g1, o1, hl1, hc1, W1, h1⟩
  clear h1 w1 W1 hl1
  obtain ⟨g2, o2, l2, hl2, hc2, hm2, W2, h2⟩ := w2.open
  have N2 : LimA w a2 len2 cap2 l2 := ⟨g2, o2, hl2, hc2, W2, h2⟩
  clear h2 w2 W2 hl2
  have HB := below_alloc w (.cells #[.slice a2 len2 cap2] 46)
  have P2 := box_new w [.slice a2 len2 cap2] 46
  replace N0 := N0.keep HB
  replace N1 := N1.keep HB
  replace N2 := N2.keep HB
  go_enter Tryz.func7, Tryz.ntmps7
  go_wp2_with fail
  generalize w.alloc (.cells #[.slice a2 len2 cap2] 46) = u0 at *
  refine (knownQ u0).mono ?_
  rintro e u1 ⟨rfl, hB⟩
  replace N0 := N0.keep hB
  replace N1 := N1.keep hB
  replace N2 := N2.keep hB
  replace P2 := P2.keep hB
  replace HB := joinB HB hB
  clear hB
  by_cases hs0 : len0 ≤ 12
  rotate_left
  · have hs0' : (12 : Int) < len0 := by omega
    have c1P2 := P2.slot.cell
    go_wp2
    go_ret
    exact ⟨rfl, HB⟩
  have hs0' : (len0 : Int) ≤ 12 := by omega
  by_cases hs1 : len1 ≤ 12
  rotate_left
  · have hs1' : (12 : Int) < len1 := by omega
    have c1P2 := P2.slot.cell
    go_wp2
    go_ret
    exact ⟨rfl, HB⟩
  have hs1' : (len1 : Int) ≤ 12 := by omega
  by_cases hs2 : len2 ≤ 12
  rotate_left
  · have hs2' : (12 : Int) < len2 := by omega
    have c1P2 := P2.slot.cell
    go_wp2
    go_ret
    exact ⟨rfl, HB⟩
  have hs2' : (len2 : Int) ≤ 12 := by omega
  have c1P2 := P2.slot.cell
  go_wp2_with fail
  refine (lCopy N0 (by omega) hnil0.out).mono ?_
  rintro e x1 ⟨ax, dx, rfl, X0, hB⟩
  clear c1P2
  replace N0 := N0.keep hB
  replace N1 := N1.keep hB
  replace N2 := N2.keep hB
  replace P2 := P2.keep hB
  replace HB := joinB HB hB
  clear hB
  have c1P2 := P2.slot.cell
  go_wp2_with fail
  refine (lCopy N1 (by omega) hnil1.out).mono ?_
  rintro e x2 ⟨ay, dy, rfl, X1, hB⟩
  clear c1P2
  replace N0 := N0.keep hB
  replace N1 := N1.keep hB
  replace N2 := N2.keep hB
  replace P2 := P2.keep hB
  replace X0 := X0.keep hB
  replace HB := joinB HB hB
  clear hB
  clear hnil0 hnil1
  go_wp2_with fail
  obtain ⟨u, hu⟩ : ∃ u, u = x2 := ⟨_, rfl⟩
  subst hu
  go_loopw [9] (fun tn wr => ∃ k : Nat, k ≤ 2 ∧ tn = .int .i64 k ∧ Below u.heap.size u wr) (fun tn _ => 2 - (intOf tn).toNat)
  case atStart => exact ⟨0, by omega, rfl, Below.refl _ _⟩
  case round =>
    obtain ⟨k, hk, rfl, HU⟩ := hrel
    replace N0 := N0.keep HU
    replace N1 := N1.keep HU
    replace N2 := N2.keep HU
    replace P2 := P2.keep HU
    replace X0 := X0.keep HU
    replace X1 := X1.keep HU
    have HB0 := (show Hid _ from HB)
    clear HB
    have HB := HU
    clear HU
    have hz0 := HB.size
    by_cases hk2 : k < 2
    rotate_left
    · obtain rfl : k = 2 := by omega
      have c1P2 := P2.slot.cell
      go_wp2_with fail
      refine (lSame X0 N0 (by omega) (by omega)).mono ?_
      rintro e x3 ⟨rfl, hB⟩
      clear c1P2
      replace N0 := N0.keep hB
      replace N1 := N1.keep hB
      replace N2 := N2.keep hB
      replace P2 := P2.keep hB
      replace X0 := X0.keep hB
      replace X1 := X1.keep hB
      replace HB := joinB HB hB
      clear hB
      have c1P2 := P2.slot.cell
      go_wp2_with fail
      refine (lSame X1 N1 (by omega) (by omega)).mono ?_
      rintro e x4 ⟨rfl, hB⟩
      clear c1P2
      replace N0 := N0.keep hB
      replace N1 := N1.keep hB
      replace N2 := N2.keep hB
      replace P2 := P2.keep hB
      replace X0 := X0.keep hB
      replace X1 := X1.keep hB
      replace HB := joinB HB hB
      clear hB
      go_wp2
      go_ret
      exact ⟨rfl, joinB HB0.out HB⟩
    have E0 := N0.a
    have E1 := N1.a
    have F0 := X0.a
    have F1 := X1.a
    have E2 := N2.a
    clear N2
    by_cases hz : val l1 = 0
    · skip
      have c1P2 := P2.slot.cell
      go_wp2_with fail
      refine (qOfZ (v := .slice ax len0 dx) F1 (by omega) hz).mono ?_
      rintro e x3 ⟨rfl, hB⟩
      clear c1P2
      replace N0 := N0.keep hB
      replace N1 := N1.keep hB
      replace P2 := P2.keep hB
      replace X0 := X0.keep hB
      replace X1 := X1.keep hB
      replace E0 := E0.keep hB
      replace E1 := E1.keep hB
      replace F0 := F0.keep hB
      replace F1 := F1.keep hB
      replace E2 := E2.keep hB
      replace HB := joinB HB hB
      clear hB
      have WA := (natN_nil x3 u.heap.size u.heap.size).w
      have WB := (natN_nil x3 u.heap.size u.heap.size).w
      have hbt : u.heap.size ≤ u.heap.size := Nat.le_refl _
      have htx : u.heap.size ≤ x3.heap.size := HB.size
      have BA := below_alloc x3 (.cells #[.slice none 0 0, .slice none 0 0] 30)
      have Xa := box_new x3 [.slice none 0 0, .slice none 0 0] 30
      replace N0 := N0.keep BA
      replace N1 := N1.keep BA
      replace P2 := P2.keep BA
      replace X0 := X0.keep BA
      replace X1 := X1.keep BA
      replace E0 := E0.keep BA
      replace E1 := E1.keep BA
      replace F0 := F0.keep BA
      replace F1 := F1.keep BA
      replace E2 := E2.keep BA
      replace WA := WA.keep BA
      replace WB := WB.keep BA
      replace HB := joinB HB BA
      clear BA
      have c1P2 := P2.slot.cell
      obtain ⟨c1Xa, c2Xa, c3Xa, c4Xa⟩ := Xa.cells2
      go_wp2_with fail
      clear c1P2 c1Xa c2Xa c3Xa c4Xa
      generalize x3.alloc (.cells #[.slice none 0 0, .slice none 0 0] 30) = y1 at *
      generalize x3.heap.size = ga at *
      refine (tOfZ (n := len0) (c := cap0) E1 (by omega) hz).mono ?_
      rintro e n4w ⟨rfl, hB⟩
      replace N0 := N0.keep hB
      replace N1 := N1.keep hB
      replace P2 := P2.keep hB
      replace X0 := X0.keep hB
      replace X1 := X1.keep hB
      replace E0 := E0.keep hB
      replace E1 := E1.keep hB
      replace F0 := F0.keep hB
      replace F1 := F1.keep hB
      replace E2 := E2.keep hB
      replace WA := WA.keep hB
      replace WB := WB.keep hB
      replace Xa := Xa.keep hB
      replace HB := joinB HB hB
      clear hB
      have BA := below_alloc n4w (.cells #[.slice none 0 0, .slice none 0 0] 30)
      have Xb := box_new n4w [.slice none 0 0, .slice none 0 0] 30
      replace N0 := N0.keep BA
      replace N1 := N1.keep BA
      replace P2 := P2.keep BA
      replace X0 := X0.keep BA
      replace X1 := X1.keep BA
      replace E0 := E0.keep BA
      replace E1 := E1.keep BA
      replace F0 := F0.keep BA
      replace F1 := F1.keep BA
      replace E2 := E2.keep BA
      replace WA := WA.keep BA
      replace WB := WB.keep BA
      replace Xa := Xa.keep BA
      replace HB := joinB HB BA
      clear BA
      have c1P2 := P2.slot.cell
      obtain ⟨c1Xa, c2Xa, c3Xa, c4Xa⟩ := Xa.cells2
      obtain ⟨c1Xb, c2Xb, c3Xb, c4Xb⟩ := Xb.cells2
      go_wp2_with fail
      clear c1P2 c1Xa c2Xa c3Xa c4Xa c1Xb c2Xb c3Xb c4Xb
      generalize n4w.alloc (.cells #[.slice none 0 0, .slice none 0 0] 30) = y2 at *
      generalize n4w.heap.size = gb at *
      refine rg_start (S := fun w' => Below y2.drew.heap.size y2.drew w') (by kernel_rfl) (Below.refl _ _) ?_
      replace N0 := N0.drew
      replace N1 := N1.drew
      replace P2 := P2.drew
      replace X0 := X0.drew
      replace X1 := X1.drew
      replace E0 := E0.drew
      replace E1 := E1.drew
      replace F0 := F0.drew
      replace F1 := F1.drew
      replace E2 := E2.drew
      replace WA := WA.drew
      replace WB := WB.drew
      replace Xa := Xa.drew
      replace Xb := Xb.drew
      replace HB := HB.drew
      have UP2 := P2
      have UXa := Xa
      have UXb := Xb
      have hS := Below.refl y2.drew.heap.size y2.drew
      refine rg_load 0 (some 51) (.agg #[.slice none 0 0, .slice none 0 0]) 30 10 (ga) 0 (by kernel_rfl) (by kernel_rfl) (by kernel_rfl) (fun _ hb => load_rat (UXa.keep hb)) (fun _ _ _ h => h) hS ?_
      refine rg_load 1 (some 52) (.agg #[.slice none 0 0, .slice none 0 0]) 30 12 (gb) 0 (by kernel_rfl) (by kernel_rfl) (by kernel_rfl) (fun _ hb => load_rat (UXb.keep hb)) (fun _ _ _ h => h) hS ?_
      refine rg_call 2 (some 53) 16 #[.agg #[.slice none 0 0, .slice none 0 0], .agg #[.slice none 0 0, .slice none 0 0]] (by kernel_rfl) (by kernel_rfl) (qSameT (natO_nil _) (natO_nil _) (by omega) (by omega) (natO_nil _) (natO_nil _) (by omega) (by omega)) ?_
      rintro e r11x1 ⟨rfl, hB⟩
      refine ⟨_, rfl, joinB hS hB, ?_⟩
      replace hS := joinB hS hB
      replace N0 := N0.keep hB
      replace N1 := N1.keep hB
      replace P2 := P2.keep hB
      replace X0 := X0.keep hB
      replace X1 := X1.keep hB
      replace E0 := E0.keep hB
      replace E1 := E1.keep hB
      replace F0 := F0.keep hB
      replace F1 := F1.keep hB
      replace E2 := E2.keep hB
      replace WA := WA.keep hB
      replace WB := WB.keep hB
      replace Xa := Xa.keep hB
      replace Xb := Xb.keep hB
      replace HB := joinB HB hB
      clear hB
      refine rg_take 3 (some 54) (.bool false) (by kernel_rfl) (fun _ _ => by kernel_rfl) (fun _ _ _ h => h) hS ?_
      refine rg_take 4 (some 55) (.bool false) (by kernel_rfl) (fun _ _ => by kernel_rfl) (fun _ _ _ h => h) hS ?_
      refine rg_take 5 (some 56) (.int .i64 30) (by kernel_rfl) (fun _ _ => by kernel_rfl) (fun _ _ _ h => h) hS ?_
      refine rg_take 6 (some 57) (.int .i64 30) (by kernel_rfl) (fun _ _ => by kernel_rfl) (fun _ _ _ h => h) hS ?_
      refine rg_take 7 (some 58) (.bool false) (by kernel_rfl) (fun _ _ => by kernel_rfl) (fun _ _ _ h => h) hS ?_
      refine rg_take 8 (some 59) (.bool false) (by kernel_rfl) (fun _ _ => by kernel_rfl) (fun _ _ _ h => h) hS ?_
      refine rg_take 9 (some 60) (.bool false) (by kernel_rfl) (fun _ _ => by kernel_rfl) (fun _ _ _ h => h) hS ?_
      refine rg_take 10 (some 61) (.slice ax len0 dx) (by kernel_rfl) (fun _ _ => by kernel_rfl) (fun _ _ _ h => h) hS ?_
      refine rg_take 12 (some 63) (.slice a0 len0 cap0) (by kernel_rfl) (fun _ _ => by kernel_rfl) (fun _ _ _ h => h) hS ?_
      refine rg_call 11 (some 62) 21 #[.slice ax len0 dx] (by kernel_rfl) (by kernel_rfl) (cOfNat (B := 12) F0 (by omega) (by omega) (by omega)) ?_
      rintro e r11x2 ⟨Ac, Nc, Cc, Bc, Mc, Dc, rfl, Qc, hB⟩
      refine ⟨_, rfl, joinB hS hB, ?_⟩
      replace hS := joinB hS hB
      replace N0 := N0.keep hB
      replace N1 := N1.keep hB
      replace P2 := P2.keep hB
      replace X0 := X0.keep hB
      replace X1 := X1.keep hB
      replace E0 := E0.keep hB
      replace E1 := E1.keep hB
      replace F0 := F0.keep hB
      replace F1 := F1.keep hB
      replace E2 := E2.keep hB
      replace WA := WA.keep hB
      replace WB := WB.keep hB
      replace Xa := Xa.keep hB
      replace Xb := Xb.keep hB
      replace HB := joinB HB hB
      clear hB
      refine rg_call 13 (some 64) 40 #[.slice a0 len0 cap0] (by kernel_rfl) (by kernel_rfl) (tOfNat (B := 12) E0 (by omega) (by omega) (by omega)) ?_
      rintro e r11x3 ⟨Ad, Nd, Cd, Bd, Md, Dd, rfl, Qd, hB⟩
      refine ⟨_, rfl, joinB hS hB, ?_⟩
      replace hS := joinB hS hB
      replace N0 := N0.keep hB
      replace N1 := N1.keep hB
      replace P2 := P2.keep hB
      replace X0 := X0.keep hB
      replace X1 := X1.keep hB
      replace E0 := E0.keep hB
      replace E1 := E1.keep hB
      replace F0 := F0.keep hB
      replace F1 := F1.keep hB
      replace E2 := E2.keep hB
      replace WA := WA.keep hB
      replace WB := WB.keep hB
      replace Xa := Xa.keep hB
      replace Xb := Xb.keep hB
      replace Qc := Qc.keep hB
      replace HB := joinB HB hB
      clear hB
      refine rg_call 14 (some 65) 16 #[.agg #[.slice Ac Nc Cc, .slice Bc Mc Dc], .agg #[.slice Ad Nd Cd, .slice Bd Md Dd]] (by kernel_rfl) (by kernel_rfl) (cSame (Qc.up (C := 100000) (by omega)) (Qd.up (C := 100000) (by omega)) (by omega) true (decide_eq_true rfl)) ?_
      rintro e r11x4 ⟨rfl, hB⟩
      refine ⟨_, rfl, joinB hS hB, ?_⟩
      replace hS := joinB hS hB
      replace N0 := N0.keep hB
      replace N1 := N1.keep hB
      replace P2 := P2.keep hB
      replace X0 := X0.keep hB
      replace X1 := X1.keep hB
      replace E0 := E0.keep hB
      replace E1 := E1.keep hB
      replace F0 := F0.keep hB
      replace F1 := F1.keep hB
      replace E2 := E2.keep hB
      replace WA := WA.keep hB
      replace WB := WB.keep hB
      replace Xa := Xa.keep hB
      replace Xb := Xb.keep hB
      replace Qc := Qc.keep hB
      replace Qd := Qd.keep hB
      replace HB := joinB HB hB
      clear hB
      refine rg_take 15 (some 66) (.bool false) (by kernel_rfl) (fun _ _ => by kernel_rfl) (fun _ _ _ h => h) hS ?_
      refine rg_take 16 (some 67) (.bool false) (by kernel_rfl) (fun _ _ => by kernel_rfl) (fun _ _ _ h => h) hS ?_
      refine rg_take 17 (some 68) (.bool false) (by kernel_rfl) (fun _ _ => by kernel_rfl) (fun _ _ _ h => h) hS ?_
      refine rg_load 18 (some 69) (.agg #[.slice a2 len2 cap2]) 46 5 (w.heap.size) 0 (by kernel_rfl) (by kernel_rfl) (by kernel_rfl) (fun _ hb => load_dec ((UP2.keep hb).slot)) (fun _ _ _ h => h) hS ?_
      refine rg_load 20 (some 71) (.agg #[.slice a2 len2 cap2]) 46 5 (w.heap.size) 0 (by kernel_rfl) (by kernel_rfl) (by kernel_rfl) (fun _ hb => load_dec ((UP2.keep hb).slot)) (fun _ _ _ h => h) hS ?_
      refine rg_call 19 (some 70) 30 #[.agg #[.slice a2 len2 cap2]] (by kernel_rfl) (by kernel_rfl) (cOfDec (B := 60) E2 (by omega) (by omega) (by omega)) ?_
      rintro e r11x5 ⟨Ae, Ne, Ce, Be, Me, De, rfl, Qe, hB⟩
      refine ⟨_, rfl, joinB hS hB, ?_⟩
      replace hS := joinB hS hB
      replace N0 := N0.keep hB
      replace N1 := N1.keep hB
      replace P2 := P2.keep hB
      replace X0 := X0.keep hB
      replace X1 := X1.keep hB
      replace E0 := E0.keep hB
      replace E1 := E1.keep hB
      replace F0 := F0.keep hB
      replace F1 := F1.keep hB
      replace E2 := E2.keep hB
      replace WA := WA.keep hB
      replace WB := WB.keep hB
      replace Xa := Xa.keep hB
      replace Xb := Xb.keep hB
      replace Qc := Qc.keep hB
      replace Qd := Qd.keep hB
      replace HB := joinB HB hB
      clear hB
      refine rg_call 21 (some 72) 41 #[.agg #[.slice a2 len2 cap2]] (by kernel_rfl) (by kernel_rfl) (tOfDec (B := 60) E2 (by omega) (by omega) (by omega)) ?_
      rintro e r11x6 ⟨Af, Nf, Cf, Bf, Mf, Df, rfl, Qf, hB⟩
      refine ⟨_, rfl, joinB hS hB, ?_⟩
      replace hS := joinB hS hB
      replace N0 := N0.keep hB
      replace N1 := N1.keep hB
      replace P2 := P2.keep hB
      replace X0 := X0.keep hB
      replace X1 := X1.keep hB
      replace E0 := E0.keep hB
      replace E1 := E1.keep hB
      replace F0 := F0.keep hB
      replace F1 := F1.keep hB
      replace E2 := E2.keep hB
      replace WA := WA.keep hB
      replace WB := WB.keep hB
      replace Xa := Xa.keep hB
      replace Xb := Xb.keep hB
      replace Qc := Qc.keep hB
      replace Qd := Qd.keep hB
      replace Qe := Qe.keep hB
      replace HB := joinB HB hB
      clear hB
      refine rg_call 22 (some 73) 16 #[.agg #[.slice Ae Ne Ce, .slice Be Me De], .agg #[.slice Af Nf Cf, .slice Bf Mf Df]] (by kernel_rfl) (by kernel_rfl) (cSame (Qe.up (C := 100000) (by omega)) (Qf.up (C := 100000) (by omega)) (by omega) true (decide_eq_true rfl)) ?_
      rintro e r11x7 ⟨rfl, hB⟩
      refine ⟨_, rfl, joinB hS hB, ?_⟩
      replace hS := joinB hS hB
      replace N0 := N0.keep hB
      replace N1 := N1.keep hB
      replace P2 := P2.keep hB
      replace X0 := X0.keep hB
      replace X1 := X1.keep hB
      replace E0 := E0.keep hB
      replace E1 := E1.keep hB
      replace F0 := F0.keep hB
      replace F1 := F1.keep hB
      replace E2 := E2.keep hB
      replace WA := WA.keep hB
      replace WB := WB.keep hB
      replace Xa := Xa.keep hB
      replace Xb := Xb.keep hB
      replace Qc := Qc.keep hB
      replace Qd := Qd.keep hB
      replace Qe := Qe.keep hB
      replace Qf := Qf.keep hB
      replace HB := joinB HB hB
      clear hB
      refine rg_take 23 (some 74) (.bool false) (by kernel_rfl) (fun _ _ => by kernel_rfl) (fun _ _ _ h => h) hS ?_
      refine rg_take 24 (some 75) (.bool false) (by kernel_rfl) (fun _ _ => by kernel_rfl) (fun _ _ _ h => h) hS ?_
      refine rg_done (by kernel_rfl) ?_
      clear hS UP2 UXa UXb
      try simp only [Act.put, List.setIfInBounds_toArray, List.set_cons_zero, List.set_cons_succ]
      clear Qc Qd Qe Qf Xb
      have BA := below_alloc r11x7 (.cells #[.slice ax len0 dx, .slice ay len1 dy] 30)
      have Xr := box_new r11x7 [.slice ax len0 dx, .slice ay len1 dy] 30
      replace N0 := N0.keep BA
      replace N1 := N1.keep BA
      replace P2 := P2.keep BA
      replace X0 := X0.keep BA
      replace X1 := X1.keep BA
      replace E0 := E0.keep BA
      replace E1 := E1.keep BA
      replace F0 := F0.keep BA
      replace F1 := F1.keep BA
      replace E2 := E2.keep BA
      replace WA := WA.keep BA
      replace WB := WB.keep BA
      replace Xa := Xa.keep BA
      replace HB := joinB HB BA
      clear BA
      have c1P2 := P2.slot.cell
      obtain ⟨c1Xa, c2Xa, c3Xa, c4Xa⟩ := Xa.cells2
      obtain ⟨c1Xr, c2Xr, c3Xr, c4Xr⟩ := Xr.cells2
      go_wp2_with fail
      clear c1P2 c1Xa c2Xa c3Xa c4Xa c1Xr c2Xr c3Xr c4Xr
      generalize r11x7.alloc (.cells #[.slice ax len0 dx, .slice ay len1 dy] 30) = y3 at *
      generalize r11x7.heap.size = gr at *
      have QX := qv_in (B := 12) F0 F1 (by omega) (by omega)
      generalize hP : cn (val l0) (val l1) = P at *
      generalize hQ : cd (val l1) = Q at *
      clear hP hQ
      obtain ⟨bz, hbz⟩ : ∃ b, decide (P = 0) = b := ⟨_, rfl⟩
      cases bz
      · skip
        refine rg_start (S := fun w' => Below y3.drew.heap.size y3.drew w') (by kernel_rfl) (Below.refl _ _) ?_
        replace N0 := N0.drew
        replace N1 := N1.drew
        replace P2 := P2.drew
        replace X0 := X0.drew
        replace X1 := X1.drew
        replace E0 := E0.drew
        replace E1 := E1.drew
        replace F0 := F0.drew
        replace F1 := F1.drew
        replace E2 := E2.drew
        replace WA := WA.drew
        replace WB := WB.drew
        replace Xa := Xa.drew
        replace Xr := Xr.drew
        replace QX := QX.drew
        replace HB := HB.drew
        have UP2 := P2
        have UXa := Xa
        have UXr := Xr
        have hS := Below.refl y3.drew.heap.size y3.drew
        refine rg_load 0 (some 79) (.agg #[.slice ax len0 dx, .slice ay len1 dy]) 30 14 (gr) 0 (by kernel_rfl) (by kernel_rfl) (by kernel_rfl) (fun _ hb => load_rat (UXr.keep hb)) (fun _ _ _ h => h) hS ?_
        refine rg_load 2 (some 81) (.agg #[.slice ax len0 dx, .slice ay len1 dy]) 30 14 (gr) 0 (by kernel_rfl) (by kernel_rfl) (by kernel_rfl) (fun _ hb => load_rat (UXr.keep hb)) (fun _ _ _ h => h) hS ?_
        refine rg_call 1 (some 80) 20 #[.agg #[.slice ax len0 dx, .slice ay len1 dy]] (by kernel_rfl) (by kernel_rfl) (cFloor QX (by omega)) ?_
        rintro e r14x1 ⟨Ag, Ng, Cg, rfl, Og, hog, hB⟩
        refine ⟨_, rfl, joinB hS hB, ?_⟩
        replace hS := joinB hS hB
        replace N0 := N0.keep hB
        replace N1 := N1.keep hB
        replace P2 := P2.keep hB
        replace X0 := X0.keep hB
        replace X1 := X1.keep hB
        replace E0 := E0.keep hB
        replace E1 := E1.keep hB
        replace F0 := F0.keep hB
        replace F1 := F1.keep hB
        replace E2 := E2.keep hB
        replace WA := WA.keep hB
        replace WB := WB.keep hB
        replace Xa := Xa.keep hB
        replace Xr := Xr.keep hB
        replace QX := QX.keep hB
        replace HB := joinB HB hB
        clear hB
        refine rg_call 3 (some 82) 43 #[.agg #[.slice ax len0 dx, .slice ay len1 dy]] (by kernel_rfl) (by kernel_rfl) (tFloor QX (by omega)) ?_
        rintro e r14x2 ⟨Ah, Nh, Ch, rfl, Oh, hoh, hB⟩
        refine ⟨_, rfl, joinB hS hB, ?_⟩
        replace hS := joinB hS hB
        replace N0 := N0.keep hB
        replace N1 := N1.keep hB
        replace P2 := P2.keep hB
        replace X0 := X0.keep hB
        replace X1 := X1.keep hB
        replace E0 := E0.keep hB
        replace E1 := E1.keep hB
        replace F0 := F0.keep hB
        replace F1 := F1.keep hB
        replace E2 := E2.keep hB
        replace WA := WA.keep hB
        replace WB := WB.keep hB
        replace Xa := Xa.keep hB
        replace Xr := Xr.keep hB
        replace QX := QX.keep hB
        replace Og := Og.keep hB
        replace HB := joinB HB hB
        clear hB
        refine rg_call 4 (some 83) 42 #[.slice Ag Ng Cg, .slice Ah Nh Ch] (by kernel_rfl) (by kernel_rfl) (nSameT Og Oh (by omega) (by omega)) ?_
        rintro e r14x3 ⟨rfl, hB⟩
        refine ⟨_, rfl, joinB hS hB, ?_⟩
        replace hS := joinB hS hB
        replace N0 := N0.keep hB
        replace N1 := N1.keep hB
        replace P2 := P2.keep hB
        replace X0 := X0.keep hB
        replace X1 := X1.keep hB
        replace E0 := E0.keep hB
        replace E1 := E1.keep hB
        replace F0 := F0.keep hB
        replace F1 := F1.keep hB
        replace E2 := E2.keep hB
        replace WA := WA.keep hB
        replace WB := WB.keep hB
        replace Xa := Xa.keep hB
        replace Xr := Xr.keep hB
        replace QX := QX.keep hB
        replace Og := Og.keep hB
        replace Oh := Oh.keep hB
        replace HB := joinB HB hB
        clear hB
        refine rg_take 5 (some 84) (.bool false) (by kernel_rfl) (fun _ _ => by kernel_rfl) (fun _ _ _ h => h) hS ?_
        refine rg_take 6 (some 85) (.bool false) (by kernel_rfl) (fun _ _ => by kernel_rfl) (fun _ _ _ h => h) hS ?_
        refine rg_load 7 (some 86) (.agg #[.slice ax len0 dx, .slice ay len1 dy]) 30 14 (gr) 0 (by kernel_rfl) (by kernel_rfl) (by kernel_rfl) (fun _ hb => load_rat (UXr.keep hb)) (fun _ _ _ h => h) hS ?_
        refine rg_load 9 (some 88) (.agg #[.slice ax len0 dx, .slice ay len1 dy]) 30 14 (gr) 0 (by kernel_rfl) (by kernel_rfl) (by kernel_rfl) (fun _ hb => load_rat (UXr.keep hb)) (fun _ _ _ h => h) hS ?_
        refine rg_call 8 (some 87) 29 #[.agg #[.slice ax len0 dx, .slice ay len1 dy]] (by kernel_rfl) (by kernel_rfl) (cDown QX (by omega)) ?_
        rintro e r14x4 ⟨Ai, Ni, Ci, rfl, Oi, hoi, hB⟩
        refine ⟨_, rfl, joinB hS hB, ?_⟩
        replace hS := joinB hS hB
        replace N0 := N0.keep hB
        replace N1 := N1.keep hB
        replace P2 := P2.keep hB
        replace X0 := X0.keep hB
        replace X1 := X1.keep hB
        replace E0 := E0.keep hB
        replace E1 := E1.keep hB
        replace F0 := F0.keep hB
        replace F1 := F1.keep hB
        replace E2 := E2.keep hB
        replace WA := WA.keep hB
        replace WB := WB.keep hB
        replace Xa := Xa.keep hB
        replace Xr := Xr.keep hB
        replace QX := QX.keep hB
        replace Og := Og.keep hB
        replace Oh := Oh.keep hB
        replace HB := joinB HB hB
        clear hB
        refine rg_call 10 (some 89) 44 #[.agg #[.slice ax len0 dx, .slice ay len1 dy]] (by kernel_rfl) (by kernel_rfl) (tDown QX (by omega)) ?_
        rintro e r14x5 ⟨Aj, Nj, Cj, rfl, Oj, hoj, hB⟩
        refine ⟨_, rfl, joinB hS hB, ?_⟩
        replace hS := joinB hS hB
        replace N0 := N0.keep hB
        replace N1 := N1.keep hB
        replace P2 := P2.keep hB
        replace X0 := X0.keep hB
        replace X1 := X1.keep hB
        replace E0 := E0.keep hB
        replace E1 := E1.keep hB
        replace F0 := F0.keep hB
        replace F1 := F1.keep hB
        replace E2 := E2.keep hB
        replace WA := WA.keep hB
        replace WB := WB.keep hB
        replace Xa := Xa.keep hB
        replace Xr := Xr.keep hB
        replace QX := QX.keep hB
        replace Og := Og.keep hB
        replace Oh := Oh.keep hB
        replace Oi := Oi.keep hB
        replace HB := joinB HB hB
        clear hB
        refine rg_call 11 (some 90) 36 #[.agg #[.slice Ai Ni Ci], .agg #[.slice Aj Nj Cj]] (by kernel_rfl) (by kernel_rfl) (sameDec Oi Oj (by omega) (by omega)) ?_
        rintro e r14x6 ⟨rfl, hB⟩
        refine ⟨_, rfl, joinB hS hB, ?_⟩
        replace hS := joinB hS hB
        replace N0 := N0.keep hB
        replace N1 := N1.keep hB
        replace P2 := P2.keep hB
        replace X0 := X0.keep hB
        replace X1 := X1.keep hB
        replace E0 := E0.keep hB
        replace E1 := E1.keep hB
        replace F0 := F0.keep hB
        replace F1 := F1.keep hB
        replace E2 := E2.keep hB
        replace WA := WA.keep hB
        replace WB := WB.keep hB
        replace Xa := Xa.keep hB
        replace Xr := Xr.keep hB
        replace QX := QX.keep hB
        replace Og := Og.keep hB
        replace Oh := Oh.keep hB
        replace Oi := Oi.keep hB
        replace Oj := Oj.keep hB
        replace HB := joinB HB hB
        clear hB
        refine rg_take 12 (some 91) (.bool false) (by kernel_rfl) (fun _ _ => by kernel_rfl) (fun _ _ _ h => h) hS ?_
        refine rg_take 13 (some 92) (.bool false) (by kernel_rfl) (fun _ _ => by kernel_rfl) (fun _ _ _ h => h) hS ?_
        refine rg_take 14 (some 93) (.bool false) (by kernel_rfl) (fun _ _ => by kernel_rfl) (fun _ _ _ h => h) hS ?_
        refine rg_load 15 (some 94) (.agg #[.slice ax len0 dx, .slice ay len1 dy]) 30 14 (gr) 0 (by kernel_rfl) (by kernel_rfl) (by kernel_rfl) (fun _ hb => load_rat (UXr.keep hb)) (fun _ _ _ h => h) hS ?_
        refine rg_load 17 (some 96) (.agg #[.slice ax len0 dx, .slice ay len1 dy]) 30 14 (gr) 0 (by kernel_rfl) (by kernel_rfl) (by kernel_rfl) (fun _ hb => load_rat (UXr.keep hb)) (fun _ _ _ h => h) hS ?_
        refine rg_call 16 (some 95) 24 #[.agg #[.slice ax len0 dx, .slice ay len1 dy]] (by kernel_rfl) (by kernel_rfl) (cZero QX (by omega) false hbz) ?_
        rintro e r14x7 ⟨rfl, hB⟩
        refine ⟨_, rfl, joinB hS hB, ?_⟩
        replace hS := joinB hS hB
        replace N0 := N0.keep hB
        replace N1 := N1.keep hB
        replace P2 := P2.keep hB
        replace X0 := X0.keep hB
        replace X1 := X1.keep hB
        replace E0 := E0.keep hB
        replace E1 := E1.keep hB
        replace F0 := F0.keep hB
        replace F1 := F1.keep hB
        replace E2 := E2.keep hB
        replace WA := WA.keep hB
        replace WB := WB.keep hB
        replace Xa := Xa.keep hB
        replace Xr := Xr.keep hB
        replace QX := QX.keep hB
        replace Og := Og.keep hB
        replace Oh := Oh.keep hB
        replace Oi := Oi.keep hB
        replace Oj := Oj.keep hB
        replace HB := joinB HB hB
        clear hB
        refine rg_call 18 (some 97) 45 #[.agg #[.slice ax len0 dx, .slice ay len1 dy]] (by kernel_rfl) (by kernel_rfl) (tZero QX (by omega) false hbz) ?_
        rintro e r14x8 ⟨rfl, hB⟩
        refine ⟨_, rfl, joinB hS hB, ?_⟩
        replace hS := joinB hS hB
        replace N0 := N0.keep hB
        replace N1 := N1.keep hB
        replace P2 := P2.keep hB
        replace X0 := X0.keep hB
        replace X1 := X1.keep hB
        replace E0 := E0.keep hB
        replace E1 := E1.keep hB
        replace F0 := F0.keep hB
        replace F1 := F1.keep hB
        replace E2 := E2.keep hB
        replace WA := WA.keep hB
        replace WB := WB.keep hB
        replace Xa := Xa.keep hB
        replace Xr := Xr.keep hB
        replace QX := QX.keep hB
        replace Og := Og.keep hB
        replace Oh := Oh.keep hB
        replace Oi := Oi.keep hB
        replace Oj := Oj.keep hB
        replace HB := joinB HB hB
        clear hB
        refine rg_take 19 (some 98) (.bool false) (by kernel_rfl) (fun _ _ => by kernel_rfl) (fun _ _ _ h => h) hS ?_
        refine rg_take 20 (some 99) (.bool false) (by kernel_rfl) (fun _ _ => by kernel_rfl) (fun _ _ _ h => h) hS ?_
        refine rg_take 21 (some 100) (.bool false) (by kernel_rfl) (fun _ _ => by kernel_rfl) (fun _ _ _ h => h) hS ?_
        refine rg_take 22 (some 101) (.slice ax len0 dx) (by kernel_rfl) (fun _ _ => by kernel_rfl) (fun _ _ _ h => h) hS ?_
        refine rg_take 23 (some 102) (.slice a0 len0 cap0) (by kernel_rfl) (fun _ _ => by kernel_rfl) (fun _ _ _ h => h) hS ?_
        refine rg_call 24 (some 103) 42 #[.slice ax len0 dx, .slice a0 len0 cap0] (by kernel_rfl) (by kernel_rfl) (lSame X0 N0 (by omega) (by omega)) ?_
        rintro e r14x9 ⟨rfl, hB⟩
        refine ⟨_, rfl, joinB hS hB, ?_⟩
        replace hS := joinB hS hB
        replace N0 := N0.keep hB
        replace N1 := N1.keep hB
        replace P2 := P2.keep hB
        replace X0 := X0.keep hB
        replace X1 := X1.keep hB
        replace E0 := E0.keep hB
        replace E1 := E1.keep hB
        replace F0 := F0.keep hB
        replace F1 := F1.keep hB
        replace E2 := E2.keep hB
        replace WA := WA.keep hB
        replace WB := WB.keep hB
        replace Xa := Xa.keep hB
        replace Xr := Xr.keep hB
        replace QX := QX.keep hB
        replace Og := Og.keep hB
        replace Oh := Oh.keep hB
        replace Oi := Oi.keep hB
        replace Oj := Oj.keep hB
        replace HB := joinB HB hB
        clear hB
        refine rg_take 25 (some 104) (.bool false) (by kernel_rfl) (fun _ _ => by kernel_rfl) (fun _ _ _ h => h) hS ?_
        refine rg_take 26 (some 105) (.bool false) (by kernel_rfl) (fun _ _ => by kernel_rfl) (fun _ _ _ h => h) hS ?_
        refine rg_take 27 (some 106) (.bool false) (by kernel_rfl) (fun _ _ => by kernel_rfl) (fun _ _ _ h => h) hS ?_
        refine rg_take 28 (some 107) (.slice ay len1 dy) (by kernel_rfl) (fun _ _ => by kernel_rfl) (fun _ _ _ h => h) hS ?_
        refine rg_take 29 (some 108) (.slice a1 len1 cap1) (by kernel_rfl) (fun _ _ => by kernel_rfl) (fun _ _ _ h => h) hS ?_
        refine rg_call 30 (some 109) 42 #[.slice ay len1 dy, .slice a1 len1 cap1] (by kernel_rfl) (by kernel_rfl) (lSame X1 N1 (by omega) (by omega)) ?_
        rintro e r14x10 ⟨rfl, hB⟩
        refine ⟨_, rfl, joinB hS hB, ?_⟩
        replace hS := joinB hS hB
        replace N0 := N0.keep hB
        replace N1 := N1.keep hB
        replace P2 := P2.keep hB
        replace X0 := X0.keep hB
        replace X1 := X1.keep hB
        replace E0 := E0.keep hB
        replace E1 := E1.keep hB
        replace F0 := F0.keep hB
        replace F1 := F1.keep hB
        replace E2 := E2.keep hB
        replace WA := WA.keep hB
        replace WB := WB.keep hB
        replace Xa := Xa.keep hB
        replace Xr := Xr.keep hB
        replace QX := QX.keep hB
        replace Og := Og.keep hB
        replace Oh := Oh.keep hB
        replace Oi := Oi.keep hB
        replace Oj := Oj.keep hB
        replace HB := joinB HB hB
        clear hB
        refine rg_take 31 (some 110) (.bool false) (by kernel_rfl) (fun _ _ => by kernel_rfl) (fun _ _ _ h => h) hS ?_
        refine rg_take 32 (some 111) (.bool false) (by kernel_rfl) (fun _ _ => by kernel_rfl) (fun _ _ _ h => h) hS ?_
        refine rg_done (by kernel_rfl) ?_
        clear hS UP2 UXa UXr
        try simp only [Act.put, List.setIfInBounds_toArray, List.set_cons_zero, List.set_cons_succ]
        clear Og Oh Oi Oj QX Xr P2
        obtain ⟨c1Xa, c2Xa, c3Xa, c4Xa⟩ := Xa.cells2
        go_wp2_with fail
        refine (wSpoil WA (by omega)).mono ?_
        rintro e s5w ⟨rfl, hT⟩
        clear c1Xa c2Xa c3Xa c4Xa
        replace WB := WB.turn hT
        replace Xa := Xa.turn hT (by omega)
        replace HB := HB.trans (hT.t.below (by omega))
        clear hT WA E0 E1 E2 F0 F1 N0 N1 X0 X1
        obtain ⟨c1Xa, c2Xa, c3Xa, c4Xa⟩ := Xa.cells2
        go_wp2_with fail
        refine (wSpoil WB (by omega)).mono ?_
        rintro e s6w ⟨rfl, hT⟩
        clear c1Xa c2Xa c3Xa c4Xa
        replace HB := HB.trans (hT.t.below (by omega))
        clear hT WB Xa
        go_wp2
        go_roundw
        case rel => exact ⟨k + 1, by omega, by go_num, HB⟩
        case measure => simp [intOf]; omega
      · skip
        refine rg_start (S := fun w' => Below y3.drew.heap.size y3.drew w') (by kernel_rfl) (Below.refl _ _) ?_
        replace N0 := N0.drew
        replace N1 := N1.drew
        replace P2 := P2.drew
        replace X0 := X0.drew
        replace X1 := X1.drew
        replace E0 := E0.drew
        replace E1 := E1.drew
        replace F0 := F0.drew
        replace F1 := F1.drew
        replace E2 := E2.drew
        replace WA := WA.drew
        replace WB := WB.drew
        replace Xa := Xa.drew
        replace Xr := Xr.drew
        replace QX := QX.drew
        replace HB := HB.drew
        have UP2 := P2
        have UXa := Xa
        have UXr := Xr
        have hS := Below.refl y3.drew.heap.size y3.drew
        refine rg_load 0 (some 79) (.agg #[.slice ax len0 dx, .slice ay len1 dy]) 30 14 (gr) 0 (by kernel_rfl) (by kernel_rfl) (by kernel_rfl) (fun _ hb => load_rat (UXr.keep hb)) (fun _ _ _ h => h) hS ?_
        refine rg_load 2 (some 81) (.agg #[.slice ax len0 dx, .slice ay len1 dy]) 30 14 (gr) 0 (by kernel_rfl) (by kernel_rfl) (by kernel_rfl) (fun _ hb => load_rat (UXr.keep hb)) (fun _ _ _ h => h) hS ?_
        refine rg_call 1 (some 80) 20 #[.agg #[.slice ax len0 dx, .slice ay len1 dy]] (by kernel_rfl) (by kernel_rfl) (cFloor QX (by omega)) ?_
        rintro e r14x1 ⟨Ag, Ng, Cg, rfl, Og, hog, hB⟩
        refine ⟨_, rfl, joinB hS hB, ?_⟩
        replace hS := joinB hS hB
        replace N0 := N0.keep hB
        replace N1 := N1.keep hB
        replace P2 := P2.keep hB
        replace X0 := X0.keep hB
        replace X1 := X1.keep hB
        replace E0 := E0.keep hB
        replace E1 := E1.keep hB
        replace F0 := F0.keep hB
        replace F1 := F1.keep hB
        replace E2 := E2.keep hB
        replace WA := WA.keep hB
        replace WB := WB.keep hB
        replace Xa := Xa.keep hB
        replace Xr := Xr.keep hB
        replace QX := QX.keep hB
        replace HB := joinB HB hB
        clear hB
        refine rg_call 3 (some 82) 43 #[.agg #[.slice ax len0 dx, .slice ay len1 dy]] (by kernel_rfl) (by kernel_rfl) (tFloor QX (by omega)) ?_
        rintro e r14x2 ⟨Ah, Nh, Ch, rfl, Oh, hoh, hB⟩
        refine ⟨_, rfl, joinB hS hB, ?_⟩
        replace hS := joinB hS hB
        replace N0 := N0.keep hB
        replace N1 := N1.keep hB
        replace P2 := P2.keep hB
        replace X0 := X0.keep hB
        replace X1 := X1.keep hB
        replace E0 := E0.keep hB
        replace E1 := E1.keep hB
        replace F0 := F0.keep hB
        replace F1 := F1.keep hB
        replace E2 := E2.keep hB
        replace WA := WA.keep hB
        replace WB := WB.keep hB
        replace Xa := Xa.keep hB
        replace Xr := Xr.keep hB
        replace QX := QX.keep hB
        replace Og := Og.keep hB
        replace HB := joinB HB hB
        clear hB
        refine rg_call 4 (some 83) 42 #[.slice Ag Ng Cg, .slice Ah Nh Ch] (by kernel_rfl) (by kernel_rfl) (nSameT Og Oh (by omega) (by omega)) ?_
        rintro e r14x3 ⟨rfl, hB⟩
        refine ⟨_, rfl, joinB hS hB, ?_⟩
        replace hS := joinB hS hB
        replace N0 := N0.keep hB
        replace N1 := N1.keep hB
        replace P2 := P2.keep hB
        replace X0 := X0.keep hB
        replace X1 := X1.keep hB
        replace E0 := E0.keep hB
        replace E1 := E1.keep hB
        replace F0 := F0.keep hB
        replace F1 := F1.keep hB
        replace E2 := E2.keep hB
        replace WA := WA.keep hB
        replace WB := WB.keep hB
        replace Xa := Xa.keep hB
        replace Xr := Xr.keep hB
        replace QX := QX.keep hB
        replace Og := Og.keep hB
        replace Oh := Oh.keep hB
        replace HB := joinB HB hB
        clear hB
        refine rg_take 5 (some 84) (.bool false) (by kernel_rfl) (fun _ _ => by kernel_rfl) (fun _ _ _ h => h) hS ?_
        refine rg_take 6 (some 85) (.bool false) (by kernel_rfl) (fun _ _ => by kernel_rfl) (fun _ _ _ h => h) hS ?_
        refine rg_load 7 (some 86) (.agg #[.slice ax len0 dx, .slice ay len1 dy]) 30 14 (gr) 0 (by kernel_rfl) (by kernel_rfl) (by kernel_rfl) (fun _ hb => load_rat (UXr.keep hb)) (fun _ _ _ h => h) hS ?_
        refine rg_load 9 (some 88) (.agg #[.slice ax len0 dx, .slice ay len1 dy]) 30 14 (gr) 0 (by kernel_rfl) (by kernel_rfl) (by kernel_rfl) (fun _ hb => load_rat (UXr.keep hb)) (fun _ _ _ h => h) hS ?_
        refine rg_call 8 (some 87) 29 #[.agg #[.slice ax len0 dx, .slice ay len1 dy]] (by kernel_rfl) (by kernel_rfl) (cDown QX (by omega)) ?_
        rintro e r14x4 ⟨Ai, Ni, Ci, rfl, Oi, hoi, hB⟩
        refine ⟨_, rfl, joinB hS hB, ?_⟩
        replace hS := joinB hS hB
        replace N0 := N0.keep hB
        replace N1 := N1.keep hB
        replace P2 := P2.keep hB
        replace X0 := X0.keep hB
        replace X1 := X1.keep hB
        replace E0 := E0.keep hB
        replace E1 := E1.keep hB
        replace F0 := F0.keep hB
        replace F1 := F1.keep hB
        replace E2 := E2.keep hB
        replace WA := WA.keep hB
        replace WB := WB.keep hB
        replace Xa := Xa.keep hB
        replace Xr := Xr.keep hB
        replace QX := QX.keep hB
        replace Og := Og.keep hB
        replace Oh := Oh.keep hB
        replace HB := joinB HB hB
        clear hB
        refine rg_call 10 (some 89) 44 #[.agg #[.slice ax len0 dx, .slice ay len1 dy]] (by kernel_rfl) (by kernel_rfl) (tDown QX (by omega)) ?_
        rintro e r14x5 ⟨Aj, Nj, Cj, rfl, Oj, hoj, hB⟩
        refine ⟨_, rfl, joinB hS hB, ?_⟩
        replace hS := joinB hS hB
        replace N0 := N0.keep hB
        replace N1 := N1.keep hB
        replace P2 := P2.keep hB
        replace X0 := X0.keep hB
        replace X1 := X1.keep hB
        replace E0 := E0.keep hB
        replace E1 := E1.keep hB
        replace F0 := F0.keep hB
        replace F1 := F1.keep hB
        replace E2 := E2.keep hB
        replace WA := WA.keep hB
        replace WB := WB.keep hB
        replace Xa := Xa.keep hB
        replace Xr := Xr.keep hB
        replace QX := QX.keep hB
        replace Og := Og.keep hB
        replace Oh := Oh.keep hB
        replace Oi := Oi.keep hB
        replace HB := joinB HB hB
        clear hB
        refine rg_call 11 (some 90) 36 #[.agg #[.slice Ai Ni Ci], .agg #[.slice Aj Nj Cj]] (by kernel_rfl) (by kernel_rfl) (sameDec Oi Oj (by omega) (by omega)) ?_
        rintro e r14x6 ⟨rfl, hB⟩
        refine ⟨_, rfl, joinB hS hB, ?_⟩
        replace hS := joinB hS hB
        replace N0 := N0.keep hB
        replace N1 := N1.keep hB
        replace P2 := P2.keep hB
        replace X0 := X0.keep hB
        replace X1 := X1.keep hB
        replace E0 := E0.keep hB
        replace E1 := E1.keep hB
        replace F0 := F0.keep hB
        replace F1 := F1.keep hB
        replace E2 := E2.keep hB
        replace WA := WA.keep hB
        replace WB := WB.keep hB
        replace Xa := Xa.keep hB
        replace Xr := Xr.keep hB
        replace QX := QX.keep hB
        replace Og := Og.keep hB
        replace Oh := Oh.keep hB
        replace Oi := Oi.keep hB
        replace Oj := Oj.keep hB
        replace HB := joinB HB hB
        clear hB
        refine rg_take 12 (some 91) (.bool false) (by kernel_rfl) (fun _ _ => by kernel_rfl) (fun _ _ _ h => h) hS ?_
        refine rg_take 13 (some 92) (.bool false) (by kernel_rfl) (fun _ _ => by kernel_rfl) (fun _ _ _ h => h) hS ?_
        refine rg_take 14 (some 93) (.bool false) (by kernel_rfl) (fun _ _ => by kernel_rfl) (fun _ _ _ h => h) hS ?_
        refine rg_load 15 (some 94) (.agg #[.slice ax len0 dx, .slice ay len1 dy]) 30 14 (gr) 0 (by kernel_rfl) (by kernel_rfl) (by kernel_rfl) (fun _ hb => load_rat (UXr.keep hb)) (fun _ _ _ h => h) hS ?_
        refine rg_load 17 (some 96) (.agg #[.slice ax len0 dx, .slice ay len1 dy]) 30 14 (gr) 0 (by kernel_rfl) (by kernel_rfl) (by kernel_rfl) (fun _ hb => load_rat (UXr.keep hb)) (fun _ _ _ h => h) hS ?_
        refine rg_call 16 (some 95) 24 #[.agg #[.slice ax len0 dx, .slice ay len1 dy]] (by kernel_rfl) (by kernel_rfl) (cZero QX (by omega) true hbz) ?_
        rintro e r14x7 ⟨rfl, hB⟩
        refine ⟨_, rfl, joinB hS hB, ?_⟩
        replace hS := joinB hS hB
        replace N0 := N0.keep hB
        replace N1 := N1.keep hB
        replace P2 := P2.keep hB
        replace X0 := X0.keep hB
        replace X1 := X1.keep hB
        replace E0 := E0.keep hB
        replace E1 := E1.keep hB
        replace F0 := F0.keep hB
        replace F1 := F1.keep hB
        replace E2 := E2.keep hB
        replace WA := WA.keep hB
        replace WB := WB.keep hB
        replace Xa := Xa.keep hB
        replace Xr := Xr.keep hB
        replace QX := QX.keep hB
        replace Og := Og.keep hB
        replace Oh := Oh.keep hB
        replace Oi := Oi.keep hB
        replace Oj := Oj.keep hB
        replace HB := joinB HB hB
        clear hB
        refine rg_call 18 (some 97) 45 #[.agg #[.slice ax len0 dx, .slice ay len1 dy]] (by kernel_rfl) (by kernel_rfl) (tZero QX (by omega) true hbz) ?_
        rintro e r14x8 ⟨rfl, hB⟩
        refine ⟨_, rfl, joinB hS hB, ?_⟩
        replace hS := joinB hS hB
        replace N0 := N0.keep hB
        replace N1 := N1.keep hB
        replace P2 := P2.keep hB
        replace X0 := X0.keep hB
        replace X1 := X1.keep hB
        replace E0 := E0.keep hB
        replace E1 := E1.keep hB
        replace F0 := F0.keep hB
        replace F1 := F1.keep hB
        replace E2 := E2.keep hB
        replace WA := WA.keep hB
        replace WB := WB.keep hB
        replace Xa := Xa.keep hB
        replace Xr := Xr.keep hB
        replace QX := QX.keep hB
        replace Og := Og.keep hB
        replace Oh := Oh.keep hB
        replace Oi := Oi.keep hB
        replace Oj := Oj.keep hB
        replace HB := joinB HB hB
        clear hB
        refine rg_take 19 (some 98) (.bool false) (by kernel_rfl) (fun _ _ => by kernel_rfl) (fun _ _ _ h => h) hS ?_
        refine rg_take 20 (some 99) (.bool false) (by kernel_rfl) (fun _ _ => by kernel_rfl) (fun _ _ _ h => h) hS ?_
        refine rg_take 21 (some 100) (.bool false) (by kernel_rfl) (fun _ _ => by kernel_rfl) (fun _ _ _ h => h) hS ?_
        refine rg_take 22 (some 101) (.slice ax len0 dx) (by kernel_rfl) (fun _ _ => by kernel_rfl) (fun _ _ _ h => h) hS ?_
        refine rg_take 23 (some 102) (.slice a0 len0 cap0) (by kernel_rfl) (fun _ _ => by kernel_rfl) (fun _ _ _ h => h) hS ?_
        refine rg_call 24 (some 103) 42 #[.slice ax len0 dx, .slice a0 len0 cap0] (by kernel_rfl) (by kernel_rfl) (lSame X0 N0 (by omega) (by omega)) ?_
        rintro e r14x9 ⟨rfl, hB⟩
        refine ⟨_, rfl, joinB hS hB, ?_⟩
        replace hS := joinB hS hB
        replace N0 := N0.keep hB
        replace N1 := N1.keep hB
        replace P2 := P2.keep hB
        replace X0 := X0.keep hB
        replace X1 := X1.keep hB
        replace E0 := E0.keep hB
        replace E1 := E1.keep hB
        replace F0 := F0.keep hB
        replace F1 := F1.keep hB
        replace E2 := E2.keep hB
        replace WA := WA.keep hB
        replace WB := WB.keep hB
        replace Xa := Xa.keep hB
        replace Xr := Xr.keep hB
        replace QX := QX.keep hB
        replace Og := Og.keep hB
        replace Oh := Oh.keep hB
        replace Oi := Oi.keep hB
        replace Oj := Oj.keep hB
        replace HB := joinB HB hB
        clear hB
        refine rg_take 25 (some 104) (.bool false) (by kernel_rfl) (fun _ _ => by kernel_rfl) (fun _ _ _ h => h) hS ?_
        refine rg_take 26 (some 105) (.bool false) (by kernel_rfl) (fun _ _ => by kernel_rfl) (fun _ _ _ h => h) hS ?_
        refine rg_take 27 (some 106) (.bool false) (by kernel_rfl) (fun _ _ => by kernel_rfl) (fun _ _ _ h => h) hS ?_
        refine rg_take 28 (some 107) (.slice ay len1 dy) (by kernel_rfl) (fun _ _ => by kernel_rfl) (fun _ _ _ h => h) hS ?_
        refine rg_take 29 (some 108) (.slice a1 len1 cap1) (by kernel_rfl) (fun _ _ => by kernel_rfl) (fun _ _ _ h => h) hS ?_
        refine rg_call 30 (some 109) 42 #[.slice ay len1 dy, .slice a1 len1 cap1] (by kernel_rfl) (by kernel_rfl) (lSame X1 N1 (by omega) (by omega)) ?_
        rintro e r14x10 ⟨rfl, hB⟩
        refine ⟨_, rfl, joinB hS hB, ?_⟩
        replace hS := joinB hS hB
        replace N0 := N0.keep hB
        replace N1 := N1.keep hB
        replace P2 := P2.keep hB
        replace X0 := X0.keep hB
        replace X1 := X1.keep hB
        replace E0 := E0.keep hB
        replace E1 := E1.keep hB
        replace F0 := F0.keep hB
        replace F1 := F1.keep hB
        replace E2 := E2.keep hB
        replace WA := WA.keep hB
        replace WB := WB.keep hB
        replace Xa := Xa.keep hB
        replace Xr := Xr.keep hB
        replace QX := QX.keep hB
        replace Og := Og.keep hB
        replace Oh := Oh.keep hB
        replace Oi := Oi.keep hB
        replace Oj := Oj.keep hB
        replace HB := joinB HB hB
        clear hB
        refine rg_take 31 (some 110) (.bool false) (by kernel_rfl) (fun _ _ => by kernel_rfl) (fun _ _ _ h => h) hS ?_
        refine rg_take 32 (some 111) (.bool false) (by kernel_rfl) (fun _ _ => by kernel_rfl) (fun _ _ _ h => h) hS ?_
        refine rg_done (by kernel_rfl) ?_
        clear hS UP2 UXa UXr
        try simp only [Act.put, List.setIfInBounds_toArray, List.set_cons_zero, List.set_cons_succ]
        clear Og Oh Oi Oj QX Xr P2
        obtain ⟨c1Xa, c2Xa, c3Xa, c4Xa⟩ := Xa.cells2
        go_wp2_with fail
        refine (wSpoil WA (by omega)).mono ?_
        rintro e s5w ⟨rfl, hT⟩
        clear c1Xa c2Xa c3Xa c4Xa
        replace WB := WB.turn hT
        replace Xa := Xa.turn hT (by omega)
        replace HB := HB.trans (hT.t.below (by omega))
        clear hT WA E0 E1 E2 F0 F1 N0 N1 X0 X1
        obtain ⟨c1Xa, c2Xa, c3Xa, c4Xa⟩ := Xa.cells2
        go_wp2_with fail
        refine (wSpoil WB (by omega)).mono ?_
        rintro e s6w ⟨rfl, hT⟩
        clear c1Xa c2Xa c3Xa c4Xa
        replace HB := HB.trans (hT.t.below (by omega))
        clear hT WB Xa
        go_wp2
        go_roundw
        case rel => exact ⟨k + 1, by omega, by go_num, HB⟩
        case measure => simp [intOf]; omega
    · skip
      have hz1 := HB.size
      have c1P2 := P2.slot.cell
      go_wp2_with fail
      refine (qOfF F0 F1 (by omega) (by omega) hz).mono ?_
      rintro e x3 ⟨Aa, Na, Ca, Ba, Ma, Da, rfl, Oa, Ob, hka, hkb, hB⟩
      clear c1P2
      replace N0 := N0.keep hB
      replace N1 := N1.keep hB
      replace P2 := P2.keep hB
      replace X0 := X0.keep hB
      replace X1 := X1.keep hB
      replace E0 := E0.keep hB
      replace E1 := E1.keep hB
      replace F0 := F0.keep hB
      replace F1 := F1.keep hB
      replace E2 := E2.keep hB
      replace HB := joinB HB hB
      clear hB
      have Qa : QR x3 Aa Na Ca Ba Ma Da (val l0) (val l1) 12 := pairR Oa.o Ob.o (red_of F0.nonneg (by have := F1.nonneg; omega)) (by have := F1.nonneg; omega) F0.nonneg (by omega) (by omega)
      have WA := Oa.w
      have WB := Ob.w
      clear Oa Ob
      have hbt : u.heap.size ≤ wr.heap.size := hz1
      have htx : x3.heap.size ≤ x3.heap.size := Nat.le_refl _
      obtain ⟨bt, hbt'⟩ : ∃ b, b = wr.heap.size := ⟨_, rfl⟩
      rw [← hbt'] at hbt WA WB
      obtain ⟨tt, htt'⟩ : ∃ b, b = x3.heap.size := ⟨_, rfl⟩
      rw [← htt'] at WA WB
      replace htx : tt ≤ x3.heap.size := by omega
      clear hbt' htt'
      have BA := below_alloc x3 (.cells #[.slice Aa Na Ca, .slice Ba Ma Da] 30)
      have Xa := box_new x3 [.slice Aa Na Ca, .slice Ba Ma Da] 30
      replace N0 := N0.keep BA
      replace N1 := N1.keep BA
      replace P2 := P2.keep BA
      replace X0 := X0.keep BA
      replace X1 := X1.keep BA
      replace E0 := E0.keep BA
      replace E1 := E1.keep BA
      replace F0 := F0.keep BA
      replace F1 := F1.keep BA
      replace E2 := E2.keep BA
      replace Qa := Qa.keep BA
      replace WA := WA.keep BA
      replace WB := WB.keep BA
      replace HB := joinB HB BA
      clear BA
      have c1P2 := P2.slot.cell
      obtain ⟨c1Xa, c2Xa, c3Xa, c4Xa⟩ := Xa.cells2
      go_wp2_with fail
      clear c1P2 c1Xa c2Xa c3Xa c4Xa
      generalize x3.alloc (.cells #[.slice Aa Na Ca, .slice Ba Ma Da] 30) = y1 at *
      generalize x3.heap.size = ga at *
      refine (tOf (B := 12) E0 E1 (by omega) (by omega) (by omega) hz).mono ?_
      rintro e n4w ⟨Ab, Nb, Cb, Bb, Mb, Db, rfl, Qb, hB⟩
      replace N0 := N0.keep hB
      replace N1 := N1.keep hB
      replace P2 := P2.keep hB
      replace X0 := X0.keep hB
      replace X1 := X1.keep hB
      replace E0 := E0.keep hB
      replace E1 := E1.keep hB
      replace F0 := F0.keep hB
      replace F1 := F1.keep hB
      replace E2 := E2.keep hB
      replace Qa := Qa.keep hB
      replace WA := WA.keep hB
      replace WB := WB.keep hB
      replace Xa := Xa.keep hB
      replace HB := joinB HB hB
      clear hB
      have BA := below_alloc n4w (.cells #[.slice Ab Nb Cb, .slice Bb Mb Db] 30)
      have Xb := box_new n4w [.slice Ab Nb Cb, .slice Bb Mb Db] 30
      replace N0 := N0.keep BA
      replace N1 := N1.keep BA
      replace P2 := P2.keep BA
      replace X0 := X0.keep BA
      replace X1 := X1.keep BA
      replace E0 := E0.keep BA
      replace E1 := E1.keep BA
      replace F0 := F0.keep BA
      replace F1 := F1.keep BA
      replace E2 := E2.keep BA
      replace Qa := Qa.keep BA
      replace WA := WA.keep BA
      replace WB := WB.keep BA
      replace Xa := Xa.keep BA
      replace Qb := Qb.keep BA
      replace HB := joinB HB BA
      clear BA
      have c1P2 := P2.slot.cell
      obtain ⟨c1Xa, c2Xa, c3Xa, c4Xa⟩ := Xa.cells2
      obtain ⟨c1Xb, c2Xb, c3Xb, c4Xb⟩ := Xb.cells2
      go_wp2_with fail
      clear c1P2 c1Xa c2Xa c3Xa c4Xa c1Xb c2Xb c3Xb c4Xb
      generalize n4w.alloc (.cells #[.slice Ab Nb Cb, .slice Bb Mb Db] 30) = y2 at *
      generalize n4w.heap.size = gb at *
      refine rg_start (S := fun w' => Below y2.drew.heap.size y2.drew w') (by kernel_rfl) (Below.refl _ _) ?_
      replace N0 := N0.drew
      replace N1 := N1.drew
      replace P2 := P2.drew
      replace X0 := X0.drew
      replace X1 := X1.drew
      replace E0 := E0.drew
      replace E1 := E1.drew
      replace F0 := F0.drew
      replace F1 := F1.drew
      replace E2 := E2.drew
      replace Qa := Qa.drew
      replace WA := WA.drew
      replace WB := WB.drew
      replace Xa := Xa.drew
      replace Qb := Qb.drew
      replace Xb := Xb.drew
      replace HB := HB.drew
      have UP2 := P2
      have UXa := Xa
      have UXb := Xb
      have hS := Below.refl y2.drew.heap.size y2.drew
      refine rg_load 0 (some 51) (.agg #[.slice Aa Na Ca, .slice Ba Ma Da]) 30 10 (ga) 0 (by kernel_rfl) (by kernel_rfl) (by kernel_rfl) (fun _ hb => load_rat (UXa.keep hb)) (fun _ _ _ h => h) hS ?_
      refine rg_load 1 (some 52) (.agg #[.slice Ab Nb Cb, .slice Bb Mb Db]) 30 12 (gb) 0 (by kernel_rfl) (by kernel_rfl) (by kernel_rfl) (fun _ hb => load_rat (UXb.keep hb)) (fun _ _ _ h => h) hS ?_
      refine rg_call 2 (some 53) 16 #[.agg #[.slice Aa Na Ca, .slice Ba Ma Da], .agg #[.slice Ab Nb Cb, .slice Bb Mb Db]] (by kernel_rfl) (by kernel_rfl) (cSame (Qa.up (C := 100000) (by omega)) (Qb.up (C := 100000) (by omega)) (by omega) true (decide_eq_true rfl)) ?_
      rintro e r11x1 ⟨rfl, hB⟩
      refine ⟨_, rfl, joinB hS hB, ?_⟩
      replace hS := joinB hS hB
      replace N0 := N0.keep hB
      replace N1 := N1.keep hB
      replace P2 := P2.keep hB
      replace X0 := X0.keep hB
      replace X1 := X1.keep hB
      replace E0 := E0.keep hB
      replace E1 := E1.keep hB
      replace F0 := F0.keep hB
      replace F1 := F1.keep hB
      replace E2 := E2.keep hB
      replace Qa := Qa.keep hB
      replace WA := WA.keep hB
      replace WB := WB.keep hB
      replace Xa := Xa.keep hB
      replace Qb := Qb.keep hB
      replace Xb := Xb.keep hB
      replace HB := joinB HB hB
      clear hB
      refine rg_take 3 (some 54) (.bool false) (by kernel_rfl) (fun _ _ => by kernel_rfl) (fun _ _ _ h => h) hS ?_
      refine rg_take 4 (some 55) (.bool false) (by kernel_rfl) (fun _ _ => by kernel_rfl) (fun _ _ _ h => h) hS ?_
      refine rg_take 5 (some 56) (.int .i64 0) (by kernel_rfl) (fun _ _ => by kernel_rfl) (fun _ _ _ h => h) hS ?_
      refine rg_take 6 (some 57) (.int .i64 0) (by kernel_rfl) (fun _ _ => by kernel_rfl) (fun _ _ _ h => h) hS ?_
      refine rg_take 7 (some 58) (.bool false) (by kernel_rfl) (fun _ _ => by kernel_rfl) (fun _ _ _ h => h) hS ?_
      refine rg_take 8 (some 59) (.bool false) (by kernel_rfl) (fun _ _ => by kernel_rfl) (fun _ _ _ h => h) hS ?_
      refine rg_take 9 (some 60) (.bool false) (by kernel_rfl) (fun _ _ => by kernel_rfl) (fun _ _ _ h => h) hS ?_
      refine rg_take 10 (some 61) (.slice ax len0 dx) (by kernel_rfl) (fun _ _ => by kernel_rfl) (fun _ _ _ h => h) hS ?_
      refine rg_take 12 (some 63) (.slice a0 len0 cap0) (by kernel_rfl) (fun _ _ => by kernel_rfl) (fun _ _ _ h => h) hS ?_
      refine rg_call 11 (some 62) 21 #[.slice ax len0 dx] (by kernel_rfl) (by kernel_rfl) (cOfNat (B := 12) F0 (by omega) (by omega) (by omega)) ?_
      rintro e r11x2 ⟨Ac, Nc, Cc, Bc, Mc, Dc, rfl, Qc, hB⟩
      refine ⟨_, rfl, joinB hS hB, ?_⟩
      replace hS := joinB hS hB
      replace N0 := N0.keep hB
      replace N1 := N1.keep hB
      replace P2 := P2.keep hB
      replace X0 := X0.keep hB
      replace X1 := X1.keep hB
      replace E0 := E0.keep hB
      replace E1 := E1.keep hB
      replace F0 := F0.keep hB
      replace F1 := F1.keep hB
      replace E2 := E2.keep hB
      replace Qa := Qa.keep hB
      replace WA := WA.keep hB
      replace WB := WB.keep hB
      replace Xa := Xa.keep hB
      replace Qb := Qb.keep hB
      replace Xb := Xb.keep hB
      replace HB := joinB HB hB
      clear hB
      refine rg_call 13 (some 64) 40 #[.slice a0 len0 cap0] (by kernel_rfl) (by kernel_rfl) (tOfNat (B := 12) E0 (by omega) (by omega) (by omega)) ?_
      rintro e r11x3 ⟨Ad, Nd, Cd, Bd, Md, Dd, rfl, Qd, hB⟩
      refine ⟨_, rfl, joinB hS hB, ?_⟩
      replace hS := joinB hS hB
      replace N0 := N0.keep hB
      replace N1 := N1.keep hB
      replace P2 := P2.keep hB
      replace X0 := X0.keep hB
      replace X1 := X1.keep hB
      replace E0 := E0.keep hB
      replace E1 := E1.keep hB
      replace F0 := F0.keep hB
      replace F1 := F1.keep hB
      replace E2 := E2.keep hB
      replace Qa := Qa.keep hB
      replace WA := WA.keep hB
      replace WB := WB.keep hB
      replace Xa := Xa.keep hB
      replace Qb := Qb.keep hB
      replace Xb := Xb.keep hB
      replace Qc := Qc.keep hB
      replace HB := joinB HB hB
      clear hB
      refine rg_call 14 (some 65) 16 #[.agg #[.slice Ac Nc Cc, .slice Bc Mc Dc], .agg #[.slice Ad Nd Cd, .slice Bd Md Dd]] (by kernel_rfl) (by kernel_rfl) (cSame (Qc.up (C := 100000) (by omega)) (Qd.up (C := 100000) (by omega)) (by omega) true (decide_eq_true rfl)) ?_
      rintro e r11x4 ⟨rfl, hB⟩
      refine ⟨_, rfl, joinB hS hB, ?_⟩
      replace hS := joinB hS hB
      replace N0 := N0.keep hB
      replace N1 := N1.keep hB
      replace P2 := P2.keep hB
      replace X0 := X0.keep hB
      replace X1 := X1.keep hB
      replace E0 := E0.keep hB
      replace E1 := E1.keep hB
      replace F0 := F0.keep hB
      replace F1 := F1.keep hB
      replace E2 := E2.keep hB
      replace Qa := Qa.keep hB
      replace WA := WA.keep hB
      replace WB := WB.keep hB
      replace Xa := Xa.keep hB
      replace Qb := Qb.keep hB
      replace Xb := Xb.keep hB
      replace Qc := Qc.keep hB
      replace Qd := Qd.keep hB
      replace HB := joinB HB hB
      clear hB
      refine rg_take 15 (some 66) (.bool false) (by kernel_rfl) (fun _ _ => by kernel_rfl) (fun _ _ _ h => h) hS ?_
      refine rg_take 16 (some 67) (.bool false) (by kernel_rfl) (fun _ _ => by kernel_rfl) (fun _ _ _ h => h) hS ?_
      refine rg_take 17 (some 68) (.bool false) (by kernel_rfl) (fun _ _ => by kernel_rfl) (fun _ _ _ h => h) hS ?_
      refine rg_load 18 (some 69) (.agg #[.slice a2 len2 cap2]) 46 5 (w.heap.size) 0 (by kernel_rfl) (by kernel_rfl) (by kernel_rfl) (fun _ hb => load_dec ((UP2.keep hb).slot)) (fun _ _ _ h => h) hS ?_
      refine rg_load 20 (some 71) (.agg #[.slice a2 len2 cap2]) 46 5 (w.heap.size) 0 (by kernel_rfl) (by kernel_rfl) (by kernel_rfl) (fun _ hb => load_dec ((UP2.keep hb).slot)) (fun _ _ _ h => h) hS ?_
      refine rg_call 19 (some 70) 30 #[.agg #[.slice a2 len2 cap2]] (by kernel_rfl) (by kernel_rfl) (cOfDec (B := 60) E2 (by omega) (by omega) (by omega)) ?_
      rintro e r11x5 ⟨Ae, Ne, Ce, Be, Me, De, rfl, Qe, hB⟩
      refine ⟨_, rfl, joinB hS hB, ?_⟩
      replace hS := joinB hS hB
      replace N0 := N0.keep hB
      replace N1 := N1.keep hB
      replace P2 := P2.keep hB
      replace X0 := X0.keep hB
      replace X1 := X1.keep hB
      replace E0 := E0.keep hB
      replace E1 := E1.keep hB
      replace F0 := F0.keep hB
      replace F1 := F1.keep hB
      replace E2 := E2.keep hB
      replace Qa := Qa.keep hB
      replace WA := WA.keep hB
      replace WB := WB.keep hB
      replace Xa := Xa.keep hB
      replace Qb := Qb.keep hB
      replace Xb := Xb.keep hB
      replace Qc := Qc.keep hB
      replace Qd := Qd.keep hB
      replace HB := joinB HB hB
      clear hB
      refine rg_call 21 (some 72) 41 #[.agg #[.slice a2 len2 cap2]] (by kernel_rfl) (by kernel_rfl) (tOfDec (B := 60) E2 (by omega) (by omega) (by omega)) ?_
      rintro e r11x6 ⟨Af, Nf, Cf, Bf, Mf, Df, rfl, Qf, hB⟩
      refine ⟨_, rfl, joinB hS hB, ?_⟩
      replace hS := joinB hS hB
      replace N0 := N0.keep hB
      replace N1 := N1.keep hB
      replace P2 := P2.keep hB
      replace X0 := X0.keep hB
      replace X1 := X1.keep hB
      replace E0 := E0.keep hB
      replace E1 := E1.keep hB
      replace F0 := F0.keep hB
      replace F1 := F1.keep hB
      replace E2 := E2.keep hB
      replace Qa := Qa.keep hB
      replace WA := WA.keep hB
      replace WB := WB.keep hB
      replace Xa := Xa.keep hB
      replace Qb := Qb.keep hB
      replace Xb := Xb.keep hB
      replace Qc := Qc.keep hB
      replace Qd := Qd.keep hB
      replace Qe := Qe.keep hB
      replace HB := joinB HB hB
      clear hB
      refine rg_call 22 (some 73) 16 #[.agg #[.slice Ae Ne Ce, .slice Be Me De], .agg #[.slice Af Nf Cf, .slice Bf Mf Df]] (by kernel_rfl) (by kernel_rfl) (cSame (Qe.up (C := 100000) (by omega)) (Qf.up (C := 100000) (by omega)) (by omega) true (decide_eq_true rfl)) ?_
      rintro e r11x7 ⟨rfl, hB⟩
      refine ⟨_, rfl, joinB hS hB, ?_⟩
      replace hS := joinB hS hB
      replace N0 := N0.keep hB
      replace N1 := N1.keep hB
      replace P2 := P2.keep hB
      replace X0 := X0.keep hB
      replace X1 := X1.keep hB
      replace E0 := E0.keep hB
      replace E1 := E1.keep hB
      replace F0 := F0.keep hB
      replace F1 := F1.keep hB
      replace E2 := E2.keep hB
      replace Qa := Qa.keep hB
      replace WA := WA.keep hB
      replace WB := WB.keep hB
      replace Xa := Xa.keep hB
      replace Qb := Qb.keep hB
      replace Xb := Xb.keep hB
      replace Qc := Qc.keep hB
      replace Qd := Qd.keep hB
      replace Qe := Qe.keep hB
      replace Qf := Qf.keep hB
      replace HB := joinB HB hB
      clear hB
      refine rg_take 23 (some 74) (.bool false) (by kernel_rfl) (fun _ _ => by kernel_rfl) (fun _ _ _ h => h) hS ?_
      refine rg_take 24 (some 75) (.bool false) (by kernel_rfl) (fun _ _ => by kernel_rfl) (fun _ _ _ h => h) hS ?_
      refine rg_done (by kernel_rfl) ?_
      clear hS UP2 UXa UXb
      try simp only [Act.put, List.setIfInBounds_toArray, List.set_cons_zero, List.set_cons_succ]
      clear Qa Qb Qc Qd Qe Qf Xb
      have BA := below_alloc r11x7 (.cells #[.slice ax len0 dx, .slice ay len1 dy] 30)
      have Xr := box_new r11x7 [.slice ax len0 dx, .slice ay len1 dy] 30
      replace N0 := N0.keep BA
      replace N1 := N1.keep BA
      replace P2 := P2.keep BA
      replace X0 := X0.keep BA
      replace X1 := X1.keep BA
      replace E0 := E0.keep BA
      replace E1 := E1.keep BA
      replace F0 := F0.keep BA
      replace F1 := F1.keep BA
      replace E2 := E2.keep BA
      replace WA := WA.keep BA
      replace WB := WB.keep BA
      replace Xa := Xa.keep BA
      replace HB := joinB HB BA
      clear BA
      have c1P2 := P2.slot.cell
      obtain ⟨c1Xa, c2Xa, c3Xa, c4Xa⟩ := Xa.cells2
      obtain ⟨c1Xr, c2Xr, c3Xr, c4Xr⟩ := Xr.cells2
      go_wp2_with fail
      clear c1P2 c1Xa c2Xa c3Xa c4Xa c1Xr c2Xr c3Xr c4Xr
      generalize r11x7.alloc (.cells #[.slice ax len0 dx, .slice ay len1 dy] 30) = y3 at *
      generalize r11x7.heap.size = gr at *
      have QX := qv_in (B := 12) F0 F1 (by omega) (by omega)
      generalize hP : cn (val l0) (val l1) = P at *
      generalize hQ : cd (val l1) = Q at *
      clear hP hQ
      obtain ⟨bz, hbz⟩ : ∃ b, decide (P = 0) = b := ⟨_, rfl⟩
      cases bz
      · skip
        refine rg_start (S := fun w' => Below y3.drew.heap.size y3.drew w') (by kernel_rfl) (Below.refl _ _) ?_
        replace N0 := N0.drew
        replace N1 := N1.drew
        replace P2 := P2.drew
        replace X0 := X0.drew
        replace X1 := X1.drew
        replace E0 := E0.drew
        replace E1 := E1.drew
        replace F0 := F0.drew
        replace F1 := F1.drew
        replace E2 := E2.drew
        replace WA := WA.drew
        replace WB := WB.drew
        replace Xa := Xa.drew
        replace Xr := Xr.drew
        replace QX := QX.drew
        replace HB := HB.drew
        have UP2 := P2
        have UXa := Xa
        have UXr := Xr
        have hS := Below.refl y3.drew.heap.size y3.drew
        refine rg_load 0 (some 79) (.agg #[.slice ax len0 dx, .slice ay len1 dy]) 30 14 (gr) 0 (by kernel_rfl) (by kernel_rfl) (by kernel_rfl) (fun _ hb => load_rat (UXr.keep hb)) (fun _ _ _ h => h) hS ?_
        refine rg_load 2 (some 81) (.agg #[.slice ax len0 dx, .slice ay len1 dy]) 30 14 (gr) 0 (by kernel_rfl) (by kernel_rfl) (by kernel_rfl) (fun _ hb => load_rat (UXr.keep hb)) (fun _ _ _ h => h) hS ?_
        refine rg_call 1 (some 80) 20 #[.agg #[.slice ax len0 dx, .slice ay len1 dy]] (by kernel_rfl) (by kernel_rfl) (cFloor QX (by omega)) ?_
        rintro e r14x1 ⟨Ag, Ng, Cg, rfl, Og, hog, hB⟩
        refine ⟨_, rfl, joinB hS hB, ?_⟩
        replace hS := joinB hS hB
        replace N0 := N0.keep hB
        replace N1 := N1.keep hB
        replace P2 := P2.keep hB
        replace X0 := X0.keep hB
        replace X1 := X1.keep hB
        replace E0 := E0.keep hB
        replace E1 := E1.keep hB
        replace F0 := F0.keep hB
        replace F1 := F1.keep hB
        replace E2 := E2.keep hB
        replace WA := WA.keep hB
        replace WB := WB.keep hB
        replace Xa := Xa.keep hB
        replace Xr := Xr.keep hB
        replace QX := QX.keep hB
        replace HB := joinB HB hB
        clear hB
        refine rg_call 3 (some 82) 43 #[.agg #[.slice ax len0 dx, .slice ay len1 dy]] (by kernel_rfl) (by kernel_rfl) (tFloor QX (by omega)) ?_
        rintro e r14x2 ⟨Ah, Nh, Ch, rfl, Oh, hoh, hB⟩
        refine ⟨_, rfl, joinB hS hB, ?_⟩
        replace hS := joinB hS hB
        replace N0 := N0.keep hB
        replace N1 := N1.keep hB
        replace P2 := P2.keep hB
        replace X0 := X0.keep hB
        replace X1 := X1.keep hB
        replace E0 := E0.keep hB
        replace E1 := E1.keep hB
        replace F0 := F0.keep hB
        replace F1 := F1.keep hB
        replace E2 := E2.keep hB
        replace WA := WA.keep hB
        replace WB := WB.keep hB
        replace Xa := Xa.keep hB
        replace Xr := Xr.keep hB
        replace QX := QX.keep hB
        replace Og := Og.keep hB
        replace HB := joinB HB hB
        clear hB
        refine rg_call 4 (some 83) 42 #[.slice Ag Ng Cg, .slice Ah Nh Ch] (by kernel_rfl) (by kernel_rfl) (nSameT Og Oh (by omega) (by omega)) ?_
        rintro e r14x3 ⟨rfl, hB⟩
        refine ⟨_, rfl, joinB hS hB, ?_⟩
        replace hS := joinB hS hB
        replace N0 := N0.keep hB
        replace N1 := N1.keep hB
        replace P2 := P2.keep hB
        replace X0 := X0.keep hB
        replace X1 := X1.keep hB
        replace E0 := E0.keep hB
        replace E1 := E1.keep hB
        replace F0 := F0.keep hB
        replace F1 := F1.keep hB
        replace E2 := E2.keep hB
        replace WA := WA.keep hB
        replace WB := WB.keep hB
        replace Xa := Xa.keep hB
        replace Xr := Xr.keep hB
        replace QX := QX.keep hB
        replace Og := Og.keep hB
        replace Oh := Oh.keep hB
        replace HB := joinB HB hB
        clear hB
        refine rg_take 5 (some 84) (.bool false) (by kernel_rfl) (fun _ _ => by kernel_rfl) (fun _ _ _ h => h) hS ?_
        refine rg_take 6 (some 85) (.bool false) (by kernel_rfl) (fun _ _ => by kernel_rfl) (fun _ _ _ h => h) hS ?_
        refine rg_load 7 (some 86) (.agg #[.slice ax len0 dx, .slice ay len1 dy]) 30 14 (gr) 0 (by kernel_rfl) (by kernel_rfl) (by kernel_rfl) (fun _ hb => load_rat (UXr.keep hb)) (fun _ _ _ h => h) hS ?_
        refine rg_load 9 (some 88) (.agg #[.slice ax len0 dx, .slice ay len1 dy]) 30 14 (gr) 0 (by kernel_rfl) (by kernel_rfl) (by kernel_rfl) (fun _ hb => load_rat (UXr.keep hb)) (fun _ _ _ h => h) hS ?_
        refine rg_call 8 (some 87) 29 #[.agg #[.slice ax len0 dx, .slice ay len1 dy]] (by kernel_rfl) (by kernel_rfl) (cDown QX (by omega)) ?_
        rintro e r14x4 ⟨Ai, Ni, Ci, rfl, Oi, hoi, hB⟩
        refine ⟨_, rfl, joinB hS hB, ?_⟩
        replace hS := joinB hS hB
        replace N0 := N0.keep hB
        replace N1 := N1.keep hB
        replace P2 := P2.keep hB
        replace X0 := X0.keep hB
        replace X1 := X1.keep hB
        replace E0 := E0.keep hB
        replace E1 := E1.keep hB
        replace F0 := F0.keep hB
        replace F1 := F1.keep hB
        replace E2 := E2.keep hB
        replace WA := WA.keep hB
        replace WB := WB.keep hB
        replace Xa := Xa.keep hB
        replace Xr := Xr.keep hB
        replace QX := QX.keep hB
        replace Og := Og.keep hB
        replace Oh := Oh.keep hB
        replace HB := joinB HB hB
        clear hB
        refine rg_call 10 (some 89) 44 #[.agg #[.slice ax len0 dx, .slice ay len1 dy]] (by kernel_rfl) (by kernel_rfl) (tDown QX (by omega)) ?_
        rintro e r14x5 ⟨Aj, Nj, Cj, rfl, Oj, hoj, hB⟩
        refine ⟨_, rfl, joinB hS hB, ?_⟩
        replace hS := joinB hS hB
        replace N0 := N0.keep hB
        replace N1 := N1.keep hB
        replace P2 := P2.keep hB
        replace X0 := X0.keep hB
        replace X1 := X1.keep hB
        replace E0 := E0.keep hB
        replace E1 := E1.keep hB
        replace F0 := F0.keep hB
        replace F1 := F1.keep hB
        replace E2 := E2.keep hB
        replace WA := WA.keep hB
        replace WB := WB.keep hB
        replace Xa := Xa.keep hB
        replace Xr := Xr.keep hB
        replace QX := QX.keep hB
        replace Og := Og.keep hB
        replace Oh := Oh.keep hB
        replace Oi := Oi.keep hB
        replace HB := joinB HB hB
        clear hB
        refine rg_call 11 (some 90) 36 #[.agg #[.slice Ai Ni Ci], .agg #[.slice Aj Nj Cj]] (by kernel_rfl) (by kernel_rfl) (sameDec Oi Oj (by omega) (by omega)) ?_
        rintro e r14x6 ⟨rfl, hB⟩
        refine ⟨_, rfl, joinB hS hB, ?_⟩
        replace hS := joinB hS hB
        replace N0 := N0.keep hB
        replace N1 := N1.keep hB
        replace P2 := P2.keep hB
        replace X0 := X0.keep hB
        replace X1 := X1.keep hB
        replace E0 := E0.keep hB
        replace E1 := E1.keep hB
        replace F0 := F0.keep hB
        replace F1 := F1.keep hB
        replace E2 := E2.keep hB
        replace WA := WA.keep hB
        replace WB := WB.keep hB
        replace Xa := Xa.keep hB
        replace Xr := Xr.keep hB
        replace QX := QX.keep hB
        replace Og := Og.keep hB
        replace Oh := Oh.keep hB
        replace Oi := Oi.keep hB
        replace Oj := Oj.keep hB
        replace HB := joinB HB hB
        clear hB
        refine rg_take 12 (some 91) (.bool false) (by kernel_rfl) (fun _ _ => by kernel_rfl) (fun _ _ _ h => h) hS ?_
        refine rg_take 13 (some 92) (.bool false) (by kernel_rfl) (fun _ _ => by kernel_rfl) (fun _ _ _ h => h) hS ?_
        refine rg_take 14 (some 93) (.bool false) (by kernel_rfl) (fun _ _ => by kernel_rfl) (fun _ _ _ h => h) hS ?_
        refine rg_load 15 (some 94) (.agg #[.slice ax len0 dx, .slice ay len1 dy]) 30 14 (gr) 0 (by kernel_rfl) (by kernel_rfl) (by kernel_rfl) (fun _ hb => load_rat (UXr.keep hb)) (fun _ _ _ h => h) hS ?_
        refine rg_load 17 (some 96) (.agg #[.slice ax len0 dx, .slice ay len1 dy]) 30 14 (gr) 0 (by kernel_rfl) (by kernel_rfl) (by kernel_rfl) (fun _ hb => load_rat (UXr.keep hb)) (fun _ _ _ h => h) hS ?_
        refine rg_call 16 (some 95) 24 #[.agg #[.slice ax len0 dx, .slice ay len1 dy]] (by kernel_rfl) (by kernel_rfl) (cZero QX (by omega) false hbz) ?_
        rintro e r14x7 ⟨rfl, hB⟩
        refine ⟨_, rfl, joinB hS hB, ?_⟩
        replace hS := joinB hS hB
        replace N0 := N0.keep hB
        replace N1 := N1.keep hB
        replace P2 := P2.keep hB
        replace X0 := X0.keep hB
        replace X1 := X1.keep hB
        replace E0 := E0.keep hB
        replace E1 := E1.keep hB
        replace F0 := F0.keep hB
        replace F1 := F1.keep hB
        replace E2 := E2.keep hB
        replace WA := WA.keep hB
        replace WB := WB.keep hB
        replace Xa := Xa.keep hB
        replace Xr := Xr.keep hB
        replace QX := QX.keep hB
        replace Og := Og.keep hB
        replace Oh := Oh.keep hB
        replace Oi := Oi.keep hB
        replace Oj := Oj.keep hB
        replace HB := joinB HB hB
        clear hB
        refine rg_call 18 (some 97) 45 #[.agg #[.slice ax len0 dx, .slice ay len1 dy]] (by kernel_rfl) (by kernel_rfl) (tZero QX (by omega) false hbz) ?_
        rintro e r14x8 ⟨rfl, hB⟩
        refine ⟨_, rfl, joinB hS hB, ?_⟩
        replace hS := joinB hS hB
        replace N0 := N0.keep hB
        replace N1 := N1.keep hB
        replace P2 := P2.keep hB
        replace X0 := X0.keep hB
        replace X1 := X1.keep hB
        replace E0 := E0.keep hB
        replace E1 := E1.keep hB
        replace F0 := F0.keep hB
        replace F1 := F1.keep hB
        replace E2 := E2.keep hB
        replace WA := WA.keep hB
        replace WB := WB.keep hB
        replace Xa := Xa.keep hB
        replace Xr := Xr.keep hB
        replace QX := QX.keep hB
        replace Og := Og.keep hB
        replace Oh := Oh.keep hB
        replace Oi := Oi.keep hB
        replace Oj := Oj.keep hB
        replace HB := joinB HB hB
        clear hB
        refine rg_take 19 (some 98) (.bool false) (by kernel_rfl) (fun _ _ => by kernel_rfl) (fun _ _ _ h => h) hS ?_
        refine rg_take 20 (some 99) (.bool false) (by kernel_rfl) (fun _ _ => by kernel_rfl) (fun _ _ _ h => h) hS ?_
        refine rg_take 21 (some 100) (.bool false) (by kernel_rfl) (fun _ _ => by kernel_rfl) (fun _ _ _ h => h) hS ?_
        refine rg_take 22 (some 101) (.slice ax len0 dx) (by kernel_rfl) (fun _ _ => by kernel_rfl) (fun _ _ _ h => h) hS ?_
        refine rg_take 23 (some 102) (.slice a0 len0 cap0) (by kernel_rfl) (fun _ _ => by kernel_rfl) (fun _ _ _ h => h) hS ?_
        refine rg_call 24 (some 103) 42 #[.slice ax len0 dx, .slice a0 len0 cap0] (by kernel_rfl) (by kernel_rfl) (lSame X0 N0 (by omega) (by omega)) ?_
        rintro e r14x9 ⟨rfl, hB⟩
        refine ⟨_, rfl, joinB hS hB, ?_⟩
        replace hS := joinB hS hB
        replace N0 := N0.keep hB
        replace N1 := N1.keep hB
        replace P2 := P2.keep hB
        replace X0 := X0.keep hB
        replace X1 := X1.keep hB
        replace E0 := E0.keep hB
        replace E1 := E1.keep hB
        replace F0 := F0.keep hB
        replace F1 := F1.keep hB
        replace E2 := E2.keep hB
        replace WA := WA.keep hB
        replace WB := WB.keep hB
        replace Xa := Xa.keep hB
        replace Xr := Xr.keep hB
        replace QX := QX.keep hB
        replace Og := Og.keep hB
        replace Oh := Oh.keep hB
        replace Oi := Oi.keep hB
        replace Oj := Oj.keep hB
        replace HB := joinB HB hB
        clear hB
        refine rg_take 25 (some 104) (.bool false) (by kernel_rfl) (fun _ _ => by kernel_rfl) (fun _ _ _ h => h) hS ?_
        refine rg_take 26 (some 105) (.bool false) (by kernel_rfl) (fun _ _ => by kernel_rfl) (fun _ _ _ h => h) hS ?_
        refine rg_take 27 (some 106) (.bool false) (by kernel_rfl) (fun _ _ => by kernel_rfl) (fun _ _ _ h => h) hS ?_
        refine rg_take 28 (some 107) (.slice ay len1 dy) (by kernel_rfl) (fun _ _ => by kernel_rfl) (fun _ _ _ h => h) hS ?_
        refine rg_take 29 (some 108) (.slice a1 len1 cap1) (by kernel_rfl) (fun _ _ => by kernel_rfl) (fun _ _ _ h => h) hS ?_
        refine rg_call 30 (some 109) 42 #[.slice ay len1 dy, .slice a1 len1 cap1] (by kernel_rfl) (by kernel_rfl) (lSame X1 N1 (by omega) (by omega)) ?_
        rintro e r14x10 ⟨rfl, hB⟩
        refine ⟨_, rfl, joinB hS hB, ?_⟩
        replace hS := joinB hS hB
        replace N0 := N0.keep hB
        replace N1 := N1.keep hB
        replace P2 := P2.keep hB
        replace X0 := X0.keep hB
        replace X1 := X1.keep hB
        replace E0 := E0.keep hB
        replace E1 := E1.keep hB
        replace F0 := F0.keep hB
        replace F1 := F1.keep hB
        replace E2 := E2.keep hB
        replace WA := WA.keep hB
        replace WB := WB.keep hB
        replace Xa := Xa.keep hB
        replace Xr := Xr.keep hB
        replace QX := QX.keep hB
        replace Og := Og.keep hB
        replace Oh := Oh.keep hB
        replace Oi := Oi.keep hB
        replace Oj := Oj.keep hB
        replace HB := joinB HB hB
        clear hB
        refine rg_take 31 (some 110) (.bool false) (by kernel_rfl) (fun _ _ => by kernel_rfl) (fun _ _ _ h => h) hS ?_
        refine rg_take 32 (some 111) (.bool false) (by kernel_rfl) (fun _ _ => by kernel_rfl) (fun _ _ _ h => h) hS ?_
        refine rg_done (by kernel_rfl) ?_
        clear hS UP2 UXa UXr
        try simp only [Act.put, List.setIfInBounds_toArray, List.set_cons_zero, List.set_cons_succ]
        clear Og Oh Oi Oj QX Xr P2
        obtain ⟨c1Xa, c2Xa, c3Xa, c4Xa⟩ := Xa.cells2
        go_wp2_with fail
        refine (wSpoil WA (by omega)).mono ?_
        rintro e s5w ⟨rfl, hT⟩
        clear c1Xa c2Xa c3Xa c4Xa
        replace WB := WB.turn hT
        replace Xa := Xa.turn hT (by omega)
        replace HB := HB.trans (hT.t.below (by omega))
        clear hT WA E0 E1 E2 F0 F1 N0 N1 X0 X1
        obtain ⟨c1Xa, c2Xa, c3Xa, c4Xa⟩ := Xa.cells2
        go_wp2_with fail
        refine (wSpoil WB (by omega)).mono ?_
        rintro e s6w ⟨rfl, hT⟩
        clear c1Xa c2Xa c3Xa c4Xa
        replace HB := HB.trans (hT.t.below (by omega))
        clear hT WB Xa
        go_wp2
        go_roundw
        case rel => exact ⟨k + 1, by omega, by go_num, HB⟩
        case measure => simp [intOf]; omega
      · skip
        refine rg_start (S := fun w' => Below y3.drew.heap.size y3.drew w') (by kernel_rfl) (Below.refl _ _) ?_
        replace N0 := N0.drew
        replace N1 := N1.drew
        replace P2 := P2.drew
        replace X0 := X0.drew
        replace X1 := X1.drew
        replace E0 := E0.drew
        replace E1 := E1.drew
        replace F0 := F0.drew
        replace F1 := F1.drew
        replace E2 := E2.drew
        replace WA := WA.drew
        replace WB := WB.drew
        replace Xa := Xa.drew
        replace Xr := Xr.drew
        replace QX := QX.drew
        replace HB := HB.drew
        have UP2 := P2
        have UXa := Xa
        have UXr := Xr
        have hS := Below.refl y3.drew.heap.size y3.drew
        refine rg_load 0 (some 79) (.agg #[.slice ax len0 dx, .slice ay len1 dy]) 30 14 (gr) 0 (by kernel_rfl) (by kernel_rfl) (by kernel_rfl) (fun _ hb => load_rat (UXr.keep hb)) (fun _ _ _ h => h) hS ?_
        refine rg_load 2 (some 81) (.agg #[.slice ax len0 dx, .slice ay len1 dy]) 30 14 (gr) 0 (by kernel_rfl) (by kernel_rfl) (by kernel_rfl) (fun _ hb => load_rat (UXr.keep hb)) (fun _ _ _ h => h) hS ?_
        refine rg_call 1 (some 80) 20 #[.agg #[.slice ax len0 dx, .slice ay len1 dy]] (by kernel_rfl) (by kernel_rfl) (cFloor QX (by omega)) ?_
        rintro e r14x1 ⟨Ag, Ng, Cg, rfl, Og, hog, hB⟩
        refine ⟨_, rfl, joinB hS hB, ?_⟩
        replace hS := joinB hS hB
        replace N0 := N0.keep hB
        replace N1 := N1.keep hB
        replace P2 := P2.keep hB
        replace X0 := X0.keep hB
        replace X1 := X1.keep hB
        replace E0 := E0.keep hB
        replace E1 := E1.keep hB
        replace F0 := F0.keep hB
        replace F1 := F1.keep hB
        replace E2 := E2.keep hB
        replace WA := WA.keep hB
        replace WB := WB.keep hB
        replace Xa := Xa.keep hB
        replace Xr := Xr.keep hB
        replace QX := QX.keep hB
        replace HB := joinB HB hB
        clear hB
        refine rg_call 3 (some 82) 43 #[.agg #[.slice ax len0 dx, .slice ay len1 dy]] (by kernel_rfl) (by kernel_rfl) (tFloor QX (by omega)) ?_
        rintro e r14x2 ⟨Ah, Nh, Ch, rfl, Oh, hoh, hB⟩
        refine ⟨_, rfl, joinB hS hB, ?_⟩
        replace hS := joinB hS hB
        replace N0 := N0.keep hB
        replace N1 := N1.keep hB
        replace P2 := P2.keep hB
        replace X0 := X0.keep hB
        replace X1 := X1.keep hB
        replace E0 := E0.keep hB
        replace E1 := E1.keep hB
        replace F0 := F0.keep hB
        replace F1 := F1.keep hB
        replace E2 := E2.keep hB
        replace WA := WA.keep hB
        replace WB := WB.keep hB
        replace Xa := Xa.keep hB
        replace Xr := Xr.keep hB
        replace QX := QX.keep hB
        replace Og := Og.keep hB
        replace HB := joinB HB hB
        clear hB
        refine rg_call 4 (some 83) 42 #[.slice Ag Ng Cg, .slice Ah Nh Ch] (by kernel_rfl) (by kernel_rfl) (nSameT Og Oh (by omega) (by omega)) ?_
        rintro e r14x3 ⟨rfl, hB⟩
        refine ⟨_, rfl, joinB hS hB, ?_⟩
        replace hS := joinB hS hB
        replace N0 := N0.keep hB
        replace N1 := N1.keep hB
        replace P2 := P2.keep hB
        replace X0 := X0.keep hB
        replace X1 := X1.keep hB
        replace E0 := E0.keep hB
        replace E1 := E1.keep hB
        replace F0 := F0.keep hB
        replace F1 := F1.keep hB
        replace E2 := E2.keep hB
        replace WA := WA.keep hB
        replace WB := WB.keep hB
        replace Xa := Xa.keep hB
        replace Xr := Xr.keep hB
        replace QX := QX.keep hB
        replace Og := Og.keep hB
        replace Oh := Oh.keep hB
        replace HB := joinB HB hB
        clear hB
        refine rg_take 5 (some 84) (.bool false) (by kernel_rfl) (fun _ _ => by kernel_rfl) (fun _ _ _ h => h) hS ?_
        refine rg_take 6 (some 85) (.bool false) (by kernel_rfl) (fun _ _ => by kernel_rfl) (fun _ _ _ h => h) hS ?_
        refine rg_load 7 (some 86) (.agg #[.slice ax len0 dx, .slice ay len1 dy]) 30 14 (gr) 0 (by kernel_rfl) (by kernel_rfl) (by kernel_rfl) (fun _ hb => load_rat (UXr.keep hb)) (fun _ _ _ h => h) hS ?_
        refine rg_load 9 (some 88) (.agg #[.slice ax len0 dx, .slice ay len1 dy]) 30 14 (gr) 0 (by kernel_rfl) (by kernel_rfl) (by kernel_rfl) (fun _ hb => load_rat (UXr.keep hb)) (fun _ _ _ h => h) hS ?_
        refine rg_call 8 (some 87) 29 #[.agg #[.slice ax len0 dx, .slice ay len1 dy]] (by kernel_rfl) (by kernel_rfl) (cDown QX (by omega)) ?_
        rintro e r14x4 ⟨Ai, Ni, Ci, rfl, Oi, hoi, hB⟩
        refine ⟨_, rfl, joinB hS hB, ?_⟩
        replace hS := joinB hS hB
        replace N0 := N0.keep hB
        replace N1 := N1.keep hB
        replace P2 := P2.keep hB
        replace X0 := X0.keep hB
        replace X1 := X1.keep hB
        replace E0 := E0.keep hB
        replace E1 := E1.keep hB
        replace F0 := F0.keep hB
        replace F1 := F1.keep hB
        replace E2 := E2.keep hB
        replace WA := WA.keep hB
        replace WB := WB.keep hB
        replace Xa := Xa.keep hB
        replace Xr := Xr.keep hB
        replace QX := QX.keep hB
        replace Og := Og.keep hB
        replace Oh := Oh.keep hB
        replace HB := joinB HB hB
        clear hB
        refine rg_call 10 (some 89) 44 #[.agg #[.slice ax len0 dx, .slice ay len1 dy]] (by kernel_rfl) (by kernel_rfl) (tDown QX (by omega)) ?_
        rintro e r14x5 ⟨Aj, Nj, Cj, rfl, Oj, hoj, hB⟩
        refine ⟨_, rfl, joinB hS hB, ?_⟩
        replace hS := joinB hS hB
        replace N0 := N0.keep hB
        replace N1 := N1.keep hB
        replace P2 := P2.keep hB
        replace X0 := X0.keep hB
        replace X1 := X1.keep hB
        replace E0 := E0.keep hB
        replace E1 := E1.keep hB
        replace F0 := F0.keep hB
        replace F1 := F1.keep hB
        replace E2 := E2.keep hB
        replace WA := WA.keep hB
        replace WB := WB.keep hB
        replace Xa := Xa.keep hB
        replace Xr := Xr.keep hB
        replace QX := QX.keep hB
        replace Og := Og.keep hB
        replace Oh := Oh.keep hB
        replace Oi := Oi.keep hB
        replace HB := joinB HB hB
        clear hB
        refine rg_call 11 (some 90) 36 #[.agg #[.slice Ai Ni Ci], .agg #[.slice Aj Nj Cj]] (by kernel_rfl) (by kernel_rfl) (sameDec Oi Oj (by omega) (by omega)) ?_
        rintro e r14x6 ⟨rfl, hB⟩
        refine ⟨_, rfl, joinB hS hB, ?_⟩
        replace hS := joinB hS hB
        replace N0 := N0.keep hB
        replace N1 := N1.keep hB
        replace P2 := P2.keep hB
        replace X0 := X0.keep hB
        replace X1 := X1.keep hB
        replace E0 := E0.keep hB
        replace E1 := E1.keep hB
        replace F0 := F0.keep hB
        replace F1 := F1.keep hB
        replace E2 := E2.keep hB
        replace WA := WA.keep hB
        replace WB := WB.keep hB
        replace Xa := Xa.keep hB
        replace Xr := Xr.keep hB
        replace QX := QX.keep hB
        replace Og := Og.keep hB
        replace Oh := Oh.keep hB
        replace Oi := Oi.keep hB
        replace Oj := Oj.keep hB
        replace HB := joinB HB hB
        clear hB
        refine rg_take 12 (some 91) (.bool false) (by kernel_rfl) (fun _ _ => by kernel_rfl) (fun _ _ _ h => h) hS ?_
        refine rg_take 13 (some 92) (.bool false) (by kernel_rfl) (fun _ _ => by kernel_rfl) (fun _ _ _ h => h) hS ?_
        refine rg_take 14 (some 93) (.bool false) (by kernel_rfl) (fun _ _ => by kernel_rfl) (fun _ _ _ h => h) hS ?_
        refine rg_load 15 (some 94) (.agg #[.slice ax len0 dx, .slice ay len1 dy]) 30 14 (gr) 0 (by kernel_rfl) (by kernel_rfl) (by kernel_rfl) (fun _ hb => load_rat (UXr.keep hb)) (fun _ _ _ h => h) hS ?_
        refine rg_load 17 (some 96) (.agg #[.slice ax len0 dx, .slice ay len1 dy]) 30 14 (gr) 0 (by kernel_rfl) (by kernel_rfl) (by kernel_rfl) (fun _ hb => load_rat (UXr.keep hb)) (fun _ _ _ h => h) hS ?_
        refine rg_call 16 (some 95) 24 #[.agg #[.slice ax len0 dx, .slice ay len1 dy]] (by kernel_rfl) (by kernel_rfl) (cZero QX (by omega) true hbz) ?_
        rintro e r14x7 ⟨rfl, hB⟩
        refine ⟨_, rfl, joinB hS hB, ?_⟩
        replace hS := joinB hS hB
        replace N0 := N0.keep hB
        replace N1 := N1.keep hB
        replace P2 := P2.keep hB
        replace X0 := X0.keep hB
        replace X1 := X1.keep hB
        replace E0 := E0.keep hB
        replace E1 := E1.keep hB
        replace F0 := F0.keep hB
        replace F1 := F1.keep hB
        replace E2 := E2.keep hB
        replace WA := WA.keep hB
        replace WB := WB.keep hB
        replace Xa := Xa.keep hB
        replace Xr := Xr.keep hB
        replace QX := QX.keep hB
        replace Og := Og.keep hB
        replace Oh := Oh.keep hB
        replace Oi := Oi.keep hB
        replace Oj := Oj.keep hB
        replace HB := joinB HB hB
        clear hB
        refine rg_call 18 (some 97) 45 #[.agg #[.slice ax len0 dx, .slice ay len1 dy]] (by kernel_rfl) (by kernel_rfl) (tZero QX (by omega) true hbz) ?_
        rintro e r14x8 ⟨rfl, hB⟩
        refine ⟨_, rfl, joinB hS hB, ?_⟩
        replace hS := joinB hS hB
        replace N0 := N0.keep hB
        replace N1 := N1.keep hB
        replace P2 := P2.keep hB
        replace X0 := X0.keep hB
        replace X1 := X1.keep hB
        replace E0 := E0.keep hB
        replace E1 := E1.keep hB
        replace F0 := F0.keep hB
        replace F1 := F1.keep hB
        replace E2 := E2.keep hB
        replace WA := WA.keep hB
        replace WB := WB.keep hB
        replace Xa := Xa.keep hB
        replace Xr := Xr.keep hB
        replace QX := QX.keep hB
        replace Og := Og.keep hB
        replace Oh := Oh.keep hB
        replace Oi := Oi.keep hB
        replace Oj := Oj.keep hB
        replace HB := joinB HB hB
        clear hB
        refine rg_take 19 (some 98) (.bool false) (by kernel_rfl) (fun _ _ => by kernel_rfl) (fun _ _ _ h => h) hS ?_
        refine rg_take 20 (some 99) (.bool false) (by kernel_rfl) (fun _ _ => by kernel_rfl) (fun _ _ _ h => h) hS ?_
        refine rg_take 21 (some 100) (.bool false) (by kernel_rfl) (fun _ _ => by kernel_rfl) (fun _ _ _ h => h) hS ?_
        refine rg_take 22 (some 101) (.slice ax len0 dx) (by kernel_rfl) (fun _ _ => by kernel_rfl) (fun _ _ _ h => h) hS ?_
        refine rg_take 23 (some 102) (.slice a0 len0 cap0) (by kernel_rfl) (fun _ _ => by kernel_rfl) (fun _ _ _ h => h) hS ?_
        refine rg_call 24 (some 103) 42 #[.slice ax len0 dx, .slice a0 len0 cap0] (by kernel_rfl) (by kernel_rfl) (lSame X0 N0 (by omega) (by omega)) ?_
        rintro e r14x9 ⟨rfl, hB⟩
        refine ⟨_, rfl, joinB hS hB, ?_⟩
        replace hS := joinB hS hB
        replace N0 := N0.keep hB
        replace N1 := N1.keep hB
        replace P2 := P2.keep hB
        replace X0 := X0.keep hB
        replace X1 := X1.keep hB
        replace E0 := E0.keep hB
        replace E1 := E1.keep hB
        replace F0 := F0.keep hB
        replace F1 := F1.keep hB
        replace E2 := E2.keep hB
        replace WA := WA.keep hB
        replace WB := WB.keep hB
        replace Xa := Xa.keep hB
        replace Xr := Xr.keep hB
        replace QX := QX.keep hB
        replace Og := Og.keep hB
        replace Oh := Oh.keep hB
        replace Oi := Oi.keep hB
        replace Oj := Oj.keep hB
        replace HB := joinB HB hB
        clear hB
        refine rg_take 25 (some 104) (.bool false) (by kernel_rfl) (fun _ _ => by kernel_rfl) (fun _ _ _ h => h) hS ?_
        refine rg_take 26 (some 105) (.bool false) (by kernel_rfl) (fun _ _ => by kernel_rfl) (fun _ _ _ h => h) hS ?_
        refine rg_take 27 (some 106) (.bool false) (by kernel_rfl) (fun _ _ => by kernel_rfl) (fun _ _ _ h => h) hS ?_
        refine rg_take 28 (some 107) (.slice ay len1 dy) (by kernel_rfl) (fun _ _ => by kernel_rfl) (fun _ _ _ h => h) hS ?_
        refine rg_take 29 (some 108) (.slice a1 len1 cap1) (by kernel_rfl) (fun _ _ => by kernel_rfl) (fun _ _ _ h => h) hS ?_
        refine rg_call 30 (some 109) 42 #[.slice ay len1 dy, .slice a1 len1 cap1] (by kernel_rfl) (by kernel_rfl) (lSame X1 N1 (by omega) (by omega)) ?_
        rintro e r14x10 ⟨rfl, hB⟩
        refine ⟨_, rfl, joinB hS hB, ?_⟩
        replace hS := joinB hS hB
        replace N0 := N0.keep hB
        replace N1 := N1.keep hB
        replace P2 := P2.keep hB
        replace X0 := X0.keep hB
        replace X1 := X1.keep hB
        replace E0 := E0.keep hB
        replace E1 := E1.keep hB
        replace F0 := F0.keep hB
        replace F1 := F1.keep hB
        replace E2 := E2.keep hB
        replace WA := WA.keep hB
        replace WB := WB.keep hB
        replace Xa := Xa.keep hB
        replace Xr := Xr.keep hB
        replace QX := QX.keep hB
        replace Og := Og.keep hB
        replace Oh := Oh.keep hB
        replace Oi := Oi.keep hB
        replace Oj := Oj.keep hB
        replace HB := joinB HB hB
        clear hB
        refine rg_take 31 (some 110) (.bool false) (by kernel_rfl) (fun _ _ => by kernel_rfl) (fun _ _ _ h => h) hS ?_
        refine rg_take 32 (some 111) (.bool false) (by kernel_rfl) (fun _ _ => by kernel_rfl) (fun _ _ _ h => h) hS ?_
        refine rg_done (by kernel_rfl) ?_
        clear hS UP2 UXa UXr
        try simp only [Act.put, List.setIfInBounds_toArray, List.set_cons_zero, List.set_cons_succ]
        clear Og Oh Oi Oj QX Xr P2
        obtain ⟨c1Xa, c2Xa, c3Xa, c4Xa⟩ := Xa.cells2
        go_wp2_with fail
        refine (wSpoil WA (by omega)).mono ?_
        rintro e s5w ⟨rfl, hT⟩
        clear c1Xa c2Xa c3Xa c4Xa
        replace WB := WB.turn hT
        replace Xa := Xa.turn hT (by omega)
        replace HB := HB.trans (hT.t.below (by omega))
        clear hT WA E0 E1 E2 F0 F1 N0 N1 X0 X1
        obtain ⟨c1Xa, c2Xa, c3Xa, c4Xa⟩ := Xa.cells2
        go_wp2_with fail
        refine (wSpoil WB (by omega)).mono ?_
        rintro e s6w ⟨rfl, hT⟩
        clear c1Xa c2Xa c3Xa c4Xa
        replace HB := HB.trans (hT.t.below (by omega))
        clear hT WB Xa
        go_wp2
        go_roundw
        case rel => exact ⟨k + 1, by omega, by go_num, HB⟩
        case measure => simp [intOf]; omega
end ratMade
end Go.Proofs.YtjihgkanbhccpaaGreatDoor
