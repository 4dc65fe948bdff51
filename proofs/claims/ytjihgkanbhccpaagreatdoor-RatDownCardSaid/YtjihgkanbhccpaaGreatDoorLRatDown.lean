/- gleanlaw3.RatDown returns true for every fraction and all decimals. -/
import Derived.Test.YtjihgkanbhccpaaGreatDoorJrb
import Derived.Test.YtjihgkanbhccpaaGreatDoorJda
namespace Go.Proofs.YtjihgkanbhccpaaGreatDoor
namespace ratDown
open Go.RowKit Lim

theorem cmpD {w : World} {ao ao' : Option Addr} {n c n' c' : Nat} {x y : Int} (h : NatA w ao n c x) (h' : NatA w ao' n' c' y) (hn : n ≤ 1099511627776) (hn' : n' ≤ 1099511627776) (r : Int) (hr : sgn x y = r) :
    Calls Tryz.prog 32 #[.agg #[.slice ao n c], .agg #[.slice ao' n' c']] w fun e w' => e = .returned (.int .i64 r) ∧ Below w.heap.size w w' := by
  have t := dCmp h h' hn hn'
  rw [hr] at t
  exact t
theorem zeroD {w : World} {ao : Option Addr} {n c : Nat} {x : Int} (h : NatA w ao n c x) (hn : n ≤ 1099511627776) (r : Bool) (hr : decide (x = 0) = r) :
    Calls Tryz.prog 33 #[.agg #[.slice ao n c]] w fun e w' => e = .returned (.bool r) ∧ Below w.heap.size w w' := by
  have t := dZero h hn
  rw [hr] at t
  exact t
theorem sameD {w : World} {ao ao' : Option Addr} {n c n' c' : Nat} {x : Int} (h : NatO w ao n c x) (h' : NatO w ao' n' c' x) (hn : n ≤ 4398046511104) (hn' : n' ≤ 4398046511104) :
    Calls Tryz.prog 36 #[.agg #[.slice ao n c], .agg #[.slice ao' n' c']] w fun e w' => e = .returned (.bool true) ∧ Below w.heap.size w w' := by
  have t := hDec h h' hn hn'
  rw [decide_eq_true rfl] at t
  exact t
set_option maxHeartbeats 16000000 in
set_option maxRecDepth 100000 in
theorem walk (a0 : Option Addr) (len0 cap0 : Nat) (z0 : List Int) (b0 : Option Addr) (ken0 dap0 : Nat) (y0 : List Int) (a1 : Option Addr) (len1 cap1 : Nat) (z1 : List Int) (a2 : Option Addr) (len2 cap2 : Nat) (z2 : List Int) (a3 : Option Addr) (len3 cap3 : Nat) (z3 : List Int) (w : World) (w0 : IsRow w a0 len0 cap0 z0) (x0 : IsRow w b0 ken0 dap0 y0) (w1 : IsRow w a1 len1 cap1 z1) (w2 : IsRow w a2 len2 cap2 z2) (w3 : IsRow w a3 len3 cap3 z3) :
    Calls Tryz.prog 6 #[.agg #[.slice a0 len0 cap0, .slice b0 ken0 dap0], .agg #[.slice a1 len1 cap1], .agg #[.slice a2 len2 cap2], .agg #[.slice a3 len3 cap3]] w fun e w' => e = .returned (.bool true) ∧ Below w.heap.size w w' := by
  obtain ⟨g0, o0, l0, hl0, hc0, hm0, W0, h0⟩ := w0.open
  have N0 : NatA w a0 len0 cap0 (val l0) := ⟨g0, o0, l0, hl0, hc0, W0, h0, rfl⟩
  clear h0 w0 W0 hl0
  obtain ⟨g0, o0, k0, hl0, hd0, hk0, W0, h0⟩ := x0.open
  have M0 : NatA w b0 ken0 dap0 (val k0) := ⟨g0, o0, k0, hl0, hd0, W0, h0, rfl⟩
  clear h0 x0 W0 hl0
  obtain ⟨g1, o1, l1, hl1, hc1, hm1, W1, h1⟩ := w1.open
  have N1 : NatA w a1 len1 cap1 (val l1) := ⟨g1, o1, l1, hl1, hc1, W1, h1, rfl⟩
  clear h1 w1 W1 hl1
  obtain ⟨g2, o2, l2, hl2, hc2, hm2, W2, h2⟩ := w2.open
  have N2 : NatA w a2 len2 cap2 (val l2) := ⟨g2, o2, l2, hl2, hc2, W2, h2, rfl⟩
  clear h2 w2 W2 hl2
  obtain ⟨g3, o3, l3, hl3, hc3, hm3, W3, h3⟩ := w3.open
  have N3 : NatA w a3 len3 cap3 (val l3) := ⟨g3, o3, l3, hl3, hc3, W3, h3, rfl⟩
  clear h3 w3 W3 hl3
  have HB := Below.refl w.heap.size w
  have P0 := box_new (w) [.slice a0 len0 cap0, .slice b0 ken0 dap0] 30
  have BA := below_alloc (w) (.cells #[.slice a0 len0 cap0, .slice b0 ken0 dap0] 30)
  replace N0 := N0.keep BA
  replace M0 := M0.keep BA
  replace N1 := N1.keep BA
  replace N2 := N2.keep BA
  replace N3 := N3.keep BA
  replace HB := joinB HB BA
  clear BA
  have P1 := box_new ((w).alloc (.cells #[.slice a0 len0 cap0, .slice b0 ken0 dap0] 30)) [.slice a1 len1 cap1] 46
  rw [show ((w).alloc (.cells #[.slice a0 len0 cap0, .slice b0 ken0 dap0] 30)).heap.size = w.heap.size + 1 by simp] at P1
  have BA := below_alloc ((w).alloc (.cells #[.slice a0 len0 cap0, .slice b0 ken0 dap0] 30)) (.cells #[.slice a1 len1 cap1] 46)
  replace N0 := N0.keep BA
  replace M0 := M0.keep BA
  replace N1 := N1.keep BA
  replace N2 := N2.keep BA
  replace N3 := N3.keep BA
  replace P0 := P0.keep BA
  replace HB := joinB HB BA
  clear BA
  have P2 := box_new (((w).alloc (.cells #[.slice a0 len0 cap0, .slice b0 ken0 dap0] 30)).alloc (.cells #[.slice a1 len1 cap1] 46)) [.slice a2 len2 cap2] 46
  rw [show (((w).alloc (.cells #[.slice a0 len0 cap0, .slice b0 ken0 dap0] 30)).alloc (.cells #[.slice a1 len1 cap1] 46)).heap.size = w.heap.size + 1 + 1 by simp] at P2
  have BA := below_alloc (((w).alloc (.cells #[.slice a0 len0 cap0, .slice b0 ken0 dap0] 30)).alloc (.cells #[.slice a1 len1 cap1] 46)) (.cells #[.slice a2 len2 cap2] 46)
  replace N0 := N0.keep BA
  replace M0 := M0.keep BA
  replace N1 := N1.keep BA
  replace N2 := N2.keep BA
  replace N3 := N3.keep BA
  replace P0 := P0.keep BA
  replace P1 := P1.keep BA
  replace HB := joinB HB BA
  clear BA
  have P3 := box_new ((((w).alloc (.cells #[.slice a0 len0 cap0, .slice b0 ken0 dap0] 30)).alloc (.cells #[.slice a1 len1 cap1] 46)).alloc (.cells #[.slice a2 len2 cap2] 46)) [.slice a3 len3 cap3] 46
  rw [show ((((w).alloc (.cells #[.slice a0 len0 cap0, .slice b0 ken0 dap0] 30)).alloc (.cells #[.slice a1 len1 cap1] 46)).alloc (.cells #[.slice a2 len2 cap2] 46)).heap.size = w.heap.size + 1 + 1 + 1 by simp] at P3
  have BA := below_alloc ((((w).alloc (.cells #[.slice a0 len0 cap0, .slice b0 ken0 dap0] 30)).alloc (.cells #[.slice a1 len1 cap1] 46)).alloc (.cells #[.slice a2 len2 cap2] 46)) (.cells #[.slice a3 len3 cap3] 46)
  replace N0 := N0.keep BA
  replace M0 := M0.keep BA
  replace N1 := N1.keep BA
  replace N2 := N2.keep BA
  replace N3 := N3.keep BA
  replace P0 := P0.keep BA
  replace P1 := P1.keep BA
  replace P2 := P2.keep BA
  replace HB := joinB HB BA
  clear BA
  go_enter Tryz.func6, Tryz.ntmps6
  go_wp2_with fail
  generalize (((w.alloc (.cells #[.slice a0 len0 cap0, .slice b0 ken0 dap0] 30)).alloc (.cells #[.slice a1 len1 cap1] 46)).alloc (.cells #[.slice a2 len2 cap2] 46)).alloc (.cells #[.slice a3 len3 cap3] 46) = u0 at *
  refine (knownQ u0).mono ?_
  rintro e u1 ⟨rfl, hB⟩
  replace N0 := N0.keep hB
  replace M0 := M0.keep hB
  replace N1 := N1.keep hB
  replace N2 := N2.keep hB
  replace N3 := N3.keep hB
  replace P0 := P0.keep hB
  replace P1 := P1.keep hB
  replace P2 := P2.keep hB
  replace P3 := P3.keep hB
  replace HB := joinB HB hB
  clear hB
  have bS := below_alloc u1 (.cells #[.slice a0 len0 cap0, .slice b0 ken0 dap0] 30)
  have tS := small1 (box_new u1 [.slice a0 len0 cap0, .slice b0 ken0 dap0] 30) hm0 hk0
  obtain ⟨c1P0, c2P0, c3P0, c4P0⟩ := P0.cells2
  have c1P1 := P1.slot.cell
  have c1P2 := P2.slot.cell
  have c1P3 := P3.slot.cell
  go_wp2_with fail
  refine tS.mono ?_
  rintro e u2 ⟨rfl, rfl⟩
  clear tS
  clear c1P0 c2P0 c3P0 c4P0 c1P1 c1P2 c1P3
  replace N0 := N0.keep bS
  replace M0 := M0.keep bS
  replace N1 := N1.keep bS
  replace N2 := N2.keep bS
  replace N3 := N3.keep bS
  replace P0 := P0.keep bS
  replace P1 := P1.keep bS
  replace P2 := P2.keep bS
  replace P3 := P3.keep bS
  replace HB := joinB HB bS
  clear bS
  generalize u1.alloc (.cells #[.slice a0 len0 cap0, .slice b0 ken0 dap0] 30) = u2 at *
  generalize u1.heap.size = gs at *
  by_cases hsm : len0 ≤ 12 ∧ ken0 ≤ 12
  rotate_left
  · rw [decide_eq_false hsm]
    go_wp2
    go_ret
    exact ⟨rfl, HB⟩
  rw [decide_eq_true hsm]
  obtain ⟨hs0, ht0⟩ := hsm
  by_cases hs1 : len1 ≤ 12
  rotate_left
  · have hs1' : (12 : Int) < len1 := by omega
    obtain ⟨c1P0, c2P0, c3P0, c4P0⟩ := P0.cells2
    have c1P1 := P1.slot.cell
    have c1P2 := P2.slot.cell
    have c1P3 := P3.slot.cell
    go_wp2
    go_ret
    exact ⟨rfl, HB⟩
  have hs1' : (len1 : Int) ≤ 12 := by omega
  by_cases hs2 : len2 ≤ 12
  rotate_left
  · have hs2' : (12 : Int) < len2 := by omega
    obtain ⟨c1P0, c2P0, c3P0, c4P0⟩ := P0.cells2
    have c1P1 := P1.slot.cell
    have c1P2 := P2.slot.cell
    have c1P3 := P3.slot.cell
    go_wp2
    go_ret
    exact ⟨rfl, HB⟩
  have hs2' : (len2 : Int) ≤ 12 := by omega
  by_cases hs3 : len3 ≤ 12
  rotate_left
  · have hs3' : (12 : Int) < len3 := by omega
    obtain ⟨c1P0, c2P0, c3P0, c4P0⟩ := P0.cells2
    have c1P1 := P1.slot.cell
    have c1P2 := P2.slot.cell
    have c1P3 := P3.slot.cell
    go_wp2
    go_ret
    exact ⟨rfl, HB⟩
  have hs3' : (len3 : Int) ≤ 12 := by omega
  have Q0 := qv_in N0 M0 hs0 ht0
  clear N0 M0 hs0 ht0 hm0 hk0 hc0 hd0
  generalize cn (val l0) (val k0) = p0 at *
  generalize cd (val k0) = q0 at *
  have hq0 := Q0.q0
  have hp0 := Q0.p0
  generalize val l1 = xx1 at *
  clear hm1 hc1
  generalize val l2 = xx2 at *
  clear hm2 hc2
  generalize val l3 = xx3 at *
  clear hm3 hc3
  obtain ⟨c1P0, c2P0, c3P0, c4P0⟩ := P0.cells2
  have c1P1 := P1.slot.cell
  have c1P2 := P2.slot.cell
  have c1P3 := P3.slot.cell
  go_wp2_with fail
  refine (cDown Q0 (by omega)).mono ?_
  rintro e x1 ⟨Ad, Nd, Cd, rfl, Od, hod, hB⟩
  clear c1P0 c2P0 c3P0 c4P0 c1P1 c1P2 c1P3
  replace N1 := N1.keep hB
  replace N2 := N2.keep hB
  replace N3 := N3.keep hB
  replace P0 := P0.keep hB
  replace P1 := P1.keep hB
  replace P2 := P2.keep hB
  replace P3 := P3.keep hB
  replace Q0 := Q0.keep hB
  replace HB := joinB HB hB
  clear hB
  have BA := below_alloc x1 (.cells #[.slice Ad Nd Cd] 46)
  have Xd := box_new x1 [.slice Ad Nd Cd] 46
  replace N1 := N1.keep BA
  replace N2 := N2.keep BA
  replace N3 := N3.keep BA
  replace P0 := P0.keep BA
  replace P1 := P1.keep BA
  replace P2 := P2.keep BA
  replace P3 := P3.keep BA
  replace Q0 := Q0.keep BA
  replace Od := Od.keep BA
  replace HB := joinB HB BA
  clear BA
  obtain ⟨c1P0, c2P0, c3P0, c4P0⟩ := P0.cells2
  have c1P1 := P1.slot.cell
  have c1P2 := P2.slot.cell
  have c1P3 := P3.slot.cell
  have c1Xd := Xd.slot.cell
  go_wp2_with fail
  clear c1P0 c2P0 c3P0 c4P0 c1P1 c1P2 c1P3 c1Xd
  generalize x1.alloc (.cells #[.slice Ad Nd Cd] 46) = y1 at *
  generalize x1.heap.size = gd at *
  refine (nOf (x := 1) (by decide) (by decide)).mono ?_
  rintro e x2n ⟨Ab, Nb, Cb, rfl, Ob, hob, hB⟩
  replace N1 := N1.keep hB
  replace N2 := N2.keep hB
  replace N3 := N3.keep hB
  replace P0 := P0.keep hB
  replace P1 := P1.keep hB
  replace P2 := P2.keep hB
  replace P3 := P3.keep hB
  replace Q0 := Q0.keep hB
  replace Od := Od.keep hB
  replace Xd := Xd.keep hB
  replace HB := joinB HB hB
  clear hB
  have BA := below_alloc x2n (.cells #[.slice Ab Nb Cb] 46)
  have Xb := box_new x2n [.slice Ab Nb Cb] 46
  replace N1 := N1.keep BA
  replace N2 := N2.keep BA
  replace N3 := N3.keep BA
  replace P0 := P0.keep BA
  replace P1 := P1.keep BA
  replace P2 := P2.keep BA
  replace P3 := P3.keep BA
  replace Q0 := Q0.keep BA
  replace Od := Od.keep BA
  replace Xd := Xd.keep BA
  replace Ob := Ob.keep BA
  replace HB := joinB HB BA
  clear BA
  obtain ⟨c1P0, c2P0, c3P0, c4P0⟩ := P0.cells2
  have c1P1 := P1.slot.cell
  have c1P2 := P2.slot.cell
  have c1P3 := P3.slot.cell
  have c1Xd := Xd.slot.cell
  have c1Xb := Xb.slot.cell
  go_wp2_with fail
  clear c1P0 c2P0 c3P0 c4P0 c1P1 c1P2 c1P3 c1Xd c1Xb
  generalize x2n.alloc (.cells #[.slice Ab Nb Cb] 46) = y2 at *
  generalize x2n.heap.size = gb at *
  obtain ⟨s1, hs1n⟩ : ∃ s, sgn (p0 * U36 / q0 * q0) (p0 * U36) = s := ⟨_, rfl⟩
  have h1 : ¬ (0 : Int) < s1 := by
    have := sgn_le (Int.ediv_mul_le (p0 * U36) (by omega : q0 ≠ 0))
    rw [hs1n] at this; omega
  have h2 : sgn ((p0 * U36 / q0 + 1) * q0) (p0 * U36) = 1 := sgn_gt (Int.lt_ediv_add_one_mul_self (p0 * U36) hq0)
  have h3 : xx1 * U36 / U36 = xx1 := Int.mul_ediv_cancel xx1 (by decide)
  generalize hdd : p0 * U36 / q0 = dd at *
  have hdd := (show Hid _ from hdd)
  refine rg_start (S := fun w' => Below y2.drew.heap.size y2.drew w') (by kernel_rfl) (Below.refl _ _) ?_
  replace N1 := N1.drew
  replace N2 := N2.drew
  replace N3 := N3.drew
  replace P0 := P0.drew
  replace P1 := P1.drew
  replace P2 := P2.drew
  replace P3 := P3.drew
  replace Q0 := Q0.drew
  replace Od := Od.drew
  replace Xd := Xd.drew
  replace Ob := Ob.drew
  replace Xb := Xb.drew
  replace HB := HB.drew
  have UP0 := P0
  have UP1 := P1
  have UP2 := P2
  have UP3 := P3
  have UXd := Xd
  have UXb := Xb
  have hS := Below.refl y2.drew.heap.size y2.drew
  refine rg_load 0 (some 45) (.agg #[.slice Ad Nd Cd]) 46 9 (gd) 0 (by kernel_rfl) (by kernel_rfl) (by kernel_rfl) (fun _ hb => load_dec ((UXd.keep hb).slot)) (fun _ _ _ h => h) hS ?_
  refine rg_load 2 (some 47) (.agg #[.slice a0 len0 cap0, .slice b0 ken0 dap0]) 30 4 (w.heap.size) 0 (by kernel_rfl) (by kernel_rfl) (by kernel_rfl) (fun _ hb => load_rat (UP0.keep hb)) (fun _ _ _ h => h) hS ?_
  refine rg_call 1 (some 46) 30 #[.agg #[.slice Ad Nd Cd]] (by kernel_rfl) (by kernel_rfl) (cOfDec (B := 60) Od.a (by omega) (by omega) (by omega)) ?_
  rintro e r7x1 ⟨Ae, Ne, Ce, Be, Me, De, rfl, Qe, hB⟩
  refine ⟨_, rfl, joinB hS hB, ?_⟩
  replace hS := joinB hS hB
  replace N1 := N1.keep hB
  replace N2 := N2.keep hB
  replace N3 := N3.keep hB
  replace P0 := P0.keep hB
  replace P1 := P1.keep hB
  replace P2 := P2.keep hB
  replace P3 := P3.keep hB
  replace Q0 := Q0.keep hB
  replace Od := Od.keep hB
  replace Xd := Xd.keep hB
  replace Ob := Ob.keep hB
  replace Xb := Xb.keep hB
  replace HB := joinB HB hB
  clear hB
  refine rg_call 3 (some 48) 19 #[.agg #[.slice Ae Ne Ce, .slice Be Me De], .agg #[.slice a0 len0 cap0, .slice b0 ken0 dap0]] (by kernel_rfl) (by kernel_rfl) (cCmp Qe.v (Q0.up (by omega)) (by omega) s1 hs1n) ?_
  rintro e r7x2 ⟨rfl, hB⟩
  refine ⟨_, rfl, joinB hS hB, ?_⟩
  replace hS := joinB hS hB
  replace N1 := N1.keep hB
  replace N2 := N2.keep hB
  replace N3 := N3.keep hB
  replace P0 := P0.keep hB
  replace P1 := P1.keep hB
  replace P2 := P2.keep hB
  replace P3 := P3.keep hB
  replace Q0 := Q0.keep hB
  replace Od := Od.keep hB
  replace Xd := Xd.keep hB
  replace Ob := Ob.keep hB
  replace Xb := Xb.keep hB
  replace Qe := Qe.keep hB
  replace HB := joinB HB hB
  clear hB
  refine rg_eq 4 (some 49) (.bool (decide ((0 : Int) < (s1 : Int)))) (.bool false) (by rw [decide_eq_false h1]) (by kernel_rfl) (fun _ _ => by kernel_rfl) (fun _ _ _ h => h) hS ?_
  refine rg_take 5 (some 50) (.bool false) (by kernel_rfl) (fun _ _ => by kernel_rfl) (fun _ _ _ h => h) hS ?_
  refine rg_load 6 (some 51) (.agg #[.slice Ad Nd Cd]) 46 9 (gd) 0 (by kernel_rfl) (by kernel_rfl) (by kernel_rfl) (fun _ hb => load_dec ((UXd.keep hb).slot)) (fun _ _ _ h => h) hS ?_
  refine rg_load 7 (some 52) (.agg #[.slice Ab Nb Cb]) 46 10 (gb) 0 (by kernel_rfl) (by kernel_rfl) (by kernel_rfl) (fun _ hb => load_dec ((UXb.keep hb).slot)) (fun _ _ _ h => h) hS ?_
  refine rg_load 10 (some 55) (.agg #[.slice a0 len0 cap0, .slice b0 ken0 dap0]) 30 4 (w.heap.size) 0 (by kernel_rfl) (by kernel_rfl) (by kernel_rfl) (fun _ hb => load_rat (UP0.keep hb)) (fun _ _ _ h => h) hS ?_
  refine rg_call 8 (some 53) 31 #[.agg #[.slice Ad Nd Cd], .agg #[.slice Ab Nb Cb]] (by kernel_rfl) (by kernel_rfl) (dAdd Od.a Ob.a (by omega) (by omega)) ?_
  rintro e r7x3 ⟨Af, Nf, Cf, rfl, Of, hof, hB⟩
  refine ⟨_, rfl, joinB hS hB, ?_⟩
  replace hS := joinB hS hB
  replace N1 := N1.keep hB
  replace N2 := N2.keep hB
  replace N3 := N3.keep hB
  replace P0 := P0.keep hB
  replace P1 := P1.keep hB
  replace P2 := P2.keep hB
  replace P3 := P3.keep hB
  replace Q0 := Q0.keep hB
  replace Od := Od.keep hB
  replace Xd := Xd.keep hB
  replace Ob := Ob.keep hB
  replace Xb := Xb.keep hB
  replace Qe := Qe.keep hB
  replace HB := joinB HB hB
  clear hB
  refine rg_call 9 (some 54) 30 #[.agg #[.slice Af Nf Cf]] (by kernel_rfl) (by kernel_rfl) (cOfDec (B := 60) Of.a (by omega) (by omega) (by omega)) ?_
  rintro e r7x4 ⟨Ag, Ng, Cg, Bg, Mg, Dg, rfl, Qg, hB⟩
  refine ⟨_, rfl, joinB hS hB, ?_⟩
  replace hS := joinB hS hB
  replace N1 := N1.keep hB
  replace N2 := N2.keep hB
  replace N3 := N3.keep hB
  replace P0 := P0.keep hB
  replace P1 := P1.keep hB
  replace P2 := P2.keep hB
  replace P3 := P3.keep hB
  replace Q0 := Q0.keep hB
  replace Od := Od.keep hB
  replace Xd := Xd.keep hB
  replace Ob := Ob.keep hB
  replace Xb := Xb.keep hB
  replace Qe := Qe.keep hB
  replace Of := Of.keep hB
  replace HB := joinB HB hB
  clear hB
  refine rg_call 11 (some 56) 19 #[.agg #[.slice Ag Ng Cg, .slice Bg Mg Dg], .agg #[.slice a0 len0 cap0, .slice b0 ken0 dap0]] (by kernel_rfl) (by kernel_rfl) (cCmp Qg.v (Q0.up (by omega)) (by omega) 1 h2) ?_
  rintro e r7x5 ⟨rfl, hB⟩
  refine ⟨_, rfl, joinB hS hB, ?_⟩
  replace hS := joinB hS hB
  replace N1 := N1.keep hB
  replace N2 := N2.keep hB
  replace N3 := N3.keep hB
  replace P0 := P0.keep hB
  replace P1 := P1.keep hB
  replace P2 := P2.keep hB
  replace P3 := P3.keep hB
  replace Q0 := Q0.keep hB
  replace Od := Od.keep hB
  replace Xd := Xd.keep hB
  replace Ob := Ob.keep hB
  replace Xb := Xb.keep hB
  replace Qe := Qe.keep hB
  replace Of := Of.keep hB
  replace Qg := Qg.keep hB
  replace HB := joinB HB hB
  clear hB
  refine rg_take 12 (some 57) (.bool false) (by kernel_rfl) (fun _ _ => by kernel_rfl) (fun _ _ _ h => h) hS ?_
  refine rg_take 13 (some 58) (.bool false) (by kernel_rfl) (fun _ _ => by kernel_rfl) (fun _ _ _ h => h) hS ?_
  refine rg_take 14 (some 59) (.bool false) (by kernel_rfl) (fun _ _ => by kernel_rfl) (fun _ _ _ h => h) hS ?_
  refine rg_load 15 (some 60) (.agg #[.slice a1 len1 cap1]) 46 5 (w.heap.size + 1) 0 (by kernel_rfl) (by kernel_rfl) (by kernel_rfl) (fun _ hb => load_dec ((UP1.keep hb).slot)) (fun _ _ _ h => h) hS ?_
  refine rg_load 18 (some 63) (.agg #[.slice a1 len1 cap1]) 46 5 (w.heap.size + 1) 0 (by kernel_rfl) (by kernel_rfl) (by kernel_rfl) (fun _ hb => load_dec ((UP1.keep hb).slot)) (fun _ _ _ h => h) hS ?_
  refine rg_call 16 (some 61) 30 #[.agg #[.slice a1 len1 cap1]] (by kernel_rfl) (by kernel_rfl) (cOfDec (B := 60) N1 (by omega) (by omega) (by omega)) ?_
  rintro e r7x6 ⟨Ah, Nh, Ch, Bh, Mh, Dh, rfl, Qh, hB⟩
  refine ⟨_, rfl, joinB hS hB, ?_⟩
  replace hS := joinB hS hB
  replace N1 := N1.keep hB
  replace N2 := N2.keep hB
  replace N3 := N3.keep hB
  replace P0 := P0.keep hB
  replace P1 := P1.keep hB
  replace P2 := P2.keep hB
  replace P3 := P3.keep hB
  replace Q0 := Q0.keep hB
  replace Od := Od.keep hB
  replace Xd := Xd.keep hB
  replace Ob := Ob.keep hB
  replace Xb := Xb.keep hB
  replace Qe := Qe.keep hB
  replace Of := Of.keep hB
  replace Qg := Qg.keep hB
  replace HB := joinB HB hB
  clear hB
  refine rg_call 17 (some 62) 29 #[.agg #[.slice Ah Nh Ch, .slice Bh Mh Dh]] (by kernel_rfl) (by kernel_rfl) (cDown Qh.v (by omega)) ?_
  rintro e r7x7 ⟨Ai, Ni, Ci, rfl, Oi, hoi, hB⟩
  refine ⟨_, rfl, joinB hS hB, ?_⟩
  replace hS := joinB hS hB
  replace N1 := N1.keep hB
  replace N2 := N2.keep hB
  replace N3 := N3.keep hB
  replace P0 := P0.keep hB
  replace P1 := P1.keep hB
  replace P2 := P2.keep hB
  replace P3 := P3.keep hB
  replace Q0 := Q0.keep hB
  replace Od := Od.keep hB
  replace Xd := Xd.keep hB
  replace Ob := Ob.keep hB
  replace Xb := Xb.keep hB
  replace Qe := Qe.keep hB
  replace Of := Of.keep hB
  replace Qg := Qg.keep hB
  replace Qh := Qh.keep hB
  replace HB := joinB HB hB
  clear hB
  replace Oi := Oi.eqv h3
  refine rg_call 19 (some 64) 32 #[.agg #[.slice Ai Ni Ci], .agg #[.slice a1 len1 cap1]] (by kernel_rfl) (by kernel_rfl) (cmpD Oi.a N1 (by omega) (by omega) 0 (sgn_eq rfl)) ?_
  rintro e r7x8 ⟨rfl, hB⟩
  refine ⟨_, rfl, joinB hS hB, ?_⟩
  replace hS := joinB hS hB
  replace N1 := N1.keep hB
  replace N2 := N2.keep hB
  replace N3 := N3.keep hB
  replace P0 := P0.keep hB
  replace P1 := P1.keep hB
  replace P2 := P2.keep hB
  replace P3 := P3.keep hB
  replace Q0 := Q0.keep hB
  replace Od := Od.keep hB
  replace Xd := Xd.keep hB
  replace Ob := Ob.keep hB
  replace Xb := Xb.keep hB
  replace Qe := Qe.keep hB
  replace Of := Of.keep hB
  replace Qg := Qg.keep hB
  replace Qh := Qh.keep hB
  replace Oi := Oi.keep hB
  replace HB := joinB HB hB
  clear hB
  refine rg_take 20 (some 65) (.bool false) (by kernel_rfl) (fun _ _ => by kernel_rfl) (fun _ _ _ h => h) hS ?_
  refine rg_take 21 (some 66) (.bool false) (by kernel_rfl) (fun _ _ => by kernel_rfl) (fun _ _ _ h => h) hS ?_
  refine rg_done (by kernel_rfl) ?_
  clear hS UP0 UP1 UP2 UP3 UXd UXb
  try simp only [Act.put, List.setIfInBounds_toArray, List.set_cons_zero, List.set_cons_succ]
  clear P0 Xd Xb Q0 Od Ob Qe Of Qg Qh Oi
  clear h1 h2 h3 hs1n hdd
  by_cases hz : xx2 = 0
  · have tz := (decide_eq_true hz)
    have c1P1 := P1.slot.cell
    have c1P2 := P2.slot.cell
    have c1P3 := P3.slot.cell
    go_wp2_with fail
    refine (zeroD N2 (by omega) _ tz).mono ?_
    rintro e x3 ⟨rfl, hB⟩
    clear c1P1 c1P2 c1P3
    replace N1 := N1.keep hB
    replace N2 := N2.keep hB
    replace N3 := N3.keep hB
    replace P1 := P1.keep hB
    replace P2 := P2.keep hB
    replace P3 := P3.keep hB
    replace HB := joinB HB hB
    clear hB
    have c1P1 := P1.slot.cell
    have c1P2 := P2.slot.cell
    have c1P3 := P3.slot.cell
    go_wp2
    go_ret
    exact ⟨rfl, HB⟩
  · have tz := (decide_eq_false hz)
    have hx2 : 0 < xx2 := by have := N2.nonneg; omega
    have hx1 := N1.nonneg
    have hx3 := N3.nonneg
    have c1P1 := P1.slot.cell
    have c1P2 := P2.slot.cell
    have c1P3 := P3.slot.cell
    go_wp2_with fail
    refine (zeroD N2 (by omega) _ tz).mono ?_
    rintro e x3 ⟨rfl, hB⟩
    clear c1P1 c1P2 c1P3
    replace N1 := N1.keep hB
    replace N2 := N2.keep hB
    replace N3 := N3.keep hB
    replace P1 := P1.keep hB
    replace P2 := P2.keep hB
    replace P3 := P3.keep hB
    replace HB := joinB HB hB
    clear hB
    clear tz
    have c1P1 := P1.slot.cell
    have c1P2 := P2.slot.cell
    have c1P3 := P3.slot.cell
    go_wp2_with fail
    refine (dQuo N1 (by omega) N2 (by omega) hz).mono ?_
    rintro e x4 ⟨Aq, Nq, Cq, rfl, Oq, hoq, hB⟩
    clear c1P1 c1P2 c1P3
    replace N1 := N1.keep hB
    replace N2 := N2.keep hB
    replace N3 := N3.keep hB
    replace P1 := P1.keep hB
    replace P2 := P2.keep hB
    replace P3 := P3.keep hB
    replace HB := joinB HB hB
    clear hB
    have BA := below_alloc x4 (.cells #[.slice Aq Nq Cq] 46)
    have Xq := box_new x4 [.slice Aq Nq Cq] 46
    replace N1 := N1.keep BA
    replace N2 := N2.keep BA
    replace N3 := N3.keep BA
    replace P1 := P1.keep BA
    replace P2 := P2.keep BA
    replace P3 := P3.keep BA
    replace Oq := Oq.keep BA
    replace HB := joinB HB BA
    clear BA
    have c1P1 := P1.slot.cell
    have c1P2 := P2.slot.cell
    have c1P3 := P3.slot.cell
    have c1Xq := Xq.slot.cell
    go_wp2_with fail
    clear c1P1 c1P2 c1P3 c1Xq
    generalize x4.alloc (.cells #[.slice Aq Nq Cq] 46) = y3 at *
    generalize x4.heap.size = gq at *
    refine rg_mid (X := Nat × Option Addr × Nat × Nat × Option Addr × Nat × Nat × Option Addr × Nat × Nat × Option Addr × Nat × Nat × Option Addr × Nat × Nat × Option Addr × Nat × Nat) (fun ⟨g13, Ar, Nr, Cr, Br, Mr, Dr, As, Ns, Cs, Bs, Ms, Ds, At, Nt, Ct, Bt, Mt, Dt⟩ => [(some 76, .agg #[.slice a1 len1 cap1]), (some 77, .agg #[.slice Ar Nr Cr, .slice Br Mr Dr]), (some 78, .agg #[.slice a2 len2 cap2]), (some 79, .agg #[.slice As Ns Cs, .slice Bs Ms Ds]), (some 80, .tuple #[.agg #[.slice At Nt Ct, .slice Bt Mt Dt], .int .i64 0]), (some 75, .tuple #[.agg #[.slice At Nt Ct, .slice Bt Mt Dt], .int .i64 0]), (some 81, .agg #[.slice At Nt Ct, .slice Bt Mt Dt]), (some 82, .int .i64 0), (some 13, .pointer (some ⟨g13, 0, none⟩)), (some 14, .int .i64 0)]) (fun ⟨g13, Ar, Nr, Cr, Br, Mr, Dr, As, Ns, Cs, Bs, Ms, Ds, At, Nt, Ct, Bt, Mt, Dt⟩ w' => Box w' g13 [.slice At Nt Ct, .slice Bt Mt Dt] 30 ∧ y3.heap.size ≤ g13 ∧ QR w' Ar Nr Cr Br Mr Dr (xx1) (U36) 60 ∧ QR w' As Ns Cs Bs Ms Ds (xx2) (U36) 60 ∧ QR w' At Nt Ct Bt Mt Dt (xx1 * U36) (U36 * xx2) (2 * 60 + 2) ∧ NatA w' a1 len1 cap1 xx1 ∧ NatA w' a2 len2 cap2 xx2 ∧ NatA w' a3 len3 cap3 xx3 ∧ Box w' (w.heap.size + 1) [.slice a1 len1 cap1] 46 ∧ Box w' (w.heap.size + 1 + 1) [.slice a2 len2 cap2] 46 ∧ Box w' (w.heap.size + 1 + 1 + 1) [.slice a3 len3 cap3] 46 ∧ NatO w' Aq Nq Cq (xx1 * U36 / xx2) ∧ Box w' (gq) [.slice Aq Nq Cq] 46 ∧ Below w.heap.size w w') (fun w' => Below y3.drew.heap.size y3.drew w') (by kernel_rfl) (Below.refl _ _) ?_ ?_
    · replace N1 := N1.drew
      replace N2 := N2.drew
      replace N3 := N3.drew
      replace P1 := P1.drew
      replace P2 := P2.drew
      replace P3 := P3.drew
      replace Oq := Oq.drew
      replace Xq := Xq.drew
      replace HB := HB.drew
      have hBu := HB.size
      have UP1 := P1
      have hP1u := P1.lt
      have UP2 := P2
      have hP2u := P2.lt
      have UP3 := P3
      have hP3u := P3.lt
      have UXq := Xq
      have hXqu := Xq.lt
      have hS := Below.refl y3.drew.heap.size y3.drew
      refine rg_load 0 (some 76) (.agg #[.slice a1 len1 cap1]) 46 5 (w.heap.size + 1) 0 (by kernel_rfl) (by kernel_rfl) (by kernel_rfl) (fun _ hb => load_dec ((UP1.keep hb).slot)) (fun _ _ _ h => h) hS ?_
      refine rg_load 2 (some 78) (.agg #[.slice a2 len2 cap2]) 46 6 (w.heap.size + 1 + 1) 0 (by kernel_rfl) (by kernel_rfl) (by kernel_rfl) (fun _ hb => load_dec ((UP2.keep hb).slot)) (fun _ _ _ h => h) hS ?_
      refine rg_ready [1, 8] (by kernel_rfl) (by simp) ?_
      refine ar_call 1 (some 77) 30 #[.agg #[.slice a1 len1 cap1]] (by kernel_rfl) (by kernel_rfl) (cOfDec (B := 60) N1 (by omega) (by omega) (by omega)) ?_ ?_
      · rintro e v12x18 ⟨Ar, Nr, Cr, Br, Mr, Dr, rfl, Qr, hB⟩
        refine ⟨_, rfl, joinB hS hB, ?_⟩
        replace hS := joinB hS hB
        replace HB := joinB HB hB
        replace N1 := N1.keep hB
        replace N2 := N2.keep hB
        replace N3 := N3.keep hB
        replace Oq := Oq.keep hB
        replace P1 := P1.keep hB
        replace P2 := P2.keep hB
        replace P3 := P3.keep hB
        replace Xq := Xq.keep hB
        clear hB
        refine rg_ready [3, 8] (by kernel_rfl) (by simp) ?_
        refine ar_call 3 (some 79) 30 #[.agg #[.slice a2 len2 cap2]] (by kernel_rfl) (by kernel_rfl) (cOfDec (B := 60) N2 (by omega) (by omega) (by omega)) ?_ ?_
        · rintro e v12x19 ⟨As, Ns, Cs, Bs, Ms, Ds, rfl, Qs, hB⟩
          refine ⟨_, rfl, joinB hS hB, ?_⟩
          replace hS := joinB hS hB
          replace HB := joinB HB hB
          replace N1 := N1.keep hB
          replace N2 := N2.keep hB
          replace N3 := N3.keep hB
          replace Oq := Oq.keep hB
          replace Qr := Qr.keep hB
          replace P1 := P1.keep hB
          replace P2 := P2.keep hB
          replace P3 := P3.keep hB
          replace Xq := Xq.keep hB
          clear hB
          refine rg_ready [4, 8] (by kernel_rfl) (by simp) ?_
          refine ar_call 4 (some 80) 28 #[.agg #[.slice Ar Nr Cr, .slice Br Mr Dr], .agg #[.slice As Ns Cs, .slice Bs Ms Ds]] (by kernel_rfl) (by kernel_rfl) (cQuo Qr.v Qs.v (by omega) hz) ?_ ?_
          · rintro e v12x20 ⟨At, Nt, Ct, Bt, Mt, Dt, rfl, Qt, hB⟩
            refine ⟨_, rfl, joinB hS hB, ?_⟩
            replace hS := joinB hS hB
            replace HB := joinB HB hB
            replace N1 := N1.keep hB
            replace N2 := N2.keep hB
            replace N3 := N3.keep hB
            replace Oq := Oq.keep hB
            replace Qr := Qr.keep hB
            replace Qs := Qs.keep hB
            replace P1 := P1.keep hB
            replace P2 := P2.keep hB
            replace P3 := P3.keep hB
            replace Xq := Xq.keep hB
            clear hB
            refine rg_take 5 (some 75) (.tuple #[.agg #[.slice At Nt Ct, .slice Bt Mt Dt], .int .i64 0]) (by kernel_rfl) (fun _ _ => by kernel_rfl) (fun _ _ _ h => h) hS ?_
            refine rg_take 6 (some 81) (.agg #[.slice At Nt Ct, .slice Bt Mt Dt]) (by kernel_rfl) (fun _ _ => by kernel_rfl) (fun _ _ _ h => h) hS ?_
            refine rg_take 7 (some 82) (.int .i64 0) (by kernel_rfl) (fun _ _ => by kernel_rfl) (fun _ _ _ h => h) hS ?_
            refine rg_ready [8] (by kernel_rfl) (by simp) ?_
            refine ar_alloc 8 (some 13) 30 [.slice none 0 0, .slice none 0 0] (by kernel_rfl) (by kernel_rfl) ?_ ?_
            · intro v12x21 X13 hB
              refine ⟨joinB hS hB, ?_⟩
              have hX13 := hS.size
              replace hS := joinB hS hB
              replace HB := joinB HB hB
              replace N1 := N1.keep hB
              replace N2 := N2.keep hB
              replace N3 := N3.keep hB
              replace Oq := Oq.keep hB
              replace Qr := Qr.keep hB
              replace Qs := Qs.keep hB
              replace Qt := Qt.keep hB
              replace P1 := P1.keep hB
              replace P2 := P2.keep hB
              replace P3 := P3.keep hB
              replace Xq := Xq.keep hB
              clear hB
              refine rg_ready [9] (by kernel_rfl) (by simp) ?_
              refine ar_store 9 30 30 13 81 (v12x20.heap.size) [.slice none 0 0, .slice none 0 0] [.slice At Nt Ct, .slice Bt Mt Dt] (by kernel_rfl) (by kernel_rfl) (by kernel_rfl) (by kernel_rfl) X13 (by kernel_rfl) rfl (by kernel_rfl) ?_ ?_
              · intro v12x22 Y hw hB
                refine ⟨hS.trans (hB.mono hX13), ?_⟩
                replace HB := HB.trans (hB.mono (Nat.le_trans hBu hX13))
                replace hS := hS.trans (hB.mono hX13)
                replace N1 := N1.blk X13 (no_ints2 _ _ _ _ _ _) hw
                replace N2 := N2.blk X13 (no_ints2 _ _ _ _ _ _) hw
                replace N3 := N3.blk X13 (no_ints2 _ _ _ _ _ _) hw
                replace Oq := Oq.blk X13 (no_ints2 _ _ _ _ _ _) hw
                replace Qr := Qr.blk X13 (no_ints2 _ _ _ _ _ _) hw
                replace Qs := Qs.blk X13 (no_ints2 _ _ _ _ _ _) hw
                replace Qt := Qt.blk X13 (no_ints2 _ _ _ _ _ _) hw
                replace P1 := P1.off (by omega) hw
                replace P2 := P2.off (by omega) hw
                replace P3 := P3.off (by omega) hw
                replace Xq := Xq.off (by omega) hw
                replace X13 := Y
                clear hB hw
                refine rg_take 10 (some 14) (.int .i64 0) (by kernel_rfl) (fun _ _ => by kernel_rfl) (fun _ _ _ h => h) hS ?_
                refine rg_done (by kernel_rfl) ?_
                exact ⟨(v12x20.heap.size, Ar, Nr, Cr, Br, Mr, Dr, As, Ns, Cs, Bs, Ms, Ds, At, Nt, Ct, Bt, Mt, Dt), by kernel_rfl, X13, hX13, Qr, Qs, Qt, N1, N2, N3, P1, P2, P3, Oq, Xq, HB⟩
              exact ar_nil
            exact ar_nil
          refine ar_alloc 8 (some 13) 30 [.slice none 0 0, .slice none 0 0] (by kernel_rfl) (by kernel_rfl) ?_ ?_
          · intro v12x23 X13 hB
            refine ⟨joinB hS hB, ?_⟩
            have hX13 := hS.size
            replace hS := joinB hS hB
            replace HB := joinB HB hB
            replace N1 := N1.keep hB
            replace N2 := N2.keep hB
            replace N3 := N3.keep hB
            replace Oq := Oq.keep hB
            replace Qr := Qr.keep hB
            replace Qs := Qs.keep hB
            replace P1 := P1.keep hB
            replace P2 := P2.keep hB
            replace P3 := P3.keep hB
            replace Xq := Xq.keep hB
            clear hB
            refine rg_ready [4] (by kernel_rfl) (by simp) ?_
            refine ar_call 4 (some 80) 28 #[.agg #[.slice Ar Nr Cr, .slice Br Mr Dr], .agg #[.slice As Ns Cs, .slice Bs Ms Ds]] (by kernel_rfl) (by kernel_rfl) (cQuo Qr.v Qs.v (by omega) hz) ?_ ?_
            · rintro e v12x24 ⟨At, Nt, Ct, Bt, Mt, Dt, rfl, Qt, hB⟩
              refine ⟨_, rfl, joinB hS hB, ?_⟩
              replace hS := joinB hS hB
              replace HB := joinB HB hB
              replace N1 := N1.keep hB
              replace N2 := N2.keep hB
              replace N3 := N3.keep hB
              replace Oq := Oq.keep hB
              replace Qr := Qr.keep hB
              replace Qs := Qs.keep hB
              replace P1 := P1.keep hB
              replace P2 := P2.keep hB
              replace P3 := P3.keep hB
              replace Xq := Xq.keep hB
              replace X13 := X13.keep hB
              clear hB
              refine rg_take 5 (some 75) (.tuple #[.agg #[.slice At Nt Ct, .slice Bt Mt Dt], .int .i64 0]) (by kernel_rfl) (fun _ _ => by kernel_rfl) (fun _ _ _ h => h) hS ?_
              refine rg_take 6 (some 81) (.agg #[.slice At Nt Ct, .slice Bt Mt Dt]) (by kernel_rfl) (fun _ _ => by kernel_rfl) (fun _ _ _ h => h) hS ?_
              refine rg_take 7 (some 82) (.int .i64 0) (by kernel_rfl) (fun _ _ => by kernel_rfl) (fun _ _ _ h => h) hS ?_
              refine rg_ready [9] (by kernel_rfl) (by simp) ?_
              refine ar_store 9 30 30 13 81 (v12x19.heap.size) [.slice none 0 0, .slice none 0 0] [.slice At Nt Ct, .slice Bt Mt Dt] (by kernel_rfl) (by kernel_rfl) (by kernel_rfl) (by kernel_rfl) X13 (by kernel_rfl) rfl (by kernel_rfl) ?_ ?_
              · intro v12x25 Y hw hB
                refine ⟨hS.trans (hB.mono hX13), ?_⟩
                replace HB := HB.trans (hB.mono (Nat.le_trans hBu hX13))
                replace hS := hS.trans (hB.mono hX13)
                replace N1 := N1.blk X13 (no_ints2 _ _ _ _ _ _) hw
                replace N2 := N2.blk X13 (no_ints2 _ _ _ _ _ _) hw
                replace N3 := N3.blk X13 (no_ints2 _ _ _ _ _ _) hw
                replace Oq := Oq.blk X13 (no_ints2 _ _ _ _ _ _) hw
                replace Qr := Qr.blk X13 (no_ints2 _ _ _ _ _ _) hw
                replace Qs := Qs.blk X13 (no_ints2 _ _ _ _ _ _) hw
                replace Qt := Qt.blk X13 (no_ints2 _ _ _ _ _ _) hw
                replace P1 := P1.off (by omega) hw
                replace P2 := P2.off (by omega) hw
                replace P3 := P3.off (by omega) hw
                replace Xq := Xq.off (by omega) hw
                replace X13 := Y
                clear hB hw
                refine rg_take 10 (some 14) (.int .i64 0) (by kernel_rfl) (fun _ _ => by kernel_rfl) (fun _ _ _ h => h) hS ?_
                refine rg_done (by kernel_rfl) ?_
                exact ⟨(v12x19.heap.size, Ar, Nr, Cr, Br, Mr, Dr, As, Ns, Cs, Bs, Ms, Ds, At, Nt, Ct, Bt, Mt, Dt), by kernel_rfl, X13, hX13, Qr, Qs, Qt, N1, N2, N3, P1, P2, P3, Oq, Xq, HB⟩
              exact ar_nil
            exact ar_nil
          exact ar_nil
        refine ar_alloc 8 (some 13) 30 [.slice none 0 0, .slice none 0 0] (by kernel_rfl) (by kernel_rfl) ?_ ?_
        · intro v12x26 X13 hB
          refine ⟨joinB hS hB, ?_⟩
          have hX13 := hS.size
          replace hS := joinB hS hB
          replace HB := joinB HB hB
          replace N1 := N1.keep hB
          replace N2 := N2.keep hB
          replace N3 := N3.keep hB
          replace Oq := Oq.keep hB
          replace Qr := Qr.keep hB
          replace P1 := P1.keep hB
          replace P2 := P2.keep hB
          replace P3 := P3.keep hB
          replace Xq := Xq.keep hB
          clear hB
          refine rg_ready [3] (by kernel_rfl) (by simp) ?_
          refine ar_call 3 (some 79) 30 #[.agg #[.slice a2 len2 cap2]] (by kernel_rfl) (by kernel_rfl) (cOfDec (B := 60) N2 (by omega) (by omega) (by omega)) ?_ ?_
          · rintro e v12x27 ⟨As, Ns, Cs, Bs, Ms, Ds, rfl, Qs, hB⟩
            refine ⟨_, rfl, joinB hS hB, ?_⟩
            replace hS := joinB hS hB
            replace HB := joinB HB hB
            replace N1 := N1.keep hB
            replace N2 := N2.keep hB
            replace N3 := N3.keep hB
            replace Oq := Oq.keep hB
            replace Qr := Qr.keep hB
            replace P1 := P1.keep hB
            replace P2 := P2.keep hB
            replace P3 := P3.keep hB
            replace Xq := Xq.keep hB
            replace X13 := X13.keep hB
            clear hB
            refine rg_ready [4] (by kernel_rfl) (by simp) ?_
            refine ar_call 4 (some 80) 28 #[.agg #[.slice Ar Nr Cr, .slice Br Mr Dr], .agg #[.slice As Ns Cs, .slice Bs Ms Ds]] (by kernel_rfl) (by kernel_rfl) (cQuo Qr.v Qs.v (by omega) hz) ?_ ?_
            · rintro e v12x28 ⟨At, Nt, Ct, Bt, Mt, Dt, rfl, Qt, hB⟩
              refine ⟨_, rfl, joinB hS hB, ?_⟩
              replace hS := joinB hS hB
              replace HB := joinB HB hB
              replace N1 := N1.keep hB
              replace N2 := N2.keep hB
              replace N3 := N3.keep hB
              replace Oq := Oq.keep hB
              replace Qr := Qr.keep hB
              replace Qs := Qs.keep hB
              replace P1 := P1.keep hB
              replace P2 := P2.keep hB
              replace P3 := P3.keep hB
              replace Xq := Xq.keep hB
              replace X13 := X13.keep hB
              clear hB
              refine rg_take 5 (some 75) (.tuple #[.agg #[.slice At Nt Ct, .slice Bt Mt Dt], .int .i64 0]) (by kernel_rfl) (fun _ _ => by kernel_rfl) (fun _ _ _ h => h) hS ?_
              refine rg_take 6 (some 81) (.agg #[.slice At Nt Ct, .slice Bt Mt Dt]) (by kernel_rfl) (fun _ _ => by kernel_rfl) (fun _ _ _ h => h) hS ?_
              refine rg_take 7 (some 82) (.int .i64 0) (by kernel_rfl) (fun _ _ => by kernel_rfl) (fun _ _ _ h => h) hS ?_
              refine rg_ready [9] (by kernel_rfl) (by simp) ?_
              refine ar_store 9 30 30 13 81 (v12x18.heap.size) [.slice none 0 0, .slice none 0 0] [.slice At Nt Ct, .slice Bt Mt Dt] (by kernel_rfl) (by kernel_rfl) (by kernel_rfl) (by kernel_rfl) X13 (by kernel_rfl) rfl (by kernel_rfl) ?_ ?_
              · intro v12x29 Y hw hB
                refine ⟨hS.trans (hB.mono hX13), ?_⟩
                replace HB := HB.trans (hB.mono (Nat.le_trans hBu hX13))
                replace hS := hS.trans (hB.mono hX13)
                replace N1 := N1.blk X13 (no_ints2 _ _ _ _ _ _) hw
                replace N2 := N2.blk X13 (no_ints2 _ _ _ _ _ _) hw
                replace N3 := N3.blk X13 (no_ints2 _ _ _ _ _ _) hw
                replace Oq := Oq.blk X13 (no_ints2 _ _ _ _ _ _) hw
                replace Qr := Qr.blk X13 (no_ints2 _ _ _ _ _ _) hw
                replace Qs := Qs.blk X13 (no_ints2 _ _ _ _ _ _) hw
                replace Qt := Qt.blk X13 (no_ints2 _ _ _ _ _ _) hw
                replace P1 := P1.off (by omega) hw
                replace P2 := P2.off (by omega) hw
                replace P3 := P3.off (by omega) hw
                replace Xq := Xq.off (by omega) hw
                replace X13 := Y
                clear hB hw
                refine rg_take 10 (some 14) (.int .i64 0) (by kernel_rfl) (fun _ _ => by kernel_rfl) (fun _ _ _ h => h) hS ?_
                refine rg_done (by kernel_rfl) ?_
                exact ⟨(v12x18.heap.size, Ar, Nr, Cr, Br, Mr, Dr, As, Ns, Cs, Bs, Ms, Ds, At, Nt, Ct, Bt, Mt, Dt), by kernel_rfl, X13, hX13, Qr, Qs, Qt, N1, N2, N3, P1, P2, P3, Oq, Xq, HB⟩
              exact ar_nil
            exact ar_nil
          exact ar_nil
        exact ar_nil
      refine ar_alloc 8 (some 13) 30 [.slice none 0 0, .slice none 0 0] (by kernel_rfl) (by kernel_rfl) ?_ ?_
      · intro v12x30 X13 hB
        refine ⟨joinB hS hB, ?_⟩
        have hX13 := hS.size
        replace hS := joinB hS hB
        replace HB := joinB HB hB
        replace N1 := N1.keep hB
        replace N2 := N2.keep hB
        replace N3 := N3.keep hB
        replace Oq := Oq.keep hB
        replace P1 := P1.keep hB
        replace P2 := P2.keep hB
        replace P3 := P3.keep hB
        replace Xq := Xq.keep hB
        clear hB
        refine rg_ready [1] (by kernel_rfl) (by simp) ?_
        refine ar_call 1 (some 77) 30 #[.agg #[.slice a1 len1 cap1]] (by kernel_rfl) (by kernel_rfl) (cOfDec (B := 60) N1 (by omega) (by omega) (by omega)) ?_ ?_
        · rintro e v12x31 ⟨Ar, Nr, Cr, Br, Mr, Dr, rfl, Qr, hB⟩
          refine ⟨_, rfl, joinB hS hB, ?_⟩
          replace hS := joinB hS hB
          replace HB := joinB HB hB
          replace N1 := N1.keep hB
          replace N2 := N2.keep hB
          replace N3 := N3.keep hB
          replace Oq := Oq.keep hB
          replace P1 := P1.keep hB
          replace P2 := P2.keep hB
          replace P3 := P3.keep hB
          replace Xq := Xq.keep hB
          replace X13 := X13.keep hB
          clear hB
          refine rg_ready [3] (by kernel_rfl) (by simp) ?_
          refine ar_call 3 (some 79) 30 #[.agg #[.slice a2 len2 cap2]] (by kernel_rfl) (by kernel_rfl) (cOfDec (B := 60) N2 (by omega) (by omega) (by omega)) ?_ ?_
          · rintro e v12x32 ⟨As, Ns, Cs, Bs, Ms, Ds, rfl, Qs, hB⟩
            refine ⟨_, rfl, joinB hS hB, ?_⟩
            replace hS := joinB hS hB
            replace HB := joinB HB hB
            replace N1 := N1.keep hB
            replace N2 := N2.keep hB
            replace N3 := N3.keep hB
            replace Oq := Oq.keep hB
            replace Qr := Qr.keep hB
            replace P1 := P1.keep hB
            replace P2 := P2.keep hB
            replace P3 := P3.keep hB
            replace Xq := Xq.keep hB
            replace X13 := X13.keep hB
            clear hB
            refine rg_ready [4] (by kernel_rfl) (by simp) ?_
            refine ar_call 4 (some 80) 28 #[.agg #[.slice Ar Nr Cr, .slice Br Mr Dr], .agg #[.slice As Ns Cs, .slice Bs Ms Ds]] (by kernel_rfl) (by kernel_rfl) (cQuo Qr.v Qs.v (by omega) hz) ?_ ?_
            · rintro e v12x33 ⟨At, Nt, Ct, Bt, Mt, Dt, rfl, Qt, hB⟩
              refine ⟨_, rfl, joinB hS hB, ?_⟩
              replace hS := joinB hS hB
              replace HB := joinB HB hB
              replace N1 := N1.keep hB
              replace N2 := N2.keep hB
              replace N3 := N3.keep hB
              replace Oq := Oq.keep hB
              replace Qr := Qr.keep hB
              replace Qs := Qs.keep hB
              replace P1 := P1.keep hB
              replace P2 := P2.keep hB
              replace P3 := P3.keep hB
              replace Xq := Xq.keep hB
              replace X13 := X13.keep hB
              clear hB
              refine rg_take 5 (some 75) (.tuple #[.agg #[.slice At Nt Ct, .slice Bt Mt Dt], .int .i64 0]) (by kernel_rfl) (fun _ _ => by kernel_rfl) (fun _ _ _ h => h) hS ?_
              refine rg_take 6 (some 81) (.agg #[.slice At Nt Ct, .slice Bt Mt Dt]) (by kernel_rfl) (fun _ _ => by kernel_rfl) (fun _ _ _ h => h) hS ?_
              refine rg_take 7 (some 82) (.int .i64 0) (by kernel_rfl) (fun _ _ => by kernel_rfl) (fun _ _ _ h => h) hS ?_
              refine rg_ready [9] (by kernel_rfl) (by simp) ?_
              refine ar_store 9 30 30 13 81 (y3.drew.heap.size) [.slice none 0 0, .slice none 0 0] [.slice At Nt Ct, .slice Bt Mt Dt] (by kernel_rfl) (by kernel_rfl) (by kernel_rfl) (by kernel_rfl) X13 (by kernel_rfl) rfl (by kernel_rfl) ?_ ?_
              · intro v12x34 Y hw hB
                refine ⟨hS.trans (hB.mono hX13), ?_⟩
                replace HB := HB.trans (hB.mono (Nat.le_trans hBu hX13))
                replace hS := hS.trans (hB.mono hX13)
                replace N1 := N1.blk X13 (no_ints2 _ _ _ _ _ _) hw
                replace N2 := N2.blk X13 (no_ints2 _ _ _ _ _ _) hw
                replace N3 := N3.blk X13 (no_ints2 _ _ _ _ _ _) hw
                replace Oq := Oq.blk X13 (no_ints2 _ _ _ _ _ _) hw
                replace Qr := Qr.blk X13 (no_ints2 _ _ _ _ _ _) hw
                replace Qs := Qs.blk X13 (no_ints2 _ _ _ _ _ _) hw
                replace Qt := Qt.blk X13 (no_ints2 _ _ _ _ _ _) hw
                replace P1 := P1.off (by omega) hw
                replace P2 := P2.off (by omega) hw
                replace P3 := P3.off (by omega) hw
                replace Xq := Xq.off (by omega) hw
                replace X13 := Y
                clear hB hw
                refine rg_take 10 (some 14) (.int .i64 0) (by kernel_rfl) (fun _ _ => by kernel_rfl) (fun _ _ _ h => h) hS ?_
                refine rg_done (by kernel_rfl) ?_
                exact ⟨(y3.drew.heap.size, Ar, Nr, Cr, Br, Mr, Dr, As, Ns, Cs, Bs, Ms, Ds, At, Nt, Ct, Bt, Mt, Dt), by kernel_rfl, X13, hX13, Qr, Qs, Qt, N1, N2, N3, P1, P2, P3, Oq, Xq, HB⟩
              exact ar_nil
            exact ar_nil
          exact ar_nil
        exact ar_nil
      exact ar_nil
    · rintro ⟨g13, Ar, Nr, Cr, Br, Mr, Dr, As, Ns, Cs, Bs, Ms, Ds, At, Nt, Ct, Bt, Mt, Dt⟩ x5 ⟨Xt, hnXt, Qr, Qs, Qt, N1', N2', N3', P1', P2', P3', Oq', Xq', HBn⟩
      replace N1 := N1'
      clear N1'
      replace N2 := N2'
      clear N2'
      replace N3 := N3'
      clear N3'
      replace P1 := P1'
      clear P1'
      replace P2 := P2'
      clear P2'
      replace P3 := P3'
      clear P3'
      replace Oq := Oq'
      clear Oq'
      replace Xq := Xq'
      clear Xq'
      replace HB := HBn
      clear HBn
      try simp only [putAll, Act.put, List.setIfInBounds_toArray, List.set_cons_zero, List.set_cons_succ]
      clear Qr Qs
      have c1P1 := P1.slot.cell
      have c1P2 := P2.slot.cell
      have c1P3 := P3.slot.cell
      have c1Xq := Xq.slot.cell
      obtain ⟨c1Xt, c2Xt, c3Xt, c4Xt⟩ := Xt.cells2
      go_wp2_with fail
      refine (dMulDiv N1 (by omega) N3 (by omega) N2 (by omega) hz).mono ?_
      rintro e x6 ⟨Am, Nm, Cm, rfl, Om, hom, hB⟩
      clear c1P1 c1P2 c1P3 c1Xq c1Xt c2Xt c3Xt c4Xt
      replace N1 := N1.keep hB
      replace N2 := N2.keep hB
      replace N3 := N3.keep hB
      replace P1 := P1.keep hB
      replace P2 := P2.keep hB
      replace P3 := P3.keep hB
      replace Oq := Oq.keep hB
      replace Xq := Xq.keep hB
      replace Xt := Xt.keep hB
      replace Qt := Qt.keep hB
      replace HB := joinB HB hB
      clear hB
      have BA := below_alloc x6 (.cells #[.slice Am Nm Cm] 46)
      have Xm := box_new x6 [.slice Am Nm Cm] 46
      replace N1 := N1.keep BA
      replace N2 := N2.keep BA
      replace N3 := N3.keep BA
      replace P1 := P1.keep BA
      replace P2 := P2.keep BA
      replace P3 := P3.keep BA
      replace Oq := Oq.keep BA
      replace Xq := Xq.keep BA
      replace Xt := Xt.keep BA
      replace Qt := Qt.keep BA
      replace Om := Om.keep BA
      replace HB := joinB HB BA
      clear BA
      have c1P1 := P1.slot.cell
      have c1P2 := P2.slot.cell
      have c1P3 := P3.slot.cell
      have c1Xq := Xq.slot.cell
      obtain ⟨c1Xt, c2Xt, c3Xt, c4Xt⟩ := Xt.cells2
      have c1Xm := Xm.slot.cell
      go_wp2_with fail
      clear c1P1 c1P2 c1P3 c1Xq c1Xt c2Xt c3Xt c4Xt c1Xm
      generalize x6.alloc (.cells #[.slice Am Nm Cm] 46) = y4 at *
      generalize x6.heap.size = gm at *
      have h4 : xx1 * U36 * U36 / (U36 * xx2) = xx1 * U36 / xx2 := by
        rw [Int.mul_comm U36 xx2]
        exact Int.mul_ediv_mul_of_pos_left _ _ u36_pos
      have h5 : xx1 * U36 * xx3 * U36 / (U36 * xx2 * U36) = xx1 * xx3 / xx2 := by
        rw [Int.mul_ediv_mul_of_pos_left _ _ u36_pos, Int.mul_comm U36 xx2, Int.mul_right_comm]
        exact Int.mul_ediv_mul_of_pos_left _ _ u36_pos
      refine rg_start (S := fun w' => Below y4.drew.heap.size y4.drew w') (by kernel_rfl) (Below.refl _ _) ?_
      replace N1 := N1.drew
      replace N2 := N2.drew
      replace N3 := N3.drew
      replace P1 := P1.drew
      replace P2 := P2.drew
      replace P3 := P3.drew
      replace Oq := Oq.drew
      replace Xq := Xq.drew
      replace Xt := Xt.drew
      replace Qt := Qt.drew
      replace Om := Om.drew
      replace Xm := Xm.drew
      replace HB := HB.drew
      have UP1 := P1
      have UP2 := P2
      have UP3 := P3
      have UXq := Xq
      have UXt := Xt
      have UXm := Xm
      have hS := Below.refl y4.drew.heap.size y4.drew
      clear P1 P2 P3 Xq Xt Xm
      refine rg_take 0 (some 90) (.int .i64 0) (by kernel_rfl) (fun _ _ => by kernel_rfl) (fun _ _ _ h => h) hS ?_
      refine rg_take 1 (some 91) (.int .i64 0) (by kernel_rfl) (fun _ _ => by kernel_rfl) (fun _ _ _ h => h) hS ?_
      refine rg_take 2 (some 92) (.int .i64 0) (by kernel_rfl) (fun _ _ => by kernel_rfl) (fun _ _ _ h => h) hS ?_
      refine rg_take 3 (some 93) (.int .i64 0) (by kernel_rfl) (fun _ _ => by kernel_rfl) (fun _ _ _ h => h) hS ?_
      refine rg_take 4 (some 94) (.int .i64 0) (by kernel_rfl) (fun _ _ => by kernel_rfl) (fun _ _ _ h => h) hS ?_
      refine rg_take 5 (some 95) (.bool true) (by kernel_rfl) (fun _ _ => by kernel_rfl) (fun _ _ _ h => h) hS ?_
      refine rg_take 6 (some 96) (.bool true) (by kernel_rfl) (fun _ _ => by kernel_rfl) (fun _ _ _ h => h) hS ?_
      refine rg_load 7 (some 97) (.agg #[.slice Aq Nq Cq]) 46 11 (gq) 0 (by kernel_rfl) (by kernel_rfl) (by kernel_rfl) (fun _ hb => load_dec ((UXq.keep hb).slot)) (fun _ _ _ h => h) hS ?_
      refine rg_load 8 (some 98) (.agg #[.slice At Nt Ct, .slice Bt Mt Dt]) 30 13 (g13) 0 (by kernel_rfl) (by kernel_rfl) (by kernel_rfl) (fun _ hb => load_rat (UXt.keep hb)) (fun _ _ _ h => h) hS ?_
      refine rg_call 9 (some 99) 29 #[.agg #[.slice At Nt Ct, .slice Bt Mt Dt]] (by kernel_rfl) (by kernel_rfl) (cDown Qt.v (by omega)) ?_
      rintro e r14x1 ⟨Au, Nu, Cu, rfl, Ou, hou, hB⟩
      refine ⟨_, rfl, joinB hS hB, ?_⟩
      replace hS := joinB hS hB
      replace N1 := N1.keep hB
      replace N2 := N2.keep hB
      replace N3 := N3.keep hB
      replace Oq := Oq.keep hB
      replace Qt := Qt.keep hB
      replace Om := Om.keep hB
      replace HB := joinB HB hB
      clear hB
      replace Ou := Ou.eqv h4
      refine rg_call 10 (some 100) 36 #[.agg #[.slice Aq Nq Cq], .agg #[.slice Au Nu Cu]] (by kernel_rfl) (by kernel_rfl) (sameD Oq Ou (by omega) (by omega)) ?_
      rintro e r14x2 ⟨rfl, hB⟩
      refine ⟨_, rfl, joinB hS hB, ?_⟩
      replace hS := joinB hS hB
      replace N1 := N1.keep hB
      replace N2 := N2.keep hB
      replace N3 := N3.keep hB
      replace Oq := Oq.keep hB
      replace Qt := Qt.keep hB
      replace Om := Om.keep hB
      replace Ou := Ou.keep hB
      replace HB := joinB HB hB
      clear hB
      refine rg_take 11 (some 101) (.bool true) (by kernel_rfl) (fun _ _ => by kernel_rfl) (fun _ _ _ h => h) hS ?_
      refine rg_take 12 (some 102) (.bool true) (by kernel_rfl) (fun _ _ => by kernel_rfl) (fun _ _ _ h => h) hS ?_
      refine rg_load 13 (some 103) (.agg #[.slice Am Nm Cm]) 46 15 (gm) 0 (by kernel_rfl) (by kernel_rfl) (by kernel_rfl) (fun _ hb => load_dec ((UXm.keep hb).slot)) (fun _ _ _ h => h) hS ?_
      refine rg_load 14 (some 104) (.agg #[.slice At Nt Ct, .slice Bt Mt Dt]) 30 13 (g13) 0 (by kernel_rfl) (by kernel_rfl) (by kernel_rfl) (fun _ hb => load_rat (UXt.keep hb)) (fun _ _ _ h => h) hS ?_
      refine rg_load 15 (some 105) (.agg #[.slice a3 len3 cap3]) 46 7 (w.heap.size + 1 + 1 + 1) 0 (by kernel_rfl) (by kernel_rfl) (by kernel_rfl) (fun _ hb => load_dec ((UP3.keep hb).slot)) (fun _ _ _ h => h) hS ?_
      refine rg_call 16 (some 106) 30 #[.agg #[.slice a3 len3 cap3]] (by kernel_rfl) (by kernel_rfl) (cOfDec (B := 60) N3 (by omega) (by omega) (by omega)) ?_
      rintro e r14x3 ⟨Av, Nv, Cv, Bv, Mv, Dv, rfl, Qv, hB⟩
      refine ⟨_, rfl, joinB hS hB, ?_⟩
      replace hS := joinB hS hB
      replace N1 := N1.keep hB
      replace N2 := N2.keep hB
      replace N3 := N3.keep hB
      replace Oq := Oq.keep hB
      replace Qt := Qt.keep hB
      replace Om := Om.keep hB
      replace Ou := Ou.keep hB
      replace HB := joinB HB hB
      clear hB
      refine rg_call 17 (some 107) 25 #[.agg #[.slice At Nt Ct, .slice Bt Mt Dt], .agg #[.slice Av Nv Cv, .slice Bv Mv Dv]] (by kernel_rfl) (by kernel_rfl) (cMul Qt.v (Qv.v.up (C := 2 * 60 + 2) (by omega)) (by omega)) ?_
      rintro e r14x4 ⟨Aw, Nw, Cw, Bw, Mw, Dw, rfl, Qw, hB⟩
      refine ⟨_, rfl, joinB hS hB, ?_⟩
      replace hS := joinB hS hB
      replace N1 := N1.keep hB
      replace N2 := N2.keep hB
      replace N3 := N3.keep hB
      replace Oq := Oq.keep hB
      replace Qt := Qt.keep hB
      replace Om := Om.keep hB
      replace Ou := Ou.keep hB
      replace Qv := Qv.keep hB
      replace HB := joinB HB hB
      clear hB
      refine rg_call 18 (some 108) 29 #[.agg #[.slice Aw Nw Cw, .slice Bw Mw Dw]] (by kernel_rfl) (by kernel_rfl) (cDown Qw.v (by omega)) ?_
      rintro e r14x5 ⟨Az, Nz, Cz, rfl, Oz, hoz, hB⟩
      refine ⟨_, rfl, joinB hS hB, ?_⟩
      replace hS := joinB hS hB
      replace N1 := N1.keep hB
      replace N2 := N2.keep hB
      replace N3 := N3.keep hB
      replace Oq := Oq.keep hB
      replace Qt := Qt.keep hB
      replace Om := Om.keep hB
      replace Ou := Ou.keep hB
      replace Qv := Qv.keep hB
      replace Qw := Qw.keep hB
      replace HB := joinB HB hB
      clear hB
      replace Oz := Oz.eqv h5
      refine rg_call 19 (some 109) 36 #[.agg #[.slice Am Nm Cm], .agg #[.slice Az Nz Cz]] (by kernel_rfl) (by kernel_rfl) (sameD Om Oz (by omega) (by omega)) ?_
      rintro e r14x6 ⟨rfl, hB⟩
      refine ⟨_, rfl, joinB hS hB, ?_⟩
      replace hS := joinB hS hB
      replace N1 := N1.keep hB
      replace N2 := N2.keep hB
      replace N3 := N3.keep hB
      replace Oq := Oq.keep hB
      replace Qt := Qt.keep hB
      replace Om := Om.keep hB
      replace Ou := Ou.keep hB
      replace Qv := Qv.keep hB
      replace Qw := Qw.keep hB
      replace Oz := Oz.keep hB
      replace HB := joinB HB hB
      clear hB
      refine rg_take 20 (some 110) (.bool true) (by kernel_rfl) (fun _ _ => by kernel_rfl) (fun _ _ _ h => h) hS ?_
      refine rg_take 21 (some 8) (.bool true) (by kernel_rfl) (fun _ _ => by kernel_rfl) (fun _ _ _ h => h) hS ?_
      refine rg_done (by kernel_rfl) ?_
      clear hS UP1 UP2 UP3 UXq UXt UXm
      try simp only [Act.put, List.setIfInBounds_toArray, List.set_cons_zero, List.set_cons_succ]
      go_wp2
      go_ret
      exact ⟨rfl, HB⟩
end ratDown
end Go.Proofs.YtjihgkanbhccpaaGreatDoor
