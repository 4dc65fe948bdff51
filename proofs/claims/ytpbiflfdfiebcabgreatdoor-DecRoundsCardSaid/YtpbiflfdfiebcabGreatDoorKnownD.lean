/- gleanlaw2.known: the chapter's examples come out as they must. -/
import Derived.Test.YtpbiflfdfiebcabGreatDoorDParse
import Derived.Test.YtpbiflfdfiebcabGreatDoorDBasis
namespace Go.Proofs.YtpbiflfdfiebcabGreatDoor
open Go.RowKit Lim

theorem gval_top {g : List Int} (h : GroupsOk g) (h0 : g ≠ []) : nth g (g.length - 1) ≤ gval g := by
  induction g with
  | nil => exact absurd rfl h0
  | cons x l ih =>
    have hx := h x List.mem_cons_self
    by_cases e : l = []
    · subst e
      simp [gval, nth]
    · have := ih (fun y hy => h y (List.mem_cons_of_mem _ hy)) e
      have hl : 0 < l.length := List.length_pos_iff.2 e
      rw [show (x :: l).length - 1 = (l.length - 1) + 1 by simp; omega, nth_succ, gval]
      have h1 := (h _ (List.mem_cons_of_mem _ (nth_mem (l := l) (i := l.length - 1) (by omega)))).1
      omega
theorem appAll_small {w : World} {x : Int} (hx : x < 100) : AppAll w x := fun g h1 h2 h3 h4 wx _ => by
  have h5 := gval_top h1 h3
  obtain ⟨n, hn⟩ : ∃ n : Nat, nth g (g.length - 1) = (n : Int) := ⟨(nth g (g.length - 1)).toNat, by omega⟩
  rw [hn]
  exact app_small n (by omega) (by omega) wx
theorem dtext_is {S : ByteArray} {x : Int} (h : DText S x) (l wl : List UInt8) (hd : (wl.map (fun c => (c.toNat : Int))).all (fun c => decide (48 ≤ c ∧ c ≤ 57)) = true) (hv : dvI (wl.map (fun c => (c.toNat : Int))) = x / U36) (h0 : 0 < wl.length) (h1 : wl.length = 1 ∨ nth (wl.map (fun c => (c.toNat : Int))) 0 ≠ 48) (hl : l = wl ++ fracT (x % U36)) : S = ⟨l.toArray⟩ := by
  obtain ⟨Sw, hw, hS⟩ := h.ex
  have e := text_is hw wl hd hv h0 h1
  rw [hl]
  cases S with
  | mk arr =>
    simp at hS
    rw [e] at hS
    simp [← hS]

set_option maxHeartbeats 8000000 in
set_option maxRecDepth 100000 in
theorem knownD (w : World) : Calls Tryz.prog 14 #[] w fun e w' => e = .returned (.bool true) ∧ Below w.heap.size w w' := by
  have HB := Below.refl w.heap.size w
  go_enter Tryz.func14, Tryz.ntmps14
  go_wp2_with fail
  refine (dOf (x := 1) (by decide) (by decide)).mono ?_
  rintro e w1 ⟨ax1, kx1, dx1, rfl, O_x1, hkx1, hB⟩
  have HB := joinB HB hB
  clear hB
  go_wp2_with fail
  refine (dOf (x := 3) (by decide) (by decide)).mono ?_
  rintro e w2 ⟨ax2, kx2, dx2, rfl, O_x2, hkx2, hB⟩
  have O_x1 := O_x1.keep hB
  have HB := joinB HB hB
  clear hB
  go_wp2_with fail
  refine (dQuo O_x1.a (by omega) O_x2.a (by omega) (by decide)).mono ?_
  rintro e w3 ⟨aq, kq, dq, rfl, O_q, hkq, hB⟩
  have O_x1 := O_x1.keep hB
  have O_x2 := O_x2.keep hB
  have HB := joinB HB hB
  clear hB
  clear O_x1 O_x2
  have O_q := O_q.eqv (show _ = (333333333333333333333333333333333333 : Int) from by decide)
  have BA := below_alloc w3 (.cells #[.slice aq kq dq] 34)
  have S_q := slot_new w3 (.slice aq kq dq) 34
  have O_q := O_q.keep BA
  have HB := joinB HB BA
  clear BA
  have c_q := S_q.cell
  go_wp2_with fail
  generalize w3.alloc (.cells #[.slice aq kq dq] 34) = v3 at *
  generalize w3.heap.size = g_q at *
  go_wp2_with fail
  refine (dOf (x := 1) (by decide) (by decide)).mono ?_
  rintro e w4 ⟨ax3, kx3, dx3, rfl, O_x3, hkx3, hB⟩
  have O_q := O_q.keep hB
  have S_q := S_q.keep hB
  have c_q := S_q.cell
  have HB := joinB HB hB
  clear hB
  go_wp2_with fail
  refine (dOf (x := 1) (by decide) (by decide)).mono ?_
  rintro e w5 ⟨ax4, kx4, dx4, rfl, O_x4, hkx4, hB⟩
  have O_q := O_q.keep hB
  have S_q := S_q.keep hB
  have O_x3 := O_x3.keep hB
  have c_q := S_q.cell
  have HB := joinB HB hB
  clear hB
  go_wp2_with fail
  refine (dOf (x := 3) (by decide) (by decide)).mono ?_
  rintro e w6 ⟨ax5, kx5, dx5, rfl, O_x5, hkx5, hB⟩
  have O_q := O_q.keep hB
  have S_q := S_q.keep hB
  have O_x3 := O_x3.keep hB
  have O_x4 := O_x4.keep hB
  have c_q := S_q.cell
  have HB := joinB HB hB
  clear hB
  go_wp2_with fail
  refine (dMulDivUp O_x3.a (by omega) O_x4.a (by omega) O_x5.a (by omega) (by decide)).mono ?_
  rintro e w7 ⟨au, ku, du, rfl, O_u, hku, hB⟩
  have O_q := O_q.keep hB
  have S_q := S_q.keep hB
  have O_x3 := O_x3.keep hB
  have O_x4 := O_x4.keep hB
  have O_x5 := O_x5.keep hB
  have c_q := S_q.cell
  have HB := joinB HB hB
  clear hB
  clear O_x3 O_x4 O_x5
  have O_u := O_u.eqv (show _ = (333333333333333333333333333333333334 : Int) from by decide)
  have BA := below_alloc w7 (.cells #[.slice au ku du] 34)
  have S_u := slot_new w7 (.slice au ku du) 34
  have O_q := O_q.keep BA
  have S_q := S_q.keep BA
  have O_u := O_u.keep BA
  have c_q := S_q.cell
  have HB := joinB HB BA
  clear BA
  have c_u := S_u.cell
  go_wp2_with fail
  generalize w7.alloc (.cells #[.slice au ku du] 34) = v7 at *
  generalize w7.heap.size = g_u at *
  go_wp2_with fail
  refine (dOf (x := 2) (by decide) (by decide)).mono ?_
  rintro e w8 ⟨ax6, kx6, dx6, rfl, O_x6, hkx6, hB⟩
  have O_q := O_q.keep hB
  have S_q := S_q.keep hB
  have O_u := O_u.keep hB
  have S_u := S_u.keep hB
  have c_q := S_q.cell
  have c_u := S_u.cell
  have HB := joinB HB hB
  clear hB
  go_wp2_with fail
  refine (dOf (x := 1) (by decide) (by decide)).mono ?_
  rintro e w9 ⟨ax7, kx7, dx7, rfl, O_x7, hkx7, hB⟩
  have O_q := O_q.keep hB
  have S_q := S_q.keep hB
  have O_u := O_u.keep hB
  have S_u := S_u.keep hB
  have O_x6 := O_x6.keep hB
  have c_q := S_q.cell
  have c_u := S_u.cell
  have HB := joinB HB hB
  clear hB
  go_wp2_with fail
  refine (dOf (x := 6) (by decide) (by decide)).mono ?_
  rintro e w10 ⟨ax8, kx8, dx8, rfl, O_x8, hkx8, hB⟩
  have O_q := O_q.keep hB
  have S_q := S_q.keep hB
  have O_u := O_u.keep hB
  have S_u := S_u.keep hB
  have O_x6 := O_x6.keep hB
  have O_x7 := O_x7.keep hB
  have c_q := S_q.cell
  have c_u := S_u.cell
  have HB := joinB HB hB
  clear hB
  go_wp2_with fail
  refine (dMulDiv O_x6.a (by omega) O_x7.a (by omega) O_x8.a (by omega) (by decide)).mono ?_
  rintro e w11 ⟨ad, kd, dd, rfl, O_d, hkd, hB⟩
  have O_q := O_q.keep hB
  have S_q := S_q.keep hB
  have O_u := O_u.keep hB
  have S_u := S_u.keep hB
  have O_x6 := O_x6.keep hB
  have O_x7 := O_x7.keep hB
  have O_x8 := O_x8.keep hB
  have c_q := S_q.cell
  have c_u := S_u.cell
  have HB := joinB HB hB
  clear hB
  clear O_x6 O_x7 O_x8
  have O_d := O_d.eqv (show _ = (333333333333333333333333333333333333 : Int) from by decide)
  have BA := below_alloc w11 (.cells #[.slice ad kd dd] 34)
  have S_d := slot_new w11 (.slice ad kd dd) 34
  have O_q := O_q.keep BA
  have S_q := S_q.keep BA
  have O_u := O_u.keep BA
  have S_u := S_u.keep BA
  have O_d := O_d.keep BA
  have c_q := S_q.cell
  have c_u := S_u.cell
  have HB := joinB HB BA
  clear BA
  have c_d := S_d.cell
  go_wp2_with fail
  generalize w11.alloc (.cells #[.slice ad kd dd] 34) = v11 at *
  generalize w11.heap.size = g_d at *
  go_wp2_with fail
  refine (dOf (x := 1) (by decide) (by decide)).mono ?_
  rintro e w12 ⟨ax9, kx9, dx9, rfl, O_x9, hkx9, hB⟩
  have O_q := O_q.keep hB
  have S_q := S_q.keep hB
  have O_u := O_u.keep hB
  have S_u := S_u.keep hB
  have O_d := O_d.keep hB
  have S_d := S_d.keep hB
  have c_q := S_q.cell
  have c_u := S_u.cell
  have c_d := S_d.cell
  have HB := joinB HB hB
  clear hB
  go_wp2_with fail
  refine (dOf (x := 2) (by decide) (by decide)).mono ?_
  rintro e w13 ⟨ay1, ky1, dy1, rfl, O_y1, hky1, hB⟩
  have O_q := O_q.keep hB
  have S_q := S_q.keep hB
  have O_u := O_u.keep hB
  have S_u := S_u.keep hB
  have O_d := O_d.keep hB
  have S_d := S_d.keep hB
  have O_x9 := O_x9.keep hB
  have c_q := S_q.cell
  have c_u := S_u.cell
  have c_d := S_d.cell
  have HB := joinB HB hB
  clear hB
  go_wp2_with fail
  refine (dSubLt O_x9.a O_y1.a (by omega) (by omega) (by decide)).mono ?_
  rintro e w14 ⟨rfl, hB⟩
  have O_q := O_q.keep hB
  have S_q := S_q.keep hB
  have O_u := O_u.keep hB
  have S_u := S_u.keep hB
  have O_d := O_d.keep hB
  have S_d := S_d.keep hB
  have O_x9 := O_x9.keep hB
  have O_y1 := O_y1.keep hB
  have c_q := S_q.cell
  have c_u := S_u.cell
  have c_d := S_d.cell
  have HB := joinB HB hB
  clear hB
  clear O_x9 O_y1
  have BA := below_alloc w14 (.cells #[.slice none 0 0] 34)
  have O_q := O_q.keep BA
  have S_q := S_q.keep BA
  have O_u := O_u.keep BA
  have S_u := S_u.keep BA
  have O_d := O_d.keep BA
  have S_d := S_d.keep BA
  have c_q := S_q.cell
  have c_u := S_u.cell
  have c_d := S_d.cell
  have HB := joinB HB BA
  clear BA
  go_wp2_with fail
  generalize w14.alloc (.cells #[.slice none 0 0] 34) = v14 at *
  generalize w14.heap.size = gb14 at *
  go_wp2_with fail
  refine (dParse_suf ⟨#[49, 46, 53, 48]⟩ 1 _ (by decide) (by decide) (by decide) (by decide) (by decide) (by decide)).mono ?_
  rintro e w15 ⟨rfl, hB⟩
  have O_q := O_q.keep hB
  have S_q := S_q.keep hB
  have O_u := O_u.keep hB
  have S_u := S_u.keep hB
  have O_d := O_d.keep hB
  have S_d := S_d.keep hB
  have c_q := S_q.cell
  have c_u := S_u.cell
  have c_d := S_d.cell
  have HB := joinB HB hB
  clear hB
  have BA := below_alloc w15 (.cells #[.slice none 0 0] 34)
  have O_q := O_q.keep BA
  have S_q := S_q.keep BA
  have O_u := O_u.keep BA
  have S_u := S_u.keep BA
  have O_d := O_d.keep BA
  have S_d := S_d.keep BA
  have c_q := S_q.cell
  have c_u := S_u.cell
  have c_d := S_d.cell
  have HB := joinB HB BA
  clear BA
  go_wp2_with fail
  generalize w15.alloc (.cells #[.slice none 0 0] 34) = v15 at *
  generalize w15.heap.size = gb15 at *
  go_wp2_with fail
  refine (dParse_ok ⟨#[50, 46, 55, 53]⟩ 1 _ (by decide) (by decide) (by decide) (by decide) (by decide) (by decide) (by decide)).mono ?_
  rintro e w16 ⟨ap, kp, dp, rfl, O_p, hkp, hB⟩
  have O_q := O_q.keep hB
  have S_q := S_q.keep hB
  have O_u := O_u.keep hB
  have S_u := S_u.keep hB
  have O_d := O_d.keep hB
  have S_d := S_d.keep hB
  have c_q := S_q.cell
  have c_u := S_u.cell
  have c_d := S_d.cell
  have HB := joinB HB hB
  clear hB
  have hkp : kp ≤ 204 := hkp
  have O_p := O_p.eqv (show _ = (2750000000000000000000000000000000000 : Int) from by decide)
  have BA := below_alloc w16 (.cells #[.slice ap kp dp] 34)
  have S_p := slot_new w16 (.slice ap kp dp) 34
  have O_q := O_q.keep BA
  have S_q := S_q.keep BA
  have O_u := O_u.keep BA
  have S_u := S_u.keep BA
  have O_d := O_d.keep BA
  have S_d := S_d.keep BA
  have O_p := O_p.keep BA
  have c_q := S_q.cell
  have c_u := S_u.cell
  have c_d := S_d.cell
  have HB := joinB HB BA
  clear BA
  have c_p := S_p.cell
  go_wp2_with fail
  generalize w16.alloc (.cells #[.slice ap kp dp] 34) = v16 at *
  generalize w16.heap.size = g_p at *
  go_wp2_with fail
  refine (dOf (x := 1) (by decide) (by decide)).mono ?_
  rintro e w17 ⟨ay2, ky2, dy2, rfl, O_y2, hky2, hB⟩
  have O_q := O_q.keep hB
  have S_q := S_q.keep hB
  have O_u := O_u.keep hB
  have S_u := S_u.keep hB
  have O_d := O_d.keep hB
  have S_d := S_d.keep hB
  have O_p := O_p.keep hB
  have S_p := S_p.keep hB
  have c_q := S_q.cell
  have c_u := S_u.cell
  have c_d := S_d.cell
  have c_p := S_p.cell
  have HB := joinB HB hB
  clear hB
  go_wp2_with fail
  refine (dOver O_y2.a (by omega) (by decide) (by decide) (by decide)).mono ?_
  rintro e w18 ⟨aoo, koo, doo, rfl, O_oo, hkoo, hB⟩
  have O_q := O_q.keep hB
  have S_q := S_q.keep hB
  have O_u := O_u.keep hB
  have S_u := S_u.keep hB
  have O_d := O_d.keep hB
  have S_d := S_d.keep hB
  have O_p := O_p.keep hB
  have S_p := S_p.keep hB
  have O_y2 := O_y2.keep hB
  have c_q := S_q.cell
  have c_u := S_u.cell
  have c_d := S_d.cell
  have c_p := S_p.cell
  have HB := joinB HB hB
  clear hB
  clear O_y2
  have O_oo := O_oo.eqv (show _ = (250000000000000000000000000000000000 : Int) from by decide)
  have BA := below_alloc w18 (.cells #[.slice aoo koo doo] 34)
  have S_oo := slot_new w18 (.slice aoo koo doo) 34
  have O_q := O_q.keep BA
  have S_q := S_q.keep BA
  have O_u := O_u.keep BA
  have S_u := S_u.keep BA
  have O_d := O_d.keep BA
  have S_d := S_d.keep BA
  have O_p := O_p.keep BA
  have S_p := S_p.keep BA
  have O_oo := O_oo.keep BA
  have c_q := S_q.cell
  have c_u := S_u.cell
  have c_d := S_d.cell
  have c_p := S_p.cell
  have HB := joinB HB BA
  clear BA
  have c_oo := S_oo.cell
  go_wp2_with fail
  generalize w18.alloc (.cells #[.slice aoo koo doo] 34) = v18 at *
  generalize w18.heap.size = g_oo at *
  go_wp2_with fail
  refine (dOf (x := 1) (by decide) (by decide)).mono ?_
  rintro e w19 ⟨ay3, ky3, dy3, rfl, O_y3, hky3, hB⟩
  have O_q := O_q.keep hB
  have S_q := S_q.keep hB
  have O_u := O_u.keep hB
  have S_u := S_u.keep hB
  have O_d := O_d.keep hB
  have S_d := S_d.keep hB
  have O_p := O_p.keep hB
  have S_p := S_p.keep hB
  have O_oo := O_oo.keep hB
  have S_oo := S_oo.keep hB
  have c_q := S_q.cell
  have c_u := S_u.cell
  have c_d := S_d.cell
  have c_p := S_p.cell
  have c_oo := S_oo.cell
  have HB := joinB HB hB
  clear hB
  go_wp2_with fail
  refine (dQuoZ O_y3.a (by omega) (natO_nil _).a (by decide) rfl).mono ?_
  rintro e w20 ⟨rfl, hB⟩
  have O_q := O_q.keep hB
  have S_q := S_q.keep hB
  have O_u := O_u.keep hB
  have S_u := S_u.keep hB
  have O_d := O_d.keep hB
  have S_d := S_d.keep hB
  have O_p := O_p.keep hB
  have S_p := S_p.keep hB
  have O_oo := O_oo.keep hB
  have S_oo := S_oo.keep hB
  have O_y3 := O_y3.keep hB
  have c_q := S_q.cell
  have c_u := S_u.cell
  have c_d := S_d.cell
  have c_p := S_p.cell
  have c_oo := S_oo.cell
  have HB := joinB HB hB
  clear hB
  clear O_y3
  have BA := below_alloc w20 (.cells #[.slice none 0 0] 34)
  have O_q := O_q.keep BA
  have S_q := S_q.keep BA
  have O_u := O_u.keep BA
  have S_u := S_u.keep BA
  have O_d := O_d.keep BA
  have S_d := S_d.keep BA
  have O_p := O_p.keep BA
  have S_p := S_p.keep BA
  have O_oo := O_oo.keep BA
  have S_oo := S_oo.keep BA
  have c_q := S_q.cell
  have c_u := S_u.cell
  have c_d := S_d.cell
  have c_p := S_p.cell
  have c_oo := S_oo.cell
  have HB := joinB HB BA
  clear BA
  go_wp2_with fail
  generalize w20.alloc (.cells #[.slice none 0 0] 34) = v20 at *
  generalize w20.heap.size = gb20 at *
  have tZ := dZero (natO_nil v20).a (by decide)
  rw [decide_eq_true rfl] at tZ
  go_wp2_with fail
  refine (tZ).mono ?_
  rintro e w21 ⟨rfl, hB⟩
  have O_q := O_q.keep hB
  have S_q := S_q.keep hB
  have O_u := O_u.keep hB
  have S_u := S_u.keep hB
  have O_d := O_d.keep hB
  have S_d := S_d.keep hB
  have O_p := O_p.keep hB
  have S_p := S_p.keep hB
  have O_oo := O_oo.keep hB
  have S_oo := S_oo.keep hB
  have c_q := S_q.cell
  have c_u := S_u.cell
  have c_d := S_d.cell
  have c_p := S_p.cell
  have c_oo := S_oo.cell
  have HB := joinB HB hB
  clear hB
  clear tZ
  go_wp2_with fail
  refine (dTrunc O_p.a (by omega)).mono ?_
  rintro e w22 ⟨an, kn, dn, ar, kr, dr, rfl, O_n, O_r, hkn, hkr, hB⟩
  have O_q := O_q.keep hB
  have S_q := S_q.keep hB
  have O_u := O_u.keep hB
  have S_u := S_u.keep hB
  have O_d := O_d.keep hB
  have S_d := S_d.keep hB
  have O_p := O_p.keep hB
  have S_p := S_p.keep hB
  have O_oo := O_oo.keep hB
  have S_oo := S_oo.keep hB
  have c_q := S_q.cell
  have c_u := S_u.cell
  have c_d := S_d.cell
  have c_p := S_p.cell
  have c_oo := S_oo.cell
  have HB := joinB HB hB
  clear hB
  have O_n := O_n.eqv (show _ = (2 : Int) from by decide)
  have O_r := O_r.eqv (show _ = (750000000000000000000000000000000000 : Int) from by decide)
  have BA := below_alloc w22 (.cells #[.slice ar kr dr] 34)
  have S_r := slot_new w22 (.slice ar kr dr) 34
  have O_q := O_q.keep BA
  have S_q := S_q.keep BA
  have O_u := O_u.keep BA
  have S_u := S_u.keep BA
  have O_d := O_d.keep BA
  have S_d := S_d.keep BA
  have O_p := O_p.keep BA
  have S_p := S_p.keep BA
  have O_oo := O_oo.keep BA
  have S_oo := S_oo.keep BA
  have O_n := O_n.keep BA
  have O_r := O_r.keep BA
  have c_q := S_q.cell
  have c_u := S_u.cell
  have c_d := S_d.cell
  have c_p := S_p.cell
  have c_oo := S_oo.cell
  have HB := joinB HB BA
  clear BA
  have c_r := S_r.cell
  go_wp2_with fail
  generalize w22.alloc (.cells #[.slice ar kr dr] 34) = v22 at *
  generalize w22.heap.size = g_r at *
  go_wp2_with fail
  refine (dText O_q.a (by omega) (appAll_small (by decide))).mono ?_
  rintro e w23 ⟨T, rfl, hT, _, hB⟩
  obtain rfl := dtext_is hT [48, 46, 51, 51, 51, 51, 51, 51, 51, 51, 51, 51, 51, 51, 51, 51, 51, 51, 51, 51, 51, 51, 51, 51, 51, 51, 51, 51, 51, 51, 51, 51, 51, 51, 51, 51, 51, 51] [48] (by decide) (by decide) (by decide) (by decide) (by kernel_rfl)
  clear hT
  have O_q := O_q.keep hB
  have S_q := S_q.keep hB
  have O_u := O_u.keep hB
  have S_u := S_u.keep hB
  have O_d := O_d.keep hB
  have S_d := S_d.keep hB
  have O_p := O_p.keep hB
  have S_p := S_p.keep hB
  have O_oo := O_oo.keep hB
  have S_oo := S_oo.keep hB
  have O_n := O_n.keep hB
  have O_r := O_r.keep hB
  have S_r := S_r.keep hB
  have c_q := S_q.cell
  have c_u := S_u.cell
  have c_d := S_d.cell
  have c_p := S_p.cell
  have c_oo := S_oo.cell
  have c_r := S_r.cell
  have HB := joinB HB hB
  clear hB
  clear O_q S_q
  go_wp2_with fail
  refine (dText O_u.a (by omega) (appAll_small (by decide))).mono ?_
  rintro e w24 ⟨T, rfl, hT, _, hB⟩
  obtain rfl := dtext_is hT [48, 46, 51, 51, 51, 51, 51, 51, 51, 51, 51, 51, 51, 51, 51, 51, 51, 51, 51, 51, 51, 51, 51, 51, 51, 51, 51, 51, 51, 51, 51, 51, 51, 51, 51, 51, 51, 52] [48] (by decide) (by decide) (by decide) (by decide) (by kernel_rfl)
  clear hT
  have O_u := O_u.keep hB
  have S_u := S_u.keep hB
  have O_d := O_d.keep hB
  have S_d := S_d.keep hB
  have O_p := O_p.keep hB
  have S_p := S_p.keep hB
  have O_oo := O_oo.keep hB
  have S_oo := S_oo.keep hB
  have O_n := O_n.keep hB
  have O_r := O_r.keep hB
  have S_r := S_r.keep hB
  have c_u := S_u.cell
  have c_d := S_d.cell
  have c_p := S_p.cell
  have c_oo := S_oo.cell
  have c_r := S_r.cell
  have HB := joinB HB hB
  clear hB
  clear O_u S_u
  go_wp2_with fail
  refine (dText O_d.a (by omega) (appAll_small (by decide))).mono ?_
  rintro e w25 ⟨T, rfl, hT, _, hB⟩
  obtain rfl := dtext_is hT [48, 46, 51, 51, 51, 51, 51, 51, 51, 51, 51, 51, 51, 51, 51, 51, 51, 51, 51, 51, 51, 51, 51, 51, 51, 51, 51, 51, 51, 51, 51, 51, 51, 51, 51, 51, 51, 51] [48] (by decide) (by decide) (by decide) (by decide) (by kernel_rfl)
  clear hT
  have O_d := O_d.keep hB
  have S_d := S_d.keep hB
  have O_p := O_p.keep hB
  have S_p := S_p.keep hB
  have O_oo := O_oo.keep hB
  have S_oo := S_oo.keep hB
  have O_n := O_n.keep hB
  have O_r := O_r.keep hB
  have S_r := S_r.keep hB
  have c_d := S_d.cell
  have c_p := S_p.cell
  have c_oo := S_oo.cell
  have c_r := S_r.cell
  have HB := joinB HB hB
  clear hB
  clear O_d S_d
  go_wp2_with fail
  refine (dBasis (x := 1) (by decide) (by decide)).mono ?_
  rintro e w26 ⟨ab, kb, db, rfl, O_b, hkb, hB⟩
  have O_p := O_p.keep hB
  have S_p := S_p.keep hB
  have O_oo := O_oo.keep hB
  have S_oo := S_oo.keep hB
  have O_n := O_n.keep hB
  have O_r := O_r.keep hB
  have S_r := S_r.keep hB
  have c_p := S_p.cell
  have c_oo := S_oo.cell
  have c_r := S_r.cell
  have HB := joinB HB hB
  clear hB
  have O_b := O_b.eqv (show _ = (100000000000000000000000000000000 : Int) from by decide)
  go_wp2_with fail
  refine (dText O_b.a (by omega) (appAll_small (by decide))).mono ?_
  rintro e w27 ⟨T, rfl, hT, _, hB⟩
  obtain rfl := dtext_is hT [48, 46, 48, 48, 48, 49] [48] (by decide) (by decide) (by decide) (by decide) (by kernel_rfl)
  clear hT
  have O_p := O_p.keep hB
  have S_p := S_p.keep hB
  have O_oo := O_oo.keep hB
  have S_oo := S_oo.keep hB
  have O_n := O_n.keep hB
  have O_r := O_r.keep hB
  have S_r := S_r.keep hB
  have O_b := O_b.keep hB
  have c_p := S_p.cell
  have c_oo := S_oo.cell
  have c_r := S_r.cell
  have HB := joinB HB hB
  clear hB
  clear O_b
  go_wp2_with fail
  refine (dText O_oo.a (by omega) (appAll_small (by decide))).mono ?_
  rintro e w28 ⟨T, rfl, hT, _, hB⟩
  obtain rfl := dtext_is hT [48, 46, 50, 53] [48] (by decide) (by decide) (by decide) (by decide) (by kernel_rfl)
  clear hT
  have O_p := O_p.keep hB
  have S_p := S_p.keep hB
  have O_oo := O_oo.keep hB
  have S_oo := S_oo.keep hB
  have O_n := O_n.keep hB
  have O_r := O_r.keep hB
  have S_r := S_r.keep hB
  have c_p := S_p.cell
  have c_oo := S_oo.cell
  have c_r := S_r.cell
  have HB := joinB HB hB
  clear hB
  go_wp2_with fail
  refine (nText O_n.a (by omega) (appAll_small (by decide))).mono ?_
  rintro e w29 ⟨T, rfl, hT, _, hB⟩
  obtain rfl := text_is hT [50] (by decide) (by decide) (by decide) (by decide)
  clear hT
  have O_p := O_p.keep hB
  have S_p := S_p.keep hB
  have O_oo := O_oo.keep hB
  have S_oo := S_oo.keep hB
  have O_n := O_n.keep hB
  have O_r := O_r.keep hB
  have S_r := S_r.keep hB
  have c_p := S_p.cell
  have c_oo := S_oo.cell
  have c_r := S_r.cell
  have HB := joinB HB hB
  clear hB
  go_wp2_with fail
  refine (dText O_r.a (by omega) (appAll_small (by decide))).mono ?_
  rintro e w30 ⟨T, rfl, hT, _, hB⟩
  obtain rfl := dtext_is hT [48, 46, 55, 53] [48] (by decide) (by decide) (by decide) (by decide) (by kernel_rfl)
  clear hT
  have O_p := O_p.keep hB
  have S_p := S_p.keep hB
  have O_oo := O_oo.keep hB
  have S_oo := S_oo.keep hB
  have O_n := O_n.keep hB
  have O_r := O_r.keep hB
  have S_r := S_r.keep hB
  have c_p := S_p.cell
  have c_oo := S_oo.cell
  have c_r := S_r.cell
  have HB := joinB HB hB
  clear hB
  clear O_r S_r
  go_wp2_with fail
  refine (dAdd O_p.a O_p.a (by omega) (by omega)).mono ?_
  rintro e w31 ⟨az1, kz1, dz1, rfl, O_z1, hkz1, hB⟩
  have O_p := O_p.keep hB
  have S_p := S_p.keep hB
  have O_oo := O_oo.keep hB
  have S_oo := S_oo.keep hB
  have O_n := O_n.keep hB
  have c_p := S_p.cell
  have c_oo := S_oo.cell
  have HB := joinB HB hB
  clear hB
  have O_z1 := O_z1.eqv (show _ = (5500000000000000000000000000000000000 : Int) from by decide)
  go_wp2_with fail
  refine (dText O_z1.a (by omega) (appAll_small (by decide))).mono ?_
  rintro e w32 ⟨T, rfl, hT, _, hB⟩
  obtain rfl := dtext_is hT [53, 46, 53] [53] (by decide) (by decide) (by decide) (by decide) (by kernel_rfl)
  clear hT
  have O_p := O_p.keep hB
  have S_p := S_p.keep hB
  have O_oo := O_oo.keep hB
  have S_oo := S_oo.keep hB
  have O_n := O_n.keep hB
  have O_z1 := O_z1.keep hB
  have c_p := S_p.cell
  have c_oo := S_oo.cell
  have HB := joinB HB hB
  clear hB
  clear O_z1
  go_wp2_with fail
  refine (dMul O_oo.a (by omega) O_oo.a (by omega)).mono ?_
  rintro e w33 ⟨az2, kz2, dz2, rfl, O_z2, hkz2, hB⟩
  have O_p := O_p.keep hB
  have S_p := S_p.keep hB
  have O_oo := O_oo.keep hB
  have S_oo := S_oo.keep hB
  have O_n := O_n.keep hB
  have c_p := S_p.cell
  have c_oo := S_oo.cell
  have HB := joinB HB hB
  clear hB
  have O_z2 := O_z2.eqv (show _ = (62500000000000000000000000000000000 : Int) from by decide)
  go_wp2_with fail
  refine (dText O_z2.a (by omega) (appAll_small (by decide))).mono ?_
  rintro e w34 ⟨T, rfl, hT, _, hB⟩
  obtain rfl := dtext_is hT [48, 46, 48, 54, 50, 53] [48] (by decide) (by decide) (by decide) (by decide) (by kernel_rfl)
  clear hT
  have O_p := O_p.keep hB
  have S_p := S_p.keep hB
  have O_oo := O_oo.keep hB
  have S_oo := S_oo.keep hB
  have O_n := O_n.keep hB
  have O_z2 := O_z2.keep hB
  have c_p := S_p.cell
  have c_oo := S_oo.cell
  have HB := joinB HB hB
  clear hB
  clear O_z2
  go_wp2_with fail
  refine (dTimes (y := 10) O_oo.a (by omega) (by decide) (by decide)).mono ?_
  rintro e w35 ⟨az3, kz3, dz3, rfl, O_z3, hkz3, hB⟩
  have O_p := O_p.keep hB
  have S_p := S_p.keep hB
  have O_oo := O_oo.keep hB
  have S_oo := S_oo.keep hB
  have O_n := O_n.keep hB
  have c_p := S_p.cell
  have c_oo := S_oo.cell
  have HB := joinB HB hB
  clear hB
  have O_z3 := O_z3.eqv (show _ = (2500000000000000000000000000000000000 : Int) from by decide)
  go_wp2_with fail
  refine (dText O_z3.a (by omega) (appAll_small (by decide))).mono ?_
  rintro e w36 ⟨T, rfl, hT, _, hB⟩
  obtain rfl := dtext_is hT [50, 46, 53] [50] (by decide) (by decide) (by decide) (by decide) (by kernel_rfl)
  clear hT
  have O_p := O_p.keep hB
  have S_p := S_p.keep hB
  have O_oo := O_oo.keep hB
  have S_oo := S_oo.keep hB
  have O_n := O_n.keep hB
  have O_z3 := O_z3.keep hB
  have c_p := S_p.cell
  have c_oo := S_oo.cell
  have HB := joinB HB hB
  clear hB
  clear O_z3
  have tC := dCmp O_oo.a O_p.a (by omega) (by omega)
  rw [show sgn (250000000000000000000000000000000000 : Int) 2750000000000000000000000000000000000 = -1 from by decide] at tC
  go_wp2_with fail
  refine (tC).mono ?_
  rintro e w37 ⟨rfl, hB⟩
  have O_p := O_p.keep hB
  have S_p := S_p.keep hB
  have O_oo := O_oo.keep hB
  have S_oo := S_oo.keep hB
  have O_n := O_n.keep hB
  have c_p := S_p.cell
  have c_oo := S_oo.cell
  have HB := joinB HB hB
  clear hB
  clear tC
  clear O_oo S_oo O_p S_p
  go_wp2_with fail
  refine (dOfNat O_n.a (by omega)).mono ?_
  rintro e w38 ⟨az4, kz4, dz4, rfl, O_z4, hkz4, hB⟩
  have O_n := O_n.keep hB
  have HB := joinB HB hB
  clear hB
  have O_z4 := O_z4.eqv (show _ = (2000000000000000000000000000000000000 : Int) from by decide)
  go_wp2_with fail
  refine (dText O_z4.a (by omega) (appAll_small (by decide))).mono ?_
  rintro e w39 ⟨T, rfl, hT, _, hB⟩
  obtain rfl := dtext_is hT [50] [50] (by decide) (by decide) (by decide) (by decide) (by kernel_rfl)
  clear hT
  have O_n := O_n.keep hB
  have O_z4 := O_z4.keep hB
  have HB := joinB HB hB
  clear hB
  go_wp2
  go_ret
  exact ⟨rfl, HB⟩
end Go.Proofs.YtpbiflfdfiebcabGreatDoor
