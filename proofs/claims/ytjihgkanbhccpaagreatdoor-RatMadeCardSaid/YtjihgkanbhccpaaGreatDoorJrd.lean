/- Several texts, joined: Ref3e, RatF. -/
import Derived.Test.YtjihgkanbhccpaaGreatDoorJrb
import Derived.Test.YtjihgkanbhccpaaGreatDoorJda
import Derived.Test.YtjihgkanbhccpaaGreatDoorJra
namespace Go.Proofs.YtjihgkanbhccpaaGreatDoor
open Go.RowKit Lim

theorem ar_load {ops : Array Oper} {Q : Exit → Act → World → Prop} {S : World → Prop} {fuel : Nat} {listed : Array Bool} {a : Act} {w : World} {rs : List Nat} (i : Nat) (d : Option Tmp) (v : Value) (T : TypeId) (k g o : Nat) (hc : rgWant ops a i d = true) (ho : (ops.getD i default).op = .load T (.tmp k)) (hp : a.eval (.tmp k) = .pointer (some ⟨g, o, none⟩))
    (hl : (loadVar T ⟨g, o, none⟩).run Tryz.prog w = .ok v w) (hS1 : S w) (h : wpAnyH Tryz.prog .any ops Q S fuel (listed.setIfInBounds i true) (a.put d v) w)
    (hs : AllReadyH Tryz.prog .any ops Q S fuel listed a w rs) : AllReadyH Tryz.prog .any ops Q S fuel listed a w (i :: rs) :=
  ar_val i d v w hc (by
    simp only [execOp, ho, hp]
    simp [Instr.loadAt, Instr.sureAddr, Result.andThen, hl]) hS1 h hs
theorem pow_mono64 {s t : Nat} (h : s ≤ t) : (18446744073709551616 : Int) ^ s ≤ 18446744073709551616 ^ t := by
  have := Nat.pow_le_pow_right (show 0 < 18446744073709551616 by decide) h
  have h2 : ((18446744073709551616 ^ s : Nat) : Int) ≤ ((18446744073709551616 ^ t : Nat) : Int) := Int.ofNat_le.2 this
  rw [Int.natCast_pow, Int.natCast_pow] at h2
  exact h2
theorem natO_len {w : World} {a : Option Addr} {k d : Nat} {x : Int} (h : NatO w a k d x) {s : Nat} (hs : x < 18446744073709551616 ^ s) : k ≤ s := by
  obtain ⟨b, o, l, h1, h2, h3, h4⟩ := h.ex
  obtain ⟨g1, g2, g3⟩ := h3
  by_cases h0 : k = 0
  · omega
  · have := val_ge_of_nlen g1 (by omega)
    rw [g3] at this
    rcases Nat.lt_or_ge s k with c | c
    · have hp : (18446744073709551616 : Int) ^ s ≤ 18446744073709551616 ^ (nlen l - 1) := pow_mono64 (by omega)
      omega
    · exact c
theorem Red.le {N D p q : Int} (R : Red N D p q) (hq : 0 < q) : N ≤ p ∧ D ≤ q := by
  have hn := R.n0
  have hd := R.d0
  have he := R.eq
  obtain ⟨a, rfl⟩ : ∃ a : Nat, N = a := ⟨N.toNat, by omega⟩
  obtain ⟨b, rfl⟩ : ∃ b : Nat, D = b := ⟨D.toNat, by omega⟩
  have hc : a.Coprime b := R.co
  have hp : 0 ≤ p := by
    rcases Int.lt_or_le p 0 with c | c
    · have h1 := Int.mul_neg_of_neg_of_pos c hd
      have h2 := Int.mul_nonneg hn (Int.le_of_lt hq)
      omega
    · exact c
  obtain ⟨c, rfl⟩ : ∃ c : Nat, p = c := ⟨p.toNat, by omega⟩
  obtain ⟨d, rfl⟩ : ∃ c : Nat, q = c := ⟨q.toNat, by omega⟩
  have he' : a * d = c * b := by
    have : ((a * d : Nat) : Int) = ((c * b : Nat) : Int) := by rw [Int.natCast_mul, Int.natCast_mul]; exact he
    exact Int.ofNat.inj this
  have h1 : b ∣ d := hc.symm.dvd_of_dvd_mul_left (by rw [he']; exact Nat.dvd_mul_left _ _)
  obtain ⟨g, rfl⟩ := h1
  have hb : 0 < b := by omega
  have hg : 0 < g := by
    rcases Nat.eq_zero_or_pos g with e | e
    · subst e; simp at hq
    · exact e
  have hcg : c = a * g := by
    have : c * b = a * g * b := by rw [← he']; grind
    exact Nat.eq_of_mul_eq_mul_right hb this
  subst hcg
  have l1 : a ≤ a * g := Nat.le_mul_of_pos_right a hg
  have l2 : b ≤ b * g := Nat.le_mul_of_pos_right b hg
  exact ⟨by exact_mod_cast l1, by exact_mod_cast l2⟩
theorem QR.shrink {w : World} {a b : Option Addr} {n c m d : Nat} {p q : Int} {B : Nat} (h : QR w a n c b m d p q B) {s : Nat} (hp : p < 18446744073709551616 ^ s) (hq : q < 18446744073709551616 ^ s) : QR w a n c b m d p q s := by
  obtain ⟨N, D, h1, h2, R⟩ := h.ex
  obtain ⟨l1, l2⟩ := R.le h.q0
  exact ⟨⟨N, D, h1, h2, R⟩, h.q0, h.p0, natO_len h1 (by omega), natO_len h2 (by omega)⟩
set_option maxHeartbeats 4000000 in
set_option maxRecDepth 100000 in
theorem tZeroR {w : World} {B : Nat} {a0 b0 : Option Addr} {n0 c0 m0 d0 : Nat} {x0 y0 : Int} (h0 : NatA w a0 n0 c0 x0) (e0 : NatA w b0 m0 d0 y0) (hn0 : n0 ≤ B) (hm0 : m0 ≤ B) (hb : B ≤ 20000000) :
    Calls Tryz.prog 45 #[.agg #[.slice a0 n0 c0, .slice b0 m0 d0]] w fun e w' => e = .returned (.bool (decide (cn x0 y0 = 0))) ∧ Below w.heap.size w w' := by
  have HB := below_alloc w (.cells #[.slice a0 n0 c0, .slice b0 m0 d0] 30)
  have P0 := box_new w [.slice a0 n0 c0, .slice b0 m0 d0] 30
  replace h0 := h0.keep HB
  replace e0 := e0.keep HB
  obtain ⟨i1, i2, i3, i4⟩ := P0.cells2
  by_cases hz : cn x0 y0 = 0
  · rw [decide_eq_true hz]
    have HZ := (show Hid _ from hz)
    clear hz
    go_enter Tryz.func45, Tryz.ntmps45
    go_wp2_with fail
    refine (tRight h0 e0 (by omega) (by omega)).mono ?_
    rintro e w1 ⟨A, K, C, A', K', C', rfl, O1, O2, hk, hk', hB⟩
    replace HB := joinB HB hB
    clear hB i1 i2 i3 i4 P0 O2
    have hfld : ∀ w, (Instr.field 30 (.agg #[.slice A K C, .slice A' K' C']) 0).run Tryz.prog w = .ok (.slice A K C) w := fun w => by kernel_rfl
    go_wp2_with fail
    refine (rNorm O1 (by omega)).mono ?_
    rintro e w2 ⟨A2, K2, C2, rfl, O3, hk2, hB⟩
    replace HB := joinB HB hB
    obtain rfl : K2 = 0 := natO_zero (O3.eqv HZ.out)
    clear hB O3 hfld hk2 HZ
    go_wp2
    go_ret
    exact ⟨rfl, HB⟩
  · rw [decide_eq_false hz]
    have HZ := (show Hid _ from hz)
    clear hz
    go_enter Tryz.func45, Tryz.ntmps45
    go_wp2_with fail
    refine (tRight h0 e0 (by omega) (by omega)).mono ?_
    rintro e w1 ⟨A, K, C, A', K', C', rfl, O1, O2, hk, hk', hB⟩
    replace HB := joinB HB hB
    clear hB i1 i2 i3 i4 P0 O2
    have hfld : ∀ w, (Instr.field 30 (.agg #[.slice A K C, .slice A' K' C']) 0).run Tryz.prog w = .ok (.slice A K C) w := fun w => by kernel_rfl
    go_wp2_with fail
    refine (rNorm O1 (by omega)).mono ?_
    rintro e w2 ⟨A2, K2, C2, rfl, O3, hk2, hB⟩
    replace HB := joinB HB hB
    obtain ⟨j, rfl⟩ : ∃ j, K2 = j + 1 := ⟨K2 - 1, by have := natO_pos O3 HZ.out; omega⟩
    clear hB O3 hfld hk2 HZ
    go_wp2
    go_ret
    exact ⟨rfl, HB⟩
set_option maxHeartbeats 4000000 in
set_option maxRecDepth 100000 in
theorem tOfZ {w : World} {ao ao' : Option Addr} {n c n' c' : Nat} {y : Int} (h' : NatA w ao' n' c' y) (hn' : n' ≤ 17179869184) (hz : y = 0) :
    Calls Tryz.prog 39 #[.slice ao n c, .slice ao' n' c'] w fun e w' => e = .returned (.tuple #[.agg #[.slice none 0 0, .slice none 0 0], .int .i64 30]) ∧ Below w.heap.size w w' := by
  have HB := below_alloc w (.cells #[.slice none 0 0, .slice none 0 0] 30)
  have X4 := box_new w [.slice none 0 0, .slice none 0 0] 30
  replace h' := h'.keep HB
  have HZ := (show Hid _ from hz)
  clear hz
  go_enter Tryz.func39, Tryz.ntmps39
  go_wp2_with fail
  refine (rNorm h' (by omega)).mono ?_
  rintro e w1 ⟨A1, K1, C1, rfl, O1, hk1, hB⟩
  obtain rfl : K1 = 0 := natO_zero (O1.eqv HZ.out)
  replace X4 := X4.keep hB
  replace HB := joinB HB hB
  clear hB O1 hk1 HZ h'
  obtain ⟨i1, i2, i3, i4⟩ := X4.cells2
  have S2 := X4.put2 (.slice none 0 0) (.slice none 0 0)
  have HB2 := below_put2 HB (g := w.heap.size) (by omega) (.slice none 0 0) (.slice none 0 0)
  clear X4 HB
  go_wp2
  refine bodyPost_ret (ret_rat_tmp rfl rfl rfl S2) rfl ?_
  exact ⟨rfl, HB2⟩
set_option maxHeartbeats 4000000 in
set_option maxRecDepth 100000 in
theorem tOf {w : World} {ao ao' : Option Addr} {n c n' c' : Nat} {x y : Int} {B : Nat} (h : NatA w ao n c x) (h' : NatA w ao' n' c' y) (hn : n ≤ B) (hn' : n' ≤ B) (hb : B ≤ 10000000) (hne : y ≠ 0) :
    Calls Tryz.prog 39 #[.slice ao n c, .slice ao' n' c'] w fun e w' => ∃ a k d a' k' d', e = .returned (.tuple #[.agg #[.slice a k d, .slice a' k' d'], .int .i64 0]) ∧ QR w' a k d a' k' d' x y (2 * B) ∧ Below w.heap.size w w' := by
  have HP : Hid (0 ≤ x ∧ 0 < y) := ⟨h.nonneg, by have := h'.nonneg; omega⟩
  have HB := below_alloc w (.cells #[.slice none 0 0, .slice none 0 0] 30)
  have X4 := box_new w [.slice none 0 0, .slice none 0 0] 30
  replace h := h.keep HB
  replace h' := h'.keep HB
  have HZ := (show Hid _ from hne)
  clear hne
  go_enter Tryz.func39, Tryz.ntmps39
  go_wp2_with fail
  refine (rNorm h' (by omega)).mono ?_
  rintro e w1 ⟨A1, K1, C1, rfl, O1, hk1, hB⟩
  obtain ⟨j, rfl⟩ : ∃ j, K1 = j + 1 := ⟨K1 - 1, by have := natO_pos O1 HZ.out; omega⟩
  replace h := h.keep hB
  replace h' := h'.keep hB
  replace X4 := X4.keep hB
  replace HB := joinB HB hB
  clear hB O1
  go_wp2_with fail
  refine (tMade h h' (by omega) (by omega) HZ.out).mono ?_
  rintro e w2 ⟨Ar, Kr, Dr, As', Ks, Ds, rfl, Or1, Or2, hkr, hks, hB⟩
  replace X4 := X4.keep hB
  replace HB := joinB HB hB
  clear hB h h'
  obtain ⟨i1, i2, i3, i4⟩ := X4.cells2
  have S2 := X4.put2 (.slice Ar Kr Dr) (.slice As' Ks Ds)
  have Q1 := Or1.put2 X4 (.slice Ar Kr Dr) (.slice As' Ks Ds)
  have Q2 := Or2.put2 X4 (.slice Ar Kr Dr) (.slice As' Ks Ds)
  have HB2 := below_put2 HB (g := w.heap.size) (by omega) (.slice Ar Kr Dr) (.slice As' Ks Ds)
  clear X4 HB Or1 Or2
  go_wp2
  refine bodyPost_ret (ret_rat_tmp rfl rfl rfl S2) rfl ?_
  exact ⟨_, _, _, _, _, _, rfl, pairR Q1 Q2 (red_of HP.out.1 HP.out.2) HP.out.2 HP.out.1 (by omega) (by omega), HB2⟩
set_option maxHeartbeats 4000000 in
set_option maxRecDepth 100000 in
theorem tOfNat {w : World} {ao : Option Addr} {n c : Nat} {x : Int} {B : Nat} (h : NatA w ao n c x) (hn : n ≤ B) (h2 : 2 ≤ B) (hb : B ≤ 10000000) :
    Calls Tryz.prog 40 #[.slice ao n c] w fun e w' => ∃ a k d a' k' d', e = .returned (.agg #[.slice a k d, .slice a' k' d']) ∧ QR w' a k d a' k' d' x 1 (2 * B) ∧ Below w.heap.size w w' := by
  have HP : Hid (0 ≤ x) := h.nonneg
  have HB := below_alloc w (.cells #[.slice none 0 0, .slice none 0 0] 30)
  have X4 := box_new w [.slice none 0 0, .slice none 0 0] 30
  replace h := h.keep HB
  go_enter Tryz.func40, Tryz.ntmps40
  go_wp2_with fail
  refine (rOf (x := 1) (by decide) (by decide)).mono ?_
  rintro e w1 ⟨A1, K1, C1, rfl, O1, hk1, hB⟩
  replace h := h.keep hB
  replace X4 := X4.keep hB
  replace HB := joinB HB hB
  clear hB
  go_wp2_with fail
  refine (tMade h O1.a (by omega) (by omega) (by decide)).mono ?_
  rintro e w2 ⟨Ar, Kr, Dr, As', Ks, Ds, rfl, Or1, Or2, hkr, hks, hB⟩
  replace X4 := X4.keep hB
  replace HB := joinB HB hB
  clear hB h O1
  obtain ⟨i1, i2, i3, i4⟩ := X4.cells2
  have S2 := X4.put2 (.slice Ar Kr Dr) (.slice As' Ks Ds)
  have Q1 := Or1.put2 X4 (.slice Ar Kr Dr) (.slice As' Ks Ds)
  have Q2 := Or2.put2 X4 (.slice Ar Kr Dr) (.slice As' Ks Ds)
  have HB2 := below_put2 HB (g := w.heap.size) (by omega) (.slice Ar Kr Dr) (.slice As' Ks Ds)
  clear X4 HB Or1 Or2
  go_wp2
  refine bodyPost_ret (ret_rat rfl rfl S2) rfl ?_
  exact ⟨_, _, _, _, _, _, rfl, pairR Q1 Q2 (red_of HP.out (by decide)) (by decide) HP.out (by omega) (by omega), HB2⟩
set_option maxHeartbeats 4000000 in
set_option maxRecDepth 100000 in
theorem tOfDec {w : World} {ao : Option Addr} {n c : Nat} {x : Int} {B : Nat} (h : NatA w ao n c x) (hn : n ≤ B) (h2 : 38 ≤ B) (hb : B ≤ 10000000) :
    Calls Tryz.prog 41 #[.agg #[.slice ao n c]] w fun e w' => ∃ a k d a' k' d', e = .returned (.agg #[.slice a k d, .slice a' k' d']) ∧ QR w' a k d a' k' d' x U36 (2 * B) ∧ Below w.heap.size w w' := by
  have HP : Hid (0 ≤ x) := h.nonneg
  have NE : Hid (U36 ≠ 0) := show U36 ≠ 0 by decide
  have HB := below2 w (.cells #[.slice ao n c] 46) (.cells #[.slice none 0 0, .slice none 0 0] 30)
  have P0 := (box_new w [.slice ao n c] 46).keep (below_alloc _ (.cells #[.slice none 0 0, .slice none 0 0] 30))
  have X4 := box_new (w.alloc (.cells #[.slice ao n c] 46)) [.slice none 0 0, .slice none 0 0] 30
  rw [show (w.alloc (.cells #[.slice ao n c] 46)).heap.size = w.heap.size + 1 by simp] at X4
  replace h := h.keep HB
  go_enter Tryz.func41, Tryz.ntmps41
  go_wp2_with fail
  generalize (w.alloc (.cells #[.slice ao n c] 46)).alloc (.cells #[.slice none 0 0, .slice none 0 0] 30) = u0 at *
  refine rg_start (S := fun w' => Box w' w.heap.size [.slice ao n c] 46) (by kernel_rfl) P0.drew ?_
  have hS := P0.drew
  replace h := h.drew
  replace X4 := X4.drew
  replace HB := HB.drew
  clear P0
  refine rg_take 0 (some 3) (.pointer (some ⟨w.heap.size, 0, none⟩)) (by kernel_rfl) (fun _ _ => by kernel_rfl) (fun _ _ _ h => h) hS ?_
  refine rg_load 1 (some 4) (.slice ao n c) 28 3 (w.heap.size) 0 (by kernel_rfl) (by kernel_rfl) (by kernel_rfl) (fun _ hs => load_raw hs.slot) (fun _ _ _ h => h) hS ?_
  refine rg_call 2 (some 5) 98 #[] (by kernel_rfl) (by kernel_rfl) eOne ?_
  rintro e z1 ⟨A1, K1, C1, rfl, O1, hk1, hB⟩
  refine ⟨_, rfl, hS.keep hB, ?_⟩
  replace hS := hS.keep hB
  replace h := h.keep hB
  replace X4 := X4.keep hB
  replace HB := joinB HB hB
  clear hB
  refine rg_call 3 (some 6) 96 #[.slice ao n c, .slice A1 K1 C1] (by kernel_rfl) (by kernel_rfl) (tMade h O1.a (by omega) (by omega) NE.out) ?_
  rintro e z2 ⟨Ar, Kr, Dr, As', Ks, Ds, rfl, Or1, Or2, hkr, hks, hB⟩
  refine ⟨_, rfl, hS.keep hB, ?_⟩
  replace hS := hS.keep hB
  replace X4 := X4.keep hB
  replace HB := joinB HB hB
  clear hB h O1
  refine rg_ready [4] (by kernel_rfl) (by simp) ?_
  refine ar_store 4 30 30 2 6 (w.heap.size + 1) [.slice none 0 0, .slice none 0 0] [.slice Ar Kr Dr, .slice As' Ks Ds] (by kernel_rfl) (by kernel_rfl) (by kernel_rfl) (by kernel_rfl) X4 (by kernel_rfl) rfl (by kernel_rfl) ?_ ar_nil
  intro z3 Y hw hB
  refine ⟨hS.off (by omega) hw, ?_⟩
  replace HB := HB.trans (hB.mono (by omega))
  replace Or1 := Or1.blk X4 (no_ints2 _ _ _ _ _ _) hw
  replace Or2 := Or2.blk X4 (no_ints2 _ _ _ _ _ _) hw
  replace X4 := Y
  clear hB hw hS Y
  refine rg_done (by kernel_rfl) ?_
  try simp only [Act.put, List.setIfInBounds_toArray, List.set_cons_zero, List.set_cons_succ]
  go_wp2
  refine bodyPost_ret (ret_rat rfl rfl X4) rfl ?_
  exact ⟨_, _, _, _, _, _, rfl, pairR Or1 Or2 (red_of HP.out u36_pos) u36_pos HP.out (by omega) (by omega), HB⟩
set_option maxHeartbeats 4000000 in
set_option maxRecDepth 100000 in
theorem tFloorR {w : World} {B : Nat} {a0 b0 : Option Addr} {n0 c0 m0 d0 : Nat} {x0 y0 : Int} (h0 : NatA w a0 n0 c0 x0) (e0 : NatA w b0 m0 d0 y0) (hn0 : n0 ≤ B) (hm0 : m0 ≤ B) (hb : B ≤ 10000000) :
    Calls Tryz.prog 43 #[.agg #[.slice a0 n0 c0, .slice b0 m0 d0]] w fun e w' => ∃ a k d, e = .returned (.slice a k d) ∧ NatO w' a k d (cn x0 y0 / cd y0) ∧ k ≤ 2 * B ∧ Below w.heap.size w w' := by
  have HB := below_alloc w (.cells #[.slice a0 n0 c0, .slice b0 m0 d0] 30)
  have P0 := box_new w [.slice a0 n0 c0, .slice b0 m0 d0] 30
  have NE := (show Hid _ from cd_ne y0)
  replace h0 := h0.keep HB
  replace e0 := e0.keep HB
  obtain ⟨i1, i2, i3, i4⟩ := P0.cells2
  go_enter Tryz.func43, Tryz.ntmps43
  go_wp2_with fail
  refine (tRight h0 e0 (by omega) (by omega)).mono ?_
  rintro e w1 ⟨A0, N0, C0, B0, M0, D0, rfl, C0', E0', hN0, hM0, hB⟩
  replace P0 := P0.keep hB
  replace HB := joinB HB hB
  clear hB i1 i2 i3 i4 h0 e0
  have S2 := P0.put2 (.slice A0 N0 C0) (.slice B0 M0 D0)
  have Q1 := C0'.put2 P0 (.slice A0 N0 C0) (.slice B0 M0 D0)
  have Q2 := E0'.put2 P0 (.slice A0 N0 C0) (.slice B0 M0 D0)
  obtain ⟨k1, k2, k3, k4⟩ := P0.cells2
  have HB2 := below_put2 HB (g := w.heap.size) (by omega) (.slice A0 N0 C0) (.slice B0 M0 D0)
  obtain ⟨j1, j2, j3, j4⟩ := S2.cells2
  clear C0' E0' P0 HB
  go_wp2_with fail
  refine (rDiv Q1 Q2 (by omega) (by omega) NE.out).mono ?_
  rintro e w2 ⟨a, k, d, a', k', d', rfl, O1, O2, hk, hk', hB⟩
  replace HB2 := joinB HB2 hB
  clear k1 k2 k3 k4 j1 j2 j3 j4 S2 Q1 Q2 hB
  go_wp2
  go_ret
  exact ⟨a, k, d, rfl, O1, by omega, HB2⟩
set_option maxHeartbeats 4000000 in
set_option maxRecDepth 100000 in
theorem tDownR {w : World} {B : Nat} {a0 b0 : Option Addr} {n0 c0 m0 d0 : Nat} {x0 y0 : Int} (h0 : NatA w a0 n0 c0 x0) (e0 : NatA w b0 m0 d0 y0) (hn0 : n0 ≤ B) (hm0 : m0 ≤ B) (hb : B ≤ 10000000) :
    Calls Tryz.prog 44 #[.agg #[.slice a0 n0 c0, .slice b0 m0 d0]] w fun e w' => ∃ a k d, e = .returned (.agg #[.slice a k d]) ∧ NatO w' a k d (cn x0 y0 * U36 / cd y0) ∧ k ≤ 4 * B + 160 ∧ Below w.heap.size w w' := by
  have HB := below2 w (.cells #[.slice a0 n0 c0, .slice b0 m0 d0] 30) (.cells #[.slice none 0 0] 46)
  have P0 := (box_new w [.slice a0 n0 c0, .slice b0 m0 d0] 30).keep (below_alloc _ (.cells #[.slice none 0 0] 46))
  have X4 := box_new (w.alloc (.cells #[.slice a0 n0 c0, .slice b0 m0 d0] 30)) [.slice none 0 0] 46
  rw [show (w.alloc (.cells #[.slice a0 n0 c0, .slice b0 m0 d0] 30)).heap.size = w.heap.size + 1 by simp] at X4
  have NE := (show Hid _ from cd_ne y0)
  replace h0 := h0.keep HB
  replace e0 := e0.keep HB
  obtain ⟨i1, i2, i3, i4⟩ := P0.cells2
  go_enter Tryz.func44, Tryz.ntmps44
  go_wp2_with fail
  refine (tRight h0 e0 (by omega) (by omega)).mono ?_
  rintro e w1 ⟨A0, N0, C0, B0, M0, D0, rfl, C0', E0', hN0, hM0, hB⟩
  replace P0 := P0.keep hB
  replace X4 := X4.keep hB
  replace HB := joinB HB hB
  clear hB i1 i2 i3 i4 h0 e0
  have S2 := P0.put2 (.slice A0 N0 C0) (.slice B0 M0 D0)
  have Q1 := C0'.put2 P0 (.slice A0 N0 C0) (.slice B0 M0 D0)
  have Q2 := E0'.put2 P0 (.slice A0 N0 C0) (.slice B0 M0 D0)
  obtain ⟨k1, k2, k3, k4⟩ := P0.cells2
  have HB2 := below_put2 HB (g := w.heap.size) (by omega) (.slice A0 N0 C0) (.slice B0 M0 D0)
  have X5 := X4.other2 (g' := w.heap.size) (by omega) (.slice A0 N0 C0) (.slice B0 M0 D0)
  clear C0' E0' HB X4
  go_wp2_with fail
  clear k1 k2 k3 k4 P0
  generalize (w1.setCell ⟨w.heap.size, 0, none⟩ (.slice A0 N0 C0)).setCell ⟨w.heap.size, 1, none⟩ (.slice B0 M0 D0) = u1 at *
  refine rg_start (S := fun w' => Below u1.drew.heap.size u1.drew w') (by kernel_rfl) (Below.refl _ _) ?_
  replace Q1 := Q1.drew
  replace Q2 := Q2.drew
  replace X5 := X5.drew
  replace S2 := S2.drew
  replace HB2 := HB2.drew
  have hS := Below.refl u1.drew.heap.size u1.drew
  refine rg_take 0 (some 9) (.pointer (some ⟨w.heap.size, 0, none⟩)) (by kernel_rfl) (fun _ _ => by kernel_rfl) (fun _ _ _ h => h) hS ?_
  refine rg_load 1 (some 10) (.slice A0 N0 C0) 28 9 (w.heap.size) 0 (by kernel_rfl) (by kernel_rfl) (by kernel_rfl) (fun _ hb => load_at ((S2.keep hb).cells2.1)) (fun _ _ _ h => h) hS ?_
  refine rg_take 3 (some 12) (.pointer (some ⟨w.heap.size, 1, none⟩)) (by kernel_rfl) (fun _ _ => by kernel_rfl) (fun _ _ _ h => h) hS ?_
  refine rg_load 4 (some 13) (.slice B0 M0 D0) 28 12 (w.heap.size) 1 (by kernel_rfl) (by kernel_rfl) (by kernel_rfl) (fun _ hb => load_at ((S2.keep hb).cells2.2.1)) (fun _ _ _ h => h) hS ?_
  refine rg_call 2 (some 11) 98 #[] (by kernel_rfl) (by kernel_rfl) eOne ?_
  rintro e z1 ⟨A1, K1, C1, rfl, O1, hk1, hB⟩
  refine ⟨_, rfl, joinB hS hB, ?_⟩
  replace hS := joinB hS hB
  replace Q1 := Q1.keep hB
  replace Q2 := Q2.keep hB
  replace X5 := X5.keep hB
  replace HB2 := joinB HB2 hB
  clear hB
  refine rg_call 5 (some 14) 101 #[.slice A0 N0 C0, .slice A1 K1 C1, .slice B0 M0 D0] (by kernel_rfl) (by kernel_rfl) (rMulDiv Q1 O1.a Q2 (by omega) (by omega) (by omega) NE.out) ?_
  rintro e z2 ⟨a, k, d, a', k', d', rfl, O2, O3, hk, hk', hB⟩
  refine ⟨_, rfl, joinB hS hB, ?_⟩
  replace hS := joinB hS hB
  replace X5 := X5.keep hB
  replace HB2 := joinB HB2 hB
  clear hB Q1 Q2 O1 O3
  refine rg_take 6 (some 8) (.tuple #[.slice a k d, .slice a' k' d', .int .i64 0]) (by kernel_rfl) (fun _ _ => by kernel_rfl) (fun _ _ _ h => h) hS ?_
  refine rg_take 7 (some 15) (.slice a k d) (by kernel_rfl) (fun _ _ => by kernel_rfl) (fun _ _ _ h => h) hS ?_
  refine rg_take 8 (some 16) (.slice a' k' d') (by kernel_rfl) (fun _ _ => by kernel_rfl) (fun _ _ _ h => h) hS ?_
  refine rg_take 9 (some 17) (.int .i64 0) (by kernel_rfl) (fun _ _ => by kernel_rfl) (fun _ _ _ h => h) hS ?_
  refine rg_take 10 (some 3) (.slice a k d) (by kernel_rfl) (fun _ _ => by kernel_rfl) (fun _ _ _ h => h) hS ?_
  refine rg_take 11 (some 4) (.slice a' k' d') (by kernel_rfl) (fun _ _ => by kernel_rfl) (fun _ _ _ h => h) hS ?_
  refine rg_take 12 (some 5) (.int .i64 0) (by kernel_rfl) (fun _ _ => by kernel_rfl) (fun _ _ _ h => h) hS ?_
  refine rg_done (by kernel_rfl) ?_
  clear hS S2
  try simp only [Act.put, List.setIfInBounds_toArray, List.set_cons_zero, List.set_cons_succ]
  have S1 := X5.slot
  have c1 := S1.cell
  have f1 := S1.free
  have S3 := S1.put (.slice a k d)
  have hO1 := O2.put S1 not_int (.slice a k d)
  have HB3 := HB2.setCell (p := ⟨w.heap.size + 1, 0, none⟩) (by show w.heap.size ≤ w.heap.size + 1; omega) (.slice a k d)
  clear O2 X5 S1 HB2
  go_wp2
  refine bodyPost_ret (ret_dec rfl rfl S3) rfl ?_
  exact ⟨a, k, d, rfl, hO1, by omega, HB3⟩
theorem qv_zero' {x y p q : Int} (E : cn x y * q = p * cd y) (hq : 0 < q) : cn x y = 0 ↔ p = 0 := by
  have u := cd_ne y
  constructor
  · intro h
    rw [h, Int.zero_mul] at E
    rcases Int.mul_eq_zero.1 E.symm with c | c
    · exact c
    · exact absurd c u
  · intro h
    rw [h, Int.zero_mul] at E
    rcases Int.mul_eq_zero.1 E with c | c
    · exact c
    · omega
theorem tZero {w : World} {B : Nat} {a0 b0 : Option Addr} {n0 c0 m0 d0 : Nat} {p0 q0 : Int} (h0 : QV w a0 n0 c0 b0 m0 d0 p0 q0 B) (hb : B ≤ 10000000) (r : Bool) (hr : decide (p0 = 0) = r) :
    Calls Tryz.prog 45 #[.agg #[.slice a0 n0 c0, .slice b0 m0 d0]] w fun e w' => e = .returned (.bool r) ∧ Below w.heap.size w w' := by
  obtain ⟨x0, y0, g0, k0, E0⟩ := h0.ex
  have u0 := cd_pos k0.nonneg
  have t := tZeroR g0 k0 h0.hn h0.hm (by omega)
  rw [decide_eq_decide.2 (qv_zero' E0 h0.q0), hr] at t
  exact t
theorem tFloor {w : World} {B : Nat} {a0 b0 : Option Addr} {n0 c0 m0 d0 : Nat} {p0 q0 : Int} (h0 : QV w a0 n0 c0 b0 m0 d0 p0 q0 B) (hb : B ≤ 10000000) :
    Calls Tryz.prog 43 #[.agg #[.slice a0 n0 c0, .slice b0 m0 d0]] w fun e w' => ∃ a k d, e = .returned (.slice a k d) ∧ NatO w' a k d (p0 / q0) ∧ k ≤ 2 * B ∧ Below w.heap.size w w' := by
  obtain ⟨x0, y0, g0, k0, E0⟩ := h0.ex
  have u0 := cd_pos k0.nonneg
  have t := tFloorR g0 k0 h0.hn h0.hm hb
  rw [cross_div E0 u0 h0.q0] at t
  exact t
theorem tDown {w : World} {B : Nat} {a0 b0 : Option Addr} {n0 c0 m0 d0 : Nat} {p0 q0 : Int} (h0 : QV w a0 n0 c0 b0 m0 d0 p0 q0 B) (hb : B ≤ 10000000) :
    Calls Tryz.prog 44 #[.agg #[.slice a0 n0 c0, .slice b0 m0 d0]] w fun e w' => ∃ a k d, e = .returned (.agg #[.slice a k d]) ∧ NatO w' a k d (p0 * U36 / q0) ∧ k ≤ 4 * B + 160 ∧ Below w.heap.size w w' := by
  obtain ⟨x0, y0, g0, k0, E0⟩ := h0.ex
  have u0 := cd_pos k0.nonneg
  have t := tDownR g0 k0 h0.hn h0.hm hb
  rw [cross_div (a := cn x0 y0 * U36) (p := p0 * U36) (by rw [Int.mul_right_comm, E0, Int.mul_right_comm]) u0 h0.q0] at t
  exact t
end Go.Proofs.YtjihgkanbhccpaaGreatDoor

namespace Go.Proofs.YtjihgkanbhccpaaGreatDoor
open Go.RowKit Lim

set_option maxHeartbeats 1000000 in
set_option maxRecDepth 100000 in
theorem qQuotF {w : World} {ao ao' : Option Addr} {n c n' c' : Nat} {x y : Int} (h : NatA w ao n c x) (h' : NatA w ao' n' c' y) (hn : n ≤ 1099511627776) (hn' : n' ≤ 1099511627776) (hne : y ≠ 0) :
    Calls Tryz.prog 83 #[.slice ao n c, .slice ao' n' c'] w fun e w' => ∃ a k d, e = .returned (.slice a k d) ∧ NatN w' w.heap.size w'.heap.size a k d (x / y) ∧ k ≤ n ∧ Below w.heap.size w w' := by
  have t := fDiv h h' hn hn'
  have e0 : divE y = 0 := by unfold divE; rw [if_neg hne]
  rw [e0] at t
  clear e0
  go_enter Tryz.func83, Tryz.ntmps83
  go_wp2_with fail
  refine t.mono ?_
  rintro e w1 ⟨a, k, d, a', k', d', rfl, O1, O2, hk, hk', hB⟩
  clear t O2
  go_wp2
  go_ret
  exact ⟨a, k, d, rfl, O1, hk, hB⟩
set_option maxHeartbeats 1000000 in
set_option maxRecDepth 100000 in
theorem qReducedF {w : World} {ao ao' : Option Addr} {n c n' c' : Nat} {x y : Int} (h : NatA w ao n c x) (h' : NatA w ao' n' c' y) (hn : n ≤ 274877906944) (hn' : n' ≤ 274877906944) (hne : y ≠ 0) :
    Calls Tryz.prog 87 #[.slice ao n c, .slice ao' n' c'] w fun e w' => ∃ a k d a' k' d', e = .returned (.agg #[.slice a k d, .slice a' k' d']) ∧ NatN w' w.heap.size w'.heap.size a k d (x / (Int.gcd x y : Nat)) ∧ NatN w' w.heap.size w'.heap.size a' k' d' (y / (Int.gcd x y : Nat)) ∧ k ≤ n ∧ k' ≤ n' ∧ Below w.heap.size w w' := by
  have hg : ((Int.gcd x y : Nat) : Int) ≠ 0 := fun e => hne (Int.gcd_eq_zero_iff (a := x) (b := y) |>.1 (by omega)).2
  have HG := (show Hid _ from hg)
  clear hg
  have B0 := below_alloc w (.cells #[.slice none 0 0, .slice none 0 0] 30)
  have S0 := box_new w [.slice none 0 0, .slice none 0 0] 30
  replace h := h.keep B0
  replace h' := h'.keep B0
  go_enter Tryz.func87, Tryz.ntmps87
  go_wp2_with fail
  refine (nGcd h h' hn hn').mono ?_
  rintro e w1 ⟨ag, kg, dg, rfl, OG, hkg, hB⟩
  replace h := h.keep hB
  replace h' := h'.keep hB
  replace S0 := S0.keep hB
  replace B0 := joinB B0 hB
  clear hB
  go_wp2_with fail
  refine (qQuotF h OG.a (by omega) (by omega) HG.out).mono ?_
  rintro e w2 ⟨a, k, d, rfl, O1, hk, hB⟩
  have z1 := B0.size
  have z2 := hB.size
  replace h' := h'.keep hB
  replace OG := OG.keep hB
  replace S0 := S0.keep hB
  replace B0 := joinB B0 hB
  clear hB
  go_wp2_with fail
  refine (qQuotF h' OG.a (by omega) (by omega) HG.out).mono ?_
  rintro e w3 ⟨a', k', d', rfl, O2, hk', hB⟩
  have z3 := hB.size
  replace O1 := O1.keep hB
  replace S0 := S0.keep hB
  replace B0 := joinB B0 hB
  obtain ⟨c1, c2, f1, f2⟩ := S0.cells2
  have S2 := S0.put2 (.slice a k d) (.slice a' k' d')
  have P1 := O1.put2 S0 (.slice a k d) (.slice a' k' d')
  have P2 := O2.put2 S0 (.slice a k d) (.slice a' k' d')
  have HB := below_put2 B0 (Nat.le_refl _) (.slice a k d) (.slice a' k' d')
  clear hB h h' O1 O2 OG S0 B0
  go_wp2
  refine bodyPost_ret (ret_rat rfl rfl S2) rfl ?_
  exact ⟨a, k, d, a', k', d', rfl, P1.mono (by omega) (by rw [size_put2]; omega), P2.mono (by omega) (by rw [size_put2]; omega), hk, hk', HB⟩
set_option maxHeartbeats 1000000 in
set_option maxRecDepth 100000 in
theorem qOfF {w : World} {ao ao' : Option Addr} {n c n' c' : Nat} {x y : Int} (h : NatA w ao n c x) (h' : NatA w ao' n' c' y) (hn : n ≤ 274877906944) (hn' : n' ≤ 274877906944) (hne : y ≠ 0) :
    Calls Tryz.prog 38 #[.slice ao n c, .slice ao' n' c'] w fun e w' => ∃ a k d a' k' d', e = .returned (.tuple #[.agg #[.slice a k d, .slice a' k' d'], .int .i64 0]) ∧ NatN w' w.heap.size w'.heap.size a k d (rn x y) ∧ NatN w' w.heap.size w'.heap.size a' k' d' (rd x y) ∧ k ≤ n ∧ k' ≤ n' ∧ Below w.heap.size w w' := by
  have hm : bitLen y.toNat ≠ 0 := fun e => hne ((bitLen_zero y h'.nonneg).1 e)
  have HNE := (show Hid _ from hne)
  clear hne
  have B0 := below_alloc w (.cells #[.slice none 0 0, .slice none 0 0] 30)
  have S0 := box_new w [.slice none 0 0, .slice none 0 0] 30
  replace h := h.keep B0
  replace h' := h'.keep B0
  have t := nBits h' (by omega)
  generalize bitLen y.toNat = m at *
  obtain ⟨j, rfl⟩ : ∃ j, m = j + 1 := ⟨m - 1, by omega⟩
  clear hm
  go_enter Tryz.func38, Tryz.ntmps38
  go_wp2_with fail
  refine t.mono ?_
  rintro e w1 ⟨rfl, hB⟩
  replace h := h.keep hB
  replace h' := h'.keep hB
  replace S0 := S0.keep hB
  replace B0 := joinB B0 hB
  clear hB t
  go_wp2_with fail
  refine (qReducedF h h' (by omega) (by omega) HNE.out).mono ?_
  rintro e w2 ⟨a, k, d, a', k', d', rfl, O1, O2, hk, hk', hB⟩
  have z1 := B0.size
  have z2 := hB.size
  replace S0 := S0.keep hB
  replace B0 := joinB B0 hB
  obtain ⟨c1, c2, f1, f2⟩ := S0.cells2
  have S2 := S0.put2 (.slice a k d) (.slice a' k' d')
  have P1 := O1.put2 S0 (.slice a k d) (.slice a' k' d')
  have P2 := O2.put2 S0 (.slice a k d) (.slice a' k' d')
  have HB := below_put2 B0 (g := w.heap.size) (by omega) (.slice a k d) (.slice a' k' d')
  clear hB O1 O2 S0 B0 h h'
  go_wp2
  refine bodyPost_ret (ret_rat_tmp rfl rfl rfl S2) rfl ?_
  exact ⟨a, k, d, a', k', d', rfl, P1.mono (by omega) (by rw [size_put2]; omega), P2.mono (by omega) (by rw [size_put2]; omega), by omega, by omega, HB⟩
end Go.Proofs.YtjihgkanbhccpaaGreatDoor
