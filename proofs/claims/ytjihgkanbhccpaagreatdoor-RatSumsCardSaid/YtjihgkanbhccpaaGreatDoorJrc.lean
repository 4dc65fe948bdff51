/- Several texts, joined: Ref3b, Ref3c, Ref3d. -/
import Derived.Test.YtjihgkanbhccpaaGreatDoorJrb
import Derived.Test.YtjihgkanbhccpaaGreatDoorJda
namespace Go.Proofs.YtjihgkanbhccpaaGreatDoor
open Go.RowKit Lim

theorem ar_load {ops : Array Oper} {Q : Exit → Act → World → Prop} {S : World → Prop} {fuel : Nat} {listed : Array Bool} {a : Act} {w : World} {rs : List Nat} (i : Nat) (d : Option Tmp) (v : Value) (T : TypeId) (k g o : Nat) (hc : rgWant ops a i d = true) (ho : (ops.getD i default).op = .load T (.tmp k)) (hp : a.eval (.tmp k) = .pointer (some ⟨g, o, none⟩))
    (hl : (loadVar T ⟨g, o, none⟩).run Tryz.prog w = .ok v w) (hS1 : S w) (h : wpAnyH Tryz.prog .any ops Q S fuel (listed.setIfInBounds i true) (a.put d v) w)
    (hs : AllReadyH Tryz.prog .any ops Q S fuel listed a w rs) : AllReadyH Tryz.prog .any ops Q S fuel listed a w (i :: rs) :=
  ar_val i d v w hc (by
    simp only [execOp, ho, hp]
    simp [Instr.loadAt, Instr.sureAddr, Result.andThen, hl]) hS1 h hs
theorem pow_mono64 {s t : Nat} (h : s ≤ t) : (18446744073709551616 : Int) ^ s ≤ 18446744073709551616 ^ t := by
  have := Nat.pow_le_pow_right (show 0 < 18446744073709551616 by decide) h
  have h2 : ((18446744073709551616 ^ s : Nat) : Int) ≤ ((18446744073709551616 ^ t : Nat) : Int) := Int.ofNat_le.2 this
  rw [Int.natCast_pow, Int.natCast_pow] at h2
  exact h2
theorem natO_len {w : World} {a : Option Addr} {k d : Nat} {x : Int} (h : NatO w a k d x) {s : Nat} (hs : x < 18446744073709551616 ^ s) : k ≤ s := by
  obtain ⟨b, o, l, h1, h2, h3, h4⟩ := h.ex
  obtain ⟨g1, g2, g3⟩ := h3
  by_cases h0 : k = 0
  · omega
  · have := val_ge_of_nlen g1 (by omega)
    rw [g3] at this
    rcases Nat.lt_or_ge s k with c | c
    · have hp : (18446744073709551616 : Int) ^ s ≤ 18446744073709551616 ^ (nlen l - 1) := pow_mono64 (by omega)
      omega
    · exact c
theorem Red.le {N D p q : Int} (R : Red N D p q) (hq : 0 < q) : N ≤ p ∧ D ≤ q := by
  have hn := R.n0
  have hd := R.d0
  have he := R.eq
  obtain ⟨a, rfl⟩ : ∃ a : Nat, N = a := ⟨N.toNat, by omega⟩
  obtain ⟨b, rfl⟩ : ∃ b : Nat, D = b := ⟨D.toNat, by omega⟩
  have hc : a.Coprime b := R.co
  have hp : 0 ≤ p := by
    rcases Int.lt_or_le p 0 with c | c
    · have h1 := Int.mul_neg_of_neg_of_pos c hd
      have h2 := Int.mul_nonneg hn (Int.le_of_lt hq)
      omega
    · exact c
  obtain ⟨c, rfl⟩ : ∃ c : Nat, p = c := ⟨p.toNat, by omega⟩
  obtain ⟨d, rfl⟩ : ∃ c : Nat, q = c := ⟨q.toNat, by omega⟩
  have he' : a * d = c * b := by
    have : ((a * d : Nat) : Int) = ((c * b : Nat) : Int) := by rw [Int.natCast_mul, Int.natCast_mul]; exact he
    exact Int.ofNat.inj this
  have h1 : b ∣ d := hc.symm.dvd_of_dvd_mul_left (by rw [he']; exact Nat.dvd_mul_left _ _)
  obtain ⟨g, rfl⟩ := h1
  have hb : 0 < b := by omega
  have hg : 0 < g := by
    rcases Nat.eq_zero_or_pos g with e | e
    · subst e; simp at hq
    · exact e
  have hcg : c = a * g := by
    have : c * b = a * g * b := by rw [← he']; grind
    exact Nat.eq_of_mul_eq_mul_right hb this
  subst hcg
  have l1 : a ≤ a * g := Nat.le_mul_of_pos_right a hg
  have l2 : b ≤ b * g := Nat.le_mul_of_pos_right b hg
  exact ⟨by exact_mod_cast l1, by exact_mod_cast l2⟩
theorem QR.shrink {w : World} {a b : Option Addr} {n c m d : Nat} {p q : Int} {B : Nat} (h : QR w a n c b m d p q B) {s : Nat} (hp : p < 18446744073709551616 ^ s) (hq : q < 18446744073709551616 ^ s) : QR w a n c b m d p q s := by
  obtain ⟨N, D, h1, h2, R⟩ := h.ex
  obtain ⟨l1, l2⟩ := R.le h.q0
  exact ⟨⟨N, D, h1, h2, R⟩, h.q0, h.p0, natO_len h1 (by omega), natO_len h2 (by omega)⟩
set_option maxHeartbeats 8000000 in
set_option maxRecDepth 100000 in
theorem tCmpR {w : World} {B : Nat} {a0 b0 : Option Addr} {n0 c0 m0 d0 : Nat} {x0 y0 : Int} {a1 b1 : Option Addr} {n1 c1 m1 d1 : Nat} {x1 y1 : Int} (h0 : NatA w a0 n0 c0 x0) (e0 : NatA w b0 m0 d0 y0) (hn0 : n0 ≤ B) (hm0 : m0 ≤ B) (h1 : NatA w a1 n1 c1 x1) (e1 : NatA w b1 m1 d1 y1) (hn1 : n1 ≤ B) (hm1 : m1 ≤ B) (hb : B ≤ 10000000) :
    Calls Tryz.prog 49 #[.agg #[.slice a0 n0 c0, .slice b0 m0 d0], .agg #[.slice a1 n1 c1, .slice b1 m1 d1]] w fun e w' => e = .returned (.int .i64 (sgn (cn x0 y0 * cd y1) (cn x1 y1 * cd y0))) ∧ Below w.heap.size w w' := by
  have HB := Below.refl w.heap.size w
  have P0 := box_new (w) [.slice a0 n0 c0, .slice b0 m0 d0] 30
  have BA := below_alloc (w) (.cells #[.slice a0 n0 c0, .slice b0 m0 d0] 30)
  replace h0 := h0.keep BA
  replace e0 := e0.keep BA
  replace h1 := h1.keep BA
  replace e1 := e1.keep BA
  replace HB := joinB HB BA
  clear BA
  have P1 := box_new ((w).alloc (.cells #[.slice a0 n0 c0, .slice b0 m0 d0] 30)) [.slice a1 n1 c1, .slice b1 m1 d1] 30
  rw [show ((w).alloc (.cells #[.slice a0 n0 c0, .slice b0 m0 d0] 30)).heap.size = w.heap.size + 1 by simp] at P1
  have BA := below_alloc ((w).alloc (.cells #[.slice a0 n0 c0, .slice b0 m0 d0] 30)) (.cells #[.slice a1 n1 c1, .slice b1 m1 d1] 30)
  replace h0 := h0.keep BA
  replace e0 := e0.keep BA
  replace h1 := h1.keep BA
  replace e1 := e1.keep BA
  replace P0 := P0.keep BA
  replace HB := joinB HB BA
  clear BA
  go_enter Tryz.func49, Tryz.ntmps49
  go_wp2_with fail
  generalize (w.alloc (.cells #[.slice a0 n0 c0, .slice b0 m0 d0] 30)).alloc (.cells #[.slice a1 n1 c1, .slice b1 m1 d1] 30) = u0 at *
  refine rg_mid (X := Option Addr × Nat × Nat × Option Addr × Nat × Nat × Option Addr × Nat × Nat × Option Addr × Nat × Nat) (fun ⟨A0, N0, C0, B0, M0, D0, A1, N1, C1, B1, M1, D1⟩ => [(some 5, .agg #[.slice a0 n0 c0, .slice b0 m0 d0]), (some 6, .agg #[.slice A0 N0 C0, .slice B0 M0 D0]), (some 7, .agg #[.slice a1 n1 c1, .slice b1 m1 d1]), (some 8, .agg #[.slice A1 N1 C1, .slice B1 M1 D1])]) (fun ⟨A0, N0, C0, B0, M0, D0, A1, N1, C1, B1, M1, D1⟩ w' => Box w' (w.heap.size) [.slice A0 N0 C0, .slice B0 M0 D0] 30 ∧ Box w' (w.heap.size + 1) [.slice A1 N1 C1, .slice B1 M1 D1] 30 ∧ NatA w' A0 N0 C0 (cn x0 y0) ∧ NatA w' B0 M0 D0 (cd y0) ∧ NatA w' A1 N1 C1 (cn x1 y1) ∧ NatA w' B1 M1 D1 (cd y1) ∧ N0 ≤ n0 ∧ M0 ≤ m0 + 2 ∧ N1 ≤ n1 ∧ M1 ≤ m1 + 2 ∧ Below w.heap.size w w') (fun _ => True) (by kernel_rfl) trivial ?_ ?_
  · replace h0 := h0.drew
    replace e0 := e0.drew
    replace h1 := h1.drew
    replace e1 := e1.drew
    replace P0 := P0.drew
    replace P1 := P1.drew
    replace HB := HB.drew
    refine rg_ready [0, 2] (by kernel_rfl) (by simp) ?_
    refine ar_load 0 (some 5) (.agg #[.slice a0 n0 c0, .slice b0 m0 d0]) 30 2 (w.heap.size) 0 (by kernel_rfl) (by kernel_rfl) (by kernel_rfl) (load_rat P0) trivial ?_ ?_
    · refine rg_ready [1, 2] (by kernel_rfl) (by simp) ?_
      refine ar_call 1 (some 6) 99 #[.agg #[.slice a0 n0 c0, .slice b0 m0 d0]] (by kernel_rfl) (by kernel_rfl) (tRight h0 e0 (by omega) (by omega)) ?_ ?_
      · rintro e v2 ⟨A0, N0, C0, B0, M0, D0, rfl, C0', E0', hN0, hM0, hB⟩
        refine ⟨_, rfl, trivial, ?_⟩
        replace h0 := h0.keep hB
        replace e0 := e0.keep hB
        replace h1 := h1.keep hB
        replace e1 := e1.keep hB
        replace P0 := P0.keep hB
        replace P1 := P1.keep hB
        replace HB := joinB HB hB
        clear hB
        refine rg_ready [2] (by kernel_rfl) (by simp) ?_
        refine ar_load 2 (some 7) (.agg #[.slice a1 n1 c1, .slice b1 m1 d1]) 30 3 (w.heap.size + 1) 0 (by kernel_rfl) (by kernel_rfl) (by kernel_rfl) (load_rat P1) trivial ?_ ?_
        · refine rg_ready [3] (by kernel_rfl) (by simp) ?_
          refine ar_call 3 (some 8) 99 #[.agg #[.slice a1 n1 c1, .slice b1 m1 d1]] (by kernel_rfl) (by kernel_rfl) (tRight h1 e1 (by omega) (by omega)) ?_ ?_
          · rintro e v4 ⟨A1, N1, C1, B1, M1, D1, rfl, C1', E1', hN1, hM1, hB⟩
            refine ⟨_, rfl, trivial, ?_⟩
            replace h0 := h0.keep hB
            replace e0 := e0.keep hB
            replace h1 := h1.keep hB
            replace e1 := e1.keep hB
            replace C0' := C0'.keep hB
            replace E0' := E0'.keep hB
            replace P0 := P0.keep hB
            replace P1 := P1.keep hB
            replace HB := joinB HB hB
            clear hB
            refine rg_ready [4] (by kernel_rfl) (by simp) ?_
            refine ar_store 4 30 30 2 6 (w.heap.size) [.slice a0 n0 c0, .slice b0 m0 d0] [.slice A0 N0 C0, .slice B0 M0 D0] (by kernel_rfl) (by kernel_rfl) (by kernel_rfl) (by kernel_rfl) P0 (by kernel_rfl) rfl (by kernel_rfl) ?_ ?_
            · intro v5 Y hw hB
              refine ⟨trivial, ?_⟩
              replace HB := HB.trans (hB.mono (by omega))
              replace h0 := h0.blk P0 (no_ints2 _ _ _ _ _ _) hw
              replace e0 := e0.blk P0 (no_ints2 _ _ _ _ _ _) hw
              replace h1 := h1.blk P0 (no_ints2 _ _ _ _ _ _) hw
              replace e1 := e1.blk P0 (no_ints2 _ _ _ _ _ _) hw
              replace C0' := C0'.blk P0 (no_ints2 _ _ _ _ _ _) hw
              replace E0' := E0'.blk P0 (no_ints2 _ _ _ _ _ _) hw
              replace C1' := C1'.blk P0 (no_ints2 _ _ _ _ _ _) hw
              replace E1' := E1'.blk P0 (no_ints2 _ _ _ _ _ _) hw
              replace P1 := P1.off (by omega) hw
              replace P0 := Y
              clear hB hw
              refine rg_ready [5] (by kernel_rfl) (by simp) ?_
              refine ar_store 5 30 30 3 8 (w.heap.size + 1) [.slice a1 n1 c1, .slice b1 m1 d1] [.slice A1 N1 C1, .slice B1 M1 D1] (by kernel_rfl) (by kernel_rfl) (by kernel_rfl) (by kernel_rfl) P1 (by kernel_rfl) rfl (by kernel_rfl) ?_ ?_
              · intro v6 Y hw hB
                refine ⟨trivial, ?_⟩
                replace HB := HB.trans (hB.mono (by omega))
                replace h0 := h0.blk P1 (no_ints2 _ _ _ _ _ _) hw
                replace e0 := e0.blk P1 (no_ints2 _ _ _ _ _ _) hw
                replace h1 := h1.blk P1 (no_ints2 _ _ _ _ _ _) hw
                replace e1 := e1.blk P1 (no_ints2 _ _ _ _ _ _) hw
                replace C0' := C0'.blk P1 (no_ints2 _ _ _ _ _ _) hw
                replace E0' := E0'.blk P1 (no_ints2 _ _ _ _ _ _) hw
                replace C1' := C1'.blk P1 (no_ints2 _ _ _ _ _ _) hw
                replace E1' := E1'.blk P1 (no_ints2 _ _ _ _ _ _) hw
                replace P0 := P0.off (by omega) hw
                replace P1 := Y
                clear hB hw
                refine rg_done (by kernel_rfl) ?_
                exact ⟨(A0, N0, C0, B0, M0, D0, A1, N1, C1, B1, M1, D1), by kernel_rfl, P0, P1, C0', E0', C1', E1', hN0, hM0, hN1, hM1, HB⟩
              exact ar_nil
            exact ar_nil
          exact ar_nil
        exact ar_nil
      refine ar_load 2 (some 7) (.agg #[.slice a1 n1 c1, .slice b1 m1 d1]) 30 3 (w.heap.size + 1) 0 (by kernel_rfl) (by kernel_rfl) (by kernel_rfl) (load_rat P1) trivial ?_ ?_
      · refine rg_ready [1] (by kernel_rfl) (by simp) ?_
        refine ar_call 1 (some 6) 99 #[.agg #[.slice a0 n0 c0, .slice b0 m0 d0]] (by kernel_rfl) (by kernel_rfl) (tRight h0 e0 (by omega) (by omega)) ?_ ?_
        · rintro e v8 ⟨A0, N0, C0, B0, M0, D0, rfl, C0', E0', hN0, hM0, hB⟩
          refine ⟨_, rfl, trivial, ?_⟩
          replace h0 := h0.keep hB
          replace e0 := e0.keep hB
          replace h1 := h1.keep hB
          replace e1 := e1.keep hB
          replace P0 := P0.keep hB
          replace P1 := P1.keep hB
          replace HB := joinB HB hB
          clear hB
          refine rg_ready [3] (by kernel_rfl) (by simp) ?_
          refine ar_call 3 (some 8) 99 #[.agg #[.slice a1 n1 c1, .slice b1 m1 d1]] (by kernel_rfl) (by kernel_rfl) (tRight h1 e1 (by omega) (by omega)) ?_ ?_
          · rintro e v9 ⟨A1, N1, C1, B1, M1, D1, rfl, C1', E1', hN1, hM1, hB⟩
            refine ⟨_, rfl, trivial, ?_⟩
            replace h0 := h0.keep hB
            replace e0 := e0.keep hB
            replace h1 := h1.keep hB
            replace e1 := e1.keep hB
            replace C0' := C0'.keep hB
            replace E0' := E0'.keep hB
            replace P0 := P0.keep hB
            replace P1 := P1.keep hB
            replace HB := joinB HB hB
            clear hB
            refine rg_ready [4] (by kernel_rfl) (by simp) ?_
            refine ar_store 4 30 30 2 6 (w.heap.size) [.slice a0 n0 c0, .slice b0 m0 d0] [.slice A0 N0 C0, .slice B0 M0 D0] (by kernel_rfl) (by kernel_rfl) (by kernel_rfl) (by kernel_rfl) P0 (by kernel_rfl) rfl (by kernel_rfl) ?_ ?_
            · intro v10 Y hw hB
              refine ⟨trivial, ?_⟩
              replace HB := HB.trans (hB.mono (by omega))
              replace h0 := h0.blk P0 (no_ints2 _ _ _ _ _ _) hw
              replace e0 := e0.blk P0 (no_ints2 _ _ _ _ _ _) hw
              replace h1 := h1.blk P0 (no_ints2 _ _ _ _ _ _) hw
              replace e1 := e1.blk P0 (no_ints2 _ _ _ _ _ _) hw
              replace C0' := C0'.blk P0 (no_ints2 _ _ _ _ _ _) hw
              replace E0' := E0'.blk P0 (no_ints2 _ _ _ _ _ _) hw
              replace C1' := C1'.blk P0 (no_ints2 _ _ _ _ _ _) hw
              replace E1' := E1'.blk P0 (no_ints2 _ _ _ _ _ _) hw
              replace P1 := P1.off (by omega) hw
              replace P0 := Y
              clear hB hw
              refine rg_ready [5] (by kernel_rfl) (by simp) ?_
              refine ar_store 5 30 30 3 8 (w.heap.size + 1) [.slice a1 n1 c1, .slice b1 m1 d1] [.slice A1 N1 C1, .slice B1 M1 D1] (by kernel_rfl) (by kernel_rfl) (by kernel_rfl) (by kernel_rfl) P1 (by kernel_rfl) rfl (by kernel_rfl) ?_ ?_
              · intro v11 Y hw hB
                refine ⟨trivial, ?_⟩
                replace HB := HB.trans (hB.mono (by omega))
                replace h0 := h0.blk P1 (no_ints2 _ _ _ _ _ _) hw
                replace e0 := e0.blk P1 (no_ints2 _ _ _ _ _ _) hw
                replace h1 := h1.blk P1 (no_ints2 _ _ _ _ _ _) hw
                replace e1 := e1.blk P1 (no_ints2 _ _ _ _ _ _) hw
                replace C0' := C0'.blk P1 (no_ints2 _ _ _ _ _ _) hw
                replace E0' := E0'.blk P1 (no_ints2 _ _ _ _ _ _) hw
                replace C1' := C1'.blk P1 (no_ints2 _ _ _ _ _ _) hw
                replace E1' := E1'.blk P1 (no_ints2 _ _ _ _ _ _) hw
                replace P0 := P0.off (by omega) hw
                replace P1 := Y
                clear hB hw
                refine rg_done (by kernel_rfl) ?_
                exact ⟨(A0, N0, C0, B0, M0, D0, A1, N1, C1, B1, M1, D1), by kernel_rfl, P0, P1, C0', E0', C1', E1', hN0, hM0, hN1, hM1, HB⟩
              exact ar_nil
            exact ar_nil
          exact ar_nil
        exact ar_nil
      exact ar_nil
    refine ar_load 2 (some 7) (.agg #[.slice a1 n1 c1, .slice b1 m1 d1]) 30 3 (w.heap.size + 1) 0 (by kernel_rfl) (by kernel_rfl) (by kernel_rfl) (load_rat P1) trivial ?_ ?_
    · refine rg_ready [0] (by kernel_rfl) (by simp) ?_
      refine ar_load 0 (some 5) (.agg #[.slice a0 n0 c0, .slice b0 m0 d0]) 30 2 (w.heap.size) 0 (by kernel_rfl) (by kernel_rfl) (by kernel_rfl) (load_rat P0) trivial ?_ ?_
      · refine rg_ready [1] (by kernel_rfl) (by simp) ?_
        refine ar_call 1 (some 6) 99 #[.agg #[.slice a0 n0 c0, .slice b0 m0 d0]] (by kernel_rfl) (by kernel_rfl) (tRight h0 e0 (by omega) (by omega)) ?_ ?_
        · rintro e v14 ⟨A0, N0, C0, B0, M0, D0, rfl, C0', E0', hN0, hM0, hB⟩
          refine ⟨_, rfl, trivial, ?_⟩
          replace h0 := h0.keep hB
          replace e0 := e0.keep hB
          replace h1 := h1.keep hB
          replace e1 := e1.keep hB
          replace P0 := P0.keep hB
          replace P1 := P1.keep hB
          replace HB := joinB HB hB
          clear hB
          refine rg_ready [3] (by kernel_rfl) (by simp) ?_
          refine ar_call 3 (some 8) 99 #[.agg #[.slice a1 n1 c1, .slice b1 m1 d1]] (by kernel_rfl) (by kernel_rfl) (tRight h1 e1 (by omega) (by omega)) ?_ ?_
          · rintro e v15 ⟨A1, N1, C1, B1, M1, D1, rfl, C1', E1', hN1, hM1, hB⟩
            refine ⟨_, rfl, trivial, ?_⟩
            replace h0 := h0.keep hB
            replace e0 := e0.keep hB
            replace h1 := h1.keep hB
            replace e1 := e1.keep hB
            replace C0' := C0'.keep hB
            replace E0' := E0'.keep hB
            replace P0 := P0.keep hB
            replace P1 := P1.keep hB
            replace HB := joinB HB hB
            clear hB
            refine rg_ready [4] (by kernel_rfl) (by simp) ?_
            refine ar_store 4 30 30 2 6 (w.heap.size) [.slice a0 n0 c0, .slice b0 m0 d0] [.slice A0 N0 C0, .slice B0 M0 D0] (by kernel_rfl) (by kernel_rfl) (by kernel_rfl) (by kernel_rfl) P0 (by kernel_rfl) rfl (by kernel_rfl) ?_ ?_
            · intro v16 Y hw hB
              refine ⟨trivial, ?_⟩
              replace HB := HB.trans (hB.mono (by omega))
              replace h0 := h0.blk P0 (no_ints2 _ _ _ _ _ _) hw
              replace e0 := e0.blk P0 (no_ints2 _ _ _ _ _ _) hw
              replace h1 := h1.blk P0 (no_ints2 _ _ _ _ _ _) hw
              replace e1 := e1.blk P0 (no_ints2 _ _ _ _ _ _) hw
              replace C0' := C0'.blk P0 (no_ints2 _ _ _ _ _ _) hw
              replace E0' := E0'.blk P0 (no_ints2 _ _ _ _ _ _) hw
              replace C1' := C1'.blk P0 (no_ints2 _ _ _ _ _ _) hw
              replace E1' := E1'.blk P0 (no_ints2 _ _ _ _ _ _) hw
              replace P1 := P1.off (by omega) hw
              replace P0 := Y
              clear hB hw
              refine rg_ready [5] (by kernel_rfl) (by simp) ?_
              refine ar_store 5 30 30 3 8 (w.heap.size + 1) [.slice a1 n1 c1, .slice b1 m1 d1] [.slice A1 N1 C1, .slice B1 M1 D1] (by kernel_rfl) (by kernel_rfl) (by kernel_rfl) (by kernel_rfl) P1 (by kernel_rfl) rfl (by kernel_rfl) ?_ ?_
              · intro v17 Y hw hB
                refine ⟨trivial, ?_⟩
                replace HB := HB.trans (hB.mono (by omega))
                replace h0 := h0.blk P1 (no_ints2 _ _ _ _ _ _) hw
                replace e0 := e0.blk P1 (no_ints2 _ _ _ _ _ _) hw
                replace h1 := h1.blk P1 (no_ints2 _ _ _ _ _ _) hw
                replace e1 := e1.blk P1 (no_ints2 _ _ _ _ _ _) hw
                replace C0' := C0'.blk P1 (no_ints2 _ _ _ _ _ _) hw
                replace E0' := E0'.blk P1 (no_ints2 _ _ _ _ _ _) hw
                replace C1' := C1'.blk P1 (no_ints2 _ _ _ _ _ _) hw
                replace E1' := E1'.blk P1 (no_ints2 _ _ _ _ _ _) hw
                replace P0 := P0.off (by omega) hw
                replace P1 := Y
                clear hB hw
                refine rg_done (by kernel_rfl) ?_
                exact ⟨(A0, N0, C0, B0, M0, D0, A1, N1, C1, B1, M1, D1), by kernel_rfl, P0, P1, C0', E0', C1', E1', hN0, hM0, hN1, hM1, HB⟩
              exact ar_nil
            exact ar_nil
          exact ar_nil
        exact ar_nil
      exact ar_nil
    exact ar_nil
  · clear h0 e0 h1 e1 P0 P1 HB
    rintro ⟨A0, N0, C0, B0, M0, D0, A1, N1, C1, B1, M1, D1⟩ u1 ⟨P0, P1, C0', E0', C1', E1', hN0, hM0, hN1, hM1, HB⟩
    try simp only [putAll, Act.put, List.setIfInBounds_toArray, List.set_cons_zero, List.set_cons_succ]
    go_wp2_with fail
    refine rg_start (S := fun w' => Box w' (w.heap.size) [.slice A0 N0 C0, .slice B0 M0 D0] 30 ∧ Box w' (w.heap.size + 1) [.slice A1 N1 C1, .slice B1 M1 D1] 30) (by kernel_rfl) ⟨P0.drew, P1.drew⟩ ?_
    replace C0' := C0'.drew
    replace E0' := E0'.drew
    replace C1' := C1'.drew
    replace E1' := E1'.drew
    replace HB := HB.drew
    have hS := (show _ ∧ _ from ⟨P0.drew, P1.drew⟩)
    clear P0 P1
    refine rg_take 0 (some 9) (.pointer (some ⟨w.heap.size, 0, none⟩)) (by kernel_rfl) (fun _ _ => by kernel_rfl) (fun _ _ _ h => h) hS ?_
    refine rg_load 1 (some 10) (.slice A0 N0 C0) 28 9 (w.heap.size) 0 (by kernel_rfl) (by kernel_rfl) (by kernel_rfl) (fun _ hs => load_at (hs.1.cells2.1)) (fun _ _ _ h => h) hS ?_
    refine rg_take 2 (some 11) (.pointer (some ⟨w.heap.size + 1, 1, none⟩)) (by kernel_rfl) (fun _ _ => by kernel_rfl) (fun _ _ _ h => h) hS ?_
    refine rg_load 3 (some 12) (.slice B1 M1 D1) 28 11 (w.heap.size + 1) 1 (by kernel_rfl) (by kernel_rfl) (by kernel_rfl) (fun _ hs => load_at (hs.2.cells2.2.1)) (fun _ _ _ h => h) hS ?_
    refine rg_take 5 (some 14) (.pointer (some ⟨w.heap.size + 1, 0, none⟩)) (by kernel_rfl) (fun _ _ => by kernel_rfl) (fun _ _ _ h => h) hS ?_
    refine rg_load 6 (some 15) (.slice A1 N1 C1) 28 14 (w.heap.size + 1) 0 (by kernel_rfl) (by kernel_rfl) (by kernel_rfl) (fun _ hs => load_at (hs.2.cells2.1)) (fun _ _ _ h => h) hS ?_
    refine rg_take 7 (some 16) (.pointer (some ⟨w.heap.size, 1, none⟩)) (by kernel_rfl) (fun _ _ => by kernel_rfl) (fun _ _ _ h => h) hS ?_
    refine rg_load 8 (some 17) (.slice B0 M0 D0) 28 16 (w.heap.size) 1 (by kernel_rfl) (by kernel_rfl) (by kernel_rfl) (fun _ hs => load_at (hs.1.cells2.2.1)) (fun _ _ _ h => h) hS ?_
    refine rg_call 4 (some 13) 103 #[.slice A0 N0 C0, .slice B1 M1 D1] (by kernel_rfl) (by kernel_rfl) (rMul C0' E1' (by omega) (by omega)) ?_
    rintro e z1 ⟨F1, K1, H1, rfl, O1, hk1, hB⟩
    refine ⟨_, rfl, ⟨hS.1.keep hB, hS.2.keep hB⟩, ?_⟩
    replace hS := (show _ ∧ _ from ⟨hS.1.keep hB, hS.2.keep hB⟩)
    replace C0' := C0'.keep hB
    replace E0' := E0'.keep hB
    replace C1' := C1'.keep hB
    replace E1' := E1'.keep hB
    replace HB := joinB HB hB
    clear hB
    refine rg_call 9 (some 18) 103 #[.slice A1 N1 C1, .slice B0 M0 D0] (by kernel_rfl) (by kernel_rfl) (rMul C1' E0' (by omega) (by omega)) ?_
    rintro e z2 ⟨F2, K2, H2, rfl, O2, hk2, hB⟩
    refine ⟨_, rfl, ⟨hS.1.keep hB, hS.2.keep hB⟩, ?_⟩
    replace hS := (show _ ∧ _ from ⟨hS.1.keep hB, hS.2.keep hB⟩)
    replace C0' := C0'.keep hB
    replace E0' := E0'.keep hB
    replace C1' := C1'.keep hB
    replace E1' := E1'.keep hB
    replace O1 := O1.keep hB
    replace HB := joinB HB hB
    clear hB
    refine rg_call 10 (some 19) 104 #[.slice F1 K1 H1, .slice F2 K2 H2] (by kernel_rfl) (by kernel_rfl) (rCmp O1.a O2.a (by omega) (by omega)) ?_
    rintro e z3 ⟨rfl, hB⟩
    refine ⟨_, rfl, ⟨hS.1.keep hB, hS.2.keep hB⟩, ?_⟩
    replace hS := (show _ ∧ _ from ⟨hS.1.keep hB, hS.2.keep hB⟩)
    replace C0' := C0'.keep hB
    replace E0' := E0'.keep hB
    replace C1' := C1'.keep hB
    replace E1' := E1'.keep hB
    replace O1 := O1.keep hB
    replace O2 := O2.keep hB
    replace HB := joinB HB hB
    clear hB
    refine rg_take 11 (some 4) (.int .i64 (sgn (cn x0 y0 * cd y1) (cn x1 y1 * cd y0))) (by kernel_rfl) (fun _ _ => by kernel_rfl) (fun _ _ _ h => h) hS ?_
    refine rg_done (by kernel_rfl) ?_
    try simp only [Act.put, List.setIfInBounds_toArray, List.set_cons_zero, List.set_cons_succ]
    go_wp2
    go_ret
    exact ⟨rfl, HB⟩
set_option maxHeartbeats 8000000 in
set_option maxRecDepth 100000 in
theorem tAddR {w : World} {B : Nat} {a0 b0 : Option Addr} {n0 c0 m0 d0 : Nat} {x0 y0 : Int} {a1 b1 : Option Addr} {n1 c1 m1 d1 : Nat} {x1 y1 : Int} (h0 : NatA w a0 n0 c0 x0) (e0 : NatA w b0 m0 d0 y0) (hn0 : n0 ≤ B) (hm0 : m0 ≤ B) (h1 : NatA w a1 n1 c1 x1) (e1 : NatA w b1 m1 d1 y1) (hn1 : n1 ≤ B) (hm1 : m1 ≤ B) (hb : B ≤ 10000000) :
    Calls Tryz.prog 50 #[.agg #[.slice a0 n0 c0, .slice b0 m0 d0], .agg #[.slice a1 n1 c1, .slice b1 m1 d1]] w fun e w' => ∃ a k d a' k' d', e = .returned (.agg #[.slice a k d, .slice a' k' d']) ∧ QR w' a k d a' k' d' (cn x0 y0 * cd y1 + cn x1 y1 * cd y0) (cd y0 * cd y1) (32 * B + 64) ∧ Below w.heap.size w w' := by
  have u0p := cd_pos e0.nonneg
  have u1p := cd_pos e1.nonneg
  have z0p := cn_nonneg y0 h0.nonneg
  have z1p := cn_nonneg y1 h1.nonneg
  have NP : Hid (0 ≤ cn x0 y0 * cd y1 + cn x1 y1 * cd y0 ∧ 0 < cd y0 * cd y1) := ⟨Int.add_nonneg (Int.mul_nonneg z0p (Int.le_of_lt u1p)) (Int.mul_nonneg z1p (Int.le_of_lt u0p)), Int.mul_pos u0p u1p⟩
  have NE : Hid (cd y0 * cd y1 ≠ 0) := Int.mul_ne_zero (cd_ne _) (cd_ne _)
  clear u0p u1p z0p z1p
  have HB := Below.refl w.heap.size w
  have P0 := box_new (w) [.slice a0 n0 c0, .slice b0 m0 d0] 30
  have BA := below_alloc (w) (.cells #[.slice a0 n0 c0, .slice b0 m0 d0] 30)
  replace h0 := h0.keep BA
  replace e0 := e0.keep BA
  replace h1 := h1.keep BA
  replace e1 := e1.keep BA
  replace HB := joinB HB BA
  clear BA
  have P1 := box_new ((w).alloc (.cells #[.slice a0 n0 c0, .slice b0 m0 d0] 30)) [.slice a1 n1 c1, .slice b1 m1 d1] 30
  rw [show ((w).alloc (.cells #[.slice a0 n0 c0, .slice b0 m0 d0] 30)).heap.size = w.heap.size + 1 by simp] at P1
  have BA := below_alloc ((w).alloc (.cells #[.slice a0 n0 c0, .slice b0 m0 d0] 30)) (.cells #[.slice a1 n1 c1, .slice b1 m1 d1] 30)
  replace h0 := h0.keep BA
  replace e0 := e0.keep BA
  replace h1 := h1.keep BA
  replace e1 := e1.keep BA
  replace P0 := P0.keep BA
  replace HB := joinB HB BA
  clear BA
  have X4 := box_new (((w).alloc (.cells #[.slice a0 n0 c0, .slice b0 m0 d0] 30)).alloc (.cells #[.slice a1 n1 c1, .slice b1 m1 d1] 30)) [.slice none 0 0, .slice none 0 0] 30
  rw [show (((w).alloc (.cells #[.slice a0 n0 c0, .slice b0 m0 d0] 30)).alloc (.cells #[.slice a1 n1 c1, .slice b1 m1 d1] 30)).heap.size = w.heap.size + 1 + 1 by simp] at X4
  have BA := below_alloc (((w).alloc (.cells #[.slice a0 n0 c0, .slice b0 m0 d0] 30)).alloc (.cells #[.slice a1 n1 c1, .slice b1 m1 d1] 30)) (.cells #[.slice none 0 0, .slice none 0 0] 30)
  replace h0 := h0.keep BA
  replace e0 := e0.keep BA
  replace h1 := h1.keep BA
  replace e1 := e1.keep BA
  replace P0 := P0.keep BA
  replace P1 := P1.keep BA
  replace HB := joinB HB BA
  clear BA
  go_enter Tryz.func50, Tryz.ntmps50
  go_wp2_with fail
  generalize ((w.alloc (.cells #[.slice a0 n0 c0, .slice b0 m0 d0] 30)).alloc (.cells #[.slice a1 n1 c1, .slice b1 m1 d1] 30)).alloc (.cells #[.slice none 0 0, .slice none 0 0] 30) = u0 at *
  refine rg_mid (X := Option Addr × Nat × Nat × Option Addr × Nat × Nat × Option Addr × Nat × Nat × Option Addr × Nat × Nat) (fun ⟨A0, N0, C0, B0, M0, D0, A1, N1, C1, B1, M1, D1⟩ => [(some 5, .agg #[.slice a0 n0 c0, .slice b0 m0 d0]), (some 6, .agg #[.slice A0 N0 C0, .slice B0 M0 D0]), (some 7, .agg #[.slice a1 n1 c1, .slice b1 m1 d1]), (some 8, .agg #[.slice A1 N1 C1, .slice B1 M1 D1])]) (fun ⟨A0, N0, C0, B0, M0, D0, A1, N1, C1, B1, M1, D1⟩ w' => Box w' (w.heap.size) [.slice A0 N0 C0, .slice B0 M0 D0] 30 ∧ Box w' (w.heap.size + 1) [.slice A1 N1 C1, .slice B1 M1 D1] 30 ∧ NatA w' A0 N0 C0 (cn x0 y0) ∧ NatA w' B0 M0 D0 (cd y0) ∧ NatA w' A1 N1 C1 (cn x1 y1) ∧ NatA w' B1 M1 D1 (cd y1) ∧ N0 ≤ n0 ∧ M0 ≤ m0 + 2 ∧ N1 ≤ n1 ∧ M1 ≤ m1 + 2 ∧ Box w' (w.heap.size + 1 + 1) [.slice none 0 0, .slice none 0 0] 30 ∧ Below w.heap.size w w') (fun _ => True) (by kernel_rfl) trivial ?_ ?_
  · replace h0 := h0.drew
    replace e0 := e0.drew
    replace h1 := h1.drew
    replace e1 := e1.drew
    replace P0 := P0.drew
    replace P1 := P1.drew
    replace X4 := X4.drew
    replace HB := HB.drew
    refine rg_ready [0, 2] (by kernel_rfl) (by simp) ?_
    refine ar_load 0 (some 5) (.agg #[.slice a0 n0 c0, .slice b0 m0 d0]) 30 2 (w.heap.size) 0 (by kernel_rfl) (by kernel_rfl) (by kernel_rfl) (load_rat P0) trivial ?_ ?_
    · refine rg_ready [1, 2] (by kernel_rfl) (by simp) ?_
      refine ar_call 1 (some 6) 99 #[.agg #[.slice a0 n0 c0, .slice b0 m0 d0]] (by kernel_rfl) (by kernel_rfl) (tRight h0 e0 (by omega) (by omega)) ?_ ?_
      · rintro e v2 ⟨A0, N0, C0, B0, M0, D0, rfl, C0', E0', hN0, hM0, hB⟩
        refine ⟨_, rfl, trivial, ?_⟩
        replace h0 := h0.keep hB
        replace e0 := e0.keep hB
        replace h1 := h1.keep hB
        replace e1 := e1.keep hB
        replace P0 := P0.keep hB
        replace P1 := P1.keep hB
        replace X4 := X4.keep hB
        replace HB := joinB HB hB
        clear hB
        refine rg_ready [2] (by kernel_rfl) (by simp) ?_
        refine ar_load 2 (some 7) (.agg #[.slice a1 n1 c1, .slice b1 m1 d1]) 30 3 (w.heap.size + 1) 0 (by kernel_rfl) (by kernel_rfl) (by kernel_rfl) (load_rat P1) trivial ?_ ?_
        · refine rg_ready [3] (by kernel_rfl) (by simp) ?_
          refine ar_call 3 (some 8) 99 #[.agg #[.slice a1 n1 c1, .slice b1 m1 d1]] (by kernel_rfl) (by kernel_rfl) (tRight h1 e1 (by omega) (by omega)) ?_ ?_
          · rintro e v4 ⟨A1, N1, C1, B1, M1, D1, rfl, C1', E1', hN1, hM1, hB⟩
            refine ⟨_, rfl, trivial, ?_⟩
            replace h0 := h0.keep hB
            replace e0 := e0.keep hB
            replace h1 := h1.keep hB
            replace e1 := e1.keep hB
            replace C0' := C0'.keep hB
            replace E0' := E0'.keep hB
            replace P0 := P0.keep hB
            replace P1 := P1.keep hB
            replace X4 := X4.keep hB
            replace HB := joinB HB hB
            clear hB
            refine rg_ready [4] (by kernel_rfl) (by simp) ?_
            refine ar_store 4 30 30 2 6 (w.heap.size) [.slice a0 n0 c0, .slice b0 m0 d0] [.slice A0 N0 C0, .slice B0 M0 D0] (by kernel_rfl) (by kernel_rfl) (by kernel_rfl) (by kernel_rfl) P0 (by kernel_rfl) rfl (by kernel_rfl) ?_ ?_
            · intro v5 Y hw hB
              refine ⟨trivial, ?_⟩
              replace HB := HB.trans (hB.mono (by omega))
              replace h0 := h0.blk P0 (no_ints2 _ _ _ _ _ _) hw
              replace e0 := e0.blk P0 (no_ints2 _ _ _ _ _ _) hw
              replace h1 := h1.blk P0 (no_ints2 _ _ _ _ _ _) hw
              replace e1 := e1.blk P0 (no_ints2 _ _ _ _ _ _) hw
              replace C0' := C0'.blk P0 (no_ints2 _ _ _ _ _ _) hw
              replace E0' := E0'.blk P0 (no_ints2 _ _ _ _ _ _) hw
              replace C1' := C1'.blk P0 (no_ints2 _ _ _ _ _ _) hw
              replace E1' := E1'.blk P0 (no_ints2 _ _ _ _ _ _) hw
              replace P1 := P1.off (by omega) hw
              replace X4 := X4.off (by omega) hw
              replace P0 := Y
              clear hB hw
              refine rg_ready [5] (by kernel_rfl) (by simp) ?_
              refine ar_store 5 30 30 3 8 (w.heap.size + 1) [.slice a1 n1 c1, .slice b1 m1 d1] [.slice A1 N1 C1, .slice B1 M1 D1] (by kernel_rfl) (by kernel_rfl) (by kernel_rfl) (by kernel_rfl) P1 (by kernel_rfl) rfl (by kernel_rfl) ?_ ?_
              · intro v6 Y hw hB
                refine ⟨trivial, ?_⟩
                replace HB := HB.trans (hB.mono (by omega))
                replace h0 := h0.blk P1 (no_ints2 _ _ _ _ _ _) hw
                replace e0 := e0.blk P1 (no_ints2 _ _ _ _ _ _) hw
                replace h1 := h1.blk P1 (no_ints2 _ _ _ _ _ _) hw
                replace e1 := e1.blk P1 (no_ints2 _ _ _ _ _ _) hw
                replace C0' := C0'.blk P1 (no_ints2 _ _ _ _ _ _) hw
                replace E0' := E0'.blk P1 (no_ints2 _ _ _ _ _ _) hw
                replace C1' := C1'.blk P1 (no_ints2 _ _ _ _ _ _) hw
                replace E1' := E1'.blk P1 (no_ints2 _ _ _ _ _ _) hw
                replace P0 := P0.off (by omega) hw
                replace X4 := X4.off (by omega) hw
                replace P1 := Y
                clear hB hw
                refine rg_done (by kernel_rfl) ?_
                exact ⟨(A0, N0, C0, B0, M0, D0, A1, N1, C1, B1, M1, D1), by kernel_rfl, P0, P1, C0', E0', C1', E1', hN0, hM0, hN1, hM1, X4, HB⟩
              exact ar_nil
            exact ar_nil
          exact ar_nil
        exact ar_nil
      refine ar_load 2 (some 7) (.agg #[.slice a1 n1 c1, .slice b1 m1 d1]) 30 3 (w.heap.size + 1) 0 (by kernel_rfl) (by kernel_rfl) (by kernel_rfl) (load_rat P1) trivial ?_ ?_
      · refine rg_ready [1] (by kernel_rfl) (by simp) ?_
        refine ar_call 1 (some 6) 99 #[.agg #[.slice a0 n0 c0, .slice b0 m0 d0]] (by kernel_rfl) (by kernel_rfl) (tRight h0 e0 (by omega) (by omega)) ?_ ?_
        · rintro e v8 ⟨A0, N0, C0, B0, M0, D0, rfl, C0', E0', hN0, hM0, hB⟩
          refine ⟨_, rfl, trivial, ?_⟩
          replace h0 := h0.keep hB
          replace e0 := e0.keep hB
          replace h1 := h1.keep hB
          replace e1 := e1.keep hB
          replace P0 := P0.keep hB
          replace P1 := P1.keep hB
          replace X4 := X4.keep hB
          replace HB := joinB HB hB
          clear hB
          refine rg_ready [3] (by kernel_rfl) (by simp) ?_
          refine ar_call 3 (some 8) 99 #[.agg #[.slice a1 n1 c1, .slice b1 m1 d1]] (by kernel_rfl) (by kernel_rfl) (tRight h1 e1 (by omega) (by omega)) ?_ ?_
          · rintro e v9 ⟨A1, N1, C1, B1, M1, D1, rfl, C1', E1', hN1, hM1, hB⟩
            refine ⟨_, rfl, trivial, ?_⟩
            replace h0 := h0.keep hB
            replace e0 := e0.keep hB
            replace h1 := h1.keep hB
            replace e1 := e1.keep hB
            replace C0' := C0'.keep hB
            replace E0' := E0'.keep hB
            replace P0 := P0.keep hB
            replace P1 := P1.keep hB
            replace X4 := X4.keep hB
            replace HB := joinB HB hB
            clear hB
            refine rg_ready [4] (by kernel_rfl) (by simp) ?_
            refine ar_store 4 30 30 2 6 (w.heap.size) [.slice a0 n0 c0, .slice b0 m0 d0] [.slice A0 N0 C0, .slice B0 M0 D0] (by kernel_rfl) (by kernel_rfl) (by kernel_rfl) (by kernel_rfl) P0 (by kernel_rfl) rfl (by kernel_rfl) ?_ ?_
            · intro v10 Y hw hB
              refine ⟨trivial, ?_⟩
              replace HB := HB.trans (hB.mono (by omega))
              replace h0 := h0.blk P0 (no_ints2 _ _ _ _ _ _) hw
              replace e0 := e0.blk P0 (no_ints2 _ _ _ _ _ _) hw
              replace h1 := h1.blk P0 (no_ints2 _ _ _ _ _ _) hw
              replace e1 := e1.blk P0 (no_ints2 _ _ _ _ _ _) hw
              replace C0' := C0'.blk P0 (no_ints2 _ _ _ _ _ _) hw
              replace E0' := E0'.blk P0 (no_ints2 _ _ _ _ _ _) hw
              replace C1' := C1'.blk P0 (no_ints2 _ _ _ _ _ _) hw
              replace E1' := E1'.blk P0 (no_ints2 _ _ _ _ _ _) hw
              replace P1 := P1.off (by omega) hw
              replace X4 := X4.off (by omega) hw
              replace P0 := Y
              clear hB hw
              refine rg_ready [5] (by kernel_rfl) (by simp) ?_
              refine ar_store 5 30 30 3 8 (w.heap.size + 1) [.slice a1 n1 c1, .slice b1 m1 d1] [.slice A1 N1 C1, .slice B1 M1 D1] (by kernel_rfl) (by kernel_rfl) (by kernel_rfl) (by kernel_rfl) P1 (by kernel_rfl) rfl (by kernel_rfl) ?_ ?_
              · intro v11 Y hw hB
                refine ⟨trivial, ?_⟩
                replace HB := HB.trans (hB.mono (by omega))
                replace h0 := h0.blk P1 (no_ints2 _ _ _ _ _ _) hw
                replace e0 := e0.blk P1 (no_ints2 _ _ _ _ _ _) hw
                replace h1 := h1.blk P1 (no_ints2 _ _ _ _ _ _) hw
                replace e1 := e1.blk P1 (no_ints2 _ _ _ _ _ _) hw
                replace C0' := C0'.blk P1 (no_ints2 _ _ _ _ _ _) hw
                replace E0' := E0'.blk P1 (no_ints2 _ _ _ _ _ _) hw
                replace C1' := C1'.blk P1 (no_ints2 _ _ _ _ _ _) hw
                replace E1' := E1'.blk P1 (no_ints2 _ _ _ _ _ _) hw
                replace P0 := P0.off (by omega) hw
                replace X4 := X4.off (by omega) hw
                replace P1 := Y
                clear hB hw
                refine rg_done (by kernel_rfl) ?_
                exact ⟨(A0, N0, C0, B0, M0, D0, A1, N1, C1, B1, M1, D1), by kernel_rfl, P0, P1, C0', E0', C1', E1', hN0, hM0, hN1, hM1, X4, HB⟩
              exact ar_nil
            exact ar_nil
          exact ar_nil
        exact ar_nil
      exact ar_nil
    refine ar_load 2 (some 7) (.agg #[.slice a1 n1 c1, .slice b1 m1 d1]) 30 3 (w.heap.size + 1) 0 (by kernel_rfl) (by kernel_rfl) (by kernel_rfl) (load_rat P1) trivial ?_ ?_
    · refine rg_ready [0] (by kernel_rfl) (by simp) ?_
      refine ar_load 0 (some 5) (.agg #[.slice a0 n0 c0, .slice b0 m0 d0]) 30 2 (w.heap.size) 0 (by kernel_rfl) (by kernel_rfl) (by kernel_rfl) (load_rat P0) trivial ?_ ?_
      · refine rg_ready [1] (by kernel_rfl) (by simp) ?_
        refine ar_call 1 (some 6) 99 #[.agg #[.slice a0 n0 c0, .slice b0 m0 d0]] (by kernel_rfl) (by kernel_rfl) (tRight h0 e0 (by omega) (by omega)) ?_ ?_
        · rintro e v14 ⟨A0, N0, C0, B0, M0, D0, rfl, C0', E0', hN0, hM0, hB⟩
          refine ⟨_, rfl, trivial, ?_⟩
          replace h0 := h0.keep hB
          replace e0 := e0.keep hB
          replace h1 := h1.keep hB
          replace e1 := e1.keep hB
          replace P0 := P0.keep hB
          replace P1 := P1.keep hB
          replace X4 := X4.keep hB
          replace HB := joinB HB hB
          clear hB
          refine rg_ready [3] (by kernel_rfl) (by simp) ?_
          refine ar_call 3 (some 8) 99 #[.agg #[.slice a1 n1 c1, .slice b1 m1 d1]] (by kernel_rfl) (by kernel_rfl) (tRight h1 e1 (by omega) (by omega)) ?_ ?_
          · rintro e v15 ⟨A1, N1, C1, B1, M1, D1, rfl, C1', E1', hN1, hM1, hB⟩
            refine ⟨_, rfl, trivial, ?_⟩
            replace h0 := h0.keep hB
            replace e0 := e0.keep hB
            replace h1 := h1.keep hB
            replace e1 := e1.keep hB
            replace C0' := C0'.keep hB
            replace E0' := E0'.keep hB
            replace P0 := P0.keep hB
            replace P1 := P1.keep hB
            replace X4 := X4.keep hB
            replace HB := joinB HB hB
            clear hB
            refine rg_ready [4] (by kernel_rfl) (by simp) ?_
            refine ar_store 4 30 30 2 6 (w.heap.size) [.slice a0 n0 c0, .slice b0 m0 d0] [.slice A0 N0 C0, .slice B0 M0 D0] (by kernel_rfl) (by kernel_rfl) (by kernel_rfl) (by kernel_rfl) P0 (by kernel_rfl) rfl (by kernel_rfl) ?_ ?_
            · intro v16 Y hw hB
              refine ⟨trivial, ?_⟩
              replace HB := HB.trans (hB.mono (by omega))
              replace h0 := h0.blk P0 (no_ints2 _ _ _ _ _ _) hw
              replace e0 := e0.blk P0 (no_ints2 _ _ _ _ _ _) hw
              replace h1 := h1.blk P0 (no_ints2 _ _ _ _ _ _) hw
              replace e1 := e1.blk P0 (no_ints2 _ _ _ _ _ _) hw
              replace C0' := C0'.blk P0 (no_ints2 _ _ _ _ _ _) hw
              replace E0' := E0'.blk P0 (no_ints2 _ _ _ _ _ _) hw
              replace C1' := C1'.blk P0 (no_ints2 _ _ _ _ _ _) hw
              replace E1' := E1'.blk P0 (no_ints2 _ _ _ _ _ _) hw
              replace P1 := P1.off (by omega) hw
              replace X4 := X4.off (by omega) hw
              replace P0 := Y
              clear hB hw
              refine rg_ready [5] (by kernel_rfl) (by simp) ?_
              refine ar_store 5 30 30 3 8 (w.heap.size + 1) [.slice a1 n1 c1, .slice b1 m1 d1] [.slice A1 N1 C1, .slice B1 M1 D1] (by kernel_rfl) (by kernel_rfl) (by kernel_rfl) (by kernel_rfl) P1 (by kernel_rfl) rfl (by kernel_rfl) ?_ ?_
              · intro v17 Y hw hB
                refine ⟨trivial, ?_⟩
                replace HB := HB.trans (hB.mono (by omega))
                replace h0 := h0.blk P1 (no_ints2 _ _ _ _ _ _) hw
                replace e0 := e0.blk P1 (no_ints2 _ _ _ _ _ _) hw
                replace h1 := h1.blk P1 (no_ints2 _ _ _ _ _ _) hw
                replace e1 := e1.blk P1 (no_ints2 _ _ _ _ _ _) hw
                replace C0' := C0'.blk P1 (no_ints2 _ _ _ _ _ _) hw
                replace E0' := E0'.blk P1 (no_ints2 _ _ _ _ _ _) hw
                replace C1' := C1'.blk P1 (no_ints2 _ _ _ _ _ _) hw
                replace E1' := E1'.blk P1 (no_ints2 _ _ _ _ _ _) hw
                replace P0 := P0.off (by omega) hw
                replace X4 := X4.off (by omega) hw
                replace P1 := Y
                clear hB hw
                refine rg_done (by kernel_rfl) ?_
                exact ⟨(A0, N0, C0, B0, M0, D0, A1, N1, C1, B1, M1, D1), by kernel_rfl, P0, P1, C0', E0', C1', E1', hN0, hM0, hN1, hM1, X4, HB⟩
              exact ar_nil
            exact ar_nil
          exact ar_nil
        exact ar_nil
      exact ar_nil
    exact ar_nil
  · clear h0 e0 h1 e1 P0 P1 X4 HB
    rintro ⟨A0, N0, C0, B0, M0, D0, A1, N1, C1, B1, M1, D1⟩ u1 ⟨P0, P1, C0', E0', C1', E1', hN0, hM0, hN1, hM1, X4, HB⟩
    try simp only [putAll, Act.put, List.setIfInBounds_toArray, List.set_cons_zero, List.set_cons_succ]
    go_wp2_with fail
    refine rg_start (S := fun w' => Box w' (w.heap.size) [.slice A0 N0 C0, .slice B0 M0 D0] 30 ∧ Box w' (w.heap.size + 1) [.slice A1 N1 C1, .slice B1 M1 D1] 30) (by kernel_rfl) ⟨P0.drew, P1.drew⟩ ?_
    replace C0' := C0'.drew
    replace E0' := E0'.drew
    replace C1' := C1'.drew
    replace E1' := E1'.drew
    replace X4 := X4.drew
    replace HB := HB.drew
    have hS := (show _ ∧ _ from ⟨P0.drew, P1.drew⟩)
    clear P0 P1
    refine rg_take 0 (some 9) (.pointer (some ⟨w.heap.size, 0, none⟩)) (by kernel_rfl) (fun _ _ => by kernel_rfl) (fun _ _ _ h => h) hS ?_
    refine rg_load 1 (some 10) (.slice A0 N0 C0) 28 9 (w.heap.size) 0 (by kernel_rfl) (by kernel_rfl) (by kernel_rfl) (fun _ hs => load_at (hs.1.cells2.1)) (fun _ _ _ h => h) hS ?_
    refine rg_take 2 (some 11) (.pointer (some ⟨w.heap.size + 1, 1, none⟩)) (by kernel_rfl) (fun _ _ => by kernel_rfl) (fun _ _ _ h => h) hS ?_
    refine rg_load 3 (some 12) (.slice B1 M1 D1) 28 11 (w.heap.size + 1) 1 (by kernel_rfl) (by kernel_rfl) (by kernel_rfl) (fun _ hs => load_at (hs.2.cells2.2.1)) (fun _ _ _ h => h) hS ?_
    refine rg_take 5 (some 14) (.pointer (some ⟨w.heap.size + 1, 0, none⟩)) (by kernel_rfl) (fun _ _ => by kernel_rfl) (fun _ _ _ h => h) hS ?_
    refine rg_load 6 (some 15) (.slice A1 N1 C1) 28 14 (w.heap.size + 1) 0 (by kernel_rfl) (by kernel_rfl) (by kernel_rfl) (fun _ hs => load_at (hs.2.cells2.1)) (fun _ _ _ h => h) hS ?_
    refine rg_take 7 (some 16) (.pointer (some ⟨w.heap.size, 1, none⟩)) (by kernel_rfl) (fun _ _ => by kernel_rfl) (fun _ _ _ h => h) hS ?_
    refine rg_load 8 (some 17) (.slice B0 M0 D0) 28 16 (w.heap.size) 1 (by kernel_rfl) (by kernel_rfl) (by kernel_rfl) (fun _ hs => load_at (hs.1.cells2.2.1)) (fun _ _ _ h => h) hS ?_
    refine rg_take 11 (some 20) (.pointer (some ⟨w.heap.size, 1, none⟩)) (by kernel_rfl) (fun _ _ => by kernel_rfl) (fun _ _ _ h => h) hS ?_
    refine rg_load 12 (some 21) (.slice B0 M0 D0) 28 20 (w.heap.size) 1 (by kernel_rfl) (by kernel_rfl) (by kernel_rfl) (fun _ hs => load_at (hs.1.cells2.2.1)) (fun _ _ _ h => h) hS ?_
    refine rg_take 13 (some 22) (.pointer (some ⟨w.heap.size + 1, 1, none⟩)) (by kernel_rfl) (fun _ _ => by kernel_rfl) (fun _ _ _ h => h) hS ?_
    refine rg_load 14 (some 23) (.slice B1 M1 D1) 28 22 (w.heap.size + 1) 1 (by kernel_rfl) (by kernel_rfl) (by kernel_rfl) (fun _ hs => load_at (hs.2.cells2.2.1)) (fun _ _ _ h => h) hS ?_
    refine rg_call 4 (some 13) 103 #[.slice A0 N0 C0, .slice B1 M1 D1] (by kernel_rfl) (by kernel_rfl) (rMul C0' E1' (by omega) (by omega)) ?_
    rintro e z1 ⟨F1, K1, H1, rfl, O1, hk1, hB⟩
    refine ⟨_, rfl, ⟨hS.1.keep hB, hS.2.keep hB⟩, ?_⟩
    replace hS := (show _ ∧ _ from ⟨hS.1.keep hB, hS.2.keep hB⟩)
    replace C0' := C0'.keep hB
    replace E0' := E0'.keep hB
    replace C1' := C1'.keep hB
    replace E1' := E1'.keep hB
    replace X4 := X4.keep hB
    replace HB := joinB HB hB
    clear hB
    refine rg_call 9 (some 18) 103 #[.slice A1 N1 C1, .slice B0 M0 D0] (by kernel_rfl) (by kernel_rfl) (rMul C1' E0' (by omega) (by omega)) ?_
    rintro e z2 ⟨F2, K2, H2, rfl, O2, hk2, hB⟩
    refine ⟨_, rfl, ⟨hS.1.keep hB, hS.2.keep hB⟩, ?_⟩
    replace hS := (show _ ∧ _ from ⟨hS.1.keep hB, hS.2.keep hB⟩)
    replace C0' := C0'.keep hB
    replace E0' := E0'.keep hB
    replace C1' := C1'.keep hB
    replace E1' := E1'.keep hB
    replace X4 := X4.keep hB
    replace O1 := O1.keep hB
    replace HB := joinB HB hB
    clear hB
    refine rg_call 10 (some 19) 105 #[.slice F1 K1 H1, .slice F2 K2 H2] (by kernel_rfl) (by kernel_rfl) (rAdd O1.a O2.a (by omega) (by omega)) ?_
    rintro e z3 ⟨F3, K3, H3, rfl, O3, hk3, hB⟩
    refine ⟨_, rfl, ⟨hS.1.keep hB, hS.2.keep hB⟩, ?_⟩
    replace hS := (show _ ∧ _ from ⟨hS.1.keep hB, hS.2.keep hB⟩)
    replace C0' := C0'.keep hB
    replace E0' := E0'.keep hB
    replace C1' := C1'.keep hB
    replace E1' := E1'.keep hB
    replace X4 := X4.keep hB
    replace O1 := O1.keep hB
    replace O2 := O2.keep hB
    replace HB := joinB HB hB
    clear hB
    refine rg_call 15 (some 24) 103 #[.slice B0 M0 D0, .slice B1 M1 D1] (by kernel_rfl) (by kernel_rfl) (rMul E0' E1' (by omega) (by omega)) ?_
    rintro e z4 ⟨F4, K4, H4, rfl, O4, hk4, hB⟩
    refine ⟨_, rfl, ⟨hS.1.keep hB, hS.2.keep hB⟩, ?_⟩
    replace hS := (show _ ∧ _ from ⟨hS.1.keep hB, hS.2.keep hB⟩)
    replace C0' := C0'.keep hB
    replace E0' := E0'.keep hB
    replace C1' := C1'.keep hB
    replace E1' := E1'.keep hB
    replace X4 := X4.keep hB
    replace O1 := O1.keep hB
    replace O2 := O2.keep hB
    replace O3 := O3.keep hB
    replace HB := joinB HB hB
    clear hB
    refine rg_call 16 (some 25) 96 #[.slice F3 K3 H3, .slice F4 K4 H4] (by kernel_rfl) (by kernel_rfl) (tMade O3.a O4.a (by omega) (by omega) NE.out) ?_
    rintro e z5 ⟨Ar, Kr, Dr, As', Ks, Ds, rfl, Or1, Or2, hkr, hks, hB⟩
    refine ⟨_, rfl, ⟨hS.1.keep hB, hS.2.keep hB⟩, ?_⟩
    replace hS := (show _ ∧ _ from ⟨hS.1.keep hB, hS.2.keep hB⟩)
    replace C0' := C0'.keep hB
    replace E0' := E0'.keep hB
    replace C1' := C1'.keep hB
    replace E1' := E1'.keep hB
    replace X4 := X4.keep hB
    replace O1 := O1.keep hB
    replace O2 := O2.keep hB
    replace O3 := O3.keep hB
    replace O4 := O4.keep hB
    replace HB := joinB HB hB
    clear hB
    refine rg_ready [17] (by kernel_rfl) (by simp) ?_
    refine ar_store 17 30 30 4 25 (w.heap.size + 1 + 1) [.slice none 0 0, .slice none 0 0] [.slice Ar Kr Dr, .slice As' Ks Ds] (by kernel_rfl) (by kernel_rfl) (by kernel_rfl) (by kernel_rfl) X4 (by kernel_rfl) rfl (by kernel_rfl) ?_ ar_nil
    intro z6 Y hw hB
    refine ⟨⟨hS.1.off (by omega) hw, hS.2.off (by omega) hw⟩, ?_⟩
    replace hS := (show _ ∧ _ from ⟨hS.1.off (by omega) hw, hS.2.off (by omega) hw⟩)
    replace HB := HB.trans (hB.mono (by omega))
    replace C0' := C0'.blk X4 (no_ints2 _ _ _ _ _ _) hw
    replace E0' := E0'.blk X4 (no_ints2 _ _ _ _ _ _) hw
    replace C1' := C1'.blk X4 (no_ints2 _ _ _ _ _ _) hw
    replace E1' := E1'.blk X4 (no_ints2 _ _ _ _ _ _) hw
    skip
    replace O1 := O1.blk X4 (no_ints2 _ _ _ _ _ _) hw
    replace O2 := O2.blk X4 (no_ints2 _ _ _ _ _ _) hw
    replace O3 := O3.blk X4 (no_ints2 _ _ _ _ _ _) hw
    replace O4 := O4.blk X4 (no_ints2 _ _ _ _ _ _) hw
    replace Or1 := Or1.blk X4 (no_ints2 _ _ _ _ _ _) hw
    replace Or2 := Or2.blk X4 (no_ints2 _ _ _ _ _ _) hw
    replace X4 := Y
    clear hB hw
    refine rg_done (by kernel_rfl) ?_
    try simp only [Act.put, List.setIfInBounds_toArray, List.set_cons_zero, List.set_cons_succ]
    go_wp2
    refine bodyPost_ret (ret_rat rfl rfl X4) rfl ?_
    exact ⟨_, _, _, _, _, _, rfl, pairR Or1 Or2 (red_of NP.out.1 NP.out.2) NP.out.2 NP.out.1 (by omega) (by omega), HB⟩
set_option maxHeartbeats 8000000 in
set_option maxRecDepth 100000 in
theorem tMulR {w : World} {B : Nat} {a0 b0 : Option Addr} {n0 c0 m0 d0 : Nat} {x0 y0 : Int} {a1 b1 : Option Addr} {n1 c1 m1 d1 : Nat} {x1 y1 : Int} (h0 : NatA w a0 n0 c0 x0) (e0 : NatA w b0 m0 d0 y0) (hn0 : n0 ≤ B) (hm0 : m0 ≤ B) (h1 : NatA w a1 n1 c1 x1) (e1 : NatA w b1 m1 d1 y1) (hn1 : n1 ≤ B) (hm1 : m1 ≤ B) (hb : B ≤ 10000000) :
    Calls Tryz.prog 51 #[.agg #[.slice a0 n0 c0, .slice b0 m0 d0], .agg #[.slice a1 n1 c1, .slice b1 m1 d1]] w fun e w' => ∃ a k d a' k' d', e = .returned (.agg #[.slice a k d, .slice a' k' d']) ∧ QR w' a k d a' k' d' (cn x0 y0 * cn x1 y1) (cd y0 * cd y1) (32 * B + 64) ∧ Below w.heap.size w w' := by
  have u0p := cd_pos e0.nonneg
  have u1p := cd_pos e1.nonneg
  have z0p := cn_nonneg y0 h0.nonneg
  have z1p := cn_nonneg y1 h1.nonneg
  have NP : Hid (0 ≤ cn x0 y0 * cn x1 y1 ∧ 0 < cd y0 * cd y1) := ⟨Int.mul_nonneg z0p z1p, Int.mul_pos u0p u1p⟩
  have NE : Hid (cd y0 * cd y1 ≠ 0) := Int.mul_ne_zero (cd_ne _) (cd_ne _)
  clear u0p u1p z0p z1p
  have HB := Below.refl w.heap.size w
  have P0 := box_new (w) [.slice a0 n0 c0, .slice b0 m0 d0] 30
  have BA := below_alloc (w) (.cells #[.slice a0 n0 c0, .slice b0 m0 d0] 30)
  replace h0 := h0.keep BA
  replace e0 := e0.keep BA
  replace h1 := h1.keep BA
  replace e1 := e1.keep BA
  replace HB := joinB HB BA
  clear BA
  have P1 := box_new ((w).alloc (.cells #[.slice a0 n0 c0, .slice b0 m0 d0] 30)) [.slice a1 n1 c1, .slice b1 m1 d1] 30
  rw [show ((w).alloc (.cells #[.slice a0 n0 c0, .slice b0 m0 d0] 30)).heap.size = w.heap.size + 1 by simp] at P1
  have BA := below_alloc ((w).alloc (.cells #[.slice a0 n0 c0, .slice b0 m0 d0] 30)) (.cells #[.slice a1 n1 c1, .slice b1 m1 d1] 30)
  replace h0 := h0.keep BA
  replace e0 := e0.keep BA
  replace h1 := h1.keep BA
  replace e1 := e1.keep BA
  replace P0 := P0.keep BA
  replace HB := joinB HB BA
  clear BA
  have X4 := box_new (((w).alloc (.cells #[.slice a0 n0 c0, .slice b0 m0 d0] 30)).alloc (.cells #[.slice a1 n1 c1, .slice b1 m1 d1] 30)) [.slice none 0 0, .slice none 0 0] 30
  rw [show (((w).alloc (.cells #[.slice a0 n0 c0, .slice b0 m0 d0] 30)).alloc (.cells #[.slice a1 n1 c1, .slice b1 m1 d1] 30)).heap.size = w.heap.size + 1 + 1 by simp] at X4
  have BA := below_alloc (((w).alloc (.cells #[.slice a0 n0 c0, .slice b0 m0 d0] 30)).alloc (.cells #[.slice a1 n1 c1, .slice b1 m1 d1] 30)) (.cells #[.slice none 0 0, .slice none 0 0] 30)
  replace h0 := h0.keep BA
  replace e0 := e0.keep BA
  replace h1 := h1.keep BA
  replace e1 := e1.keep BA
  replace P0 := P0.keep BA
  replace P1 := P1.keep BA
  replace HB := joinB HB BA
  clear BA
  go_enter Tryz.func51, Tryz.ntmps51
  go_wp2_with fail
  generalize ((w.alloc (.cells #[.slice a0 n0 c0, .slice b0 m0 d0] 30)).alloc (.cells #[.slice a1 n1 c1, .slice b1 m1 d1] 30)).alloc (.cells #[.slice none 0 0, .slice none 0 0] 30) = u0 at *
  refine rg_mid (X := Option Addr × Nat × Nat × Option Addr × Nat × Nat × Option Addr × Nat × Nat × Option Addr × Nat × Nat) (fun ⟨A0, N0, C0, B0, M0, D0, A1, N1, C1, B1, M1, D1⟩ => [(some 5, .agg #[.slice a0 n0 c0, .slice b0 m0 d0]), (some 6, .agg #[.slice A0 N0 C0, .slice B0 M0 D0]), (some 7, .agg #[.slice a1 n1 c1, .slice b1 m1 d1]), (some 8, .agg #[.slice A1 N1 C1, .slice B1 M1 D1])]) (fun ⟨A0, N0, C0, B0, M0, D0, A1, N1, C1, B1, M1, D1⟩ w' => Box w' (w.heap.size) [.slice A0 N0 C0, .slice B0 M0 D0] 30 ∧ Box w' (w.heap.size + 1) [.slice A1 N1 C1, .slice B1 M1 D1] 30 ∧ NatA w' A0 N0 C0 (cn x0 y0) ∧ NatA w' B0 M0 D0 (cd y0) ∧ NatA w' A1 N1 C1 (cn x1 y1) ∧ NatA w' B1 M1 D1 (cd y1) ∧ N0 ≤ n0 ∧ M0 ≤ m0 + 2 ∧ N1 ≤ n1 ∧ M1 ≤ m1 + 2 ∧ Box w' (w.heap.size + 1 + 1) [.slice none 0 0, .slice none 0 0] 30 ∧ Below w.heap.size w w') (fun _ => True) (by kernel_rfl) trivial ?_ ?_
  · replace h0 := h0.drew
    replace e0 := e0.drew
    replace h1 := h1.drew
    replace e1 := e1.drew
    replace P0 := P0.drew
    replace P1 := P1.drew
    replace X4 := X4.drew
    replace HB := HB.drew
    refine rg_ready [0, 2] (by kernel_rfl) (by simp) ?_
    refine ar_load 0 (some 5) (.agg #[.slice a0 n0 c0, .slice b0 m0 d0]) 30 2 (w.heap.size) 0 (by kernel_rfl) (by kernel_rfl) (by kernel_rfl) (load_rat P0) trivial ?_ ?_
    · refine rg_ready [1, 2] (by kernel_rfl) (by simp) ?_
      refine ar_call 1 (some 6) 99 #[.agg #[.slice a0 n0 c0, .slice b0 m0 d0]] (by kernel_rfl) (by kernel_rfl) (tRight h0 e0 (by omega) (by omega)) ?_ ?_
      · rintro e v2 ⟨A0, N0, C0, B0, M0, D0, rfl, C0', E0', hN0, hM0, hB⟩
        refine ⟨_, rfl, trivial, ?_⟩
        replace h0 := h0.keep hB
        replace e0 := e0.keep hB
        replace h1 := h1.keep hB
        replace e1 := e1.keep hB
        replace P0 := P0.keep hB
        replace P1 := P1.keep hB
        replace X4 := X4.keep hB
        replace HB := joinB HB hB
        clear hB
        refine rg_ready [2] (by kernel_rfl) (by simp) ?_
        refine ar_load 2 (some 7) (.agg #[.slice a1 n1 c1, .slice b1 m1 d1]) 30 3 (w.heap.size + 1) 0 (by kernel_rfl) (by kernel_rfl) (by kernel_rfl) (load_rat P1) trivial ?_ ?_
        · refine rg_ready [3] (by kernel_rfl) (by simp) ?_
          refine ar_call 3 (some 8) 99 #[.agg #[.slice a1 n1 c1, .slice b1 m1 d1]] (by kernel_rfl) (by kernel_rfl) (tRight h1 e1 (by omega) (by omega)) ?_ ?_
          · rintro e v4 ⟨A1, N1, C1, B1, M1, D1, rfl, C1', E1', hN1, hM1, hB⟩
            refine ⟨_, rfl, trivial, ?_⟩
            replace h0 := h0.keep hB
            replace e0 := e0.keep hB
            replace h1 := h1.keep hB
            replace e1 := e1.keep hB
            replace C0' := C0'.keep hB
            replace E0' := E0'.keep hB
            replace P0 := P0.keep hB
            replace P1 := P1.keep hB
            replace X4 := X4.keep hB
            replace HB := joinB HB hB
            clear hB
            refine rg_ready [4] (by kernel_rfl) (by simp) ?_
            refine ar_store 4 30 30 2 6 (w.heap.size) [.slice a0 n0 c0, .slice b0 m0 d0] [.slice A0 N0 C0, .slice B0 M0 D0] (by kernel_rfl) (by kernel_rfl) (by kernel_rfl) (by kernel_rfl) P0 (by kernel_rfl) rfl (by kernel_rfl) ?_ ?_
            · intro v5 Y hw hB
              refine ⟨trivial, ?_⟩
              replace HB := HB.trans (hB.mono (by omega))
              replace h0 := h0.blk P0 (no_ints2 _ _ _ _ _ _) hw
              replace e0 := e0.blk P0 (no_ints2 _ _ _ _ _ _) hw
              replace h1 := h1.blk P0 (no_ints2 _ _ _ _ _ _) hw
              replace e1 := e1.blk P0 (no_ints2 _ _ _ _ _ _) hw
              replace C0' := C0'.blk P0 (no_ints2 _ _ _ _ _ _) hw
              replace E0' := E0'.blk P0 (no_ints2 _ _ _ _ _ _) hw
              replace C1' := C1'.blk P0 (no_ints2 _ _ _ _ _ _) hw
              replace E1' := E1'.blk P0 (no_ints2 _ _ _ _ _ _) hw
              replace P1 := P1.off (by omega) hw
              replace X4 := X4.off (by omega) hw
              replace P0 := Y
              clear hB hw
              refine rg_ready [5] (by kernel_rfl) (by simp) ?_
              refine ar_store 5 30 30 3 8 (w.heap.size + 1) [.slice a1 n1 c1, .slice b1 m1 d1] [.slice A1 N1 C1, .slice B1 M1 D1] (by kernel_rfl) (by kernel_rfl) (by kernel_rfl) (by kernel_rfl) P1 (by kernel_rfl) rfl (by kernel_rfl) ?_ ?_
              · intro v6 Y hw hB
                refine ⟨trivial, ?_⟩
                replace HB := HB.trans (hB.mono (by omega))
                replace h0 := h0.blk P1 (no_ints2 _ _ _ _ _ _) hw
                replace e0 := e0.blk P1 (no_ints2 _ _ _ _ _ _) hw
                replace h1 := h1.blk P1 (no_ints2 _ _ _ _ _ _) hw
                replace e1 := e1.blk P1 (no_ints2 _ _ _ _ _ _) hw
                replace C0' := C0'.blk P1 (no_ints2 _ _ _ _ _ _) hw
                replace E0' := E0'.blk P1 (no_ints2 _ _ _ _ _ _) hw
                replace C1' := C1'.blk P1 (no_ints2 _ _ _ _ _ _) hw
                replace E1' := E1'.blk P1 (no_ints2 _ _ _ _ _ _) hw
                replace P0 := P0.off (by omega) hw
                replace X4 := X4.off (by omega) hw
                replace P1 := Y
                clear hB hw
                refine rg_done (by kernel_rfl) ?_
                exact ⟨(A0, N0, C0, B0, M0, D0, A1, N1, C1, B1, M1, D1), by kernel_rfl, P0, P1, C0', E0', C1', E1', hN0, hM0, hN1, hM1, X4, HB⟩
              exact ar_nil
            exact ar_nil
          exact ar_nil
        exact ar_nil
      refine ar_load 2 (some 7) (.agg #[.slice a1 n1 c1, .slice b1 m1 d1]) 30 3 (w.heap.size + 1) 0 (by kernel_rfl) (by kernel_rfl) (by kernel_rfl) (load_rat P1) trivial ?_ ?_
      · refine rg_ready [1] (by kernel_rfl) (by simp) ?_
        refine ar_call 1 (some 6) 99 #[.agg #[.slice a0 n0 c0, .slice b0 m0 d0]] (by kernel_rfl) (by kernel_rfl) (tRight h0 e0 (by omega) (by omega)) ?_ ?_
        · rintro e v8 ⟨A0, N0, C0, B0, M0, D0, rfl, C0', E0', hN0, hM0, hB⟩
          refine ⟨_, rfl, trivial, ?_⟩
          replace h0 := h0.keep hB
          replace e0 := e0.keep hB
          replace h1 := h1.keep hB
          replace e1 := e1.keep hB
          replace P0 := P0.keep hB
          replace P1 := P1.keep hB
          replace X4 := X4.keep hB
          replace HB := joinB HB hB
          clear hB
          refine rg_ready [3] (by kernel_rfl) (by simp) ?_
          refine ar_call 3 (some 8) 99 #[.agg #[.slice a1 n1 c1, .slice b1 m1 d1]] (by kernel_rfl) (by kernel_rfl) (tRight h1 e1 (by omega) (by omega)) ?_ ?_
          · rintro e v9 ⟨A1, N1, C1, B1, M1, D1, rfl, C1', E1', hN1, hM1, hB⟩
            refine ⟨_, rfl, trivial, ?_⟩
            replace h0 := h0.keep hB
            replace e0 := e0.keep hB
            replace h1 := h1.keep hB
            replace e1 := e1.keep hB
            replace C0' := C0'.keep hB
            replace E0' := E0'.keep hB
            replace P0 := P0.keep hB
            replace P1 := P1.keep hB
            replace X4 := X4.keep hB
            replace HB := joinB HB hB
            clear hB
            refine rg_ready [4] (by kernel_rfl) (by simp) ?_
            refine ar_store 4 30 30 2 6 (w.heap.size) [.slice a0 n0 c0, .slice b0 m0 d0] [.slice A0 N0 C0, .slice B0 M0 D0] (by kernel_rfl) (by kernel_rfl) (by kernel_rfl) (by kernel_rfl) P0 (by kernel_rfl) rfl (by kernel_rfl) ?_ ?_
            · intro v10 Y hw hB
              refine ⟨trivial, ?_⟩
              replace HB := HB.trans (hB.mono (by omega))
              replace h0 := h0.blk P0 (no_ints2 _ _ _ _ _ _) hw
              replace e0 := e0.blk P0 (no_ints2 _ _ _ _ _ _) hw
              replace h1 := h1.blk P0 (no_ints2 _ _ _ _ _ _) hw
              replace e1 := e1.blk P0 (no_ints2 _ _ _ _ _ _) hw
              replace C0' := C0'.blk P0 (no_ints2 _ _ _ _ _ _) hw
              replace E0' := E0'.blk P0 (no_ints2 _ _ _ _ _ _) hw
              replace C1' := C1'.blk P0 (no_ints2 _ _ _ _ _ _) hw
              replace E1' := E1'.blk P0 (no_ints2 _ _ _ _ _ _) hw
              replace P1 := P1.off (by omega) hw
              replace X4 := X4.off (by omega) hw
              replace P0 := Y
              clear hB hw
              refine rg_ready [5] (by kernel_rfl) (by simp) ?_
              refine ar_store 5 30 30 3 8 (w.heap.size + 1) [.slice a1 n1 c1, .slice b1 m1 d1] [.slice A1 N1 C1, .slice B1 M1 D1] (by kernel_rfl) (by kernel_rfl) (by kernel_rfl) (by kernel_rfl) P1 (by kernel_rfl) rfl (by kernel_rfl) ?_ ?_
              · intro v11 Y hw hB
                refine ⟨trivial, ?_⟩
                replace HB := HB.trans (hB.mono (by omega))
                replace h0 := h0.blk P1 (no_ints2 _ _ _ _ _ _) hw
                replace e0 := e0.blk P1 (no_ints2 _ _ _ _ _ _) hw
                replace h1 := h1.blk P1 (no_ints2 _ _ _ _ _ _) hw
                replace e1 := e1.blk P1 (no_ints2 _ _ _ _ _ _) hw
                replace C0' := C0'.blk P1 (no_ints2 _ _ _ _ _ _) hw
                replace E0' := E0'.blk P1 (no_ints2 _ _ _ _ _ _) hw
                replace C1' := C1'.blk P1 (no_ints2 _ _ _ _ _ _) hw
                replace E1' := E1'.blk P1 (no_ints2 _ _ _ _ _ _) hw
                replace P0 := P0.off (by omega) hw
                replace X4 := X4.off (by omega) hw
                replace P1 := Y
                clear hB hw
                refine rg_done (by kernel_rfl) ?_
                exact ⟨(A0, N0, C0, B0, M0, D0, A1, N1, C1, B1, M1, D1), by kernel_rfl, P0, P1, C0', E0', C1', E1', hN0, hM0, hN1, hM1, X4, HB⟩
              exact ar_nil
            exact ar_nil
          exact ar_nil
        exact ar_nil
      exact ar_nil
    refine ar_load 2 (some 7) (.agg #[.slice a1 n1 c1, .slice b1 m1 d1]) 30 3 (w.heap.size + 1) 0 (by kernel_rfl) (by kernel_rfl) (by kernel_rfl) (load_rat P1) trivial ?_ ?_
    · refine rg_ready [0] (by kernel_rfl) (by simp) ?_
      refine ar_load 0 (some 5) (.agg #[.slice a0 n0 c0, .slice b0 m0 d0]) 30 2 (w.heap.size) 0 (by kernel_rfl) (by kernel_rfl) (by kernel_rfl) (load_rat P0) trivial ?_ ?_
      · refine rg_ready [1] (by kernel_rfl) (by simp) ?_
        refine ar_call 1 (some 6) 99 #[.agg #[.slice a0 n0 c0, .slice b0 m0 d0]] (by kernel_rfl) (by kernel_rfl) (tRight h0 e0 (by omega) (by omega)) ?_ ?_
        · rintro e v14 ⟨A0, N0, C0, B0, M0, D0, rfl, C0', E0', hN0, hM0, hB⟩
          refine ⟨_, rfl, trivial, ?_⟩
          replace h0 := h0.keep hB
          replace e0 := e0.keep hB
          replace h1 := h1.keep hB
          replace e1 := e1.keep hB
          replace P0 := P0.keep hB
          replace P1 := P1.keep hB
          replace X4 := X4.keep hB
          replace HB := joinB HB hB
          clear hB
          refine rg_ready [3] (by kernel_rfl) (by simp) ?_
          refine ar_call 3 (some 8) 99 #[.agg #[.slice a1 n1 c1, .slice b1 m1 d1]] (by kernel_rfl) (by kernel_rfl) (tRight h1 e1 (by omega) (by omega)) ?_ ?_
          · rintro e v15 ⟨A1, N1, C1, B1, M1, D1, rfl, C1', E1', hN1, hM1, hB⟩
            refine ⟨_, rfl, trivial, ?_⟩
            replace h0 := h0.keep hB
            replace e0 := e0.keep hB
            replace h1 := h1.keep hB
            replace e1 := e1.keep hB
            replace C0' := C0'.keep hB
            replace E0' := E0'.keep hB
            replace P0 := P0.keep hB
            replace P1 := P1.keep hB
            replace X4 := X4.keep hB
            replace HB := joinB HB hB
            clear hB
            refine rg_ready [4] (by kernel_rfl) (by simp) ?_
            refine ar_store 4 30 30 2 6 (w.heap.size) [.slice a0 n0 c0, .slice b0 m0 d0] [.slice A0 N0 C0, .slice B0 M0 D0] (by kernel_rfl) (by kernel_rfl) (by kernel_rfl) (by kernel_rfl) P0 (by kernel_rfl) rfl (by kernel_rfl) ?_ ?_
            · intro v16 Y hw hB
              refine ⟨trivial, ?_⟩
              replace HB := HB.trans (hB.mono (by omega))
              replace h0 := h0.blk P0 (no_ints2 _ _ _ _ _ _) hw
              replace e0 := e0.blk P0 (no_ints2 _ _ _ _ _ _) hw
              replace h1 := h1.blk P0 (no_ints2 _ _ _ _ _ _) hw
              replace e1 := e1.blk P0 (no_ints2 _ _ _ _ _ _) hw
              replace C0' := C0'.blk P0 (no_ints2 _ _ _ _ _ _) hw
              replace E0' := E0'.blk P0 (no_ints2 _ _ _ _ _ _) hw
              replace C1' := C1'.blk P0 (no_ints2 _ _ _ _ _ _) hw
              replace E1' := E1'.blk P0 (no_ints2 _ _ _ _ _ _) hw
              replace P1 := P1.off (by omega) hw
              replace X4 := X4.off (by omega) hw
              replace P0 := Y
              clear hB hw
              refine rg_ready [5] (by kernel_rfl) (by simp) ?_
              refine ar_store 5 30 30 3 8 (w.heap.size + 1) [.slice a1 n1 c1, .slice b1 m1 d1] [.slice A1 N1 C1, .slice B1 M1 D1] (by kernel_rfl) (by kernel_rfl) (by kernel_rfl) (by kernel_rfl) P1 (by kernel_rfl) rfl (by kernel_rfl) ?_ ?_
              · intro v17 Y hw hB
                refine ⟨trivial, ?_⟩
                replace HB := HB.trans (hB.mono (by omega))
                replace h0 := h0.blk P1 (no_ints2 _ _ _ _ _ _) hw
                replace e0 := e0.blk P1 (no_ints2 _ _ _ _ _ _) hw
                replace h1 := h1.blk P1 (no_ints2 _ _ _ _ _ _) hw
                replace e1 := e1.blk P1 (no_ints2 _ _ _ _ _ _) hw
                replace C0' := C0'.blk P1 (no_ints2 _ _ _ _ _ _) hw
                replace E0' := E0'.blk P1 (no_ints2 _ _ _ _ _ _) hw
                replace C1' := C1'.blk P1 (no_ints2 _ _ _ _ _ _) hw
                replace E1' := E1'.blk P1 (no_ints2 _ _ _ _ _ _) hw
                replace P0 := P0.off (by omega) hw
                replace X4 := X4.off (by omega) hw
                replace P1 := Y
                clear hB hw
                refine rg_done (by kernel_rfl) ?_
                exact ⟨(A0, N0, C0, B0, M0, D0, A1, N1, C1, B1, M1, D1), by kernel_rfl, P0, P1, C0', E0', C1', E1', hN0, hM0, hN1, hM1, X4, HB⟩
              exact ar_nil
            exact ar_nil
          exact ar_nil
        exact ar_nil
      exact ar_nil
    exact ar_nil
  · clear h0 e0 h1 e1 P0 P1 X4 HB
    rintro ⟨A0, N0, C0, B0, M0, D0, A1, N1, C1, B1, M1, D1⟩ u1 ⟨P0, P1, C0', E0', C1', E1', hN0, hM0, hN1, hM1, X4, HB⟩
    try simp only [putAll, Act.put, List.setIfInBounds_toArray, List.set_cons_zero, List.set_cons_succ]
    go_wp2_with fail
    refine rg_start (S := fun w' => Box w' (w.heap.size) [.slice A0 N0 C0, .slice B0 M0 D0] 30 ∧ Box w' (w.heap.size + 1) [.slice A1 N1 C1, .slice B1 M1 D1] 30) (by kernel_rfl) ⟨P0.drew, P1.drew⟩ ?_
    replace C0' := C0'.drew
    replace E0' := E0'.drew
    replace C1' := C1'.drew
    replace E1' := E1'.drew
    replace X4 := X4.drew
    replace HB := HB.drew
    have hS := (show _ ∧ _ from ⟨P0.drew, P1.drew⟩)
    clear P0 P1
    refine rg_take 0 (some 9) (.pointer (some ⟨w.heap.size, 0, none⟩)) (by kernel_rfl) (fun _ _ => by kernel_rfl) (fun _ _ _ h => h) hS ?_
    refine rg_load 1 (some 10) (.slice A0 N0 C0) 28 9 (w.heap.size) 0 (by kernel_rfl) (by kernel_rfl) (by kernel_rfl) (fun _ hs => load_at (hs.1.cells2.1)) (fun _ _ _ h => h) hS ?_
    refine rg_take 2 (some 11) (.pointer (some ⟨w.heap.size + 1, 0, none⟩)) (by kernel_rfl) (fun _ _ => by kernel_rfl) (fun _ _ _ h => h) hS ?_
    refine rg_load 3 (some 12) (.slice A1 N1 C1) 28 11 (w.heap.size + 1) 0 (by kernel_rfl) (by kernel_rfl) (by kernel_rfl) (fun _ hs => load_at (hs.2.cells2.1)) (fun _ _ _ h => h) hS ?_
    refine rg_take 5 (some 14) (.pointer (some ⟨w.heap.size, 1, none⟩)) (by kernel_rfl) (fun _ _ => by kernel_rfl) (fun _ _ _ h => h) hS ?_
    refine rg_load 6 (some 15) (.slice B0 M0 D0) 28 14 (w.heap.size) 1 (by kernel_rfl) (by kernel_rfl) (by kernel_rfl) (fun _ hs => load_at (hs.1.cells2.2.1)) (fun _ _ _ h => h) hS ?_
    refine rg_take 7 (some 16) (.pointer (some ⟨w.heap.size + 1, 1, none⟩)) (by kernel_rfl) (fun _ _ => by kernel_rfl) (fun _ _ _ h => h) hS ?_
    refine rg_load 8 (some 17) (.slice B1 M1 D1) 28 16 (w.heap.size + 1) 1 (by kernel_rfl) (by kernel_rfl) (by kernel_rfl) (fun _ hs => load_at (hs.2.cells2.2.1)) (fun _ _ _ h => h) hS ?_
    refine rg_call 4 (some 13) 103 #[.slice A0 N0 C0, .slice A1 N1 C1] (by kernel_rfl) (by kernel_rfl) (rMul C0' C1' (by omega) (by omega)) ?_
    rintro e z1 ⟨F1, K1, H1, rfl, O1, hk1, hB⟩
    refine ⟨_, rfl, ⟨hS.1.keep hB, hS.2.keep hB⟩, ?_⟩
    replace hS := (show _ ∧ _ from ⟨hS.1.keep hB, hS.2.keep hB⟩)
    replace C0' := C0'.keep hB
    replace E0' := E0'.keep hB
    replace C1' := C1'.keep hB
    replace E1' := E1'.keep hB
    replace X4 := X4.keep hB
    replace HB := joinB HB hB
    clear hB
    refine rg_call 9 (some 18) 103 #[.slice B0 M0 D0, .slice B1 M1 D1] (by kernel_rfl) (by kernel_rfl) (rMul E0' E1' (by omega) (by omega)) ?_
    rintro e z2 ⟨F2, K2, H2, rfl, O2, hk2, hB⟩
    refine ⟨_, rfl, ⟨hS.1.keep hB, hS.2.keep hB⟩, ?_⟩
    replace hS := (show _ ∧ _ from ⟨hS.1.keep hB, hS.2.keep hB⟩)
    replace C0' := C0'.keep hB
    replace E0' := E0'.keep hB
    replace C1' := C1'.keep hB
    replace E1' := E1'.keep hB
    replace X4 := X4.keep hB
    replace O1 := O1.keep hB
    replace HB := joinB HB hB
    clear hB
    refine rg_call 10 (some 19) 96 #[.slice F1 K1 H1, .slice F2 K2 H2] (by kernel_rfl) (by kernel_rfl) (tMade O1.a O2.a (by omega) (by omega) NE.out) ?_
    rintro e z3 ⟨Ar, Kr, Dr, As', Ks, Ds, rfl, Or1, Or2, hkr, hks, hB⟩
    refine ⟨_, rfl, ⟨hS.1.keep hB, hS.2.keep hB⟩, ?_⟩
    replace hS := (show _ ∧ _ from ⟨hS.1.keep hB, hS.2.keep hB⟩)
    replace C0' := C0'.keep hB
    replace E0' := E0'.keep hB
    replace C1' := C1'.keep hB
    replace E1' := E1'.keep hB
    replace X4 := X4.keep hB
    replace O1 := O1.keep hB
    replace O2 := O2.keep hB
    replace HB := joinB HB hB
    clear hB
    refine rg_ready [11] (by kernel_rfl) (by simp) ?_
    refine ar_store 11 30 30 4 19 (w.heap.size + 1 + 1) [.slice none 0 0, .slice none 0 0] [.slice Ar Kr Dr, .slice As' Ks Ds] (by kernel_rfl) (by kernel_rfl) (by kernel_rfl) (by kernel_rfl) X4 (by kernel_rfl) rfl (by kernel_rfl) ?_ ar_nil
    intro z4 Y hw hB
    refine ⟨⟨hS.1.off (by omega) hw, hS.2.off (by omega) hw⟩, ?_⟩
    replace hS := (show _ ∧ _ from ⟨hS.1.off (by omega) hw, hS.2.off (by omega) hw⟩)
    replace HB := HB.trans (hB.mono (by omega))
    replace C0' := C0'.blk X4 (no_ints2 _ _ _ _ _ _) hw
    replace E0' := E0'.blk X4 (no_ints2 _ _ _ _ _ _) hw
    replace C1' := C1'.blk X4 (no_ints2 _ _ _ _ _ _) hw
    replace E1' := E1'.blk X4 (no_ints2 _ _ _ _ _ _) hw
    skip
    replace O1 := O1.blk X4 (no_ints2 _ _ _ _ _ _) hw
    replace O2 := O2.blk X4 (no_ints2 _ _ _ _ _ _) hw
    replace Or1 := Or1.blk X4 (no_ints2 _ _ _ _ _ _) hw
    replace Or2 := Or2.blk X4 (no_ints2 _ _ _ _ _ _) hw
    replace X4 := Y
    clear hB hw
    refine rg_done (by kernel_rfl) ?_
    try simp only [Act.put, List.setIfInBounds_toArray, List.set_cons_zero, List.set_cons_succ]
    go_wp2
    refine bodyPost_ret (ret_rat rfl rfl X4) rfl ?_
    exact ⟨_, _, _, _, _, _, rfl, pairR Or1 Or2 (red_of NP.out.1 NP.out.2) NP.out.2 NP.out.1 (by omega) (by omega), HB⟩
set_option maxHeartbeats 8000000 in
set_option maxRecDepth 100000 in
theorem tSubR {w : World} {B : Nat} {a0 b0 : Option Addr} {n0 c0 m0 d0 : Nat} {x0 y0 : Int} {a1 b1 : Option Addr} {n1 c1 m1 d1 : Nat} {x1 y1 : Int} (h0 : NatA w a0 n0 c0 x0) (e0 : NatA w b0 m0 d0 y0) (hn0 : n0 ≤ B) (hm0 : m0 ≤ B) (h1 : NatA w a1 n1 c1 x1) (e1 : NatA w b1 m1 d1 y1) (hn1 : n1 ≤ B) (hm1 : m1 ≤ B) (hge : cn x1 y1 * cd y0 ≤ cn x0 y0 * cd y1) (hb : B ≤ 10000000) :
    Calls Tryz.prog 47 #[.agg #[.slice a0 n0 c0, .slice b0 m0 d0], .agg #[.slice a1 n1 c1, .slice b1 m1 d1]] w fun e w' => ∃ a k d a' k' d', e = .returned (.tuple #[.agg #[.slice a k d, .slice a' k' d'], .int .i64 0]) ∧ QR w' a k d a' k' d' (cn x0 y0 * cd y1 - cn x1 y1 * cd y0) (cd y0 * cd y1) (32 * B + 64) ∧ Below w.heap.size w w' := by
  have u0p := cd_pos e0.nonneg
  have u1p := cd_pos e1.nonneg
  have z0p := cn_nonneg y0 h0.nonneg
  have z1p := cn_nonneg y1 h1.nonneg
  have NP : Hid (0 ≤ cn x0 y0 * cd y1 - cn x1 y1 * cd y0 ∧ 0 < cd y0 * cd y1) := ⟨Int.sub_nonneg_of_le hge, Int.mul_pos u0p u1p⟩
  have NE : Hid (cd y0 * cd y1 ≠ 0) := Int.mul_ne_zero (cd_ne _) (cd_ne _)
  clear u0p u1p z0p z1p
  have HG := (show Hid _ from hge)
  clear hge
  have HB := Below.refl w.heap.size w
  have P0 := box_new (w) [.slice a0 n0 c0, .slice b0 m0 d0] 30
  have BA := below_alloc (w) (.cells #[.slice a0 n0 c0, .slice b0 m0 d0] 30)
  replace h0 := h0.keep BA
  replace e0 := e0.keep BA
  replace h1 := h1.keep BA
  replace e1 := e1.keep BA
  replace HB := joinB HB BA
  clear BA
  have P1 := box_new ((w).alloc (.cells #[.slice a0 n0 c0, .slice b0 m0 d0] 30)) [.slice a1 n1 c1, .slice b1 m1 d1] 30
  rw [show ((w).alloc (.cells #[.slice a0 n0 c0, .slice b0 m0 d0] 30)).heap.size = w.heap.size + 1 by simp] at P1
  have BA := below_alloc ((w).alloc (.cells #[.slice a0 n0 c0, .slice b0 m0 d0] 30)) (.cells #[.slice a1 n1 c1, .slice b1 m1 d1] 30)
  replace h0 := h0.keep BA
  replace e0 := e0.keep BA
  replace h1 := h1.keep BA
  replace e1 := e1.keep BA
  replace P0 := P0.keep BA
  replace HB := joinB HB BA
  clear BA
  have X4 := box_new (((w).alloc (.cells #[.slice a0 n0 c0, .slice b0 m0 d0] 30)).alloc (.cells #[.slice a1 n1 c1, .slice b1 m1 d1] 30)) [.slice none 0 0, .slice none 0 0] 30
  rw [show (((w).alloc (.cells #[.slice a0 n0 c0, .slice b0 m0 d0] 30)).alloc (.cells #[.slice a1 n1 c1, .slice b1 m1 d1] 30)).heap.size = w.heap.size + 1 + 1 by simp] at X4
  have BA := below_alloc (((w).alloc (.cells #[.slice a0 n0 c0, .slice b0 m0 d0] 30)).alloc (.cells #[.slice a1 n1 c1, .slice b1 m1 d1] 30)) (.cells #[.slice none 0 0, .slice none 0 0] 30)
  replace h0 := h0.keep BA
  replace e0 := e0.keep BA
  replace h1 := h1.keep BA
  replace e1 := e1.keep BA
  replace P0 := P0.keep BA
  replace P1 := P1.keep BA
  replace HB := joinB HB BA
  clear BA
  go_enter Tryz.func47, Tryz.ntmps47
  go_wp2_with fail
  generalize ((w.alloc (.cells #[.slice a0 n0 c0, .slice b0 m0 d0] 30)).alloc (.cells #[.slice a1 n1 c1, .slice b1 m1 d1] 30)).alloc (.cells #[.slice none 0 0, .slice none 0 0] 30) = u0 at *
  refine rg_mid (X := Option Addr × Nat × Nat × Option Addr × Nat × Nat × Option Addr × Nat × Nat × Option Addr × Nat × Nat) (fun ⟨A0, N0, C0, B0, M0, D0, A1, N1, C1, B1, M1, D1⟩ => [(some 8, .agg #[.slice a0 n0 c0, .slice b0 m0 d0]), (some 9, .agg #[.slice A0 N0 C0, .slice B0 M0 D0]), (some 10, .agg #[.slice a1 n1 c1, .slice b1 m1 d1]), (some 11, .agg #[.slice A1 N1 C1, .slice B1 M1 D1])]) (fun ⟨A0, N0, C0, B0, M0, D0, A1, N1, C1, B1, M1, D1⟩ w' => Box w' (w.heap.size) [.slice A0 N0 C0, .slice B0 M0 D0] 30 ∧ Box w' (w.heap.size + 1) [.slice A1 N1 C1, .slice B1 M1 D1] 30 ∧ NatA w' A0 N0 C0 (cn x0 y0) ∧ NatA w' B0 M0 D0 (cd y0) ∧ NatA w' A1 N1 C1 (cn x1 y1) ∧ NatA w' B1 M1 D1 (cd y1) ∧ N0 ≤ n0 ∧ M0 ≤ m0 + 2 ∧ N1 ≤ n1 ∧ M1 ≤ m1 + 2 ∧ Box w' (w.heap.size + 1 + 1) [.slice none 0 0, .slice none 0 0] 30 ∧ Below w.heap.size w w') (fun _ => True) (by kernel_rfl) trivial ?_ ?_
  · replace h0 := h0.drew
    replace e0 := e0.drew
    replace h1 := h1.drew
    replace e1 := e1.drew
    replace P0 := P0.drew
    replace P1 := P1.drew
    replace X4 := X4.drew
    replace HB := HB.drew
    refine rg_ready [0, 2] (by kernel_rfl) (by simp) ?_
    refine ar_load 0 (some 8) (.agg #[.slice a0 n0 c0, .slice b0 m0 d0]) 30 2 (w.heap.size) 0 (by kernel_rfl) (by kernel_rfl) (by kernel_rfl) (load_rat P0) trivial ?_ ?_
    · refine rg_ready [1, 2] (by kernel_rfl) (by simp) ?_
      refine ar_call 1 (some 9) 99 #[.agg #[.slice a0 n0 c0, .slice b0 m0 d0]] (by kernel_rfl) (by kernel_rfl) (tRight h0 e0 (by omega) (by omega)) ?_ ?_
      · rintro e v2 ⟨A0, N0, C0, B0, M0, D0, rfl, C0', E0', hN0, hM0, hB⟩
        refine ⟨_, rfl, trivial, ?_⟩
        replace h0 := h0.keep hB
        replace e0 := e0.keep hB
        replace h1 := h1.keep hB
        replace e1 := e1.keep hB
        replace P0 := P0.keep hB
        replace P1 := P1.keep hB
        replace X4 := X4.keep hB
        replace HB := joinB HB hB
        clear hB
        refine rg_ready [2] (by kernel_rfl) (by simp) ?_
        refine ar_load 2 (some 10) (.agg #[.slice a1 n1 c1, .slice b1 m1 d1]) 30 3 (w.heap.size + 1) 0 (by kernel_rfl) (by kernel_rfl) (by kernel_rfl) (load_rat P1) trivial ?_ ?_
        · refine rg_ready [3] (by kernel_rfl) (by simp) ?_
          refine ar_call 3 (some 11) 99 #[.agg #[.slice a1 n1 c1, .slice b1 m1 d1]] (by kernel_rfl) (by kernel_rfl) (tRight h1 e1 (by omega) (by omega)) ?_ ?_
          · rintro e v4 ⟨A1, N1, C1, B1, M1, D1, rfl, C1', E1', hN1, hM1, hB⟩
            refine ⟨_, rfl, trivial, ?_⟩
            replace h0 := h0.keep hB
            replace e0 := e0.keep hB
            replace h1 := h1.keep hB
            replace e1 := e1.keep hB
            replace C0' := C0'.keep hB
            replace E0' := E0'.keep hB
            replace P0 := P0.keep hB
            replace P1 := P1.keep hB
            replace X4 := X4.keep hB
            replace HB := joinB HB hB
            clear hB
            refine rg_ready [4] (by kernel_rfl) (by simp) ?_
            refine ar_store 4 30 30 2 9 (w.heap.size) [.slice a0 n0 c0, .slice b0 m0 d0] [.slice A0 N0 C0, .slice B0 M0 D0] (by kernel_rfl) (by kernel_rfl) (by kernel_rfl) (by kernel_rfl) P0 (by kernel_rfl) rfl (by kernel_rfl) ?_ ?_
            · intro v5 Y hw hB
              refine ⟨trivial, ?_⟩
              replace HB := HB.trans (hB.mono (by omega))
              replace h0 := h0.blk P0 (no_ints2 _ _ _ _ _ _) hw
              replace e0 := e0.blk P0 (no_ints2 _ _ _ _ _ _) hw
              replace h1 := h1.blk P0 (no_ints2 _ _ _ _ _ _) hw
              replace e1 := e1.blk P0 (no_ints2 _ _ _ _ _ _) hw
              replace C0' := C0'.blk P0 (no_ints2 _ _ _ _ _ _) hw
              replace E0' := E0'.blk P0 (no_ints2 _ _ _ _ _ _) hw
              replace C1' := C1'.blk P0 (no_ints2 _ _ _ _ _ _) hw
              replace E1' := E1'.blk P0 (no_ints2 _ _ _ _ _ _) hw
              replace P1 := P1.off (by omega) hw
              replace X4 := X4.off (by omega) hw
              replace P0 := Y
              clear hB hw
              refine rg_ready [5] (by kernel_rfl) (by simp) ?_
              refine ar_store 5 30 30 3 11 (w.heap.size + 1) [.slice a1 n1 c1, .slice b1 m1 d1] [.slice A1 N1 C1, .slice B1 M1 D1] (by kernel_rfl) (by kernel_rfl) (by kernel_rfl) (by kernel_rfl) P1 (by kernel_rfl) rfl (by kernel_rfl) ?_ ?_
              · intro v6 Y hw hB
                refine ⟨trivial, ?_⟩
                replace HB := HB.trans (hB.mono (by omega))
                replace h0 := h0.blk P1 (no_ints2 _ _ _ _ _ _) hw
                replace e0 := e0.blk P1 (no_ints2 _ _ _ _ _ _) hw
                replace h1 := h1.blk P1 (no_ints2 _ _ _ _ _ _) hw
                replace e1 := e1.blk P1 (no_ints2 _ _ _ _ _ _) hw
                replace C0' := C0'.blk P1 (no_ints2 _ _ _ _ _ _) hw
                replace E0' := E0'.blk P1 (no_ints2 _ _ _ _ _ _) hw
                replace C1' := C1'.blk P1 (no_ints2 _ _ _ _ _ _) hw
                replace E1' := E1'.blk P1 (no_ints2 _ _ _ _ _ _) hw
                replace P0 := P0.off (by omega) hw
                replace X4 := X4.off (by omega) hw
                replace P1 := Y
                clear hB hw
                refine rg_done (by kernel_rfl) ?_
                exact ⟨(A0, N0, C0, B0, M0, D0, A1, N1, C1, B1, M1, D1), by kernel_rfl, P0, P1, C0', E0', C1', E1', hN0, hM0, hN1, hM1, X4, HB⟩
              exact ar_nil
            exact ar_nil
          exact ar_nil
        exact ar_nil
      refine ar_load 2 (some 10) (.agg #[.slice a1 n1 c1, .slice b1 m1 d1]) 30 3 (w.heap.size + 1) 0 (by kernel_rfl) (by kernel_rfl) (by kernel_rfl) (load_rat P1) trivial ?_ ?_
      · refine rg_ready [1] (by kernel_rfl) (by simp) ?_
        refine ar_call 1 (some 9) 99 #[.agg #[.slice a0 n0 c0, .slice b0 m0 d0]] (by kernel_rfl) (by kernel_rfl) (tRight h0 e0 (by omega) (by omega)) ?_ ?_
        · rintro e v8 ⟨A0, N0, C0, B0, M0, D0, rfl, C0', E0', hN0, hM0, hB⟩
          refine ⟨_, rfl, trivial, ?_⟩
          replace h0 := h0.keep hB
          replace e0 := e0.keep hB
          replace h1 := h1.keep hB
          replace e1 := e1.keep hB
          replace P0 := P0.keep hB
          replace P1 := P1.keep hB
          replace X4 := X4.keep hB
          replace HB := joinB HB hB
          clear hB
          refine rg_ready [3] (by kernel_rfl) (by simp) ?_
          refine ar_call 3 (some 11) 99 #[.agg #[.slice a1 n1 c1, .slice b1 m1 d1]] (by kernel_rfl) (by kernel_rfl) (tRight h1 e1 (by omega) (by omega)) ?_ ?_
          · rintro e v9 ⟨A1, N1, C1, B1, M1, D1, rfl, C1', E1', hN1, hM1, hB⟩
            refine ⟨_, rfl, trivial, ?_⟩
            replace h0 := h0.keep hB
            replace e0 := e0.keep hB
            replace h1 := h1.keep hB
            replace e1 := e1.keep hB
            replace C0' := C0'.keep hB
            replace E0' := E0'.keep hB
            replace P0 := P0.keep hB
            replace P1 := P1.keep hB
            replace X4 := X4.keep hB
            replace HB := joinB HB hB
            clear hB
            refine rg_ready [4] (by kernel_rfl) (by simp) ?_
            refine ar_store 4 30 30 2 9 (w.heap.size) [.slice a0 n0 c0, .slice b0 m0 d0] [.slice A0 N0 C0, .slice B0 M0 D0] (by kernel_rfl) (by kernel_rfl) (by kernel_rfl) (by kernel_rfl) P0 (by kernel_rfl) rfl (by kernel_rfl) ?_ ?_
            · intro v10 Y hw hB
              refine ⟨trivial, ?_⟩
              replace HB := HB.trans (hB.mono (by omega))
              replace h0 := h0.blk P0 (no_ints2 _ _ _ _ _ _) hw
              replace e0 := e0.blk P0 (no_ints2 _ _ _ _ _ _) hw
              replace h1 := h1.blk P0 (no_ints2 _ _ _ _ _ _) hw
              replace e1 := e1.blk P0 (no_ints2 _ _ _ _ _ _) hw
              replace C0' := C0'.blk P0 (no_ints2 _ _ _ _ _ _) hw
              replace E0' := E0'.blk P0 (no_ints2 _ _ _ _ _ _) hw
              replace C1' := C1'.blk P0 (no_ints2 _ _ _ _ _ _) hw
              replace E1' := E1'.blk P0 (no_ints2 _ _ _ _ _ _) hw
              replace P1 := P1.off (by omega) hw
              replace X4 := X4.off (by omega) hw
              replace P0 := Y
              clear hB hw
              refine rg_ready [5] (by kernel_rfl) (by simp) ?_
              refine ar_store 5 30 30 3 11 (w.heap.size + 1) [.slice a1 n1 c1, .slice b1 m1 d1] [.slice A1 N1 C1, .slice B1 M1 D1] (by kernel_rfl) (by kernel_rfl) (by kernel_rfl) (by kernel_rfl) P1 (by kernel_rfl) rfl (by kernel_rfl) ?_ ?_
              · intro v11 Y hw hB
                refine ⟨trivial, ?_⟩
                replace HB := HB.trans (hB.mono (by omega))
                replace h0 := h0.blk P1 (no_ints2 _ _ _ _ _ _) hw
                replace e0 := e0.blk P1 (no_ints2 _ _ _ _ _ _) hw
                replace h1 := h1.blk P1 (no_ints2 _ _ _ _ _ _) hw
                replace e1 := e1.blk P1 (no_ints2 _ _ _ _ _ _) hw
                replace C0' := C0'.blk P1 (no_ints2 _ _ _ _ _ _) hw
                replace E0' := E0'.blk P1 (no_ints2 _ _ _ _ _ _) hw
                replace C1' := C1'.blk P1 (no_ints2 _ _ _ _ _ _) hw
                replace E1' := E1'.blk P1 (no_ints2 _ _ _ _ _ _) hw
                replace P0 := P0.off (by omega) hw
                replace X4 := X4.off (by omega) hw
                replace P1 := Y
                clear hB hw
                refine rg_done (by kernel_rfl) ?_
                exact ⟨(A0, N0, C0, B0, M0, D0, A1, N1, C1, B1, M1, D1), by kernel_rfl, P0, P1, C0', E0', C1', E1', hN0, hM0, hN1, hM1, X4, HB⟩
              exact ar_nil
            exact ar_nil
          exact ar_nil
        exact ar_nil
      exact ar_nil
    refine ar_load 2 (some 10) (.agg #[.slice a1 n1 c1, .slice b1 m1 d1]) 30 3 (w.heap.size + 1) 0 (by kernel_rfl) (by kernel_rfl) (by kernel_rfl) (load_rat P1) trivial ?_ ?_
    · refine rg_ready [0] (by kernel_rfl) (by simp) ?_
      refine ar_load 0 (some 8) (.agg #[.slice a0 n0 c0, .slice b0 m0 d0]) 30 2 (w.heap.size) 0 (by kernel_rfl) (by kernel_rfl) (by kernel_rfl) (load_rat P0) trivial ?_ ?_
      · refine rg_ready [1] (by kernel_rfl) (by simp) ?_
        refine ar_call 1 (some 9) 99 #[.agg #[.slice a0 n0 c0, .slice b0 m0 d0]] (by kernel_rfl) (by kernel_rfl) (tRight h0 e0 (by omega) (by omega)) ?_ ?_
        · rintro e v14 ⟨A0, N0, C0, B0, M0, D0, rfl, C0', E0', hN0, hM0, hB⟩
          refine ⟨_, rfl, trivial, ?_⟩
          replace h0 := h0.keep hB
          replace e0 := e0.keep hB
          replace h1 := h1.keep hB
          replace e1 := e1.keep hB
          replace P0 := P0.keep hB
          replace P1 := P1.keep hB
          replace X4 := X4.keep hB
          replace HB := joinB HB hB
          clear hB
          refine rg_ready [3] (by kernel_rfl) (by simp) ?_
          refine ar_call 3 (some 11) 99 #[.agg #[.slice a1 n1 c1, .slice b1 m1 d1]] (by kernel_rfl) (by kernel_rfl) (tRight h1 e1 (by omega) (by omega)) ?_ ?_
          · rintro e v15 ⟨A1, N1, C1, B1, M1, D1, rfl, C1', E1', hN1, hM1, hB⟩
            refine ⟨_, rfl, trivial, ?_⟩
            replace h0 := h0.keep hB
            replace e0 := e0.keep hB
            replace h1 := h1.keep hB
            replace e1 := e1.keep hB
            replace C0' := C0'.keep hB
            replace E0' := E0'.keep hB
            replace P0 := P0.keep hB
            replace P1 := P1.keep hB
            replace X4 := X4.keep hB
            replace HB := joinB HB hB
            clear hB
            refine rg_ready [4] (by kernel_rfl) (by simp) ?_
            refine ar_store 4 30 30 2 9 (w.heap.size) [.slice a0 n0 c0, .slice b0 m0 d0] [.slice A0 N0 C0, .slice B0 M0 D0] (by kernel_rfl) (by kernel_rfl) (by kernel_rfl) (by kernel_rfl) P0 (by kernel_rfl) rfl (by kernel_rfl) ?_ ?_
            · intro v16 Y hw hB
              refine ⟨trivial, ?_⟩
              replace HB := HB.trans (hB.mono (by omega))
              replace h0 := h0.blk P0 (no_ints2 _ _ _ _ _ _) hw
              replace e0 := e0.blk P0 (no_ints2 _ _ _ _ _ _) hw
              replace h1 := h1.blk P0 (no_ints2 _ _ _ _ _ _) hw
              replace e1 := e1.blk P0 (no_ints2 _ _ _ _ _ _) hw
              replace C0' := C0'.blk P0 (no_ints2 _ _ _ _ _ _) hw
              replace E0' := E0'.blk P0 (no_ints2 _ _ _ _ _ _) hw
              replace C1' := C1'.blk P0 (no_ints2 _ _ _ _ _ _) hw
              replace E1' := E1'.blk P0 (no_ints2 _ _ _ _ _ _) hw
              replace P1 := P1.off (by omega) hw
              replace X4 := X4.off (by omega) hw
              replace P0 := Y
              clear hB hw
              refine rg_ready [5] (by kernel_rfl) (by simp) ?_
              refine ar_store 5 30 30 3 11 (w.heap.size + 1) [.slice a1 n1 c1, .slice b1 m1 d1] [.slice A1 N1 C1, .slice B1 M1 D1] (by kernel_rfl) (by kernel_rfl) (by kernel_rfl) (by kernel_rfl) P1 (by kernel_rfl) rfl (by kernel_rfl) ?_ ?_
              · intro v17 Y hw hB
                refine ⟨trivial, ?_⟩
                replace HB := HB.trans (hB.mono (by omega))
                replace h0 := h0.blk P1 (no_ints2 _ _ _ _ _ _) hw
                replace e0 := e0.blk P1 (no_ints2 _ _ _ _ _ _) hw
                replace h1 := h1.blk P1 (no_ints2 _ _ _ _ _ _) hw
                replace e1 := e1.blk P1 (no_ints2 _ _ _ _ _ _) hw
                replace C0' := C0'.blk P1 (no_ints2 _ _ _ _ _ _) hw
                replace E0' := E0'.blk P1 (no_ints2 _ _ _ _ _ _) hw
                replace C1' := C1'.blk P1 (no_ints2 _ _ _ _ _ _) hw
                replace E1' := E1'.blk P1 (no_ints2 _ _ _ _ _ _) hw
                replace P0 := P0.off (by omega) hw
                replace X4 := X4.off (by omega) hw
                replace P1 := Y
                clear hB hw
                refine rg_done (by kernel_rfl) ?_
                exact ⟨(A0, N0, C0, B0, M0, D0, A1, N1, C1, B1, M1, D1), by kernel_rfl, P0, P1, C0', E0', C1', E1', hN0, hM0, hN1, hM1, X4, HB⟩
              exact ar_nil
            exact ar_nil
          exact ar_nil
        exact ar_nil
      exact ar_nil
    exact ar_nil
  · clear h0 e0 h1 e1 P0 P1 X4 HB
    rintro ⟨A0, N0, C0, B0, M0, D0, A1, N1, C1, B1, M1, D1⟩ u1 ⟨P0, P1, C0', E0', C1', E1', hN0, hM0, hN1, hM1, X4, HB⟩
    try simp only [putAll, Act.put, List.setIfInBounds_toArray, List.set_cons_zero, List.set_cons_succ]
    go_wp2_with fail
    refine rg_start (S := fun w' => Below u1.drew.heap.size u1.drew w') (by kernel_rfl) (Below.refl _ _) ?_
    replace C0' := C0'.drew
    replace E0' := E0'.drew
    replace C1' := C1'.drew
    replace E1' := E1'.drew
    replace P0 := P0.drew
    replace P1 := P1.drew
    replace X4 := X4.drew
    replace HB := HB.drew
    have UP0 := P0
    have UP1 := P1
    have hS := Below.refl u1.drew.heap.size u1.drew
    refine rg_take 0 (some 13) (.pointer (some ⟨w.heap.size, 0, none⟩)) (by kernel_rfl) (fun _ _ => by kernel_rfl) (fun _ _ _ h => h) hS ?_
    refine rg_load 1 (some 14) (.slice A0 N0 C0) 28 13 (w.heap.size) 0 (by kernel_rfl) (by kernel_rfl) (by kernel_rfl) (fun _ hb => load_at ((UP0.keep hb).cells2.1)) (fun _ _ _ h => h) hS ?_
    refine rg_take 2 (some 15) (.pointer (some ⟨w.heap.size + 1, 1, none⟩)) (by kernel_rfl) (fun _ _ => by kernel_rfl) (fun _ _ _ h => h) hS ?_
    refine rg_load 3 (some 16) (.slice B1 M1 D1) 28 15 (w.heap.size + 1) 1 (by kernel_rfl) (by kernel_rfl) (by kernel_rfl) (fun _ hb => load_at ((UP1.keep hb).cells2.2.1)) (fun _ _ _ h => h) hS ?_
    refine rg_take 5 (some 18) (.pointer (some ⟨w.heap.size + 1, 0, none⟩)) (by kernel_rfl) (fun _ _ => by kernel_rfl) (fun _ _ _ h => h) hS ?_
    refine rg_load 6 (some 19) (.slice A1 N1 C1) 28 18 (w.heap.size + 1) 0 (by kernel_rfl) (by kernel_rfl) (by kernel_rfl) (fun _ hb => load_at ((UP1.keep hb).cells2.1)) (fun _ _ _ h => h) hS ?_
    refine rg_take 7 (some 20) (.pointer (some ⟨w.heap.size, 1, none⟩)) (by kernel_rfl) (fun _ _ => by kernel_rfl) (fun _ _ _ h => h) hS ?_
    refine rg_load 8 (some 21) (.slice B0 M0 D0) 28 20 (w.heap.size) 1 (by kernel_rfl) (by kernel_rfl) (by kernel_rfl) (fun _ hb => load_at ((UP0.keep hb).cells2.2.1)) (fun _ _ _ h => h) hS ?_
    refine rg_call 4 (some 17) 103 #[.slice A0 N0 C0, .slice B1 M1 D1] (by kernel_rfl) (by kernel_rfl) (rMul C0' E1' (by omega) (by omega)) ?_
    rintro e z1 ⟨F1, K1, H1, rfl, O1, hk1, hB⟩
    refine ⟨_, rfl, joinB hS hB, ?_⟩
    replace hS := joinB hS hB
    replace C0' := C0'.keep hB
    replace E0' := E0'.keep hB
    replace C1' := C1'.keep hB
    replace E1' := E1'.keep hB
    replace P0 := P0.keep hB
    replace P1 := P1.keep hB
    replace X4 := X4.keep hB
    replace HB := joinB HB hB
    clear hB
    refine rg_call 9 (some 22) 103 #[.slice A1 N1 C1, .slice B0 M0 D0] (by kernel_rfl) (by kernel_rfl) (rMul C1' E0' (by omega) (by omega)) ?_
    rintro e z2 ⟨F2, K2, H2, rfl, O2, hk2, hB⟩
    refine ⟨_, rfl, joinB hS hB, ?_⟩
    replace hS := joinB hS hB
    replace C0' := C0'.keep hB
    replace E0' := E0'.keep hB
    replace C1' := C1'.keep hB
    replace E1' := E1'.keep hB
    replace P0 := P0.keep hB
    replace P1 := P1.keep hB
    replace X4 := X4.keep hB
    replace O1 := O1.keep hB
    replace HB := joinB HB hB
    clear hB
    refine rg_call 10 (some 23) 102 #[.slice F1 K1 H1, .slice F2 K2 H2] (by kernel_rfl) (by kernel_rfl) (rSub O1.a O2.a (by omega) (by omega) HG.out) ?_
    rintro e z3 ⟨F3, K3, H3, rfl, O3, hk3, hB⟩
    refine ⟨_, rfl, joinB hS hB, ?_⟩
    replace hS := joinB hS hB
    replace C0' := C0'.keep hB
    replace E0' := E0'.keep hB
    replace C1' := C1'.keep hB
    replace E1' := E1'.keep hB
    replace P0 := P0.keep hB
    replace P1 := P1.keep hB
    replace X4 := X4.keep hB
    replace O1 := O1.keep hB
    replace O2 := O2.keep hB
    replace HB := joinB HB hB
    clear hB
    refine rg_take 11 (some 12) (.tuple #[.slice F3 K3 H3, .int .i64 0]) (by kernel_rfl) (fun _ _ => by kernel_rfl) (fun _ _ _ h => h) hS ?_
    refine rg_take 12 (some 24) (.slice F3 K3 H3) (by kernel_rfl) (fun _ _ => by kernel_rfl) (fun _ _ _ h => h) hS ?_
    refine rg_take 13 (some 25) (.int .i64 0) (by kernel_rfl) (fun _ _ => by kernel_rfl) (fun _ _ _ h => h) hS ?_
    refine rg_take 14 (some 6) (.slice F3 K3 H3) (by kernel_rfl) (fun _ _ => by kernel_rfl) (fun _ _ _ h => h) hS ?_
    refine rg_take 15 (some 7) (.int .i64 0) (by kernel_rfl) (fun _ _ => by kernel_rfl) (fun _ _ _ h => h) hS ?_
    refine rg_done (by kernel_rfl) ?_
    clear hS UP0 UP1
    try simp only [Act.put, List.setIfInBounds_toArray, List.set_cons_zero, List.set_cons_succ]
    obtain ⟨i1, i2, i3, i4⟩ := P0.cells2
    obtain ⟨j1, j2, j3, j4⟩ := P1.cells2
    go_wp2_with fail
    refine (rMul E0' E1' (by omega) (by omega)).mono ?_
    rintro e s1 ⟨F4, K4, H4, rfl, O4, hk4, hB⟩
    replace O3 := O3.keep hB
    replace X4 := X4.keep hB
    replace HB := joinB HB hB
    clear hB i1 i2 i3 i4 j1 j2 j3 j4 P0 P1
    go_wp2_with fail
    refine (tMade O3.a O4.a (by omega) (by omega) NE.out).mono ?_
    rintro e s2 ⟨Ar, Kr, Dr, As', Ks, Ds, rfl, Or1, Or2, hkr, hks, hB⟩
    replace X4 := X4.keep hB
    replace HB := joinB HB hB
    clear hB
    obtain ⟨i1, i2, i3, i4⟩ := X4.cells2
    have S2 := X4.put2 (.slice Ar Kr Dr) (.slice As' Ks Ds)
    have Q1 := Or1.put2 X4 (.slice Ar Kr Dr) (.slice As' Ks Ds)
    have Q2 := Or2.put2 X4 (.slice Ar Kr Dr) (.slice As' Ks Ds)
    have HB2 := below_put2 HB (g := w.heap.size + 1 + 1) (by omega) (.slice Ar Kr Dr) (.slice As' Ks Ds)
    clear X4 HB Or1 Or2
    go_wp2
    refine bodyPost_ret (ret_rat_tmp rfl rfl rfl S2) rfl ?_
    exact ⟨_, _, _, _, _, _, rfl, pairR Q1 Q2 (red_of NP.out.1 NP.out.2) NP.out.2 NP.out.1 (by omega) (by omega), HB2⟩
set_option maxHeartbeats 8000000 in
set_option maxRecDepth 100000 in
theorem tSubLtR {w : World} {B : Nat} {a0 b0 : Option Addr} {n0 c0 m0 d0 : Nat} {x0 y0 : Int} {a1 b1 : Option Addr} {n1 c1 m1 d1 : Nat} {x1 y1 : Int} (h0 : NatA w a0 n0 c0 x0) (e0 : NatA w b0 m0 d0 y0) (hn0 : n0 ≤ B) (hm0 : m0 ≤ B) (h1 : NatA w a1 n1 c1 x1) (e1 : NatA w b1 m1 d1 y1) (hn1 : n1 ≤ B) (hm1 : m1 ≤ B) (hlt : cn x0 y0 * cd y1 < cn x1 y1 * cd y0) (hb : B ≤ 10000000) :
    Calls Tryz.prog 47 #[.agg #[.slice a0 n0 c0, .slice b0 m0 d0], .agg #[.slice a1 n1 c1, .slice b1 m1 d1]] w fun e w' => e = .returned (.tuple #[.agg #[.slice none 0 0, .slice none 0 0], .int .i64 31]) ∧ Below w.heap.size w w' := by
  have HG := (show Hid _ from hlt)
  clear hlt
  have HB := Below.refl w.heap.size w
  have P0 := box_new (w) [.slice a0 n0 c0, .slice b0 m0 d0] 30
  have BA := below_alloc (w) (.cells #[.slice a0 n0 c0, .slice b0 m0 d0] 30)
  replace h0 := h0.keep BA
  replace e0 := e0.keep BA
  replace h1 := h1.keep BA
  replace e1 := e1.keep BA
  replace HB := joinB HB BA
  clear BA
  have P1 := box_new ((w).alloc (.cells #[.slice a0 n0 c0, .slice b0 m0 d0] 30)) [.slice a1 n1 c1, .slice b1 m1 d1] 30
  rw [show ((w).alloc (.cells #[.slice a0 n0 c0, .slice b0 m0 d0] 30)).heap.size = w.heap.size + 1 by simp] at P1
  have BA := below_alloc ((w).alloc (.cells #[.slice a0 n0 c0, .slice b0 m0 d0] 30)) (.cells #[.slice a1 n1 c1, .slice b1 m1 d1] 30)
  replace h0 := h0.keep BA
  replace e0 := e0.keep BA
  replace h1 := h1.keep BA
  replace e1 := e1.keep BA
  replace P0 := P0.keep BA
  replace HB := joinB HB BA
  clear BA
  have X4 := box_new (((w).alloc (.cells #[.slice a0 n0 c0, .slice b0 m0 d0] 30)).alloc (.cells #[.slice a1 n1 c1, .slice b1 m1 d1] 30)) [.slice none 0 0, .slice none 0 0] 30
  rw [show (((w).alloc (.cells #[.slice a0 n0 c0, .slice b0 m0 d0] 30)).alloc (.cells #[.slice a1 n1 c1, .slice b1 m1 d1] 30)).heap.size = w.heap.size + 1 + 1 by simp] at X4
  have BA := below_alloc (((w).alloc (.cells #[.slice a0 n0 c0, .slice b0 m0 d0] 30)).alloc (.cells #[.slice a1 n1 c1, .slice b1 m1 d1] 30)) (.cells #[.slice none 0 0, .slice none 0 0] 30)
  replace h0 := h0.keep BA
  replace e0 := e0.keep BA
  replace h1 := h1.keep BA
  replace e1 := e1.keep BA
  replace P0 := P0.keep BA
  replace P1 := P1.keep BA
  replace HB := joinB HB BA
  clear BA
  go_enter Tryz.func47, Tryz.ntmps47
  go_wp2_with fail
  generalize ((w.alloc (.cells #[.slice a0 n0 c0, .slice b0 m0 d0] 30)).alloc (.cells #[.slice a1 n1 c1, .slice b1 m1 d1] 30)).alloc (.cells #[.slice none 0 0, .slice none 0 0] 30) = u0 at *
  refine rg_mid (X := Option Addr × Nat × Nat × Option Addr × Nat × Nat × Option Addr × Nat × Nat × Option Addr × Nat × Nat) (fun ⟨A0, N0, C0, B0, M0, D0, A1, N1, C1, B1, M1, D1⟩ => [(some 8, .agg #[.slice a0 n0 c0, .slice b0 m0 d0]), (some 9, .agg #[.slice A0 N0 C0, .slice B0 M0 D0]), (some 10, .agg #[.slice a1 n1 c1, .slice b1 m1 d1]), (some 11, .agg #[.slice A1 N1 C1, .slice B1 M1 D1])]) (fun ⟨A0, N0, C0, B0, M0, D0, A1, N1, C1, B1, M1, D1⟩ w' => Box w' (w.heap.size) [.slice A0 N0 C0, .slice B0 M0 D0] 30 ∧ Box w' (w.heap.size + 1) [.slice A1 N1 C1, .slice B1 M1 D1] 30 ∧ NatA w' A0 N0 C0 (cn x0 y0) ∧ NatA w' B0 M0 D0 (cd y0) ∧ NatA w' A1 N1 C1 (cn x1 y1) ∧ NatA w' B1 M1 D1 (cd y1) ∧ N0 ≤ n0 ∧ M0 ≤ m0 + 2 ∧ N1 ≤ n1 ∧ M1 ≤ m1 + 2 ∧ Box w' (w.heap.size + 1 + 1) [.slice none 0 0, .slice none 0 0] 30 ∧ Below w.heap.size w w') (fun _ => True) (by kernel_rfl) trivial ?_ ?_
  · replace h0 := h0.drew
    replace e0 := e0.drew
    replace h1 := h1.drew
    replace e1 := e1.drew
    replace P0 := P0.drew
    replace P1 := P1.drew
    replace X4 := X4.drew
    replace HB := HB.drew
    refine rg_ready [0, 2] (by kernel_rfl) (by simp) ?_
    refine ar_load 0 (some 8) (.agg #[.slice a0 n0 c0, .slice b0 m0 d0]) 30 2 (w.heap.size) 0 (by kernel_rfl) (by kernel_rfl) (by kernel_rfl) (load_rat P0) trivial ?_ ?_
    · refine rg_ready [1, 2] (by kernel_rfl) (by simp) ?_
      refine ar_call 1 (some 9) 99 #[.agg #[.slice a0 n0 c0, .slice b0 m0 d0]] (by kernel_rfl) (by kernel_rfl) (tRight h0 e0 (by omega) (by omega)) ?_ ?_
      · rintro e v2 ⟨A0, N0, C0, B0, M0, D0, rfl, C0', E0', hN0, hM0, hB⟩
        refine ⟨_, rfl, trivial, ?_⟩
        replace h0 := h0.keep hB
        replace e0 := e0.keep hB
        replace h1 := h1.keep hB
        replace e1 := e1.keep hB
        replace P0 := P0.keep hB
        replace P1 := P1.keep hB
        replace X4 := X4.keep hB
        replace HB := joinB HB hB
        clear hB
        refine rg_ready [2] (by kernel_rfl) (by simp) ?_
        refine ar_load 2 (some 10) (.agg #[.slice a1 n1 c1, .slice b1 m1 d1]) 30 3 (w.heap.size + 1) 0 (by kernel_rfl) (by kernel_rfl) (by kernel_rfl) (load_rat P1) trivial ?_ ?_
        · refine rg_ready [3] (by kernel_rfl) (by simp) ?_
          refine ar_call 3 (some 11) 99 #[.agg #[.slice a1 n1 c1, .slice b1 m1 d1]] (by kernel_rfl) (by kernel_rfl) (tRight h1 e1 (by omega) (by omega)) ?_ ?_
          · rintro e v4 ⟨A1, N1, C1, B1, M1, D1, rfl, C1', E1', hN1, hM1, hB⟩
            refine ⟨_, rfl, trivial, ?_⟩
            replace h0 := h0.keep hB
            replace e0 := e0.keep hB
            replace h1 := h1.keep hB
            replace e1 := e1.keep hB
            replace C0' := C0'.keep hB
            replace E0' := E0'.keep hB
            replace P0 := P0.keep hB
            replace P1 := P1.keep hB
            replace X4 := X4.keep hB
            replace HB := joinB HB hB
            clear hB
            refine rg_ready [4] (by kernel_rfl) (by simp) ?_
            refine ar_store 4 30 30 2 9 (w.heap.size) [.slice a0 n0 c0, .slice b0 m0 d0] [.slice A0 N0 C0, .slice B0 M0 D0] (by kernel_rfl) (by kernel_rfl) (by kernel_rfl) (by kernel_rfl) P0 (by kernel_rfl) rfl (by kernel_rfl) ?_ ?_
            · intro v5 Y hw hB
              refine ⟨trivial, ?_⟩
              replace HB := HB.trans (hB.mono (by omega))
              replace h0 := h0.blk P0 (no_ints2 _ _ _ _ _ _) hw
              replace e0 := e0.blk P0 (no_ints2 _ _ _ _ _ _) hw
              replace h1 := h1.blk P0 (no_ints2 _ _ _ _ _ _) hw
              replace e1 := e1.blk P0 (no_ints2 _ _ _ _ _ _) hw
              replace C0' := C0'.blk P0 (no_ints2 _ _ _ _ _ _) hw
              replace E0' := E0'.blk P0 (no_ints2 _ _ _ _ _ _) hw
              replace C1' := C1'.blk P0 (no_ints2 _ _ _ _ _ _) hw
              replace E1' := E1'.blk P0 (no_ints2 _ _ _ _ _ _) hw
              replace P1 := P1.off (by omega) hw
              replace X4 := X4.off (by omega) hw
              replace P0 := Y
              clear hB hw
              refine rg_ready [5] (by kernel_rfl) (by simp) ?_
              refine ar_store 5 30 30 3 11 (w.heap.size + 1) [.slice a1 n1 c1, .slice b1 m1 d1] [.slice A1 N1 C1, .slice B1 M1 D1] (by kernel_rfl) (by kernel_rfl) (by kernel_rfl) (by kernel_rfl) P1 (by kernel_rfl) rfl (by kernel_rfl) ?_ ?_
              · intro v6 Y hw hB
                refine ⟨trivial, ?_⟩
                replace HB := HB.trans (hB.mono (by omega))
                replace h0 := h0.blk P1 (no_ints2 _ _ _ _ _ _) hw
                replace e0 := e0.blk P1 (no_ints2 _ _ _ _ _ _) hw
                replace h1 := h1.blk P1 (no_ints2 _ _ _ _ _ _) hw
                replace e1 := e1.blk P1 (no_ints2 _ _ _ _ _ _) hw
                replace C0' := C0'.blk P1 (no_ints2 _ _ _ _ _ _) hw
                replace E0' := E0'.blk P1 (no_ints2 _ _ _ _ _ _) hw
                replace C1' := C1'.blk P1 (no_ints2 _ _ _ _ _ _) hw
                replace E1' := E1'.blk P1 (no_ints2 _ _ _ _ _ _) hw
                replace P0 := P0.off (by omega) hw
                replace X4 := X4.off (by omega) hw
                replace P1 := Y
                clear hB hw
                refine rg_done (by kernel_rfl) ?_
                exact ⟨(A0, N0, C0, B0, M0, D0, A1, N1, C1, B1, M1, D1), by kernel_rfl, P0, P1, C0', E0', C1', E1', hN0, hM0, hN1, hM1, X4, HB⟩
              exact ar_nil
            exact ar_nil
          exact ar_nil
        exact ar_nil
      refine ar_load 2 (some 10) (.agg #[.slice a1 n1 c1, .slice b1 m1 d1]) 30 3 (w.heap.size + 1) 0 (by kernel_rfl) (by kernel_rfl) (by kernel_rfl) (load_rat P1) trivial ?_ ?_
      · refine rg_ready [1] (by kernel_rfl) (by simp) ?_
        refine ar_call 1 (some 9) 99 #[.agg #[.slice a0 n0 c0, .slice b0 m0 d0]] (by kernel_rfl) (by kernel_rfl) (tRight h0 e0 (by omega) (by omega)) ?_ ?_
        · rintro e v8 ⟨A0, N0, C0, B0, M0, D0, rfl, C0', E0', hN0, hM0, hB⟩
          refine ⟨_, rfl, trivial, ?_⟩
          replace h0 := h0.keep hB
          replace e0 := e0.keep hB
          replace h1 := h1.keep hB
          replace e1 := e1.keep hB
          replace P0 := P0.keep hB
          replace P1 := P1.keep hB
          replace X4 := X4.keep hB
          replace HB := joinB HB hB
          clear hB
          refine rg_ready [3] (by kernel_rfl) (by simp) ?_
          refine ar_call 3 (some 11) 99 #[.agg #[.slice a1 n1 c1, .slice b1 m1 d1]] (by kernel_rfl) (by kernel_rfl) (tRight h1 e1 (by omega) (by omega)) ?_ ?_
          · rintro e v9 ⟨A1, N1, C1, B1, M1, D1, rfl, C1', E1', hN1, hM1, hB⟩
            refine ⟨_, rfl, trivial, ?_⟩
            replace h0 := h0.keep hB
            replace e0 := e0.keep hB
            replace h1 := h1.keep hB
            replace e1 := e1.keep hB
            replace C0' := C0'.keep hB
            replace E0' := E0'.keep hB
            replace P0 := P0.keep hB
            replace P1 := P1.keep hB
            replace X4 := X4.keep hB
            replace HB := joinB HB hB
            clear hB
            refine rg_ready [4] (by kernel_rfl) (by simp) ?_
            refine ar_store 4 30 30 2 9 (w.heap.size) [.slice a0 n0 c0, .slice b0 m0 d0] [.slice A0 N0 C0, .slice B0 M0 D0] (by kernel_rfl) (by kernel_rfl) (by kernel_rfl) (by kernel_rfl) P0 (by kernel_rfl) rfl (by kernel_rfl) ?_ ?_
            · intro v10 Y hw hB
              refine ⟨trivial, ?_⟩
              replace HB := HB.trans (hB.mono (by omega))
              replace h0 := h0.blk P0 (no_ints2 _ _ _ _ _ _) hw
              replace e0 := e0.blk P0 (no_ints2 _ _ _ _ _ _) hw
              replace h1 := h1.blk P0 (no_ints2 _ _ _ _ _ _) hw
              replace e1 := e1.blk P0 (no_ints2 _ _ _ _ _ _) hw
              replace C0' := C0'.blk P0 (no_ints2 _ _ _ _ _ _) hw
              replace E0' := E0'.blk P0 (no_ints2 _ _ _ _ _ _) hw
              replace C1' := C1'.blk P0 (no_ints2 _ _ _ _ _ _) hw
              replace E1' := E1'.blk P0 (no_ints2 _ _ _ _ _ _) hw
              replace P1 := P1.off (by omega) hw
              replace X4 := X4.off (by omega) hw
              replace P0 := Y
              clear hB hw
              refine rg_ready [5] (by kernel_rfl) (by simp) ?_
              refine ar_store 5 30 30 3 11 (w.heap.size + 1) [.slice a1 n1 c1, .slice b1 m1 d1] [.slice A1 N1 C1, .slice B1 M1 D1] (by kernel_rfl) (by kernel_rfl) (by kernel_rfl) (by kernel_rfl) P1 (by kernel_rfl) rfl (by kernel_rfl) ?_ ?_
              · intro v11 Y hw hB
                refine ⟨trivial, ?_⟩
                replace HB := HB.trans (hB.mono (by omega))
                replace h0 := h0.blk P1 (no_ints2 _ _ _ _ _ _) hw
                replace e0 := e0.blk P1 (no_ints2 _ _ _ _ _ _) hw
                replace h1 := h1.blk P1 (no_ints2 _ _ _ _ _ _) hw
                replace e1 := e1.blk P1 (no_ints2 _ _ _ _ _ _) hw
                replace C0' := C0'.blk P1 (no_ints2 _ _ _ _ _ _) hw
                replace E0' := E0'.blk P1 (no_ints2 _ _ _ _ _ _) hw
                replace C1' := C1'.blk P1 (no_ints2 _ _ _ _ _ _) hw
                replace E1' := E1'.blk P1 (no_ints2 _ _ _ _ _ _) hw
                replace P0 := P0.off (by omega) hw
                replace X4 := X4.off (by omega) hw
                replace P1 := Y
                clear hB hw
                refine rg_done (by kernel_rfl) ?_
                exact ⟨(A0, N0, C0, B0, M0, D0, A1, N1, C1, B1, M1, D1), by kernel_rfl, P0, P1, C0', E0', C1', E1', hN0, hM0, hN1, hM1, X4, HB⟩
              exact ar_nil
            exact ar_nil
          exact ar_nil
        exact ar_nil
      exact ar_nil
    refine ar_load 2 (some 10) (.agg #[.slice a1 n1 c1, .slice b1 m1 d1]) 30 3 (w.heap.size + 1) 0 (by kernel_rfl) (by kernel_rfl) (by kernel_rfl) (load_rat P1) trivial ?_ ?_
    · refine rg_ready [0] (by kernel_rfl) (by simp) ?_
      refine ar_load 0 (some 8) (.agg #[.slice a0 n0 c0, .slice b0 m0 d0]) 30 2 (w.heap.size) 0 (by kernel_rfl) (by kernel_rfl) (by kernel_rfl) (load_rat P0) trivial ?_ ?_
      · refine rg_ready [1] (by kernel_rfl) (by simp) ?_
        refine ar_call 1 (some 9) 99 #[.agg #[.slice a0 n0 c0, .slice b0 m0 d0]] (by kernel_rfl) (by kernel_rfl) (tRight h0 e0 (by omega) (by omega)) ?_ ?_
        · rintro e v14 ⟨A0, N0, C0, B0, M0, D0, rfl, C0', E0', hN0, hM0, hB⟩
          refine ⟨_, rfl, trivial, ?_⟩
          replace h0 := h0.keep hB
          replace e0 := e0.keep hB
          replace h1 := h1.keep hB
          replace e1 := e1.keep hB
          replace P0 := P0.keep hB
          replace P1 := P1.keep hB
          replace X4 := X4.keep hB
          replace HB := joinB HB hB
          clear hB
          refine rg_ready [3] (by kernel_rfl) (by simp) ?_
          refine ar_call 3 (some 11) 99 #[.agg #[.slice a1 n1 c1, .slice b1 m1 d1]] (by kernel_rfl) (by kernel_rfl) (tRight h1 e1 (by omega) (by omega)) ?_ ?_
          · rintro e v15 ⟨A1, N1, C1, B1, M1, D1, rfl, C1', E1', hN1, hM1, hB⟩
            refine ⟨_, rfl, trivial, ?_⟩
            replace h0 := h0.keep hB
            replace e0 := e0.keep hB
            replace h1 := h1.keep hB
            replace e1 := e1.keep hB
            replace C0' := C0'.keep hB
            replace E0' := E0'.keep hB
            replace P0 := P0.keep hB
            replace P1 := P1.keep hB
            replace X4 := X4.keep hB
            replace HB := joinB HB hB
            clear hB
            refine rg_ready [4] (by kernel_rfl) (by simp) ?_
            refine ar_store 4 30 30 2 9 (w.heap.size) [.slice a0 n0 c0, .slice b0 m0 d0] [.slice A0 N0 C0, .slice B0 M0 D0] (by kernel_rfl) (by kernel_rfl) (by kernel_rfl) (by kernel_rfl) P0 (by kernel_rfl) rfl (by kernel_rfl) ?_ ?_
            · intro v16 Y hw hB
              refine ⟨trivial, ?_⟩
              replace HB := HB.trans (hB.mono (by omega))
              replace h0 := h0.blk P0 (no_ints2 _ _ _ _ _ _) hw
              replace e0 := e0.blk P0 (no_ints2 _ _ _ _ _ _) hw
              replace h1 := h1.blk P0 (no_ints2 _ _ _ _ _ _) hw
              replace e1 := e1.blk P0 (no_ints2 _ _ _ _ _ _) hw
              replace C0' := C0'.blk P0 (no_ints2 _ _ _ _ _ _) hw
              replace E0' := E0'.blk P0 (no_ints2 _ _ _ _ _ _) hw
              replace C1' := C1'.blk P0 (no_ints2 _ _ _ _ _ _) hw
              replace E1' := E1'.blk P0 (no_ints2 _ _ _ _ _ _) hw
              replace P1 := P1.off (by omega) hw
              replace X4 := X4.off (by omega) hw
              replace P0 := Y
              clear hB hw
              refine rg_ready [5] (by kernel_rfl) (by simp) ?_
              refine ar_store 5 30 30 3 11 (w.heap.size + 1) [.slice a1 n1 c1, .slice b1 m1 d1] [.slice A1 N1 C1, .slice B1 M1 D1] (by kernel_rfl) (by kernel_rfl) (by kernel_rfl) (by kernel_rfl) P1 (by kernel_rfl) rfl (by kernel_rfl) ?_ ?_
              · intro v17 Y hw hB
                refine ⟨trivial, ?_⟩
                replace HB := HB.trans (hB.mono (by omega))
                replace h0 := h0.blk P1 (no_ints2 _ _ _ _ _ _) hw
                replace e0 := e0.blk P1 (no_ints2 _ _ _ _ _ _) hw
                replace h1 := h1.blk P1 (no_ints2 _ _ _ _ _ _) hw
                replace e1 := e1.blk P1 (no_ints2 _ _ _ _ _ _) hw
                replace C0' := C0'.blk P1 (no_ints2 _ _ _ _ _ _) hw
                replace E0' := E0'.blk P1 (no_ints2 _ _ _ _ _ _) hw
                replace C1' := C1'.blk P1 (no_ints2 _ _ _ _ _ _) hw
                replace E1' := E1'.blk P1 (no_ints2 _ _ _ _ _ _) hw
                replace P0 := P0.off (by omega) hw
                replace X4 := X4.off (by omega) hw
                replace P1 := Y
                clear hB hw
                refine rg_done (by kernel_rfl) ?_
                exact ⟨(A0, N0, C0, B0, M0, D0, A1, N1, C1, B1, M1, D1), by kernel_rfl, P0, P1, C0', E0', C1', E1', hN0, hM0, hN1, hM1, X4, HB⟩
              exact ar_nil
            exact ar_nil
          exact ar_nil
        exact ar_nil
      exact ar_nil
    exact ar_nil
  · clear h0 e0 h1 e1 P0 P1 X4 HB
    rintro ⟨A0, N0, C0, B0, M0, D0, A1, N1, C1, B1, M1, D1⟩ u1 ⟨P0, P1, C0', E0', C1', E1', hN0, hM0, hN1, hM1, X4, HB⟩
    try simp only [putAll, Act.put, List.setIfInBounds_toArray, List.set_cons_zero, List.set_cons_succ]
    go_wp2_with fail
    refine rg_start (S := fun w' => Below u1.drew.heap.size u1.drew w') (by kernel_rfl) (Below.refl _ _) ?_
    replace C0' := C0'.drew
    replace E0' := E0'.drew
    replace C1' := C1'.drew
    replace E1' := E1'.drew
    replace P0 := P0.drew
    replace P1 := P1.drew
    replace X4 := X4.drew
    replace HB := HB.drew
    have UP0 := P0
    have UP1 := P1
    have hS := Below.refl u1.drew.heap.size u1.drew
    refine rg_take 0 (some 13) (.pointer (some ⟨w.heap.size, 0, none⟩)) (by kernel_rfl) (fun _ _ => by kernel_rfl) (fun _ _ _ h => h) hS ?_
    refine rg_load 1 (some 14) (.slice A0 N0 C0) 28 13 (w.heap.size) 0 (by kernel_rfl) (by kernel_rfl) (by kernel_rfl) (fun _ hb => load_at ((UP0.keep hb).cells2.1)) (fun _ _ _ h => h) hS ?_
    refine rg_take 2 (some 15) (.pointer (some ⟨w.heap.size + 1, 1, none⟩)) (by kernel_rfl) (fun _ _ => by kernel_rfl) (fun _ _ _ h => h) hS ?_
    refine rg_load 3 (some 16) (.slice B1 M1 D1) 28 15 (w.heap.size + 1) 1 (by kernel_rfl) (by kernel_rfl) (by kernel_rfl) (fun _ hb => load_at ((UP1.keep hb).cells2.2.1)) (fun _ _ _ h => h) hS ?_
    refine rg_take 5 (some 18) (.pointer (some ⟨w.heap.size + 1, 0, none⟩)) (by kernel_rfl) (fun _ _ => by kernel_rfl) (fun _ _ _ h => h) hS ?_
    refine rg_load 6 (some 19) (.slice A1 N1 C1) 28 18 (w.heap.size + 1) 0 (by kernel_rfl) (by kernel_rfl) (by kernel_rfl) (fun _ hb => load_at ((UP1.keep hb).cells2.1)) (fun _ _ _ h => h) hS ?_
    refine rg_take 7 (some 20) (.pointer (some ⟨w.heap.size, 1, none⟩)) (by kernel_rfl) (fun _ _ => by kernel_rfl) (fun _ _ _ h => h) hS ?_
    refine rg_load 8 (some 21) (.slice B0 M0 D0) 28 20 (w.heap.size) 1 (by kernel_rfl) (by kernel_rfl) (by kernel_rfl) (fun _ hb => load_at ((UP0.keep hb).cells2.2.1)) (fun _ _ _ h => h) hS ?_
    refine rg_call 4 (some 17) 103 #[.slice A0 N0 C0, .slice B1 M1 D1] (by kernel_rfl) (by kernel_rfl) (rMul C0' E1' (by omega) (by omega)) ?_
    rintro e z1 ⟨F1, K1, H1, rfl, O1, hk1, hB⟩
    refine ⟨_, rfl, joinB hS hB, ?_⟩
    replace hS := joinB hS hB
    replace C0' := C0'.keep hB
    replace E0' := E0'.keep hB
    replace C1' := C1'.keep hB
    replace E1' := E1'.keep hB
    replace P0 := P0.keep hB
    replace P1 := P1.keep hB
    replace X4 := X4.keep hB
    replace HB := joinB HB hB
    clear hB
    refine rg_call 9 (some 22) 103 #[.slice A1 N1 C1, .slice B0 M0 D0] (by kernel_rfl) (by kernel_rfl) (rMul C1' E0' (by omega) (by omega)) ?_
    rintro e z2 ⟨F2, K2, H2, rfl, O2, hk2, hB⟩
    refine ⟨_, rfl, joinB hS hB, ?_⟩
    replace hS := joinB hS hB
    replace C0' := C0'.keep hB
    replace E0' := E0'.keep hB
    replace C1' := C1'.keep hB
    replace E1' := E1'.keep hB
    replace P0 := P0.keep hB
    replace P1 := P1.keep hB
    replace X4 := X4.keep hB
    replace O1 := O1.keep hB
    replace HB := joinB HB hB
    clear hB
    refine rg_call 10 (some 23) 102 #[.slice F1 K1 H1, .slice F2 K2 H2] (by kernel_rfl) (by kernel_rfl) (rSubLt O1.a O2.a (by omega) (by omega) HG.out) ?_
    rintro e z3 ⟨rfl, hB⟩
    refine ⟨_, rfl, joinB hS hB, ?_⟩
    replace hS := joinB hS hB
    replace C0' := C0'.keep hB
    replace E0' := E0'.keep hB
    replace C1' := C1'.keep hB
    replace E1' := E1'.keep hB
    replace P0 := P0.keep hB
    replace P1 := P1.keep hB
    replace X4 := X4.keep hB
    replace O1 := O1.keep hB
    replace O2 := O2.keep hB
    replace HB := joinB HB hB
    clear hB
    refine rg_take 11 (some 12) (.tuple #[.slice none 0 0, .int .i64 10]) (by kernel_rfl) (fun _ _ => by kernel_rfl) (fun _ _ _ h => h) hS ?_
    refine rg_take 12 (some 24) (.slice none 0 0) (by kernel_rfl) (fun _ _ => by kernel_rfl) (fun _ _ _ h => h) hS ?_
    refine rg_take 13 (some 25) (.int .i64 10) (by kernel_rfl) (fun _ _ => by kernel_rfl) (fun _ _ _ h => h) hS ?_
    refine rg_take 14 (some 6) (.slice none 0 0) (by kernel_rfl) (fun _ _ => by kernel_rfl) (fun _ _ _ h => h) hS ?_
    refine rg_take 15 (some 7) (.int .i64 10) (by kernel_rfl) (fun _ _ => by kernel_rfl) (fun _ _ _ h => h) hS ?_
    refine rg_done (by kernel_rfl) ?_
    clear hS UP0 UP1
    try simp only [Act.put, List.setIfInBounds_toArray, List.set_cons_zero, List.set_cons_succ]
    obtain ⟨i1, i2, i3, i4⟩ := X4.cells2
    have S2 := X4.put2 (.slice none 0 0) (.slice none 0 0)
    have HB2 := below_put2 HB (g := w.heap.size + 1 + 1) (by omega) (.slice none 0 0) (.slice none 0 0)
    clear X4 HB
    go_wp2
    refine bodyPost_ret (ret_rat_tmp rfl rfl rfl S2) rfl ?_
    exact ⟨rfl, HB2⟩
set_option maxHeartbeats 4000000 in
set_option maxRecDepth 100000 in
theorem tZeroR {w : World} {B : Nat} {a0 b0 : Option Addr} {n0 c0 m0 d0 : Nat} {x0 y0 : Int} (h0 : NatA w a0 n0 c0 x0) (e0 : NatA w b0 m0 d0 y0) (hn0 : n0 ≤ B) (hm0 : m0 ≤ B) (hb : B ≤ 20000000) :
    Calls Tryz.prog 45 #[.agg #[.slice a0 n0 c0, .slice b0 m0 d0]] w fun e w' => e = .returned (.bool (decide (cn x0 y0 = 0))) ∧ Below w.heap.size w w' := by
  have HB := below_alloc w (.cells #[.slice a0 n0 c0, .slice b0 m0 d0] 30)
  have P0 := box_new w [.slice a0 n0 c0, .slice b0 m0 d0] 30
  replace h0 := h0.keep HB
  replace e0 := e0.keep HB
  obtain ⟨i1, i2, i3, i4⟩ := P0.cells2
  by_cases hz : cn x0 y0 = 0
  · rw [decide_eq_true hz]
    have HZ := (show Hid _ from hz)
    clear hz
    go_enter Tryz.func45, Tryz.ntmps45
    go_wp2_with fail
    refine (tRight h0 e0 (by omega) (by omega)).mono ?_
    rintro e w1 ⟨A, K, C, A', K', C', rfl, O1, O2, hk, hk', hB⟩
    replace HB := joinB HB hB
    clear hB i1 i2 i3 i4 P0 O2
    have hfld : ∀ w, (Instr.field 30 (.agg #[.slice A K C, .slice A' K' C']) 0).run Tryz.prog w = .ok (.slice A K C) w := fun w => by kernel_rfl
    go_wp2_with fail
    refine (rNorm O1 (by omega)).mono ?_
    rintro e w2 ⟨A2, K2, C2, rfl, O3, hk2, hB⟩
    replace HB := joinB HB hB
    obtain rfl : K2 = 0 := natO_zero (O3.eqv HZ.out)
    clear hB O3 hfld hk2 HZ
    go_wp2
    go_ret
    exact ⟨rfl, HB⟩
  · rw [decide_eq_false hz]
    have HZ := (show Hid _ from hz)
    clear hz
    go_enter Tryz.func45, Tryz.ntmps45
    go_wp2_with fail
    refine (tRight h0 e0 (by omega) (by omega)).mono ?_
    rintro e w1 ⟨A, K, C, A', K', C', rfl, O1, O2, hk, hk', hB⟩
    replace HB := joinB HB hB
    clear hB i1 i2 i3 i4 P0 O2
    have hfld : ∀ w, (Instr.field 30 (.agg #[.slice A K C, .slice A' K' C']) 0).run Tryz.prog w = .ok (.slice A K C) w := fun w => by kernel_rfl
    go_wp2_with fail
    refine (rNorm O1 (by omega)).mono ?_
    rintro e w2 ⟨A2, K2, C2, rfl, O3, hk2, hB⟩
    replace HB := joinB HB hB
    obtain ⟨j, rfl⟩ : ∃ j, K2 = j + 1 := ⟨K2 - 1, by have := natO_pos O3 HZ.out; omega⟩
    clear hB O3 hfld hk2 HZ
    go_wp2
    go_ret
    exact ⟨rfl, HB⟩
set_option maxHeartbeats 8000000 in
set_option maxRecDepth 100000 in
theorem tQuoZR {w : World} {B : Nat} {a0 b0 : Option Addr} {n0 c0 m0 d0 : Nat} {x0 y0 : Int} {a1 b1 : Option Addr} {n1 c1 m1 d1 : Nat} {x1 y1 : Int} (h0 : NatA w a0 n0 c0 x0) (e0 : NatA w b0 m0 d0 y0) (hn0 : n0 ≤ B) (hm0 : m0 ≤ B) (h1 : NatA w a1 n1 c1 x1) (e1 : NatA w b1 m1 d1 y1) (hn1 : n1 ≤ B) (hm1 : m1 ≤ B) (hz : cn x1 y1 = 0) (hb : B ≤ 10000000) :
    Calls Tryz.prog 48 #[.agg #[.slice a0 n0 c0, .slice b0 m0 d0], .agg #[.slice a1 n1 c1, .slice b1 m1 d1]] w fun e w' => e = .returned (.tuple #[.agg #[.slice none 0 0, .slice none 0 0], .int .i64 30]) ∧ Below w.heap.size w w' := by
  have hz' : cn (cn x1 y1) (cd y1) = 0 := by rw [hz]; unfold cn; split <;> rfl
  have HZ := (show Hid _ from decide_eq_true hz')
  clear hz hz'
  have HB := Below.refl w.heap.size w
  have P0 := box_new (w) [.slice a0 n0 c0, .slice b0 m0 d0] 30
  have BA := below_alloc (w) (.cells #[.slice a0 n0 c0, .slice b0 m0 d0] 30)
  replace h0 := h0.keep BA
  replace e0 := e0.keep BA
  replace h1 := h1.keep BA
  replace e1 := e1.keep BA
  replace HB := joinB HB BA
  clear BA
  have P1 := box_new ((w).alloc (.cells #[.slice a0 n0 c0, .slice b0 m0 d0] 30)) [.slice a1 n1 c1, .slice b1 m1 d1] 30
  rw [show ((w).alloc (.cells #[.slice a0 n0 c0, .slice b0 m0 d0] 30)).heap.size = w.heap.size + 1 by simp] at P1
  have BA := below_alloc ((w).alloc (.cells #[.slice a0 n0 c0, .slice b0 m0 d0] 30)) (.cells #[.slice a1 n1 c1, .slice b1 m1 d1] 30)
  replace h0 := h0.keep BA
  replace e0 := e0.keep BA
  replace h1 := h1.keep BA
  replace e1 := e1.keep BA
  replace P0 := P0.keep BA
  replace HB := joinB HB BA
  clear BA
  have X4 := box_new (((w).alloc (.cells #[.slice a0 n0 c0, .slice b0 m0 d0] 30)).alloc (.cells #[.slice a1 n1 c1, .slice b1 m1 d1] 30)) [.slice none 0 0, .slice none 0 0] 30
  rw [show (((w).alloc (.cells #[.slice a0 n0 c0, .slice b0 m0 d0] 30)).alloc (.cells #[.slice a1 n1 c1, .slice b1 m1 d1] 30)).heap.size = w.heap.size + 1 + 1 by simp] at X4
  have BA := below_alloc (((w).alloc (.cells #[.slice a0 n0 c0, .slice b0 m0 d0] 30)).alloc (.cells #[.slice a1 n1 c1, .slice b1 m1 d1] 30)) (.cells #[.slice none 0 0, .slice none 0 0] 30)
  replace h0 := h0.keep BA
  replace e0 := e0.keep BA
  replace h1 := h1.keep BA
  replace e1 := e1.keep BA
  replace P0 := P0.keep BA
  replace P1 := P1.keep BA
  replace HB := joinB HB BA
  clear BA
  go_enter Tryz.func48, Tryz.ntmps48
  go_wp2_with fail
  generalize ((w.alloc (.cells #[.slice a0 n0 c0, .slice b0 m0 d0] 30)).alloc (.cells #[.slice a1 n1 c1, .slice b1 m1 d1] 30)).alloc (.cells #[.slice none 0 0, .slice none 0 0] 30) = u0 at *
  refine rg_mid (X := Option Addr × Nat × Nat × Option Addr × Nat × Nat × Option Addr × Nat × Nat × Option Addr × Nat × Nat) (fun ⟨A0, N0, C0, B0, M0, D0, A1, N1, C1, B1, M1, D1⟩ => [(some 6, .agg #[.slice a0 n0 c0, .slice b0 m0 d0]), (some 7, .agg #[.slice A0 N0 C0, .slice B0 M0 D0]), (some 8, .agg #[.slice a1 n1 c1, .slice b1 m1 d1]), (some 9, .agg #[.slice A1 N1 C1, .slice B1 M1 D1])]) (fun ⟨A0, N0, C0, B0, M0, D0, A1, N1, C1, B1, M1, D1⟩ w' => Box w' (w.heap.size) [.slice A0 N0 C0, .slice B0 M0 D0] 30 ∧ Box w' (w.heap.size + 1) [.slice A1 N1 C1, .slice B1 M1 D1] 30 ∧ NatA w' A0 N0 C0 (cn x0 y0) ∧ NatA w' B0 M0 D0 (cd y0) ∧ NatA w' A1 N1 C1 (cn x1 y1) ∧ NatA w' B1 M1 D1 (cd y1) ∧ N0 ≤ n0 ∧ M0 ≤ m0 + 2 ∧ N1 ≤ n1 ∧ M1 ≤ m1 + 2 ∧ Box w' (w.heap.size + 1 + 1) [.slice none 0 0, .slice none 0 0] 30 ∧ Below w.heap.size w w') (fun _ => True) (by kernel_rfl) trivial ?_ ?_
  · replace h0 := h0.drew
    replace e0 := e0.drew
    replace h1 := h1.drew
    replace e1 := e1.drew
    replace P0 := P0.drew
    replace P1 := P1.drew
    replace X4 := X4.drew
    replace HB := HB.drew
    refine rg_ready [0, 2] (by kernel_rfl) (by simp) ?_
    refine ar_load 0 (some 6) (.agg #[.slice a0 n0 c0, .slice b0 m0 d0]) 30 2 (w.heap.size) 0 (by kernel_rfl) (by kernel_rfl) (by kernel_rfl) (load_rat P0) trivial ?_ ?_
    · refine rg_ready [1, 2] (by kernel_rfl) (by simp) ?_
      refine ar_call 1 (some 7) 99 #[.agg #[.slice a0 n0 c0, .slice b0 m0 d0]] (by kernel_rfl) (by kernel_rfl) (tRight h0 e0 (by omega) (by omega)) ?_ ?_
      · rintro e v2 ⟨A0, N0, C0, B0, M0, D0, rfl, C0', E0', hN0, hM0, hB⟩
        refine ⟨_, rfl, trivial, ?_⟩
        replace h0 := h0.keep hB
        replace e0 := e0.keep hB
        replace h1 := h1.keep hB
        replace e1 := e1.keep hB
        replace P0 := P0.keep hB
        replace P1 := P1.keep hB
        replace X4 := X4.keep hB
        replace HB := joinB HB hB
        clear hB
        refine rg_ready [2] (by kernel_rfl) (by simp) ?_
        refine ar_load 2 (some 8) (.agg #[.slice a1 n1 c1, .slice b1 m1 d1]) 30 3 (w.heap.size + 1) 0 (by kernel_rfl) (by kernel_rfl) (by kernel_rfl) (load_rat P1) trivial ?_ ?_
        · refine rg_ready [3] (by kernel_rfl) (by simp) ?_
          refine ar_call 3 (some 9) 99 #[.agg #[.slice a1 n1 c1, .slice b1 m1 d1]] (by kernel_rfl) (by kernel_rfl) (tRight h1 e1 (by omega) (by omega)) ?_ ?_
          · rintro e v4 ⟨A1, N1, C1, B1, M1, D1, rfl, C1', E1', hN1, hM1, hB⟩
            refine ⟨_, rfl, trivial, ?_⟩
            replace h0 := h0.keep hB
            replace e0 := e0.keep hB
            replace h1 := h1.keep hB
            replace e1 := e1.keep hB
            replace C0' := C0'.keep hB
            replace E0' := E0'.keep hB
            replace P0 := P0.keep hB
            replace P1 := P1.keep hB
            replace X4 := X4.keep hB
            replace HB := joinB HB hB
            clear hB
            refine rg_ready [4] (by kernel_rfl) (by simp) ?_
            refine ar_store 4 30 30 2 7 (w.heap.size) [.slice a0 n0 c0, .slice b0 m0 d0] [.slice A0 N0 C0, .slice B0 M0 D0] (by kernel_rfl) (by kernel_rfl) (by kernel_rfl) (by kernel_rfl) P0 (by kernel_rfl) rfl (by kernel_rfl) ?_ ?_
            · intro v5 Y hw hB
              refine ⟨trivial, ?_⟩
              replace HB := HB.trans (hB.mono (by omega))
              replace h0 := h0.blk P0 (no_ints2 _ _ _ _ _ _) hw
              replace e0 := e0.blk P0 (no_ints2 _ _ _ _ _ _) hw
              replace h1 := h1.blk P0 (no_ints2 _ _ _ _ _ _) hw
              replace e1 := e1.blk P0 (no_ints2 _ _ _ _ _ _) hw
              replace C0' := C0'.blk P0 (no_ints2 _ _ _ _ _ _) hw
              replace E0' := E0'.blk P0 (no_ints2 _ _ _ _ _ _) hw
              replace C1' := C1'.blk P0 (no_ints2 _ _ _ _ _ _) hw
              replace E1' := E1'.blk P0 (no_ints2 _ _ _ _ _ _) hw
              replace P1 := P1.off (by omega) hw
              replace X4 := X4.off (by omega) hw
              replace P0 := Y
              clear hB hw
              refine rg_ready [5] (by kernel_rfl) (by simp) ?_
              refine ar_store 5 30 30 3 9 (w.heap.size + 1) [.slice a1 n1 c1, .slice b1 m1 d1] [.slice A1 N1 C1, .slice B1 M1 D1] (by kernel_rfl) (by kernel_rfl) (by kernel_rfl) (by kernel_rfl) P1 (by kernel_rfl) rfl (by kernel_rfl) ?_ ?_
              · intro v6 Y hw hB
                refine ⟨trivial, ?_⟩
                replace HB := HB.trans (hB.mono (by omega))
                replace h0 := h0.blk P1 (no_ints2 _ _ _ _ _ _) hw
                replace e0 := e0.blk P1 (no_ints2 _ _ _ _ _ _) hw
                replace h1 := h1.blk P1 (no_ints2 _ _ _ _ _ _) hw
                replace e1 := e1.blk P1 (no_ints2 _ _ _ _ _ _) hw
                replace C0' := C0'.blk P1 (no_ints2 _ _ _ _ _ _) hw
                replace E0' := E0'.blk P1 (no_ints2 _ _ _ _ _ _) hw
                replace C1' := C1'.blk P1 (no_ints2 _ _ _ _ _ _) hw
                replace E1' := E1'.blk P1 (no_ints2 _ _ _ _ _ _) hw
                replace P0 := P0.off (by omega) hw
                replace X4 := X4.off (by omega) hw
                replace P1 := Y
                clear hB hw
                refine rg_done (by kernel_rfl) ?_
                exact ⟨(A0, N0, C0, B0, M0, D0, A1, N1, C1, B1, M1, D1), by kernel_rfl, P0, P1, C0', E0', C1', E1', hN0, hM0, hN1, hM1, X4, HB⟩
              exact ar_nil
            exact ar_nil
          exact ar_nil
        exact ar_nil
      refine ar_load 2 (some 8) (.agg #[.slice a1 n1 c1, .slice b1 m1 d1]) 30 3 (w.heap.size + 1) 0 (by kernel_rfl) (by kernel_rfl) (by kernel_rfl) (load_rat P1) trivial ?_ ?_
      · refine rg_ready [1] (by kernel_rfl) (by simp) ?_
        refine ar_call 1 (some 7) 99 #[.agg #[.slice a0 n0 c0, .slice b0 m0 d0]] (by kernel_rfl) (by kernel_rfl) (tRight h0 e0 (by omega) (by omega)) ?_ ?_
        · rintro e v8 ⟨A0, N0, C0, B0, M0, D0, rfl, C0', E0', hN0, hM0, hB⟩
          refine ⟨_, rfl, trivial, ?_⟩
          replace h0 := h0.keep hB
          replace e0 := e0.keep hB
          replace h1 := h1.keep hB
          replace e1 := e1.keep hB
          replace P0 := P0.keep hB
          replace P1 := P1.keep hB
          replace X4 := X4.keep hB
          replace HB := joinB HB hB
          clear hB
          refine rg_ready [3] (by kernel_rfl) (by simp) ?_
          refine ar_call 3 (some 9) 99 #[.agg #[.slice a1 n1 c1, .slice b1 m1 d1]] (by kernel_rfl) (by kernel_rfl) (tRight h1 e1 (by omega) (by omega)) ?_ ?_
          · rintro e v9 ⟨A1, N1, C1, B1, M1, D1, rfl, C1', E1', hN1, hM1, hB⟩
            refine ⟨_, rfl, trivial, ?_⟩
            replace h0 := h0.keep hB
            replace e0 := e0.keep hB
            replace h1 := h1.keep hB
            replace e1 := e1.keep hB
            replace C0' := C0'.keep hB
            replace E0' := E0'.keep hB
            replace P0 := P0.keep hB
            replace P1 := P1.keep hB
            replace X4 := X4.keep hB
            replace HB := joinB HB hB
            clear hB
            refine rg_ready [4] (by kernel_rfl) (by simp) ?_
            refine ar_store 4 30 30 2 7 (w.heap.size) [.slice a0 n0 c0, .slice b0 m0 d0] [.slice A0 N0 C0, .slice B0 M0 D0] (by kernel_rfl) (by kernel_rfl) (by kernel_rfl) (by kernel_rfl) P0 (by kernel_rfl) rfl (by kernel_rfl) ?_ ?_
            · intro v10 Y hw hB
              refine ⟨trivial, ?_⟩
              replace HB := HB.trans (hB.mono (by omega))
              replace h0 := h0.blk P0 (no_ints2 _ _ _ _ _ _) hw
              replace e0 := e0.blk P0 (no_ints2 _ _ _ _ _ _) hw
              replace h1 := h1.blk P0 (no_ints2 _ _ _ _ _ _) hw
              replace e1 := e1.blk P0 (no_ints2 _ _ _ _ _ _) hw
              replace C0' := C0'.blk P0 (no_ints2 _ _ _ _ _ _) hw
              replace E0' := E0'.blk P0 (no_ints2 _ _ _ _ _ _) hw
              replace C1' := C1'.blk P0 (no_ints2 _ _ _ _ _ _) hw
              replace E1' := E1'.blk P0 (no_ints2 _ _ _ _ _ _) hw
              replace P1 := P1.off (by omega) hw
              replace X4 := X4.off (by omega) hw
              replace P0 := Y
              clear hB hw
              refine rg_ready [5] (by kernel_rfl) (by simp) ?_
              refine ar_store 5 30 30 3 9 (w.heap.size + 1) [.slice a1 n1 c1, .slice b1 m1 d1] [.slice A1 N1 C1, .slice B1 M1 D1] (by kernel_rfl) (by kernel_rfl) (by kernel_rfl) (by kernel_rfl) P1 (by kernel_rfl) rfl (by kernel_rfl) ?_ ?_
              · intro v11 Y hw hB
                refine ⟨trivial, ?_⟩
                replace HB := HB.trans (hB.mono (by omega))
                replace h0 := h0.blk P1 (no_ints2 _ _ _ _ _ _) hw
                replace e0 := e0.blk P1 (no_ints2 _ _ _ _ _ _) hw
                replace h1 := h1.blk P1 (no_ints2 _ _ _ _ _ _) hw
                replace e1 := e1.blk P1 (no_ints2 _ _ _ _ _ _) hw
                replace C0' := C0'.blk P1 (no_ints2 _ _ _ _ _ _) hw
                replace E0' := E0'.blk P1 (no_ints2 _ _ _ _ _ _) hw
                replace C1' := C1'.blk P1 (no_ints2 _ _ _ _ _ _) hw
                replace E1' := E1'.blk P1 (no_ints2 _ _ _ _ _ _) hw
                replace P0 := P0.off (by omega) hw
                replace X4 := X4.off (by omega) hw
                replace P1 := Y
                clear hB hw
                refine rg_done (by kernel_rfl) ?_
                exact ⟨(A0, N0, C0, B0, M0, D0, A1, N1, C1, B1, M1, D1), by kernel_rfl, P0, P1, C0', E0', C1', E1', hN0, hM0, hN1, hM1, X4, HB⟩
              exact ar_nil
            exact ar_nil
          exact ar_nil
        exact ar_nil
      exact ar_nil
    refine ar_load 2 (some 8) (.agg #[.slice a1 n1 c1, .slice b1 m1 d1]) 30 3 (w.heap.size + 1) 0 (by kernel_rfl) (by kernel_rfl) (by kernel_rfl) (load_rat P1) trivial ?_ ?_
    · refine rg_ready [0] (by kernel_rfl) (by simp) ?_
      refine ar_load 0 (some 6) (.agg #[.slice a0 n0 c0, .slice b0 m0 d0]) 30 2 (w.heap.size) 0 (by kernel_rfl) (by kernel_rfl) (by kernel_rfl) (load_rat P0) trivial ?_ ?_
      · refine rg_ready [1] (by kernel_rfl) (by simp) ?_
        refine ar_call 1 (some 7) 99 #[.agg #[.slice a0 n0 c0, .slice b0 m0 d0]] (by kernel_rfl) (by kernel_rfl) (tRight h0 e0 (by omega) (by omega)) ?_ ?_
        · rintro e v14 ⟨A0, N0, C0, B0, M0, D0, rfl, C0', E0', hN0, hM0, hB⟩
          refine ⟨_, rfl, trivial, ?_⟩
          replace h0 := h0.keep hB
          replace e0 := e0.keep hB
          replace h1 := h1.keep hB
          replace e1 := e1.keep hB
          replace P0 := P0.keep hB
          replace P1 := P1.keep hB
          replace X4 := X4.keep hB
          replace HB := joinB HB hB
          clear hB
          refine rg_ready [3] (by kernel_rfl) (by simp) ?_
          refine ar_call 3 (some 9) 99 #[.agg #[.slice a1 n1 c1, .slice b1 m1 d1]] (by kernel_rfl) (by kernel_rfl) (tRight h1 e1 (by omega) (by omega)) ?_ ?_
          · rintro e v15 ⟨A1, N1, C1, B1, M1, D1, rfl, C1', E1', hN1, hM1, hB⟩
            refine ⟨_, rfl, trivial, ?_⟩
            replace h0 := h0.keep hB
            replace e0 := e0.keep hB
            replace h1 := h1.keep hB
            replace e1 := e1.keep hB
            replace C0' := C0'.keep hB
            replace E0' := E0'.keep hB
            replace P0 := P0.keep hB
            replace P1 := P1.keep hB
            replace X4 := X4.keep hB
            replace HB := joinB HB hB
            clear hB
            refine rg_ready [4] (by kernel_rfl) (by simp) ?_
            refine ar_store 4 30 30 2 7 (w.heap.size) [.slice a0 n0 c0, .slice b0 m0 d0] [.slice A0 N0 C0, .slice B0 M0 D0] (by kernel_rfl) (by kernel_rfl) (by kernel_rfl) (by kernel_rfl) P0 (by kernel_rfl) rfl (by kernel_rfl) ?_ ?_
            · intro v16 Y hw hB
              refine ⟨trivial, ?_⟩
              replace HB := HB.trans (hB.mono (by omega))
              replace h0 := h0.blk P0 (no_ints2 _ _ _ _ _ _) hw
              replace e0 := e0.blk P0 (no_ints2 _ _ _ _ _ _) hw
              replace h1 := h1.blk P0 (no_ints2 _ _ _ _ _ _) hw
              replace e1 := e1.blk P0 (no_ints2 _ _ _ _ _ _) hw
              replace C0' := C0'.blk P0 (no_ints2 _ _ _ _ _ _) hw
              replace E0' := E0'.blk P0 (no_ints2 _ _ _ _ _ _) hw
              replace C1' := C1'.blk P0 (no_ints2 _ _ _ _ _ _) hw
              replace E1' := E1'.blk P0 (no_ints2 _ _ _ _ _ _) hw
              replace P1 := P1.off (by omega) hw
              replace X4 := X4.off (by omega) hw
              replace P0 := Y
              clear hB hw
              refine rg_ready [5] (by kernel_rfl) (by simp) ?_
              refine ar_store 5 30 30 3 9 (w.heap.size + 1) [.slice a1 n1 c1, .slice b1 m1 d1] [.slice A1 N1 C1, .slice B1 M1 D1] (by kernel_rfl) (by kernel_rfl) (by kernel_rfl) (by kernel_rfl) P1 (by kernel_rfl) rfl (by kernel_rfl) ?_ ?_
              · intro v17 Y hw hB
                refine ⟨trivial, ?_⟩
                replace HB := HB.trans (hB.mono (by omega))
                replace h0 := h0.blk P1 (no_ints2 _ _ _ _ _ _) hw
                replace e0 := e0.blk P1 (no_ints2 _ _ _ _ _ _) hw
                replace h1 := h1.blk P1 (no_ints2 _ _ _ _ _ _) hw
                replace e1 := e1.blk P1 (no_ints2 _ _ _ _ _ _) hw
                replace C0' := C0'.blk P1 (no_ints2 _ _ _ _ _ _) hw
                replace E0' := E0'.blk P1 (no_ints2 _ _ _ _ _ _) hw
                replace C1' := C1'.blk P1 (no_ints2 _ _ _ _ _ _) hw
                replace E1' := E1'.blk P1 (no_ints2 _ _ _ _ _ _) hw
                replace P0 := P0.off (by omega) hw
                replace X4 := X4.off (by omega) hw
                replace P1 := Y
                clear hB hw
                refine rg_done (by kernel_rfl) ?_
                exact ⟨(A0, N0, C0, B0, M0, D0, A1, N1, C1, B1, M1, D1), by kernel_rfl, P0, P1, C0', E0', C1', E1', hN0, hM0, hN1, hM1, X4, HB⟩
              exact ar_nil
            exact ar_nil
          exact ar_nil
        exact ar_nil
      exact ar_nil
    exact ar_nil
  · clear h0 e0 h1 e1 P0 P1 X4 HB
    rintro ⟨A0, N0, C0, B0, M0, D0, A1, N1, C1, B1, M1, D1⟩ u1 ⟨P0, P1, C0', E0', C1', E1', hN0, hM0, hN1, hM1, X4, HB⟩
    try simp only [putAll, Act.put, List.setIfInBounds_toArray, List.set_cons_zero, List.set_cons_succ]
    obtain ⟨j1, j2, j3, j4⟩ := P1.cells2
    have tz := tZeroR (B := B + 2) C1' E1' (by omega) (by omega) (by omega)
    rw [HZ.out] at tz
    go_wp2_with fail
    refine tz.mono ?_
    rintro e s1 ⟨rfl, hB⟩
    replace X4 := X4.keep hB
    replace HB := joinB HB hB
    clear hB tz P0 P1 j1 j2 j3 j4
    obtain ⟨i1, i2, i3, i4⟩ := X4.cells2
    have S2 := X4.put2 (.slice none 0 0) (.slice none 0 0)
    have HB2 := below_put2 HB (g := w.heap.size + 1 + 1) (by omega) (.slice none 0 0) (.slice none 0 0)
    clear X4 HB
    go_wp2
    refine bodyPost_ret (ret_rat_tmp rfl rfl rfl S2) rfl ?_
    exact ⟨rfl, HB2⟩
set_option maxHeartbeats 8000000 in
set_option maxRecDepth 100000 in
theorem tQuoR {w : World} {B : Nat} {a0 b0 : Option Addr} {n0 c0 m0 d0 : Nat} {x0 y0 : Int} {a1 b1 : Option Addr} {n1 c1 m1 d1 : Nat} {x1 y1 : Int} (h0 : NatA w a0 n0 c0 x0) (e0 : NatA w b0 m0 d0 y0) (hn0 : n0 ≤ B) (hm0 : m0 ≤ B) (h1 : NatA w a1 n1 c1 x1) (e1 : NatA w b1 m1 d1 y1) (hn1 : n1 ≤ B) (hm1 : m1 ≤ B) (hz : cn x1 y1 ≠ 0) (hb : B ≤ 10000000) :
    Calls Tryz.prog 48 #[.agg #[.slice a0 n0 c0, .slice b0 m0 d0], .agg #[.slice a1 n1 c1, .slice b1 m1 d1]] w fun e w' => ∃ a k d a' k' d', e = .returned (.tuple #[.agg #[.slice a k d, .slice a' k' d'], .int .i64 0]) ∧ QR w' a k d a' k' d' (cn x0 y0 * cd y1) (cd y0 * cn x1 y1) (32 * B + 64) ∧ Below w.heap.size w w' := by
  have u0p := cd_pos e0.nonneg
  have u1p := cd_pos e1.nonneg
  have z0p := cn_nonneg y0 h0.nonneg
  have z1p := cn_nonneg y1 h1.nonneg
  have z1q : 0 < cn x1 y1 := by omega
  have NP : Hid (0 ≤ cn x0 y0 * cd y1 ∧ 0 < cd y0 * cn x1 y1) := ⟨Int.mul_nonneg z0p (Int.le_of_lt u1p), Int.mul_pos u0p z1q⟩
  have NE : Hid (cd y0 * cn x1 y1 ≠ 0) := Int.mul_ne_zero (cd_ne _) hz
  have hz' : cn (cn x1 y1) (cd y1) ≠ 0 := by rw [cn_pos u1p]; exact hz
  have HZ := (show Hid _ from decide_eq_false hz')
  clear hz hz' u0p u1p z0p z1p z1q
  have HB := Below.refl w.heap.size w
  have P0 := box_new (w) [.slice a0 n0 c0, .slice b0 m0 d0] 30
  have BA := below_alloc (w) (.cells #[.slice a0 n0 c0, .slice b0 m0 d0] 30)
  replace h0 := h0.keep BA
  replace e0 := e0.keep BA
  replace h1 := h1.keep BA
  replace e1 := e1.keep BA
  replace HB := joinB HB BA
  clear BA
  have P1 := box_new ((w).alloc (.cells #[.slice a0 n0 c0, .slice b0 m0 d0] 30)) [.slice a1 n1 c1, .slice b1 m1 d1] 30
  rw [show ((w).alloc (.cells #[.slice a0 n0 c0, .slice b0 m0 d0] 30)).heap.size = w.heap.size + 1 by simp] at P1
  have BA := below_alloc ((w).alloc (.cells #[.slice a0 n0 c0, .slice b0 m0 d0] 30)) (.cells #[.slice a1 n1 c1, .slice b1 m1 d1] 30)
  replace h0 := h0.keep BA
  replace e0 := e0.keep BA
  replace h1 := h1.keep BA
  replace e1 := e1.keep BA
  replace P0 := P0.keep BA
  replace HB := joinB HB BA
  clear BA
  have X4 := box_new (((w).alloc (.cells #[.slice a0 n0 c0, .slice b0 m0 d0] 30)).alloc (.cells #[.slice a1 n1 c1, .slice b1 m1 d1] 30)) [.slice none 0 0, .slice none 0 0] 30
  rw [show (((w).alloc (.cells #[.slice a0 n0 c0, .slice b0 m0 d0] 30)).alloc (.cells #[.slice a1 n1 c1, .slice b1 m1 d1] 30)).heap.size = w.heap.size + 1 + 1 by simp] at X4
  have BA := below_alloc (((w).alloc (.cells #[.slice a0 n0 c0, .slice b0 m0 d0] 30)).alloc (.cells #[.slice a1 n1 c1, .slice b1 m1 d1] 30)) (.cells #[.slice none 0 0, .slice none 0 0] 30)
  replace h0 := h0.keep BA
  replace e0 := e0.keep BA
  replace h1 := h1.keep BA
  replace e1 := e1.keep BA
  replace P0 := P0.keep BA
  replace P1 := P1.keep BA
  replace HB := joinB HB BA
  clear BA
  go_enter Tryz.func48, Tryz.ntmps48
  go_wp2_with fail
  generalize ((w.alloc (.cells #[.slice a0 n0 c0, .slice b0 m0 d0] 30)).alloc (.cells #[.slice a1 n1 c1, .slice b1 m1 d1] 30)).alloc (.cells #[.slice none 0 0, .slice none 0 0] 30) = u0 at *
  refine rg_mid (X := Option Addr × Nat × Nat × Option Addr × Nat × Nat × Option Addr × Nat × Nat × Option Addr × Nat × Nat) (fun ⟨A0, N0, C0, B0, M0, D0, A1, N1, C1, B1, M1, D1⟩ => [(some 6, .agg #[.slice a0 n0 c0, .slice b0 m0 d0]), (some 7, .agg #[.slice A0 N0 C0, .slice B0 M0 D0]), (some 8, .agg #[.slice a1 n1 c1, .slice b1 m1 d1]), (some 9, .agg #[.slice A1 N1 C1, .slice B1 M1 D1])]) (fun ⟨A0, N0, C0, B0, M0, D0, A1, N1, C1, B1, M1, D1⟩ w' => Box w' (w.heap.size) [.slice A0 N0 C0, .slice B0 M0 D0] 30 ∧ Box w' (w.heap.size + 1) [.slice A1 N1 C1, .slice B1 M1 D1] 30 ∧ NatA w' A0 N0 C0 (cn x0 y0) ∧ NatA w' B0 M0 D0 (cd y0) ∧ NatA w' A1 N1 C1 (cn x1 y1) ∧ NatA w' B1 M1 D1 (cd y1) ∧ N0 ≤ n0 ∧ M0 ≤ m0 + 2 ∧ N1 ≤ n1 ∧ M1 ≤ m1 + 2 ∧ Box w' (w.heap.size + 1 + 1) [.slice none 0 0, .slice none 0 0] 30 ∧ Below w.heap.size w w') (fun _ => True) (by kernel_rfl) trivial ?_ ?_
  · replace h0 := h0.drew
    replace e0 := e0.drew
    replace h1 := h1.drew
    replace e1 := e1.drew
    replace P0 := P0.drew
    replace P1 := P1.drew
    replace X4 := X4.drew
    replace HB := HB.drew
    refine rg_ready [0, 2] (by kernel_rfl) (by simp) ?_
    refine ar_load 0 (some 6) (.agg #[.slice a0 n0 c0, .slice b0 m0 d0]) 30 2 (w.heap.size) 0 (by kernel_rfl) (by kernel_rfl) (by kernel_rfl) (load_rat P0) trivial ?_ ?_
    · refine rg_ready [1, 2] (by kernel_rfl) (by simp) ?_
      refine ar_call 1 (some 7) 99 #[.agg #[.slice a0 n0 c0, .slice b0 m0 d0]] (by kernel_rfl) (by kernel_rfl) (tRight h0 e0 (by omega) (by omega)) ?_ ?_
      · rintro e v2 ⟨A0, N0, C0, B0, M0, D0, rfl, C0', E0', hN0, hM0, hB⟩
        refine ⟨_, rfl, trivial, ?_⟩
        replace h0 := h0.keep hB
        replace e0 := e0.keep hB
        replace h1 := h1.keep hB
        replace e1 := e1.keep hB
        replace P0 := P0.keep hB
        replace P1 := P1.keep hB
        replace X4 := X4.keep hB
        replace HB := joinB HB hB
        clear hB
        refine rg_ready [2] (by kernel_rfl) (by simp) ?_
        refine ar_load 2 (some 8) (.agg #[.slice a1 n1 c1, .slice b1 m1 d1]) 30 3 (w.heap.size + 1) 0 (by kernel_rfl) (by kernel_rfl) (by kernel_rfl) (load_rat P1) trivial ?_ ?_
        · refine rg_ready [3] (by kernel_rfl) (by simp) ?_
          refine ar_call 3 (some 9) 99 #[.agg #[.slice a1 n1 c1, .slice b1 m1 d1]] (by kernel_rfl) (by kernel_rfl) (tRight h1 e1 (by omega) (by omega)) ?_ ?_
          · rintro e v4 ⟨A1, N1, C1, B1, M1, D1, rfl, C1', E1', hN1, hM1, hB⟩
            refine ⟨_, rfl, trivial, ?_⟩
            replace h0 := h0.keep hB
            replace e0 := e0.keep hB
            replace h1 := h1.keep hB
            replace e1 := e1.keep hB
            replace C0' := C0'.keep hB
            replace E0' := E0'.keep hB
            replace P0 := P0.keep hB
            replace P1 := P1.keep hB
            replace X4 := X4.keep hB
            replace HB := joinB HB hB
            clear hB
            refine rg_ready [4] (by kernel_rfl) (by simp) ?_
            refine ar_store 4 30 30 2 7 (w.heap.size) [.slice a0 n0 c0, .slice b0 m0 d0] [.slice A0 N0 C0, .slice B0 M0 D0] (by kernel_rfl) (by kernel_rfl) (by kernel_rfl) (by kernel_rfl) P0 (by kernel_rfl) rfl (by kernel_rfl) ?_ ?_
            · intro v5 Y hw hB
              refine ⟨trivial, ?_⟩
              replace HB := HB.trans (hB.mono (by omega))
              replace h0 := h0.blk P0 (no_ints2 _ _ _ _ _ _) hw
              replace e0 := e0.blk P0 (no_ints2 _ _ _ _ _ _) hw
              replace h1 := h1.blk P0 (no_ints2 _ _ _ _ _ _) hw
              replace e1 := e1.blk P0 (no_ints2 _ _ _ _ _ _) hw
              replace C0' := C0'.blk P0 (no_ints2 _ _ _ _ _ _) hw
              replace E0' := E0'.blk P0 (no_ints2 _ _ _ _ _ _) hw
              replace C1' := C1'.blk P0 (no_ints2 _ _ _ _ _ _) hw
              replace E1' := E1'.blk P0 (no_ints2 _ _ _ _ _ _) hw
              replace P1 := P1.off (by omega) hw
              replace X4 := X4.off (by omega) hw
              replace P0 := Y
              clear hB hw
              refine rg_ready [5] (by kernel_rfl) (by simp) ?_
              refine ar_store 5 30 30 3 9 (w.heap.size + 1) [.slice a1 n1 c1, .slice b1 m1 d1] [.slice A1 N1 C1, .slice B1 M1 D1] (by kernel_rfl) (by kernel_rfl) (by kernel_rfl) (by kernel_rfl) P1 (by kernel_rfl) rfl (by kernel_rfl) ?_ ?_
              · intro v6 Y hw hB
                refine ⟨trivial, ?_⟩
                replace HB := HB.trans (hB.mono (by omega))
                replace h0 := h0.blk P1 (no_ints2 _ _ _ _ _ _) hw
                replace e0 := e0.blk P1 (no_ints2 _ _ _ _ _ _) hw
                replace h1 := h1.blk P1 (no_ints2 _ _ _ _ _ _) hw
                replace e1 := e1.blk P1 (no_ints2 _ _ _ _ _ _) hw
                replace C0' := C0'.blk P1 (no_ints2 _ _ _ _ _ _) hw
                replace E0' := E0'.blk P1 (no_ints2 _ _ _ _ _ _) hw
                replace C1' := C1'.blk P1 (no_ints2 _ _ _ _ _ _) hw
                replace E1' := E1'.blk P1 (no_ints2 _ _ _ _ _ _) hw
                replace P0 := P0.off (by omega) hw
                replace X4 := X4.off (by omega) hw
                replace P1 := Y
                clear hB hw
                refine rg_done (by kernel_rfl) ?_
                exact ⟨(A0, N0, C0, B0, M0, D0, A1, N1, C1, B1, M1, D1), by kernel_rfl, P0, P1, C0', E0', C1', E1', hN0, hM0, hN1, hM1, X4, HB⟩
              exact ar_nil
            exact ar_nil
          exact ar_nil
        exact ar_nil
      refine ar_load 2 (some 8) (.agg #[.slice a1 n1 c1, .slice b1 m1 d1]) 30 3 (w.heap.size + 1) 0 (by kernel_rfl) (by kernel_rfl) (by kernel_rfl) (load_rat P1) trivial ?_ ?_
      · refine rg_ready [1] (by kernel_rfl) (by simp) ?_
        refine ar_call 1 (some 7) 99 #[.agg #[.slice a0 n0 c0, .slice b0 m0 d0]] (by kernel_rfl) (by kernel_rfl) (tRight h0 e0 (by omega) (by omega)) ?_ ?_
        · rintro e v8 ⟨A0, N0, C0, B0, M0, D0, rfl, C0', E0', hN0, hM0, hB⟩
          refine ⟨_, rfl, trivial, ?_⟩
          replace h0 := h0.keep hB
          replace e0 := e0.keep hB
          replace h1 := h1.keep hB
          replace e1 := e1.keep hB
          replace P0 := P0.keep hB
          replace P1 := P1.keep hB
          replace X4 := X4.keep hB
          replace HB := joinB HB hB
          clear hB
          refine rg_ready [3] (by kernel_rfl) (by simp) ?_
          refine ar_call 3 (some 9) 99 #[.agg #[.slice a1 n1 c1, .slice b1 m1 d1]] (by kernel_rfl) (by kernel_rfl) (tRight h1 e1 (by omega) (by omega)) ?_ ?_
          · rintro e v9 ⟨A1, N1, C1, B1, M1, D1, rfl, C1', E1', hN1, hM1, hB⟩
            refine ⟨_, rfl, trivial, ?_⟩
            replace h0 := h0.keep hB
            replace e0 := e0.keep hB
            replace h1 := h1.keep hB
            replace e1 := e1.keep hB
            replace C0' := C0'.keep hB
            replace E0' := E0'.keep hB
            replace P0 := P0.keep hB
            replace P1 := P1.keep hB
            replace X4 := X4.keep hB
            replace HB := joinB HB hB
            clear hB
            refine rg_ready [4] (by kernel_rfl) (by simp) ?_
            refine ar_store 4 30 30 2 7 (w.heap.size) [.slice a0 n0 c0, .slice b0 m0 d0] [.slice A0 N0 C0, .slice B0 M0 D0] (by kernel_rfl) (by kernel_rfl) (by kernel_rfl) (by kernel_rfl) P0 (by kernel_rfl) rfl (by kernel_rfl) ?_ ?_
            · intro v10 Y hw hB
              refine ⟨trivial, ?_⟩
              replace HB := HB.trans (hB.mono (by omega))
              replace h0 := h0.blk P0 (no_ints2 _ _ _ _ _ _) hw
              replace e0 := e0.blk P0 (no_ints2 _ _ _ _ _ _) hw
              replace h1 := h1.blk P0 (no_ints2 _ _ _ _ _ _) hw
              replace e1 := e1.blk P0 (no_ints2 _ _ _ _ _ _) hw
              replace C0' := C0'.blk P0 (no_ints2 _ _ _ _ _ _) hw
              replace E0' := E0'.blk P0 (no_ints2 _ _ _ _ _ _) hw
              replace C1' := C1'.blk P0 (no_ints2 _ _ _ _ _ _) hw
              replace E1' := E1'.blk P0 (no_ints2 _ _ _ _ _ _) hw
              replace P1 := P1.off (by omega) hw
              replace X4 := X4.off (by omega) hw
              replace P0 := Y
              clear hB hw
              refine rg_ready [5] (by kernel_rfl) (by simp) ?_
              refine ar_store 5 30 30 3 9 (w.heap.size + 1) [.slice a1 n1 c1, .slice b1 m1 d1] [.slice A1 N1 C1, .slice B1 M1 D1] (by kernel_rfl) (by kernel_rfl) (by kernel_rfl) (by kernel_rfl) P1 (by kernel_rfl) rfl (by kernel_rfl) ?_ ?_
              · intro v11 Y hw hB
                refine ⟨trivial, ?_⟩
                replace HB := HB.trans (hB.mono (by omega))
                replace h0 := h0.blk P1 (no_ints2 _ _ _ _ _ _) hw
                replace e0 := e0.blk P1 (no_ints2 _ _ _ _ _ _) hw
                replace h1 := h1.blk P1 (no_ints2 _ _ _ _ _ _) hw
                replace e1 := e1.blk P1 (no_ints2 _ _ _ _ _ _) hw
                replace C0' := C0'.blk P1 (no_ints2 _ _ _ _ _ _) hw
                replace E0' := E0'.blk P1 (no_ints2 _ _ _ _ _ _) hw
                replace C1' := C1'.blk P1 (no_ints2 _ _ _ _ _ _) hw
                replace E1' := E1'.blk P1 (no_ints2 _ _ _ _ _ _) hw
                replace P0 := P0.off (by omega) hw
                replace X4 := X4.off (by omega) hw
                replace P1 := Y
                clear hB hw
                refine rg_done (by kernel_rfl) ?_
                exact ⟨(A0, N0, C0, B0, M0, D0, A1, N1, C1, B1, M1, D1), by kernel_rfl, P0, P1, C0', E0', C1', E1', hN0, hM0, hN1, hM1, X4, HB⟩
              exact ar_nil
            exact ar_nil
          exact ar_nil
        exact ar_nil
      exact ar_nil
    refine ar_load 2 (some 8) (.agg #[.slice a1 n1 c1, .slice b1 m1 d1]) 30 3 (w.heap.size + 1) 0 (by kernel_rfl) (by kernel_rfl) (by kernel_rfl) (load_rat P1) trivial ?_ ?_
    · refine rg_ready [0] (by kernel_rfl) (by simp) ?_
      refine ar_load 0 (some 6) (.agg #[.slice a0 n0 c0, .slice b0 m0 d0]) 30 2 (w.heap.size) 0 (by kernel_rfl) (by kernel_rfl) (by kernel_rfl) (load_rat P0) trivial ?_ ?_
      · refine rg_ready [1] (by kernel_rfl) (by simp) ?_
        refine ar_call 1 (some 7) 99 #[.agg #[.slice a0 n0 c0, .slice b0 m0 d0]] (by kernel_rfl) (by kernel_rfl) (tRight h0 e0 (by omega) (by omega)) ?_ ?_
        · rintro e v14 ⟨A0, N0, C0, B0, M0, D0, rfl, C0', E0', hN0, hM0, hB⟩
          refine ⟨_, rfl, trivial, ?_⟩
          replace h0 := h0.keep hB
          replace e0 := e0.keep hB
          replace h1 := h1.keep hB
          replace e1 := e1.keep hB
          replace P0 := P0.keep hB
          replace P1 := P1.keep hB
          replace X4 := X4.keep hB
          replace HB := joinB HB hB
          clear hB
          refine rg_ready [3] (by kernel_rfl) (by simp) ?_
          refine ar_call 3 (some 9) 99 #[.agg #[.slice a1 n1 c1, .slice b1 m1 d1]] (by kernel_rfl) (by kernel_rfl) (tRight h1 e1 (by omega) (by omega)) ?_ ?_
          · rintro e v15 ⟨A1, N1, C1, B1, M1, D1, rfl, C1', E1', hN1, hM1, hB⟩
            refine ⟨_, rfl, trivial, ?_⟩
            replace h0 := h0.keep hB
            replace e0 := e0.keep hB
            replace h1 := h1.keep hB
            replace e1 := e1.keep hB
            replace C0' := C0'.keep hB
            replace E0' := E0'.keep hB
            replace P0 := P0.keep hB
            replace P1 := P1.keep hB
            replace X4 := X4.keep hB
            replace HB := joinB HB hB
            clear hB
            refine rg_ready [4] (by kernel_rfl) (by simp) ?_
            refine ar_store 4 30 30 2 7 (w.heap.size) [.slice a0 n0 c0, .slice b0 m0 d0] [.slice A0 N0 C0, .slice B0 M0 D0] (by kernel_rfl) (by kernel_rfl) (by kernel_rfl) (by kernel_rfl) P0 (by kernel_rfl) rfl (by kernel_rfl) ?_ ?_
            · intro v16 Y hw hB
              refine ⟨trivial, ?_⟩
              replace HB := HB.trans (hB.mono (by omega))
              replace h0 := h0.blk P0 (no_ints2 _ _ _ _ _ _) hw
              replace e0 := e0.blk P0 (no_ints2 _ _ _ _ _ _) hw
              replace h1 := h1.blk P0 (no_ints2 _ _ _ _ _ _) hw
              replace e1 := e1.blk P0 (no_ints2 _ _ _ _ _ _) hw
              replace C0' := C0'.blk P0 (no_ints2 _ _ _ _ _ _) hw
              replace E0' := E0'.blk P0 (no_ints2 _ _ _ _ _ _) hw
              replace C1' := C1'.blk P0 (no_ints2 _ _ _ _ _ _) hw
              replace E1' := E1'.blk P0 (no_ints2 _ _ _ _ _ _) hw
              replace P1 := P1.off (by omega) hw
              replace X4 := X4.off (by omega) hw
              replace P0 := Y
              clear hB hw
              refine rg_ready [5] (by kernel_rfl) (by simp) ?_
              refine ar_store 5 30 30 3 9 (w.heap.size + 1) [.slice a1 n1 c1, .slice b1 m1 d1] [.slice A1 N1 C1, .slice B1 M1 D1] (by kernel_rfl) (by kernel_rfl) (by kernel_rfl) (by kernel_rfl) P1 (by kernel_rfl) rfl (by kernel_rfl) ?_ ?_
              · intro v17 Y hw hB
                refine ⟨trivial, ?_⟩
                replace HB := HB.trans (hB.mono (by omega))
                replace h0 := h0.blk P1 (no_ints2 _ _ _ _ _ _) hw
                replace e0 := e0.blk P1 (no_ints2 _ _ _ _ _ _) hw
                replace h1 := h1.blk P1 (no_ints2 _ _ _ _ _ _) hw
                replace e1 := e1.blk P1 (no_ints2 _ _ _ _ _ _) hw
                replace C0' := C0'.blk P1 (no_ints2 _ _ _ _ _ _) hw
                replace E0' := E0'.blk P1 (no_ints2 _ _ _ _ _ _) hw
                replace C1' := C1'.blk P1 (no_ints2 _ _ _ _ _ _) hw
                replace E1' := E1'.blk P1 (no_ints2 _ _ _ _ _ _) hw
                replace P0 := P0.off (by omega) hw
                replace X4 := X4.off (by omega) hw
                replace P1 := Y
                clear hB hw
                refine rg_done (by kernel_rfl) ?_
                exact ⟨(A0, N0, C0, B0, M0, D0, A1, N1, C1, B1, M1, D1), by kernel_rfl, P0, P1, C0', E0', C1', E1', hN0, hM0, hN1, hM1, X4, HB⟩
              exact ar_nil
            exact ar_nil
          exact ar_nil
        exact ar_nil
      exact ar_nil
    exact ar_nil
  · clear h0 e0 h1 e1 P0 P1 X4 HB
    rintro ⟨A0, N0, C0, B0, M0, D0, A1, N1, C1, B1, M1, D1⟩ u1 ⟨P0, P1, C0', E0', C1', E1', hN0, hM0, hN1, hM1, X4, HB⟩
    try simp only [putAll, Act.put, List.setIfInBounds_toArray, List.set_cons_zero, List.set_cons_succ]
    obtain ⟨j1, j2, j3, j4⟩ := P1.cells2
    have tz := tZeroR (B := B + 2) C1' E1' (by omega) (by omega) (by omega)
    rw [HZ.out] at tz
    go_wp2_with fail
    refine tz.mono ?_
    rintro e s1 ⟨rfl, hB⟩
    replace X4 := X4.keep hB
    replace P0 := P0.keep hB
    replace P1 := P1.keep hB
    replace C0' := C0'.keep hB
    replace E0' := E0'.keep hB
    replace C1' := C1'.keep hB
    replace E1' := E1'.keep hB
    replace HB := joinB HB hB
    clear hB tz j1 j2 j3 j4
    go_wp2_with fail
    refine rg_start (S := fun w' => Box w' (w.heap.size) [.slice A0 N0 C0, .slice B0 M0 D0] 30 ∧ Box w' (w.heap.size + 1) [.slice A1 N1 C1, .slice B1 M1 D1] 30) (by kernel_rfl) ⟨P0.drew, P1.drew⟩ ?_
    replace C0' := C0'.drew
    replace E0' := E0'.drew
    replace C1' := C1'.drew
    replace E1' := E1'.drew
    replace X4 := X4.drew
    replace HB := HB.drew
    have hS := (show _ ∧ _ from ⟨P0.drew, P1.drew⟩)
    clear P0 P1
    refine rg_take 0 (some 13) (.pointer (some ⟨w.heap.size, 0, none⟩)) (by kernel_rfl) (fun _ _ => by kernel_rfl) (fun _ _ _ h => h) hS ?_
    refine rg_load 1 (some 14) (.slice A0 N0 C0) 28 13 (w.heap.size) 0 (by kernel_rfl) (by kernel_rfl) (by kernel_rfl) (fun _ hs => load_at (hs.1.cells2.1)) (fun _ _ _ h => h) hS ?_
    refine rg_take 2 (some 15) (.pointer (some ⟨w.heap.size + 1, 1, none⟩)) (by kernel_rfl) (fun _ _ => by kernel_rfl) (fun _ _ _ h => h) hS ?_
    refine rg_load 3 (some 16) (.slice B1 M1 D1) 28 15 (w.heap.size + 1) 1 (by kernel_rfl) (by kernel_rfl) (by kernel_rfl) (fun _ hs => load_at (hs.2.cells2.2.1)) (fun _ _ _ h => h) hS ?_
    refine rg_take 5 (some 18) (.pointer (some ⟨w.heap.size, 1, none⟩)) (by kernel_rfl) (fun _ _ => by kernel_rfl) (fun _ _ _ h => h) hS ?_
    refine rg_load 6 (some 19) (.slice B0 M0 D0) 28 18 (w.heap.size) 1 (by kernel_rfl) (by kernel_rfl) (by kernel_rfl) (fun _ hs => load_at (hs.1.cells2.2.1)) (fun _ _ _ h => h) hS ?_
    refine rg_take 7 (some 20) (.pointer (some ⟨w.heap.size + 1, 0, none⟩)) (by kernel_rfl) (fun _ _ => by kernel_rfl) (fun _ _ _ h => h) hS ?_
    refine rg_load 8 (some 21) (.slice A1 N1 C1) 28 20 (w.heap.size + 1) 0 (by kernel_rfl) (by kernel_rfl) (by kernel_rfl) (fun _ hs => load_at (hs.2.cells2.1)) (fun _ _ _ h => h) hS ?_
    refine rg_call 4 (some 17) 103 #[.slice A0 N0 C0, .slice B1 M1 D1] (by kernel_rfl) (by kernel_rfl) (rMul C0' E1' (by omega) (by omega)) ?_
    rintro e z1 ⟨F1, K1, H1, rfl, O1, hk1, hB⟩
    refine ⟨_, rfl, ⟨hS.1.keep hB, hS.2.keep hB⟩, ?_⟩
    replace hS := (show _ ∧ _ from ⟨hS.1.keep hB, hS.2.keep hB⟩)
    replace C0' := C0'.keep hB
    replace E0' := E0'.keep hB
    replace C1' := C1'.keep hB
    replace E1' := E1'.keep hB
    replace X4 := X4.keep hB
    replace HB := joinB HB hB
    clear hB
    refine rg_call 9 (some 22) 103 #[.slice B0 M0 D0, .slice A1 N1 C1] (by kernel_rfl) (by kernel_rfl) (rMul E0' C1' (by omega) (by omega)) ?_
    rintro e z2 ⟨F2, K2, H2, rfl, O2, hk2, hB⟩
    refine ⟨_, rfl, ⟨hS.1.keep hB, hS.2.keep hB⟩, ?_⟩
    replace hS := (show _ ∧ _ from ⟨hS.1.keep hB, hS.2.keep hB⟩)
    replace C0' := C0'.keep hB
    replace E0' := E0'.keep hB
    replace C1' := C1'.keep hB
    replace E1' := E1'.keep hB
    replace X4 := X4.keep hB
    replace O1 := O1.keep hB
    replace HB := joinB HB hB
    clear hB
    refine rg_call 10 (some 23) 96 #[.slice F1 K1 H1, .slice F2 K2 H2] (by kernel_rfl) (by kernel_rfl) (tMade O1.a O2.a (by omega) (by omega) NE.out) ?_
    rintro e z3 ⟨Ar, Kr, Dr, As', Ks, Ds, rfl, Or1, Or2, hkr, hks, hB⟩
    refine ⟨_, rfl, ⟨hS.1.keep hB, hS.2.keep hB⟩, ?_⟩
    replace hS := (show _ ∧ _ from ⟨hS.1.keep hB, hS.2.keep hB⟩)
    replace C0' := C0'.keep hB
    replace E0' := E0'.keep hB
    replace C1' := C1'.keep hB
    replace E1' := E1'.keep hB
    replace X4 := X4.keep hB
    replace O1 := O1.keep hB
    replace O2 := O2.keep hB
    replace HB := joinB HB hB
    clear hB
    refine rg_ready [11] (by kernel_rfl) (by simp) ?_
    refine ar_store 11 30 30 4 23 (w.heap.size + 1 + 1) [.slice none 0 0, .slice none 0 0] [.slice Ar Kr Dr, .slice As' Ks Ds] (by kernel_rfl) (by kernel_rfl) (by kernel_rfl) (by kernel_rfl) X4 (by kernel_rfl) rfl (by kernel_rfl) ?_ ar_nil
    intro z4 Y hw hB
    refine ⟨⟨hS.1.off (by omega) hw, hS.2.off (by omega) hw⟩, ?_⟩
    replace hS := (show _ ∧ _ from ⟨hS.1.off (by omega) hw, hS.2.off (by omega) hw⟩)
    replace HB := HB.trans (hB.mono (by omega))
    replace C0' := C0'.blk X4 (no_ints2 _ _ _ _ _ _) hw
    replace E0' := E0'.blk X4 (no_ints2 _ _ _ _ _ _) hw
    replace C1' := C1'.blk X4 (no_ints2 _ _ _ _ _ _) hw
    replace E1' := E1'.blk X4 (no_ints2 _ _ _ _ _ _) hw
    skip
    replace O1 := O1.blk X4 (no_ints2 _ _ _ _ _ _) hw
    replace O2 := O2.blk X4 (no_ints2 _ _ _ _ _ _) hw
    replace Or1 := Or1.blk X4 (no_ints2 _ _ _ _ _ _) hw
    replace Or2 := Or2.blk X4 (no_ints2 _ _ _ _ _ _) hw
    replace X4 := Y
    clear hB hw
    refine rg_take 12 (some 5) (.int .i64 0) (by kernel_rfl) (fun _ _ => by kernel_rfl) (fun _ _ _ h => h) hS ?_
    refine rg_done (by kernel_rfl) ?_
    try simp only [Act.put, List.setIfInBounds_toArray, List.set_cons_zero, List.set_cons_succ]
    go_wp2
    refine bodyPost_ret (ret_rat_tmp rfl rfl rfl X4) rfl ?_
    exact ⟨_, _, _, _, _, _, rfl, pairR Or1 Or2 (red_of NP.out.1 NP.out.2) NP.out.2 NP.out.1 (by omega) (by omega), HB⟩
end Go.Proofs.YtjihgkanbhccpaaGreatDoor

namespace Go.Proofs.YtjihgkanbhccpaaGreatDoor
open Go.RowKit Lim

set_option maxHeartbeats 4000000 in
set_option maxRecDepth 100000 in
theorem tOfZ {w : World} {ao ao' : Option Addr} {n c n' c' : Nat} {y : Int} (h' : NatA w ao' n' c' y) (hn' : n' ≤ 17179869184) (hz : y = 0) :
    Calls Tryz.prog 39 #[.slice ao n c, .slice ao' n' c'] w fun e w' => e = .returned (.tuple #[.agg #[.slice none 0 0, .slice none 0 0], .int .i64 30]) ∧ Below w.heap.size w w' := by
  have HB := below_alloc w (.cells #[.slice none 0 0, .slice none 0 0] 30)
  have X4 := box_new w [.slice none 0 0, .slice none 0 0] 30
  replace h' := h'.keep HB
  have HZ := (show Hid _ from hz)
  clear hz
  go_enter Tryz.func39, Tryz.ntmps39
  go_wp2_with fail
  refine (rNorm h' (by omega)).mono ?_
  rintro e w1 ⟨A1, K1, C1, rfl, O1, hk1, hB⟩
  obtain rfl : K1 = 0 := natO_zero (O1.eqv HZ.out)
  replace X4 := X4.keep hB
  replace HB := joinB HB hB
  clear hB O1 hk1 HZ h'
  obtain ⟨i1, i2, i3, i4⟩ := X4.cells2
  have S2 := X4.put2 (.slice none 0 0) (.slice none 0 0)
  have HB2 := below_put2 HB (g := w.heap.size) (by omega) (.slice none 0 0) (.slice none 0 0)
  clear X4 HB
  go_wp2
  refine bodyPost_ret (ret_rat_tmp rfl rfl rfl S2) rfl ?_
  exact ⟨rfl, HB2⟩
set_option maxHeartbeats 4000000 in
set_option maxRecDepth 100000 in
theorem tOf {w : World} {ao ao' : Option Addr} {n c n' c' : Nat} {x y : Int} {B : Nat} (h : NatA w ao n c x) (h' : NatA w ao' n' c' y) (hn : n ≤ B) (hn' : n' ≤ B) (hb : B ≤ 10000000) (hne : y ≠ 0) :
    Calls Tryz.prog 39 #[.slice ao n c, .slice ao' n' c'] w fun e w' => ∃ a k d a' k' d', e = .returned (.tuple #[.agg #[.slice a k d, .slice a' k' d'], .int .i64 0]) ∧ QR w' a k d a' k' d' x y (2 * B) ∧ Below w.heap.size w w' := by
  have HP : Hid (0 ≤ x ∧ 0 < y) := ⟨h.nonneg, by have := h'.nonneg; omega⟩
  have HB := below_alloc w (.cells #[.slice none 0 0, .slice none 0 0] 30)
  have X4 := box_new w [.slice none 0 0, .slice none 0 0] 30
  replace h := h.keep HB
  replace h' := h'.keep HB
  have HZ := (show Hid _ from hne)
  clear hne
  go_enter Tryz.func39, Tryz.ntmps39
  go_wp2_with fail
  refine (rNorm h' (by omega)).mono ?_
  rintro e w1 ⟨A1, K1, C1, rfl, O1, hk1, hB⟩
  obtain ⟨j, rfl⟩ : ∃ j, K1 = j + 1 := ⟨K1 - 1, by have := natO_pos O1 HZ.out; omega⟩
  replace h := h.keep hB
  replace h' := h'.keep hB
  replace X4 := X4.keep hB
  replace HB := joinB HB hB
  clear hB O1
  go_wp2_with fail
  refine (tMade h h' (by omega) (by omega) HZ.out).mono ?_
  rintro e w2 ⟨Ar, Kr, Dr, As', Ks, Ds, rfl, Or1, Or2, hkr, hks, hB⟩
  replace X4 := X4.keep hB
  replace HB := joinB HB hB
  clear hB h h'
  obtain ⟨i1, i2, i3, i4⟩ := X4.cells2
  have S2 := X4.put2 (.slice Ar Kr Dr) (.slice As' Ks Ds)
  have Q1 := Or1.put2 X4 (.slice Ar Kr Dr) (.slice As' Ks Ds)
  have Q2 := Or2.put2 X4 (.slice Ar Kr Dr) (.slice As' Ks Ds)
  have HB2 := below_put2 HB (g := w.heap.size) (by omega) (.slice Ar Kr Dr) (.slice As' Ks Ds)
  clear X4 HB Or1 Or2
  go_wp2
  refine bodyPost_ret (ret_rat_tmp rfl rfl rfl S2) rfl ?_
  exact ⟨_, _, _, _, _, _, rfl, pairR Q1 Q2 (red_of HP.out.1 HP.out.2) HP.out.2 HP.out.1 (by omega) (by omega), HB2⟩
set_option maxHeartbeats 4000000 in
set_option maxRecDepth 100000 in
theorem tOfNat {w : World} {ao : Option Addr} {n c : Nat} {x : Int} {B : Nat} (h : NatA w ao n c x) (hn : n ≤ B) (h2 : 2 ≤ B) (hb : B ≤ 10000000) :
    Calls Tryz.prog 40 #[.slice ao n c] w fun e w' => ∃ a k d a' k' d', e = .returned (.agg #[.slice a k d, .slice a' k' d']) ∧ QR w' a k d a' k' d' x 1 (2 * B) ∧ Below w.heap.size w w' := by
  have HP : Hid (0 ≤ x) := h.nonneg
  have HB := below_alloc w (.cells #[.slice none 0 0, .slice none 0 0] 30)
  have X4 := box_new w [.slice none 0 0, .slice none 0 0] 30
  replace h := h.keep HB
  go_enter Tryz.func40, Tryz.ntmps40
  go_wp2_with fail
  refine (rOf (x := 1) (by decide) (by decide)).mono ?_
  rintro e w1 ⟨A1, K1, C1, rfl, O1, hk1, hB⟩
  replace h := h.keep hB
  replace X4 := X4.keep hB
  replace HB := joinB HB hB
  clear hB
  go_wp2_with fail
  refine (tMade h O1.a (by omega) (by omega) (by decide)).mono ?_
  rintro e w2 ⟨Ar, Kr, Dr, As', Ks, Ds, rfl, Or1, Or2, hkr, hks, hB⟩
  replace X4 := X4.keep hB
  replace HB := joinB HB hB
  clear hB h O1
  obtain ⟨i1, i2, i3, i4⟩ := X4.cells2
  have S2 := X4.put2 (.slice Ar Kr Dr) (.slice As' Ks Ds)
  have Q1 := Or1.put2 X4 (.slice Ar Kr Dr) (.slice As' Ks Ds)
  have Q2 := Or2.put2 X4 (.slice Ar Kr Dr) (.slice As' Ks Ds)
  have HB2 := below_put2 HB (g := w.heap.size) (by omega) (.slice Ar Kr Dr) (.slice As' Ks Ds)
  clear X4 HB Or1 Or2
  go_wp2
  refine bodyPost_ret (ret_rat rfl rfl S2) rfl ?_
  exact ⟨_, _, _, _, _, _, rfl, pairR Q1 Q2 (red_of HP.out (by decide)) (by decide) HP.out (by omega) (by omega), HB2⟩
set_option maxHeartbeats 4000000 in
set_option maxRecDepth 100000 in
theorem tOfDec {w : World} {ao : Option Addr} {n c : Nat} {x : Int} {B : Nat} (h : NatA w ao n c x) (hn : n ≤ B) (h2 : 38 ≤ B) (hb : B ≤ 10000000) :
    Calls Tryz.prog 41 #[.agg #[.slice ao n c]] w fun e w' => ∃ a k d a' k' d', e = .returned (.agg #[.slice a k d, .slice a' k' d']) ∧ QR w' a k d a' k' d' x U36 (2 * B) ∧ Below w.heap.size w w' := by
  have HP : Hid (0 ≤ x) := h.nonneg
  have NE : Hid (U36 ≠ 0) := show U36 ≠ 0 by decide
  have HB := below2 w (.cells #[.slice ao n c] 46) (.cells #[.slice none 0 0, .slice none 0 0] 30)
  have P0 := (box_new w [.slice ao n c] 46).keep (below_alloc _ (.cells #[.slice none 0 0, .slice none 0 0] 30))
  have X4 := box_new (w.alloc (.cells #[.slice ao n c] 46)) [.slice none 0 0, .slice none 0 0] 30
  rw [show (w.alloc (.cells #[.slice ao n c] 46)).heap.size = w.heap.size + 1 by simp] at X4
  replace h := h.keep HB
  go_enter Tryz.func41, Tryz.ntmps41
  go_wp2_with fail
  generalize (w.alloc (.cells #[.slice ao n c] 46)).alloc (.cells #[.slice none 0 0, .slice none 0 0] 30) = u0 at *
  refine rg_start (S := fun w' => Box w' w.heap.size [.slice ao n c] 46) (by kernel_rfl) P0.drew ?_
  have hS := P0.drew
  replace h := h.drew
  replace X4 := X4.drew
  replace HB := HB.drew
  clear P0
  refine rg_take 0 (some 3) (.pointer (some ⟨w.heap.size, 0, none⟩)) (by kernel_rfl) (fun _ _ => by kernel_rfl) (fun _ _ _ h => h) hS ?_
  refine rg_load 1 (some 4) (.slice ao n c) 28 3 (w.heap.size) 0 (by kernel_rfl) (by kernel_rfl) (by kernel_rfl) (fun _ hs => load_raw hs.slot) (fun _ _ _ h => h) hS ?_
  refine rg_call 2 (some 5) 98 #[] (by kernel_rfl) (by kernel_rfl) eOne ?_
  rintro e z1 ⟨A1, K1, C1, rfl, O1, hk1, hB⟩
  refine ⟨_, rfl, hS.keep hB, ?_⟩
  replace hS := hS.keep hB
  replace h := h.keep hB
  replace X4 := X4.keep hB
  replace HB := joinB HB hB
  clear hB
  refine rg_call 3 (some 6) 96 #[.slice ao n c, .slice A1 K1 C1] (by kernel_rfl) (by kernel_rfl) (tMade h O1.a (by omega) (by omega) NE.out) ?_
  rintro e z2 ⟨Ar, Kr, Dr, As', Ks, Ds, rfl, Or1, Or2, hkr, hks, hB⟩
  refine ⟨_, rfl, hS.keep hB, ?_⟩
  replace hS := hS.keep hB
  replace X4 := X4.keep hB
  replace HB := joinB HB hB
  clear hB h O1
  refine rg_ready [4] (by kernel_rfl) (by simp) ?_
  refine ar_store 4 30 30 2 6 (w.heap.size + 1) [.slice none 0 0, .slice none 0 0] [.slice Ar Kr Dr, .slice As' Ks Ds] (by kernel_rfl) (by kernel_rfl) (by kernel_rfl) (by kernel_rfl) X4 (by kernel_rfl) rfl (by kernel_rfl) ?_ ar_nil
  intro z3 Y hw hB
  refine ⟨hS.off (by omega) hw, ?_⟩
  replace HB := HB.trans (hB.mono (by omega))
  replace Or1 := Or1.blk X4 (no_ints2 _ _ _ _ _ _) hw
  replace Or2 := Or2.blk X4 (no_ints2 _ _ _ _ _ _) hw
  replace X4 := Y
  clear hB hw hS Y
  refine rg_done (by kernel_rfl) ?_
  try simp only [Act.put, List.setIfInBounds_toArray, List.set_cons_zero, List.set_cons_succ]
  go_wp2
  refine bodyPost_ret (ret_rat rfl rfl X4) rfl ?_
  exact ⟨_, _, _, _, _, _, rfl, pairR Or1 Or2 (red_of HP.out u36_pos) u36_pos HP.out (by omega) (by omega), HB⟩
set_option maxHeartbeats 4000000 in
set_option maxRecDepth 100000 in
theorem tFloorR {w : World} {B : Nat} {a0 b0 : Option Addr} {n0 c0 m0 d0 : Nat} {x0 y0 : Int} (h0 : NatA w a0 n0 c0 x0) (e0 : NatA w b0 m0 d0 y0) (hn0 : n0 ≤ B) (hm0 : m0 ≤ B) (hb : B ≤ 10000000) :
    Calls Tryz.prog 43 #[.agg #[.slice a0 n0 c0, .slice b0 m0 d0]] w fun e w' => ∃ a k d, e = .returned (.slice a k d) ∧ NatO w' a k d (cn x0 y0 / cd y0) ∧ k ≤ 2 * B ∧ Below w.heap.size w w' := by
  have HB := below_alloc w (.cells #[.slice a0 n0 c0, .slice b0 m0 d0] 30)
  have P0 := box_new w [.slice a0 n0 c0, .slice b0 m0 d0] 30
  have NE := (show Hid _ from cd_ne y0)
  replace h0 := h0.keep HB
  replace e0 := e0.keep HB
  obtain ⟨i1, i2, i3, i4⟩ := P0.cells2
  go_enter Tryz.func43, Tryz.ntmps43
  go_wp2_with fail
  refine (tRight h0 e0 (by omega) (by omega)).mono ?_
  rintro e w1 ⟨A0, N0, C0, B0, M0, D0, rfl, C0', E0', hN0, hM0, hB⟩
  replace P0 := P0.keep hB
  replace HB := joinB HB hB
  clear hB i1 i2 i3 i4 h0 e0
  have S2 := P0.put2 (.slice A0 N0 C0) (.slice B0 M0 D0)
  have Q1 := C0'.put2 P0 (.slice A0 N0 C0) (.slice B0 M0 D0)
  have Q2 := E0'.put2 P0 (.slice A0 N0 C0) (.slice B0 M0 D0)
  obtain ⟨k1, k2, k3, k4⟩ := P0.cells2
  have HB2 := below_put2 HB (g := w.heap.size) (by omega) (.slice A0 N0 C0) (.slice B0 M0 D0)
  obtain ⟨j1, j2, j3, j4⟩ := S2.cells2
  clear C0' E0' P0 HB
  go_wp2_with fail
  refine (rDiv Q1 Q2 (by omega) (by omega) NE.out).mono ?_
  rintro e w2 ⟨a, k, d, a', k', d', rfl, O1, O2, hk, hk', hB⟩
  replace HB2 := joinB HB2 hB
  clear k1 k2 k3 k4 j1 j2 j3 j4 S2 Q1 Q2 hB
  go_wp2
  go_ret
  exact ⟨a, k, d, rfl, O1, by omega, HB2⟩
set_option maxHeartbeats 4000000 in
set_option maxRecDepth 100000 in
theorem tDownR {w : World} {B : Nat} {a0 b0 : Option Addr} {n0 c0 m0 d0 : Nat} {x0 y0 : Int} (h0 : NatA w a0 n0 c0 x0) (e0 : NatA w b0 m0 d0 y0) (hn0 : n0 ≤ B) (hm0 : m0 ≤ B) (hb : B ≤ 10000000) :
    Calls Tryz.prog 44 #[.agg #[.slice a0 n0 c0, .slice b0 m0 d0]] w fun e w' => ∃ a k d, e = .returned (.agg #[.slice a k d]) ∧ NatO w' a k d (cn x0 y0 * U36 / cd y0) ∧ k ≤ 4 * B + 160 ∧ Below w.heap.size w w' := by
  have HB := below2 w (.cells #[.slice a0 n0 c0, .slice b0 m0 d0] 30) (.cells #[.slice none 0 0] 46)
  have P0 := (box_new w [.slice a0 n0 c0, .slice b0 m0 d0] 30).keep (below_alloc _ (.cells #[.slice none 0 0] 46))
  have X4 := box_new (w.alloc (.cells #[.slice a0 n0 c0, .slice b0 m0 d0] 30)) [.slice none 0 0] 46
  rw [show (w.alloc (.cells #[.slice a0 n0 c0, .slice b0 m0 d0] 30)).heap.size = w.heap.size + 1 by simp] at X4
  have NE := (show Hid _ from cd_ne y0)
  replace h0 := h0.keep HB
  replace e0 := e0.keep HB
  obtain ⟨i1, i2, i3, i4⟩ := P0.cells2
  go_enter Tryz.func44, Tryz.ntmps44
  go_wp2_with fail
  refine (tRight h0 e0 (by omega) (by omega)).mono ?_
  rintro e w1 ⟨A0, N0, C0, B0, M0, D0, rfl, C0', E0', hN0, hM0, hB⟩
  replace P0 := P0.keep hB
  replace X4 := X4.keep hB
  replace HB := joinB HB hB
  clear hB i1 i2 i3 i4 h0 e0
  have S2 := P0.put2 (.slice A0 N0 C0) (.slice B0 M0 D0)
  have Q1 := C0'.put2 P0 (.slice A0 N0 C0) (.slice B0 M0 D0)
  have Q2 := E0'.put2 P0 (.slice A0 N0 C0) (.slice B0 M0 D0)
  obtain ⟨k1, k2, k3, k4⟩ := P0.cells2
  have HB2 := below_put2 HB (g := w.heap.size) (by omega) (.slice A0 N0 C0) (.slice B0 M0 D0)
  have X5 := X4.other2 (g' := w.heap.size) (by omega) (.slice A0 N0 C0) (.slice B0 M0 D0)
  clear C0' E0' HB X4
  go_wp2_with fail
  clear k1 k2 k3 k4 P0
  generalize (w1.setCell ⟨w.heap.size, 0, none⟩ (.slice A0 N0 C0)).setCell ⟨w.heap.size, 1, none⟩ (.slice B0 M0 D0) = u1 at *
  refine rg_start (S := fun w' => Below u1.drew.heap.size u1.drew w') (by kernel_rfl) (Below.refl _ _) ?_
  replace Q1 := Q1.drew
  replace Q2 := Q2.drew
  replace X5 := X5.drew
  replace S2 := S2.drew
  replace HB2 := HB2.drew
  have hS := Below.refl u1.drew.heap.size u1.drew
  refine rg_take 0 (some 9) (.pointer (some ⟨w.heap.size, 0, none⟩)) (by kernel_rfl) (fun _ _ => by kernel_rfl) (fun _ _ _ h => h) hS ?_
  refine rg_load 1 (some 10) (.slice A0 N0 C0) 28 9 (w.heap.size) 0 (by kernel_rfl) (by kernel_rfl) (by kernel_rfl) (fun _ hb => load_at ((S2.keep hb).cells2.1)) (fun _ _ _ h => h) hS ?_
  refine rg_take 3 (some 12) (.pointer (some ⟨w.heap.size, 1, none⟩)) (by kernel_rfl) (fun _ _ => by kernel_rfl) (fun _ _ _ h => h) hS ?_
  refine rg_load 4 (some 13) (.slice B0 M0 D0) 28 12 (w.heap.size) 1 (by kernel_rfl) (by kernel_rfl) (by kernel_rfl) (fun _ hb => load_at ((S2.keep hb).cells2.2.1)) (fun _ _ _ h => h) hS ?_
  refine rg_call 2 (some 11) 98 #[] (by kernel_rfl) (by kernel_rfl) eOne ?_
  rintro e z1 ⟨A1, K1, C1, rfl, O1, hk1, hB⟩
  refine ⟨_, rfl, joinB hS hB, ?_⟩
  replace hS := joinB hS hB
  replace Q1 := Q1.keep hB
  replace Q2 := Q2.keep hB
  replace X5 := X5.keep hB
  replace HB2 := joinB HB2 hB
  clear hB
  refine rg_call 5 (some 14) 101 #[.slice A0 N0 C0, .slice A1 K1 C1, .slice B0 M0 D0] (by kernel_rfl) (by kernel_rfl) (rMulDiv Q1 O1.a Q2 (by omega) (by omega) (by omega) NE.out) ?_
  rintro e z2 ⟨a, k, d, a', k', d', rfl, O2, O3, hk, hk', hB⟩
  refine ⟨_, rfl, joinB hS hB, ?_⟩
  replace hS := joinB hS hB
  replace X5 := X5.keep hB
  replace HB2 := joinB HB2 hB
  clear hB Q1 Q2 O1 O3
  refine rg_take 6 (some 8) (.tuple #[.slice a k d, .slice a' k' d', .int .i64 0]) (by kernel_rfl) (fun _ _ => by kernel_rfl) (fun _ _ _ h => h) hS ?_
  refine rg_take 7 (some 15) (.slice a k d) (by kernel_rfl) (fun _ _ => by kernel_rfl) (fun _ _ _ h => h) hS ?_
  refine rg_take 8 (some 16) (.slice a' k' d') (by kernel_rfl) (fun _ _ => by kernel_rfl) (fun _ _ _ h => h) hS ?_
  refine rg_take 9 (some 17) (.int .i64 0) (by kernel_rfl) (fun _ _ => by kernel_rfl) (fun _ _ _ h => h) hS ?_
  refine rg_take 10 (some 3) (.slice a k d) (by kernel_rfl) (fun _ _ => by kernel_rfl) (fun _ _ _ h => h) hS ?_
  refine rg_take 11 (some 4) (.slice a' k' d') (by kernel_rfl) (fun _ _ => by kernel_rfl) (fun _ _ _ h => h) hS ?_
  refine rg_take 12 (some 5) (.int .i64 0) (by kernel_rfl) (fun _ _ => by kernel_rfl) (fun _ _ _ h => h) hS ?_
  refine rg_done (by kernel_rfl) ?_
  clear hS S2
  try simp only [Act.put, List.setIfInBounds_toArray, List.set_cons_zero, List.set_cons_succ]
  have S1 := X5.slot
  have c1 := S1.cell
  have f1 := S1.free
  have S3 := S1.put (.slice a k d)
  have hO1 := O2.put S1 not_int (.slice a k d)
  have HB3 := HB2.setCell (p := ⟨w.heap.size + 1, 0, none⟩) (by show w.heap.size ≤ w.heap.size + 1; omega) (.slice a k d)
  clear O2 X5 S1 HB2
  go_wp2
  refine bodyPost_ret (ret_dec rfl rfl S3) rfl ?_
  exact ⟨a, k, d, rfl, hO1, by omega, HB3⟩
theorem tCmp {w : World} {B : Nat} {a0 b0 : Option Addr} {n0 c0 m0 d0 : Nat} {p0 q0 : Int} {a1 b1 : Option Addr} {n1 c1 m1 d1 : Nat} {p1 q1 : Int} (h0 : QV w a0 n0 c0 b0 m0 d0 p0 q0 B) (h1 : QV w a1 n1 c1 b1 m1 d1 p1 q1 B) (hb : B ≤ 10000000) (r : Int) (hr : sgn (p0 * q1) (p1 * q0) = r) :
    Calls Tryz.prog 49 #[.agg #[.slice a0 n0 c0, .slice b0 m0 d0], .agg #[.slice a1 n1 c1, .slice b1 m1 d1]] w fun e w' => e = .returned (.int .i64 r) ∧ Below w.heap.size w w' := by
  obtain ⟨x0, y0, g0, k0, E0⟩ := h0.ex
  obtain ⟨x1, y1, g1, k1, E1⟩ := h1.ex
  have u0 := cd_pos k0.nonneg
  have u1 := cd_pos k1.nonneg
  have t := tCmpR g0 k0 h0.hn h0.hm g1 k1 h1.hn h1.hm hb
  rw [cross_sgn E0 E1 u0 h0.q0 u1 h1.q0, hr] at t
  exact t
theorem tAdd {w : World} {B : Nat} {a0 b0 : Option Addr} {n0 c0 m0 d0 : Nat} {p0 q0 : Int} {a1 b1 : Option Addr} {n1 c1 m1 d1 : Nat} {p1 q1 : Int} (h0 : QV w a0 n0 c0 b0 m0 d0 p0 q0 B) (h1 : QV w a1 n1 c1 b1 m1 d1 p1 q1 B) (hb : B ≤ 10000000) :
    Calls Tryz.prog 50 #[.agg #[.slice a0 n0 c0, .slice b0 m0 d0], .agg #[.slice a1 n1 c1, .slice b1 m1 d1]] w fun e w' => ∃ a k d a' k' d', e = .returned (.agg #[.slice a k d, .slice a' k' d']) ∧ QR w' a k d a' k' d' (p0 * q1 + p1 * q0) (q0 * q1) (32 * B + 64) ∧ Below w.heap.size w w' := by
  obtain ⟨x0, y0, g0, k0, E0⟩ := h0.ex
  obtain ⟨x1, y1, g1, k1, E1⟩ := h1.ex
  have u0 := cd_pos k0.nonneg
  have u1 := cd_pos k1.nonneg
  refine (tAddR g0 k0 h0.hn h0.hm g1 k1 h1.hn h1.hm hb).mono ?_
  rintro e w1 ⟨a, k, d, a', k', d', rfl, O1, hB⟩
  refine ⟨a, k, d, a', k', d', rfl, O1.eqv (Int.mul_pos h0.q0 h1.q0) (Int.add_nonneg (Int.mul_nonneg h0.p0 (Int.le_of_lt h1.q0)) (Int.mul_nonneg h1.p0 (Int.le_of_lt h0.q0))) ?_, hB⟩
  have s1 : (cn x0 y0 * cd y1 + cn x1 y1 * cd y0) * (q0 * q1) = cn x0 y0 * q0 * (cd y1 * q1) + cn x1 y1 * q1 * (cd y0 * q0) := by grind
  rw [s1, E0, E1]
  grind
theorem tMul {w : World} {B : Nat} {a0 b0 : Option Addr} {n0 c0 m0 d0 : Nat} {p0 q0 : Int} {a1 b1 : Option Addr} {n1 c1 m1 d1 : Nat} {p1 q1 : Int} (h0 : QV w a0 n0 c0 b0 m0 d0 p0 q0 B) (h1 : QV w a1 n1 c1 b1 m1 d1 p1 q1 B) (hb : B ≤ 10000000) :
    Calls Tryz.prog 51 #[.agg #[.slice a0 n0 c0, .slice b0 m0 d0], .agg #[.slice a1 n1 c1, .slice b1 m1 d1]] w fun e w' => ∃ a k d a' k' d', e = .returned (.agg #[.slice a k d, .slice a' k' d']) ∧ QR w' a k d a' k' d' (p0 * p1) (q0 * q1) (32 * B + 64) ∧ Below w.heap.size w w' := by
  obtain ⟨x0, y0, g0, k0, E0⟩ := h0.ex
  obtain ⟨x1, y1, g1, k1, E1⟩ := h1.ex
  have u0 := cd_pos k0.nonneg
  have u1 := cd_pos k1.nonneg
  refine (tMulR g0 k0 h0.hn h0.hm g1 k1 h1.hn h1.hm hb).mono ?_
  rintro e w1 ⟨a, k, d, a', k', d', rfl, O1, hB⟩
  refine ⟨a, k, d, a', k', d', rfl, O1.eqv (Int.mul_pos h0.q0 h1.q0) (Int.mul_nonneg h0.p0 h1.p0) ?_, hB⟩
  have s1 : cn x0 y0 * cn x1 y1 * (q0 * q1) = cn x0 y0 * q0 * (cn x1 y1 * q1) := by grind
  rw [s1, E0, E1]
  grind
theorem tSub {w : World} {B : Nat} {a0 b0 : Option Addr} {n0 c0 m0 d0 : Nat} {p0 q0 : Int} {a1 b1 : Option Addr} {n1 c1 m1 d1 : Nat} {p1 q1 : Int} (h0 : QV w a0 n0 c0 b0 m0 d0 p0 q0 B) (h1 : QV w a1 n1 c1 b1 m1 d1 p1 q1 B) (hb : B ≤ 10000000) (hge : p1 * q0 ≤ p0 * q1) :
    Calls Tryz.prog 47 #[.agg #[.slice a0 n0 c0, .slice b0 m0 d0], .agg #[.slice a1 n1 c1, .slice b1 m1 d1]] w fun e w' => ∃ a k d a' k' d', e = .returned (.tuple #[.agg #[.slice a k d, .slice a' k' d'], .int .i64 0]) ∧ QR w' a k d a' k' d' (p0 * q1 - p1 * q0) (q0 * q1) (32 * B + 64) ∧ Below w.heap.size w w' := by
  obtain ⟨x0, y0, g0, k0, E0⟩ := h0.ex
  obtain ⟨x1, y1, g1, k1, E1⟩ := h1.ex
  have u0 := cd_pos k0.nonneg
  have u1 := cd_pos k1.nonneg
  refine (tSubR g0 k0 h0.hn h0.hm g1 k1 h1.hn h1.hm ((cross_le E0 E1 u0 h0.q0 u1 h1.q0).2 hge) hb).mono ?_
  rintro e w1 ⟨a, k, d, a', k', d', rfl, O1, hB⟩
  refine ⟨a, k, d, a', k', d', rfl, O1.eqv (Int.mul_pos h0.q0 h1.q0) (by omega) ?_, hB⟩
  have s1 : (cn x0 y0 * cd y1 - cn x1 y1 * cd y0) * (q0 * q1) = cn x0 y0 * q0 * (cd y1 * q1) - cn x1 y1 * q1 * (cd y0 * q0) := by grind
  rw [s1, E0, E1]
  grind
theorem tSubLt {w : World} {B : Nat} {a0 b0 : Option Addr} {n0 c0 m0 d0 : Nat} {p0 q0 : Int} {a1 b1 : Option Addr} {n1 c1 m1 d1 : Nat} {p1 q1 : Int} (h0 : QV w a0 n0 c0 b0 m0 d0 p0 q0 B) (h1 : QV w a1 n1 c1 b1 m1 d1 p1 q1 B) (hb : B ≤ 10000000) (hlt : p0 * q1 < p1 * q0) :
    Calls Tryz.prog 47 #[.agg #[.slice a0 n0 c0, .slice b0 m0 d0], .agg #[.slice a1 n1 c1, .slice b1 m1 d1]] w fun e w' => e = .returned (.tuple #[.agg #[.slice none 0 0, .slice none 0 0], .int .i64 31]) ∧ Below w.heap.size w w' := by
  obtain ⟨x0, y0, g0, k0, E0⟩ := h0.ex
  obtain ⟨x1, y1, g1, k1, E1⟩ := h1.ex
  have u0 := cd_pos k0.nonneg
  have u1 := cd_pos k1.nonneg
  exact tSubLtR g0 k0 h0.hn h0.hm g1 k1 h1.hn h1.hm (by have := mt (cross_le E0 E1 u0 h0.q0 u1 h1.q0).1 (by omega); omega) hb
theorem qv_zero' {x y p q : Int} (E : cn x y * q = p * cd y) (hq : 0 < q) : cn x y = 0 ↔ p = 0 := by
  have u := cd_ne y
  constructor
  · intro h
    rw [h, Int.zero_mul] at E
    rcases Int.mul_eq_zero.1 E.symm with c | c
    · exact c
    · exact absurd c u
  · intro h
    rw [h, Int.zero_mul] at E
    rcases Int.mul_eq_zero.1 E with c | c
    · exact c
    · omega
theorem tQuoZ {w : World} {B : Nat} {a0 b0 : Option Addr} {n0 c0 m0 d0 : Nat} {p0 q0 : Int} {a1 b1 : Option Addr} {n1 c1 m1 d1 : Nat} {p1 q1 : Int} (h0 : QV w a0 n0 c0 b0 m0 d0 p0 q0 B) (h1 : QV w a1 n1 c1 b1 m1 d1 p1 q1 B) (hb : B ≤ 10000000) (hz : p1 = 0) :
    Calls Tryz.prog 48 #[.agg #[.slice a0 n0 c0, .slice b0 m0 d0], .agg #[.slice a1 n1 c1, .slice b1 m1 d1]] w fun e w' => e = .returned (.tuple #[.agg #[.slice none 0 0, .slice none 0 0], .int .i64 30]) ∧ Below w.heap.size w w' := by
  obtain ⟨x0, y0, g0, k0, E0⟩ := h0.ex
  obtain ⟨x1, y1, g1, k1, E1⟩ := h1.ex
  exact tQuoZR g0 k0 h0.hn h0.hm g1 k1 h1.hn h1.hm ((qv_zero' E1 h1.q0).2 hz) hb
theorem tQuo {w : World} {B : Nat} {a0 b0 : Option Addr} {n0 c0 m0 d0 : Nat} {p0 q0 : Int} {a1 b1 : Option Addr} {n1 c1 m1 d1 : Nat} {p1 q1 : Int} (h0 : QV w a0 n0 c0 b0 m0 d0 p0 q0 B) (h1 : QV w a1 n1 c1 b1 m1 d1 p1 q1 B) (hb : B ≤ 10000000) (hne : p1 ≠ 0) :
    Calls Tryz.prog 48 #[.agg #[.slice a0 n0 c0, .slice b0 m0 d0], .agg #[.slice a1 n1 c1, .slice b1 m1 d1]] w fun e w' => ∃ a k d a' k' d', e = .returned (.tuple #[.agg #[.slice a k d, .slice a' k' d'], .int .i64 0]) ∧ QR w' a k d a' k' d' (p0 * q1) (q0 * p1) (32 * B + 64) ∧ Below w.heap.size w w' := by
  obtain ⟨x0, y0, g0, k0, E0⟩ := h0.ex
  obtain ⟨x1, y1, g1, k1, E1⟩ := h1.ex
  have u0 := cd_pos k0.nonneg
  have u1 := cd_pos k1.nonneg
  refine (tQuoR g0 k0 h0.hn h0.hm g1 k1 h1.hn h1.hm (mt (qv_zero' E1 h1.q0).1 hne) hb).mono ?_
  rintro e w1 ⟨a, k, d, a', k', d', rfl, O1, hB⟩
  have p1p : 0 < p1 := by have := h1.p0; omega
  refine ⟨a, k, d, a', k', d', rfl, O1.eqv (Int.mul_pos h0.q0 p1p) (Int.mul_nonneg h0.p0 (Int.le_of_lt h1.q0)) ?_, hB⟩
  have s1 : cn x0 y0 * cd y1 * (q0 * p1) = cn x0 y0 * q0 * (p1 * cd y1) := by grind
  rw [s1, E0, ← E1]
  grind
theorem tZero {w : World} {B : Nat} {a0 b0 : Option Addr} {n0 c0 m0 d0 : Nat} {p0 q0 : Int} (h0 : QV w a0 n0 c0 b0 m0 d0 p0 q0 B) (hb : B ≤ 10000000) (r : Bool) (hr : decide (p0 = 0) = r) :
    Calls Tryz.prog 45 #[.agg #[.slice a0 n0 c0, .slice b0 m0 d0]] w fun e w' => e = .returned (.bool r) ∧ Below w.heap.size w w' := by
  obtain ⟨x0, y0, g0, k0, E0⟩ := h0.ex
  have u0 := cd_pos k0.nonneg
  have t := tZeroR g0 k0 h0.hn h0.hm (by omega)
  rw [decide_eq_decide.2 (qv_zero' E0 h0.q0), hr] at t
  exact t
theorem tFloor {w : World} {B : Nat} {a0 b0 : Option Addr} {n0 c0 m0 d0 : Nat} {p0 q0 : Int} (h0 : QV w a0 n0 c0 b0 m0 d0 p0 q0 B) (hb : B ≤ 10000000) :
    Calls Tryz.prog 43 #[.agg #[.slice a0 n0 c0, .slice b0 m0 d0]] w fun e w' => ∃ a k d, e = .returned (.slice a k d) ∧ NatO w' a k d (p0 / q0) ∧ k ≤ 2 * B ∧ Below w.heap.size w w' := by
  obtain ⟨x0, y0, g0, k0, E0⟩ := h0.ex
  have u0 := cd_pos k0.nonneg
  have t := tFloorR g0 k0 h0.hn h0.hm hb
  rw [cross_div E0 u0 h0.q0] at t
  exact t
theorem tDown {w : World} {B : Nat} {a0 b0 : Option Addr} {n0 c0 m0 d0 : Nat} {p0 q0 : Int} (h0 : QV w a0 n0 c0 b0 m0 d0 p0 q0 B) (hb : B ≤ 10000000) :
    Calls Tryz.prog 44 #[.agg #[.slice a0 n0 c0, .slice b0 m0 d0]] w fun e w' => ∃ a k d, e = .returned (.agg #[.slice a k d]) ∧ NatO w' a k d (p0 * U36 / q0) ∧ k ≤ 4 * B + 160 ∧ Below w.heap.size w w' := by
  obtain ⟨x0, y0, g0, k0, E0⟩ := h0.ex
  have u0 := cd_pos k0.nonneg
  have t := tDownR g0 k0 h0.hn h0.hm hb
  rw [cross_div (a := cn x0 y0 * U36) (p := p0 * U36) (by rw [Int.mul_right_comm, E0, Int.mul_right_comm]) u0 h0.q0] at t
  exact t
end Go.Proofs.YtjihgkanbhccpaaGreatDoor

namespace Go.Proofs.YtjihgkanbhccpaaGreatDoor
open Go.RowKit Lim

theorem NatA.lt64 {w : World} {a : Option Addr} {n c : Nat} {x : Int} (h : NatA w a n c x) {s : Nat} (hn : n ≤ s) : x < 18446744073709551616 ^ s := by
  obtain ⟨b, o, l, h1, h2, h3, h4, rfl⟩ := h.ex
  have := val_lt h3
  rw [h1] at this
  have := pow_mono64 hn
  omega
theorem RatL.lt {w : World} {ao : Option Addr} {l : List (Int × Int)} {B : Nat} (h : RatL w ao l B) : ∀ v ∈ l, (0 ≤ v.1 ∧ v.1 < 18446744073709551616 ^ B) ∧ 0 ≤ v.2 ∧ v.2 < 18446744073709551616 ^ B := by
  intro v hv
  obtain ⟨i, hi, rfl⟩ := List.getElem_of_mem hv
  obtain ⟨b, o, a0, n0, c0, a1, n1, c1, e, h1, h2, h3, h4, h5, h6⟩ := h.get i hi
  exact ⟨⟨h3.nonneg, h3.lt64 h5⟩, h4.nonneg, h4.lt64 h6⟩
theorem pow64_pos (s : Nat) : (0 : Int) < 18446744073709551616 ^ s := Int.pow_pos (by decide)
theorem step_lt {p q x y : Int} {e : Nat} (hp : p < 18446744073709551616 ^ e) (hq : q < 18446744073709551616 ^ e) (hx0 : 0 ≤ x) (hx : x < 18446744073709551616 ^ 12) (hy0 : 0 ≤ y) (hy : y < 18446744073709551616 ^ 12) :
    p * cd y + cn x y * q < 18446744073709551616 ^ (e + 13) ∧ q * cd y < 18446744073709551616 ^ (e + 13) := by
  have c1 : 0 < cd y := cd_pos hy0
  have c2 : 0 ≤ cn x y := cn_nonneg y hx0
  have c3 : cd y ≤ 18446744073709551616 ^ 12 := by unfold cd; split <;> omega
  have c4 : cn x y ≤ 18446744073709551616 ^ 12 := by unfold cn; split <;> omega
  have hE := pow64_pos e
  have e1 : (18446744073709551616 : Int) ^ (e + 13) = 18446744073709551616 ^ e * 18446744073709551616 ^ 12 * 18446744073709551616 := by
    rw [Int.pow_succ, Int.pow_add]
  rw [e1]
  generalize (18446744073709551616 : Int) ^ e = E at *
  generalize (18446744073709551616 : Int) ^ 12 = F at *
  have f1 : p * cd y ≤ E * F := Int.mul_le_mul (Int.le_of_lt hp) c3 (Int.le_of_lt c1) (Int.le_of_lt hE)
  have f2 : cn x y * q ≤ E * F := by
    rw [Int.mul_comm]
    exact Int.mul_le_mul (Int.le_of_lt hq) c4 c2 (Int.le_of_lt hE)
  have f3 : q * cd y ≤ E * F := Int.mul_le_mul (Int.le_of_lt hq) c3 (Int.le_of_lt c1) (Int.le_of_lt hE)
  have f4 : 0 < E * F := Int.mul_pos hE (by omega)
  constructor <;> omega
theorem rsum_lt (l : List (Int × Int)) (h : ∀ v ∈ l, (0 ≤ v.1 ∧ v.1 < 18446744073709551616 ^ 12) ∧ 0 ≤ v.2 ∧ v.2 < 18446744073709551616 ^ 12) :
    ∀ k, k ≤ l.length → (0 ≤ (rsum (l.take k)).1 ∧ (rsum (l.take k)).1 < 18446744073709551616 ^ (13 * k + 1)) ∧ 0 < (rsum (l.take k)).2 ∧ (rsum (l.take k)).2 < 18446744073709551616 ^ (13 * k + 1) := by
  intro k
  induction k with
  | zero => intro _; simp [rsum]
  | succ k ih =>
    intro hk
    obtain ⟨⟨i1, i2⟩, i3, i4⟩ := ih (by omega)
    obtain ⟨⟨j1, j2⟩, j3, j4⟩ := h (l[k]'(by omega)) (List.getElem_mem _)
    rw [rsum_step l k (by omega)]
    simp only [rstep]
    obtain ⟨s1, s2⟩ := step_lt i2 i4 j1 j2 j3 j4
    rw [show 13 * (k + 1) + 1 = 13 * k + 1 + 13 by omega]
    exact ⟨⟨Int.add_nonneg (Int.mul_nonneg i1 (Int.le_of_lt (cd_pos j3))) (Int.mul_nonneg (cn_nonneg _ j1) (Int.le_of_lt i3)), s1⟩, Int.mul_pos i3 (cd_pos j3), s2⟩
theorem load_rat_at {w : World} {b o : Nat} {a0 a1 : Option Addr} {n0 c0 n1 c1 : Nat} (q1 : w.cell? ⟨b, o, none⟩ = some (.slice a0 n0 c0)) (q2 : w.cell? ⟨b, o + 1, none⟩ = some (.slice a1 n1 c1)) : (loadVar 30 ⟨b, o, none⟩).run Tryz.prog w = .ok (.agg #[.slice a0 n0 c0, .slice a1 n1 c1]) w := by
  go_simp
theorem idx_rat {w : World} {a : Act} {o : Oper} {x k : Nat} {b f n c m : Nat} (ho : o.op = .indexAddr 22 (.tmp x) (.tmp k)) (hx : a.eval (.tmp x) = .slice (some ⟨b, f, none⟩) n c) (hk : a.eval (.tmp k) = .int .i64 (m : Int)) (h : m < n) :
    (execOp a.eval o).run Tryz.prog w = .ok (.value (.pointer (some ⟨b, f + m * 2, none⟩))) w := by
  have hm : (m : Int) < n := by omega
  have t : (Instr.indexAt 22 (.slice (some ⟨b, f, none⟩) n c) (.int .i64 (m : Int))).run Tryz.prog w = .ok (.pointer (some ⟨b, f + m * 2, none⟩)) w := by
    go_simp
  simp only [execOp, ho, hx, hk]
  simp [t]
set_option maxHeartbeats 4000000 in
set_option maxRecDepth 100000 in
theorem tSum {w : World} {ao : Option Addr} {n c : Nat} {l : List (Int × Int)} (hl : l.length = n) (hn : n ≤ 12) (h : RatL w ao l 12) :
    Calls Tryz.prog 52 #[.slice ao n c] w fun e w' => ∃ a k d a' k' d', e = .returned (.agg #[.slice a k d, .slice a' k' d']) ∧ QR w' a k d a' k' d' (rsum l).1 (rsum l).2 200 ∧ Below w.heap.size w w' := by
  have HLT : Hid (∀ k, k ≤ n → (rsum (l.take k)).1 < 18446744073709551616 ^ 200 ∧ (rsum (l.take k)).2 < 18446744073709551616 ^ 200) := by
    intro k hk
    obtain ⟨⟨_, i2⟩, _, i4⟩ := rsum_lt l h.lt k (by omega)
    have := pow_mono64 (show 13 * k + 1 ≤ 200 by omega)
    constructor <;> omega
  have HB := below_alloc w (.cells #[.slice none 0 0, .slice none 0 0] 30)
  have X4 := box_new w [.slice none 0 0, .slice none 0 0] 30
  replace h := h.keep HB
  go_enter Tryz.func52, Tryz.ntmps52
  go_wp2_with fail
  refine (tOfNat (B := 2) (natO_nil _).a (by omega) (by omega) (by omega)).mono ?_
  rintro e w1 ⟨A, K, D, A', K', D', rfl, O1, hB⟩
  replace X4 := X4.keep hB
  replace h := h.keep hB
  replace HB := joinB HB hB
  have hg4 := X4.lt
  clear hB
  have BA := below_alloc w1 (.cells #[.slice A K D, .slice A' K' D'] 30)
  have X5 := box_new w1 [.slice A K D, .slice A' K' D'] 30
  replace O1 := (O1.keep BA).up (C := 200) (by omega)
  go_wp2_with fail
  go_loopw [4] (fun ti wr => ∃ (k : Nat) (P : Option Addr) (L M : Nat) (P' : Option Addr) (L' M' : Nat), k ≤ n ∧ ti = .int .i64 k ∧ Box wr w1.heap.size [.slice P L M, .slice P' L' M'] 30 ∧ QR wr P L M P' L' M' (rsum (l.take k)).1 (rsum (l.take k)).2 200 ∧ Below w1.heap.size w1 wr) (fun ti _ => n - (intOf ti).toNat)
  case atStart => exact ⟨0, A, K, D, A', K', D', Nat.zero_le _, rfl, X5, O1, BA⟩
  case round =>
    clear BA X5 O1
    obtain ⟨k, P, L, M, P', L', M', hk, rfl, X5, N1, BW⟩ := hrel
    by_cases hlt : k < n
    · have hi : k < l.length := by omega
      obtain ⟨b, o, a0, n0, c0, a1, n1, c1, rfl, q1, q2, E1, E2, hn0, hn1⟩ := h.get k hi
      have HS : Hid (rsum (l.take (k + 1)) = rstep (rsum (l.take k)) l[k]) := rsum_step l k hi
      have HQ : Hid ((rsum (l.take (k + 1))).1 < 18446744073709551616 ^ 200 ∧ (rsum (l.take (k + 1))).2 < 18446744073709551616 ^ 200) := HLT.out (k + 1) (by omega)
      have hk0 : (k : Int) < n := by omega
      have EV := (qv_in E1 E2 hn0 hn1).keep BW
      generalize l[k] = ev at *
      obtain ⟨x1, y1⟩ := ev
      replace HS : Hid (rsum (l.take (k + 1)) = ((rsum (l.take k)).1 * cd y1 + cn x1 y1 * (rsum (l.take k)).2, (rsum (l.take k)).2 * cd y1)) := HS.out
      go_wp2_with fail
      refine rg_start (S := fun w' => Below w1.heap.size w1 w') (by kernel_rfl) BW.drew ?_
      replace X5 := X5.drew
      replace N1 := N1.drew
      replace EV := EV.drew
      have hS := BW.drew
      clear BW
      refine rg_take 1 (some 13) (.slice (some ⟨b, o, none⟩) n c) (by kernel_rfl) (fun _ _ => by kernel_rfl) (fun _ _ _ h => h) hS ?_
      refine rg_take 2 (some 14) (.int .i64 k) (by kernel_rfl) (fun _ _ => by kernel_rfl) (fun _ _ _ h => h) hS ?_
      refine rg_take 3 (some 15) (.pointer (some ⟨b, o + k * 2, none⟩)) (by kernel_rfl) (fun _ _ => idx_rat rfl rfl rfl hlt) (fun _ _ _ h => h) hS ?_
      refine rg_load 4 (some 16) (.agg #[.slice a0 n0 c0, .slice a1 n1 c1]) 30 15 b (o + k * 2) (by kernel_rfl) (by kernel_rfl) (by kernel_rfl) (fun _ hb => load_rat_at (by rw [hb.cell (p := ⟨b, o + k * 2, none⟩) (cell_lt q1)]; exact q1) (by rw [hb.cell (p := ⟨b, o + k * 2 + 1, none⟩) (cell_lt q2)]; exact q2)) (fun _ _ _ h => h) hS ?_
      refine rg_ready [0] (by kernel_rfl) (by simp) ?_
      refine ar_load 0 (some 12) (.agg #[.slice P L M, .slice P' L' M']) 30 3 w1.heap.size 0 (by kernel_rfl) (by kernel_rfl) (by kernel_rfl) (load_rat X5) hS ?_ ar_nil
      refine rg_ready [5] (by kernel_rfl) (by simp) ?_
      refine ar_call 5 (some 17) 50 #[.agg #[.slice P L M, .slice P' L' M'], .agg #[.slice a0 n0 c0, .slice a1 n1 c1]] (by kernel_rfl) (by kernel_rfl) (tAdd N1.v (EV.up (by omega)) (by omega)) ?_ ar_nil
      rintro e w2 ⟨F, G, H, F', G', H', rfl, T1, hB⟩
      have hg5 := X5.lt
      refine ⟨_, rfl, hS.trans (hB.mono (by omega)), ?_⟩
      replace hS := hS.trans (hB.mono (by omega))
      have HT : QR w2 F G H F' G' H' (rsum (l.take (k + 1))).1 (rsum (l.take (k + 1))).2 200 := by
        obtain ⟨t1, t2⟩ := HQ.out
        rw [HS.out] at t1 t2 ⊢
        exact T1.shrink t1 t2
      replace X5 := X5.keep hB
      clear hB T1 N1 EV HS HQ
      refine rg_ready [6] (by kernel_rfl) (by simp) ?_
      refine ar_store 6 30 30 3 17 w1.heap.size [.slice P L M, .slice P' L' M'] [.slice F G H, .slice F' G' H'] (by kernel_rfl) (by kernel_rfl) (by kernel_rfl) (by kernel_rfl) X5 (by kernel_rfl) rfl (by kernel_rfl) ?_ ar_nil
      intro w3 Y hw hB
      refine ⟨hS.trans hB, ?_⟩
      have BW := hS.trans hB
      replace HT := HT.blk X5 (no_ints2 _ _ _ _ _ _) hw
      clear hB hw hS X5 hg5
      refine rg_done (by kernel_rfl) ?_
      try simp only [Act.put, List.setIfInBounds_toArray, List.set_cons_zero, List.set_cons_succ]
      go_wp2
      go_roundw
      case rel => exact ⟨k + 1, F, G, H, F', G', H', by omega, by go_num, Y, HT, BW⟩
      case measure => simp [intOf]; omega
    · have hkn : k = n := by omega
      subst hkn
      have HT : QR wr P L M P' L' M' (rsum l).1 (rsum l).2 200 := by
        have h3 := N1
        rw [List.take_of_length_le (by omega)] at h3
        exact h3
      have hX4 := X4.keep BW
      obtain ⟨j1, j2, j3, j4⟩ := X5.cells2
      obtain ⟨i1, i2, i3, i4⟩ := hX4.cells2
      have S2 := hX4.put2 (.slice P L M) (.slice P' L' M')
      have Q1 := HT.blk hX4 (no_ints2 _ _ _ _ _ _) (fun k hk => set2_other wr w.heap.size (.slice P L M) (.slice P' L' M') k hk)
      have HB2 := below_put2 (joinB HB BW) (g := w.heap.size) (Nat.le_refl _) (.slice P L M) (.slice P' L' M')
      clear N1 X4 hX4 X5 HB BW HT
      go_wp2
      refine bodyPost_ret (ret_rat rfl rfl S2) rfl ?_
      exact ⟨P, L, M, P', L', M', rfl, Q1, HB2⟩
end Go.Proofs.YtjihgkanbhccpaaGreatDoor
