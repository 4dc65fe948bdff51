/- gleanlaw7.KeysNext: what is above all that begin so. -/
import Derived.Test.YtfljmcfipnmkgaaKyY
namespace Go.Proofs.Ytfljmcfipnmkgaa
namespace Ky
open Go.RowKit Go.Lib Pg
attribute [local go_sem] Oper.semAt_some
theorem nxt_len (l : List Int) : (nxt l).length ≤ l.length := by
  rcases last255 l with h1 | ⟨A, x, B, rfl, hx, hB⟩
  · rw [nxt_all h1]; simp
  · rw [nxt_eq hx hB]; simp
theorem next_is {w : World} {ao : Option Addr} {n c : Nat} {l : List Int} (h : By w (.slice ao n c) l) (hbig : n ≤ 1000) : Calls Try.prog 15 #[.slice ao n c] w fun e w' => ∃ a2 n2 c2, e = .returned (.slice a2 n2 c2) ∧ By w' (.slice a2 n2 c2) (nxt l) ∧ (nxt l ≠ [] → ¬ ((n2 : Int) = 0)) ∧ Below w.heap.size w w' := by
  refine (next_any h (by omega)).mono ?_
  rintro e w' ⟨v, rfl, O, b⟩
  obtain ⟨ao, c, rfl⟩ := OB.sh O
  exact ⟨ao, _, c, rfl, O.by, fun hne hz => hne (List.eq_nil_of_length_eq_zero (by omega)), b⟩
theorem next_no {w : World} {ao : Option Addr} {n c : Nat} {l : List Int} (h : By w (.slice ao n c) l) (hbig : n ≤ 1000) (hl : nxt l = []) : Calls Try.prog 15 #[.slice ao n c] w fun e w' => ∃ a2 c2, e = .returned (.slice a2 0 c2) ∧ Below w.heap.size w w' := by
  refine (next_any h (by omega)).mono ?_
  rw [hl]
  rintro e w' ⟨v, rfl, O, b⟩
  obtain ⟨ao, c, rfl⟩ := OB.sh O
  exact ⟨ao, c, rfl, b⟩
theorem frm_v : ∀ k : Nat, k < 9 → 6 ≤ k → (frm k).1 = 18 ∧ (frm k).2.1 = 118 := by decide +kernel
theorem v_make {w : World} {k : Nat} (h1 : 6 ≤ k) (h2 : k < 9) {a b : Int} (ha : U64 a) : Calls Try.prog 18 #[.agg #[.int .i64 k, .int .u64 a, .int .u64 b]] w fun e w' => ∃ ao n c, e = .returned (.tuple #[.slice ao n c, .int .i64 0]) ∧ By w' (.slice ao n c) (mk k a b) ∧ Below w.heap.size w w' :=
  make_ok ha ((mkE_eq (n := (frm k).1) (m0 := (frm k).2.1) (m1 := (frm k).2.2) rfl (by rw [(frm_v k h2 h1).1]; decide)).2 ⟨fun h => by rw [(frm_v k h2 h1).1] at h; omega, fun h => by rw [(frm_v k h2 h1).1] at h; omega⟩)
theorem v_under {w : World} {k : Nat} (h1 : 6 ≤ k) (h2 : k < 9) {a : Int} (ha : U64 a) : Calls Try.prog 21 #[.int .i64 k, .int .u64 a] w fun e w' => ∃ ao n c, e = .returned (.tuple #[.slice ao n c, .int .i64 0]) ∧ By w' (.slice ao n c) (mkb (frm k) (tn k a)) ∧ Below w.heap.size w w' := by
  refine (under_any (w := w) (k := k) ha.1 ha.2).mono ?_
  have h : 16 < (frm k).1 := by rw [(frm_v k h2 h1).1]; decide
  rw [if_pos h, if_pos h]
  rintro e w' ⟨v, rfl, O, b⟩
  obtain ⟨ao, c, rfl⟩ := OB.sh O
  exact ⟨ao, _, c, rfl, O.by, b⟩
theorem v_val {w : World} {x : Int} : Calls Try.prog 10 #[.int .u64 x] w fun e w' => ∃ ao n c, e = .returned (.slice ao n c) ∧ By w' (.slice ao n c) ([118] ++ be 8 x) ∧ Below w.heap.size w w' := by
  refine (val_any (w := w) (x := x)).mono ?_
  rintro e w' ⟨v, rfl, O, b⟩
  obtain ⟨ao, c, rfl⟩ := OB.sh O
  exact ⟨ao, _, c, rfl, O.by, b⟩
theorem v_pre1 (k : Nat) (a b : Int) : decide (mkb (frm k) (tn k a) <+: mk k a b) = true := decide_eq_true (by
  unfold mk; exact List.prefix_append _ _)
theorem v_pre2 (k : Nat) (h1 : 6 ≤ k) (h2 : k < 9) (a : Int) : decide (([118] ++ be 8 a) <+: mkb (frm k) (tn k a)) = true := decide_eq_true (by
  have hf := frm_v k h2 h1
  unfold mkb
  rw [hf.2, if_pos (by rw [hf.1]; decide), show tn k a = a by unfold tn; rw [if_neg (by omega)]]
  exact List.prefix_append _ _)
set_option maxHeartbeats 4000000 in
set_option maxRecDepth 100000 in
theorem kn_nil {w : World} {ba ca : Option Addr} {bn bc cn cc : Nat} {lb lc : List Int} {a n : Int} (hb : By w (.slice ba bn bc) lb) (hc : By w (.slice ca cn cc) lc) (ha : U64 a) (hbn : bn ≤ 500) (hcn : cn ≤ 500) (hN : nxt lb = []) :
    Calls Try.prog 6 #[.slice ba bn bc, .slice ca cn cc, .int .u64 a, .int .u64 n] w fun e w' => e = .returned (.bool true) ∧ Below w.heap.size w w' := by
  have t1 := kknown_any (w := w)
  have lb0 := (By.lens hb).1
  have lc0 := (By.lens hc).1
  have g1 : ¬ ((500 : Int) < bn) := by omega
  have g2 : ¬ ((500 : Int) < cn) := by omega
  have hall := hid2 (nxt_nil hN)
  replace hN := hid2 hN
  replace ha := hid2 ha
  have HB := hid2 hb
  have HC := hid2 hc
  clear hb hc lb0 lc0
  go_enter Try.func6, Try.ntmps6
  go_wp2_with first
    | (go_at_call 7; refine t1.mono ?_; rintro e w1 ⟨rfl, B1⟩; have XB := HB.out.keep B1; have XC := HC.out.keep B1; clear t1)
    | (go_at_call 15; go_must (refine (next_no XB (by omega) hN.out).mono ?_); rintro e w2 ⟨a2, c2, rfl, D2⟩; replace B1 := joinB B1 D2; replace XB := XB.keep D2; clear D2 XC)
  replace XB := hid2 XB
  replace B1 := hid2 B1
  go_loopw [10] (fun ti wr => ∃ k : Nat, k ≤ bn ∧ ti = .int .i64 k ∧ Hid (By wr (.slice ba bn bc) lb) ∧ Hid (Below w.heap.size w wr)) (fun ti _ => bn - (intOf ti).toNat)
  case atStart => exact ⟨0, Nat.zero_le _, rfl, XB, B1⟩
  case round =>
    obtain ⟨k, hk, rfl, HX, HY⟩ := hrel
    by_cases hlt : k < bn
    · obtain ⟨x, hx⟩ : ∃ x, lb[k]? = some x := ⟨lb[k]'(by have := (By.lens HB.out).1; omega), List.getElem?_eq_getElem _⟩
      have hx5 : x = 255 := hall.out x (List.mem_of_getElem? hx)
      subst hx5
      obtain ⟨p, q, rfl, c1⟩ := By.at HX.out hx
      have hk0 : (k : Int) < bn := by omega
      clear hx
      go_wp2
      go_roundw
      case rel => exact ⟨k + 1, by omega, by go_num, HX.out, HY.out⟩
      case measure => simp [intOf]; omega
    · have hk0 : ¬ ((k : Int) < bn) := by omega
      have B1 := HY.out
      clear HX HY XB
      go_wp2_with fail
      go_loopw [11] (fun ti wr => ∃ k : Nat, 6 ≤ k ∧ k ≤ 9 ∧ ti = .int .i64 k ∧ Hid (Below w.heap.size w wr)) (fun ti _ => 9 - (intOf ti).toNat)
      case atStart => exact ⟨6, by decide, by decide, rfl, B1⟩
      case round =>
        obtain ⟨k, hk1, hk2, rfl, HB⟩ := hrel
        by_cases hlt : k < 9
        · have u1 := fun w => v_make (w := w) (b := n) hk1 hlt ha.out
          have u2 := fun w => v_under (w := w) hk1 hlt ha.out
          have u3 := fun w => v_val (w := w) (x := a)
          have e1 := hid2 (v_pre1 k a n)
          have e2 := hid2 (v_pre2 k hk1 hlt a)
          have L1 : Hid ((mkb (frm k) (tn k a)).length ≤ 1000) := by have h := mkb_len (frm k) (tn k a); show _ ≤ _; omega
          have L2 : Hid (([118] ++ be 8 a).length ≤ 1000) := by show _ ≤ _; simp [be_length]
          have hk0 : (k : Int) ≤ 8 := by omega
          obtain ⟨l1, h1⟩ : ∃ l, mk k a n = l := ⟨_, rfl⟩
          obtain ⟨l2, h2⟩ : ∃ l, mkb (frm k) (tn k a) = l := ⟨_, rfl⟩
          obtain ⟨l3, h3⟩ : ∃ l, [118] ++ be 8 a = l := ⟨_, rfl⟩
          rw [h1] at u1 e1
          rw [h2] at u2 e1 e2 L1
          rw [h3] at u3 e2 L2
          have B2 := HB.out
          clear h1 h2 h3 HB
          go_wp2_with first
            | (go_at_call 18; go_must (refine (u1 _).mono ?_); rintro e y1 ⟨a1, n1, c1, rfl, O1, D1⟩; replace B2 := joinB B2 D1; clear D1)
            | (go_at_call 21; go_must (refine (u2 _).mono ?_); rintro e y2 ⟨a2, n2, c2, rfl, O2, D2⟩; replace O1 := O1.keep D2; replace B2 := joinB B2 D2; clear D2)
            | (go_at_call 19; have gate := e1; clear gate; go_must (refine (begins_is O1 O2 L1.out e1.out).mono ?_); clear e1; rintro e y3 ⟨rfl, D3⟩; replace O2 := O2.keep D3; replace B2 := joinB B2 D3; clear D3 O1)
            | (go_at_call 10; go_must (refine (u3 _).mono ?_); rintro e y4 ⟨a4, n4, c4, rfl, O4, D4⟩; replace O2 := O2.keep D4; replace B2 := joinB B2 D4; clear D4)
            | (go_at_call 19; go_must (refine (begins_is O2 O4 L2.out e2.out).mono ?_); rintro e y5 ⟨rfl, D5⟩; replace B2 := joinB B2 D5; clear D5 O2 O4)
          go_roundw
          case rel => exact ⟨k + 1, by omega, by omega, by go_num, B2⟩
          case measure => simp [intOf]; omega
        · have hk0 : ¬ ((k : Int) ≤ 8) := by omega
          have B2 := HB.out
          clear HB
          go_wp2
          go_ret
          exact ⟨rfl, B2⟩
set_option maxHeartbeats 4000000 in
set_option maxRecDepth 100000 in
theorem kn_pre {w : World} {ba ca : Option Addr} {bn bc cn cc : Nat} {lb lc : List Int} {a n : Int} (hb : By w (.slice ba bn bc) lb) (hc : By w (.slice ca cn cc) lc) (ha : U64 a) (hbn : bn ≤ 500) (hcn : cn ≤ 500) (hN : nxt lb ≠ []) (hP : lb <+: lc) :
    Calls Try.prog 6 #[.slice ba bn bc, .slice ca cn cc, .int .u64 a, .int .u64 n] w fun e w' => e = .returned (.bool true) ∧ Below w.heap.size w w' := by
  have t1 := kknown_any (w := w)
  have lb0 := (By.lens hb).1
  have lc0 := (By.lens hc).1
  have g1 : ¬ ((500 : Int) < bn) := by omega
  have g2 : ¬ ((500 : Int) < cn) := by omega
  have LB : Hid (lb.length ≤ 1000) := by show _ ≤ _; omega
  have LC : Hid (lc.length ≤ 1000) := by show _ ≤ _; omega
  have f1 := hid2 (decide_eq_true (lt_nxt hN))
  have f2 := hid2 (decide_eq_false (not_pre_nxt hN))
  have f3 := hid2 (decide_eq_true hP)
  have f4 := hid2 (decide_eq_true (pre_lt_nxt hN hP))
  clear hP
  replace hN := hid2 hN
  replace ha := hid2 ha
  have HB := hid2 hb
  have HC := hid2 hc
  clear hb hc lb0 lc0
  go_enter Try.func6, Try.ntmps6
  go_wp2_with first
    | (go_at_call 7; refine t1.mono ?_; rintro e w1 ⟨rfl, B1⟩; have XB := HB.out.keep B1; have XC := HC.out.keep B1; clear t1)
    | (go_at_call 15; go_must (refine (next_is XB (by omega)).mono ?_); rintro e w2 ⟨a2, n2, c2, rfl, O2, hn2, D2⟩; replace hn2 := hn2 hN.out; replace B1 := joinB B1 D2; replace XB := XB.keep D2; replace XC := XC.keep D2; clear D2)
    | (go_at_call 20; have gate := f1; clear gate; go_must (refine (less_is XB O2 LB.out f1.out).mono ?_); clear f1; rintro e w3 ⟨rfl, D3⟩; replace B1 := joinB B1 D3; replace XB := XB.keep D3; replace XC := XC.keep D3; replace O2 := O2.keep D3; clear D3)
    | (go_at_call 19; have gate := f2; clear gate; go_must (refine (begins_is O2 XB LB.out f2.out).mono ?_); clear f2; rintro e w3 ⟨rfl, D3⟩; replace B1 := joinB B1 D3; replace XB := XB.keep D3; replace XC := XC.keep D3; replace O2 := O2.keep D3; clear D3)
    | (go_at_call 19; go_must (refine (begins_is XC XB LB.out f3.out).mono ?_); rintro e w3 ⟨rfl, D3⟩; replace B1 := joinB B1 D3; replace XB := XB.keep D3; replace XC := XC.keep D3; replace O2 := O2.keep D3; clear D3)
    | (go_at_call 20; go_must (refine (less_is XC O2 LC.out f4.out).mono ?_); rintro e w3 ⟨rfl, D3⟩; replace B1 := joinB B1 D3; replace XB := XB.keep D3; replace XC := XC.keep D3; replace O2 := O2.keep D3; clear D3)
  replace B1 := hid2 B1
  clear XB XC O2
  go_loopw [11] (fun ti wr => ∃ k : Nat, 6 ≤ k ∧ k ≤ 9 ∧ ti = .int .i64 k ∧ Hid (Below w.heap.size w wr)) (fun ti _ => 9 - (intOf ti).toNat)
  case atStart => exact ⟨6, by decide, by decide, rfl, B1⟩
  case round =>
    obtain ⟨k, hk1, hk2, rfl, HB⟩ := hrel
    by_cases hlt : k < 9
    · have u1 := fun w => v_make (w := w) (b := n) hk1 hlt ha.out
      have u2 := fun w => v_under (w := w) hk1 hlt ha.out
      have u3 := fun w => v_val (w := w) (x := a)
      have e1 := hid2 (v_pre1 k a n)
      have e2 := hid2 (v_pre2 k hk1 hlt a)
      have L1 : Hid ((mkb (frm k) (tn k a)).length ≤ 1000) := by have h := mkb_len (frm k) (tn k a); show _ ≤ _; omega
      have L2 : Hid (([118] ++ be 8 a).length ≤ 1000) := by show _ ≤ _; simp [be_length]
      have hk0 : (k : Int) ≤ 8 := by omega
      obtain ⟨l1, h1⟩ : ∃ l, mk k a n = l := ⟨_, rfl⟩
      obtain ⟨l2, h2⟩ : ∃ l, mkb (frm k) (tn k a) = l := ⟨_, rfl⟩
      obtain ⟨l3, h3⟩ : ∃ l, [118] ++ be 8 a = l := ⟨_, rfl⟩
      rw [h1] at u1 e1
      rw [h2] at u2 e1 e2 L1
      rw [h3] at u3 e2 L2
      have B2 := HB.out
      clear h1 h2 h3 HB
      go_wp2_with first
        | (go_at_call 18; go_must (refine (u1 _).mono ?_); rintro e y1 ⟨a1, n1, c1, rfl, O1, D1⟩; replace B2 := joinB B2 D1; clear D1)
        | (go_at_call 21; go_must (refine (u2 _).mono ?_); rintro e y2 ⟨a2, n2, c2, rfl, O2, D2⟩; replace O1 := O1.keep D2; replace B2 := joinB B2 D2; clear D2)
        | (go_at_call 19; have gate := e1; clear gate; go_must (refine (begins_is O1 O2 L1.out e1.out).mono ?_); clear e1; rintro e y3 ⟨rfl, D3⟩; replace O2 := O2.keep D3; replace B2 := joinB B2 D3; clear D3 O1)
        | (go_at_call 10; go_must (refine (u3 _).mono ?_); rintro e y4 ⟨a4, n4, c4, rfl, O4, D4⟩; replace O2 := O2.keep D4; replace B2 := joinB B2 D4; clear D4)
        | (go_at_call 19; go_must (refine (begins_is O2 O4 L2.out e2.out).mono ?_); rintro e y5 ⟨rfl, D5⟩; replace B2 := joinB B2 D5; clear D5 O2 O4)
      go_roundw
      case rel => exact ⟨k + 1, by omega, by omega, by go_num, B2⟩
      case measure => simp [intOf]; omega
    · have hk0 : ¬ ((k : Int) ≤ 8) := by omega
      have B2 := HB.out
      clear HB
      go_wp2
      go_ret
      exact ⟨rfl, B2⟩
set_option maxHeartbeats 4000000 in
set_option maxRecDepth 100000 in
theorem kn_low {w : World} {ba ca : Option Addr} {bn bc cn cc : Nat} {lb lc : List Int} {a n : Int} (hb : By w (.slice ba bn bc) lb) (hc : By w (.slice ca cn cc) lc) (ha : U64 a) (hbn : bn ≤ 500) (hcn : cn ≤ 500) (hN : nxt lb ≠ []) (hP : ¬ lb <+: lc) (hQ : Lt lc lb) :
    Calls Try.prog 6 #[.slice ba bn bc, .slice ca cn cc, .int .u64 a, .int .u64 n] w fun e w' => e = .returned (.bool true) ∧ Below w.heap.size w w' := by
  have t1 := kknown_any (w := w)
  have lb0 := (By.lens hb).1
  have lc0 := (By.lens hc).1
  have g1 : ¬ ((500 : Int) < bn) := by omega
  have g2 : ¬ ((500 : Int) < cn) := by omega
  have LB : Hid (lb.length ≤ 1000) := by show _ ≤ _; omega
  have LC : Hid (lc.length ≤ 1000) := by show _ ≤ _; omega
  have f1 := hid2 (decide_eq_true (lt_nxt hN))
  have f2 := hid2 (decide_eq_false (not_pre_nxt hN))
  have f3 := hid2 (decide_eq_false hP)
  have f4 := hid2 (decide_eq_true hQ)
  clear hP hQ
  replace hN := hid2 hN
  replace ha := hid2 ha
  have HB := hid2 hb
  have HC := hid2 hc
  clear hb hc lb0 lc0
  go_enter Try.func6, Try.ntmps6
  go_wp2_with first
    | (go_at_call 7; refine t1.mono ?_; rintro e w1 ⟨rfl, B1⟩; have XB := HB.out.keep B1; have XC := HC.out.keep B1; clear t1)
    | (go_at_call 15; go_must (refine (next_is XB (by omega)).mono ?_); rintro e w2 ⟨a2, n2, c2, rfl, O2, hn2, D2⟩; replace hn2 := hn2 hN.out; replace B1 := joinB B1 D2; replace XB := XB.keep D2; replace XC := XC.keep D2; clear D2)
    | (go_at_call 20; have gate := f1; clear gate; go_must (refine (less_is XB O2 LB.out f1.out).mono ?_); clear f1; rintro e w3 ⟨rfl, D3⟩; replace B1 := joinB B1 D3; replace XB := XB.keep D3; replace XC := XC.keep D3; replace O2 := O2.keep D3; clear D3)
    | (go_at_call 19; have gate := f2; clear gate; go_must (refine (begins_is O2 XB LB.out f2.out).mono ?_); clear f2; rintro e w3 ⟨rfl, D3⟩; replace B1 := joinB B1 D3; replace XB := XB.keep D3; replace XC := XC.keep D3; replace O2 := O2.keep D3; clear D3)
    | (go_at_call 19; go_must (refine (begins_is XC XB LB.out f3.out).mono ?_); rintro e w3 ⟨rfl, D3⟩; replace B1 := joinB B1 D3; replace XB := XB.keep D3; replace XC := XC.keep D3; replace O2 := O2.keep D3; clear D3)
    | (go_at_call 20; go_must (refine (less_is XC XB LC.out f4.out).mono ?_); rintro e w3 ⟨rfl, D3⟩; replace B1 := joinB B1 D3; replace XB := XB.keep D3; replace XC := XC.keep D3; replace O2 := O2.keep D3; clear D3)
  replace B1 := hid2 B1
  clear XB XC O2
  go_loopw [11] (fun ti wr => ∃ k : Nat, 6 ≤ k ∧ k ≤ 9 ∧ ti = .int .i64 k ∧ Hid (Below w.heap.size w wr)) (fun ti _ => 9 - (intOf ti).toNat)
  case atStart => exact ⟨6, by decide, by decide, rfl, B1⟩
  case round =>
    obtain ⟨k, hk1, hk2, rfl, HB⟩ := hrel
    by_cases hlt : k < 9
    · have u1 := fun w => v_make (w := w) (b := n) hk1 hlt ha.out
      have u2 := fun w => v_under (w := w) hk1 hlt ha.out
      have u3 := fun w => v_val (w := w) (x := a)
      have e1 := hid2 (v_pre1 k a n)
      have e2 := hid2 (v_pre2 k hk1 hlt a)
      have L1 : Hid ((mkb (frm k) (tn k a)).length ≤ 1000) := by have h := mkb_len (frm k) (tn k a); show _ ≤ _; omega
      have L2 : Hid (([118] ++ be 8 a).length ≤ 1000) := by show _ ≤ _; simp [be_length]
      have hk0 : (k : Int) ≤ 8 := by omega
      obtain ⟨l1, h1⟩ : ∃ l, mk k a n = l := ⟨_, rfl⟩
      obtain ⟨l2, h2⟩ : ∃ l, mkb (frm k) (tn k a) = l := ⟨_, rfl⟩
      obtain ⟨l3, h3⟩ : ∃ l, [118] ++ be 8 a = l := ⟨_, rfl⟩
      rw [h1] at u1 e1
      rw [h2] at u2 e1 e2 L1
      rw [h3] at u3 e2 L2
      have B2 := HB.out
      clear h1 h2 h3 HB
      go_wp2_with first
        | (go_at_call 18; go_must (refine (u1 _).mono ?_); rintro e y1 ⟨a1, n1, c1, rfl, O1, D1⟩; replace B2 := joinB B2 D1; clear D1)
        | (go_at_call 21; go_must (refine (u2 _).mono ?_); rintro e y2 ⟨a2, n2, c2, rfl, O2, D2⟩; replace O1 := O1.keep D2; replace B2 := joinB B2 D2; clear D2)
        | (go_at_call 19; have gate := e1; clear gate; go_must (refine (begins_is O1 O2 L1.out e1.out).mono ?_); clear e1; rintro e y3 ⟨rfl, D3⟩; replace O2 := O2.keep D3; replace B2 := joinB B2 D3; clear D3 O1)
        | (go_at_call 10; go_must (refine (u3 _).mono ?_); rintro e y4 ⟨a4, n4, c4, rfl, O4, D4⟩; replace O2 := O2.keep D4; replace B2 := joinB B2 D4; clear D4)
        | (go_at_call 19; go_must (refine (begins_is O2 O4 L2.out e2.out).mono ?_); rintro e y5 ⟨rfl, D5⟩; replace B2 := joinB B2 D5; clear D5 O2 O4)
      go_roundw
      case rel => exact ⟨k + 1, by omega, by omega, by go_num, B2⟩
      case measure => simp [intOf]; omega
    · have hk0 : ¬ ((k : Int) ≤ 8) := by omega
      have B2 := HB.out
      clear HB
      go_wp2
      go_ret
      exact ⟨rfl, B2⟩
set_option maxHeartbeats 4000000 in
set_option maxRecDepth 100000 in
theorem kn_high {w : World} {ba ca : Option Addr} {bn bc cn cc : Nat} {lb lc : List Int} {a n : Int} (hb : By w (.slice ba bn bc) lb) (hc : By w (.slice ca cn cc) lc) (ha : U64 a) (hbn : bn ≤ 500) (hcn : cn ≤ 500) (hN : nxt lb ≠ []) (hP : ¬ lb <+: lc) (hQ : ¬ Lt lc lb) :
    Calls Try.prog 6 #[.slice ba bn bc, .slice ca cn cc, .int .u64 a, .int .u64 n] w fun e w' => e = .returned (.bool true) ∧ Below w.heap.size w w' := by
  have t1 := kknown_any (w := w)
  have lb0 := (By.lens hb).1
  have lc0 := (By.lens hc).1
  have g1 : ¬ ((500 : Int) < bn) := by omega
  have g2 : ¬ ((500 : Int) < cn) := by omega
  have LB : Hid (lb.length ≤ 1000) := by show _ ≤ _; omega
  have LC : Hid (lc.length ≤ 1000) := by show _ ≤ _; omega
  have f1 := hid2 (decide_eq_true (lt_nxt hN))
  have f2 := hid2 (decide_eq_false (not_pre_nxt hN))
  have f3 := hid2 (decide_eq_false hP)
  have f4 := hid2 (decide_eq_false hQ)
  have f5 := hid2 (decide_eq_false (not_lt_nxt hc.oct hP hQ))
  clear hP hQ
  replace hN := hid2 hN
  replace ha := hid2 ha
  have HB := hid2 hb
  have HC := hid2 hc
  clear hb hc lb0 lc0
  go_enter Try.func6, Try.ntmps6
  go_wp2_with first
    | (go_at_call 7; refine t1.mono ?_; rintro e w1 ⟨rfl, B1⟩; have XB := HB.out.keep B1; have XC := HC.out.keep B1; clear t1)
    | (go_at_call 15; go_must (refine (next_is XB (by omega)).mono ?_); rintro e w2 ⟨a2, n2, c2, rfl, O2, hn2, D2⟩; replace hn2 := hn2 hN.out; replace B1 := joinB B1 D2; replace XB := XB.keep D2; replace XC := XC.keep D2; clear D2)
    | (go_at_call 20; have gate := f1; clear gate; go_must (refine (less_is XB O2 LB.out f1.out).mono ?_); clear f1; rintro e w3 ⟨rfl, D3⟩; replace B1 := joinB B1 D3; replace XB := XB.keep D3; replace XC := XC.keep D3; replace O2 := O2.keep D3; clear D3)
    | (go_at_call 19; have gate := f2; clear gate; go_must (refine (begins_is O2 XB LB.out f2.out).mono ?_); clear f2; rintro e w3 ⟨rfl, D3⟩; replace B1 := joinB B1 D3; replace XB := XB.keep D3; replace XC := XC.keep D3; replace O2 := O2.keep D3; clear D3)
    | (go_at_call 19; go_must (refine (begins_is XC XB LB.out f3.out).mono ?_); rintro e w3 ⟨rfl, D3⟩; replace B1 := joinB B1 D3; replace XB := XB.keep D3; replace XC := XC.keep D3; replace O2 := O2.keep D3; clear D3)
    | (go_at_call 20; have gate := f4; clear gate; go_must (refine (less_is XC XB LC.out f4.out).mono ?_); clear f4; rintro e w3 ⟨rfl, D3⟩; replace B1 := joinB B1 D3; replace XB := XB.keep D3; replace XC := XC.keep D3; replace O2 := O2.keep D3; clear D3)
    | (go_at_call 20; go_must (refine (less_is XC O2 LC.out f5.out).mono ?_); rintro e w3 ⟨rfl, D3⟩; replace B1 := joinB B1 D3; replace XB := XB.keep D3; replace XC := XC.keep D3; replace O2 := O2.keep D3; clear D3)
  replace B1 := hid2 B1
  clear XB XC O2
  go_loopw [11] (fun ti wr => ∃ k : Nat, 6 ≤ k ∧ k ≤ 9 ∧ ti = .int .i64 k ∧ Hid (Below w.heap.size w wr)) (fun ti _ => 9 - (intOf ti).toNat)
  case atStart => exact ⟨6, by decide, by decide, rfl, B1⟩
  case round =>
    obtain ⟨k, hk1, hk2, rfl, HB⟩ := hrel
    by_cases hlt : k < 9
    · have u1 := fun w => v_make (w := w) (b := n) hk1 hlt ha.out
      have u2 := fun w => v_under (w := w) hk1 hlt ha.out
      have u3 := fun w => v_val (w := w) (x := a)
      have e1 := hid2 (v_pre1 k a n)
      have e2 := hid2 (v_pre2 k hk1 hlt a)
      have L1 : Hid ((mkb (frm k) (tn k a)).length ≤ 1000) := by have h := mkb_len (frm k) (tn k a); show _ ≤ _; omega
      have L2 : Hid (([118] ++ be 8 a).length ≤ 1000) := by show _ ≤ _; simp [be_length]
      have hk0 : (k : Int) ≤ 8 := by omega
      obtain ⟨l1, h1⟩ : ∃ l, mk k a n = l := ⟨_, rfl⟩
      obtain ⟨l2, h2⟩ : ∃ l, mkb (frm k) (tn k a) = l := ⟨_, rfl⟩
      obtain ⟨l3, h3⟩ : ∃ l, [118] ++ be 8 a = l := ⟨_, rfl⟩
      rw [h1] at u1 e1
      rw [h2] at u2 e1 e2 L1
      rw [h3] at u3 e2 L2
      have B2 := HB.out
      clear h1 h2 h3 HB
      go_wp2_with first
        | (go_at_call 18; go_must (refine (u1 _).mono ?_); rintro e y1 ⟨a1, n1, c1, rfl, O1, D1⟩; replace B2 := joinB B2 D1; clear D1)
        | (go_at_call 21; go_must (refine (u2 _).mono ?_); rintro e y2 ⟨a2, n2, c2, rfl, O2, D2⟩; replace O1 := O1.keep D2; replace B2 := joinB B2 D2; clear D2)
        | (go_at_call 19; have gate := e1; clear gate; go_must (refine (begins_is O1 O2 L1.out e1.out).mono ?_); clear e1; rintro e y3 ⟨rfl, D3⟩; replace O2 := O2.keep D3; replace B2 := joinB B2 D3; clear D3 O1)
        | (go_at_call 10; go_must (refine (u3 _).mono ?_); rintro e y4 ⟨a4, n4, c4, rfl, O4, D4⟩; replace O2 := O2.keep D4; replace B2 := joinB B2 D4; clear D4)
        | (go_at_call 19; go_must (refine (begins_is O2 O4 L2.out e2.out).mono ?_); rintro e y5 ⟨rfl, D5⟩; replace B2 := joinB B2 D5; clear D5 O2 O4)
      go_roundw
      case rel => exact ⟨k + 1, by omega, by omega, by go_num, B2⟩
      case measure => simp [intOf]; omega
    · have hk0 : ¬ ((k : Int) ≤ 8) := by omega
      have B2 := HB.out
      clear HB
      go_wp2
      go_ret
      exact ⟨rfl, B2⟩
end Ky
end Go.Proofs.Ytfljmcfipnmkgaa
