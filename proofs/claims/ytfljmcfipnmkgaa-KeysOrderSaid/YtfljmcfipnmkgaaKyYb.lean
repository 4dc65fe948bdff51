/- gleanlaw7.KeysOrder, path 2. -/
import Derived.Test.YtfljmcfipnmkgaaKyY
namespace Go.Proofs.Ytfljmcfipnmkgaa
namespace Ky
open Go.RowKit Go.Lib Pg
attribute [local go_sem] Oper.semAt_some
set_option maxHeartbeats 4000000 in
set_option maxRecDepth 100000 in
theorem ko2_no {w : World} {kind other a b c d : Int} {m m2 : Nat} (hm : m < 17) (hm2 : m2 < 17) (hp : plk kind 17 = m) (hp2 : plk other 17 = m2) (ha : U64 a) (hc : U64 c) (hE1 : mkE (1 + (m : Int)) a b = true) (hE : mkE (1 + (m : Int)) a 0 = false) (hF : mkE (1 + (m2 : Int)) c d = true) :
    Calls Try.prog 5 #[.int .i64 kind, .int .i64 other, .int .u64 a, .int .u64 b, .int .u64 c, .int .u64 d] w fun e w' => e = .returned (.bool true) ∧ Below w.heap.size w w' := by
  have t1 := kknown_any (w := w)
  have p1 := fun w => place_val kind 17 (by decide) (by decide) w
  have p2 := fun w => place_val other 17 (by decide) (by decide) w
  rw [hp] at p1
  rw [hp2] at p2
  have u1 := fun w => make_no (w := w) ha hE1
  have z0 : U64 0 := by decide
  have u3 := fun w => make_ok (w := w) ha hE
  have r3 := fun w ao n c h => read_ok (w := w) (ao := ao) (n := n) (c := c) hm ha z0 hE h
  have u4 := fun w => make_no (w := w) hc hF
  have LX : (mk (1 + (m : Int)) a 0).length ≤ 1000 := by have := mk_len (1 + (m : Int)) a 0; omega
  have LY : (mk (1 + (m2 : Int)) c d).length ≤ 1000 := by have := mk_len (1 + (m2 : Int)) c d; omega
  generalize hX : (mk (1 + (m : Int)) a 0) = lx at *
  generalize hY : (mk (1 + (m2 : Int)) c d) = ly at *
  replace LX := hid2 LX
  replace LY := hid2 LY
  clear hX hY hp hp2 ha hc hE hF z0 hE1
  go_enter Try.func5, Try.ntmps5
  go_wp2_with first
    | (go_at_call 7; refine t1.mono ?_; rintro e w1 ⟨rfl, B1⟩)
    | (go_at_call 17; have gate := p1; clear gate; go_must (refine (p1 _).mono ?_); clear p1; rintro e w2 ⟨rfl, rfl⟩)
    | (go_at_call 17; go_must (refine (p2 _).mono ?_); rintro e w2 ⟨rfl, rfl⟩)
    | (go_at_call 18; have gate := u1; clear gate; go_must (refine (u1 _).mono ?_); clear u1; rintro e x1 ⟨a1, c1, rfl, D1⟩; replace B1 := joinB B1 D1; clear D1)
    | (go_at_call 18; have gate := u3; clear gate; go_must (refine (u3 _).mono ?_); clear u3; rintro e x3 ⟨a3, n3, c3, rfl, O3, D3⟩; replace B1 := joinB B1 D3; clear D3)
    | (go_at_call 18; have gate := u4; clear gate; go_must (refine (u4 _).mono ?_); clear u4; rintro e x4 ⟨a4, c4, rfl, D4⟩; replace B1 := joinB B1 D4; replace O3 := O3.keep D4; clear D4)
    | (go_at_call 13; go_must (refine (r3 _ _ _ _ O3).mono ?_); rintro e x5 ⟨rfl, D5⟩; have DA := below_alloc x5 (.cells #[.int .i64 (1 + (m : Int)), .int .u64 a, .int .u64 0] 30); have qk := blk_new x5 [.int .i64 (1 + (m : Int)), .int .u64 a, .int .u64 0] 30; have k0 := qk.cell (i := 0) rfl; have k1 := qk.cell (i := 1) rfl; have k2 := qk.cell (i := 2) rfl; replace O3 := (O3.keep D5).keep DA; replace B1 := joinB (joinB B1 D5) DA; clear D5 DA qk)
  go_ret
  exact ⟨by first | rfl | (simp; done) | (simp; omega), B1⟩
set_option maxHeartbeats 4000000 in
set_option maxRecDepth 100000 in
theorem ko2_same10 {w : World} {kind other a b : Int}  (hp : plk kind 17 = 9) (hp2 : plk other 17 = 9) (ha : U64 a) (hE1 : mkE 10 a b = true) (hE : mkE 10 a 0 = false) (hF : mkE 10 a 0 = false) (hL : decide (Lt (mk 10 a 0) (mk 10 a 0)) = false) :
    Calls Try.prog 5 #[.int .i64 kind, .int .i64 other, .int .u64 a, .int .u64 b, .int .u64 a, .int .u64 0] w fun e w' => e = .returned (.bool true) ∧ Below w.heap.size w w' := by
  have t1 := kknown_any (w := w)
  have p1 := fun w => place_val kind 17 (by decide) (by decide) w
  have p2 := fun w => place_val other 17 (by decide) (by decide) w
  rw [hp] at p1
  rw [hp2] at p2
  have u1 := fun w => make_no (w := w) ha hE1
  have z0 : U64 0 := by decide
  have u3 := fun w => make_ok (w := w) ha hE
  have r3 := fun w ao n c h => read_ok10 (w := w) (ao := ao) (n := n) (c := c) ha z0 hE h
  have u4 := fun w => make_ok (w := w) ha hF
  have LX : (mk 10 a 0).length ≤ 1000 := by have := mk_len 10 a 0; omega
  have LY : (mk 10 a 0).length ≤ 1000 := by have := mk_len 10 a 0; omega
  generalize hX : (mk 10 a 0) = lx at *
  replace LX := hid2 LX
  replace hL := hid2 hL
  clear hX hp hp2 ha hE hF z0 hE1 LY
  go_enter Try.func5, Try.ntmps5
  go_wp2_with first
    | (go_at_call 7; refine t1.mono ?_; rintro e w1 ⟨rfl, B1⟩)
    | (go_at_call 17; have gate := p1; clear gate; go_must (refine (p1 _).mono ?_); clear p1; rintro e w2 ⟨rfl, rfl⟩)
    | (go_at_call 17; go_must (refine (p2 _).mono ?_); rintro e w2 ⟨rfl, rfl⟩)
    | (go_at_call 18; have gate := u1; clear gate; go_must (refine (u1 _).mono ?_); clear u1; rintro e x1 ⟨a1, c1, rfl, D1⟩; replace B1 := joinB B1 D1; clear D1)
    | (go_at_call 18; have gate := u3; clear gate; go_must (refine (u3 _).mono ?_); clear u3; rintro e x3 ⟨a3, n3, c3, rfl, O3, D3⟩; replace B1 := joinB B1 D3; clear D3)
    | (go_at_call 18; have gate := u4; clear gate; go_must (refine (u4 _).mono ?_); clear u4; rintro e x4 ⟨a4, n4, c4, rfl, O4, D4⟩; replace B1 := joinB B1 D4; replace O3 := O3.keep D4; clear D4)
    | (go_at_call 13; go_must (refine (r3 _ _ _ _ O3).mono ?_); rintro e x5 ⟨rfl, D5⟩; have DA := below_alloc x5 (.cells #[.int .i64 10, .int .u64 a, .int .u64 0] 30); have qk := blk_new x5 [.int .i64 10, .int .u64 a, .int .u64 0] 30; have k0 := qk.cell (i := 0) rfl; have k1 := qk.cell (i := 1) rfl; have k2 := qk.cell (i := 2) rfl; replace O3 := (O3.keep D5).keep DA; replace B1 := joinB (joinB B1 D5) DA; clear D5 DA qk)
    | (go_at_call 9; go_must (refine (bytes_is O3 O4 LX.out LX.out (decide_eq_true rfl)).mono ?_); rintro e x6 ⟨rfl, D6⟩; replace O3 := O3.keep D6; replace O4 := O4.keep D6; replace B1 := joinB B1 D6; clear D6)
    | (go_at_call 20; go_must (refine (less_is O3 O4 LX.out hL.out).mono ?_); rintro e x6 ⟨rfl, D6⟩; replace O3 := O3.keep D6; replace O4 := O4.keep D6; replace B1 := joinB B1 D6; clear D6)
  go_ret
  exact ⟨by first | rfl | (simp; done) | (simp; omega), B1⟩
set_option maxHeartbeats 4000000 in
set_option maxRecDepth 100000 in
theorem ko2_same {w : World} {kind other a b : Int} {m : Nat} (hm : m < 17) (hp : plk kind 17 = m) (hp2 : plk other 17 = m) (ha : U64 a) (hE1 : mkE (1 + (m : Int)) a b = true) (hE : mkE (1 + (m : Int)) a 0 = false) (hF : mkE (1 + (m : Int)) a 0 = false) (hten : ¬ m = 9) (hL : decide (Lt (mk (1 + (m : Int)) a 0) (mk (1 + (m : Int)) a 0)) = false) :
    Calls Try.prog 5 #[.int .i64 kind, .int .i64 other, .int .u64 a, .int .u64 b, .int .u64 a, .int .u64 0] w fun e w' => e = .returned (.bool true) ∧ Below w.heap.size w w' := by
  have t1 := kknown_any (w := w)
  have p1 := fun w => place_val kind 17 (by decide) (by decide) w
  have p2 := fun w => place_val other 17 (by decide) (by decide) w
  rw [hp] at p1
  rw [hp2] at p2
  have u1 := fun w => make_no (w := w) ha hE1
  have z0 : U64 0 := by decide
  have u3 := fun w => make_ok (w := w) ha hE
  have r3 := fun w ao n c h => read_ok (w := w) (ao := ao) (n := n) (c := c) hm ha z0 hE h
  have u4 := fun w => make_ok (w := w) ha hF
  have LX : (mk (1 + (m : Int)) a 0).length ≤ 1000 := by have := mk_len (1 + (m : Int)) a 0; omega
  have LY : (mk (1 + (m : Int)) a 0).length ≤ 1000 := by have := mk_len (1 + (m : Int)) a 0; omega
  have q3 : ¬ (1 + (m : Int) = 10) := by omega
  generalize hX : (mk (1 + (m : Int)) a 0) = lx at *
  replace LX := hid2 LX
  replace hL := hid2 hL
  clear hX hp hp2 ha hE hF z0 hE1 hten LY
  go_enter Try.func5, Try.ntmps5
  go_wp2_with first
    | (go_at_call 7; refine t1.mono ?_; rintro e w1 ⟨rfl, B1⟩)
    | (go_at_call 17; have gate := p1; clear gate; go_must (refine (p1 _).mono ?_); clear p1; rintro e w2 ⟨rfl, rfl⟩)
    | (go_at_call 17; go_must (refine (p2 _).mono ?_); rintro e w2 ⟨rfl, rfl⟩)
    | (go_at_call 18; have gate := u1; clear gate; go_must (refine (u1 _).mono ?_); clear u1; rintro e x1 ⟨a1, c1, rfl, D1⟩; replace B1 := joinB B1 D1; clear D1)
    | (go_at_call 18; have gate := u3; clear gate; go_must (refine (u3 _).mono ?_); clear u3; rintro e x3 ⟨a3, n3, c3, rfl, O3, D3⟩; replace B1 := joinB B1 D3; clear D3)
    | (go_at_call 18; have gate := u4; clear gate; go_must (refine (u4 _).mono ?_); clear u4; rintro e x4 ⟨a4, n4, c4, rfl, O4, D4⟩; replace B1 := joinB B1 D4; replace O3 := O3.keep D4; clear D4)
    | (go_at_call 13; go_must (refine (r3 _ _ _ _ O3).mono ?_); rintro e x5 ⟨rfl, D5⟩; have DA := below_alloc x5 (.cells #[.int .i64 (1 + (m : Int)), .int .u64 a, .int .u64 0] 30); have qk := blk_new x5 [.int .i64 (1 + (m : Int)), .int .u64 a, .int .u64 0] 30; have k0 := qk.cell (i := 0) rfl; have k1 := qk.cell (i := 1) rfl; have k2 := qk.cell (i := 2) rfl; replace O3 := (O3.keep D5).keep DA; replace B1 := joinB (joinB B1 D5) DA; clear D5 DA qk)
    | (go_at_call 9; go_must (refine (bytes_is O3 O4 LX.out LX.out (decide_eq_true rfl)).mono ?_); rintro e x6 ⟨rfl, D6⟩; replace O3 := O3.keep D6; replace O4 := O4.keep D6; replace B1 := joinB B1 D6; clear D6)
    | (go_at_call 20; go_must (refine (less_is O3 O4 LX.out hL.out).mono ?_); rintro e x6 ⟨rfl, D6⟩; replace O3 := O3.keep D6; replace O4 := O4.keep D6; replace B1 := joinB B1 D6; clear D6)
  go_ret
  exact ⟨by first | rfl | (simp; done) | (simp; omega), B1⟩
set_option maxHeartbeats 4000000 in
set_option maxRecDepth 100000 in
theorem ko2_kinds {w : World} {kind other a b c d : Int} {m m2 : Nat} (hm : m < 17) (hm2 : m2 < 17) (hp : plk kind 17 = m) (hp2 : plk other 17 = m2) (ha : U64 a) (hc : U64 c) (hE1 : mkE (1 + (m : Int)) a b = true) (hE : mkE (1 + (m : Int)) a 0 = false) (hF : mkE (1 + (m2 : Int)) c d = false) (hne : ¬ m = m2) (hxy : ¬ (mk (1 + (m : Int)) a 0) = (mk (1 + (m2 : Int)) c d)) (hp1 : ¬ (mk (1 + (m : Int)) a 0) <+: (mk (1 + (m2 : Int)) c d)) (hp3 : ¬ (mk (1 + (m2 : Int)) c d) <+: (mk (1 + (m : Int)) a 0)) :
    Calls Try.prog 5 #[.int .i64 kind, .int .i64 other, .int .u64 a, .int .u64 b, .int .u64 c, .int .u64 d] w fun e w' => e = .returned (.bool true) ∧ Below w.heap.size w w' := by
  have t1 := kknown_any (w := w)
  have p1 := fun w => place_val kind 17 (by decide) (by decide) w
  have p2 := fun w => place_val other 17 (by decide) (by decide) w
  rw [hp] at p1
  rw [hp2] at p2
  have u1 := fun w => make_no (w := w) ha hE1
  have z0 : U64 0 := by decide
  have u3 := fun w => make_ok (w := w) ha hE
  have r3 := fun w ao n c h => read_ok (w := w) (ao := ao) (n := n) (c := c) hm ha z0 hE h
  have u4 := fun w => make_ok (w := w) hc hF
  have LX : (mk (1 + (m : Int)) a 0).length ≤ 1000 := by have := mk_len (1 + (m : Int)) a 0; omega
  have LY : (mk (1 + (m2 : Int)) c d).length ≤ 1000 := by have := mk_len (1 + (m2 : Int)) c d; omega
  have e1 := decide_eq_false hxy
  have e2 := decide_eq_false hp1
  have e3 := decide_eq_false hp3
  have q0 : ¬ (1 + (m : Int) = 1 + (m2 : Int)) := by omega
  generalize hX : (mk (1 + (m : Int)) a 0) = lx at *
  generalize hY : (mk (1 + (m2 : Int)) c d) = ly at *
  replace LX := hid2 LX
  replace LY := hid2 LY
  replace e1 := hid2 e1
  replace e2 := hid2 e2
  replace e3 := hid2 e3
  clear hX hY hp hp2 ha hc hE hF z0 hE1 hxy hp1 hp3
  go_enter Try.func5, Try.ntmps5
  go_wp2_with first
    | (go_at_call 7; refine t1.mono ?_; rintro e w1 ⟨rfl, B1⟩)
    | (go_at_call 17; have gate := p1; clear gate; go_must (refine (p1 _).mono ?_); clear p1; rintro e w2 ⟨rfl, rfl⟩)
    | (go_at_call 17; go_must (refine (p2 _).mono ?_); rintro e w2 ⟨rfl, rfl⟩)
    | (go_at_call 18; have gate := u1; clear gate; go_must (refine (u1 _).mono ?_); clear u1; rintro e x1 ⟨a1, c1, rfl, D1⟩; replace B1 := joinB B1 D1; clear D1)
    | (go_at_call 18; have gate := u3; clear gate; go_must (refine (u3 _).mono ?_); clear u3; rintro e x3 ⟨a3, n3, c3, rfl, O3, D3⟩; replace B1 := joinB B1 D3; clear D3)
    | (go_at_call 18; have gate := u4; clear gate; go_must (refine (u4 _).mono ?_); clear u4; rintro e x4 ⟨a4, n4, c4, rfl, O4, D4⟩; replace B1 := joinB B1 D4; replace O3 := O3.keep D4; clear D4)
    | (go_at_call 13; go_must (refine (r3 _ _ _ _ O3).mono ?_); rintro e x5 ⟨rfl, D5⟩; have DA := below_alloc x5 (.cells #[.int .i64 (1 + (m : Int)), .int .u64 a, .int .u64 0] 30); have qk := blk_new x5 [.int .i64 (1 + (m : Int)), .int .u64 a, .int .u64 0] 30; have k0 := qk.cell (i := 0) rfl; have k1 := qk.cell (i := 1) rfl; have k2 := qk.cell (i := 2) rfl; replace O3 := (O3.keep D5).keep DA; replace B1 := joinB (joinB B1 D5) DA; clear D5 DA qk)
    | (go_at_call 9; go_must (refine (bytes_is O3 O4 LX.out LY.out e1.out).mono ?_); rintro e x6 ⟨rfl, D6⟩; replace O3 := O3.keep D6; replace O4 := O4.keep D6; replace B1 := joinB B1 D6; clear D6)
    | (go_at_call 19; have gate := e3; clear gate; go_must (refine (begins_is O3 O4 LY.out e3.out).mono ?_); clear e3; rintro e x6 ⟨rfl, D6⟩; replace O3 := O3.keep D6; replace O4 := O4.keep D6; replace B1 := joinB B1 D6; clear D6)
    | (go_at_call 19; go_must (refine (begins_is O4 O3 LX.out e2.out).mono ?_); rintro e x6 ⟨rfl, D6⟩; replace O3 := O3.keep D6; replace O4 := O4.keep D6; replace B1 := joinB B1 D6; clear D6)
  go_ret
  exact ⟨by first | rfl | (simp; done) | (simp; omega), B1⟩
set_option maxHeartbeats 4000000 in
set_option maxRecDepth 100000 in
theorem ko2_lt10 {w : World} {kind other a b c d : Int}  (hp : plk kind 17 = 9) (hp2 : plk other 17 = 9) (ha : U64 a) (hc : U64 c) (hE1 : mkE 10 a b = true) (hE : mkE 10 a 0 = false) (hF : mkE 10 c d = false) (hlt : a < c) (hxy : ¬ (mk 10 a 0) = (mk 10 c d)) (hp1 : ¬ (mk 10 a 0) <+: (mk 10 c d)) (hp3 : ¬ (mk 10 c d) <+: (mk 10 a 0)) (hL : decide (Lt (mk 10 a 0) (mk 10 c d)) = false) :
    Calls Try.prog 5 #[.int .i64 kind, .int .i64 other, .int .u64 a, .int .u64 b, .int .u64 c, .int .u64 d] w fun e w' => e = .returned (.bool true) ∧ Below w.heap.size w w' := by
  have t1 := kknown_any (w := w)
  have p1 := fun w => place_val kind 17 (by decide) (by decide) w
  have p2 := fun w => place_val other 17 (by decide) (by decide) w
  rw [hp] at p1
  rw [hp2] at p2
  have u1 := fun w => make_no (w := w) ha hE1
  have z0 : U64 0 := by decide
  have u3 := fun w => make_ok (w := w) ha hE
  have r3 := fun w ao n c h => read_ok10 (w := w) (ao := ao) (n := n) (c := c) ha z0 hE h
  have u4 := fun w => make_ok (w := w) hc hF
  have LX : (mk 10 a 0).length ≤ 1000 := by have := mk_len 10 a 0; omega
  have LY : (mk 10 c d).length ≤ 1000 := by have := mk_len 10 c d; omega
  have e1 := decide_eq_false hxy
  have e2 := decide_eq_false hp1
  have e3 := decide_eq_false hp3
  have q1 : ¬ (a = c) := by omega
  have q2 : ¬ (c < a) := by omega
  generalize hX : (mk 10 a 0) = lx at *
  generalize hY : (mk 10 c d) = ly at *
  replace LX := hid2 LX
  replace LY := hid2 LY
  replace e1 := hid2 e1
  replace e2 := hid2 e2
  replace e3 := hid2 e3
  replace hL := hid2 hL
  clear hX hY hp hp2 ha hc hE hF z0 hE1 hxy hp1 hp3
  go_enter Try.func5, Try.ntmps5
  go_wp2_with first
    | (go_at_call 7; refine t1.mono ?_; rintro e w1 ⟨rfl, B1⟩)
    | (go_at_call 17; have gate := p1; clear gate; go_must (refine (p1 _).mono ?_); clear p1; rintro e w2 ⟨rfl, rfl⟩)
    | (go_at_call 17; go_must (refine (p2 _).mono ?_); rintro e w2 ⟨rfl, rfl⟩)
    | (go_at_call 18; have gate := u1; clear gate; go_must (refine (u1 _).mono ?_); clear u1; rintro e x1 ⟨a1, c1, rfl, D1⟩; replace B1 := joinB B1 D1; clear D1)
    | (go_at_call 18; have gate := u3; clear gate; go_must (refine (u3 _).mono ?_); clear u3; rintro e x3 ⟨a3, n3, c3, rfl, O3, D3⟩; replace B1 := joinB B1 D3; clear D3)
    | (go_at_call 18; have gate := u4; clear gate; go_must (refine (u4 _).mono ?_); clear u4; rintro e x4 ⟨a4, n4, c4, rfl, O4, D4⟩; replace B1 := joinB B1 D4; replace O3 := O3.keep D4; clear D4)
    | (go_at_call 13; go_must (refine (r3 _ _ _ _ O3).mono ?_); rintro e x5 ⟨rfl, D5⟩; have DA := below_alloc x5 (.cells #[.int .i64 10, .int .u64 a, .int .u64 0] 30); have qk := blk_new x5 [.int .i64 10, .int .u64 a, .int .u64 0] 30; have k0 := qk.cell (i := 0) rfl; have k1 := qk.cell (i := 1) rfl; have k2 := qk.cell (i := 2) rfl; replace O3 := (O3.keep D5).keep DA; replace B1 := joinB (joinB B1 D5) DA; clear D5 DA qk)
    | (go_at_call 9; go_must (refine (bytes_is O3 O4 LX.out LY.out e1.out).mono ?_); rintro e x6 ⟨rfl, D6⟩; replace O3 := O3.keep D6; replace O4 := O4.keep D6; replace B1 := joinB B1 D6; clear D6)
    | (go_at_call 19; have gate := e3; clear gate; go_must (refine (begins_is O3 O4 LY.out e3.out).mono ?_); clear e3; rintro e x6 ⟨rfl, D6⟩; replace O3 := O3.keep D6; replace O4 := O4.keep D6; replace B1 := joinB B1 D6; clear D6)
    | (go_at_call 19; go_must (refine (begins_is O4 O3 LX.out e2.out).mono ?_); rintro e x6 ⟨rfl, D6⟩; replace O3 := O3.keep D6; replace O4 := O4.keep D6; replace B1 := joinB B1 D6; clear D6)
    | (go_at_call 20; go_must (refine (less_is O3 O4 LX.out hL.out).mono ?_); rintro e x6 ⟨rfl, D6⟩; replace O3 := O3.keep D6; replace O4 := O4.keep D6; replace B1 := joinB B1 D6; clear D6)
  go_ret
  exact ⟨by first | rfl | (simp; done) | (simp; omega), B1⟩
set_option maxHeartbeats 4000000 in
set_option maxRecDepth 100000 in
theorem ko2_lt {w : World} {kind other a b c d : Int} {m : Nat} (hm : m < 17) (hp : plk kind 17 = m) (hp2 : plk other 17 = m) (ha : U64 a) (hc : U64 c) (hE1 : mkE (1 + (m : Int)) a b = true) (hE : mkE (1 + (m : Int)) a 0 = false) (hF : mkE (1 + (m : Int)) c d = false) (hlt : a < c) (hten : ¬ m = 9) (hxy : ¬ (mk (1 + (m : Int)) a 0) = (mk (1 + (m : Int)) c d)) (hp1 : ¬ (mk (1 + (m : Int)) a 0) <+: (mk (1 + (m : Int)) c d)) (hp3 : ¬ (mk (1 + (m : Int)) c d) <+: (mk (1 + (m : Int)) a 0)) (hL : decide (Lt (mk (1 + (m : Int)) a 0) (mk (1 + (m : Int)) c d)) = true) :
    Calls Try.prog 5 #[.int .i64 kind, .int .i64 other, .int .u64 a, .int .u64 b, .int .u64 c, .int .u64 d] w fun e w' => e = .returned (.bool true) ∧ Below w.heap.size w w' := by
  have t1 := kknown_any (w := w)
  have p1 := fun w => place_val kind 17 (by decide) (by decide) w
  have p2 := fun w => place_val other 17 (by decide) (by decide) w
  rw [hp] at p1
  rw [hp2] at p2
  have u1 := fun w => make_no (w := w) ha hE1
  have z0 : U64 0 := by decide
  have u3 := fun w => make_ok (w := w) ha hE
  have r3 := fun w ao n c h => read_ok (w := w) (ao := ao) (n := n) (c := c) hm ha z0 hE h
  have u4 := fun w => make_ok (w := w) hc hF
  have LX : (mk (1 + (m : Int)) a 0).length ≤ 1000 := by have := mk_len (1 + (m : Int)) a 0; omega
  have LY : (mk (1 + (m : Int)) c d).length ≤ 1000 := by have := mk_len (1 + (m : Int)) c d; omega
  have e1 := decide_eq_false hxy
  have e2 := decide_eq_false hp1
  have e3 := decide_eq_false hp3
  have q1 : ¬ (a = c) := by omega
  have q2 : ¬ (c < a) := by omega
  have q3 : ¬ (1 + (m : Int) = 10) := by omega
  generalize hX : (mk (1 + (m : Int)) a 0) = lx at *
  generalize hY : (mk (1 + (m : Int)) c d) = ly at *
  replace LX := hid2 LX
  replace LY := hid2 LY
  replace e1 := hid2 e1
  replace e2 := hid2 e2
  replace e3 := hid2 e3
  replace hL := hid2 hL
  clear hX hY hp hp2 ha hc hE hF z0 hE1 hxy hp1 hp3 hten
  go_enter Try.func5, Try.ntmps5
  go_wp2_with first
    | (go_at_call 7; refine t1.mono ?_; rintro e w1 ⟨rfl, B1⟩)
    | (go_at_call 17; have gate := p1; clear gate; go_must (refine (p1 _).mono ?_); clear p1; rintro e w2 ⟨rfl, rfl⟩)
    | (go_at_call 17; go_must (refine (p2 _).mono ?_); rintro e w2 ⟨rfl, rfl⟩)
    | (go_at_call 18; have gate := u1; clear gate; go_must (refine (u1 _).mono ?_); clear u1; rintro e x1 ⟨a1, c1, rfl, D1⟩; replace B1 := joinB B1 D1; clear D1)
    | (go_at_call 18; have gate := u3; clear gate; go_must (refine (u3 _).mono ?_); clear u3; rintro e x3 ⟨a3, n3, c3, rfl, O3, D3⟩; replace B1 := joinB B1 D3; clear D3)
    | (go_at_call 18; have gate := u4; clear gate; go_must (refine (u4 _).mono ?_); clear u4; rintro e x4 ⟨a4, n4, c4, rfl, O4, D4⟩; replace B1 := joinB B1 D4; replace O3 := O3.keep D4; clear D4)
    | (go_at_call 13; go_must (refine (r3 _ _ _ _ O3).mono ?_); rintro e x5 ⟨rfl, D5⟩; have DA := below_alloc x5 (.cells #[.int .i64 (1 + (m : Int)), .int .u64 a, .int .u64 0] 30); have qk := blk_new x5 [.int .i64 (1 + (m : Int)), .int .u64 a, .int .u64 0] 30; have k0 := qk.cell (i := 0) rfl; have k1 := qk.cell (i := 1) rfl; have k2 := qk.cell (i := 2) rfl; replace O3 := (O3.keep D5).keep DA; replace B1 := joinB (joinB B1 D5) DA; clear D5 DA qk)
    | (go_at_call 9; go_must (refine (bytes_is O3 O4 LX.out LY.out e1.out).mono ?_); rintro e x6 ⟨rfl, D6⟩; replace O3 := O3.keep D6; replace O4 := O4.keep D6; replace B1 := joinB B1 D6; clear D6)
    | (go_at_call 19; have gate := e3; clear gate; go_must (refine (begins_is O3 O4 LY.out e3.out).mono ?_); clear e3; rintro e x6 ⟨rfl, D6⟩; replace O3 := O3.keep D6; replace O4 := O4.keep D6; replace B1 := joinB B1 D6; clear D6)
    | (go_at_call 19; go_must (refine (begins_is O4 O3 LX.out e2.out).mono ?_); rintro e x6 ⟨rfl, D6⟩; replace O3 := O3.keep D6; replace O4 := O4.keep D6; replace B1 := joinB B1 D6; clear D6)
    | (go_at_call 20; go_must (refine (less_is O3 O4 LX.out hL.out).mono ?_); rintro e x6 ⟨rfl, D6⟩; replace O3 := O3.keep D6; replace O4 := O4.keep D6; replace B1 := joinB B1 D6; clear D6)
  go_ret
  exact ⟨by first | rfl | (simp; done) | (simp; omega), B1⟩
set_option maxHeartbeats 4000000 in
set_option maxRecDepth 100000 in
theorem ko2_gt10 {w : World} {kind other a b c d : Int}  (hp : plk kind 17 = 9) (hp2 : plk other 17 = 9) (ha : U64 a) (hc : U64 c) (hE1 : mkE 10 a b = true) (hE : mkE 10 a 0 = false) (hF : mkE 10 c d = false) (hlt : c < a) (hxy : ¬ (mk 10 a 0) = (mk 10 c d)) (hp1 : ¬ (mk 10 a 0) <+: (mk 10 c d)) (hp3 : ¬ (mk 10 c d) <+: (mk 10 a 0)) (hL : decide (Lt (mk 10 a 0) (mk 10 c d)) = true) :
    Calls Try.prog 5 #[.int .i64 kind, .int .i64 other, .int .u64 a, .int .u64 b, .int .u64 c, .int .u64 d] w fun e w' => e = .returned (.bool true) ∧ Below w.heap.size w w' := by
  have t1 := kknown_any (w := w)
  have p1 := fun w => place_val kind 17 (by decide) (by decide) w
  have p2 := fun w => place_val other 17 (by decide) (by decide) w
  rw [hp] at p1
  rw [hp2] at p2
  have u1 := fun w => make_no (w := w) ha hE1
  have z0 : U64 0 := by decide
  have u3 := fun w => make_ok (w := w) ha hE
  have r3 := fun w ao n c h => read_ok10 (w := w) (ao := ao) (n := n) (c := c) ha z0 hE h
  have u4 := fun w => make_ok (w := w) hc hF
  have LX : (mk 10 a 0).length ≤ 1000 := by have := mk_len 10 a 0; omega
  have LY : (mk 10 c d).length ≤ 1000 := by have := mk_len 10 c d; omega
  have e1 := decide_eq_false hxy
  have e2 := decide_eq_false hp1
  have e3 := decide_eq_false hp3
  have q1 : ¬ (a = c) := by omega
  have q2 : ¬ (a < c) := by omega
  generalize hX : (mk 10 a 0) = lx at *
  generalize hY : (mk 10 c d) = ly at *
  replace LX := hid2 LX
  replace LY := hid2 LY
  replace e1 := hid2 e1
  replace e2 := hid2 e2
  replace e3 := hid2 e3
  replace hL := hid2 hL
  clear hX hY hp hp2 ha hc hE hF z0 hE1 hxy hp1 hp3
  go_enter Try.func5, Try.ntmps5
  go_wp2_with first
    | (go_at_call 7; refine t1.mono ?_; rintro e w1 ⟨rfl, B1⟩)
    | (go_at_call 17; have gate := p1; clear gate; go_must (refine (p1 _).mono ?_); clear p1; rintro e w2 ⟨rfl, rfl⟩)
    | (go_at_call 17; go_must (refine (p2 _).mono ?_); rintro e w2 ⟨rfl, rfl⟩)
    | (go_at_call 18; have gate := u1; clear gate; go_must (refine (u1 _).mono ?_); clear u1; rintro e x1 ⟨a1, c1, rfl, D1⟩; replace B1 := joinB B1 D1; clear D1)
    | (go_at_call 18; have gate := u3; clear gate; go_must (refine (u3 _).mono ?_); clear u3; rintro e x3 ⟨a3, n3, c3, rfl, O3, D3⟩; replace B1 := joinB B1 D3; clear D3)
    | (go_at_call 18; have gate := u4; clear gate; go_must (refine (u4 _).mono ?_); clear u4; rintro e x4 ⟨a4, n4, c4, rfl, O4, D4⟩; replace B1 := joinB B1 D4; replace O3 := O3.keep D4; clear D4)
    | (go_at_call 13; go_must (refine (r3 _ _ _ _ O3).mono ?_); rintro e x5 ⟨rfl, D5⟩; have DA := below_alloc x5 (.cells #[.int .i64 10, .int .u64 a, .int .u64 0] 30); have qk := blk_new x5 [.int .i64 10, .int .u64 a, .int .u64 0] 30; have k0 := qk.cell (i := 0) rfl; have k1 := qk.cell (i := 1) rfl; have k2 := qk.cell (i := 2) rfl; replace O3 := (O3.keep D5).keep DA; replace B1 := joinB (joinB B1 D5) DA; clear D5 DA qk)
    | (go_at_call 9; go_must (refine (bytes_is O3 O4 LX.out LY.out e1.out).mono ?_); rintro e x6 ⟨rfl, D6⟩; replace O3 := O3.keep D6; replace O4 := O4.keep D6; replace B1 := joinB B1 D6; clear D6)
    | (go_at_call 19; have gate := e3; clear gate; go_must (refine (begins_is O3 O4 LY.out e3.out).mono ?_); clear e3; rintro e x6 ⟨rfl, D6⟩; replace O3 := O3.keep D6; replace O4 := O4.keep D6; replace B1 := joinB B1 D6; clear D6)
    | (go_at_call 19; go_must (refine (begins_is O4 O3 LX.out e2.out).mono ?_); rintro e x6 ⟨rfl, D6⟩; replace O3 := O3.keep D6; replace O4 := O4.keep D6; replace B1 := joinB B1 D6; clear D6)
    | (go_at_call 20; go_must (refine (less_is O3 O4 LX.out hL.out).mono ?_); rintro e x6 ⟨rfl, D6⟩; replace O3 := O3.keep D6; replace O4 := O4.keep D6; replace B1 := joinB B1 D6; clear D6)
  go_ret
  exact ⟨by first | rfl | (simp; done) | (simp; omega), B1⟩
set_option maxHeartbeats 4000000 in
set_option maxRecDepth 100000 in
theorem ko2_gt {w : World} {kind other a b c d : Int} {m : Nat} (hm : m < 17) (hp : plk kind 17 = m) (hp2 : plk other 17 = m) (ha : U64 a) (hc : U64 c) (hE1 : mkE (1 + (m : Int)) a b = true) (hE : mkE (1 + (m : Int)) a 0 = false) (hF : mkE (1 + (m : Int)) c d = false) (hlt : c < a) (hten : ¬ m = 9) (hxy : ¬ (mk (1 + (m : Int)) a 0) = (mk (1 + (m : Int)) c d)) (hp1 : ¬ (mk (1 + (m : Int)) a 0) <+: (mk (1 + (m : Int)) c d)) (hp3 : ¬ (mk (1 + (m : Int)) c d) <+: (mk (1 + (m : Int)) a 0)) (hL : decide (Lt (mk (1 + (m : Int)) a 0) (mk (1 + (m : Int)) c d)) = false) :
    Calls Try.prog 5 #[.int .i64 kind, .int .i64 other, .int .u64 a, .int .u64 b, .int .u64 c, .int .u64 d] w fun e w' => e = .returned (.bool true) ∧ Below w.heap.size w w' := by
  have t1 := kknown_any (w := w)
  have p1 := fun w => place_val kind 17 (by decide) (by decide) w
  have p2 := fun w => place_val other 17 (by decide) (by decide) w
  rw [hp] at p1
  rw [hp2] at p2
  have u1 := fun w => make_no (w := w) ha hE1
  have z0 : U64 0 := by decide
  have u3 := fun w => make_ok (w := w) ha hE
  have r3 := fun w ao n c h => read_ok (w := w) (ao := ao) (n := n) (c := c) hm ha z0 hE h
  have u4 := fun w => make_ok (w := w) hc hF
  have LX : (mk (1 + (m : Int)) a 0).length ≤ 1000 := by have := mk_len (1 + (m : Int)) a 0; omega
  have LY : (mk (1 + (m : Int)) c d).length ≤ 1000 := by have := mk_len (1 + (m : Int)) c d; omega
  have e1 := decide_eq_false hxy
  have e2 := decide_eq_false hp1
  have e3 := decide_eq_false hp3
  have q1 : ¬ (a = c) := by omega
  have q2 : ¬ (a < c) := by omega
  have q3 : ¬ (1 + (m : Int) = 10) := by omega
  generalize hX : (mk (1 + (m : Int)) a 0) = lx at *
  generalize hY : (mk (1 + (m : Int)) c d) = ly at *
  replace LX := hid2 LX
  replace LY := hid2 LY
  replace e1 := hid2 e1
  replace e2 := hid2 e2
  replace e3 := hid2 e3
  replace hL := hid2 hL
  clear hX hY hp hp2 ha hc hE hF z0 hE1 hxy hp1 hp3 hten
  go_enter Try.func5, Try.ntmps5
  go_wp2_with first
    | (go_at_call 7; refine t1.mono ?_; rintro e w1 ⟨rfl, B1⟩)
    | (go_at_call 17; have gate := p1; clear gate; go_must (refine (p1 _).mono ?_); clear p1; rintro e w2 ⟨rfl, rfl⟩)
    | (go_at_call 17; go_must (refine (p2 _).mono ?_); rintro e w2 ⟨rfl, rfl⟩)
    | (go_at_call 18; have gate := u1; clear gate; go_must (refine (u1 _).mono ?_); clear u1; rintro e x1 ⟨a1, c1, rfl, D1⟩; replace B1 := joinB B1 D1; clear D1)
    | (go_at_call 18; have gate := u3; clear gate; go_must (refine (u3 _).mono ?_); clear u3; rintro e x3 ⟨a3, n3, c3, rfl, O3, D3⟩; replace B1 := joinB B1 D3; clear D3)
    | (go_at_call 18; have gate := u4; clear gate; go_must (refine (u4 _).mono ?_); clear u4; rintro e x4 ⟨a4, n4, c4, rfl, O4, D4⟩; replace B1 := joinB B1 D4; replace O3 := O3.keep D4; clear D4)
    | (go_at_call 13; go_must (refine (r3 _ _ _ _ O3).mono ?_); rintro e x5 ⟨rfl, D5⟩; have DA := below_alloc x5 (.cells #[.int .i64 (1 + (m : Int)), .int .u64 a, .int .u64 0] 30); have qk := blk_new x5 [.int .i64 (1 + (m : Int)), .int .u64 a, .int .u64 0] 30; have k0 := qk.cell (i := 0) rfl; have k1 := qk.cell (i := 1) rfl; have k2 := qk.cell (i := 2) rfl; replace O3 := (O3.keep D5).keep DA; replace B1 := joinB (joinB B1 D5) DA; clear D5 DA qk)
    | (go_at_call 9; go_must (refine (bytes_is O3 O4 LX.out LY.out e1.out).mono ?_); rintro e x6 ⟨rfl, D6⟩; replace O3 := O3.keep D6; replace O4 := O4.keep D6; replace B1 := joinB B1 D6; clear D6)
    | (go_at_call 19; have gate := e3; clear gate; go_must (refine (begins_is O3 O4 LY.out e3.out).mono ?_); clear e3; rintro e x6 ⟨rfl, D6⟩; replace O3 := O3.keep D6; replace O4 := O4.keep D6; replace B1 := joinB B1 D6; clear D6)
    | (go_at_call 19; go_must (refine (begins_is O4 O3 LX.out e2.out).mono ?_); rintro e x6 ⟨rfl, D6⟩; replace O3 := O3.keep D6; replace O4 := O4.keep D6; replace B1 := joinB B1 D6; clear D6)
    | (go_at_call 20; go_must (refine (less_is O3 O4 LX.out hL.out).mono ?_); rintro e x6 ⟨rfl, D6⟩; replace O3 := O3.keep D6; replace O4 := O4.keep D6; replace B1 := joinB B1 D6; clear D6)
  go_ret
  exact ⟨by first | rfl | (simp; done) | (simp; omega), B1⟩
set_option maxHeartbeats 4000000 in
set_option maxRecDepth 100000 in
theorem ko2_bs10 {w : World} {kind other a b d : Int}  (hp : plk kind 17 = 9) (hp2 : plk other 17 = 9) (ha : U64 a) (hE1 : mkE 10 a b = true) (hE : mkE 10 a 0 = false) (hF : mkE 10 a d = false) (hbd : ¬ 0 = d) (hxy : ¬ (mk 10 a 0) = (mk 10 a d)) (hp1 : ¬ (mk 10 a 0) <+: (mk 10 a d)) (hp3 : ¬ (mk 10 a d) <+: (mk 10 a 0)) (hL : decide (Lt (mk 10 a 0) (mk 10 a d)) = decide (0 < d)) :
    Calls Try.prog 5 #[.int .i64 kind, .int .i64 other, .int .u64 a, .int .u64 b, .int .u64 a, .int .u64 d] w fun e w' => e = .returned (.bool true) ∧ Below w.heap.size w w' := by
  have t1 := kknown_any (w := w)
  have p1 := fun w => place_val kind 17 (by decide) (by decide) w
  have p2 := fun w => place_val other 17 (by decide) (by decide) w
  rw [hp] at p1
  rw [hp2] at p2
  have u1 := fun w => make_no (w := w) ha hE1
  have z0 : U64 0 := by decide
  have u3 := fun w => make_ok (w := w) ha hE
  have r3 := fun w ao n c h => read_ok10 (w := w) (ao := ao) (n := n) (c := c) ha z0 hE h
  have u4 := fun w => make_ok (w := w) ha hF
  have LX : (mk 10 a 0).length ≤ 1000 := by have := mk_len 10 a 0; omega
  have LY : (mk 10 a d).length ≤ 1000 := by have := mk_len 10 a d; omega
  have e1 := decide_eq_false hxy
  have e2 := decide_eq_false hp1
  have e3 := decide_eq_false hp3
  generalize hX : (mk 10 a 0) = lx at *
  generalize hY : (mk 10 a d) = ly at *
  replace LX := hid2 LX
  replace LY := hid2 LY
  replace e1 := hid2 e1
  replace e2 := hid2 e2
  replace e3 := hid2 e3
  replace hL := hid2 hL
  clear hX hY hp hp2 ha hE hF z0 hE1 hxy hp1 hp3
  go_enter Try.func5, Try.ntmps5
  go_wp2_with first
    | (go_at_call 7; refine t1.mono ?_; rintro e w1 ⟨rfl, B1⟩)
    | (go_at_call 17; have gate := p1; clear gate; go_must (refine (p1 _).mono ?_); clear p1; rintro e w2 ⟨rfl, rfl⟩)
    | (go_at_call 17; go_must (refine (p2 _).mono ?_); rintro e w2 ⟨rfl, rfl⟩)
    | (go_at_call 18; have gate := u1; clear gate; go_must (refine (u1 _).mono ?_); clear u1; rintro e x1 ⟨a1, c1, rfl, D1⟩; replace B1 := joinB B1 D1; clear D1)
    | (go_at_call 18; have gate := u3; clear gate; go_must (refine (u3 _).mono ?_); clear u3; rintro e x3 ⟨a3, n3, c3, rfl, O3, D3⟩; replace B1 := joinB B1 D3; clear D3)
    | (go_at_call 18; have gate := u4; clear gate; go_must (refine (u4 _).mono ?_); clear u4; rintro e x4 ⟨a4, n4, c4, rfl, O4, D4⟩; replace B1 := joinB B1 D4; replace O3 := O3.keep D4; clear D4)
    | (go_at_call 13; go_must (refine (r3 _ _ _ _ O3).mono ?_); rintro e x5 ⟨rfl, D5⟩; have DA := below_alloc x5 (.cells #[.int .i64 10, .int .u64 a, .int .u64 0] 30); have qk := blk_new x5 [.int .i64 10, .int .u64 a, .int .u64 0] 30; have k0 := qk.cell (i := 0) rfl; have k1 := qk.cell (i := 1) rfl; have k2 := qk.cell (i := 2) rfl; replace O3 := (O3.keep D5).keep DA; replace B1 := joinB (joinB B1 D5) DA; clear D5 DA qk)
    | (go_at_call 9; go_must (refine (bytes_is O3 O4 LX.out LY.out e1.out).mono ?_); rintro e x6 ⟨rfl, D6⟩; replace O3 := O3.keep D6; replace O4 := O4.keep D6; replace B1 := joinB B1 D6; clear D6)
    | (go_at_call 19; have gate := e3; clear gate; go_must (refine (begins_is O3 O4 LY.out e3.out).mono ?_); clear e3; rintro e x6 ⟨rfl, D6⟩; replace O3 := O3.keep D6; replace O4 := O4.keep D6; replace B1 := joinB B1 D6; clear D6)
    | (go_at_call 19; go_must (refine (begins_is O4 O3 LX.out e2.out).mono ?_); rintro e x6 ⟨rfl, D6⟩; replace O3 := O3.keep D6; replace O4 := O4.keep D6; replace B1 := joinB B1 D6; clear D6)
    | (go_at_call 20; go_must (refine (less_is O3 O4 LX.out hL.out).mono ?_); rintro e x6 ⟨rfl, D6⟩; replace O3 := O3.keep D6; replace O4 := O4.keep D6; replace B1 := joinB B1 D6; clear D6)
  go_ret
  exact ⟨by first | rfl | (simp; done) | (simp; omega), B1⟩
set_option maxHeartbeats 4000000 in
set_option maxRecDepth 100000 in
theorem ko2_bs {w : World} {kind other a b d : Int} {m : Nat} (hm : m < 17) (hp : plk kind 17 = m) (hp2 : plk other 17 = m) (ha : U64 a) (hE1 : mkE (1 + (m : Int)) a b = true) (hE : mkE (1 + (m : Int)) a 0 = false) (hF : mkE (1 + (m : Int)) a d = false) (hbd : ¬ 0 = d) (hten : ¬ m = 9) (hxy : ¬ (mk (1 + (m : Int)) a 0) = (mk (1 + (m : Int)) a d)) (hp1 : ¬ (mk (1 + (m : Int)) a 0) <+: (mk (1 + (m : Int)) a d)) (hp3 : ¬ (mk (1 + (m : Int)) a d) <+: (mk (1 + (m : Int)) a 0)) (hL : decide (Lt (mk (1 + (m : Int)) a 0) (mk (1 + (m : Int)) a d)) = decide (0 < d)) :
    Calls Try.prog 5 #[.int .i64 kind, .int .i64 other, .int .u64 a, .int .u64 b, .int .u64 a, .int .u64 d] w fun e w' => e = .returned (.bool true) ∧ Below w.heap.size w w' := by
  have t1 := kknown_any (w := w)
  have p1 := fun w => place_val kind 17 (by decide) (by decide) w
  have p2 := fun w => place_val other 17 (by decide) (by decide) w
  rw [hp] at p1
  rw [hp2] at p2
  have u1 := fun w => make_no (w := w) ha hE1
  have z0 : U64 0 := by decide
  have u3 := fun w => make_ok (w := w) ha hE
  have r3 := fun w ao n c h => read_ok (w := w) (ao := ao) (n := n) (c := c) hm ha z0 hE h
  have u4 := fun w => make_ok (w := w) ha hF
  have LX : (mk (1 + (m : Int)) a 0).length ≤ 1000 := by have := mk_len (1 + (m : Int)) a 0; omega
  have LY : (mk (1 + (m : Int)) a d).length ≤ 1000 := by have := mk_len (1 + (m : Int)) a d; omega
  have e1 := decide_eq_false hxy
  have e2 := decide_eq_false hp1
  have e3 := decide_eq_false hp3
  have q3 : ¬ (1 + (m : Int) = 10) := by omega
  generalize hX : (mk (1 + (m : Int)) a 0) = lx at *
  generalize hY : (mk (1 + (m : Int)) a d) = ly at *
  replace LX := hid2 LX
  replace LY := hid2 LY
  replace e1 := hid2 e1
  replace e2 := hid2 e2
  replace e3 := hid2 e3
  replace hL := hid2 hL
  clear hX hY hp hp2 ha hE hF z0 hE1 hxy hp1 hp3 hten
  go_enter Try.func5, Try.ntmps5
  go_wp2_with first
    | (go_at_call 7; refine t1.mono ?_; rintro e w1 ⟨rfl, B1⟩)
    | (go_at_call 17; have gate := p1; clear gate; go_must (refine (p1 _).mono ?_); clear p1; rintro e w2 ⟨rfl, rfl⟩)
    | (go_at_call 17; go_must (refine (p2 _).mono ?_); rintro e w2 ⟨rfl, rfl⟩)
    | (go_at_call 18; have gate := u1; clear gate; go_must (refine (u1 _).mono ?_); clear u1; rintro e x1 ⟨a1, c1, rfl, D1⟩; replace B1 := joinB B1 D1; clear D1)
    | (go_at_call 18; have gate := u3; clear gate; go_must (refine (u3 _).mono ?_); clear u3; rintro e x3 ⟨a3, n3, c3, rfl, O3, D3⟩; replace B1 := joinB B1 D3; clear D3)
    | (go_at_call 18; have gate := u4; clear gate; go_must (refine (u4 _).mono ?_); clear u4; rintro e x4 ⟨a4, n4, c4, rfl, O4, D4⟩; replace B1 := joinB B1 D4; replace O3 := O3.keep D4; clear D4)
    | (go_at_call 13; go_must (refine (r3 _ _ _ _ O3).mono ?_); rintro e x5 ⟨rfl, D5⟩; have DA := below_alloc x5 (.cells #[.int .i64 (1 + (m : Int)), .int .u64 a, .int .u64 0] 30); have qk := blk_new x5 [.int .i64 (1 + (m : Int)), .int .u64 a, .int .u64 0] 30; have k0 := qk.cell (i := 0) rfl; have k1 := qk.cell (i := 1) rfl; have k2 := qk.cell (i := 2) rfl; replace O3 := (O3.keep D5).keep DA; replace B1 := joinB (joinB B1 D5) DA; clear D5 DA qk)
    | (go_at_call 9; go_must (refine (bytes_is O3 O4 LX.out LY.out e1.out).mono ?_); rintro e x6 ⟨rfl, D6⟩; replace O3 := O3.keep D6; replace O4 := O4.keep D6; replace B1 := joinB B1 D6; clear D6)
    | (go_at_call 19; have gate := e3; clear gate; go_must (refine (begins_is O3 O4 LY.out e3.out).mono ?_); clear e3; rintro e x6 ⟨rfl, D6⟩; replace O3 := O3.keep D6; replace O4 := O4.keep D6; replace B1 := joinB B1 D6; clear D6)
    | (go_at_call 19; go_must (refine (begins_is O4 O3 LX.out e2.out).mono ?_); rintro e x6 ⟨rfl, D6⟩; replace O3 := O3.keep D6; replace O4 := O4.keep D6; replace B1 := joinB B1 D6; clear D6)
    | (go_at_call 20; go_must (refine (less_is O3 O4 LX.out hL.out).mono ?_); rintro e x6 ⟨rfl, D6⟩; replace O3 := O3.keep D6; replace O4 := O4.keep D6; replace B1 := joinB B1 D6; clear D6)
  go_ret
  exact ⟨by first | rfl | (simp; done) | (simp; omega), B1⟩
end Ky
end Go.Proofs.Ytfljmcfipnmkgaa
