/- gleanlaw4.EncReads: every script of a Reader over all bytes. -/
import Derived.Test.YtapnhfppjefnfaaJra
namespace Go.Proofs.Ytapnhfppjefnfaa
open Go.RowKit Lim

theorem rg_turn {ops : Array Oper} {Q : Exit → Act → World → Prop} {S S' : World → Prop} (hs : ∀ w, S' w → S w) : ∀ {fuel : Nat} {listed : Array Bool} {a : Act} {w : World}, wpAnyH Try.prog .any ops Q S' fuel listed a w → wpAnyH Try.prog .any ops Q S fuel listed a w
  | 0, _, _, _, h => h
  | _ + 1, _, _, _, h => ⟨h.1, fun i hi => wpOp_mono (fun _ _ h' => ⟨hs _ h'.1, rg_turn hs h'.2⟩) (h.2 i hi)⟩
theorem StepsA.cellsR {w : World} {n i b o : Nat} {ss : List Stp} {s : Stp} (h : StepsA w (some ⟨b, o, none⟩) n ss) (hs : ss[i]? = some s) : StpC w b (o + i * 5) s := by
  obtain ⟨b', o', e, h2, _⟩ := h.get i s hs
  cases e
  exact h2
theorem step_ofR {w : World} {ao : Option Addr} {n k : Nat} {ss : List Stp} {s : Stp} (S : StepsA w ao n ss) (h : ss[k]? = some s) : StpA w s := by
  obtain ⟨_, _, _, _, h3⟩ := S.get k s h
  exact h3
theorem ld_step {w : World} {b o : Nat} {s : Stp} (h : StpC w b o s) : (loadVar 32 ⟨b, o, none⟩).run Try.prog w = .ok (.agg #[.int .i64 s.what, .int .u64 s.num, .slice s.na s.nn s.nc, .slice s.ba s.bn s.bc, .int .i64 s.most]) w := by
  obtain ⟨c0, c1, c2, c3, c4⟩ := h
  go_simp
theorem ld_err {w : World} {g o : Nat} {x : Int} (hc : w.cell? ⟨g, o, none⟩ = some (.int .i64 x)) : (loadVar 3 ⟨g, o, none⟩).run Try.prog w = .ok (.int .i64 x) w := by go_simp
theorem run_idx {a : Act} {w : World} {op : Oper} {x y k n c b o : Nat} (ho : op.op = .indexAddr 23 (.tmp x) (.tmp y)) (hx : a.eval (.tmp x) = .slice (some ⟨b, o, none⟩) n c) (hy : a.eval (.tmp y) = .int .i64 (k : Int)) (hk : (k : Int) < n) : (execOp a.eval op).run Try.prog w = .ok (.value (.pointer (some ⟨b, o + k * 5, none⟩))) w := by
  simp only [execOp, ho, hx, hy]
  go_simp
set_option maxHeartbeats 4000000 in
set_option maxRecDepth 100000 in
theorem encReads_walk {w : World} {b n0 c0 n c : Nat} {a0 ao : Option Addr} {L0 : List Int} {ss : List Stp} (A0 : ByA w b a0 n0 c0 L0) (S : StepsA w ao n ss) :
    Calls Try.prog 8 #[.slice a0 n0 c0, .slice ao n c] w fun e w' => e = .returned (.bool true) ∧ Below w.heap.size w w' := by
  have HS := (show Hid _ from S)
  have HA := (show Hid _ from A0)
  obtain ⟨ob, hl0, hnc, ⟨hcm, hnil⟩, hoct, hat⟩ := A0.ex
  have HL := (show Hid _ from hl0)
  have HNIL := (show Hid _ from hnil)
  have HOCT := (show Hid _ from hoct)
  have HAT := (show Hid _ from hat)
  have hle' : (n : Int) ≤ 9223372036854775807 := by have := S.le; omega
  clear S A0 hl0 hnil hoct hat
  go_enter Try.func8, Try.ntmps8
  go_wp2_with fail
  refine (knownE w).mono ?_
  rintro e w1 ⟨rfl, hB⟩
  replace hB := (show Hid _ from hB)
  go_wp2_with fail
  refine (light_any (c := c) (HS.out.keep hB.out)).mono ?_
  rintro e w2 ⟨rfl, hB2⟩
  replace hB := (show Hid _ from joinB hB.out hB2)
  clear hB2
  by_cases hlt : n + heavy ss ≤ 3000
  · rw [decide_eq_true hlt]
    by_cases hb : (n0 : Int) ≤ 3000
    · have hq : ((3000 : Int) < n0) = False := eq_false (by omega)
      clear hlt
      go_wp2_with fail
      refine (copyBytes_any a0 n0 c0 b ob L0 w2 HL.out (by omega) HNIL.out (HAT.out.keep hB.out)).mono ?_
      rintro e w3 ⟨v3, rfl, M3, b3⟩
      have SZ2 := (show Hid _ from hB.out.size)
      replace hB := (show Hid _ from joinB hB.out b3)
      obtain ⟨bi, ai, ci, rfl, -, AI⟩ := M3.bya HOCT.out
      rw [HL.out] at AI ⊢
      have HMI := (show Hid (MineB w3 w2.heap.size (.slice ai L0.length ci) L0) from M3)
      rw [HL.out] at HMI
      have HAI := (show Hid _ from AI)
      have t := rdNew2 AI (by omega)
      have SZ3 := (show Hid _ from b3.size)
      clear M3 AI b3
      go_wp2_with fail
      refine t.mono ?_
      rintro e w4 ⟨g, bb, rfl, ⟨hg, hbb, hbb2⟩, R, b4⟩
      have HG := (show Hid _ from hg)
      have HBB := (show Hid _ from hbb)
      have HBB2 := (show Hid _ from hbb2)
      have HGL := (show Hid _ from R.lt)
      replace hB := (show Hid _ from joinB hB.out b4)
      have R := (show Hid _ from R)
      replace HAI := (show Hid _ from HAI.out.keep b4)
      have HMI4 := (show Hid (MineB w4 w2.heap.size (.slice ai n0 ci) L0) from mineB_keep HMI.out b4)
      have HIB : Hid (∀ q, (Value.slice ai n0 ci).ownBlock = some q → w2.heap.size ≤ q ∧ q < w3.heap.size) := fun q hq => (show w3.ownsRow w2.heap.size 5 1 (.slice ai n0 ci) L0.length (L0.map (Value.int .u8)) from HMI.out).lt q hq
      clear t b4 hg hbb hbb2 HMI
      have t := copyBytes_any a0 n0 c0 b ob L0 w4 HL.out (by omega) HNIL.out (HAT.out.keep hB.out)
      go_wp2_with fail
      refine t.mono ?_
      rintro e w5 ⟨v5, rfl, M5, b5⟩
      obtain ⟨bx0, ax, cx, rfl, hbx0, AX⟩ := M5.bya HOCT.out
      rw [HL.out] at AX ⊢
      have hal := below_alloc w5 (.cells #[.slice ax n0 cx, .int .i64 0] 72)
      have hFX : ∃ bx, RfA (w5.alloc (.cells #[.slice ax n0 cx, .int .i64 0] 72)) w5.heap.size bx 0 L0 ∧ w4.heap.size ≤ bx ∧ bx < (w5.alloc (.cells #[.slice ax n0 cx, .int .i64 0] 72)).heap.size := by
        have XB := box_new w5 [.slice ax n0 cx, .int .i64 0] 72
        obtain ⟨o9, k1, k2, k3, k4, k5⟩ := (AX.keep hal).ex
        rcases k5.lt with e9 | e9
        · refine ⟨w5.heap.size, ⟨ax, n0, cx, XB, o9, k1, k2, k3, k4, .inl e9, fun i hi => by rw [e9] at hi; simp at hi⟩, b5.size, XB.lt⟩
        · exact ⟨bx0, ⟨ax, n0, cx, XB, AX.keep hal⟩, hbx0, e9⟩
      obtain ⟨bx, hF, hbx, hbx2⟩ := hFX
      have F := (show Hid _ from hF)
      have HBX := (show Hid _ from hbx)
      have HBX2 := (show Hid _ from hbx2)
      have b6 := joinB b5 hal
      replace hB := (show Hid _ from joinB hB.out b6)
      replace R := (show Hid _ from R.out.keep b6)
      replace HAI := (show Hid _ from HAI.out.keep b6)
      have HMI6 := (show Hid (MineB (w5.alloc (.cells #[.slice ax n0 cx, .int .i64 0] 72)) w2.heap.size (.slice ai n0 ci) L0) from mineB_keep HMI4.out b6)
      have HGX : Hid (g ≠ w5.heap.size) := by have h1 := HGL.out; have h2 := b5.size; show g ≠ w5.heap.size; omega
      have HX4 := (show Hid _ from b5.size)
      replace HBB2 := (show Hid _ from Nat.lt_of_lt_of_le HBB2.out b6.size)
      clear t M5 b5 AX hal hF hbx hbx2 b6 HMI4 hbx0
      have t := bSame HAI.out (HA.out.keep hB.out) (by omega) (by omega)
      rw [eqB_true rfl] at t
      go_wp2_with fail
      refine t.mono ?_
      rintro e w7 ⟨rfl, b7⟩
      replace hB := (show Hid _ from joinB hB.out b7)
      replace R := (show Hid _ from R.out.keep b7)
      replace F := (show Hid _ from F.out.keep b7)
      have HMI7 := (show Hid (MineB w7 w2.heap.size (.slice ai n0 ci) L0) from mineB_keep HMI6.out b7)
      replace HBB2 := (show Hid _ from Nat.lt_of_lt_of_le HBB2.out b7.size)
      replace HBX2 := (show Hid _ from Nat.lt_of_lt_of_le HBX2.out b7.size)
      clear t b7 HMI6 HAI
      have t : Calls Try.prog 36 #[.slice ai n0 ci] w7 fun e w' => e = .returned (.tuple #[]) ∧ RdA w' g bb 0 L0 ∧ RfA w' w5.heap.size bx 0 L0 ∧ Below w.heap.size w w' ∧ bb < w'.heap.size ∧ bx < w'.heap.size := by
        rcases HMI7.out.byr with ⟨e0, e1⟩ | ⟨gi, cv, e0, -, -, hby⟩
        · injection e0 with e2 e3 e4
          subst e2 e3 e4
          refine (spoilB0 (w := w7) (c := 0) (ao := none)).mono ?_
          rintro e w' ⟨h1, rfl⟩
          exact ⟨h1, R.out, F.out, hB.out, HBB2.out, HBX2.out⟩
        · injection e0 with e2 e3 e4
          subst e2 e4
          rw [HL.out] at hby
          have hgi := HIB.out gi rfl
          refine (spoilB hby (by omega)).mono ?_
          rintro e w' ⟨h1, b8⟩
          have g1 := HG.out
          have g2 := HBB.out
          have g3 := HX4.out
          have g4 := HBX.out
          have g5 := HGL.out
          have g6 := SZ2.out
          exact ⟨h1, R.out.offW (by omega) (by omega) b8, F.out.offN (by omega) (by omega) b8, b8.below hB.out (by omega) (Nat.le_refl _), Nat.lt_of_lt_of_le HBB2.out b8.size, Nat.lt_of_lt_of_le HBX2.out b8.size⟩
      go_wp2_with fail
      refine t.mono ?_
      rintro e w8 ⟨rfl, R8, F8, B8, s8, s9⟩
      have HR := (show Hid _ from R8)
      have HF := (show Hid _ from F8)
      have HB8 := (show Hid _ from B8)
      have HS8 := (show Hid _ from s8)
      have HS9 := (show Hid _ from s9)
      have GW : Hid (w.heap.size ≤ g ∧ w.heap.size ≤ w5.heap.size) := by
        have g1 := HG.out
        have g3 := HX4.out
        have g5 := HGL.out
        have g6 := SZ2.out
        have g7 := SZ3.out
        exact ⟨by omega, by omega⟩
      clear t R8 F8 B8 s8 s9 R F hB HMI7 HIB HBB2 HBX2 HG HBB HX4 HBX HGL SZ2 SZ3
      go_wp2_with fail
      go_loopw [8] (fun ti wr => ∃ (k : Nat) (err : Int) (L : List Int), k ≤ n ∧ ti = .int .i64 k ∧ RdA wr g bb err L ∧ RfA wr w5.heap.size bx err L ∧ L.length ≤ 3000 ∧ Below w.heap.size w wr ∧ bb < wr.heap.size ∧ bx < wr.heap.size) (fun ti _ => n - (intOf ti).toNat)
      case atStart => exact ⟨0, 0, L0, Nat.zero_le _, rfl, HR.out, HF.out, by have := HL.out; omega, HB8.out, HS8.out, HS9.out⟩
      case round =>
        obtain ⟨k, err, L, hk, rfl, hR, hF, hLL, hB9, hs1, hs2⟩ := hrel
        have R := (show Hid _ from hR)
        have F := (show Hid _ from hF)
        have B := (show Hid _ from hB9)
        have HLL := (show Hid _ from hLL)
        have HS1 := (show Hid _ from hs1)
        have HS2 := (show Hid _ from hs2)
        clear hR hF hLL hB9 hs1 hs2 HR HF HB8 HS8 HS9
        by_cases hlt : k < n
        · obtain ⟨s, sb, so, e1, rfl, C, -⟩ := (HS.out.keep B.out).at hlt
          have HE := (show Hid _ from e1)
          have hA := (show Hid _ from step_ofR HS.out e1)
          have hlt' : (k : Int) < n := by omega
          have hd : Below wr.heap.size wr wr.drew := (Below.refl _ _).drew
          have hS := C.keep hd
          have R1 := R.out.keep hd
          have F1 := F.out.keep hd
          have t := read_any (s := s) R1 F1 hA.out.m1 hA.out.m2 HGX.out (Nat.lt_of_lt_of_le HS1.out hd.size) (Nat.lt_of_lt_of_le HS2.out hd.size) HLL.out
          replace B := (show Hid _ from joinB B.out hd)
          have HS1d := (show Hid _ from Nat.lt_of_lt_of_le HS1.out hd.size)
          have HS2d := (show Hid _ from Nat.lt_of_lt_of_le HS2.out hd.size)
          clear e1 C R1 F1 R F hd HS1 HS2
          go_wp2_with fail
          refine rg_start (S := fun w' => StpC w' sb (so + k * 5) s) (by kernel_rfl) hS ?_
          refine rg_take 0 (some 39) (.pointer (some ⟨g, 0, none⟩)) (by kernel_rfl) (fun _ _ => by kernel_rfl) (fun _ _ _ h => h) hS ?_
          refine rg_take 1 (some 40) (.pointer (some ⟨w5.heap.size, 0, none⟩)) (by kernel_rfl) (fun _ _ => by kernel_rfl) (fun _ _ _ h => h) hS ?_
          refine rg_take 2 (some 41) (.slice (some ⟨sb, so, none⟩) n c) (by kernel_rfl) (fun _ _ => by kernel_rfl) (fun _ _ _ h => h) hS ?_
          refine rg_take 3 (some 42) (.int .i64 k) (by kernel_rfl) (fun _ _ => by kernel_rfl) (fun _ _ _ h => h) hS ?_
          refine rg_take 4 (some 43) (.pointer (some ⟨sb, so + k * 5, none⟩)) (by kernel_rfl) (fun _ _ => run_idx (x := 41) (y := 42) (n := n) (c := c) (by kernel_rfl) (by kernel_rfl) (by kernel_rfl) hlt') (fun _ _ _ h => h) hS ?_
          refine rg_load 5 (some 44) (.agg #[.int .i64 s.what, .int .u64 s.num, .slice s.na s.nn s.nc, .slice s.ba s.bn s.bc, .int .i64 s.most]) 32 43 sb (so + k * 5) (by kernel_rfl) (by kernel_rfl) (by kernel_rfl) (fun _ h => ld_step h) (fun _ _ _ h => h) hS ?_
          refine rg_call 6 (some 45) 37 #[.pointer (some ⟨g, 0, none⟩), .pointer (some ⟨w5.heap.size, 0, none⟩), .agg #[.int .i64 s.what, .int .u64 s.num, .slice s.na s.nn s.nc, .slice s.ba s.bn s.bc, .int .i64 s.most]] (by kernel_rfl) (by kernel_rfl) t ?_
          rintro e w9 ⟨rfl, E9, L9, R9, F9, hL9, T9⟩
          replace B := (show Hid _ from T9.low _ _ B.out GW.out.1 GW.out.2 (Nat.le_refl _))
          replace hS := (HS.out.keep B.out).cellsR HE.out
          have HT9 := (show Hid _ from T9.size)
          have HL9 := (show Hid _ from Nat.le_trans hL9 HLL.out)
          refine ⟨_, rfl, hS, ?_⟩
          refine rg_turn (S' := fun w' => w' = w9) (fun w' e => by rw [e]; exact hS) ?_
          obtain ⟨ax9, nx, cx9, XB, AB⟩ := F9.ex
          obtain ⟨xc1, xc2, -, -⟩ := XB.two
          have hnx : L9.length = nx := by obtain ⟨_, h9, _⟩ := AB.ex; exact h9
          have tl : Calls Try.prog 21 #[.pointer (some ⟨g, 0, none⟩)] w9 fun e w' => e = .returned (.int .i64 nx) ∧ w' = w9 := by rw [← hnx]; exact rdLeft R9
          have te := rdErr R9
          clear t hS hL9 T9
          have hS : w9 = w9 := rfl
          refine rg_take 7 (some 46) (.bool false) (by kernel_rfl) (fun _ _ => by kernel_rfl) (fun _ _ _ h => h) hS ?_
          refine rg_take 8 (some 47) (.bool false) (by kernel_rfl) (fun _ _ => by kernel_rfl) (fun _ _ _ h => h) hS ?_
          refine rg_take 9 (some 48) (.pointer (some ⟨g, 0, none⟩)) (by kernel_rfl) (fun _ _ => by kernel_rfl) (fun _ _ _ h => h) hS ?_
          refine rg_take 11 (some 50) (.pointer (some ⟨w5.heap.size, 0, none⟩)) (by kernel_rfl) (fun _ _ => by kernel_rfl) (fun _ _ _ h => h) hS ?_
          refine rg_take 12 (some 51) (.pointer (some ⟨w5.heap.size, 0, none⟩)) (by kernel_rfl) (fun _ _ => by kernel_rfl) (fun _ _ _ h => h) hS ?_
          refine rg_take 13 (some 52) (.pointer (some ⟨w5.heap.size, 0, none⟩)) (by kernel_rfl) (fun _ _ => by kernel_rfl) (fun _ _ _ h => h) hS ?_
          refine rg_load 14 (some 53) (.slice ax9 nx cx9) 22 52 (w5.heap.size) 0 (by kernel_rfl) (by kernel_rfl) (by kernel_rfl) (fun w' h => by subst h; exact ld_byt xc1) (fun _ _ _ h => h) hS ?_
          refine rg_take 15 (some 54) (.int .i64 nx) (by kernel_rfl) (fun _ _ => by kernel_rfl) (fun _ _ _ h => h) hS ?_
          refine rg_call 10 (some 49) 21 #[.pointer (some ⟨g, 0, none⟩)] (by kernel_rfl) (by kernel_rfl) tl ?_
          rintro e w10 ⟨rfl, rfl⟩
          refine ⟨_, rfl, rfl, ?_⟩
          refine rg_eq 16 (some 55) (.bool (((nx : Nat) : Int) != (nx : Nat))) (.bool false) (by rw [bne_self_eq_false]) (by kernel_rfl) (fun _ _ => by kernel_rfl) (fun _ _ _ h => h) rfl ?_
          have hS2 : w10 = w10 := rfl
          refine rg_take 17 (some 56) (.bool false) (by kernel_rfl) (fun _ _ => by kernel_rfl) (fun _ _ _ h => h) rfl ?_
          refine rg_take 18 (some 57) (.bool false) (by kernel_rfl) (fun _ _ => by kernel_rfl) (fun _ _ _ h => h) rfl ?_
          refine rg_take 19 (some 58) (.pointer (some ⟨g, 0, none⟩)) (by kernel_rfl) (fun _ _ => by kernel_rfl) (fun _ _ _ h => h) rfl ?_
          refine rg_take 21 (some 60) (.pointer (some ⟨w5.heap.size, 0, none⟩)) (by kernel_rfl) (fun _ _ => by kernel_rfl) (fun _ _ _ h => h) rfl ?_
          refine rg_take 22 (some 61) (.pointer (some ⟨w5.heap.size, 0, none⟩)) (by kernel_rfl) (fun _ _ => by kernel_rfl) (fun _ _ _ h => h) rfl ?_
          refine rg_take 23 (some 62) (.pointer (some ⟨w5.heap.size, 1, none⟩)) (by kernel_rfl) (fun _ _ => by kernel_rfl) (fun _ _ _ h => h) rfl ?_
          refine rg_load 24 (some 63) (.int .i64 E9) 3 62 (w5.heap.size) 1 (by kernel_rfl) (by kernel_rfl) (by kernel_rfl) (fun w' h => by subst h; exact ld_err xc2) (fun _ _ _ h => h) rfl ?_
          refine rg_call 20 (some 59) 20 #[.pointer (some ⟨g, 0, none⟩)] (by kernel_rfl) (by kernel_rfl) te ?_
          rintro e w11 ⟨rfl, rfl⟩
          refine ⟨_, rfl, rfl, ?_⟩
          refine rg_eq 25 (some 64) (.bool ((E9 : Int) != E9)) (.bool false) (by rw [bne_self_eq_false]) (by kernel_rfl) (fun _ _ => by kernel_rfl) (fun _ _ _ h => h) rfl ?_
          refine rg_take 26 (some 65) (.bool false) (by kernel_rfl) (fun _ _ => by kernel_rfl) (fun _ _ _ h => h) rfl ?_
          refine rg_done (by kernel_rfl) ?_
          have HR9 := (show Hid _ from R9)
          have HF9 := (show Hid _ from F9)
          clear tl te hS hS2 xc1 xc2 XB AB R9 F9 hnx
          try simp only [Act.put, List.setIfInBounds_toArray, List.set_cons_zero, List.set_cons_succ]
          go_wp2
          exact ⟨⟨k + 1, E9, L9, by omega, by go_num, HR9.out, HF9.out, HL9.out, B.out, Nat.lt_of_lt_of_le HS1d.out HT9.out, Nat.lt_of_lt_of_le HS2d.out HT9.out⟩, by simp [intOf]; omega⟩
        · obtain rfl : k = n := by omega
          clear R F
          go_wp2
          go_ret
          exact ⟨rfl, B.out⟩
    · have hq : ((3000 : Int) < n0) = True := eq_true (by omega)
      clear hb hlt
      go_wp2
      go_ret
      exact ⟨rfl, hB.out⟩
  · rw [decide_eq_false hlt]
    clear hlt
    go_wp2
    go_ret
    exact ⟨rfl, hB.out⟩
end Go.Proofs.Ytapnhfppjefnfaa
