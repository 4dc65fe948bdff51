/- gleanlaw4.EncBack: what a Writer laid a Reader reads, to its end. -/
import Derived.Test.YtapnhfppjefnfaaJka
namespace Go.Proofs.Ytapnhfppjefnfaa
open Go.RowKit Lim

theorem WrO.mono2 {w : World} {g : Nat} {o : Option (List Int)} {N N' : Nat} (h : WrO w g o N) (hN : N ≤ N') : WrO w g o N' := by
  obtain ⟨e, L, X, h1, h2⟩ := h.ex
  exact ⟨e, L, X, Nat.le_trans h1 hN, h2⟩
theorem step_of {w : World} {ao : Option Addr} {n k : Nat} {ss : List Stp} {s : Stp} (S : StepsA w ao n ss) (h : ss[k]? = some s) : StpA w s := by
  obtain ⟨_, _, _, _, h3⟩ := S.get k s h
  exact h3
theorem steps_of {w : World} {ao : Option Addr} {n : Nat} {ss : List Stp} (S : StepsA w ao n ss) : ∀ s ∈ ss, StpA w s := fun s hs => by
  obtain ⟨k, hk⟩ := List.getElem?_of_mem hs
  exact step_of S hk
theorem erB {w : World} {g b : Nat} {err : Int} {L : List Int} (R : RdA w g b err L) :
    Calls Try.prog 20 #[.pointer (some ⟨g, 0, none⟩)] w fun e w' => e = .returned (.int .i64 err) ∧ w = w' := by
  refine (rdErr R).mono ?_
  rintro e w' ⟨h1, h2⟩
  exact ⟨h1, h2.symm⟩
theorem run_rem2 {a : Act} {w : World} {o : Oper} (x : Nat) {X : Int} (ho : o.op = .binOp .rem 28 (.tmp x) (.const (.int .u64 2)) 28) (hx : a.eval (.tmp x) = .int .u64 X) (h0 : 0 ≤ X) : (execOp a.eval o).run Try.prog w = .ok (.value (.int .u64 (X % 2))) w := by
  have hy : a.eval (.const (.int .u64 2)) = .int .u64 2 := rfl
  simp only [execOp, ho, hx, hy]
  go_simp
  exact Int.tmod_eq_emod_of_nonneg h0
set_option maxHeartbeats 4000000 in
set_option maxRecDepth 100000 in
theorem encBack_walk {w : World} {n c : Nat} {ao : Option Addr} {ss : List Stp} (S : StepsA w ao n ss) :
    Calls Try.prog 5 #[.slice ao n c] w fun e w' => e = .returned (.bool true) ∧ Below w.heap.size w w' := by
  have HS := (show Hid _ from S)
  have hle : (n : Int) ≤ 9223372036854775807 := by have := S.le; omega
  clear S
  go_enter Try.func5, Try.ntmps5
  go_wp2_with fail
  refine (knownE w).mono ?_
  rintro e w1 ⟨rfl, hB⟩
  replace hB := (show Hid _ from hB)
  go_wp2_with fail
  refine (light_any (c := c) (HS.out.keep hB.out)).mono ?_
  rintro e w3 ⟨rfl, hB2⟩
  replace hB := (show Hid _ from joinB hB.out hB2)
  clear hB2
  by_cases hlt1 : n + heavy ss ≤ 3000
  · rw [decide_eq_true hlt1]
    have HH1 := (show Hid _ from hlt1)
    have hn1 : (n : Int) ≤ 3000 := by omega
    clear hlt1
    have HV := (show Hid _ from hB.out.size)
    have hal1 := below_alloc w3 (.cells Try.zeroCells51 51)
    have HA := (show Hid _ from wroNew w3)
    replace hB := (show Hid _ from joinB hB.out hal1)
    clear hal1
    go_wp2_with fail
    go_loopw [4] (fun ti wr => ∃ k : Nat, k ≤ n ∧ ti = .int .i64 k ∧ WrO wr w3.heap.size (laid (ss.take k)) (3008 * k) ∧ Below w.heap.size w wr) (fun ti _ => n - (intOf ti).toNat)
    case atStart => exact ⟨0, Nat.zero_le _, rfl, HA.out, hB.out⟩
    case round =>
      obtain ⟨k, hk, rfl, hA9, hB8⟩ := hrel
      have XA := (show Hid _ from hA9)
      have B := (show Hid _ from hB8)
      have hk3 : k ≤ 3000 := by omega
      clear hA9 hB8 HA hB
      by_cases hk1 : k < n
      · obtain ⟨s, sb, so, e1, rfl, C, -⟩ := (HS.out.keep B.out).at hk1
        have HE := (show Hid _ from e1)
        have hA := (show Hid _ from step_of HS.out e1)
        have hm := heavy_mem e1
        have hh : s.bn + 8 * s.nn ≤ 3000 := by have := HH1.out; omega
        have s0 := C.c0
        have s1 := C.c1
        have s2 := C.c2
        have s3 := C.c3
        have s4 := C.c4
        have hlt' : (k : Int) < n := by omega
        clear e1 C hm
        have t := write_any XA.out hA.out B.out HV.out hh (by omega)
        go_wp2_with fail
        refine t.mono ?_
        rintro e w4 ⟨rfl, X', b'⟩
        replace XA := (show Hid _ from X')
        replace B := (show Hid _ from b'.below B.out HV.out (Nat.le_refl _))
        clear t X' b'
        go_wp2
        refine ⟨⟨k + 1, by omega, by go_num, ?_, B.out⟩, by simp [intOf]; omega⟩
        rw [laid_take HE.out]
        exact XA.out
      · obtain rfl : k = n := by omega
        have YA : Hid (WrO wr w3.heap.size (laid ss) 9024000) := by
          have h := XA.out
          rw [List.take_of_length_le (by have := HS.out.len; omega)] at h
          exact h.mono2 (by omega)
        clear XA
        match hT : laid ss with
        | none =>
          have h := YA.out
          rw [hT] at h
          obtain ⟨L, X'⟩ := h.none rfl
          have t := wrOutE X' (by decide)
          clear h X' YA
          go_wp2_with fail
          refine t.mono ?_
          rintro e w4 ⟨rfl, b'⟩
          replace B := (show Hid _ from joinB B.out b')
          clear t b'
          go_wp2
          go_ret
          exact ⟨rfl, B.out⟩
        | some T =>
          have h := YA.out
          rw [hT] at h
          obtain ⟨X', hTl⟩ := h.some rfl
          have t := wrOut X' (by omega)
          have HT := (show Hid _ from hT)
          have HTO := (show Hid _ from laid_oct (steps_of HS.out) hT)
          have HTL := (show Hid _ from hTl)
          clear h X' YA hT hTl
          go_wp2_with fail
          refine t.mono ?_
          rintro e w4 ⟨rfl, Y, b'⟩
          replace B := (show Hid _ from joinB B.out b')
          have t2 := rdNew2 (Y.bya HTO.out (by have := HTL.out; omega)) (by have := HTL.out; omega)
          clear t b' Y
          go_wp2_with fail
          refine t2.mono ?_
          rintro e w5 ⟨g, bb, rfl, ⟨hg, -, -⟩, R, b'⟩
          have HG := (show Hid _ from Nat.le_trans B.out.size hg)
          replace B := (show Hid _ from joinB B.out b')
          have HR := (show Hid _ from R)
          have B1 := (show Hid _ from B.out)
          clear t2 b' hg R B hk hk1 hk3
          go_wp2_with fail
          go_loopw [8] (fun ti wr => ∃ (j : Nat) (L : List Int), j ≤ k ∧ ti = .int .i64 j ∧ laid (ss.drop j) = some L ∧ RdA wr g bb 0 L ∧ Below w.heap.size w wr) (fun ti _ => k - (intOf ti).toNat)
          case atStart => exact ⟨0, T, Nat.zero_le _, rfl, HT.out, HR.out, B1.out⟩
          case round =>
            obtain ⟨j, L, hj, rfl, hL, hR, hB9⟩ := hrel
            have R := (show Hid _ from hR)
            have B := (show Hid _ from hB9)
            have HLD := (show Hid _ from hL)
            clear hR hB9 B1 HR hL
            by_cases hlt : j < k
            · obtain ⟨s, sb, so, e1, rfl, C, -⟩ := (HS.out.keep B.out).at hlt
              obtain ⟨l, T', hsl, hT', rfl⟩ := laid_step HLD.out e1
              have HT' := (show Hid _ from hT')
              have hA := step_of HS.out e1
              have hm := heavy_mem e1
              have hn1' := hA.n1
              have hn2' := hA.n2
              have hna := hA.nat
              have hby := hA.byt
              have hoc : Octets s.bl := by obtain ⟨_, _, _, _, h4, _⟩ := hA.byt.ex; exact h4
              have hbl : s.bl.length = s.bn := by obtain ⟨_, h4, _⟩ := hA.byt.ex; exact h4
              have hh : s.bn + 8 * s.nn ≤ 3000 := by have := HH1.out; omega
              have s0 := C.c0
              have s1 := C.c1
              have s2 := C.c2
              have s3 := C.c3
              have s4 := C.c4
              have hlt' : (j : Int) < k := by omega
              clear e1 C hm hT' hA
              obtain ⟨what, num, na, nn, nc, V, ba, bn, bc, bY, bl, most⟩ := s
              simp only at s0 s1 s2 s3 s4 hn1' hn2' hna hby hoc hbl hh
              have HNA := (show Hid _ from hna)
              have HBY := (show Hid _ from hby)
              have HOC := (show Hid _ from hoc)
              have HBL := (show Hid _ from hbl)
              have HSL := (show Hid _ from hsl)
              have HGG : Hid (wr.heap.size ≠ g) := by have := R.out.lt; show wr.heap.size ≠ g; omega
              clear hna hby hoc hbl hsl
              by_cases h0 : what = 0
              · subst h0
                obtain rfl : l = be 1 (num % 256) := by have h := HSL.out; simp [stB] at h; exact h.symm
                have hal := (below_alloc wr (.cells #[.int .i64 0, .int .u64 num, .slice na nn nc, .slice ba bn bc, .int .i64 most] 32)).drew
                have BX : Box (wr.alloc (.cells #[.int .i64 0, .int .u64 num, .slice na nn nc, .slice ba bn bc, .int .i64 most] 32)).drew wr.heap.size [.int .i64 0, .int .u64 num, .slice na nn nc, .slice ba bn bc, .int .i64 most] 32 := (box_new wr [.int .i64 0, .int .u64 num, .slice na nn nc, .slice ba bn bc, .int .i64 most] _).drew
                have hS : (wr.alloc (.cells #[.int .i64 0, .int .u64 num, .slice na nn nc, .slice ba bn bc, .int .i64 most] 32)).drew.cell? ⟨wr.heap.size, 1, none⟩ = some (.int .u64 num) := by
                  have hb := BX.blk
                  simp only [World.cell?, hb]
                  rfl
                clear BX
                have R1 := R.out.keep hal
                replace B := (show Hid _ from joinB B.out hal)
                clear hal R
                go_wp2_with fail
                refine rg_start (S := fun w' => w'.cell? ⟨wr.heap.size, 1, none⟩ = some (.int .u64 num)) (by kernel_rfl) hS ?_
                refine rg_take 0 (some 49) (.pointer (some ⟨g, 0, none⟩)) (by kernel_rfl) (fun _ _ => by kernel_rfl) (fun _ _ _ h => h) hS ?_
                refine rg_take 2 (some 51) (.pointer (some ⟨wr.heap.size, 1, none⟩)) (by kernel_rfl) (fun _ _ => by kernel_rfl) (fun _ _ _ h => h) hS ?_
                refine rg_load 3 (some 52) (.int .u64 num) 28 51 (wr.heap.size) 1 (by kernel_rfl) (by kernel_rfl) (by kernel_rfl) (fun _ h => ld_u64 h) (fun _ _ _ h => h) hS ?_
                refine rg_take 4 (some 53) (.int .u8 (num % 256)) (by kernel_rfl) (fun _ _ => by kernel_rfl) (fun _ _ _ h => h) hS ?_
                refine rg_call 1 (some 50) 12 #[.pointer (some ⟨g, 0, none⟩)] (by kernel_rfl) (by kernel_rfl) (bkU8 (by omega) (by omega) R1) ?_
                rintro e w6 ⟨rfl, R', b'⟩
                replace hS := b'.cell hS HGG.out
                refine ⟨_, rfl, hS, ?_⟩
                have R := (show Hid _ from R')
                replace B := (show Hid _ from b'.below B.out HG.out (Nat.le_refl _))
                clear R1 R' b'
                refine rg_eq 5 (some 54) (.bool ((num % 256 : Int) == num % 256)) (.bool true) (by rw [beq_self_eq_true]) (by kernel_rfl) (fun _ _ => by kernel_rfl) (fun _ _ _ h => h) hS ?_
                refine rg_take 6 (some 10) (.bool true) (by kernel_rfl) (fun _ _ => by kernel_rfl) (fun _ _ _ h => h) hS ?_
                refine rg_done (by kernel_rfl) ?_
                clear hS
                try simp only [Act.put, List.setIfInBounds_toArray, List.set_cons_zero, List.set_cons_succ]
                go_wp2_with fail
                refine (erB R.out).mono ?_
                rintro e wx ⟨rfl, rfl⟩
                go_wp2
                exact ⟨⟨j + 1, T', by omega, by go_num, HT'.out, R.out, B.out⟩, by simp [intOf]; omega⟩
              · replace h0 : (what == 0) = false := beq_eq_false_iff_ne.2 h0
                by_cases h1 : what = 1
                · subst h1
                  obtain rfl : l = be 4 (num % 4294967296) := by have h := HSL.out; simp [stB] at h; exact h.symm
                  have hal := (below_alloc wr (.cells #[.int .i64 1, .int .u64 num, .slice na nn nc, .slice ba bn bc, .int .i64 most] 32)).drew
                  have BX : Box (wr.alloc (.cells #[.int .i64 1, .int .u64 num, .slice na nn nc, .slice ba bn bc, .int .i64 most] 32)).drew wr.heap.size [.int .i64 1, .int .u64 num, .slice na nn nc, .slice ba bn bc, .int .i64 most] 32 := (box_new wr [.int .i64 1, .int .u64 num, .slice na nn nc, .slice ba bn bc, .int .i64 most] _).drew
                  have hS : (wr.alloc (.cells #[.int .i64 1, .int .u64 num, .slice na nn nc, .slice ba bn bc, .int .i64 most] 32)).drew.cell? ⟨wr.heap.size, 1, none⟩ = some (.int .u64 num) := by
                    have hb := BX.blk
                    simp only [World.cell?, hb]
                    rfl
                  clear BX
                  have R1 := R.out.keep hal
                  replace B := (show Hid _ from joinB B.out hal)
                  clear hal R
                  go_wp2_with fail
                  refine rg_start (S := fun w' => w'.cell? ⟨wr.heap.size, 1, none⟩ = some (.int .u64 num)) (by kernel_rfl) hS ?_
                  refine rg_take 0 (some 57) (.pointer (some ⟨g, 0, none⟩)) (by kernel_rfl) (fun _ _ => by kernel_rfl) (fun _ _ _ h => h) hS ?_
                  refine rg_take 2 (some 59) (.pointer (some ⟨wr.heap.size, 1, none⟩)) (by kernel_rfl) (fun _ _ => by kernel_rfl) (fun _ _ _ h => h) hS ?_
                  refine rg_load 3 (some 60) (.int .u64 num) 28 59 (wr.heap.size) 1 (by kernel_rfl) (by kernel_rfl) (by kernel_rfl) (fun _ h => ld_u64 h) (fun _ _ _ h => h) hS ?_
                  refine rg_take 4 (some 61) (.int .u32 (num % 4294967296)) (by kernel_rfl) (fun _ _ => by kernel_rfl) (fun _ _ _ h => h) hS ?_
                  refine rg_call 1 (some 58) 13 #[.pointer (some ⟨g, 0, none⟩)] (by kernel_rfl) (by kernel_rfl) (bkU32 (by omega) (by omega) R1) ?_
                  rintro e w6 ⟨rfl, R', b'⟩
                  replace hS := b'.cell hS HGG.out
                  refine ⟨_, rfl, hS, ?_⟩
                  have R := (show Hid _ from R')
                  replace B := (show Hid _ from b'.below B.out HG.out (Nat.le_refl _))
                  clear R1 R' b'
                  refine rg_eq 5 (some 62) (.bool ((num % 4294967296 : Int) == num % 4294967296)) (.bool true) (by rw [beq_self_eq_true]) (by kernel_rfl) (fun _ _ => by kernel_rfl) (fun _ _ _ h => h) hS ?_
                  refine rg_take 6 (some 10) (.bool true) (by kernel_rfl) (fun _ _ => by kernel_rfl) (fun _ _ _ h => h) hS ?_
                  refine rg_done (by kernel_rfl) ?_
                  clear hS
                  try simp only [Act.put, List.setIfInBounds_toArray, List.set_cons_zero, List.set_cons_succ]
                  go_wp2_with fail
                  refine (erB R.out).mono ?_
                  rintro e wx ⟨rfl, rfl⟩
                  go_wp2
                  exact ⟨⟨j + 1, T', by omega, by go_num, HT'.out, R.out, B.out⟩, by simp [intOf]; omega⟩
                · replace h1 : (what == 1) = false := beq_eq_false_iff_ne.2 h1
                  by_cases h2 : what = 2
                  · subst h2
                    obtain rfl : l = be 8 num := by have h := HSL.out; simp [stB] at h; exact h.symm
                    have hal := (below_alloc wr (.cells #[.int .i64 2, .int .u64 num, .slice na nn nc, .slice ba bn bc, .int .i64 most] 32)).drew
                    have BX : Box (wr.alloc (.cells #[.int .i64 2, .int .u64 num, .slice na nn nc, .slice ba bn bc, .int .i64 most] 32)).drew wr.heap.size [.int .i64 2, .int .u64 num, .slice na nn nc, .slice ba bn bc, .int .i64 most] 32 := (box_new wr [.int .i64 2, .int .u64 num, .slice na nn nc, .slice ba bn bc, .int .i64 most] _).drew
                    have hS : (wr.alloc (.cells #[.int .i64 2, .int .u64 num, .slice na nn nc, .slice ba bn bc, .int .i64 most] 32)).drew.cell? ⟨wr.heap.size, 1, none⟩ = some (.int .u64 num) := by
                      have hb := BX.blk
                      simp only [World.cell?, hb]
                      rfl
                    clear BX
                    have R1 := R.out.keep hal
                    replace B := (show Hid _ from joinB B.out hal)
                    clear hal R
                    go_wp2_with fail
                    refine rg_start (S := fun w' => w'.cell? ⟨wr.heap.size, 1, none⟩ = some (.int .u64 num)) (by kernel_rfl) hS ?_
                    refine rg_take 0 (some 65) (.pointer (some ⟨g, 0, none⟩)) (by kernel_rfl) (fun _ _ => by kernel_rfl) (fun _ _ _ h => h) hS ?_
                    refine rg_take 2 (some 67) (.pointer (some ⟨wr.heap.size, 1, none⟩)) (by kernel_rfl) (fun _ _ => by kernel_rfl) (fun _ _ _ h => h) hS ?_
                    refine rg_load 3 (some 68) (.int .u64 num) 28 67 (wr.heap.size) 1 (by kernel_rfl) (by kernel_rfl) (by kernel_rfl) (fun _ h => ld_u64 h) (fun _ _ _ h => h) hS ?_
                    refine rg_call 1 (some 66) 14 #[.pointer (some ⟨g, 0, none⟩)] (by kernel_rfl) (by kernel_rfl) (bkU64 (by omega) (by omega) R1) ?_
                    rintro e w6 ⟨rfl, R', b'⟩
                    replace hS := b'.cell hS HGG.out
                    refine ⟨_, rfl, hS, ?_⟩
                    have R := (show Hid _ from R')
                    replace B := (show Hid _ from b'.below B.out HG.out (Nat.le_refl _))
                    clear R1 R' b'
                    refine rg_eq 4 (some 69) (.bool ((num : Int) == num)) (.bool true) (by rw [beq_self_eq_true]) (by kernel_rfl) (fun _ _ => by kernel_rfl) (fun _ _ _ h => h) hS ?_
                    refine rg_take 5 (some 10) (.bool true) (by kernel_rfl) (fun _ _ => by kernel_rfl) (fun _ _ _ h => h) hS ?_
                    refine rg_done (by kernel_rfl) ?_
                    clear hS
                    try simp only [Act.put, List.setIfInBounds_toArray, List.set_cons_zero, List.set_cons_succ]
                    go_wp2_with fail
                    refine (erB R.out).mono ?_
                    rintro e wx ⟨rfl, rfl⟩
                    go_wp2
                    exact ⟨⟨j + 1, T', by omega, by go_num, HT'.out, R.out, B.out⟩, by simp [intOf]; omega⟩
                  · replace h2 : (what == 2) = false := beq_eq_false_iff_ne.2 h2
                    by_cases h3 : what = 3
                    · subst h3
                      obtain rfl : l = be 1 (if num % 2 == 1 then 1 else 0) := by have h := HSL.out; simp [stB] at h; simpa using h.symm
                      have hal := (below_alloc wr (.cells #[.int .i64 3, .int .u64 num, .slice na nn nc, .slice ba bn bc, .int .i64 most] 32)).drew
                      have BX : Box (wr.alloc (.cells #[.int .i64 3, .int .u64 num, .slice na nn nc, .slice ba bn bc, .int .i64 most] 32)).drew wr.heap.size [.int .i64 3, .int .u64 num, .slice na nn nc, .slice ba bn bc, .int .i64 most] 32 := (box_new wr [.int .i64 3, .int .u64 num, .slice na nn nc, .slice ba bn bc, .int .i64 most] _).drew
                      have hS : (wr.alloc (.cells #[.int .i64 3, .int .u64 num, .slice na nn nc, .slice ba bn bc, .int .i64 most] 32)).drew.cell? ⟨wr.heap.size, 1, none⟩ = some (.int .u64 num) := by
                        have hb := BX.blk
                        simp only [World.cell?, hb]
                        rfl
                      clear BX
                      have R1 := R.out.keep hal
                      replace B := (show Hid _ from joinB B.out hal)
                      clear hal R
                      go_wp2_with fail
                      refine rg_start (S := fun w' => w'.cell? ⟨wr.heap.size, 1, none⟩ = some (.int .u64 num)) (by kernel_rfl) hS ?_
                      refine rg_take 0 (some 72) (.pointer (some ⟨g, 0, none⟩)) (by kernel_rfl) (fun _ _ => by kernel_rfl) (fun _ _ _ h => h) hS ?_
                      refine rg_take 2 (some 74) (.pointer (some ⟨wr.heap.size, 1, none⟩)) (by kernel_rfl) (fun _ _ => by kernel_rfl) (fun _ _ _ h => h) hS ?_
                      refine rg_load 3 (some 75) (.int .u64 num) 28 74 (wr.heap.size) 1 (by kernel_rfl) (by kernel_rfl) (by kernel_rfl) (fun _ h => ld_u64 h) (fun _ _ _ h => h) hS ?_
                      refine rg_take 4 (some 76) (.int .u64 (num % 2)) (by kernel_rfl) (fun _ _ => run_rem2 75 (by kernel_rfl) (by kernel_rfl) hn1') (fun _ _ _ h => h) hS ?_
                      refine rg_take 5 (some 77) (.bool (num % 2 == 1)) (by kernel_rfl) (fun _ _ => by kernel_rfl) (fun _ _ _ h => h) hS ?_
                      refine rg_call 1 (some 73) 15 #[.pointer (some ⟨g, 0, none⟩)] (by kernel_rfl) (by kernel_rfl) (bkBool (x := num % 2 == 1) R1) ?_
                      rintro e w6 ⟨rfl, R', b'⟩
                      replace hS := b'.cell hS HGG.out
                      refine ⟨_, rfl, hS, ?_⟩
                      have R := (show Hid _ from R')
                      replace B := (show Hid _ from b'.below B.out HG.out (Nat.le_refl _))
                      clear R1 R' b'
                      refine rg_eq 6 (some 78) (.bool (((num % 2 == 1) : Bool) == (num % 2 == 1))) (.bool true) (by rw [beq_self_eq_true]) (by kernel_rfl) (fun _ _ => by kernel_rfl) (fun _ _ _ h => h) hS ?_
                      refine rg_take 7 (some 10) (.bool true) (by kernel_rfl) (fun _ _ => by kernel_rfl) (fun _ _ _ h => h) hS ?_
                      refine rg_done (by kernel_rfl) ?_
                      clear hS
                      try simp only [Act.put, List.setIfInBounds_toArray, List.set_cons_zero, List.set_cons_succ]
                      go_wp2_with fail
                      refine (erB R.out).mono ?_
                      rintro e wx ⟨rfl, rfl⟩
                      go_wp2
                      exact ⟨⟨j + 1, T', by omega, by go_num, HT'.out, R.out, B.out⟩, by simp [intOf]; omega⟩
                    · replace h3 : (what == 3) = false := beq_eq_false_iff_ne.2 h3
                      by_cases h4 : what = 4
                      · subst h4
                        have hVV := HNA.out.nonneg
                        have hlt9 : (natB V).length < 256 := by
                          by_cases hq : (natB V).length < 256
                          · exact hq
                          · have h := HSL.out; simp [stB, hq] at h
                        obtain rfl : l = cntd 1 (natB V) := by have h := HSL.out; simp [stB, hlt9] at h; exact h.symm
                        have hal := (below_alloc wr (.cells #[.int .i64 4, .int .u64 num, .slice na nn nc, .slice ba bn bc, .int .i64 most] 32)).drew
                        have BX : Box (wr.alloc (.cells #[.int .i64 4, .int .u64 num, .slice na nn nc, .slice ba bn bc, .int .i64 most] 32)).drew wr.heap.size [.int .i64 4, .int .u64 num, .slice na nn nc, .slice ba bn bc, .int .i64 most] 32 := (box_new wr [.int .i64 4, .int .u64 num, .slice na nn nc, .slice ba bn bc, .int .i64 most] _).drew
                        have hS : (wr.alloc (.cells #[.int .i64 4, .int .u64 num, .slice na nn nc, .slice ba bn bc, .int .i64 most] 32)).drew.cell? ⟨wr.heap.size, 2, none⟩ = some (.slice na nn nc) := by
                          have hb := BX.blk
                          simp only [World.cell?, hb]
                          rfl
                        clear BX
                        have R1 := R.out.keep hal
                        replace B := (show Hid _ from joinB B.out hal)
                        clear hal R
                        go_wp2_with fail
                        refine rg_start (S := fun w' => w'.cell? ⟨wr.heap.size, 2, none⟩ = some (.slice na nn nc)) (by kernel_rfl) hS ?_
                        refine rg_take 0 (some 81) (.pointer (some ⟨g, 0, none⟩)) (by kernel_rfl) (fun _ _ => by kernel_rfl) (fun _ _ _ h => h) hS ?_
                        refine rg_take 2 (some 83) (.pointer (some ⟨wr.heap.size, 2, none⟩)) (by kernel_rfl) (fun _ _ => by kernel_rfl) (fun _ _ _ h => h) hS ?_
                        refine rg_load 3 (some 84) (.slice na nn nc) 30 83 (wr.heap.size) 2 (by kernel_rfl) (by kernel_rfl) (by kernel_rfl) (fun _ h => ld_nat h) (fun _ _ _ h => h) hS ?_
                        refine rg_call 1 (some 82) 16 #[.pointer (some ⟨g, 0, none⟩)] (by kernel_rfl) (by kernel_rfl) (bkNat hVV hlt9 R1) ?_
                        rintro e w6 ⟨a9, n9, c9, rfl, O9, hn9, R', b'⟩
                        replace hS := b'.cell hS HGG.out
                        refine ⟨_, rfl, hS, ?_⟩
                        have R := (show Hid _ from R')
                        replace B := (show Hid _ from b'.below B.out HG.out (Nat.le_refl _))
                        clear R1 R' b'
                        refine rg_call 4 (some 85) 27 #[.slice na nn nc] (by kernel_rfl) (by kernel_rfl) (nNorm (HNA.out.keep B.out) (by omega)) ?_
                        rintro e w7 ⟨a8, n8, c8, rfl, O8, hn8, b'⟩
                        replace hS : w7.cell? ⟨wr.heap.size, 2, none⟩ = some (.slice na nn nc) := by rw [World.cell?_of_block (w := w6) (b'.block _ (cell_lt hS))]; exact hS
                        refine ⟨_, rfl, hS, ?_⟩
                        replace R := (show Hid _ from R.out.keep b')
                        replace B := (show Hid _ from joinB B.out b')
                        replace O9 := O9.keep b'
                        clear b'
                        refine rg_call 5 (some 86) 26 #[.slice a9 n9 c9, .slice a8 n8 c8] (by kernel_rfl) (by kernel_rfl) (nSameE O9 O8 (by omega) (by omega)) ?_
                        rintro e w8 ⟨rfl, b'⟩
                        replace hS : w8.cell? ⟨wr.heap.size, 2, none⟩ = some (.slice na nn nc) := by rw [World.cell?_of_block (w := w7) (b'.block _ (cell_lt hS))]; exact hS
                        refine ⟨_, rfl, hS, ?_⟩
                        replace R := (show Hid _ from R.out.keep b')
                        replace B := (show Hid _ from joinB B.out b')
                        clear b' O8 O9
                        refine rg_take 6 (some 10) (.bool true) (by kernel_rfl) (fun _ _ => by kernel_rfl) (fun _ _ _ h => h) hS ?_
                        refine rg_done (by kernel_rfl) ?_
                        clear hS
                        try simp only [Act.put, List.setIfInBounds_toArray, List.set_cons_zero, List.set_cons_succ]
                        go_wp2_with fail
                        refine (erB R.out).mono ?_
                        rintro e wx ⟨rfl, rfl⟩
                        go_wp2
                        exact ⟨⟨j + 1, T', by omega, by go_num, HT'.out, R.out, B.out⟩, by simp [intOf]; omega⟩
                      · replace h4 : (what == 4) = false := beq_eq_false_iff_ne.2 h4
                        by_cases h5 : what = 5
                        · subst h5
                          have hVV := HNA.out.nonneg
                          have hlt9 : (natB V).length < 256 := by
                            by_cases hq : (natB V).length < 256
                            · exact hq
                            · have h := HSL.out; simp [stB, hq] at h
                          obtain rfl : l = cntd 1 (natB V) := by have h := HSL.out; simp [stB, hlt9] at h; exact h.symm
                          have hal := (below_alloc wr (.cells #[.int .i64 5, .int .u64 num, .slice na nn nc, .slice ba bn bc, .int .i64 most] 32)).drew
                          have BX : Box (wr.alloc (.cells #[.int .i64 5, .int .u64 num, .slice na nn nc, .slice ba bn bc, .int .i64 most] 32)).drew wr.heap.size [.int .i64 5, .int .u64 num, .slice na nn nc, .slice ba bn bc, .int .i64 most] 32 := (box_new wr [.int .i64 5, .int .u64 num, .slice na nn nc, .slice ba bn bc, .int .i64 most] _).drew
                          have hS : (wr.alloc (.cells #[.int .i64 5, .int .u64 num, .slice na nn nc, .slice ba bn bc, .int .i64 most] 32)).drew.cell? ⟨wr.heap.size, 2, none⟩ = some (.slice na nn nc) := by
                            have hb := BX.blk
                            simp only [World.cell?, hb]
                            rfl
                          clear BX
                          have R1 := R.out.keep hal
                          replace B := (show Hid _ from joinB B.out hal)
                          clear hal R
                          go_wp2_with fail
                          refine rg_start (S := fun w' => w'.cell? ⟨wr.heap.size, 2, none⟩ = some (.slice na nn nc)) (by kernel_rfl) hS ?_
                          refine rg_take 0 (some 89) (.pointer (some ⟨g, 0, none⟩)) (by kernel_rfl) (fun _ _ => by kernel_rfl) (fun _ _ _ h => h) hS ?_
                          refine rg_take 3 (some 92) (.pointer (some ⟨wr.heap.size, 2, none⟩)) (by kernel_rfl) (fun _ _ => by kernel_rfl) (fun _ _ _ h => h) hS ?_
                          refine rg_load 4 (some 93) (.slice na nn nc) 30 92 (wr.heap.size) 2 (by kernel_rfl) (by kernel_rfl) (by kernel_rfl) (fun _ h => ld_nat h) (fun _ _ _ h => h) hS ?_
                          refine rg_call 1 (some 90) 17 #[.pointer (some ⟨g, 0, none⟩)] (by kernel_rfl) (by kernel_rfl) (bkDec hVV hlt9 R1) ?_
                          rintro e w6 ⟨a9, n9, c9, rfl, O9, hn9, R', b'⟩
                          replace hS := b'.cell hS HGG.out
                          refine ⟨_, rfl, hS, ?_⟩
                          have R := (show Hid _ from R')
                          replace B := (show Hid _ from b'.below B.out HG.out (Nat.le_refl _))
                          clear R1 R' b'
                          refine rg_take 2 (some 91) (.slice a9 n9 c9) (by kernel_rfl) (fun _ _ => by kernel_rfl) (fun _ _ _ h => h) hS ?_
                          refine rg_call 5 (some 94) 27 #[.slice na nn nc] (by kernel_rfl) (by kernel_rfl) (nNorm (HNA.out.keep B.out) (by omega)) ?_
                          rintro e w7 ⟨a8, n8, c8, rfl, O8, hn8, b'⟩
                          replace hS : w7.cell? ⟨wr.heap.size, 2, none⟩ = some (.slice na nn nc) := by rw [World.cell?_of_block (w := w6) (b'.block _ (cell_lt hS))]; exact hS
                          refine ⟨_, rfl, hS, ?_⟩
                          replace R := (show Hid _ from R.out.keep b')
                          replace B := (show Hid _ from joinB B.out b')
                          replace O9 := O9.keep b'
                          clear b'
                          refine rg_call 6 (some 95) 26 #[.slice a9 n9 c9, .slice a8 n8 c8] (by kernel_rfl) (by kernel_rfl) (nSameE O9 O8 (by omega) (by omega)) ?_
                          rintro e w8 ⟨rfl, b'⟩
                          replace hS : w8.cell? ⟨wr.heap.size, 2, none⟩ = some (.slice na nn nc) := by rw [World.cell?_of_block (w := w7) (b'.block _ (cell_lt hS))]; exact hS
                          refine ⟨_, rfl, hS, ?_⟩
                          replace R := (show Hid _ from R.out.keep b')
                          replace B := (show Hid _ from joinB B.out b')
                          clear b' O8 O9
                          refine rg_take 7 (some 10) (.bool true) (by kernel_rfl) (fun _ _ => by kernel_rfl) (fun _ _ _ h => h) hS ?_
                          refine rg_done (by kernel_rfl) ?_
                          clear hS
                          try simp only [Act.put, List.setIfInBounds_toArray, List.set_cons_zero, List.set_cons_succ]
                          go_wp2_with fail
                          refine (erB R.out).mono ?_
                          rintro e wx ⟨rfl, rfl⟩
                          go_wp2
                          exact ⟨⟨j + 1, T', by omega, by go_num, HT'.out, R.out, B.out⟩, by simp [intOf]; omega⟩
                        · replace h5 : (what == 5) = false := beq_eq_false_iff_ne.2 h5
                          by_cases h6 : what = 6
                          · subst h6
                            obtain rfl : l = cntd 4 bl := by have h := HSL.out; simp [stB] at h; exact h.symm
                            have hal := (below_alloc wr (.cells #[.int .i64 6, .int .u64 num, .slice na nn nc, .slice ba bn bc, .int .i64 most] 32)).drew
                            have BX : Box (wr.alloc (.cells #[.int .i64 6, .int .u64 num, .slice na nn nc, .slice ba bn bc, .int .i64 most] 32)).drew wr.heap.size [.int .i64 6, .int .u64 num, .slice na nn nc, .slice ba bn bc, .int .i64 most] 32 := (box_new wr [.int .i64 6, .int .u64 num, .slice na nn nc, .slice ba bn bc, .int .i64 most] _).drew
                            have hS : (wr.alloc (.cells #[.int .i64 6, .int .u64 num, .slice na nn nc, .slice ba bn bc, .int .i64 most] 32)).drew.cell? ⟨wr.heap.size, 3, none⟩ = some (.slice ba bn bc) := by
                              have hb := BX.blk
                              simp only [World.cell?, hb]
                              rfl
                            clear BX
                            have R1 := R.out.keep hal
                            replace B := (show Hid _ from joinB B.out hal)
                            clear hal R
                            go_wp2_with fail
                            refine rg_start (S := fun w' => w'.cell? ⟨wr.heap.size, 3, none⟩ = some (.slice ba bn bc)) (by kernel_rfl) hS ?_
                            refine rg_take 0 (some 98) (.pointer (some ⟨g, 0, none⟩)) (by kernel_rfl) (fun _ _ => by kernel_rfl) (fun _ _ _ h => h) hS ?_
                            refine rg_take 1 (some 99) (.pointer (some ⟨wr.heap.size, 3, none⟩)) (by kernel_rfl) (fun _ _ => by kernel_rfl) (fun _ _ _ h => h) hS ?_
                            refine rg_load 2 (some 100) (.slice ba bn bc) 22 99 (wr.heap.size) 3 (by kernel_rfl) (by kernel_rfl) (by kernel_rfl) (fun _ h => ld_byt h) (fun _ _ _ h => h) hS ?_
                            refine rg_take 3 (some 101) (.int .i64 bn) (by kernel_rfl) (fun _ _ => by kernel_rfl) (fun _ _ _ h => h) hS ?_
                            refine rg_take 5 (some 103) (.pointer (some ⟨wr.heap.size, 3, none⟩)) (by kernel_rfl) (fun _ _ => by kernel_rfl) (fun _ _ _ h => h) hS ?_
                            refine rg_load 6 (some 104) (.slice ba bn bc) 22 103 (wr.heap.size) 3 (by kernel_rfl) (by kernel_rfl) (by kernel_rfl) (fun _ h => ld_byt h) (fun _ _ _ h => h) hS ?_
                            refine rg_call 4 (some 102) 18 #[.pointer (some ⟨g, 0, none⟩), .int .i64 bn] (by kernel_rfl) (by kernel_rfl) (bkRaw HBL.out (by omega) HOC.out R1) ?_
                            rintro e w6 ⟨a9, c9, bq, rfl, Y9, R', b'⟩
                            replace hS := b'.cell hS HGG.out
                            refine ⟨_, rfl, hS, ?_⟩
                            have R := (show Hid _ from R')
                            replace B := (show Hid _ from b'.below B.out HG.out (Nat.le_refl _))
                            clear R1 R' b'
                            have t9 := bSame Y9 (HBY.out.keep B.out) (by omega) (by omega)
                            rw [eqB_true rfl] at t9
                            refine rg_call 7 (some 105) 24 #[.slice a9 bn c9, .slice ba bn bc] (by kernel_rfl) (by kernel_rfl) t9 ?_
                            rintro e w8 ⟨rfl, b'⟩
                            replace hS : w8.cell? ⟨wr.heap.size, 3, none⟩ = some (.slice ba bn bc) := by rw [World.cell?_of_block (w := w6) (b'.block _ (cell_lt hS))]; exact hS
                            refine ⟨_, rfl, hS, ?_⟩
                            replace R := (show Hid _ from R.out.keep b')
                            replace B := (show Hid _ from joinB B.out b')
                            clear b' Y9 t9
                            refine rg_take 8 (some 10) (.bool true) (by kernel_rfl) (fun _ _ => by kernel_rfl) (fun _ _ _ h => h) hS ?_
                            refine rg_done (by kernel_rfl) ?_
                            clear hS
                            try simp only [Act.put, List.setIfInBounds_toArray, List.set_cons_zero, List.set_cons_succ]
                            go_wp2_with fail
                            refine (erB R.out).mono ?_
                            rintro e wx ⟨rfl, rfl⟩
                            go_wp2
                            exact ⟨⟨j + 1, T', by omega, by go_num, HT'.out, R.out, B.out⟩, by simp [intOf]; omega⟩
                          · replace h6 : (what == 6) = false := beq_eq_false_iff_ne.2 h6
                            obtain rfl : l = [] := by have h := HSL.out; simp at h0 h1 h2 h3 h4 h5 h6; simp [stB, h0, h1, h2, h3, h4, h5, h6] at h; exact h
                            have hal := below_alloc wr (.cells #[.int .i64 what, .int .u64 num, .slice na nn nc, .slice ba bn bc, .int .i64 most] 32)
                            replace R := (show Hid _ from R.out.keep hal)
                            replace B := (show Hid _ from joinB B.out hal)
                            clear hal
                            go_wp2_with fail
                            refine (erB R.out).mono ?_
                            rintro e wx ⟨rfl, rfl⟩
                            go_wp2
                            exact ⟨⟨j + 1, T', by omega, by go_num, HT'.out, R.out, B.out⟩, by simp [intOf]; omega⟩
            · obtain rfl : j = k := by omega
              have hL0 : L = [] := by
                have h := HLD.out
                rw [List.drop_eq_nil_of_le (by have := HS.out.len; omega)] at h
                cases h
                rfl
              subst hL0
              have t : Calls Try.prog 21 #[.pointer (some ⟨g, 0, none⟩)] wr fun e w' => e = .returned (.int .i64 0) ∧ w' = wr := rdLeft R.out
              have t2 : Calls Try.prog 19 #[.pointer (some ⟨g, 0, none⟩)] wr fun e w' => e = .returned (.int .i64 0) ∧ RdA w' g bb 0 [] ∧ But g wr w' := rdEnd R.out (by decide)
              go_wp2_with fail
              refine t.mono ?_
              rintro e wx ⟨rfl, hwx⟩
              subst hwx
              clear t
              go_wp2_with fail
              refine t2.mono ?_
              rintro e w9 ⟨rfl, -, b'⟩
              replace B := (show Hid _ from b'.below B.out HG.out (Nat.le_refl _))
              clear t2 b'
              go_wp2
              go_ret
              exact ⟨rfl, B.out⟩
  · rw [decide_eq_false hlt1]
    clear hlt1
    go_wp2
    go_ret
    exact ⟨rfl, hB.out⟩
end Go.Proofs.Ytapnhfppjefnfaa
