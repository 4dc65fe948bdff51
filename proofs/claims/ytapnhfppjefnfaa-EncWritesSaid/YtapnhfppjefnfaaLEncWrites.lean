/- gleanlaw4.EncWrites: every script of a Writer: its bytes, its first error. -/
import Derived.Test.YtapnhfppjefnfaaJwa
namespace Go.Proofs.Ytapnhfppjefnfaa
open Go.RowKit Lim

theorem outNoneW {w : World} {g N : Nat} (X : WrO w g none N) :
    Calls Try.prog 23 #[.pointer (some ⟨g, 0, none⟩)] w fun e w' => e = .returned (.tuple #[.slice none 0 0, .int .i64 42]) ∧ Below w.heap.size w w' := by
  obtain ⟨L, X'⟩ := X.none rfl
  exact wrOutE X' (by decide)
theorem outSomeW {w : World} {g N : Nat} {L : List Int} (X : WrO w g (some L) N) (hN : N ≤ 17592186044416) :
    Calls Try.prog 23 #[.pointer (some ⟨g, 0, none⟩)] w fun e w' => e = .returned (.tuple #[.slice (some ⟨w.heap.size, 0, none⟩) L.length L.length, .int .i64 0]) ∧ Box w' w.heap.size (L.map (Value.int .u8)) 5 ∧ Below w.heap.size w w' := by
  obtain ⟨X', h⟩ := X.some rfl
  exact wrOut X' (by omega)
theorem MineB.at8 {w : World} {B : Nat} {v : Value} {l : List Int} (h : MineB w B v l) : ∃ b ao c, v = .slice ao l.length c ∧ AtB w ao b 0 l := by
  obtain ⟨_, h2⟩ := h
  rcases h2 with ⟨rfl, h0⟩ | ⟨g, cap, cur, rfl, hB, hh, hle, hmx, hsz, htk⟩
  · have e : l = [] := List.eq_nil_of_length_eq_zero h0
    subst e
    exact ⟨B, none, 0, rfl, .inl rfl, fun i hi => by simp at hi⟩
  · refine ⟨g, _, _, rfl, .inr rfl, fun i hi => ?_⟩
    simp only [World.cell?, hh]
    have e : cur[0 + i]? = some (.int .u8 (nth l i)) := by
      have h3 : (cur.toList.take (l.length * 1))[i]? = some (.int .u8 (nth l i)) := by
        rw [htk, List.getElem?_map, List.getElem?_eq_getElem hi, nth_eq hi]
        rfl
      rw [List.getElem?_take] at h3
      split at h3
      · rw [Nat.zero_add, ← Array.getElem?_toList]
        exact h3
      · cases h3
    simpa using e
theorem mineB_but {w w' : World} {B g : Nat} {v : Value} {l : List Int} (h : MineB w B v l) (b : But g w w') (hg : ∀ k, v.ownBlock = some k → k ≠ g) : MineB w' B v l := by
  obtain ⟨h1, h2⟩ := h
  refine ⟨h1, ?_⟩
  rcases h2 with h2 | ⟨q, cap, cur, h3, h4, h5, h6⟩
  · exact .inl h2
  · refine .inr ⟨q, cap, cur, h3, h4, ?_, h6⟩
    rw [b.block q (lt_of_block h5) (hg q (by rw [h3]; rfl))]
    exact h5
theorem mineB_blk {w : World} {B : Nat} {v : Value} {l : List Int} (h : MineB w B v l) : ∀ k, v.ownBlock = some k → B ≤ k ∧ k < w.heap.size := fun k hk => (show w.ownsRow B 5 1 v l.length (l.map (Value.int .u8)) from h).lt k hk
theorem Byt.but {w w' : World} {B g : Nat} {cs : List Value} (b : But g w w') (hg : B ≤ g) (X : Box w g cs 5) : Byt B w w' :=
  ⟨b.os, b.tape, b.output, b.size, fun k hk hs => b.block k hs (by omega), fun k c t f hc ht => b.block k (lt_of_block hc) fun e => by
    subst e
    rw [X.blk] at hc
    cases hc
    exact ht rfl⟩
theorem StepsA.cellsW {w : World} {n i b o : Nat} {ss : List Stp} {s : Stp} (h : StepsA w (some ⟨b, o, none⟩) n ss) (hs : ss[i]? = some s) : StpC w b (o + i * 5) s := by
  obtain ⟨b', o', e, h2, _⟩ := h.get i s hs
  cases e
  exact h2
theorem step_ofW {w : World} {ao : Option Addr} {n k : Nat} {ss : List Stp} {s : Stp} (S : StepsA w ao n ss) (h : ss[k]? = some s) : StpA w s := by
  obtain ⟨_, _, _, _, h3⟩ := S.get k s h
  exact h3
set_option maxHeartbeats 4000000 in
set_option maxRecDepth 100000 in
theorem encWrites_walk {w : World} {n c : Nat} {ao : Option Addr} {ss : List Stp} (S : StepsA w ao n ss) :
    Calls Try.prog 7 #[.slice ao n c] w fun e w' => e = .returned (.bool true) ∧ Below w.heap.size w w' := by
  have HS := (show Hid _ from S)
  have hle : (n : Int) ≤ 9223372036854775807 := by have := S.le; omega
  clear S
  go_enter Try.func7, Try.ntmps7
  go_wp2_with fail
  refine (knownE w).mono ?_
  rintro e w1 ⟨rfl, hB⟩
  replace hB := (show Hid _ from hB)
  go_wp2_with fail
  refine (light_any (c := c) (HS.out.keep hB.out)).mono ?_
  rintro e w3 ⟨rfl, hB2⟩
  replace hB := (show Hid _ from joinB hB.out hB2)
  clear hB2
  by_cases hlt1 : n + heavy ss ≤ 3000
  · rw [decide_eq_true hlt1]
    have HH1 := (show Hid _ from hlt1)
    have hn1 : (n : Int) ≤ 3000 := by omega
    clear hlt1
    have HV := (show Hid _ from hB.out.size)
    have hal1 := below_alloc w3 (.cells Try.zeroCells51 51)
    have HA := (show Hid _ from wroNew w3)
    have HSZ : Hid (w3.heap.size + 1 ≤ (w3.alloc (.cells Try.zeroCells51 51)).heap.size) := by
      show _ ≤ _
      have e : (w3.alloc (.cells Try.zeroCells51 51)).heap.size = w3.heap.size + 1 := by show (w3.heap.push _).size = _; simp
      omega
    replace hB := (show Hid _ from joinB hB.out hal1)
    clear hal1
    go_wp2_with fail
    go_loopw [4, 5, 6] (fun tw tok ti wr => ∃ k : Nat, k ≤ n ∧ ti = .int .i64 k ∧ tok = .bool (laid (ss.take k)).isSome ∧ WrO wr w3.heap.size (laid (ss.take k)) (3008 * k) ∧ (∀ L, laid (ss.take k) = some L → MineB wr (w3.heap.size + 1) tw L) ∧ Below w.heap.size w wr ∧ w3.heap.size + 1 ≤ wr.heap.size) (fun _ _ ti _ => n - (intOf ti).toNat)
    case atStart => exact ⟨0, Nat.zero_le _, rfl, rfl, HA.out, fun L hL => by cases hL; exact World.ownsRow_nil _ _ _ _, hB.out, HSZ.out⟩
    case round =>
      obtain ⟨k, hk, rfl, rfl, hX, hM, hB8, hsz⟩ := hrel
      have X := (show Hid _ from hX)
      have M := (show Hid _ from hM)
      have B := (show Hid _ from hB8)
      have SZ := (show Hid _ from hsz)
      have hk3 : k ≤ 3000 := by omega
      clear hX hM hB8 hsz HA hB HSZ
      by_cases hk1 : k < n
      · obtain ⟨s, sb, so, e1, rfl, C, -⟩ := (HS.out.keep B.out).at hk1
        have HE := (show Hid _ from e1)
        have hA := (show Hid _ from step_ofW HS.out e1)
        have hm := heavy_mem e1
        have hh : s.bn + 8 * s.nn ≤ 3000 := by have := HH1.out; omega
        have HLT := (show Hid _ from laid_take e1)
        have s0 := C.c0
        have s1 := C.c1
        have s2 := C.c2
        have s3 := C.c3
        have s4 := C.c4
        have hlt' : (k : Int) < n := by omega
        clear e1 C hm
        have t := write_any X.out hA.out B.out HV.out hh (by omega)
        generalize hO : laid (ss.take k) = O at *
        cases O with
        | none =>
          simp only [Option.isSome_none]
          go_wp2_with fail
          refine t.mono ?_
          rintro e w4 ⟨rfl, X', b'⟩
          replace X := (show Hid (WrO w4 w3.heap.size none (3008 * k + 3008)) from X')
          replace B := (show Hid _ from b'.below B.out HV.out (Nat.le_refl _))
          replace SZ := (show Hid _ from Nat.le_trans SZ.out b'.size)
          clear t X' b' M
          go_wp2_with fail
          refine (outNoneW X.out).mono ?_
          rintro e w5 ⟨rfl, b'⟩
          replace X := (show Hid _ from X.out.keep b')
          replace B := (show Hid _ from joinB B.out b')
          replace SZ := (show Hid _ from Nat.le_trans SZ.out b'.size)
          clear b'
          go_wp2_with fail
          refine (spoilB0).mono ?_
          rintro e wx ⟨rfl, hwx⟩
          subst hwx
          go_wp2
          refine ⟨⟨k + 1, by omega, by go_num, ?_, ?_, fun L hL => ?_, B.out, SZ.out⟩, by simp [intOf]; omega⟩
          · rw [HLT.out]; rfl
          · rw [HLT.out]; exact X.out
          · rw [HLT.out] at hL; cases hL
        | some L =>
          simp only [Option.isSome_some]
          have hM := M.out L rfl
          have HLN := (show Hid _ from (X.out.some rfl).2)
          clear M
          go_wp2_with fail
          refine t.mono ?_
          rintro e w4 ⟨rfl, X', b'⟩
          have HMM := (show Hid _ from mineB_but hM b' (fun q hq => by have := mineB_blk hM q hq; omega))
          replace X := (show Hid _ from X')
          replace B := (show Hid _ from b'.below B.out HV.out (Nat.le_refl _))
          replace SZ := (show Hid _ from Nat.le_trans SZ.out b'.size)
          clear t X' b' hM
          have C := (HS.out.keep B.out).cellsW HE.out
          replace s0 := C.c0
          replace s1 := C.c1
          replace s2 := C.c2
          replace s3 := C.c3
          replace s4 := C.c4
          clear C
          have t := lay_any HMM.out hA.out B.out (by have := HV.out; omega) SZ.out hh (by have := HLN.out; omega)
          have HX : Hid (stO s (some L) = (stB s).map (L ++ ·)) := rfl
          clear HMM
          go_wp2_with fail
          generalize hSB : stB s = SB at *
          cases SB with
          | none =>
            refine t.mono ?_
            rintro e w5 ⟨v5, rfl, -, hY⟩
            replace X := (show Hid (WrO w5 w3.heap.size none (3008 * k + 3008)) from by have h := X.out.byt hY; rw [HX.out] at h; exact h)
            replace B := (show Hid _ from hY.below B.out (by have := HV.out; omega) (Nat.le_refl _))
            replace SZ := (show Hid _ from Nat.le_trans SZ.out hY.size)
            have HSB := (show Hid _ from hSB)
            clear t hY hSB s0 s1 s2 s3 s4
            simp only [Option.isSome_none]
            go_wp2_with fail
            refine (outNoneW X.out).mono ?_
            rintro e w6 ⟨rfl, b'⟩
            replace X := (show Hid _ from X.out.keep b')
            replace B := (show Hid _ from joinB B.out b')
            replace SZ := (show Hid _ from Nat.le_trans SZ.out b'.size)
            clear b'
            go_wp2_with fail
            refine (spoilB0).mono ?_
            rintro e wx ⟨rfl, hwx⟩
            subst hwx
            go_wp2
            refine ⟨⟨k + 1, by omega, by go_num, ?_, ?_, fun L9 hL => ?_, B.out, SZ.out⟩, by simp [intOf]; omega⟩
            · rw [HLT.out, HX.out]; rfl
            · rw [HLT.out, HX.out]; exact X.out
            · rw [HLT.out, HX.out] at hL; cases hL
          | some l =>
            refine t.mono ?_
            rintro e w5 ⟨v5, rfl, hM5, hY⟩
            replace X := (show Hid (WrO w5 w3.heap.size (some (L ++ l)) (3008 * k + 3008)) from by have h := X.out.byt hY; rw [HX.out] at h; exact h)
            replace B := (show Hid _ from hY.below B.out (by have := HV.out; omega) (Nat.le_refl _))
            replace SZ := (show Hid _ from Nat.le_trans SZ.out hY.size)
            have hM6 := hM5 l rfl
            obtain ⟨T, hT⟩ : ∃ T, L ++ l = T := ⟨_, rfl⟩
            rw [hT] at hM6 X
            have HT := (show Hid _ from hT)
            have HBK := (show Hid _ from mineB_blk hM6)
            have HM6 := (show Hid (MineB w5 (w3.heap.size + 1) v5 T) from hM6)
            have HTL := (show Hid _ from (X.out.some rfl).2)
            clear t hY hSB s0 s1 s2 s3 s4 hM5 hM6 hT
            simp only [Option.isSome_some]
            go_wp2_with fail
            refine (outSomeW X.out (by omega)).mono ?_
            rintro e w6 ⟨rfl, Y, b'⟩
            replace X := (show Hid _ from X.out.keep b')
            replace B := (show Hid _ from joinB B.out b')
            have SZ5 := (show Hid _ from SZ.out)
            replace SZ := (show Hid _ from Nat.le_trans SZ.out b'.size)
            have h6 := mineB_keep HM6.out b'
            have HM7 := (show Hid (MineB w6 (w3.heap.size + 1) v5 T) from h6)
            obtain ⟨bv, av, cv, rfl, AV⟩ := h6.at8
            have t := helpBytes (some ⟨w5.heap.size, 0, none⟩) T.length T.length w5.heap.size 0 av T.length cv bv 0 T T w6 rfl rfl (by have := HTL.out; omega) (by have := HTL.out; omega) Y.atB AV
            rw [eqB_true rfl] at t
            have HYY := (show Hid _ from Y)
            clear b' AV h6 Y
            go_wp2_with fail
            refine t.mono ?_
            rintro e w7 ⟨rfl, b'⟩
            replace X := (show Hid _ from X.out.keep b')
            replace B := (show Hid _ from joinB B.out b')
            replace SZ := (show Hid _ from Nat.le_trans SZ.out b'.size)
            have HM8 := (show Hid (MineB w7 (w3.heap.size + 1) (.slice av T.length cv) T) from mineB_keep HM7.out b')
            replace HYY := (show Hid _ from HYY.out.keep b')
            clear t b' HM7
            have t := spoilB (c := T.length) HYY.out.byr (by have := HTL.out; omega)
            go_wp2_with fail
            refine t.mono ?_
            rintro e w8 ⟨rfl, b'⟩
            have hY8 := Byt.but b' SZ5.out HYY.out
            replace X := (show Hid _ from X.out.byt hY8)
            replace B := (show Hid _ from hY8.below B.out (by have := HV.out; omega) (Nat.le_refl _))
            replace SZ := (show Hid _ from Nat.le_trans SZ.out b'.size)
            have HM9 := (show Hid (MineB w8 (w3.heap.size + 1) (.slice av T.length cv) T) from mineB_but HM8.out b' (fun q hq => by have := HBK.out q hq; omega))
            clear t b' hY8 HM8
            go_wp2
            refine ⟨⟨k + 1, by omega, by go_num, ?_, ?_, fun L9 hL => ?_, B.out, SZ.out⟩, by simp [intOf]; omega⟩
            · rw [HLT.out, HX.out]; rfl
            · rw [HLT.out, HX.out]
              show WrO w8 w3.heap.size (some (L ++ l)) _
              rw [HT.out]
              exact X.out
            · rw [HLT.out, HX.out] at hL
              cases hL
              show MineB w8 _ _ (L ++ l)
              rw [HT.out]
              exact HM9.out
      · obtain rfl : k = n := by omega
        clear X M
        go_wp2
        go_ret
        exact ⟨rfl, B.out⟩
  · rw [decide_eq_false hlt1]
    clear hlt1
    go_wp2
    go_ret
    exact ⟨rfl, hB.out⟩
end Go.Proofs.Ytapnhfppjefnfaa
