/- gleanlaw4.EncJoin: two scripts laid by one Writer are the bytes of both, one behind the other. -/
import Derived.Test.YtapnhfppjefnfaaJda
namespace Go.Proofs.Ytapnhfppjefnfaa
open Go.RowKit Lim

theorem app_g {w : World} {ops : Array Oper} {rest : List Oper} {o : Oper} {a : Act} {Q : Exit → Act → World → Prop} (hw : Region.wanted o (yielded ops a.tmps) = true) (s x : Operand) (t : TypeId)
    (ho : o.op = .call { callee := .builtin .append, args := #[s, x], argTypes := #[t, t] })
    (base : Nat) (e : TypeId) (i : TypeInfo) (z : Value) (size bytes : Nat) (ht : Try.prog.underlying t = some (.slice e)) (hi : Try.prog.info? e = some i) (hz : i.zero = some z)
    (hsize : i.size = size) (hby : i.bytes = bytes) (hzs : z.cells.size = size) (hsz : 0 < size)
    (v : Value) (n : Nat) (xs : List Value) (hs : a.eval s = v) (hown : w.ownsRow base e size v n xs)
    (ad : Addr) (m c : Nat) (news : List Value) (hx : a.eval x = .slice (some ad) m c) (hl : news.length = m * size) (hnews : ∀ j u, news[j]? = some u → w.cell? (ad.add j) = some u) (h1 : ∀ u ∈ news, u.oneCell' = true)
    (h63 : n + m ≤ maxLen) (hbytes : (n + m) * bytes ≤ 140737488355328) (hbase : base ≤ w.heap.size)
    (h : ∀ v' w', w'.ownsRow base e size v' (n + m) (xs ++ news) → w.grownBy w' v.ownBlock → (v' = .slice none 0 0 ↔ v = .slice none 0 0 ∧ m = 0) → wpList Try.prog ops Q rest (a.put o.dst v') w') : wpList Try.prog ops Q (o :: rest) a w :=
  wpList_step fun K hK => by
    rw [if_pos hw]
    exact wp_append_own w s x t ho base e i z size bytes ht hi hz hsize hby hzs hsz v n xs hs hown ad m c news hx hl hnews h1 h63 hbytes hbase fun v' w' h2 h3 h4 => hK _ _ (h v' w' h2 h3 h4)
theorem WrO.mono {w : World} {g : Nat} {o : Option (List Int)} {N N' : Nat} (h : WrO w g o N) (hN : N ≤ N') : WrO w g o N' := by
  obtain ⟨e, L, X, h1, h2⟩ := h.ex
  exact ⟨e, L, X, Nat.le_trans h1 hN, h2⟩
theorem WrO.eqv {w : World} {g : Nat} {o o' : Option (List Int)} {N : Nat} (h : WrO w g o N) (e : o = o') : WrO w g o' N := e ▸ h
theorem outNone {w : World} {g N : Nat} (X : WrO w g none N) :
    Calls Try.prog 23 #[.pointer (some ⟨g, 0, none⟩)] w fun e w' => e = .returned (.tuple #[.slice none 0 0, .int .i64 42]) ∧ Below w.heap.size w w' := by
  obtain ⟨L, X'⟩ := X.none rfl
  exact wrOutE X' (by decide)
theorem outSome {w : World} {g N : Nat} {L : List Int} (X : WrO w g (some L) N) (hN : N ≤ 17592186044416) :
    Calls Try.prog 23 #[.pointer (some ⟨g, 0, none⟩)] w fun e w' => e = .returned (.tuple #[.slice (some ⟨w.heap.size, 0, none⟩) L.length L.length, .int .i64 0]) ∧ Box w' w.heap.size (L.map (Value.int .u8)) 5 ∧ Below w.heap.size w w' := by
  obtain ⟨X', h⟩ := X.some rfl
  exact wrOut X' (by omega)
theorem step_mem {w : World} {ao : Option Addr} {n k : Nat} {ss : List Stp} {s : Stp} (S : StepsA w ao n ss) (h : ss[k]? = some s) : StpA w s := by
  obtain ⟨_, _, _, _, h3⟩ := S.get k s h
  exact h3
theorem MineB.at9 {w : World} {B : Nat} {v : Value} {l : List Int} (h : MineB w B v l) : ∃ b ao c, v = .slice ao l.length c ∧ AtB w ao b 0 l := by
  obtain ⟨_, h2⟩ := h
  rcases h2 with ⟨rfl, h0⟩ | ⟨g, cap, cur, rfl, hB, hh, hle, hmx, hsz, htk⟩
  · have e : l = [] := List.eq_nil_of_length_eq_zero h0
    subst e
    exact ⟨B, none, 0, rfl, .inl rfl, fun i hi => by simp at hi⟩
  · refine ⟨g, _, _, rfl, .inr rfl, fun i hi => ?_⟩
    simp only [World.cell?, hh]
    have e : cur[0 + i]? = some (.int .u8 (nth l i)) := by
      have h3 : (cur.toList.take (l.length * 1))[i]? = some (.int .u8 (nth l i)) := by
        rw [htk, List.getElem?_map, List.getElem?_eq_getElem hi, nth_eq hi]
        rfl
      rw [List.getElem?_take] at h3
      split at h3
      · rw [Nat.zero_add, ← Array.getElem?_toList]
        exact h3
      · cases h3
    simpa using e
theorem StepsA.cells {w : World} {n i b o : Nat} {ss : List Stp} {s : Stp} (h : StepsA w (some ⟨b, o, none⟩) n ss) (hs : ss[i]? = some s) : StpC w b (o + i * 5) s := by
  obtain ⟨b', o', e, h2, _⟩ := h.get i s hs
  cases e
  exact h2
theorem WrO.next {w : World} {g k : Nat} {ss : List Stp} {s : Stp} (h : WrO w g (stO s (laid (ss.take k))) (3008 * k + 3008)) (e : ss[k]? = .some s) : WrO w g (laid (ss.take (k + 1))) (3008 * (k + 1)) := by
  rw [laid_take e]
  exact h
theorem WrO.stay {w : World} {g k n : Nat} {ss : List Stp} (h : WrO w g (laid (ss.take k)) (3008 * k)) (hl : ss.length = n) (hk : n ≤ k) : WrO w g (laid (ss.take (k + 1))) (3008 * (k + 1)) := by
  rw [List.take_of_length_le (by omega)] at h ⊢
  exact h.mono (by omega)
set_option maxHeartbeats 4000000 in
set_option maxRecDepth 100000 in
theorem encJoin_walk {w : World} {n1 c1 n2 c2 : Nat} {a1 a2 : Option Addr} {l m : List Stp} (S1 : StepsA w a1 n1 l) (S2 : StepsA w a2 n2 m) :
    Calls Try.prog 4 #[.slice a1 n1 c1, .slice a2 n2 c2] w fun e w' => e = .returned (.bool true) ∧ Below w.heap.size w w' := by
  obtain ⟨i0, hi, hz0, hz1, hz2⟩ := info_parts info_u8
  have HS1 := (show Hid _ from S1)
  have HS2 := (show Hid _ from S2)
  have hle1 : (n1 : Int) ≤ 9223372036854775807 := by have := S1.le; omega
  have hle2 : (n2 : Int) ≤ 9223372036854775807 := by have := S2.le; omega
  have HI : Hid (Try.prog.info? 5 = some i0 ∧ i0.zero = some (.int .u8 0) ∧ i0.size = 1 ∧ i0.bytes = 1) := ⟨hi, hz0, hz1, hz2⟩
  clear S1 S2 hi hz0 hz1 hz2
  go_enter Try.func4, Try.ntmps4
  go_wp2_with fail
  refine (knownE w).mono ?_
  rintro e w1 ⟨rfl, hB⟩
  replace hB := (show Hid _ from hB)
  go_wp2_with fail
  refine (light_any (c := c1) (HS1.out.keep hB.out)).mono ?_
  rintro e w2 ⟨rfl, hB2⟩
  replace hB := (show Hid _ from joinB hB.out hB2)
  clear hB2
  by_cases hlt1 : n1 + heavy l ≤ 3000
  · rw [decide_eq_true hlt1]
    have HH1 := (show Hid _ from hlt1)
    clear hlt1
    go_wp2_with fail
    refine (light_any (c := c2) (HS2.out.keep hB.out)).mono ?_
    rintro e w3 ⟨rfl, hB2⟩
    replace hB := (show Hid _ from joinB hB.out hB2)
    clear hB2
    by_cases hlt2 : n2 + heavy m ≤ 3000
    · rw [decide_eq_true hlt2]
      have HH2 := (show Hid _ from hlt2)
      have hn1 : (n1 : Int) ≤ 3000 := by have := HH1.out; omega
      have hn2 : (n2 : Int) ≤ 3000 := by omega
      clear hlt2
      have HV := (show Hid _ from hB.out.size)
      have hal1 := below_alloc w3 (.cells Try.zeroCells51 51)
      have hal2 := below_alloc (w3.alloc (.cells Try.zeroCells51 51)) (.cells Try.zeroCells51 51)
      have hal3 := below_alloc ((w3.alloc (.cells Try.zeroCells51 51)).alloc (.cells Try.zeroCells51 51)) (.cells Try.zeroCells51 51)
      have sz : ∀ (W : World) (ob : Obj), (W.alloc ob).heap.size = W.heap.size + 1 := fun W ob => by show (W.heap.push ob).size = _; simp
      have XA := ((wroNew w3).keep hal2).keep hal3
      have XB := (wroNew (w3.alloc (.cells Try.zeroCells51 51))).keep hal3
      have XC := wroNew ((w3.alloc (.cells Try.zeroCells51 51)).alloc (.cells Try.zeroCells51 51))
      rw [sz] at XB
      rw [sz, sz] at XC
      replace hB := (show Hid _ from joinB (joinB (joinB hB.out hal1) hal2) hal3)
      have HA := (show Hid _ from XA)
      have HBB := (show Hid _ from XB)
      have HC := (show Hid _ from XC)
      clear XA XB XC hal1 hal2 hal3 sz
      go_wp2_with fail
      go_loopw [8] (fun ti wr => ∃ k : Nat, (k ≤ n1 ∨ k ≤ n2) ∧ ti = .int .i64 k ∧ WrO wr w3.heap.size (laid (l.take k)) (3008 * k) ∧ WrO wr (w3.heap.size + 1) (laid (m.take k)) (3008 * k) ∧ WrO wr (w3.heap.size + 1 + 1) (laid (l.take k)) (3008 * k) ∧ Below w.heap.size w wr) (fun ti _ => n1 + n2 - (intOf ti).toNat)
      case atStart => exact ⟨0, .inl (Nat.zero_le _), rfl, HA.out, HBB.out, HC.out, hB.out⟩
      case round =>
        obtain ⟨k, hk, rfl, hA9, hB9, hC9, hB8⟩ := hrel
        have XA := (show Hid _ from hA9)
        have XB := (show Hid _ from hB9)
        have XC := (show Hid _ from hC9)
        have B := (show Hid _ from hB8)
        have hk3 : k ≤ 3000 := by omega
        clear hA9 hB9 hC9 hB8 HA HBB HC hB
        by_cases hk1 : k < n1
        · skip
          obtain ⟨s, sb, so, e1, rfl, C, -⟩ := (HS1.out.keep B.out).at hk1
          have HEs := (show Hid _ from e1)
          have hAs := (show Hid _ from step_mem HS1.out e1)
          have hm := heavy_mem e1
          have hhs : s.bn + 8 * s.nn ≤ 3000 := by have := HH1.out; omega
          have s0 := C.c0
          have s1 := C.c1
          have s2 := C.c2
          have s3 := C.c3
          have s4 := C.c4
          have hlts : (k : Int) < n1 := by omega
          clear e1 C hm
          have t := write_any XA.out hAs.out B.out (by have := HV.out; omega) hhs (by omega)
          go_wp2_with fail
          refine t.mono ?_
          rintro e w4 ⟨rfl, X', b'⟩
          replace XB := (show Hid _ from XB.out.off XA.out (by omega) b')
          replace XC := (show Hid _ from XC.out.off XA.out (by omega) b')
          replace XA := (show Hid _ from X')
          replace B := (show Hid _ from b'.below B.out (by have := HV.out; omega) (Nat.le_refl _))
          clear t X' b'
          have C := (HS1.out.keep B.out).cells HEs.out
          replace s0 := C.c0
          replace s1 := C.c1
          replace s2 := C.c2
          replace s3 := C.c3
          replace s4 := C.c4
          clear C
          have t := write_any XC.out hAs.out B.out (by have := HV.out; omega) hhs (by omega)
          go_wp2_with fail
          refine t.mono ?_
          rintro e w5 ⟨rfl, X', b'⟩
          replace XA := (show Hid _ from XA.out.off XC.out (by omega) b')
          replace XB := (show Hid _ from XB.out.off XC.out (by omega) b')
          replace XC := (show Hid _ from X')
          replace B := (show Hid _ from b'.below B.out (by have := HV.out; omega) (Nat.le_refl _))
          clear t X' b'
          clear s0 s1 s2 s3 s4
          by_cases hk2 : k < n2
          · skip
            obtain ⟨r, rb, ro, e1, rfl, C, -⟩ := (HS2.out.keep B.out).at hk2
            have HEr := (show Hid _ from e1)
            have hAr := (show Hid _ from step_mem HS2.out e1)
            have hm := heavy_mem e1
            have hhr : r.bn + 8 * r.nn ≤ 3000 := by have := HH2.out; omega
            have r0 := C.c0
            have r1 := C.c1
            have r2 := C.c2
            have r3 := C.c3
            have r4 := C.c4
            have hltr : (k : Int) < n2 := by omega
            clear e1 C hm
            have t := write_any XB.out hAr.out B.out (by have := HV.out; omega) hhr (by omega)
            go_wp2_with fail
            refine t.mono ?_
            rintro e w6 ⟨rfl, X', b'⟩
            replace XA := (show Hid _ from XA.out.off XB.out (by omega) b')
            replace XC := (show Hid _ from XC.out.off XB.out (by omega) b')
            replace XB := (show Hid _ from X')
            replace B := (show Hid _ from b'.below B.out (by have := HV.out; omega) (Nat.le_refl _))
            clear t X' b'
            go_wp2
            exact ⟨⟨k + 1, by omega, by go_num, XA.out.next HEs.out, XB.out.next HEr.out, XC.out.next HEs.out, B.out⟩, by simp [intOf]; omega⟩
          · have hq2 : ((k : Int) < n2) = False := eq_false (by omega)
            go_wp2
            exact ⟨⟨k + 1, by omega, by go_num, XA.out.next HEs.out, XB.out.stay HS2.out.len (by omega), XC.out.next HEs.out, B.out⟩, by simp [intOf]; omega⟩
        · have hq1 : ((k : Int) < n1) = False := eq_false (by omega)
          by_cases hk2 : k < n2
          · skip
            obtain ⟨r, rb, ro, e1, rfl, C, -⟩ := (HS2.out.keep B.out).at hk2
            have HEr := (show Hid _ from e1)
            have hAr := (show Hid _ from step_mem HS2.out e1)
            have hm := heavy_mem e1
            have hhr : r.bn + 8 * r.nn ≤ 3000 := by have := HH2.out; omega
            have r0 := C.c0
            have r1 := C.c1
            have r2 := C.c2
            have r3 := C.c3
            have r4 := C.c4
            have hltr : (k : Int) < n2 := by omega
            clear e1 C hm
            have t := write_any XB.out hAr.out B.out (by have := HV.out; omega) hhr (by omega)
            go_wp2_with fail
            refine t.mono ?_
            rintro e w6 ⟨rfl, X', b'⟩
            replace XA := (show Hid _ from XA.out.off XB.out (by omega) b')
            replace XC := (show Hid _ from XC.out.off XB.out (by omega) b')
            replace XB := (show Hid _ from X')
            replace B := (show Hid _ from b'.below B.out (by have := HV.out; omega) (Nat.le_refl _))
            clear t X' b'
            go_wp2
            exact ⟨⟨k + 1, by omega, by go_num, XA.out.stay HS1.out.len (by omega), XB.out.next HEr.out, XC.out.stay HS1.out.len (by omega), B.out⟩, by simp [intOf]; omega⟩
          · have hq2 : ((k : Int) < n2) = False := eq_false (by omega)
            have YA : Hid (WrO wr w3.heap.size (laid l) 9024000) := by
              have h := XA.out
              rw [List.take_of_length_le (by have := HS1.out.len; omega)] at h
              exact h.mono (by omega)
            have YB : Hid (WrO wr (w3.heap.size + 1) (laid m) 9024000) := by
              have h := XB.out
              rw [List.take_of_length_le (by have := HS2.out.len; omega)] at h
              exact h.mono (by omega)
            have YC : Hid (WrO wr (w3.heap.size + 1 + 1) (laid l) 9024000) := by
              have h := XC.out
              rw [List.take_of_length_le (by have := HS1.out.len; omega)] at h
              exact h.mono (by omega)
            have B1 := (show Hid _ from B.out)
            clear XA XB XC B hk1 hk2 hk hk3
            go_wp2_with fail
            go_loopw [9] (fun ti wq => ∃ k : Nat, k ≤ n2 ∧ ti = .int .i64 k ∧ WrO wq w3.heap.size (laid l) 9024000 ∧ WrO wq (w3.heap.size + 1) (laid m) 9024000 ∧ WrO wq (w3.heap.size + 1 + 1) (laid (l ++ m.take k)) (9024000 + 3008 * k) ∧ Below w.heap.size w wq) (fun ti _ => n2 - (intOf ti).toNat)
            case atStart => exact ⟨0, Nat.zero_le _, rfl, YA.out, YB.out, by simpa using YC.out, B1.out⟩
            case round =>
              obtain ⟨k, hk, rfl, hA9, hB9, hC9, hB8⟩ := hrel
              have XA := (show Hid _ from hA9)
              have XB := (show Hid _ from hB9)
              have XC := (show Hid _ from hC9)
              have B := (show Hid _ from hB8)
              clear hA9 hB9 hC9 hB8 YA YB YC B1
              by_cases hk2 : k < n2
              · skip
                obtain ⟨r, rb, ro, e1, rfl, C, -⟩ := (HS2.out.keep B.out).at hk2
                have HEr := (show Hid _ from e1)
                have hAr := (show Hid _ from step_mem HS2.out e1)
                have hm := heavy_mem e1
                have hhr : r.bn + 8 * r.nn ≤ 3000 := by have := HH2.out; omega
                have r0 := C.c0
                have r1 := C.c1
                have r2 := C.c2
                have r3 := C.c3
                have r4 := C.c4
                have hltr : (k : Int) < n2 := by omega
                clear e1 C hm
                have t := write_any XC.out hAr.out B.out (by have := HV.out; omega) hhr (by omega)
                go_wp2_with fail
                refine t.mono ?_
                rintro e w6 ⟨rfl, X', b'⟩
                replace XA := (show Hid _ from XA.out.off XC.out (by omega) b')
                replace XB := (show Hid _ from XB.out.off XC.out (by omega) b')
                replace XC := (show Hid _ from X')
                replace B := (show Hid _ from b'.below B.out (by have := HV.out; omega) (Nat.le_refl _))
                clear t X' b'
                go_wp2
                refine ⟨⟨k + 1, by omega, by go_num, XA.out, XB.out, ?_, B.out⟩, by simp [intOf]; omega⟩
                have e9 : l ++ m.take (k + 1) = (l ++ m.take k) ++ [r] := by rw [List.take_add_one, HEr.out]; simp
                rw [e9, laid_snoc]
                exact XC.out
              · obtain rfl : k = n2 := by omega
                have hC : laid (l ++ m.take k) = (laid l).bind fun L => (laid m).map (L ++ ·) := by
                  rw [List.take_of_length_le (by have := HS2.out.len; omega), laid_append]
                have ZC : Hid (WrO wr (w3.heap.size + 1 + 1) ((laid l).bind fun L => (laid m).map (L ++ ·)) 19000000) := by
                  have h := XC.out
                  rw [hC] at h
                  exact h.mono (by omega)
                clear XC hC
                generalize laid l = OL at *
                generalize laid m = OM at *
                match OL, OM with
                | none, OM =>
                  have t := outNone XA.out
                  go_wp2_with fail
                  refine t.mono ?_
                  rintro e w6 ⟨rfl, b'⟩
                  replace B := (show Hid _ from joinB B.out b')
                  replace XB := (show Hid _ from XB.out.keep b')
                  replace ZC := (show Hid (WrO w6 (w3.heap.size + 1 + 1) none 19000000) from ZC.out.keep b')
                  clear t b' XA
                  match OM with
                  | none =>
                    have t := outNone XB.out
                    go_wp2_with fail
                    refine t.mono ?_
                    rintro e w7 ⟨rfl, b'⟩
                    replace B := (show Hid _ from joinB B.out b')
                    replace ZC := (show Hid _ from ZC.out.keep b')
                    clear t b' XB
                    have t := outNone ZC.out
                    go_wp2_with fail
                    refine t.mono ?_
                    rintro e w8 ⟨rfl, b'⟩
                    replace B := (show Hid _ from joinB B.out b')
                    clear t b' ZC
                    go_wp2
                    go_ret
                    exact ⟨rfl, B.out⟩
                  | some M =>
                    have t := outSome XB.out (by decide)
                    go_wp2_with fail
                    refine t.mono ?_
                    rintro e w7 ⟨rfl, -, b'⟩
                    replace B := (show Hid _ from joinB B.out b')
                    replace ZC := (show Hid _ from ZC.out.keep b')
                    clear t b' XB
                    have t := outNone ZC.out
                    go_wp2_with fail
                    refine t.mono ?_
                    rintro e w8 ⟨rfl, b'⟩
                    replace B := (show Hid _ from joinB B.out b')
                    clear t b' ZC
                    go_wp2
                    go_ret
                    exact ⟨rfl, B.out⟩
                | some L, none =>
                  have t := outSome XA.out (by decide)
                  go_wp2_with fail
                  refine t.mono ?_
                  rintro e w6 ⟨rfl, -, b'⟩
                  replace B := (show Hid _ from joinB B.out b')
                  replace XB := (show Hid _ from XB.out.keep b')
                  replace ZC := (show Hid (WrO w6 (w3.heap.size + 1 + 1) none 19000000) from ZC.out.keep b')
                  clear t b' XA
                  have t := outNone XB.out
                  go_wp2_with fail
                  refine t.mono ?_
                  rintro e w7 ⟨rfl, b'⟩
                  replace B := (show Hid _ from joinB B.out b')
                  replace ZC := (show Hid _ from ZC.out.keep b')
                  clear t b' XB
                  have t := outNone ZC.out
                  go_wp2_with fail
                  refine t.mono ?_
                  rintro e w8 ⟨rfl, b'⟩
                  replace B := (show Hid _ from joinB B.out b')
                  clear t b' ZC
                  go_wp2
                  go_ret
                  exact ⟨rfl, B.out⟩
                | some L, some M =>
                  have HLA := (show Hid _ from (XA.out.some rfl).2)
                  have HLB := (show Hid _ from (XB.out.some rfl).2)
                  have t := outSome XA.out (by decide)
                  go_wp2_with fail
                  refine t.mono ?_
                  rintro e w6 ⟨rfl, YA, b'⟩
                  replace B := (show Hid _ from joinB B.out b')
                  replace XB := (show Hid _ from XB.out.keep b')
                  replace ZC := (show Hid (WrO w6 (w3.heap.size + 1 + 1) (some (L ++ M)) 19000000) from ZC.out.keep b')
                  have YA := (show Hid _ from YA)
                  clear t b' XA
                  have t := outSome XB.out (by decide)
                  go_wp2_with fail
                  refine t.mono ?_
                  rintro e w7 ⟨rfl, YB, b'⟩
                  replace B := (show Hid _ from joinB B.out b')
                  replace ZC := (show Hid _ from ZC.out.keep b')
                  replace YA := (show Hid _ from YA.out.keep b')
                  have YB := (show Hid _ from YB)
                  clear t b' XB
                  have t := outSome ZC.out (by decide)
                  rw [List.length_append] at t
                  go_wp2_with fail
                  refine t.mono ?_
                  rintro e w8 ⟨rfl, YC, b'⟩
                  replace B := (show Hid _ from joinB B.out b')
                  replace YA := (show Hid _ from YA.out.keep b')
                  replace YB := (show Hid _ from YB.out.keep b')
                  have HC8 := (show Hid _ from YC.lt)
                  have YC := (show Hid _ from YC)
                  have B8 := (show Hid _ from B.out)
                  clear t b' ZC
                  go_wp2_with fail
                  have t := copyBytes_any (some ⟨wr.heap.size, 0, none⟩) L.length L.length wr.heap.size 0 L w8 rfl (by have := HLA.out; omega) (fun e => by cases e) YA.out.atB
                  refine t.mono ?_
                  rintro e w9 ⟨v, rfl, hM, b'⟩
                  have hown : w9.ownsRow w8.heap.size 5 1 v L.length (L.map (Value.int .u8)) := hM
                  replace B := (show Hid _ from joinB B.out b')
                  replace YB := (show Hid _ from YB.out.keep b')
                  replace YC := (show Hid _ from YC.out.keep b')
                  have HSZ := (show Hid _ from b'.size)
                  clear t b' hM YA
                  go_wp2_with (at_builtin; refine app_g (by kernel_rfl) _ _ 22 rfl w8.heap.size 5 i0 (.int .u8 0) 1 1 under_bytes HI.out.1 HI.out.2.1 HI.out.2.2.1 HI.out.2.2.2 rfl (by decide) _ _ _ rfl hown ⟨w6.heap.size, 0, none⟩ M.length M.length (M.map (Value.int .u8)) rfl (by simp) ?c1 ?c2 ?c3 ?c4 ?c5 ?_)
                  case c1 =>
                    intro j u hu
                    rw [List.getElem?_map] at hu
                    rcases Nat.lt_or_ge j M.length with hj | hj
                    · rw [List.getElem?_eq_getElem hj] at hu
                      simp at hu
                      subst hu
                      rw [addr_add, Nat.zero_add, YB.out.bytes hj, nth_eq hj]
                    · rw [List.getElem?_eq_none hj] at hu; simp at hu
                  case c2 => exact ints_oneCell _ _
                  case c3 => unfold maxLen; have := HLA.out; have := HLB.out; omega
                  case c4 => have := HLA.out; have := HLB.out; omega
                  case c5 => exact HSZ.out
                  intro v' w10 hown' hgrow _
                  have hge := own_ge hown
                  have b9 : Below w8.heap.size w9 w10 := (Below.refl _ _).grown hgrow HSZ.out hge
                  have hM2 : MineB w10 w8.heap.size v' (L ++ M) := by
                    unfold MineB
                    rw [List.length_append, List.map_append]
                    exact hown'
                  obtain ⟨bv, av, cv, rfl, AV⟩ := hM2.at9
                  have YC2 : AtB w10 (some ⟨w7.heap.size, 0, none⟩) w7.heap.size 0 (L ++ M) := Box.atB (t := 5) ⟨by rw [b9.block _ HC8.out]; exact YC.out.blk⟩
                  have t := helpBytes (some ⟨w7.heap.size, 0, none⟩) (L.length + M.length) (L.length + M.length) w7.heap.size 0 av (L.length + M.length) cv bv 0 (L ++ M) (L ++ M) w10 List.length_append List.length_append (by have := HLA.out; have := HLB.out; omega) (by have := HLA.out; have := HLB.out; omega) YC2 AV
                  rw [eqB_true rfl] at t
                  replace B := (show Hid _ from B.out.trans (b9.mono (Nat.le_trans B8.out.size (Nat.le_refl _))))
                  clear hown hown' hge hgrow YC2 AV hM2 b9
                  go_wp2_with fail
                  refine t.mono ?_
                  rintro e w11 ⟨rfl, b'⟩
                  replace B := (show Hid _ from joinB B.out b')
                  clear t b'
                  go_wp2
                  go_ret
                  exact ⟨rfl, B.out⟩
    · rw [decide_eq_false hlt2]
      clear hlt2
      go_wp2
      go_ret
      exact ⟨rfl, hB.out⟩
  · rw [decide_eq_false hlt1]
    clear hlt1
    go_wp2
    go_ret
    exact ⟨rfl, hB.out⟩
end Go.Proofs.Ytapnhfppjefnfaa
