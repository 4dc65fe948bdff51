/- Several texts, joined: EncJ. -/
import Derived.Test.YtapnhfppjefnfaaJca
namespace Go.Proofs.Ytapnhfppjefnfaa
open Go.RowKit Lim

/-- the bytes of a step; none: it is too long -/
def stB (s : Stp) : Option (List Int) :=
  if s.what = 0 then some (be 1 (s.num % 256))
  else if s.what = 1 then some (be 4 (s.num % 4294967296))
  else if s.what = 2 then some (be 8 s.num)
  else if s.what = 3 then some (be 1 (if s.num % 2 == 1 then 1 else 0))
  else if s.what = 4 ∨ s.what = 5 then (if (natB s.V).length < 256 then some (cntd 1 (natB s.V)) else none)
  else if s.what = 6 then some (cntd 4 s.bl)
  else some []
/-- one step more -/
def stO (s : Stp) (o : Option (List Int)) : Option (List Int) := o.bind fun L => (stB s).map (L ++ ·)
/-- the bytes of a script -/
def laid (ss : List Stp) : Option (List Int) := ss.foldl (fun o s => stO s o) (some [])
theorem laid_snoc (ss : List Stp) (s : Stp) : laid (ss ++ [s]) = stO s (laid ss) := by
  unfold laid
  rw [List.foldl_append]
  rfl
theorem laid_take {ss : List Stp} {i : Nat} {s : Stp} (h : ss[i]? = some s) : laid (ss.take (i + 1)) = stO s (laid (ss.take i)) := by
  rw [List.take_add_one, h]
  exact laid_snoc _ _
theorem laid_from (ss : List Stp) (o : Option (List Int)) : ss.foldl (fun o s => stO s o) o = o.bind fun L => (laid ss).map (L ++ ·) := by
  induction ss generalizing o with
  | nil =>
    cases o with
    | none => rfl
    | some L => simp [laid]
  | cons s r ih =>
    have h1 : laid (s :: r) = (stO s (some [])).bind fun L => (laid r).map (L ++ ·) := by
      unfold laid
      rw [List.foldl_cons]
      exact ih _
    rw [List.foldl_cons, ih, h1]
    cases o with
    | none => rfl
    | some L =>
      unfold stO
      cases stB s with
      | none => rfl
      | some l =>
        cases laid r with
        | none => rfl
        | some t => simp [List.append_assoc]
theorem laid_append (l m : List Stp) : laid (l ++ m) = (laid l).bind fun L => (laid m).map (L ++ ·) := by
  rw [← laid_from m (laid l)]
  unfold laid
  rw [List.foldl_append]
theorem laid_cons (s : Stp) (r : List Stp) : laid (s :: r) = (stB s).bind fun L => (laid r).map (L ++ ·) := by
  have := laid_append [s] r
  rw [List.singleton_append] at this
  rw [this]
  unfold laid
  rw [List.foldl_cons, List.foldl_nil]
  unfold stO
  cases stB s with
  | none => rfl
  | some l => simp
/-- a Writer that has laid o (none: the error 42), at most N bytes -/
structure WrO (w : World) (g : Nat) (o : Option (List Int)) (N : Nat) : Prop where
  ex : ∃ err L, WrA w g err L ∧ L.length ≤ N ∧ (∀ M, o = some M → err = 0 ∧ L = M) ∧ (o = none → err = 42)
theorem WrO.lt {w : World} {g : Nat} {o : Option (List Int)} {N : Nat} (h : WrO w g o N) : g < w.heap.size := by
  obtain ⟨_, _, X, _⟩ := h.ex
  exact X.lt
theorem WrO.keep {w w' : World} {g : Nat} {o : Option (List Int)} {N : Nat} (h : WrO w g o N) (hb : Below w.heap.size w w') : WrO w' g o N := by
  obtain ⟨e, L, X, h1⟩ := h.ex
  exact ⟨e, L, X.keep hb, h1⟩
theorem WrO.off {w w' : World} {g g' : Nat} {o o' : Option (List Int)} {N N' : Nat} (h : WrO w g o N) (h' : WrO w g' o' N') (hne : g ≠ g') (hb : But g' w w') : WrO w' g o N := by
  obtain ⟨e, L, X, h1⟩ := h.ex
  obtain ⟨_, _, X', _⟩ := h'.ex
  exact ⟨e, L, X.off X' hne hb, h1⟩
theorem wroNew (w : World) : WrO (w.alloc (.cells Try.zeroCells51 51)) w.heap.size (some []) 0 :=
  ⟨0, [], wrNew w, Nat.le_refl _, fun M e => by cases e; exact ⟨rfl, rfl⟩, fun e => by cases e⟩
theorem WrO.some {w : World} {g : Nat} {o : Option (List Int)} {N : Nat} (h : WrO w g o N) {L : List Int} (e : o = .some L) : WrA w g 0 L ∧ L.length ≤ N := by
  obtain ⟨err, M, X, h1, h2, _⟩ := h.ex
  obtain ⟨rfl, rfl⟩ := h2 L e
  exact ⟨X, h1⟩
theorem WrO.none {w : World} {g : Nat} {o : Option (List Int)} {N : Nat} (h : WrO w g o N) (e : o = .none) : ∃ L, WrA w g 42 L := by
  obtain ⟨err, M, X, h1, _, h3⟩ := h.ex
  obtain rfl := h3 e
  exact ⟨M, X⟩
theorem cntd_len (m : Nat) (l : List Int) : (cntd m l).length = m + l.length := by
  unfold cntd
  rw [List.length_append, be_length]
/-- the step s, laid by a call that writes l -/
theorem WrO.lay {w' : World} {g : Nat} {o : Option (List Int)} {N K : Nat} {err : Int} {L l : List Int} {s : Stp} (hs : stB s = .some l) (hK : l.length ≤ K) (h1 : L.length ≤ N) (h2 : ∀ M, o = .some M → err = 0 ∧ L = M) (h3 : o = .none → err = 42) (X : WrA w' g err (wrote err L l)) : WrO w' g (stO s o) (N + K) := by
  refine ⟨err, _, X, ?_, fun M e => ?_, fun e => ?_⟩
  · have := wrote_len err L l
    omega
  · cases o with
    | none => cases e
    | some M' =>
      obtain ⟨rfl, rfl⟩ := h2 M' rfl
      unfold stO at e
      rw [hs] at e
      cases e
      exact ⟨rfl, rfl⟩
  · cases o with
    | none => exact h3 rfl
    | some M' =>
      unfold stO at e
      rw [hs] at e
      cases e
theorem raw_at {w : World} {g n c b : Nat} {ao : Option Addr} {l : List Int} (h : ByA w b ao n c l) (hg : w.heap.size ≤ g) : ∃ b' o, AtB w ao b' o l ∧ l.length = n ∧ n ≤ c ∧ b' ≠ g := by
  obtain ⟨o, h1, h2, h3, h4, h5⟩ := h.ex
  rcases h5.lt with e | e
  · subst e
    exact ⟨g + 1, 0, ⟨.inl rfl, fun i hi => by simp at hi⟩, h1, h2, by omega⟩
  · exact ⟨b, o, h5, h1, h2, by omega⟩
theorem natE_two {V err : Int} (h : (natB V).length < 256) (L : List Int) : natE V err = err ∧ natL V err L = wrote err L (cntd 1 (natB V)) := by
  unfold natE natL
  rw [if_pos h, if_pos h]
  exact ⟨rfl, rfl⟩
/-- a whole number's step -/
theorem WrO.nat {w' : World} {g : Nat} {o : Option (List Int)} {N K : Nat} {err : Int} {L : List Int} {s : Stp} (hw : s.what = 4 ∨ s.what = 5) (hK : 256 ≤ K) (h1 : L.length ≤ N) (h2 : ∀ M, o = .some M → err = 0 ∧ L = M) (h3 : o = .none → err = 42) (X : WrA w' g (natE s.V err) (natL s.V err L)) : WrO w' g (stO s o) (N + K) := by
  have e : stB s = if (natB s.V).length < 256 then .some (cntd 1 (natB s.V)) else .none := by
    unfold stB
    rcases hw with h | h <;> simp [h]
  by_cases hl : (natB s.V).length < 256
  · rw [if_pos hl] at e
    rw [(natE_two hl L).1, (natE_two hl L).2] at X
    exact WrO.lay e (by rw [cntd_len]; omega) h1 h2 h3 X
  · rw [if_neg hl] at e
    unfold natE natL at X
    rw [if_neg hl, if_neg hl] at X
    refine ⟨_, _, X, by omega, fun M hM => ?_, fun _ => ?_⟩
    · unfold stO at hM
      rw [e] at hM
      cases o <;> cases hM
    · unfold long
      cases o with
      | none => rw [h3 rfl]; rfl
      | some M => rw [(h2 M rfl).1]; rfl
set_option maxHeartbeats 4000000 in
set_option maxRecDepth 100000 in
theorem write_any {w0 w : World} {g N : Nat} {o : Option (List Int)} {s : Stp} (X : WrO w g o N) (A : StpA w0 s) (hB : Below w0.heap.size w0 w) (hg : w0.heap.size ≤ g) (hb : s.bn + 8 * s.nn ≤ 3000) (hN : N ≤ 1099511627776) :
    Calls Try.prog 22 #[.pointer (some ⟨g, 0, none⟩), .agg #[.int .i64 s.what, .int .u64 s.num, .slice s.na s.nn s.nc, .slice s.ba s.bn s.bc, .int .i64 s.most]] w fun e w' => e = .returned (.tuple #[]) ∧ WrO w' g (stO s o) (N + 3008) ∧ But g w w' := by
  obtain ⟨what, num, na, nn, nc, V, ba, bn, bc, bb, bl, most⟩ := s
  obtain ⟨err, L, X0, hL, h2, h3⟩ := X.ex
  have H2 := (show Hid _ from h2)
  have H3 := (show Hid _ from h3)
  have HL := (show Hid _ from hL)
  have hn1 := A.n1
  have hn2 := A.n2
  have hna := A.nat.keep hB
  simp only at hna
  have HNA := (show Hid _ from hna)
  obtain ⟨b', o', ha, hl, hc, hbg⟩ := raw_at A.byt hg
  simp only at hn1 hn2 ha hl hc hbg hb ⊢
  have HRA := (show Hid _ from ha.keep hB)
  have HR1 := (show Hid _ from hl)
  have HR2 := (show Hid _ from hc)
  have HR3 := (show Hid _ from hbg)
  have hal := below_alloc w (.cells #[.int .i64 what, .int .u64 num, .slice na nn nc, .slice ba bn bc, .int .i64 most] 32)
  have X1 := X0.keep hal
  replace HNA := (show Hid _ from HNA.out.keep hal)
  replace HRA := (show Hid _ from HRA.out.keep hal)
  have HAL := (show Hid _ from hal)
  clear X A hB hg hna h2 h3 hL ha hl hc hbg X0 hal
  by_cases h0 : what = 0
  · subst h0
    have t := wrU8 (x := num % 256) X1 (by omega) (by omega) (by have := HL.out; omega)
    clear X1 HNA HRA
    go_enter Try.func22, Try.ntmps22
    go_wp2_with fail
    refine t.mono ?_
    rintro e w1 ⟨rfl, X2, b2⟩
    replace X2 := (show Hid _ from X2)
    replace b2 := (show Hid _ from b2)
    clear t
    go_wp2
    go_end0
    exact ⟨rfl, WrO.lay (by simp [stB]) (by rw [be_length]; omega) HL.out H2.out H3.out X2.out, (But.of HAL.out).trans b2.out⟩
  · by_cases h1 : what = 1
    · subst h1
      have t := wrU32 (x := num % 4294967296) X1 (by omega) (by omega) (by have := HL.out; omega)
      clear X1 HNA HRA
      go_enter Try.func22, Try.ntmps22
      go_wp2_with fail
      refine t.mono ?_
      rintro e w1 ⟨rfl, X2, b2⟩
      replace X2 := (show Hid _ from X2)
      replace b2 := (show Hid _ from b2)
      clear t
      go_wp2
      go_end0
      exact ⟨rfl, WrO.lay (by simp [stB]) (by rw [be_length]; omega) HL.out H2.out H3.out X2.out, (But.of HAL.out).trans b2.out⟩
    · by_cases h2 : what = 2
      · subst h2
        have t := wrU64 (x := num) X1 (by have := HL.out; omega)
        clear X1 HNA HRA
        go_enter Try.func22, Try.ntmps22
        go_wp2_with fail
        refine t.mono ?_
        rintro e w1 ⟨rfl, X2, b2⟩
        replace X2 := (show Hid _ from X2)
        replace b2 := (show Hid _ from b2)
        clear t
        go_wp2
        go_end0
        exact ⟨rfl, WrO.lay (by simp [stB]) (by rw [be_length]; omega) HL.out H2.out H3.out X2.out, (But.of HAL.out).trans b2.out⟩
      · by_cases h3 : what = 3
        · subst h3
          have t := wrBool (x := num % 2 == 1) X1 (by have := HL.out; omega)
          clear X1 HNA HRA
          go_enter Try.func22, Try.ntmps22
          go_wp2_with fail
          refine t.mono ?_
          rintro e w1 ⟨rfl, X2, b2⟩
          replace X2 := (show Hid _ from X2)
          replace b2 := (show Hid _ from b2)
          clear t
          go_wp2
          go_end0
          exact ⟨rfl, WrO.lay (by simp [stB]) (by rw [be_length]; omega) HL.out H2.out H3.out X2.out, (But.of HAL.out).trans b2.out⟩
        · by_cases h4 : what = 4
          · subst h4
            have t := wrNat X1 HNA.out (by omega) (by have := HL.out; omega)
            clear X1 HNA HRA
            go_enter Try.func22, Try.ntmps22
            go_wp2_with fail
            refine t.mono ?_
            rintro e w1 ⟨rfl, X2, b2⟩
            replace X2 := (show Hid _ from X2)
            replace b2 := (show Hid _ from b2)
            clear t
            go_wp2
            go_end0
            exact ⟨rfl, WrO.nat (.inl rfl) (by omega) HL.out H2.out H3.out X2.out, (But.of HAL.out).trans b2.out⟩
          · by_cases h5 : what = 5
            · subst h5
              have t := wrDec X1 HNA.out (by omega) (by have := HL.out; omega)
              clear X1 HNA HRA
              go_enter Try.func22, Try.ntmps22
              go_wp2_with fail
              refine t.mono ?_
              rintro e w1 ⟨rfl, X2, b2⟩
              replace X2 := (show Hid _ from X2)
              replace b2 := (show Hid _ from b2)
              clear t
              go_wp2
              go_end0
              exact ⟨rfl, WrO.nat (.inr rfl) (by omega) HL.out H2.out H3.out X2.out, (But.of HAL.out).trans b2.out⟩
            · by_cases h6 : what = 6
              · subst h6
                have t := wrRaw X1 HRA.out HR1.out HR2.out HR3.out (by omega) (by have := HL.out; omega)
                clear X1 HNA HRA
                go_enter Try.func22, Try.ntmps22
                go_wp2_with fail
                refine t.mono ?_
                rintro e w1 ⟨rfl, X2, b2⟩
                replace X2 := (show Hid _ from X2)
                replace b2 := (show Hid _ from b2)
                clear t
                go_wp2
                go_end0
                exact ⟨rfl, WrO.lay (by simp [stB]) (by rw [cntd_len, HR1.out]; omega) HL.out H2.out H3.out X2.out, (But.of HAL.out).trans b2.out⟩
              · have e : stB ⟨what, num, na, nn, nc, V, ba, bn, bc, bb, bl, most⟩ = .some [] := by simp [stB, h0, h1, h2, h3, h4, h5, h6]
                have q0 : (what == 0) = false := beq_eq_false_iff_ne.2 h0
                have q1 : (what == 1) = false := beq_eq_false_iff_ne.2 h1
                have q2 : (what == 2) = false := beq_eq_false_iff_ne.2 h2
                have q3 : (what == 3) = false := beq_eq_false_iff_ne.2 h3
                have q4 : (what == 4) = false := beq_eq_false_iff_ne.2 h4
                have q5 : (what == 5) = false := beq_eq_false_iff_ne.2 h5
                have q6 : (what == 6) = false := beq_eq_false_iff_ne.2 h6
                have X2 : Hid (WrO (w.alloc (.cells #[.int .i64 what, .int .u64 num, .slice na nn nc, .slice ba bn bc, .int .i64 most] 32)) g (stO ⟨what, num, na, nn, nc, V, ba, bn, bc, bb, bl, most⟩ o) (N + 3008)) := by
                  refine WrO.lay e (Nat.zero_le _) HL.out H2.out H3.out ?_
                  have e9 : wrote err L [] = L := by unfold wrote; simp
                  rw [e9]
                  exact X1
                clear h0 h1 h2 h3 h4 h5 h6 e X1 HNA HRA
                go_enter Try.func22, Try.ntmps22
                go_wp2
                go_end0
                exact ⟨rfl, X2.out, But.of HAL.out⟩
end Go.Proofs.Ytapnhfppjefnfaa
