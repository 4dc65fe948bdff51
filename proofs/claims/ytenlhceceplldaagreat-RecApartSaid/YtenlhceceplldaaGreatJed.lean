/- Several texts, joined: RcH. -/
import Derived.Test.YtenlhceceplldaaGreatJec
namespace Go.Proofs.YtenlhceceplldaaGreat
namespace Rc
open Go.RowKit Go.Lib Pg
attribute [local go_sem] Oper.semAt_some
theorem rdL_len {α : Type} (p : Int ⊕ α × Nat) (err : Int) (l : List Int) : (rdL p err l).length ≤ l.length := by
  unfold rdL
  split
  · cases p
    · exact Nat.le_refl _
    · simp
  · exact Nat.le_refl _
theorem thr_len (ks : List (Nat × Nat)) : ∀ s : RSt, (thr rnx ks s).2.1.length ≤ s.2.1.length := by
  induction ks with
  | nil => intro s; exact Nat.le_refl _
  | cons p ks ih =>
    intro s
    have e : thr rnx (p :: ks) s = thr rnx ks (rnx p.1 p.2 s) := rfl
    rw [e]
    exact Nat.le_trans (ih _) (rdL_len _ _ _)
/-- how a record's reading ends -/
structure FinR (w : World) (kd : Nat → Nat) (len : Nat) (mk : List Value → Value) (s : RSt) (e : Ending) (w' : World) : Prop where
  ex : ∃ cs xs r, e = .returned (.tuple #[mk cs, .int .i64 r]) ∧ cs.length = len ∧ FldR w' w.heap.size kd cs xs ∧ (endE s.1 s.2.1 = 0 → r = 0 ∧ xs = s.2.2) ∧ (endE s.1 s.2.1 ≠ 0 → r = 80 ∧ xs = fun _ => 0)
  bel : Below w.heap.size w w'
theorem FldR.low {w : World} {B B' : Nat} {kd : Nat → Nat} {cs : List Value} {xs : Nat → Int} (h : FldR w B kd cs xs) (hB : B' ≤ B) : FldR w B' kd cs xs := fun o => ⟨(h o).1, (h o).2.1, fun hk => by
  obtain ⟨ao, n, c, h1, h2, h3⟩ := (h o).2.2 hk
  exact ⟨ao, n, c, h1, h2.low hB, h3⟩⟩
theorem ret_rc {fn : Func} {p u : Tmp} {T : TypeId} (h : fn.results = #[.cell p T, .tmp u]) {tmps : Array Value} {w : World} {g : Nat} {v x : Value} (hp : tmps.getD p undef = .pointer (some ⟨g, 0, none⟩)) (hu : tmps.getD u undef = x) (hl : (loadVar T ⟨g, 0, none⟩).run Tryz.prog w = .ok v w) : (results fn tmps).run Tryz.prog w = .ok (.tuple #[v, x]) w := by
  have hp' : tmps[p]?.getD undef = .pointer (some ⟨g, 0, none⟩) := by simpa using hp
  have hu' : tmps[u]?.getD undef = x := by simpa using hu
  simp [results, h, hp', hu', asAddr, hl]
def mkA (cs : List Value) : Value := .agg cs.toArray
def mkO (cs : List Value) : Value := cs.headD undef
theorem ld_Params {w : World} {g : Nat} {y0 y1 y2 y3 y4 y5 y6 y7 y8 y9 : Value} (c0 : w.cell? ⟨g, 0, none⟩ = some y0) (c1 : w.cell? ⟨g, 1, none⟩ = some y1) (c2 : w.cell? ⟨g, 2, none⟩ = some y2) (c3 : w.cell? ⟨g, 3, none⟩ = some y3) (c4 : w.cell? ⟨g, 4, none⟩ = some y4) (c5 : w.cell? ⟨g, 5, none⟩ = some y5) (c6 : w.cell? ⟨g, 6, none⟩ = some y6) (c7 : w.cell? ⟨g, 7, none⟩ = some y7) (c8 : w.cell? ⟨g, 8, none⟩ = some y8) (c9 : w.cell? ⟨g, 9, none⟩ = some y9) : (loadVar 24 ⟨g, 0, none⟩).run Tryz.prog w = .ok (.agg #[y0, y1, y2, y3, y4, y5, y6, y7, y8, y9]) w := by go_simp
set_option maxHeartbeats 4000000 in
set_option maxRecDepth 100000 in
theorem read_Params {w : World} {bb n c : Nat} {ao : Option Addr} {l : List Int} (A : ByA w bb ao n c l) (hn : n ≤ 1000000000) (hl : l.length = n) :
    Calls Tryz.prog 141 #[.slice ao n c, .func (.func 47) #[] #[]] w (FinR w kd_Params 10 mkA (thr rnx [(0, 0), (0, 1), (0, 2), (0, 3), (0, 4), (0, 5), (0, 6), (0, 7), (0, 8), (0, 9)] (0, l, fun _ => (0 : Int)))) := by
  have b1 := below_alloc w (.cells #[.int .u64 0, .int .u64 0, .int .u64 0, .int .u64 0, .int .u64 0, .int .u64 0, .int .u64 0, .int .u64 0, .int .u64 0, .int .u64 0] 24)
  have b2 := below_alloc (w.alloc (.cells #[.int .u64 0, .int .u64 0, .int .u64 0, .int .u64 0, .int .u64 0, .int .u64 0, .int .u64 0, .int .u64 0, .int .u64 0, .int .u64 0] 24)) (.cells #[.int .u64 0, .int .u64 0, .int .u64 0, .int .u64 0, .int .u64 0, .int .u64 0, .int .u64 0, .int .u64 0, .int .u64 0, .int .u64 0] 24)
  have b3 := below_alloc ((w.alloc (.cells #[.int .u64 0, .int .u64 0, .int .u64 0, .int .u64 0, .int .u64 0, .int .u64 0, .int .u64 0, .int .u64 0, .int .u64 0, .int .u64 0] 24)).alloc (.cells #[.int .u64 0, .int .u64 0, .int .u64 0, .int .u64 0, .int .u64 0, .int .u64 0, .int .u64 0, .int .u64 0, .int .u64 0, .int .u64 0] 24)) (.cells #[.int .u64 0, .int .u64 0, .int .u64 0, .int .u64 0, .int .u64 0, .int .u64 0, .int .u64 0, .int .u64 0, .int .u64 0, .int .u64 0] 24)
  have z1 := size_al w (.cells #[.int .u64 0, .int .u64 0, .int .u64 0, .int .u64 0, .int .u64 0, .int .u64 0, .int .u64 0, .int .u64 0, .int .u64 0, .int .u64 0] 24)
  have z2 := size_al (w.alloc (.cells #[.int .u64 0, .int .u64 0, .int .u64 0, .int .u64 0, .int .u64 0, .int .u64 0, .int .u64 0, .int .u64 0, .int .u64 0, .int .u64 0] 24)) (.cells #[.int .u64 0, .int .u64 0, .int .u64 0, .int .u64 0, .int .u64 0, .int .u64 0, .int .u64 0, .int .u64 0, .int .u64 0, .int .u64 0] 24)
  have z3 := size_al ((w.alloc (.cells #[.int .u64 0, .int .u64 0, .int .u64 0, .int .u64 0, .int .u64 0, .int .u64 0, .int .u64 0, .int .u64 0, .int .u64 0, .int .u64 0] 24)).alloc (.cells #[.int .u64 0, .int .u64 0, .int .u64 0, .int .u64 0, .int .u64 0, .int .u64 0, .int .u64 0, .int .u64 0, .int .u64 0, .int .u64 0] 24)) (.cells #[.int .u64 0, .int .u64 0, .int .u64 0, .int .u64 0, .int .u64 0, .int .u64 0, .int .u64 0, .int .u64 0, .int .u64 0, .int .u64 0] 24)
  have y1 := ((blk_new w [.int .u64 0, .int .u64 0, .int .u64 0, .int .u64 0, .int .u64 0, .int .u64 0, .int .u64 0, .int .u64 0, .int .u64 0, .int .u64 0] 24).keep b2).keep b3
  have y2 := (blk_new (w.alloc (.cells #[.int .u64 0, .int .u64 0, .int .u64 0, .int .u64 0, .int .u64 0, .int .u64 0, .int .u64 0, .int .u64 0, .int .u64 0, .int .u64 0] 24)) [.int .u64 0, .int .u64 0, .int .u64 0, .int .u64 0, .int .u64 0, .int .u64 0, .int .u64 0, .int .u64 0, .int .u64 0, .int .u64 0] 24).keep b3
  have y3 := blk_new ((w.alloc (.cells #[.int .u64 0, .int .u64 0, .int .u64 0, .int .u64 0, .int .u64 0, .int .u64 0, .int .u64 0, .int .u64 0, .int .u64 0, .int .u64 0] 24)).alloc (.cells #[.int .u64 0, .int .u64 0, .int .u64 0, .int .u64 0, .int .u64 0, .int .u64 0, .int .u64 0, .int .u64 0, .int .u64 0, .int .u64 0] 24)) [.int .u64 0, .int .u64 0, .int .u64 0, .int .u64 0, .int .u64 0, .int .u64 0, .int .u64 0, .int .u64 0, .int .u64 0, .int .u64 0] 24
  rw [z2, z1] at y3
  rw [z1] at y2
  rw [z2, z1] at z3
  obtain ⟨W3, hW3⟩ : ∃ W3, Hid ((((w.alloc (.cells #[.int .u64 0, .int .u64 0, .int .u64 0, .int .u64 0, .int .u64 0, .int .u64 0, .int .u64 0, .int .u64 0, .int .u64 0, .int .u64 0] 24)).alloc (.cells #[.int .u64 0, .int .u64 0, .int .u64 0, .int .u64 0, .int .u64 0, .int .u64 0, .int .u64 0, .int .u64 0, .int .u64 0, .int .u64 0] 24)).alloc (.cells #[.int .u64 0, .int .u64 0, .int .u64 0, .int .u64 0, .int .u64 0, .int .u64 0, .int .u64 0, .int .u64 0, .int .u64 0, .int .u64 0] 24)) = W3) := ⟨_, rfl⟩
  have BB := joinB (joinB b1 b2) b3
  rw [hW3.out] at BB y1 y2 y3 z3
  have HN := hid3 (rdNew (A.keep BB) (by omega))
  have Y1 := hid3 y1
  have Y2 := hid3 y2
  have Y3 := hid3 y3
  have Z3 := hid3 z3
  have HBB := hid3 BB
  have HL := hid3 hl
  clear b1 b2 b3 z1 z2 z3 y1 y2 y3 BB A hl
  obtain ⟨st, hst⟩ : ∃ st, Hid (thr rnx [(0, 0), (0, 1), (0, 2), (0, 3), (0, 4), (0, 5), (0, 6), (0, 7), (0, 8), (0, 9)] (0, l, fun _ => (0 : Int)) = st) := ⟨_, rfl⟩
  have hsl : st.2.1.length ≤ n := by have h := thr_len [(0, 0), (0, 1), (0, 2), (0, 3), (0, 4), (0, 5), (0, 6), (0, 7), (0, 8), (0, 9)] (0, l, fun _ => (0 : Int)); rw [hst.out] at h; rw [HL.out] at h; exact h
  rw [hst.out]
  go_enter Tryz.func141, Tryz.ntmps141
  go_wp2_with fail
  rw [hW3.out]
  refine HN.out.mono ?_
  rintro e' w4 ⟨g, b', rfl, hg, hb', X4, B4⟩
  have b5 := below_alloc w4 (.cells #[.pointer (some ⟨g, 0, none⟩)] 198)
  have v5 := blk_new w4 [.pointer (some ⟨g, 0, none⟩)] 198
  have z5 := size_al w4 (.cells #[.pointer (some ⟨g, 0, none⟩)] 198)
  obtain ⟨W5, hW5⟩ : ∃ W5, Hid (w4.alloc (.cells #[.pointer (some ⟨g, 0, none⟩)] 198) = W5) := ⟨_, rfl⟩
  rw [hW5.out] at b5 v5 z5
  have hgl := X4.lt
  have hz3 := Z3.out
  have hz4 := B4.size
  have F0 : FldR W5 W5.heap.size kd_Params [.int .u64 0, .int .u64 0, .int .u64 0, .int .u64 0, .int .u64 0, .int .u64 0, .int .u64 0, .int .u64 0, .int .u64 0, .int .u64 0] (fun _ => 0) := fun o => match o with
    | 0 => ⟨fun _ => rfl, fun h => absurd h (by decide), fun h => absurd h (by decide)⟩
    | 1 => ⟨fun _ => rfl, fun h => absurd h (by decide), fun h => absurd h (by decide)⟩
    | 2 => ⟨fun _ => rfl, fun h => absurd h (by decide), fun h => absurd h (by decide)⟩
    | 3 => ⟨fun _ => rfl, fun h => absurd h (by decide), fun h => absurd h (by decide)⟩
    | 4 => ⟨fun _ => rfl, fun h => absurd h (by decide), fun h => absurd h (by decide)⟩
    | 5 => ⟨fun _ => rfl, fun h => absurd h (by decide), fun h => absurd h (by decide)⟩
    | 6 => ⟨fun _ => rfl, fun h => absurd h (by decide), fun h => absurd h (by decide)⟩
    | 7 => ⟨fun _ => rfl, fun h => absurd h (by decide), fun h => absurd h (by decide)⟩
    | 8 => ⟨fun _ => rfl, fun h => absurd h (by decide), fun h => absurd h (by decide)⟩
    | 9 => ⟨fun _ => rfl, fun h => absurd h (by decide), fun h => absurd h (by decide)⟩
    | k + 10 => ⟨fun h => absurd h (by simp [kd_Params]), fun h => absurd h (by simp [kd_Params]), fun h => absurd h (by simp [kd_Params])⟩
  have U := ofParams_any (rhc_Params (w0 := w) (B := W5.heap.size) (g := g) (b := b') (vb := w4.heap.size) (rb := w.heap.size + 1) (T := 24) (vt := 198)) (s := (0, l, fun _ => (0 : Int))) (w := W5) ⟨⟨X4.keep b5, v5, ⟨_, rfl, (Y2.out.keep B4).keep b5, F0⟩, joinB (joinB HBB.out B4) b5, by omega, by omega, by omega, by omega, by omega, by omega, by omega, by omega⟩, Nat.le_refl _⟩ (by simp [kd_Params]) trivial
  rw [hst.out] at U
  have HU := hid3 U
  have P1 := hid3 ((Y1.out.keep B4).keep b5)
  have P3 := hid3 ((Y3.out.keep B4).keep b5)
  have HS := hid3 (show w.heap.size ≠ g ∧ w.heap.size + 1 + 1 ≠ g ∧ w.heap.size + 1 + 1 ≠ w.heap.size + 1 ∧ w.heap.size ≠ w.heap.size + 1 ∧ w.heap.size ≤ W5.heap.size ∧ w.heap.size ≤ g from ⟨by omega, by omega, by omega, by omega, by omega, by omega⟩)
  clear U b5 v5 z5 hgl hz3 hz4 F0 X4 B4 hg hb' HN Y1 Y2 Y3
  go_wp2_with fail
  rw [hW5.out]
  refine HU.out.mono ?_
  rintro e' w6 ⟨rfl, ⟨I6, hB6⟩, C6⟩
  have c6 := I6.var.cell (i := 0) rfl
  go_wp2_with fail
  refine (rdEnd I6.rd (by omega)).mono ?_
  rintro e' w7 ⟨rfl, X7, B7⟩
  obtain ⟨cs6, hl6, R6, F6⟩ := I6.rc
  obtain ⟨XS, hXS⟩ : ∃ XS, Hid (st.2.2 = XS) := ⟨_, rfl⟩
  rw [hXS.out] at F6
  have hF6 := hid3 F6
  have q0 := (F6 0).1 rfl
  have q1 := (F6 1).1 rfl
  have q2 := (F6 2).1 rfl
  have q3 := (F6 3).1 rfl
  have q4 := (F6 4).1 rfl
  have q5 := (F6 5).1 rfl
  have q6 := (F6 6).1 rfl
  have q7 := (F6 7).1 rfl
  have q8 := (F6 8).1 rfl
  have q9 := (F6 9).1 rfl
  have ecs : cs6 = [.int .u64 (XS 0), .int .u64 (XS 1), .int .u64 (XS 2), .int .u64 (XS 3), .int .u64 (XS 4), .int .u64 (XS 5), .int .u64 (XS 6), .int .u64 (XS 7), .int .u64 (XS 8), .int .u64 (XS 9)] := by
    apply List.ext_getElem?
    intro i
    match i with
    | 0 => rw [q0]; rfl
    | 1 => rw [q1]; rfl
    | 2 => rw [q2]; rfl
    | 3 => rw [q3]; rfl
    | 4 => rw [q4]; rfl
    | 5 => rw [q5]; rfl
    | 6 => rw [q6]; rfl
    | 7 => rw [q7]; rfl
    | 8 => rw [q8]; rfl
    | 9 => rw [q9]; rfl
    | k + 10 => rw [List.getElem?_eq_none (by omega), List.getElem?_eq_none (by simp)]
  subst ecs
  have C7 := But.chg B7
  have K1 := (P1.out.chg C6 (fun h => h.elim HS.out.1 HS.out.2.2.2.1)).chg C7 HS.out.1
  have K3 := (P3.out.chg C6 (fun h => h.elim HS.out.2.1 HS.out.2.2.1)).chg C7 HS.out.2.1
  have K2 := R6.chg C7 I6.s1
  have BF := hid3 (B7.below I6.bel HS.out.2.2.2.2.2 (Nat.le_refl _))
  have hF7 := hid3 ((hF6.out.off (w' := w7) B7.size (fun y hy hy2 => B7.block y hy2 (by have := I6.g1; omega))))
  have hBw := hid3 (show w.heap.size < W5.heap.size ∧ w.heap.size < w7.heap.size from ⟨by have := I6.r1; omega, K1.lt⟩)
  have u0 := K1.cell (i := 0) rfl
  have f0 := K1.free 0
  have v0 := K2.cell (i := 0) rfl
  have o0 := K3.cell (i := 0) rfl
  have u1 := K1.cell (i := 1) rfl
  have f1 := K1.free 1
  have v1 := K2.cell (i := 1) rfl
  have o1 := K3.cell (i := 1) rfl
  have u2 := K1.cell (i := 2) rfl
  have f2 := K1.free 2
  have v2 := K2.cell (i := 2) rfl
  have o2 := K3.cell (i := 2) rfl
  have u3 := K1.cell (i := 3) rfl
  have f3 := K1.free 3
  have v3 := K2.cell (i := 3) rfl
  have o3 := K3.cell (i := 3) rfl
  have u4 := K1.cell (i := 4) rfl
  have f4 := K1.free 4
  have v4 := K2.cell (i := 4) rfl
  have o4 := K3.cell (i := 4) rfl
  have u5 := K1.cell (i := 5) rfl
  have f5 := K1.free 5
  have v5 := K2.cell (i := 5) rfl
  have o5 := K3.cell (i := 5) rfl
  have u6 := K1.cell (i := 6) rfl
  have f6 := K1.free 6
  have v6 := K2.cell (i := 6) rfl
  have o6 := K3.cell (i := 6) rfl
  have u7 := K1.cell (i := 7) rfl
  have f7 := K1.free 7
  have v7 := K2.cell (i := 7) rfl
  have o7 := K3.cell (i := 7) rfl
  have u8 := K1.cell (i := 8) rfl
  have f8 := K1.free 8
  have v8 := K2.cell (i := 8) rfl
  have o8 := K3.cell (i := 8) rfl
  have u9 := K1.cell (i := 9) rfl
  have f9 := K1.free 9
  have v9 := K2.cell (i := 9) rfl
  have o9 := K3.cell (i := 9) rfl
  have KFblk := hid3 (show Blk ((((((((((w7.setCell ⟨w.heap.size, 0, none⟩ (.int .u64 (XS 0))).setCell ⟨w.heap.size, 1, none⟩ (.int .u64 (XS 1))).setCell ⟨w.heap.size, 2, none⟩ (.int .u64 (XS 2))).setCell ⟨w.heap.size, 3, none⟩ (.int .u64 (XS 3))).setCell ⟨w.heap.size, 4, none⟩ (.int .u64 (XS 4))).setCell ⟨w.heap.size, 5, none⟩ (.int .u64 (XS 5))).setCell ⟨w.heap.size, 6, none⟩ (.int .u64 (XS 6))).setCell ⟨w.heap.size, 7, none⟩ (.int .u64 (XS 7))).setCell ⟨w.heap.size, 8, none⟩ (.int .u64 (XS 8))).setCell ⟨w.heap.size, 9, none⟩ (.int .u64 (XS 9))) w.heap.size [.int .u64 (XS 0), .int .u64 (XS 1), .int .u64 (XS 2), .int .u64 (XS 3), .int .u64 (XS 4), .int .u64 (XS 5), .int .u64 (XS 6), .int .u64 (XS 7), .int .u64 (XS 8), .int .u64 (XS 9)] 24 from ((((((((((K1.setCell (i := 0) (.int .u64 (XS 0))).setCell (i := 1) (.int .u64 (XS 1))).setCell (i := 2) (.int .u64 (XS 2))).setCell (i := 3) (.int .u64 (XS 3))).setCell (i := 4) (.int .u64 (XS 4))).setCell (i := 5) (.int .u64 (XS 5))).setCell (i := 6) (.int .u64 (XS 6))).setCell (i := 7) (.int .u64 (XS 7))).setCell (i := 8) (.int .u64 (XS 8))).setCell (i := 9) (.int .u64 (XS 9))))
  have KFchg := hid3 (show Chg (fun x => x = w.heap.size) w7 ((((((((((w7.setCell ⟨w.heap.size, 0, none⟩ (.int .u64 (XS 0))).setCell ⟨w.heap.size, 1, none⟩ (.int .u64 (XS 1))).setCell ⟨w.heap.size, 2, none⟩ (.int .u64 (XS 2))).setCell ⟨w.heap.size, 3, none⟩ (.int .u64 (XS 3))).setCell ⟨w.heap.size, 4, none⟩ (.int .u64 (XS 4))).setCell ⟨w.heap.size, 5, none⟩ (.int .u64 (XS 5))).setCell ⟨w.heap.size, 6, none⟩ (.int .u64 (XS 6))).setCell ⟨w.heap.size, 7, none⟩ (.int .u64 (XS 7))).setCell ⟨w.heap.size, 8, none⟩ (.int .u64 (XS 8))).setCell ⟨w.heap.size, 9, none⟩ (.int .u64 (XS 9))) from (((((((((((Chg.refl (fun x => x = w.heap.size) w7).cell (g := w.heap.size) (i := 0) (.inl rfl) (.int .u64 (XS 0))).cell (g := w.heap.size) (i := 1) (.inl rfl) (.int .u64 (XS 1))).cell (g := w.heap.size) (i := 2) (.inl rfl) (.int .u64 (XS 2))).cell (g := w.heap.size) (i := 3) (.inl rfl) (.int .u64 (XS 3))).cell (g := w.heap.size) (i := 4) (.inl rfl) (.int .u64 (XS 4))).cell (g := w.heap.size) (i := 5) (.inl rfl) (.int .u64 (XS 5))).cell (g := w.heap.size) (i := 6) (.inl rfl) (.int .u64 (XS 6))).cell (g := w.heap.size) (i := 7) (.inl rfl) (.int .u64 (XS 7))).cell (g := w.heap.size) (i := 8) (.inl rfl) (.int .u64 (XS 8))).cell (g := w.heap.size) (i := 9) (.inl rfl) (.int .u64 (XS 9))))
  have KFbel := hid3 (show Below w.heap.size w ((((((((((w7.setCell ⟨w.heap.size, 0, none⟩ (.int .u64 (XS 0))).setCell ⟨w.heap.size, 1, none⟩ (.int .u64 (XS 1))).setCell ⟨w.heap.size, 2, none⟩ (.int .u64 (XS 2))).setCell ⟨w.heap.size, 3, none⟩ (.int .u64 (XS 3))).setCell ⟨w.heap.size, 4, none⟩ (.int .u64 (XS 4))).setCell ⟨w.heap.size, 5, none⟩ (.int .u64 (XS 5))).setCell ⟨w.heap.size, 6, none⟩ (.int .u64 (XS 6))).setCell ⟨w.heap.size, 7, none⟩ (.int .u64 (XS 7))).setCell ⟨w.heap.size, 8, none⟩ (.int .u64 (XS 8))).setCell ⟨w.heap.size, 9, none⟩ (.int .u64 (XS 9))) from ((((((((((BF.out.setCell (p := ⟨w.heap.size, 0, none⟩) (Nat.le_refl _) (.int .u64 (XS 0))).setCell (p := ⟨w.heap.size, 1, none⟩) (Nat.le_refl _) (.int .u64 (XS 1))).setCell (p := ⟨w.heap.size, 2, none⟩) (Nat.le_refl _) (.int .u64 (XS 2))).setCell (p := ⟨w.heap.size, 3, none⟩) (Nat.le_refl _) (.int .u64 (XS 3))).setCell (p := ⟨w.heap.size, 4, none⟩) (Nat.le_refl _) (.int .u64 (XS 4))).setCell (p := ⟨w.heap.size, 5, none⟩) (Nat.le_refl _) (.int .u64 (XS 5))).setCell (p := ⟨w.heap.size, 6, none⟩) (Nat.le_refl _) (.int .u64 (XS 6))).setCell (p := ⟨w.heap.size, 7, none⟩) (Nat.le_refl _) (.int .u64 (XS 7))).setCell (p := ⟨w.heap.size, 8, none⟩) (Nat.le_refl _) (.int .u64 (XS 8))).setCell (p := ⟨w.heap.size, 9, none⟩) (Nat.le_refl _) (.int .u64 (XS 9))))
  have KZblk := hid3 (show Blk ((((((((((w7.setCell ⟨w.heap.size, 0, none⟩ (.int .u64 0)).setCell ⟨w.heap.size, 1, none⟩ (.int .u64 0)).setCell ⟨w.heap.size, 2, none⟩ (.int .u64 0)).setCell ⟨w.heap.size, 3, none⟩ (.int .u64 0)).setCell ⟨w.heap.size, 4, none⟩ (.int .u64 0)).setCell ⟨w.heap.size, 5, none⟩ (.int .u64 0)).setCell ⟨w.heap.size, 6, none⟩ (.int .u64 0)).setCell ⟨w.heap.size, 7, none⟩ (.int .u64 0)).setCell ⟨w.heap.size, 8, none⟩ (.int .u64 0)).setCell ⟨w.heap.size, 9, none⟩ (.int .u64 0)) w.heap.size [.int .u64 0, .int .u64 0, .int .u64 0, .int .u64 0, .int .u64 0, .int .u64 0, .int .u64 0, .int .u64 0, .int .u64 0, .int .u64 0] 24 from ((((((((((K1.setCell (i := 0) (.int .u64 0)).setCell (i := 1) (.int .u64 0)).setCell (i := 2) (.int .u64 0)).setCell (i := 3) (.int .u64 0)).setCell (i := 4) (.int .u64 0)).setCell (i := 5) (.int .u64 0)).setCell (i := 6) (.int .u64 0)).setCell (i := 7) (.int .u64 0)).setCell (i := 8) (.int .u64 0)).setCell (i := 9) (.int .u64 0)))
  have KZchg := hid3 (show Chg (fun x => x = w.heap.size) w7 ((((((((((w7.setCell ⟨w.heap.size, 0, none⟩ (.int .u64 0)).setCell ⟨w.heap.size, 1, none⟩ (.int .u64 0)).setCell ⟨w.heap.size, 2, none⟩ (.int .u64 0)).setCell ⟨w.heap.size, 3, none⟩ (.int .u64 0)).setCell ⟨w.heap.size, 4, none⟩ (.int .u64 0)).setCell ⟨w.heap.size, 5, none⟩ (.int .u64 0)).setCell ⟨w.heap.size, 6, none⟩ (.int .u64 0)).setCell ⟨w.heap.size, 7, none⟩ (.int .u64 0)).setCell ⟨w.heap.size, 8, none⟩ (.int .u64 0)).setCell ⟨w.heap.size, 9, none⟩ (.int .u64 0)) from (((((((((((Chg.refl (fun x => x = w.heap.size) w7).cell (g := w.heap.size) (i := 0) (.inl rfl) (.int .u64 0)).cell (g := w.heap.size) (i := 1) (.inl rfl) (.int .u64 0)).cell (g := w.heap.size) (i := 2) (.inl rfl) (.int .u64 0)).cell (g := w.heap.size) (i := 3) (.inl rfl) (.int .u64 0)).cell (g := w.heap.size) (i := 4) (.inl rfl) (.int .u64 0)).cell (g := w.heap.size) (i := 5) (.inl rfl) (.int .u64 0)).cell (g := w.heap.size) (i := 6) (.inl rfl) (.int .u64 0)).cell (g := w.heap.size) (i := 7) (.inl rfl) (.int .u64 0)).cell (g := w.heap.size) (i := 8) (.inl rfl) (.int .u64 0)).cell (g := w.heap.size) (i := 9) (.inl rfl) (.int .u64 0)))
  have KZbel := hid3 (show Below w.heap.size w ((((((((((w7.setCell ⟨w.heap.size, 0, none⟩ (.int .u64 0)).setCell ⟨w.heap.size, 1, none⟩ (.int .u64 0)).setCell ⟨w.heap.size, 2, none⟩ (.int .u64 0)).setCell ⟨w.heap.size, 3, none⟩ (.int .u64 0)).setCell ⟨w.heap.size, 4, none⟩ (.int .u64 0)).setCell ⟨w.heap.size, 5, none⟩ (.int .u64 0)).setCell ⟨w.heap.size, 6, none⟩ (.int .u64 0)).setCell ⟨w.heap.size, 7, none⟩ (.int .u64 0)).setCell ⟨w.heap.size, 8, none⟩ (.int .u64 0)).setCell ⟨w.heap.size, 9, none⟩ (.int .u64 0)) from ((((((((((BF.out.setCell (p := ⟨w.heap.size, 0, none⟩) (Nat.le_refl _) (.int .u64 0)).setCell (p := ⟨w.heap.size, 1, none⟩) (Nat.le_refl _) (.int .u64 0)).setCell (p := ⟨w.heap.size, 2, none⟩) (Nat.le_refl _) (.int .u64 0)).setCell (p := ⟨w.heap.size, 3, none⟩) (Nat.le_refl _) (.int .u64 0)).setCell (p := ⟨w.heap.size, 4, none⟩) (Nat.le_refl _) (.int .u64 0)).setCell (p := ⟨w.heap.size, 5, none⟩) (Nat.le_refl _) (.int .u64 0)).setCell (p := ⟨w.heap.size, 6, none⟩) (Nat.le_refl _) (.int .u64 0)).setCell (p := ⟨w.heap.size, 7, none⟩) (Nat.le_refl _) (.int .u64 0)).setCell (p := ⟨w.heap.size, 8, none⟩) (Nat.le_refl _) (.int .u64 0)).setCell (p := ⟨w.heap.size, 9, none⟩) (Nat.le_refl _) (.int .u64 0)))
  clear K1 K2 K3 I6 C6 C7 B7 X7 R6 hl6 F6 c6 HU P1 P3 q0 q1 q2 q3 q4 q5 q6 q7 q8 q9
  obtain ⟨E0, hE0⟩ : ∃ E0, Hid (endE st.1 st.2.1 = E0) := ⟨_, rfl⟩
  rw [hE0.out]
  by_cases hE : E0 = 0
  · subst hE
    go_wp2
    refine bodyPost_ret (ret_rc rfl rfl rfl (ld_Params (KFblk.out.cell (i := 0) rfl) (KFblk.out.cell (i := 1) rfl) (KFblk.out.cell (i := 2) rfl) (KFblk.out.cell (i := 3) rfl) (KFblk.out.cell (i := 4) rfl) (KFblk.out.cell (i := 5) rfl) (KFblk.out.cell (i := 6) rfl) (KFblk.out.cell (i := 7) rfl) (KFblk.out.cell (i := 8) rfl) (KFblk.out.cell (i := 9) rfl))) rfl ?_
    exact ⟨⟨[.int .u64 (XS 0), .int .u64 (XS 1), .int .u64 (XS 2), .int .u64 (XS 3), .int .u64 (XS 4), .int .u64 (XS 5), .int .u64 (XS 6), .int .u64 (XS 7), .int .u64 (XS 8), .int .u64 (XS 9)], XS, 0, rfl, rfl, (hF7.out.off KFchg.out.size (fun y hy _ => KFchg.out.same y (by assumption) (fun e => by have e' : y = w.heap.size := e; have := hBw.out; omega))).low (by have := hBw.out; omega), fun _ => ⟨rfl, hXS.out.symm⟩, fun h => absurd hE0.out h⟩, KFbel.out⟩
  · have hE1 : ¬ (E0 = 0) := hE
    go_wp2
    refine bodyPost_ret (ret_rc rfl rfl rfl (ld_Params (KZblk.out.cell (i := 0) rfl) (KZblk.out.cell (i := 1) rfl) (KZblk.out.cell (i := 2) rfl) (KZblk.out.cell (i := 3) rfl) (KZblk.out.cell (i := 4) rfl) (KZblk.out.cell (i := 5) rfl) (KZblk.out.cell (i := 6) rfl) (KZblk.out.cell (i := 7) rfl) (KZblk.out.cell (i := 8) rfl) (KZblk.out.cell (i := 9) rfl))) rfl ?_
    exact ⟨⟨[.int .u64 0, .int .u64 0, .int .u64 0, .int .u64 0, .int .u64 0, .int .u64 0, .int .u64 0, .int .u64 0, .int .u64 0, .int .u64 0], fun _ => 0, 80, rfl, rfl, (fun o => match o with | 0 => ⟨fun _ => rfl, fun h => absurd h (by decide), fun h => absurd h (by decide)⟩ | 1 => ⟨fun _ => rfl, fun h => absurd h (by decide), fun h => absurd h (by decide)⟩ | 2 => ⟨fun _ => rfl, fun h => absurd h (by decide), fun h => absurd h (by decide)⟩ | 3 => ⟨fun _ => rfl, fun h => absurd h (by decide), fun h => absurd h (by decide)⟩ | 4 => ⟨fun _ => rfl, fun h => absurd h (by decide), fun h => absurd h (by decide)⟩ | 5 => ⟨fun _ => rfl, fun h => absurd h (by decide), fun h => absurd h (by decide)⟩ | 6 => ⟨fun _ => rfl, fun h => absurd h (by decide), fun h => absurd h (by decide)⟩ | 7 => ⟨fun _ => rfl, fun h => absurd h (by decide), fun h => absurd h (by decide)⟩ | 8 => ⟨fun _ => rfl, fun h => absurd h (by decide), fun h => absurd h (by decide)⟩ | 9 => ⟨fun _ => rfl, fun h => absurd h (by decide), fun h => absurd h (by decide)⟩ | k + 10 => ⟨fun h => absurd h (by simp [kd_Params]), fun h => absurd h (by simp [kd_Params]), fun h => absurd h (by simp [kd_Params])⟩), fun h => absurd (hE0.out.symm.trans h) hE1, fun _ => ⟨rfl, rfl⟩⟩, KZbel.out⟩
theorem ld_Chain {w : World} {g : Nat} {y0 y1 : Value} (c0 : w.cell? ⟨g, 0, none⟩ = some y0) (c1 : w.cell? ⟨g, 1, none⟩ = some y1) : (loadVar 26 ⟨g, 0, none⟩).run Tryz.prog w = .ok (.agg #[y0, y1]) w := by go_simp
set_option maxHeartbeats 4000000 in
set_option maxRecDepth 100000 in
theorem read_Chain {w : World} {bb n c : Nat} {ao : Option Addr} {l : List Int} (A : ByA w bb ao n c l) (hn : n ≤ 1000000000) (hl : l.length = n) :
    Calls Tryz.prog 144 #[.slice ao n c, .func (.func 49) #[] #[]] w (FinR w kd_Chain 2 mkA (thr rnx [(0, 0), (0, 1)] (0, l, fun _ => (0 : Int)))) := by
  have b1 := below_alloc w (.cells #[.int .u64 0, .int .u64 0] 26)
  have b2 := below_alloc (w.alloc (.cells #[.int .u64 0, .int .u64 0] 26)) (.cells #[.int .u64 0, .int .u64 0] 26)
  have b3 := below_alloc ((w.alloc (.cells #[.int .u64 0, .int .u64 0] 26)).alloc (.cells #[.int .u64 0, .int .u64 0] 26)) (.cells #[.int .u64 0, .int .u64 0] 26)
  have z1 := size_al w (.cells #[.int .u64 0, .int .u64 0] 26)
  have z2 := size_al (w.alloc (.cells #[.int .u64 0, .int .u64 0] 26)) (.cells #[.int .u64 0, .int .u64 0] 26)
  have z3 := size_al ((w.alloc (.cells #[.int .u64 0, .int .u64 0] 26)).alloc (.cells #[.int .u64 0, .int .u64 0] 26)) (.cells #[.int .u64 0, .int .u64 0] 26)
  have y1 := ((blk_new w [.int .u64 0, .int .u64 0] 26).keep b2).keep b3
  have y2 := (blk_new (w.alloc (.cells #[.int .u64 0, .int .u64 0] 26)) [.int .u64 0, .int .u64 0] 26).keep b3
  have y3 := blk_new ((w.alloc (.cells #[.int .u64 0, .int .u64 0] 26)).alloc (.cells #[.int .u64 0, .int .u64 0] 26)) [.int .u64 0, .int .u64 0] 26
  rw [z2, z1] at y3
  rw [z1] at y2
  rw [z2, z1] at z3
  obtain ⟨W3, hW3⟩ : ∃ W3, Hid ((((w.alloc (.cells #[.int .u64 0, .int .u64 0] 26)).alloc (.cells #[.int .u64 0, .int .u64 0] 26)).alloc (.cells #[.int .u64 0, .int .u64 0] 26)) = W3) := ⟨_, rfl⟩
  have BB := joinB (joinB b1 b2) b3
  rw [hW3.out] at BB y1 y2 y3 z3
  have HN := hid3 (rdNew (A.keep BB) (by omega))
  have Y1 := hid3 y1
  have Y2 := hid3 y2
  have Y3 := hid3 y3
  have Z3 := hid3 z3
  have HBB := hid3 BB
  have HL := hid3 hl
  clear b1 b2 b3 z1 z2 z3 y1 y2 y3 BB A hl
  obtain ⟨st, hst⟩ : ∃ st, Hid (thr rnx [(0, 0), (0, 1)] (0, l, fun _ => (0 : Int)) = st) := ⟨_, rfl⟩
  have hsl : st.2.1.length ≤ n := by have h := thr_len [(0, 0), (0, 1)] (0, l, fun _ => (0 : Int)); rw [hst.out] at h; rw [HL.out] at h; exact h
  rw [hst.out]
  go_enter Tryz.func144, Tryz.ntmps144
  go_wp2_with fail
  rw [hW3.out]
  refine HN.out.mono ?_
  rintro e' w4 ⟨g, b', rfl, hg, hb', X4, B4⟩
  have b5 := below_alloc w4 (.cells #[.pointer (some ⟨g, 0, none⟩)] 198)
  have v5 := blk_new w4 [.pointer (some ⟨g, 0, none⟩)] 198
  have z5 := size_al w4 (.cells #[.pointer (some ⟨g, 0, none⟩)] 198)
  obtain ⟨W5, hW5⟩ : ∃ W5, Hid (w4.alloc (.cells #[.pointer (some ⟨g, 0, none⟩)] 198) = W5) := ⟨_, rfl⟩
  rw [hW5.out] at b5 v5 z5
  have hgl := X4.lt
  have hz3 := Z3.out
  have hz4 := B4.size
  have F0 : FldR W5 W5.heap.size kd_Chain [.int .u64 0, .int .u64 0] (fun _ => 0) := fun o => match o with
    | 0 => ⟨fun _ => rfl, fun h => absurd h (by decide), fun h => absurd h (by decide)⟩
    | 1 => ⟨fun _ => rfl, fun h => absurd h (by decide), fun h => absurd h (by decide)⟩
    | k + 2 => ⟨fun h => absurd h (by simp [kd_Chain]), fun h => absurd h (by simp [kd_Chain]), fun h => absurd h (by simp [kd_Chain])⟩
  have U := ofChain_any (rhc_Chain (w0 := w) (B := W5.heap.size) (g := g) (b := b') (vb := w4.heap.size) (rb := w.heap.size + 1) (T := 26) (vt := 198)) (s := (0, l, fun _ => (0 : Int))) (w := W5) ⟨⟨X4.keep b5, v5, ⟨_, rfl, (Y2.out.keep B4).keep b5, F0⟩, joinB (joinB HBB.out B4) b5, by omega, by omega, by omega, by omega, by omega, by omega, by omega, by omega⟩, Nat.le_refl _⟩ (by simp [kd_Chain]) trivial
  rw [hst.out] at U
  have HU := hid3 U
  have P1 := hid3 ((Y1.out.keep B4).keep b5)
  have P3 := hid3 ((Y3.out.keep B4).keep b5)
  have HS := hid3 (show w.heap.size ≠ g ∧ w.heap.size + 1 + 1 ≠ g ∧ w.heap.size + 1 + 1 ≠ w.heap.size + 1 ∧ w.heap.size ≠ w.heap.size + 1 ∧ w.heap.size ≤ W5.heap.size ∧ w.heap.size ≤ g from ⟨by omega, by omega, by omega, by omega, by omega, by omega⟩)
  clear U b5 v5 z5 hgl hz3 hz4 F0 X4 B4 hg hb' HN Y1 Y2 Y3
  go_wp2_with fail
  rw [hW5.out]
  refine HU.out.mono ?_
  rintro e' w6 ⟨rfl, ⟨I6, hB6⟩, C6⟩
  have c6 := I6.var.cell (i := 0) rfl
  go_wp2_with fail
  refine (rdEnd I6.rd (by omega)).mono ?_
  rintro e' w7 ⟨rfl, X7, B7⟩
  obtain ⟨cs6, hl6, R6, F6⟩ := I6.rc
  obtain ⟨XS, hXS⟩ : ∃ XS, Hid (st.2.2 = XS) := ⟨_, rfl⟩
  rw [hXS.out] at F6
  have hF6 := hid3 F6
  have q0 := (F6 0).1 rfl
  have q1 := (F6 1).1 rfl
  have ecs : cs6 = [.int .u64 (XS 0), .int .u64 (XS 1)] := by
    apply List.ext_getElem?
    intro i
    match i with
    | 0 => rw [q0]; rfl
    | 1 => rw [q1]; rfl
    | k + 2 => rw [List.getElem?_eq_none (by omega), List.getElem?_eq_none (by simp)]
  subst ecs
  have C7 := But.chg B7
  have K1 := (P1.out.chg C6 (fun h => h.elim HS.out.1 HS.out.2.2.2.1)).chg C7 HS.out.1
  have K3 := (P3.out.chg C6 (fun h => h.elim HS.out.2.1 HS.out.2.2.1)).chg C7 HS.out.2.1
  have K2 := R6.chg C7 I6.s1
  have BF := hid3 (B7.below I6.bel HS.out.2.2.2.2.2 (Nat.le_refl _))
  have hF7 := hid3 ((hF6.out.off (w' := w7) B7.size (fun y hy hy2 => B7.block y hy2 (by have := I6.g1; omega))))
  have hBw := hid3 (show w.heap.size < W5.heap.size ∧ w.heap.size < w7.heap.size from ⟨by have := I6.r1; omega, K1.lt⟩)
  have u0 := K1.cell (i := 0) rfl
  have f0 := K1.free 0
  have v0 := K2.cell (i := 0) rfl
  have o0 := K3.cell (i := 0) rfl
  have u1 := K1.cell (i := 1) rfl
  have f1 := K1.free 1
  have v1 := K2.cell (i := 1) rfl
  have o1 := K3.cell (i := 1) rfl
  have KFblk := hid3 (show Blk ((w7.setCell ⟨w.heap.size, 0, none⟩ (.int .u64 (XS 0))).setCell ⟨w.heap.size, 1, none⟩ (.int .u64 (XS 1))) w.heap.size [.int .u64 (XS 0), .int .u64 (XS 1)] 26 from ((K1.setCell (i := 0) (.int .u64 (XS 0))).setCell (i := 1) (.int .u64 (XS 1))))
  have KFchg := hid3 (show Chg (fun x => x = w.heap.size) w7 ((w7.setCell ⟨w.heap.size, 0, none⟩ (.int .u64 (XS 0))).setCell ⟨w.heap.size, 1, none⟩ (.int .u64 (XS 1))) from (((Chg.refl (fun x => x = w.heap.size) w7).cell (g := w.heap.size) (i := 0) (.inl rfl) (.int .u64 (XS 0))).cell (g := w.heap.size) (i := 1) (.inl rfl) (.int .u64 (XS 1))))
  have KFbel := hid3 (show Below w.heap.size w ((w7.setCell ⟨w.heap.size, 0, none⟩ (.int .u64 (XS 0))).setCell ⟨w.heap.size, 1, none⟩ (.int .u64 (XS 1))) from ((BF.out.setCell (p := ⟨w.heap.size, 0, none⟩) (Nat.le_refl _) (.int .u64 (XS 0))).setCell (p := ⟨w.heap.size, 1, none⟩) (Nat.le_refl _) (.int .u64 (XS 1))))
  have KZblk := hid3 (show Blk ((w7.setCell ⟨w.heap.size, 0, none⟩ (.int .u64 0)).setCell ⟨w.heap.size, 1, none⟩ (.int .u64 0)) w.heap.size [.int .u64 0, .int .u64 0] 26 from ((K1.setCell (i := 0) (.int .u64 0)).setCell (i := 1) (.int .u64 0)))
  have KZchg := hid3 (show Chg (fun x => x = w.heap.size) w7 ((w7.setCell ⟨w.heap.size, 0, none⟩ (.int .u64 0)).setCell ⟨w.heap.size, 1, none⟩ (.int .u64 0)) from (((Chg.refl (fun x => x = w.heap.size) w7).cell (g := w.heap.size) (i := 0) (.inl rfl) (.int .u64 0)).cell (g := w.heap.size) (i := 1) (.inl rfl) (.int .u64 0)))
  have KZbel := hid3 (show Below w.heap.size w ((w7.setCell ⟨w.heap.size, 0, none⟩ (.int .u64 0)).setCell ⟨w.heap.size, 1, none⟩ (.int .u64 0)) from ((BF.out.setCell (p := ⟨w.heap.size, 0, none⟩) (Nat.le_refl _) (.int .u64 0)).setCell (p := ⟨w.heap.size, 1, none⟩) (Nat.le_refl _) (.int .u64 0)))
  clear K1 K2 K3 I6 C6 C7 B7 X7 R6 hl6 F6 c6 HU P1 P3 q0 q1
  obtain ⟨E0, hE0⟩ : ∃ E0, Hid (endE st.1 st.2.1 = E0) := ⟨_, rfl⟩
  rw [hE0.out]
  by_cases hE : E0 = 0
  · subst hE
    go_wp2
    refine bodyPost_ret (ret_rc rfl rfl rfl (ld_Chain (KFblk.out.cell (i := 0) rfl) (KFblk.out.cell (i := 1) rfl))) rfl ?_
    exact ⟨⟨[.int .u64 (XS 0), .int .u64 (XS 1)], XS, 0, rfl, rfl, (hF7.out.off KFchg.out.size (fun y hy _ => KFchg.out.same y (by assumption) (fun e => by have e' : y = w.heap.size := e; have := hBw.out; omega))).low (by have := hBw.out; omega), fun _ => ⟨rfl, hXS.out.symm⟩, fun h => absurd hE0.out h⟩, KFbel.out⟩
  · have hE1 : ¬ (E0 = 0) := hE
    go_wp2
    refine bodyPost_ret (ret_rc rfl rfl rfl (ld_Chain (KZblk.out.cell (i := 0) rfl) (KZblk.out.cell (i := 1) rfl))) rfl ?_
    exact ⟨⟨[.int .u64 0, .int .u64 0], fun _ => 0, 80, rfl, rfl, (fun o => match o with | 0 => ⟨fun _ => rfl, fun h => absurd h (by decide), fun h => absurd h (by decide)⟩ | 1 => ⟨fun _ => rfl, fun h => absurd h (by decide), fun h => absurd h (by decide)⟩ | k + 2 => ⟨fun h => absurd h (by simp [kd_Chain]), fun h => absurd h (by simp [kd_Chain]), fun h => absurd h (by simp [kd_Chain])⟩), fun h => absurd (hE0.out.symm.trans h) hE1, fun _ => ⟨rfl, rfl⟩⟩, KZbel.out⟩
theorem ld_Pool {w : World} {g : Nat} {y0 : Value} (c0 : w.cell? ⟨g, 0, none⟩ = some y0) : (loadVar 30 ⟨g, 0, none⟩).run Tryz.prog w = .ok (.agg #[y0]) w := by go_simp
set_option maxHeartbeats 4000000 in
set_option maxRecDepth 100000 in
theorem read_Pool {w : World} {bb n c : Nat} {ao : Option Addr} {l : List Int} (A : ByA w bb ao n c l) (hn : n ≤ 1000000000) (hl : l.length = n) :
    Calls Tryz.prog 145 #[.slice ao n c, .func (.func 51) #[] #[]] w (FinR w kd_Pool 1 mkA (thr rnx [(2, 0)] (0, l, fun _ => (0 : Int)))) := by
  have b1 := below_alloc w (.cells #[.slice none 0 0] 30)
  have b2 := below_alloc (w.alloc (.cells #[.slice none 0 0] 30)) (.cells #[.slice none 0 0] 30)
  have b3 := below_alloc ((w.alloc (.cells #[.slice none 0 0] 30)).alloc (.cells #[.slice none 0 0] 30)) (.cells #[.slice none 0 0] 30)
  have z1 := size_al w (.cells #[.slice none 0 0] 30)
  have z2 := size_al (w.alloc (.cells #[.slice none 0 0] 30)) (.cells #[.slice none 0 0] 30)
  have z3 := size_al ((w.alloc (.cells #[.slice none 0 0] 30)).alloc (.cells #[.slice none 0 0] 30)) (.cells #[.slice none 0 0] 30)
  have y1 := ((blk_new w [.slice none 0 0] 30).keep b2).keep b3
  have y2 := (blk_new (w.alloc (.cells #[.slice none 0 0] 30)) [.slice none 0 0] 30).keep b3
  have y3 := blk_new ((w.alloc (.cells #[.slice none 0 0] 30)).alloc (.cells #[.slice none 0 0] 30)) [.slice none 0 0] 30
  rw [z2, z1] at y3
  rw [z1] at y2
  rw [z2, z1] at z3
  obtain ⟨W3, hW3⟩ : ∃ W3, Hid ((((w.alloc (.cells #[.slice none 0 0] 30)).alloc (.cells #[.slice none 0 0] 30)).alloc (.cells #[.slice none 0 0] 30)) = W3) := ⟨_, rfl⟩
  have BB := joinB (joinB b1 b2) b3
  rw [hW3.out] at BB y1 y2 y3 z3
  have HN := hid3 (rdNew (A.keep BB) (by omega))
  have Y1 := hid3 y1
  have Y2 := hid3 y2
  have Y3 := hid3 y3
  have Z3 := hid3 z3
  have HBB := hid3 BB
  have HL := hid3 hl
  clear b1 b2 b3 z1 z2 z3 y1 y2 y3 BB A hl
  obtain ⟨st, hst⟩ : ∃ st, Hid (thr rnx [(2, 0)] (0, l, fun _ => (0 : Int)) = st) := ⟨_, rfl⟩
  have hsl : st.2.1.length ≤ n := by have h := thr_len [(2, 0)] (0, l, fun _ => (0 : Int)); rw [hst.out] at h; rw [HL.out] at h; exact h
  rw [hst.out]
  go_enter Tryz.func145, Tryz.ntmps145
  go_wp2_with fail
  rw [hW3.out]
  refine HN.out.mono ?_
  rintro e' w4 ⟨g, b', rfl, hg, hb', X4, B4⟩
  have b5 := below_alloc w4 (.cells #[.pointer (some ⟨g, 0, none⟩)] 198)
  have v5 := blk_new w4 [.pointer (some ⟨g, 0, none⟩)] 198
  have z5 := size_al w4 (.cells #[.pointer (some ⟨g, 0, none⟩)] 198)
  obtain ⟨W5, hW5⟩ : ∃ W5, Hid (w4.alloc (.cells #[.pointer (some ⟨g, 0, none⟩)] 198) = W5) := ⟨_, rfl⟩
  rw [hW5.out] at b5 v5 z5
  have hgl := X4.lt
  have hz3 := Z3.out
  have hz4 := B4.size
  have F0 : FldR W5 W5.heap.size kd_Pool [.slice none 0 0] (fun _ => 0) := fun o => match o with
    | 0 => ⟨fun h => absurd h (by decide), fun h => absurd h (by decide), fun _ => ⟨none, 0, 0, rfl, natW_nil _ _, by decide⟩⟩
    | k + 1 => ⟨fun h => absurd h (by simp [kd_Pool]), fun h => absurd h (by simp [kd_Pool]), fun h => absurd h (by simp [kd_Pool])⟩
  have U := ofPool_any (rhc_Pool (w0 := w) (B := W5.heap.size) (g := g) (b := b') (vb := w4.heap.size) (rb := w.heap.size + 1) (T := 30) (vt := 198)) (s := (0, l, fun _ => (0 : Int))) (w := W5) ⟨⟨X4.keep b5, v5, ⟨_, rfl, (Y2.out.keep B4).keep b5, F0⟩, joinB (joinB HBB.out B4) b5, by omega, by omega, by omega, by omega, by omega, by omega, by omega, by omega⟩, Nat.le_refl _⟩ (by simp [kd_Pool]) trivial
  rw [hst.out] at U
  have HU := hid3 U
  have P1 := hid3 ((Y1.out.keep B4).keep b5)
  have P3 := hid3 ((Y3.out.keep B4).keep b5)
  have HS := hid3 (show w.heap.size ≠ g ∧ w.heap.size + 1 + 1 ≠ g ∧ w.heap.size + 1 + 1 ≠ w.heap.size + 1 ∧ w.heap.size ≠ w.heap.size + 1 ∧ w.heap.size ≤ W5.heap.size ∧ w.heap.size ≤ g from ⟨by omega, by omega, by omega, by omega, by omega, by omega⟩)
  clear U b5 v5 z5 hgl hz3 hz4 F0 X4 B4 hg hb' HN Y1 Y2 Y3
  go_wp2_with fail
  rw [hW5.out]
  refine HU.out.mono ?_
  rintro e' w6 ⟨rfl, ⟨I6, hB6⟩, C6⟩
  have c6 := I6.var.cell (i := 0) rfl
  go_wp2_with fail
  refine (rdEnd I6.rd (by omega)).mono ?_
  rintro e' w7 ⟨rfl, X7, B7⟩
  obtain ⟨cs6, hl6, R6, F6⟩ := I6.rc
  obtain ⟨XS, hXS⟩ : ∃ XS, Hid (st.2.2 = XS) := ⟨_, rfl⟩
  rw [hXS.out] at F6
  have hF6 := hid3 F6
  obtain ⟨a0, n0, d0, q0, -, -⟩ := (F6 0).2.2 rfl
  have ecs : cs6 = [.slice a0 n0 d0] := by
    apply List.ext_getElem?
    intro i
    match i with
    | 0 => rw [q0]; rfl
    | k + 1 => rw [List.getElem?_eq_none (by omega), List.getElem?_eq_none (by simp)]
  subst ecs
  have C7 := But.chg B7
  have K1 := (P1.out.chg C6 (fun h => h.elim HS.out.1 HS.out.2.2.2.1)).chg C7 HS.out.1
  have K3 := (P3.out.chg C6 (fun h => h.elim HS.out.2.1 HS.out.2.2.1)).chg C7 HS.out.2.1
  have K2 := R6.chg C7 I6.s1
  have BF := hid3 (B7.below I6.bel HS.out.2.2.2.2.2 (Nat.le_refl _))
  have hF7 := hid3 ((hF6.out.off (w' := w7) B7.size (fun y hy hy2 => B7.block y hy2 (by have := I6.g1; omega))))
  have hBw := hid3 (show w.heap.size < W5.heap.size ∧ w.heap.size < w7.heap.size from ⟨by have := I6.r1; omega, K1.lt⟩)
  have u0 := K1.cell (i := 0) rfl
  have f0 := K1.free 0
  have v0 := K2.cell (i := 0) rfl
  have o0 := K3.cell (i := 0) rfl
  have KFblk := hid3 (show Blk (w7.setCell ⟨w.heap.size, 0, none⟩ (.slice a0 n0 d0)) w.heap.size [.slice a0 n0 d0] 30 from (K1.setCell (i := 0) (.slice a0 n0 d0)))
  have KFchg := hid3 (show Chg (fun x => x = w.heap.size) w7 (w7.setCell ⟨w.heap.size, 0, none⟩ (.slice a0 n0 d0)) from ((Chg.refl (fun x => x = w.heap.size) w7).cell (g := w.heap.size) (i := 0) (.inl rfl) (.slice a0 n0 d0)))
  have KFbel := hid3 (show Below w.heap.size w (w7.setCell ⟨w.heap.size, 0, none⟩ (.slice a0 n0 d0)) from (BF.out.setCell (p := ⟨w.heap.size, 0, none⟩) (Nat.le_refl _) (.slice a0 n0 d0)))
  have KZblk := hid3 (show Blk (w7.setCell ⟨w.heap.size, 0, none⟩ (.slice none 0 0)) w.heap.size [.slice none 0 0] 30 from (K1.setCell (i := 0) (.slice none 0 0)))
  have KZchg := hid3 (show Chg (fun x => x = w.heap.size) w7 (w7.setCell ⟨w.heap.size, 0, none⟩ (.slice none 0 0)) from ((Chg.refl (fun x => x = w.heap.size) w7).cell (g := w.heap.size) (i := 0) (.inl rfl) (.slice none 0 0)))
  have KZbel := hid3 (show Below w.heap.size w (w7.setCell ⟨w.heap.size, 0, none⟩ (.slice none 0 0)) from (BF.out.setCell (p := ⟨w.heap.size, 0, none⟩) (Nat.le_refl _) (.slice none 0 0)))
  clear K1 K2 K3 I6 C6 C7 B7 X7 R6 hl6 F6 c6 HU P1 P3 q0
  obtain ⟨E0, hE0⟩ : ∃ E0, Hid (endE st.1 st.2.1 = E0) := ⟨_, rfl⟩
  rw [hE0.out]
  by_cases hE : E0 = 0
  · subst hE
    go_wp2
    refine bodyPost_ret (ret_rc rfl rfl rfl (ld_Pool (KFblk.out.cell (i := 0) rfl))) rfl ?_
    exact ⟨⟨[.slice a0 n0 d0], XS, 0, rfl, rfl, (hF7.out.off KFchg.out.size (fun y hy _ => KFchg.out.same y (by assumption) (fun e => by have e' : y = w.heap.size := e; have := hBw.out; omega))).low (by have := hBw.out; omega), fun _ => ⟨rfl, hXS.out.symm⟩, fun h => absurd hE0.out h⟩, KFbel.out⟩
  · have hE1 : ¬ (E0 = 0) := hE
    go_wp2
    refine bodyPost_ret (ret_rc rfl rfl rfl (ld_Pool (KZblk.out.cell (i := 0) rfl))) rfl ?_
    exact ⟨⟨[.slice none 0 0], fun _ => 0, 80, rfl, rfl, (fun o => match o with | 0 => ⟨fun h => absurd h (by decide), fun h => absurd h (by decide), fun _ => ⟨none, 0, 0, rfl, natW_nil _ _, by decide⟩⟩ | k + 1 => ⟨fun h => absurd h (by simp [kd_Pool]), fun h => absurd h (by simp [kd_Pool]), fun h => absurd h (by simp [kd_Pool])⟩), fun h => absurd (hE0.out.symm.trans h) hE1, fun _ => ⟨rfl, rfl⟩⟩, KZbel.out⟩
theorem ld_Account {w : World} {g : Nat} {y0 y1 : Value} (c0 : w.cell? ⟨g, 0, none⟩ = some y0) (c1 : w.cell? ⟨g, 1, none⟩ = some y1) : (loadVar 32 ⟨g, 0, none⟩).run Tryz.prog w = .ok (.agg #[y0, y1]) w := by go_simp
set_option maxHeartbeats 4000000 in
set_option maxRecDepth 100000 in
theorem read_Account {w : World} {bb n c : Nat} {ao : Option Addr} {l : List Int} (A : ByA w bb ao n c l) (hn : n ≤ 1000000000) (hl : l.length = n) :
    Calls Tryz.prog 94 #[.slice ao n c, .func (.func 53) #[] #[]] w (FinR w kd_Account 2 mkA (thr rnx [(0, 0), (0, 1)] (0, l, fun _ => (0 : Int)))) := by
  have b1 := below_alloc w (.cells #[.int .u64 0, .int .u64 0] 32)
  have b2 := below_alloc (w.alloc (.cells #[.int .u64 0, .int .u64 0] 32)) (.cells #[.int .u64 0, .int .u64 0] 32)
  have b3 := below_alloc ((w.alloc (.cells #[.int .u64 0, .int .u64 0] 32)).alloc (.cells #[.int .u64 0, .int .u64 0] 32)) (.cells #[.int .u64 0, .int .u64 0] 32)
  have z1 := size_al w (.cells #[.int .u64 0, .int .u64 0] 32)
  have z2 := size_al (w.alloc (.cells #[.int .u64 0, .int .u64 0] 32)) (.cells #[.int .u64 0, .int .u64 0] 32)
  have z3 := size_al ((w.alloc (.cells #[.int .u64 0, .int .u64 0] 32)).alloc (.cells #[.int .u64 0, .int .u64 0] 32)) (.cells #[.int .u64 0, .int .u64 0] 32)
  have y1 := ((blk_new w [.int .u64 0, .int .u64 0] 32).keep b2).keep b3
  have y2 := (blk_new (w.alloc (.cells #[.int .u64 0, .int .u64 0] 32)) [.int .u64 0, .int .u64 0] 32).keep b3
  have y3 := blk_new ((w.alloc (.cells #[.int .u64 0, .int .u64 0] 32)).alloc (.cells #[.int .u64 0, .int .u64 0] 32)) [.int .u64 0, .int .u64 0] 32
  rw [z2, z1] at y3
  rw [z1] at y2
  rw [z2, z1] at z3
  obtain ⟨W3, hW3⟩ : ∃ W3, Hid ((((w.alloc (.cells #[.int .u64 0, .int .u64 0] 32)).alloc (.cells #[.int .u64 0, .int .u64 0] 32)).alloc (.cells #[.int .u64 0, .int .u64 0] 32)) = W3) := ⟨_, rfl⟩
  have BB := joinB (joinB b1 b2) b3
  rw [hW3.out] at BB y1 y2 y3 z3
  have HN := hid3 (rdNew (A.keep BB) (by omega))
  have Y1 := hid3 y1
  have Y2 := hid3 y2
  have Y3 := hid3 y3
  have Z3 := hid3 z3
  have HBB := hid3 BB
  have HL := hid3 hl
  clear b1 b2 b3 z1 z2 z3 y1 y2 y3 BB A hl
  obtain ⟨st, hst⟩ : ∃ st, Hid (thr rnx [(0, 0), (0, 1)] (0, l, fun _ => (0 : Int)) = st) := ⟨_, rfl⟩
  have hsl : st.2.1.length ≤ n := by have h := thr_len [(0, 0), (0, 1)] (0, l, fun _ => (0 : Int)); rw [hst.out] at h; rw [HL.out] at h; exact h
  rw [hst.out]
  go_enter Tryz.func94, Tryz.ntmps94
  go_wp2_with fail
  rw [hW3.out]
  refine HN.out.mono ?_
  rintro e' w4 ⟨g, b', rfl, hg, hb', X4, B4⟩
  have b5 := below_alloc w4 (.cells #[.pointer (some ⟨g, 0, none⟩)] 198)
  have v5 := blk_new w4 [.pointer (some ⟨g, 0, none⟩)] 198
  have z5 := size_al w4 (.cells #[.pointer (some ⟨g, 0, none⟩)] 198)
  obtain ⟨W5, hW5⟩ : ∃ W5, Hid (w4.alloc (.cells #[.pointer (some ⟨g, 0, none⟩)] 198) = W5) := ⟨_, rfl⟩
  rw [hW5.out] at b5 v5 z5
  have hgl := X4.lt
  have hz3 := Z3.out
  have hz4 := B4.size
  have F0 : FldR W5 W5.heap.size kd_Account [.int .u64 0, .int .u64 0] (fun _ => 0) := fun o => match o with
    | 0 => ⟨fun _ => rfl, fun h => absurd h (by decide), fun h => absurd h (by decide)⟩
    | 1 => ⟨fun _ => rfl, fun h => absurd h (by decide), fun h => absurd h (by decide)⟩
    | k + 2 => ⟨fun h => absurd h (by simp [kd_Account]), fun h => absurd h (by simp [kd_Account]), fun h => absurd h (by simp [kd_Account])⟩
  have U := ofAccount_any (rhc_Account (w0 := w) (B := W5.heap.size) (g := g) (b := b') (vb := w4.heap.size) (rb := w.heap.size + 1) (T := 32) (vt := 198)) (s := (0, l, fun _ => (0 : Int))) (w := W5) ⟨⟨X4.keep b5, v5, ⟨_, rfl, (Y2.out.keep B4).keep b5, F0⟩, joinB (joinB HBB.out B4) b5, by omega, by omega, by omega, by omega, by omega, by omega, by omega, by omega⟩, Nat.le_refl _⟩ (by simp [kd_Account]) trivial
  rw [hst.out] at U
  have HU := hid3 U
  have P1 := hid3 ((Y1.out.keep B4).keep b5)
  have P3 := hid3 ((Y3.out.keep B4).keep b5)
  have HS := hid3 (show w.heap.size ≠ g ∧ w.heap.size + 1 + 1 ≠ g ∧ w.heap.size + 1 + 1 ≠ w.heap.size + 1 ∧ w.heap.size ≠ w.heap.size + 1 ∧ w.heap.size ≤ W5.heap.size ∧ w.heap.size ≤ g from ⟨by omega, by omega, by omega, by omega, by omega, by omega⟩)
  clear U b5 v5 z5 hgl hz3 hz4 F0 X4 B4 hg hb' HN Y1 Y2 Y3
  go_wp2_with fail
  rw [hW5.out]
  refine HU.out.mono ?_
  rintro e' w6 ⟨rfl, ⟨I6, hB6⟩, C6⟩
  have c6 := I6.var.cell (i := 0) rfl
  go_wp2_with fail
  refine (rdEnd I6.rd (by omega)).mono ?_
  rintro e' w7 ⟨rfl, X7, B7⟩
  obtain ⟨cs6, hl6, R6, F6⟩ := I6.rc
  obtain ⟨XS, hXS⟩ : ∃ XS, Hid (st.2.2 = XS) := ⟨_, rfl⟩
  rw [hXS.out] at F6
  have hF6 := hid3 F6
  have q0 := (F6 0).1 rfl
  have q1 := (F6 1).1 rfl
  have ecs : cs6 = [.int .u64 (XS 0), .int .u64 (XS 1)] := by
    apply List.ext_getElem?
    intro i
    match i with
    | 0 => rw [q0]; rfl
    | 1 => rw [q1]; rfl
    | k + 2 => rw [List.getElem?_eq_none (by omega), List.getElem?_eq_none (by simp)]
  subst ecs
  have C7 := But.chg B7
  have K1 := (P1.out.chg C6 (fun h => h.elim HS.out.1 HS.out.2.2.2.1)).chg C7 HS.out.1
  have K3 := (P3.out.chg C6 (fun h => h.elim HS.out.2.1 HS.out.2.2.1)).chg C7 HS.out.2.1
  have K2 := R6.chg C7 I6.s1
  have BF := hid3 (B7.below I6.bel HS.out.2.2.2.2.2 (Nat.le_refl _))
  have hF7 := hid3 ((hF6.out.off (w' := w7) B7.size (fun y hy hy2 => B7.block y hy2 (by have := I6.g1; omega))))
  have hBw := hid3 (show w.heap.size < W5.heap.size ∧ w.heap.size < w7.heap.size from ⟨by have := I6.r1; omega, K1.lt⟩)
  have u0 := K1.cell (i := 0) rfl
  have f0 := K1.free 0
  have v0 := K2.cell (i := 0) rfl
  have o0 := K3.cell (i := 0) rfl
  have u1 := K1.cell (i := 1) rfl
  have f1 := K1.free 1
  have v1 := K2.cell (i := 1) rfl
  have o1 := K3.cell (i := 1) rfl
  have KFblk := hid3 (show Blk ((w7.setCell ⟨w.heap.size, 0, none⟩ (.int .u64 (XS 0))).setCell ⟨w.heap.size, 1, none⟩ (.int .u64 (XS 1))) w.heap.size [.int .u64 (XS 0), .int .u64 (XS 1)] 32 from ((K1.setCell (i := 0) (.int .u64 (XS 0))).setCell (i := 1) (.int .u64 (XS 1))))
  have KFchg := hid3 (show Chg (fun x => x = w.heap.size) w7 ((w7.setCell ⟨w.heap.size, 0, none⟩ (.int .u64 (XS 0))).setCell ⟨w.heap.size, 1, none⟩ (.int .u64 (XS 1))) from (((Chg.refl (fun x => x = w.heap.size) w7).cell (g := w.heap.size) (i := 0) (.inl rfl) (.int .u64 (XS 0))).cell (g := w.heap.size) (i := 1) (.inl rfl) (.int .u64 (XS 1))))
  have KFbel := hid3 (show Below w.heap.size w ((w7.setCell ⟨w.heap.size, 0, none⟩ (.int .u64 (XS 0))).setCell ⟨w.heap.size, 1, none⟩ (.int .u64 (XS 1))) from ((BF.out.setCell (p := ⟨w.heap.size, 0, none⟩) (Nat.le_refl _) (.int .u64 (XS 0))).setCell (p := ⟨w.heap.size, 1, none⟩) (Nat.le_refl _) (.int .u64 (XS 1))))
  have KZblk := hid3 (show Blk ((w7.setCell ⟨w.heap.size, 0, none⟩ (.int .u64 0)).setCell ⟨w.heap.size, 1, none⟩ (.int .u64 0)) w.heap.size [.int .u64 0, .int .u64 0] 32 from ((K1.setCell (i := 0) (.int .u64 0)).setCell (i := 1) (.int .u64 0)))
  have KZchg := hid3 (show Chg (fun x => x = w.heap.size) w7 ((w7.setCell ⟨w.heap.size, 0, none⟩ (.int .u64 0)).setCell ⟨w.heap.size, 1, none⟩ (.int .u64 0)) from (((Chg.refl (fun x => x = w.heap.size) w7).cell (g := w.heap.size) (i := 0) (.inl rfl) (.int .u64 0)).cell (g := w.heap.size) (i := 1) (.inl rfl) (.int .u64 0)))
  have KZbel := hid3 (show Below w.heap.size w ((w7.setCell ⟨w.heap.size, 0, none⟩ (.int .u64 0)).setCell ⟨w.heap.size, 1, none⟩ (.int .u64 0)) from ((BF.out.setCell (p := ⟨w.heap.size, 0, none⟩) (Nat.le_refl _) (.int .u64 0)).setCell (p := ⟨w.heap.size, 1, none⟩) (Nat.le_refl _) (.int .u64 0)))
  clear K1 K2 K3 I6 C6 C7 B7 X7 R6 hl6 F6 c6 HU P1 P3 q0 q1
  obtain ⟨E0, hE0⟩ : ∃ E0, Hid (endE st.1 st.2.1 = E0) := ⟨_, rfl⟩
  rw [hE0.out]
  by_cases hE : E0 = 0
  · subst hE
    go_wp2
    refine bodyPost_ret (ret_rc rfl rfl rfl (ld_Account (KFblk.out.cell (i := 0) rfl) (KFblk.out.cell (i := 1) rfl))) rfl ?_
    exact ⟨⟨[.int .u64 (XS 0), .int .u64 (XS 1)], XS, 0, rfl, rfl, (hF7.out.off KFchg.out.size (fun y hy _ => KFchg.out.same y (by assumption) (fun e => by have e' : y = w.heap.size := e; have := hBw.out; omega))).low (by have := hBw.out; omega), fun _ => ⟨rfl, hXS.out.symm⟩, fun h => absurd hE0.out h⟩, KFbel.out⟩
  · have hE1 : ¬ (E0 = 0) := hE
    go_wp2
    refine bodyPost_ret (ret_rc rfl rfl rfl (ld_Account (KZblk.out.cell (i := 0) rfl) (KZblk.out.cell (i := 1) rfl))) rfl ?_
    exact ⟨⟨[.int .u64 0, .int .u64 0], fun _ => 0, 80, rfl, rfl, (fun o => match o with | 0 => ⟨fun _ => rfl, fun h => absurd h (by decide), fun h => absurd h (by decide)⟩ | 1 => ⟨fun _ => rfl, fun h => absurd h (by decide), fun h => absurd h (by decide)⟩ | k + 2 => ⟨fun h => absurd h (by simp [kd_Account]), fun h => absurd h (by simp [kd_Account]), fun h => absurd h (by simp [kd_Account])⟩), fun h => absurd (hE0.out.symm.trans h) hE1, fun _ => ⟨rfl, rfl⟩⟩, KZbel.out⟩
theorem ld_Val {w : World} {g : Nat} {y0 y1 y2 y3 y4 y5 y6 y7 y8 y9 : Value} (c0 : w.cell? ⟨g, 0, none⟩ = some y0) (c1 : w.cell? ⟨g, 1, none⟩ = some y1) (c2 : w.cell? ⟨g, 2, none⟩ = some y2) (c3 : w.cell? ⟨g, 3, none⟩ = some y3) (c4 : w.cell? ⟨g, 4, none⟩ = some y4) (c5 : w.cell? ⟨g, 5, none⟩ = some y5) (c6 : w.cell? ⟨g, 6, none⟩ = some y6) (c7 : w.cell? ⟨g, 7, none⟩ = some y7) (c8 : w.cell? ⟨g, 8, none⟩ = some y8) (c9 : w.cell? ⟨g, 9, none⟩ = some y9) : (loadVar 34 ⟨g, 0, none⟩).run Tryz.prog w = .ok (.agg #[y0, y1, y2, y3, y4, y5, y6, y7, y8, y9]) w := by go_simp
set_option maxHeartbeats 4000000 in
set_option maxRecDepth 100000 in
theorem read_Val {w : World} {bb n c : Nat} {ao : Option Addr} {l : List Int} (A : ByA w bb ao n c l) (hn : n ≤ 1000000000) (hl : l.length = n) :
    Calls Tryz.prog 95 #[.slice ao n c, .func (.func 55) #[] #[]] w (FinR w kd_Val 10 mkA (thr rnx [(0, 0), (0, 1), (2, 2), (1, 3), (0, 4), (1, 5), (0, 6), (2, 7), (2, 8), (2, 9)] (0, l, fun _ => (0 : Int)))) := by
  have b1 := below_alloc w (.cells #[.int .u64 0, .int .u64 0, .slice none 0 0, .bool false, .int .u64 0, .bool false, .int .u64 0, .slice none 0 0, .slice none 0 0, .slice none 0 0] 34)
  have b2 := below_alloc (w.alloc (.cells #[.int .u64 0, .int .u64 0, .slice none 0 0, .bool false, .int .u64 0, .bool false, .int .u64 0, .slice none 0 0, .slice none 0 0, .slice none 0 0] 34)) (.cells #[.int .u64 0, .int .u64 0, .slice none 0 0, .bool false, .int .u64 0, .bool false, .int .u64 0, .slice none 0 0, .slice none 0 0, .slice none 0 0] 34)
  have b3 := below_alloc ((w.alloc (.cells #[.int .u64 0, .int .u64 0, .slice none 0 0, .bool false, .int .u64 0, .bool false, .int .u64 0, .slice none 0 0, .slice none 0 0, .slice none 0 0] 34)).alloc (.cells #[.int .u64 0, .int .u64 0, .slice none 0 0, .bool false, .int .u64 0, .bool false, .int .u64 0, .slice none 0 0, .slice none 0 0, .slice none 0 0] 34)) (.cells #[.int .u64 0, .int .u64 0, .slice none 0 0, .bool false, .int .u64 0, .bool false, .int .u64 0, .slice none 0 0, .slice none 0 0, .slice none 0 0] 34)
  have z1 := size_al w (.cells #[.int .u64 0, .int .u64 0, .slice none 0 0, .bool false, .int .u64 0, .bool false, .int .u64 0, .slice none 0 0, .slice none 0 0, .slice none 0 0] 34)
  have z2 := size_al (w.alloc (.cells #[.int .u64 0, .int .u64 0, .slice none 0 0, .bool false, .int .u64 0, .bool false, .int .u64 0, .slice none 0 0, .slice none 0 0, .slice none 0 0] 34)) (.cells #[.int .u64 0, .int .u64 0, .slice none 0 0, .bool false, .int .u64 0, .bool false, .int .u64 0, .slice none 0 0, .slice none 0 0, .slice none 0 0] 34)
  have z3 := size_al ((w.alloc (.cells #[.int .u64 0, .int .u64 0, .slice none 0 0, .bool false, .int .u64 0, .bool false, .int .u64 0, .slice none 0 0, .slice none 0 0, .slice none 0 0] 34)).alloc (.cells #[.int .u64 0, .int .u64 0, .slice none 0 0, .bool false, .int .u64 0, .bool false, .int .u64 0, .slice none 0 0, .slice none 0 0, .slice none 0 0] 34)) (.cells #[.int .u64 0, .int .u64 0, .slice none 0 0, .bool false, .int .u64 0, .bool false, .int .u64 0, .slice none 0 0, .slice none 0 0, .slice none 0 0] 34)
  have y1 := ((blk_new w [.int .u64 0, .int .u64 0, .slice none 0 0, .bool false, .int .u64 0, .bool false, .int .u64 0, .slice none 0 0, .slice none 0 0, .slice none 0 0] 34).keep b2).keep b3
  have y2 := (blk_new (w.alloc (.cells #[.int .u64 0, .int .u64 0, .slice none 0 0, .bool false, .int .u64 0, .bool false, .int .u64 0, .slice none 0 0, .slice none 0 0, .slice none 0 0] 34)) [.int .u64 0, .int .u64 0, .slice none 0 0, .bool false, .int .u64 0, .bool false, .int .u64 0, .slice none 0 0, .slice none 0 0, .slice none 0 0] 34).keep b3
  have y3 := blk_new ((w.alloc (.cells #[.int .u64 0, .int .u64 0, .slice none 0 0, .bool false, .int .u64 0, .bool false, .int .u64 0, .slice none 0 0, .slice none 0 0, .slice none 0 0] 34)).alloc (.cells #[.int .u64 0, .int .u64 0, .slice none 0 0, .bool false, .int .u64 0, .bool false, .int .u64 0, .slice none 0 0, .slice none 0 0, .slice none 0 0] 34)) [.int .u64 0, .int .u64 0, .slice none 0 0, .bool false, .int .u64 0, .bool false, .int .u64 0, .slice none 0 0, .slice none 0 0, .slice none 0 0] 34
  rw [z2, z1] at y3
  rw [z1] at y2
  rw [z2, z1] at z3
  obtain ⟨W3, hW3⟩ : ∃ W3, Hid ((((w.alloc (.cells #[.int .u64 0, .int .u64 0, .slice none 0 0, .bool false, .int .u64 0, .bool false, .int .u64 0, .slice none 0 0, .slice none 0 0, .slice none 0 0] 34)).alloc (.cells #[.int .u64 0, .int .u64 0, .slice none 0 0, .bool false, .int .u64 0, .bool false, .int .u64 0, .slice none 0 0, .slice none 0 0, .slice none 0 0] 34)).alloc (.cells #[.int .u64 0, .int .u64 0, .slice none 0 0, .bool false, .int .u64 0, .bool false, .int .u64 0, .slice none 0 0, .slice none 0 0, .slice none 0 0] 34)) = W3) := ⟨_, rfl⟩
  have BB := joinB (joinB b1 b2) b3
  rw [hW3.out] at BB y1 y2 y3 z3
  have HN := hid3 (rdNew (A.keep BB) (by omega))
  have Y1 := hid3 y1
  have Y2 := hid3 y2
  have Y3 := hid3 y3
  have Z3 := hid3 z3
  have HBB := hid3 BB
  have HL := hid3 hl
  clear b1 b2 b3 z1 z2 z3 y1 y2 y3 BB A hl
  obtain ⟨st, hst⟩ : ∃ st, Hid (thr rnx [(0, 0), (0, 1), (2, 2), (1, 3), (0, 4), (1, 5), (0, 6), (2, 7), (2, 8), (2, 9)] (0, l, fun _ => (0 : Int)) = st) := ⟨_, rfl⟩
  have hsl : st.2.1.length ≤ n := by have h := thr_len [(0, 0), (0, 1), (2, 2), (1, 3), (0, 4), (1, 5), (0, 6), (2, 7), (2, 8), (2, 9)] (0, l, fun _ => (0 : Int)); rw [hst.out] at h; rw [HL.out] at h; exact h
  rw [hst.out]
  go_enter Tryz.func95, Tryz.ntmps95
  go_wp2_with fail
  rw [hW3.out]
  refine HN.out.mono ?_
  rintro e' w4 ⟨g, b', rfl, hg, hb', X4, B4⟩
  have b5 := below_alloc w4 (.cells #[.pointer (some ⟨g, 0, none⟩)] 198)
  have v5 := blk_new w4 [.pointer (some ⟨g, 0, none⟩)] 198
  have z5 := size_al w4 (.cells #[.pointer (some ⟨g, 0, none⟩)] 198)
  obtain ⟨W5, hW5⟩ : ∃ W5, Hid (w4.alloc (.cells #[.pointer (some ⟨g, 0, none⟩)] 198) = W5) := ⟨_, rfl⟩
  rw [hW5.out] at b5 v5 z5
  have hgl := X4.lt
  have hz3 := Z3.out
  have hz4 := B4.size
  have F0 : FldR W5 W5.heap.size kd_Val [.int .u64 0, .int .u64 0, .slice none 0 0, .bool false, .int .u64 0, .bool false, .int .u64 0, .slice none 0 0, .slice none 0 0, .slice none 0 0] (fun _ => 0) := fun o => match o with
    | 0 => ⟨fun _ => rfl, fun h => absurd h (by decide), fun h => absurd h (by decide)⟩
    | 1 => ⟨fun _ => rfl, fun h => absurd h (by decide), fun h => absurd h (by decide)⟩
    | 2 => ⟨fun h => absurd h (by decide), fun h => absurd h (by decide), fun _ => ⟨none, 0, 0, rfl, natW_nil _ _, by decide⟩⟩
    | 3 => ⟨fun h => absurd h (by decide), fun _ => ⟨false, rfl, rfl⟩, fun h => absurd h (by decide)⟩
    | 4 => ⟨fun _ => rfl, fun h => absurd h (by decide), fun h => absurd h (by decide)⟩
    | 5 => ⟨fun h => absurd h (by decide), fun _ => ⟨false, rfl, rfl⟩, fun h => absurd h (by decide)⟩
    | 6 => ⟨fun _ => rfl, fun h => absurd h (by decide), fun h => absurd h (by decide)⟩
    | 7 => ⟨fun h => absurd h (by decide), fun h => absurd h (by decide), fun _ => ⟨none, 0, 0, rfl, natW_nil _ _, by decide⟩⟩
    | 8 => ⟨fun h => absurd h (by decide), fun h => absurd h (by decide), fun _ => ⟨none, 0, 0, rfl, natW_nil _ _, by decide⟩⟩
    | 9 => ⟨fun h => absurd h (by decide), fun h => absurd h (by decide), fun _ => ⟨none, 0, 0, rfl, natW_nil _ _, by decide⟩⟩
    | k + 10 => ⟨fun h => absurd h (by simp [kd_Val]), fun h => absurd h (by simp [kd_Val]), fun h => absurd h (by simp [kd_Val])⟩
  have U := ofVal_any (rhc_Val (w0 := w) (B := W5.heap.size) (g := g) (b := b') (vb := w4.heap.size) (rb := w.heap.size + 1) (T := 34) (vt := 198)) (s := (0, l, fun _ => (0 : Int))) (w := W5) ⟨⟨X4.keep b5, v5, ⟨_, rfl, (Y2.out.keep B4).keep b5, F0⟩, joinB (joinB HBB.out B4) b5, by omega, by omega, by omega, by omega, by omega, by omega, by omega, by omega⟩, Nat.le_refl _⟩ (by simp [kd_Val]) trivial
  rw [hst.out] at U
  have HU := hid3 U
  have P1 := hid3 ((Y1.out.keep B4).keep b5)
  have P3 := hid3 ((Y3.out.keep B4).keep b5)
  have HS := hid3 (show w.heap.size ≠ g ∧ w.heap.size + 1 + 1 ≠ g ∧ w.heap.size + 1 + 1 ≠ w.heap.size + 1 ∧ w.heap.size ≠ w.heap.size + 1 ∧ w.heap.size ≤ W5.heap.size ∧ w.heap.size ≤ g from ⟨by omega, by omega, by omega, by omega, by omega, by omega⟩)
  clear U b5 v5 z5 hgl hz3 hz4 F0 X4 B4 hg hb' HN Y1 Y2 Y3
  go_wp2_with fail
  rw [hW5.out]
  refine HU.out.mono ?_
  rintro e' w6 ⟨rfl, ⟨I6, hB6⟩, C6⟩
  have c6 := I6.var.cell (i := 0) rfl
  go_wp2_with fail
  refine (rdEnd I6.rd (by omega)).mono ?_
  rintro e' w7 ⟨rfl, X7, B7⟩
  obtain ⟨cs6, hl6, R6, F6⟩ := I6.rc
  obtain ⟨XS, hXS⟩ : ∃ XS, Hid (st.2.2 = XS) := ⟨_, rfl⟩
  rw [hXS.out] at F6
  have hF6 := hid3 F6
  have q0 := (F6 0).1 rfl
  have q1 := (F6 1).1 rfl
  obtain ⟨a2, n2, d2, q2, -, -⟩ := (F6 2).2.2 rfl
  obtain ⟨t3, q3, -⟩ := (F6 3).2.1 rfl
  have q4 := (F6 4).1 rfl
  obtain ⟨t5, q5, -⟩ := (F6 5).2.1 rfl
  have q6 := (F6 6).1 rfl
  obtain ⟨a7, n7, d7, q7, -, -⟩ := (F6 7).2.2 rfl
  obtain ⟨a8, n8, d8, q8, -, -⟩ := (F6 8).2.2 rfl
  obtain ⟨a9, n9, d9, q9, -, -⟩ := (F6 9).2.2 rfl
  have ecs : cs6 = [.int .u64 (XS 0), .int .u64 (XS 1), .slice a2 n2 d2, .bool t3, .int .u64 (XS 4), .bool t5, .int .u64 (XS 6), .slice a7 n7 d7, .slice a8 n8 d8, .slice a9 n9 d9] := by
    apply List.ext_getElem?
    intro i
    match i with
    | 0 => rw [q0]; rfl
    | 1 => rw [q1]; rfl
    | 2 => rw [q2]; rfl
    | 3 => rw [q3]; rfl
    | 4 => rw [q4]; rfl
    | 5 => rw [q5]; rfl
    | 6 => rw [q6]; rfl
    | 7 => rw [q7]; rfl
    | 8 => rw [q8]; rfl
    | 9 => rw [q9]; rfl
    | k + 10 => rw [List.getElem?_eq_none (by omega), List.getElem?_eq_none (by simp)]
  subst ecs
  have C7 := But.chg B7
  have K1 := (P1.out.chg C6 (fun h => h.elim HS.out.1 HS.out.2.2.2.1)).chg C7 HS.out.1
  have K3 := (P3.out.chg C6 (fun h => h.elim HS.out.2.1 HS.out.2.2.1)).chg C7 HS.out.2.1
  have K2 := R6.chg C7 I6.s1
  have BF := hid3 (B7.below I6.bel HS.out.2.2.2.2.2 (Nat.le_refl _))
  have hF7 := hid3 ((hF6.out.off (w' := w7) B7.size (fun y hy hy2 => B7.block y hy2 (by have := I6.g1; omega))))
  have hBw := hid3 (show w.heap.size < W5.heap.size ∧ w.heap.size < w7.heap.size from ⟨by have := I6.r1; omega, K1.lt⟩)
  have u0 := K1.cell (i := 0) rfl
  have f0 := K1.free 0
  have v0 := K2.cell (i := 0) rfl
  have o0 := K3.cell (i := 0) rfl
  have u1 := K1.cell (i := 1) rfl
  have f1 := K1.free 1
  have v1 := K2.cell (i := 1) rfl
  have o1 := K3.cell (i := 1) rfl
  have u2 := K1.cell (i := 2) rfl
  have f2 := K1.free 2
  have v2 := K2.cell (i := 2) rfl
  have o2 := K3.cell (i := 2) rfl
  have u3 := K1.cell (i := 3) rfl
  have f3 := K1.free 3
  have v3 := K2.cell (i := 3) rfl
  have o3 := K3.cell (i := 3) rfl
  have u4 := K1.cell (i := 4) rfl
  have f4 := K1.free 4
  have v4 := K2.cell (i := 4) rfl
  have o4 := K3.cell (i := 4) rfl
  have u5 := K1.cell (i := 5) rfl
  have f5 := K1.free 5
  have v5 := K2.cell (i := 5) rfl
  have o5 := K3.cell (i := 5) rfl
  have u6 := K1.cell (i := 6) rfl
  have f6 := K1.free 6
  have v6 := K2.cell (i := 6) rfl
  have o6 := K3.cell (i := 6) rfl
  have u7 := K1.cell (i := 7) rfl
  have f7 := K1.free 7
  have v7 := K2.cell (i := 7) rfl
  have o7 := K3.cell (i := 7) rfl
  have u8 := K1.cell (i := 8) rfl
  have f8 := K1.free 8
  have v8 := K2.cell (i := 8) rfl
  have o8 := K3.cell (i := 8) rfl
  have u9 := K1.cell (i := 9) rfl
  have f9 := K1.free 9
  have v9 := K2.cell (i := 9) rfl
  have o9 := K3.cell (i := 9) rfl
  have KFblk := hid3 (show Blk ((((((((((w7.setCell ⟨w.heap.size, 0, none⟩ (.int .u64 (XS 0))).setCell ⟨w.heap.size, 1, none⟩ (.int .u64 (XS 1))).setCell ⟨w.heap.size, 2, none⟩ (.slice a2 n2 d2)).setCell ⟨w.heap.size, 3, none⟩ (.bool t3)).setCell ⟨w.heap.size, 4, none⟩ (.int .u64 (XS 4))).setCell ⟨w.heap.size, 5, none⟩ (.bool t5)).setCell ⟨w.heap.size, 6, none⟩ (.int .u64 (XS 6))).setCell ⟨w.heap.size, 7, none⟩ (.slice a7 n7 d7)).setCell ⟨w.heap.size, 8, none⟩ (.slice a8 n8 d8)).setCell ⟨w.heap.size, 9, none⟩ (.slice a9 n9 d9)) w.heap.size [.int .u64 (XS 0), .int .u64 (XS 1), .slice a2 n2 d2, .bool t3, .int .u64 (XS 4), .bool t5, .int .u64 (XS 6), .slice a7 n7 d7, .slice a8 n8 d8, .slice a9 n9 d9] 34 from ((((((((((K1.setCell (i := 0) (.int .u64 (XS 0))).setCell (i := 1) (.int .u64 (XS 1))).setCell (i := 2) (.slice a2 n2 d2)).setCell (i := 3) (.bool t3)).setCell (i := 4) (.int .u64 (XS 4))).setCell (i := 5) (.bool t5)).setCell (i := 6) (.int .u64 (XS 6))).setCell (i := 7) (.slice a7 n7 d7)).setCell (i := 8) (.slice a8 n8 d8)).setCell (i := 9) (.slice a9 n9 d9)))
  have KFchg := hid3 (show Chg (fun x => x = w.heap.size) w7 ((((((((((w7.setCell ⟨w.heap.size, 0, none⟩ (.int .u64 (XS 0))).setCell ⟨w.heap.size, 1, none⟩ (.int .u64 (XS 1))).setCell ⟨w.heap.size, 2, none⟩ (.slice a2 n2 d2)).setCell ⟨w.heap.size, 3, none⟩ (.bool t3)).setCell ⟨w.heap.size, 4, none⟩ (.int .u64 (XS 4))).setCell ⟨w.heap.size, 5, none⟩ (.bool t5)).setCell ⟨w.heap.size, 6, none⟩ (.int .u64 (XS 6))).setCell ⟨w.heap.size, 7, none⟩ (.slice a7 n7 d7)).setCell ⟨w.heap.size, 8, none⟩ (.slice a8 n8 d8)).setCell ⟨w.heap.size, 9, none⟩ (.slice a9 n9 d9)) from (((((((((((Chg.refl (fun x => x = w.heap.size) w7).cell (g := w.heap.size) (i := 0) (.inl rfl) (.int .u64 (XS 0))).cell (g := w.heap.size) (i := 1) (.inl rfl) (.int .u64 (XS 1))).cell (g := w.heap.size) (i := 2) (.inl rfl) (.slice a2 n2 d2)).cell (g := w.heap.size) (i := 3) (.inl rfl) (.bool t3)).cell (g := w.heap.size) (i := 4) (.inl rfl) (.int .u64 (XS 4))).cell (g := w.heap.size) (i := 5) (.inl rfl) (.bool t5)).cell (g := w.heap.size) (i := 6) (.inl rfl) (.int .u64 (XS 6))).cell (g := w.heap.size) (i := 7) (.inl rfl) (.slice a7 n7 d7)).cell (g := w.heap.size) (i := 8) (.inl rfl) (.slice a8 n8 d8)).cell (g := w.heap.size) (i := 9) (.inl rfl) (.slice a9 n9 d9)))
  have KFbel := hid3 (show Below w.heap.size w ((((((((((w7.setCell ⟨w.heap.size, 0, none⟩ (.int .u64 (XS 0))).setCell ⟨w.heap.size, 1, none⟩ (.int .u64 (XS 1))).setCell ⟨w.heap.size, 2, none⟩ (.slice a2 n2 d2)).setCell ⟨w.heap.size, 3, none⟩ (.bool t3)).setCell ⟨w.heap.size, 4, none⟩ (.int .u64 (XS 4))).setCell ⟨w.heap.size, 5, none⟩ (.bool t5)).setCell ⟨w.heap.size, 6, none⟩ (.int .u64 (XS 6))).setCell ⟨w.heap.size, 7, none⟩ (.slice a7 n7 d7)).setCell ⟨w.heap.size, 8, none⟩ (.slice a8 n8 d8)).setCell ⟨w.heap.size, 9, none⟩ (.slice a9 n9 d9)) from ((((((((((BF.out.setCell (p := ⟨w.heap.size, 0, none⟩) (Nat.le_refl _) (.int .u64 (XS 0))).setCell (p := ⟨w.heap.size, 1, none⟩) (Nat.le_refl _) (.int .u64 (XS 1))).setCell (p := ⟨w.heap.size, 2, none⟩) (Nat.le_refl _) (.slice a2 n2 d2)).setCell (p := ⟨w.heap.size, 3, none⟩) (Nat.le_refl _) (.bool t3)).setCell (p := ⟨w.heap.size, 4, none⟩) (Nat.le_refl _) (.int .u64 (XS 4))).setCell (p := ⟨w.heap.size, 5, none⟩) (Nat.le_refl _) (.bool t5)).setCell (p := ⟨w.heap.size, 6, none⟩) (Nat.le_refl _) (.int .u64 (XS 6))).setCell (p := ⟨w.heap.size, 7, none⟩) (Nat.le_refl _) (.slice a7 n7 d7)).setCell (p := ⟨w.heap.size, 8, none⟩) (Nat.le_refl _) (.slice a8 n8 d8)).setCell (p := ⟨w.heap.size, 9, none⟩) (Nat.le_refl _) (.slice a9 n9 d9)))
  have KZblk := hid3 (show Blk ((((((((((w7.setCell ⟨w.heap.size, 0, none⟩ (.int .u64 0)).setCell ⟨w.heap.size, 1, none⟩ (.int .u64 0)).setCell ⟨w.heap.size, 2, none⟩ (.slice none 0 0)).setCell ⟨w.heap.size, 3, none⟩ (.bool false)).setCell ⟨w.heap.size, 4, none⟩ (.int .u64 0)).setCell ⟨w.heap.size, 5, none⟩ (.bool false)).setCell ⟨w.heap.size, 6, none⟩ (.int .u64 0)).setCell ⟨w.heap.size, 7, none⟩ (.slice none 0 0)).setCell ⟨w.heap.size, 8, none⟩ (.slice none 0 0)).setCell ⟨w.heap.size, 9, none⟩ (.slice none 0 0)) w.heap.size [.int .u64 0, .int .u64 0, .slice none 0 0, .bool false, .int .u64 0, .bool false, .int .u64 0, .slice none 0 0, .slice none 0 0, .slice none 0 0] 34 from ((((((((((K1.setCell (i := 0) (.int .u64 0)).setCell (i := 1) (.int .u64 0)).setCell (i := 2) (.slice none 0 0)).setCell (i := 3) (.bool false)).setCell (i := 4) (.int .u64 0)).setCell (i := 5) (.bool false)).setCell (i := 6) (.int .u64 0)).setCell (i := 7) (.slice none 0 0)).setCell (i := 8) (.slice none 0 0)).setCell (i := 9) (.slice none 0 0)))
  have KZchg := hid3 (show Chg (fun x => x = w.heap.size) w7 ((((((((((w7.setCell ⟨w.heap.size, 0, none⟩ (.int .u64 0)).setCell ⟨w.heap.size, 1, none⟩ (.int .u64 0)).setCell ⟨w.heap.size, 2, none⟩ (.slice none 0 0)).setCell ⟨w.heap.size, 3, none⟩ (.bool false)).setCell ⟨w.heap.size, 4, none⟩ (.int .u64 0)).setCell ⟨w.heap.size, 5, none⟩ (.bool false)).setCell ⟨w.heap.size, 6, none⟩ (.int .u64 0)).setCell ⟨w.heap.size, 7, none⟩ (.slice none 0 0)).setCell ⟨w.heap.size, 8, none⟩ (.slice none 0 0)).setCell ⟨w.heap.size, 9, none⟩ (.slice none 0 0)) from (((((((((((Chg.refl (fun x => x = w.heap.size) w7).cell (g := w.heap.size) (i := 0) (.inl rfl) (.int .u64 0)).cell (g := w.heap.size) (i := 1) (.inl rfl) (.int .u64 0)).cell (g := w.heap.size) (i := 2) (.inl rfl) (.slice none 0 0)).cell (g := w.heap.size) (i := 3) (.inl rfl) (.bool false)).cell (g := w.heap.size) (i := 4) (.inl rfl) (.int .u64 0)).cell (g := w.heap.size) (i := 5) (.inl rfl) (.bool false)).cell (g := w.heap.size) (i := 6) (.inl rfl) (.int .u64 0)).cell (g := w.heap.size) (i := 7) (.inl rfl) (.slice none 0 0)).cell (g := w.heap.size) (i := 8) (.inl rfl) (.slice none 0 0)).cell (g := w.heap.size) (i := 9) (.inl rfl) (.slice none 0 0)))
  have KZbel := hid3 (show Below w.heap.size w ((((((((((w7.setCell ⟨w.heap.size, 0, none⟩ (.int .u64 0)).setCell ⟨w.heap.size, 1, none⟩ (.int .u64 0)).setCell ⟨w.heap.size, 2, none⟩ (.slice none 0 0)).setCell ⟨w.heap.size, 3, none⟩ (.bool false)).setCell ⟨w.heap.size, 4, none⟩ (.int .u64 0)).setCell ⟨w.heap.size, 5, none⟩ (.bool false)).setCell ⟨w.heap.size, 6, none⟩ (.int .u64 0)).setCell ⟨w.heap.size, 7, none⟩ (.slice none 0 0)).setCell ⟨w.heap.size, 8, none⟩ (.slice none 0 0)).setCell ⟨w.heap.size, 9, none⟩ (.slice none 0 0)) from ((((((((((BF.out.setCell (p := ⟨w.heap.size, 0, none⟩) (Nat.le_refl _) (.int .u64 0)).setCell (p := ⟨w.heap.size, 1, none⟩) (Nat.le_refl _) (.int .u64 0)).setCell (p := ⟨w.heap.size, 2, none⟩) (Nat.le_refl _) (.slice none 0 0)).setCell (p := ⟨w.heap.size, 3, none⟩) (Nat.le_refl _) (.bool false)).setCell (p := ⟨w.heap.size, 4, none⟩) (Nat.le_refl _) (.int .u64 0)).setCell (p := ⟨w.heap.size, 5, none⟩) (Nat.le_refl _) (.bool false)).setCell (p := ⟨w.heap.size, 6, none⟩) (Nat.le_refl _) (.int .u64 0)).setCell (p := ⟨w.heap.size, 7, none⟩) (Nat.le_refl _) (.slice none 0 0)).setCell (p := ⟨w.heap.size, 8, none⟩) (Nat.le_refl _) (.slice none 0 0)).setCell (p := ⟨w.heap.size, 9, none⟩) (Nat.le_refl _) (.slice none 0 0)))
  clear K1 K2 K3 I6 C6 C7 B7 X7 R6 hl6 F6 c6 HU P1 P3 q0 q1 q2 q3 q4 q5 q6 q7 q8 q9
  obtain ⟨E0, hE0⟩ : ∃ E0, Hid (endE st.1 st.2.1 = E0) := ⟨_, rfl⟩
  rw [hE0.out]
  by_cases hE : E0 = 0
  · subst hE
    go_wp2
    refine bodyPost_ret (ret_rc rfl rfl rfl (ld_Val (KFblk.out.cell (i := 0) rfl) (KFblk.out.cell (i := 1) rfl) (KFblk.out.cell (i := 2) rfl) (KFblk.out.cell (i := 3) rfl) (KFblk.out.cell (i := 4) rfl) (KFblk.out.cell (i := 5) rfl) (KFblk.out.cell (i := 6) rfl) (KFblk.out.cell (i := 7) rfl) (KFblk.out.cell (i := 8) rfl) (KFblk.out.cell (i := 9) rfl))) rfl ?_
    exact ⟨⟨[.int .u64 (XS 0), .int .u64 (XS 1), .slice a2 n2 d2, .bool t3, .int .u64 (XS 4), .bool t5, .int .u64 (XS 6), .slice a7 n7 d7, .slice a8 n8 d8, .slice a9 n9 d9], XS, 0, rfl, rfl, (hF7.out.off KFchg.out.size (fun y hy _ => KFchg.out.same y (by assumption) (fun e => by have e' : y = w.heap.size := e; have := hBw.out; omega))).low (by have := hBw.out; omega), fun _ => ⟨rfl, hXS.out.symm⟩, fun h => absurd hE0.out h⟩, KFbel.out⟩
  · have hE1 : ¬ (E0 = 0) := hE
    go_wp2
    refine bodyPost_ret (ret_rc rfl rfl rfl (ld_Val (KZblk.out.cell (i := 0) rfl) (KZblk.out.cell (i := 1) rfl) (KZblk.out.cell (i := 2) rfl) (KZblk.out.cell (i := 3) rfl) (KZblk.out.cell (i := 4) rfl) (KZblk.out.cell (i := 5) rfl) (KZblk.out.cell (i := 6) rfl) (KZblk.out.cell (i := 7) rfl) (KZblk.out.cell (i := 8) rfl) (KZblk.out.cell (i := 9) rfl))) rfl ?_
    exact ⟨⟨[.int .u64 0, .int .u64 0, .slice none 0 0, .bool false, .int .u64 0, .bool false, .int .u64 0, .slice none 0 0, .slice none 0 0, .slice none 0 0], fun _ => 0, 80, rfl, rfl, (fun o => match o with | 0 => ⟨fun _ => rfl, fun h => absurd h (by decide), fun h => absurd h (by decide)⟩ | 1 => ⟨fun _ => rfl, fun h => absurd h (by decide), fun h => absurd h (by decide)⟩ | 2 => ⟨fun h => absurd h (by decide), fun h => absurd h (by decide), fun _ => ⟨none, 0, 0, rfl, natW_nil _ _, by decide⟩⟩ | 3 => ⟨fun h => absurd h (by decide), fun _ => ⟨false, rfl, rfl⟩, fun h => absurd h (by decide)⟩ | 4 => ⟨fun _ => rfl, fun h => absurd h (by decide), fun h => absurd h (by decide)⟩ | 5 => ⟨fun h => absurd h (by decide), fun _ => ⟨false, rfl, rfl⟩, fun h => absurd h (by decide)⟩ | 6 => ⟨fun _ => rfl, fun h => absurd h (by decide), fun h => absurd h (by decide)⟩ | 7 => ⟨fun h => absurd h (by decide), fun h => absurd h (by decide), fun _ => ⟨none, 0, 0, rfl, natW_nil _ _, by decide⟩⟩ | 8 => ⟨fun h => absurd h (by decide), fun h => absurd h (by decide), fun _ => ⟨none, 0, 0, rfl, natW_nil _ _, by decide⟩⟩ | 9 => ⟨fun h => absurd h (by decide), fun h => absurd h (by decide), fun _ => ⟨none, 0, 0, rfl, natW_nil _ _, by decide⟩⟩ | k + 10 => ⟨fun h => absurd h (by simp [kd_Val]), fun h => absurd h (by simp [kd_Val]), fun h => absurd h (by simp [kd_Val])⟩), fun h => absurd (hE0.out.symm.trans h) hE1, fun _ => ⟨rfl, rfl⟩⟩, KZbel.out⟩
theorem ld_Delegation {w : World} {g : Nat} {y0 y1 y2 : Value} (c0 : w.cell? ⟨g, 0, none⟩ = some y0) (c1 : w.cell? ⟨g, 1, none⟩ = some y1) (c2 : w.cell? ⟨g, 2, none⟩ = some y2) : (loadVar 36 ⟨g, 0, none⟩).run Tryz.prog w = .ok (.agg #[y0, y1, y2]) w := by go_simp
set_option maxHeartbeats 4000000 in
set_option maxRecDepth 100000 in
theorem read_Delegation {w : World} {bb n c : Nat} {ao : Option Addr} {l : List Int} (A : ByA w bb ao n c l) (hn : n ≤ 1000000000) (hl : l.length = n) :
    Calls Tryz.prog 148 #[.slice ao n c, .func (.func 57) #[] #[]] w (FinR w kd_Delegation 3 mkA (thr rnx [(2, 0), (0, 1), (2, 2)] (0, l, fun _ => (0 : Int)))) := by
  have b1 := below_alloc w (.cells #[.slice none 0 0, .int .u64 0, .slice none 0 0] 36)
  have b2 := below_alloc (w.alloc (.cells #[.slice none 0 0, .int .u64 0, .slice none 0 0] 36)) (.cells #[.slice none 0 0, .int .u64 0, .slice none 0 0] 36)
  have b3 := below_alloc ((w.alloc (.cells #[.slice none 0 0, .int .u64 0, .slice none 0 0] 36)).alloc (.cells #[.slice none 0 0, .int .u64 0, .slice none 0 0] 36)) (.cells #[.slice none 0 0, .int .u64 0, .slice none 0 0] 36)
  have z1 := size_al w (.cells #[.slice none 0 0, .int .u64 0, .slice none 0 0] 36)
  have z2 := size_al (w.alloc (.cells #[.slice none 0 0, .int .u64 0, .slice none 0 0] 36)) (.cells #[.slice none 0 0, .int .u64 0, .slice none 0 0] 36)
  have z3 := size_al ((w.alloc (.cells #[.slice none 0 0, .int .u64 0, .slice none 0 0] 36)).alloc (.cells #[.slice none 0 0, .int .u64 0, .slice none 0 0] 36)) (.cells #[.slice none 0 0, .int .u64 0, .slice none 0 0] 36)
  have y1 := ((blk_new w [.slice none 0 0, .int .u64 0, .slice none 0 0] 36).keep b2).keep b3
  have y2 := (blk_new (w.alloc (.cells #[.slice none 0 0, .int .u64 0, .slice none 0 0] 36)) [.slice none 0 0, .int .u64 0, .slice none 0 0] 36).keep b3
  have y3 := blk_new ((w.alloc (.cells #[.slice none 0 0, .int .u64 0, .slice none 0 0] 36)).alloc (.cells #[.slice none 0 0, .int .u64 0, .slice none 0 0] 36)) [.slice none 0 0, .int .u64 0, .slice none 0 0] 36
  rw [z2, z1] at y3
  rw [z1] at y2
  rw [z2, z1] at z3
  obtain ⟨W3, hW3⟩ : ∃ W3, Hid ((((w.alloc (.cells #[.slice none 0 0, .int .u64 0, .slice none 0 0] 36)).alloc (.cells #[.slice none 0 0, .int .u64 0, .slice none 0 0] 36)).alloc (.cells #[.slice none 0 0, .int .u64 0, .slice none 0 0] 36)) = W3) := ⟨_, rfl⟩
  have BB := joinB (joinB b1 b2) b3
  rw [hW3.out] at BB y1 y2 y3 z3
  have HN := hid3 (rdNew (A.keep BB) (by omega))
  have Y1 := hid3 y1
  have Y2 := hid3 y2
  have Y3 := hid3 y3
  have Z3 := hid3 z3
  have HBB := hid3 BB
  have HL := hid3 hl
  clear b1 b2 b3 z1 z2 z3 y1 y2 y3 BB A hl
  obtain ⟨st, hst⟩ : ∃ st, Hid (thr rnx [(2, 0), (0, 1), (2, 2)] (0, l, fun _ => (0 : Int)) = st) := ⟨_, rfl⟩
  have hsl : st.2.1.length ≤ n := by have h := thr_len [(2, 0), (0, 1), (2, 2)] (0, l, fun _ => (0 : Int)); rw [hst.out] at h; rw [HL.out] at h; exact h
  rw [hst.out]
  go_enter Tryz.func148, Tryz.ntmps148
  go_wp2_with fail
  rw [hW3.out]
  refine HN.out.mono ?_
  rintro e' w4 ⟨g, b', rfl, hg, hb', X4, B4⟩
  have b5 := below_alloc w4 (.cells #[.pointer (some ⟨g, 0, none⟩)] 198)
  have v5 := blk_new w4 [.pointer (some ⟨g, 0, none⟩)] 198
  have z5 := size_al w4 (.cells #[.pointer (some ⟨g, 0, none⟩)] 198)
  obtain ⟨W5, hW5⟩ : ∃ W5, Hid (w4.alloc (.cells #[.pointer (some ⟨g, 0, none⟩)] 198) = W5) := ⟨_, rfl⟩
  rw [hW5.out] at b5 v5 z5
  have hgl := X4.lt
  have hz3 := Z3.out
  have hz4 := B4.size
  have F0 : FldR W5 W5.heap.size kd_Delegation [.slice none 0 0, .int .u64 0, .slice none 0 0] (fun _ => 0) := fun o => match o with
    | 0 => ⟨fun h => absurd h (by decide), fun h => absurd h (by decide), fun _ => ⟨none, 0, 0, rfl, natW_nil _ _, by decide⟩⟩
    | 1 => ⟨fun _ => rfl, fun h => absurd h (by decide), fun h => absurd h (by decide)⟩
    | 2 => ⟨fun h => absurd h (by decide), fun h => absurd h (by decide), fun _ => ⟨none, 0, 0, rfl, natW_nil _ _, by decide⟩⟩
    | k + 3 => ⟨fun h => absurd h (by simp [kd_Delegation]), fun h => absurd h (by simp [kd_Delegation]), fun h => absurd h (by simp [kd_Delegation])⟩
  have U := ofDelegation_any (rhc_Delegation (w0 := w) (B := W5.heap.size) (g := g) (b := b') (vb := w4.heap.size) (rb := w.heap.size + 1) (T := 36) (vt := 198)) (s := (0, l, fun _ => (0 : Int))) (w := W5) ⟨⟨X4.keep b5, v5, ⟨_, rfl, (Y2.out.keep B4).keep b5, F0⟩, joinB (joinB HBB.out B4) b5, by omega, by omega, by omega, by omega, by omega, by omega, by omega, by omega⟩, Nat.le_refl _⟩ (by simp [kd_Delegation]) trivial
  rw [hst.out] at U
  have HU := hid3 U
  have P1 := hid3 ((Y1.out.keep B4).keep b5)
  have P3 := hid3 ((Y3.out.keep B4).keep b5)
  have HS := hid3 (show w.heap.size ≠ g ∧ w.heap.size + 1 + 1 ≠ g ∧ w.heap.size + 1 + 1 ≠ w.heap.size + 1 ∧ w.heap.size ≠ w.heap.size + 1 ∧ w.heap.size ≤ W5.heap.size ∧ w.heap.size ≤ g from ⟨by omega, by omega, by omega, by omega, by omega, by omega⟩)
  clear U b5 v5 z5 hgl hz3 hz4 F0 X4 B4 hg hb' HN Y1 Y2 Y3
  go_wp2_with fail
  rw [hW5.out]
  refine HU.out.mono ?_
  rintro e' w6 ⟨rfl, ⟨I6, hB6⟩, C6⟩
  have c6 := I6.var.cell (i := 0) rfl
  go_wp2_with fail
  refine (rdEnd I6.rd (by omega)).mono ?_
  rintro e' w7 ⟨rfl, X7, B7⟩
  obtain ⟨cs6, hl6, R6, F6⟩ := I6.rc
  obtain ⟨XS, hXS⟩ : ∃ XS, Hid (st.2.2 = XS) := ⟨_, rfl⟩
  rw [hXS.out] at F6
  have hF6 := hid3 F6
  obtain ⟨a0, n0, d0, q0, -, -⟩ := (F6 0).2.2 rfl
  have q1 := (F6 1).1 rfl
  obtain ⟨a2, n2, d2, q2, -, -⟩ := (F6 2).2.2 rfl
  have ecs : cs6 = [.slice a0 n0 d0, .int .u64 (XS 1), .slice a2 n2 d2] := by
    apply List.ext_getElem?
    intro i
    match i with
    | 0 => rw [q0]; rfl
    | 1 => rw [q1]; rfl
    | 2 => rw [q2]; rfl
    | k + 3 => rw [List.getElem?_eq_none (by omega), List.getElem?_eq_none (by simp)]
  subst ecs
  have C7 := But.chg B7
  have K1 := (P1.out.chg C6 (fun h => h.elim HS.out.1 HS.out.2.2.2.1)).chg C7 HS.out.1
  have K3 := (P3.out.chg C6 (fun h => h.elim HS.out.2.1 HS.out.2.2.1)).chg C7 HS.out.2.1
  have K2 := R6.chg C7 I6.s1
  have BF := hid3 (B7.below I6.bel HS.out.2.2.2.2.2 (Nat.le_refl _))
  have hF7 := hid3 ((hF6.out.off (w' := w7) B7.size (fun y hy hy2 => B7.block y hy2 (by have := I6.g1; omega))))
  have hBw := hid3 (show w.heap.size < W5.heap.size ∧ w.heap.size < w7.heap.size from ⟨by have := I6.r1; omega, K1.lt⟩)
  have u0 := K1.cell (i := 0) rfl
  have f0 := K1.free 0
  have v0 := K2.cell (i := 0) rfl
  have o0 := K3.cell (i := 0) rfl
  have u1 := K1.cell (i := 1) rfl
  have f1 := K1.free 1
  have v1 := K2.cell (i := 1) rfl
  have o1 := K3.cell (i := 1) rfl
  have u2 := K1.cell (i := 2) rfl
  have f2 := K1.free 2
  have v2 := K2.cell (i := 2) rfl
  have o2 := K3.cell (i := 2) rfl
  have KFblk := hid3 (show Blk (((w7.setCell ⟨w.heap.size, 0, none⟩ (.slice a0 n0 d0)).setCell ⟨w.heap.size, 1, none⟩ (.int .u64 (XS 1))).setCell ⟨w.heap.size, 2, none⟩ (.slice a2 n2 d2)) w.heap.size [.slice a0 n0 d0, .int .u64 (XS 1), .slice a2 n2 d2] 36 from (((K1.setCell (i := 0) (.slice a0 n0 d0)).setCell (i := 1) (.int .u64 (XS 1))).setCell (i := 2) (.slice a2 n2 d2)))
  have KFchg := hid3 (show Chg (fun x => x = w.heap.size) w7 (((w7.setCell ⟨w.heap.size, 0, none⟩ (.slice a0 n0 d0)).setCell ⟨w.heap.size, 1, none⟩ (.int .u64 (XS 1))).setCell ⟨w.heap.size, 2, none⟩ (.slice a2 n2 d2)) from ((((Chg.refl (fun x => x = w.heap.size) w7).cell (g := w.heap.size) (i := 0) (.inl rfl) (.slice a0 n0 d0)).cell (g := w.heap.size) (i := 1) (.inl rfl) (.int .u64 (XS 1))).cell (g := w.heap.size) (i := 2) (.inl rfl) (.slice a2 n2 d2)))
  have KFbel := hid3 (show Below w.heap.size w (((w7.setCell ⟨w.heap.size, 0, none⟩ (.slice a0 n0 d0)).setCell ⟨w.heap.size, 1, none⟩ (.int .u64 (XS 1))).setCell ⟨w.heap.size, 2, none⟩ (.slice a2 n2 d2)) from (((BF.out.setCell (p := ⟨w.heap.size, 0, none⟩) (Nat.le_refl _) (.slice a0 n0 d0)).setCell (p := ⟨w.heap.size, 1, none⟩) (Nat.le_refl _) (.int .u64 (XS 1))).setCell (p := ⟨w.heap.size, 2, none⟩) (Nat.le_refl _) (.slice a2 n2 d2)))
  have KZblk := hid3 (show Blk (((w7.setCell ⟨w.heap.size, 0, none⟩ (.slice none 0 0)).setCell ⟨w.heap.size, 1, none⟩ (.int .u64 0)).setCell ⟨w.heap.size, 2, none⟩ (.slice none 0 0)) w.heap.size [.slice none 0 0, .int .u64 0, .slice none 0 0] 36 from (((K1.setCell (i := 0) (.slice none 0 0)).setCell (i := 1) (.int .u64 0)).setCell (i := 2) (.slice none 0 0)))
  have KZchg := hid3 (show Chg (fun x => x = w.heap.size) w7 (((w7.setCell ⟨w.heap.size, 0, none⟩ (.slice none 0 0)).setCell ⟨w.heap.size, 1, none⟩ (.int .u64 0)).setCell ⟨w.heap.size, 2, none⟩ (.slice none 0 0)) from ((((Chg.refl (fun x => x = w.heap.size) w7).cell (g := w.heap.size) (i := 0) (.inl rfl) (.slice none 0 0)).cell (g := w.heap.size) (i := 1) (.inl rfl) (.int .u64 0)).cell (g := w.heap.size) (i := 2) (.inl rfl) (.slice none 0 0)))
  have KZbel := hid3 (show Below w.heap.size w (((w7.setCell ⟨w.heap.size, 0, none⟩ (.slice none 0 0)).setCell ⟨w.heap.size, 1, none⟩ (.int .u64 0)).setCell ⟨w.heap.size, 2, none⟩ (.slice none 0 0)) from (((BF.out.setCell (p := ⟨w.heap.size, 0, none⟩) (Nat.le_refl _) (.slice none 0 0)).setCell (p := ⟨w.heap.size, 1, none⟩) (Nat.le_refl _) (.int .u64 0)).setCell (p := ⟨w.heap.size, 2, none⟩) (Nat.le_refl _) (.slice none 0 0)))
  clear K1 K2 K3 I6 C6 C7 B7 X7 R6 hl6 F6 c6 HU P1 P3 q0 q1 q2
  obtain ⟨E0, hE0⟩ : ∃ E0, Hid (endE st.1 st.2.1 = E0) := ⟨_, rfl⟩
  rw [hE0.out]
  by_cases hE : E0 = 0
  · subst hE
    go_wp2
    refine bodyPost_ret (ret_rc rfl rfl rfl (ld_Delegation (KFblk.out.cell (i := 0) rfl) (KFblk.out.cell (i := 1) rfl) (KFblk.out.cell (i := 2) rfl))) rfl ?_
    exact ⟨⟨[.slice a0 n0 d0, .int .u64 (XS 1), .slice a2 n2 d2], XS, 0, rfl, rfl, (hF7.out.off KFchg.out.size (fun y hy _ => KFchg.out.same y (by assumption) (fun e => by have e' : y = w.heap.size := e; have := hBw.out; omega))).low (by have := hBw.out; omega), fun _ => ⟨rfl, hXS.out.symm⟩, fun h => absurd hE0.out h⟩, KFbel.out⟩
  · have hE1 : ¬ (E0 = 0) := hE
    go_wp2
    refine bodyPost_ret (ret_rc rfl rfl rfl (ld_Delegation (KZblk.out.cell (i := 0) rfl) (KZblk.out.cell (i := 1) rfl) (KZblk.out.cell (i := 2) rfl))) rfl ?_
    exact ⟨⟨[.slice none 0 0, .int .u64 0, .slice none 0 0], fun _ => 0, 80, rfl, rfl, (fun o => match o with | 0 => ⟨fun h => absurd h (by decide), fun h => absurd h (by decide), fun _ => ⟨none, 0, 0, rfl, natW_nil _ _, by decide⟩⟩ | 1 => ⟨fun _ => rfl, fun h => absurd h (by decide), fun h => absurd h (by decide)⟩ | 2 => ⟨fun h => absurd h (by decide), fun h => absurd h (by decide), fun _ => ⟨none, 0, 0, rfl, natW_nil _ _, by decide⟩⟩ | k + 3 => ⟨fun h => absurd h (by simp [kd_Delegation]), fun h => absurd h (by simp [kd_Delegation]), fun h => absurd h (by simp [kd_Delegation])⟩), fun h => absurd (hE0.out.symm.trans h) hE1, fun _ => ⟨rfl, rfl⟩⟩, KZbel.out⟩
theorem ld_History {w : World} {g : Nat} {y0 y1 : Value} (c0 : w.cell? ⟨g, 0, none⟩ = some y0) (c1 : w.cell? ⟨g, 1, none⟩ = some y1) : (loadVar 38 ⟨g, 0, none⟩).run Tryz.prog w = .ok (.agg #[y0, y1]) w := by go_simp
set_option maxHeartbeats 4000000 in
set_option maxRecDepth 100000 in
theorem read_History {w : World} {bb n c : Nat} {ao : Option Addr} {l : List Int} (A : ByA w bb ao n c l) (hn : n ≤ 1000000000) (hl : l.length = n) :
    Calls Tryz.prog 96 #[.slice ao n c, .func (.func 59) #[] #[]] w (FinR w kd_History 2 mkA (thr rnx [(2, 0), (0, 1)] (0, l, fun _ => (0 : Int)))) := by
  have b1 := below_alloc w (.cells #[.slice none 0 0, .int .u64 0] 38)
  have b2 := below_alloc (w.alloc (.cells #[.slice none 0 0, .int .u64 0] 38)) (.cells #[.slice none 0 0, .int .u64 0] 38)
  have b3 := below_alloc ((w.alloc (.cells #[.slice none 0 0, .int .u64 0] 38)).alloc (.cells #[.slice none 0 0, .int .u64 0] 38)) (.cells #[.slice none 0 0, .int .u64 0] 38)
  have z1 := size_al w (.cells #[.slice none 0 0, .int .u64 0] 38)
  have z2 := size_al (w.alloc (.cells #[.slice none 0 0, .int .u64 0] 38)) (.cells #[.slice none 0 0, .int .u64 0] 38)
  have z3 := size_al ((w.alloc (.cells #[.slice none 0 0, .int .u64 0] 38)).alloc (.cells #[.slice none 0 0, .int .u64 0] 38)) (.cells #[.slice none 0 0, .int .u64 0] 38)
  have y1 := ((blk_new w [.slice none 0 0, .int .u64 0] 38).keep b2).keep b3
  have y2 := (blk_new (w.alloc (.cells #[.slice none 0 0, .int .u64 0] 38)) [.slice none 0 0, .int .u64 0] 38).keep b3
  have y3 := blk_new ((w.alloc (.cells #[.slice none 0 0, .int .u64 0] 38)).alloc (.cells #[.slice none 0 0, .int .u64 0] 38)) [.slice none 0 0, .int .u64 0] 38
  rw [z2, z1] at y3
  rw [z1] at y2
  rw [z2, z1] at z3
  obtain ⟨W3, hW3⟩ : ∃ W3, Hid ((((w.alloc (.cells #[.slice none 0 0, .int .u64 0] 38)).alloc (.cells #[.slice none 0 0, .int .u64 0] 38)).alloc (.cells #[.slice none 0 0, .int .u64 0] 38)) = W3) := ⟨_, rfl⟩
  have BB := joinB (joinB b1 b2) b3
  rw [hW3.out] at BB y1 y2 y3 z3
  have HN := hid3 (rdNew (A.keep BB) (by omega))
  have Y1 := hid3 y1
  have Y2 := hid3 y2
  have Y3 := hid3 y3
  have Z3 := hid3 z3
  have HBB := hid3 BB
  have HL := hid3 hl
  clear b1 b2 b3 z1 z2 z3 y1 y2 y3 BB A hl
  obtain ⟨st, hst⟩ : ∃ st, Hid (thr rnx [(2, 0), (0, 1)] (0, l, fun _ => (0 : Int)) = st) := ⟨_, rfl⟩
  have hsl : st.2.1.length ≤ n := by have h := thr_len [(2, 0), (0, 1)] (0, l, fun _ => (0 : Int)); rw [hst.out] at h; rw [HL.out] at h; exact h
  rw [hst.out]
  go_enter Tryz.func96, Tryz.ntmps96
  go_wp2_with fail
  rw [hW3.out]
  refine HN.out.mono ?_
  rintro e' w4 ⟨g, b', rfl, hg, hb', X4, B4⟩
  have b5 := below_alloc w4 (.cells #[.pointer (some ⟨g, 0, none⟩)] 198)
  have v5 := blk_new w4 [.pointer (some ⟨g, 0, none⟩)] 198
  have z5 := size_al w4 (.cells #[.pointer (some ⟨g, 0, none⟩)] 198)
  obtain ⟨W5, hW5⟩ : ∃ W5, Hid (w4.alloc (.cells #[.pointer (some ⟨g, 0, none⟩)] 198) = W5) := ⟨_, rfl⟩
  rw [hW5.out] at b5 v5 z5
  have hgl := X4.lt
  have hz3 := Z3.out
  have hz4 := B4.size
  have F0 : FldR W5 W5.heap.size kd_History [.slice none 0 0, .int .u64 0] (fun _ => 0) := fun o => match o with
    | 0 => ⟨fun h => absurd h (by decide), fun h => absurd h (by decide), fun _ => ⟨none, 0, 0, rfl, natW_nil _ _, by decide⟩⟩
    | 1 => ⟨fun _ => rfl, fun h => absurd h (by decide), fun h => absurd h (by decide)⟩
    | k + 2 => ⟨fun h => absurd h (by simp [kd_History]), fun h => absurd h (by simp [kd_History]), fun h => absurd h (by simp [kd_History])⟩
  have U := ofHistory_any (rhc_History (w0 := w) (B := W5.heap.size) (g := g) (b := b') (vb := w4.heap.size) (rb := w.heap.size + 1) (T := 38) (vt := 198)) (s := (0, l, fun _ => (0 : Int))) (w := W5) ⟨⟨X4.keep b5, v5, ⟨_, rfl, (Y2.out.keep B4).keep b5, F0⟩, joinB (joinB HBB.out B4) b5, by omega, by omega, by omega, by omega, by omega, by omega, by omega, by omega⟩, Nat.le_refl _⟩ (by simp [kd_History]) trivial
  rw [hst.out] at U
  have HU := hid3 U
  have P1 := hid3 ((Y1.out.keep B4).keep b5)
  have P3 := hid3 ((Y3.out.keep B4).keep b5)
  have HS := hid3 (show w.heap.size ≠ g ∧ w.heap.size + 1 + 1 ≠ g ∧ w.heap.size + 1 + 1 ≠ w.heap.size + 1 ∧ w.heap.size ≠ w.heap.size + 1 ∧ w.heap.size ≤ W5.heap.size ∧ w.heap.size ≤ g from ⟨by omega, by omega, by omega, by omega, by omega, by omega⟩)
  clear U b5 v5 z5 hgl hz3 hz4 F0 X4 B4 hg hb' HN Y1 Y2 Y3
  go_wp2_with fail
  rw [hW5.out]
  refine HU.out.mono ?_
  rintro e' w6 ⟨rfl, ⟨I6, hB6⟩, C6⟩
  have c6 := I6.var.cell (i := 0) rfl
  go_wp2_with fail
  refine (rdEnd I6.rd (by omega)).mono ?_
  rintro e' w7 ⟨rfl, X7, B7⟩
  obtain ⟨cs6, hl6, R6, F6⟩ := I6.rc
  obtain ⟨XS, hXS⟩ : ∃ XS, Hid (st.2.2 = XS) := ⟨_, rfl⟩
  rw [hXS.out] at F6
  have hF6 := hid3 F6
  obtain ⟨a0, n0, d0, q0, -, -⟩ := (F6 0).2.2 rfl
  have q1 := (F6 1).1 rfl
  have ecs : cs6 = [.slice a0 n0 d0, .int .u64 (XS 1)] := by
    apply List.ext_getElem?
    intro i
    match i with
    | 0 => rw [q0]; rfl
    | 1 => rw [q1]; rfl
    | k + 2 => rw [List.getElem?_eq_none (by omega), List.getElem?_eq_none (by simp)]
  subst ecs
  have C7 := But.chg B7
  have K1 := (P1.out.chg C6 (fun h => h.elim HS.out.1 HS.out.2.2.2.1)).chg C7 HS.out.1
  have K3 := (P3.out.chg C6 (fun h => h.elim HS.out.2.1 HS.out.2.2.1)).chg C7 HS.out.2.1
  have K2 := R6.chg C7 I6.s1
  have BF := hid3 (B7.below I6.bel HS.out.2.2.2.2.2 (Nat.le_refl _))
  have hF7 := hid3 ((hF6.out.off (w' := w7) B7.size (fun y hy hy2 => B7.block y hy2 (by have := I6.g1; omega))))
  have hBw := hid3 (show w.heap.size < W5.heap.size ∧ w.heap.size < w7.heap.size from ⟨by have := I6.r1; omega, K1.lt⟩)
  have u0 := K1.cell (i := 0) rfl
  have f0 := K1.free 0
  have v0 := K2.cell (i := 0) rfl
  have o0 := K3.cell (i := 0) rfl
  have u1 := K1.cell (i := 1) rfl
  have f1 := K1.free 1
  have v1 := K2.cell (i := 1) rfl
  have o1 := K3.cell (i := 1) rfl
  have KFblk := hid3 (show Blk ((w7.setCell ⟨w.heap.size, 0, none⟩ (.slice a0 n0 d0)).setCell ⟨w.heap.size, 1, none⟩ (.int .u64 (XS 1))) w.heap.size [.slice a0 n0 d0, .int .u64 (XS 1)] 38 from ((K1.setCell (i := 0) (.slice a0 n0 d0)).setCell (i := 1) (.int .u64 (XS 1))))
  have KFchg := hid3 (show Chg (fun x => x = w.heap.size) w7 ((w7.setCell ⟨w.heap.size, 0, none⟩ (.slice a0 n0 d0)).setCell ⟨w.heap.size, 1, none⟩ (.int .u64 (XS 1))) from (((Chg.refl (fun x => x = w.heap.size) w7).cell (g := w.heap.size) (i := 0) (.inl rfl) (.slice a0 n0 d0)).cell (g := w.heap.size) (i := 1) (.inl rfl) (.int .u64 (XS 1))))
  have KFbel := hid3 (show Below w.heap.size w ((w7.setCell ⟨w.heap.size, 0, none⟩ (.slice a0 n0 d0)).setCell ⟨w.heap.size, 1, none⟩ (.int .u64 (XS 1))) from ((BF.out.setCell (p := ⟨w.heap.size, 0, none⟩) (Nat.le_refl _) (.slice a0 n0 d0)).setCell (p := ⟨w.heap.size, 1, none⟩) (Nat.le_refl _) (.int .u64 (XS 1))))
  have KZblk := hid3 (show Blk ((w7.setCell ⟨w.heap.size, 0, none⟩ (.slice none 0 0)).setCell ⟨w.heap.size, 1, none⟩ (.int .u64 0)) w.heap.size [.slice none 0 0, .int .u64 0] 38 from ((K1.setCell (i := 0) (.slice none 0 0)).setCell (i := 1) (.int .u64 0)))
  have KZchg := hid3 (show Chg (fun x => x = w.heap.size) w7 ((w7.setCell ⟨w.heap.size, 0, none⟩ (.slice none 0 0)).setCell ⟨w.heap.size, 1, none⟩ (.int .u64 0)) from (((Chg.refl (fun x => x = w.heap.size) w7).cell (g := w.heap.size) (i := 0) (.inl rfl) (.slice none 0 0)).cell (g := w.heap.size) (i := 1) (.inl rfl) (.int .u64 0)))
  have KZbel := hid3 (show Below w.heap.size w ((w7.setCell ⟨w.heap.size, 0, none⟩ (.slice none 0 0)).setCell ⟨w.heap.size, 1, none⟩ (.int .u64 0)) from ((BF.out.setCell (p := ⟨w.heap.size, 0, none⟩) (Nat.le_refl _) (.slice none 0 0)).setCell (p := ⟨w.heap.size, 1, none⟩) (Nat.le_refl _) (.int .u64 0)))
  clear K1 K2 K3 I6 C6 C7 B7 X7 R6 hl6 F6 c6 HU P1 P3 q0 q1
  obtain ⟨E0, hE0⟩ : ∃ E0, Hid (endE st.1 st.2.1 = E0) := ⟨_, rfl⟩
  rw [hE0.out]
  by_cases hE : E0 = 0
  · subst hE
    go_wp2
    refine bodyPost_ret (ret_rc rfl rfl rfl (ld_History (KFblk.out.cell (i := 0) rfl) (KFblk.out.cell (i := 1) rfl))) rfl ?_
    exact ⟨⟨[.slice a0 n0 d0, .int .u64 (XS 1)], XS, 0, rfl, rfl, (hF7.out.off KFchg.out.size (fun y hy _ => KFchg.out.same y (by assumption) (fun e => by have e' : y = w.heap.size := e; have := hBw.out; omega))).low (by have := hBw.out; omega), fun _ => ⟨rfl, hXS.out.symm⟩, fun h => absurd hE0.out h⟩, KFbel.out⟩
  · have hE1 : ¬ (E0 = 0) := hE
    go_wp2
    refine bodyPost_ret (ret_rc rfl rfl rfl (ld_History (KZblk.out.cell (i := 0) rfl) (KZblk.out.cell (i := 1) rfl))) rfl ?_
    exact ⟨⟨[.slice none 0 0, .int .u64 0], fun _ => 0, 80, rfl, rfl, (fun o => match o with | 0 => ⟨fun h => absurd h (by decide), fun h => absurd h (by decide), fun _ => ⟨none, 0, 0, rfl, natW_nil _ _, by decide⟩⟩ | 1 => ⟨fun _ => rfl, fun h => absurd h (by decide), fun h => absurd h (by decide)⟩ | k + 2 => ⟨fun h => absurd h (by simp [kd_History]), fun h => absurd h (by simp [kd_History]), fun h => absurd h (by simp [kd_History])⟩), fun h => absurd (hE0.out.symm.trans h) hE1, fun _ => ⟨rfl, rfl⟩⟩, KZbel.out⟩
theorem ld_Cut {w : World} {g : Nat} {y0 y1 : Value} (c0 : w.cell? ⟨g, 0, none⟩ = some y0) (c1 : w.cell? ⟨g, 1, none⟩ = some y1) : (loadVar 40 ⟨g, 0, none⟩).run Tryz.prog w = .ok (.agg #[y0, y1]) w := by go_simp
set_option maxHeartbeats 4000000 in
set_option maxRecDepth 100000 in
theorem read_Cut {w : World} {bb n c : Nat} {ao : Option Addr} {l : List Int} (A : ByA w bb ao n c l) (hn : n ≤ 1000000000) (hl : l.length = n) :
    Calls Tryz.prog 93 #[.slice ao n c, .func (.func 61) #[] #[]] w (FinR w kd_Cut 2 mkA (thr rnx [(0, 0), (0, 1)] (0, l, fun _ => (0 : Int)))) := by
  have b1 := below_alloc w (.cells #[.int .u64 0, .int .u64 0] 40)
  have b2 := below_alloc (w.alloc (.cells #[.int .u64 0, .int .u64 0] 40)) (.cells #[.int .u64 0, .int .u64 0] 40)
  have b3 := below_alloc ((w.alloc (.cells #[.int .u64 0, .int .u64 0] 40)).alloc (.cells #[.int .u64 0, .int .u64 0] 40)) (.cells #[.int .u64 0, .int .u64 0] 40)
  have z1 := size_al w (.cells #[.int .u64 0, .int .u64 0] 40)
  have z2 := size_al (w.alloc (.cells #[.int .u64 0, .int .u64 0] 40)) (.cells #[.int .u64 0, .int .u64 0] 40)
  have z3 := size_al ((w.alloc (.cells #[.int .u64 0, .int .u64 0] 40)).alloc (.cells #[.int .u64 0, .int .u64 0] 40)) (.cells #[.int .u64 0, .int .u64 0] 40)
  have y1 := ((blk_new w [.int .u64 0, .int .u64 0] 40).keep b2).keep b3
  have y2 := (blk_new (w.alloc (.cells #[.int .u64 0, .int .u64 0] 40)) [.int .u64 0, .int .u64 0] 40).keep b3
  have y3 := blk_new ((w.alloc (.cells #[.int .u64 0, .int .u64 0] 40)).alloc (.cells #[.int .u64 0, .int .u64 0] 40)) [.int .u64 0, .int .u64 0] 40
  rw [z2, z1] at y3
  rw [z1] at y2
  rw [z2, z1] at z3
  obtain ⟨W3, hW3⟩ : ∃ W3, Hid ((((w.alloc (.cells #[.int .u64 0, .int .u64 0] 40)).alloc (.cells #[.int .u64 0, .int .u64 0] 40)).alloc (.cells #[.int .u64 0, .int .u64 0] 40)) = W3) := ⟨_, rfl⟩
  have BB := joinB (joinB b1 b2) b3
  rw [hW3.out] at BB y1 y2 y3 z3
  have HN := hid3 (rdNew (A.keep BB) (by omega))
  have Y1 := hid3 y1
  have Y2 := hid3 y2
  have Y3 := hid3 y3
  have Z3 := hid3 z3
  have HBB := hid3 BB
  have HL := hid3 hl
  clear b1 b2 b3 z1 z2 z3 y1 y2 y3 BB A hl
  obtain ⟨st, hst⟩ : ∃ st, Hid (thr rnx [(0, 0), (0, 1)] (0, l, fun _ => (0 : Int)) = st) := ⟨_, rfl⟩
  have hsl : st.2.1.length ≤ n := by have h := thr_len [(0, 0), (0, 1)] (0, l, fun _ => (0 : Int)); rw [hst.out] at h; rw [HL.out] at h; exact h
  rw [hst.out]
  go_enter Tryz.func93, Tryz.ntmps93
  go_wp2_with fail
  rw [hW3.out]
  refine HN.out.mono ?_
  rintro e' w4 ⟨g, b', rfl, hg, hb', X4, B4⟩
  have b5 := below_alloc w4 (.cells #[.pointer (some ⟨g, 0, none⟩)] 198)
  have v5 := blk_new w4 [.pointer (some ⟨g, 0, none⟩)] 198
  have z5 := size_al w4 (.cells #[.pointer (some ⟨g, 0, none⟩)] 198)
  obtain ⟨W5, hW5⟩ : ∃ W5, Hid (w4.alloc (.cells #[.pointer (some ⟨g, 0, none⟩)] 198) = W5) := ⟨_, rfl⟩
  rw [hW5.out] at b5 v5 z5
  have hgl := X4.lt
  have hz3 := Z3.out
  have hz4 := B4.size
  have F0 : FldR W5 W5.heap.size kd_Cut [.int .u64 0, .int .u64 0] (fun _ => 0) := fun o => match o with
    | 0 => ⟨fun _ => rfl, fun h => absurd h (by decide), fun h => absurd h (by decide)⟩
    | 1 => ⟨fun _ => rfl, fun h => absurd h (by decide), fun h => absurd h (by decide)⟩
    | k + 2 => ⟨fun h => absurd h (by simp [kd_Cut]), fun h => absurd h (by simp [kd_Cut]), fun h => absurd h (by simp [kd_Cut])⟩
  have U := ofCut_any (rhc_Cut (w0 := w) (B := W5.heap.size) (g := g) (b := b') (vb := w4.heap.size) (rb := w.heap.size + 1) (T := 40) (vt := 198)) (s := (0, l, fun _ => (0 : Int))) (w := W5) ⟨⟨X4.keep b5, v5, ⟨_, rfl, (Y2.out.keep B4).keep b5, F0⟩, joinB (joinB HBB.out B4) b5, by omega, by omega, by omega, by omega, by omega, by omega, by omega, by omega⟩, Nat.le_refl _⟩ (by simp [kd_Cut]) trivial
  rw [hst.out] at U
  have HU := hid3 U
  have P1 := hid3 ((Y1.out.keep B4).keep b5)
  have P3 := hid3 ((Y3.out.keep B4).keep b5)
  have HS := hid3 (show w.heap.size ≠ g ∧ w.heap.size + 1 + 1 ≠ g ∧ w.heap.size + 1 + 1 ≠ w.heap.size + 1 ∧ w.heap.size ≠ w.heap.size + 1 ∧ w.heap.size ≤ W5.heap.size ∧ w.heap.size ≤ g from ⟨by omega, by omega, by omega, by omega, by omega, by omega⟩)
  clear U b5 v5 z5 hgl hz3 hz4 F0 X4 B4 hg hb' HN Y1 Y2 Y3
  go_wp2_with fail
  rw [hW5.out]
  refine HU.out.mono ?_
  rintro e' w6 ⟨rfl, ⟨I6, hB6⟩, C6⟩
  have c6 := I6.var.cell (i := 0) rfl
  go_wp2_with fail
  refine (rdEnd I6.rd (by omega)).mono ?_
  rintro e' w7 ⟨rfl, X7, B7⟩
  obtain ⟨cs6, hl6, R6, F6⟩ := I6.rc
  obtain ⟨XS, hXS⟩ : ∃ XS, Hid (st.2.2 = XS) := ⟨_, rfl⟩
  rw [hXS.out] at F6
  have hF6 := hid3 F6
  have q0 := (F6 0).1 rfl
  have q1 := (F6 1).1 rfl
  have ecs : cs6 = [.int .u64 (XS 0), .int .u64 (XS 1)] := by
    apply List.ext_getElem?
    intro i
    match i with
    | 0 => rw [q0]; rfl
    | 1 => rw [q1]; rfl
    | k + 2 => rw [List.getElem?_eq_none (by omega), List.getElem?_eq_none (by simp)]
  subst ecs
  have C7 := But.chg B7
  have K1 := (P1.out.chg C6 (fun h => h.elim HS.out.1 HS.out.2.2.2.1)).chg C7 HS.out.1
  have K3 := (P3.out.chg C6 (fun h => h.elim HS.out.2.1 HS.out.2.2.1)).chg C7 HS.out.2.1
  have K2 := R6.chg C7 I6.s1
  have BF := hid3 (B7.below I6.bel HS.out.2.2.2.2.2 (Nat.le_refl _))
  have hF7 := hid3 ((hF6.out.off (w' := w7) B7.size (fun y hy hy2 => B7.block y hy2 (by have := I6.g1; omega))))
  have hBw := hid3 (show w.heap.size < W5.heap.size ∧ w.heap.size < w7.heap.size from ⟨by have := I6.r1; omega, K1.lt⟩)
  have u0 := K1.cell (i := 0) rfl
  have f0 := K1.free 0
  have v0 := K2.cell (i := 0) rfl
  have o0 := K3.cell (i := 0) rfl
  have u1 := K1.cell (i := 1) rfl
  have f1 := K1.free 1
  have v1 := K2.cell (i := 1) rfl
  have o1 := K3.cell (i := 1) rfl
  have KFblk := hid3 (show Blk ((w7.setCell ⟨w.heap.size, 0, none⟩ (.int .u64 (XS 0))).setCell ⟨w.heap.size, 1, none⟩ (.int .u64 (XS 1))) w.heap.size [.int .u64 (XS 0), .int .u64 (XS 1)] 40 from ((K1.setCell (i := 0) (.int .u64 (XS 0))).setCell (i := 1) (.int .u64 (XS 1))))
  have KFchg := hid3 (show Chg (fun x => x = w.heap.size) w7 ((w7.setCell ⟨w.heap.size, 0, none⟩ (.int .u64 (XS 0))).setCell ⟨w.heap.size, 1, none⟩ (.int .u64 (XS 1))) from (((Chg.refl (fun x => x = w.heap.size) w7).cell (g := w.heap.size) (i := 0) (.inl rfl) (.int .u64 (XS 0))).cell (g := w.heap.size) (i := 1) (.inl rfl) (.int .u64 (XS 1))))
  have KFbel := hid3 (show Below w.heap.size w ((w7.setCell ⟨w.heap.size, 0, none⟩ (.int .u64 (XS 0))).setCell ⟨w.heap.size, 1, none⟩ (.int .u64 (XS 1))) from ((BF.out.setCell (p := ⟨w.heap.size, 0, none⟩) (Nat.le_refl _) (.int .u64 (XS 0))).setCell (p := ⟨w.heap.size, 1, none⟩) (Nat.le_refl _) (.int .u64 (XS 1))))
  have KZblk := hid3 (show Blk ((w7.setCell ⟨w.heap.size, 0, none⟩ (.int .u64 0)).setCell ⟨w.heap.size, 1, none⟩ (.int .u64 0)) w.heap.size [.int .u64 0, .int .u64 0] 40 from ((K1.setCell (i := 0) (.int .u64 0)).setCell (i := 1) (.int .u64 0)))
  have KZchg := hid3 (show Chg (fun x => x = w.heap.size) w7 ((w7.setCell ⟨w.heap.size, 0, none⟩ (.int .u64 0)).setCell ⟨w.heap.size, 1, none⟩ (.int .u64 0)) from (((Chg.refl (fun x => x = w.heap.size) w7).cell (g := w.heap.size) (i := 0) (.inl rfl) (.int .u64 0)).cell (g := w.heap.size) (i := 1) (.inl rfl) (.int .u64 0)))
  have KZbel := hid3 (show Below w.heap.size w ((w7.setCell ⟨w.heap.size, 0, none⟩ (.int .u64 0)).setCell ⟨w.heap.size, 1, none⟩ (.int .u64 0)) from ((BF.out.setCell (p := ⟨w.heap.size, 0, none⟩) (Nat.le_refl _) (.int .u64 0)).setCell (p := ⟨w.heap.size, 1, none⟩) (Nat.le_refl _) (.int .u64 0)))
  clear K1 K2 K3 I6 C6 C7 B7 X7 R6 hl6 F6 c6 HU P1 P3 q0 q1
  obtain ⟨E0, hE0⟩ : ∃ E0, Hid (endE st.1 st.2.1 = E0) := ⟨_, rfl⟩
  rw [hE0.out]
  by_cases hE : E0 = 0
  · subst hE
    go_wp2
    refine bodyPost_ret (ret_rc rfl rfl rfl (ld_Cut (KFblk.out.cell (i := 0) rfl) (KFblk.out.cell (i := 1) rfl))) rfl ?_
    exact ⟨⟨[.int .u64 (XS 0), .int .u64 (XS 1)], XS, 0, rfl, rfl, (hF7.out.off KFchg.out.size (fun y hy _ => KFchg.out.same y (by assumption) (fun e => by have e' : y = w.heap.size := e; have := hBw.out; omega))).low (by have := hBw.out; omega), fun _ => ⟨rfl, hXS.out.symm⟩, fun h => absurd hE0.out h⟩, KFbel.out⟩
  · have hE1 : ¬ (E0 = 0) := hE
    go_wp2
    refine bodyPost_ret (ret_rc rfl rfl rfl (ld_Cut (KZblk.out.cell (i := 0) rfl) (KZblk.out.cell (i := 1) rfl))) rfl ?_
    exact ⟨⟨[.int .u64 0, .int .u64 0], fun _ => 0, 80, rfl, rfl, (fun o => match o with | 0 => ⟨fun _ => rfl, fun h => absurd h (by decide), fun h => absurd h (by decide)⟩ | 1 => ⟨fun _ => rfl, fun h => absurd h (by decide), fun h => absurd h (by decide)⟩ | k + 2 => ⟨fun h => absurd h (by simp [kd_Cut]), fun h => absurd h (by simp [kd_Cut]), fun h => absurd h (by simp [kd_Cut])⟩), fun h => absurd (hE0.out.symm.trans h) hE1, fun _ => ⟨rfl, rfl⟩⟩, KZbel.out⟩
theorem ld_Unbonding {w : World} {g : Nat} {y0 y1 y2 y3 y4 y5 : Value} (c0 : w.cell? ⟨g, 0, none⟩ = some y0) (c1 : w.cell? ⟨g, 1, none⟩ = some y1) (c2 : w.cell? ⟨g, 2, none⟩ = some y2) (c3 : w.cell? ⟨g, 3, none⟩ = some y3) (c4 : w.cell? ⟨g, 4, none⟩ = some y4) (c5 : w.cell? ⟨g, 5, none⟩ = some y5) : (loadVar 42 ⟨g, 0, none⟩).run Tryz.prog w = .ok (.agg #[y0, y1, y2, y3, y4, y5]) w := by go_simp
set_option maxHeartbeats 4000000 in
set_option maxRecDepth 100000 in
theorem read_Unbonding {w : World} {bb n c : Nat} {ao : Option Addr} {l : List Int} (A : ByA w bb ao n c l) (hn : n ≤ 1000000000) (hl : l.length = n) :
    Calls Tryz.prog 149 #[.slice ao n c, .func (.func 63) #[] #[]] w (FinR w kd_Unbonding 6 mkA (thr rnx [(0, 0), (0, 1), (0, 2), (0, 3), (0, 4), (0, 5)] (0, l, fun _ => (0 : Int)))) := by
  have b1 := below_alloc w (.cells #[.int .u64 0, .int .u64 0, .int .u64 0, .int .u64 0, .int .u64 0, .int .u64 0] 42)
  have b2 := below_alloc (w.alloc (.cells #[.int .u64 0, .int .u64 0, .int .u64 0, .int .u64 0, .int .u64 0, .int .u64 0] 42)) (.cells #[.int .u64 0, .int .u64 0, .int .u64 0, .int .u64 0, .int .u64 0, .int .u64 0] 42)
  have b3 := below_alloc ((w.alloc (.cells #[.int .u64 0, .int .u64 0, .int .u64 0, .int .u64 0, .int .u64 0, .int .u64 0] 42)).alloc (.cells #[.int .u64 0, .int .u64 0, .int .u64 0, .int .u64 0, .int .u64 0, .int .u64 0] 42)) (.cells #[.int .u64 0, .int .u64 0, .int .u64 0, .int .u64 0, .int .u64 0, .int .u64 0] 42)
  have z1 := size_al w (.cells #[.int .u64 0, .int .u64 0, .int .u64 0, .int .u64 0, .int .u64 0, .int .u64 0] 42)
  have z2 := size_al (w.alloc (.cells #[.int .u64 0, .int .u64 0, .int .u64 0, .int .u64 0, .int .u64 0, .int .u64 0] 42)) (.cells #[.int .u64 0, .int .u64 0, .int .u64 0, .int .u64 0, .int .u64 0, .int .u64 0] 42)
  have z3 := size_al ((w.alloc (.cells #[.int .u64 0, .int .u64 0, .int .u64 0, .int .u64 0, .int .u64 0, .int .u64 0] 42)).alloc (.cells #[.int .u64 0, .int .u64 0, .int .u64 0, .int .u64 0, .int .u64 0, .int .u64 0] 42)) (.cells #[.int .u64 0, .int .u64 0, .int .u64 0, .int .u64 0, .int .u64 0, .int .u64 0] 42)
  have y1 := ((blk_new w [.int .u64 0, .int .u64 0, .int .u64 0, .int .u64 0, .int .u64 0, .int .u64 0] 42).keep b2).keep b3
  have y2 := (blk_new (w.alloc (.cells #[.int .u64 0, .int .u64 0, .int .u64 0, .int .u64 0, .int .u64 0, .int .u64 0] 42)) [.int .u64 0, .int .u64 0, .int .u64 0, .int .u64 0, .int .u64 0, .int .u64 0] 42).keep b3
  have y3 := blk_new ((w.alloc (.cells #[.int .u64 0, .int .u64 0, .int .u64 0, .int .u64 0, .int .u64 0, .int .u64 0] 42)).alloc (.cells #[.int .u64 0, .int .u64 0, .int .u64 0, .int .u64 0, .int .u64 0, .int .u64 0] 42)) [.int .u64 0, .int .u64 0, .int .u64 0, .int .u64 0, .int .u64 0, .int .u64 0] 42
  rw [z2, z1] at y3
  rw [z1] at y2
  rw [z2, z1] at z3
  obtain ⟨W3, hW3⟩ : ∃ W3, Hid ((((w.alloc (.cells #[.int .u64 0, .int .u64 0, .int .u64 0, .int .u64 0, .int .u64 0, .int .u64 0] 42)).alloc (.cells #[.int .u64 0, .int .u64 0, .int .u64 0, .int .u64 0, .int .u64 0, .int .u64 0] 42)).alloc (.cells #[.int .u64 0, .int .u64 0, .int .u64 0, .int .u64 0, .int .u64 0, .int .u64 0] 42)) = W3) := ⟨_, rfl⟩
  have BB := joinB (joinB b1 b2) b3
  rw [hW3.out] at BB y1 y2 y3 z3
  have HN := hid3 (rdNew (A.keep BB) (by omega))
  have Y1 := hid3 y1
  have Y2 := hid3 y2
  have Y3 := hid3 y3
  have Z3 := hid3 z3
  have HBB := hid3 BB
  have HL := hid3 hl
  clear b1 b2 b3 z1 z2 z3 y1 y2 y3 BB A hl
  obtain ⟨st, hst⟩ : ∃ st, Hid (thr rnx [(0, 0), (0, 1), (0, 2), (0, 3), (0, 4), (0, 5)] (0, l, fun _ => (0 : Int)) = st) := ⟨_, rfl⟩
  have hsl : st.2.1.length ≤ n := by have h := thr_len [(0, 0), (0, 1), (0, 2), (0, 3), (0, 4), (0, 5)] (0, l, fun _ => (0 : Int)); rw [hst.out] at h; rw [HL.out] at h; exact h
  rw [hst.out]
  go_enter Tryz.func149, Tryz.ntmps149
  go_wp2_with fail
  rw [hW3.out]
  refine HN.out.mono ?_
  rintro e' w4 ⟨g, b', rfl, hg, hb', X4, B4⟩
  have b5 := below_alloc w4 (.cells #[.pointer (some ⟨g, 0, none⟩)] 198)
  have v5 := blk_new w4 [.pointer (some ⟨g, 0, none⟩)] 198
  have z5 := size_al w4 (.cells #[.pointer (some ⟨g, 0, none⟩)] 198)
  obtain ⟨W5, hW5⟩ : ∃ W5, Hid (w4.alloc (.cells #[.pointer (some ⟨g, 0, none⟩)] 198) = W5) := ⟨_, rfl⟩
  rw [hW5.out] at b5 v5 z5
  have hgl := X4.lt
  have hz3 := Z3.out
  have hz4 := B4.size
  have F0 : FldR W5 W5.heap.size kd_Unbonding [.int .u64 0, .int .u64 0, .int .u64 0, .int .u64 0, .int .u64 0, .int .u64 0] (fun _ => 0) := fun o => match o with
    | 0 => ⟨fun _ => rfl, fun h => absurd h (by decide), fun h => absurd h (by decide)⟩
    | 1 => ⟨fun _ => rfl, fun h => absurd h (by decide), fun h => absurd h (by decide)⟩
    | 2 => ⟨fun _ => rfl, fun h => absurd h (by decide), fun h => absurd h (by decide)⟩
    | 3 => ⟨fun _ => rfl, fun h => absurd h (by decide), fun h => absurd h (by decide)⟩
    | 4 => ⟨fun _ => rfl, fun h => absurd h (by decide), fun h => absurd h (by decide)⟩
    | 5 => ⟨fun _ => rfl, fun h => absurd h (by decide), fun h => absurd h (by decide)⟩
    | k + 6 => ⟨fun h => absurd h (by simp [kd_Unbonding]), fun h => absurd h (by simp [kd_Unbonding]), fun h => absurd h (by simp [kd_Unbonding])⟩
  have U := ofUnbonding_any (rhc_Unbonding (w0 := w) (B := W5.heap.size) (g := g) (b := b') (vb := w4.heap.size) (rb := w.heap.size + 1) (T := 42) (vt := 198)) (s := (0, l, fun _ => (0 : Int))) (w := W5) ⟨⟨X4.keep b5, v5, ⟨_, rfl, (Y2.out.keep B4).keep b5, F0⟩, joinB (joinB HBB.out B4) b5, by omega, by omega, by omega, by omega, by omega, by omega, by omega, by omega⟩, Nat.le_refl _⟩ (by simp [kd_Unbonding]) trivial
  rw [hst.out] at U
  have HU := hid3 U
  have P1 := hid3 ((Y1.out.keep B4).keep b5)
  have P3 := hid3 ((Y3.out.keep B4).keep b5)
  have HS := hid3 (show w.heap.size ≠ g ∧ w.heap.size + 1 + 1 ≠ g ∧ w.heap.size + 1 + 1 ≠ w.heap.size + 1 ∧ w.heap.size ≠ w.heap.size + 1 ∧ w.heap.size ≤ W5.heap.size ∧ w.heap.size ≤ g from ⟨by omega, by omega, by omega, by omega, by omega, by omega⟩)
  clear U b5 v5 z5 hgl hz3 hz4 F0 X4 B4 hg hb' HN Y1 Y2 Y3
  go_wp2_with fail
  rw [hW5.out]
  refine HU.out.mono ?_
  rintro e' w6 ⟨rfl, ⟨I6, hB6⟩, C6⟩
  have c6 := I6.var.cell (i := 0) rfl
  go_wp2_with fail
  refine (rdEnd I6.rd (by omega)).mono ?_
  rintro e' w7 ⟨rfl, X7, B7⟩
  obtain ⟨cs6, hl6, R6, F6⟩ := I6.rc
  obtain ⟨XS, hXS⟩ : ∃ XS, Hid (st.2.2 = XS) := ⟨_, rfl⟩
  rw [hXS.out] at F6
  have hF6 := hid3 F6
  have q0 := (F6 0).1 rfl
  have q1 := (F6 1).1 rfl
  have q2 := (F6 2).1 rfl
  have q3 := (F6 3).1 rfl
  have q4 := (F6 4).1 rfl
  have q5 := (F6 5).1 rfl
  have ecs : cs6 = [.int .u64 (XS 0), .int .u64 (XS 1), .int .u64 (XS 2), .int .u64 (XS 3), .int .u64 (XS 4), .int .u64 (XS 5)] := by
    apply List.ext_getElem?
    intro i
    match i with
    | 0 => rw [q0]; rfl
    | 1 => rw [q1]; rfl
    | 2 => rw [q2]; rfl
    | 3 => rw [q3]; rfl
    | 4 => rw [q4]; rfl
    | 5 => rw [q5]; rfl
    | k + 6 => rw [List.getElem?_eq_none (by omega), List.getElem?_eq_none (by simp)]
  subst ecs
  have C7 := But.chg B7
  have K1 := (P1.out.chg C6 (fun h => h.elim HS.out.1 HS.out.2.2.2.1)).chg C7 HS.out.1
  have K3 := (P3.out.chg C6 (fun h => h.elim HS.out.2.1 HS.out.2.2.1)).chg C7 HS.out.2.1
  have K2 := R6.chg C7 I6.s1
  have BF := hid3 (B7.below I6.bel HS.out.2.2.2.2.2 (Nat.le_refl _))
  have hF7 := hid3 ((hF6.out.off (w' := w7) B7.size (fun y hy hy2 => B7.block y hy2 (by have := I6.g1; omega))))
  have hBw := hid3 (show w.heap.size < W5.heap.size ∧ w.heap.size < w7.heap.size from ⟨by have := I6.r1; omega, K1.lt⟩)
  have u0 := K1.cell (i := 0) rfl
  have f0 := K1.free 0
  have v0 := K2.cell (i := 0) rfl
  have o0 := K3.cell (i := 0) rfl
  have u1 := K1.cell (i := 1) rfl
  have f1 := K1.free 1
  have v1 := K2.cell (i := 1) rfl
  have o1 := K3.cell (i := 1) rfl
  have u2 := K1.cell (i := 2) rfl
  have f2 := K1.free 2
  have v2 := K2.cell (i := 2) rfl
  have o2 := K3.cell (i := 2) rfl
  have u3 := K1.cell (i := 3) rfl
  have f3 := K1.free 3
  have v3 := K2.cell (i := 3) rfl
  have o3 := K3.cell (i := 3) rfl
  have u4 := K1.cell (i := 4) rfl
  have f4 := K1.free 4
  have v4 := K2.cell (i := 4) rfl
  have o4 := K3.cell (i := 4) rfl
  have u5 := K1.cell (i := 5) rfl
  have f5 := K1.free 5
  have v5 := K2.cell (i := 5) rfl
  have o5 := K3.cell (i := 5) rfl
  have KFblk := hid3 (show Blk ((((((w7.setCell ⟨w.heap.size, 0, none⟩ (.int .u64 (XS 0))).setCell ⟨w.heap.size, 1, none⟩ (.int .u64 (XS 1))).setCell ⟨w.heap.size, 2, none⟩ (.int .u64 (XS 2))).setCell ⟨w.heap.size, 3, none⟩ (.int .u64 (XS 3))).setCell ⟨w.heap.size, 4, none⟩ (.int .u64 (XS 4))).setCell ⟨w.heap.size, 5, none⟩ (.int .u64 (XS 5))) w.heap.size [.int .u64 (XS 0), .int .u64 (XS 1), .int .u64 (XS 2), .int .u64 (XS 3), .int .u64 (XS 4), .int .u64 (XS 5)] 42 from ((((((K1.setCell (i := 0) (.int .u64 (XS 0))).setCell (i := 1) (.int .u64 (XS 1))).setCell (i := 2) (.int .u64 (XS 2))).setCell (i := 3) (.int .u64 (XS 3))).setCell (i := 4) (.int .u64 (XS 4))).setCell (i := 5) (.int .u64 (XS 5))))
  have KFchg := hid3 (show Chg (fun x => x = w.heap.size) w7 ((((((w7.setCell ⟨w.heap.size, 0, none⟩ (.int .u64 (XS 0))).setCell ⟨w.heap.size, 1, none⟩ (.int .u64 (XS 1))).setCell ⟨w.heap.size, 2, none⟩ (.int .u64 (XS 2))).setCell ⟨w.heap.size, 3, none⟩ (.int .u64 (XS 3))).setCell ⟨w.heap.size, 4, none⟩ (.int .u64 (XS 4))).setCell ⟨w.heap.size, 5, none⟩ (.int .u64 (XS 5))) from (((((((Chg.refl (fun x => x = w.heap.size) w7).cell (g := w.heap.size) (i := 0) (.inl rfl) (.int .u64 (XS 0))).cell (g := w.heap.size) (i := 1) (.inl rfl) (.int .u64 (XS 1))).cell (g := w.heap.size) (i := 2) (.inl rfl) (.int .u64 (XS 2))).cell (g := w.heap.size) (i := 3) (.inl rfl) (.int .u64 (XS 3))).cell (g := w.heap.size) (i := 4) (.inl rfl) (.int .u64 (XS 4))).cell (g := w.heap.size) (i := 5) (.inl rfl) (.int .u64 (XS 5))))
  have KFbel := hid3 (show Below w.heap.size w ((((((w7.setCell ⟨w.heap.size, 0, none⟩ (.int .u64 (XS 0))).setCell ⟨w.heap.size, 1, none⟩ (.int .u64 (XS 1))).setCell ⟨w.heap.size, 2, none⟩ (.int .u64 (XS 2))).setCell ⟨w.heap.size, 3, none⟩ (.int .u64 (XS 3))).setCell ⟨w.heap.size, 4, none⟩ (.int .u64 (XS 4))).setCell ⟨w.heap.size, 5, none⟩ (.int .u64 (XS 5))) from ((((((BF.out.setCell (p := ⟨w.heap.size, 0, none⟩) (Nat.le_refl _) (.int .u64 (XS 0))).setCell (p := ⟨w.heap.size, 1, none⟩) (Nat.le_refl _) (.int .u64 (XS 1))).setCell (p := ⟨w.heap.size, 2, none⟩) (Nat.le_refl _) (.int .u64 (XS 2))).setCell (p := ⟨w.heap.size, 3, none⟩) (Nat.le_refl _) (.int .u64 (XS 3))).setCell (p := ⟨w.heap.size, 4, none⟩) (Nat.le_refl _) (.int .u64 (XS 4))).setCell (p := ⟨w.heap.size, 5, none⟩) (Nat.le_refl _) (.int .u64 (XS 5))))
  have KZblk := hid3 (show Blk ((((((w7.setCell ⟨w.heap.size, 0, none⟩ (.int .u64 0)).setCell ⟨w.heap.size, 1, none⟩ (.int .u64 0)).setCell ⟨w.heap.size, 2, none⟩ (.int .u64 0)).setCell ⟨w.heap.size, 3, none⟩ (.int .u64 0)).setCell ⟨w.heap.size, 4, none⟩ (.int .u64 0)).setCell ⟨w.heap.size, 5, none⟩ (.int .u64 0)) w.heap.size [.int .u64 0, .int .u64 0, .int .u64 0, .int .u64 0, .int .u64 0, .int .u64 0] 42 from ((((((K1.setCell (i := 0) (.int .u64 0)).setCell (i := 1) (.int .u64 0)).setCell (i := 2) (.int .u64 0)).setCell (i := 3) (.int .u64 0)).setCell (i := 4) (.int .u64 0)).setCell (i := 5) (.int .u64 0)))
  have KZchg := hid3 (show Chg (fun x => x = w.heap.size) w7 ((((((w7.setCell ⟨w.heap.size, 0, none⟩ (.int .u64 0)).setCell ⟨w.heap.size, 1, none⟩ (.int .u64 0)).setCell ⟨w.heap.size, 2, none⟩ (.int .u64 0)).setCell ⟨w.heap.size, 3, none⟩ (.int .u64 0)).setCell ⟨w.heap.size, 4, none⟩ (.int .u64 0)).setCell ⟨w.heap.size, 5, none⟩ (.int .u64 0)) from (((((((Chg.refl (fun x => x = w.heap.size) w7).cell (g := w.heap.size) (i := 0) (.inl rfl) (.int .u64 0)).cell (g := w.heap.size) (i := 1) (.inl rfl) (.int .u64 0)).cell (g := w.heap.size) (i := 2) (.inl rfl) (.int .u64 0)).cell (g := w.heap.size) (i := 3) (.inl rfl) (.int .u64 0)).cell (g := w.heap.size) (i := 4) (.inl rfl) (.int .u64 0)).cell (g := w.heap.size) (i := 5) (.inl rfl) (.int .u64 0)))
  have KZbel := hid3 (show Below w.heap.size w ((((((w7.setCell ⟨w.heap.size, 0, none⟩ (.int .u64 0)).setCell ⟨w.heap.size, 1, none⟩ (.int .u64 0)).setCell ⟨w.heap.size, 2, none⟩ (.int .u64 0)).setCell ⟨w.heap.size, 3, none⟩ (.int .u64 0)).setCell ⟨w.heap.size, 4, none⟩ (.int .u64 0)).setCell ⟨w.heap.size, 5, none⟩ (.int .u64 0)) from ((((((BF.out.setCell (p := ⟨w.heap.size, 0, none⟩) (Nat.le_refl _) (.int .u64 0)).setCell (p := ⟨w.heap.size, 1, none⟩) (Nat.le_refl _) (.int .u64 0)).setCell (p := ⟨w.heap.size, 2, none⟩) (Nat.le_refl _) (.int .u64 0)).setCell (p := ⟨w.heap.size, 3, none⟩) (Nat.le_refl _) (.int .u64 0)).setCell (p := ⟨w.heap.size, 4, none⟩) (Nat.le_refl _) (.int .u64 0)).setCell (p := ⟨w.heap.size, 5, none⟩) (Nat.le_refl _) (.int .u64 0)))
  clear K1 K2 K3 I6 C6 C7 B7 X7 R6 hl6 F6 c6 HU P1 P3 q0 q1 q2 q3 q4 q5
  obtain ⟨E0, hE0⟩ : ∃ E0, Hid (endE st.1 st.2.1 = E0) := ⟨_, rfl⟩
  rw [hE0.out]
  by_cases hE : E0 = 0
  · subst hE
    go_wp2
    refine bodyPost_ret (ret_rc rfl rfl rfl (ld_Unbonding (KFblk.out.cell (i := 0) rfl) (KFblk.out.cell (i := 1) rfl) (KFblk.out.cell (i := 2) rfl) (KFblk.out.cell (i := 3) rfl) (KFblk.out.cell (i := 4) rfl) (KFblk.out.cell (i := 5) rfl))) rfl ?_
    exact ⟨⟨[.int .u64 (XS 0), .int .u64 (XS 1), .int .u64 (XS 2), .int .u64 (XS 3), .int .u64 (XS 4), .int .u64 (XS 5)], XS, 0, rfl, rfl, (hF7.out.off KFchg.out.size (fun y hy _ => KFchg.out.same y (by assumption) (fun e => by have e' : y = w.heap.size := e; have := hBw.out; omega))).low (by have := hBw.out; omega), fun _ => ⟨rfl, hXS.out.symm⟩, fun h => absurd hE0.out h⟩, KFbel.out⟩
  · have hE1 : ¬ (E0 = 0) := hE
    go_wp2
    refine bodyPost_ret (ret_rc rfl rfl rfl (ld_Unbonding (KZblk.out.cell (i := 0) rfl) (KZblk.out.cell (i := 1) rfl) (KZblk.out.cell (i := 2) rfl) (KZblk.out.cell (i := 3) rfl) (KZblk.out.cell (i := 4) rfl) (KZblk.out.cell (i := 5) rfl))) rfl ?_
    exact ⟨⟨[.int .u64 0, .int .u64 0, .int .u64 0, .int .u64 0, .int .u64 0, .int .u64 0], fun _ => 0, 80, rfl, rfl, (fun o => match o with | 0 => ⟨fun _ => rfl, fun h => absurd h (by decide), fun h => absurd h (by decide)⟩ | 1 => ⟨fun _ => rfl, fun h => absurd h (by decide), fun h => absurd h (by decide)⟩ | 2 => ⟨fun _ => rfl, fun h => absurd h (by decide), fun h => absurd h (by decide)⟩ | 3 => ⟨fun _ => rfl, fun h => absurd h (by decide), fun h => absurd h (by decide)⟩ | 4 => ⟨fun _ => rfl, fun h => absurd h (by decide), fun h => absurd h (by decide)⟩ | 5 => ⟨fun _ => rfl, fun h => absurd h (by decide), fun h => absurd h (by decide)⟩ | k + 6 => ⟨fun h => absurd h (by simp [kd_Unbonding]), fun h => absurd h (by simp [kd_Unbonding]), fun h => absurd h (by simp [kd_Unbonding])⟩), fun h => absurd (hE0.out.symm.trans h) hE1, fun _ => ⟨rfl, rfl⟩⟩, KZbel.out⟩
theorem ld_Move {w : World} {g : Nat} {y0 y1 y2 y3 y4 y5 y6 : Value} (c0 : w.cell? ⟨g, 0, none⟩ = some y0) (c1 : w.cell? ⟨g, 1, none⟩ = some y1) (c2 : w.cell? ⟨g, 2, none⟩ = some y2) (c3 : w.cell? ⟨g, 3, none⟩ = some y3) (c4 : w.cell? ⟨g, 4, none⟩ = some y4) (c5 : w.cell? ⟨g, 5, none⟩ = some y5) (c6 : w.cell? ⟨g, 6, none⟩ = some y6) : (loadVar 44 ⟨g, 0, none⟩).run Tryz.prog w = .ok (.agg #[y0, y1, y2, y3, y4, y5, y6]) w := by go_simp
set_option maxHeartbeats 4000000 in
set_option maxRecDepth 100000 in
theorem read_Move {w : World} {bb n c : Nat} {ao : Option Addr} {l : List Int} (A : ByA w bb ao n c l) (hn : n ≤ 1000000000) (hl : l.length = n) :
    Calls Tryz.prog 150 #[.slice ao n c, .func (.func 65) #[] #[]] w (FinR w kd_Move 7 mkA (thr rnx [(0, 0), (0, 1), (0, 2), (0, 3), (0, 4), (0, 5), (2, 6)] (0, l, fun _ => (0 : Int)))) := by
  have b1 := below_alloc w (.cells #[.int .u64 0, .int .u64 0, .int .u64 0, .int .u64 0, .int .u64 0, .int .u64 0, .slice none 0 0] 44)
  have b2 := below_alloc (w.alloc (.cells #[.int .u64 0, .int .u64 0, .int .u64 0, .int .u64 0, .int .u64 0, .int .u64 0, .slice none 0 0] 44)) (.cells #[.int .u64 0, .int .u64 0, .int .u64 0, .int .u64 0, .int .u64 0, .int .u64 0, .slice none 0 0] 44)
  have b3 := below_alloc ((w.alloc (.cells #[.int .u64 0, .int .u64 0, .int .u64 0, .int .u64 0, .int .u64 0, .int .u64 0, .slice none 0 0] 44)).alloc (.cells #[.int .u64 0, .int .u64 0, .int .u64 0, .int .u64 0, .int .u64 0, .int .u64 0, .slice none 0 0] 44)) (.cells #[.int .u64 0, .int .u64 0, .int .u64 0, .int .u64 0, .int .u64 0, .int .u64 0, .slice none 0 0] 44)
  have z1 := size_al w (.cells #[.int .u64 0, .int .u64 0, .int .u64 0, .int .u64 0, .int .u64 0, .int .u64 0, .slice none 0 0] 44)
  have z2 := size_al (w.alloc (.cells #[.int .u64 0, .int .u64 0, .int .u64 0, .int .u64 0, .int .u64 0, .int .u64 0, .slice none 0 0] 44)) (.cells #[.int .u64 0, .int .u64 0, .int .u64 0, .int .u64 0, .int .u64 0, .int .u64 0, .slice none 0 0] 44)
  have z3 := size_al ((w.alloc (.cells #[.int .u64 0, .int .u64 0, .int .u64 0, .int .u64 0, .int .u64 0, .int .u64 0, .slice none 0 0] 44)).alloc (.cells #[.int .u64 0, .int .u64 0, .int .u64 0, .int .u64 0, .int .u64 0, .int .u64 0, .slice none 0 0] 44)) (.cells #[.int .u64 0, .int .u64 0, .int .u64 0, .int .u64 0, .int .u64 0, .int .u64 0, .slice none 0 0] 44)
  have y1 := ((blk_new w [.int .u64 0, .int .u64 0, .int .u64 0, .int .u64 0, .int .u64 0, .int .u64 0, .slice none 0 0] 44).keep b2).keep b3
  have y2 := (blk_new (w.alloc (.cells #[.int .u64 0, .int .u64 0, .int .u64 0, .int .u64 0, .int .u64 0, .int .u64 0, .slice none 0 0] 44)) [.int .u64 0, .int .u64 0, .int .u64 0, .int .u64 0, .int .u64 0, .int .u64 0, .slice none 0 0] 44).keep b3
  have y3 := blk_new ((w.alloc (.cells #[.int .u64 0, .int .u64 0, .int .u64 0, .int .u64 0, .int .u64 0, .int .u64 0, .slice none 0 0] 44)).alloc (.cells #[.int .u64 0, .int .u64 0, .int .u64 0, .int .u64 0, .int .u64 0, .int .u64 0, .slice none 0 0] 44)) [.int .u64 0, .int .u64 0, .int .u64 0, .int .u64 0, .int .u64 0, .int .u64 0, .slice none 0 0] 44
  rw [z2, z1] at y3
  rw [z1] at y2
  rw [z2, z1] at z3
  obtain ⟨W3, hW3⟩ : ∃ W3, Hid ((((w.alloc (.cells #[.int .u64 0, .int .u64 0, .int .u64 0, .int .u64 0, .int .u64 0, .int .u64 0, .slice none 0 0] 44)).alloc (.cells #[.int .u64 0, .int .u64 0, .int .u64 0, .int .u64 0, .int .u64 0, .int .u64 0, .slice none 0 0] 44)).alloc (.cells #[.int .u64 0, .int .u64 0, .int .u64 0, .int .u64 0, .int .u64 0, .int .u64 0, .slice none 0 0] 44)) = W3) := ⟨_, rfl⟩
  have BB := joinB (joinB b1 b2) b3
  rw [hW3.out] at BB y1 y2 y3 z3
  have HN := hid3 (rdNew (A.keep BB) (by omega))
  have Y1 := hid3 y1
  have Y2 := hid3 y2
  have Y3 := hid3 y3
  have Z3 := hid3 z3
  have HBB := hid3 BB
  have HL := hid3 hl
  clear b1 b2 b3 z1 z2 z3 y1 y2 y3 BB A hl
  obtain ⟨st, hst⟩ : ∃ st, Hid (thr rnx [(0, 0), (0, 1), (0, 2), (0, 3), (0, 4), (0, 5), (2, 6)] (0, l, fun _ => (0 : Int)) = st) := ⟨_, rfl⟩
  have hsl : st.2.1.length ≤ n := by have h := thr_len [(0, 0), (0, 1), (0, 2), (0, 3), (0, 4), (0, 5), (2, 6)] (0, l, fun _ => (0 : Int)); rw [hst.out] at h; rw [HL.out] at h; exact h
  rw [hst.out]
  go_enter Tryz.func150, Tryz.ntmps150
  go_wp2_with fail
  rw [hW3.out]
  refine HN.out.mono ?_
  rintro e' w4 ⟨g, b', rfl, hg, hb', X4, B4⟩
  have b5 := below_alloc w4 (.cells #[.pointer (some ⟨g, 0, none⟩)] 198)
  have v5 := blk_new w4 [.pointer (some ⟨g, 0, none⟩)] 198
  have z5 := size_al w4 (.cells #[.pointer (some ⟨g, 0, none⟩)] 198)
  obtain ⟨W5, hW5⟩ : ∃ W5, Hid (w4.alloc (.cells #[.pointer (some ⟨g, 0, none⟩)] 198) = W5) := ⟨_, rfl⟩
  rw [hW5.out] at b5 v5 z5
  have hgl := X4.lt
  have hz3 := Z3.out
  have hz4 := B4.size
  have F0 : FldR W5 W5.heap.size kd_Move [.int .u64 0, .int .u64 0, .int .u64 0, .int .u64 0, .int .u64 0, .int .u64 0, .slice none 0 0] (fun _ => 0) := fun o => match o with
    | 0 => ⟨fun _ => rfl, fun h => absurd h (by decide), fun h => absurd h (by decide)⟩
    | 1 => ⟨fun _ => rfl, fun h => absurd h (by decide), fun h => absurd h (by decide)⟩
    | 2 => ⟨fun _ => rfl, fun h => absurd h (by decide), fun h => absurd h (by decide)⟩
    | 3 => ⟨fun _ => rfl, fun h => absurd h (by decide), fun h => absurd h (by decide)⟩
    | 4 => ⟨fun _ => rfl, fun h => absurd h (by decide), fun h => absurd h (by decide)⟩
    | 5 => ⟨fun _ => rfl, fun h => absurd h (by decide), fun h => absurd h (by decide)⟩
    | 6 => ⟨fun h => absurd h (by decide), fun h => absurd h (by decide), fun _ => ⟨none, 0, 0, rfl, natW_nil _ _, by decide⟩⟩
    | k + 7 => ⟨fun h => absurd h (by simp [kd_Move]), fun h => absurd h (by simp [kd_Move]), fun h => absurd h (by simp [kd_Move])⟩
  have U := ofMove_any (rhc_Move (w0 := w) (B := W5.heap.size) (g := g) (b := b') (vb := w4.heap.size) (rb := w.heap.size + 1) (T := 44) (vt := 198)) (s := (0, l, fun _ => (0 : Int))) (w := W5) ⟨⟨X4.keep b5, v5, ⟨_, rfl, (Y2.out.keep B4).keep b5, F0⟩, joinB (joinB HBB.out B4) b5, by omega, by omega, by omega, by omega, by omega, by omega, by omega, by omega⟩, Nat.le_refl _⟩ (by simp [kd_Move]) trivial
  rw [hst.out] at U
  have HU := hid3 U
  have P1 := hid3 ((Y1.out.keep B4).keep b5)
  have P3 := hid3 ((Y3.out.keep B4).keep b5)
  have HS := hid3 (show w.heap.size ≠ g ∧ w.heap.size + 1 + 1 ≠ g ∧ w.heap.size + 1 + 1 ≠ w.heap.size + 1 ∧ w.heap.size ≠ w.heap.size + 1 ∧ w.heap.size ≤ W5.heap.size ∧ w.heap.size ≤ g from ⟨by omega, by omega, by omega, by omega, by omega, by omega⟩)
  clear U b5 v5 z5 hgl hz3 hz4 F0 X4 B4 hg hb' HN Y1 Y2 Y3
  go_wp2_with fail
  rw [hW5.out]
  refine HU.out.mono ?_
  rintro e' w6 ⟨rfl, ⟨I6, hB6⟩, C6⟩
  have c6 := I6.var.cell (i := 0) rfl
  go_wp2_with fail
  refine (rdEnd I6.rd (by omega)).mono ?_
  rintro e' w7 ⟨rfl, X7, B7⟩
  obtain ⟨cs6, hl6, R6, F6⟩ := I6.rc
  obtain ⟨XS, hXS⟩ : ∃ XS, Hid (st.2.2 = XS) := ⟨_, rfl⟩
  rw [hXS.out] at F6
  have hF6 := hid3 F6
  have q0 := (F6 0).1 rfl
  have q1 := (F6 1).1 rfl
  have q2 := (F6 2).1 rfl
  have q3 := (F6 3).1 rfl
  have q4 := (F6 4).1 rfl
  have q5 := (F6 5).1 rfl
  obtain ⟨a6, n6, d6, q6, -, -⟩ := (F6 6).2.2 rfl
  have ecs : cs6 = [.int .u64 (XS 0), .int .u64 (XS 1), .int .u64 (XS 2), .int .u64 (XS 3), .int .u64 (XS 4), .int .u64 (XS 5), .slice a6 n6 d6] := by
    apply List.ext_getElem?
    intro i
    match i with
    | 0 => rw [q0]; rfl
    | 1 => rw [q1]; rfl
    | 2 => rw [q2]; rfl
    | 3 => rw [q3]; rfl
    | 4 => rw [q4]; rfl
    | 5 => rw [q5]; rfl
    | 6 => rw [q6]; rfl
    | k + 7 => rw [List.getElem?_eq_none (by omega), List.getElem?_eq_none (by simp)]
  subst ecs
  have C7 := But.chg B7
  have K1 := (P1.out.chg C6 (fun h => h.elim HS.out.1 HS.out.2.2.2.1)).chg C7 HS.out.1
  have K3 := (P3.out.chg C6 (fun h => h.elim HS.out.2.1 HS.out.2.2.1)).chg C7 HS.out.2.1
  have K2 := R6.chg C7 I6.s1
  have BF := hid3 (B7.below I6.bel HS.out.2.2.2.2.2 (Nat.le_refl _))
  have hF7 := hid3 ((hF6.out.off (w' := w7) B7.size (fun y hy hy2 => B7.block y hy2 (by have := I6.g1; omega))))
  have hBw := hid3 (show w.heap.size < W5.heap.size ∧ w.heap.size < w7.heap.size from ⟨by have := I6.r1; omega, K1.lt⟩)
  have u0 := K1.cell (i := 0) rfl
  have f0 := K1.free 0
  have v0 := K2.cell (i := 0) rfl
  have o0 := K3.cell (i := 0) rfl
  have u1 := K1.cell (i := 1) rfl
  have f1 := K1.free 1
  have v1 := K2.cell (i := 1) rfl
  have o1 := K3.cell (i := 1) rfl
  have u2 := K1.cell (i := 2) rfl
  have f2 := K1.free 2
  have v2 := K2.cell (i := 2) rfl
  have o2 := K3.cell (i := 2) rfl
  have u3 := K1.cell (i := 3) rfl
  have f3 := K1.free 3
  have v3 := K2.cell (i := 3) rfl
  have o3 := K3.cell (i := 3) rfl
  have u4 := K1.cell (i := 4) rfl
  have f4 := K1.free 4
  have v4 := K2.cell (i := 4) rfl
  have o4 := K3.cell (i := 4) rfl
  have u5 := K1.cell (i := 5) rfl
  have f5 := K1.free 5
  have v5 := K2.cell (i := 5) rfl
  have o5 := K3.cell (i := 5) rfl
  have u6 := K1.cell (i := 6) rfl
  have f6 := K1.free 6
  have v6 := K2.cell (i := 6) rfl
  have o6 := K3.cell (i := 6) rfl
  have KFblk := hid3 (show Blk (((((((w7.setCell ⟨w.heap.size, 0, none⟩ (.int .u64 (XS 0))).setCell ⟨w.heap.size, 1, none⟩ (.int .u64 (XS 1))).setCell ⟨w.heap.size, 2, none⟩ (.int .u64 (XS 2))).setCell ⟨w.heap.size, 3, none⟩ (.int .u64 (XS 3))).setCell ⟨w.heap.size, 4, none⟩ (.int .u64 (XS 4))).setCell ⟨w.heap.size, 5, none⟩ (.int .u64 (XS 5))).setCell ⟨w.heap.size, 6, none⟩ (.slice a6 n6 d6)) w.heap.size [.int .u64 (XS 0), .int .u64 (XS 1), .int .u64 (XS 2), .int .u64 (XS 3), .int .u64 (XS 4), .int .u64 (XS 5), .slice a6 n6 d6] 44 from (((((((K1.setCell (i := 0) (.int .u64 (XS 0))).setCell (i := 1) (.int .u64 (XS 1))).setCell (i := 2) (.int .u64 (XS 2))).setCell (i := 3) (.int .u64 (XS 3))).setCell (i := 4) (.int .u64 (XS 4))).setCell (i := 5) (.int .u64 (XS 5))).setCell (i := 6) (.slice a6 n6 d6)))
  have KFchg := hid3 (show Chg (fun x => x = w.heap.size) w7 (((((((w7.setCell ⟨w.heap.size, 0, none⟩ (.int .u64 (XS 0))).setCell ⟨w.heap.size, 1, none⟩ (.int .u64 (XS 1))).setCell ⟨w.heap.size, 2, none⟩ (.int .u64 (XS 2))).setCell ⟨w.heap.size, 3, none⟩ (.int .u64 (XS 3))).setCell ⟨w.heap.size, 4, none⟩ (.int .u64 (XS 4))).setCell ⟨w.heap.size, 5, none⟩ (.int .u64 (XS 5))).setCell ⟨w.heap.size, 6, none⟩ (.slice a6 n6 d6)) from ((((((((Chg.refl (fun x => x = w.heap.size) w7).cell (g := w.heap.size) (i := 0) (.inl rfl) (.int .u64 (XS 0))).cell (g := w.heap.size) (i := 1) (.inl rfl) (.int .u64 (XS 1))).cell (g := w.heap.size) (i := 2) (.inl rfl) (.int .u64 (XS 2))).cell (g := w.heap.size) (i := 3) (.inl rfl) (.int .u64 (XS 3))).cell (g := w.heap.size) (i := 4) (.inl rfl) (.int .u64 (XS 4))).cell (g := w.heap.size) (i := 5) (.inl rfl) (.int .u64 (XS 5))).cell (g := w.heap.size) (i := 6) (.inl rfl) (.slice a6 n6 d6)))
  have KFbel := hid3 (show Below w.heap.size w (((((((w7.setCell ⟨w.heap.size, 0, none⟩ (.int .u64 (XS 0))).setCell ⟨w.heap.size, 1, none⟩ (.int .u64 (XS 1))).setCell ⟨w.heap.size, 2, none⟩ (.int .u64 (XS 2))).setCell ⟨w.heap.size, 3, none⟩ (.int .u64 (XS 3))).setCell ⟨w.heap.size, 4, none⟩ (.int .u64 (XS 4))).setCell ⟨w.heap.size, 5, none⟩ (.int .u64 (XS 5))).setCell ⟨w.heap.size, 6, none⟩ (.slice a6 n6 d6)) from (((((((BF.out.setCell (p := ⟨w.heap.size, 0, none⟩) (Nat.le_refl _) (.int .u64 (XS 0))).setCell (p := ⟨w.heap.size, 1, none⟩) (Nat.le_refl _) (.int .u64 (XS 1))).setCell (p := ⟨w.heap.size, 2, none⟩) (Nat.le_refl _) (.int .u64 (XS 2))).setCell (p := ⟨w.heap.size, 3, none⟩) (Nat.le_refl _) (.int .u64 (XS 3))).setCell (p := ⟨w.heap.size, 4, none⟩) (Nat.le_refl _) (.int .u64 (XS 4))).setCell (p := ⟨w.heap.size, 5, none⟩) (Nat.le_refl _) (.int .u64 (XS 5))).setCell (p := ⟨w.heap.size, 6, none⟩) (Nat.le_refl _) (.slice a6 n6 d6)))
  have KZblk := hid3 (show Blk (((((((w7.setCell ⟨w.heap.size, 0, none⟩ (.int .u64 0)).setCell ⟨w.heap.size, 1, none⟩ (.int .u64 0)).setCell ⟨w.heap.size, 2, none⟩ (.int .u64 0)).setCell ⟨w.heap.size, 3, none⟩ (.int .u64 0)).setCell ⟨w.heap.size, 4, none⟩ (.int .u64 0)).setCell ⟨w.heap.size, 5, none⟩ (.int .u64 0)).setCell ⟨w.heap.size, 6, none⟩ (.slice none 0 0)) w.heap.size [.int .u64 0, .int .u64 0, .int .u64 0, .int .u64 0, .int .u64 0, .int .u64 0, .slice none 0 0] 44 from (((((((K1.setCell (i := 0) (.int .u64 0)).setCell (i := 1) (.int .u64 0)).setCell (i := 2) (.int .u64 0)).setCell (i := 3) (.int .u64 0)).setCell (i := 4) (.int .u64 0)).setCell (i := 5) (.int .u64 0)).setCell (i := 6) (.slice none 0 0)))
  have KZchg := hid3 (show Chg (fun x => x = w.heap.size) w7 (((((((w7.setCell ⟨w.heap.size, 0, none⟩ (.int .u64 0)).setCell ⟨w.heap.size, 1, none⟩ (.int .u64 0)).setCell ⟨w.heap.size, 2, none⟩ (.int .u64 0)).setCell ⟨w.heap.size, 3, none⟩ (.int .u64 0)).setCell ⟨w.heap.size, 4, none⟩ (.int .u64 0)).setCell ⟨w.heap.size, 5, none⟩ (.int .u64 0)).setCell ⟨w.heap.size, 6, none⟩ (.slice none 0 0)) from ((((((((Chg.refl (fun x => x = w.heap.size) w7).cell (g := w.heap.size) (i := 0) (.inl rfl) (.int .u64 0)).cell (g := w.heap.size) (i := 1) (.inl rfl) (.int .u64 0)).cell (g := w.heap.size) (i := 2) (.inl rfl) (.int .u64 0)).cell (g := w.heap.size) (i := 3) (.inl rfl) (.int .u64 0)).cell (g := w.heap.size) (i := 4) (.inl rfl) (.int .u64 0)).cell (g := w.heap.size) (i := 5) (.inl rfl) (.int .u64 0)).cell (g := w.heap.size) (i := 6) (.inl rfl) (.slice none 0 0)))
  have KZbel := hid3 (show Below w.heap.size w (((((((w7.setCell ⟨w.heap.size, 0, none⟩ (.int .u64 0)).setCell ⟨w.heap.size, 1, none⟩ (.int .u64 0)).setCell ⟨w.heap.size, 2, none⟩ (.int .u64 0)).setCell ⟨w.heap.size, 3, none⟩ (.int .u64 0)).setCell ⟨w.heap.size, 4, none⟩ (.int .u64 0)).setCell ⟨w.heap.size, 5, none⟩ (.int .u64 0)).setCell ⟨w.heap.size, 6, none⟩ (.slice none 0 0)) from (((((((BF.out.setCell (p := ⟨w.heap.size, 0, none⟩) (Nat.le_refl _) (.int .u64 0)).setCell (p := ⟨w.heap.size, 1, none⟩) (Nat.le_refl _) (.int .u64 0)).setCell (p := ⟨w.heap.size, 2, none⟩) (Nat.le_refl _) (.int .u64 0)).setCell (p := ⟨w.heap.size, 3, none⟩) (Nat.le_refl _) (.int .u64 0)).setCell (p := ⟨w.heap.size, 4, none⟩) (Nat.le_refl _) (.int .u64 0)).setCell (p := ⟨w.heap.size, 5, none⟩) (Nat.le_refl _) (.int .u64 0)).setCell (p := ⟨w.heap.size, 6, none⟩) (Nat.le_refl _) (.slice none 0 0)))
  clear K1 K2 K3 I6 C6 C7 B7 X7 R6 hl6 F6 c6 HU P1 P3 q0 q1 q2 q3 q4 q5 q6
  obtain ⟨E0, hE0⟩ : ∃ E0, Hid (endE st.1 st.2.1 = E0) := ⟨_, rfl⟩
  rw [hE0.out]
  by_cases hE : E0 = 0
  · subst hE
    go_wp2
    refine bodyPost_ret (ret_rc rfl rfl rfl (ld_Move (KFblk.out.cell (i := 0) rfl) (KFblk.out.cell (i := 1) rfl) (KFblk.out.cell (i := 2) rfl) (KFblk.out.cell (i := 3) rfl) (KFblk.out.cell (i := 4) rfl) (KFblk.out.cell (i := 5) rfl) (KFblk.out.cell (i := 6) rfl))) rfl ?_
    exact ⟨⟨[.int .u64 (XS 0), .int .u64 (XS 1), .int .u64 (XS 2), .int .u64 (XS 3), .int .u64 (XS 4), .int .u64 (XS 5), .slice a6 n6 d6], XS, 0, rfl, rfl, (hF7.out.off KFchg.out.size (fun y hy _ => KFchg.out.same y (by assumption) (fun e => by have e' : y = w.heap.size := e; have := hBw.out; omega))).low (by have := hBw.out; omega), fun _ => ⟨rfl, hXS.out.symm⟩, fun h => absurd hE0.out h⟩, KFbel.out⟩
  · have hE1 : ¬ (E0 = 0) := hE
    go_wp2
    refine bodyPost_ret (ret_rc rfl rfl rfl (ld_Move (KZblk.out.cell (i := 0) rfl) (KZblk.out.cell (i := 1) rfl) (KZblk.out.cell (i := 2) rfl) (KZblk.out.cell (i := 3) rfl) (KZblk.out.cell (i := 4) rfl) (KZblk.out.cell (i := 5) rfl) (KZblk.out.cell (i := 6) rfl))) rfl ?_
    exact ⟨⟨[.int .u64 0, .int .u64 0, .int .u64 0, .int .u64 0, .int .u64 0, .int .u64 0, .slice none 0 0], fun _ => 0, 80, rfl, rfl, (fun o => match o with | 0 => ⟨fun _ => rfl, fun h => absurd h (by decide), fun h => absurd h (by decide)⟩ | 1 => ⟨fun _ => rfl, fun h => absurd h (by decide), fun h => absurd h (by decide)⟩ | 2 => ⟨fun _ => rfl, fun h => absurd h (by decide), fun h => absurd h (by decide)⟩ | 3 => ⟨fun _ => rfl, fun h => absurd h (by decide), fun h => absurd h (by decide)⟩ | 4 => ⟨fun _ => rfl, fun h => absurd h (by decide), fun h => absurd h (by decide)⟩ | 5 => ⟨fun _ => rfl, fun h => absurd h (by decide), fun h => absurd h (by decide)⟩ | 6 => ⟨fun h => absurd h (by decide), fun h => absurd h (by decide), fun _ => ⟨none, 0, 0, rfl, natW_nil _ _, by decide⟩⟩ | k + 7 => ⟨fun h => absurd h (by simp [kd_Move]), fun h => absurd h (by simp [kd_Move]), fun h => absurd h (by simp [kd_Move])⟩), fun h => absurd (hE0.out.symm.trans h) hE1, fun _ => ⟨rfl, rfl⟩⟩, KZbel.out⟩
end Rc
end Go.Proofs.YtenlhceceplldaaGreat
