/- Several texts, joined: GnX. -/
import Derived.Test.YtpoifdokmjhclaaGreatJyp
import Derived.Test.YtpoifdokmjhclaaGreatJyl
namespace Go.Proofs.YtpoifdokmjhclaaGreat
namespace Gn
open Go.RowKit Go.Lib Pg Lim Gl Mg
attribute [local go_sem] Oper.semAt_some
set_option maxRecDepth 100000
set_option linter.unusedVariables false
set_option linter.unusedSimpArgs false
set_option maxHeartbeats 2000000
theorem nlY {w w' : World} {B b n k o : Nat} {ao : Option Addr} {l : List Int} (N : Nl w ao n k b o l) (Y : Byt B w w') (hb : 0 < n → b < B) : Nl w' ao n k b o l := ⟨N.len, N.ptr, fun i hi => by
  have hc := N.cell i hi
  rw [World.cell?_of_block (w := w) (Y.low b (hb (by rcases Nat.eq_zero_or_pos n with h | h; (rw [h] at hi; omega); exact h)) (cell_lt hc))]
  exact hc, N.rng⟩
theorem run_ldn {ρ : Operand → Value} {o : Oper} {W : World} {b off n k : Nat} {ao : Option Addr} {A : List Int} (N : Nl W ao n k b off A) (j f : Nat) (hj : j < n * k) (hf : f = off + j) (ho : ∃ p, o.op = .load 22 p ∧ ρ p = .pointer (some ⟨b, f, none⟩) := by exact ⟨_, rfl, by kernel_rfl⟩) : (execOp ρ o).run Tryz.prog W = .ok (.value (.int .u64 (nth A j))) W := by
  obtain ⟨p, h, hp⟩ := ho
  subst hf
  have c := N.cell j hj
  have : (loadVar 22 ⟨b, off + j, none⟩).run Tryz.prog W = .ok (.int .u64 (nth A j)) W := by go_simp
  simp only [execOp, h, hp]
  simp [Instr.loadAt, Instr.sureAddr, Result.andThen, this]
theorem cv_iU {ρ : Operand → Value} {w : World} {o : Oper} (k : Int) (hk : 0 ≤ k ∧ k < 18446744073709551616) (ho : ∃ u, o.op = .convert 3 22 u ∧ ρ u = .int .i64 k := by exact ⟨_, rfl, by kernel_rfl⟩) : (execOp ρ o).run Tryz.prog w = .ok (.value (.int .u64 k)) w := by
  obtain ⟨u, h, h1⟩ := ho
  simp only [execOp, h, h1]
  go_simp
  rw [IntKind.wrap_u64]
  omega
theorem pu8 {w : World} {B : Nat} {x : Int} {v : Value} {L : List Int} (hM : MineB w B v L) (hB : B ≤ w.heap.size) (hL : L.length ≤ 1000000) :
    Calls Tryz.prog 35 #[v, .int .i64 8, .int .u64 x] w fun e w' => ∃ v', e = .returned v' ∧ MineB w' B v' (L ++ be 8 x) ∧ Byt B w w' := put_any (n := 8) hM hB (by decide) (by omega)
theorem pu4 {w : World} {B : Nat} {x : Int} {v : Value} {L : List Int} (hM : MineB w B v L) (hB : B ≤ w.heap.size) (hL : L.length ≤ 1000000) :
    Calls Tryz.prog 35 #[v, .int .i64 4, .int .u64 x] w fun e w' => ∃ v', e = .returned v' ∧ MineB w' B v' (L ++ be 4 x) ∧ Byt B w w' := put_any (n := 4) hM hB (by decide) (by omega)
theorem nil_mine {w : World} {B : Nat} : MineB w B (.slice none 0 0) [] := ⟨by simp, .inl ⟨rfl, rfl⟩⟩
theorem app_ml {w : World} {B B2 : Nat} {v u : Value} {L l : List Int} (hM : MineB w B v L) (hU : MineB w B2 u l) (ho : Octets l) (hl : l.length = 80) (hB : B ≤ w.heap.size) (hL : L.length ≤ 1000000) :
    ∃ v' w', (Builtin.append_ #[29, 29] 29 #[v, u]).run Tryz.prog w = .ok v' w' ∧ MineB w' B v' (L ++ l) ∧ Byt B w w' := by
  obtain ⟨i0, hi, hz0, hz1, hz2⟩ := info_parts info_u8
  obtain ⟨b, ao, c, rfl, -, A⟩ := hU.bya ho
  obtain ⟨o, h1, h2, h3, h4, h5⟩ := A.ex
  cases ao with
  | none => rcases h5.loc with e | e
            · subst e; simp at hl
            · cases e
  | some x =>
    have H := run_append_own (P := Tryz.prog) w B 29 29 5 i0 (.int .u8 0) 1 1 under_bytes hi hz0 hz1 hz2 rfl (by decide) v L.length (L.map (Value.int .u8)) hM x l.length c (l.map (Value.int .u8)) (by rw [List.length_map, Nat.mul_one]) (atB_src h5) (ints_oneCell _ _) (by unfold maxLen; omega) (by omega) hB
    obtain ⟨v', w', g1, g2, g3, -⟩ := H
    exact ⟨v', w', g1, mineB_app g2 rfl, Byt.grown hM g3⟩
theorem par_put {w : World} {p0 p1 p2 p3 p4 p5 p6 p7 p8 p9 : Int} : Calls Tryz.prog 36 #[.agg #[.int .u64 p0, .int .u64 p1, .int .u64 p2, .int .u64 p3, .int .u64 p4, .int .u64 p5, .int .u64 p6, .int .u64 p7, .int .u64 p8, .int .u64 p9]] w fun e w' => ∃ v, e = .returned v ∧ MineB w' w.heap.size v (w8 [p0, p1, p2, p3, p4, p5, p6, p7, p8, p9]) ∧ Below w.heap.size w w' := by
  refine Rc.rPutParams.mono ?_
  rintro e w' ⟨v, rfl, M, B⟩
  refine ⟨v, rfl, ?_, B⟩
  have h : Rc.thr (Rc.pnx (fun o => ([p0, p1, p2, p3, p4, p5, p6, p7, p8, p9] : List Int).getD o 0)) [(0, 0), (0, 1), (0, 2), (0, 3), (0, 4), (0, 5), (0, 6), (0, 7), (0, 8), (0, 9)] [] = w8 [p0, p1, p2, p3, p4, p5, p6, p7, p8, p9] := by
    simp [Rc.thr, Rc.pnx, Rc.enc1, w8]
  rw [← h]; exact M
theorem renc21 {w : World} {p0 p1 p2 p3 p4 p5 p6 p7 p8 p9 : Int} {a1 a2 : Option Addr} {na c1 b1 o1 nv c2 b2 o2 : Nat} {A V : List Int} (N1 : Nl w a1 na 2 b1 o1 A) (N2 : Nl w a2 nv 3 b2 o2 V) (h1 : na ≤ 1000) (h2 : nv ≤ 1000) : Calls Tryz.prog 12 #[.agg #[.int .u64 p0, .int .u64 p1, .int .u64 p2, .int .u64 p3, .int .u64 p4, .int .u64 p5, .int .u64 p6, .int .u64 p7, .int .u64 p8, .int .u64 p9, .slice a1 na c1, .slice a2 nv c2]] w fun e w' => ∃ v, e = .returned v ∧ MineB w' w.heap.size v (bG ⟨[p0, p1, p2, p3, p4, p5, p6, p7, p8, p9], A, V⟩ na nv) ∧ Below w.heap.size w w' := by
  have BB := Below.refl w.heap.size w
  have hb1 : 0 < na → b1 < w.heap.size := fun h => N1.lt h (by decide)
  have hb2 : 0 < nv → b2 < w.heap.size := fun h => N2.lt h (by decide)
  have hA := N1.len
  have hV := N2.len
  refine gc_enter (n := 76) Tryz.func12 rfl (by kernel_rfl) (by kernel_rfl) ?_
  refine gc_seq ?_
  refine gc_reg ?_
  refine ta 1 [.int .u64 p0, .int .u64 p1, .int .u64 p2, .int .u64 p3, .int .u64 p4, .int .u64 p5, .int .u64 p6, .int .u64 p7, .int .u64 p8, .int .u64 p9, .slice a1 na c1, .slice a2 nv c2] 28 (pg) ?_
  intro v1 g2 Xg2 hg2 B
  have zg2 := Nat.le_trans BB.size hg2
  replace BB := joinB BB B
  replace N1 := N1.keep B
  replace N2 := N2.keep B
  clear B
  refine t 2 (.slice none 0 0) ?_
  refine gl_nil ?_
  refine ge_then ?_
  refine gc_seq ?_
  refine gc_reg ?_
  refine tc 6 35 #[.slice none 0 0, .int .i64 4, .int .u64 1196183089] (pu4 (x := 1196183089) nil_mine BB.size (by (try simp only [List.length_append, be_length, w8_len, List.length_cons, List.length_nil, List.length_take, N1.len, N2.len]); omega)) ?_
  rintro _ v4 ⟨Vm3, rfl, m3, Y⟩
  refine ⟨_, rfl, ?_⟩
  replace BB := Byt.below Y BB (Nat.le_refl _) (Nat.le_refl _)
  replace N1 := nlY N1 Y hb1
  replace N2 := nlY N2 Y hb2
  replace Xg2 := Blk.byt Xg2 Y (by decide)
  clear Y
  refine t 3 (Vm3) ?_
  refine gl_nil ?_
  refine ge_then ?_
  refine gc_seq ?_
  refine gc_reg ?_
  refine t 7 (Vm3) ?_
  refine t 8 (pg g2) ?_
  refine tlr 9 [.int .u64 p0, .int .u64 p1, .int .u64 p2, .int .u64 p3, .int .u64 p4, .int .u64 p5, .int .u64 p6, .int .u64 p7, .int .u64 p8, .int .u64 p9] Xg2 0 ?_
  refine tc 10 36 #[.agg #[.int .u64 p0, .int .u64 p1, .int .u64 p2, .int .u64 p3, .int .u64 p4, .int .u64 p5, .int .u64 p6, .int .u64 p7, .int .u64 p8, .int .u64 p9]] (par_put) ?_
  rintro _ v6 ⟨Vm5, rfl, m5, B⟩
  refine ⟨_, rfl, ?_⟩
  replace BB := joinB BB B
  replace N1 := N1.keep B
  replace N2 := N2.keep B
  replace Xg2 := Xg2.keep B
  replace m3 := mineB_keep m3 B
  clear B
  obtain ⟨Vm7, v8, hr, m7, Y⟩ := app_ml m3 m5 (w8_oct _) (by rw [w8_len]; rfl) BB.size (by (try simp only [List.length_append, be_length, w8_len, List.length_cons, List.length_nil, List.length_take, N1.len, N2.len]); omega)
  refine tw 11 Vm7 _ (run_apB hr) ?_
  clear hr
  replace BB := Byt.below Y BB (Nat.le_refl _) (Nat.le_refl _)
  replace N1 := nlY N1 Y hb1
  replace N2 := nlY N2 Y hb2
  replace Xg2 := Blk.byt Xg2 Y (by decide)
  clear m3
  clear m5
  clear Y
  refine t 3 (Vm7) ?_
  refine gl_nil ?_
  refine ge_then ?_
  refine gc_seq ?_
  refine gc_reg ?_
  refine t 12 (Vm7) ?_
  refine t 13 (pq g2 10) ?_
  refine tl 14 (.slice a1 na c1) Xg2 10 ?_
  refine t 15 (.int .i64 ((na : Nat) : Int)) ?_
  refine tr 16 (.int .u64 ((na : Nat) : Int)) (cv_iU ((na : Nat) : Int) ⟨by omega, by omega⟩) ?_
  refine tc 17 35 #[Vm7, .int .i64 4, .int .u64 ((na : Nat) : Int)] (pu4 (x := ((na : Nat) : Int)) m7 BB.size (by (try simp only [List.length_append, be_length, w8_len, List.length_cons, List.length_nil, List.length_take, N1.len, N2.len]); omega)) ?_
  rintro _ v10 ⟨Vm9, rfl, m9, Y⟩
  refine ⟨_, rfl, ?_⟩
  replace BB := Byt.below Y BB (Nat.le_refl _) (Nat.le_refl _)
  replace N1 := nlY N1 Y hb1
  replace N2 := nlY N2 Y hb2
  replace Xg2 := Blk.byt Xg2 Y (by decide)
  clear m7
  clear Y
  refine t 3 (Vm9) ?_
  refine gl_nil ?_
  refine ge_then ?_
  refine gc_fr [(1, pg g2), (2, .slice none 0 0), (3, Vm9)] (by kernel_rfl) ?_
  refine gc_seq ?_
  refine gc_seq ?_
  refine gc_reg ?_
  refine t 4 (.int .i64 0) ?_
  refine gl_nil ?_
  refine ge_then ?_
  refine gc_block ?_
  refine gc_loop (fun s => na - s.2) (fun (s : Value × Nat) => [(1, pg g2), (3, s.1), (4, .int .i64 ((s.2 : Nat) : Int))]) (fun s w' => s.2 ≤ na ∧ MineB w' w.heap.size s.1 (([] : List Int) ++ be 4 1196183089 ++ w8 [p0, p1, p2, p3, p4, p5, p6, p7, p8, p9] ++ be 4 ((na : Nat) : Int) ++ w8 (A.take (s.2 * 2))) ∧ Blk w' g2 [.int .u64 p0, .int .u64 p1, .int .u64 p2, .int .u64 p3, .int .u64 p4, .int .u64 p5, .int .u64 p6, .int .u64 p7, .int .u64 p8, .int .u64 p9, .slice a1 na c1, .slice a2 nv c2] 28 ∧ Nl w' a1 na 2 b1 o1 A ∧ Nl w' a2 nv 3 b2 o2 V ∧ Below w.heap.size w w') ((Vm9, 0) : Value × Nat) ⟨Nat.zero_le _, by rw [Nat.zero_mul, List.take_zero]; show MineB _ _ _ (_ ++ []); rw [List.append_nil]; exact m9, Xg2, N1, N2, BB⟩ (by kernel_rfl) ?_
  clear BB m9 Xg2 N1 N2
  rintro ⟨VV, i⟩ v11 ⟨hi, M, Xg2, N1, N2, BB⟩
  dsimp only at hi M
  have lXg2 := Xg2.lt
  refine gc_seq ?_
  refine gc_seq ?_
  refine gc_reg ?_
  refine t 18 (.int .i64 (i : Int)) ?_
  refine t 19 (pq g2 10) ?_
  refine tl 20 (.slice a1 na c1) Xg2 10 ?_
  refine t 21 (.int .i64 ((na : Nat) : Int)) ?_
  by_cases ci : (i : Int) < ((na : Nat) : Int)
  · have hk_i : i < na := by omega
    refine tq 22 (.bool (decide ((i : Int) < ((na : Nat) : Int)))) (.bool true) (congrArg Value.bool (decide_eq_true ci)) ?_
    refine gl_nil ?_
    refine ge_then ?_
    refine gc_yes ?_
    refine gc_skip ?_
    refine ge_then ?_
    refine gc_seq ?_
    refine gc_block ?_
    replace BB := BB.drew
    replace N1 := N1.keep (Below.refl _ _).drew
    replace N2 := N2.keep (Below.refl _ _).drew
    replace Xg2 := Xg2.drew
    replace M := mineB_keep M (Below.refl _ _).drew
    refine gc_draw (fun w' => Blk w' g2 [.int .u64 p0, .int .u64 p1, .int .u64 p2, .int .u64 p3, .int .u64 p4, .int .u64 p5, .int .u64 p6, .int .u64 p7, .int .u64 p8, .int .u64 p9, .slice a1 na c1, .slice a2 nv c2] 28 ∧ Nl w' a1 na 2 b1 o1 A) (fun _ => false) ⟨Xg2, N1⟩ ?_
    refine z 0 25 (VV) ?_
    refine z 1 26 (pq g2 10) ?_
    refine zl 2 27 (.slice a1 na c1) (fun _ h => h.1) 10 ?_
    refine z 3 28 (.int .i64 (i : Int)) ?_
    refine zr 4 29 (pq b1 (o1 + i * 2)) (fun _ _ => run_ixa 2 b1 o1 na c1 i hk_i N1.ptr) ?_
    refine z 5 30 (pq b1 (o1 + i * 2)) ?_
    refine zr 6 31 (.int .u64 (nth A (i * 2))) (fun _ h => run_ldn h.2 (i * 2) (o1 + i * 2) (by omega) (by omega)) ?_
    refine z 8 33 (pq g2 10) ?_
    refine zl 9 34 (.slice a1 na c1) (fun _ h => h.1) 10 ?_
    refine z 10 35 (.int .i64 (i : Int)) ?_
    refine zr 11 36 (pq b1 (o1 + i * 2)) (fun _ _ => run_ixa 2 b1 o1 na c1 i hk_i N1.ptr) ?_
    refine z 12 37 (pq b1 (o1 + i * 2 + 1)) ?_
    refine zr 13 38 (.int .u64 (nth A (i * 2 + 1))) (fun _ h => run_ldn h.2 (i * 2 + 1) (o1 + i * 2 + 1) (by omega) (by omega)) ?_
    refine zc 7 32 35 #[VV, .int .i64 8, .int .u64 (nth A (i * 2))] (pu8 (x := (nth A (i * 2))) M BB.size (by (try simp only [List.length_append, be_length, w8_len, List.length_cons, List.length_nil, List.length_take, N1.len, N2.len]); omega)) ?_
    rintro _ v13 ⟨Vm12, rfl, m12, Y⟩
    replace BB := Byt.below Y BB (Nat.le_refl _) (Nat.le_refl _)
    replace N1 := nlY N1 Y hb1
    replace N2 := nlY N2 Y hb2
    replace Xg2 := Blk.byt Xg2 Y (by decide)
    clear M
    clear Y
    refine ⟨_, rfl, ⟨Xg2, N1⟩, ?_⟩
    refine zc 14 39 35 #[Vm12, .int .i64 8, .int .u64 (nth A (i * 2 + 1))] (pu8 (x := (nth A (i * 2 + 1))) m12 BB.size (by (try simp only [List.length_append, be_length, w8_len, List.length_cons, List.length_nil, List.length_take, N1.len, N2.len]); omega)) ?_
    rintro _ v15 ⟨Vm14, rfl, m14, Y⟩
    replace BB := Byt.below Y BB (Nat.le_refl _) (Nat.le_refl _)
    replace N1 := nlY N1 Y hb1
    replace N2 := nlY N2 Y hb2
    replace Xg2 := Blk.byt Xg2 Y (by decide)
    clear m12
    clear Y
    refine ⟨_, rfl, ⟨Xg2, N1⟩, ?_⟩
    refine z 15 3 (Vm14) ?_
    refine gz_done ?_
    refine ge_bn ?_
    refine ge_then ?_
    refine gc_fr [(1, pg g2), (3, Vm14), (4, .int .i64 (i : Int)), (18, .int .i64 (i : Int)), (19, pq g2 10), (20, .slice a1 na c1), (21, .int .i64 ((na : Nat) : Int)), (22, .bool true), (25, VV), (26, pq g2 10), (27, .slice a1 na c1), (28, .int .i64 (i : Int)), (29, pq b1 (o1 + i * 2)), (30, pq b1 (o1 + i * 2)), (31, .int .u64 (nth A (i * 2))), (32, Vm12), (33, pq g2 10), (34, .slice a1 na c1), (35, .int .i64 (i : Int)), (36, pq b1 (o1 + i * 2)), (37, pq b1 (o1 + i * 2 + 1)), (38, .int .u64 (nth A (i * 2 + 1))), (39, Vm14)] (by kernel_rfl) ?_
    refine gc_reg ?_
    refine t 23 (.int .i64 (i : Int)) ?_
    refine tq 24 (.int .i64 (IntKind.i64.wrap ((i : Int) + 1))) (.int .i64 ((i : Int) + 1)) (wi (by omega)) ?_
    refine t 4 (.int .i64 ((i : Int) + 1)) ?_
    refine gl_nil ?_
    exact ge_round ((Vm14, i + 1) : Value × Nat) (by show na - (i + 1) < na - i; omega) ⟨hk_i, by show MineB _ _ _ _; rw [← w8_tk2 hA hk_i]; simpa only [w8, List.append_nil, List.append_assoc] using m14, Xg2, N1, N2, BB⟩ (by kernel_rfl)
  · refine tq 22 (.bool (decide ((i : Int) < ((na : Nat) : Int)))) (.bool false) (congrArg Value.bool (decide_eq_false ci)) ?_
    refine gl_nil ?_
    refine ge_then ?_
    refine gc_no ?_
    refine gc_exit ?_
    refine ge_tx ?_
    refine ge_tx ?_
    refine ge_bx ?_
    refine ge_then ?_
    refine gc_seq ?_
    obtain rfl : na = i := by omega
    rw [List.take_of_length_le (l := A) (by omega)] at M
    have hA := N1.len
    have hV := N2.len
    refine gc_reg ?_
    refine t 40 (VV) ?_
    refine t 41 (pq g2 11) ?_
    refine tl 42 (.slice a2 nv c2) Xg2 11 ?_
    refine t 43 (.int .i64 ((nv : Nat) : Int)) ?_
    refine tr 44 (.int .u64 ((nv : Nat) : Int)) (cv_iU ((nv : Nat) : Int) ⟨by omega, by omega⟩) ?_
    refine tc 45 35 #[VV, .int .i64 4, .int .u64 ((nv : Nat) : Int)] (pu4 (x := ((nv : Nat) : Int)) M BB.size (by (try simp only [List.length_append, be_length, w8_len, List.length_cons, List.length_nil, List.length_take, N1.len, N2.len]); omega)) ?_
    rintro _ v17 ⟨Vm16, rfl, m16, Y⟩
    refine ⟨_, rfl, ?_⟩
    replace BB := Byt.below Y BB (Nat.le_refl _) (Nat.le_refl _)
    replace N1 := nlY N1 Y hb1
    replace N2 := nlY N2 Y hb2
    replace Xg2 := Blk.byt Xg2 Y (by decide)
    clear M
    clear Y
    refine t 3 (Vm16) ?_
    refine gl_nil ?_
    refine ge_then ?_
    refine gc_seq ?_
    refine gc_seq ?_
    refine gc_reg ?_
    refine t 5 (.int .i64 0) ?_
    refine gl_nil ?_
    refine ge_then ?_
    refine gc_block ?_
    refine gc_loop (fun s => nv - s.2) (fun (s : Value × Nat) => [(1, pg g2), (3, s.1), (5, .int .i64 ((s.2 : Nat) : Int))]) (fun s w' => s.2 ≤ nv ∧ MineB w' w.heap.size s.1 (([] : List Int) ++ be 4 1196183089 ++ w8 [p0, p1, p2, p3, p4, p5, p6, p7, p8, p9] ++ be 4 ((na : Nat) : Int) ++ w8 A ++ be 4 ((nv : Nat) : Int) ++ w8 (V.take (s.2 * 3))) ∧ Blk w' g2 [.int .u64 p0, .int .u64 p1, .int .u64 p2, .int .u64 p3, .int .u64 p4, .int .u64 p5, .int .u64 p6, .int .u64 p7, .int .u64 p8, .int .u64 p9, .slice a1 na c1, .slice a2 nv c2] 28 ∧ Nl w' a1 na 2 b1 o1 A ∧ Nl w' a2 nv 3 b2 o2 V ∧ Below w.heap.size w w') ((Vm16, 0) : Value × Nat) ⟨Nat.zero_le _, by rw [Nat.zero_mul, List.take_zero]; show MineB _ _ _ (_ ++ []); rw [List.append_nil]; exact m16, Xg2, N1, N2, BB⟩ (by kernel_rfl) ?_
    clear BB m16 Xg2 N1 N2
    rintro ⟨VV, i⟩ v18 ⟨hi, M, Xg2, N1, N2, BB⟩
    dsimp only at hi M
    have lXg2 := Xg2.lt
    refine gc_seq ?_
    refine gc_seq ?_
    refine gc_reg ?_
    refine t 46 (.int .i64 (i : Int)) ?_
    refine t 47 (pq g2 11) ?_
    refine tl 48 (.slice a2 nv c2) Xg2 11 ?_
    refine t 49 (.int .i64 ((nv : Nat) : Int)) ?_
    by_cases ci : (i : Int) < ((nv : Nat) : Int)
    · have hk_i : i < nv := by omega
      refine tq 50 (.bool (decide ((i : Int) < ((nv : Nat) : Int)))) (.bool true) (congrArg Value.bool (decide_eq_true ci)) ?_
      refine gl_nil ?_
      refine ge_then ?_
      refine gc_yes ?_
      refine gc_skip ?_
      refine ge_then ?_
      refine gc_seq ?_
      refine gc_block ?_
      replace BB := BB.drew
      replace N1 := N1.keep (Below.refl _ _).drew
      replace N2 := N2.keep (Below.refl _ _).drew
      replace Xg2 := Xg2.drew
      replace M := mineB_keep M (Below.refl _ _).drew
      refine gc_draw (fun w' => Blk w' g2 [.int .u64 p0, .int .u64 p1, .int .u64 p2, .int .u64 p3, .int .u64 p4, .int .u64 p5, .int .u64 p6, .int .u64 p7, .int .u64 p8, .int .u64 p9, .slice a1 na c1, .slice a2 nv c2] 28 ∧ Nl w' a2 nv 3 b2 o2 V) (fun _ => false) ⟨Xg2, N2⟩ ?_
      refine z 0 53 (VV) ?_
      refine z 1 54 (pq g2 11) ?_
      refine zl 2 55 (.slice a2 nv c2) (fun _ h => h.1) 11 ?_
      refine z 3 56 (.int .i64 (i : Int)) ?_
      refine zr 4 57 (pq b2 (o2 + i * 3)) (fun _ _ => run_ixa 3 b2 o2 nv c2 i hk_i N2.ptr) ?_
      refine z 5 58 (pq b2 (o2 + i * 3)) ?_
      refine zr 6 59 (.int .u64 (nth V (i * 3))) (fun _ h => run_ldn h.2 (i * 3) (o2 + i * 3) (by omega) (by omega)) ?_
      refine z 8 61 (pq g2 11) ?_
      refine zl 9 62 (.slice a2 nv c2) (fun _ h => h.1) 11 ?_
      refine z 10 63 (.int .i64 (i : Int)) ?_
      refine zr 11 64 (pq b2 (o2 + i * 3)) (fun _ _ => run_ixa 3 b2 o2 nv c2 i hk_i N2.ptr) ?_
      refine z 12 65 (pq b2 (o2 + i * 3 + 1)) ?_
      refine zr 13 66 (.int .u64 (nth V (i * 3 + 1))) (fun _ h => run_ldn h.2 (i * 3 + 1) (o2 + i * 3 + 1) (by omega) (by omega)) ?_
      refine z 15 68 (pq g2 11) ?_
      refine zl 16 69 (.slice a2 nv c2) (fun _ h => h.1) 11 ?_
      refine z 17 70 (.int .i64 (i : Int)) ?_
      refine zr 18 71 (pq b2 (o2 + i * 3)) (fun _ _ => run_ixa 3 b2 o2 nv c2 i hk_i N2.ptr) ?_
      refine z 19 72 (pq b2 (o2 + i * 3 + 2)) ?_
      refine zr 20 73 (.int .u64 (nth V (i * 3 + 2))) (fun _ h => run_ldn h.2 (i * 3 + 2) (o2 + i * 3 + 2) (by omega) (by omega)) ?_
      refine zc 7 60 35 #[VV, .int .i64 8, .int .u64 (nth V (i * 3))] (pu8 (x := (nth V (i * 3))) M BB.size (by (try simp only [List.length_append, be_length, w8_len, List.length_cons, List.length_nil, List.length_take, N1.len, N2.len]); omega)) ?_
      rintro _ v20 ⟨Vm19, rfl, m19, Y⟩
      replace BB := Byt.below Y BB (Nat.le_refl _) (Nat.le_refl _)
      replace N1 := nlY N1 Y hb1
      replace N2 := nlY N2 Y hb2
      replace Xg2 := Blk.byt Xg2 Y (by decide)
      clear M
      clear Y
      refine ⟨_, rfl, ⟨Xg2, N2⟩, ?_⟩
      refine zc 14 67 35 #[Vm19, .int .i64 8, .int .u64 (nth V (i * 3 + 1))] (pu8 (x := (nth V (i * 3 + 1))) m19 BB.size (by (try simp only [List.length_append, be_length, w8_len, List.length_cons, List.length_nil, List.length_take, N1.len, N2.len]); omega)) ?_
      rintro _ v22 ⟨Vm21, rfl, m21, Y⟩
      replace BB := Byt.below Y BB (Nat.le_refl _) (Nat.le_refl _)
      replace N1 := nlY N1 Y hb1
      replace N2 := nlY N2 Y hb2
      replace Xg2 := Blk.byt Xg2 Y (by decide)
      clear m19
      clear Y
      refine ⟨_, rfl, ⟨Xg2, N2⟩, ?_⟩
      refine zc 21 74 35 #[Vm21, .int .i64 8, .int .u64 (nth V (i * 3 + 2))] (pu8 (x := (nth V (i * 3 + 2))) m21 BB.size (by (try simp only [List.length_append, be_length, w8_len, List.length_cons, List.length_nil, List.length_take, N1.len, N2.len]); omega)) ?_
      rintro _ v24 ⟨Vm23, rfl, m23, Y⟩
      replace BB := Byt.below Y BB (Nat.le_refl _) (Nat.le_refl _)
      replace N1 := nlY N1 Y hb1
      replace N2 := nlY N2 Y hb2
      replace Xg2 := Blk.byt Xg2 Y (by decide)
      clear m21
      clear Y
      refine ⟨_, rfl, ⟨Xg2, N2⟩, ?_⟩
      refine z 22 3 (Vm23) ?_
      refine gz_done ?_
      refine ge_bn ?_
      refine ge_then ?_
      refine gc_fr [(1, pg g2), (3, Vm23), (5, .int .i64 (i : Int)), (46, .int .i64 (i : Int)), (47, pq g2 11), (48, .slice a2 nv c2), (49, .int .i64 ((nv : Nat) : Int)), (50, .bool true), (53, VV), (54, pq g2 11), (55, .slice a2 nv c2), (56, .int .i64 (i : Int)), (57, pq b2 (o2 + i * 3)), (58, pq b2 (o2 + i * 3)), (59, .int .u64 (nth V (i * 3))), (60, Vm19), (61, pq g2 11), (62, .slice a2 nv c2), (63, .int .i64 (i : Int)), (64, pq b2 (o2 + i * 3)), (65, pq b2 (o2 + i * 3 + 1)), (66, .int .u64 (nth V (i * 3 + 1))), (67, Vm21), (68, pq g2 11), (69, .slice a2 nv c2), (70, .int .i64 (i : Int)), (71, pq b2 (o2 + i * 3)), (72, pq b2 (o2 + i * 3 + 2)), (73, .int .u64 (nth V (i * 3 + 2))), (74, Vm23)] (by kernel_rfl) ?_
      refine gc_reg ?_
      refine t 51 (.int .i64 (i : Int)) ?_
      refine tq 52 (.int .i64 (IntKind.i64.wrap ((i : Int) + 1))) (.int .i64 ((i : Int) + 1)) (wi (by omega)) ?_
      refine t 5 (.int .i64 ((i : Int) + 1)) ?_
      refine gl_nil ?_
      exact ge_round ((Vm23, i + 1) : Value × Nat) (by show nv - (i + 1) < nv - i; omega) ⟨hk_i, by show MineB _ _ _ _; rw [← w8_tk3 hV hk_i]; simpa only [w8, List.append_nil, List.append_assoc] using m23, Xg2, N1, N2, BB⟩ (by kernel_rfl)
    · refine tq 50 (.bool (decide ((i : Int) < ((nv : Nat) : Int)))) (.bool false) (congrArg Value.bool (decide_eq_false ci)) ?_
      refine gl_nil ?_
      refine ge_then ?_
      refine gc_no ?_
      refine gc_exit ?_
      refine ge_tx ?_
      refine ge_tx ?_
      refine ge_bx ?_
      refine ge_then ?_
      refine gc_seq ?_
      obtain rfl : nv = i := by omega
      rw [List.take_of_length_le (l := V) (by omega)] at M
      have hA := N1.len
      have hV := N2.len
      refine gc_reg ?_
      refine t 75 (VV) ?_
      refine t 2 (VV) ?_
      refine gl_nil ?_
      refine ge_then ?_
      refine gc_ret ?_
      refine ge_ret (VV) (rs1 2 (by kernel_rfl) (by kernel_rfl)) ?_
      refine ⟨VV, rfl, ?_, BB⟩
      rw [show bG ⟨[p0, p1, p2, p3, p4, p5, p6, p7, p8, p9], A, V⟩ _ _ = (([] : List Int) ++ be 4 1196183089 ++ w8 [p0, p1, p2, p3, p4, p5, p6, p7, p8, p9] ++ be 4 ((na : Nat) : Int) ++ w8 A ++ be 4 ((nv : Nat) : Int) ++ w8 V) from by simp only [bG, mk0, List.nil_append, List.append_assoc]]
      exact M
end Gn
end Go.Proofs.YtpoifdokmjhclaaGreat
