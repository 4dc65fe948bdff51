/- Several texts, joined: GnB. -/
import Derived.Test.YtpoifdokmjhclaaGreatJye
import Derived.Test.YtpoifdokmjhclaaGreatJyb
import Derived.Test.YtpoifdokmjhclaaGreatJym
namespace Go.Proofs.YtpoifdokmjhclaaGreat
namespace Gn
open Go.RowKit Go.Lib Pg Lim Gl Mg
attribute [local go_sem] Oper.semAt_some
set_option maxRecDepth 100000
set_option linter.unusedVariables false
set_option linter.unusedSimpArgs false
set_option maxHeartbeats 2000000
theorem cellB {w W : World} {b o : Nat} {v : Value} (B : Below w.heap.size w W) (h : w.cell? ⟨b, o, none⟩ = some v) : W.cell? ⟨b, o, none⟩ = some v := by
  rw [World.cell?_of_block (w := w) (B.block b (cell_lt h))]; exact h
theorem run_ixa {P : Program} {ρ : Operand → Value} {o : Oper} {w : World} {ao : Option Addr} (sz b off n c k : Nat) (hk : k < n) (hao : 0 < n → ao = some ⟨b, off, none⟩) (ho : ∃ T x y, o.op = .indexAddr T x y ∧ slT P T sz = true ∧ ρ x = .slice ao n c ∧ ρ y = .int .i64 (k : Int) := by exact ⟨_, _, _, rfl, by kernel_rfl, by kernel_rfl, by kernel_rfl⟩) : (execOp ρ o).run P w = .ok (.value (.pointer (some ⟨b, off + k * sz, none⟩))) w := by
  rw [hao (by omega)] at ho
  exact run_ixs sz b off n c k hk ho
/-- n elements of k numbers each, wherever they lie -/
structure Nl (w : World) (ao : Option Addr) (n k b o : Nat) (l : List Int) : Prop where
  len : l.length = n * k
  ptr : 0 < n → ao = some ⟨b, o, none⟩
  cell : ∀ i, i < n * k → w.cell? ⟨b, o + i, none⟩ = some (.int .u64 (nth l i))
  rng : ∀ x ∈ l, In8 x
theorem Nl.keep {w w' : World} {ao : Option Addr} {n k b o : Nat} {l : List Int} (N : Nl w ao n k b o l) (B : Below w.heap.size w w') : Nl w' ao n k b o l := ⟨N.len, N.ptr, fun i hi => cellB B (N.cell i hi), N.rng⟩
theorem Nl.lt {w : World} {ao : Option Addr} {n k b o : Nat} {l : List Int} (N : Nl w ao n k b o l) (hn : 0 < n) (hk : 0 < k) : b < w.heap.size := cell_lt (N.cell 0 (Nat.mul_pos hn hk))
theorem ldP {w : World} {g o : Nat} {v0 v1 : Value} (c0 : w.cell? ⟨g, o, none⟩ = some v0) (c1 : w.cell? ⟨g, o + 1, none⟩ = some v1) : (loadVar 43 ⟨g, o, none⟩).run Tryz.prog w = .ok (.agg #[v0, v1]) w := by go_simp
theorem ldF {w : World} {g o : Nat} {v0 v1 v2 : Value} (c0 : w.cell? ⟨g, o, none⟩ = some v0) (c1 : w.cell? ⟨g, o + 1, none⟩ = some v1) (c2 : w.cell? ⟨g, o + 2, none⟩ = some v2) : (loadVar 45 ⟨g, o, none⟩).run Tryz.prog w = .ok (.agg #[v0, v1, v2]) w := by go_simp
theorem run_ldP {ρ : Operand → Value} {o : Oper} {w W : World} {b off n k : Nat} {ao : Option Addr} {A : List Int} (S : Nl w ao n 2 b off A) (hk : k < n) (H : ∀ i v, w.cell? ⟨b, i, none⟩ = some v → W.cell? ⟨b, i, none⟩ = some v) (ho : ∃ p, o.op = .load 43 p ∧ ρ p = .pointer (some ⟨b, off + k * 2, none⟩) := by exact ⟨_, rfl, by kernel_rfl⟩) : (execOp ρ o).run Tryz.prog W = .ok (.value (.agg #[.int .u64 (nth A (k * 2)), .int .u64 (nth A (k * 2 + 1))])) W := by
  obtain ⟨p, h, hp⟩ := ho
  have := ldP (H _ _ (S.cell (k * 2) (by omega))) (H _ _ (S.cell (k * 2 + 1) (by omega)))
  simp only [execOp, h, hp]
  simp [Instr.loadAt, Instr.sureAddr, Result.andThen, this]
theorem run_ldF {ρ : Operand → Value} {o : Oper} {w W : World} {b off n k : Nat} {ao : Option Addr} {A : List Int} (S : Nl w ao n 3 b off A) (hk : k < n) (H : ∀ i v, w.cell? ⟨b, i, none⟩ = some v → W.cell? ⟨b, i, none⟩ = some v) (ho : ∃ p, o.op = .load 45 p ∧ ρ p = .pointer (some ⟨b, off + k * 3, none⟩) := by exact ⟨_, rfl, by kernel_rfl⟩) : (execOp ρ o).run Tryz.prog W = .ok (.value (.agg #[.int .u64 (nth A (k * 3)), .int .u64 (nth A (k * 3 + 1)), .int .u64 (nth A (k * 3 + 2))])) W := by
  obtain ⟨p, h, hp⟩ := ho
  have := ldF (H _ _ (S.cell (k * 3) (by omega))) (H _ _ (S.cell (k * 3 + 1) (by omega))) (H _ _ (S.cell (k * 3 + 2) (by omega)))
  simp only [execOp, h, hp]
  simp [Instr.loadAt, Instr.sureAddr, Result.andThen, this]
theorem nth_take1 (A : List Int) {m : Nat} (h : m < A.length) : A.take (m + 1) = A.take m ++ [nth A m] := by
  rw [List.take_add_one, List.getElem?_eq_getElem h, nth_eq h]; rfl
theorem w8_tk2 {A : List Int} {n i : Nat} (hl : A.length = n * 2) (hi : i < n) (L : List Int) : (L ++ w8 (A.take (i * 2))) ++ w8 [nth A (i * 2), nth A (i * 2 + 1)] = L ++ w8 (A.take ((i + 1) * 2)) := by
  rw [show (i + 1) * 2 = i * 2 + 1 + 1 by omega, nth_take1 A (by omega), nth_take1 A (by omega)]
  simp only [w8_app, w8, List.append_nil, List.append_assoc]
theorem w8_tk3 {A : List Int} {n i : Nat} (hl : A.length = n * 3) (hi : i < n) (L : List Int) : (L ++ w8 (A.take (i * 3))) ++ w8 [nth A (i * 3), nth A (i * 3 + 1), nth A (i * 3 + 2)] = L ++ w8 (A.take ((i + 1) * 3)) := by
  rw [show (i + 1) * 3 = i * 3 + 1 + 1 + 1 by omega, nth_take1 A (by omega), nth_take1 A (by omega), nth_take1 A (by omega)]
  simp only [w8_app, w8, List.append_nil, List.append_assoc]
theorem w8_tk1 {A : List Int} {i : Nat} (hi : i < A.length) (L : List Int) : (L ++ w8 (A.take i)) ++ be 8 (nth A i) = L ++ w8 (A.take (i + 1)) := by
  rw [nth_take1 A hi]
  simp only [w8_app, w8, List.append_nil, List.append_assoc]
theorem zQ64 {w : World} {g : Nat} {x : Int} {L : List Int} (X : WrA w g 0 L) (hL : L.length ≤ 1000000000) : Calls Tryz.prog 53 #[pg g, .int .u64 x] w fun e w' => e = .returned (.tuple #[]) ∧ WrA w' g 0 (L ++ be 8 x) ∧ But g w w' := by
  have h := wrU64 (x := x) X (by omega)
  simp only [wrote, if_pos] at h
  exact h
theorem zQ32 {w : World} {g : Nat} {x : Int} {L : List Int} (X : WrA w g 0 L) (hx : 0 ≤ x ∧ x < 4294967296) (hL : L.length ≤ 1000000000) : Calls Tryz.prog 28 #[pg g, .int .u32 x] w fun e w' => e = .returned (.tuple #[]) ∧ WrA w' g 0 (L ++ be 4 x) ∧ But g w w' := by
  have h := wrU32 X hx.1 hx.2 (by omega)
  simp only [wrote, if_pos] at h
  exact h
theorem wto {w : World} {g : Nat} {e : Int} {L L' : List Int} (X : WrA w g e L) (h : L = L') : WrA w g e L' := h ▸ X
theorem cv_I32 {ρ : Operand → Value} {w : World} {o : Oper} (k : Int) (hk : 0 ≤ k ∧ k < 4294967296) (ho : ∃ u, o.op = .convert 3 64 u ∧ ρ u = .int .i64 k := by exact ⟨_, rfl, by kernel_rfl⟩) : (execOp ρ o).run Tryz.prog w = .ok (.value (.int .u32 k)) w := by
  obtain ⟨u, h, h1⟩ := ho
  simp only [execOp, h, h1]
  go_simp
  rw [show IntKind.u32.wrap k = k % 4294967296 from rfl]
  omega
theorem run_ixT {ρ : Operand → Value} {w : World} {o : Oper} {g : Nat} (k : Nat) (hk : k < 10) (ho : ∃ x y, o.op = .index 112 x y ∧ ρ x = .agg #[pg g, pq g 1, pq g 2, pq g 3, pq g 4, pq g 5, pq g 6, pq g 7, pq g 8, pq g 9] ∧ ρ y = .int .i64 (k : Int) := by exact ⟨_, _, rfl, by kernel_rfl, by kernel_rfl⟩) : (execOp ρ o).run Tryz.prog w = .ok (.value (pq g k)) w := by
  obtain ⟨x, y, h, h1, h2⟩ := ho
  simp only [execOp, h, h1, h2]
  have : k = 0 ∨ k = 1 ∨ k = 2 ∨ k = 3 ∨ k = 4 ∨ k = 5 ∨ k = 6 ∨ k = 7 ∨ k = 8 ∨ k = 9 := by omega
  rcases this with e | e | e | e | e | e | e | e | e | e <;> subst e <;> unfold Instr.index <;> go_simp
theorem fields_any {w : World} (g : Nat) : Calls Tryz.prog 47 #[pg g] w fun e w' => e = .returned (.agg #[pg g, pq g 1, pq g 2, pq g 3, pq g 4, pq g 5, pq g 6, pq g 7, pq g 8, pq g 9]) ∧ Below w.heap.size w w' := by
  have BB := Below.refl w.heap.size w
  refine gc_enter (n := 34) Tryz.func47 rfl (by kernel_rfl) (by kernel_rfl) ?_
  refine gc_seq ?_
  refine gc_reg ?_
  refine ta 2 [.pointer none, .pointer none, .pointer none, .pointer none, .pointer none, .pointer none, .pointer none, .pointer none, .pointer none, .pointer none] 112 (pg) ?_
  intro v1 g2 Xg2 hg2 B
  have zg2 := Nat.le_trans BB.size hg2
  replace BB := joinB BB B
  clear B
  refine gl_nil ?_
  refine ge_then ?_
  refine gc_seq ?_
  replace BB := BB.drew
  replace Xg2 := Xg2.drew
  refine gc_draw (fun _ => True) (fun _ => false) trivial ?_
  refine z 0 3 (pg g) ?_
  refine z 1 4 (pg g) ?_
  refine z 2 5 (pg g) ?_
  refine z 3 6 (pg g) ?_
  refine z 4 7 (pg g) ?_
  refine z 5 8 (pq g 1) ?_
  refine z 6 9 (pg g) ?_
  refine z 7 10 (pg g) ?_
  refine z 8 11 (pq g 2) ?_
  refine z 9 12 (pg g) ?_
  refine z 10 13 (pg g) ?_
  refine z 11 14 (pq g 3) ?_
  refine z 12 15 (pg g) ?_
  refine z 13 16 (pg g) ?_
  refine z 14 17 (pq g 4) ?_
  refine z 15 18 (pg g) ?_
  refine z 16 19 (pg g) ?_
  refine z 17 20 (pq g 5) ?_
  refine z 18 21 (pg g) ?_
  refine z 19 22 (pg g) ?_
  refine z 20 23 (pq g 6) ?_
  refine z 21 24 (pg g) ?_
  refine z 22 25 (pg g) ?_
  refine z 23 26 (pq g 7) ?_
  refine z 24 27 (pg g) ?_
  refine z 25 28 (pg g) ?_
  refine z 26 29 (pq g 8) ?_
  refine z 27 30 (pg g) ?_
  refine z 28 31 (pg g) ?_
  refine z 29 32 (pq g 9) ?_
  refine zr 30 33 (.agg #[pg g, pq g 1, pq g 2, pq g 3, pq g 4, pq g 5, pq g 6, pq g 7, pq g 8, pq g 9]) (by intro _ _; kernel_rfl) ?_
  refine zs 31 Xg2 0 (.agg #[pg g, pq g 1, pq g 2, pq g 3, pq g 4, pq g 5, pq g 6, pq g 7, pq g 8, pq g 9]) [pg g, pq g 1, pq g 2, pq g 3, pq g 4, pq g 5, pq g 6, pq g 7, pq g 8, pq g 9] [pg g, pq g 1, pq g 2, pq g 3, pq g 4, pq g 5, pq g 6, pq g 7, pq g 8, pq g 9] ?_
  intro v3 Y C
  replace BB := belowC BB C (by omega)
  clear C Xg2
  have Xg2 := Y
  clear Y
  refine ⟨trivial, ?_⟩
  refine gz_done ?_
  refine ge_then ?_
  refine gc_fr [(2, pg g2)] (by kernel_rfl) ?_
  refine gc_ret ?_
  refine ge_ret (.agg #[pg g, pq g 1, pq g 2, pq g 3, pq g 4, pq g 5, pq g 6, pq g 7, pq g 8, pq g 9]) (rsc 2 (T := 112) (by kernel_rfl) (by kernel_rfl) (lr Xg2 0)) ?_
  exact ⟨rfl, BB⟩
theorem wPurse {w : World} {g : Nat} {x y : Int} {L : List Int} (X : WrA w g 0 L) (hL : L.length ≤ 100000000) : Calls Tryz.prog 31 #[pg g, .agg #[.int .u64 x, .int .u64 y]] w fun e w' => e = .returned (.tuple #[]) ∧ WrA w' g 0 (L ++ w8 [x, y]) ∧ But g w w' := by
  have BU := But.refl g w
  have WR := X
  have lg := X.lt
  clear X
  refine gc_enter (n := 16) Tryz.func31 rfl (by kernel_rfl) (by kernel_rfl) ?_
  refine gc_seq ?_
  refine gc_reg ?_
  have lWR := WR.lt
  refine ta 3 [.int .u64 x, .int .u64 y] 43 (pg) ?_
  intro v1 g2 Xg2 hg2 B
  have zg2 := Nat.le_trans BU.size hg2
  replace BU := BU.trans (But.of B)
  replace WR := WR.keep B
  clear B
  refine gl_nil ?_
  refine ge_then ?_
  refine gc_seq ?_
  replace BU := BU.drew
  replace WR := WR.keep (Below.refl _ _).drew
  replace Xg2 := Xg2.drew
  refine gc_draw (fun w' => Blk w' g2 [.int .u64 x, .int .u64 y] 43) (fun _ => false) Xg2 ?_
  refine z 0 4 (pg g) ?_
  refine z 1 5 (pg g) ?_
  refine z 2 6 (pg g) ?_
  refine z 3 7 (pg g2) ?_
  refine zl 4 8 (.int .u64 x) (fun _ h => h) 0 ?_
  refine zc 5 9 53 #[pg g, .int .u64 x] (zQ64 WR (by (try simp only [List.length_append, be_length, w8_len, List.length_cons, List.length_nil, List.length_take]); omega)) ?_
  rintro _ v3 ⟨rfl, WX, U⟩
  replace BU := BU.trans U
  replace Xg2 := But.blk U Xg2 (show g2 ≠ g by omega)
  clear U
  clear WR
  have WR := WX
  clear WX
  refine ⟨_, rfl, Xg2, ?_⟩
  refine gz_done ?_
  refine ge_then ?_
  replace BU := BU.drew
  replace WR := WR.keep (Below.refl _ _).drew
  replace Xg2 := Xg2.drew
  refine gc_draw (fun w' => Blk w' g2 [.int .u64 x, .int .u64 y] 43) (fun _ => false) Xg2 ?_
  refine z 0 10 (pg g) ?_
  refine z 1 11 (pg g) ?_
  refine z 2 12 (pg g) ?_
  refine z 3 13 (pq g2 1) ?_
  refine zl 4 14 (.int .u64 y) (fun _ h => h) 1 ?_
  refine zc 5 15 53 #[pg g, .int .u64 y] (zQ64 WR (by (try simp only [List.length_append, be_length, w8_len, List.length_cons, List.length_nil, List.length_take]); omega)) ?_
  rintro _ v4 ⟨rfl, WX, U⟩
  replace BU := BU.trans U
  replace Xg2 := But.blk U Xg2 (show g2 ≠ g by omega)
  clear U
  clear WR
  have WR := WX
  clear WX
  refine ⟨_, rfl, Xg2, ?_⟩
  refine gz_done ?_
  refine ge_end (.tuple #[]) (rs0 (by kernel_rfl)) ?_
  exact ⟨rfl, wto WR (by simp only [w8, List.append_nil, List.append_assoc]), BU⟩
theorem wFound {w : World} {g : Nat} {x y u : Int} {L : List Int} (X : WrA w g 0 L) (hL : L.length ≤ 100000000) : Calls Tryz.prog 33 #[pg g, .agg #[.int .u64 x, .int .u64 y, .int .u64 u]] w fun e w' => e = .returned (.tuple #[]) ∧ WrA w' g 0 (L ++ w8 [x, y, u]) ∧ But g w w' := by
  have BU := But.refl g w
  have WR := X
  have lg := X.lt
  clear X
  refine gc_enter (n := 22) Tryz.func33 rfl (by kernel_rfl) (by kernel_rfl) ?_
  refine gc_seq ?_
  refine gc_reg ?_
  have lWR := WR.lt
  refine ta 3 [.int .u64 x, .int .u64 y, .int .u64 u] 45 (pg) ?_
  intro v1 g2 Xg2 hg2 B
  have zg2 := Nat.le_trans BU.size hg2
  replace BU := BU.trans (But.of B)
  replace WR := WR.keep B
  clear B
  refine gl_nil ?_
  refine ge_then ?_
  refine gc_seq ?_
  replace BU := BU.drew
  replace WR := WR.keep (Below.refl _ _).drew
  replace Xg2 := Xg2.drew
  refine gc_draw (fun w' => Blk w' g2 [.int .u64 x, .int .u64 y, .int .u64 u] 45) (fun _ => false) Xg2 ?_
  refine z 0 4 (pg g) ?_
  refine z 1 5 (pg g) ?_
  refine z 2 6 (pg g) ?_
  refine z 3 7 (pg g2) ?_
  refine zl 4 8 (.int .u64 x) (fun _ h => h) 0 ?_
  refine zc 5 9 53 #[pg g, .int .u64 x] (zQ64 WR (by (try simp only [List.length_append, be_length, w8_len, List.length_cons, List.length_nil, List.length_take]); omega)) ?_
  rintro _ v3 ⟨rfl, WX, U⟩
  replace BU := BU.trans U
  replace Xg2 := But.blk U Xg2 (show g2 ≠ g by omega)
  clear U
  clear WR
  have WR := WX
  clear WX
  refine ⟨_, rfl, Xg2, ?_⟩
  refine gz_done ?_
  refine ge_then ?_
  refine gc_seq ?_
  replace BU := BU.drew
  replace WR := WR.keep (Below.refl _ _).drew
  replace Xg2 := Xg2.drew
  refine gc_draw (fun w' => Blk w' g2 [.int .u64 x, .int .u64 y, .int .u64 u] 45) (fun _ => false) Xg2 ?_
  refine z 0 10 (pg g) ?_
  refine z 1 11 (pg g) ?_
  refine z 2 12 (pg g) ?_
  refine z 3 13 (pq g2 1) ?_
  refine zl 4 14 (.int .u64 y) (fun _ h => h) 1 ?_
  refine zc 5 15 53 #[pg g, .int .u64 y] (zQ64 WR (by (try simp only [List.length_append, be_length, w8_len, List.length_cons, List.length_nil, List.length_take]); omega)) ?_
  rintro _ v4 ⟨rfl, WX, U⟩
  replace BU := BU.trans U
  replace Xg2 := But.blk U Xg2 (show g2 ≠ g by omega)
  clear U
  clear WR
  have WR := WX
  clear WX
  refine ⟨_, rfl, Xg2, ?_⟩
  refine gz_done ?_
  refine ge_then ?_
  replace BU := BU.drew
  replace WR := WR.keep (Below.refl _ _).drew
  replace Xg2 := Xg2.drew
  refine gc_draw (fun w' => Blk w' g2 [.int .u64 x, .int .u64 y, .int .u64 u] 45) (fun _ => false) Xg2 ?_
  refine z 0 16 (pg g) ?_
  refine z 1 17 (pg g) ?_
  refine z 2 18 (pg g) ?_
  refine z 3 19 (pq g2 2) ?_
  refine zl 4 20 (.int .u64 u) (fun _ h => h) 2 ?_
  refine zc 5 21 53 #[pg g, .int .u64 u] (zQ64 WR (by (try simp only [List.length_append, be_length, w8_len, List.length_cons, List.length_nil, List.length_take]); omega)) ?_
  rintro _ v5 ⟨rfl, WX, U⟩
  replace BU := BU.trans U
  replace Xg2 := But.blk U Xg2 (show g2 ≠ g by omega)
  clear U
  clear WR
  have WR := WX
  clear WX
  refine ⟨_, rfl, Xg2, ?_⟩
  refine gz_done ?_
  refine ge_end (.tuple #[]) (rs0 (by kernel_rfl)) ?_
  exact ⟨rfl, wto WR (by simp only [w8, List.append_nil, List.append_assoc]), BU⟩
theorem cell10 {p0 p1 p2 p3 p4 p5 p6 p7 p8 p9 : Int} {i : Nat} (h : i < 10) : ([.int .u64 p0, .int .u64 p1, .int .u64 p2, .int .u64 p3, .int .u64 p4, .int .u64 p5, .int .u64 p6, .int .u64 p7, .int .u64 p8, .int .u64 p9] : List Value)[i]? = some (.int .u64 (nth [p0, p1, p2, p3, p4, p5, p6, p7, p8, p9] i)) := by
  have : i = 0 ∨ i = 1 ∨ i = 2 ∨ i = 3 ∨ i = 4 ∨ i = 5 ∨ i = 6 ∨ i = 7 ∨ i = 8 ∨ i = 9 := by omega
  rcases this with e | e | e | e | e | e | e | e | e | e <;> subst e <;> rfl
theorem wParams {w : World} {g : Nat} {p0 p1 p2 p3 p4 p5 p6 p7 p8 p9 : Int} {L : List Int} (X : WrA w g 0 L) (hL : L.length ≤ 100000000) : Calls Tryz.prog 29 #[pg g, .agg #[.int .u64 p0, .int .u64 p1, .int .u64 p2, .int .u64 p3, .int .u64 p4, .int .u64 p5, .int .u64 p6, .int .u64 p7, .int .u64 p8, .int .u64 p9]] w fun e w' => e = .returned (.tuple #[]) ∧ WrA w' g 0 (L ++ w8 [p0, p1, p2, p3, p4, p5, p6, p7, p8, p9]) ∧ But g w w' := by
  have BU := But.refl g w
  have WR := X
  have lg := X.lt
  clear X
  refine gc_enter (n := 18) Tryz.func29 rfl (by kernel_rfl) (by kernel_rfl) ?_
  refine gc_seq ?_
  refine gc_reg ?_
  have lWR := WR.lt
  refine ta 3 [.int .u64 p0, .int .u64 p1, .int .u64 p2, .int .u64 p3, .int .u64 p4, .int .u64 p5, .int .u64 p6, .int .u64 p7, .int .u64 p8, .int .u64 p9] 24 (pg) ?_
  intro v1 g2 Xg2 hg2 B
  have zg2 := Nat.le_trans BU.size hg2
  replace BU := BU.trans (But.of B)
  replace WR := WR.keep B
  clear B
  refine gl_nil ?_
  refine ge_then ?_
  refine gc_seq ?_
  refine gc_reg ?_
  refine tc 6 47 #[pg g2] (fields_any g2) ?_
  rintro _ v3 ⟨rfl, B⟩
  refine ⟨_, rfl, ?_⟩
  replace BU := BU.trans (But.of B)
  replace WR := WR.keep B
  replace Xg2 := Xg2.keep B
  clear B
  refine t 7 (.int .i64 0) ?_
  refine gl_nil ?_
  refine ge_then ?_
  refine gc_block ?_
  refine gc_loop (fun s => 10 - s) (fun (s : Nat) => [(0, pg g), (6, .agg #[pg g2, pq g2 1, pq g2 2, pq g2 3, pq g2 4, pq g2 5, pq g2 6, pq g2 7, pq g2 8, pq g2 9]), (7, .int .i64 (s : Int))]) (fun s w' => s ≤ 10 ∧ Blk w' g2 [.int .u64 p0, .int .u64 p1, .int .u64 p2, .int .u64 p3, .int .u64 p4, .int .u64 p5, .int .u64 p6, .int .u64 p7, .int .u64 p8, .int .u64 p9] 24 ∧ WrA w' g 0 (L ++ w8 (([p0, p1, p2, p3, p4, p5, p6, p7, p8, p9] : List Int).take s)) ∧ But g w w') (0 : Nat) ⟨Nat.zero_le _, Xg2, wto WR (by rw [List.take_zero]; exact (List.append_nil L).symm), BU⟩ (by kernel_rfl) ?_
  clear BU WR Xg2
  rintro i v4 ⟨hi, Xg2, WR, BU⟩
  have lg := WR.lt
  refine gc_seq ?_
  refine gc_reg ?_
  by_cases ci : (i : Int) < 10
  · have hk_i : i < 10 := by omega
    refine tq 8 (.bool (decide ((i : Int) < 10))) (.bool true) (congrArg Value.bool (decide_eq_true ci)) ?_
    refine gl_nil ?_
    refine ge_then ?_
    refine gc_seq ?_
    refine gc_yes ?_
    refine gc_skip ?_
    refine ge_then ?_
    refine gc_seq ?_
    refine gc_block ?_
    refine gc_seq ?_
    refine gc_reg ?_
    refine tr 9 (pq g2 i) (run_ixT i hk_i) ?_
    refine t 5 (pq g2 i) ?_
    refine gl_nil ?_
    refine ge_then ?_
    replace BU := BU.drew
    replace WR := WR.keep (Below.refl _ _).drew
    replace Xg2 := Xg2.drew
    refine gc_draw (fun w' => Blk w' g2 [.int .u64 p0, .int .u64 p1, .int .u64 p2, .int .u64 p3, .int .u64 p4, .int .u64 p5, .int .u64 p6, .int .u64 p7, .int .u64 p8, .int .u64 p9] 24) (fun _ => false) Xg2 ?_
    refine z 0 10 (pg g) ?_
    refine z 1 11 (pg g) ?_
    refine z 2 12 (pg g) ?_
    refine z 3 13 (pq g2 i) ?_
    refine z 4 14 (pq g2 i) ?_
    refine zl 5 15 (.int .u64 (nth [p0, p1, p2, p3, p4, p5, p6, p7, p8, p9] i)) (fun _ h => h) i (hv := cell10 hk_i) ?_
    refine zc 6 16 53 #[pg g, .int .u64 (nth [p0, p1, p2, p3, p4, p5, p6, p7, p8, p9] i)] (zQ64 WR (by (try simp only [List.length_append, be_length, w8_len, List.length_cons, List.length_nil, List.length_take]); omega)) ?_
    rintro _ v5 ⟨rfl, WX, U⟩
    replace BU := BU.trans U
    replace Xg2 := But.blk U Xg2 (show g2 ≠ g by omega)
    clear U
    clear WR
    have WR := WX
    clear WX
    refine ⟨_, rfl, Xg2, ?_⟩
    refine gz_done ?_
    refine ge_bn ?_
    refine ge_then ?_
    refine gc_reg ?_
    refine tq 17 (.int .i64 (IntKind.i64.wrap ((i : Int) + 1))) (.int .i64 ((i : Int) + 1)) (wi (by omega)) ?_
    refine t 7 (.int .i64 ((i : Int) + 1)) ?_
    refine gl_nil ?_
    exact ge_round (i + 1) (by show 10 - (i + 1) < 10 - i; omega) ⟨hk_i, Xg2, wto WR (w8_tk1 hk_i L), BU⟩ (by kernel_rfl)
  · refine tq 8 (.bool (decide ((i : Int) < 10))) (.bool false) (congrArg Value.bool (decide_eq_false ci)) ?_
    refine gl_nil ?_
    refine ge_then ?_
    refine gc_seq ?_
    refine gc_no ?_
    refine gc_exit ?_
    refine ge_tx ?_
    refine ge_tx ?_
    refine ge_bx ?_
    refine ge_end (.tuple #[]) (rs0 (by kernel_rfl)) ?_
    obtain rfl : i = 10 := by omega
    exact ⟨rfl, WR, BU⟩
theorem layP {w : World} {g n b o c : Nat} {ao : Option Addr} {A L : List Int} (X : WrA w g 0 L) (N : Nl w ao n 2 b o A) (hb : 0 < n → b ≠ g) (hL : L.length ≤ 10000000) (hn : n ≤ 1000000) : Calls Tryz.prog 30 #[pg g, .slice ao n c, .func (.func 31) #[pg g] #[]] w fun e w' => e = .returned (.tuple #[]) ∧ WrA w' g 0 (L ++ (be 4 (n : Int) ++ w8 A)) ∧ But g w w' := by
  have BU := But.refl g w
  have WR := X
  have lg := X.lt
  clear X
  have hbg : 0 < n → b ≠ g := fun h => hb h
  have hA := N.len
  refine gc_enter (n := 25) Tryz.func30 rfl (by kernel_rfl) (by kernel_rfl) ?_
  refine gc_seq ?_
  refine gc_reg ?_
  refine t 8 (pg g) ?_
  refine t 9 (pg g) ?_
  refine t 10 (pg g) ?_
  refine t 11 (.slice ao n c) ?_
  refine t 12 (.int .i64 ((n : Nat) : Int)) ?_
  refine tr 13 (.int .u32 ((n : Nat) : Int)) (cv_I32 ((n : Nat) : Int) ⟨by omega, by omega⟩) ?_
  refine tc 14 28 #[pg g, .int .u32 ((n : Nat) : Int)] (zQ32 WR ⟨by omega, by omega⟩ (by (try simp only [List.length_append, be_length, w8_len, List.length_cons, List.length_nil, List.length_take]); omega)) ?_
  rintro _ v1 ⟨rfl, WX, U⟩
  refine ⟨_, rfl, ?_⟩
  replace BU := BU.trans U
  clear U
  clear WR
  have WR := WX
  clear WX
  refine gl_nil ?_
  refine ge_then ?_
  refine gc_seq ?_
  refine gc_reg ?_
  refine t 15 (.slice ao n c) ?_
  refine t 16 (.int .i64 ((n : Nat) : Int)) ?_
  refine t 17 (.int .i64 0) ?_
  refine gl_nil ?_
  refine ge_then ?_
  refine gc_block ?_
  refine gc_loop (fun s => n - s) (fun (s : Nat) => [(0, pg g), (2, .func (.func 31) #[pg g] #[]), (15, .slice ao n c), (16, .int .i64 ((n : Nat) : Int)), (17, .int .i64 (s : Int))]) (fun s w' => s ≤ n ∧ WrA w' g 0 ((L ++ be 4 (n : Int)) ++ w8 (A.take (s * 2))) ∧ But g w w') (0 : Nat) ⟨Nat.zero_le _, wto WR (by rw [Nat.zero_mul, List.take_zero]; exact (List.append_nil _).symm), BU⟩ (by kernel_rfl) ?_
  clear BU WR
  rintro i v2 ⟨hi, WR, BU⟩
  have lg := WR.lt
  refine gc_seq ?_
  refine gc_reg ?_
  by_cases ci : (i : Int) < ((n : Nat) : Int)
  · have hk_i : i < n := by omega
    refine tq 18 (.bool (decide ((i : Int) < ((n : Nat) : Int)))) (.bool true) (congrArg Value.bool (decide_eq_true ci)) ?_
    refine gl_nil ?_
    refine ge_then ?_
    refine gc_seq ?_
    refine gc_yes ?_
    refine gc_skip ?_
    refine ge_then ?_
    refine gc_seq ?_
    refine gc_block ?_
    refine gc_seq ?_
    refine gc_reg ?_
    refine tr 19 (pq b (o + i * 2)) (run_ixa 2 b o n c i hk_i N.ptr) ?_
    refine tr 20 (.agg #[.int .u64 (nth A (i * 2)), .int .u64 (nth A (i * 2 + 1))]) (run_ldP N hk_i (fun _ _ q => BU.cell q (hbg (by omega)))) ?_
    have lWR := WR.lt
    refine ta 7 [.int .u64 0, .int .u64 0] 43 (pg) ?_
    intro v3 g4 Xg4 hg4 B
    have zg4 := Nat.le_trans BU.size hg4
    replace BU := BU.trans (But.of B)
    replace WR := WR.keep B
    clear B
    refine ts Xg4 0 (.agg #[.int .u64 (nth A (i * 2)), .int .u64 (nth A (i * 2 + 1))]) [.int .u64 (nth A (i * 2)), .int .u64 (nth A (i * 2 + 1))] [.int .u64 (nth A (i * 2)), .int .u64 (nth A (i * 2 + 1))] ?_
    intro v5 Y C
    replace BU := butC BU C (by omega)
    replace WR := WrA.offB WR Xg4 (by decide) (by omega) (chg_but C)
    clear C Xg4
    have Xg4 := Y
    clear Y
    refine gl_nil ?_
    refine ge_then ?_
    refine gc_reg ?_
    refine t 21 (.func (.func 31) #[pg g] #[]) ?_
    refine tlr 22 [.int .u64 (nth A (i * 2)), .int .u64 (nth A (i * 2 + 1))] Xg4 0 ?_
    refine tc 23 31 #[pg g, .agg #[.int .u64 (nth A (i * 2)), .int .u64 (nth A (i * 2 + 1))]] (wPurse WR (by (try simp only [List.length_append, be_length, w8_len, List.length_cons, List.length_nil, List.length_take]); omega)) ?_
    rintro _ v6 ⟨rfl, WX, U⟩
    refine ⟨_, rfl, ?_⟩
    replace BU := BU.trans U
    replace Xg4 := But.blk U Xg4 (show g4 ≠ g by omega)
    clear U
    clear WR
    have WR := WX
    clear WX
    refine gl_nil ?_
    refine ge_bn ?_
    refine ge_then ?_
    refine gc_reg ?_
    refine tq 24 (.int .i64 (IntKind.i64.wrap ((i : Int) + 1))) (.int .i64 ((i : Int) + 1)) (wi (by omega)) ?_
    refine t 17 (.int .i64 ((i : Int) + 1)) ?_
    refine gl_nil ?_
    exact ge_round (i + 1) (by show n - (i + 1) < n - i; omega) ⟨hk_i, wto WR (w8_tk2 hA hk_i _), BU⟩ (by kernel_rfl)
  · refine tq 18 (.bool (decide ((i : Int) < ((n : Nat) : Int)))) (.bool false) (congrArg Value.bool (decide_eq_false ci)) ?_
    refine gl_nil ?_
    refine ge_then ?_
    refine gc_seq ?_
    refine gc_no ?_
    refine gc_exit ?_
    refine ge_tx ?_
    refine ge_tx ?_
    refine ge_bx ?_
    refine ge_end (.tuple #[]) (rs0 (by kernel_rfl)) ?_
    obtain rfl : i = n := by omega
    exact ⟨rfl, wto WR (by rw [List.take_of_length_le (by omega), List.append_assoc]), BU⟩
theorem layF {w : World} {g n b o c : Nat} {ao : Option Addr} {A L : List Int} (X : WrA w g 0 L) (N : Nl w ao n 3 b o A) (hb : 0 < n → b ≠ g) (hL : L.length ≤ 10000000) (hn : n ≤ 1000000) : Calls Tryz.prog 32 #[pg g, .slice ao n c, .func (.func 33) #[pg g] #[]] w fun e w' => e = .returned (.tuple #[]) ∧ WrA w' g 0 (L ++ (be 4 (n : Int) ++ w8 A)) ∧ But g w w' := by
  have BU := But.refl g w
  have WR := X
  have lg := X.lt
  clear X
  have hbg : 0 < n → b ≠ g := fun h => hb h
  have hA := N.len
  refine gc_enter (n := 25) Tryz.func32 rfl (by kernel_rfl) (by kernel_rfl) ?_
  refine gc_seq ?_
  refine gc_reg ?_
  refine t 8 (pg g) ?_
  refine t 9 (pg g) ?_
  refine t 10 (pg g) ?_
  refine t 11 (.slice ao n c) ?_
  refine t 12 (.int .i64 ((n : Nat) : Int)) ?_
  refine tr 13 (.int .u32 ((n : Nat) : Int)) (cv_I32 ((n : Nat) : Int) ⟨by omega, by omega⟩) ?_
  refine tc 14 28 #[pg g, .int .u32 ((n : Nat) : Int)] (zQ32 WR ⟨by omega, by omega⟩ (by (try simp only [List.length_append, be_length, w8_len, List.length_cons, List.length_nil, List.length_take]); omega)) ?_
  rintro _ v1 ⟨rfl, WX, U⟩
  refine ⟨_, rfl, ?_⟩
  replace BU := BU.trans U
  clear U
  clear WR
  have WR := WX
  clear WX
  refine gl_nil ?_
  refine ge_then ?_
  refine gc_seq ?_
  refine gc_reg ?_
  refine t 15 (.slice ao n c) ?_
  refine t 16 (.int .i64 ((n : Nat) : Int)) ?_
  refine t 17 (.int .i64 0) ?_
  refine gl_nil ?_
  refine ge_then ?_
  refine gc_block ?_
  refine gc_loop (fun s => n - s) (fun (s : Nat) => [(0, pg g), (2, .func (.func 33) #[pg g] #[]), (15, .slice ao n c), (16, .int .i64 ((n : Nat) : Int)), (17, .int .i64 (s : Int))]) (fun s w' => s ≤ n ∧ WrA w' g 0 ((L ++ be 4 (n : Int)) ++ w8 (A.take (s * 3))) ∧ But g w w') (0 : Nat) ⟨Nat.zero_le _, wto WR (by rw [Nat.zero_mul, List.take_zero]; exact (List.append_nil _).symm), BU⟩ (by kernel_rfl) ?_
  clear BU WR
  rintro i v2 ⟨hi, WR, BU⟩
  have lg := WR.lt
  refine gc_seq ?_
  refine gc_reg ?_
  by_cases ci : (i : Int) < ((n : Nat) : Int)
  · have hk_i : i < n := by omega
    refine tq 18 (.bool (decide ((i : Int) < ((n : Nat) : Int)))) (.bool true) (congrArg Value.bool (decide_eq_true ci)) ?_
    refine gl_nil ?_
    refine ge_then ?_
    refine gc_seq ?_
    refine gc_yes ?_
    refine gc_skip ?_
    refine ge_then ?_
    refine gc_seq ?_
    refine gc_block ?_
    refine gc_seq ?_
    refine gc_reg ?_
    refine tr 19 (pq b (o + i * 3)) (run_ixa 3 b o n c i hk_i N.ptr) ?_
    refine tr 20 (.agg #[.int .u64 (nth A (i * 3)), .int .u64 (nth A (i * 3 + 1)), .int .u64 (nth A (i * 3 + 2))]) (run_ldF N hk_i (fun _ _ q => BU.cell q (hbg (by omega)))) ?_
    have lWR := WR.lt
    refine ta 7 [.int .u64 0, .int .u64 0, .int .u64 0] 45 (pg) ?_
    intro v3 g4 Xg4 hg4 B
    have zg4 := Nat.le_trans BU.size hg4
    replace BU := BU.trans (But.of B)
    replace WR := WR.keep B
    clear B
    refine ts Xg4 0 (.agg #[.int .u64 (nth A (i * 3)), .int .u64 (nth A (i * 3 + 1)), .int .u64 (nth A (i * 3 + 2))]) [.int .u64 (nth A (i * 3)), .int .u64 (nth A (i * 3 + 1)), .int .u64 (nth A (i * 3 + 2))] [.int .u64 (nth A (i * 3)), .int .u64 (nth A (i * 3 + 1)), .int .u64 (nth A (i * 3 + 2))] ?_
    intro v5 Y C
    replace BU := butC BU C (by omega)
    replace WR := WrA.offB WR Xg4 (by decide) (by omega) (chg_but C)
    clear C Xg4
    have Xg4 := Y
    clear Y
    refine gl_nil ?_
    refine ge_then ?_
    refine gc_reg ?_
    refine t 21 (.func (.func 33) #[pg g] #[]) ?_
    refine tlr 22 [.int .u64 (nth A (i * 3)), .int .u64 (nth A (i * 3 + 1)), .int .u64 (nth A (i * 3 + 2))] Xg4 0 ?_
    refine tc 23 33 #[pg g, .agg #[.int .u64 (nth A (i * 3)), .int .u64 (nth A (i * 3 + 1)), .int .u64 (nth A (i * 3 + 2))]] (wFound WR (by (try simp only [List.length_append, be_length, w8_len, List.length_cons, List.length_nil, List.length_take]); omega)) ?_
    rintro _ v6 ⟨rfl, WX, U⟩
    refine ⟨_, rfl, ?_⟩
    replace BU := BU.trans U
    replace Xg4 := But.blk U Xg4 (show g4 ≠ g by omega)
    clear U
    clear WR
    have WR := WX
    clear WX
    refine gl_nil ?_
    refine ge_bn ?_
    refine ge_then ?_
    refine gc_reg ?_
    refine tq 24 (.int .i64 (IntKind.i64.wrap ((i : Int) + 1))) (.int .i64 ((i : Int) + 1)) (wi (by omega)) ?_
    refine t 17 (.int .i64 ((i : Int) + 1)) ?_
    refine gl_nil ?_
    exact ge_round (i + 1) (by show n - (i + 1) < n - i; omega) ⟨hk_i, wto WR (w8_tk3 hA hk_i _), BU⟩ (by kernel_rfl)
  · refine tq 18 (.bool (decide ((i : Int) < ((n : Nat) : Int)))) (.bool false) (congrArg Value.bool (decide_eq_false ci)) ?_
    refine gl_nil ?_
    refine ge_then ?_
    refine gc_seq ?_
    refine gc_no ?_
    refine gc_exit ?_
    refine ge_tx ?_
    refine ge_tx ?_
    refine ge_bx ?_
    refine ge_end (.tuple #[]) (rs0 (by kernel_rfl)) ?_
    obtain rfl : i = n := by omega
    exact ⟨rfl, wto WR (by rw [List.take_of_length_le (by omega), List.append_assoc]), BU⟩
theorem ta_gw {n : Nat} {ds : List Deferred} {ops : Array Oper} {rest : List Oper} {o : Oper} {l : Fr} {w : World} {Q : Exit → Act → World → Prop} (d : Nat) (h : ∀ w1 g, WrA w1 g 0 [] → w.heap.size ≤ g → Below w.heap.size w w1 → GL Tryz.prog n ds ops Q rest ((d, pg g) :: l) w1) (hg : gd ops l o = some true := by kernel_rfl) (hc : chk n l o (some d) = true := by kernel_rfl) (hrun : (execOp (evL l) o).run Tryz.prog w = .ok (.value (pg w.heap.size)) (w.alloc (.cells (wcells 0 none 0 (List.replicate 256 0) 0).toArray 82)) := by kernel_rfl) : GL Tryz.prog n ds ops Q (o :: rest) l w := gl_val (some d) _ hg hc hrun (h _ _ ⟨none, [], List.replicate 256 0, 0, ⟨by rw [List.length_replicate], ⟨_, by decide, (box_new w _ _).blk⟩⟩, .nil, by decide, by simp⟩ (Nat.le_refl _) (below_alloc w _))
theorem encode_any {w : World} {p0 p1 p2 p3 p4 p5 p6 p7 p8 p9 : Int} {a1 a2 : Option Addr} {na c1 b1 o1 nv c2 b2 o2 : Nat} {A V : List Int} (N1 : Nl w a1 na 2 b1 o1 A) (N2 : Nl w a2 nv 3 b2 o2 V) (h1 : na ≤ 1000) (h2 : nv ≤ 1000) : Calls Tryz.prog 11 #[.agg #[.int .u64 p0, .int .u64 p1, .int .u64 p2, .int .u64 p3, .int .u64 p4, .int .u64 p5, .int .u64 p6, .int .u64 p7, .int .u64 p8, .int .u64 p9, .slice a1 na c1, .slice a2 nv c2]] w fun e w' => ∃ g, e = .returned (.slice (some ⟨g, 0, none⟩) (bG ⟨[p0, p1, p2, p3, p4, p5, p6, p7, p8, p9], A, V⟩ na nv).length (bG ⟨[p0, p1, p2, p3, p4, p5, p6, p7, p8, p9], A, V⟩ na nv).length) ∧ w.heap.size ≤ g ∧ Box w' g ((bG ⟨[p0, p1, p2, p3, p4, p5, p6, p7, p8, p9], A, V⟩ na nv).map (Value.int .u8)) 5 ∧ Below w.heap.size w w' := by
  have BB := Below.refl w.heap.size w
  refine gc_enter (n := 25) Tryz.func11 rfl (by kernel_rfl) (by kernel_rfl) ?_
  refine gc_seq ?_
  refine gc_reg ?_
  refine ta 1 [.int .u64 p0, .int .u64 p1, .int .u64 p2, .int .u64 p3, .int .u64 p4, .int .u64 p5, .int .u64 p6, .int .u64 p7, .int .u64 p8, .int .u64 p9, .slice a1 na c1, .slice a2 nv c2] 28 (pg) ?_
  intro v1 g2 Xg2 hg2 B
  have zg2 := Nat.le_trans BB.size hg2
  replace BB := joinB BB B
  clear B
  refine t 2 (.slice none 0 0) ?_
  refine gl_nil ?_
  refine ge_then ?_
  refine gc_seq ?_
  refine gc_reg ?_
  have lXg2 := Xg2.lt
  have sB := BB.size
  refine ta_gw 3 ?_
  intro v3 g WR hg B
  replace BB := joinB BB B
  replace Xg2 := Xg2.keep B
  clear B
  have hw : w.heap.size ≤ g := Nat.le_trans sB hg
  refine gl_nil ?_
  refine ge_then ?_
  refine gc_seq ?_
  refine gc_reg ?_
  refine t 6 (pg g) ?_
  refine tc 7 28 #[pg g, .int .u32 1196183089] (zQ32 WR ⟨by decide, by decide⟩ (by (try simp only [List.length_append, be_length, w8_len, List.length_cons, List.length_nil, N1.len, N2.len, List.length_take]); omega)) ?_
  rintro _ v4 ⟨rfl, WX, U⟩
  refine ⟨_, rfl, ?_⟩
  replace BB := But.below U BB (by omega) (Nat.le_refl _)
  replace Xg2 := But.blk U Xg2 (show g2 ≠ g by omega)
  clear U
  clear WR
  have WR := WX
  clear WX
  refine gl_nil ?_
  refine ge_then ?_
  refine gc_seq ?_
  refine gc_reg ?_
  refine t 8 (pg g2) ?_
  refine tlr 9 [.int .u64 p0, .int .u64 p1, .int .u64 p2, .int .u64 p3, .int .u64 p4, .int .u64 p5, .int .u64 p6, .int .u64 p7, .int .u64 p8, .int .u64 p9] Xg2 0 ?_
  refine tc 10 29 #[pg g, .agg #[.int .u64 p0, .int .u64 p1, .int .u64 p2, .int .u64 p3, .int .u64 p4, .int .u64 p5, .int .u64 p6, .int .u64 p7, .int .u64 p8, .int .u64 p9]] (wParams WR (by (try simp only [List.length_append, be_length, w8_len, List.length_cons, List.length_nil, N1.len, N2.len, List.length_take]); omega)) ?_
  rintro _ v5 ⟨rfl, WX, U⟩
  refine ⟨_, rfl, ?_⟩
  replace BB := But.below U BB (by omega) (Nat.le_refl _)
  replace Xg2 := But.blk U Xg2 (show g2 ≠ g by omega)
  clear U
  clear WR
  have WR := WX
  clear WX
  refine gl_nil ?_
  refine ge_then ?_
  refine gc_seq ?_
  refine gc_reg ?_
  refine t 11 (pq g2 10) ?_
  refine tl 12 (.slice a1 na c1) Xg2 10 ?_
  refine t 13 (.func (.func 31) #[pg g] #[]) ?_
  have sN1 := BB.size
  refine tc 14 30 #[pg g, .slice a1 na c1, .func (.func 31) #[pg g] #[]] (layP WR (N1.keep BB) (fun h => by have := N1.lt h (by decide); omega) (by (try simp only [List.length_append, be_length, w8_len, List.length_cons, List.length_nil, N1.len, N2.len, List.length_take]); omega) (by omega)) ?_
  rintro _ v6 ⟨rfl, WX, U⟩
  refine ⟨_, rfl, ?_⟩
  replace BB := But.below U BB (by omega) (Nat.le_refl _)
  replace Xg2 := But.blk U Xg2 (show g2 ≠ g by omega)
  clear U
  clear WR
  have WR := WX
  clear WX
  refine gl_nil ?_
  refine ge_then ?_
  refine gc_seq ?_
  refine gc_reg ?_
  refine t 15 (pq g2 11) ?_
  refine tl 16 (.slice a2 nv c2) Xg2 11 ?_
  refine t 17 (.func (.func 33) #[pg g] #[]) ?_
  have sN2 := BB.size
  refine tc 18 32 #[pg g, .slice a2 nv c2, .func (.func 33) #[pg g] #[]] (layF WR (N2.keep BB) (fun h => by have := N2.lt h (by decide); omega) (by (try simp only [List.length_append, be_length, w8_len, List.length_cons, List.length_nil, N1.len, N2.len, List.length_take]); omega) (by omega)) ?_
  rintro _ v7 ⟨rfl, WX, U⟩
  refine ⟨_, rfl, ?_⟩
  replace BB := But.below U BB (by omega) (Nat.le_refl _)
  replace Xg2 := But.blk U Xg2 (show g2 ≠ g by omega)
  clear U
  clear WR
  have WR := WX
  clear WX
  refine gl_nil ?_
  refine ge_then ?_
  clear Xg2
  refine gc_fr [(2, .slice none 0 0), (3, pg g)] (by kernel_rfl) ?_
  refine gc_seq ?_
  refine gc_reg ?_
  refine t 20 (pg g) ?_
  have sO := BB.size
  refine tc 21 34 #[pg g] (wrOut WR (by (try simp only [List.length_append, be_length, w8_len, List.length_cons, List.length_nil, N1.len, N2.len, List.length_take]); omega)) ?_
  rintro _ v8 ⟨rfl, XB, B⟩
  refine ⟨_, rfl, ?_⟩
  replace BB := joinB BB B
  replace WR := WR.keep B
  clear B
  refine t 19 (.tuple #[.slice (some ⟨v7.heap.size, 0, none⟩) ([] ++ be 4 1196183089 ++ w8 [p0, p1, p2, p3, p4, p5, p6, p7, p8, p9] ++ (be 4 (na : Int) ++ w8 A) ++ (be 4 (nv : Int) ++ w8 V)).length ([] ++ be 4 1196183089 ++ w8 [p0, p1, p2, p3, p4, p5, p6, p7, p8, p9] ++ (be 4 (na : Int) ++ w8 A) ++ (be 4 (nv : Int) ++ w8 V)).length, .int .i64 0]) ?_
  refine t 22 (.slice (some ⟨v7.heap.size, 0, none⟩) ([] ++ be 4 1196183089 ++ w8 [p0, p1, p2, p3, p4, p5, p6, p7, p8, p9] ++ (be 4 (na : Int) ++ w8 A) ++ (be 4 (nv : Int) ++ w8 V)).length ([] ++ be 4 1196183089 ++ w8 [p0, p1, p2, p3, p4, p5, p6, p7, p8, p9] ++ (be 4 (na : Int) ++ w8 A) ++ (be 4 (nv : Int) ++ w8 V)).length) ?_
  refine t 23 (.int .i64 0) ?_
  refine t 4 (.slice (some ⟨v7.heap.size, 0, none⟩) ([] ++ be 4 1196183089 ++ w8 [p0, p1, p2, p3, p4, p5, p6, p7, p8, p9] ++ (be 4 (na : Int) ++ w8 A) ++ (be 4 (nv : Int) ++ w8 V)).length ([] ++ be 4 1196183089 ++ w8 [p0, p1, p2, p3, p4, p5, p6, p7, p8, p9] ++ (be 4 (na : Int) ++ w8 A) ++ (be 4 (nv : Int) ++ w8 V)).length) ?_
  refine t 5 (.int .i64 0) ?_
  refine gl_nil ?_
  refine ge_then ?_
  refine gc_seq ?_
  refine gc_reg ?_
  refine t 24 (.slice (some ⟨v7.heap.size, 0, none⟩) ([] ++ be 4 1196183089 ++ w8 [p0, p1, p2, p3, p4, p5, p6, p7, p8, p9] ++ (be 4 (na : Int) ++ w8 A) ++ (be 4 (nv : Int) ++ w8 V)).length ([] ++ be 4 1196183089 ++ w8 [p0, p1, p2, p3, p4, p5, p6, p7, p8, p9] ++ (be 4 (na : Int) ++ w8 A) ++ (be 4 (nv : Int) ++ w8 V)).length) ?_
  refine t 2 (.slice (some ⟨v7.heap.size, 0, none⟩) ([] ++ be 4 1196183089 ++ w8 [p0, p1, p2, p3, p4, p5, p6, p7, p8, p9] ++ (be 4 (na : Int) ++ w8 A) ++ (be 4 (nv : Int) ++ w8 V)).length ([] ++ be 4 1196183089 ++ w8 [p0, p1, p2, p3, p4, p5, p6, p7, p8, p9] ++ (be 4 (na : Int) ++ w8 A) ++ (be 4 (nv : Int) ++ w8 V)).length) ?_
  refine gl_nil ?_
  refine ge_then ?_
  refine gc_ret ?_
  refine ge_ret (.slice (some ⟨v7.heap.size, 0, none⟩) ([] ++ be 4 1196183089 ++ w8 [p0, p1, p2, p3, p4, p5, p6, p7, p8, p9] ++ (be 4 (na : Int) ++ w8 A) ++ (be 4 (nv : Int) ++ w8 V)).length ([] ++ be 4 1196183089 ++ w8 [p0, p1, p2, p3, p4, p5, p6, p7, p8, p9] ++ (be 4 (na : Int) ++ w8 A) ++ (be 4 (nv : Int) ++ w8 V)).length) (rs1 2 (by kernel_rfl) (by kernel_rfl)) ?_
  rw [show ([] ++ be 4 1196183089 ++ w8 [p0, p1, p2, p3, p4, p5, p6, p7, p8, p9] ++ (be 4 (na : Int) ++ w8 A) ++ (be 4 (nv : Int) ++ w8 V)) = bG ⟨[p0, p1, p2, p3, p4, p5, p6, p7, p8, p9], A, V⟩ na nv from by simp only [bG, mk0, List.nil_append, List.append_assoc]] at XB ⊢
  exact ⟨_, rfl, sO, XB, BB⟩
end Gn
end Go.Proofs.YtpoifdokmjhclaaGreat
