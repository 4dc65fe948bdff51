/- Several texts, joined: QuZ, QuLa. -/
import Derived.Test.YtidnifmehnjipaaGreatJaz
namespace Go.Proofs.YtidnifmehnjipaaGreat
namespace Qu
open Go.RowKit Go.Lib Pg Lim Gl Kv Bk Pw
attribute [local go_sem] Oper.semAt_some
set_option maxRecDepth 100000
set_option linter.unusedVariables false
set_option linter.unusedSimpArgs false
set_option maxHeartbeats 2000000
/-- a step: What, Kind, N, an unbonding, a move -/
structure Sq where
  w : Int
  k : Int
  n : Int
  u0 : Int
  u1 : Int
  u2 : Int
  u3 : Int
  u4 : Int
  u5 : Int
  m0 : Int
  m1 : Int
  m2 : Int
  m3 : Int
  m4 : Int
  m5 : Int
  a : Option Addr
  l : Nat
  c : Nat
  z : Nat
  x : Int
def scs (s : Sq) : List Value := [.int .i64 s.w, .int .i64 s.k, .int .u64 s.n, .int .u64 s.u0, .int .u64 s.u1, .int .u64 s.u2, .int .u64 s.u3, .int .u64 s.u4, .int .u64 s.u5, .int .u64 s.m0, .int .u64 s.m1, .int .u64 s.m2, .int .u64 s.m3, .int .u64 s.m4, .int .u64 s.m5, .slice (Sq.a s) (Sq.l s) (Sq.c s)]
structure Sqr (s : Sq) : Prop where
  n : Uq s.n
  u0 : Uq s.u0
  u1 : Uq s.u1
  u2 : Uq s.u2
  u3 : Uq s.u3
  u4 : Uq s.u4
  u5 : Uq s.u5
  m0 : Uq s.m0
  m1 : Uq s.m1
  m2 : Uq s.m2
  m3 : Uq s.m3
  m4 : Uq s.m4
  m5 : Uq s.m5
  x : 0 ≤ s.x
/-- steps, as an argument lays them -/
structure StpQ (w : World) (ao : Option Addr) (n b o : Nat) (st : Nat → Sq) : Prop where
  ptr : 0 < n → ao = some ⟨b, o, none⟩
  cell : ∀ i, i < n → ∀ j v, (scs (st i))[j]? = some v → w.cell? ⟨b, o + i * 16 + j, none⟩ = some v
  rng : ∀ i, i < n → Sqr (st i)
  nat : ∀ i, i < n → Nk w (fun b => w.heap.size ≤ b) (st i).z (st i).a (st i).l (st i).c (st i).x
  few : n ≤ 9223372036854775807
theorem StpQ.nk {w V : World} {ao : Option Addr} {n b o : Nat} {st : Nat → Sq} {K : Nat → Prop} (h : StpQ w ao n b o st) {i : Nat} (hi : i < n) (hB : Below w.heap.size w V) (hK : ∀ b, K b → w.heap.size ≤ b) : Nk V K (st i).z (st i).a (st i).l (st i).c (st i).x := by
  have q := (h.nat i hi).keep hB
  refine ⟨q.lt, q.out.imp_right fun h1 h2 => h1 (hK _ h2), q.to⟩
theorem ld_unb {w : World} {g o : Nat} {a b c d e f : Value} (c0 : w.cell? ⟨g, o, none⟩ = some a) (c1 : w.cell? ⟨g, o + 1, none⟩ = some b) (c2 : w.cell? ⟨g, o + 2, none⟩ = some c) (c3 : w.cell? ⟨g, o + 3, none⟩ = some d) (c4 : w.cell? ⟨g, o + 4, none⟩ = some e) (c5 : w.cell? ⟨g, o + 5, none⟩ = some f) : (loadVar 42 ⟨g, o, none⟩).run Tryz.prog w = .ok (.agg #[a, b, c, d, e, f]) w := by go_simp
theorem ld_mov {w : World} {g o : Nat} {a b c d e f h : Value} (c0 : w.cell? ⟨g, o, none⟩ = some a) (c1 : w.cell? ⟨g, o + 1, none⟩ = some b) (c2 : w.cell? ⟨g, o + 2, none⟩ = some c) (c3 : w.cell? ⟨g, o + 3, none⟩ = some d) (c4 : w.cell? ⟨g, o + 4, none⟩ = some e) (c5 : w.cell? ⟨g, o + 5, none⟩ = some f) (c6 : w.cell? ⟨g, o + 6, none⟩ = some h) : (loadVar 48 ⟨g, o, none⟩).run Tryz.prog w = .ok (.agg #[a, b, c, d, e, f, h]) w := by go_simp
theorem ld_stp {w : World} {g o : Nat} {s : Sq} (c : ∀ j v, (scs s)[j]? = some v → w.cell? ⟨g, o + j, none⟩ = some v) : (loadVar 50 ⟨g, o, none⟩).run Tryz.prog w = .ok (.agg #[.int .i64 s.w, .int .i64 s.k, .int .u64 s.n, .int .u64 s.u0, .int .u64 s.u1, .int .u64 s.u2, .int .u64 s.u3, .int .u64 s.u4, .int .u64 s.u5, .int .u64 s.m0, .int .u64 s.m1, .int .u64 s.m2, .int .u64 s.m3, .int .u64 s.m4, .int .u64 s.m5, .slice (Sq.a s) (Sq.l s) (Sq.c s)]) w := by
  have c0 := c 0 _ rfl
  have c1 := c 1 _ rfl
  have c2 := c 2 _ rfl
  have c3 := c 3 _ rfl
  have c4 := c 4 _ rfl
  have c5 := c 5 _ rfl
  have c6 := c 6 _ rfl
  have c7 := c 7 _ rfl
  have c8 := c 8 _ rfl
  have c9 := c 9 _ rfl
  have c10 := c 10 _ rfl
  have c11 := c 11 _ rfl
  have c12 := c 12 _ rfl
  have c13 := c 13 _ rfl
  have c14 := c 14 _ rfl
  have c15 := c 15 _ rfl
  clear c
  simp only [Nat.add_zero] at c0
  go_simp
section
variable {ρ : Operand → Value} {o : Oper} {w W : World} {b off n k : Nat} {ao : Option Addr} {st : Nat → Sq}
theorem run_lS (S : StpQ w ao n b off st) (hk : k < n) (B : Below w.heap.size w W) (ho : ∃ p, o.op = .load 50 p ∧ ρ p = .pointer (some ⟨b, off + k * 16, none⟩) := by exact ⟨_, rfl, by kernel_rfl⟩) : (execOp ρ o).run Tryz.prog W = .ok (.value (.agg #[.int .i64 (st k).w, .int .i64 (st k).k, .int .u64 (st k).n, .int .u64 (st k).u0, .int .u64 (st k).u1, .int .u64 (st k).u2, .int .u64 (st k).u3, .int .u64 (st k).u4, .int .u64 (st k).u5, .int .u64 (st k).m0, .int .u64 (st k).m1, .int .u64 (st k).m2, .int .u64 (st k).m3, .int .u64 (st k).m4, .int .u64 (st k).m5, .slice (Sq.a (st k)) (Sq.l (st k)) (Sq.c (st k))])) W := by
  obtain ⟨p, h, hp⟩ := ho
  have := ld_stp (s := st k) (w := W) (g := b) (o := off + k * 16) (fun j v hj => cellB B (S.cell k hk j v hj))
  simp only [execOp, h, hp]
  simp [Instr.loadAt, Instr.sureAddr, Result.andThen, this]
theorem run_lU (S : StpQ w ao n b off st) (hk : k < n) (B : Below w.heap.size w W) (ho : ∃ p, o.op = .load 42 p ∧ ρ p = .pointer (some ⟨b, off + k * 16 + 3, none⟩) := by exact ⟨_, rfl, by kernel_rfl⟩) : (execOp ρ o).run Tryz.prog W = .ok (.value (.agg #[.int .u64 (st k).u0, .int .u64 (st k).u1, .int .u64 (st k).u2, .int .u64 (st k).u3, .int .u64 (st k).u4, .int .u64 (st k).u5])) W := by
  obtain ⟨p, h, hp⟩ := ho
  have := ld_unb (w := W) (g := b) (o := off + k * 16 + 3) (cellB B (S.cell k hk 3 _ rfl)) (cellB B (S.cell k hk 4 _ rfl)) (cellB B (S.cell k hk 5 _ rfl)) (cellB B (S.cell k hk 6 _ rfl)) (cellB B (S.cell k hk 7 _ rfl)) (cellB B (S.cell k hk 8 _ rfl))
  simp only [execOp, h, hp]
  simp [Instr.loadAt, Instr.sureAddr, Result.andThen, this]
theorem run_lM (S : StpQ w ao n b off st) (hk : k < n) (B : Below w.heap.size w W) (ho : ∃ p, o.op = .load 48 p ∧ ρ p = .pointer (some ⟨b, off + k * 16 + 9, none⟩) := by exact ⟨_, rfl, by kernel_rfl⟩) : (execOp ρ o).run Tryz.prog W = .ok (.value (.agg #[.int .u64 (st k).m0, .int .u64 (st k).m1, .int .u64 (st k).m2, .int .u64 (st k).m3, .int .u64 (st k).m4, .int .u64 (st k).m5, .slice (Sq.a (st k)) (Sq.l (st k)) (Sq.c (st k))])) W := by
  obtain ⟨p, h, hp⟩ := ho
  have := ld_mov (w := W) (g := b) (o := off + k * 16 + 9) (cellB B (S.cell k hk 9 _ rfl)) (cellB B (S.cell k hk 10 _ rfl)) (cellB B (S.cell k hk 11 _ rfl)) (cellB B (S.cell k hk 12 _ rfl)) (cellB B (S.cell k hk 13 _ rfl)) (cellB B (S.cell k hk 14 _ rfl)) (cellB B (S.cell k hk 15 _ rfl))
  simp only [execOp, h, hp]
  simp [Instr.loadAt, Instr.sureAddr, Result.andThen, this]
theorem run_lI (S : StpQ w ao n b off st) (hk : k < n) (B : Below w.heap.size w W) (ho : ∃ p, o.op = .load 3 p ∧ ρ p = .pointer (some ⟨b, off + k * 16, none⟩) := by exact ⟨_, rfl, by kernel_rfl⟩) : (execOp ρ o).run Tryz.prog W = .ok (.value (.int .i64 (st k).w)) W := by
  obtain ⟨p, h, hp⟩ := ho
  have c0 := cellB B (S.cell k hk 0 _ rfl)
  simp only [Nat.add_zero] at c0
  have : (loadVar 3 ⟨b, off + k * 16, none⟩).run Tryz.prog W = .ok (.int .i64 (st k).w) W := by go_simp
  simp only [execOp, h, hp]
  simp [Instr.loadAt, Instr.sureAddr, Result.andThen, this]
theorem run_lN (S : StpQ w ao n b off st) (hk : k < n) (B : Below w.heap.size w W) (ho : ∃ p, o.op = .load 44 p ∧ ρ p = .pointer (some ⟨b, off + k * 16 + 15, none⟩) := by exact ⟨_, rfl, by kernel_rfl⟩) : (execOp ρ o).run Tryz.prog W = .ok (.value (.slice (st k).a (st k).l (st k).c)) W := by
  obtain ⟨p, h, hp⟩ := ho
  have c0 := cellB B (S.cell k hk 15 _ rfl)
  have : (loadVar 44 ⟨b, off + k * 16 + 15, none⟩).run Tryz.prog W = .ok (.slice (st k).a (st k).l (st k).c) W := by go_simp
  simp only [execOp, h, hp]
  simp [Instr.loadAt, Instr.sureAddr, Result.andThen, this]
theorem run_rem2 {x : Int} (ho : ∃ p, o.op = .binOp .rem 3 p (.const (.int .i64 2)) 3 ∧ ρ p = .int .i64 x ∧ ρ (.const (.int .i64 2)) = .int .i64 2 := by exact ⟨_, rfl, by kernel_rfl, by kernel_rfl⟩) : (execOp ρ o).run Tryz.prog w = .ok (.value (.int .i64 (x.tmod 2))) w := by
  obtain ⟨p, h, h1, h2⟩ := ho
  simp only [execOp, h, h1, h2]
  go_simp
end
/-- the entry that a step begins, the first number being n0 -/
def qe (n0 : Int) (s : Sq) (j : Nat) : Qe := if s.w.tmod 2 = 0 then ⟨n0 + j, 12, s.u0, s.u1, s.u3⟩ else ⟨n0 + j, 13, s.m0, s.m1, s.m4⟩
def qes (n0 : Int) (st : Nat → Sq) (k : Nat) : List Qe := (List.range k).map (fun j => qe n0 (st j) j)
theorem qes_succ (n0 : Int) (st : Nat → Sq) (k : Nat) : qes n0 st (k + 1) = qes n0 st k ++ [qe n0 (st k) k] := by
  unfold qes
  rw [List.range_succ, List.map_append]
  rfl
theorem qes_len (n0 : Int) (st : Nat → Sq) (k : Nat) : (qes n0 st k).length = k := by unfold qes; simp
theorem qes_mem {n0 : Int} {st : Nat → Sq} {k : Nat} {e : Qe} : e ∈ qes n0 st k ↔ ∃ j, j < k ∧ e = qe n0 (st j) j := by
  unfold qes
  rw [List.mem_map]
  constructor
  · rintro ⟨j, hj, rfl⟩
    exact ⟨j, List.mem_range.1 hj, rfl⟩
  · rintro ⟨j, hj, rfl⟩
    exact ⟨j, List.mem_range.2 hj, rfl⟩
theorem qe_id (n0 : Int) (s : Sq) (j : Nat) : (qe n0 s j).id = n0 + j := by unfold qe; split <;> rfl
theorem qe_k (n0 : Int) (s : Sq) (j : Nat) : (qe n0 s j).k = if s.w.tmod 2 = 0 then 12 else 13 := by unfold qe; split <;> rfl
theorem qe_del (n0 : Int) (s : Sq) (j : Nat) : (qe n0 s j).del = if s.w.tmod 2 = 0 then s.u0 else s.m0 := by unfold qe; split <;> rfl
theorem qe_val (n0 : Int) (s : Sq) (j : Nat) : (qe n0 s j).val = if s.w.tmod 2 = 0 then s.u1 else s.m1 := by unfold qe; split <;> rfl
theorem qe_due (n0 : Int) (s : Sq) (j : Nat) : (qe n0 s j).due = if s.w.tmod 2 = 0 then s.u3 else s.m4 := by unfold qe; split <;> rfl
section
variable {E : Ents} {nx : Int} {A : List Qe} {s : Sq}
theorem Qs.unb (h : Qs E nx A) (hnx : nx + 1 < 18446744073709551616) (hA : A.length ≤ 100000) (r : Sqr s) : Qs (beginE E 12 (uv s.u0 s.u1 s.u2 s.u3 s.u4 s.u5) s.u0 s.u1 s.u3) (nx + 1) (A ++ [⟨nx, 12, s.u0, s.u1, s.u3⟩]) := by
  obtain ⟨b0, b1, _, b3, _⟩ := uv_back r.u0 r.u1 r.u2 r.u3 r.u4 r.u5
  exact h.begin hnx hA (e := ⟨nx, 12, s.u0, s.u1, s.u3⟩) rfl (.inl rfl) r.u0 r.u1 r.u3 ⟨(fun _ => ⟨b0, b1, b3⟩), (fun q => absurd (show (12 : Int) = 13 from q) (by decide))⟩
theorem Qs.mov (h : Qs E nx A) (hnx : nx + 1 < 18446744073709551616) (hA : A.length ≤ 100000) (r : Sqr s) : Qs (beginE E 13 (mv s.m0 s.m1 s.m2 s.m3 s.m4 s.m5 s.x) s.m0 s.m1 s.m4) (nx + 1) (A ++ [⟨nx, 13, s.m0, s.m1, s.m4⟩]) := by
  obtain ⟨⟨b0, b1, _⟩, ⟨_, b4, _⟩, _⟩ := mv_back r.m0 r.m1 r.m2 r.m3 r.m4 r.m5 r.x
  exact h.begin hnx hA (e := ⟨nx, 13, s.m0, s.m1, s.m4⟩) rfl (.inr rfl) r.m0 r.m1 r.m4 ⟨(fun q => absurd (show (13 : Int) = 12 from q) (by decide)), (fun _ => ⟨b0, b1, b4⟩)⟩
end
theorem run_ixa16 {ρ : Operand → Value} {o : Oper} {w : World} {ao : Option Addr} {b off n k : Nat} (c : Nat) (hk : k < n) (hao : 0 < n → ao = some ⟨b, off, none⟩) (ho : ∃ T x y, o.op = .indexAddr T x y ∧ slT Tryz.prog T 16 = true ∧ ρ x = .slice ao n c ∧ ρ y = .int .u64 (k : Int) := by exact ⟨_, _, _, rfl, by kernel_rfl, by kernel_rfl, by kernel_rfl⟩) : (execOp ρ o).run Tryz.prog w = .ok (.value (.pointer (some ⟨b, off + k * 16, none⟩))) w := by
  rw [hao (by omega)] at ho
  obtain ⟨T, x, y, h1, h2, h5, h6⟩ := ho
  have h7 : (k : Int) < n := by omega
  have h8 : ¬ ((k : Int) < 0) := by omega
  unfold slT at h2
  cases hu : Tryz.prog.underlying T with
  | none => rw [hu] at h2; cases h2
  | some d =>
    rw [hu] at h2
    cases d with
    | slice e =>
      simp only [beq_iff_eq] at h2
      cases hi : Tryz.prog.info? e with
      | none => rw [hi] at h2; cases h2
      | some i =>
        rw [hi] at h2
        simp at h2
        simp only [execOp, h1, h5, h6]
        go_simp
        simp [sizeOf, typeInfo, hi, h2]
    | _ => cases h2
/-- the operations of a region of a code -/
def opsOf (id : Nat) : Code → Option (Array Oper)
  | .region i ops _ => bif Nat.beq i id then some ops else none
  | .seq a b => match opsOf id a with
    | some o => some o
    | none => opsOf id b
  | .cond _ a b => match opsOf id a with
    | some o => some o
    | none => opsOf id b
  | .block _ a => opsOf id a
  | .loop a => opsOf id a
  | _ => none
def ropsOf (fn : Func) (id : Nat) : Array Oper := match fn.body with
  | some c => (opsOf id c).getD #[]
  | none => #[]
theorem light_any {w : World} {ao : Option Addr} {n c pb po_ : Nat} {st : Nat → Sq} (SS : StpQ w ao n pb po_ st) : Calls Tryz.prog 5 #[.slice ao n c] w fun e w' => ∃ b, e = .returned (.bool b) ∧ (b = true → n ≤ 150 ∧ ∀ k, k < n → (st k).l ≤ 30) ∧ Below w.heap.size w w' := by
  have hfew := SS.few
  have BB := Below.refl w.heap.size w
  refine gc_enter (n := 26) Tryz.func5 rfl (by kernel_rfl) (by kernel_rfl) ?_
  refine gc_seq ?_
  refine gc_reg ?_
  refine t 2 (.bool false) ?_
  refine gl_nil ?_
  refine ge_then ?_
  refine gc_seq ?_
  refine gc_seq ?_
  refine gc_reg ?_
  refine t 3 (.int .i64 0) ?_
  refine gl_nil ?_
  refine ge_then ?_
  refine gc_block ?_
  refine gc_loop (fun s => n - s) (fun (s : Nat) => [(0, .slice ao n c), (3, .int .i64 (s : Int))]) (fun s w' => s ≤ n ∧ s ≤ 151 ∧ Below w.heap.size w w' ∧ ∀ k, k < s → (st k).l ≤ 30) (0 : Nat) ⟨Nat.zero_le _, Nat.zero_le _, BB, fun k h => absurd h (Nat.not_lt_zero _)⟩ (by kernel_rfl) ?_
  clear BB
  rintro i v1 ⟨hi, hi2, BB, hl⟩
  refine gc_seq ?_
  refine gc_seq ?_
  refine gc_reg ?_
  refine t 4 (.int .i64 (i : Int)) ?_
  refine t 5 (.slice ao n c) ?_
  refine t 6 (.int .i64 ((n : Nat) : Int)) ?_
  by_cases ci : (i : Int) < ((n : Nat) : Int)
  · have hk_i : i < n := by omega
    refine tq 7 (.bool (decide ((i : Int) < ((n : Nat) : Int)))) (.bool true) (congrArg Value.bool (decide_eq_true ci)) ?_
    refine t 8 (.bool true) ?_
    refine t 9 (.int .i64 (i : Int)) ?_
    by_cases c2 : (i : Int) ≤ 150
    · refine tq 10 (.bool (decide ((i : Int) ≤ 150))) (.bool true) (congrArg Value.bool (decide_eq_true c2)) ?_
      refine t 11 (.bool true) ?_
      refine gl_nil ?_
      refine ge_then ?_
      refine gc_yes ?_
      refine gc_skip ?_
      refine ge_then ?_
      refine gc_seq ?_
      refine gc_block ?_
      refine gc_seq ?_
      refine gc_reg ?_
      refine t 14 (.slice ao n c) ?_
      refine t 15 (.int .i64 (i : Int)) ?_
      refine tr 16 (pq pb (po_ + i * 16)) (run_ixa 16 pb po_ n c i hk_i SS.ptr) ?_
      refine t 17 (pq pb (po_ + i * 16 + 9)) ?_
      refine t 18 (pq pb (po_ + i * 16 + 9 + 6)) ?_
      refine t 19 (pq pb (po_ + i * 16 + 9 + 6)) ?_
      refine tr 20 (.slice (Sq.a (st i)) (Sq.l (st i)) (Sq.c (st i))) (run_lN SS hk_i BB) ?_
      refine t 21 (.int .i64 ((Sq.l (st i) : Nat) : Int)) ?_
      by_cases c3 : (30 : Int) < ((Sq.l (st i) : Nat) : Int)
      · refine tq 22 (.bool (decide ((30 : Int) < ((Sq.l (st i) : Nat) : Int)))) (.bool true) (congrArg Value.bool (decide_eq_true c3)) ?_
        refine gl_nil ?_
        refine ge_then ?_
        refine gc_fr [(0, .slice ao n c), (3, .int .i64 (i : Int)), (4, .int .i64 (i : Int)), (5, .slice ao n c), (6, .int .i64 ((n : Nat) : Int)), (7, .bool true), (8, .bool true), (9, .int .i64 (i : Int)), (10, .bool true), (11, .bool true), (14, .slice ao n c), (15, .int .i64 (i : Int)), (16, pq pb (po_ + i * 16)), (17, pq pb (po_ + i * 16 + 9)), (18, pq pb (po_ + i * 16 + 9 + 6)), (19, pq pb (po_ + i * 16 + 9 + 6)), (20, .slice (Sq.a (st i)) (Sq.l (st i)) (Sq.c (st i))), (21, .int .i64 ((Sq.l (st i) : Nat) : Int)), (22, .bool true)] (by kernel_rfl) ?_
        refine gc_yes ?_
        refine gc_seq ?_
        refine gc_reg ?_
        refine t 2 (.bool false) ?_
        refine gl_nil ?_
        refine ge_then ?_
        refine gc_ret ?_
        refine ge_br ?_
        refine ge_tr ?_
        refine ge_tr ?_
        refine ge_br ?_
        refine ge_tr ?_
        refine ge_ret (.bool false) (rs1 2 (by kernel_rfl) (by kernel_rfl)) ?_
        exact ⟨false, rfl, (fun h => by cases h), BB⟩
      · refine tq 22 (.bool (decide ((30 : Int) < ((Sq.l (st i) : Nat) : Int)))) (.bool false) (congrArg Value.bool (decide_eq_false c3)) ?_
        refine gl_nil ?_
        refine ge_then ?_
        refine gc_fr [(0, .slice ao n c), (3, .int .i64 (i : Int)), (4, .int .i64 (i : Int)), (5, .slice ao n c), (6, .int .i64 ((n : Nat) : Int)), (7, .bool true), (8, .bool true), (9, .int .i64 (i : Int)), (10, .bool true), (11, .bool true), (14, .slice ao n c), (15, .int .i64 (i : Int)), (16, pq pb (po_ + i * 16)), (17, pq pb (po_ + i * 16 + 9)), (18, pq pb (po_ + i * 16 + 9 + 6)), (19, pq pb (po_ + i * 16 + 9 + 6)), (20, .slice (Sq.a (st i)) (Sq.l (st i)) (Sq.c (st i))), (21, .int .i64 ((Sq.l (st i) : Nat) : Int)), (22, .bool false)] (by kernel_rfl) ?_
        refine gc_no ?_
        refine gc_skip ?_
        refine ge_bn ?_
        refine ge_then ?_
        refine gc_reg ?_
        refine t 12 (.int .i64 (i : Int)) ?_
        refine tq 13 (.int .i64 (IntKind.i64.wrap ((i : Int) + 1))) (.int .i64 ((i : Int) + 1)) (wi (by omega)) ?_
        refine t 3 (.int .i64 ((i : Int) + 1)) ?_
        refine gl_nil ?_
        exact ge_round (i + 1) (by show n - (i + 1) < n - i; omega) ⟨hk_i, by omega, BB, fun k hk => by
                      rcases Nat.lt_or_ge k i with h1 | h1
                      · exact hl k h1
                      · have : k = i := by omega
                        subst this
                        have h30 := c3
                        omega⟩ (by kernel_rfl)
    · refine tq 10 (.bool (decide ((i : Int) ≤ 150))) (.bool false) (congrArg Value.bool (decide_eq_false c2)) ?_
      refine t 11 (.bool false) ?_
      refine gl_nil ?_
      refine ge_then ?_
      refine gc_no ?_
      refine gc_exit ?_
      refine ge_tx ?_
      refine ge_tx ?_
      refine ge_bx ?_
      refine ge_then ?_
      refine gc_seq ?_
      refine gc_reg ?_
      refine t 23 (.slice ao n c) ?_
      refine t 24 (.int .i64 ((n : Nat) : Int)) ?_
      by_cases c4 : ((n : Nat) : Int) ≤ 150
      · refine tq 25 (.bool (decide (((n : Nat) : Int) ≤ 150))) (.bool true) (congrArg Value.bool (decide_eq_true c4)) ?_
        refine t 2 (.bool true) ?_
        refine gl_nil ?_
        refine ge_then ?_
        refine gc_fr [(2, .bool true)] (by kernel_rfl) ?_
        refine gc_ret ?_
        refine ge_ret (.bool true) (rs1 2 (by kernel_rfl) (by kernel_rfl)) ?_
        exact ⟨true, rfl, fun _ => ⟨by omega, fun k hk => hl k (by omega)⟩, BB⟩
      · refine tq 25 (.bool (decide (((n : Nat) : Int) ≤ 150))) (.bool false) (congrArg Value.bool (decide_eq_false c4)) ?_
        refine t 2 (.bool false) ?_
        refine gl_nil ?_
        refine ge_then ?_
        refine gc_fr [(2, .bool false)] (by kernel_rfl) ?_
        refine gc_ret ?_
        refine ge_ret (.bool false) (rs1 2 (by kernel_rfl) (by kernel_rfl)) ?_
        exact ⟨false, rfl, (fun h => by cases h), BB⟩
  · refine tq 7 (.bool (decide ((i : Int) < ((n : Nat) : Int)))) (.bool false) (congrArg Value.bool (decide_eq_false ci)) ?_
    refine t 8 (.bool false) ?_
    refine tn 9 ?_
    refine tn 10 ?_
    refine t 11 (.bool false) ?_
    refine gl_nil ?_
    refine ge_then ?_
    refine gc_no ?_
    refine gc_exit ?_
    refine ge_tx ?_
    refine ge_tx ?_
    refine ge_bx ?_
    refine ge_then ?_
    refine gc_seq ?_
    refine gc_reg ?_
    refine t 23 (.slice ao n c) ?_
    refine t 24 (.int .i64 ((n : Nat) : Int)) ?_
    by_cases c5 : ((n : Nat) : Int) ≤ 150
    · refine tq 25 (.bool (decide (((n : Nat) : Int) ≤ 150))) (.bool true) (congrArg Value.bool (decide_eq_true c5)) ?_
      refine t 2 (.bool true) ?_
      refine gl_nil ?_
      refine ge_then ?_
      refine gc_fr [(2, .bool true)] (by kernel_rfl) ?_
      refine gc_ret ?_
      refine ge_ret (.bool true) (rs1 2 (by kernel_rfl) (by kernel_rfl)) ?_
      exact ⟨true, rfl, fun _ => ⟨by omega, fun k hk => hl k (by omega)⟩, BB⟩
    · refine tq 25 (.bool (decide (((n : Nat) : Int) ≤ 150))) (.bool false) (congrArg Value.bool (decide_eq_false c5)) ?_
      refine t 2 (.bool false) ?_
      refine gl_nil ?_
      refine ge_then ?_
      refine gc_fr [(2, .bool false)] (by kernel_rfl) ?_
      refine gc_ret ?_
      refine ge_ret (.bool false) (rs1 2 (by kernel_rfl) (by kernel_rfl)) ?_
      exact ⟨false, rfl, (fun h => by cases h), BB⟩
end Qu
end Go.Proofs.YtidnifmehnjipaaGreat

namespace Go.Proofs.YtidnifmehnjipaaGreat
namespace Qu
open Go.RowKit Go.Lib Pg Lim Gl Kv Bk Pw
attribute [local go_sem] Oper.semAt_some
set_option maxRecDepth 100000
set_option linter.unusedVariables false
set_option linter.unusedSimpArgs false
set_option maxHeartbeats 2000000
theorem StpQ.keep {w V : World} {ao : Option Addr} {n b o : Nat} {st : Nat → Sq} (h : StpQ w ao n b o st) (hB : Below w.heap.size w V) : StpQ V ao n b o st :=
  ⟨h.ptr, fun i hi j v hj => cellB hB (h.cell i hi j v hj), h.rng, fun i hi => by
    have q := (h.nat i hi).keep hB
    have := hB.size
    exact ⟨q.lt, q.out.imp_right fun h1 h2 => h1 (Nat.le_trans this h2), q.to⟩, h.few⟩
section
variable {E : Ents} {n0 : Int} {st : Nat → Sq} {i : Nat}
theorem Qs.stepU (h : Qs E (n0 + i) (qes n0 st i)) (hc : (st i).w.tmod 2 = 0) (hnx : n0 + i + 1 < 18446744073709551616) (hi : i ≤ 100000) (r : Sqr (st i)) : Qs (beginE E 12 (uv (st i).u0 (st i).u1 (st i).u2 (st i).u3 (st i).u4 (st i).u5) (st i).u0 (st i).u1 (st i).u3) (n0 + ((i + 1 : Nat) : Int)) (qes n0 st (i + 1)) := by
  have q := h.unb hnx (by rw [qes_len]; exact hi) r
  rw [qes_succ, show qe n0 (st i) i = ⟨n0 + i, 12, (st i).u0, (st i).u1, (st i).u3⟩ from if_pos hc, show n0 + ((i + 1 : Nat) : Int) = n0 + i + 1 by omega]
  exact q
theorem Qs.stepM (h : Qs E (n0 + i) (qes n0 st i)) (hc : ¬ (st i).w.tmod 2 = 0) (hnx : n0 + i + 1 < 18446744073709551616) (hi : i ≤ 100000) (r : Sqr (st i)) : Qs (beginE E 13 (mv (st i).m0 (st i).m1 (st i).m2 (st i).m3 (st i).m4 (st i).m5 (st i).x) (st i).m0 (st i).m1 (st i).m4) (n0 + ((i + 1 : Nat) : Int)) (qes n0 st (i + 1)) := by
  have q := h.mov hnx (by rw [qes_len]; exact hi) r
  rw [qes_succ, show qe n0 (st i) i = ⟨n0 + i, 13, (st i).m0, (st i).m1, (st i).m4⟩ from if_neg hc, show n0 + ((i + 1 : Nat) : Int) = n0 + i + 1 by omega]
  exact q
theorem bg_qs0 (h : Uq n0) : Qs (bgE n0) (n0 + ((0 : Nat) : Int)) (qes n0 st 0) := by
  have q := bg_qs h
  rw [show n0 + ((0 : Nat) : Int) = n0 by omega]
  exact q
theorem Qs.at {k : Nat} {nx : Int} (h : Qs E nx (qes n0 st k)) {j : Nat} (hj : j < k) : ((qe n0 (st j) j).k = 12 ∨ (qe n0 (st j) j).k = 13) ∧ (0 ≤ (qe n0 (st j) j).id ∧ (qe n0 (st j) j).id < nx) ∧ Uq (qe n0 (st j) j).del ∧ Uq (qe n0 (st j) j).val ∧ Uq (qe n0 (st j) j).due := h.good _ (qes_mem.2 ⟨j, hj, rfl⟩)
end
end Qu
end Go.Proofs.YtidnifmehnjipaaGreat
