/- Several texts, joined: GnC. -/
import Derived.Test.YtpoifdokmjhclaaGreatJyn
import Derived.Test.YtpoifdokmjhclaaGreatJyb
namespace Go.Proofs.YtpoifdokmjhclaaGreat
namespace Gn
open Go.RowKit Go.Lib Pg Lim Gl Mg
attribute [local go_sem] Oper.semAt_some
set_option maxRecDepth 100000
set_option linter.unusedVariables false
set_option linter.unusedSimpArgs false
set_option maxHeartbeats 2000000
theorem xQ32 {w : World} {g b : Nat} {s : St} (R : RdA w g b s.1 s.2) : Calls Tryz.prog 46 #[pg g] w fun e w' => ∃ v s', rU 4 s = (v, s') ∧ (0 ≤ v ∧ v < 4294967296) ∧ e = .returned (.int .u32 v) ∧ RdA w' g b s'.1 s'.2 ∧ But g w w' := by
  refine (rdU32 R).mono ?_
  rintro e w' ⟨rfl, R', U⟩
  exact ⟨_, _, rfl, (rU_inv (m := 4) rfl R.oct).1.2, rfl, R', U⟩
theorem ten_list {α : Type} {l : List α} (h : l.length = 10) : ∃ a b c d e f g i j k, l = [a, b, c, d, e, f, g, i, j, k] := by
  match l, h with
  | [a, b, c, d, e, f, g, i, j, k], _ => exact ⟨a, b, c, d, e, f, g, i, j, k, rfl⟩
/-- cells that are read into, one by one -/
def cR (m i : Nat) (s : St) : List Value := ((rN i s).1 ++ List.replicate (m - i) 0).map (Value.int .u64)
theorem cR_len {m i : Nat} {s : St} (h : i ≤ m) : (cR m i s).length = m := by simp only [cR, List.length_map, List.length_append, rN_len, List.length_replicate]; omega
theorem cR_done (m : Nat) (s : St) : cR m m s = (rN m s).1.map (Value.int .u64) := by simp [cR]
theorem cR_nou (m i : Nat) (s : St) : (cR m i s).any u8V = false := by
  rw [List.any_eq_false]
  intro v hv
  obtain ⟨x, _, rfl⟩ := List.mem_map.1 hv
  simp [u8V]
theorem cR_put {m i k : Nat} {s : St} {vs : List Value} (h : i + k ≤ m) (hv : (rN k (rN i s).2).1.map (Value.int .u64) = vs) : spl (cR m i s) i vs = cR m (i + k) s := by
  subst hv
  have h2 : (rN i s).1.length = i := rN_len i s
  have h3 : (rN k (rN i s).2).1.length = k := rN_len k _
  unfold spl cR
  rw [rN_add]
  simp only [List.map_append, List.length_map, h3]
  rw [List.take_left' (by rw [List.length_map, h2]), List.drop_append, List.drop_of_length_le (by rw [List.length_map, h2]; omega), List.length_map, h2, List.nil_append, show i + k - i = k by omega, List.map_replicate, List.map_replicate, List.drop_replicate, show m - i - k = m - (i + k) by omega]
theorem cR_fit {m i k : Nat} {s : St} {vs : List Value} (h : i + k ≤ m) (hv : vs.length = k) : Nat.ble (i + vs.length) (cR m i s).length = true := by
  rw [cR_len (by omega), hv]; exact Nat.ble_eq_true_of_le h
theorem rN1 {s s' : St} {v : Int} (e : rU 8 s = (v, s')) : rN 1 s = ([v], s') := by simp only [rN, e]
theorem rN2 {s s1 s2 : St} {x y : Int} (e : rU 8 s = (x, s1)) (e1 : rU 8 s1 = (y, s2)) : rN 2 s = ([x, y], s2) := by simp only [rN, e, e1]
theorem rN3 {s s1 s2 s3 : St} {x y z : Int} (e : rU 8 s = (x, s1)) (e1 : rU 8 s1 = (y, s2)) (e2 : rU 8 s2 = (z, s3)) : rN 3 s = ([x, y, z], s3) := by simp only [rN, e, e1, e2]
abbrev Rq (r q : Nat) : Nat → Prop := fun x => x = r ∨ x = q
theorem chgU {g : Nat} {w w' : World} (U : But g w w') : Chg (· = g) w w' := ⟨U.os, U.tape, U.output, U.size, fun b hb hn => U.block b hb hn⟩
theorem vB {r q : Nat} {w v v' : World} (C : Chg (Rq r q) w v) (B : Below v.heap.size v v') : Chg (Rq r q) w v' := C.trans (Chg.of (F := fun _ => False) B) (fun _ _ h => h.elim)
theorem vU {r q : Nat} {w v v' : World} (C : Chg (Rq r q) w v) (U : But q v v') : Chg (Rq r q) w v' := C.trans (chgU U) (fun _ _ h => .inr h)
theorem vR {r q : Nat} {w v v' : World} (C : Chg (Rq r q) w v) (U : Chg (· = r) v v') : Chg (Rq r q) w v' := C.trans U (fun _ _ h => .inl h)
theorem vN {r q g : Nat} {w v v' : World} (C : Chg (Rq r q) w v) (U : Chg (· = g) v v') (hg : w.heap.size ≤ g) : Chg (Rq r q) w v' := C.trans U (fun b hb h => by have h' : b = g := h; omega)
theorem vBl {r q : Nat} {w0 w v : World} (B : Below w0.heap.size w0 w) (C : Chg (Rq r q) w v) (hr : w0.heap.size ≤ r) (hq : w0.heap.size ≤ q) : Below w0.heap.size w0 v := B.trans (C.below (fun b hb => by rcases hb with h | h <;> omega) B.size)
theorem bV {r q g : Nat} {w v : World} {cs : List Value} {t : TypeId} (X : Blk w g cs t) (C : Chg (Rq r q) w v) (h : g ≠ r ∧ g ≠ q) : Blk v g cs t := X.chg C (fun e => e.elim h.1 h.2)
theorem made64 {z : List Value} (hz : ∀ v ∈ z, v = .int .u64 0) (h0 : 0 < z.length) (n : Nat) : madeCells z.toArray n = (cR n 0 (0, [])).toArray := by
  apply Array.ext
  · rw [size_madeCells, List.size_toArray, cR_len (Nat.zero_le _)]
  · intro j h1 h2
    have hj : j % z.length < z.length := Nat.mod_lt _ h0
    simp only [madeCells, cR, rN, List.nil_append, Nat.sub_zero, List.map_replicate, List.getElem_toArray, List.getElem_replicate, Array.getElem_map, Array.getElem_range, List.size_toArray]
    rw [List.getElem!_toArray, List.getElem!_eq_getElem?_getD, List.getElem?_eq_getElem hj, Option.getD_some]
    exact hz _ (List.getElem_mem _)
/-- a list of so many elements is made -/
theorem ta_ms {n : Nat} {ds : List Deferred} {ops : Array Oper} {rest : List Oper} {o : Oper} {l : Fr} {w : World} {Q : Exit → Act → World → Prop} (d m k : Nat) (z : List Value) (T E : TypeId) (hm : m ≤ 1000000) (ht : Tryz.prog.underlying T = some (.slice E)) (hi : (Tryz.prog.info? E).map (fun i => (i.zero, i.size, decide (i.bytes ≤ 1000))) = some (some (.agg z.toArray), k, true)) (h : ∀ w1 g, Blk w1 g (cR (m * k) 0 (0, [])) E → w.heap.size ≤ g → Below w.heap.size w w1 → GL Tryz.prog n ds ops Q rest ((d, .slice (some ⟨g, 0, none⟩) m m) :: l) w1) (hz : ∀ v ∈ z, v = .int .u64 0 := by simp) (h0 : 0 < z.length := by decide) (ho : ∃ x, o.op = .makeSlice T x x ∧ evL l x = .int .u32 (m : Int) := by exact ⟨_, rfl, by kernel_rfl⟩) (hg : gd ops l o = some true := by kernel_rfl) (hc : chk n l o (some d) = true := by kernel_rfl) : GL Tryz.prog n ds ops Q (o :: rest) l w := by
  obtain ⟨x, h1, h2⟩ := ho
  cases hq : Tryz.prog.info? E with
  | none => rw [hq] at hi; cases hi
  | some i =>
    rw [hq] at hi
    simp only [Option.map_some, Option.some.injEq, Prod.mk.injEq, decide_eq_true_eq] at hi
    obtain ⟨i1, i2, i3⟩ := hi
    have hrun := run_make (P := Tryz.prog) w T E i _ ht hq i1 .u32 .u32 (m : Int) (m : Int) (by omega) (by omega) (by have := Int.mul_le_mul (a := (i.bytes : Int)) (b := (m : Int)) (c := 1000) (d := 1000000) (by omega) (by omega) (by omega) (by omega); omega) (by omega)
    refine gl_val (some d) (.slice (some ⟨w.heap.size, 0, none⟩) m m) hg hc ?_ (h (w.alloc (.cells (cR (m * k) 0 (0, [])).toArray E)) _ (blk_new w _ E) (Nat.le_refl _) (below_alloc w _))
    simp only [execOp, h1, h2]
    rw [i2, show (Value.agg z.toArray).cells = z.toArray from rfl, made64 hz h0, Int.toNat_natCast] at hrun
    simp [hrun, Result.andThen]
theorem refuse_t {w : World} {r q : Nat} {c : Bool} (X : Blk w r [pg q, .bool true] 108) : Calls Tryz.prog 45 #[pg r, .bool c] w fun e w' => e = .returned (.tuple #[]) ∧ Blk w' r [pg q, .bool true] 108 ∧ Chg (· = r) w w' := by
  have CH : Chg (· = r) w w := Chg.refl _ _
  refine gc_enter (n := 14) Tryz.func45 rfl (by kernel_rfl) (by kernel_rfl) ?_
  refine gc_reg ?_
  refine t 4 (pg r) ?_
  refine t 5 (pg r) ?_
  refine t 6 (pg r) ?_
  refine t 7 (pq r 1) ?_
  refine tl 8 (.bool true) X 1 ?_
  refine t 9 (.bool true) ?_
  refine tn 10 ?_
  refine t 11 (.bool true) ?_
  refine t 12 (pg r) ?_
  refine t 13 (pq r 1) ?_
  refine ts X 1 (.bool true) [.bool true] [pg q, .bool true] ?_
  intro v1 Y C
  replace CH := CH.trans C (fun _ _ h => h)
  clear C X
  have X := Y
  clear Y
  refine gl_nil ?_
  refine ge_end (.tuple #[]) (rs0 (by kernel_rfl)) ?_
  exact ⟨rfl, X, CH⟩
theorem refuse_f {w : World} {r q : Nat} {c : Bool} (X : Blk w r [pg q, .bool false] 108) : Calls Tryz.prog 45 #[pg r, .bool c] w fun e w' => e = .returned (.tuple #[]) ∧ Blk w' r [pg q, .bool c] 108 ∧ Chg (· = r) w w' := by
  have CH : Chg (· = r) w w := Chg.refl _ _
  refine gc_enter (n := 14) Tryz.func45 rfl (by kernel_rfl) (by kernel_rfl) ?_
  refine gc_reg ?_
  refine t 4 (pg r) ?_
  refine t 5 (pg r) ?_
  refine t 6 (pg r) ?_
  refine t 7 (pq r 1) ?_
  refine tl 8 (.bool false) X 1 ?_
  refine t 9 (.bool false) ?_
  refine t 10 (.bool c) ?_
  refine t 11 (.bool c) ?_
  refine t 12 (pg r) ?_
  refine t 13 (pq r 1) ?_
  refine ts X 1 (.bool c) [.bool c] [pg q, .bool c] ?_
  intro v1 Y C
  replace CH := CH.trans C (fun _ _ h => h)
  clear C X
  have X := Y
  clear Y
  refine gl_nil ?_
  refine ge_end (.tuple #[]) (rs0 (by kernel_rfl)) ?_
  exact ⟨rfl, X, CH⟩
theorem refuse_any {w : World} {r q : Nat} {a c : Bool} (X : Blk w r [pg q, .bool a] 108) : Calls Tryz.prog 45 #[pg r, .bool c] w fun e w' => e = .returned (.tuple #[]) ∧ Blk w' r [pg q, .bool (a || c)] 108 ∧ Chg (· = r) w w' := by
  cases a with
  | true => exact refuse_t X
  | false => exact refuse_f X
theorem head_any {w : World} {r q b : Nat} {a : Bool} {s : St} (X : Blk w r [pg q, .bool a] 108) (RD : RdA w q b s.1 s.2) (hrq : r ≠ q) : Calls Tryz.prog 18 #[pg r] w fun e w' => ∃ v s', rU 4 s = (v, s') ∧ e = .returned (.tuple #[]) ∧ Blk w' r [pg q, .bool (a || (v != 1196183089))] 108 ∧ RdA w' q b s'.1 s'.2 ∧ Chg (Rq r q) w w' := by
  have lRD := RD.lt
  have lXr := X.lt
  have CV : Chg (Rq r q) w w := Chg.refl _ _
  refine gc_enter (n := 10) Tryz.func18 rfl (by kernel_rfl) (by kernel_rfl) ?_
  refine gc_reg ?_
  refine t 2 (pg r) ?_
  refine t 3 (pg r) ?_
  refine t 4 (pg r) ?_
  refine t 5 (pg r) ?_
  refine tl 6 (pg q) X 0 ?_
  refine tc 7 46 #[pg q] (xQ32 (s := s) RD) ?_
  rintro _ v3 ⟨x1, s2, Ex1, Hx1, rfl, RX, U⟩
  refine ⟨_, rfl, ?_⟩
  replace CV := vU CV U
  replace X := But.blk U X (show r ≠ q by omega)
  clear U
  clear RD
  have RD := RX
  clear RX
  refine t 8 (.bool (x1 != 1196183089)) ?_
  have lX := X.lt
  refine tc 9 45 #[pg r, .bool (x1 != 1196183089)] (refuse_any X) ?_
  rintro _ v4 ⟨rfl, X2, C⟩
  refine ⟨_, rfl, ?_⟩
  replace CV := vR CV C
  replace RD := RdA.offB RD X rfl (by omega) (chg_but C)
  clear C
  clear X
  have X := X2
  clear X2
  refine gl_nil ?_
  refine ge_end (.tuple #[]) (rs0 (by kernel_rfl)) ?_
  exact ⟨_, _, Ex1, rfl, X, RD, CV⟩
theorem rPurse {w : World} {r q b : Nat} {a : Bool} {s : St} (X : Blk w r [pg q, .bool a] 108) (RD : RdA w q b s.1 s.2) (hrq : r ≠ q) : Calls Tryz.prog 21 #[pg r] w fun e w' => ∃ x y s', rN 2 s = ([x, y], s') ∧ e = .returned (.agg #[.int .u64 x, .int .u64 y]) ∧ RdA w' q b s'.1 s'.2 ∧ But q w w' := by
  have lRD := RD.lt
  have lXr := X.lt
  have BU := But.refl q w
  refine gc_enter (n := 16) Tryz.func21 rfl (by kernel_rfl) (by kernel_rfl) ?_
  refine gc_seq ?_
  refine gc_reg ?_
  have lRD := RD.lt
  have lX := X.lt
  refine ta 2 [.int .u64 0, .int .u64 0] 43 (pg) ?_
  intro v1 g2 Xg2 hg2 B
  have zg2 := Nat.le_trans BU.size hg2
  replace BU := BU.trans (But.of B)
  replace RD := RD.keep B
  replace X := X.keep B
  clear B
  refine gl_nil ?_
  refine ge_then ?_
  refine gc_seq ?_
  refine gc_reg ?_
  refine t 3 (pg r) ?_
  refine t 4 (pg r) ?_
  refine t 5 (pg r) ?_
  refine tl 6 (pg q) X 0 ?_
  refine tc 7 48 #[pg q] (xU64 (s := s) RD) ?_
  rintro _ v5 ⟨x3, s4, Ex3, rfl, RX, U⟩
  refine ⟨_, rfl, ?_⟩
  replace BU := BU.trans U
  replace X := But.blk U X (show r ≠ q by omega)
  replace Xg2 := But.blk U Xg2 (show g2 ≠ q by omega)
  clear U
  clear RD
  have RD := RX
  clear RX
  refine t 8 (pg g2) ?_
  refine ts Xg2 0 (.int .u64 x3) [.int .u64 x3] [.int .u64 x3, .int .u64 0] ?_
  intro v6 Y C
  replace BU := butC BU C (by omega)
  replace RD := RdA.offB RD Xg2 (by first | rfl | exact cR_nou _ _ _) (by omega) (chg_but C)
  replace X := X.chg C (show r ≠ g2 by omega)
  clear C Xg2
  have Xg2 := Y
  clear Y
  refine gl_nil ?_
  refine ge_then ?_
  refine gc_seq ?_
  refine gc_reg ?_
  refine t 9 (pg r) ?_
  refine t 10 (pg r) ?_
  refine t 11 (pg r) ?_
  refine tl 12 (pg q) X 0 ?_
  refine tc 13 48 #[pg q] (xU64 (s := s4) RD) ?_
  rintro _ v9 ⟨x7, s8, Ex7, rfl, RX, U⟩
  refine ⟨_, rfl, ?_⟩
  replace BU := BU.trans U
  replace X := But.blk U X (show r ≠ q by omega)
  replace Xg2 := But.blk U Xg2 (show g2 ≠ q by omega)
  clear U
  clear RD
  have RD := RX
  clear RX
  refine t 14 (pq g2 1) ?_
  refine ts Xg2 1 (.int .u64 x7) [.int .u64 x7] [.int .u64 x3, .int .u64 x7] ?_
  intro v10 Y C
  replace BU := butC BU C (by omega)
  replace RD := RdA.offB RD Xg2 (by first | rfl | exact cR_nou _ _ _) (by omega) (chg_but C)
  replace X := X.chg C (show r ≠ g2 by omega)
  clear C Xg2
  have Xg2 := Y
  clear Y
  refine gl_nil ?_
  refine ge_then ?_
  refine gc_seq ?_
  refine gc_reg ?_
  refine tlr 15 [.int .u64 x3, .int .u64 x7] Xg2 0 ?_
  refine ts Xg2 0 (.agg #[.int .u64 x3, .int .u64 x7]) [.int .u64 x3, .int .u64 x7] [.int .u64 x3, .int .u64 x7] ?_
  intro v11 Y C
  replace BU := butC BU C (by omega)
  replace RD := RdA.offB RD Xg2 (by first | rfl | exact cR_nou _ _ _) (by omega) (chg_but C)
  replace X := X.chg C (show r ≠ g2 by omega)
  clear C Xg2
  have Xg2 := Y
  clear Y
  refine gl_nil ?_
  refine ge_then ?_
  refine gc_ret ?_
  refine ge_ret (.agg #[.int .u64 x3, .int .u64 x7]) (rsc 2 (T := 43) (by kernel_rfl) (by kernel_rfl) (lr Xg2 0)) ?_
  exact ⟨_, _, _, rN2 Ex3 Ex7, rfl, RD, BU⟩
theorem rFound {w : World} {r q b : Nat} {a : Bool} {s : St} (X : Blk w r [pg q, .bool a] 108) (RD : RdA w q b s.1 s.2) (hrq : r ≠ q) : Calls Tryz.prog 23 #[pg r] w fun e w' => ∃ x y u s', rN 3 s = ([x, y, u], s') ∧ e = .returned (.agg #[.int .u64 x, .int .u64 y, .int .u64 u]) ∧ RdA w' q b s'.1 s'.2 ∧ But q w w' := by
  have lRD := RD.lt
  have lXr := X.lt
  have BU := But.refl q w
  refine gc_enter (n := 22) Tryz.func23 rfl (by kernel_rfl) (by kernel_rfl) ?_
  refine gc_seq ?_
  refine gc_reg ?_
  have lRD := RD.lt
  have lX := X.lt
  refine ta 2 [.int .u64 0, .int .u64 0, .int .u64 0] 45 (pg) ?_
  intro v1 g2 Xg2 hg2 B
  have zg2 := Nat.le_trans BU.size hg2
  replace BU := BU.trans (But.of B)
  replace RD := RD.keep B
  replace X := X.keep B
  clear B
  refine gl_nil ?_
  refine ge_then ?_
  refine gc_seq ?_
  refine gc_reg ?_
  refine t 3 (pg r) ?_
  refine t 4 (pg r) ?_
  refine t 5 (pg r) ?_
  refine tl 6 (pg q) X 0 ?_
  refine tc 7 48 #[pg q] (xU64 (s := s) RD) ?_
  rintro _ v5 ⟨x3, s4, Ex3, rfl, RX, U⟩
  refine ⟨_, rfl, ?_⟩
  replace BU := BU.trans U
  replace X := But.blk U X (show r ≠ q by omega)
  replace Xg2 := But.blk U Xg2 (show g2 ≠ q by omega)
  clear U
  clear RD
  have RD := RX
  clear RX
  refine t 8 (pg g2) ?_
  refine ts Xg2 0 (.int .u64 x3) [.int .u64 x3] [.int .u64 x3, .int .u64 0, .int .u64 0] ?_
  intro v6 Y C
  replace BU := butC BU C (by omega)
  replace RD := RdA.offB RD Xg2 (by first | rfl | exact cR_nou _ _ _) (by omega) (chg_but C)
  replace X := X.chg C (show r ≠ g2 by omega)
  clear C Xg2
  have Xg2 := Y
  clear Y
  refine gl_nil ?_
  refine ge_then ?_
  refine gc_seq ?_
  refine gc_reg ?_
  refine t 9 (pg r) ?_
  refine t 10 (pg r) ?_
  refine t 11 (pg r) ?_
  refine tl 12 (pg q) X 0 ?_
  refine tc 13 48 #[pg q] (xU64 (s := s4) RD) ?_
  rintro _ v9 ⟨x7, s8, Ex7, rfl, RX, U⟩
  refine ⟨_, rfl, ?_⟩
  replace BU := BU.trans U
  replace X := But.blk U X (show r ≠ q by omega)
  replace Xg2 := But.blk U Xg2 (show g2 ≠ q by omega)
  clear U
  clear RD
  have RD := RX
  clear RX
  refine t 14 (pq g2 1) ?_
  refine ts Xg2 1 (.int .u64 x7) [.int .u64 x7] [.int .u64 x3, .int .u64 x7, .int .u64 0] ?_
  intro v10 Y C
  replace BU := butC BU C (by omega)
  replace RD := RdA.offB RD Xg2 (by first | rfl | exact cR_nou _ _ _) (by omega) (chg_but C)
  replace X := X.chg C (show r ≠ g2 by omega)
  clear C Xg2
  have Xg2 := Y
  clear Y
  refine gl_nil ?_
  refine ge_then ?_
  refine gc_seq ?_
  refine gc_reg ?_
  refine t 15 (pg r) ?_
  refine t 16 (pg r) ?_
  refine t 17 (pg r) ?_
  refine tl 18 (pg q) X 0 ?_
  refine tc 19 48 #[pg q] (xU64 (s := s8) RD) ?_
  rintro _ v13 ⟨x11, s12, Ex11, rfl, RX, U⟩
  refine ⟨_, rfl, ?_⟩
  replace BU := BU.trans U
  replace X := But.blk U X (show r ≠ q by omega)
  replace Xg2 := But.blk U Xg2 (show g2 ≠ q by omega)
  clear U
  clear RD
  have RD := RX
  clear RX
  refine t 20 (pq g2 2) ?_
  refine ts Xg2 2 (.int .u64 x11) [.int .u64 x11] [.int .u64 x3, .int .u64 x7, .int .u64 x11] ?_
  intro v14 Y C
  replace BU := butC BU C (by omega)
  replace RD := RdA.offB RD Xg2 (by first | rfl | exact cR_nou _ _ _) (by omega) (chg_but C)
  replace X := X.chg C (show r ≠ g2 by omega)
  clear C Xg2
  have Xg2 := Y
  clear Y
  refine gl_nil ?_
  refine ge_then ?_
  refine gc_fr [(2, pg g2)] (by kernel_rfl) ?_
  refine gc_seq ?_
  refine gc_reg ?_
  refine tlr 21 [.int .u64 x3, .int .u64 x7, .int .u64 x11] Xg2 0 ?_
  refine ts Xg2 0 (.agg #[.int .u64 x3, .int .u64 x7, .int .u64 x11]) [.int .u64 x3, .int .u64 x7, .int .u64 x11] [.int .u64 x3, .int .u64 x7, .int .u64 x11] ?_
  intro v15 Y C
  replace BU := butC BU C (by omega)
  replace RD := RdA.offB RD Xg2 (by first | rfl | exact cR_nou _ _ _) (by omega) (chg_but C)
  replace X := X.chg C (show r ≠ g2 by omega)
  clear C Xg2
  have Xg2 := Y
  clear Y
  refine gl_nil ?_
  refine ge_then ?_
  refine gc_ret ?_
  refine ge_ret (.agg #[.int .u64 x3, .int .u64 x7, .int .u64 x11]) (rsc 2 (T := 45) (by kernel_rfl) (by kernel_rfl) (lr Xg2 0)) ?_
  exact ⟨_, _, _, _, rN3 Ex3 Ex7 Ex11, rfl, RD, BU⟩
theorem RdA.len {w : World} {g b : Nat} {err : Int} {l : List Int} (h : RdA w g b err l) : l.length ≤ 9223372036854775807 := by
  obtain ⟨ao, n, c, X, A⟩ := h.ex
  obtain ⟨o, h1, h2, h3, h4, h5⟩ := A.ex
  have := h3.1
  omega
theorem whole_any {w : World} {r q b : Nat} {a : Bool} {s : St} (X : Blk w r [pg q, .bool a] 108) (RD : RdA w q b s.1 s.2) (hrq : r ≠ q) : Calls Tryz.prog 24 #[pg r] w fun e w' => e = .returned (.bool (decide (endE s.1 s.2 = 0) && !a)) ∧ RdA w' q b (endE s.1 s.2) s.2 ∧ But q w w' := by
  have lRD := RD.lt
  have lXr := X.lt
  have BU := But.refl q w
  refine gc_enter (n := 16) Tryz.func24 rfl (by kernel_rfl) (by kernel_rfl) ?_
  refine gc_seq ?_
  refine gc_reg ?_
  refine t 2 (.bool false) ?_
  refine gl_nil ?_
  refine ge_then ?_
  refine gc_seq ?_
  refine gc_reg ?_
  refine t 3 (pg r) ?_
  refine t 4 (pg r) ?_
  refine t 5 (pg r) ?_
  refine tl 6 (pg q) X 0 ?_
  refine tc 7 49 #[pg q] (rdEnd RD (RdA.len RD)) ?_
  rintro _ v1 ⟨rfl, RX, U⟩
  refine ⟨_, rfl, ?_⟩
  replace BU := BU.trans U
  replace X := But.blk U X (show r ≠ q by omega)
  clear U
  clear RD
  have RD := RX
  clear RX
  by_cases c2 : (endE s.1 s.2 : Int) = 0
  · refine tq 8 (.bool ((endE s.1 s.2 : Int) == 0)) (.bool true) (congrArg Value.bool (beq_iff_eq.2 c2)) ?_
    refine t 9 (.bool true) ?_
    refine t 10 (pg r) ?_
    refine t 11 (pg r) ?_
    refine t 12 (pq r 1) ?_
    refine tl 13 (.bool a) X 1 ?_
    refine t 14 (.bool (!a)) ?_
    refine t 15 (.bool (!a)) ?_
    refine t 2 (.bool (!a)) ?_
    refine gl_nil ?_
    refine ge_then ?_
    refine gc_fr [(2, .bool (!a))] (by kernel_rfl) ?_
    refine gc_ret ?_
    refine ge_ret (.bool (!a)) (rs1 2 (by kernel_rfl) (by kernel_rfl)) ?_
    exact ⟨by rw [c2]; rfl, RD, BU⟩
  · refine tq 8 (.bool ((endE s.1 s.2 : Int) == 0)) (.bool false) (congrArg Value.bool (beq_eq_false_iff_ne.2 c2)) ?_
    refine t 9 (.bool false) ?_
    refine tn 10 ?_
    refine tn 11 ?_
    refine tn 12 ?_
    refine tn 13 ?_
    refine tn 14 ?_
    refine t 15 (.bool false) ?_
    refine t 2 (.bool false) ?_
    refine gl_nil ?_
    refine ge_then ?_
    refine gc_fr [(2, .bool false)] (by kernel_rfl) ?_
    refine gc_ret ?_
    refine ge_ret (.bool false) (rs1 2 (by kernel_rfl) (by kernel_rfl)) ?_
    exact ⟨by rw [decide_eq_false c2]; rfl, RD, BU⟩
theorem rParams {w : World} {r q b : Nat} {a : Bool} {s : St} (X : Blk w r [pg q, .bool a] 108) (RD : RdA w q b s.1 s.2) (hrq : r ≠ q) : Calls Tryz.prog 19 #[pg r] w fun e w' => ∃ x0 x1 x2 x3 x4 x5 x6 x7 x8 x9 s', rN 10 s = ([x0, x1, x2, x3, x4, x5, x6, x7, x8, x9], s') ∧ e = .returned (.agg #[.int .u64 x0, .int .u64 x1, .int .u64 x2, .int .u64 x3, .int .u64 x4, .int .u64 x5, .int .u64 x6, .int .u64 x7, .int .u64 x8, .int .u64 x9]) ∧ RdA w' q b s'.1 s'.2 ∧ But q w w' := by
  have lRD := RD.lt
  have lXr := X.lt
  have BU := But.refl q w
  refine gc_enter (n := 18) Tryz.func19 rfl (by kernel_rfl) (by kernel_rfl) ?_
  refine gc_seq ?_
  refine gc_reg ?_
  have lRD := RD.lt
  have lX := X.lt
  refine ta 2 [.int .u64 0, .int .u64 0, .int .u64 0, .int .u64 0, .int .u64 0, .int .u64 0, .int .u64 0, .int .u64 0, .int .u64 0, .int .u64 0] 24 (pg) ?_
  intro v1 g2 Xg2 hg2 B
  have zg2 := Nat.le_trans BU.size hg2
  replace BU := BU.trans (But.of B)
  replace RD := RD.keep B
  replace X := X.keep B
  clear B
  refine gl_nil ?_
  refine ge_then ?_
  refine gc_seq ?_
  refine gc_seq ?_
  refine gc_reg ?_
  refine tc 5 47 #[pg g2] (fields_any g2) ?_
  rintro _ v3 ⟨rfl, B⟩
  refine ⟨_, rfl, ?_⟩
  replace BU := BU.trans (But.of B)
  replace RD := RD.keep B
  replace X := X.keep B
  replace Xg2 := Xg2.keep B
  clear B
  refine t 6 (.int .i64 0) ?_
  refine gl_nil ?_
  refine ge_then ?_
  refine gc_block ?_
  refine gc_loop (fun s_ => 10 - s_) (fun (s_ : Nat) => [(0, pg r), (2, pg g2), (5, .agg #[pg g2, pq g2 1, pq g2 2, pq g2 3, pq g2 4, pq g2 5, pq g2 6, pq g2 7, pq g2 8, pq g2 9]), (6, .int .i64 (s_ : Int))]) (fun s_ w' => s_ ≤ 10 ∧ Blk w' g2 (cR 10 s_ s) 24 ∧ Blk w' r [pg q, .bool a] 108 ∧ RdA w' q b (rN s_ s).2.1 (rN s_ s).2.2 ∧ But q w w') (0 : Nat) ⟨Nat.zero_le _, Xg2, X, RD, BU⟩ (by kernel_rfl) ?_
  clear BU RD X Xg2
  rintro i v4 ⟨hi, Xg2, X, RD, BU⟩
  have lRD := RD.lt
  have lXr := X.lt
  refine gc_seq ?_
  refine gc_reg ?_
  by_cases ci : (i : Int) < 10
  · have hk_i : i < 10 := by omega
    refine tq 7 (.bool (decide ((i : Int) < 10))) (.bool true) (congrArg Value.bool (decide_eq_true ci)) ?_
    refine gl_nil ?_
    refine ge_then ?_
    refine gc_seq ?_
    refine gc_yes ?_
    refine gc_skip ?_
    refine ge_then ?_
    refine gc_seq ?_
    refine gc_block ?_
    refine gc_seq ?_
    refine gc_reg ?_
    refine tr 8 (pq g2 i) (run_ixT i hk_i) ?_
    refine t 4 (pq g2 i) ?_
    refine gl_nil ?_
    refine ge_then ?_
    refine gc_reg ?_
    refine t 9 (pq g2 i) ?_
    refine t 10 (pg r) ?_
    refine t 11 (pg r) ?_
    refine t 12 (pg r) ?_
    refine tl 13 (pg q) X 0 ?_
    refine tc 14 48 #[pg q] (xU64 (s := (rN i s).2) RD) ?_
    rintro _ v7 ⟨x5, s6, Ex5, rfl, RX, U⟩
    refine ⟨_, rfl, ?_⟩
    replace BU := BU.trans U
    replace X := But.blk U X (show r ≠ q by omega)
    replace Xg2 := But.blk U Xg2 (show g2 ≠ q by omega)
    clear U
    clear RD
    have RD := RX
    clear RX
    refine t 15 (pq g2 i) ?_
    refine ts Xg2 (i) (.int .u64 x5) [.int .u64 x5] (cR 10 (i + 1) s) ?_ (hb := cR_fit hk_i rfl) (he := cR_put hk_i (by rw [rN1 Ex5]; rfl))
    intro v8 Y C
    replace BU := butC BU C (by omega)
    replace RD := RdA.offB RD Xg2 (by first | rfl | exact cR_nou _ _ _) (by omega) (chg_but C)
    replace X := X.chg C (show r ≠ g2 by omega)
    clear C Xg2
    have Xg2 := Y
    clear Y
    refine gl_nil ?_
    refine ge_bn ?_
    refine ge_then ?_
    refine gc_reg ?_
    refine tq 16 (.int .i64 (IntKind.i64.wrap ((i : Int) + 1))) (.int .i64 ((i : Int) + 1)) (wi (by omega)) ?_
    refine t 6 (.int .i64 ((i : Int) + 1)) ?_
    refine gl_nil ?_
    exact ge_round (i + 1) (by show 10 - (i + 1) < 10 - i; omega) ⟨hk_i, Xg2, X, (show (rN (i + 1) s).2 = s6 by rw [rN_add, rN1 Ex5]) ▸ RD, BU⟩ (by kernel_rfl)
  · have hi10 : i = 10 := by omega
    obtain ⟨x0, x1, x2, x3, x4, x5, x6, x7, x8, x9, hx⟩ := ten_list (rN_len 10 s)
    rw [hi10, cR_done, hx] at Xg2
    replace Xg2 : Blk _ g2 [.int .u64 x0, .int .u64 x1, .int .u64 x2, .int .u64 x3, .int .u64 x4, .int .u64 x5, .int .u64 x6, .int .u64 x7, .int .u64 x8, .int .u64 x9] 24 := Xg2
    refine tq 7 (.bool (decide ((i : Int) < 10))) (.bool false) (congrArg Value.bool (decide_eq_false ci)) ?_
    refine gl_nil ?_
    refine ge_then ?_
    refine gc_seq ?_
    refine gc_no ?_
    refine gc_exit ?_
    refine ge_tx ?_
    refine ge_tx ?_
    refine ge_bx ?_
    refine ge_then ?_
    refine gc_seq ?_
    refine gc_reg ?_
    refine tlr 17 [.int .u64 x0, .int .u64 x1, .int .u64 x2, .int .u64 x3, .int .u64 x4, .int .u64 x5, .int .u64 x6, .int .u64 x7, .int .u64 x8, .int .u64 x9] Xg2 0 ?_
    refine ts Xg2 0 (.agg #[.int .u64 x0, .int .u64 x1, .int .u64 x2, .int .u64 x3, .int .u64 x4, .int .u64 x5, .int .u64 x6, .int .u64 x7, .int .u64 x8, .int .u64 x9]) [.int .u64 x0, .int .u64 x1, .int .u64 x2, .int .u64 x3, .int .u64 x4, .int .u64 x5, .int .u64 x6, .int .u64 x7, .int .u64 x8, .int .u64 x9] [.int .u64 x0, .int .u64 x1, .int .u64 x2, .int .u64 x3, .int .u64 x4, .int .u64 x5, .int .u64 x6, .int .u64 x7, .int .u64 x8, .int .u64 x9] ?_
    intro v9 Y C
    replace BU := butC BU C (by omega)
    replace RD := RdA.offB RD Xg2 (by first | rfl | exact cR_nou _ _ _) (by omega) (chg_but C)
    replace X := X.chg C (show r ≠ g2 by omega)
    clear C Xg2
    have Xg2 := Y
    clear Y
    refine gl_nil ?_
    refine ge_then ?_
    refine gc_ret ?_
    refine ge_ret (.agg #[.int .u64 x0, .int .u64 x1, .int .u64 x2, .int .u64 x3, .int .u64 x4, .int .u64 x5, .int .u64 x6, .int .u64 x7, .int .u64 x8, .int .u64 x9]) (rsc 2 (T := 24) (by kernel_rfl) (by kernel_rfl) (lr Xg2 0)) ?_
    exact ⟨_, _, _, _, _, _, _, _, _, _, _, Prod.ext hx rfl, rfl, hi10 ▸ RD, BU⟩
theorem readP {w : World} {r q b : Nat} {a : Bool} {s : St} (X : Blk w r [pg q, .bool a] 108) (RD : RdA w q b s.1 s.2) (hrq : r ≠ q) : Calls Tryz.prog 20 #[pg r, .int .u32 256, .func (.func 21) #[pg r] #[]] w fun e w' => ∃ ao m gl n A s', rL 256 2 s = ((n, A), s') ∧ e = .returned (.slice ao m m) ∧ Blk w' r [pg q, .bool (a || !decide (n ≤ 256))] 108 ∧ RdA w' q b s'.1 s'.2 ∧ Chg (Rq r q) w w' ∧ ((ao = none ∧ m = 0 ∧ A = []) ∨ (ao = some ⟨gl, 0, none⟩ ∧ w.heap.size ≤ gl ∧ Blk w' gl (A.map (Value.int .u64)) 43 ∧ A.length = m * 2)) := by
  have lRD := RD.lt
  have lXr := X.lt
  have CV : Chg (Rq r q) w w := Chg.refl _ _
  refine gc_enter (n := 34) Tryz.func20 rfl (by kernel_rfl) (by kernel_rfl) ?_
  refine gc_seq ?_
  refine gc_reg ?_
  refine t 6 (.slice none 0 0) ?_
  refine gl_nil ?_
  refine ge_then ?_
  refine gc_seq ?_
  refine gc_reg ?_
  refine t 10 (pg r) ?_
  refine t 11 (pg r) ?_
  refine t 12 (pg r) ?_
  refine tl 13 (pg q) X 0 ?_
  refine tc 14 46 #[pg q] (xQ32 (s := s) RD) ?_
  rintro _ v3 ⟨x1, s2, Ex1, Hx1, rfl, RX, U⟩
  refine ⟨_, rfl, ?_⟩
  replace CV := vU CV U
  replace X := But.blk U X (show r ≠ q by omega)
  clear U
  clear RD
  have RD := RX
  clear RX
  obtain ⟨m, rfl⟩ : ∃ m : Nat, x1 = m := ⟨x1.toNat, by omega⟩
  refine t 7 (.int .u32 (m : Int)) ?_
  refine gl_nil ?_
  refine ge_then ?_
  refine gc_seq ?_
  refine gc_seq ?_
  refine gc_reg ?_
  refine t 15 (.int .u32 (m : Int)) ?_
  refine t 16 (.int .u32 256) ?_
  by_cases cm : (256 : Int) < (m : Int)
  · refine tq 17 (.bool (decide ((256 : Int) < (m : Int)))) (.bool true) (congrArg Value.bool (decide_eq_true cm)) ?_
    refine gl_nil ?_
    refine ge_then ?_
    refine gc_yes ?_
    refine gc_seq ?_
    refine gc_reg ?_
    refine t 18 (pg r) ?_
    have lX := X.lt
    refine tc 19 45 #[pg r, .bool true] (refuse_any X) ?_
    rintro _ v4 ⟨rfl, X2, C⟩
    refine ⟨_, rfl, ?_⟩
    replace CV := vR CV C
    replace RD := RdA.offB RD X rfl (by omega) (chg_but C)
    clear C
    clear X
    have X := X2
    clear X2
    refine gl_nil ?_
    refine ge_then ?_
    refine gc_seq ?_
    refine gc_reg ?_
    refine t 6 (.slice none 0 0) ?_
    refine gl_nil ?_
    refine ge_then ?_
    refine gc_fr [(2, .func (.func 21) #[pg r] #[]), (6, .slice none 0 0), (7, .int .u32 (m : Int))] (by kernel_rfl) ?_
    refine gc_ret ?_
    refine ge_tr ?_
    refine ge_ret (.slice none 0 0) (rs1 6 (by kernel_rfl) (by kernel_rfl)) ?_
    have eL : rL 256 2 s = (((m : Int), []), s2) := by unfold rL; rw [Ex1]; exact if_neg (by simp only; omega)
    exact ⟨none, 0, 0, (m : Int), [], s2, eL, rfl, by have e : decide ((m : Int) ≤ 256) = false := decide_eq_false (by omega); rw [e]; exact X, RD, CV, .inl ⟨rfl, rfl, rfl⟩⟩
  · refine tq 17 (.bool (decide ((256 : Int) < (m : Int)))) (.bool false) (congrArg Value.bool (decide_eq_false cm)) ?_
    refine gl_nil ?_
    refine ge_then ?_
    refine gc_no ?_
    refine gc_skip ?_
    refine ge_then ?_
    refine gc_seq ?_
    refine gc_reg ?_
    refine t 20 (.int .u32 (m : Int)) ?_
    have lX := X.lt
    refine ta_ms 21 m 2 [.int .u64 0, .int .u64 0] 25 43 (by omega) (by kernel_rfl) (by kernel_rfl) ?_
    intro v5 gl Xl hl B
    have hl0 := Nat.le_trans CV.size hl
    replace CV := vB CV B
    replace RD := RD.keep B
    replace X := X.keep B
    clear B
    refine t 8 (.slice (some ⟨gl, 0, none⟩) m m) ?_
    refine gl_nil ?_
    refine ge_then ?_
    refine gc_fr [(2, .func (.func 21) #[pg r] #[]), (6, .slice none 0 0), (8, .slice (some ⟨gl, 0, none⟩) m m)] (by kernel_rfl) ?_
    refine gc_seq ?_
    refine gc_seq ?_
    refine gc_reg ?_
    refine t 22 (.slice (some ⟨gl, 0, none⟩) m m) ?_
    refine t 23 (.int .i64 ((m : Nat) : Int)) ?_
    refine t 24 (.int .i64 0) ?_
    refine gl_nil ?_
    refine ge_then ?_
    refine gc_block ?_
    refine gc_loop (fun s_ => m - s_) (fun (s_ : Nat) => [(2, .func (.func 21) #[pg r] #[]), (8, .slice (some ⟨gl, 0, none⟩) m m), (23, .int .i64 ((m : Nat) : Int)), (24, .int .i64 (s_ : Int))]) (fun s_ w' => s_ ≤ m ∧ Blk w' gl (cR (m * 2) (s_ * 2) s2) 43 ∧ Blk w' r [pg q, .bool a] 108 ∧ RdA w' q b (rN (s_ * 2) s2).2.1 (rN (s_ * 2) s2).2.2 ∧ Chg (Rq r q) w w') (0 : Nat) ⟨Nat.zero_le _, by rw [Nat.zero_mul]; exact Xl, X, RD, CV⟩ (by kernel_rfl) ?_
    clear CV RD X Xl
    rintro i v6 ⟨hi, Xl, X, RD, CV⟩
    have lRD := RD.lt
    have lXr := X.lt
    have lXl := Xl.lt
    refine gc_seq ?_
    refine gc_reg ?_
    by_cases ci : (i : Int) < ((m : Nat) : Int)
    · have hk_i : i < m := by omega
      refine tq 25 (.bool (decide ((i : Int) < ((m : Nat) : Int)))) (.bool true) (congrArg Value.bool (decide_eq_true ci)) ?_
      refine gl_nil ?_
      refine ge_then ?_
      refine gc_seq ?_
      refine gc_yes ?_
      refine gc_skip ?_
      refine ge_then ?_
      refine gc_seq ?_
      refine gc_block ?_
      refine gc_seq ?_
      refine gc_reg ?_
      refine t 26 (.int .i64 (i : Int)) ?_
      refine t 9 (.int .i64 (i : Int)) ?_
      refine gl_nil ?_
      refine ge_then ?_
      refine gc_reg ?_
      refine t 27 (.slice (some ⟨gl, 0, none⟩) m m) ?_
      refine t 28 (.int .i64 (i : Int)) ?_
      refine t 29 (.func (.func 21) #[pg r] #[]) ?_
      have lX := X.lt
      have lRD := RD.lt
      have lXl := Xl.lt
      refine tc 30 21 #[pg r] (rPurse (s := (rN (i * 2) s2).2) X RD hrq) ?_
      rintro _ v11 ⟨x7, x8, s9, E10, rfl, RX, U⟩
      refine ⟨_, rfl, ?_⟩
      replace CV := vU CV U
      replace X := But.blk U X (show r ≠ q by omega)
      replace Xl := But.blk U Xl (show gl ≠ q by omega)
      clear U
      clear RD
      have RD := RX
      clear RX
      refine tr 31 (pq gl (i * 2)) (congr_v (by simp) (run_ixs 2 gl 0 m m i hk_i)) ?_
      refine ts Xl (i * 2) (.agg #[.int .u64 x7, .int .u64 x8]) [.int .u64 x7, .int .u64 x8] (cR (m * 2) (i * 2 + 2) s2) ?_ (hb := cR_fit (k := 2) (by omega) rfl) (he := cR_put (k := 2) (by omega) (by rw [E10]; rfl))
      intro v12 Y C
      replace CV := vN CV C (by omega)
      replace RD := RdA.offB RD Xl (by first | rfl | exact cR_nou _ _ _) (by omega) (chg_but C)
      replace X := X.chg C (show r ≠ gl by omega)
      clear C Xl
      have Xl := Y
      clear Y
      refine gl_nil ?_
      refine ge_bn ?_
      refine ge_then ?_
      refine gc_reg ?_
      refine tq 32 (.int .i64 (IntKind.i64.wrap ((i : Int) + 1))) (.int .i64 ((i : Int) + 1)) (wi (by omega)) ?_
      refine t 24 (.int .i64 ((i : Int) + 1)) ?_
      refine gl_nil ?_
      exact ge_round (i + 1) (by show m - (i + 1) < m - i; omega) ⟨hk_i, by rw [show (i + 1) * 2 = i * 2 + 2 by omega]; exact Xl, X, (show (rN ((i + 1) * 2) s2).2 = s9 by rw [show (i + 1) * 2 = i * 2 + 2 by omega, rN_add, E10]) ▸ RD, CV⟩ (by kernel_rfl)
    · refine tq 25 (.bool (decide ((i : Int) < ((m : Nat) : Int)))) (.bool false) (congrArg Value.bool (decide_eq_false ci)) ?_
      refine gl_nil ?_
      refine ge_then ?_
      refine gc_seq ?_
      refine gc_no ?_
      refine gc_exit ?_
      refine ge_tx ?_
      refine ge_tx ?_
      refine ge_bx ?_
      refine ge_then ?_
      refine gc_seq ?_
      refine gc_reg ?_
      refine t 33 (.slice (some ⟨gl, 0, none⟩) m m) ?_
      refine t 6 (.slice (some ⟨gl, 0, none⟩) m m) ?_
      refine gl_nil ?_
      refine ge_then ?_
      refine gc_ret ?_
      refine ge_ret (.slice (some ⟨gl, 0, none⟩) m m) (rs1 6 (by kernel_rfl) (by kernel_rfl)) ?_
      have him : i = m := by omega
      subst him
      have eL : rL 256 2 s = (((i : Int), (rN (i * 2) s2).1), (rN (i * 2) s2).2) := by unfold rL; rw [Ex1]; exact if_pos (by simp only; omega)
      rw [cR_done] at Xl
      exact ⟨_, _, gl, _, _, _, eL, rfl, by have e : decide ((i : Int) ≤ 256) = true := decide_eq_true (by omega); rw [e, Bool.not_true, Bool.or_false]; exact X, RD, CV, .inr ⟨rfl, hl0, Xl, by rw [rN_len]⟩⟩
theorem readF {w : World} {r q b : Nat} {a : Bool} {s : St} (X : Blk w r [pg q, .bool a] 108) (RD : RdA w q b s.1 s.2) (hrq : r ≠ q) : Calls Tryz.prog 22 #[pg r, .int .u32 64, .func (.func 23) #[pg r] #[]] w fun e w' => ∃ ao m gl n A s', rL 64 3 s = ((n, A), s') ∧ e = .returned (.slice ao m m) ∧ Blk w' r [pg q, .bool (a || !decide (n ≤ 64))] 108 ∧ RdA w' q b s'.1 s'.2 ∧ Chg (Rq r q) w w' ∧ ((ao = none ∧ m = 0 ∧ A = []) ∨ (ao = some ⟨gl, 0, none⟩ ∧ w.heap.size ≤ gl ∧ Blk w' gl (A.map (Value.int .u64)) 45 ∧ A.length = m * 3)) := by
  have lRD := RD.lt
  have lXr := X.lt
  have CV : Chg (Rq r q) w w := Chg.refl _ _
  refine gc_enter (n := 34) Tryz.func22 rfl (by kernel_rfl) (by kernel_rfl) ?_
  refine gc_seq ?_
  refine gc_reg ?_
  refine t 6 (.slice none 0 0) ?_
  refine gl_nil ?_
  refine ge_then ?_
  refine gc_seq ?_
  refine gc_reg ?_
  refine t 10 (pg r) ?_
  refine t 11 (pg r) ?_
  refine t 12 (pg r) ?_
  refine tl 13 (pg q) X 0 ?_
  refine tc 14 46 #[pg q] (xQ32 (s := s) RD) ?_
  rintro _ v3 ⟨x1, s2, Ex1, Hx1, rfl, RX, U⟩
  refine ⟨_, rfl, ?_⟩
  replace CV := vU CV U
  replace X := But.blk U X (show r ≠ q by omega)
  clear U
  clear RD
  have RD := RX
  clear RX
  obtain ⟨m, rfl⟩ : ∃ m : Nat, x1 = m := ⟨x1.toNat, by omega⟩
  refine t 7 (.int .u32 (m : Int)) ?_
  refine gl_nil ?_
  refine ge_then ?_
  refine gc_seq ?_
  refine gc_seq ?_
  refine gc_reg ?_
  refine t 15 (.int .u32 (m : Int)) ?_
  refine t 16 (.int .u32 64) ?_
  by_cases cm : (64 : Int) < (m : Int)
  · refine tq 17 (.bool (decide ((64 : Int) < (m : Int)))) (.bool true) (congrArg Value.bool (decide_eq_true cm)) ?_
    refine gl_nil ?_
    refine ge_then ?_
    refine gc_yes ?_
    refine gc_seq ?_
    refine gc_reg ?_
    refine t 18 (pg r) ?_
    have lX := X.lt
    refine tc 19 45 #[pg r, .bool true] (refuse_any X) ?_
    rintro _ v4 ⟨rfl, X2, C⟩
    refine ⟨_, rfl, ?_⟩
    replace CV := vR CV C
    replace RD := RdA.offB RD X rfl (by omega) (chg_but C)
    clear C
    clear X
    have X := X2
    clear X2
    refine gl_nil ?_
    refine ge_then ?_
    refine gc_seq ?_
    refine gc_reg ?_
    refine t 6 (.slice none 0 0) ?_
    refine gl_nil ?_
    refine ge_then ?_
    refine gc_fr [(2, .func (.func 23) #[pg r] #[]), (6, .slice none 0 0), (7, .int .u32 (m : Int))] (by kernel_rfl) ?_
    refine gc_ret ?_
    refine ge_tr ?_
    refine ge_ret (.slice none 0 0) (rs1 6 (by kernel_rfl) (by kernel_rfl)) ?_
    have eL : rL 64 3 s = (((m : Int), []), s2) := by unfold rL; rw [Ex1]; exact if_neg (by simp only; omega)
    exact ⟨none, 0, 0, (m : Int), [], s2, eL, rfl, by have e : decide ((m : Int) ≤ 64) = false := decide_eq_false (by omega); rw [e]; exact X, RD, CV, .inl ⟨rfl, rfl, rfl⟩⟩
  · refine tq 17 (.bool (decide ((64 : Int) < (m : Int)))) (.bool false) (congrArg Value.bool (decide_eq_false cm)) ?_
    refine gl_nil ?_
    refine ge_then ?_
    refine gc_no ?_
    refine gc_skip ?_
    refine ge_then ?_
    refine gc_seq ?_
    refine gc_reg ?_
    refine t 20 (.int .u32 (m : Int)) ?_
    have lX := X.lt
    refine ta_ms 21 m 3 [.int .u64 0, .int .u64 0, .int .u64 0] 26 45 (by omega) (by kernel_rfl) (by kernel_rfl) ?_
    intro v5 gl Xl hl B
    have hl0 := Nat.le_trans CV.size hl
    replace CV := vB CV B
    replace RD := RD.keep B
    replace X := X.keep B
    clear B
    refine t 8 (.slice (some ⟨gl, 0, none⟩) m m) ?_
    refine gl_nil ?_
    refine ge_then ?_
    refine gc_fr [(2, .func (.func 23) #[pg r] #[]), (6, .slice none 0 0), (8, .slice (some ⟨gl, 0, none⟩) m m)] (by kernel_rfl) ?_
    refine gc_seq ?_
    refine gc_seq ?_
    refine gc_reg ?_
    refine t 22 (.slice (some ⟨gl, 0, none⟩) m m) ?_
    refine t 23 (.int .i64 ((m : Nat) : Int)) ?_
    refine t 24 (.int .i64 0) ?_
    refine gl_nil ?_
    refine ge_then ?_
    refine gc_block ?_
    refine gc_loop (fun s_ => m - s_) (fun (s_ : Nat) => [(2, .func (.func 23) #[pg r] #[]), (8, .slice (some ⟨gl, 0, none⟩) m m), (23, .int .i64 ((m : Nat) : Int)), (24, .int .i64 (s_ : Int))]) (fun s_ w' => s_ ≤ m ∧ Blk w' gl (cR (m * 3) (s_ * 3) s2) 45 ∧ Blk w' r [pg q, .bool a] 108 ∧ RdA w' q b (rN (s_ * 3) s2).2.1 (rN (s_ * 3) s2).2.2 ∧ Chg (Rq r q) w w') (0 : Nat) ⟨Nat.zero_le _, by rw [Nat.zero_mul]; exact Xl, X, RD, CV⟩ (by kernel_rfl) ?_
    clear CV RD X Xl
    rintro i v6 ⟨hi, Xl, X, RD, CV⟩
    have lRD := RD.lt
    have lXr := X.lt
    have lXl := Xl.lt
    refine gc_seq ?_
    refine gc_reg ?_
    by_cases ci : (i : Int) < ((m : Nat) : Int)
    · have hk_i : i < m := by omega
      refine tq 25 (.bool (decide ((i : Int) < ((m : Nat) : Int)))) (.bool true) (congrArg Value.bool (decide_eq_true ci)) ?_
      refine gl_nil ?_
      refine ge_then ?_
      refine gc_seq ?_
      refine gc_yes ?_
      refine gc_skip ?_
      refine ge_then ?_
      refine gc_seq ?_
      refine gc_block ?_
      refine gc_seq ?_
      refine gc_reg ?_
      refine t 26 (.int .i64 (i : Int)) ?_
      refine t 9 (.int .i64 (i : Int)) ?_
      refine gl_nil ?_
      refine ge_then ?_
      refine gc_reg ?_
      refine t 27 (.slice (some ⟨gl, 0, none⟩) m m) ?_
      refine t 28 (.int .i64 (i : Int)) ?_
      refine t 29 (.func (.func 23) #[pg r] #[]) ?_
      have lX := X.lt
      have lRD := RD.lt
      have lXl := Xl.lt
      refine tc 30 23 #[pg r] (rFound (s := (rN (i * 3) s2).2) X RD hrq) ?_
      rintro _ v12 ⟨x7, x8, x9, s10, E11, rfl, RX, U⟩
      refine ⟨_, rfl, ?_⟩
      replace CV := vU CV U
      replace X := But.blk U X (show r ≠ q by omega)
      replace Xl := But.blk U Xl (show gl ≠ q by omega)
      clear U
      clear RD
      have RD := RX
      clear RX
      refine tr 31 (pq gl (i * 3)) (congr_v (by simp) (run_ixs 3 gl 0 m m i hk_i)) ?_
      refine ts Xl (i * 3) (.agg #[.int .u64 x7, .int .u64 x8, .int .u64 x9]) [.int .u64 x7, .int .u64 x8, .int .u64 x9] (cR (m * 3) (i * 3 + 3) s2) ?_ (hb := cR_fit (k := 3) (by omega) rfl) (he := cR_put (k := 3) (by omega) (by rw [E11]; rfl))
      intro v13 Y C
      replace CV := vN CV C (by omega)
      replace RD := RdA.offB RD Xl (by first | rfl | exact cR_nou _ _ _) (by omega) (chg_but C)
      replace X := X.chg C (show r ≠ gl by omega)
      clear C Xl
      have Xl := Y
      clear Y
      refine gl_nil ?_
      refine ge_bn ?_
      refine ge_then ?_
      refine gc_reg ?_
      refine tq 32 (.int .i64 (IntKind.i64.wrap ((i : Int) + 1))) (.int .i64 ((i : Int) + 1)) (wi (by omega)) ?_
      refine t 24 (.int .i64 ((i : Int) + 1)) ?_
      refine gl_nil ?_
      exact ge_round (i + 1) (by show m - (i + 1) < m - i; omega) ⟨hk_i, by rw [show (i + 1) * 3 = i * 3 + 3 by omega]; exact Xl, X, (show (rN ((i + 1) * 3) s2).2 = s10 by rw [show (i + 1) * 3 = i * 3 + 3 by omega, rN_add, E11]) ▸ RD, CV⟩ (by kernel_rfl)
    · refine tq 25 (.bool (decide ((i : Int) < ((m : Nat) : Int)))) (.bool false) (congrArg Value.bool (decide_eq_false ci)) ?_
      refine gl_nil ?_
      refine ge_then ?_
      refine gc_seq ?_
      refine gc_no ?_
      refine gc_exit ?_
      refine ge_tx ?_
      refine ge_tx ?_
      refine ge_bx ?_
      refine ge_then ?_
      refine gc_seq ?_
      refine gc_reg ?_
      refine t 33 (.slice (some ⟨gl, 0, none⟩) m m) ?_
      refine t 6 (.slice (some ⟨gl, 0, none⟩) m m) ?_
      refine gl_nil ?_
      refine ge_then ?_
      refine gc_ret ?_
      refine ge_ret (.slice (some ⟨gl, 0, none⟩) m m) (rs1 6 (by kernel_rfl) (by kernel_rfl)) ?_
      have him : i = m := by omega
      subst him
      have eL : rL 64 3 s = (((i : Int), (rN (i * 3) s2).1), (rN (i * 3) s2).2) := by unfold rL; rw [Ex1]; exact if_pos (by simp only; omega)
      rw [cR_done] at Xl
      exact ⟨_, _, gl, _, _, _, eL, rfl, by have e : decide ((i : Int) ≤ 64) = true := decide_eq_true (by omega); rw [e, Bool.not_true, Bool.or_false]; exact X, RD, CV, .inr ⟨rfl, hl0, Xl, by rw [rN_len]⟩⟩
end Gn
end Go.Proofs.YtpoifdokmjhclaaGreat
