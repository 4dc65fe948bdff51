/- Several texts, joined: GnY. -/
import Derived.Test.YtpoifdokmjhclaaGreatJyq
import Derived.Test.YtpoifdokmjhclaaGreatJyl
import Derived.Test.YtpoifdokmjhclaaGreatJyk
namespace Go.Proofs.YtpoifdokmjhclaaGreat
namespace Gn
open Go.RowKit Go.Lib Pg Lim Gl Mg
attribute [local go_sem] Oper.semAt_some
set_option maxRecDepth 100000
set_option linter.unusedVariables false
set_option linter.unusedSimpArgs false
set_option maxHeartbeats 2000000
/-- from B on only blocks of a type are changed -/
structure Gt (E : TypeId) (B : Nat) (w w' : World) : Prop where
  os : w'.os = w.os
  tape : w'.tape = w.tape
  output : w'.output = w.output
  size : w.heap.size ≤ w'.heap.size
  low : ∀ k : Nat, k < B → k < w.heap.size → w'.heap[k]? = w.heap[k]?
  typ : ∀ (k : Nat) (c : Array Value) (t : TypeId) (f : Nat × Nat), w.heap[k]? = some (Obj.cells c t f) → t ≠ E → w'.heap[k]? = w.heap[k]?
theorem Gt.below {E : TypeId} {B A : Nat} {w0 w w' : World} (h : Gt E B w w') (b : Below A w0 w) (hA : A ≤ B) (hs : A ≤ w0.heap.size) : Below A w0 w' :=
  ⟨h.os.trans b.os, h.tape.trans b.tape, h.output.trans b.output, Nat.le_trans b.size h.size, fun k hk => (h.low k (by omega) (Nat.lt_of_lt_of_le (Nat.lt_of_lt_of_le hk hs) b.size)).trans (b.block k hk)⟩
theorem bkG {E : TypeId} {B : Nat} {w w' : World} {g : Nat} {cs : List Value} {t : TypeId} (h : Blk w g cs t) (G : Gt E B w w') (ht : t ≠ E) : Blk w' g cs t := ⟨by rw [G.typ g _ t _ h.blk ht]; exact h.blk⟩
theorem rfG {E : TypeId} {B : Nat} {w w' : World} {g b : Nat} {err : Int} {l : List Int} (h : RfA w g b err l) (hb : b < B) (G : Gt E B w w') (ht : 70 ≠ E) : RfA w' g b err l := by
  obtain ⟨ao, n, c, X, A⟩ := h.ex
  obtain ⟨o, h1, h2, h3, h4, h5⟩ := A.ex
  refine ⟨ao, n, c, ⟨by rw [G.typ _ _ _ _ X.blk ht]; exact X.blk⟩, o, h1, h2, h3, h4, h5.loc, fun i hi => ?_⟩
  have hc := h5.cell i hi
  rw [World.cell?_of_block (w := w) (G.low b hb (cell_lt hc))]
  exact hc
/-- a list of its own, from B on: n elements of k numbers each -/
structure Ow (B : Nat) (w : World) (v : Value) (n k : Nat) (A : List Int) (E : TypeId) : Prop where
  ex : w.ownsRow B E k v n (A.map (Value.int .u64))
theorem Ow.nil {B : Nat} {w : World} {k : Nat} {E : TypeId} : Ow B w (.slice none 0 0) 0 k [] E := ⟨by simp, .inl ⟨rfl, rfl⟩⟩
theorem Ow.lt {B : Nat} {w : World} {v : Value} {n k : Nat} {A : List Int} {E : TypeId} (h : Ow B w v n k A E) : ∀ g, v.ownBlock = some g → g < w.heap.size := fun g e => (h.ex.lt g e).2
theorem Ow.of {B : Nat} {w w' : World} {v : Value} {n k : Nat} {A : List Int} {E : TypeId} (h : Ow B w v n k A E) (hs : ∀ g c, w.heap[g]? = some (.cells c E (0, 0)) → v.ownBlock = some g → w'.heap[g]? = w.heap[g]?) : Ow B w' v n k A E := by
  obtain ⟨h1, h2⟩ := h.ex
  refine ⟨h1, ?_⟩
  rcases h2 with h2 | ⟨g, cap, cur, h3, h4, h5, h6⟩
  · exact .inl h2
  · exact .inr ⟨g, cap, cur, h3, h4, by rw [hs g cur h5 (by rw [h3]; rfl)]; exact h5, h6⟩
theorem Ow.keep {B : Nat} {w w' : World} {v : Value} {n k : Nat} {A : List Int} {E : TypeId} (h : Ow B w v n k A E) (b : Below w.heap.size w w') : Ow B w' v n k A E := h.of fun g _ hc _ => b.block g (lt_of_block hc)
theorem Ow.but {B r : Nat} {w w' : World} {v : Value} {n k : Nat} {A : List Int} {E t : TypeId} {cs : List Value} (h : Ow B w v n k A E) (X : Blk w r cs t) (ht : t ≠ E) (U : But r w w') : Ow B w' v n k A E := h.of fun g _ hc _ => U.block g (lt_of_block hc) fun e => by
  subst e
  rw [X.blk] at hc
  cases hc
  exact ht rfl
theorem Ow.rf {B r b : Nat} {err : Int} {l : List Int} {w w' : World} {v : Value} {n k : Nat} {A : List Int} {E : TypeId} (h : Ow B w v n k A E) (R : RfA w r b err l) (ht : 70 ≠ E) (U : But r w w') : Ow B w' v n k A E := by
  obtain ⟨ao, m, c, X, -⟩ := R.ex
  exact h.but (t := 70) ⟨X.blk⟩ ht U
theorem Ow.chg {B r : Nat} {w w' : World} {v : Value} {n k : Nat} {A : List Int} {E : TypeId} (h : Ow B w v n k A E) (C : Chg (· = r) w w') (hr : v.ownBlock ≠ some r) : Ow B w' v n k A E := h.of fun g _ hc ho => C.same g (lt_of_block hc) fun e => hr (by rw [ho]; exact congrArg some e)
theorem Ow.typ {B r : Nat} {w w' : World} {v : Value} {n k : Nat} {A : List Int} {E t : TypeId} {cs : List Value} (h : Ow B w v n k A E) (X : Blk w r cs t) (ht : t ≠ E) (C : Chg (· = r) w w') : Ow B w' v n k A E := h.of fun g _ hc _ => C.same g (lt_of_block hc) fun e => by
  have e : g = r := e
  subst e
  rw [X.blk] at hc
  cases hc
  exact ht rfl
theorem Ow.gt {B : Nat} {w w' : World} {v : Value} {n k : Nat} {A : List Int} {E F : TypeId} (h : Ow B w v n k A E) (G : Gt F B w w') (hE : E ≠ F) : Ow B w' v n k A E := h.of fun g c hc _ => G.typ g c E _ hc hE
theorem Ow.nl {B : Nat} {w : World} {v : Value} {n k : Nat} {A : List Int} {E : TypeId} (h : Ow B w v n k A E) (hr : ∀ x ∈ A, In8 x) : ∃ a c g, v = .slice a n c ∧ Nl w a n k g 0 A ∧ (0 < n → B ≤ g) ∧ ∀ r cs t, Blk w r cs t → t ≠ E → 0 < n → g ≠ r := by
  obtain ⟨h1, h2⟩ := h.ex
  rw [List.length_map] at h1
  rcases h2 with ⟨rfl, rfl⟩ | ⟨g, cap, cur, rfl, h4, h5, h6, h7, h8, h9⟩
  · exact ⟨none, 0, 0, rfl, ⟨h1, fun h => absurd h (by decide), fun i hi => absurd hi (by omega), hr⟩, fun h => absurd h (by decide), fun _ _ _ _ _ h => absurd h (by decide)⟩
  · refine ⟨_, cap, g, rfl, ⟨h1, fun _ => rfl, fun i hi => ?_, hr⟩, fun _ => h4, fun r cs t X ht _ e => by
      subst e
      rw [X.blk] at h5
      cases h5
      exact ht rfl⟩
    have e : (cur.toList.take (n * k))[i]? = some (.int .u64 (nth A i)) := by rw [h9, List.getElem?_map, List.getElem?_eq_getElem (by omega), nth_eq (by omega)]; rfl
    rw [List.getElem?_take, if_pos (by omega), Array.getElem?_toList] at e
    rw [Nat.zero_add]
    simp only [World.cell?, h5]
    exact e
theorem app_ow {B : Nat} {w : World} {v : Value} {n k g : Nat} {A xs : List Int} {T E : TypeId} {i : TypeInfo} {z : Value} (bytes : Nat) (h : Ow B w v n k A E) (X : Blk w g (xs.map (Value.int .u64)) E) (hx : xs.length = k) (hk : 0 < k) (hT : Tryz.prog.underlying T = some (.slice E)) (hi : Tryz.prog.info? E = some i) (hz : i.zero = some z) (hs : i.size = k) (hby : i.bytes = bytes) (hzs : z.cells.size = k) (hb : bytes ≤ 1000) (hn : n ≤ 1000000) (hB : B ≤ w.heap.size) :
    ∃ v' w', (Builtin.append_ #[T, T] T #[v, sg 1 g]).run Tryz.prog w = .ok v' w' ∧ Ow B w' v' (n + 1) k (A ++ xs) E ∧ Gt E B w w' := by
  have H := run_append_own (P := Tryz.prog) w B T T E i z k bytes hT hi hz hs hby hzs hk v n (A.map (Value.int .u64)) h.ex ⟨g, 0, none⟩ 1 1 (xs.map (Value.int .u64)) (by rw [List.length_map, hx, Nat.one_mul])
    (fun j u hj => by
      have := X.cell (i := 0 + j) (v := u) (by rw [Nat.zero_add]; exact hj)
      rw [addr_add]
      exact this) (fun u hu => by
      obtain ⟨y, -, rfl⟩ := List.mem_map.1 hu
      rfl) (by unfold maxLen; omega) (by have : (n + 1) * bytes ≤ (n + 1) * 1000 := Nat.mul_le_mul_left _ hb; omega) hB
  obtain ⟨v', w', h1, h2, h3, -⟩ := H
  refine ⟨v', w', h1, ⟨by rw [List.map_append]; exact h2⟩, h3.os, h3.tape, h3.output, h3.size, fun q hq hs => h3.block q hs fun e => ?_, fun q c t f hc ht => h3.block q (lt_of_block hc) fun e => ?_⟩
  · have := (h.ex.lt q e.symm).1
    omega
  · rcases h.ex.2 with ⟨rfl, _⟩ | ⟨g', cap, cur, rfl, _, hh, _⟩
    · cases e
    · simp [Value.ownBlock] at e
      subst e
      rw [hh] at hc
      cases hc
      exact ht rfl
theorem run_apG {ρ : Operand → Value} {w w' : World} {o : Oper} {u v r : Value} (T : TypeId) (hr : (Builtin.append_ #[T, T] T #[u, v]).run Tryz.prog w = .ok r w') (ho : ∃ x y, o.op = .call { callee := .builtin .append, args := #[x, y], argTypes := #[T, T] } ∧ o.type = T ∧ ρ x = u ∧ ρ y = v := by exact ⟨_, _, rfl, rfl, by kernel_rfl, by kernel_rfl⟩) : (execOp ρ o).run Tryz.prog w = .ok (.value r) w' := by
  obtain ⟨x, y, h, ht, h1, h2⟩ := ho
  unfold execOp
  simp only [h, ht, resolve, invoke, builtin, Sem.run_bind, Sem.run_pure, Result.andThen_ok, List.map_toArray, List.map_cons, List.map_nil, h1, h2, hr]
theorem yU4 {w : World} {g b : Nat} {s : St} (R : RfA w g b s.1 s.2) : Calls Tryz.prog 25 #[pg g, .int .i64 4] w fun e w' => ∃ v s', rU 4 s = (v, s') ∧ (0 ≤ v ∧ v < 4294967296) ∧ e = .returned (.int .u64 v) ∧ RfA w' g b s'.1 s'.2 ∧ But g w w' := by
  refine (rfU (m := 4) R (by decide)).mono ?_
  rintro e w' ⟨rfl, R', U⟩
  have := (rU_inv (m := 4) (s := s) (x := (rU 4 s).1) (s' := (rU 4 s).2) rfl R.oct).1.2
  exact ⟨_, _, rfl, this, rfl, R', U⟩
theorem cv_UI {ρ : Operand → Value} {w : World} {o : Oper} (k : Int) (hk : 0 ≤ k ∧ k < 4294967296) (ho : ∃ u, o.op = .convert 22 3 u ∧ ρ u = .int .u64 k := by exact ⟨_, rfl, by kernel_rfl⟩) : (execOp ρ o).run Tryz.prog w = .ok (.value (.int .i64 k)) w := by
  obtain ⟨u, h, h1⟩ := ho
  simp only [execOp, h, h1]
  go_simp
  rw [IntKind.wrap_i64]
  omega
theorem run_h80 {ρ : Operand → Value} {w : World} {op : Oper} {a : Option Addr} {n c : Nat} (hc : 80 ≤ c) (ho : ∃ x y, op.op = .slice 29 x none (some y) none ∧ ρ x = .slice a n c ∧ ρ y = .int .i64 80 := by exact ⟨_, _, rfl, by kernel_rfl, by kernel_rfl⟩) : (execOp ρ op).run Tryz.prog w = .ok (.value (.slice a 80 c)) w := by
  obtain ⟨x, y, h, hx, hy⟩ := ho
  simp only [execOp, h, Option.map, hx, hy]
  go_simp
  intro hh
  omega
theorem run_l80 {ρ : Operand → Value} {w : World} {op : Oper} {b f n c : Nat} (hn : 80 ≤ n) (hc : n ≤ c) (ho : ∃ x y, op.op = .slice 29 x (some y) none none ∧ ρ x = .slice (some ⟨b, f, none⟩) n c ∧ ρ y = .int .i64 80 := by exact ⟨_, _, rfl, by kernel_rfl, by kernel_rfl⟩) : (execOp ρ op).run Tryz.prog w = .ok (.value (.slice (some ⟨b, if c = 80 then f else f + 80, none⟩) (n - 80) (c - 80))) w := by
  obtain ⟨x, y, h, hx, hy⟩ := ho
  simp only [execOp, h, Option.map, hx, hy]
  by_cases e : c = 80
  · subst e
    go_simp
    intro hh
    omega
  · rw [if_neg e]
    go_simp
    intro hh
    omega
theorem by80 {w : World} {b n c : Nat} {ao : Option Addr} {l : List Int} (A : ByA w b ao n c l) (h : 80 ≤ n) : ∃ f, ao = some ⟨b, f, none⟩ ∧ 80 ≤ c ∧ n ≤ c ∧ ByA w b ao 80 c (l.take 80) ∧ ByA w b (some ⟨b, if c = 80 then f else f + 80, none⟩) (n - 80) (c - 80) (l.drop 80) := by
  obtain ⟨o, h1, h2, ⟨h3, h3'⟩, h4, h5⟩ := A.ex
  have hne : ¬ l = [] := fun e => by rw [e] at h1; simp at h1; omega
  have ha : ao = some ⟨b, o, none⟩ := h5.loc.resolve_left hne
  subst ha
  refine ⟨o, rfl, by omega, h2, ⟨o, by rw [List.length_take]; omega, by omega, ⟨h3, h3'⟩, fun x hx => h4 x (List.mem_of_mem_take hx), .inr rfl, fun i hi => ?_⟩, ⟨if c = 80 then o else o + 80, by rw [List.length_drop]; omega, by omega, ⟨by omega, fun e => by cases e⟩, fun x hx => h4 x (List.mem_of_mem_drop hx), ?_, fun i hi => ?_⟩⟩
  · rw [List.length_take] at hi
    rw [h5.cell i (by omega)]
    simp [nth, List.getD_eq_getElem?_getD, List.getElem?_take, show i < 80 by omega]
  · exact .inr rfl
  · rw [List.length_drop] at hi
    have hc80 : ¬ c = 80 := by omega
    rw [if_neg hc80, show o + 80 + i = o + (80 + i) by omega, h5.cell (80 + i) (by omega)]
    simp [nth, List.getD_eq_getElem?_getD, List.getElem?_drop]
theorem rU8_ok {l : List Int} (h : 8 ≤ l.length) : (rU 8 (0, l)).2.1 = 0 ∧ (rU 8 (0, l)).2.2 = l.drop 8 := by
  have e : pFix 8 l = .inr (bval (l.take 8), 8) := by
    unfold pFix
    rw [if_pos h]
  simp [rU, rdE, rdL, e]
theorem rN_ok : ∀ (k : Nat) (l : List Int), 8 * k ≤ l.length → (rN k (0, l)).2.1 = 0 ∧ (rN k (0, l)).2.2 = l.drop (8 * k)
  | 0, l, _ => by simp [rN]
  | k + 1, l, h => by
    obtain ⟨h1, h2⟩ := rU8_ok (l := l) (by omega)
    have e : (rU 8 (0, l)).2 = (0, l.drop 8) := Prod.ext h1 h2
    obtain ⟨g1, g2⟩ := rN_ok k (l.drop 8) (by rw [List.length_drop]; omega)
    simp only [rN, e]
    refine ⟨g1, ?_⟩
    rw [g2, List.drop_drop]
    congr 1
    omega
theorem w8_80 {l : List Int} (ho : Octets l) (h : 80 ≤ l.length) : ∃ p0 p1 p2 p3 p4 p5 p6 p7 p8 p9, rN 10 (0, l) = ([p0, p1, p2, p3, p4, p5, p6, p7, p8, p9], 0, l.drop 80) ∧ l.take 80 = w8 [p0, p1, p2, p3, p4, p5, p6, p7, p8, p9] ∧ ∀ x ∈ ([p0, p1, p2, p3, p4, p5, p6, p7, p8, p9] : List Int), In8 x := by
  obtain ⟨h1, h2⟩ := rN_ok 10 l (by omega)
  obtain ⟨⟨-, h4⟩, h5⟩ := rN_inv 10 (0, l) ho
  obtain ⟨a, b, c, d, e, f, g, i, j, k, hl⟩ := ten_list (rN_len 10 (0, l))
  refine ⟨a, b, c, d, e, f, g, i, j, k, ?_, ?_, fun x hx => h4 x (by rw [hl]; exact hx)⟩
  · rw [← hl]
    exact Prod.ext rfl (Prod.ext h1 h2)
  · have := (h5 h1).2
    rw [hl, h2] at this
    have hh : l = w8 [a, b, c, d, e, f, g, i, j, k] ++ l.drop 80 := this
    rw [hh, List.take_append_of_le_length (by rw [w8_len]; simp), List.take_of_length_le (by rw [w8_len]; simp)]
theorem par_get {w : World} {b n c : Nat} {ao : Option Addr} {l : List Int} {p0 p1 p2 p3 p4 p5 p6 p7 p8 p9 : Int} (A : ByA w b ao n c l) (hl : l = w8 [p0, p1, p2, p3, p4, p5, p6, p7, p8, p9]) (hr : ∀ x ∈ ([p0, p1, p2, p3, p4, p5, p6, p7, p8, p9] : List Int), In8 x) : Calls Tryz.prog 26 #[.slice ao n c] w fun e w' => e = .returned (.tuple #[.agg #[.int .u64 p0, .int .u64 p1, .int .u64 p2, .int .u64 p3, .int .u64 p4, .int .u64 p5, .int .u64 p6, .int .u64 p7, .int .u64 p8, .int .u64 p9], .int .i64 0]) ∧ Below w.heap.size w w' := by
  have h : Rc.thr (Rc.pnx (fun o => ([p0, p1, p2, p3, p4, p5, p6, p7, p8, p9] : List Int).getD o 0)) [(0, 0), (0, 1), (0, 2), (0, 3), (0, 4), (0, 5), (0, 6), (0, 7), (0, 8), (0, 9)] [] = w8 [p0, p1, p2, p3, p4, p5, p6, p7, p8, p9] := by
    simp [Rc.thr, Rc.pnx, Rc.enc1, w8]
  simp only [List.forall_mem_cons] at hr
  obtain ⟨r0, r1, r2, r3, r4, r5, r6, r7, r8, r9, -⟩ := hr
  obtain ⟨ys, e1, e2, -⟩ := Rc.thr_back (fun o => ([p0, p1, p2, p3, p4, p5, p6, p7, p8, p9] : List Int).getD o 0) [(0, 0), (0, 1), (0, 2), (0, 3), (0, 4), (0, 5), (0, 6), (0, 7), (0, 8), (0, 9)] [] (fun _ => 0) (by decide) (by
    simp only [List.forall_mem_cons]
    exact ⟨r0, r1, r2, r3, r4, r5, r6, r7, r8, r9, fun _ h => absurd h List.not_mem_nil⟩)
  rw [h, List.append_nil] at e1
  have es : Rc.stParams l = (0, [], ys) := by rw [hl]; exact e1
  refine (Rc.rParams A).mono ?_
  rintro e w' ⟨rfl, B⟩
  refine ⟨?_, B⟩
  rw [es]
  have y0 := e2 (0, 0) (by simp)
  have y1 := e2 (0, 1) (by simp)
  have y2 := e2 (0, 2) (by simp)
  have y3 := e2 (0, 3) (by simp)
  have y4 := e2 (0, 4) (by simp)
  have y5 := e2 (0, 5) (by simp)
  have y6 := e2 (0, 6) (by simp)
  have y7 := e2 (0, 7) (by simp)
  have y8 := e2 (0, 8) (by simp)
  have y9 := e2 (0, 9) (by simp)
  have fk : ∀ x : Int, Rc.fitk 0 x = x := fun _ => rfl
  simp only [fk] at y0 y1 y2 y3 y4 y5 y6 y7 y8 y9
  simp [Rc.outX, Rc.outR, endE, y0, y1, y2, y3, y4, y5, y6, y7, y8, y9]
theorem mk_ok {l : List Int} {s : St} {x : Int} (h : rU 4 (0, l) = (x, s)) (hx : x = 1196183089) : ∃ l1, s = (0, l1) ∧ ¬ l = [] := by
  unfold rU at h
  cases e : pFix 4 l with
  | inl v =>
    simp only [e, rdV] at h
    have := congrArg Prod.fst h
    simp at this
    omega
  | inr v =>
    simp only [e, rdE, rdL] at h
    refine ⟨_, (congrArg Prod.snd h).symm, fun hl => ?_⟩
    subst hl
    have hx' := congrArg Prod.fst h
    simp only [rdV] at hx'
    revert e hx'
    unfold pFix
    simp
theorem lt_ne {w : World} {b n c : Nat} {ao : Option Addr} {l : List Int} (A : ByA w b ao n c l) (h : ¬ l = []) : b < w.heap.size := by
  obtain ⟨o, -, -, -, -, h5⟩ := A.ex
  have hl : 0 < l.length := List.length_pos_iff.2 h
  exact cell_lt (h5.cell 0 hl)
theorem ref_ok {l : List Int} (ho : Octets l) (h : eD l = 0) : ∃ (l1 : List Int) (g : Ge) (m1 m2 : Nat) (s2 s4 : St) (s3 : St), rU 4 (0, l) = (1196183089, 0, l1) ∧ 80 ≤ l1.length ∧ rN 10 (0, l1) = (g.p, 0, l1.drop 80) ∧ rU 4 (0, l1.drop 80) = ((m1 : Int), s2) ∧ m1 ≤ 256 ∧ rN (m1 * 2) s2 = (g.a, s3) ∧ rU 4 s3 = ((m2 : Int), s4) ∧ m2 ≤ 64 ∧ rN (m2 * 3) s4 = (g.v, 0, []) ∧ bG g m1 m2 = l ∧ gD l = g := by
  obtain ⟨na, nv, h1, h2, ok, hb, -, -⟩ := d_fwd ho h
  have e : l = be 4 mk0 ++ (w8 (gD l).p ++ (be 4 na ++ (w8 (gD l).a ++ (be 4 nv ++ (w8 (gD l).v ++ []))))) := by rw [List.append_nil]; exact hb.symm
  have q4 : rU 4 (0, l) = (mk0, 0, w8 (gD l).p ++ (be 4 na ++ (w8 (gD l).a ++ (be 4 nv ++ (w8 (gD l).v ++ []))))) := by
    conv => lhs; rw [e]
    exact rU_fwd 4 mk0 _ (by decide) (by decide)
  have q10 : rN 10 (0, w8 (gD l).p ++ (be 4 na ++ (w8 (gD l).a ++ (be 4 nv ++ (w8 (gD l).v ++ []))))) = ((gD l).p, 0, be 4 na ++ (w8 (gD l).a ++ (be 4 nv ++ (w8 (gD l).v ++ [])))) := by
    have := rN_fwd (gD l).p (be 4 na ++ (w8 (gD l).a ++ (be 4 nv ++ (w8 (gD l).v ++ [])))) ok.rp
    rw [ok.p] at this
    exact this
  have hd : (w8 (gD l).p ++ (be 4 na ++ (w8 (gD l).a ++ (be 4 nv ++ (w8 (gD l).v ++ []))))).drop 80 = be 4 na ++ (w8 (gD l).a ++ (be 4 nv ++ (w8 (gD l).v ++ []))) := by
    rw [List.drop_append_of_le_length (by rw [w8_len, ok.p]; decide), List.drop_eq_nil_of_le (by rw [w8_len, ok.p]; decide), List.nil_append]
  have p4 : (256 : Int) ^ 4 = 4294967296 := rfl
  refine ⟨_, gD l, na, nv, (0, w8 (gD l).a ++ (be 4 nv ++ (w8 (gD l).v ++ []))), (0, w8 (gD l).v ++ []), (0, be 4 nv ++ (w8 (gD l).v ++ [])), q4, by rw [List.length_append, w8_len, ok.p]; omega, by rw [hd]; exact q10, by rw [hd]; exact rU_fwd 4 na _ (by omega) (by rw [p4]; omega), h1, ?_, rU_fwd 4 nv _ (by omega) (by rw [p4]; omega), h2, ?_, hb, rfl⟩
  · rw [← ok.a]; exact rN_fwd _ _ ok.ra
  · rw [← ok.v]; exact rN_fwd _ _ ok.rv
theorem eD_no {l : List Int} (h : ¬ 65536 < l.length) (hn : ¬ eD l = 0) : eD l = 210 := by
  unfold eD at hn ⊢
  rw [if_neg h] at hn ⊢
  split
  · rename_i hh; rw [if_pos hh] at hn; exact absurd rfl hn
  · rfl
theorem ex1 {l : List Int} {x : Int} {s : St} (ho : Octets l) (E : rU 4 (0, l) = (x, s)) (h : ¬ x = 1196183089) : ¬ eD l = 0 := fun e => by
  obtain ⟨l1, g, m1, m2, s2, s4, s3, q1, -⟩ := ref_ok ho e
  rw [E] at q1
  exact h (congrArg Prod.fst q1)
theorem ex2 {l l1 : List Int} (ho : Octets l) (E : rU 4 (0, l) = (1196183089, 0, l1)) (h : l1.length < 80) : ¬ eD l = 0 := fun e => by
  obtain ⟨l1', g, m1, m2, s2, s4, s3, q1, q2, -⟩ := ref_ok ho e
  rw [E] at q1
  cases q1
  omega
theorem ex3 {l l1 : List Int} {x : Int} {s2 : St} (ho : Octets l) (E : rU 4 (0, l) = (1196183089, 0, l1)) (E3 : rU 4 (0, l1.drop 80) = (x, s2)) (h : 256 < x) : ¬ eD l = 0 := fun e => by
  obtain ⟨l1', g, m1, m2, s2', s4, s3, q1, q2, q3, q4, q5, -⟩ := ref_ok ho e
  rw [E] at q1
  cases q1
  rw [E3] at q4
  cases q4
  omega
theorem ex4 {l l1 A : List Int} {m : Nat} {x : Int} {s2 s3 s4 : St} (ho : Octets l) (E : rU 4 (0, l) = (1196183089, 0, l1)) (E3 : rU 4 (0, l1.drop 80) = ((m : Int), s2)) (eA : rN (m * 2) s2 = (A, s3)) (E4 : rU 4 s3 = (x, s4)) (h : 64 < x) : ¬ eD l = 0 := fun e => by
  obtain ⟨l1', g, m1, m2, s2', s4', s3', q1, q2, q3, q4, q5, q6, q7, q8, -⟩ := ref_ok ho e
  rw [E] at q1
  cases q1
  rw [E3] at q4
  have e1 := congrArg Prod.fst q4
  have e2 := congrArg Prod.snd q4
  simp only at e1 e2
  obtain rfl : m = m1 := by omega
  subst e2
  rw [eA] at q6
  cases q6
  rw [E4] at q7
  cases q7
  omega
theorem ex5 {l l1 A V P : List Int} {m k : Nat} {s2 s3 s4 s5 : St} (ho : Octets l) (E : rU 4 (0, l) = (1196183089, 0, l1)) (eP : rN 10 (0, l1) = (P, 0, l1.drop 80)) (E3 : rU 4 (0, l1.drop 80) = ((m : Int), s2)) (eA : rN (m * 2) s2 = (A, s3)) (E4 : rU 4 s3 = ((k : Int), s4)) (eV : rN (k * 3) s4 = (V, s5)) (h : ¬ endE s5.1 s5.2 = 0 ∨ ¬ bG ⟨P, A, V⟩ m k = l) : ¬ eD l = 0 := fun e => by
  obtain ⟨l1', g, m1, m2, s2', s4', s3', q1, q2, q3, q4, q5, q6, q7, q8, q9, q10, -⟩ := ref_ok ho e
  rw [E] at q1
  cases q1
  rw [eP] at q3
  rw [E3] at q4
  have e1 := congrArg Prod.fst q4
  have e2 := congrArg Prod.snd q4
  simp only at e1 e2
  obtain rfl : m = m1 := by omega
  subst e2
  rw [eA] at q6
  have a1 := congrArg Prod.fst q6
  have a2 := congrArg Prod.snd q6
  simp only at a1 a2
  subst a2
  rw [E4] at q7
  have e3 := congrArg Prod.fst q7
  have e4 := congrArg Prod.snd q7
  simp only at e3 e4
  obtain rfl : k = m2 := by omega
  subst e4
  rw [eV] at q9
  have v1 := congrArg Prod.fst q9
  have v2 := congrArg Prod.snd q9
  simp only at v1 v2
  have pp := congrArg Prod.fst q3
  simp only at pp
  rcases h with h | h
  · rw [v2] at h
    exact h rfl
  · apply h
    rw [pp, a1, v1]
    exact q10
end Gn
end Go.Proofs.YtpoifdokmjhclaaGreat
