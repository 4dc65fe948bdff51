/- make and copy of lists of limbs, as laws for a walk. -/
import Derived.Test.YtjihgkanbhccpaaGreatDoorMem
import Derived.Laws.CopyOwn
namespace Go.Proofs.YtjihgkanbhccpaaGreatDoor
open Go.RowKit Lim

theorem info_u64 : (Tryz.prog.info? 39).map (fun i => (i.zero, i.size, i.bytes)) = some (some (.int .u64 0), 1, 8) := by kernel_rfl
theorem under_nat : Tryz.prog.underlying 28 = some (.slice 39) := by kernel_rfl

/-- block g holds just the limbs l -/
def Row (w : World) (g : Nat) (l : List Int) : Prop := w.heap[g]? = some (.cells (l.map (Value.int .u64)).toArray 39 (0, 0))

theorem Row.at {w : World} {g : Nat} {l : List Int} (h : Row w g l) : At w (some ⟨g, 0, none⟩) g 0 l :=
  ⟨.inr rfl, fun i hi => by
    unfold Row at h
    simp only [World.cell?, h]
    simp [nth_eq hi, hi]⟩
theorem Row.free {w : World} {g : Nat} {l : List Int} (h : Row w g l) (o n : Nat) : Free w g o n := by
  intro i _
  unfold Row at h
  simp [World.frozen?, h]
theorem Row.lt {w : World} {g : Nat} {l : List Int} (h : Row w g l) : g < w.heap.size := (Array.getElem?_eq_some_iff.1 h).1

/-- a list of limbs in memory that was not there before -/
structure NewV (w w' : World) (v : Value) (l : List Int) : Prop where
  is : ∃ ao b o c, v = .slice ao l.length c ∧ l.length ≤ c ∧ w.heap.size ≤ b ∧ At w' ao b o l ∧ Free w' b o l.length

theorem made_u64 (n : Nat) : madeCells (Value.int .u64 0).cells n = ((List.replicate n 0).map (Value.int .u64)).toArray := by
  apply Array.ext
  · simp [size_madeCells]
  · intro j h1 h2
    simp [madeCells, Value.cells, Nat.mod_one]

theorem wpList_makeN {w : World} {ops : Array Oper} {rest : List Oper} {o : Oper} {a : Act} {Q : Exit → Act → World → Prop}
    (hg : o.guard = none) (l c : Operand) (hop : o.op = Op.makeSlice 28 l c) (n : Nat) (L C : Int) (hl : a.eval l = .int .i64 L) (hc : a.eval c = .int .i64 C) (hL : L = (n : Int)) (hC : C = (n : Int)) (hn : n ≤ 17592186044416)
    (hK : ∀ w', Row w' w.heap.size (List.replicate n 0) → Below w.heap.size w w' → w'.heap.size = w.heap.size + 1 → wpList Tryz.prog ops Q rest (a.put o.dst (.slice (some ⟨w.heap.size, 0, none⟩) n n)) w') :
    wpList Tryz.prog ops Q (o :: rest) a w := by
  obtain ⟨i, hi, hz, hs, hb⟩ := info_parts info_u64
  refine wpList_plain hg fun K hK' => ?_
  have hrun := run_make (P := Tryz.prog) w 28 39 i (.int .u64 0) under_nat hi hz .i64 .i64 (n : Int) (n : Int) (by omega) (by omega) (by rw [hb]; omega) (by omega)
  subst hL
  subst hC
  unfold Oper.wp
  simp only [execOp, hop, hl, hc]
  simp [hrun, Result.andThen]
  refine hK' _ _ (hK _ ?_ ?_ ?_)
  · show (w.heap.push _)[w.heap.size]? = _
    rw [Array.getElem?_push_size, hs, Nat.mul_one, made_u64]
  · exact (Below.refl _ _).alloc (Nat.le_refl _) _
  · simp

theorem wpList_copyN {w : World} {ops : Array Oper} {rest : List Oper} {o : Oper} {a : Act} {Q : Exit → Act → World → Prop} (hgd : o.guard = none) (d s : Operand)
    (ho : o.op = .call { callee := .builtin .copy, args := #[d, s], argTypes := #[28, 28] })
    (g dLen dCap sLen sCap : Nat) (sp : Option Addr) (hd : a.eval d = .slice (some ⟨g, 0, none⟩) dLen dCap) (hs : a.eval s = .slice sp sLen sCap)
    (lz ls : List Int) (hrow : Row w g lz) (hdl : lz.length = dLen) (b' o' : Nat) (hsl : ls.length = sLen) (hle : sLen ≤ dLen) (hat : At w sp b' o' ls)
    (h : ∀ w', Row w' g (ls ++ lz.drop sLen) → Wr g 0 dLen w w' → wpList Tryz.prog ops Q rest (a.put o.dst (goInt sLen)) w') : wpList Tryz.prog ops Q (o :: rest) a w := by
  obtain ⟨i, hi, hz, hsz, hb⟩ := info_parts info_u64
  have hinf : (Tryz.prog.info? 39).map (·.size) = some 1 := by rw [hi]; simp [hsz]
  by_cases h0 : sLen = 0
  · have e0 : ls = [] := List.eq_nil_of_length_eq_zero (by omega)
    subst e0
    refine wpList_copy_nothing hgd d s _ _ ho _ under_nat hinf _ sp dLen dCap sLen sCap hd hs (by subst h0; exact Nat.zero_min _) ?_
    have := h w (by rw [h0]; simpa using hrow) (Wr.refl _ _ _ _)
    rwa [h0] at this
  · obtain rfl : sp = some ⟨b', o', none⟩ := by
      rcases hat.loc with e | e
      · subst e; simp at hsl; omega
      · exact e
    have hmin : Nat.min sLen dLen = sLen := Nat.min_eq_left hle
    have hlen : (ls.map (Value.int .u64)).length = sLen := by simp [hsl]
    refine wpList_copy_own hgd d s _ _ ho _ under_nat hinf g 0 dLen dCap ⟨b', o', none⟩ sLen sCap hd hs _ _ hrow (ls.map (Value.int .u64)) (by rw [hmin, hlen]) ?_ (by simp [hsl, hdl]; omega) (ints_oneCell _ _) ?_
    · intro j v hv
      rw [List.getElem?_map] at hv
      have hj : j < ls.length := by
        rcases Nat.lt_or_ge j ls.length with hj | hj
        · exact hj
        · rw [List.getElem?_eq_none hj] at hv; simp at hv
      rw [List.getElem?_eq_getElem hj] at hv
      simp at hv
      subst hv
      have := hat.cell j hj
      rw [nth_eq hj] at this
      rw [← this]
      by_cases hj0 : j = 0
      · subst hj0; exact congrArg w.cell? (by simp [Addr.add])
      · exact congrArg w.cell? (by simp [Addr.add, hj0])
    · rw [hlen]
      have hR : Row (w.setRow g (List.take 0 (List.map (Value.int .u64) lz).toArray.toList ++ (List.map (Value.int .u64) ls ++ List.drop (0 + sLen) (List.map (Value.int .u64) lz).toArray.toList)).toArray) g (ls ++ lz.drop sLen) := by
        unfold Row
        rw [setRow_heap w g _ _ _ _ hrow, Nat.zero_add]
        simp only [List.take_zero, List.nil_append, ← List.map_drop, ← List.map_append]
      refine h _ hR ⟨rfl, rfl, rfl, by simp [World.setRow], fun k hk => setRow_other w g k _ hk, fun j hj => ?_, fun j => ?_⟩
      · have h1 : w.heap[g]? = _ := hrow
        have h2 : (w.setRow g (List.take 0 (List.map (Value.int .u64) lz).toArray.toList ++ (List.map (Value.int .u64) ls ++ List.drop (0 + sLen) (List.map (Value.int .u64) lz).toArray.toList)).toArray).heap[g]? = _ := hR
        simp only [World.cell?, h1, h2]
        simp
        rw [List.getElem?_eq_none (by simp; omega), List.getElem?_eq_none (by omega)]
        rfl
      · have h1 : w.heap[g]? = _ := hrow
        have h2 : (w.setRow g (List.take 0 (List.map (Value.int .u64) lz).toArray.toList ++ (List.map (Value.int .u64) ls ++ List.drop (0 + sLen) (List.map (Value.int .u64) lz).toArray.toList)).toArray).heap[g]? = _ := hR
        simp only [World.frozen?, h1, h2]
end Go.Proofs.YtjihgkanbhccpaaGreatDoor
