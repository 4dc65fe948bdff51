/- Several texts, joined: EncF, EncG, EncI, SmallB, EncH. -/
import Derived.Test.YthiddfachcpjeaaGreatJba
import Derived.Lib.SlBytesConst
import Derived.Test.YthiddfachcpjeaaGreatJaa
import Derived.Deep.Slices
import Derived.ChangeSlices
import Derived.OpenShut
namespace Go.Proofs.YthiddfachcpjeaaGreat
open Go.RowKit Lim

theorem natL_256 (L : List Int) : natL 256 0 L = L ++ [2, 1, 0] := by
  unfold natL
  rw [natB_256]
  rfl
theorem natE_256 : natE 256 0 = 0 := by
  unfold natE
  rw [natB_256]
  rfl
theorem natL_0 (L : List Int) : natL 0 0 L = L ++ [0] := by
  unfold natL
  rw [natB_0]
  rfl
theorem natE_0 : natE 0 0 = 0 := by
  unfold natE
  rw [natB_0]
  rfl
theorem lit256 (w : World) (t : TypeId) : NatO (w.alloc (.cells #[.int .u64 256] t)) (some ⟨w.heap.size, 0, none⟩) 1 1 256 := ⟨w.heap.size, 0, [256], rfl, Nat.le_refl _, ⟨fun x hx => by simp at hx; omega, by decide, by decide⟩, lit_nat w [256] t⟩
theorem litB (w : World) (l : List Int) (ho : Octets l) (h : l.length ≤ 9223372036854775807) : ByA (w.alloc (.cells (l.map (Value.int .u8)).toArray 5)) w.heap.size (some ⟨w.heap.size, 0, none⟩) l.length l.length l := (lit_bytes w l _).bya ho h
theorem under_byte : Tryz.prog.underlying 5 = some (.int .u8) := by kernel_rfl
theorem lit2 (w : World) (a b : Int) (h : Octets [a, b]) : ByA (w.alloc (.cells #[.int .u8 a, .int .u8 b] 5 (2, 3))) w.heap.size (some ⟨w.heap.size, 0, none⟩) 2 2 [a, b] := ⟨0, rfl, Nat.le_refl _, ⟨by decide, fun e => by cases e⟩, h, .inr rfl, fun i hi => by
  have hb : (w.alloc (.cells #[.int .u8 a, .int .u8 b] 5 (2, 3))).heap[w.heap.size]? = some (.cells #[.int .u8 a, .int .u8 b] 5 (2, 3)) := by
    show (w.heap.push _)[w.heap.size]? = _
    simp
  simp only [World.cell?, hb]
  match i, hi with
  | 0, _ => rfl
  | 1, _ => rfl⟩
end Go.Proofs.YthiddfachcpjeaaGreat

namespace Go.Proofs.YthiddfachcpjeaaGreat
open Go.RowKit Lim

/-- a step of a script: its five cells, and what lies behind its two lists -/
structure Stp where
  what : Int
  num : Int
  na : Option Addr
  nn : Nat
  nc : Nat
  V : Int
  ba : Option Addr
  bn : Nat
  bc : Nat
  bb : Nat
  bl : List Int
  most : Int
structure StpA (w : World) (s : Stp) : Prop where
  w1 : -9223372036854775808 ≤ s.what
  w2 : s.what ≤ 9223372036854775807
  n1 : 0 ≤ s.num
  n2 : s.num ≤ 18446744073709551615
  nat : NatA w s.na s.nn s.nc s.V
  nlt : s.nn ≤ 1099511627776 * 16
  byt : ByA w s.bb s.ba s.bn s.bc s.bl
  blt : s.bn ≤ 1099511627776 * 128
  m1 : -9223372036854775808 ≤ s.most
  m2 : s.most ≤ 9223372036854775807
theorem StpA.keep {w w' : World} {s : Stp} (h : StpA w s) (hb : Below w.heap.size w w') : StpA w' s := ⟨h.w1, h.w2, h.n1, h.n2, h.nat.keep hb, h.nlt, h.byt.keep hb, h.blt, h.m1, h.m2⟩
structure StpC (w : World) (b o : Nat) (s : Stp) : Prop where
  c0 : w.cell? ⟨b, o, none⟩ = some (.int .i64 s.what)
  c1 : w.cell? ⟨b, o + 1, none⟩ = some (.int .u64 s.num)
  c2 : w.cell? ⟨b, o + 2, none⟩ = some (.slice s.na s.nn s.nc)
  c3 : w.cell? ⟨b, o + 3, none⟩ = some (.slice s.ba s.bn s.bc)
  c4 : w.cell? ⟨b, o + 4, none⟩ = some (.int .i64 s.most)
theorem StpC.keep {w w' : World} {b o : Nat} {s : Stp} (h : StpC w b o s) (hb : Below w.heap.size w w') : StpC w' b o s := by
  have k : ∀ {q : Nat} {v : Value}, w.cell? ⟨b, q, none⟩ = some v → w'.cell? ⟨b, q, none⟩ = some v := fun {q v} hc => by
    have hlt := cell_lt hc
    rw [World.cell?_of_block (w := w) (hb.block b hlt)]
    exact hc
  exact ⟨k h.c0, k h.c1, k h.c2, k h.c3, k h.c4⟩
/-- a script in memory -/
structure StepsA (w : World) (ao : Option Addr) (n : Nat) (ss : List Stp) : Prop where
  len : ss.length = n
  le : n ≤ 9223372036854775807
  get : ∀ i s, ss[i]? = some s → ∃ b o, ao = some ⟨b, o, none⟩ ∧ StpC w b (o + i * 5) s ∧ StpA w s
theorem StepsA.keep {w w' : World} {ao : Option Addr} {n : Nat} {ss : List Stp} (h : StepsA w ao n ss) (hb : Below w.heap.size w w') : StepsA w' ao n ss :=
  ⟨h.len, h.le, fun i s hs => by
    obtain ⟨b, o, h1, h2, h3⟩ := h.get i s hs
    exact ⟨b, o, h1, h2.keep hb, h3.keep hb⟩⟩
theorem StepsA.at {w : World} {ao : Option Addr} {n : Nat} {ss : List Stp} (h : StepsA w ao n ss) {i : Nat} (hi : i < n) : ∃ s b o, ss[i]? = some s ∧ ao = some ⟨b, o, none⟩ ∧ StpC w b (o + i * 5) s ∧ StpA w s := by
  have hl := h.len
  have e : ss[i]? = some ss[i] := List.getElem?_eq_getElem (by omega)
  obtain ⟨b, o, h1, h2, h3⟩ := h.get i _ e
  exact ⟨_, b, o, e, h1, h2, h3⟩
/-- how heavy the first steps are -/
def heavy : List Stp → Nat
  | [] => 0
  | s :: r => s.bn + 8 * s.nn + heavy r
theorem heavy_snoc (l : List Stp) (s : Stp) : heavy (l ++ [s]) = heavy l + (s.bn + 8 * s.nn) := by
  induction l with
  | nil => simp [heavy]
  | cons x l ih => simp only [List.cons_append, heavy, ih]; omega
theorem heavy_take {l : List Stp} {i : Nat} {s : Stp} (h : l[i]? = some s) : heavy (l.take (i + 1)) = heavy (l.take i) + (s.bn + 8 * s.nn) := by
  rw [List.take_add_one, h]
  simp [heavy_snoc]
theorem heavy_append (l r : List Stp) : heavy (l ++ r) = heavy l + heavy r := by
  induction l with
  | nil => simp [heavy]
  | cons x l ih => simp only [List.cons_append, heavy, ih]; omega
theorem heavy_le (l : List Stp) (k : Nat) : heavy (l.take k) ≤ heavy l := by
  have := heavy_append (l.take k) (l.drop k)
  rw [List.take_append_drop] at this
  omega
theorem heavy_mem {l : List Stp} {i : Nat} {s : Stp} (h : l[i]? = some s) : s.bn + 8 * s.nn ≤ heavy l := by
  have h1 := heavy_take h
  have h2 := heavy_le l (i + 1)
  omega
end Go.Proofs.YthiddfachcpjeaaGreat

namespace Go.Proofs.YthiddfachcpjeaaGreat
open Go.RowKit Lim

theorem be_bval {l : List Int} (h : Octets l) : be l.length (bval l) = l := by
  refine bval_inj (be_oct _ _) h (be_length _ _) ?_
  have hb := bval_bound h
  rw [be_val _ hb.1, Int.emod_eq_of_lt hb.1 hb.2]
theorem be_take {l : List Int} (h : Octets l) {m : Nat} (hm : m ≤ l.length) : be m (bval (l.take m)) = l.take m := by
  have := be_bval (l := l.take m) (fun x hx => h x (List.mem_of_mem_take hx))
  rwa [List.length_take, Nat.min_eq_left hm] at this
/-- a part was read of L: with an error nothing is taken; without one, what is laid again is what was taken -/
def One (err' : Int) (L L' : List Int) (laid : List Int → Prop) : Prop := (err' ≠ 0 ∧ L' = L) ∨ (err' = 0 ∧ ∃ k, k ≤ L.length ∧ laid (L.take k) ∧ L' = L.drop k)
theorem one_fix {L : List Int} (h : Octets L) (m : Nat) : One (rdE (pFix m L) 0) L (rdL (pFix m L) 0 L) (fun t => be m (rdV 0 (pFix m L) 0) = t) := by
  by_cases hm : m ≤ L.length
  · have e : pFix m L = .inr (bval (L.take m), m) := by unfold pFix; rw [if_pos hm]
    rw [e]
    exact .inr ⟨rfl, m, hm, be_take h hm, rfl⟩
  · have e : pFix m L = .inl 40 := by unfold pFix; rw [if_neg hm]
    rw [e]
    exact .inl ⟨by decide, rfl⟩
theorem one_bool {L : List Int} (h : Octets L) : One (rdE (pBool L) 0) L (rdL (pBool L) 0 L) (fun t => be 1 (if rdV false (pBool L) 0 then 1 else 0) = t) := by
  by_cases hm : 1 ≤ L.length
  · by_cases hx : 1 < bval (L.take 1)
    · have e : pBool L = .inl 41 := by unfold pBool; rw [if_pos hm, if_pos hx]
      rw [e]
      exact .inl ⟨by decide, rfl⟩
    · have e : pBool L = .inr (bval (L.take 1) == 1, 1) := by unfold pBool; rw [if_pos hm, if_neg hx]
      rw [e]
      refine .inr ⟨rfl, 1, hm, ?_, rfl⟩
      have hbt := be_take h hm
      have h0 := (bval_bound (l := L.take 1) (fun x hx => h x (List.mem_of_mem_take hx))).1
      show be 1 (if (bval (L.take 1) == 1) = true then 1 else 0) = L.take 1
      generalize L.take 1 = M at *
      by_cases h1 : bval M = 1
      · rw [h1] at hbt ⊢
        exact hbt
      · rw [show bval M = 0 by omega] at hbt ⊢
        exact hbt
  · have e : pBool L = .inl 40 := by unfold pBool; rw [if_neg hm]
    rw [e]
    exact .inl ⟨by decide, rfl⟩
theorem cntOf_nn {m : Nat} {L : List Int} (h : Octets L) : ((cntOf m L : Nat) : Int) = bval (L.take m) := by
  unfold cntOf
  rw [Int.toNat_of_nonneg (bval_bound (fun x hx => h x (List.mem_of_mem_take hx))).1]
theorem cnt_lay {m : Nat} {L : List Int} (h : Octets L) (hm : m ≤ L.length) (hc : m + cntOf m L ≤ L.length) : cntd m ((L.drop m).take (cntOf m L)) = L.take (m + cntOf m L) := by
  unfold cntd
  have e : (((L.drop m).take (cntOf m L)).length : Int) = bval (L.take m) := by
    rw [List.length_take, List.length_drop, Nat.min_eq_left (by omega)]
    exact cntOf_nn h
  rw [e, be_take h hm, List.take_add]
theorem one_nat {L : List Int} (h : Octets L) : One (rdE (pNat L) 0) L (rdL (pNat L) 0 L) (fun t => natE (rdV 0 (pNat L) 0) 0 = 0 ∧ ∀ K, natL (rdV 0 (pNat L) 0) 0 K = K ++ t) := by
  by_cases hm : 1 ≤ L.length
  · by_cases hc : 1 + cntOf 1 L ≤ L.length
    · by_cases hz : 0 < cntOf 1 L ∧ nth (L.drop 1) 0 = 0
      · have e : pNat L = .inl 41 := by unfold pNat; rw [if_pos hm, if_pos hc, if_pos hz]
        rw [e]
        exact .inl ⟨by decide, rfl⟩
      · have e : pNat L = .inr (bval ((L.drop 1).take (cntOf 1 L)), 1 + cntOf 1 L) := by unfold pNat; rw [if_pos hm, if_pos hc, if_neg hz]
        have hcl := cnt_lay h hm hc
        have hlt : ((cntOf 1 L : Nat) : Int) < 256 := by
          have := (bval_bound (l := L.take 1) (fun x hx => h x (List.mem_of_mem_take hx))).2
          rw [List.length_take, Nat.min_eq_left hm] at this
          rw [cntOf_nn h]
          simpa using this
        have hoct : Octets ((L.drop 1).take (cntOf 1 L)) := fun x hx => h x (List.mem_of_mem_drop (List.mem_of_mem_take hx))
        have hlen : ((L.drop 1).take (cntOf 1 L)).length = cntOf 1 L := by rw [List.length_take, List.length_drop]; omega
        have hB : natB (bval ((L.drop 1).take (cntOf 1 L))) = (L.drop 1).take (cntOf 1 L) := natB_unique (bval_bound hoct).1 ⟨hoct, fun hne => by
          have hpos : 0 < cntOf 1 L := by
            rcases Nat.eq_zero_or_pos (cntOf 1 L) with h0 | h0
            · exact absurd (by rw [h0]; simp) hne
            · exact h0
          rw [nth_take hpos]
          exact fun h0 => hz ⟨hpos, h0⟩, rfl⟩
        rw [e]
        refine .inr ⟨rfl, _, hc, ?_, rfl⟩
        show natE (bval ((L.drop 1).take (cntOf 1 L))) 0 = 0 ∧ ∀ K, natL (bval ((L.drop 1).take (cntOf 1 L))) 0 K = K ++ L.take (1 + cntOf 1 L)
        unfold natE natL
        rw [hB, if_pos (by omega)]
        refine ⟨rfl, fun K => ?_⟩
        rw [if_pos (by omega), hcl]
        rfl
    · have e : pNat L = .inl 40 := by unfold pNat; rw [if_pos hm, if_neg hc]
      rw [e]
      exact .inl ⟨by decide, rfl⟩
  · have e : pNat L = .inl 40 := by unfold pNat; rw [if_neg hm]
    rw [e]
    exact .inl ⟨by decide, rfl⟩
theorem one_raw {L : List Int} {most : Int} (h : Octets L) : One (rdE (pRaw most L) 0) L (rdL (pRaw most L) 0 L) (fun t => cntd 4 (rdV [] (pRaw most L) 0) = t) := by
  by_cases hm : 4 ≤ L.length
  · by_cases hq : most < (cntOf 4 L : Int)
    · have e : pRaw most L = .inl 42 := by unfold pRaw; rw [if_pos hm, if_pos hq]
      rw [e]
      exact .inl ⟨by decide, rfl⟩
    · by_cases hc : 4 + cntOf 4 L ≤ L.length
      · have e : pRaw most L = .inr ((L.drop 4).take (cntOf 4 L), 4 + cntOf 4 L) := by unfold pRaw; rw [if_pos hm, if_neg hq, if_pos hc]
        rw [e]
        exact .inr ⟨rfl, _, hc, cnt_lay h hm hc, rfl⟩
      · have e : pRaw most L = .inl 40 := by unfold pRaw; rw [if_pos hm, if_neg hq, if_neg hc]
        rw [e]
        exact .inl ⟨by decide, rfl⟩
  · have e : pRaw most L = .inl 40 := by unfold pRaw; rw [if_neg hm]
    rw [e]
    exact .inl ⟨by decide, rfl⟩
theorem ByA.front2 {w : World} {b : Nat} {ao : Option Addr} {n c : Nat} {l : List Int} (h : ByA w b ao n c l) {k : Nat} (hk : k ≤ n) : ByA w b ao k c (l.take k) := by
  obtain ⟨o, h1, h2, h3, h4, h5⟩ := h.ex
  refine ⟨o, by rw [List.length_take]; omega, by omega, h3, fun x hx => h4 x (List.mem_of_mem_take hx), ?_, fun i hi => ?_⟩
  · rcases h5.loc with e | e
    · exact .inl (by rw [e]; simp)
    · exact .inr e
  · rw [List.length_take] at hi
    rw [h5.cell i (by omega), nth_take (by omega)]
theorem pRaw_len {most : Int} {L : List Int} {err : Int} : (rdV [] (pRaw most L) err).length ≤ L.length := by
  unfold rdV pRaw
  repeat' split
  all_goals first
    | exact Nat.zero_le _
    | (rename_i hh; repeat' split at hh
       all_goals first
         | cases hh
           rw [List.length_take, List.length_drop]; omega
         | cases hh)
theorem pRaw_oct {most : Int} {L : List Int} {err : Int} (h : Octets L) : Octets (rdV [] (pRaw most L) err) := by
  unfold rdV pRaw
  repeat' split
  all_goals first
    | exact fun x hx => by simp at hx
    | (rename_i hh; repeat' split at hh
       all_goals first
         | cases hh
           exact fun x hx => h x (List.mem_of_mem_drop (List.mem_of_mem_take hx))
         | cases hh)
end Go.Proofs.YthiddfachcpjeaaGreat

namespace Go.Proofs.YthiddfachcpjeaaGreat
open Go.RowKit Lim

/-- what the row says of a slice of bytes that came in -/
def IsRowB (w : World) (a : Option Addr) (len cap : Nat) (zs : List Int) : Prop :=
  (a = none ∧ len = 0 ∧ cap = 0 ∧ zs = []) ∨
  ∃ x, a = some x ∧ len ≤ cap ∧ cap ≤ maxLen ∧ zs.length = cap ∧ (∀ i, i < zs.length → w.cell? (x.add i) = some (.int .u8 (zs.getD i 0))) ∧ ∀ n ∈ zs, (Lit.int .u8 n).wf = true
theorem isRowB_nil {w : World} {a : Option Addr} {len cap : Nat} {zs : List Int} (h : IsRowB w a len cap zs) (e : a = none) : cap = 0 := by
  rcases h with ⟨_, _, h, _⟩ | ⟨x, h, _⟩
  · exact h
  · rw [e] at h; simp at h
theorem IsRowB.open {w : World} {a : Option Addr} {len cap : Nat} {zs : List Int} (h : IsRowB w a len cap zs) : ∃ b o l, l.length = len ∧ len ≤ cap ∧ len ≤ 9223372036854775807 ∧ Octets l ∧ AtB w a b o l := by
  rcases h with ⟨rfl, rfl, rfl, rfl⟩ | ⟨x, rfl, h1, h2, h3, h4, h5⟩
  · exact ⟨0, 0, [], rfl, Nat.le_refl _, by decide, fun x hx => by simp at hx, .inl rfl, fun i hi => by simp at hi⟩
  · have hw : Octets (zs.take len) := fun y hy => by
      have := h5 y (List.mem_of_mem_take hy)
      have := bounds_u8 this
      omega
    have hl : (zs.take len).length = len := by simp; omega
    have hmx : len ≤ 9223372036854775807 := by unfold maxLen at h2; omega
    by_cases h0 : len = 0
    · refine ⟨0, 0, zs.take len, hl, h1, hmx, hw, .inl (List.eq_nil_of_length_eq_zero (by omega)), fun i hi => by omega⟩
    · have hx := h4 0 (by omega)
      have hsp : x.spot = none := by
        rw [show x.add 0 = x from rfl] at hx
        simp only [World.cell?] at hx
        cases hh : w.heap[x.block]? with
        | none => rw [hh] at hx; simp at hx
        | some ob =>
          rw [hh] at hx
          cases ob with
          | cells c e f =>
            simp at hx
            cases hs : x.spot with
            | none => rfl
            | some s => rw [hs] at hx; simp at hx
          | _ => simp at hx
      obtain ⟨b, o, sp⟩ := x
      simp at hsp
      subst hsp
      refine ⟨b, o, zs.take len, hl, h1, hmx, hw, .inr rfl, fun i hi => ?_⟩
      have h6 := h4 i (by omega)
      rw [nth_take (by omega)]
      have e : (⟨b, o, none⟩ : Addr).add i = ⟨b, o + i, none⟩ := by
        by_cases hi0 : i = 0
        · subst hi0; rfl
        · simp [Addr.add, hi0]
      rw [e] at h6
      exact h6
end Go.Proofs.YthiddfachcpjeaaGreat

namespace Go.Proofs.YthiddfachcpjeaaGreat
open Go.RowKit Lim Go.ChangeShapes Go.WideShapes

theorem mem_weightsAll {H : Type} {P : Program} {e : TypeId} {d : DataW H} {k : Nat} : ∀ {l : List (DataW H)}, d ∈ l → k ∈ d.weights P e → k ∈ DataW.weightsAll P e l
  | [], h, _ => by simp at h
  | x :: r, h, hk => by
    unfold DataW.weightsAll
    rcases List.mem_cons.1 h with h | h
    · subst h; exact List.mem_append_left _ hk
    · exact List.mem_append_right _ (mem_weightsAll h hk)
theorem spot_none9 {w : World} {x : Addr} {v : Value} (hx : w.cell? x = some v) : x.spot = none := by
  simp only [World.cell?] at hx
  cases hh : w.heap[x.block]? with
  | none => rw [hh] at hx; simp at hx
  | some ob =>
    rw [hh] at hx
    cases ob with
    | cells c e f =>
      simp at hx
      cases hs : x.spot with
      | none => rfl
      | some s => rw [hs] at hx; simp at hx
    | _ => simp at hx
theorem row_nat {H : Type} {enc : TypeId × Value → H} {W : World} {base fuel : Nat} {spare : Nat → Bool} {held : Bool} {c : Value} {x : DataW H × List MemPlace} (h : DataW.trod enc Tryz.prog W base spare held fuel 28 [c] = some x) (hs : ∀ b, spare b = true) (hw : ∀ k ∈ x.1.weights Tryz.prog 28, k ≤ reachBytes) : ∃ a n m V, c = .slice a n m ∧ NatA W a n m V ∧ n ≤ 17592186044416 := by
  rcases open_ints Tryz.underlying28 Tryz.underlying22 (by kernel_rfl) h with ⟨hc1, _⟩ | ⟨x, l, c1, zs, hc1, _, hl, hm, hz, rfl, hcell, hwz⟩
  · exact ⟨none, 0, 0, 0, List.cons.inj hc1 |>.1, (natO_nil W).a, by decide⟩
  · have hrow : IsRow W (some x) l c1 zs := .inr ⟨_, rfl, hl, hm, by simpa [hs] using hz, hcell, hwz⟩
    obtain ⟨b, o, ls, h1, h2, _, h4, h5⟩ := hrow.open
    refine ⟨some x, l, c1, _, List.cons.inj hc1 |>.1, ⟨b, o, ls, h1, h2, h4, h5, rfl⟩, ?_⟩
    have e := hw ((l + (c1 - l)) * 8) (by
      simp only [DataW.weights, Tryz.underlying28]
      refine List.mem_cons.2 (.inl ?_)
      have e8 : Tryz.prog.bytesOf 22 = 8 := by kernel_rfl
      have hz' : zs.length = c1 := by simpa [hs] using hz
      simp only [lits, List.length_map, List.length_take, List.length_drop, e8, hz']
      rw [Nat.min_eq_left hl])
    unfold reachBytes at e
    omega
theorem row_bytes {H : Type} {enc : TypeId × Value → H} {W : World} {base fuel : Nat} {spare : Nat → Bool} {held : Bool} {c : Value} {x : DataW H × List MemPlace} (h : DataW.trod enc Tryz.prog W base spare held fuel 49 [c] = some x) (hs : ∀ b, spare b = true) (hw : ∀ k ∈ x.1.weights Tryz.prog 49, k ≤ reachBytes) : ∃ a n m b l, c = .slice a n m ∧ ByA W b a n m l ∧ n ≤ 140737488355328 := by
  rcases open_ints Tryz.underlying49 Tryz.underlying5 (by kernel_rfl) h with ⟨hc1, _⟩ | ⟨x, l, c1, zs, hc1, _, hl, hm, hz, rfl, hcell, hwz⟩
  · exact ⟨none, 0, 0, 0, [], List.cons.inj hc1 |>.1, ⟨0, rfl, Nat.le_refl _, ⟨by decide, fun _ => rfl⟩, fun x hx => by simp at hx, .inl rfl, fun i hi => by simp at hi⟩, by decide⟩
  · have hrow : IsRowB W (some x) l c1 zs := .inr ⟨_, rfl, hl, hm, by simpa [hs] using hz, hcell, hwz⟩
    obtain ⟨b, o, ls, h1, h2, h3, h4, h5⟩ := hrow.open
    refine ⟨some x, l, c1, b, ls, List.cons.inj hc1 |>.1, ⟨o, h1, h2, ⟨by unfold maxLen at hm; omega, fun e => by cases e⟩, h4, h5⟩, ?_⟩
    have e := hw ((l + (c1 - l)) * 1) (by
      simp only [DataW.weights, Tryz.underlying49]
      refine List.mem_cons.2 (.inl ?_)
      have e8 : Tryz.prog.bytesOf 5 = 1 := by kernel_rfl
      have hz' : zs.length = c1 := by simpa [hs] using hz
      simp only [lits, List.length_map, List.length_take, List.length_drop, e8, hz']
      rw [Nat.min_eq_left hl])
    unfold reachBytes at e
    omega
theorem five_list {α : Type} {l : List α} (h : l.length = 5) : ∃ a b c d e, l = [a, b, c, d, e] := by
  match l, h with
  | [a, b, c, d, e], _ => exact ⟨a, b, c, d, e, rfl⟩
end Go.Proofs.YthiddfachcpjeaaGreat
