/- Several texts, joined: RefB2, EncL. -/
import Derived.Test.YtgfglfpckjkcdaaJaa
import Derived.Test.YtgfglfpckjkcdaaJda
namespace Go.Proofs.Ytgfglfpckjkcdaa
open Go.RowKit Lim

theorem MineB.shape {w : World} {B : Nat} {v : Value} {l : List Int} (h : MineB w B v l) : ∃ ao c, v = .slice ao l.length c := by
  rcases h.2 with ⟨rfl, h0⟩ | ⟨g, cap, cur, rfl, _⟩
  · exact ⟨none, 0, by rw [h0]⟩
  · exact ⟨_, _, rfl⟩
theorem MineB.atB {w : World} {B : Nat} {v : Value} {l : List Int} (h : MineB w B v l) : ∃ ao c b o, v = .slice ao l.length c ∧ l.length ≤ c ∧ AtB w ao b o l := by
  obtain ⟨_, h2⟩ := h
  rcases h2 with ⟨rfl, h0⟩ | ⟨g, cap, cur, rfl, hB, hh, hle, hmx, hsz, htk⟩
  · have e : l = [] := List.eq_nil_of_length_eq_zero h0
    subst e
    exact ⟨none, 0, 0, 0, rfl, Nat.le_refl _, .inl rfl, fun i hi => by simp at hi⟩
  · refine ⟨some ⟨g, 0, none⟩, cap, g, 0, rfl, hle, .inr rfl, fun i hi => ?_⟩
    have e : cur.toList[i]? = some (.int .u8 (nth l i)) := by
      have h1 : (cur.toList.take (l.length * 1))[i]? = some (.int .u8 (nth l i)) := by
        rw [htk, List.getElem?_map, List.getElem?_eq_getElem hi, nth_eq hi]; rfl
      rwa [Nat.mul_one, List.getElem?_take_of_lt hi] at h1
    simp only [World.cell?, hh]
    simpa using e
theorem minB_mono {w : World} {B B' : Nat} {v : Value} {l : List Int} (h : MineB w B v l) (hB : B' ≤ B) : MineB w B' v l := by
  obtain ⟨h1, h2⟩ := h
  refine ⟨h1, ?_⟩
  rcases h2 with h2 | ⟨g, cap, cur, rfl, hB1, hr⟩
  · exact .inl h2
  · exact .inr ⟨g, cap, cur, rfl, by omega, hr⟩
theorem bval_snoc (l : List Int) (c : Int) : bval (l ++ [c]) = 256 * bval l + c := by
  induction l with
  | nil => simp [bval]
  | cons x l ih => simp only [List.cons_append, bval, ih, List.length_append, List.length_singleton, Int.pow_succ]; grind
theorem IsB.snoc {l : List Int} {V c : Int} (h : IsB l V) (h0 : 0 ≤ c) (h1 : c < 256) (hne : l ≠ [] ∨ c ≠ 0) : IsB (l ++ [c]) (256 * V + c) := by
  refine ⟨fun x hx => ?_, fun _ => ?_, by rw [bval_snoc, h.2.2]⟩
  · rcases List.mem_append.1 hx with e | e
    · exact h.1 x e
    · simp at e; subst e; exact ⟨h0, h1⟩
  · cases l with
    | nil =>
      rcases hne with e | e
      · exact absurd rfl e
      · rw [List.nil_append, nth_zero]; exact e
    | cons y l => rw [List.cons_append, nth_zero]; have := h.2.1 (by simp); rwa [nth_zero] at this
theorem IsB.zero {l : List Int} {V : Int} (h : IsB l V) (hl : l = []) : IsB l (256 * V + 0) := by
  subst hl
  have := h.2.2
  simp [bval] at this
  subst this
  exact ⟨h.1, h.2.1, rfl⟩
theorem v32_drop {l : List Int} {i : Nat} (h : i < l.length) : v32 (l.drop i) = nth l i + 4294967296 * v32 (l.drop (i + 1)) := by
  rw [List.drop_eq_getElem_cons h, v32, nth_eq h]
theorem byte_step (V x : Int) (j : Nat) (hj : j < 4) : 256 * (V * 256 ^ j + x / 2 ^ (32 - 8 * j)) + x / 2 ^ (24 - 8 * j) % 256 = V * 256 ^ (j + 1) + x / 2 ^ (32 - 8 * (j + 1)) := by
  have e : x / 2 ^ (32 - 8 * j) = x / 2 ^ (24 - 8 * j) / 256 := by
    rw [Int.ediv_ediv_of_nonneg (Int.le_of_lt (Int.pow_pos (by decide))), show (256 : Int) = 2 ^ 8 from rfl, ← Int.pow_add, show 24 - 8 * j + 8 = 32 - 8 * j from by omega]
  rw [e, show 32 - 8 * (j + 1) = 24 - 8 * j from by omega, Int.pow_succ]
  generalize x / 2 ^ (24 - 8 * j) = y
  have : V * (256 ^ j * 256) = 256 * (V * 256 ^ j) := by grind
  omega

end Go.Proofs.Ytgfglfpckjkcdaa

namespace Go.Proofs.Ytgfglfpckjkcdaa
open Go.RowKit Lim

/-- only lists of bytes above B are changed -/
structure Byt (B : Nat) (w w' : World) : Prop where
  os : w'.os = w.os
  tape : w'.tape = w.tape
  output : w'.output = w.output
  size : w.heap.size ≤ w'.heap.size
  low : ∀ k : Nat, k < B → k < w.heap.size → w'.heap[k]? = w.heap[k]?
  typ : ∀ (k : Nat) (c : Array Value) (t : TypeId) (f : Nat × Nat), w.heap[k]? = some (Obj.cells c t f) → t ≠ 5 → w'.heap[k]? = w.heap[k]?
theorem Byt.of {B : Nat} {w w' : World} (h : Below w.heap.size w w') : Byt B w w' := ⟨h.os, h.tape, h.output, h.size, fun k _ hk => h.block k hk, fun k _ _ _ hc _ => h.block k (lt_of_block hc)⟩
theorem Byt.trans {B : Nat} {w w1 w2 : World} (h : Byt B w w1) (h' : Byt B w1 w2) : Byt B w w2 := ⟨h'.os.trans h.os, h'.tape.trans h.tape, h'.output.trans h.output, Nat.le_trans h.size h'.size,
  fun k hk hs => (h'.low k hk (Nat.lt_of_lt_of_le hs h.size)).trans (h.low k hk hs), fun k c t f hc ht => (h'.typ k c t f (by rw [h.typ k c t f hc ht]; exact hc) ht).trans (h.typ k c t f hc ht)⟩
theorem Byt.grown {B n : Nat} {w w' : World} {v : Value} {xs : List Value} (ho : w.ownsRow B 5 1 v n xs) (h : w.grownBy w' v.ownBlock) : Byt B w w' := by
  refine ⟨h.os, h.tape, h.output, h.size, fun k hk hs => h.block k hs fun e => ?_, fun k c t f hc ht => h.block k (lt_of_block hc) fun e => ?_⟩
  · have := (ho.lt k e.symm).1
    omega
  · rcases ho.2 with ⟨rfl, _⟩ | ⟨g, cap, cur, rfl, _, hh, _⟩
    · cases e
    · simp [Value.ownBlock] at e
      subst e
      rw [hh] at hc
      cases hc
      exact ht rfl
theorem Byt.below {B A : Nat} {w0 w w' : World} (h : Byt B w w') (b : Below A w0 w) (hA : A ≤ B) (hs : A ≤ w0.heap.size) : Below A w0 w' :=
  ⟨h.os.trans b.os, h.tape.trans b.tape, h.output.trans b.output, Nat.le_trans b.size h.size, fun k hk => (h.low k (by omega) (Nat.lt_of_lt_of_le (Nat.lt_of_lt_of_le hk hs) b.size)).trans (b.block k hk)⟩
theorem Pc.byt {B : Nat} {w w' : World} {p : Option Addr} {ps : List Int} (h : Pc w p ps) (b : Byt B w w') : Pc w' p ps := by
  induction h using Pc.ind with
  | nil => exact .nil
  | cons hb hl _ ih => exact .cons ⟨by rw [b.typ _ _ _ _ hb.blk (by decide)]; exact hb.blk⟩ hl ih
theorem WrO.byt {B : Nat} {w w' : World} {g : Nat} {o : Option (List Int)} {N : Nat} (h : WrO w g o N) (b : Byt B w w') : WrO w' g o N := by
  obtain ⟨e, L, X, h1⟩ := h.ex
  obtain ⟨p, ps, lat, u, X', P, hu, hL⟩ := X.ex
  exact ⟨e, L, ⟨p, ps, lat, u, ⟨X'.len, by rw [b.typ _ _ _ _ X'.blk (by decide)]; exact X'.blk⟩, P.byt b, hu, hL⟩, h1⟩
theorem RdA.byt {B : Nat} {w w' : World} {g bb : Nat} {err : Int} {L : List Int} (h : RdA w g bb err L) (hb : L = [] ∨ bb < B) (b : Byt B w w') : RdA w' g bb err L := by
  obtain ⟨ao, n, c, X, A⟩ := h.ex
  obtain ⟨o, h1, h2, h3, h4, h5⟩ := A.ex
  refine ⟨ao, n, c, ⟨by rw [b.typ _ _ _ _ X.blk (by decide)]; exact X.blk⟩, o, h1, h2, h3, h4, h5.loc, fun i hi => ?_⟩
  have hc := h5.cell i hi
  rcases hb with e | e
  · subst e; simp at hi
  · rw [World.cell?_of_block (w := w) (b.low bb e (cell_lt hc))]
    exact hc
/-- bytes that may be written over -/
structure ByR (w : World) (g n : Nat) : Prop where
  ex : ∃ cur, w.heap[g]? = some (.cells cur 5 (0, 0)) ∧ n ≤ cur.size ∧ ∀ i, i < n → ∃ x, cur[i]? = some (.int .u8 x)
theorem MineB.byr {w : World} {B : Nat} {v : Value} {l : List Int} (h : MineB w B v l) : v = .slice none 0 0 ∧ l = [] ∨ ∃ g c, v = .slice (some ⟨g, 0, none⟩) l.length c ∧ B ≤ g ∧ g < w.heap.size ∧ ByR w g l.length := by
  obtain ⟨_, h2⟩ := h
  rcases h2 with ⟨rfl, h0⟩ | ⟨g, cap, cur, rfl, hB, hh, hle, hmx, hsz, htk⟩
  · exact .inl ⟨rfl, List.eq_nil_of_length_eq_zero h0⟩
  · refine .inr ⟨g, cap, rfl, hB, lt_of_block hh, cur, hh, by omega, fun i hi => ⟨nth l i, ?_⟩⟩
    have h3 : (cur.toList.take (l.length * 1))[i]? = some (.int .u8 (nth l i)) := by
      rw [htk, List.getElem?_map, List.getElem?_eq_getElem hi, nth_eq hi]
      rfl
    rw [List.getElem?_take] at h3
    split at h3
    · rw [← Array.getElem?_toList]
      exact h3
    · cases h3
theorem Box.byr {w : World} {g : Nat} {l : List Int} (h : Box w g (l.map (Value.int .u8)) 5) : ByR w g l.length := ⟨_, h.blk, by simp, fun i hi => ⟨nth l i, by simp [hi, nth_eq hi]⟩⟩
theorem ByR.cell {w : World} {g n i : Nat} (h : ByR w g n) (hi : i < n) : ∃ x, w.cell? ⟨g, i, none⟩ = some (.int .u8 x) ∧ w.frozen? ⟨g, i, none⟩ = false := by
  obtain ⟨cur, h1, h2, h3⟩ := h.ex
  obtain ⟨x, hx⟩ := h3 i hi
  exact ⟨x, by simp [World.cell?, h1, hx], by simp [World.frozen?, h1]⟩
theorem ByR.set {w : World} {g n i : Nat} (h : ByR w g n) (y : Int) : ByR (w.setCell ⟨g, i, none⟩ (.int .u8 y)) g n := by
  obtain ⟨cur, h1, h2, h3⟩ := h.ex
  refine ⟨cur.setIfInBounds i (.int .u8 y), ?_, by simpa using h2, fun j hj => ?_⟩
  · simp only [World.setCell, Array.getElem?_modify, if_true, h1]
    simp
  · by_cases e : i = j
    · subst e
      exact ⟨y, by rw [Array.getElem?_setIfInBounds]; simp; omega⟩
    · obtain ⟨x, hx⟩ := h3 j hj
      exact ⟨x, by rw [Array.getElem?_setIfInBounds, if_neg e]; exact hx⟩
theorem be_mod (m : Nat) {x : Int} (hx : 0 ≤ x) : be m (x % 256 ^ m) = be m x := by
  have h0 : (0 : Int) < 256 ^ m := Int.pow_pos (by decide)
  refine bval_inj (be_oct _ _) (be_oct _ _) (by rw [be_length, be_length]) ?_
  rw [be_val m hx, be_val m (Int.emod_nonneg _ (by omega)), Int.emod_emod]
set_option maxHeartbeats 2000000 in
set_option maxRecDepth 100000 in
theorem put_any {w : World} {B n : Nat} {x : Int} {v : Value} {L : List Int} (hM : MineB w B v L) (hB : B ≤ w.heap.size) (hn : n ≤ 8) (hL : L.length ≤ 1099511627776) :
    Calls Try.prog 19 #[v, .int .i64 n, .int .u64 x] w fun e w' => ∃ v', e = .returned v' ∧ MineB w' B v' (L ++ be n x) ∧ Byt B w w' := by
  obtain ⟨i0, hi, hz0, hz1, hz2⟩ := info_parts info_u8
  have HI : Hid (Try.prog.info? 5 = some i0 ∧ i0.zero = some (.int .u8 0) ∧ i0.size = 1 ∧ i0.bytes = 1) := ⟨hi, hz0, hz1, hz2⟩
  have HM := (show Hid _ from hM)
  have HBS := (show Hid _ from hB)
  have hn' : (n : Int) ≤ 8 := by omega
  clear hi hz0 hz1 hz2 hM hB
  go_enter Try.func19, Try.ntmps19
  go_wp2_with fail
  go_loopw [0, 7] (fun tv ti wr => ∃ j : Nat, j ≤ n ∧ ti = .int .i64 ((n : Int) - 1 - j) ∧ MineB wr B tv (L ++ (be n x).take j) ∧ Byt B w wr) (fun _ ti _ => (intOf ti + 1).toNat)
  case atStart => exact ⟨0, Nat.zero_le _, by simp, by rw [List.take_zero, List.append_nil]; exact HM.out, Byt.of (Below.refl _ _)⟩
  case round =>
    obtain ⟨j, hj, rfl, hMj, hBj⟩ := hrel
    by_cases hlt : j < n
    · obtain ⟨h, hh⟩ : ∃ h : Nat, (n : Int) - 1 - j = h := ⟨n - 1 - j, by omega⟩
      have hh' : n - 1 - j = h := by omega
      have hh8 : h < 8 := by omega
      have HD : Hid ((be n x).take (j + 1) = (be n x).take j ++ [x / 2 ^ (8 * h) % 256]) := by
        have e1 : (256 : Int) ^ h = 2 ^ (8 * h) := by rw [Int.pow_mul]; rfl
        show _ = _
        rw [take_succ_nth (by rw [be_length]; exact hlt), be_nth n x j hlt, hh', e1]
      obtain ⟨M, hMd⟩ : ∃ M, M = L ++ (be n x).take j := ⟨_, rfl⟩
      rw [← hMd] at hMj
      obtain ⟨q, hq⟩ : ∃ q, M.length = q := ⟨_, rfl⟩
      have hqL : q ≤ 1099511627776 + 8 := by
        have : M.length = L.length + ((be n x).take j).length := by rw [hMd, List.length_append]
        rw [List.length_take, be_length] at this
        omega
      have HMD := (show Hid _ from hMd)
      have HQ := (show Hid _ from hq)
      obtain ⟨az, cz, rfl⟩ := hMj.shape
      have hal := below_alloc wr (.cells #[.int .u8 (x / 2 ^ (8 * h) % 256)] 5)
      have hown : (wr.alloc (.cells #[.int .u8 (x / 2 ^ (8 * h) % 256)] 5)).ownsRow B 5 1 (.slice az M.length cz) M.length (M.map (Value.int .u8)) := mineB_keep hMj hal
      rw [hq] at hown ⊢
      have HBJ := (show Hid _ from hBj.trans (Byt.of hal))
      have HSZ : Hid (B ≤ (wr.alloc (.cells #[.int .u8 (x / 2 ^ (8 * h) % 256)] 5)).heap.size) := Nat.le_trans HBS.out (Nat.le_trans hBj.size hal.size)
      have hsrc : ∀ q u, [Value.int .u8 (x / 2 ^ (8 * h) % 256)][q]? = some u → (wr.alloc (.cells #[.int .u8 (x / 2 ^ (8 * h) % 256)] 5)).cell? ((⟨wr.heap.size, 0, none⟩ : Addr).add q) = some u := fun q u hu => by
        match q, hu with
        | 0, hu =>
          cases hu
          have hb := (box_new wr [Value.int .u8 (x / 2 ^ (8 * h) % 256)] 5).blk
          simp only [World.cell?, Addr.add, if_true, hb]
          rfl
        | q + 1, hu => simp at hu
      clear hMj hBj hal hh' hq hMd
      rw [hh]
      go_wp2_with (at_builtin; refine wpList_append_own _ rfl _ _ 32 rfl B 5 i0 (.int .u8 0) 1 1 under_bytes HI.out.1 HI.out.2.1 HI.out.2.2.1 HI.out.2.2.2 rfl (by decide) _ _ _ rfl hown ⟨wr.heap.size, 0, none⟩ 1 1 [Value.int .u8 (x / 2 ^ (8 * h) % 256)] rfl rfl ?c1 ?c2 ?c3 ?c4 ?c5 ?_)
      case c1 => exact hsrc
      case c2 => intro u hu; rw [List.mem_singleton] at hu; subst hu; rfl
      case c3 => unfold maxLen; omega
      case c4 => omega
      case c5 => exact HSZ.out
      intro v' w2 hown' hgrow _
      have HBY := (show Hid _ from HBJ.out.trans (Byt.grown hown hgrow))
      have HM2 : Hid (MineB w2 B v' (L ++ (be n x).take (j + 1))) := by
        show w2.ownsRow _ _ _ _ _ _
        have e : (L ++ (be n x).take (j + 1)) = M ++ [x / 2 ^ (8 * h) % 256] := by rw [HD.out, HMD.out, List.append_assoc]
        rw [e, List.length_append, HQ.out, List.map_append]
        exact hown'
      clear hown hown' hgrow hsrc
      go_wp2
      exact ⟨⟨j + 1, by omega, by go_num, HM2.out, HBY.out⟩, by simp [intOf]⟩
    · obtain rfl : j = n := by omega
      have HM2 : Hid (MineB wr B u0 (L ++ be j x)) := by
        have := hMj
        rw [List.take_of_length_le (by rw [be_length]; exact Nat.le_refl _)] at this
        exact this
      have HBY := (show Hid _ from hBj)
      have e1 : (j : Int) - 1 - j = -1 := by omega
      rw [e1]
      clear hMj hBj
      go_wp2
      go_ret
      exact ⟨_, rfl, HM2.out, HBY.out⟩
end Go.Proofs.Ytgfglfpckjkcdaa
