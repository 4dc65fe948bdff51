/- dec.places writes 36 decimal places. -/
import Derived.Test.YtpbiflfdfiebcabGreatDoorPairs
import Derived.Test.YtpbiflfdfiebcabGreatDoorFrac
import Derived.Deep.RegionLaw
import Derived.Deep.RegionHeld3
import Derived.Test.YtpbiflfdfiebcabGreatDoorKnown
import Derived.Laws.CopyOwn
namespace Go.Proofs.YtpbiflfdfiebcabGreatDoor
open Go.RowKit Lim

set_option maxHeartbeats 1000000 in
set_option maxRecDepth 100000 in
theorem nSmall {w : World} {ao : Option Addr} {n c : Nat} {x : Int} (h : NatO w ao n c x) (hn : n ≤ 1099511627776) (hx : x < 18446744073709551616) :
    Calls Tryz.prog 143 #[.slice ao n c] w fun e w' => e = .returned (.tuple #[.int .u64 x, .bool true]) ∧ Below w.heap.size w w' := by
  obtain ⟨b, o, l, h1, h2, h3, h4⟩ := h.ex
  have hnl : nlen l = n := h3.2.1.trans h1
  have hn1 : n ≤ 1 := by
    rcases Nat.lt_or_ge 1 n with e | e
    · have h5 := val_ge_of_nlen h3.1 (by omega)
      have h6 := pow_mono (show 1 ≤ nlen l - 1 by omega)
      rw [h3.2.2] at h5
      have h7 : (18446744073709551616 : Int) ^ 1 = 18446744073709551616 := by decide
      omega
    · exact e
  have t := trim_any ao n c l w h1 h2 (by omega) h4.cells
  rw [hnl] at t
  have hv := h3.2.2
  rcases (show n = 0 ∨ n = 1 by omega) with e | e
  · subst e
    obtain rfl : l = [] := List.eq_nil_of_length_eq_zero h1
    have hx0 : x = 0 := by rw [← hv]; rfl
    subst hx0
    clear hv hnl
    go_enter Tryz.func143, Tryz.ntmps143
    go_wp2_with fail
    refine t.mono ?_
    rintro e w' ⟨rfl, rfl⟩
    go_wp2
    go_ret2
    exact ⟨rfl, Below.refl _ _⟩
  · subst e
    obtain ⟨y, rfl⟩ : ∃ y, l = [y] := by
      match l, h1 with
      | [y], _ => exact ⟨y, rfl⟩
    have hy : y = x := by rw [← hv]; simp [val]
    subst hy
    have hc := h4.cell 0 (by simp)
    obtain rfl : ao = some ⟨b, o, none⟩ := by
      rcases h4.loc with e | e
      · simp at e
      · exact e
    rw [nth_zero, Nat.add_zero] at hc
    clear hv hnl h4 h3
    go_enter Tryz.func143, Tryz.ntmps143
    go_wp2_with fail
    refine t.mono ?_
    rintro e w' ⟨rfl, rfl⟩
    go_wp2
    go_ret2
    exact ⟨rfl, Below.refl _ _⟩

theorem pair_at (i : Nat) (h : i < 100) : ∀ j v, [Value.int .u8 (48 + (i : Int) / 10), Value.int .u8 (48 + (i : Int) % 10)][j]? = some v → ∀ (w : World) (gp : Nat), RowT w gp 141 (pairL 100) → w.cell? ((⟨gp, i * 2, none⟩ : Addr).add j) = some v := by
  intro j v hj w gp R
  have hl := pairL_length 100
  obtain ⟨p0, p1⟩ := pairL_nth h
  match j, hj with
  | 0, hj =>
    simp at hj; subst hj
    have := R.cell (i := 2 * i) (by omega)
    rw [p0] at this
    rw [← this]
    exact congrArg w.cell? (by simp [Addr.add, Nat.mul_comm])
  | 1, hj =>
    simp at hj; subst hj
    have := R.cell (i := 2 * i + 1) (by omega)
    rw [p1] at this
    rw [← this]
    exact congrArg w.cell? (by simp [Addr.add, Nat.mul_comm])
  | j + 2, hj => simp at hj
set_option maxRecDepth 100000 in
theorem slice36 (g E : Nat) (h : E ≤ 34) (W : World) : (Instr.sliceAt 139 (.pointer (some ⟨g, 0, none⟩)) (some (.int .i64 (E : Int))) none none).run Tryz.prog W = .ok (.slice (some ⟨g, E, none⟩) (36 - E) (36 - E)) W := by
  have hal : Tryz.prog.arrayLen 139 = 36 := by kernel_rfl
  have hel : Tryz.prog.elem 139 = 5 := by kernel_rfl
  have hu : Tryz.prog.underlying 139 = some (.array (Tryz.prog.arrayLen 139) (Tryz.prog.elem 139)) := by kernel_rfl
  have hs : (sizeOf 5).run Tryz.prog W = .ok 1 W := by kernel_rfl
  rw [run_sliceAt_array_l W 139 ⟨g, 0, none⟩ hu .i64 (E : Int) (by omega) (by rw [hal]; omega), hel, hs, hal]
  simp only [Result.andThen, slicedAt, Int.toNat_natCast, Nat.mul_one]
  rw [if_neg (by omega)]
  congr 3
  unfold Addr.add
  split <;> simp_all
set_option maxRecDepth 100000 in
theorem slice2 (g o : Nat) (W : World) : (Instr.sliceAt 140 (.pointer (some ⟨g, o, none⟩)) none none none).run Tryz.prog W = .ok (.slice (some ⟨g, o, none⟩) 2 2) W := by
  have hal : Tryz.prog.arrayLen 140 = 2 := by kernel_rfl
  have hel : Tryz.prog.elem 140 = 5 := by kernel_rfl
  have hu : Tryz.prog.underlying 140 = some (.array (Tryz.prog.arrayLen 140) (Tryz.prog.elem 140)) := by kernel_rfl
  have hs : (sizeOf 5).run Tryz.prog W = .ok 1 W := by kernel_rfl
  rw [run_sliceAt_array_all W 140 ⟨g, o, none⟩ hu, hel, hs, hal]
  simp [Result.andThen, slicedAt, Addr.add]
theorem info_b1 : (Tryz.prog.info? 5).map (·.size) = some 1 := by kernel_rfl
theorem write_step {l : List Int} {en k : Nat} {X : Nat} (hl : l.length = 36) (he : en ≤ 36) (hk : 2 * k + 2 ≤ en) :
    splice ((l.take (en - 2 * k) ++ digL (2 * k) X ++ l.drop en).map (Value.int .u8)) (en - 2 * k - 2) [Value.int .u8 (48 + (((X / 100 ^ k % 100 : Nat) : Nat) : Int) / 10), Value.int .u8 (48 + (((X / 100 ^ k % 100 : Nat) : Nat) : Int) % 10)]
      = (l.take (en - 2 * (k + 1)) ++ digL (2 * (k + 1)) X ++ l.drop en).map (Value.int .u8) := by
  have hX : (0 : Int) ≤ (X : Int) := by omega
  have e1 : digL (2 * (k + 1)) (X : Int) = [48 + (((X / 100 ^ k % 100 : Nat) : Nat) : Int) / 10, 48 + (((X / 100 ^ k % 100 : Nat) : Nat) : Int) % 10] ++ digL (2 * k) X := by
    rw [show 2 * (k + 1) = 2 + 2 * k by omega, digL_split 2 (2 * k) _ hX]
    congr 1
    rw [show (2 : Nat) = 0 + 2 from rfl, digL_two]
    have e2 : (X : Int) / 10 ^ (2 * k) = ((X / 100 ^ k : Nat) : Int) := by
      rw [Int.natCast_ediv]
      congr 1
      rw [Int.pow_mul]
      simp
    rw [e2]
    simp [digL]
  rw [e1]
  have hA : (l.take (en - 2 * k)).length = en - 2 * k := by simp; omega
  unfold splice
  simp only [List.map_append, List.append_assoc, List.map_cons, List.length_cons, List.length_nil, List.cons_append, List.nil_append]
  rw [List.take_append_of_le_length (by simp; omega), List.drop_append, List.drop_of_length_le (by simp; omega)]
  rw [← List.map_take, List.take_take, Nat.min_eq_left (by omega), show en - 2 * k - 2 = en - 2 * (k + 1) by omega]
  rw [List.length_map, hA, show en - 2 * (k + 1) + (0 + 1 + 1) - (en - 2 * k) = 0 by omega]
  simp
theorem step_copy_row {P : Program} {ops : Array Oper} {o : Oper} {a : Act} {w : World} {K : Act → World → Prop} {Q : Exit → Act → World → Prop} {E : Prop} (hgd : o.guard = none) (d s : Operand) (dT sT : TypeId)
    (ho : o.op = .call { callee := .builtin .copy, args := #[d, s], argTypes := #[dT, sT] }) (elem : TypeId) (hu : P.underlying dT = some (.slice elem)) (hsz : (P.info? elem).map (·.size) = some 1)
    (g off dLen dCap : Nat) (ad : Addr) (sLen sCap : Nat) (hd : a.eval d = .slice (some ⟨g, off, none⟩) dLen dCap) (hs : a.eval s = .slice (some ad) sLen sCap)
    (cur : List Value) (t : TypeId) (hg : w.heap[g]? = some (.cells cur.toArray t (0, 0))) (cs : List Value) (hn : cs.length = Nat.min sLen dLen)
    (hsrc : ∀ j v, cs[j]? = some v → w.cell? (ad.add j) = some v) (hfit : off + cs.length ≤ cur.length) (h1 : ∀ v ∈ cs, v.oneCell' = true)
    (h : ∀ w', Hid (w'.heap[g]? = some (.cells (splice cur off cs).toArray t (0, 0))) → Hid (∀ b, b ≠ g → w'.heap[b]? = w.heap[b]?) → Hid (∀ B w0, B ≤ g → Below B w0 w → Below B w0 w') → K (a.put o.dst (goInt cs.length)) w') :
    if Region.wanted o (yielded ops a.tmps) = true then Oper.wp P o a w K Q else E := by
  have hw : Region.wanted o (yielded ops a.tmps) = true := by simp [Region.wanted, hgd]
  rw [if_pos hw]
  have hrun := run_copy_row (P := P) w dT sT o.type elem g off dLen dCap ad sLen sCap cur.toArray t cs hu hsz hg hn hsrc (by simpa using hfit) h1
  unfold Oper.wp
  simp [execOp, ho, resolve, invoke, builtin, hd, hs, hrun, Result.andThen]
  exact h _ (show _ = _ by simpa [splice] using setRow_heap w g _ _ t _ hg) (fun b hb => setRow_other w g b _ hb) (fun B w0 h1 h2 => below_setRow h2 h1 _)

set_option maxHeartbeats 2000000 in
set_option maxRecDepth 100000 in
theorem dWrite {w : World} {ao : Option Addr} {n c gt gp : Nat} {X : Nat} {l : List Int} (en : Nat) (h : NatO w ao n c (X : Int)) (hn : n ≤ 1099511627776) (hx : X < 1000000000000000000) (T : RowT w gt 139 l) (hl : l.length = 36) (hen : 18 ≤ en) (hen2 : en ≤ 36) (Tb : RowT w gp 141 (pairL 100)) (hne : gt ≠ gp) :
    Calls Tryz.prog 142 #[.int .i64 en, .slice ao n c, .pointer (some ⟨gt, 0, none⟩), .pointer (some ⟨gp, 0, none⟩)] w fun e w' => e = .returned (.tuple #[]) ∧ RowT w' gt 139 (l.take (en - 18) ++ digL 18 X ++ l.drop en) ∧ (∀ B w0, B ≤ gt → Below B w0 w → Below B w0 w') ∧ (∀ b, b < w.heap.size → b ≠ gt → w'.heap[b]? = w.heap[b]?) := by
  go_enter Tryz.func142, Tryz.ntmps142
  go_wp2_with fail
  refine (nSmall h hn (by omega)).mono ?_
  rintro e w1 ⟨rfl, hB⟩
  have hlt := T.lt
  have T := T.keep hB
  have Tb := Tb.keep hB
  have HK : Hid (∀ b, b < w.heap.size → b ≠ gt → w1.heap[b]? = w.heap[b]?) := fun b hb _ => hB.block b hb
  have HBB : Hid (∀ B w0, B ≤ gt → Below B w0 w → Below B w0 w1) := fun B w0 h1 h2 => h2.trans (hB.mono (by omega))
  clear h hB
  go_wp2
  go_loopw [0, 6, 13] (fun te tx tk wr => ∃ k : Nat, k ≤ 9 ∧ tk = .int .i64 k ∧ te = .int .i64 ((en - 2 * k : Nat) : Int) ∧ tx = .int .u64 ((X / 100 ^ k : Nat) : Int) ∧ RowT wr gt 139 (l.take (en - 2 * k) ++ digL (2 * k) X ++ l.drop en) ∧ RowT wr gp 141 (pairL 100) ∧ (∀ B w0, B ≤ gt → Below B w0 w → Below B w0 wr) ∧ (∀ b, b < w.heap.size → b ≠ gt → wr.heap[b]? = w.heap[b]?)) (fun _ _ tk _ => 9 - (intOf tk).toNat)
  case atStart => exact ⟨0, by omega, rfl, rfl, by simp, by simpa [digL] using T, Tb, HBB.out, HK.out⟩
  case round =>
    clear T Tb HK HBB
    obtain ⟨k, hk, rfl, rfl, rfl, T, Tb, HBB, HK⟩ := hrel
    by_cases hlt9 : k < 9
    · have hs := write_step (X := X) hl hen2 (show 2 * k + 2 ≤ en by omega)
      have HS := (show Hid _ from hs)
      have hlen : (l.take (en - 2 * k) ++ digL (2 * k) X ++ l.drop en).length = 36 := by simp [digL_length]; omega
      have HBB := (show Hid _ from HBB)
      have HK := (show Hid _ from HK)
      have hdiv : X / 100 ^ k / 100 = X / 100 ^ (k + 1) := by rw [Nat.div_div_eq_div_mul, Nat.pow_succ]
      have HD := (show Hid _ from hdiv)
      have hYb : X / 100 ^ k < 1000000000000000000 := Nat.lt_of_le_of_lt (Nat.div_le_self _ _) hx
      clear hs hdiv
      generalize X / 100 ^ k = Y at *
      have hi : Y % 100 < 100 := Nat.mod_lt _ (by decide)
      have htm : (Y : Int).tmod 100 = ((Y % 100 : Nat) : Int) := by rw [Int.tmod_eq_emod_of_nonneg (by omega)]; omega
      generalize Y % 100 = i at *
      have hi0 : (i : Int) < 100 := by omega
      have hpa := fun j v (hj : [Value.int .u8 (48 + (i : Int) / 10), Value.int .u8 (48 + (i : Int) % 10)][j]? = some v) => pair_at i hi j v hj
      have HPA := (show Hid _ from hpa)
      clear hpa
      obtain ⟨E, hE⟩ : ∃ E, en - 2 * k = E + 2 := ⟨en - 2 * k - 2, by omega⟩
      have hE36 : E + 2 ≤ 36 := by omega
      have HE := (show Hid _ from hE)
      rw [hE]
      clear hE
      have hs36 := slice36 gt E (by omega)
      have hs2 := slice2 gp (i * 2)
      go_wp2_with fail
      go_region_law (refine step_copy_row rfl (.tmp 18) (.tmp 22) 109 109 rfl 5 under_bytes info_b1 gt E (36 - E) (36 - E) ⟨gp, i * 2, none⟩ 2 2 (by rfl) (by rfl) _ 139 T.drew.blk [Value.int .u8 (48 + (i : Int) / 10), Value.int .u8 (48 + (i : Int) % 10)] (by show 2 = Nat.min 2 (36 - E); exact (Nat.min_eq_left (by omega)).symm) (fun j v hj => HPA.out j v hj _ gp Tb.drew) (by rw [List.length_map, hlen]; show E + 2 ≤ 36; omega) (by simp [Value.oneCell']) ?_; intro w4 hg4 ho4 hb4)
      have T4 : RowT w4 gt 139 (l.take (en - 2 * (k + 1)) ++ digL (2 * (k + 1)) X ++ l.drop en) := ⟨by
        rw [← HS.out, show en - 2 * k - 2 = E by have := HE.out; omega]; exact hg4.out⟩
      have Tb4 : RowT w4 gp 141 (pairL 100) := ⟨by rw [ho4.out gp (fun e => hne e.symm)]; exact Tb.blk⟩
      have HT4 := (show Hid _ from T4)
      have HTb4 := (show Hid _ from Tb4)
      have htd : (Y : Int).tdiv 100 = ((Y / 100 : Nat) : Int) := by rw [Int.tdiv_eq_ediv_of_nonneg (by omega)]; omega
      have hY2b : Y / 100 < 1000000000000000000 := Nat.lt_of_le_of_lt (Nat.div_le_self _ _) hYb
      generalize hY2 : Y / 100 = Y2 at *
      have HY2 := (show Hid _ from hY2)
      clear hY2 T4 Tb4 T Tb hg4
      go_wp2
      go_roundw
      case rel => exact ⟨k + 1, by omega, by go_num, by rw [show en - 2 * (k + 1) = E by have := HE.out; omega], by rw [← HD.out], HT4.out, HTb4.out, fun B w0 h1 h2 => hb4.out B w0 h1 (HBB.out B w0 h1 h2).drew, fun b h1 h2 => (ho4.out b h2).trans (HK.out b h1 h2)⟩
      case measure => simp [intOf]; omega
    · have hk9 : k = 9 := by omega
      subst hk9
      have HBB := (show Hid _ from HBB)
      have HK := (show Hid _ from HK)
      go_wp2
      go_end0
      exact ⟨rfl, T, HBB.out, HK.out⟩

theorem NatO.over {w w' : World} {ao : Option Addr} {n c g : Nat} {x : Int} {t : TypeId} {l : List Int} (h : NatO w ao n c x) (T : RowT w g t l) (HK : ∀ b, b < w.heap.size → b ≠ g → w'.heap[b]? = w.heap[b]?) : NatO w' ao n c x := by
  obtain ⟨b, o, m, h1, h2, h3, h4⟩ := h.ex
  refine ⟨b, o, m, h1, h2, h3, h4.loc, fun i hi => ?_⟩
  have hc := h4.cell i hi
  have hb := cell_lt hc
  have hne : b ≠ g := by
    intro e
    subst e
    have hbk := T.blk
    simp only [World.cell?, hbk] at hc
    simp at hc
  rw [World.cell?_of_block (w := w) (HK b hb hne)]
  exact hc
theorem RowT.over {w w' : World} {g g' : Nat} {t : TypeId} {l : List Int} (h : RowT w g' t l) (hne : g' ≠ g) (HK : ∀ b, b < w.heap.size → b ≠ g → w'.heap[b]? = w.heap[b]?) : RowT w' g' t l := ⟨by rw [HK g' h.lt hne]; exact h.blk⟩
set_option maxRecDepth 100000 in
theorem slice36all (g : Nat) (W : World) : (Instr.sliceAt 139 (.pointer (some ⟨g, 0, none⟩)) none none none).run Tryz.prog W = .ok (.slice (some ⟨g, 0, none⟩) 36 36) W := by
  have hal : Tryz.prog.arrayLen 139 = 36 := by kernel_rfl
  have hel : Tryz.prog.elem 139 = 5 := by kernel_rfl
  have hu : Tryz.prog.underlying 139 = some (.array (Tryz.prog.arrayLen 139) (Tryz.prog.elem 139)) := by kernel_rfl
  have hs : (sizeOf 5).run Tryz.prog W = .ok 1 W := by kernel_rfl
  rw [run_sliceAt_array_all W 139 ⟨g, 0, none⟩ hu, hel, hs, hal]
  simp [Result.andThen, slicedAt, Addr.add]

theorem rowT_string {w : World} {g : Nat} {t : TypeId} {d : List Int} (R : RowT w g t d) (hl : d.length = 36) (hD : DigI d) : ∃ S : ByteArray, (convert 109 9 (.slice (some ⟨g, 0, none⟩) 36 36)).run Tryz.prog w = Result.ok (.string S) w ∧ S.data.toList.map (fun c => (c.toNat : Int)) = d := by
  have hload := run_loadCells_list (P := Tryz.prog) w ⟨g, 0, none⟩ (d.map (Value.int .u8)) (fun j u hu => by
    rw [List.getElem?_map] at hu
    have hj : j < d.length := by
      rcases Nat.lt_or_ge j d.length with hj | hj
      · exact hj
      · rw [List.getElem?_eq_none hj] at hu; simp at hu
    rw [List.getElem?_eq_getElem hj] at hu
    simp at hu
    subst hu
    have := R.cell hj
    rw [nth_eq hj] at this
    rw [← this]
    by_cases hj0 : j = 0
    · subst hj0; exact congrArg w.cell? (by simp [Addr.add])
    · exact congrArg w.cell? (by simp [Addr.add, hj0]))
  rw [List.length_map, hl] at hload
  have hconv := (run_convert_bytes_string (P := Tryz.prog) w 109 9 5 (some ⟨g, 0, none⟩) 36 36 under_bytes under_u8 under_string).trans (run_bytesToString w ⟨g, 0, none⟩ 36 36 d hload)
  refine ⟨_, hconv, ?_⟩
  rw [push_data d ByteArray.empty]
  simp only [show ByteArray.empty.data.toList = [] from rfl, List.nil_append, List.map_map]
  conv => rhs; rw [← List.map_id d]
  apply List.map_congr_left
  intro c hc
  have := hD c hc
  simp [Function.comp, UInt8.toNat_ofNat']
  omega

set_option maxHeartbeats 4000000 in
set_option maxRecDepth 100000 in
theorem dPlaces {w : World} {ao : Option Addr} {n c : Nat} {x : Int} (h : NatA w ao n c x) (hn : n ≤ 274877906944) (hx : x < U36) :
    Calls Tryz.prog 97 #[.agg #[.slice ao n c]] w fun e w' => ∃ S : ByteArray, e = .returned (.string S) ∧ S.data.toList.map (fun c => (c.toNat : Int)) = digL 36 x ∧ Below w.heap.size w w' := by
  have B0 := below2 w (.cells #[.slice ao n c] 34) (.cells ((List.replicate 36 (0 : Int)).map (Value.int .u8)).toArray 139)
  have R0 := rowT_new (w.alloc (.cells #[.slice ao n c] 34)) 139 (List.replicate 36 0)
  rw [show (w.alloc (.cells #[.slice ao n c] 34)).heap.size = w.heap.size + 1 by simp] at R0
  have P0 := (slot_new w (.slice ao n c) 34).alloc (.cells ((List.replicate 36 (0 : Int)).map (Value.int .u8)).toArray 139)
  have h := h.keep B0
  go_enter Tryz.func97, Tryz.ntmps97
  go_wp2_with fail
  change Calls _ _ _ ((w.alloc (.cells #[.slice ao n c] 34)).alloc (.cells ((List.replicate 36 (0 : Int)).map (Value.int .u8)).toArray 139)) _
  refine dPairs.mono ?_
  rintro e w1 ⟨rfl, hB⟩
  have R0 := R0.keep hB
  have P0 := P0.keep hB
  have h := h.keep hB
  have B0 := joinB B0 hB
  have hlt := R0.lt
  clear hB
  have hnew : (w1.alloc (.cells Tryz.zeroCells141 141)).heap[w1.heap.size]? = some (.cells Tryz.zeroCells141 141 (0, 0)) := heap_alloc_new w1 _
  have hz0 : Tryz.zeroCells141.size = 200 := by kernel_rfl
  have hsz : ((pairL 100).map (Value.int .u8)).toArray.size = 200 := by simp [pairL_length]
  have BA := below_alloc w1 (.cells Tryz.zeroCells141 141)
  have Tb : RowT ((w1.alloc (.cells Tryz.zeroCells141 141)).setRow w1.heap.size ((pairL 100).map (Value.int .u8)).toArray) w1.heap.size 141 (pairL 100) := ⟨setRow_heap _ _ _ _ _ _ hnew⟩
  have BS : Below w1.heap.size w1 ((w1.alloc (.cells Tryz.zeroCells141 141)).setRow w1.heap.size ((pairL 100).map (Value.int .u8)).toArray) := below_setRow BA (Nat.le_refl _) _
  have R0 := R0.keep BS
  have P0 := P0.keep BS
  have h := h.keep BS
  have B0 := joinB B0 BS
  have HN := (show Hid _ from hnew)
  have HZ := (show Hid _ from hz0)
  have HSZ := (show Hid _ from hsz)
  have HBS := (show Hid _ from BS.size)
  clear hnew hz0 hsz BA BS
  generalize hW2 : (w1.alloc (.cells Tryz.zeroCells141 141)).setRow w1.heap.size ((pairL 100).map (Value.int .u8)).toArray = w2 at *
  have HW2 := (show Hid _ from hW2)
  clear hW2
  go_wp2_with (refine wpList_store_row rfl 141 (.tmp 4) (.tmp 9) rfl w1.heap.size _ rfl rfl 141 _ HN.out (by rw [HSZ.out]; kernel_rfl) (by rw [HSZ.out, HZ.out]) (by simp [Value.oneCell']) ?_; rw [HW2.out])
  obtain ⟨X, hX⟩ : ∃ X : Nat, x = (X : Int) := ⟨x.toNat, by have := h.nonneg; omega⟩
  subst hX
  have hX36 : X < 1000000000000000000000000000000000000 := by have : U36 = 1000000000000000000000000000000000000 := by decide
                                                              omega
  have HXS := (show Hid _ from digL_split 18 18 (X : Int) (by omega))
  have q0 := P0.cell
  go_region_held3 (fun w' => w'.cell? ⟨w.heap.size, 0, none⟩ = some (.slice ao n c)) (first | exact (by assumption) | go_keep)
    (first
    | (go_at_call 124; refine (dTenTo 18 (by decide)).mono ?_; rintro e w3 ⟨a3, k3, d3, rfl, hO, hk3, hB⟩; have R0 := R0.drew.keep hB; have Tb := Tb.drew.keep hB; have P0 := P0.drew.keep hB; have q0 := P0.cell; have h := h.drew.keep hB; have B0 := joinB B0.drew hB; clear hB)
    | (go_at_call 81; refine (nDiv h hO.a (by omega) (by omega) (by decide)).mono ?_; rintro e w4 ⟨a4, k4, d4, a5, k5, d5, rfl, hO4, hO5, hk4, hk5, hB⟩; have R0 := R0.keep hB; have Tb := Tb.keep hB; have P0 := P0.keep hB; have q0 := P0.cell; have B0 := joinB B0 hB; clear hB h hO))
  all_goals (
    have hO4 := hO4.eqv (show (X : Int) / 10 ^ 18 = ((X / 1000000000000000000 : Nat) : Int) from by omega)
    have hO5 := hO5.eqv (show (X : Int) % 10 ^ 18 = ((X % 1000000000000000000 : Nat) : Int) from by omega)
    have hb1 : X / 1000000000000000000 < 1000000000000000000 := by omega
    have hb2 : X % 1000000000000000000 < 1000000000000000000 := by omega
    have HE1 : Hid ((X : Int) / 10 ^ 18 = ((X / 1000000000000000000 : Nat) : Int)) := by show _ = _; omega
    have HE2 : Hid (digL 18 (X : Int) = digL 18 ((X % 1000000000000000000 : Nat) : Int)) := by
      show _ = _
      apply dvI_inj (digL_dig (by omega)) (digL_dig (by omega)) (by simp [digL_length])
      rw [digL_val (by omega), digL_val (by omega)]
      omega
    generalize X / 1000000000000000000 = X1 at *
    generalize X % 1000000000000000000 = X2 at *
    have hgne : w.heap.size + 1 ≠ w1.heap.size := by omega
    have tW1 := dWrite 18 hO4 (by omega) hb1 R0 (by simp) (by decide) (by decide) Tb hgne
    go_wp2_with fail
    refine tW1.mono ?_
    rintro e w5 ⟨rfl, T5, HB5, HK5⟩
    have hO5 := hO5.over R0 HK5
    have Tb := Tb.over (fun e => hgne e.symm) HK5
    have B5 := HB5 w.heap.size w (by omega) B0
    clear tW1 R0 P0 q0 HB5 HK5 hO4 B0
    have tW2 := dWrite 36 hO5 (by omega) hb2 T5 (by simp [digL_length]) (by decide) (by decide) Tb hgne
    go_wp2_with fail
    refine tW2.mono ?_
    rintro e w6 ⟨rfl, T6, HB6, HK6⟩
    have B6 := HB6 w.heap.size w (by omega) B5
    clear tW2 hO5 Tb HB6 HK6 T5 B5)
  all_goals (
    have hL : (List.take (36 - 18) (List.take (18 - 18) (List.replicate 36 (0 : Int)) ++ digL 18 (X1 : Int) ++ List.drop 18 (List.replicate 36 0)) ++ digL 18 (X2 : Int) ++ List.drop 36 (List.take (18 - 18) (List.replicate 36 (0 : Int)) ++ digL 18 (X1 : Int) ++ List.drop 18 (List.replicate 36 0))) = digL 36 (X : Int) := by
      rw [HXS.out, HE1.out, HE2.out]
      have l1 : (digL 18 (X1 : Int)).length = 18 := digL_length _ _
      rw [List.take_append_of_le_length (by simp [l1]), List.drop_of_length_le (l := List.take (18 - 18) (List.replicate 36 (0 : Int)) ++ digL 18 (X1 : Int) ++ List.drop 18 (List.replicate 36 0)) (by simp [l1])]
      rw [show List.take (18 - 18) (List.replicate 36 (0 : Int)) = [] from rfl, List.nil_append, List.take_of_length_le (by omega), List.append_nil]
    rw [hL] at T6
    obtain ⟨S, hS1, hS2⟩ := rowT_string T6 (digL_length 36 _) (digL_dig (by omega))
    have hs36 := slice36all (w.heap.size + 1) w6
    clear hL T6
    go_wp2
    go_ret
    exact ⟨S, rfl, hS2, B6⟩)
end Go.Proofs.YtpbiflfdfiebcabGreatDoor
