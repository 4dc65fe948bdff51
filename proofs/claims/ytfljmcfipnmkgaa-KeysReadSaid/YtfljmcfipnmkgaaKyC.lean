/- Bytes in memory; bytes.Compare, bytes.Clone, gleanhelp.CopyBytes; slices.Clone, slices.Grow and slices.Concat over entries. -/
import Derived.Test.YtfljmcfipnmkgaaPgR
import Derived.Lib.BytesEntry
namespace Go.Proofs.Ytfljmcfipnmkgaa
namespace Pg
open Go.RowKit Go.Lib

abbrev Oct (l : List Int) : Prop := ∀ x ∈ l, 0 ≤ x ∧ x < 256
/-- the slice v holds the bytes l -/
structure By (w : World) (v : Value) (l : List Int) : Prop where
  ex : ∃ ao c, v = .slice ao l.length c ∧ l.length ≤ c ∧ c ≤ 9223372036854775807 ∧ (ao = none → c = 0) ∧ Oct l ∧ (l = [] ∨ ∃ b o, ao = some ⟨b, o, none⟩ ∧ b < w.heap.size ∧ ∀ i x, l[i]? = some x → w.cell? ⟨b, o + i, none⟩ = some (.int .u8 x))
theorem By.keep {w w' : World} {v : Value} {l : List Int} (h : By w v l) (hb : Below w.heap.size w w') : By w' v l := by
  obtain ⟨ao, c, h1, h2, h3, h4, h5, h6⟩ := h.ex
  refine ⟨ao, c, h1, h2, h3, h4, h5, h6.imp id ?_⟩
  rintro ⟨b, o, e, hlt, hc⟩
  exact ⟨b, o, e, Nat.lt_of_lt_of_le hlt hb.size, fun i x hi => by rw [hb.cell (p := ⟨b, o + i, none⟩) hlt]; exact hc i x hi⟩
theorem By.drew {w : World} {v : Value} {l : List Int} (h : By w v l) : By w.drew v l := h.keep ⟨rfl, rfl, rfl, Nat.le_refl _, fun _ _ => rfl⟩
theorem By.oct {w : World} {v : Value} {l : List Int} (h : By w v l) : Oct l := by
  obtain ⟨ao, c, h1, h2, h3, h4, h5, h6⟩ := h.ex; exact h5
theorem By.nil (w : World) : By w (.slice none 0 0) [] := ⟨none, 0, rfl, by decide, by decide, fun _ => rfl, fun _ h => by simp at h, .inl rfl⟩
/-- v holds the bytes l in a block of its own, which is one of D -/
structure OB (w : World) (D : Nat → Prop) (v : Value) (l : List Int) : Prop where
  oct : Oct l
  ex : (v = .slice none 0 0 ∧ l = []) ∨ ∃ b c, v = .slice (some ⟨b, 0, none⟩) l.length c ∧ D b ∧ Rw w 5 1 b l.length c (l.map (Value.int .u8))
theorem OB.by {w : World} {D : Nat → Prop} {v : Value} {l : List Int} (h : OB w D v l) : By w v l := by
  rcases h.ex with ⟨rfl, rfl⟩ | ⟨b, c, rfl, hd, hR⟩
  · exact By.nil w
  · have hl := hR.le
    simp only [maxLen] at hl
    exact ⟨_, c, rfl, by omega, by omega, (fun e => by cases e), h.oct, .inr ⟨b, 0, rfl, hR.lt, fun i x hi => by rw [Nat.zero_add]; exact hR.cell (by simp [hi])⟩⟩
theorem OB.mono {w : World} {D D' : Nat → Prop} {v : Value} {l : List Int} (h : OB w D v l) (hD : ∀ b, b < w.heap.size → D b → D' b) : OB w D' v l := by
  refine ⟨h.oct, h.ex.imp id ?_⟩
  rintro ⟨b, c, e, hd, hR⟩
  exact ⟨b, c, e, hD b hR.lt hd, hR⟩
theorem OB.same {w w' : World} {D : Nat → Prop} {v : Value} {l : List Int} (h : OB w D v l) (hD : ∀ b, b < w.heap.size → D b → w'.heap[b]? = w.heap[b]?) : OB w' D v l := by
  refine ⟨h.oct, h.ex.imp id ?_⟩
  rintro ⟨b, c, e, hd, hR⟩
  exact ⟨b, c, e, hd, hR.same (hD b hR.lt hd)⟩
theorem OB.keep {w w' : World} {D : Nat → Prop} {v : Value} {l : List Int} (h : OB w D v l) (hb : Below w.heap.size w w') : OB w' D v l := h.same fun b hb' _ => hb.block b hb'
theorem OB.one {w : World} {D : Nat → Prop} {v : Value} {l : List Int} (h : OB w D v l) : v.oneCell' = true := by
  rcases h.ex with ⟨rfl, rfl⟩ | ⟨b, c, rfl, hd, hR⟩ <;> rfl

/-- the order of bytes -/
def cmpB : List Int → List Int → Int
  | [], [] => 0
  | [], _ :: _ => -1
  | _ :: _, [] => 1
  | x :: a, y :: b => if x < y then -1 else if y < x then 1 else cmpB a b
theorem u8_lt {x y : Int} (hx : 0 ≤ x ∧ x < 256) (hy : 0 ≤ y ∧ y < 256) : (UInt8.ofNat x.toNat < UInt8.ofNat y.toNat) ↔ x < y := by
  rw [UInt8.lt_iff_toNat_lt, UInt8.toNat_ofNat_of_lt' (by show x.toNat < 256; omega), UInt8.toNat_ofNat_of_lt' (by show y.toNat < 256; omega)]
  omega
theorem compare_cmpB : ∀ (l l' : List Int), Oct l → Oct l' → compareBytes (bytesOf l) (bytesOf l') = cmpB l l'
  | [], [], _, _ => rfl
  | [], _ :: _, _, _ => rfl
  | _ :: _, [], _, _ => rfl
  | x :: a, y :: b, h, h' => by
    have ih := compare_cmpB a b (fun z hz => h z (List.mem_cons_of_mem _ hz)) (fun z hz => h' z (List.mem_cons_of_mem _ hz))
    have hx := h x List.mem_cons_self
    have hy := h' y List.mem_cons_self
    show (if UInt8.ofNat x.toNat < UInt8.ofNat y.toNat then _ else if UInt8.ofNat y.toNat < UInt8.ofNat x.toNat then _ else compareBytes (bytesOf a) (bytesOf b)) = _
    rw [cmpB]
    simp only [u8_lt hx hy, u8_lt hy hx, ih]
theorem run_bytesOf {P : Program} {w : World} {v : Value} {l : List Int} (h : By w v l) : (Extern.Bytes.bytesOf v).run P w = .ok ⟨(bytesOf l).toArray⟩ w := by
  obtain ⟨ao, c, rfl, h2, h3, h4, h5, h6⟩ := h.ex
  cases ao with
  | none =>
    have : l = [] := List.eq_nil_of_length_eq_zero (by have := h4 rfl; omega)
    subst this
    rfl
  | some a =>
    rcases h6 with rfl | ⟨b, o, e, hlt, hc⟩
    · rfl
    · cases e
      have := run_loadBytesX (P := P) w l ⟨b, o, none⟩ .empty (fun j x hj => by rw [Addr.add_lit]; exact hc j x hj)
      show (Extern.Bytes.loadBytes ⟨b, o, none⟩ l.length .empty).run P w = _
      rw [this]
      congr 1
      apply ByteArray.ext
      simp
theorem KB : Kd Try.prog 26 5 1 1 (.int .u8 0) := ⟨by kernel_rfl, by kernel_rfl, rfl, by simp [Value.cells, Value.oneCell'], by decide⟩
theorem blk_cell {w : World} {a : Addr} {v : Value} (h : w.cell? a = some v) (o : Obj) : (w.alloc o).cell? a = some v := by
  have hlt : a.block < w.heap.size := by
    unfold World.cell? at h
    cases hh : w.heap[a.block]? with
    | none => simp [hh] at h
    | some ob => exact lt_of_block hh
  rw [(below_alloc w o).cell hlt]; exact h
theorem map_u8 (l : List Int) : ∀ v ∈ l.map (Value.int .u8), v.oneCell' = true := by
  intro v hv
  obtain ⟨x, _, rfl⟩ := List.mem_map.1 hv
  rfl
set_option maxHeartbeats 1000000 in
set_option maxRecDepth 100000 in
/-- bytes.Clone -/
theorem clone_any {w : World} {v : Value} {l : List Int} (h : By w v l) (hbig : l.length ≤ 1000000000) :
    Calls Try.prog 39 #[v] w fun e w' => ∃ v', e = .returned v' ∧ OB w' (w.heap.size ≤ ·) v' l ∧ Below w.heap.size w w' := by
  have ho := h.oct
  obtain ⟨ao, c, rfl, h2, h3, h4, h5, h6⟩ := h.ex
  cases ao with
  | none =>
    have hl : l = [] := List.eq_nil_of_length_eq_zero (by have := h4 rfl; omega)
    subst hl
    have hnil := fun (w : World) (a : Option Addr) (n c : Nat) => Go.Lib.run_eql_slice_nil (P := Try.prog) w 26 _ a n c 0 0 KB.und
    go_enter Try.func39, Try.ntmps39
    go_wp2
    go_ret
    exact ⟨_, rfl, ⟨ho, .inl ⟨rfl, rfl⟩⟩, Below.refl _ _⟩
  | some a =>
    have R0 : Rw (w.alloc (.cells #[] 5)) 5 1 w.heap.size 0 0 [] := blk_rw (blk_new w [] _) rfl (by decide)
    have hc0 : ∀ j u, (l.map (Value.int .u8))[j]? = some u → (w.alloc (.cells #[] 5)).cell? (a.add j) = some u := fun j u hj => by
      rcases h6 with rfl | ⟨b, o, e, hlt, hc⟩
      · simp at hj
      · cases e
        rw [List.getElem?_map] at hj
        obtain ⟨x, hx, rfl⟩ := Option.map_eq_some_iff.1 hj
        exact blk_cell (by rw [Addr.add_lit]; exact hc j x hx) _
    obtain ⟨b', c', W, hr, hb', hR, hC⟩ := app_row KB 26 R0 a l.length c (l.map (Value.int .u8)) (by simp) hc0 (map_u8 l) (by omega) (by omega)
    rw [Nat.zero_add] at hr hR
    have hB : Below w.heap.size w W := (below_alloc w (.cells #[] 5)).trans (hC.below (fun b hb => by omega) (below_alloc w _).size)
    have hb2 : w.heap.size ≤ b' := by rcases hb' with e | e; omega; rw [World.size_alloc] at e; omega
    have hF : OB W (w.heap.size ≤ ·) (.slice (some ⟨b', 0, none⟩) l.length c') l := ⟨ho, .inr ⟨b', c', rfl, hb2, hR.to (by simp)⟩⟩
    clear R0 hc0 h6 h hR hC h5 hb'
    have hnil := fun (w : World) (a : Option Addr) (n c : Nat) => Go.Lib.run_eql_slice_nil (P := Try.prog) w 26 _ a n c 0 0 KB.und
    go_enter Try.func39, Try.ntmps39
    go_wp2_with (at_builtin; refine Lib.wpList_append_run _ rfl _ _ _ _ rfl _ _ rfl rfl _ _ hr ?_)
    go_ret
    exact ⟨_, rfl, hF, hB⟩
set_option maxHeartbeats 1000000 in
set_option maxRecDepth 100000 in
/-- gleanhelp.CopyBytes -/
theorem copyBytes_any {w : World} {v : Value} {l : List Int} (h : By w v l) (hbig : l.length ≤ 1000000000) :
    Calls Try.prog 12 #[v] w fun e w' => ∃ v', e = .returned v' ∧ OB w' (w.heap.size ≤ ·) v' l ∧ Below w.heap.size w w' := by
  have ho := h.oct
  obtain ⟨ao, c, rfl, h2, h3, h4, h5, h6⟩ := h.ex
  by_cases hl : l = []
  · subst hl
    have hr : (Builtin.append_ #[26, 26] 26 #[.slice none 0 0, .slice ao 0 c]).run Try.prog w = .ok (.slice none 0 0) w := by
      obtain ⟨i, hi, hz, hs, hb⟩ := info_parts KB.inf
      have : (Builtin.firstCells i.size 0 (.slice ao 0 c)).run Try.prog w = .ok #[] w := by
        cases ao with
        | none => rfl
        | some a => exact run_firstCells_some w i.size 0 a 0 c [] (by simp) (fun j v hj => by simp at hj)
      simp [Builtin.append_, run_underlying KB.und, sizeOf, typeInfo, hi, Builtin.lenOf, this]
    clear h6 h
    go_enter Try.func12, Try.ntmps12
    go_wp2_with (at_builtin; refine Lib.wpList_append_run _ rfl _ _ _ _ rfl _ _ rfl rfl _ _ hr ?_)
    go_ret
    exact ⟨_, rfl, ⟨ho, .inl ⟨rfl, rfl⟩⟩, Below.refl _ _⟩
  · obtain ⟨b, o, rfl, hlt, hc⟩ := h6.resolve_left hl
    obtain ⟨c', W, hr, hR, hB⟩ := app_nil (w := w) KB 26 ⟨b, o, none⟩ l.length c (l.map (Value.int .u8)) (by simp) (fun j u hj => by
        rw [List.getElem?_map] at hj
        obtain ⟨x, hx, rfl⟩ := Option.map_eq_some_iff.1 hj
        rw [Addr.add_lit]; exact hc j x hx) (List.length_pos_iff.2 hl) (by omega) (by omega)
    have hF : OB W (w.heap.size ≤ ·) (.slice (some ⟨w.heap.size, 0, none⟩) l.length c') l := ⟨ho, .inr ⟨_, c', rfl, Nat.le_refl _, hR⟩⟩
    clear h6 h hR h5 hc
    go_enter Try.func12, Try.ntmps12
    go_wp2_with (at_builtin; refine Lib.wpList_append_run _ rfl _ _ _ _ rfl _ _ rfl rfl _ _ hr ?_)
    go_ret
    exact ⟨_, rfl, hF, hB⟩
end Pg
end Go.Proofs.Ytfljmcfipnmkgaa
