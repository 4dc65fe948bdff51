/- keys: a number, a form in bytes; the kind of a form. -/
import Derived.Test.YtfljmcfipnmkgaaKyK
namespace Go.Proofs.Ytfljmcfipnmkgaa
namespace Ky
open Go.RowKit Go.Lib Pg
attribute [local go_sem] Oper.semAt_some eq50
/-- the number that bytes make, the highest first -/
def bv (l : List Int) : Int := l.foldl (fun n d => n * 256 + d) 0
theorem bv_snoc (l : List Int) (x : Int) : bv (l ++ [x]) = bv l * 256 + x := by simp [bv]
theorem bv_bound : ∀ (n : Nat) (l : List Int), Oct l → l.length = n → 0 ≤ bv l ∧ bv l < 256 ^ n
  | 0, l, _, h => by
    have : l = [] := List.eq_nil_of_length_eq_zero h
    subst this
    simp [bv]
  | n + 1, l, ho, h => by
    obtain ⟨l', x, rfl⟩ : ∃ l' x, l = l' ++ [x] := by
      have hne : l ≠ [] := fun e => by subst e; simp at h
      exact ⟨l.dropLast, l.getLast hne, (List.dropLast_concat_getLast hne).symm⟩
    rw [bv_snoc]
    have ih := bv_bound n l' (fun y hy => ho y (List.mem_append_left _ hy)) (by simpa using h)
    have hx := ho x (by simp)
    rw [Int.pow_succ]
    omega
theorem or64 (a b : Int) (h0 : 0 ≤ a) (h1 : a < 72057594037927936) (h2 : 0 ≤ b) (h3 : b < 256) : bits .or .u64 (IntKind.u64.wrap (a * 256)) b = a * 256 + b := by
  have e : IntKind.u64.wrap (a * 256) = a * 256 := by rw [IntKind.wrap_u64]; omega
  rw [e]
  exact bits_join .u64 64 (by decide) (fun n h0 h1 => by rw [IntKind.wrap_u64]; omega) 8 (a * 256) b (by omega) (by omega) (by omega) h2 (by omega) (by omega)
theorem By.cells {w : World} {ao : Option Addr} {n c : Nat} {l : List Int} (h : By w (.slice ao n c) l) {i : Nat} {x : Int} (hi : l[i]? = some x) : ∃ b o, ao = some ⟨b, o, none⟩ ∧ w.cell? ⟨b, o + i, none⟩ = some (.int .u8 x) := By.at h hi
set_option maxHeartbeats 4000000 in
set_option maxRecDepth 100000 in
theorem numberAt_any {w : World} {ao : Option Addr} {n c : Nat} {l : List Int} (h : By w (.slice ao n c) l) (hl : l.length = n) (hn : 8 ≤ n) (hc : n ≤ c) :
    Calls Try.prog 34 #[.slice ao n c] w fun e w' => e = .returned (.int .u64 (bv (l.take 8))) ∧ w' = w := by
  have HB := hid2 h
  have HL := hid2 hl
  have hc8 : (8 : Int) ≤ c := by omega
  have ho : Oct l := h.oct
  obtain ⟨x0, hx0⟩ : ∃ x, l[0]? = some x := ⟨l[0]'(by omega), List.getElem?_eq_getElem _⟩
  obtain ⟨b, o, rfl, _⟩ := By.at h hx0
  clear h hl hx0
  go_enter Try.func34, Try.ntmps34
  go_wp2_with fail
  go_loopw [3, 9] (fun tv ti wr => ∃ k : Nat, k ≤ 8 ∧ ti = .int .i64 k ∧ tv = .int .u64 (bv (l.take k)) ∧ wr = w) (fun _ ti _ => 8 - (intOf ti).toNat)
  case atStart => exact ⟨0, Nat.zero_le _, rfl, rfl, rfl⟩
  case round =>
    obtain ⟨k, hk, rfl, rfl, rfl⟩ := hrel
    by_cases hlt : k < 8
    · obtain ⟨x, hx⟩ : ∃ x, l[k]? = some x := ⟨l[k]'(by have := HL.out; omega), List.getElem?_eq_getElem _⟩
      obtain ⟨b', o', e, cx⟩ := By.at HB.out hx
      cases e
      have hxb := ho x (List.mem_of_getElem? hx)
      have HT : Hid (bv (l.take (k + 1)) = bv (l.take k) * 256 + x) := by
        show _ = _
        rw [List.take_add_one, hx]
        exact bv_snoc _ _
      have hb := bv_bound k (l.take k) (fun y hy => ho y (List.mem_of_mem_take hy)) (by rw [List.length_take]; have := HL.out; omega)
      have hb2 : bv (l.take k) < 72057594037927936 := by
        have h9 : (256 : Int) ^ k ≤ 256 ^ 7 := by
          have : (256 : Nat) ^ k ≤ 256 ^ 7 := Nat.pow_le_pow_right (by decide) (by omega)
          exact_mod_cast this
        have : (256 : Int) ^ 7 = 72057594037927936 := by decide
        omega
      have ho4 := or64 (bv (l.take k)) x hb.1 hb2 hxb.1 hxb.2
      generalize bv (l.take k) = V at *
      have hk0 : (k : Int) < 8 := by omega
      clear hb hb2 hx
      go_wp2
      go_roundw
      case rel =>
        refine ⟨k + 1, by omega, by go_num, ?_, trivial⟩
        rw [HT.out]
      case measure => simp [intOf]; omega
    · obtain rfl : k = 8 := by omega
      go_wp2
      go_ret
      exact ⟨rfl, rfl⟩
def fIn (l : List Int) : Int × Int × Int := ((l.length : Int), (l[0]?).getD 0, if 9 < l.length ∧ l.length % 8 = 2 then (l[9]?).getD 0 else 0)
set_option maxHeartbeats 4000000 in
set_option maxRecDepth 100000 in
theorem formIn_any {w : World} {ao : Option Addr} {n c : Nat} {l : List Int} (h : By w (.slice ao n c) l) (hl : l.length = n) (hbig : n ≤ 1000000000) :
    Calls Try.prog 30 #[.slice ao n c] w fun e w' => e = .returned (fv (fIn l)) ∧ Below w.heap.size w w' := by
  have HL := hid2 hl
  by_cases h0 : n = 0
  · have e0 : fIn l = (0, 0, 0) := by
      have : l = [] := List.eq_nil_of_length_eq_zero (by omega)
      subst this
      simp [fIn]
    rw [e0]
    subst h0
    clear h hl
    go_enter Try.func30, Try.ntmps30
    go_wp2
    refine bodyPost_ret (res_cell rfl rfl (ld_f ((blk_new w [.int .i64 0, .int .u8 0, .int .u8 0] 52).keep (below_alloc _ _)))) rfl ?_
    exact ⟨rfl, joinB (below_alloc _ _) (below_alloc _ _)⟩
  · obtain ⟨x0, hx0⟩ : ∃ x, l[0]? = some x := ⟨l[0]'(by omega), List.getElem?_eq_getElem _⟩
    obtain ⟨b, o, rfl, c0⟩ := By.at h hx0
    have hn0 : (0 : Int) < n := by omega
    have hbl := cell_lt c0
    rw [Nat.add_zero] at c0
    by_cases h9 : 9 < n ∧ n % 8 = 2
    · obtain ⟨x9, hx9⟩ : ∃ x, l[9]? = some x := ⟨l[9]'(by omega), List.getElem?_eq_getElem _⟩
      obtain ⟨b', o', e, c9⟩ := By.at h hx9
      cases e
      have e0 : fIn l = ((n : Int), x0, x9) := by rw [fIn, hl, if_pos h9, hx0, hx9]; rfl
      rw [e0]
      have hn9 : (9 : Int) < n := by omega
      have hr : Int.tmod (n : Int) 8 = 2 := by rw [Int.tmod_eq_emod_of_nonneg (by omega)]; omega
      clear h hl hx0 hx9 e0 h9
      go_enter Try.func30, Try.ntmps30
      go_wp2
      refine bodyPost_ret (res_cell rfl rfl (ld_f ((blk_new w [.int .i64 (n : Int), .int .u8 x0, .int .u8 x9] 52).keep (below_alloc _ _)))) rfl ?_
      exact ⟨rfl, joinB (below_alloc _ _) (below_alloc _ _)⟩
    · have e0 : fIn l = ((n : Int), x0, 0) := by rw [fIn, hl, if_neg h9, hx0]; rfl
      rw [e0]
      clear h hl hx0 e0
      by_cases h9' : 9 < n
      · have hn9 : (9 : Int) < n := by omega
        obtain ⟨r, hr⟩ : ∃ r, Int.tmod (n : Int) 8 = r := ⟨_, rfl⟩
        have hr2 : ¬ r = 2 := by rw [← hr, Int.tmod_eq_emod_of_nonneg (by omega)]; omega
        clear h9
        go_enter Try.func30, Try.ntmps30
        go_wp2
        refine bodyPost_ret (res_cell rfl rfl (ld_f ((blk_new w [.int .i64 (n : Int), .int .u8 x0, .int .u8 0] 52).keep (below_alloc _ _)))) rfl ?_
        exact ⟨rfl, joinB (below_alloc _ _) (below_alloc _ _)⟩
      · have hn9 : ¬ ((9 : Int) < n) := by omega
        clear h9
        go_enter Try.func30, Try.ntmps30
        go_wp2
        refine bodyPost_ret (res_cell rfl rfl (ld_f ((blk_new w [.int .i64 (n : Int), .int .u8 x0, .int .u8 0] 52).keep (below_alloc _ _)))) rfl ?_
        exact ⟨rfl, joinB (below_alloc _ _) (below_alloc _ _)⟩
end Ky
end Go.Proofs.Ytfljmcfipnmkgaa
