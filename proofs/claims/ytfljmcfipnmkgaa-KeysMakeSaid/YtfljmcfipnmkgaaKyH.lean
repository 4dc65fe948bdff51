/- Bytes of a number, the highest first: keys.appendNumber, gleanref4.Put. -/
import Derived.Test.YtfljmcfipnmkgaaKyG
import Derived.Laws.Bits64
namespace Go.Proofs.Ytfljmcfipnmkgaa
namespace Ky
open Go.RowKit Go.Lib Pg
attribute [local go_sem] Oper.semAt_some
/-- n bytes of x, the highest first -/
def be : Nat → Int → List Int
  | 0, _ => []
  | n + 1, x => x / 256 ^ n % 256 :: be n x
theorem be_length : ∀ (n : Nat) (x : Int), (be n x).length = n
  | 0, _ => rfl
  | n + 1, x => by rw [be, List.length_cons, be_length n x]
theorem be_oct : ∀ (n : Nat) (x : Int), Oct (be n x)
  | 0, _ => fun _ h => by simp [be] at h
  | n + 1, x => fun y h => by
    rw [be, List.mem_cons] at h
    rcases h with rfl | h
    · exact ⟨Int.emod_nonneg _ (by decide), Int.emod_lt_of_pos _ (by decide)⟩
    · exact be_oct n x y h
theorem be_take : ∀ (n j : Nat) (x : Int), j < n → (be n x).take (j + 1) = (be n x).take j ++ [x / 256 ^ (n - 1 - j) % 256]
  | 0, j, x, h => by omega
  | n + 1, 0, x, h => by simp [be]
  | n + 1, j + 1, x, h => by
    have ih := be_take n j x (by omega)
    rw [be, List.take_succ_cons, List.take_succ_cons, ih, List.cons_append]
    have e : n + 1 - 1 - (j + 1) = n - 1 - j := by omega
    rw [e]
/-- one more byte, which lies at p -/
theorem app_at {w : World} {B p : Nat} {v : Value} {l : List Int} {x : Int} (h : OB w (B ≤ ·) v l) (hB : B ≤ w.heap.size) (hl : l.length ≤ 1000000000) (hx : 0 ≤ x ∧ x < 256) (hp : w.cell? ⟨p, 0, none⟩ = some (.int .u8 x)) :
    ∃ v' w', (Builtin.append_ #[26, 26] 26 #[v, .slice (some ⟨p, 0, none⟩) 1 1]).run Try.prog w = .ok v' w' ∧ OB w' (B ≤ ·) v' (l ++ [x]) ∧ Below B w w' := by
  have ho : Oct (l ++ [x]) := fun y hy => by
    rcases List.mem_append.1 hy with hy | hy
    · exact h.oct y hy
    · simp at hy; subst hy; exact hx
  have hnews : ∀ j u, [Value.int .u8 x][j]? = some u → w.cell? ((⟨p, 0, none⟩ : Addr).add j) = some u := fun j u hj => by
    match j with
    | 0 => simp at hj; subst hj; exact hp
    | j + 1 => simp at hj
  rcases h.ex with ⟨rfl, rfl⟩ | ⟨b, c, rfl, hl2, hR⟩
  · obtain ⟨c', w', hr, hR, hw⟩ := app_nil (w := w) KB 26 ⟨p, 0, none⟩ 1 1 [.int .u8 x] rfl hnews (by decide) (by decide) (by decide)
    exact ⟨_, w', hr, ⟨ho, .inr ⟨_, c', rfl, hB, hR⟩⟩, hw.mono hB⟩
  · obtain ⟨b', c', w', hr, hb', hR', hw⟩ := app_row (w := w) KB 26 hR ⟨p, 0, none⟩ 1 1 [.int .u8 x] rfl hnews (by simp [Value.oneCell']) (by omega) (by omega)
    refine ⟨_, w', hr, ⟨ho, .inr ⟨b', c', by simp, ?_, by rw [List.map_append, List.length_append]; exact hR'⟩⟩, hw.below (fun x e => by have e' : x = b := e; omega) hB⟩
    rcases hb' with rfl | rfl
    · exact hl2
    · exact hB
theorem app_byte {w : World} {B : Nat} {v : Value} {l : List Int} {x : Int} (h : OB w (B ≤ ·) v l) (hB : B ≤ w.heap.size) (hl : l.length ≤ 1000000000) (hx : 0 ≤ x ∧ x < 256) :
    ∃ v' w', (Builtin.append_ #[26, 26] 26 #[v, .slice (some ⟨w.heap.size, 0, none⟩) 1 1]).run Try.prog (w.alloc (.cells #[.int .u8 x] 5)) = .ok v' w' ∧ OB w' (B ≤ ·) v' (l ++ [x]) ∧ Below B w w' := by
  have hb := below_alloc w (.cells #[.int .u8 x] 5)
  have hk := blk_new w [.int .u8 x] 5
  have ho : Oct (l ++ [x]) := fun y hy => by
    rcases List.mem_append.1 hy with hy | hy
    · exact h.oct y hy
    · simp at hy; subst hy; exact hx
  have hnews : ∀ j u, [Value.int .u8 x][j]? = some u → (w.alloc (.cells #[.int .u8 x] 5)).cell? ((⟨w.heap.size, 0, none⟩ : Addr).add j) = some u := fun j u hj => by
    match j with
    | 0 => exact hk.cell (i := 0) hj
    | j + 1 => simp at hj
  rcases h.ex with ⟨rfl, rfl⟩ | ⟨b, c, rfl, hl2, hR⟩
  · obtain ⟨c', w', hr, hR, hw⟩ := app_nil (w := w.alloc (.cells #[.int .u8 x] 5)) KB 26 ⟨w.heap.size, 0, none⟩ 1 1 [.int .u8 x] rfl hnews (by decide) (by decide) (by decide)
    exact ⟨_, w', hr, ⟨ho, .inr ⟨_, c', rfl, Nat.le_trans hB hb.size, hR⟩⟩, (hb.mono hB).trans (hw.mono (Nat.le_trans hB hb.size))⟩
  · obtain ⟨b', c', w', hr, hb', hR', hw⟩ := app_row (w := w.alloc (.cells #[.int .u8 x] 5)) KB 26 (hR.keep hb) ⟨w.heap.size, 0, none⟩ 1 1 [.int .u8 x] rfl hnews (by simp [Value.oneCell']) (by omega) (by omega)
    refine ⟨_, w', hr, ⟨ho, .inr ⟨b', c', by simp, ?_, by rw [List.map_append, List.length_append]; exact hR'⟩⟩, (hb.mono hB).trans (hw.below (fun x e => by have e' : x = b := e; omega) (Nat.le_trans hB hb.size))⟩
    rcases hb' with rfl | rfl
    · exact hl2
    · exact Nat.le_trans hB hb.size
theorem pow8 (h : Nat) : (256 : Int) ^ h = 2 ^ (8 * h) := by rw [Int.pow_mul]; rfl
theorem OB.sh {w : World} {D : Nat → Prop} {v : Value} {l : List Int} (h : OB w D v l) : ∃ ao c, v = .slice ao l.length c := by
  rcases h.ex with ⟨rfl, rfl⟩ | ⟨b, c, rfl, _⟩
  · exact ⟨none, 0, rfl⟩
  · exact ⟨_, c, rfl⟩
set_option maxHeartbeats 2000000 in
set_option maxRecDepth 100000 in
theorem put_any {w : World} {B n : Nat} {x : Int} {v : Value} {L : List Int} (hM : OB w (B ≤ ·) v L) (hB : B ≤ w.heap.size) (hn : n ≤ 8) (hL : L.length ≤ 100000) :
    Calls Try.prog 29 #[v, .int .i64 n, .int .u64 x] w fun e w' => ∃ v', e = .returned v' ∧ OB w' (B ≤ ·) v' (L ++ be n x) ∧ Below B w w' := by
  have HM := hid2 hM
  have HBS := hid2 hB
  have hn' : (n : Int) ≤ 8 := by omega
  clear hM hB
  go_enter Try.func29, Try.ntmps29
  go_wp2_with fail
  go_loopw [0, 7] (fun tv ti wr => ∃ j : Nat, j ≤ n ∧ ti = .int .i64 ((n : Int) - 1 - j) ∧ Hid (OB wr (B ≤ ·) tv (L ++ (be n x).take j)) ∧ Hid (Below B w wr)) (fun _ ti _ => (intOf ti + 1).toNat)
  case atStart => exact ⟨0, Nat.zero_le _, by simp, by rw [List.take_zero, List.append_nil]; exact HM, Below.refl _ _⟩
  case round =>
    obtain ⟨j, hj, rfl, HMj, HBj⟩ := hrel
    by_cases hlt : j < n
    · obtain ⟨h, hh⟩ : ∃ h : Nat, (n : Int) - 1 - j = h := ⟨n - 1 - j, by omega⟩
      have hh' : n - 1 - j = h := by omega
      have hh8 : h < 8 := by omega
      have HD : Hid ((be n x).take (j + 1) = (be n x).take j ++ [x / 2 ^ (8 * h) % 256]) := by
        show _ = _
        rw [be_take n j x hlt, hh', pow8]
      have hle : (L ++ (be n x).take j).length ≤ 1000000000 := by rw [List.length_append, List.length_take, be_length]; omega
      obtain ⟨v1, w1, hr, hO, hS⟩ := app_byte (x := x / 2 ^ (8 * h) % 256) HMj.out (Nat.le_trans HBS.out HBj.out.size) hle ⟨Int.emod_nonneg _ (by decide), Int.emod_lt_of_pos _ (by decide)⟩
      obtain ⟨az, cz, rfl⟩ := OB.sh HMj.out
      obtain ⟨a1, c1, rfl⟩ := OB.sh hO
      generalize hM : L ++ (be n x).take j = M at *
      generalize hq : M.length = q at *
      have HO := hid2 hO
      have HS := hid2 hS
      have HR := hid2 hr
      have HME := hid2 hM
      rw [hh]
      clear hO hS hr hle hM hq hh'
      have hr := HR.out
      go_wp2_with (at_builtin; refine Lib.wpList_append_run _ rfl _ _ _ _ rfl _ _ rfl rfl _ _ hr ?_; clear hr)
      go_roundw
      case rel =>
        refine ⟨j + 1, by omega, by go_num, ?_, HBj.out.trans HS.out⟩
        rw [HD.out, ← List.append_assoc, HME.out]
        have h9 := HO.out
        rw [show (M ++ [x / 2 ^ (8 * h) % 256]).length = M.length + 1 by simp] at h9
        exact h9
      case measure => simp [intOf]
    · obtain rfl : j = n := by omega
      rw [List.take_of_length_le (by rw [be_length]; omega)] at HMj
      have ej : (j : Int) - 1 - j = -1 := by omega
      rw [ej]
      clear ej
      go_wp2
      go_ret
      exact ⟨_, rfl, HMj.out, HBj.out⟩
set_option maxHeartbeats 2000000 in
set_option maxRecDepth 100000 in
theorem appendNumber_any {w : World} {B : Nat} {x : Int} {v : Value} {L : List Int} (hM : OB w (B ≤ ·) v L) (hB : B ≤ w.heap.size) (hL : L.length ≤ 100000) :
    Calls Try.prog 27 #[v, .int .u64 x] w fun e w' => ∃ v', e = .returned v' ∧ OB w' (B ≤ ·) v' (L ++ be 8 x) ∧ Below B w w' := by
  have HM := hid2 hM
  have HBS := hid2 hB
  clear hM hB
  go_enter Try.func27, Try.ntmps27
  go_wp2_with fail
  go_loopw [0, 6] (fun tv ti wr => ∃ j : Nat, j ≤ 8 ∧ ti = .int .i64 j ∧ Hid (OB wr (B ≤ ·) tv (L ++ (be 8 x).take j)) ∧ Hid (Below B w wr)) (fun _ ti _ => 8 - (intOf ti).toNat)
  case atStart => exact ⟨0, Nat.zero_le _, rfl, by rw [List.take_zero, List.append_nil]; exact HM, Below.refl _ _⟩
  case round =>
    obtain ⟨j, hj, rfl, HMj, HBj⟩ := hrel
    by_cases hlt : j < 8
    · obtain ⟨h, hh⟩ : ∃ h : Nat, (7 : Int) - j = h := ⟨7 - j, by omega⟩
      have hh' : 8 - 1 - j = h := by omega
      have hh8 : h < 8 := by omega
      have HD : Hid ((be 8 x).take (j + 1) = (be 8 x).take j ++ [x / 2 ^ (8 * h) % 256]) := by
        show _ = _
        rw [be_take 8 j x hlt, hh', pow8]
      have hle : (L ++ (be 8 x).take j).length ≤ 1000000000 := by rw [List.length_append, List.length_take, be_length]; omega
      obtain ⟨v1, w1, hr, hO, hS⟩ := app_byte (x := x / 2 ^ (8 * h) % 256) HMj.out (Nat.le_trans HBS.out HBj.out.size) hle ⟨Int.emod_nonneg _ (by decide), Int.emod_lt_of_pos _ (by decide)⟩
      obtain ⟨az, cz, rfl⟩ := OB.sh HMj.out
      obtain ⟨a1, c1, rfl⟩ := OB.sh hO
      generalize hM : L ++ (be 8 x).take j = M at *
      generalize hq : M.length = q at *
      have HO := hid2 hO
      have HS := hid2 hS
      have HR := hid2 hr
      have HME := hid2 hM
      clear hO hS hr hle hM hq hh'
      have hr := HR.out
      go_wp2_with (at_builtin; refine Lib.wpList_append_run _ rfl _ _ _ _ rfl _ _ rfl rfl _ _ hr ?_; clear hr)
      go_roundw
      case rel =>
        refine ⟨j + 1, by omega, by go_num, ?_, HBj.out.trans HS.out⟩
        rw [HD.out, ← List.append_assoc, HME.out]
        have h9 := HO.out
        rw [show (M ++ [x / 2 ^ (8 * h) % 256]).length = M.length + 1 by simp] at h9
        exact h9
      case measure => simp [intOf]; omega
    · obtain rfl : j = 8 := by omega
      rw [List.take_of_length_le (by rw [be_length]; omega)] at HMj
      go_wp2
      go_ret
      exact ⟨_, rfl, HMj.out, HBj.out⟩
theorem not64 (n : Nat) (h : n < 2 ^ 64) : (2 ^ 64 - 1) ^^^ n = 2 ^ 64 - (n + 1) := by
  apply Nat.eq_of_testBit_eq
  intro i
  rw [Nat.testBit_xor, Nat.testBit_two_pow_sub_one, Nat.testBit_two_pow_sub_succ h]
  by_cases hi : i < 64
  · simp [hi]
  · have : n.testBit i = false := Nat.testBit_lt_two_pow (Nat.lt_of_lt_of_le h (Nat.pow_le_pow_right (by decide) (by omega)))
    simp [hi, this]
theorem not64i {a : Int} (h0 : 0 ≤ a) (h1 : a < 18446744073709551616) : bits .xor .u64 IntKind.u64.max a = 18446744073709551615 - a := by
  obtain ⟨n, rfl⟩ := Int.eq_ofNat_of_zero_le h0
  have e : IntKind.u64.max = ((18446744073709551615 : Nat) : Int) := by kernel_rfl
  rw [e, bits_xor_u64_nat _ _ (by omega) (by omega)]
  have := not64 n (by omega)
  rw [show (18446744073709551615 : Nat) = 2 ^ 64 - 1 by decide, this]
  omega
set_option maxHeartbeats 1000000 in
theorem turned_any {w : World} {k a : Int} (h0 : 0 ≤ a) (h1 : a < 18446744073709551616) : Calls Try.prog 33 #[.int .i64 k, .int .u64 a] w fun e w' => e = .returned (.int .u64 (if k = 10 then 18446744073709551615 - a else a)) ∧ w' = w := by
  by_cases h : k = 10
  · subst h
    rw [if_pos rfl]
    go_enter Try.func33, Try.ntmps33
    go_wp2
    go_ret
    refine ⟨?_, rfl⟩
    show Ending.returned (.int .u64 (bits .xor .u64 IntKind.u64.max a)) = _
    rw [not64i h0 h1]
  · rw [if_neg h]
    go_enter Try.func33, Try.ntmps33
    go_wp2
    go_ret
    exact ⟨rfl, rfl⟩
set_option maxHeartbeats 1000000 in
theorem usesA_any {w : World} {n x y : Int} : Calls Try.prog 32 #[.agg #[.int .i64 n, .int .u8 x, .int .u8 y]] w fun e w' => e = .returned (.bool (decide (8 < n))) ∧ Below w.heap.size w w' := by
  go_enter Try.func32, Try.ntmps32
  go_wp2
  go_ret
  exact ⟨rfl, below_alloc _ _⟩
set_option maxHeartbeats 1000000 in
theorem usesB_any {w : World} {n x y : Int} : Calls Try.prog 35 #[.agg #[.int .i64 n, .int .u8 x, .int .u8 y]] w fun e w' => e = .returned (.bool (decide (16 < n))) ∧ Below w.heap.size w w' := by
  go_enter Try.func35, Try.ntmps35
  go_wp2
  go_ret
  exact ⟨rfl, below_alloc _ _⟩
end Ky
end Go.Proofs.Ytfljmcfipnmkgaa
