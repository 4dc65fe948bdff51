/- nat.split tells a number's digits to the base 10^19, the lowest first. -/
import Derived.Test.YtpbiflfdfiebcabGreatDoorGroups
namespace Go.Proofs.YtpbiflfdfiebcabGreatDoor
open Go.RowKit Lim

/-- what groups are worth, the lowest first -/
def gval : List Int → Int
  | [] => 0
  | x :: l => x + 10000000000000000000 * gval l
def GroupsOk (l : List Int) : Prop := ∀ x ∈ l, 0 ≤ x ∧ x < 10000000000000000000
theorem gval_append (a b : List Int) : gval (a ++ b) = gval a + 10000000000000000000 ^ a.length * gval b := by
  induction a with
  | nil => simp [gval]
  | cons x a ih => simp only [List.cons_append, gval, ih, List.length_cons, Int.pow_succ]; grind
theorem gval_nonneg {l : List Int} (h : GroupsOk l) : 0 ≤ gval l := by
  induction l with
  | nil => simp [gval]
  | cons x l ih => have := h x List.mem_cons_self; have := ih fun y hy => h y (List.mem_cons_of_mem _ hy); simp only [gval]; omega

def lenOf : Value → Nat | .slice _ n _ => n | _ => 0
theorem under_u64s : Tryz.prog.underlying 26 = some (.slice 35) := by kernel_rfl

theorem own_len {w : World} {B : Nat} {e : TypeId} {v : Value} {n : Nat} {xs : List Value} (h : w.ownsRow B e 1 v n xs) : lenOf v = n := by
  rcases h.2 with ⟨rfl, h0⟩ | ⟨g', cap, cur, rfl, _⟩
  · simp [lenOf, h0]
  · rfl
theorem Mine.wr {b o n : Nat} {w w' : World} {B : Nat} {v : Value} {l : List Int} (h : Mine w B v l) (hw : Wr b o n w w') (hb : b < B) : Mine w' B v l := by
  obtain ⟨h1, h2⟩ := h
  refine ⟨h1, ?_⟩
  rcases h2 with h2 | ⟨g, cap, cur, rfl, hB1, hh, hr⟩
  · exact .inl h2
  · exact .inr ⟨g, cap, cur, rfl, hB1, by rw [hw.block g (by omega)]; exact hh, hr⟩
theorem Mine.mono {w : World} {B B' : Nat} {v : Value} {l : List Int} (h : Mine w B v l) (hB : B' ≤ B) : Mine w B' v l := by
  obtain ⟨h1, h2⟩ := h
  refine ⟨h1, ?_⟩
  rcases h2 with h2 | ⟨g, cap, cur, rfl, hB1, hr⟩
  · exact .inl h2
  · exact .inr ⟨g, cap, cur, rfl, by omega, hr⟩
/-- no more groups than limbs and a few -/
theorem groups_few {n k : Nat} {V R : Int} (h1 : 10000000000000000000 ^ k * R ≤ V) (hR : 1 ≤ R) (h2 : V < 18446744073709551616 ^ n) : k ≤ 2 * n := by
  by_cases c : k ≤ 2 * n
  · exact c
  · have e1 : (18446744073709551616 : Int) ^ n ≤ (4294967296 ^ 2) ^ n := by rw [show (4294967296 : Int) ^ 2 = 18446744073709551616 from rfl]; exact Int.le_refl _
    rw [← Int.pow_mul] at e1
    have e2 : (4294967296 : Int) ^ (2 * n) ≤ 4294967296 ^ k := by
      have : (4294967296 : Nat) ^ (2 * n) ≤ 4294967296 ^ k := Nat.pow_le_pow_right (by decide) (by omega)
      have a1 : ((4294967296 ^ (2 * n) : Nat) : Int) = (4294967296 : Int) ^ (2 * n) := by rw [Int.natCast_pow]; rfl
      have a2 : ((4294967296 ^ k : Nat) : Int) = (4294967296 : Int) ^ k := by rw [Int.natCast_pow]; rfl
      omega
    have e3 : (4294967296 : Int) ^ k ≤ 10000000000000000000 ^ k := by
      have : (4294967296 : Nat) ^ k ≤ 10000000000000000000 ^ k := Nat.pow_le_pow_left (by omega) _
      have a1 : ((4294967296 ^ k : Nat) : Int) = (4294967296 : Int) ^ k := by rw [Int.natCast_pow]; rfl
      have a2 : ((10000000000000000000 ^ k : Nat) : Int) = (10000000000000000000 : Int) ^ k := by rw [Int.natCast_pow]; rfl
      omega
    have e4 : (10000000000000000000 : Int) ^ k * 1 ≤ 10000000000000000000 ^ k * R := Int.mul_le_mul_of_nonneg_left hR (Int.le_of_lt (Int.pow_pos (by decide)))
    omega

set_option maxHeartbeats 2000000 in
set_option maxRecDepth 100000 in
theorem split_any (ao : Option Addr) (n c b o : Nat) (l : List Int) (w : World) (hl : l.length = n) (hc : n ≤ c) (hbig : n ≤ 1099511627776) (wl : Words l) (ha : At w ao b o l) :
    Calls Tryz.prog 111 #[.slice ao n c] w fun e w' => ∃ v g, e = .returned v ∧ Mine w' w.heap.size v g ∧ GroupsOk g ∧ gval g = val l ∧ (g ≠ [] → 0 < nth g (g.length - 1)) ∧ g.length ≤ 2 * n + 1 ∧ Below w.heap.size w w' := by
  obtain ⟨i0, hi, hz0, hz1, hz2⟩ := info_parts info_u64
  have hV := val_lt wl
  rw [hl] at hV
  go_enter Tryz.func111, Tryz.ntmps111
  go_wp2_with fail
  refine (norm_any ao n c b o l w hl hc hbig ha).mono ?_
  rintro e w1 ⟨rfl, hrow, hb1⟩
  have hn := nlen_le l
  have hnl := norm_length l
  have hI := isN_norm wl
  have hlt1 := hrow.lt
  go_wp2_with fail
  go_loopw [3, 4] (fun tg tr wr => ∃ (g lr : List Int) (N C : Nat), tr = .slice (some ⟨w.heap.size, 0, none⟩) N C ∧ Hid (N = lr.length) ∧ N ≤ C ∧ N ≤ n ∧ Hid (lenOf tg = g.length) ∧ Mine wr (w.heap.size + 1) tg g ∧ GroupsOk g ∧ Words lr ∧ Hid (nlen lr = lr.length) ∧ Hid (gval g + 10000000000000000000 ^ g.length * val lr = val l) ∧ Hid (g ≠ [] → val lr = 0 → 0 < nth g (g.length - 1)) ∧ At wr (some ⟨w.heap.size, 0, none⟩) w.heap.size 0 lr ∧ Free wr w.heap.size 0 N ∧ w.heap.size < wr.heap.size ∧ Below w.heap.size w wr) (fun tg _ _ => 2 * n + 2 - lenOf tg)
  case atStart => exact ⟨[], norm l, nlen l, nlen l, rfl, hnl.symm, Nat.le_refl _, by omega, rfl, World.ownsRow_nil _ _ _ _, fun x hx => by simp at hx, hI.1, hI.2.1, by show _ = _; simp [gval, val_norm], fun h => absurd rfl h, hrow.at, hrow.free _ _, hlt1, hb1⟩
  case round =>
    clear hrow hb1 hnl hI hlt1 hn
    obtain ⟨g, lr, N, C, rfl, hN, hNC, hNn, hlg, hmg, hgo, hwr, hnr, hval, htop, hat, hfr, hsz, hbe⟩ := hrel
    by_cases hlt : 0 < N
    · go_wp2_with fail
      refine (divideSmall_any (some ⟨w.heap.size, 0, none⟩) w.heap.size 0 N C 10000000000000000000 lr wr hN.out.symm (by omega) hNC (by decide) (by decide) hwr hat hfr).mono ?_
      rintro e w2 ⟨left, lz, rfl, hf0, hf1, hlz, hwz, hatz, hwr2, hvz⟩
      have hgl : g.length ≤ 2 * n := by
        have hn0 := hN.out
        have hp := val_pos hwr (by have := hnr.out; omega)
        have hg0 := gval_nonneg hgo
        have hv := hval.out
        exact groups_few (V := val l) (R := val lr) (by omega) (by omega) hV
      have hmg2 := hmg.wr hwr2 (by omega)
      have hown : w2.ownsRow (w.heap.size + 1) 35 1 _ g.length (g.map (Value.int .u64)) := hmg2
      have hsz2 : wr.heap.size ≤ w2.heap.size := Nat.le_of_eq hwr2.size.symm
      have hsz2' : w2.heap.size ≤ wr.heap.size := Nat.le_of_eq hwr2.size
      generalize hGL : g.length = G at *
      have HGL := (show Hid _ from hGL)
      clear hGL
      go_wp2_with (at_builtin; refine wpList_append_own _ rfl _ _ 26 rfl (w.heap.size + 1) 35 i0 (.int .u64 0) 1 8 under_u64s hi hz0 hz1 hz2 rfl (by decide) _ _ _ rfl (hown.alloc _) ⟨w2.heap.size, 0, none⟩ 1 1 [.int .u64 left] rfl rfl ?c1 ?c2 ?c3 ?c4 ?c5 ?_)
      case c1 => exact cell_one_new _ _ _
      case c2 => intro u hu; simp at hu; subst hu; rfl
      case c3 => unfold maxLen; omega
      case c4 => omega
      case c5 => simp; omega
      intro v' w3 hown' hgrow _
      have hB3 : Below (w.heap.size + 1) w2 w3 := ((Below.refl _ _).alloc (by omega) _).grown hgrow (by simp; omega) (own_ge hmg2)
      have hat3 := hatz.below hB3 (.inr (by omega))
      have hfr2 := hwr2.free hfr
      have hfr3 : Free w3 w.heap.size 0 N := fun i hi => by rw [hB3.frozen (p := ⟨w.heap.size, 0 + i, none⟩) (by show w.heap.size < _; omega)]; exact hfr2 i hi
      have hM : Mine w3 (w.heap.size + 1) v' (g ++ [left]) := by
        unfold Mine
        rw [List.length_append, HGL.out, List.map_append]; exact hown'
      have hlv := own_len hown'
      have hsz3 := hB3.size
      have HB : Below w.heap.size w w3 := (hbe.trans (hwr2.below (Nat.le_refl _))).trans (hB3.mono (by omega))
      have t3 := trim_any (some ⟨w.heap.size, 0, none⟩) N C lz w3 hlz hNC (by omega) hat3.cells
      have hz1 := nlen_le lz
      have hz2 := norm_length lz
      have hz3 := hat3.sub (nlen lz)
      have hz4 := nlen_norm lz
      have hz5 := val_norm lz
      have hz6 := hwz.norm
      rw [show lz.take (nlen lz) = norm lz from rfl] at hz3
      have hvl : 0 < val lr := val_pos hwr (by have := hnr.out; have := hN.out; omega)
      have HV : Hid (gval (g ++ [left]) + 10000000000000000000 ^ (g ++ [left]).length * val (norm lz) = val l) := by
        show _ = _
        rw [gval_append, List.length_append, hz5, ← hval.out, ← hvz, HGL.out, List.length_singleton, Int.pow_succ]
        simp only [gval]
        grind
      have HT : Hid ((g ++ [left]) ≠ [] → val (norm lz) = 0 → 0 < nth (g ++ [left]) ((g ++ [left]).length - 1)) := by
        intro _ h0
        rw [List.length_append, List.length_singleton, Nat.add_sub_cancel, nth_append_right (Nat.le_refl _), Nat.sub_self, nth_zero]
        rw [hz5] at h0
        rw [h0] at hvz
        omega
      have HL : Hid (lenOf v' = (g ++ [left]).length) := by show _ = _; rw [hlv, List.length_append, HGL.out]; rfl
      have HO : GroupsOk (g ++ [left]) := by
        intro x hx
        rcases List.mem_append.1 hx with e | e
        · exact hgo x e
        · simp at e; subst e; exact ⟨hf0, hf1⟩
      clear hown' hgrow hown hmg2 hmg hat3 hatz hwr2 hvz hat hfr hfr2 hval htop hbe hB3 hz5
      generalize nlen lz = K at *
      generalize norm lz = R at *
      go_wp2_with fail
      refine t3.mono ?_
      rintro e w6 ⟨rfl, rfl⟩
      go_wp2
      go_roundw
      case rel => exact ⟨g ++ [left], R, K, K, rfl, hz2.symm, Nat.le_refl _, by omega, HL, hM, HO, hz6, hz4, HV, HT, hz3, fun i hi => hfr3 i (by omega), by omega, HB⟩
      case measure =>
        rw [HL.out, hlg.out, List.length_append, HGL.out, List.length_singleton]
        omega
    · have hN0 : lr = [] := List.eq_nil_of_length_eq_zero (by have := hN.out; omega)
      subst hN0
      have hv := hval.out
      rw [show val [] = 0 from rfl, Int.mul_zero, Int.add_zero] at hv
      have ht := fun h => htop.out h rfl
      have hgl : g.length ≤ 2 * n + 1 := by
        have hg0 := gval_nonneg hgo
        by_cases h0 : g = []
        · subst h0; simp
        · have hne : g.length ≠ 0 := fun e => h0 (List.eq_nil_of_length_eq_zero e)
          have hlast := ht h0
          have hsp : g = g.take (g.length - 1) ++ [nth g (g.length - 1)] := by
            rw [← take_succ_nth (by omega), show g.length - 1 + 1 = g.length from by omega, List.take_of_length_le (Nat.le_refl _)]
          have hgv : gval g = gval (g.take (g.length - 1)) + 10000000000000000000 ^ (g.length - 1) * nth g (g.length - 1) := by
            conv => lhs; rw [hsp]
            rw [gval_append, List.length_take, Nat.min_eq_left (by omega)]; simp [gval]
          have h3 := gval_nonneg (l := g.take (g.length - 1)) (fun x hx => hgo x (List.mem_of_mem_take hx))
          have := groups_few (V := val l) (R := nth g (g.length - 1)) (k := g.length - 1) (by omega) (by omega) hV
          omega
      have hmg' : Mine wr w.heap.size _ g := hmg.mono (by omega)
      clear hval htop hlg hmg hN
      have HV := (show Hid _ from hv)
      clear hv
      go_wp2
      go_ret
      exact ⟨_, g, rfl, hmg', hgo, HV.out, ht, hgl, hbe⟩
end Go.Proofs.YtpbiflfdfiebcabGreatDoor
