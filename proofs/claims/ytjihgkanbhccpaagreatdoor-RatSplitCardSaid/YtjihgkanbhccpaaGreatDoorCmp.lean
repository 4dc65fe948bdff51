/- nat.Cmp tells which of two values is greater. -/
import Derived.Test.YtjihgkanbhccpaaGreatDoorOwn
import Derived.Deep.QuietTactic
import Derived.BigQuiet
namespace Go.Proofs.YtjihgkanbhccpaaGreatDoor
open Go.RowKit Lim

def sgn (x y : Int) : Int := if x < y then -1 else if y < x then 1 else 0
theorem sgn_lt {x y : Int} (h : x < y) : sgn x y = -1 := by simp [sgn, h]
theorem sgn_gt {x y : Int} (h : y < x) : sgn x y = 1 := by simp only [sgn]; rw [if_neg (by omega), if_pos h]
theorem sgn_eq {x y : Int} (h : x = y) : sgn x y = 0 := by simp [sgn, h]

theorem val_cons (l : List Int) : val l = nth l 0 + 18446744073709551616 * val l.tail := by
  cases l with
  | nil => simp [val, nth]
  | cons x l => simp [val, nth]
theorem nth_tail (l : List Int) (i : Nat) : nth l.tail i = nth l (i + 1) := by
  cases l with
  | nil => simp [nth]
  | cons x l => simp [nth]
theorem Lim.Words.tl {l : List Int} (h : Words l) : Words l.tail := fun x hx => h x (List.mem_of_mem_tail hx)
theorem val_ext : ∀ {a b : List Int}, (∀ i, nth a i = nth b i) → val a = val b
  | [], b, h => by rw [val_zeros (l := b) fun i => by rw [← h i, nth_nil]]; rfl
  | x :: a, b, h => by
    rw [val_cons (x :: a), val_cons b, h 0, List.tail_cons, val_ext (a := a) (b := b.tail) fun i => by rw [nth_tail, ← h (i + 1), nth_succ]]
theorem val_lt_at : ∀ (h : Nat) {a b : List Int}, Words a → Words b → (∀ i, h < i → nth a i = nth b i) → nth a h < nth b h → val a < val b
  | 0, a, b, _, _, he, hl => by
    rw [val_cons a, val_cons b, val_ext (a := a.tail) (b := b.tail) fun i => by rw [nth_tail, nth_tail]; exact he _ (by omega)]
    omega
  | h + 1, a, b, ha, hb, he, hl => by
    have := val_lt_at h ha.tl hb.tl (fun i hi => by rw [nth_tail, nth_tail]; exact he _ (by omega)) (by rw [nth_tail, nth_tail]; exact hl)
    have h1 := ha.nth 0; have h2 := hb.nth 0
    rw [val_cons a, val_cons b]
    omega
theorem sgn_at {a b : List Int} (ha : Words a) (hb : Words b) (h : Nat) (he : ∀ i, h < i → nth a i = nth b i) (hne : nth a h ≠ nth b h) : sgn (nth a h) (nth b h) = sgn (val a) (val b) := by
  rcases Int.lt_or_gt_of_ne hne with hl | hl
  · rw [sgn_lt hl, sgn_lt (val_lt_at h ha hb he hl)]
  · rw [sgn_gt hl, sgn_gt (val_lt_at h hb ha (fun i hi => (he i hi).symm) hl)]
theorem sgn_nlen {a b : List Int} (ha : Words a) (hb : Words b) (hne : nlen a ≠ nlen b) : sgn (nlen a) (nlen b) = sgn (val a) (val b) := by
  rcases Nat.lt_or_gt_of_ne hne with hl | hl
  · rw [sgn_lt (by omega), sgn_lt (val_lt_of_nlen_lt ha hb hl)]
  · rw [sgn_gt (by omega), sgn_gt (val_lt_of_nlen_lt hb ha hl)]

theorem compare_int (x y : Int) (w : World) : Calls Tryz.prog 120 #[.int .i64 x, .int .i64 y] w fun e w' => e = .returned (.int .i64 (sgn x y)) ∧ w' = w := by
  rcases Int.lt_trichotomy x y with h | h | h
  · rw [sgn_lt h]
    go_enter Tryz.func120, Tryz.ntmps120
    go_wp2
    go_ret
    exact ⟨rfl, rfl⟩
  · rw [sgn_eq h]; subst h
    go_enter Tryz.func120, Tryz.ntmps120
    go_wp2
    go_ret
    exact ⟨rfl, rfl⟩
  · rw [sgn_gt h]
    have h' : ¬ x < y := by omega
    go_enter Tryz.func120, Tryz.ntmps120
    go_wp2
    go_ret
    exact ⟨rfl, rfl⟩
theorem compare_u64 (x y : Int) (w : World) : Calls Tryz.prog 121 #[.int .u64 x, .int .u64 y] w fun e w' => e = .returned (.int .i64 (sgn x y)) ∧ w' = w := by
  rcases Int.lt_trichotomy x y with h | h | h
  · rw [sgn_lt h]
    go_enter Tryz.func121, Tryz.ntmps121
    go_wp2
    go_ret
    exact ⟨rfl, rfl⟩
  · rw [sgn_eq h]; subst h
    go_enter Tryz.func121, Tryz.ntmps121
    go_wp2
    go_ret
    exact ⟨rfl, rfl⟩
  · rw [sgn_gt h]
    have h' : ¬ x < y := by omega
    go_enter Tryz.func121, Tryz.ntmps121
    go_wp2
    go_ret
    exact ⟨rfl, rfl⟩
theorem ret1 {k : IntKind} {a b : Int} (h : a = b) : Ending.returned (.int k a) = .returned (.int k b) := by rw [h]

set_option maxHeartbeats 1000000 in
set_option maxRecDepth 100000 in
theorem cmp_any (ao : Option Addr) (n c b o : Nat) (ao' : Option Addr) (n' c' b' o' : Nat) (l l' : List Int) (w : World) (hl : l.length = n) (hl' : l'.length = n') (hc : n ≤ c) (hc' : n' ≤ c') (hbig : n ≤ 1099511627776) (hbig' : n' ≤ 1099511627776)
    (wl : Words l) (wl' : Words l') (ha : At w ao b o l) (ha' : At w ao' b' o' l') :
    Calls Tryz.prog 81 #[.slice ao n c, .slice ao' n' c'] w fun e w' => e = .returned (.int .i64 (sgn (val l) (val l'))) ∧ Below w.heap.size w w' := by
  have hn := nlen_le l
  have hn' := nlen_le l'
  have t1 := trim_any ao n c l w hl hc (by omega) ha.cells
  have t2 := trim_any ao' n' c' l' w hl' hc' (by omega) ha'.cells
  have hab : ∀ i, nlen l ≤ i → nth l i = 0 := fun i hi => nlen_above hi
  have hab' : ∀ i, nlen l' ≤ i → nth l' i = 0 := fun i hi => nlen_above hi
  have hsn : Hid (nlen l ≠ nlen l' → sgn (nlen l) (nlen l') = sgn (val l) (val l')) := sgn_nlen wl wl'
  have H0 : Hid (∀ i, nlen l ≤ i → nth l i = 0) := hab
  have H0' : Hid (∀ i, nlen l' ≤ i → nth l' i = 0) := hab'
  clear hab hab'
  generalize nlen l = N at *
  generalize nlen l' = N' at *
  go_enter Tryz.func81, Tryz.ntmps81
  go_wp2_with fail
  refine t1.mono ?_
  rintro e w1 ⟨rfl, rfl⟩
  go_wp2_with fail
  refine t2.mono ?_
  rintro e w2 ⟨rfl, rfl⟩
  clear t1 t2
  by_cases hne : N = N'
  · subst hne
    go_wp2_with fail
    go_loopw [25] (fun ti wr => ∃ k : Nat, k ≤ N ∧ ti = .int .i64 k ∧ Hid (∀ i, N - k ≤ i → nth l i = nth l' i) ∧ Below w2.heap.size w2 wr) (fun ti _ => N - (intOf ti).toNat)
    case atStart => exact ⟨0, Nat.zero_le _, rfl, fun i hi => by rw [H0.out i (by omega), H0'.out i (by omega)], Below.refl _ _⟩
    case round =>
      obtain ⟨k, hk, rfl, hz, hbe⟩ := hrel
      by_cases hlt : k < N
      · have hat := ha.keep hbe
        have hat' := ha'.keep hbe
        rcases ha.loc with e | rfl
        · subst e; simp at hn; omega
        rcases ha'.loc with e | rfl
        · subst e; simp at hn'; omega
        obtain ⟨h, hh⟩ : ∃ h : Nat, N = h + 1 + k := ⟨N - 1 - k, by omega⟩
        have q1 := hat.cell h (by omega)
        have q2 := hat'.cell h (by omega)
        have HN : Hid (N = h + 1 + k) := hh
        have hidx : (N : Int) - 1 - k = h := by omega
        have HZ : Hid (∀ i, h < i → nth l i = nth l' i) := fun i hi => hz.out i (by omega)
        have HS : Hid (nth l h ≠ nth l' h → sgn (nth l h) (nth l' h) = sgn (val l) (val l')) := sgn_at wl wl' h HZ.out
        have hh0 : (h : Int) < N := by omega
        clear hh hz H0 H0' hsn ha ha' hat hat' wl wl'
        generalize hx : nth l h = x at *
        generalize hy : nth l' h = y at *
        have HX : Hid (x = y → nth l h = nth l' h) := fun e => hx.trans (e.trans hy.symm)
        clear hx hy
        by_cases hd : x = y
        · have HY : Hid (nth l h = nth l' h) := HX.out hd
          clear HX
          subst hd
          go_wp2_with fail
          go_quiet (fail)
          go_wp2
          go_roundw
          case rel => exact ⟨k + 1, by omega, by go_num, fun i hi => by
            by_cases e : i = h
            · subst e; exact HY.out
            · exact HZ.out i (by have := HN.out; omega), below_drewN hbe _⟩
          case measure => simp [intOf]; omega
        · have hd' : (x != y) = true := by rw [bne_iff_ne]; exact hd
          go_wp2_with fail
          go_quiet (fail)
          go_wp2_with fail
          have q3 : (wr.drewN nq).cell? ⟨b, o + h, none⟩ = some (.int .u64 x) := q1
          have q4 : (wr.drewN nq).cell? ⟨b', o' + h, none⟩ = some (.int .u64 y) := q2
          have hbf := below_drewN hbe nq
          clear q1 q2 hbe
          generalize wr.drewN nq = W at *
          go_quiet ((go_at_call 121; exact Calls.quiet_of_same (compare_u64 _ _ _)))
          go_wp2
          go_ret
          exact ⟨ret1 (HS.out hd), below_drewN hbf _⟩
      · have hkN : k = N := by omega
        subst hkN
        go_wp2
        go_ret
        rw [sgn_eq (val_ext fun i => hz.out i (by omega))]
        exact ⟨rfl, hbe⟩
  · have hb1 : ((N : Int) != (N' : Int)) = true := by rw [bne_iff_ne]; omega
    go_wp2_with (go_at_call 120; refine (compare_int _ _ _).mono ?_; rintro e w' ⟨rfl, rfl⟩)
    go_ret
    exact ⟨ret1 (hsn.out hne), Below.refl _ _⟩
end Go.Proofs.YtjihgkanbhccpaaGreatDoor
