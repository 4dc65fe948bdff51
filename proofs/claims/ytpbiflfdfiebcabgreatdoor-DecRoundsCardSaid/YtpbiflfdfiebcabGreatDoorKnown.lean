/- gleanlaw1.known: the chapter's examples come out as they must. -/
import Derived.Test.YtpbiflfdfiebcabGreatDoorText
import Derived.Test.YtpbiflfdfiebcabGreatDoorParse
import Derived.Test.YtpbiflfdfiebcabGreatDoorGcdOne
import Derived.Test.YtpbiflfdfiebcabGreatDoorMul
namespace Go.Proofs.YtpbiflfdfiebcabGreatDoor
open Go.RowKit Lim

set_option maxHeartbeats 1000000 in
set_option maxRecDepth 100000 in
theorem muldiv_one (ao : Option Addr) (n c b o : Nat) (ao' : Option Addr) (n' c' b' o' : Nat) (ad : Option Addr) (nd cd bd od : Nat) (l l' ld : List Int) (w : World) (hl : l.length = n) (hl' : l'.length = n') (hld : ld.length = nd) (hc : n ≤ c) (hc' : n' ≤ c') (hcd : nd ≤ cd) (hbig : n ≤ 274877906944) (hbig' : n' ≤ 274877906944) (hbigd : nd ≤ 274877906944)
    (wl : Words l) (wl' : Words l') (wd : Words ld) (ha : At w ao b o l) (ha' : At w ao' b' o' l') (had : At w ad bd od ld) (hge : val ld ≤ val l * val l') (h1 : nlen ld = 1) :
    Calls Tryz.prog 125 #[.slice ao n c, .slice ao' n' c', .slice ad nd cd] w fun e w' => DivPost w w' e (val l * val l') (val ld) (n + n') nd := by
  go_enter Tryz.func125, Tryz.ntmps125
  go_wp2_with fail
  refine (mul_any ao n c b o ao' n' c' b' o' l l' w hl hl' hc hc' (by omega) (by omega) wl wl' ha ha').mono ?_
  rintro e w1 ⟨v, r, rfl, hnew, hI, hlen, hb1⟩
  obtain ⟨ar, br, or', cr, rfl, hrc, hbr, hatr, _⟩ := hnew.is
  have had1 := had.keep hb1
  have hsz := hb1.size
  have t2 := div_one ar r.length cr br or' ad nd cd bd od r ld w1 rfl hld hrc hcd (by omega) (by omega) hI.1 wd hatr had1 (by rw [hI.2.2]; exact hge) h1
  rw [hI.2.2] at t2
  go_wp2_with fail
  refine t2.mono ?_
  rintro e w2 ⟨q, u, rq, ru, rfl, hq, hu, hIq, hIu, hlq, hlu, hb2⟩
  go_wp2
  go_ret3
  exact ⟨q, u, rq, ru, rfl, hq.mono hsz, hu.mono hsz, hIq, hIu, by omega, by omega, hb1.trans (hb2.mono hsz)⟩

theorem built11 (w : World) (x y : Int) : At ((w.alloc (.cells #[.int .u64 x] 35)).alloc (.cells #[.int .u64 y] 35)) (some ⟨w.heap.size, 0, none⟩) w.heap.size 0 [x] ∧
    At ((w.alloc (.cells #[.int .u64 x] 35)).alloc (.cells #[.int .u64 y] 35)) (some ⟨w.heap.size + 1, 0, none⟩) (w.heap.size + 1) 0 [y] ∧ Below w.heap.size w ((w.alloc (.cells #[.int .u64 x] 35)).alloc (.cells #[.int .u64 y] 35)) := by
  have h1 := Row.built1 w x
  have h2 := Row.built1 (w.alloc (.cells #[.int .u64 x] 35)) y
  have b1 := below_alloc w (.cells #[.int .u64 x] 35)
  have b2 := below_alloc (w.alloc (.cells #[.int .u64 x] 35)) (.cells #[.int .u64 y] 35)
  have e : (w.alloc (.cells #[.int .u64 x] 35)).heap.size = w.heap.size + 1 := by simp
  rw [e] at h2
  exact ⟨h1.at.keep b2, h2.at, b1.trans (b2.mono (by rw [e]; omega))⟩
theorem built21 (w : World) (x x' y : Int) : At ((w.alloc (.cells #[.int .u64 x, .int .u64 x'] 35)).alloc (.cells #[.int .u64 y] 35)) (some ⟨w.heap.size, 0, none⟩) w.heap.size 0 [x, x'] ∧
    At ((w.alloc (.cells #[.int .u64 x, .int .u64 x'] 35)).alloc (.cells #[.int .u64 y] 35)) (some ⟨w.heap.size + 1, 0, none⟩) (w.heap.size + 1) 0 [y] ∧ Below w.heap.size w ((w.alloc (.cells #[.int .u64 x, .int .u64 x'] 35)).alloc (.cells #[.int .u64 y] 35)) := by
  have h1 := Row.built2 w x x'
  have h2 := Row.built1 (w.alloc (.cells #[.int .u64 x, .int .u64 x'] 35)) y
  have b1 := below_alloc w (.cells #[.int .u64 x, .int .u64 x'] 35)
  have b2 := below_alloc (w.alloc (.cells #[.int .u64 x, .int .u64 x'] 35)) (.cells #[.int .u64 y] 35)
  have e : (w.alloc (.cells #[.int .u64 x, .int .u64 x'] 35)).heap.size = w.heap.size + 1 := by simp
  rw [e] at h2
  exact ⟨h1.at.keep b2, h2.at, b1.trans (b2.mono (by rw [e]; omega))⟩
theorem built1 (w : World) (x : Int) : At (w.alloc (.cells #[.int .u64 x] 35)) (some ⟨w.heap.size, 0, none⟩) w.heap.size 0 [x] ∧ Below w.heap.size w (w.alloc (.cells #[.int .u64 x] 35)) :=
  ⟨(Row.built1 w x).at, below_alloc _ _⟩
theorem built2 (w : World) (x y : Int) : At (w.alloc (.cells #[.int .u64 x, .int .u64 y] 35)) (some ⟨w.heap.size, 0, none⟩) w.heap.size 0 [x, y] ∧ Below w.heap.size w (w.alloc (.cells #[.int .u64 x, .int .u64 y] 35)) :=
  ⟨(Row.built2 w x y).at, below_alloc _ _⟩
theorem builtB (w : World) (x y : Int) : AtB (w.alloc (.cells #[.int .u8 x, .int .u8 y] 5)) (some ⟨w.heap.size, 0, none⟩) w.heap.size 0 [x, y] ∧ Below w.heap.size w (w.alloc (.cells #[.int .u8 x, .int .u8 y] 5)) := by
  refine ⟨RowB.at ?_, below_alloc _ _⟩
  show (w.heap.push _)[w.heap.size]? = _
  rw [Array.getElem?_push_size]; rfl
theorem built111 (w : World) (x y z : Int) : At (((w.alloc (.cells #[.int .u64 x] 35)).alloc (.cells #[.int .u64 y] 35)).alloc (.cells #[.int .u64 z] 35)) (some ⟨w.heap.size, 0, none⟩) w.heap.size 0 [x] ∧
    At (((w.alloc (.cells #[.int .u64 x] 35)).alloc (.cells #[.int .u64 y] 35)).alloc (.cells #[.int .u64 z] 35)) (some ⟨w.heap.size + 1, 0, none⟩) (w.heap.size + 1) 0 [y] ∧
    At (((w.alloc (.cells #[.int .u64 x] 35)).alloc (.cells #[.int .u64 y] 35)).alloc (.cells #[.int .u64 z] 35)) (some ⟨w.heap.size + 2, 0, none⟩) (w.heap.size + 2) 0 [z] ∧
    Below w.heap.size w (((w.alloc (.cells #[.int .u64 x] 35)).alloc (.cells #[.int .u64 y] 35)).alloc (.cells #[.int .u64 z] 35)) := by
  obtain ⟨a1, a2, b⟩ := built11 w x y
  have h3 := Row.built1 ((w.alloc (.cells #[.int .u64 x] 35)).alloc (.cells #[.int .u64 y] 35)) z
  have b3 := below_alloc ((w.alloc (.cells #[.int .u64 x] 35)).alloc (.cells #[.int .u64 y] 35)) (.cells #[.int .u64 z] 35)
  have e : ((w.alloc (.cells #[.int .u64 x] 35)).alloc (.cells #[.int .u64 y] 35)).heap.size = w.heap.size + 2 := by simp
  rw [e] at h3
  exact ⟨a1.keep b3, a2.keep b3, h3.at, b.trans (b3.mono (by rw [e]; omega))⟩
theorem join {w wa w' : World} (b : Below w.heap.size w wa) (h : Below wa.heap.size wa w') : Below w.heap.size w w' := b.trans (h.mono b.size)
theorem dvI_bound {l : List Int} (h : DigI l) : 0 ≤ dvI l ∧ dvI l < 10 ^ l.length := by
  induction l with
  | nil => simp [dvI]
  | cons c l ih =>
    have hc := h c (by simp)
    have := ih fun x hx => h x (by simp [hx])
    have e : dvI (c :: l) = (c - 48) * 10 ^ l.length + dvI l := by rw [show c :: l = [c] ++ l from rfl, dvI_append]; simp [dvI]
    have hp : (0 : Int) < 10 ^ l.length := Int.pow_pos (by decide)
    have h1 : 0 ≤ (c - 48) * 10 ^ l.length := Int.mul_nonneg (by omega) (Int.le_of_lt hp)
    have h2 : (c - 48) * 10 ^ l.length ≤ 9 * 10 ^ l.length := Int.mul_le_mul_of_nonneg_right (by omega) (Int.le_of_lt hp)
    rw [e, List.length_cons, Int.pow_succ]; omega
theorem dvI_ge {l : List Int} (h : DigI l) (h0 : 0 < l.length) (h1 : nth l 0 ≠ 48) : 10 ^ (l.length - 1) ≤ dvI l := by
  cases l with
  | nil => simp at h0
  | cons c l =>
    rw [nth_zero] at h1
    have hc := h c (by simp)
    have hb := dvI_bound (l := l) fun x hx => h x (by simp [hx])
    have e : dvI (c :: l) = (c - 48) * 10 ^ l.length + dvI l := by rw [show c :: l = [c] ++ l from rfl, dvI_append]; simp [dvI]
    have hp : (0 : Int) < 10 ^ l.length := Int.pow_pos (by decide)
    have : 1 * 10 ^ l.length ≤ (c - 48) * 10 ^ l.length := Int.mul_le_mul_of_nonneg_right (by omega) (Int.le_of_lt hp)
    rw [e, List.length_cons, Nat.add_sub_cancel]; omega
theorem dvI_inj : ∀ {a b : List Int}, DigI a → DigI b → a.length = b.length → dvI a = dvI b → a = b
  | [], [], _, _, _, _ => rfl
  | x :: a, y :: b, ha, hb, hl, hv => by
    have ha' : DigI a := fun z hz => ha z (by simp [hz])
    have hb' : DigI b := fun z hz => hb z (by simp [hz])
    have hl' : a.length = b.length := by simpa using hl
    have h1 := dvI_bound ha'
    have h2 := dvI_bound hb'
    have e1 : dvI (x :: a) = (x - 48) * 10 ^ b.length + dvI a := by rw [show x :: a = [x] ++ a from rfl, dvI_append, hl']; simp [dvI]
    have e2 : dvI (y :: b) = (y - 48) * 10 ^ b.length + dvI b := by rw [show y :: b = [y] ++ b from rfl, dvI_append]; simp [dvI]
    rw [e1, e2] at hv
    rw [hl'] at h1
    have hp : (0 : Int) < 10 ^ b.length := Int.pow_pos (by decide)
    have e : x = y := by
      rcases Int.lt_trichotomy x y with c | c | c
      · have : (x - 48 + 1) * 10 ^ b.length ≤ (y - 48) * 10 ^ b.length := Int.mul_le_mul_of_nonneg_right (by omega) (Int.le_of_lt hp)
        rw [Int.add_mul] at this; omega
      · exact c
      · have : (y - 48 + 1) * 10 ^ b.length ≤ (x - 48) * 10 ^ b.length := Int.mul_le_mul_of_nonneg_right (by omega) (Int.le_of_lt hp)
        rw [Int.add_mul] at this; omega
    subst e
    rw [dvI_inj ha' hb' hl' (by omega)]
theorem dig_unique {a b : List Int} (ha : DigI a) (hb : DigI b) (h0 : 0 < a.length) (h1 : 0 < b.length) (ka : a.length = 1 ∨ nth a 0 ≠ 48) (kb : b.length = 1 ∨ nth b 0 ≠ 48) (hv : dvI a = dvI b) : a = b := by
  apply dvI_inj ha hb _ hv
  have key : ∀ {a b : List Int}, DigI a → DigI b → 0 < a.length → 0 < b.length → (b.length = 1 ∨ nth b 0 ≠ 48) → dvI a = dvI b → ¬ a.length < b.length := by
    intro a b ha hb h0 h1 kb hv hlt
    have h2 := (dvI_bound ha).2
    rcases kb with e | e
    · omega
    · have h3 := dvI_ge hb h1 e
      have := pow10_le (show a.length ≤ b.length - 1 by omega)
      omega
  have k1 := key ha hb h0 h1 kb hv
  have k2 := key hb ha h1 h0 ka hv.symm
  omega
/-- the text of a value, told by its digits -/
theorem text_is {S : ByteArray} {n : Int} (h : TextOf S n) (l : List UInt8) (hd : (l.map (fun c => (c.toNat : Int))).all (fun c => decide (48 ≤ c ∧ c ≤ 57)) = true) (hv : dvI (l.map (fun c => (c.toNat : Int))) = n) (h0 : 0 < l.length) (h1 : l.length = 1 ∨ nth (l.map (fun c => (c.toNat : Int))) 0 ≠ 48) : S = ⟨l.toArray⟩ := by
  obtain ⟨d, e, hdd, hdv, hd0, hd1⟩ := h.bytes
  have hD : DigI (l.map (fun c => (c.toNat : Int))) := fun c hc => by
    rw [List.all_eq_true] at hd; simpa using hd c hc
  have := dig_unique hdd hD hd0 (by simpa using h0) hd1 (by simpa using h1) (hdv.trans hv.symm)
  rw [← e] at this
  have h2 : S.data.toList = l := List.map_inj_right (fun a b hab => UInt8.toNat_inj.1 (by omega)) |>.1 this
  cases S with
  | mk arr => simp at h2; simp [← h2]
theorem text_big {g : List Int} (h : GroupsOk g) (hv : gval g = 18446744073709551616) (h0 : g ≠ []) (ht : 0 < nth g (g.length - 1)) : nth g (g.length - 1) = 1 := by
  match g, h, hv, h0, ht with
  | [x], h, hv, _, _ => simp only [gval] at hv; have := h x (by simp); omega
  | [x, y], h, hv, _, _ =>
    simp only [gval] at hv; have := h x (by simp)
    show nth [x, y] 1 = 1
    rw [nth_succ, nth_zero]; omega
  | x :: y :: z :: g, h, hv, _, ht =>
    exfalso
    simp only [gval] at hv
    have hx := h x (by simp)
    have hy := h y (by simp)
    have hz := h z (by simp)
    have hg := gval_nonneg (l := g) (fun a ha => h a (by simp [ha]))
    by_cases hgz : gval g = 0
    · by_cases hz0 : z = 0
      · have hall : ∀ l : List Int, GroupsOk l → gval l = 0 → ∀ i, nth l i = 0 := by
          intro l
          induction l with
          | nil => intro _ _ i; exact nth_nil i
          | cons a l ih =>
            intro hl hg0 i
            simp only [gval] at hg0
            have h1 := hl a (by simp)
            have h2 := gval_nonneg (l := l) (fun b hb => hl b (by simp [hb]))
            cases i with
            | zero => rw [nth_zero]; omega
            | succ i => rw [nth_succ]; exact ih (fun b hb => hl b (by simp [hb])) (by omega) i
        have h3 := hall g (fun a ha => h a (by simp [ha])) hgz
        cases g with
        | nil =>
          simp only [List.length_cons, List.length_nil] at ht
          rw [show nth [x, y, z] (0 + 1 + 1 + 1 - 1) = z from rfl] at ht
          omega
        | cons a g =>
          have h4 := h3 g.length
          rw [show (x :: y :: z :: a :: g).length - 1 = g.length + 1 + 1 + 1 from by simp, nth_succ, nth_succ, nth_succ, h4] at ht
          omega
      · omega
    · omega
theorem w1 {x : Int} (h0 : 0 ≤ x) (h1 : x < 18446744073709551616) : Words [x] := Words.cons h0 h1 Words.nil
theorem w2 {x y : Int} (h0 : 0 ≤ x) (h1 : x < 18446744073709551616) (h2 : 0 ≤ y) (h3 : y < 18446744073709551616) : Words [x, y] := Words.cons h0 h1 (w1 h2 h3)

end Go.Proofs.YtpbiflfdfiebcabGreatDoor
