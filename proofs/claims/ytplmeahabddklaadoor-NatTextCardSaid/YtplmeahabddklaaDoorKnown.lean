/- gleanlaw1.known: the chapter's examples come out as they must. -/
import Derived.Test.YtplmeahabddklaaDoorText
import Derived.Test.YtplmeahabddklaaDoorParse
import Derived.Test.YtplmeahabddklaaDoorGcdOne
import Derived.Test.YtplmeahabddklaaDoorMul
namespace Go.Proofs.YtplmeahabddklaaDoor
open Go.RowKit Lim

set_option maxHeartbeats 1000000 in
set_option maxRecDepth 100000 in
theorem muldiv_one (ao : Option Addr) (n c b o : Nat) (ao' : Option Addr) (n' c' b' o' : Nat) (ad : Option Addr) (nd cd bd od : Nat) (l l' ld : List Int) (w : World) (hl : l.length = n) (hl' : l'.length = n') (hld : ld.length = nd) (hc : n ≤ c) (hc' : n' ≤ c') (hcd : nd ≤ cd) (hbig : n ≤ 274877906944) (hbig' : n' ≤ 274877906944) (hbigd : nd ≤ 274877906944)
    (wl : Words l) (wl' : Words l') (wd : Words ld) (ha : At w ao b o l) (ha' : At w ao' b' o' l') (had : At w ad bd od ld) (hge : val ld ≤ val l * val l') (h1 : nlen ld = 1) :
    Calls Tryd.prog 35 #[.slice ao n c, .slice ao' n' c', .slice ad nd cd] w fun e w' => DivPost w w' e (val l * val l') (val ld) (n + n') nd := by
  go_enter Tryd.func35, Tryd.ntmps35
  go_wp2_with fail
  refine (mul_any ao n c b o ao' n' c' b' o' l l' w hl hl' hc hc' (by omega) (by omega) wl wl' ha ha').mono ?_
  rintro e w1 ⟨v, r, rfl, hnew, hI, hlen, hb1⟩
  obtain ⟨ar, br, or', cr, rfl, hrc, hbr, hatr, _⟩ := hnew.is
  have had1 := had.keep hb1
  have hsz := hb1.size
  have t2 := div_one ar r.length cr br or' ad nd cd bd od r ld w1 rfl hld hrc hcd (by omega) (by omega) hI.1 wd hatr had1 (by rw [hI.2.2]; exact hge) h1
  rw [hI.2.2] at t2
  go_wp2_with fail
  refine t2.mono ?_
  rintro e w2 ⟨q, u, rq, ru, rfl, hq, hu, hIq, hIu, hlq, hlu, hb2⟩
  go_wp2
  go_ret3
  exact ⟨q, u, rq, ru, rfl, hq.mono hsz, hu.mono hsz, hIq, hIu, by omega, by omega, hb1.trans (hb2.mono hsz)⟩

theorem built11 (w : World) (x y : Int) : At ((w.alloc (.cells #[.int .u64 x] 33)).alloc (.cells #[.int .u64 y] 33)) (some ⟨w.heap.size, 0, none⟩) w.heap.size 0 [x] ∧
    At ((w.alloc (.cells #[.int .u64 x] 33)).alloc (.cells #[.int .u64 y] 33)) (some ⟨w.heap.size + 1, 0, none⟩) (w.heap.size + 1) 0 [y] ∧ Below w.heap.size w ((w.alloc (.cells #[.int .u64 x] 33)).alloc (.cells #[.int .u64 y] 33)) := by
  have h1 := Row.built1 w x
  have h2 := Row.built1 (w.alloc (.cells #[.int .u64 x] 33)) y
  have b1 := below_alloc w (.cells #[.int .u64 x] 33)
  have b2 := below_alloc (w.alloc (.cells #[.int .u64 x] 33)) (.cells #[.int .u64 y] 33)
  have e : (w.alloc (.cells #[.int .u64 x] 33)).heap.size = w.heap.size + 1 := by simp
  rw [e] at h2
  exact ⟨h1.at.keep b2, h2.at, b1.trans (b2.mono (by rw [e]; omega))⟩
theorem built21 (w : World) (x x' y : Int) : At ((w.alloc (.cells #[.int .u64 x, .int .u64 x'] 33)).alloc (.cells #[.int .u64 y] 33)) (some ⟨w.heap.size, 0, none⟩) w.heap.size 0 [x, x'] ∧
    At ((w.alloc (.cells #[.int .u64 x, .int .u64 x'] 33)).alloc (.cells #[.int .u64 y] 33)) (some ⟨w.heap.size + 1, 0, none⟩) (w.heap.size + 1) 0 [y] ∧ Below w.heap.size w ((w.alloc (.cells #[.int .u64 x, .int .u64 x'] 33)).alloc (.cells #[.int .u64 y] 33)) := by
  have h1 := Row.built2 w x x'
  have h2 := Row.built1 (w.alloc (.cells #[.int .u64 x, .int .u64 x'] 33)) y
  have b1 := below_alloc w (.cells #[.int .u64 x, .int .u64 x'] 33)
  have b2 := below_alloc (w.alloc (.cells #[.int .u64 x, .int .u64 x'] 33)) (.cells #[.int .u64 y] 33)
  have e : (w.alloc (.cells #[.int .u64 x, .int .u64 x'] 33)).heap.size = w.heap.size + 1 := by simp
  rw [e] at h2
  exact ⟨h1.at.keep b2, h2.at, b1.trans (b2.mono (by rw [e]; omega))⟩
theorem built1 (w : World) (x : Int) : At (w.alloc (.cells #[.int .u64 x] 33)) (some ⟨w.heap.size, 0, none⟩) w.heap.size 0 [x] ∧ Below w.heap.size w (w.alloc (.cells #[.int .u64 x] 33)) :=
  ⟨(Row.built1 w x).at, below_alloc _ _⟩
theorem built2 (w : World) (x y : Int) : At (w.alloc (.cells #[.int .u64 x, .int .u64 y] 33)) (some ⟨w.heap.size, 0, none⟩) w.heap.size 0 [x, y] ∧ Below w.heap.size w (w.alloc (.cells #[.int .u64 x, .int .u64 y] 33)) :=
  ⟨(Row.built2 w x y).at, below_alloc _ _⟩
theorem builtB (w : World) (x y : Int) : AtB (w.alloc (.cells #[.int .u8 x, .int .u8 y] 5)) (some ⟨w.heap.size, 0, none⟩) w.heap.size 0 [x, y] ∧ Below w.heap.size w (w.alloc (.cells #[.int .u8 x, .int .u8 y] 5)) := by
  refine ⟨RowB.at ?_, below_alloc _ _⟩
  show (w.heap.push _)[w.heap.size]? = _
  rw [Array.getElem?_push_size]; rfl
theorem built111 (w : World) (x y z : Int) : At (((w.alloc (.cells #[.int .u64 x] 33)).alloc (.cells #[.int .u64 y] 33)).alloc (.cells #[.int .u64 z] 33)) (some ⟨w.heap.size, 0, none⟩) w.heap.size 0 [x] ∧
    At (((w.alloc (.cells #[.int .u64 x] 33)).alloc (.cells #[.int .u64 y] 33)).alloc (.cells #[.int .u64 z] 33)) (some ⟨w.heap.size + 1, 0, none⟩) (w.heap.size + 1) 0 [y] ∧
    At (((w.alloc (.cells #[.int .u64 x] 33)).alloc (.cells #[.int .u64 y] 33)).alloc (.cells #[.int .u64 z] 33)) (some ⟨w.heap.size + 2, 0, none⟩) (w.heap.size + 2) 0 [z] ∧
    Below w.heap.size w (((w.alloc (.cells #[.int .u64 x] 33)).alloc (.cells #[.int .u64 y] 33)).alloc (.cells #[.int .u64 z] 33)) := by
  obtain ⟨a1, a2, b⟩ := built11 w x y
  have h3 := Row.built1 ((w.alloc (.cells #[.int .u64 x] 33)).alloc (.cells #[.int .u64 y] 33)) z
  have b3 := below_alloc ((w.alloc (.cells #[.int .u64 x] 33)).alloc (.cells #[.int .u64 y] 33)) (.cells #[.int .u64 z] 33)
  have e : ((w.alloc (.cells #[.int .u64 x] 33)).alloc (.cells #[.int .u64 y] 33)).heap.size = w.heap.size + 2 := by simp
  rw [e] at h3
  exact ⟨a1.keep b3, a2.keep b3, h3.at, b.trans (b3.mono (by rw [e]; omega))⟩
theorem join {w wa w' : World} (b : Below w.heap.size w wa) (h : Below wa.heap.size wa w') : Below w.heap.size w w' := b.trans (h.mono b.size)
theorem dvI_bound {l : List Int} (h : DigI l) : 0 ≤ dvI l ∧ dvI l < 10 ^ l.length := by
  induction l with
  | nil => simp [dvI]
  | cons c l ih =>
    have hc := h c (by simp)
    have := ih fun x hx => h x (by simp [hx])
    have e : dvI (c :: l) = (c - 48) * 10 ^ l.length + dvI l := by rw [show c :: l = [c] ++ l from rfl, dvI_append]; simp [dvI]
    have hp : (0 : Int) < 10 ^ l.length := Int.pow_pos (by decide)
    have h1 : 0 ≤ (c - 48) * 10 ^ l.length := Int.mul_nonneg (by omega) (Int.le_of_lt hp)
    have h2 : (c - 48) * 10 ^ l.length ≤ 9 * 10 ^ l.length := Int.mul_le_mul_of_nonneg_right (by omega) (Int.le_of_lt hp)
    rw [e, List.length_cons, Int.pow_succ]; omega
theorem dvI_ge {l : List Int} (h : DigI l) (h0 : 0 < l.length) (h1 : nth l 0 ≠ 48) : 10 ^ (l.length - 1) ≤ dvI l := by
  cases l with
  | nil => simp at h0
  | cons c l =>
    rw [nth_zero] at h1
    have hc := h c (by simp)
    have hb := dvI_bound (l := l) fun x hx => h x (by simp [hx])
    have e : dvI (c :: l) = (c - 48) * 10 ^ l.length + dvI l := by rw [show c :: l = [c] ++ l from rfl, dvI_append]; simp [dvI]
    have hp : (0 : Int) < 10 ^ l.length := Int.pow_pos (by decide)
    have : 1 * 10 ^ l.length ≤ (c - 48) * 10 ^ l.length := Int.mul_le_mul_of_nonneg_right (by omega) (Int.le_of_lt hp)
    rw [e, List.length_cons, Nat.add_sub_cancel]; omega
theorem dvI_inj : ∀ {a b : List Int}, DigI a → DigI b → a.length = b.length → dvI a = dvI b → a = b
  | [], [], _, _, _, _ => rfl
  | x :: a, y :: b, ha, hb, hl, hv => by
    have ha' : DigI a := fun z hz => ha z (by simp [hz])
    have hb' : DigI b := fun z hz => hb z (by simp [hz])
    have hl' : a.length = b.length := by simpa using hl
    have h1 := dvI_bound ha'
    have h2 := dvI_bound hb'
    have e1 : dvI (x :: a) = (x - 48) * 10 ^ b.length + dvI a := by rw [show x :: a = [x] ++ a from rfl, dvI_append, hl']; simp [dvI]
    have e2 : dvI (y :: b) = (y - 48) * 10 ^ b.length + dvI b := by rw [show y :: b = [y] ++ b from rfl, dvI_append]; simp [dvI]
    rw [e1, e2] at hv
    rw [hl'] at h1
    have hp : (0 : Int) < 10 ^ b.length := Int.pow_pos (by decide)
    have e : x = y := by
      rcases Int.lt_trichotomy x y with c | c | c
      · have : (x - 48 + 1) * 10 ^ b.length ≤ (y - 48) * 10 ^ b.length := Int.mul_le_mul_of_nonneg_right (by omega) (Int.le_of_lt hp)
        rw [Int.add_mul] at this; omega
      · exact c
      · have : (y - 48 + 1) * 10 ^ b.length ≤ (x - 48) * 10 ^ b.length := Int.mul_le_mul_of_nonneg_right (by omega) (Int.le_of_lt hp)
        rw [Int.add_mul] at this; omega
    subst e
    rw [dvI_inj ha' hb' hl' (by omega)]
theorem dig_unique {a b : List Int} (ha : DigI a) (hb : DigI b) (h0 : 0 < a.length) (h1 : 0 < b.length) (ka : a.length = 1 ∨ nth a 0 ≠ 48) (kb : b.length = 1 ∨ nth b 0 ≠ 48) (hv : dvI a = dvI b) : a = b := by
  apply dvI_inj ha hb _ hv
  have key : ∀ {a b : List Int}, DigI a → DigI b → 0 < a.length → 0 < b.length → (b.length = 1 ∨ nth b 0 ≠ 48) → dvI a = dvI b → ¬ a.length < b.length := by
    intro a b ha hb h0 h1 kb hv hlt
    have h2 := (dvI_bound ha).2
    rcases kb with e | e
    · omega
    · have h3 := dvI_ge hb h1 e
      have := pow10_le (show a.length ≤ b.length - 1 by omega)
      omega
  have k1 := key ha hb h0 h1 kb hv
  have k2 := key hb ha h1 h0 ka hv.symm
  omega
/-- the text of a value, told by its digits -/
theorem text_is {S : ByteArray} {n : Int} (h : TextOf S n) (l : List UInt8) (hd : (l.map (fun c => (c.toNat : Int))).all (fun c => decide (48 ≤ c ∧ c ≤ 57)) = true) (hv : dvI (l.map (fun c => (c.toNat : Int))) = n) (h0 : 0 < l.length) (h1 : l.length = 1 ∨ nth (l.map (fun c => (c.toNat : Int))) 0 ≠ 48) : S = ⟨l.toArray⟩ := by
  obtain ⟨d, e, hdd, hdv, hd0, hd1⟩ := h.bytes
  have hD : DigI (l.map (fun c => (c.toNat : Int))) := fun c hc => by
    rw [List.all_eq_true] at hd; simpa using hd c hc
  have := dig_unique hdd hD hd0 (by simpa using h0) hd1 (by simpa using h1) (hdv.trans hv.symm)
  rw [← e] at this
  have h2 : S.data.toList = l := List.map_inj_right (fun a b hab => UInt8.toNat_inj.1 (by omega)) |>.1 this
  cases S with
  | mk arr => simp at h2; simp [← h2]
theorem text_big {g : List Int} (h : GroupsOk g) (hv : gval g = 18446744073709551616) (h0 : g ≠ []) (ht : 0 < nth g (g.length - 1)) : nth g (g.length - 1) = 1 := by
  match g, h, hv, h0, ht with
  | [x], h, hv, _, _ => simp only [gval] at hv; have := h x (by simp); omega
  | [x, y], h, hv, _, _ =>
    simp only [gval] at hv; have := h x (by simp)
    show nth [x, y] 1 = 1
    rw [nth_succ, nth_zero]; omega
  | x :: y :: z :: g, h, hv, _, ht =>
    exfalso
    simp only [gval] at hv
    have hx := h x (by simp)
    have hy := h y (by simp)
    have hz := h z (by simp)
    have hg := gval_nonneg (l := g) (fun a ha => h a (by simp [ha]))
    by_cases hgz : gval g = 0
    · by_cases hz0 : z = 0
      · have hall : ∀ l : List Int, GroupsOk l → gval l = 0 → ∀ i, nth l i = 0 := by
          intro l
          induction l with
          | nil => intro _ _ i; exact nth_nil i
          | cons a l ih =>
            intro hl hg0 i
            simp only [gval] at hg0
            have h1 := hl a (by simp)
            have h2 := gval_nonneg (l := l) (fun b hb => hl b (by simp [hb]))
            cases i with
            | zero => rw [nth_zero]; omega
            | succ i => rw [nth_succ]; exact ih (fun b hb => hl b (by simp [hb])) (by omega) i
        have h3 := hall g (fun a ha => h a (by simp [ha])) hgz
        cases g with
        | nil =>
          simp only [List.length_cons, List.length_nil] at ht
          rw [show nth [x, y, z] (0 + 1 + 1 + 1 - 1) = z from rfl] at ht
          omega
        | cons a g =>
          have h4 := h3 g.length
          rw [show (x :: y :: z :: a :: g).length - 1 = g.length + 1 + 1 + 1 from by simp, nth_succ, nth_succ, nth_succ, h4] at ht
          omega
      · omega
    · omega
theorem w1 {x : Int} (h0 : 0 ≤ x) (h1 : x < 18446744073709551616) : Words [x] := Words.cons h0 h1 Words.nil
theorem w2 {x y : Int} (h0 : 0 ≤ x) (h1 : x < 18446744073709551616) (h2 : 0 ≤ y) (h3 : y < 18446744073709551616) : Words [x, y] := Words.cons h0 h1 (w1 h2 h3)

set_option maxHeartbeats 4000000 in
set_option maxRecDepth 100000 in
theorem known_any (w : World) : Calls Tryd.prog 9 #[] w fun e w' => e = .returned (.bool true) ∧ Below w.heap.size w w' := by
  obtain ⟨a1, a2, b0⟩ := built11 w 18446744073709551615 1
  have t1 := add_any _ 1 1 _ 0 _ 1 1 _ 0 [18446744073709551615] [1] _ rfl rfl (by decide) (by decide) (by decide) (by decide) (w1 (by decide) (by decide)) (w1 (by decide) (by decide)) a1 a2
  go_enter Tryd.func9, Tryd.ntmps9
  go_wp2_with fail
  refine t1.mono ?_
  rintro e v1 ⟨s, rs, rfl, hs, hIs, hls, hb1⟩
  clear t1 a1 a2
  have es : rs = [0, 1] := isN_unique hIs ⟨w2 (by decide) (by decide) (by decide) (by decide), by decide, by decide⟩
  subst es
  obtain ⟨a_s, b_s, o_s, c_s, rfl, _, _, hs, _⟩ := hs.is
  have HB := join b0 hb1
  clear b0 hb1 hIs hls
  obtain ⟨a1, a2, b1⟩ := built21 v1 0 1 1
  have t2 := sub_ge _ 2 2 _ 0 _ 1 1 _ 0 [0, 1] [1] _ rfl rfl (by decide) (by decide) (by decide) (by decide) (w2 (by decide) (by decide) (by decide) (by decide)) (w1 (by decide) (by decide)) a1 a2 (by decide)
  go_wp2_with fail
  refine t2.mono ?_
  rintro e v2 ⟨d, rd, rfl, hd, hId, hld, hb2⟩
  clear t2 a1 a2
  have ed : rd = [18446744073709551615] := isN_unique hId ⟨w1 (by decide) (by decide), by decide, by decide⟩
  subst ed
  obtain ⟨a_d, b_d, o_d, c_d, rfl, _, _, hd, _⟩ := hd.is
  have hB := join b1 hb2
  have hs := hs.keep hB
  have HB := join HB hB
  clear b1 hb2 hId hld hB
  obtain ⟨a1, a2, b1⟩ := built21 v2 18446744073709551615 18446744073709551615 18446744073709551615
  have t3 := div_one _ 2 2 _ 0 _ 1 1 _ 0 [18446744073709551615, 18446744073709551615] [18446744073709551615] _ rfl rfl (by decide) (by decide) (by decide) (by decide) (w2 (by decide) (by decide) (by decide) (by decide)) (w1 (by decide) (by decide)) a1 a2 (by decide) (by decide)
  go_wp2_with fail
  refine t3.mono ?_
  rintro e v3 ⟨q, r, rq, rr, rfl, hq, hr, hIq, hIr, hlq, hlr, hb3⟩
  clear t3 a1 a2
  have eq : rq = [1, 1] := isN_unique hIq ⟨w2 (by decide) (by decide) (by decide) (by decide), by decide, by decide⟩
  subst eq
  have er : rr = [] := isN_unique hIr ⟨Words.nil, by decide, by decide⟩
  subst er
  obtain ⟨a_q, b_q, o_q, c_q, rfl, _, _, hq, _⟩ := hq.is
  obtain ⟨a_r, b_r, o_r, c_r, rfl, _, _, hr, _⟩ := hr.is
  have hB := join b1 hb3
  have hs := hs.keep hB
  have hd := hd.keep hB
  have HB := join HB hB
  clear b1 hb3 hIq hIr hlq hlr hB hr
  obtain ⟨a1, b1⟩ := built1 v3 1
  have t4 := div_zero (.slice (some ⟨v3.heap.size, 0, none⟩) 1 1) none 0 0 0 0 [] (v3.alloc (.cells #[.int .u64 1] 33)) rfl (by decide) (by decide) Words.nil ⟨.inl rfl, fun i hi => by simp at hi⟩ rfl
  go_wp2_with fail
  refine t4.mono ?_
  rintro e v4 ⟨rfl, rfl⟩
  clear t4 a1
  have hs := hs.keep b1
  have hd := hd.keep b1
  have hq := hq.keep b1
  have HB := join HB b1
  clear b1
  generalize v3.alloc (.cells #[.int .u64 1] 33) = v4 at *
  have t5 := fun wx => parse_yes ⟨#[49, 56, 52, 52, 54, 55, 52, 52, 48, 55, 51, 55, 48, 57, 53, 53, 49, 54, 49, 54]⟩ wx (by decide) (by decide)
  have t6 := fun wx => parse_no ⟨#[48, 48, 55]⟩ wx (by decide) (by decide)
  go_wp2_with fail
  refine (t5 _).mono ?_
  rintro e v5 ⟨n, rn, rfl, hn, hIn, hln, hb5⟩
  have en : rn = [0, 1] := isN_unique hIn ⟨w2 (by decide) (by decide) (by decide) (by decide), by decide, by decide⟩
  subst en
  obtain ⟨a_n, b_n, o_n, c_n, rfl, _, _, hn, _⟩ := hn.is
  have hs := hs.keep hb5
  have hd := hd.keep hb5
  have hq := hq.keep hb5
  have HB := join HB hb5
  clear hb5 hIn hln t5
  go_wp2_with fail
  refine (t6 _).mono ?_
  rintro e v6 ⟨rfl, rfl⟩
  clear t6
  obtain ⟨a1, b1⟩ := builtB v6 1 0
  have t7 := from_yes _ 2 2 _ 0 [1, 0] _ rfl (by decide) (fun x hx => by simp at hx; omega) a1 (fun _ => by rw [nth_zero]; decide)
  go_wp2_with fail
  refine t7.mono ?_
  rintro e v7 ⟨m, rm, rfl, hm, hIm, hlm, hb7⟩
  have em : rm = [256] := isN_unique hIm ⟨w1 (by decide) (by decide), by decide, by decide⟩
  subst em
  obtain ⟨a_m, b_m, o_m, c_m, rfl, _, _, hm, _⟩ := hm.is
  have hB := join b1 hb7
  have hs := hs.keep hB
  have hd := hd.keep hB
  have hq := hq.keep hB
  have hn := hn.keep hB
  have HB := join HB hB
  clear b1 hb7 hIm hlm hB t7 a1
  obtain ⟨a1, b1⟩ := built1 v7 256
  have t8 := helpNat a_m 1 c_m b_m o_m _ 1 1 _ 0 [256] [256] _ rfl rfl (by decide) (by decide) (hm.keep b1) a1
  rw [eqB_true rfl] at t8
  go_wp2_with fail
  refine t8.mono ?_
  rintro e v8 ⟨rfl, hb8⟩
  have hB := join b1 hb8
  have hs := hs.keep hB
  have hd := hd.keep hB
  have hq := hq.keep hB
  have hn := hn.keep hB
  have HB := join HB hB
  clear b1 hb8 hB t8 a1 hm
  have t9 := fun wx => pow10_any 20 wx (by decide)
  rw [show ((20 : Nat) : Int) = 20 from rfl] at t9
  go_wp2_with fail
  refine (t9 _).mono ?_
  rintro e v9 ⟨p, rp, rfl, hp, hIp, hlp, hb9⟩
  have ep : rp = [7766279631452241920, 5] := isN_unique hIp ⟨w2 (by decide) (by decide) (by decide) (by decide), by decide, by decide⟩
  subst ep
  obtain ⟨a_p, b_p, o_p, c_p, rfl, _, _, hp, _⟩ := hp.is
  have hs := hs.keep hb9
  have hd := hd.keep hb9
  have hq := hq.keep hb9
  have hn := hn.keep hb9
  have HB := join HB hb9
  clear hb9 hIp hlp t9
  obtain ⟨a1, a2, a3, b1⟩ := built111 v9 18446744073709551615 6 3
  have t10 := muldiv_one _ 1 1 _ 0 _ 1 1 _ 0 _ 1 1 _ 0 [18446744073709551615] [6] [3] _ rfl rfl rfl (by decide) (by decide) (by decide) (by decide) (by decide) (by decide) (w1 (by decide) (by decide)) (w1 (by decide) (by decide)) (w1 (by decide) (by decide)) a1 a2 a3 (by decide) (by decide)
  go_wp2_with fail
  refine t10.mono ?_
  rintro e v10 ⟨x, y, rx, ry, rfl, hx, hy, hIx, hIy, hlx, hly, hb10⟩
  have ex : rx = [18446744073709551614, 1] := isN_unique hIx ⟨w2 (by decide) (by decide) (by decide) (by decide), by decide, by decide⟩
  subst ex
  obtain ⟨a_x, b_x, o_x, c_x, rfl, _, _, hx, _⟩ := hx.is
  have hB := join b1 hb10
  have hs := hs.keep hB
  have hd := hd.keep hB
  have hq := hq.keep hB
  have hn := hn.keep hB
  have hp := hp.keep hB
  have HB := join HB hB
  clear b1 hb10 hIx hIy hlx hly hB t10 a1 a2 a3 hy
  obtain ⟨a1, b1⟩ := built2 v10 0 1
  have t11 := helpNat a_s 2 c_s b_s o_s _ 2 2 _ 0 [0, 1] [0, 1] _ rfl rfl (by decide) (by decide) (hs.keep b1) a1
  rw [eqB_true rfl] at t11
  go_wp2_with fail
  refine t11.mono ?_
  rintro e v11 ⟨rfl, hbz⟩
  have hB := join b1 hbz
  have hd := hd.keep hB
  have hq := hq.keep hB
  have hn := hn.keep hB
  have hp := hp.keep hB
  have hx := hx.keep hB
  have HB := join HB hB
  clear b1 hbz hB t11 a1 hs
  obtain ⟨a1, b1⟩ := built1 v11 18446744073709551615
  have t11 := helpNat a_d 1 c_d b_d o_d _ 1 1 _ 0 [18446744073709551615] [18446744073709551615] _ rfl rfl (by decide) (by decide) (hd.keep b1) a1
  rw [eqB_true rfl] at t11
  go_wp2_with fail
  refine t11.mono ?_
  rintro e v12 ⟨rfl, hbz⟩
  have hB := join b1 hbz
  have hq := hq.keep hB
  have hn := hn.keep hB
  have hp := hp.keep hB
  have hx := hx.keep hB
  have HB := join HB hB
  clear b1 hbz hB t11 a1 hd
  obtain ⟨a1, b1⟩ := built2 v12 1 1
  have t11 := helpNat a_q 2 c_q b_q o_q _ 2 2 _ 0 [1, 1] [1, 1] _ rfl rfl (by decide) (by decide) (hq.keep b1) a1
  rw [eqB_true rfl] at t11
  go_wp2_with fail
  refine t11.mono ?_
  rintro e v13 ⟨rfl, hbz⟩
  have hB := join b1 hbz
  have hn := hn.keep hB
  have hp := hp.keep hB
  have hx := hx.keep hB
  have HB := join HB hB
  clear b1 hbz hB t11 a1 hq
  obtain ⟨a1, b1⟩ := built2 v13 0 1
  have t11 := helpNat a_n 2 c_n b_n o_n _ 2 2 _ 0 [0, 1] [0, 1] _ rfl rfl (by decide) (by decide) (hn.keep b1) a1
  rw [eqB_true rfl] at t11
  go_wp2_with fail
  refine t11.mono ?_
  rintro e v14 ⟨rfl, hbz⟩
  have hB := join b1 hbz
  have hp := hp.keep hB
  have hx := hx.keep hB
  have HB := join HB hB
  clear b1 hbz hB t11 a1 hn
  obtain ⟨a1, b1⟩ := built2 v14 0 1
  have t11 := text_any _ 2 2 _ 0 [0, 1] _ rfl (by decide) (by decide) (w2 (by decide) (by decide) (by decide) (by decide)) a1 (fun g h1 h2 h3 h4 wx _ => by rw [text_big h1 (h2.trans (by decide)) h3 h4]; exact app_one wx)
  go_wp2_with fail
  refine t11.mono ?_
  rintro e v15 ⟨S, rfl, hS, _, hbz⟩
  have eS : S = ⟨#[49, 56, 52, 52, 54, 55, 52, 52, 48, 55, 51, 55, 48, 57, 53, 53, 49, 54, 49, 54]⟩ := text_is hS [49, 56, 52, 52, 54, 55, 52, 52, 48, 55, 51, 55, 48, 57, 53, 53, 49, 54, 49, 54] (by decide) (by decide) (by decide) (by decide)
  subst eS
  have hB := join b1 hbz
  have hp := hp.keep hB
  have hx := hx.keep hB
  have HB := join HB hB
  clear b1 hbz hB t11 a1 hS
  obtain ⟨a1, b1⟩ := built1 v15 256
  have t11 := bytes_any _ 1 1 _ 0 [256] _ rfl (by decide) (by decide) (w1 (by decide) (by decide)) a1
  go_wp2_with fail
  refine t11.mono ?_
  rintro e v16 ⟨y, ry, rfl, hy, hIy, _, _, hbz⟩
  have ey : ry = [1, 0] := isB_unique hIy ⟨fun c hc => by simp at hc; omega, fun _ => by rw [nth_zero]; decide, by decide⟩
  subst ey
  obtain ⟨a_y, b_y, o_y, c_y, rfl, _, _, hy, _⟩ := hy.is
  have hB := join b1 hbz
  have hp := hp.keep hB
  have hx := hx.keep hB
  have HB := join HB hB
  clear b1 hbz hB t11 a1 hIy
  obtain ⟨a1, b1⟩ := builtB v16 1 0
  have t11 := helpBytes a_y 2 c_y b_y o_y _ 2 2 _ 0 [1, 0] [1, 0] _ rfl rfl (by decide) (by decide) (hy.keep b1) a1
  rw [eqB_true rfl] at t11
  go_wp2_with fail
  refine t11.mono ?_
  rintro e v17 ⟨rfl, hbz⟩
  have hB := join b1 hbz
  have hp := hp.keep hB
  have hx := hx.keep hB
  have HB := join HB hB
  clear b1 hbz hB t11 a1 hy
  obtain ⟨a1, a2, b1⟩ := built11 v17 12 18
  have t11 := gcd_small _ 1 1 _ 0 _ 1 1 _ 0 [12] [18] _ rfl rfl (by decide) (by decide) (by decide) (by decide) (w1 (by decide) (by decide)) (w1 (by decide) (by decide)) a1 a2 (.inl ⟨by decide, by decide⟩)
  go_wp2_with fail
  refine t11.mono ?_
  rintro e v18 ⟨y, ry, rfl, hy, hIy, _, hbz⟩
  have ey : ry = [6] := isN_unique hIy ⟨w1 (by decide) (by decide), by decide, by decide⟩
  subst ey
  obtain ⟨a_y, b_y, o_y, c_y, rfl, _, _, hy, _⟩ := hy.is
  have hB := join b1 hbz
  have hp := hp.keep hB
  have hx := hx.keep hB
  have HB := join HB hB
  clear b1 hbz hB t11 a1 a2 hIy
  obtain ⟨a1, b1⟩ := built1 v18 6
  have t11 := helpNat a_y 1 c_y b_y o_y _ 1 1 _ 0 [6] [6] _ rfl rfl (by decide) (by decide) (hy.keep b1) a1
  rw [eqB_true rfl] at t11
  go_wp2_with fail
  refine t11.mono ?_
  rintro e v19 ⟨rfl, hbz⟩
  have hB := join b1 hbz
  have hp := hp.keep hB
  have hx := hx.keep hB
  have HB := join HB hB
  clear b1 hbz hB t11 a1 hy
  obtain ⟨a1, b1⟩ := built2 v19 7766279631452241920 5
  have t11 := helpNat a_p 2 c_p b_p o_p _ 2 2 _ 0 [7766279631452241920, 5] [7766279631452241920, 5] _ rfl rfl (by decide) (by decide) (hp.keep b1) a1
  rw [eqB_true rfl] at t11
  go_wp2_with fail
  refine t11.mono ?_
  rintro e v20 ⟨rfl, hbz⟩
  have hB := join b1 hbz
  have hx := hx.keep hB
  have HB := join HB hB
  clear b1 hbz hB t11 a1 hp
  obtain ⟨a1, b1⟩ := built2 v20 18446744073709551614 1
  have t11 := helpNat a_x 2 c_x b_x o_x _ 2 2 _ 0 [18446744073709551614, 1] [18446744073709551614, 1] _ rfl rfl (by decide) (by decide) (hx.keep b1) a1
  rw [eqB_true rfl] at t11
  go_wp2_with fail
  refine t11.mono ?_
  rintro e v21 ⟨rfl, hbz⟩
  have hB := join b1 hbz
  have HB := join HB hB
  clear b1 hbz hB t11 a1 hx
  go_wp2
  go_ret
  exact ⟨rfl, HB⟩
end Go.Proofs.YtplmeahabddklaaDoor
