/- Several texts, joined: RefPa. -/
import Derived.Test.YtjihgkanbhccpaaGreatDoorJnc
import Derived.Laws.OwnMore
namespace Go.Proofs.YtjihgkanbhccpaaGreatDoor
open Go.RowKit Lim

/-- j digits are ten times what they were, and d more -/
structure TenInv (l lz : List Int) (d : Int) (j : Nat) (c : Int) : Prop where
  len : lz.length = l.length
  dig : Dig32 lz
  c0 : 0 ≤ c
  c1 : c ≤ 9
  old : ∀ m, j ≤ m → nth lz m = nth l m
  val : v32 (lz.take j) + 4294967296 ^ j * c = 10 * v32 (l.take j) + d
theorem TenInv.step {l lz : List Int} {d c s : Int} {j : Nat} (h : TenInv l lz d j c) (hj : j < l.length) (hs : s = nth lz j * 10 + c) :
    TenInv l (lz.set j (s % 4294967296)) d (j + 1) (s / 4294967296) := by
  have hl := h.len
  have hx := h.dig.nth j
  have h3 := h.c0
  have h4 := h.c1
  refine ⟨by simp [hl], h.dig.set _ (by omega) (by omega), by omega, by omega, fun m hm => ?_, ?_⟩
  · rw [nth_set (by omega), if_neg (by omega)]; exact h.old m (by omega)
  · have h5 := h.val
    have h6 := h.old j (Nat.le_refl _)
    have e : s = 4294967296 * (s / 4294967296) + s % 4294967296 := (Int.mul_ediv_add_emod s 4294967296).symm
    rw [v32_take_set (by omega), v32_take_succ, Int.pow_succ]
    generalize s / 4294967296 = q at *
    generalize s % 4294967296 = r at *
    have e2 : (4294967296 : Int) ^ j * (4294967296 * q + r) = 4294967296 ^ j * (nth l j * 10 + c) := by rw [← e, hs, h6]
    grind
theorem TenInv.fin {l lz : List Int} {d c : Int} {n : Nat} (h : TenInv l lz d n c) (hn : l.length = n) : v32 lz + 4294967296 ^ n * c = 10 * v32 l + d := by
  have h5 := h.val
  have hl := h.len
  rwa [List.take_of_length_le (by omega), List.take_of_length_le (by omega)] at h5
theorem v32_snoc (l : List Int) (c : Int) : v32 (l ++ [c]) = v32 l + 4294967296 ^ l.length * c := by rw [v32_append]; simp [v32]
theorem dig_snoc {l : List Int} {c : Int} (h : Dig32 l) (h0 : 0 ≤ c) (h1 : c < 4294967296) : Dig32 (l ++ [c]) := fun x hx => by
  rcases List.mem_append.1 hx with e | e
  · exact h x e
  · simp at e; subst e; exact ⟨h0, h1⟩
theorem mine_nil (w : World) (B : Nat) : Mine w B (.slice none 0 0) [] := World.ownsRow_nil w B _ _
theorem one_new (w : World) (u1 : Value) : ∀ j u, [u1][j]? = some u → (w.alloc (.cells #[u1] 39)).cell? ((⟨w.heap.size, 0, none⟩ : Addr).add j) = some u := by
  intro j u hj
  match j, hj with
  | 0, hj =>
    rw [show ((⟨w.heap.size, 0, none⟩ : Addr).add 0) = ⟨w.heap.size, 0, none⟩ from rfl, cell_new]
    simpa using hj
theorem mine_snoc {w : World} {B n : Nat} {v : Value} {l : List Int} {c : Int} (hl : l.length = n) (h : w.ownsRow B 39 1 v (n + 1) (l.map (Value.int .u64) ++ [.int .u64 c])) : Mine w B v (l ++ [c]) := by
  unfold Mine
  rw [List.length_append, hl, List.map_append]; exact h

def parV (s : ByteArray) : Int := if isT s.data.toList = true then dval s.data.toList else 0
def parE (s : ByteArray) : Int := if isT s.data.toList = true then 0 else 13
theorem retPE {v : Value} {a b : Int} (h : a = b) : Ending.returned (.tuple #[v, .int .i64 a]) = .returned (.tuple #[v, .int .i64 b]) := by rw [h]
theorem par_no {s : ByteArray} (h : isT s.data.toList = false) : parV s = 0 ∧ parE s = 13 := by unfold parV parE; rw [h]; exact ⟨rfl, rfl⟩
theorem par_yes {s : ByteArray} (h : isT s.data.toList = true) : parV s = dval s.data.toList ∧ parE s = 0 := by unfold parV parE; rw [h]; exact ⟨rfl, rfl⟩

set_option maxHeartbeats 4000000 in
set_option maxRecDepth 100000 in
theorem rParse_loop {w : World} (s : ByteArray) (h0 : 0 < s.size) (hs : s.size ≤ 34359738368) (hz : ¬ (s[0].toNat = 48 ∧ 1 < s.size)) :
    Calls Tryz.prog 115 #[.string s] w fun e w' => ∃ a k d, e = .returned (.tuple #[.slice a k d, .int .i64 (parE s)]) ∧ NatO w' a k d (parV s) ∧ k ≤ s.size ∧ Below w.heap.size w w' := by
  have hcase : (((s[0].toNat : Int) == 48) = false) ∨ (((s[0].toNat : Int) == 48) = true ∧ s.size = 1) := by
    by_cases c : s[0].toNat = 48
    · right; exact ⟨by rw [beq_iff_eq]; omega, by omega⟩
    · left; rw [beq_eq_false_iff_ne]; omega
  have hT := isT_iff s h0
  have hT2 : isT s.data.toList = s.data.toList.all isD := by
    rw [hT]
    have : (!decide (s[0].toNat = 48) || decide (s.size = 1)) = true := by
      simp only [Bool.or_eq_true, Bool.not_eq_true', decide_eq_false_iff_not, decide_eq_true_eq]
      omega
    rw [this, Bool.true_and]
  have HT := (show Hid _ from hT2)
  clear hT hT2 hz
  have hone : (s.size : Int) ≤ 1 ∨ 1 < (s.size : Int) := by omega
  have hne0 : ((s.size : Int) == 0) = false := beq_eq_false_iff_ne.2 (by omega)
  have hgo : ∀ K : Prop, (((((s[0].toNat : Int) == 48) = false) ∧ (1 : Int) < s.size) → K) → (((s.size : Int) ≤ 1 ∧ (s.size : Int) ≤ 1) → K) → K := fun K a b => by
    rcases hone with o | o
    · exact b ⟨o, o⟩
    · rcases hcase with e | e
      · exact a ⟨e, o⟩
      · omega
  clear hcase hone
  refine hgo _ (fun ⟨hq, hq2⟩ => ?_) (fun ⟨hq, hq2⟩ => ?_)
  all_goals
    clear hgo
    go_enter Tryz.func115, Tryz.ntmps115
    go_wp2_with fail
    go_loopw [4, 5] (fun tx ti wr => ∃ (k : Nat) (l : List Int), k ≤ s.size ∧ ti = .int .i64 k ∧ Mine wr w.heap.size tx l ∧ Dig32 l ∧ Hid (v32 l = dval (s.data.toList.take k)) ∧ Hid ((s.data.toList.take k).all isD = true) ∧ l.length ≤ k ∧ Below w.heap.size w wr) (fun _ ti _ => s.size - (intOf ti).toNat)
    case atStart => exact ⟨0, [], Nat.zero_le _, rfl, mine_nil _ _, fun x hx => by simp at hx, rfl, rfl, Nat.le_refl _, Below.refl _ _⟩
    case round =>
      obtain ⟨k, l, hk, rfl, hM, dl, hv, hall, hlk, hbe⟩ := hrel
      obtain ⟨wo, rfl⟩ : ∃ wo : World, wo = wr := ⟨_, rfl⟩
      have hsz := hbe.size
      by_cases hlt : k < s.size
      · by_cases hd : isD s[k] = true
        · have hd2 : (48 : Int) ≤ s[k].toNat ∧ (s[k].toNat : Int) ≤ 57 := by
            simp only [isD, decide_eq_true_eq] at hd; omega
          obtain ⟨hd0, hd1⟩ := hd2
          have HV : Hid (dval (s.data.toList.take (k + 1)) = 10 * dval (s.data.toList.take k) + ((s[k].toNat : Int) - 48)) := by show _ = _; rw [take_snoc s k hlt, dval_snoc]
          have HAL : Hid ((s.data.toList.take (k + 1)).all isD = true) := by show _ = _; rw [all_take_succ s k hlt, hall.out, hd]; rfl
          have hk0 : (k : Int) < s.size := by omega
          clear hall hd
          obtain ⟨ax, cx, rfl, hcx, hmx, gx, hloc, hgx, hatx, hfrx⟩ := hM.open
          go_wp2_with fail
          go_loopw [6, 7] (fun tc tj wr => ∃ (j : Nat) (c : Int) (lz : List Int), j ≤ l.length ∧ tj = .int .i64 j ∧ tc = .int .u64 c ∧ TenInv l lz ((s[k].toNat : Int) - 48) j c ∧ Mine wr w.heap.size (.slice ax l.length cx) lz ∧ Below w.heap.size w wr) (fun _ tj _ => l.length - (intOf tj).toNat)
          case atStart => exact ⟨0, (s[k].toNat : Int) - 48, l, Nat.zero_le _, rfl, rfl, ⟨rfl, dl, by omega, by omega, fun _ _ => rfl, by simp [v32]⟩, hM, hbe⟩
          case round =>
            clear hM hbe hatx hfrx hsz
            obtain ⟨j, c, lz, hj, rfl, rfl, hinv, hM, hbe⟩ := hrel
            have hlen := hinv.len
            have hsz := hbe.size
            have c0 := hinv.c0
            have c1 := hinv.c1
            by_cases hlj : j < l.length
            · rcases hloc with e | rfl
              · subst e; simp at hlj
              have hj0 : (j : Int) < l.length := by omega
              have hx := hinv.dig.nth j
              obtain ⟨q1, q2⟩ := hM.cell (i := j) (by omega)
              have HS := (show Hid _ from hinv.step hlj rfl)
              have hand := and32 (nth lz j * 10 + c) (by omega) (by omega)
              have hM2 := hM.setCell (c := cx) (g := gx) (by rw [hlen]) (i := j) (by omega) ((nth lz j * 10 + c) % 4294967296)
              rw [Nat.zero_add] at hM2
              have HM := (show Hid _ from hM2)
              have HBE := (show Hid _ from hbe.setCell (p := ⟨gx, j, none⟩) hgx (.int .u64 ((nth lz j * 10 + c) % 4294967296)))
              clear hinv hM hM2 hbe
              generalize nth lz j = g1 at *
              go_wp2
              all_goals first | exact ⟨⟨j + 1, _, _, by omega, by go_num, rfl, HS.out, HM.out, HBE.out⟩, by simp [intOf]; omega⟩ | omega
            · have hjl : j = l.length := by omega
              have hF := hinv.fin hjl.symm
              have dz := hinv.dig
              have HF := (show Hid _ from hF)
              clear hF hinv
              by_cases hc0 : 0 < c
              · obtain ⟨i0, hi, hz0, hz1, hz2⟩ := info_parts info_u64
                have hown : wr.ownsRow w.heap.size 39 1 (.slice ax l.length cx) l.length (lz.map (Value.int .u64)) := mine_row hM hlen
                have hge := own_ge hM
                have hlx : lz.length = l.length := hlen
                have HL : Hid (lz.length = l.length) := hlen
                have hll : l.length ≤ s.size := by omega
                clear hlen hM
                go_wp2_with (at_builtin; refine wpList_append_own _ rfl _ _ 27 rfl w.heap.size 39 i0 (.int .u64 0) 1 8 under_u64r hi hz0 hz1 hz2 rfl (by decide) _ _ _ rfl (hown.alloc _) ⟨wr.heap.size, 0, none⟩ 1 1 [.int .u64 c] rfl rfl ?c1 ?c2 ?c3 ?c4 ?c5 ?_)
                case c1 => exact one_new _ _
                case c2 => intro u hu; simp at hu; subst hu; rfl
                case c3 => unfold maxLen; omega
                case c4 => omega
                case c5 => simp; omega
                intro v' w5 hown' hgrow _
                have hM5 := mine_snoc HL.out hown'
                have hB5 := (hbe.alloc (by omega) (.cells #[.int .u64 c] 39)).grown hgrow (by simp; omega) hge
                have hV5 : v32 (lz ++ [c]) = dval (s.data.toList.take (k + 1)) := by
                  have e1 : v32 l = dval (s.data.toList.take k) := hv.out
                  have e2 := HF.out
                  rw [v32_snoc, HL.out, HV.out, ← e1, ← hjl]
                  omega
                have HV5 := (show Hid _ from hV5)
                have hl5 : (lz ++ [c]).length ≤ k + 1 := by rw [List.length_append, HL.out]; simp; omega
                have dz5 := dig_snoc dz (by omega) (show c < 4294967296 by omega)
                clear hown hown' hgrow hge hbe hv HF HL hV5 dz hi hz0 hz1 hz2
                generalize lz ++ [c] = lw at *
                go_wp2
                all_goals exact ⟨⟨k + 1, lw, by omega, by go_num, hM5, dz5, HV5, HAL, hl5, hB5⟩, by simp [intOf]; omega⟩
              · obtain rfl : c = 0 := by omega
                have hV5 : v32 lz = dval (s.data.toList.take (k + 1)) := by
                  have e1 : v32 l = dval (s.data.toList.take k) := hv.out
                  have e2 := HF.out
                  rw [HV.out, ← e1]
                  simp only [Int.mul_zero, Int.add_zero] at e2
                  omega
                have HV5 := (show Hid _ from hV5)
                clear hV5 HF hv
                go_wp2
                all_goals exact ⟨⟨k + 1, lz, by omega, by go_num, hM, dz, HV5, HAL, by omega, hbe⟩, by simp [intOf]; omega⟩
        · have hN : isT s.data.toList = false := by
            rw [HT.out, Bool.eq_false_iff]
            intro hall'
            rw [List.all_eq_true] at hall'
            exact hd (hall' _ (by
              have : s[k] = s.data.toList[k]'(by simpa using hlt) := rfl
              rw [this]; exact List.getElem_mem _))
          obtain ⟨p1, p2⟩ := par_no hN
          have hk0 : (k : Int) < s.size := by omega
          have hd2 : (s[k].toNat : Int) < 48 ∨ 57 < (s[k].toNat : Int) := by
            simp only [isD, Bool.not_eq_true, decide_eq_false_iff_not] at hd; omega
          have P1 := (show Hid _ from p1)
          have P2 := (show Hid _ from p2)
          have HD2 := (show Hid _ from hd2)
          clear hd hd2 hN p1 p2 hv hall hM
          have hd3 := HD2.out
          clear HD2
          rcases hd3 with hd3 | hd3
          · go_wp2
            go_ret2
            exact ⟨none, 0, 0, retPE P2.out.symm, (natO_nil _).eqv P1.out.symm, Nat.zero_le _, hbe⟩
          · have hd4 : ¬ (s[k].toNat : Int) < 48 := by omega
            go_wp2
            go_ret2
            exact ⟨none, 0, 0, retPE P2.out.symm, (natO_nil _).eqv P1.out.symm, Nat.zero_le _, hbe⟩
      · have hkn : k = s.size := by omega
        subst hkn
        have hwhole : s.data.toList.take s.size = s.data.toList := List.take_of_length_le (by simp)
        have h1 := hall.out
        have h2 := hv.out
        rw [hwhole] at h1 h2
        obtain ⟨p1, p2⟩ := par_yes (by rw [HT.out]; exact h1)
        have P2 := (show Hid _ from p2)
        obtain ⟨ax, cx, rfl, hcx, hmx, gx, hloc, hgx, hatx, hfrx⟩ := hM.open
        have t := number_any ax l.length cx gx 0 l wo rfl hcx (by omega) dl hatx
        rw [h2, ← p1] at t
        clear h1 h2 hv hall hwhole p1 p2 hM hatx hfrx
        go_wp2_with fail
        refine t.mono ?_
        rintro e w5 ⟨v, r, rfl, hnw, hI, hlr, hB5⟩
        obtain ⟨a, d, rfl, hO⟩ := hnw.o hI
        go_wp2
        go_ret2
        exact ⟨a, _, d, retPE P2.out.symm, hO, by omega, joinB hbe hB5⟩

set_option maxHeartbeats 1000000 in
set_option maxRecDepth 100000 in
theorem rParse {w : World} (s : ByteArray) (hs : s.size ≤ 34359738368) :
    Calls Tryz.prog 115 #[.string s] w fun e w' => ∃ a k d, e = .returned (.tuple #[.slice a k d, .int .i64 (parE s)]) ∧ NatO w' a k d (parV s) ∧ k ≤ s.size ∧ Below w.heap.size w w' := by
  by_cases h0 : 0 < s.size
  · by_cases hz : s[0].toNat = 48 ∧ 1 < s.size
    · have hN : isT s.data.toList = false := by
        rw [isT_iff s h0, decide_eq_true hz.1, decide_eq_false (by omega)]; rfl
      obtain ⟨p1, p2⟩ := par_no hN
      have P1 := (show Hid _ from p1)
      have P2 := (show Hid _ from p2)
      have hb1 : ((s[0].toNat : Int) == 48) = true := by rw [beq_iff_eq]; omega
      have hb2 : (1 : Int) < s.size := by omega
      have hb3 : ((s.size : Int) == 0) = false := beq_eq_false_iff_ne.2 (by omega)
      clear p1 p2 hN hz
      go_enter Tryz.func115, Tryz.ntmps115
      go_wp2
      go_ret2
      exact ⟨none, 0, 0, retPE P2.out.symm, (natO_nil _).eqv P1.out.symm, Nat.zero_le _, Below.refl _ _⟩
    · exact rParse_loop s h0 hs hz
  · have hN : isT s.data.toList = false := by
      have : s.data.toList = [] := List.eq_nil_of_length_eq_zero (by rw [len_data]; omega)
      rw [this]; rfl
    obtain ⟨p1, p2⟩ := par_no hN
    have P1 := (show Hid _ from p1)
    have P2 := (show Hid _ from p2)
    have hb3 : ((s.size : Int) == 0) = true := by rw [beq_iff_eq]; omega
    clear p1 p2 hN
    go_enter Tryz.func115, Tryz.ntmps115
    go_wp2
    go_ret2
    exact ⟨none, 0, 0, retPE P2.out.symm, (natO_nil _).eqv P1.out.symm, Nat.zero_le _, Below.refl _ _⟩
theorem nParse {w : World} (s : ByteArray) (hs : s.size ≤ 1099511627776) :
    Calls Tryz.prog 113 #[.string s] w fun e w' => ∃ a k d, e = .returned (.tuple #[.slice a k d, .int .i64 (parE s)]) ∧ NatO w' a k d (parV s) ∧ k ≤ s.size + 1 ∧ Below w.heap.size w w' := by
  by_cases hT : isT s.data.toList = true
  · obtain ⟨p1, p2⟩ := par_yes hT
    rw [p1, p2]
    refine (parse_yes s w hs hT).mono ?_
    rintro e w' ⟨v, r, rfl, hnw, hI, hlen, hB⟩
    obtain ⟨a, d, rfl, hO⟩ := hnw.o hI
    exact ⟨a, _, d, rfl, hO, hlen, hB⟩
  · have hT : isT s.data.toList = false := by rw [Bool.not_eq_true] at hT; exact hT
    obtain ⟨p1, p2⟩ := par_no hT
    rw [p1, p2]
    refine (parse_no s w hs hT).mono ?_
    rintro e w' ⟨rfl, rfl⟩
    exact ⟨none, 0, 0, rfl, natO_nil _, Nat.zero_le _, Below.refl _ _⟩
end Go.Proofs.YtjihgkanbhccpaaGreatDoor
