/- Several texts, joined: RefTx. -/
import Derived.Test.YtjihgkanbhccpaaGreatDoorJgb
import Derived.Test.YtjihgkanbhccpaaGreatDoorJna
import Derived.RegionTactic
import Derived.ChangeAlike
namespace Go.Proofs.YtjihgkanbhccpaaGreatDoor
open Go.RowKit Lim

/-- what the outer loop of Text keeps: digits of 32 bits still to be told, decimal digits that are laid -/
structure TxInv (w w1 wr : World) (a1 : Option Addr) (b1 o1 d1 n : Nat) (N : Int) (tx tO : Value) : Prop where
  ex : ∃ (l O : List Int), tx = .slice a1 l.length d1 ∧ l.length ≤ d1 ∧ l.length ≤ 2 * n ∧ Dig32 l ∧ nlen l = l.length ∧ At wr a1 b1 o1 l ∧ Free wr b1 o1 l.length ∧ MineB wr w1.heap.size tO O ∧ DigI O ∧ N = v32 l * 10 ^ O.length + rdv O ∧ (v32 l = 0 → (O = [] ∧ N = 0) ∨ (O ≠ [] ∧ nth O (O.length - 1) ≠ 48)) ∧ O.length ≤ 64 * n + 9 ∧ w1.heap.size ≤ wr.heap.size ∧ Below w.heap.size w wr
theorem nlen_pos {l : List Int} (h : Dig32 l) (hn : nlen l = l.length) (h0 : 0 < l.length) : 0 < v32 l := by
  have h1 := nlen_last (l := l) (by omega)
  rw [hn] at h1
  have h2 := v32_ge h h0 h1
  have := p32_pos (l.length - 1)
  omega

theorem AtB.set0 {w : World} {ao : Option Addr} {b : Nat} {l : List Int} (k : AtB w ao b 0 l) {i : Nat} (hi : i < l.length) (x : Int) : AtB (w.setCell ⟨b, i, none⟩ (.int .u8 x)) ao b 0 (l.set i x) := by
  have := k.setCell hi x
  rwa [Nat.zero_add] at this
theorem nine0 {r : Int} (h : r < 1000000000) : r < 10 ^ (9 - 0) := by
  have e : (10 : Int) ^ (9 - 0) = 1000000000 := by decide
  rw [e]; exact h
theorem tx_next {w w1 wo wz wr : World} {b1 o1 d1 n K : Nat} {x : Int} {l L P : List Int} {v : Value} (h1 : L.length = K) (h2 : K ≤ d1) (h3 : K ≤ 2 * n) (h4 : Dig32 L) (h5 : nlen L = L.length)
    (h6 : At wz (some ⟨b1, o1, none⟩) b1 o1 L) (h7 : Free wz b1 o1 K) (h8 : b1 < w1.heap.size) (h9 : MineB wr w1.heap.size v P) (h10 : DigI P) (h11 : x = v32 L * 10 ^ P.length + rdv P) (h12 : v32 L = 0 → P ≠ [] ∧ nth P (P.length - 1) ≠ 48)
    (h13 : P.length ≤ 64 * n + 9) (h14 : w1.heap.size ≤ wr.heap.size) (h15 : Below w.heap.size w wz) (h16 : Below w1.heap.size wz wr) (h17 : w.heap.size ≤ w1.heap.size) (h18 : memD wo (.slice (some ⟨b1, o1, none⟩) l.length d1) = v32 l) (h19 : (v32 L).toNat < (v32 l).toNat) :
    TxInv w w1 wr (some ⟨b1, o1, none⟩) b1 o1 d1 n x (.slice (some ⟨b1, o1, none⟩) K d1) v ∧ (memD wr (.slice (some ⟨b1, o1, none⟩) K d1)).toNat < (memD wo (.slice (some ⟨b1, o1, none⟩) l.length d1)).toNat := by
  subst h1
  have hA := h6.below h16 (.inr h8)
  refine ⟨⟨L, P, rfl, h2, h3, h4, h5, hA, Free.below h16 h7 h8, h9, h10, h11, fun e => .inr (h12 e), h13, h14, h15.trans (h16.mono h17)⟩, ?_⟩
  rw [memD_at hA, h18]; exact h19
theorem last_snoc (P : List Int) (c : Int) : nth (P ++ [c]) ((P ++ [c]).length - 1) = c := by
  rw [nth_append_right (by simp)]
  simp [nth]

set_option maxHeartbeats 8000000 in
set_option maxRecDepth 100000 in
theorem rText {w : World} {ao : Option Addr} {n c : Nat} {x : Int} (h : NatA w ao n c x) (hn : n ≤ 1073741824) :
    Calls Tryz.prog 119 #[.slice ao n c] w fun e w' => ∃ s, e = .returned (.string s) ∧ TextOf s x ∧ s.size ≤ 64 * n + 40 ∧ Below w.heap.size w w' := by
  obtain ⟨b, o, l0, hl0, hc0, hw0, ha0, hx⟩ := h.ex
  have hN := val_lt hw0
  rw [hl0, hx] at hN
  have hNN := h.nonneg
  have HN := (show Hid _ from hN)
  have hD := digits_any ao n c b o l0 w hl0 (by omega) hw0 ha0
  rw [hx] at hD
  clear h hN hx ha0 hw0
  obtain ⟨i0, hi0, hz0, hz1, hz2⟩ := info_parts info_u8
  go_enter Tryz.func119, Tryz.ntmps119
  go_wp2_with fail
  refine hD.mono ?_
  rintro e w1 ⟨v, l, rfl, hnw, dl, nl, hv, hll, hB1⟩
  obtain ⟨a1, b1, o1, d1, rfl, hc1, hb1, A1, F1⟩ := hnw.is
  have hb1' : l = [] ∨ b1 < w1.heap.size := A1.lt
  clear hnw hD
  obtain ⟨g1, hg1, hg2⟩ : ∃ g1 : Nat, g1 = w1.heap.size ∧ (l = [] ∨ b1 < g1) := ⟨_, rfl, hb1'⟩
  have hst : TxInv w w1 w1 a1 b1 o1 d1 n x (.slice a1 l.length d1) (.slice none 0 0) := ⟨l, [], rfl, hc1, hll, dl, nl, A1, F1, mineB_nil _ _, fun c hc => by simp at hc, by simp [rdv, hv], fun h0 => .inl ⟨rfl, by rw [← hv]; exact h0⟩, by simp, Nat.le_refl _, hB1⟩
  have hb2 : l = [] ∨ b1 < w1.heap.size := hb1'
  by_cases hl00 : l = []
  · subst hl00
    have hN0 : x = 0 := by rw [← hv]; rfl
    have HN0 := (show Hid _ from hN0)
    clear hN0 hv hst hg1 hg2 hb1' hb2 HN
    go_wp2_with fail
    go_loopw [3, 4] (fun tx tO wr => tx = .slice a1 0 d1 ∧ tO = .slice none 0 0 ∧ Below w.heap.size w wr) (fun _ _ _ => 0)
    case atStart => exact ⟨rfl, rfl, hB1⟩
    case round =>
      obtain ⟨rfl, rfl, hB⟩ := hrel
      go_wp2
      go_ret
      exact ⟨_, rfl, ⟨[48], rfl, fun c hc => by rw [List.mem_singleton] at hc; subst hc; decide, by rw [HN0.out]; rfl, by simp, .inl rfl⟩, by show 1 ≤ _; omega, hB⟩
  · have hb3 : b1 < w1.heap.size := by
      rcases hb2 with e | e
      · exact absurd e hl00
      · exact e
    obtain rfl : a1 = some ⟨b1, o1, none⟩ := by
      rcases A1.loc with e | e
      · exact absurd e hl00
      · exact e
    have HB1S := (show Hid _ from hB1.size)
    clear hb2 hb1' hg1 hg2 g1 A1 F1 dl nl hc1 hv hl00
    go_wp2_with fail
    go_loopw [3, 4] (fun tx tO wr => TxInv w w1 wr (some ⟨b1, o1, none⟩) b1 o1 d1 n x tx tO) (fun tx _ wr => (memD wr tx).toNat)
    case atStart => exact hst
    case round =>
      clear hst hB1 hll
      clear hc0
      obtain ⟨l, O, rfl, hcl, hll, dl, nl, hat, hfr, hM, dO, hNV, hend, hOl, hszr, hB⟩ := hrel.ex
      clear hrel
      obtain ⟨wo, rfl⟩ : ∃ wo : World, wo = wr := ⟨_, rfl⟩
      by_cases hlp : 0 < l.length
      · have hV0 := nlen_pos dl nl hlp
        have hOL := ten_fit hNV hV0 (rdv_nonneg dO) HN.out
        have hMu : memD wo (.slice (some ⟨b1, o1, none⟩) l.length d1) = v32 l := memD_at hat
        have HMu := (show Hid _ from hMu)
        have HNV := (show Hid _ from hNV)
        have HV0 := (show Hid _ from hV0)
        clear hMu hNV hend hV0 hOl
        have hlp0 : (0 : Int) < l.length := by omega
        go_wp2_with fail
        go_loopw [5, 6] (fun tr ti wr => ∃ (m : Nat) (r : Int) (lz : List Int), m ≤ l.length ∧ ti = .int .i64 ((m : Int) - 1) ∧ tr = .int .u64 r ∧ BilInv l lz l.length m r ∧ At wr (some ⟨b1, o1, none⟩) b1 o1 lz ∧ Wr b1 o1 l.length wo wr) (fun _ ti _ => (intOf ti + 1).toNat)
        case atStart => exact ⟨l.length, 0, l, Nat.le_refl _, by first | rfl | go_num, rfl, ⟨rfl, dl, by decide, by decide, fun _ _ => rfl, by simp [v32]⟩, hat, Wr.refl _ _ _ _⟩
        case round =>
          clear hat
          obtain ⟨m, r, lz, hm, rfl, rfl, hinv, hat, hwr⟩ := hrel
          have hlz := hinv.len
          have r0 := hinv.r0
          have r1 := hinv.r1
          cases m with
          | succ m =>
            have hxx := dl.nth m
            have q1 := hat.cell m (by omega)
            rw [hinv.old m (by omega)] at q1
            have q2 := hwr.free hfr m (by omega)
            have HS := (show Hid _ from hinv.step (by omega) dl rfl)
            have hor := shl_or32 r (nth l m) (by omega) hxx
            have HA := (show Hid _ from hat)
            have HW := (show Hid _ from hwr)
            have hm0 : (m : Int) < l.length := by omega
            rw [show ((m + 1 : Nat) : Int) - 1 = (m : Int) by omega]
            clear hinv hat hwr hM hfr hB
            generalize nth l m = X at *
            go_wp2
            all_goals exact ⟨⟨m, _, _, by omega, by first | rfl | go_num, rfl, HS.out, HA.out.setCell (by omega) _, HW.out.setCell (by omega) (by omega) _⟩, by simp [intOf]⟩
          | zero =>
            have hv := hinv.val
            rw [List.drop_zero, List.drop_zero] at hv
            have dz := hinv.dig
            have hVz := (v32_bound dz).1
            have hM2 := hM.wr hwr hb3
            have hfr2 := hwr.free hfr
            have hB2 := hB.trans (hwr.below (B := w.heap.size) hb1)
            have hsz2 : w1.heap.size ≤ wr.heap.size := by rw [hwr.size]; exact hszr
            have t := refTrim_any (some ⟨b1, o1, none⟩) l.length d1 lz wr hlz hcl (by omega) hat.cells
            have hls := nlen_le lz
            have hat2 := hat.sub (nlen lz)
            have hfr3 : Free wr b1 o1 (nlen lz) := fun i hi => hfr2 i (by omega)
            have dz2 : Dig32 (norm lz) := dz.take _
            have nz2 := nlen_norm lz
            have vz2 := v32_norm lz
            have lz2 := norm_length lz
            rw [show lz.take (nlen lz) = norm lz from rfl] at hat2
            generalize nlen lz = K at *
            generalize norm lz = L at *
            rw [← vz2] at hv hVz
            have hNV2 : x = (v32 L * 10 ^ (9 - 0) + r) * 10 ^ O.length + rdv O := by
              rw [HNV.out, ← hv]; rfl
            have hdec : (v32 L).toNat < (v32 l).toNat := by have := HV0.out; omega
            have hpos : ¬ (v32 L = 0 ∧ r = 0) := by have := HV0.out; omega
            have HNV2 := (show Hid _ from hNV2)
            have HDEC := (show Hid _ from hdec)
            have HPOS := (show Hid _ from hpos)
            have HVZ := (show Hid _ from hVz)
            have HZ : Hid (K = 0 → v32 L = 0) := fun e => by
              have : L = [] := List.eq_nil_of_length_eq_zero (by omega)
              rw [this]; rfl
            clear hNV2 hdec hpos hVz hv hinv hat hwr hM hfr hB vz2 HNV hfr2 dz hszr
            have HRL := (show Hid _ from lz2)
            have hKn : K ≤ 2 * n := by omega
            have hKd : K ≤ d1 := by omega
            clear lz2
            go_wp2_with fail
            refine t.mono ?_
            rintro e w5 ⟨rfl, rfl⟩
            clear t
            go_wp2_with fail
            obtain ⟨wz, hwz⟩ : ∃ wz : World, wz = w5 := ⟨_, rfl⟩
            subst hwz
            go_loopw [4, 5, 8] (fun tO tr tk wr => ∃ (k : Nat) (r : Int) (P : List Int), k ≤ 9 ∧ tk = .int .i64 k ∧ tr = .int .u64 r ∧ 0 ≤ r ∧ r < 1000000000 ∧ Hid (r < 10 ^ (9 - k)) ∧ MineB wr w1.heap.size tO P ∧ DigI P ∧ Hid (x = (v32 L * 10 ^ (9 - k) + r) * 10 ^ P.length + rdv P) ∧ Hid (v32 L = 0 → r = 0 → P ≠ [] ∧ nth P (P.length - 1) ≠ 48) ∧ P.length = O.length + k ∧ w1.heap.size ≤ wr.heap.size ∧ Below w1.heap.size wz wr) (fun _ _ tk _ => 9 - (intOf tk).toNat)
            case atStart => exact ⟨0, r, O, Nat.zero_le _, rfl, rfl, r0, r1, nine0 r1, hM2, dO, HNV2, fun e1 e2 => absurd ⟨e1, e2⟩ HPOS.out, rfl, hsz2, Below.refl _ _⟩
            case round =>
              clear hM2 dO HNV2 HPOS r0 r1
              obtain ⟨k, r, P, hk, rfl, rfl, r0, r1, hr9, hMP, dP, hNP, hendP, hPl, hszq, hBz⟩ := hrel
              have hB1s := HB1S.out
              by_cases hgo : k < 9 ∧ (0 < r ∨ 0 < K)
              · obtain ⟨hk9, hrk⟩ := hgo
                have hk9' : (k : Int) < 9 := by omega
                have hstp := nine_step hNP.out hk9 (c := 48 + r % 10) rfl
                rw [← rdv_snoc, show P.length + 1 = (P ++ [48 + r % 10]).length from by simp] at hstp
                obtain ⟨n1, n2⟩ := nine_lt hk9 r0 hr9.out
                have HSTP := (show Hid _ from hstp)
                have HN2 := (show Hid _ from n2)
                have HEND : Hid (v32 L = 0 → r / 10 = 0 → P ++ [48 + r % 10] ≠ [] ∧ nth (P ++ [48 + r % 10]) ((P ++ [48 + r % 10]).length - 1) ≠ 48) := fun e1 e2 => by
                  refine ⟨by simp, ?_⟩
                  rw [last_snoc]
                  have hr : 0 < r := by
                    rcases hrk with h | h
                    · exact h
                    · have := nlen_pos dz2 nz2 (by rw [HRL.out]; exact h)
                      omega
                  omega
                have dP2 := dP.snoc (c := 48 + r % 10) (by omega) (by omega)
                have hown := (show wr.ownsRow w1.heap.size 5 1 _ P.length (P.map (Value.int .u8)) from hMP)
                have hge := own_ge hMP
                have HPL : Hid (P.length = O.length + k) := hPl
                have hPn : P.length ≤ 64 * n + 9 := by omega
                clear hstp n2 hNP hendP hr9 dP hPl
                have hrk2 : (0 < r) ∨ (¬ 0 < r ∧ (0 : Int) < K) := by omega
                clear hrk
                have hr10 : 0 ≤ r % 10 ∧ r % 10 < 10 := by omega
                obtain ⟨hr10a, hr10b⟩ := hr10
                have hlp9 : (P ++ [48 + r % 10]).length = O.length + (k + 1) := by rw [List.length_append, HPL.out]; simp; omega
                have HLP9 := (show Hid _ from hlp9)
                clear hlp9
                rcases hrk2 with hrk | ⟨hrk, hrk3⟩
                all_goals
                  go_wp2_with (at_builtin; refine wpList_append_own _ rfl _ _ 131 rfl w1.heap.size 5 i0 (.int .u8 0) 1 1 under_bytes hi0 hz0 hz1 hz2 rfl (by decide) _ _ _ rfl (hown.alloc _) ⟨wr.heap.size, 0, none⟩ 1 1 [.int .u8 (48 + r % 10)] rfl rfl (one_newB _ _) (fun u hu => by simp at hu; subst hu; rfl) (by unfold maxLen; omega) (by omega) (by simp; omega) ?_)
                  intro v' w7 hown' hgrow _
                  have hM7 := mineB_snoc (l := P) rfl hown'
                  have hB7 : Below w1.heap.size wz w7 := (hBz.alloc (by omega) (.cells #[.int .u8 (48 + r % 10)] 5)).grown hgrow (by simp; omega) hge
                  have hsz7 : w1.heap.size ≤ w7.heap.size := Nat.le_trans (Nat.le_trans hszq (by simp)) hgrow.size
                  clear hown' hgrow
                  go_wp2
                  exact ⟨⟨k + 1, r / 10, P ++ [48 + r % 10], by omega, by go_num, rfl, n1, by omega, HN2, hM7, dP2, HSTP, HEND, HLP9.out, hsz7, hB7⟩, by simp [intOf]; omega⟩
              · have hr0 : r = 0 := by
                  by_cases e : k < 9
                  · omega
                  · have h9 := hr9.out
                    rw [show 9 - k = 0 from by omega, Int.pow_zero] at h9
                    omega
                subst hr0
                have hNP2 : x = v32 L * 10 ^ P.length + rdv P := by
                  have h1 := hNP.out
                  by_cases e : k < 9
                  · have hK0 : K = 0 := by omega
                    have hL0 : v32 L = 0 := HZ.out hK0
                    rw [hL0] at h1 ⊢
                    simpa using h1
                  · rw [show 9 - k = 0 from by omega, Int.pow_zero] at h1
                    simpa using h1
                have HNX := (show Hid _ from tx_next HRL.out hKd hKn dz2 nz2 hat2 hfr3 hb3 hMP dP hNP2 (fun e => hendP.out e rfl) (by omega) hszq hB2 hBz HB1S.out HMu.out HDEC.out)
                clear hNP hNP2 hendP hr9 HZ hMP
                by_cases hk9 : k < 9
                · have hk9' : (k : Int) < 9 := by omega
                  obtain rfl : K = 0 := by omega
                  go_wp2
                  exact HNX.out
                · have hk9' : ¬ (k : Int) < 9 := by omega
                  go_wp2
                  exact HNX.out
      · have hl0' : l = [] := List.eq_nil_of_length_eq_zero (by omega)
        subst hl0'
        have hE := hend rfl
        have hNV2 : x = rdv O := by rw [hNV]; simp [v32]
        have HNV2 := (show Hid _ from hNV2)
        clear hNV hend hNV2 hat hfr dl nl
        by_cases hO : O = []
        · subst hO
          have hN0 : x = 0 := HNV2.out
          have HN0 := (show Hid _ from hN0)
          clear hN0 hE
          obtain ⟨aO, cO, rfl⟩ := mineB_shape hM
          go_wp2
          go_ret
          exact ⟨_, rfl, ⟨[48], rfl, fun c hc => by rw [List.mem_singleton] at hc; subst hc; decide, by rw [HN0.out]; rfl, by simp, .inl rfl⟩, by show 1 ≤ _; omega, hB⟩
        · have hlast : nth O (O.length - 1) ≠ 48 := by
            rcases hE with e | e
            · exact absurd e.1 hO
            · exact e.2
          have hOp : 0 < O.length := Nat.pos_of_ne_zero fun e => hO (List.eq_nil_of_length_eq_zero e)
          obtain ⟨gO, cO, rfl, hcO, hgO, hatO, hfrO⟩ := hM.open hOp
          have HLAST := (show Hid _ from hlast)
          clear hlast hE hO hM
          have hO0 : ((O.length : Int) == 0) = false := beq_eq_false_iff_ne.2 (by omega)
          go_wp2_with fail
          go_loopw [9, 10] (fun ti tj wr => ∃ (i j : Nat) (L : List Int), i ≤ O.length ∧ i ≤ j + 1 ∧ ti = .int .i64 i ∧ tj = .int .i64 j ∧ i + j + 1 = O.length ∧ TurnInv O L i ∧ AtB wr (some ⟨gO, 0, none⟩) gO 0 L ∧ Wr gO 0 O.length wo wr) (fun ti tj _ => (intOf tj + 1 - intOf ti).toNat)
          case atStart => exact ⟨0, O.length - 1, O, Nat.zero_le _, by omega, rfl, by go_num, by omega, ⟨rfl, fun p hp hd => by omega, fun _ _ _ => rfl⟩, hatO, Wr.refl _ _ _ _⟩
          case round =>
            clear hatO
            obtain ⟨i, j, L, hi, hij, rfl, rfl, hs, hinv, hat, hwr⟩ := hrel
            by_cases hlt : i < j
            · have hlen := hinv.len
              have q1 := hat.cell i (by omega)
              have q2 := hat.cell j (by omega)
              have f1 := hwr.free hfrO i (by omega)
              have f2 := hwr.free hfrO j (by omega)
              rw [Nat.zero_add] at q1 q2 f1 f2
              have HS := (show Hid _ from hinv.step hs hlt)
              have HA1 := (show Hid _ from (hat.drew.set0 (i := i) (by omega) (nth L j)).set0 (i := j) (by simp only [List.length_set]; omega) (nth L i))
              have HA2 := (show Hid _ from (hat.drew.set0 (i := j) (by omega) (nth L i)).set0 (i := i) (by simp only [List.length_set]; omega) (nth L j))
              have HC : Hid ((L.set j (nth L i)).set i (nth L j) = (L.set i (nth L j)).set j (nth L i)) := List.set_comm _ _ (by omega)
              have HW := (show Hid _ from hwr.drew)
              have hi0' : (i : Int) < O.length := by omega
              have hj0' : (j : Int) < O.length := by omega
              have hij0 : (i : Int) < j := by omega
              have hne1 : ¬ i = j := by omega
              have hne2 : ¬ j = i := by omega
              clear hinv hat hwr hfrO
              generalize nth L i = X at *
              generalize nth L j = Y at *
              go_wp2_with fail
              go_region
              all_goals go_wp2
              all_goals first
                | exact ⟨⟨i + 1, j - 1, _, by omega, by omega, by go_num, by go_num, by omega, HS.out, HA1.out, (HW.out.setCell (by omega) (by omega) _).setCell (by omega) (by omega) _⟩, by simp [intOf]; omega⟩
                | exact ⟨⟨i + 1, j - 1, _, by omega, by omega, by go_num, by go_num, by omega, HS.out, HC.out ▸ HA2.out, (HW.out.setCell (by omega) (by omega) _).setCell (by omega) (by omega) _⟩, by simp [intOf]; omega⟩
            · have hrev := hinv.fin (by omega)
              subst hrev
              have hB3 := hB.trans (hwr.below (B := w.heap.size) (by have := HB1S.out; omega))
              have HB3 := (show Hid _ from hB3)
              have hlr : O.reverse.length = O.length := by simp
              have hload := run_loadCells_list (P := Tryz.prog) wr ⟨gO, 0, none⟩ (O.reverse.map (Value.int .u8)) (fun j u hu => by
                rw [List.getElem?_map] at hu
                have hj : j < O.reverse.length := by
                  rcases Nat.lt_or_ge j O.reverse.length with hj | hj
                  · exact hj
                  · rw [List.getElem?_eq_none hj] at hu; simp at hu
                rw [List.getElem?_eq_getElem hj] at hu
                simp only [Option.map_some, Option.some.injEq] at hu
                subst hu
                have := hat.cell j hj
                rw [nth_eq hj] at this
                rw [← this]
                by_cases hj0 : j = 0
                · subst hj0; exact congrArg wr.cell? (by simp [Addr.add])
                · exact congrArg wr.cell? (by simp [Addr.add, hj0]))
              rw [List.length_map, hlr] at hload
              have hconv := (run_convert_bytes_string (P := Tryz.prog) wr 131 9 5 (some ⟨gO, 0, none⟩) O.length cO under_bytes under_u8 under_string).trans (run_bytesToString wr ⟨gO, 0, none⟩ O.length cO O.reverse hload)
              obtain ⟨S, hS⟩ : ∃ S, O.reverse.foldl (fun r n => r.push (UInt8.ofNat n.toNat)) ByteArray.empty = S := ⟨_, rfl⟩
              rw [hS] at hconv
              have HS := (show Hid _ from hS)
              have hij0 : ¬ (i : Int) < j := by omega
              clear hS hload hinv hat hwr hfrO hB hB3
              go_wp2
              go_ret
              have e1 := push_data O.reverse ByteArray.empty
              rw [HS.out] at e1
              have dR : DigI O.reverse := fun c hc => dO c (by simpa using hc)
              have e2 : S.data.toList.map (fun c => (c.toNat : Int)) = O.reverse := by
                rw [e1]
                simp only [show ByteArray.empty.data.toList = [] from rfl, List.nil_append, List.map_map]
                conv => rhs; rw [← List.map_id O.reverse]
                apply List.map_congr_left
                intro c hc
                have := dR c hc
                simp [Function.comp, UInt8.toNat_ofNat']
                omega
              have hsz : S.size = O.length := by
                have : S.data.toList.length = O.reverse.length := by rw [← e2]; simp
                rw [hlr] at this
                simpa using this
              have h0 : nth O.reverse 0 = nth O (O.length - 1) := by
                rw [nth_eq (by simpa using hOp), List.getElem_reverse, ← nth_eq]; rfl
              refine ⟨S, rfl, ⟨O.reverse, e2, dR, by rw [dvI_reverse]; exact HNV2.out.symm, by rw [hlr]; exact hOp, .inr (by rw [h0]; exact HLAST.out)⟩, by omega, HB3.out⟩
end Go.Proofs.YtjihgkanbhccpaaGreatDoor
