/- gleanref1.Bytes: the document's bytes. -/
import Derived.Test.YtmmjiaeppnbfkaaDoorRefB
import Derived.Test.YtmmjiaeppnbfkaaDoorGroups
namespace Go.Proofs.YtmmjiaeppnbfkaaDoor
open Go.RowKit Lim

theorem MineB.shape {w : World} {B : Nat} {v : Value} {l : List Int} (h : MineB w B v l) : ∃ ao c, v = .slice ao l.length c := by
  rcases h.2 with ⟨rfl, h0⟩ | ⟨g, cap, cur, rfl, _⟩
  · exact ⟨none, 0, by rw [h0]⟩
  · exact ⟨_, _, rfl⟩
theorem MineB.atB {w : World} {B : Nat} {v : Value} {l : List Int} (h : MineB w B v l) : ∃ ao c b o, v = .slice ao l.length c ∧ l.length ≤ c ∧ AtB w ao b o l := by
  obtain ⟨_, h2⟩ := h
  rcases h2 with ⟨rfl, h0⟩ | ⟨g, cap, cur, rfl, hB, hh, hle, hmx, hsz, htk⟩
  · have e : l = [] := List.eq_nil_of_length_eq_zero h0
    subst e
    exact ⟨none, 0, 0, 0, rfl, Nat.le_refl _, .inl rfl, fun i hi => by simp at hi⟩
  · refine ⟨some ⟨g, 0, none⟩, cap, g, 0, rfl, hle, .inr rfl, fun i hi => ?_⟩
    have e : cur.toList[i]? = some (.int .u8 (nth l i)) := by
      have h1 : (cur.toList.take (l.length * 1))[i]? = some (.int .u8 (nth l i)) := by
        rw [htk, List.getElem?_map, List.getElem?_eq_getElem hi, nth_eq hi]; rfl
      rwa [Nat.mul_one, List.getElem?_take_of_lt hi] at h1
    simp only [World.cell?, hh]
    simpa using e
theorem minB_mono {w : World} {B B' : Nat} {v : Value} {l : List Int} (h : MineB w B v l) (hB : B' ≤ B) : MineB w B' v l := by
  obtain ⟨h1, h2⟩ := h
  refine ⟨h1, ?_⟩
  rcases h2 with h2 | ⟨g, cap, cur, rfl, hB1, hr⟩
  · exact .inl h2
  · exact .inr ⟨g, cap, cur, rfl, by omega, hr⟩
theorem bval_snoc (l : List Int) (c : Int) : bval (l ++ [c]) = 256 * bval l + c := by
  induction l with
  | nil => simp [bval]
  | cons x l ih => simp only [List.cons_append, bval, ih, List.length_append, List.length_singleton, Int.pow_succ]; grind
theorem IsB.snoc {l : List Int} {V c : Int} (h : IsB l V) (h0 : 0 ≤ c) (h1 : c < 256) (hne : l ≠ [] ∨ c ≠ 0) : IsB (l ++ [c]) (256 * V + c) := by
  refine ⟨fun x hx => ?_, fun _ => ?_, by rw [bval_snoc, h.2.2]⟩
  · rcases List.mem_append.1 hx with e | e
    · exact h.1 x e
    · simp at e; subst e; exact ⟨h0, h1⟩
  · cases l with
    | nil =>
      rcases hne with e | e
      · exact absurd rfl e
      · rw [List.nil_append, nth_zero]; exact e
    | cons y l => rw [List.cons_append, nth_zero]; have := h.2.1 (by simp); rwa [nth_zero] at this
theorem IsB.zero {l : List Int} {V : Int} (h : IsB l V) (hl : l = []) : IsB l (256 * V + 0) := by
  subst hl
  have := h.2.2
  simp [bval] at this
  subst this
  exact ⟨h.1, h.2.1, rfl⟩
theorem v32_drop {l : List Int} {i : Nat} (h : i < l.length) : v32 (l.drop i) = nth l i + 4294967296 * v32 (l.drop (i + 1)) := by
  rw [List.drop_eq_getElem_cons h, v32, nth_eq h]
theorem byte_step (V x : Int) (j : Nat) (hj : j < 4) : 256 * (V * 256 ^ j + x / 2 ^ (32 - 8 * j)) + x / 2 ^ (24 - 8 * j) % 256 = V * 256 ^ (j + 1) + x / 2 ^ (32 - 8 * (j + 1)) := by
  have e : x / 2 ^ (32 - 8 * j) = x / 2 ^ (24 - 8 * j) / 256 := by
    rw [Int.ediv_ediv_of_nonneg (Int.le_of_lt (Int.pow_pos (by decide))), show (256 : Int) = 2 ^ 8 from rfl, ← Int.pow_add, show 24 - 8 * j + 8 = 32 - 8 * j from by omega]
  rw [e, show 32 - 8 * (j + 1) = 24 - 8 * j from by omega, Int.pow_succ]
  generalize x / 2 ^ (24 - 8 * j) = y
  have : V * (256 ^ j * 256) = 256 * (V * 256 ^ j) := by grind
  omega

set_option maxHeartbeats 4000000 in
set_option maxRecDepth 100000 in
theorem refBytes_any (ao : Option Addr) (n c b o : Nat) (l : List Int) (w : World) (hl : l.length = n) (hbig : n ≤ 274877906944) (wl : Words l) (ha : At w ao b o l) :
    Calls Tryd.prog 41 #[.slice ao n c] w fun e w' => ∃ v r, e = .returned v ∧ MineB w' w.heap.size v r ∧ IsB r (val l) ∧ r.length ≤ 8 * n ∧ Below w.heap.size w w' := by
  obtain ⟨i0, hi0, hz0, hz1, hz2⟩ := info_parts info_u8
  go_enter Tryd.func41, Tryd.ntmps41
  go_wp2_with fail
  refine (digits_any ao n c b o l w hl hbig wl ha).mono ?_
  rintro e w1 ⟨v, d, rfl, hn1, hd, hdn, hdv, hdl, hb1⟩
  obtain ⟨ad, bd, od, cd, rfl, hcd, _, hat, _⟩ := hn1.is
  have hsz1 := hb1.size
  have HDV := (show Hid _ from hdv)
  have HDN := (show Hid _ from hdn)
  clear hdv hdn hn1
  obtain ⟨N, hN⟩ : ∃ N, d.length = N := ⟨_, rfl⟩
  have HN := (show Hid _ from hN)
  rw [hN] at hcd hdl ⊢
  clear hN
  go_wp2_with fail
  go_loopw [4, 5] (fun tz ti wr => ∃ (m : Nat) (r : List Int), m ≤ N ∧ ti = .int .i64 ((m : Int) - 1) ∧ MineB wr w1.heap.size tz r ∧ IsB r (v32 (d.drop m)) ∧ r.length ≤ 4 * (N - m) ∧ Below w1.heap.size w1 wr) (fun _ ti _ => (intOf ti + 1).toNat)
  case atStart => exact ⟨N, [], Nat.le_refl _, rfl, World.ownsRow_nil _ _ _ _, ⟨fun x hx => by simp at hx, fun h => absurd rfl h, by rw [List.drop_of_length_le (by rw [HN.out]; exact Nat.le_refl _)]; rfl⟩, by simp, Below.refl _ _⟩
  case round =>
    obtain ⟨m, r, hm, rfl, hmr, hIr, hrl, hbe⟩ := hrel
    by_cases hlt : 0 < m
    · obtain ⟨i, rfl⟩ : ∃ i, m = i + 1 := ⟨m - 1, by omega⟩
      rcases hat.loc with e | rfl
      · subst e; have := HN.out; simp at this; omega
      have hii : ((i + 1 : Nat) : Int) - 1 = i := by omega
      rw [hii]
      have hi1 : (i : Int) < N := by omega
      have hx := hd.nth i
      have hlb := cell_lt (hat.cell i (by rw [HN.out]; omega))
      have HV : Hid (v32 (d.drop i) = nth d i + 4294967296 * v32 (d.drop (i + 1))) := v32_drop (by rw [HN.out]; omega)
      have HC : Hid (∀ wz, Below w1.heap.size w1 wz → wz.cell? ⟨bd, od + i, none⟩ = some (.int .u64 (nth d i))) := fun wz hz => by
        rw [hz.cell (p := ⟨bd, od + i, none⟩) hlb]; exact hat.cell i (by rw [HN.out]; omega)
      generalize v32 (d.drop (i + 1)) = V at *
      generalize nth d i = x at *
      go_wp2_with fail
      go_loopw [4, 6] (fun tz tk wr => ∃ (j : Nat) (r : List Int), j ≤ 4 ∧ tk = .int .i64 (24 - 8 * (j : Int)) ∧ MineB wr w1.heap.size tz r ∧ IsB r (V * 256 ^ j + x / 2 ^ (32 - 8 * j)) ∧ r.length ≤ 4 * (N - (i + 1)) + j ∧ Below w1.heap.size w1 wr) (fun _ tk _ => (intOf tk + 8).toNat)
      case atStart => exact ⟨0, r, by decide, rfl, hmr, by rw [show x / 2 ^ (32 - 8 * 0) = 0 from Int.ediv_eq_zero_of_lt hx.1 hx.2]; simpa using hIr, by omega, hbe⟩
      case round =>
        clear hmr hIr hrl hbe
        obtain ⟨j, r, hj, rfl, hmr, hIr, hrl, hbe⟩ := hrel
        obtain ⟨az, cz, rfl⟩ := hmr.shape
        by_cases hj4 : j < 4
        · obtain ⟨sh, hsh⟩ : ∃ sh : Nat, (24 : Int) - 8 * j = sh := ⟨24 - 8 * j, by omega⟩
          have hsh2 : 24 - 8 * j = sh := by omega
          have hst := byte_step V x j hj4
          rw [hsh2] at hst
          have HST := (show Hid _ from hst)
          have HSH := (show Hid _ from hsh2)
          clear hst hsh2
          have hc0 := Int.emod_nonneg (x / 2 ^ sh) (show (256 : Int) ≠ 0 by decide)
          have hc1 := Int.emod_lt_of_pos (x / 2 ^ sh) (show (0 : Int) < 256 by decide)
          have hcell := HC.out wr hbe
          have hszr := hbe.size
          have hsh64 : sh ≤ 24 := by have := HSH.out; omega
          obtain ⟨C, hC⟩ : ∃ C, x / 2 ^ sh % 256 = C := ⟨_, rfl⟩
          rw [hC] at hc0 hc1 HST
          by_cases hskip : r = [] ∧ C = 0
          · obtain ⟨rfl, rfl⟩ := hskip
            have HI := hIr.zero rfl
            rw [HST.out] at HI
            have HI2 := (show Hid _ from HI)
            clear HI
            go_wp2
            go_roundw
            case rel => exact ⟨j + 1, [], by omega, by rw [show (24 - 8 * ((j + 1 : Nat) : Int)) = (sh : Int) - 8 from by omega], hmr, HI2.out, by simp, hbe⟩
            case measure => simp [intOf]; omega
          · by_cases hr0 : r = []
            · have hC0 : C ≠ 0 := fun e => hskip ⟨hr0, e⟩
              have hCb : (C != 0) = true := by rw [bne_iff_ne]; exact hC0
              have hrl0 : r.length = 0 := by rw [hr0]; rfl
              have hown : wr.ownsRow w1.heap.size 5 1 (.slice az r.length cz) r.length (r.map (Value.int .u8)) := hmr
              have hnn : r.length ≤ 4398046511104 := by omega
              have HIa := hIr.snoc (c := C) hc0 hc1 (.inr hC0)
              rw [HST.out] at HIa
              have HI2 := (show Hid _ from HIa)
              clear HIa
              generalize hRL : r.length = RL at *
              have HRL := (show Hid _ from hRL)
              clear hRL
              have hRL0 : RL ≤ 0 := by have := hrl0; omega
              clear hrl0 hr0 hskip
              go_wp2_with (at_builtin; refine wpList_append_own _ rfl _ _ 50 rfl w1.heap.size 5 i0 (.int .u8 0) 1 1 under_bytes hi0 hz0 hz1 hz2 rfl (by decide) _ _ _ rfl (hown.alloc _) ⟨wr.heap.size, 0, none⟩ 1 1 [.int .u8 C] rfl rfl ?ca1 ?ca2 ?ca3 ?ca4 ?ca5 ?_)
              case ca1 => exact cell_one_new _ _ _
              case ca2 => intro u hu; simp at hu; subst hu; rfl
              case ca3 => unfold maxLen; omega
              case ca4 => omega
              case ca5 => simp; omega
              intro v' w2 hown' hgrow _
              have hM : MineB w2 w1.heap.size v' (r ++ [C]) := by
                unfold MineB
                rw [List.length_append, HRL.out, List.map_append]; exact hown'
              have HB : Below w1.heap.size w1 w2 := (hbe.alloc (by omega) _).grown hgrow (by simp; omega) (own_ge hmr)
              have hlr : (r ++ [C]).length ≤ 4 * (N - (i + 1)) + (j + 1) := by rw [List.length_append, HRL.out]; simp; omega
              clear hown' hgrow hown hmr hbe hIr
              go_wp2
              go_roundw
              case rel => exact ⟨j + 1, r ++ [C], by omega, by rw [show (24 - 8 * ((j + 1 : Nat) : Int)) = (sh : Int) - 8 from by omega], hM, HI2.out, hlr, HB⟩
              case measure => simp [intOf]; omega
            · have hrp : 0 < r.length := Nat.pos_of_ne_zero fun e => hr0 (List.eq_nil_of_length_eq_zero e)
              have hown : wr.ownsRow w1.heap.size 5 1 (.slice az r.length cz) r.length (r.map (Value.int .u8)) := hmr
              have hnn : r.length ≤ 4398046511104 := by omega
              have HIa := hIr.snoc (c := C) hc0 hc1 (.inl hr0)
              rw [HST.out] at HIa
              have HI2 := (show Hid _ from HIa)
              clear HIa
              generalize hRL : r.length = RL at *
              have HRL := (show Hid _ from hRL)
              clear hRL
              clear hr0 hskip
              go_wp2_with (at_builtin; refine wpList_append_own _ rfl _ _ 50 rfl w1.heap.size 5 i0 (.int .u8 0) 1 1 under_bytes hi0 hz0 hz1 hz2 rfl (by decide) _ _ _ rfl (hown.alloc _) ⟨wr.heap.size, 0, none⟩ 1 1 [.int .u8 C] rfl rfl ?cb1 ?cb2 ?cb3 ?cb4 ?cb5 ?_)
              case cb1 => exact cell_one_new _ _ _
              case cb2 => intro u hu; simp at hu; subst hu; rfl
              case cb3 => unfold maxLen; omega
              case cb4 => omega
              case cb5 => simp; omega
              intro v' w2 hown' hgrow _
              have hM : MineB w2 w1.heap.size v' (r ++ [C]) := by
                unfold MineB
                rw [List.length_append, HRL.out, List.map_append]; exact hown'
              have HB : Below w1.heap.size w1 w2 := (hbe.alloc (by omega) _).grown hgrow (by simp; omega) (own_ge hmr)
              have hlr : (r ++ [C]).length ≤ 4 * (N - (i + 1)) + (j + 1) := by rw [List.length_append, HRL.out]; simp; omega
              clear hown' hgrow hown hmr hbe hIr
              go_wp2
              go_roundw
              case rel => exact ⟨j + 1, r ++ [C], by omega, by rw [show (24 - 8 * ((j + 1 : Nat) : Int)) = (sh : Int) - 8 from by omega], hM, HI2.out, hlr, HB⟩
              case measure => simp [intOf]; omega
        · have hj5 : j = 4 := by omega
          subst hj5
          have HI : IsB r (v32 (d.drop i)) := by
            rw [HV.out]
            have := hIr
            rw [show (256 : Int) ^ 4 = 4294967296 from by decide, show (2 : Int) ^ (32 - 8 * 4) = 1 from by decide, Int.ediv_one] at this
            rw [show x + 4294967296 * V = V * 4294967296 + x from by omega]; exact this
          have HI2 := (show Hid _ from HI)
          clear HI hIr
          go_wp2
          go_roundw
          case rel => exact ⟨i, r, by omega, rfl, hmr, HI2.out, by omega, hbe⟩
          case measure => simp [intOf]
    · have hm0 : m = 0 := by omega
      subst hm0
      rw [List.drop_zero, HDV.out] at hIr
      have HI2 := (show Hid _ from hIr)
      have hM : MineB wr w.heap.size _ r := minB_mono hmr hsz1
      have HB := hb1.trans (hbe.mono hsz1)
      clear hIr hmr
      go_wp2
      go_ret
      exact ⟨_, r, rfl, hM, HI2.out, by omega, HB⟩
end Go.Proofs.YtmmjiaeppnbfkaaDoor
