/- nat.Text tells a number in decimal digits. -/
import Derived.Test.YtpbiflfdfiebcabGreatDoorSplit
import Derived.Lib.AppendStr
namespace Go.Proofs.YtpbiflfdfiebcabGreatDoor
open Go.RowKit Lim

/-- what AppendUint to nothing tells of u -/
def AppAt (u : Int) (wx : World) : Prop := Calls Tryz.prog 112 #[.slice none 0 0, .int .u64 u, .int .i64 10] wx fun e w' => ∃ v d, e = .returned v ∧ MineB w' wx.heap.size v d ∧ DigI d ∧ dvI d = u ∧ 0 < d.length ∧ d.length ≤ 20 ∧ nth d 0 ≠ 48 ∧ Below wx.heap.size wx w'

def AppSaid (u : Int) : Prop := ∀ wx, AppAt u wx

theorem under_string : Tryz.prog.underlying 9 = some .string := by kernel_rfl

set_option maxHeartbeats 2000000 in
set_option maxRecDepth 100000 in
theorem app_one : AppSaid 1 := by
  intro w
  unfold AppAt
  obtain ⟨i0, hi, hz0, hz1, hz2⟩ := info_parts info_u8
  have hown : w.ownsRow w.heap.size 5 1 (.slice none 0 0) 0 [] := World.ownsRow_nil _ _ _ _
  go_enter Tryz.func112, Tryz.ntmps112
  go_wp2_with (first
    | (at_builtin; refine Lib.wpList_append_own_string _ rfl _ _ 109 9 rfl w.heap.size 5 i0 under_bytes under_string hi hz0 hz1 hz2 _ _ _ rfl hown ⟨#[49]⟩ rfl (by decide) (by decide) (Nat.le_refl _) ?_; intro v' w1 hown1 hgrow hnil)
    | go_in)
  go_ret
  refine ⟨v', [49], rfl, hown1, fun c hc => by rw [List.mem_singleton] at hc; subst hc; decide, rfl, by simp, by simp, by rw [nth_zero]; decide, ?_⟩
  exact (Below.refl _ _).grown hgrow (Nat.le_refl _) (own_ge hown)

theorem under_u8 : Tryz.prog.underlying 5 = some (.int .u8) := by kernel_rfl
theorem push_data (d : List Int) : ∀ r : ByteArray, (d.foldl (fun r n => r.push (UInt8.ofNat n.toNat)) r).data.toList = r.data.toList ++ d.map (fun n => UInt8.ofNat n.toNat) := by
  induction d with
  | nil => intro r; simp
  | cons c d ih => intro r; rw [List.foldl_cons, ih]; simp
theorem gval_drop {g : List Int} {i : Nat} (h : i < g.length) : gval (g.drop i) = nth g i + 10000000000000000000 * gval (g.drop (i + 1)) := by
  rw [List.drop_eq_getElem_cons h, gval, nth_eq h]
theorem MineB.open {w : World} {B : Nat} {v : Value} {l : List Int} (h : MineB w B v l) (hl : 0 < l.length) : ∃ g c, v = .slice (some ⟨g, 0, none⟩) l.length c ∧ l.length ≤ c ∧ B ≤ g ∧ AtB w (some ⟨g, 0, none⟩) g 0 l ∧ Free w g 0 l.length := by
  obtain ⟨_, h2⟩ := h
  rcases h2 with ⟨rfl, h0⟩ | ⟨g, cap, cur, rfl, hB, hh, hle, hmx, hsz, htk⟩
  · omega
  · refine ⟨g, cap, rfl, hle, hB, ⟨.inr rfl, fun i hi => ?_⟩, fun i hi => ?_⟩
    · have e : cur.toList[i]? = some (.int .u8 (nth l i)) := by
        have h1 : (cur.toList.take (l.length * 1))[i]? = some (.int .u8 (nth l i)) := by
          rw [htk, List.getElem?_map, List.getElem?_eq_getElem hi, nth_eq hi]; rfl
        rwa [Nat.mul_one, List.getElem?_take_of_lt hi] at h1
      simp only [World.cell?, hh]
      simpa using e
    · simp [World.frozen?, hh]

/-- the digits of a value: as a text is -/
structure TextOf (s : ByteArray) (n : Int) : Prop where
  bytes : ∃ d : List Int, s.data.toList.map (fun c => (c.toNat : Int)) = d ∧ DigI d ∧ dvI d = n ∧ 0 < d.length ∧ (d.length = 1 ∨ nth d 0 ≠ 48)

set_option maxHeartbeats 2000000 in
set_option maxRecDepth 100000 in
theorem text_any (ao : Option Addr) (n c b o : Nat) (l : List Int) (w : World) (hl : l.length = n) (hc : n ≤ c) (hbig : n ≤ 4294967296) (wl : Words l) (ha : At w ao b o l)
    (hApp : ∀ g, GroupsOk g → gval g = val l → g ≠ [] → 0 < nth g (g.length - 1) → ∀ wx, Below w.heap.size w wx → AppAt (nth g (g.length - 1)) wx) :
    Calls Tryz.prog 73 #[.slice ao n c] w fun e w' => ∃ s, e = .returned (.string s) ∧ TextOf s (val l) ∧ s.size ≤ 40 * n + 40 ∧ Below w.heap.size w w' := by
  go_enter Tryz.func73, Tryz.ntmps73
  go_wp2_with fail
  refine (split_any ao n c b o l w hl hc (by omega) wl ha).mono ?_
  rintro e w1 ⟨v, g, rfl, hmg, hgo, hgv, htop, hgl, hb1⟩
  obtain ⟨ag, cg, rfl, hgc, _, bg, hloc, hBg, hatg, _⟩ := hmg.open
  have hsz1 := hb1.size
  by_cases hg0 : g = []
  · subst hg0
    have hv0 : val l = 0 := by rw [← hgv]; rfl
    have HV0 := (show Hid _ from hv0)
    clear hgv hv0
    go_wp2
    go_ret
    refine ⟨_, rfl, ⟨[48], rfl, fun c hc => by rw [List.mem_singleton] at hc; subst hc; decide, by rw [HV0.out]; rfl, by simp, .inl rfl⟩, ?_, hb1⟩
    show 1 ≤ _; omega
  · have hgp : 0 < g.length := Nat.pos_of_ne_zero fun e => hg0 (List.eq_nil_of_length_eq_zero e)
    rcases hloc with e | rfl
    · exact absurd e hg0
    have tA := hApp g hgo hgv hg0 (htop hg0)
    have HGV := (show Hid _ from hgv)
    have hcell := hatg.cell (g.length - 1) (by omega)
    rw [Nat.zero_add] at hcell
    obtain ⟨m, hm⟩ : ∃ m, g.length = m + 1 := ⟨g.length - 1, by omega⟩
    rw [hm, Nat.add_sub_cancel] at hcell tA
    have HM := (show Hid _ from hm)
    rw [hm]
    have hu0 : (m : Int) < (m : Int) + 1 := by omega
    clear hgv htop hApp hm hgc
    have hmg1 : m + 1 ≤ 2 * n + 1 := by have := HM.out; omega
    generalize hU : nth g m = U at *
    have HU := (show Hid _ from hU)
    clear hU
    go_wp2_with fail
    have tB := tA w1 hb1
    unfold AppAt at tB
    clear tA
    refine tB.mono ?_
    rintro e w2 ⟨v2, d0, rfl, hm2, hd2, hdv2, hd20, hd21, hd22, hb2⟩
    have hsz2 := hb2.size
    have hat2 := hatg.keep hb2
    go_wp2_with fail
    go_loopw [5, 21] (fun tt ti wr => ∃ (k : Nat) (d : List Int), k ≤ m ∧ ti = .int .i64 k ∧ MineB wr w1.heap.size tt d ∧ DigI d ∧ Hid (dvI d = gval (g.drop (m - k))) ∧ 0 < d.length ∧ d.length ≤ 20 + 19 * k ∧ nth d 0 ≠ 48 ∧ Below w1.heap.size w1 wr) (fun _ ti _ => m - (intOf ti).toNat)
    case atStart => exact ⟨0, d0, Nat.zero_le _, rfl, hm2, hd2, by show _ = _; rw [hdv2, Nat.sub_zero, gval_drop (by have := HM.out; omega), List.drop_of_length_le (by have := HM.out; omega), HU.out]; simp [gval], hd20, by omega, hd22, hb2⟩
    case round =>
      clear hm2 hd2 hdv2 hd20 hd21 hd22 hb2 hat2
      obtain ⟨k, d, hk, rfl, hmd, hdd, hdv, hdl0, hdl1, hd48, hbe⟩ := hrel
      by_cases hlt : k < m
      · obtain ⟨h, hh⟩ : ∃ h : Nat, (m : Int) - 1 - k = h := ⟨m - 1 - k, by omega⟩
        have hh1 : (h : Int) < (m : Int) + 1 := by omega
        have hhm : m - k = h + 1 := by omega
        have hatw := hatg.below (hbe.mono (Nat.le_refl _)) (.inr (cell_lt hcell))
        have hcw := hatw.cell h (by have := HM.out; omega)
        rw [Nat.zero_add] at hcw
        have hgh := hgo (nth g h) (nth_mem (by have := HM.out; omega))
        have HD := hdv.out
        rw [hhm] at HD
        have HD : Hid (dvI d = gval (g.drop (h + 1))) := HD
        have HG : Hid (gval (g.drop (m - (k + 1))) = nth g h + 10000000000000000000 * gval (g.drop (h + 1))) := by
          show _ = _
          rw [show m - (k + 1) = h from by omega, gval_drop (by have := HM.out; omega)]
        have HX : Hid (nth g h = nth g h) := rfl
        generalize nth g h = x at *
        clear hatw hdv
        go_wp2_with (go_at_call 113; refine (appendGroup_any w1.heap.size _ d x _ hbe.size hmd (by omega) hgh.1 hgh.2).mono ?_; rintro e w5 ⟨v5, q, rfl, hm5, hq5, hql, hqv, hb5⟩)
        go_roundw
        case rel =>
          refine ⟨k + 1, d ++ q, by omega, by go_num, hm5, ?_, ?_, by simp; omega, by simp; omega, ?_, hbe.trans hb5⟩
          · intro c hc
            rcases List.mem_append.1 hc with e | e
            · exact hdd c e
            · exact hq5 c e
          · show _ = _
            rw [dvI_append, hql, hqv, HD.out, HG.out, show (10 : Int) ^ 19 = 10000000000000000000 from rfl]; grind
          · rw [nth_append_left hdl0]; exact hd48
        case measure => simp [intOf]; omega
      · have hkm : k = m := by omega
        subst hkm
        rw [Nat.sub_self, List.drop_zero] at hdv
        obtain ⟨gb, cb, rfl, hdc, hgb, hatd, _⟩ := hmd.open hdl0
        have hload := run_loadCells_list (P := Tryz.prog) wr ⟨gb, 0, none⟩ (d.map (Value.int .u8)) (fun j u hu => by
          rw [List.getElem?_map] at hu
          have hj : j < d.length := by
            rcases Nat.lt_or_ge j d.length with hj | hj
            · exact hj
            · rw [List.getElem?_eq_none hj] at hu; simp at hu
          rw [List.getElem?_eq_getElem hj] at hu
          simp at hu
          subst hu
          have := hatd.cell j hj
          rw [nth_eq hj] at this
          rw [← this]
          by_cases hj0 : j = 0
          · subst hj0; exact congrArg wr.cell? (by simp [Addr.add])
          · exact congrArg wr.cell? (by simp [Addr.add, hj0]))
        rw [List.length_map] at hload
        have hconv := (run_convert_bytes_string (P := Tryz.prog) wr 109 9 5 (some ⟨gb, 0, none⟩) d.length cb under_bytes under_u8 under_string).trans (run_bytesToString wr ⟨gb, 0, none⟩ d.length cb d hload)
        obtain ⟨S, hS⟩ : ∃ S, d.foldl (fun r n => r.push (UInt8.ofNat n.toNat)) ByteArray.empty = S := ⟨_, rfl⟩
        rw [hS] at hconv
        have HS := (show Hid _ from hS)
        clear hS hload
        have HB : Below w.heap.size w wr := hb1.trans (hbe.mono hsz1)
        go_wp2
        go_ret
        have e1 := push_data d ByteArray.empty
        rw [HS.out] at e1
        have e2 : S.data.toList.map (fun c => (c.toNat : Int)) = d := by
          rw [e1]
          simp only [show ByteArray.empty.data.toList = [] from rfl, List.nil_append, List.map_map]
          conv => rhs; rw [← List.map_id d]
          apply List.map_congr_left
          intro c hc
          have := hdd c hc
          simp [Function.comp, UInt8.toNat_ofNat']
          omega
        refine ⟨S, rfl, ⟨d, e2, hdd, by rw [hdv.out, HGV.out], hdl0, .inr hd48⟩, ?_, HB⟩
        have : S.size = d.length := by rw [← e2]; simp
        omega
end Go.Proofs.YtpbiflfdfiebcabGreatDoor
