/- nat.divideSmall divides z in place by one limb, and tells what is left. -/
import Derived.Test.YtjihgkanbhccpaaGreatDoorDiv64
import Derived.Test.YtjihgkanbhccpaaGreatDoorMem
namespace Go.Proofs.YtjihgkanbhccpaaGreatDoor
open Go.RowKit Lim

theorem val_drop {l : List Int} {h : Nat} (hl : h < l.length) : val (l.drop h) = nth l h + 18446744073709551616 * val (l.drop (h + 1)) := by
  rw [List.drop_eq_getElem_cons hl, val, nth_eq hl]

structure DivSInv (lz : List Int) (d : Int) (h : Nat) (lz1 : List Int) (left : Int) : Prop where
  len : lz1.length = lz.length
  words : Words lz1
  low : ∀ i, i < h → nth lz1 i = nth lz i
  val : Lim.val (lz1.drop h) * d + left = Lim.val (lz.drop h)

theorem DivSInv.step {lz lz1 : List Int} {d left q r : Int} {h : Nat} (hv : DivSInv lz d (h + 1) lz1 left) (hh : h < lz.length) (q0 : 0 ≤ q) (q1 : q < 18446744073709551616) (e : q * d + r = left * 18446744073709551616 + nth lz h) : DivSInv lz d h (lz1.set h q) r := by
  have hl := hv.len
  refine ⟨by simp [hl], hv.words.set h q0 q1, fun i hi => by rw [nth_set (by omega), if_neg (by omega)]; exact hv.low i (by omega), ?_⟩
  rw [val_drop (by simp; omega), nth_set (by omega), if_pos rfl, List.drop_set, if_pos (by omega), val_drop hh, ← hv.val]
  grind

set_option maxHeartbeats 1000000 in
set_option maxRecDepth 100000 in
theorem divideSmall_any (az : Option Addr) (bz oz nz cz : Nat) (d : Int) (lz : List Int) (w : World) (hnz : lz.length = nz) (hbig : nz ≤ 2199023255552) (hcz : nz ≤ cz) (d0 : 0 < d) (d1 : d < 18446744073709551616)
    (wz : Words lz) (hz : At w az bz oz lz) (hfz : Free w bz oz nz) :
    Calls Tryz.prog 127 #[.slice az nz cz, .int .u64 d] w fun e w' => ∃ (left : Int) (lz' : List Int), e = .returned (.int .u64 left) ∧ 0 ≤ left ∧ left < d ∧ lz'.length = nz ∧ Words lz' ∧ At w' az bz oz lz' ∧ Wr bz oz nz w w' ∧ val lz' * d + left = val lz := by
  go_enter Tryz.func127, Tryz.ntmps127
  go_wp2
  go_loopw [5, 10] (fun tc ti wr => ∃ (k : Nat) (c : Int) (lz1 : List Int), k ≤ nz ∧ ti = .int .i64 k ∧ tc = .int .u64 c ∧ 0 ≤ c ∧ c < d ∧ DivSInv lz d (nz - k) lz1 c ∧ At wr az bz oz lz1 ∧ Wr bz oz nz w wr) (fun _ ti _ => nz - (intOf ti).toNat)
  case atStart => exact ⟨0, 0, lz, Nat.zero_le _, rfl, rfl, by decide, d0, ⟨rfl, wz, fun _ _ => rfl, by simp [← hnz, val]⟩, hz, Wr.refl _ _ _ _⟩
  case round =>
    obtain ⟨k, c, lz1, hk, rfl, rfl, hc0, hc1, hinv, hat, hwr⟩ := hrel
    have hlen1 := hinv.len
    by_cases hlt : k < nz
    · rcases hz.loc with e | rfl
      · subst e; simp at hnz; omega
      obtain ⟨h, hh⟩ : ∃ h : Nat, nz = h + 1 + k := ⟨nz - 1 - k, by omega⟩
      have hcz := hat.cell h (by omega)
      have hfr := hwr.free hfz h (by omega)
      have hzz := wz.nth h
      rw [hinv.low h (by omega)] at hcz
      have hidx : (nz : Int) - 1 - k = h := by omega
      have hh0 : (h : Int) < nz := by omega
      obtain ⟨hz0, hz1⟩ := hzz
      have HI : Hid (DivSInv lz d (h + 1) lz1 c) := by rw [show h + 1 = nz - k from by omega]; exact hinv
      have HN : Hid (nz = h + 1 + k) := hh
      clear hh hinv hz wz
      go_wp2_with (go_at_call 166; refine (div64 _ _ _ _ hc0 hc1 hz0 hz1 d1).mono ?_; rintro e w' ⟨q, r, rfl, q0, q1, r0, r1, hqr, nd, rfl⟩)
      have hn := HN.out
      refine ⟨⟨k + 1, r, lz1.set h q, by omega, by go_num, rfl, r0, r1, by rw [show nz - (k + 1) = h from by omega]; exact HI.out.step (by omega) q0 q1 hqr.out, ?_, ?_⟩, by simp [intOf]; omega⟩
      · exact (hat.setCell (by omega) q).drewN nd
      · exact (hwr.setCell (by omega) (by omega) _).drewN nd
    · have hkn : k = nz := by omega
      subst hkn
      go_wp2
      go_ret
      refine ⟨c, lz1, rfl, hc0, hc1, by omega, hinv.words, hat, hwr, ?_⟩
      have := hinv.val
      rwa [Nat.sub_self, List.drop_zero, List.drop_zero] at this
end Go.Proofs.YtjihgkanbhccpaaGreatDoor
