/- SpoilBytes: it writes over a list of bytes, and over nothing else. -/
import Derived.Test.YtplminnejheceaaPgIe
namespace Go.Proofs.Ytplminnejheceaa
namespace Pg
open Go.RowKit Go.Lib
attribute [local go_sem] Oper.semAt_some
/-- only lists of bytes in D's blocks are written over -/
structure Spd (D : Nat → Prop) (w w' : World) : Prop where
  chg : Chg (fun b => D b ∧ ∃ cs, Blk w b cs 5) w w'
  kind : ∀ b cs, Blk w b cs 5 → ∃ cs', Blk w' b cs' 5
theorem Spd.refl (D : Nat → Prop) (w : World) : Spd D w w := ⟨Chg.refl _ _, fun _ cs h => ⟨cs, h⟩⟩
theorem Spd.blk {D : Nat → Prop} {w w' : World} (h : Spd D w w') {b : Nat} {cs : List Value} {t : TypeId} (hb : Blk w b cs t) (ht : t ≠ 5) : Blk w' b cs t :=
  hb.chg h.chg (fun ⟨_, _, k⟩ => ht (hb.eq k).2)
theorem Spd.keeps {D : Nat → Prop} {w w' : World} (h : Spd D w w') {Tp : TypeId → Prop} (hT : Tp 5) (B : Nat) : KeepsT Tp B w w' :=
  ⟨h.chg.size, fun k o _ hk ho => (h.chg.same k (lt_of_block hk) (fun ⟨_, cs, hb⟩ => by
    have e := hb.blk
    rw [hk] at e
    cases e
    exact ho _ _ _ rfl hT)).trans hk⟩
theorem Spd.ob {D D' : Nat → Prop} {w w' : World} (h : Spd D w w') {v : Value} {l : List Int} (hv : OB w D' v l) (hD : ∀ b, D' b → ¬ D b) : OB w' D' v l := by
  refine ⟨hv.oct, hv.ex.imp id ?_⟩
  rintro ⟨b, c, e, hd, hR⟩
  exact ⟨b, c, e, hd, hR.chg h.chg fun ⟨x, _⟩ => hD b hd x⟩
theorem set_u8 {w : World} {b n c k : Nat} {l : List Int} (h : Rw w 5 1 b n c (l.map (Value.int .u8))) (hl : l.length = n) (hk : k < n) (x : Int) : ∃ l' : List Int, l'.length = n ∧ Rw (w.setCell ⟨b, k, none⟩ (.int .u8 x)) 5 1 b n c (l'.map (Value.int .u8)) :=
  ⟨l.set k x, by rw [List.length_set]; exact hl, by rw [List.map_set]; exact h.set k (by rw [List.length_map, hl]; exact hk) _⟩
set_option maxHeartbeats 2000000 in
set_option maxRecDepth 100000 in
theorem spoil_any {w : World} {D : Nat → Prop} {v : Value} {l : List Int} (h : OB w D v l) (hn : l.length ≤ 1000000000) :
    Calls Try.prog 36 #[v] w fun e w' => e = .returned (.tuple #[]) ∧ Spd D w w' := by
  rcases h.ex with ⟨rfl, rfl⟩ | ⟨b, c, rfl, hd, hR⟩
  · go_enter Try.func36, Try.ntmps36
    go_wp2_with fail
    go_loop [2] (fun ti => ti = .int .i64 0) (fun _ => 0)
    case atStart => rfl
    case round =>
      subst hrel
      go_wp2
      go_end0
      exact ⟨rfl, Spd.refl _ _⟩
  · obtain ⟨n, hnn⟩ : ∃ n, Hid (l.length = n) := ⟨_, rfl⟩
    rw [hnn.out] at hR hn ⊢
    obtain ⟨cs0, hB0⟩ := hR.kind
    have HR : Hid (∃ l' : List Int, l'.length = n ∧ Rw w 5 1 b n c (l'.map (Value.int .u8))) := ⟨l, hnn.out, hR⟩
    have HB0 : Hid _ := hB0
    have hle := hR.le
    have hn' : (n : Int) ≤ 1000000000 := by omega
    clear h hR hB0
    go_enter Try.func36, Try.ntmps36
    go_wp2_with fail
    go_loopw [2] (fun ti wr => ∃ k : Nat, k ≤ n ∧ ti = .int .i64 k ∧ (∃ l' : List Int, l'.length = n ∧ Rw wr 5 1 b n c (l'.map (Value.int .u8))) ∧ Chg (· = b) w wr) (fun ti _ => n - (intOf ti).toNat)
    case atStart => exact ⟨0, Nat.zero_le _, rfl, HR.out, Chg.refl _ _⟩
    case round =>
      obtain ⟨k, hk, rfl, ⟨l', hl', hR⟩, hB⟩ := hrel
      by_cases hlt : k < n
      · obtain ⟨x, hx⟩ : ∃ x, l'[k]? = some x := ⟨l'[k]'(by omega), List.getElem?_eq_getElem _⟩
        have c1 := hR.cell (i := k) (v := .int .u8 x) (by rw [List.getElem?_map, hx]; rfl)
        have f1 := hR.free k
        have HR2 := (show Hid _ from hR)
        have HB2 := (show Hid _ from hB)
        have HL2 := (show Hid _ from hl')
        have hlt' : (k : Int) < n := by omega
        clear hR hB hl' hx
        go_wp2
        refine ⟨⟨k + 1, by omega, by go_num, ?_, HB2.out.cell (.inl rfl) _⟩, by simp [intOf]; omega⟩
        exact set_u8 HR2.out HL2.out hlt _
      · obtain rfl : k = n := by omega
        have HB2 := (show Hid _ from hB)
        have HR2 := (show Hid _ from hR)
        clear hR hB
        go_wp2
        go_end0
        refine ⟨rfl, HB2.out.mono (fun b' _ e => ⟨e ▸ hd, cs0, e ▸ HB0.out⟩), fun b' cs' hb => ?_⟩
        by_cases e : b' = b
        · subst e; exact HR2.out.kind
        · exact ⟨cs', hb.chg HB2.out e⟩
end Pg
end Go.Proofs.Ytplminnejheceaa
