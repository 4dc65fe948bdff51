/- Several texts, joined: Groups, CopyN. -/
import Derived.Test.YtdgdfhefnlaalaaGreatDoorJna
import Derived.Laws.AppendOwnNone
namespace Go.Proofs.YtdgdfhefnlaalaaGreatDoor
open Go.RowKit Lim

/-- the slice v holds the bytes l, in memory of its own from block B on -/
def MineB (w : World) (B : Nat) (v : Value) (l : List Int) : Prop := w.ownsRow B 5 1 v l.length (l.map (Value.int .u8))

/-- what decimal digits (as bytes) are worth -/
def dvI (l : List Int) : Int := l.foldl (fun x c => 10 * x + (c - 48)) 0
def DigI (l : List Int) : Prop := ∀ c ∈ l, 48 ≤ c ∧ c ≤ 57
theorem dvI_snoc (l : List Int) (c : Int) : dvI (l ++ [c]) = 10 * dvI l + (c - 48) := by simp [dvI, List.foldl_append]
theorem DigI.snoc {l : List Int} {c : Int} (h : DigI l) (h1 : 48 ≤ c) (h2 : c ≤ 57) : DigI (l ++ [c]) := by
  intro x hx
  rcases List.mem_append.1 hx with e | e
  · exact h x e
  · simp at e; subst e; exact ⟨h1, h2⟩
theorem dvI_append (a b : List Int) : dvI (a ++ b) = dvI a * 10 ^ b.length + dvI b := by
  have key : ∀ (b : List Int) (x : Int), b.foldl (fun x c => 10 * x + (c - 48)) x = x * 10 ^ b.length + dvI b := by
    intro b
    induction b with
    | nil => intro x; simp [dvI]
    | cons c b ih =>
      intro x
      have e : dvI (c :: b) = (c - 48) * 10 ^ b.length + dvI b := by rw [dvI, List.foldl_cons, ih]; simp
      rw [List.foldl_cons, ih, e, List.length_cons, Int.pow_succ]; grind
  rw [dvI, List.foldl_append, key]; rfl

theorem own_ge {w : World} {B : Nat} {e : TypeId} {v : Value} {n : Nat} {xs : List Value} (h : w.ownsRow B e 1 v n xs) : ∀ g, v.ownBlock = some g → B ≤ g := by
  intro g hg
  rcases h.2 with ⟨rfl, _⟩ | ⟨g', cap, cur, rfl, hB, _⟩
  · simp [Value.ownBlock] at hg
  · simp [Value.ownBlock] at hg; omega
theorem div_step (x p : Int) (hp : 0 < p) : 10 * (x / (p * 10)) + x / p % 10 = x / p := by
  rw [← Int.ediv_ediv_of_nonneg (Int.le_of_lt hp)]; omega

set_option maxHeartbeats 2000000 in
set_option maxRecDepth 100000 in
theorem appendGroup_any (B : Nat) (v : Value) (l : List Int) (x : Int) (w : World) (hB : B ≤ w.heap.size) (hm : MineB w B v l) (hbig : l.length ≤ 35184372088832) (hx0 : 0 ≤ x) (hx1 : x < 10000000000000000000) :
    Calls Tryz.prog 67 #[v, .int .u64 x] w fun e w' => ∃ v' d, e = .returned v' ∧ MineB w' B v' (l ++ d) ∧ DigI d ∧ d.length = 19 ∧ dvI d = x ∧ Below B w w' := by
  obtain ⟨i0, hi, hz0, hz1, hz2⟩ := info_parts info_u8
  have tT := fun wx => tenTo_any 18 wx (by decide)
  rw [show ((18 : Nat) : Int) = 18 from rfl, show (10 : Int) ^ 18 = 1000000000000000000 from by decide] at tT
  go_enter Tryz.func67, Tryz.ntmps67
  go_wp2_with (go_at_call 43; refine (tT _).mono ?_; rintro e w1 ⟨rfl, rfl⟩)
  clear tT
  go_loopw [0, 5, 7] (fun tz tp ti wr => ∃ (k : Nat) (p : Int) (d : List Int), k ≤ 19 ∧ ti = .int .i64 k ∧ tp = .int .u64 p ∧ 0 ≤ p ∧ p ≤ 1000000000000000000 ∧ Hid (k < 19 → p * 10 ^ k = 1000000000000000000) ∧ d.length = k ∧ DigI d ∧ Hid (dvI d = x / 10 ^ (19 - k)) ∧ MineB wr B tz (l ++ d) ∧ Below B w1 wr) (fun _ _ ti _ => 19 - (intOf ti).toNat)
  case atStart => exact ⟨0, _, [], by decide, rfl, rfl, by decide, by decide, fun _ => by decide, rfl, fun c hc => by simp at hc, by show _ = _; rw [show (10 : Int) ^ (19 - 0) = 10000000000000000000 from by decide, Int.ediv_eq_zero_of_lt hx0 hx1]; rfl, by rw [List.append_nil]; exact hm, Below.refl _ _⟩
  case round =>
    obtain ⟨k, p, d, hk, rfl, rfl, hp0, hp1, hp, hdl, hdd, hdv, hm', hbe⟩ := hrel
    have hsz := hbe.size
    by_cases hlt : k < 19
    · have hpp := hp.out hlt
      have hp2 : 0 < p := by
        by_cases c : 0 < p
        · exact c
        · have : p = 0 := by omega
          subst this; simp at hpp
      have hpe : p = 10 ^ (18 - k) := by
        have e : (10 : Int) ^ (18 - k) * 10 ^ k = 1000000000000000000 := by rw [← Int.pow_add, show 18 - k + k = 18 from by omega]; decide
        have hten : (0 : Int) < 10 ^ k := Int.pow_pos (by decide)
        exact Int.eq_of_mul_eq_mul_right (by omega) (hpp.trans e.symm)
      have hq := div_step x p hp2
      have HD : Hid (10 * dvI d + x / p % 10 = x / 10 ^ (19 - (k + 1))) := by
        show _ = _
        rw [hdv.out, show 19 - (k + 1) = 18 - k from by omega, ← hpe, ← hq]
        congr 3
        rw [show 19 - k = (18 - k) + 1 from by omega, Int.pow_succ, ← hpe]
      have HP : Hid (k + 1 < 19 → p / 10 * 10 ^ (k + 1) = 1000000000000000000) := by
        intro h
        obtain ⟨j, hj⟩ : ∃ j, 18 - k = j + 1 := ⟨17 - k, by omega⟩
        rw [hj, Int.pow_succ] at hpe
        have : p / 10 = 10 ^ j := by rw [hpe]; omega
        rw [this, ← Int.pow_add, show j + (k + 1) = 18 from by omega]; decide
      have hpb : (p == 0) = false := beq_eq_false_iff_ne.2 (by omega)
      have hdg0 := Int.emod_nonneg (x / p) (show (10 : Int) ≠ 0 by decide)
      have hdg1 := Int.emod_lt_of_pos (x / p) (show (0 : Int) < 10 by decide)
      have hxp : 0 ≤ x / p := Int.ediv_nonneg hx0 hp0
      have hxp1 : x / p ≤ x := Int.ediv_le_self p hx0
      have HPE := (show Hid _ from hpe)
      clear hpe hpp hq hp hdv
      obtain ⟨D, hD⟩ : ∃ D, x / p % 10 = D := ⟨_, rfl⟩
      rw [hD] at HD hdg0 hdg1
      have hown : wr.ownsRow B 5 1 _ (l ++ d).length ((l ++ d).map (Value.int .u8)) := hm'
      have hnn : (l ++ d).length ≤ 35184372088860 := by simp; omega
      generalize hNN : (l ++ d).length = N at *
      have HN : Hid ((l ++ d).length = N) := hNN
      clear hNN
      go_wp2_with (at_builtin; refine wpList_append_own _ rfl _ _ 85 rfl B 5 i0 (.int .u8 0) 1 1 under_bytes hi hz0 hz1 hz2 rfl (by decide) _ _ _ rfl (hown.alloc _) ⟨wr.heap.size, 0, none⟩ 1 1 [.int .u8 (48 + D)] rfl rfl ?c1 ?c2 ?c3 ?c4 ?c5 ?_)
      case c1 => exact cell_one_new _ _ _
      case c2 => intro u hu; simp at hu; subst hu; rfl
      case c3 => unfold maxLen; omega
      case c4 => omega
      case c5 => simp; omega
      intro v' w2 hown' hgrow _
      have hM : MineB w2 B v' (l ++ (d ++ [48 + D])) := by
        unfold MineB
        rw [show (l ++ (d ++ [48 + D])).length = N + 1 from by rw [← HN.out]; simp; omega, List.map_append, List.map_append]; exact hown'
      have HB : Below B w1 w2 := (hbe.alloc (by omega) _).grown hgrow (by simp; omega) (own_ge hm')
      clear hown' hgrow hown hm' hbe
      go_wp2
      go_roundw
      case rel => exact ⟨k + 1, p / 10, d ++ [48 + D], by omega, by go_num, rfl, by omega, by omega, HP, by simp; omega, hdd.snoc (by omega) (by omega), by show _ = _; rw [dvI_snoc, ← HD.out]; omega, hM, HB⟩
      case measure => simp [intOf]; omega
    · have hk19 : k = 19 := by omega
      subst hk19
      have hv : dvI d = x := by rw [hdv.out]; simp
      go_wp2
      go_ret
      exact ⟨_, d, rfl, hm', hdd, hdl, hv, hbe⟩

end Go.Proofs.YtdgdfhefnlaalaaGreatDoor

namespace Go.Proofs.YtdgdfhefnlaalaaGreatDoor
open Go.RowKit Lim

theorem isRow_nil {w : World} {a : Option Addr} {len cap : Nat} {zs : List Int} (h : IsRow w a len cap zs) (e : a = none) : cap = 0 := by
  rcases h with ⟨_, _, h, _⟩ | ⟨x, h, _⟩
  · exact h
  · rw [e] at h; simp at h

theorem two_new (w : World) (u1 u2 : Value) : ∀ j u, [u1, u2][j]? = some u → (w.alloc (.cells #[u1, u2] 22)).cell? ((⟨w.heap.size, 0, none⟩ : Addr).add j) = some u := by
  intro j u hj
  match j, hj with
  | 0, hj =>
    rw [show ((⟨w.heap.size, 0, none⟩ : Addr).add 0) = ⟨w.heap.size, 0, none⟩ from rfl, cell_new]
    simpa using hj
  | 1, hj =>
    rw [show ((⟨w.heap.size, 0, none⟩ : Addr).add 1) = ⟨w.heap.size, 1, none⟩ from by simp [Addr.add], cell_new]
    simpa using hj
theorem mine_row {w : World} {B n : Nat} {v : Value} {l : List Int} (h : Mine w B v l) (hl : l.length = n) : w.ownsRow B 22 1 v n (l.map (Value.int .u64)) := by
  unfold Mine at h; rwa [hl] at h
theorem mine_back {w : World} {B n : Nat} {v : Value} {l : List Int} (hl : l.length = n) (h : w.ownsRow B 22 1 v (n + 2) (l.map (Value.int .u64) ++ [.int .u64 0, .int .u64 0])) : Mine w B v (l ++ [0, 0]) := by
  unfold Mine
  rw [List.length_append, hl, List.map_append]; exact h
theorem val_zz (l : List Int) : val (l ++ [0, 0]) = val l := by rw [val_append]; simp [val]
theorem bitLen_mono {a b : Nat} (h : a ≤ b) : bitLen a ≤ bitLen b := by
  unfold bitLen
  by_cases ha : a = 0
  · simp [ha]
  · have hb : b ≠ 0 := by omega
    rw [if_neg ha, if_neg hb]
    have h1 : a.log2 ≤ b.log2 := (Nat.le_log2 hb).2 (Nat.le_trans (Nat.log2_self_le ha) h)
    omega
end Go.Proofs.YtdgdfhefnlaalaaGreatDoor
