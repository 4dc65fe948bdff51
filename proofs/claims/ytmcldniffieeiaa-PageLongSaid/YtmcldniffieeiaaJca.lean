/- Several texts, joined: PgLg. -/
import Derived.Test.YtmcldniffieeiaaJba
namespace Go.Proofs.Ytmcldniffieeiaa
namespace Pg
open Go.RowKit Go.Lib
def ky (k : Nat) : List Int := [((k / 256 : Nat) : Int), ((k % 256 : Nat) : Int)]
theorem ky_lt {i j : Nat} : Lt (ky i) (ky j) ↔ i < j := by
  unfold Lt ky
  simp only [cmpB]
  split
  · constructor
    · intro _; omega
    · intro _; rfl
  · split
    · constructor
      · intro h; simp at h
      · intro h; omega
    · split
      · constructor
        · intro _; omega
        · intro _; rfl
      · split
        · constructor
          · intro h; simp at h
          · intro h; omega
        · constructor
          · intro h; simp at h
          · intro h; omega
theorem ky_inj {i j : Nat} (h : ky i = ky j) : i = j := by
  rcases Nat.lt_trichotomy i j with h1 | h1 | h1
  · exact (lt_irrefl _ (h ▸ ky_lt.2 h1)).elim
  · exact h1
  · exact (lt_irrefl _ (h ▸ ky_lt.2 h1)).elim
def ent (T : List Int) (k : Nat) : Option KV := if T.getD k 0 = 0 then none else some (ky k, [T.getD k 0 - 1])
def lst (T : List Int) (a n : Nat) : List KV := (List.range' a n).filterMap (ent T)
theorem lst_add (T : List Int) (a m n : Nat) : lst T a (m + n) = lst T a m ++ lst T (a + m) n := by
  unfold lst
  rw [← List.filterMap_append, ← List.range'_append, Nat.one_mul]
theorem lst_one (T : List Int) (a : Nat) : lst T a 1 = (ent T a).toList := by
  unfold lst
  simp only [List.range'_one, List.filterMap_cons, List.filterMap_nil]
  cases ent T a <;> rfl
theorem lst_split (T : List Int) {k : Nat} (hk : k < 600) : lst T 0 600 = lst T 0 k ++ ((ent T k).toList ++ lst T (k + 1) (599 - k)) := by
  have h : 600 = k + (1 + (599 - k)) := by omega
  rw [h, lst_add, lst_add, lst_one, Nat.zero_add]
theorem mem_lst {T : List Int} {a n : Nat} {x : KV} (h : x ∈ lst T a n) : ∃ i, a ≤ i ∧ i < a + n ∧ x.1 = ky i ∧ T.getD i 0 ≠ 0 := by
  obtain ⟨i, h1, h2⟩ := List.mem_filterMap.1 h
  rw [List.mem_range'_1] at h1
  unfold ent at h2
  split at h2
  · cases h2
  · rename_i hne
    cases h2
    exact ⟨i, h1.1, h1.2, rfl, hne⟩
theorem fm_congr {α β : Type} {f g : α → Option β} : ∀ {l : List α}, (∀ x ∈ l, f x = g x) → l.filterMap f = l.filterMap g
  | [], _ => rfl
  | a :: l, h => by rw [List.filterMap_cons, List.filterMap_cons, h a List.mem_cons_self, fm_congr (fun x hx => h x (List.mem_cons_of_mem _ hx))]
theorem lst_set {T : List Int} {k : Nat} (v : Int) {a n : Nat} (h : k < a ∨ a + n ≤ k) : lst (T.set k v) a n = lst T a n := by
  unfold lst
  apply fm_congr
  intro i hi
  rw [List.mem_range'_1] at hi
  unfold ent
  have e : (T.set k v).getD i 0 = T.getD i 0 := by
    simp only [List.getD_eq_getElem?_getD]
    rw [List.getElem?_set_ne (by omega)]
  rw [e]
theorem split_eq {X Y A B : List KV} {k : List Int} (h : X ++ Y = A ++ B) (hX : ∀ x ∈ X, Lt x.1 k) (hY : ∀ y ∈ Y, ¬ Lt y.1 k) (hA : ∀ x ∈ A, Lt x.1 k) (hB : ∀ y ∈ B, ¬ Lt y.1 k) : X = A ∧ Y = B := by
  have f : ∀ (U V : List KV), (∀ x ∈ U, Lt x.1 k) → (∀ y ∈ V, ¬ Lt y.1 k) → (U ++ V).filter (fun x => decide (Lt x.1 k)) = U := fun U V h1 h2 => by
    rw [List.filter_append, List.filter_eq_self.2 (fun x hx => decide_eq_true (h1 x hx)), List.filter_eq_nil_iff.2 (fun x hx => by rw [decide_eq_false (h2 x hx)]; simp), List.append_nil]
  have e := f X Y hX hY
  rw [h, f A B hA hB] at e
  subst e
  exact ⟨rfl, List.append_cancel_left h⟩
theorem low_lst {T : List Int} {k : Nat} : ∀ x ∈ lst T 0 k, Lt x.1 (ky k) := fun x hx => by
  obtain ⟨i, _, h2, h3, _⟩ := mem_lst hx
  rw [h3]; exact ky_lt.2 (by omega)
theorem high_lst {T : List Int} {k n : Nat} : ∀ x ∈ lst T (k + 1) n, Lt (ky k) x.1 := fun x hx => by
  obtain ⟨i, h1, _, h3, _⟩ := mem_lst hx
  rw [h3]; exact ky_lt.2 (by omega)
/-- a map holds what the list of numbers says -/
def Bk (Q : List (List KV)) (T : List Int) : Prop := Q.flatten = lst T 0 600
theorem Bk.has {Q : List (List KV)} {T : List Int} (O : AOrd Q) (h : Bk Q T) {k : Nat} (hk : k < 600) : ahas Q (ky k) = decide (T.getD k 0 ≠ 0) := by
  rw [Bool.eq_iff_iff, O.has_iff, decide_eq_true_eq]
  unfold Bk at h
  rw [h]
  constructor
  · intro hm
    obtain ⟨x, hx, hxk⟩ := List.mem_map.1 hm
    obtain ⟨i, _, _, h3, h4⟩ := mem_lst hx
    rw [h3] at hxk
    rw [← ky_inj hxk]
    exact h4
  · intro hne
    rw [lst_split T hk]
    refine List.mem_map.2 ⟨(ky k, [T.getD k 0 - 1]), List.mem_append_right _ (List.mem_append_left _ ?_), rfl⟩
    unfold ent
    rw [if_neg hne]
    simp
theorem getD_set {T : List Int} {k : Nat} (hk : k < T.length) (v : Int) : (T.set k v).getD k 0 = v := by
  simp [List.getD_eq_getElem?_getD, hk]
theorem Bk.set {Q : List (List KV)} {T : List Int} (O : AOrd Q) (h : Bk Q T) {k : Nat} (hk : k < 600) (hT : T.length = 600) {v : Int} (hv : 0 ≤ v) : Bk (aset Q (ky k) [v]) (T.set k (v + 1)) := by
  have hh := h.has O hk
  unfold Bk at h ⊢
  rw [lst_split _ hk, lst_set _ (.inr (by omega)), lst_set _ (.inl (by omega))]
  have e : ent (T.set k (v + 1)) k = some (ky k, [v]) := by
    unfold ent
    rw [getD_set (by omega), if_neg (by omega)]
    simp
  rw [e]
  rw [lst_split _ hk] at h
  by_cases h0 : T.getD k 0 = 0
  · rw [decide_eq_false (by simpa using h0)] at hh
    obtain ⟨X, Y, e1, e2, h1, h2⟩ := O.set_new [v] hh
    have e3 : ent T k = none := by unfold ent; rw [if_pos h0]
    rw [e3] at h
    obtain ⟨r1, r2⟩ := split_eq (k := ky k) (e1.symm.trans h) h1 (fun y hy hl => (h2 y hy).not hl) low_lst (fun y hy hl => (high_lst y (by simpa using hy)).not hl)
    rw [e2, r1, r2]
    simp
  · rw [decide_eq_true h0] at hh
    obtain ⟨X, x, Y, e1, e2⟩ := O.set_old [v] hh
    have hp := O.flat
    rw [e1, List.pairwise_append] at hp
    have e3 : ent T k = some (ky k, [T.getD k 0 - 1]) := by unfold ent; rw [if_neg h0]
    rw [e3] at h
    obtain ⟨r1, r2⟩ := split_eq (k := ky k) (e1.symm.trans h) (fun a ha => hp.2.2 a ha _ List.mem_cons_self) (fun y hy hl => by
      rcases List.mem_cons.1 hy with rfl | hy
      · exact lt_irrefl _ hl
      · exact ((List.pairwise_cons.1 hp.2.1).1 y hy).not hl) low_lst (fun y hy hl => by
      rcases List.mem_cons.1 (show y ∈ (ky k, [T.getD k 0 - 1]) :: lst T (k + 1) (599 - k) by simpa using hy) with rfl | hy
      · exact lt_irrefl _ hl
      · exact (high_lst y hy).not hl)
    rw [e2, r1]
    simp at r2
    rw [r2.2]
    simp
theorem Bk.del {Q : List (List KV)} {T : List Int} (O : AOrd Q) (h : Bk Q T) {k : Nat} (hk : k < 600) (hT : T.length = 600) : Bk (adel Q (ky k)) (T.set k 0) := by
  have hh := h.has O hk
  unfold Bk at h ⊢
  rw [lst_split _ hk, lst_set _ (.inr (by omega)), lst_set _ (.inl (by omega))]
  have e : ent (T.set k 0) k = none := by
    unfold ent
    rw [getD_set (by omega), if_pos rfl]
  rw [e]
  rw [lst_split _ hk] at h
  by_cases h0 : T.getD k 0 = 0
  · rw [decide_eq_false (by simpa using h0)] at hh
    rw [adel_none hh, h]
    have e3 : ent T k = none := by unfold ent; rw [if_pos h0]
    rw [e3]
  · rw [decide_eq_true h0] at hh
    obtain ⟨X, x, Y, e1, e2⟩ := O.del_old hh
    have hp := O.flat
    rw [e1, List.pairwise_append] at hp
    have e3 : ent T k = some (ky k, [T.getD k 0 - 1]) := by unfold ent; rw [if_neg h0]
    rw [e3] at h
    obtain ⟨r1, r2⟩ := split_eq (k := ky k) (e1.symm.trans h) (fun a ha => hp.2.2 a ha _ List.mem_cons_self) (fun y hy hl => by
      rcases List.mem_cons.1 hy with rfl | hy
      · exact lt_irrefl _ hl
      · exact ((List.pairwise_cons.1 hp.2.1).1 y hy).not hl) low_lst (fun y hy hl => by
      rcases List.mem_cons.1 (show y ∈ (ky k, [T.getD k 0 - 1]) :: lst T (k + 1) (599 - k) by simpa using hy) with rfl | hy
      · exact lt_irrefl _ hl
      · exact (high_lst y hy).not hl)
    rw [e2, r1]
    simp at r2
    rw [r2.2]
    simp
theorem Bk.nil : Bk [] (List.replicate 600 0) := by
  unfold Bk lst
  symm
  rw [List.flatten_nil, List.filterMap_eq_nil_iff]
  intro i hi
  rw [List.mem_range'_1] at hi
  unfold ent
  rw [if_pos]
  rw [List.getD_eq_getElem?_getD, List.getElem?_replicate]
  split <;> rfl
/-- a map of blocks from B on, none from lo up to hi -/
structure Mv (w : World) (B lo hi g : Nat) (Q : List (List KV)) (N : Nat) : Prop where
  ex : ∃ F, Mp w F (B ≤ ·) g Q N ∧ (∀ b, F b → B ≤ b) ∧ ∀ b, F b → b < lo ∨ hi ≤ b
theorem Mv.b {w : World} {B lo hi g N : Nat} {Q : List (List KV)} (h : Mv w B lo hi g Q N) : Mb w B g Q N := by
  obtain ⟨F, M, hF, _⟩ := h.ex
  exact ⟨F, M, hF⟩
theorem Mv.keep {w w' : World} {B lo hi g N : Nat} {Q : List (List KV)} (h : Mv w B lo hi g Q N) (hb : Below w.heap.size w w') : Mv w' B lo hi g Q N := by
  obtain ⟨F, M, r⟩ := h.ex
  exact ⟨F, M.keep hb, r⟩
theorem Mv.more {w : World} {B lo hi g N N' : Nat} {Q : List (List KV)} (h : Mv w B lo hi g Q N) (hN : N ≤ N') : Mv w B lo hi g Q N' := by
  obtain ⟨F, M, r⟩ := h.ex
  exact ⟨F, M.more hN, r⟩
theorem Mv.set {w : World} {B lo hi g N : Nat} {Q : List (List KV)} {kv vv : Value} {k v : List Int} (h : Mv w B lo hi g Q N) (hB : B ≤ w.heap.size) (hh : hi ≤ w.heap.size) (hk : By w kv k) (hv : By w vv v) (hkl : k.length ≤ 1000000000) (hvl : v.length ≤ 1000000000) (hN : N ≤ 100000000) :
    Calls Try.prog 12 #[.pointer (some ⟨g, 0, none⟩), kv, vv] w fun e w' => e = .returned (.bool (!ahas Q k)) ∧ Mv w' B lo hi g (aset Q k v) (N + 1) ∧ Below B w w' ∧ KpR lo hi w w' := by
  obtain ⟨F, M, hF, hR⟩ := h.ex
  exact (mset M hk hv hkl hvl hN).mono fun e w' ⟨he, F2, M2, hF2, hc⟩ => ⟨he, ⟨F2, M2.mono fun b _ h => h.elim id (fun h => by show B ≤ b; omega), fun b hb => (hF2 b hb).elim (hF b) (fun h => by omega), fun b hb => (hF2 b hb).elim (hR b) (fun h => .inr (by omega))⟩, hc.below hF hB, ⟨fun x h1 h2 => hc.same x (by omega) fun f => by have := hR x f; omega⟩⟩
theorem Mv.del {w : World} {B lo hi g N : Nat} {Q : List (List KV)} {kv : Value} {k : List Int} (h : Mv w B lo hi g Q N) (hB : B ≤ w.heap.size) (hh : hi ≤ w.heap.size) (hk : By w kv k) (hN : N ≤ 100000000) :
    Calls Try.prog 14 #[.pointer (some ⟨g, 0, none⟩), kv] w fun e w' => e = .returned (.bool (ahas Q k)) ∧ Mv w' B lo hi g (adel Q k) N ∧ Below B w w' ∧ KpR lo hi w w' := by
  obtain ⟨F, M, hF, hR⟩ := h.ex
  exact (mdel M hk hN).mono fun e w' ⟨he, F2, M2, hF2, hc⟩ => ⟨he, ⟨F2, M2, fun b hb => (hF2 b hb).elim (hF b) (fun h => by omega), fun b hb => (hF2 b hb).elim (hR b) (fun h => .inr (by omega))⟩, hc.below hF hB, ⟨fun x h1 h2 => hc.same x (by omega) fun f => by have := hR x f; omega⟩⟩
/-- a store in a list of numbers between lo and hi -/
theorem Mv.cell {w : World} {B lo hi g N p i : Nat} {Q : List (List KV)} {cs : List Value} (h : Mv w B lo hi g Q N) (hl : lo ≤ p) (hh : p < hi) (hb : Blk w p cs 3) (v : Value) : Mv (w.setCell ⟨p, i, none⟩ v) B lo hi g Q N := by
  obtain ⟨F, M, hF, hR⟩ := h.ex
  have hc : Chg (fun x => x = p) w (w.setCell ⟨p, i, none⟩ v) := (Chg.refl (fun x => x = p) w).cell (g := p) (i := i) (.inl rfl) v
  refine ⟨F, M.chg hc (fun b hb f => ?_) (fun b e ds hk => ?_), hF, hR⟩
  · have hb' : b = p := hb
    have := hR b f
    omega
  · have e' : b = p := e
    subst e'
    have := (hb.eq hk).2
    revert this
    decide
theorem Rw.kpr {w w' : World} {E : TypeId} {k b n c : Nat} {xs : List Value} (h : Rw w E k b n c xs) {lo hi : Nat} (hk : KpR lo hi w w') (h1 : lo ≤ b) (h2 : b < hi) : Rw w' E k b n c xs := h.same (hk.same b h1 h2)
theorem ob_pair (w : World) (x y : Int) (hx : 0 ≤ x ∧ x < 256) (hy : 0 ≤ y ∧ y < 256) : OB (w.alloc (.cells #[.int .u8 x, .int .u8 y] 5)) (w.heap.size ≤ ·) (.slice (some ⟨w.heap.size, 0, none⟩) 2 2) [x, y] :=
  ⟨fun z hz => by simp at hz; rcases hz with rfl | rfl <;> assumption, .inr ⟨_, 2, rfl, Nat.le_refl _, blk_rw (blk_new w [.int .u8 x, .int .u8 y] _) rfl (show 2 ≤ maxLen by decide)⟩⟩
theorem and_mask (x : Int) : 0 ≤ bits .and .i64 x 2147483647 ∧ bits .and .i64 x 2147483647 < 2147483648 := by
  have e : bits .and .i64 x 2147483647 = IntKind.i64.wrap (((BitVec.ofInt 64 x &&& BitVec.ofInt 64 2147483647).toNat : Nat) : Int) := rfl
  have h : (BitVec.ofInt 64 x &&& BitVec.ofInt 64 2147483647).toNat ≤ 2147483647 := by
    rw [BitVec.toNat_and]
    exact Nat.le_trans Nat.and_le_right (by decide)
  rw [e, IntKind.wrap_i64]
  omega
theorem kap (Z : Int) (h0 : 0 ≤ Z) (h1 : Z < 2147483648) : ∃ κ : Nat, κ < 600 ∧ Hid ((wrap64 (Z.tdiv 64)).tmod 600 = (κ : Int)) := by
  refine ⟨(Z.toNat / 64) % 600, Nat.mod_lt _ (by decide), ?_⟩
  show _ = _
  rw [Int.tdiv_eq_ediv_of_nonneg h0]
  have e : wrap64 (Z / 64) = Z / 64 := by unfold wrap64; omega
  rw [e, Int.tmod_eq_emod_of_nonneg (by omega)]
  omega
theorem kap1 (κ : Nat) (h : κ < 600) : wrap64 ((κ : Int).tdiv 256) % 256 = ((κ / 256 : Nat) : Int) := by
  rw [Int.tdiv_eq_ediv_of_nonneg (by omega)]
  unfold wrap64
  omega
theorem kap2 (κ : Nat) : (κ : Int) % 256 = ((κ % 256 : Nat) : Int) := by omega
theorem KpR.cl {lo hi : Nat} {w w' : World} (h : KpR lo hi w w') {b i : Nat} (h1 : lo ≤ b) (h2 : b < hi) : w'.cell? ⟨b, i, none⟩ = w.cell? ⟨b, i, none⟩ := World.cell?_of_block (h.same b h1 h2)
theorem run_b8 {a : Act} {w : World} {o : Oper} {k : Nat} {x : Int} (ho : o.op = .buildSlice 33 1 #[(0, .tmp k)]) (hk : a.eval (.tmp k) = .int .u8 x) : (execOp a.eval o).run Try.prog w = .ok (.value (.slice (some ⟨w.heap.size, 0, none⟩) 1 1)) (lit8 w x) := by
  have hk' : a.tmps[k]?.getD undef = .int .u8 x := by simpa [Act.eval] using hk
  simp only [execOp, ho]
  go_simp
theorem run_b82 {a : Act} {w : World} {o : Oper} {k j : Nat} {x y : Int} (ho : o.op = .buildSlice 33 2 #[(0, .tmp k), (1, .tmp j)]) (hk : a.eval (.tmp k) = .int .u8 x) (hj : a.eval (.tmp j) = .int .u8 y) : (execOp a.eval o).run Try.prog w = .ok (.value (.slice (some ⟨w.heap.size, 0, none⟩) 2 2)) (w.alloc (.cells #[.int .u8 x, .int .u8 y] 5)) := by
  have hk' : a.tmps[k]?.getD undef = .int .u8 x := by simpa [Act.eval] using hk
  have hj' : a.tmps[j]?.getD undef = .int .u8 y := by simpa [Act.eval] using hj
  simp only [execOp, ho]
  go_simp
theorem pcells3 {w w' : World} {p q i j l : Nat} {a b c : Value} (h : w.cell? ⟨p, i, none⟩ = some a ∧ w.cell? ⟨p, j, none⟩ = some b ∧ w.cell? ⟨q, l, none⟩ = some c) (h1 : p < w.heap.size) (h2 : q < w.heap.size) (hb : Below w.heap.size w w') : w'.cell? ⟨p, i, none⟩ = some a ∧ w'.cell? ⟨p, j, none⟩ = some b ∧ w'.cell? ⟨q, l, none⟩ = some c := by
  refine ⟨?_, ?_, ?_⟩
  · rw [hb.cell (p := ⟨p, i, none⟩) h1]; exact h.1
  · rw [hb.cell (p := ⟨p, j, none⟩) h1]; exact h.2.1
  · rw [hb.cell (p := ⟨q, l, none⟩) h2]; exact h.2.2
end Pg
end Go.Proofs.Ytmcldniffieeiaa
