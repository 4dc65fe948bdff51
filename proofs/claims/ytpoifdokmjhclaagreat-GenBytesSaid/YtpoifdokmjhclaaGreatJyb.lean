/- Several texts, joined: Enc0, Enc1, Enc2, GcdOne, Small, Groups, CopyN, RefD, RefB, Enc8, Enc3, Enc4, Enc5, Enc6, Enc9, EncA, EncB, EncC, EncD, Enc7, EncE, EncF, EncG, EncI, EncJ, EncK, RefB2, EncL, EncP. -/
import Derived.Test.YtpoifdokmjhclaaGreatJya
import Derived.Deep.RegionWith
import Derived.OpenShut
import Derived.Laws.AppendOwnNone
import Derived.Deep.RegionLaw
import Derived.Laws.CopyOwn
import Derived.Great.FillDense
import Derived.Lib.SliceRun
import Derived.Lib.SlBytesConst
namespace Go.Proofs.YtpoifdokmjhclaaGreat
open Go.RowKit Lim

/-- the bytes l lie at ao, in block b -/
structure ByA (w : World) (b : Nat) (ao : Option Addr) (n c : Nat) (l : List Int) : Prop where
  ex : ∃ o, l.length = n ∧ n ≤ c ∧ (c ≤ 9223372036854775807 ∧ (ao = none → c = 0)) ∧ Octets l ∧ AtB w ao b o l
theorem ByA.keep {w w' : World} {b : Nat} {ao : Option Addr} {n c : Nat} {l : List Int} (h : ByA w b ao n c l) (hb : Below w.heap.size w w') : ByA w' b ao n c l := by
  obtain ⟨o, h1, h2, h3, h4, h5⟩ := h.ex
  exact ⟨o, h1, h2, h3, h4, h5.keep hb⟩
theorem addr_add (b o n : Nat) : (⟨b, o, none⟩ : Addr).add n = ⟨b, o + n, none⟩ := by
  unfold Addr.add
  split
  · subst n; rfl
  · rfl
/-- the address of a list's rest -/
def restAt (ao : Option Addr) (c n : Nat) : Option Addr := if c = n then ao else ao.map (·.add n)
theorem restAt_none {ao : Option Addr} {c k : Nat} (h : restAt ao c k = none) : ao = none := by
  unfold restAt at h
  split at h
  · exact h
  · cases ao with
    | none => rfl
    | some a => cases h
theorem ByA.rest {w : World} {b : Nat} {ao : Option Addr} {n c : Nat} {l : List Int} (h : ByA w b ao n c l) {k : Nat} (hk : k ≤ n) : ByA w b (restAt ao c k) (n - k) (c - k) (l.drop k) := by
  obtain ⟨o, h1, h2, h3, h4, h5⟩ := h.ex
  by_cases hn : n = k
  · have e : l.drop k = [] := List.drop_eq_nil_of_le (by omega)
    rw [e]
    exact ⟨0, by rw [hn]; simp, by omega, ⟨by have := h3.1; omega, fun e => by have := h3.2 (restAt_none e); omega⟩, fun x hx => by simp at hx, .inl rfl, fun i hi => by simp at hi⟩
  · have hl : l ≠ [] := fun e => by rw [e] at h1; simp at h1; omega
    obtain rfl : ao = some ⟨b, o, none⟩ := by
      rcases h5.loc with e | e
      · exact absurd e hl
      · exact e
    have e : restAt (some ⟨b, o, none⟩) c k = some ⟨b, o + k, none⟩ := by
      unfold restAt
      rw [if_neg (by omega)]
      exact congrArg some (addr_add b o k)
    rw [e]
    refine ⟨o + k, by rw [List.length_drop]; omega, by omega, ⟨by have := h3.1; omega, fun e => by cases e⟩, fun x hx => h4 x (List.mem_of_mem_drop hx), .inr rfl, fun i hi => ?_⟩
    rw [List.length_drop] at hi
    have := h5.cell (k + i) (by omega)
    rw [show o + k + i = o + (k + i) by omega, this, nth_drop]
theorem ByA.front {w : World} {b : Nat} {ao : Option Addr} {n c : Nat} {l : List Int} (h : ByA w b ao n c l) {k : Nat} (hk : k ≤ n) : ByA w b ao k k (l.take k) := by
  obtain ⟨o, h1, h2, h3, h4, h5⟩ := h.ex
  refine ⟨o, by rw [List.length_take]; omega, Nat.le_refl _, ⟨by have := h3.1; omega, fun e => by have := h3.2 e; omega⟩, fun x hx => h4 x (List.mem_of_mem_take hx), ?_, fun i hi => ?_⟩
  · rcases h5.loc with e | e
    · exact .inl (by rw [e]; simp)
    · exact .inr e
  · rw [List.length_take] at hi
    rw [h5.cell i (by omega), nth_take (by omega)]
theorem Box.two {w : World} {g : Nat} {u v : Value} {t : TypeId} (h : Box w g [u, v] t) : w.cell? ⟨g, 0, none⟩ = some u ∧ w.cell? ⟨g, 1, none⟩ = some v ∧ w.frozen? ⟨g, 0, none⟩ = false ∧ w.frozen? ⟨g, 1, none⟩ = false := by
  have := h.blk
  simp [World.cell?, World.frozen?, this]
set_option maxRecDepth 100000 in
theorem rdFine {w : World} {g : Nat} {err : Int} {v : Value} {t : TypeId} (X : Box w g [.int .i64 err, v] t) :
    Calls Tryz.prog 54 #[.pointer (some ⟨g, 0, none⟩)] w fun e w' => e = .returned (.bool (err == 0)) ∧ w' = w := by
  obtain ⟨c1, c2, c3, c4⟩ := X.two
  go_enter Tryz.func54, Tryz.ntmps54
  go_wp2
  go_ret
  exact ⟨rfl, rfl⟩
set_option maxRecDepth 100000 in
theorem rdMeet {w : World} {g : Nat} {e0 : Int} {v : Value} {t : TypeId} (X : Box w g [.int .i64 0, v] t) :
    Calls Tryz.prog 81 #[.pointer (some ⟨g, 0, none⟩), .int .i64 e0] w fun e w' => e = .returned (.tuple #[]) ∧ w' = w.setCell ⟨g, 0, none⟩ (.int .i64 e0) := by
  obtain ⟨c1, c2, c3, c4⟩ := X.two
  go_enter Tryz.func81, Tryz.ntmps81
  go_wp2_with fail
  refine (rdFine X).mono ?_
  rintro e w' ⟨rfl, rfl⟩
  go_wp2
  go_end0
  exact ⟨rfl, rfl⟩
set_option maxRecDepth 100000 in
theorem rdTakeS {w : World} {g n c : Nat} {m : Int} {u : Value} {ao : Option Addr} {t : TypeId} (X : Box w g [u, .slice ao n c] t) (hn : n ≤ 9223372036854775807) (hm : (n : Int) < m) :
    Calls Tryz.prog 157 #[.pointer (some ⟨g, 0, none⟩), .int .u64 m] w fun e w' => e = .returned (.tuple #[.slice none 0 0, .int .i64 40]) ∧ w' = w := by
  obtain ⟨c1, c2, c3, c4⟩ := X.two
  go_enter Tryz.func157, Tryz.ntmps157
  go_wp2
  go_ret2
  exact ⟨rfl, rfl⟩
set_option maxRecDepth 100000 in
theorem rdTake {w : World} {g n c m : Nat} {u : Value} {ao : Option Addr} {t : TypeId} (X : Box w g [u, .slice ao n c] t) (hc : n ≤ c) (hn : c ≤ 9223372036854775807) (hm : m ≤ n) :
    Calls Tryz.prog 157 #[.pointer (some ⟨g, 0, none⟩), .int .u64 m] w fun e w' => e = .returned (.tuple #[.slice ao m m, .int .i64 0]) ∧ w' = w.setCell ⟨g, 1, none⟩ (.slice (restAt ao c m) (n - m) (c - m)) := by
  obtain ⟨c1, c2, c3, c4⟩ := X.two
  have hm0 : (m : Int) ≤ n := by omega
  have hm1 : (m : Int) ≤ c := by omega
  go_enter Tryz.func157, Tryz.ntmps157
  go_wp2
  · go_ret2
    exact ⟨rfl, by unfold restAt; rw [if_pos rfl]⟩
  · go_ret2
    exact ⟨rfl, by unfold restAt; rw [if_neg (by assumption)]⟩
end Go.Proofs.YtpoifdokmjhclaaGreat

namespace Go.Proofs.YtpoifdokmjhclaaGreat
open Go.RowKit Lim

theorem or8 (a b : Int) (h0 : 0 ≤ a) (h1 : a < 72057594037927936) (h2 : 0 ≤ b) (h3 : b < 256) : bits .or .u64 (a * 256) b = a * 256 + b := or_add (a * 256) b 8 a (by rw [show (2 : Int) ^ 8 = 256 by decide]) h0 (by omega) h2 (by omega) (by omega)
theorem bval_snoc2 (l : List Int) (x : Int) : bval (l ++ [x]) = bval l * 256 + x := by
  induction l with
  | nil => simp [bval]
  | cons y l ih =>
    rw [List.cons_append, bval, bval, ih, List.length_append, List.length_singleton, Int.pow_succ]
    grind
theorem AtB.box {w w' : World} {ao : Option Addr} {b o g : Nat} {l : List Int} (k : AtB w ao b o l) {cs : List Value} {t : TypeId} (s : Box w g cs t) (hv : ∀ v ∈ cs, ∀ x, v ≠ .int .u8 x) (hw : ∀ k, k ≠ g → w'.heap[k]? = w.heap[k]?) : AtB w' ao b o l :=
  ⟨k.loc, fun i hi => by
    have hc := k.cell i hi
    by_cases e : b = g
    · subst e
      simp only [World.cell?, s.blk] at hc
      have h1 : cs.toArray[o + i]? = some (.int .u8 (nth l i)) := by simpa using hc
      rw [List.getElem?_toArray] at h1
      exact absurd rfl (hv _ (List.mem_of_getElem? h1) _)
    · rw [World.cell?_of_block (w := w) (hw b e)]; exact hc⟩
theorem ByA.box {w w' : World} {ao : Option Addr} {b n c g : Nat} {l : List Int} (h : ByA w b ao n c l) {cs : List Value} {t : TypeId} (s : Box w g cs t) (hv : ∀ v ∈ cs, ∀ x, v ≠ .int .u8 x) (hw : ∀ k, k ≠ g → w'.heap[k]? = w.heap[k]?) : ByA w' b ao n c l := by
  obtain ⟨o, h1, h2, h3, h4, h5⟩ := h.ex
  exact ⟨o, h1, h2, h3, h4, h5.box s hv hw⟩
theorem no_u8 (err : Int) (ao : Option Addr) (n c : Nat) : ∀ v ∈ [Value.int .i64 err, Value.slice ao n c], ∀ x, v ≠ .int .u8 x := fun v hv x e => by
  rcases List.mem_cons.1 hv with h | h
  · subst h; cases e
  · rw [List.mem_singleton] at h; subst h; cases e
set_option maxHeartbeats 2000000 in
set_option maxRecDepth 100000 in
theorem rdNum {w : World} {g b n c m : Nat} {err : Int} {ao : Option Addr} {t : TypeId} {l : List Int} (X : Box w g [.int .i64 err, .slice ao n c] t) (h : ByA w b ao n c l) (hm : m ≤ n) (h8 : m ≤ 8) :
    Calls Tryz.prog 123 #[.pointer (some ⟨g, 0, none⟩), .int .u64 m] w fun e w' => e = .returned (.tuple #[.int .u64 (bval (l.take m)), .int .i64 0]) ∧ w' = w.setCell ⟨g, 1, none⟩ (.slice (restAt ao c m) (n - m) (c - m)) := by
  obtain ⟨o, h1, h2, ⟨h3, -⟩, h4, h5⟩ := h.ex
  have hA : ByA (w.setCell ⟨g, 1, none⟩ (.slice (restAt ao c m) (n - m) (c - m))) b ao n c l := h.box X (no_u8 _ _ _ _) fun k hk => Below.heap_setCell _ _ _ k hk
  have t := rdTake (m := m) X h2 h3 hm
  obtain ⟨o', -, -, -, -, hA5⟩ := hA.ex
  clear hA h5 h X
  have HO : Hid (Octets l) := h4
  clear h4
  go_enter Tryz.func123, Tryz.ntmps123
  go_wp2_with fail
  refine t.mono ?_
  rintro e w' ⟨rfl, rfl⟩
  clear t
  generalize hWW : w.setCell ⟨g, 1, none⟩ (.slice (restAt ao c m) (n - m) (c - m)) = W at *
  have HWW := (show Hid _ from hWW)
  clear hWW
  go_wp2_with fail
  go_loop [8, 10, 19] (fun tx td ti => ∃ k : Nat, k ≤ m ∧ ti = .int .i64 k ∧ tx = .int .u64 (bval (l.take k))) (fun _ _ ti => m - (intOf ti).toNat)
  case atStart => exact ⟨0, Nat.zero_le _, rfl, rfl⟩
  case round =>
    obtain ⟨k, hk, rfl, rfl⟩ := hrel
    by_cases hlt : k < m
    · have hkl : k < l.length := by omega
      have hcell := hA5.cell k hkl
      obtain rfl : ao = some ⟨b, o', none⟩ := by
        rcases hA5.loc with e | e
        · rw [e] at hkl; simp at hkl
        · exact e
      have hk0 : (k : Int) < m := by omega
      have hd := HO.out.nth k
      have HB := bval_bound (l := l.take k) (fun x hx => HO.out x (List.mem_of_mem_take hx))
      have hp : (256 : Int) ^ (l.take k).length ≤ 256 ^ 7 := pow256_mono (by rw [List.length_take]; omega)
      have hx1 : bval (l.take k) < 72057594037927936 := by
        have e7 : (256 : Int) ^ 7 = 72057594037927936 := by decide
        omega
      have hx0 := HB.1
      have hor := or8 (bval (l.take k)) (nth l k) hx0 hx1 hd.1 hd.2
      have HN : Hid (bval (l.take (k + 1)) = bval (l.take k) * 256 + nth l k) := by show _ = _; rw [take_succ_nth hkl, bval_snoc2]
      clear HB hp
      generalize bval (l.take k) = V at *
      generalize nth l k = D at *
      go_wp2
      go_round
      case rel => exact ⟨k + 1, by omega, by go_num, by rw [HN.out]⟩
      case measure => simp [intOf]; omega
    · obtain rfl : k = m := by omega
      go_wp2
      go_ret2
      exact ⟨rfl, HWW.out.symm⟩
end Go.Proofs.YtpoifdokmjhclaaGreat

namespace Go.Proofs.YtpoifdokmjhclaaGreat
open Go.RowKit Lim

/-- of the blocks of w all but g are the same in w' -/
structure But (g : Nat) (w w' : World) : Prop where
  os : w'.os = w.os
  tape : w'.tape = w.tape
  output : w'.output = w.output
  size : w.heap.size ≤ w'.heap.size
  block : ∀ k, k < w.heap.size → k ≠ g → w'.heap[k]? = w.heap[k]?
theorem But.below {g B : Nat} {w0 w w' : World} (h : But g w w') (b : Below B w0 w) (hB : B ≤ g) (hs : B ≤ w0.heap.size) : Below B w0 w' :=
  ⟨h.os.trans b.os, h.tape.trans b.tape, h.output.trans b.output, Nat.le_trans b.size h.size, fun k hk => (h.block k (Nat.lt_of_lt_of_le (Nat.lt_of_lt_of_le hk hs) b.size) (by omega)).trans (b.block k hk)⟩
theorem but_below {g : Nat} {w w1 w2 w3 : World} (b : Below w.heap.size w w1) (h : ∀ k, k ≠ g → w2.heap[k]? = w1.heap[k]?) (ho : w2.os = w1.os) (ht : w2.tape = w1.tape) (hp : w2.output = w1.output) (hs : w2.heap.size = w1.heap.size) (e : w3 = w2) : But g w w3 := by
  subst e
  exact ⟨ho.trans b.os, ht.trans b.tape, hp.trans b.output, by rw [hs]; exact b.size, fun k hk hg => (h k hg).trans (b.block k hk)⟩
theorem box_put1 {w : World} {g : Nat} {a b : Value} {t : TypeId} (h : Box w g [a, b] t) (v : Value) : Box (w.setCell ⟨g, 1, none⟩ v) g [a, v] t := ⟨by
  have := h.blk
  simp only [World.setCell, Array.getElem?_modify, if_true, this]
  simp⟩
theorem box_put0 {w : World} {g : Nat} {a b : Value} {t : TypeId} (h : Box w g [a, b] t) (v : Value) : Box (w.setCell ⟨g, 0, none⟩ v) g [v, b] t := ⟨by
  have := h.blk
  simp only [World.setCell, Array.getElem?_modify, if_true, this]
  simp⟩
set_option maxHeartbeats 2000000 in
set_option maxRecDepth 100000 in
theorem rdNumS {w : World} {g n c : Nat} {m : Int} {err : Int} {ao : Option Addr} {t : TypeId} (X : Box w g [.int .i64 err, .slice ao n c] t) (hn : n ≤ 9223372036854775807) (hm : (n : Int) < m) :
    Calls Tryz.prog 123 #[.pointer (some ⟨g, 0, none⟩), .int .u64 m] w fun e w' => e = .returned (.tuple #[.int .u64 0, .int .i64 40]) ∧ w' = w := by
  have t := rdTakeS X hn hm
  clear hm
  go_enter Tryz.func123, Tryz.ntmps123
  go_wp2_with fail
  refine t.mono ?_
  rintro e w' ⟨rfl, rfl⟩
  clear t
  go_wp2_with fail
  go_loop [8, 10, 19] (fun tx td ti => tx = .int .u64 0 ∧ ti = .int .i64 0) (fun _ _ _ => 0)
  case atStart => exact ⟨rfl, rfl⟩
  case round =>
    obtain ⟨rfl, rfl⟩ := hrel
    go_wp2
    go_ret2
    exact ⟨rfl, rfl⟩
set_option maxRecDepth 100000 in
theorem rdFix1 {w : World} {gr gs g : Nat} {m x e0 : Int} {Q : World → Prop} (hr : w.cell? ⟨gr, 0, none⟩ = some (.pointer (some ⟨g, 0, none⟩))) (hs : w.cell? ⟨gs, 0, none⟩ = some (.int .u64 m)) (tN : Calls Tryz.prog 123 #[.pointer (some ⟨g, 0, none⟩), .int .u64 m] w fun e w' => e = .returned (.tuple #[.int .u64 x, .int .i64 e0]) ∧ Q w') :
    Calls Tryz.prog 122 #[.pointer (some ⟨gr, 0, none⟩), .pointer (some ⟨gs, 0, none⟩)] w fun e w' => e = .returned (.tuple #[.int .u64 x, .int .i64 e0]) ∧ Q w' := by
  go_enter Tryz.func122, Tryz.ntmps122
  go_wp2_with fail
  refine tN.mono ?_
  rintro e w' ⟨rfl, hQ⟩
  clear tN
  go_wp2
  go_ret2
  exact ⟨rfl, hQ⟩
set_option maxHeartbeats 2000000 in
set_option maxRecDepth 100000 in
/-- behind an error nothing is read -/
theorem enBad {w : World} {g : Nat} {err : Int} {v : Value} {t : TypeId} {fv : Value} (X : Box w g [.int .i64 err, v] t) (he : err ≠ 0) :
    Calls Tryz.prog 121 #[.pointer (some ⟨g, 0, none⟩), fv] w fun e w' => e = .returned (.int .u64 0) ∧ w' = w := by
  have hb : (err == 0) = false := beq_eq_false_iff_ne.2 he
  have t := rdFine X
  rw [hb] at t
  clear he hb
  go_enter Tryz.func121, Tryz.ntmps121
  go_wp2_with fail
  refine t.mono ?_
  rintro e w' ⟨rfl, rfl⟩
  clear t
  go_wp2
  go_ret
  exact ⟨rfl, rfl⟩
set_option maxHeartbeats 2000000 in
set_option maxRecDepth 100000 in
/-- what is read without an error -/
theorem enOk {w : World} {g gr gs n c : Nat} {ao : Option Addr} {t : TypeId} {x : Int} {Q : World → Prop} (X : Box w g [.int .i64 0, .slice ao n c] t)
    (tF : Calls Tryz.prog 122 #[.pointer (some ⟨gr, 0, none⟩), .pointer (some ⟨gs, 0, none⟩)] w fun e w' => e = .returned (.tuple #[.int .u64 x, .int .i64 0]) ∧ Q w') :
    Calls Tryz.prog 121 #[.pointer (some ⟨g, 0, none⟩), .func (.func 122) #[] #[.pointer (some ⟨gr, 0, none⟩), .pointer (some ⟨gs, 0, none⟩)]] w fun e w' => e = .returned (.int .u64 x) ∧ Q w' := by
  obtain ⟨c1, c2, c3, c4⟩ := X.two
  have t := rdFine X
  go_enter Tryz.func121, Tryz.ntmps121
  go_wp2_with fail
  refine t.mono ?_
  rintro e w' ⟨rfl, rfl⟩
  clear t
  go_wp2_with fail
  refine tF.mono ?_
  rintro e w1 ⟨rfl, hQ⟩
  clear tF
  go_wp2
  go_ret
  exact ⟨rfl, hQ⟩
set_option maxHeartbeats 2000000 in
set_option maxRecDepth 100000 in
/-- what is read with an error: nothing is taken -/
theorem enErr {w : World} {g gr gs n c : Nat} {ao : Option Addr} {t : TypeId} {x : Int} {e0 : Int} (he : e0 ≠ 0) (X : Box w g [.int .i64 0, .slice ao n c] t)
    (tF : Calls Tryz.prog 122 #[.pointer (some ⟨gr, 0, none⟩), .pointer (some ⟨gs, 0, none⟩)] w fun e w' => e = .returned (.tuple #[.int .u64 x, .int .i64 e0]) ∧ w' = w) :
    Calls Tryz.prog 121 #[.pointer (some ⟨g, 0, none⟩), .func (.func 122) #[] #[.pointer (some ⟨gr, 0, none⟩), .pointer (some ⟨gs, 0, none⟩)]] w fun e w' => e = .returned (.int .u64 0) ∧ w' = (w.setCell ⟨g, 1, none⟩ (.slice ao n c)).setCell ⟨g, 0, none⟩ (.int .i64 e0) := by
  obtain ⟨c1, c2, c3, c4⟩ := X.two
  have X2 : Box (w.setCell ⟨g, 1, none⟩ (.slice ao n c)) g [.int .i64 0, .slice ao n c] t := box_put1 X _
  have tt := rdFine X
  have hb : (e0 == 0) = false := beq_eq_false_iff_ne.2 he
  clear he
  go_enter Tryz.func121, Tryz.ntmps121
  go_wp2_with fail
  refine tt.mono ?_
  rintro e w' ⟨rfl, rfl⟩
  clear tt
  go_wp2_with fail
  refine tF.mono ?_
  rintro e w1 ⟨rfl, rfl⟩
  clear tF
  go_wp2_with fail
  refine (rdMeet X2).mono ?_
  rintro e w2 ⟨rfl, rfl⟩
  go_wp2
  go_ret
  exact ⟨rfl, rfl⟩
/-- a Reader: its error, the bytes that weren't taken (in block b) -/
structure RdA (w : World) (g b : Nat) (err : Int) (l : List Int) : Prop where
  ex : ∃ ao n c, Box w g [.int .i64 err, .slice ao n c] 161 ∧ ByA w b ao n c l
theorem RdA.keep {w w' : World} {g b : Nat} {err : Int} {l : List Int} (h : RdA w g b err l) (hb : Below w.heap.size w w') : RdA w' g b err l := by
  obtain ⟨ao, n, c, h1, h2⟩ := h.ex
  exact ⟨ao, n, c, h1.keep hb, h2.keep hb⟩
def fixV (m : Nat) (err : Int) (l : List Int) : Int := if err = 0 ∧ m ≤ l.length then bval (l.take m) else 0
def fixE (m : Nat) (err : Int) (l : List Int) : Int := if err = 0 then (if m ≤ l.length then 0 else 40) else err
def fixL (m : Nat) (err : Int) (l : List Int) : List Int := if err = 0 ∧ m ≤ l.length then l.drop m else l
theorem size_set (w : World) (p : Addr) (v : Value) : (w.setCell p v).heap.size = w.heap.size := by simp [World.setCell]
set_option maxHeartbeats 2000000 in
set_option maxRecDepth 100000 in
theorem rdFixed {w : World} {g b m : Nat} {err : Int} {l : List Int} (h : RdA w g b err l) (h8 : m ≤ 8) :
    Calls Tryz.prog 79 #[.pointer (some ⟨g, 0, none⟩), .int .u64 m] w fun e w' => e = .returned (.int .u64 (fixV m err l)) ∧ RdA w' g b (fixE m err l) (fixL m err l) ∧ But g w w' := by
  have HB := below2 w (.cells #[.pointer (some ⟨g, 0, none⟩)] 105) (.cells #[.int .u64 m] 22)
  have S1 := (slot_new w (.pointer (some ⟨g, 0, none⟩)) 105).alloc (.cells #[.int .u64 m] 22)
  have S2 := slot_last2 w (.cells #[.pointer (some ⟨g, 0, none⟩)] 105) (.int .u64 (m : Int)) 22
  have hl := h.ex
  obtain ⟨ao, n, c, X0, hA0⟩ := hl
  have hg := X0.lt
  have X := X0.keep HB
  have hA := hA0.keep HB
  obtain ⟨o, h1, h2, ⟨h3, -⟩, h4, h5⟩ := hA.ex
  have q1 := S1.cell
  have q2 := S2.cell
  clear h5
  by_cases he : err = 0
  · subst he
    by_cases hm : m ≤ n
    · have t := enOk X (rdFix1 q1 q2 (rdNum X hA hm h8))
      have HV : Hid (fixV m 0 l = bval (l.take m)) := by show _ = _; unfold fixV; rw [if_pos ⟨rfl, by omega⟩]
      have HR : Hid (∀ W', W' = (((w.alloc (.cells #[.pointer (some ⟨g, 0, none⟩)] 105)).alloc (.cells #[.int .u64 m] 22)).setCell ⟨g, 1, none⟩ (.slice (restAt ao c m) (n - m) (c - m))) → RdA W' g b (fixE m 0 l) (fixL m 0 l) ∧ But g w W') := by
        intro W' e
        subst e
        refine ⟨?_, ?_⟩
        · unfold fixE fixL
          rw [if_pos rfl, if_pos (by omega), if_pos ⟨rfl, by omega⟩]
          exact ⟨_, _, _, box_put1 X _, (hA.rest hm).box X (no_u8 _ _ _ _) fun k hk => Below.heap_setCell _ _ _ k hk⟩
        · exact but_below HB (fun k hk => Below.heap_setCell _ _ _ k hk) rfl rfl rfl (size_set _ _ _) rfl
      clear X0 hA0 X hA S1 S2 h h1 h2 h3 h4 q1 q2 HB
      go_enter Tryz.func79, Tryz.ntmps79
      go_wp2_with fail
      refine t.mono ?_
      rintro e w1 ⟨rfl, hQ⟩
      have HQ := (show Hid _ from HR.out _ hQ)
      clear t hQ HR
      go_wp2
      go_ret
      exact ⟨by rw [HV.out]; rfl, HQ.out⟩
    · have t := enErr (by decide) X (rdFix1 q1 q2 (rdNumS X (by omega) (by omega : (n : Int) < m)))
      have HV : Hid (fixV m 0 l = 0) := by show _ = _; unfold fixV; rw [if_neg (fun hh => hm (by omega))]
      have HR : Hid (∀ W', W' = ((((w.alloc (.cells #[.pointer (some ⟨g, 0, none⟩)] 105)).alloc (.cells #[.int .u64 m] 22)).setCell ⟨g, 1, none⟩ (.slice ao n c)).setCell ⟨g, 0, none⟩ (.int .i64 40)) → RdA W' g b (fixE m 0 l) (fixL m 0 l) ∧ But g w W') := by
        intro W' e
        subst e
        refine ⟨?_, ?_⟩
        · unfold fixE fixL
          rw [if_pos rfl, if_neg (by omega), if_neg (fun hh => hm (by omega))]
          exact ⟨_, _, _, box_put0 (box_put1 X _) _, hA.box X (no_u8 _ _ _ _) fun k hk => by rw [Below.heap_setCell _ _ _ k hk, Below.heap_setCell _ _ _ k hk]⟩
        · exact ⟨HB.os, HB.tape, HB.output, by rw [size_set, size_set]; exact HB.size, fun k hk hg => by rw [Below.heap_setCell _ _ _ k hg, Below.heap_setCell _ _ _ k hg]; exact HB.block k hk⟩
      clear X0 hA0 X hA S1 S2 h h1 h2 h3 h4 q1 q2 HB hm
      go_enter Tryz.func79, Tryz.ntmps79
      go_wp2_with fail
      refine t.mono ?_
      rintro e w1 ⟨rfl, hQ⟩
      have HQ := (show Hid _ from HR.out _ hQ)
      clear t hQ HR
      go_wp2
      go_ret
      exact ⟨by rw [HV.out]; rfl, HQ.out⟩
  · have t := fun fv => enBad (fv := fv) X he
    have HV : Hid (fixV m err l = 0) := by show _ = _; unfold fixV; rw [if_neg (fun hh => he hh.1)]
    have HR : Hid (∀ W', W' = ((w.alloc (.cells #[.pointer (some ⟨g, 0, none⟩)] 105)).alloc (.cells #[.int .u64 m] 22)) → RdA W' g b (fixE m err l) (fixL m err l) ∧ But g w W') := by
      intro W' e
      subst e
      refine ⟨?_, ?_⟩
      · unfold fixE fixL
        rw [if_neg he, if_neg (fun hh => he hh.1)]
        exact ⟨_, _, _, X, hA⟩
      · exact ⟨HB.os, HB.tape, HB.output, HB.size, fun k hk _ => HB.block k hk⟩
    clear X0 hA0 X hA S1 S2 h h1 h2 h3 h4 q1 q2 HB he
    go_enter Tryz.func79, Tryz.ntmps79
    go_wp2_with fail
    refine (t _).mono ?_
    rintro e w1 ⟨rfl, hQ⟩
    have HQ := (show Hid _ from HR.out _ hQ)
    clear t hQ HR
    go_wp2
    go_ret
    exact ⟨by rw [HV.out]; rfl, HQ.out⟩
end Go.Proofs.YtpoifdokmjhclaaGreat

namespace Go.Proofs.YtpoifdokmjhclaaGreat
open Go.RowKit Lim

end Go.Proofs.YtpoifdokmjhclaaGreat

namespace Go.Proofs.YtpoifdokmjhclaaGreat
open Go.RowKit Lim

end Go.Proofs.YtpoifdokmjhclaaGreat

namespace Go.Proofs.YtpoifdokmjhclaaGreat
open Go.RowKit Lim

/-- the slice v holds the bytes l, in memory of its own from block B on -/
def MineB (w : World) (B : Nat) (v : Value) (l : List Int) : Prop := w.ownsRow B 5 1 v l.length (l.map (Value.int .u8))

theorem own_ge {w : World} {B : Nat} {e : TypeId} {v : Value} {n : Nat} {xs : List Value} (h : w.ownsRow B e 1 v n xs) : ∀ g, v.ownBlock = some g → B ≤ g := by
  intro g hg
  rcases h.2 with ⟨rfl, _⟩ | ⟨g', cap, cur, rfl, hB, _⟩
  · simp [Value.ownBlock] at hg
  · simp [Value.ownBlock] at hg; omega
end Go.Proofs.YtpoifdokmjhclaaGreat

namespace Go.Proofs.YtpoifdokmjhclaaGreat
open Go.RowKit Lim

end Go.Proofs.YtpoifdokmjhclaaGreat

namespace Go.Proofs.YtpoifdokmjhclaaGreat
open Go.RowKit Lim

/-- the halves of limbs -/
def halves : List Int → List Int
  | [] => []
  | x :: l => x % 4294967296 :: x / 4294967296 :: halves l
end Go.Proofs.YtpoifdokmjhclaaGreat

namespace Go.Proofs.YtpoifdokmjhclaaGreat
open Go.RowKit Lim

set_option maxHeartbeats 2000000 in
set_option maxRecDepth 100000 in
theorem copyBytes_any (ao : Option Addr) (n c b o : Nat) (l : List Int) (w : World) (hl : l.length = n) (hbig : n ≤ 1099511627776) (hnil : ao = none → c = 0) (ha : AtB w ao b o l) :
    Calls Tryz.prog 7 #[.slice ao n c] w fun e w' => ∃ v, e = .returned v ∧ MineB w' w.heap.size v l ∧ Below w.heap.size w w' := by
  obtain ⟨i0, hi, hz0, hz1, hz2⟩ := info_parts info_u8
  have hown : w.ownsRow w.heap.size 5 1 (.slice none 0 0) 0 [] := World.ownsRow_nil _ _ _ _
  have hge := own_ge hown
  cases ao with
  | none =>
    have e0 : l = [] := by rcases ha.loc with e | e
                           · exact e
                           · simp at e
    subst e0
    have hn0 : n = 0 := hl.symm
    subst hn0
    have hc0 := hnil rfl
    subst hc0
    go_enter Tryz.func7, Tryz.ntmps7
    go_wp2_with (at_builtin; refine wpList_append_own_none rfl _ _ 29 rfl w.heap.size 5 i0 1 under_bytes hi _ _ _ rfl hown rfl ?_)
    go_ret
    exact ⟨_, rfl, hown, Below.refl _ _⟩
  | some x =>
    have hsrc : ∀ j u, (l.map (Value.int .u8))[j]? = some u → w.cell? (x.add j) = some u := by
      intro j u hu
      rw [List.getElem?_map] at hu
      have hj : j < l.length := by
        rcases Nat.lt_or_ge j l.length with hj | hj
        · exact hj
        · rw [List.getElem?_eq_none hj] at hu; simp at hu
      rw [List.getElem?_eq_getElem hj] at hu
      simp at hu
      subst hu
      have hx : x = ⟨b, o, none⟩ := by
        rcases ha.loc with e | e
        · subst e; simp at hj
        · simpa using e
      subst hx
      have := ha.cell j hj
      rw [nth_eq hj] at this
      rw [← this]
      by_cases hj0 : j = 0
      · subst hj0; exact congrArg w.cell? (by simp [Addr.add])
      · exact congrArg w.cell? (by simp [Addr.add, hj0])
    go_enter Tryz.func7, Tryz.ntmps7
    go_wp2_with (at_builtin; refine wpList_append_own _ rfl _ _ 29 rfl w.heap.size 5 i0 (.int .u8 0) 1 1 under_bytes hi hz0 hz1 hz2 rfl (by decide) _ _ _ rfl hown x n c (l.map (Value.int .u8)) rfl (by simp [hl]) ?c1 ?c2 ?c3 ?c4 ?c5 ?_)
    case c1 => exact hsrc
    case c2 => exact ints_oneCell _ _
    case c3 => unfold maxLen; omega
    case c4 => omega
    case c5 => exact Nat.le_refl _
    intro v' w1 hown' hgrow _
    go_wp2
    go_ret
    refine ⟨v', rfl, ?_, (Below.refl _ _).grown hgrow (Nat.le_refl _) hge⟩
    unfold MineB
    rw [hl]
    simpa using hown'
end Go.Proofs.YtpoifdokmjhclaaGreat

namespace Go.Proofs.YtpoifdokmjhclaaGreat
open Go.RowKit Lim
set_option maxHeartbeats 2000000 in
set_option maxRecDepth 100000 in
theorem enBoBad {w : World} {g : Nat} {err : Int} {v : Value} {t : TypeId} {fv : Value} (X : Box w g [.int .i64 err, v] t) (he : err ≠ 0) :
    Calls Tryz.prog 154 #[.pointer (some ⟨g, 0, none⟩), fv] w fun e w' => e = .returned (.bool false) ∧ w' = w := by
  have hb : (err == 0) = false := beq_eq_false_iff_ne.2 he
  have t := rdFine X
  rw [hb] at t
  clear he hb
  go_enter Tryz.func154, Tryz.ntmps154
  go_wp2_with fail
  refine t.mono ?_
  rintro e w' ⟨rfl, rfl⟩
  clear t
  go_wp2
  go_ret
  exact ⟨rfl, rfl⟩
set_option maxHeartbeats 2000000 in
set_option maxRecDepth 100000 in
theorem enBoOk {w : World} {g n c : Nat} {ao : Option Addr} {t : TypeId} {Q : Value → World → Prop} (X : Box w g [.int .i64 0, .slice ao n c] t)
    (tF : Calls Tryz.prog 155 #[.pointer (some ⟨g, 0, none⟩)] w fun e w' => ∃ v, e = .returned (.tuple #[v, .int .i64 0]) ∧ Q v w') :
    Calls Tryz.prog 154 #[.pointer (some ⟨g, 0, none⟩), .func (.func 155) #[.pointer (some ⟨g, 0, none⟩)] #[]] w fun e w' => ∃ v, e = .returned v ∧ Q v w' := by
  obtain ⟨c1, c2, c3, c4⟩ := X.two
  have t := rdFine X
  go_enter Tryz.func154, Tryz.ntmps154
  go_wp2_with fail
  refine t.mono ?_
  rintro e w' ⟨rfl, rfl⟩
  clear t
  go_wp2_with fail
  refine tF.mono ?_
  rintro e w1 ⟨v, rfl, hQ⟩
  have HQ := (show Hid _ from hQ)
  clear tF hQ
  go_wp2
  go_ret
  exact ⟨v, rfl, HQ.out⟩
set_option maxHeartbeats 2000000 in
set_option maxRecDepth 100000 in
theorem enBoErr {w : World} {g n c : Nat} {ao : Option Addr} {t : TypeId} {e0 : Int} {Q : Value → World → Prop} (he : e0 ≠ 0) (X : Box w g [.int .i64 0, .slice ao n c] t)
    (hQ : ∀ v w1, Q v w1 → ∃ y, Box w1 g [.int .i64 0, y] t)
    (tF : Calls Tryz.prog 155 #[.pointer (some ⟨g, 0, none⟩)] w fun e w' => ∃ v, e = .returned (.tuple #[v, .int .i64 e0]) ∧ Q v w') :
    Calls Tryz.prog 154 #[.pointer (some ⟨g, 0, none⟩), .func (.func 155) #[.pointer (some ⟨g, 0, none⟩)] #[]] w fun e w' => e = .returned (.bool false) ∧ ∃ v w1, Q v w1 ∧ w' = (w1.setCell ⟨g, 1, none⟩ (.slice ao n c)).setCell ⟨g, 0, none⟩ (.int .i64 e0) := by
  obtain ⟨c1, c2, c3, c4⟩ := X.two
  have tt := rdFine X
  have hb : (e0 != 0) = true := bne_iff_ne.2 he
  have HX := (show Hid _ from hQ)
  clear he hQ
  go_enter Tryz.func154, Tryz.ntmps154
  go_wp2_with fail
  refine tt.mono ?_
  rintro e w' ⟨rfl, rfl⟩
  clear tt
  go_wp2_with fail
  refine tF.mono ?_
  rintro e w1 ⟨v, rfl, hQ1⟩
  obtain ⟨y, X1⟩ := HX.out v w1 hQ1
  have HQ := (show Hid _ from hQ1)
  have X2 : Box (w1.setCell ⟨g, 1, none⟩ (.slice ao n c)) g [.int .i64 0, .slice ao n c] t := box_put1 X1 _
  obtain ⟨d1, d2, d3, d4⟩ := X1.two
  have t3 := rdMeet (e0 := e0) X2
  clear tF hQ1 HX X X1 X2 c1 c2 c3 c4 d1 d3
  go_wp2_with fail
  refine t3.mono ?_
  rintro e w2 ⟨rfl, hw2⟩
  have HW2 := (show Hid _ from hw2)
  clear t3 hw2
  go_wp2
  go_ret
  exact ⟨rfl, v, w1, HQ.out, HW2.out⟩
set_option maxHeartbeats 2000000 in
set_option maxRecDepth 100000 in
theorem enNaBad {w : World} {g : Nat} {err : Int} {v : Value} {t : TypeId} {fv : Value} (X : Box w g [.int .i64 err, v] t) (he : err ≠ 0) :
    Calls Tryz.prog 203 #[.pointer (some ⟨g, 0, none⟩), fv] w fun e w' => e = .returned (.slice none 0 0) ∧ w' = w := by
  have hb : (err == 0) = false := beq_eq_false_iff_ne.2 he
  have t := rdFine X
  rw [hb] at t
  clear he hb
  go_enter Tryz.func203, Tryz.ntmps203
  go_wp2_with fail
  refine t.mono ?_
  rintro e w' ⟨rfl, rfl⟩
  clear t
  go_wp2
  go_ret
  exact ⟨rfl, rfl⟩
set_option maxHeartbeats 2000000 in
set_option maxRecDepth 100000 in
theorem enNaOk {w : World} {g n c : Nat} {ao : Option Addr} {t : TypeId} {Q : Value → World → Prop} (X : Box w g [.int .i64 0, .slice ao n c] t)
    (tF : Calls Tryz.prog 204 #[.pointer (some ⟨g, 0, none⟩)] w fun e w' => ∃ v, e = .returned (.tuple #[v, .int .i64 0]) ∧ Q v w') :
    Calls Tryz.prog 203 #[.pointer (some ⟨g, 0, none⟩), .func (.func 204) #[.pointer (some ⟨g, 0, none⟩)] #[]] w fun e w' => ∃ v, e = .returned v ∧ Q v w' := by
  obtain ⟨c1, c2, c3, c4⟩ := X.two
  have t := rdFine X
  go_enter Tryz.func203, Tryz.ntmps203
  go_wp2_with fail
  refine t.mono ?_
  rintro e w' ⟨rfl, rfl⟩
  clear t
  go_wp2_with fail
  refine tF.mono ?_
  rintro e w1 ⟨v, rfl, hQ⟩
  have HQ := (show Hid _ from hQ)
  clear tF hQ
  go_wp2
  go_ret
  exact ⟨v, rfl, HQ.out⟩
set_option maxHeartbeats 2000000 in
set_option maxRecDepth 100000 in
theorem enNaErr {w : World} {g n c : Nat} {ao : Option Addr} {t : TypeId} {e0 : Int} {Q : Value → World → Prop} (he : e0 ≠ 0) (X : Box w g [.int .i64 0, .slice ao n c] t)
    (hQ : ∀ v w1, Q v w1 → ∃ y, Box w1 g [.int .i64 0, y] t)
    (tF : Calls Tryz.prog 204 #[.pointer (some ⟨g, 0, none⟩)] w fun e w' => ∃ v, e = .returned (.tuple #[v, .int .i64 e0]) ∧ Q v w') :
    Calls Tryz.prog 203 #[.pointer (some ⟨g, 0, none⟩), .func (.func 204) #[.pointer (some ⟨g, 0, none⟩)] #[]] w fun e w' => e = .returned (.slice none 0 0) ∧ ∃ v w1, Q v w1 ∧ w' = (w1.setCell ⟨g, 1, none⟩ (.slice ao n c)).setCell ⟨g, 0, none⟩ (.int .i64 e0) := by
  obtain ⟨c1, c2, c3, c4⟩ := X.two
  have tt := rdFine X
  have hb : (e0 != 0) = true := bne_iff_ne.2 he
  have HX := (show Hid _ from hQ)
  clear he hQ
  go_enter Tryz.func203, Tryz.ntmps203
  go_wp2_with fail
  refine tt.mono ?_
  rintro e w' ⟨rfl, rfl⟩
  clear tt
  go_wp2_with fail
  refine tF.mono ?_
  rintro e w1 ⟨v, rfl, hQ1⟩
  obtain ⟨y, X1⟩ := HX.out v w1 hQ1
  have HQ := (show Hid _ from hQ1)
  have X2 : Box (w1.setCell ⟨g, 1, none⟩ (.slice ao n c)) g [.int .i64 0, .slice ao n c] t := box_put1 X1 _
  obtain ⟨d1, d2, d3, d4⟩ := X1.two
  have t3 := rdMeet (e0 := e0) X2
  clear tF hQ1 HX X X1 X2 c1 c2 c3 c4 d1 d3
  go_wp2_with fail
  refine t3.mono ?_
  rintro e w2 ⟨rfl, hw2⟩
  have HW2 := (show Hid _ from hw2)
  clear t3 hw2
  go_wp2
  go_ret
  exact ⟨rfl, v, w1, HQ.out, HW2.out⟩
end Go.Proofs.YtpoifdokmjhclaaGreat

namespace Go.Proofs.YtpoifdokmjhclaaGreat
open Go.RowKit Lim

/-- the cells of a Writer -/
def wcells (err : Int) (p : Option Addr) (aw : Int) (lat : List Int) (u : Int) : List Value := .int .i64 err :: .pointer p :: .int .i64 aw :: (lat.map (Value.int .u8) ++ [.int .i64 u])
/-- block g is a Writer, or begins with one -/
structure WBox (w : World) (g : Nat) (err : Int) (p : Option Addr) (aw : Int) (lat : List Int) (u : Int) : Prop where
  len : lat.length = 256
  blk : ∃ T, (T ≠ 124 ∧ T ≠ 5) ∧ w.heap[g]? = some (.cells (wcells err p aw lat u).toArray T (0, 0))
theorem WBox.box {w : World} {g : Nat} {err : Int} {p : Option Addr} {aw : Int} {lat : List Int} {u : Int} (h : WBox w g err p aw lat u) : ∃ T, T ≠ 124 ∧ Box w g (wcells err p aw lat u) T := h.blk.imp fun _ h => ⟨h.1.1, ⟨h.2⟩⟩
theorem WBox.lt {w : World} {g : Nat} {err : Int} {p : Option Addr} {aw : Int} {lat : List Int} {u : Int} (h : WBox w g err p aw lat u) : g < w.heap.size := h.box.elim fun _ h => h.2.lt
theorem WBox.keep {w w' : World} {g : Nat} {err : Int} {p : Option Addr} {aw : Int} {lat : List Int} {u : Int} (h : WBox w g err p aw lat u) (hb : Below w.heap.size w w') : WBox w' g err p aw lat u := ⟨h.len, h.blk.imp fun _ h => ⟨h.1, (Box.keep ⟨h.2⟩ hb).blk⟩⟩
theorem WBox.off {w w' : World} {g g' : Nat} {err : Int} {p : Option Addr} {aw : Int} {lat : List Int} {u : Int} (h : WBox w g err p aw lat u) (hne : g ≠ g') (hw : ∀ k, k ≠ g' → w'.heap[k]? = w.heap[k]?) : WBox w' g err p aw lat u := ⟨h.len, by rw [hw g hne]; exact h.blk⟩
theorem WBox.free {w : World} {g : Nat} {err : Int} {p : Option Addr} {aw : Int} {lat : List Int} {u : Int} (h : WBox w g err p aw lat u) (k : Nat) : w.frozen? ⟨g, k, none⟩ = false := by
  obtain ⟨T, hT, this⟩ := h.blk
  simp [World.frozen?, this]
theorem WBox.c0 {w : World} {g : Nat} {err : Int} {p : Option Addr} {aw : Int} {lat : List Int} {u : Int} (h : WBox w g err p aw lat u) : w.cell? ⟨g, 0, none⟩ = some (.int .i64 err) := by
  obtain ⟨T, hT, this⟩ := h.blk
  simp [World.cell?, this, wcells]
theorem WBox.c1 {w : World} {g : Nat} {err : Int} {p : Option Addr} {aw : Int} {lat : List Int} {u : Int} (h : WBox w g err p aw lat u) : w.cell? ⟨g, 1, none⟩ = some (.pointer p) := by
  obtain ⟨T, hT, this⟩ := h.blk
  simp [World.cell?, this, wcells]
theorem WBox.c2 {w : World} {g : Nat} {err : Int} {p : Option Addr} {aw : Int} {lat : List Int} {u : Int} (h : WBox w g err p aw lat u) : w.cell? ⟨g, 2, none⟩ = some (.int .i64 aw) := by
  obtain ⟨T, hT, this⟩ := h.blk
  simp [World.cell?, this, wcells]
theorem WBox.cl {w : World} {g : Nat} {err : Int} {p : Option Addr} {aw : Int} {lat : List Int} {u : Int} (h : WBox w g err p aw lat u) (i : Nat) (hi : i < 256) : w.cell? ⟨g, 3 + i, none⟩ = some (.int .u8 (nth lat i)) := by
  obtain ⟨T, hT, hb⟩ := h.blk
  have hl := h.len
  simp only [World.cell?, hb, wcells]
  rw [show 3 + i = i + 1 + 1 + 1 by omega]
  simp [List.getElem?_append_left, hl, hi, nth_eq (l := lat) (show i < lat.length by omega)]
theorem WBox.cu {w : World} {g : Nat} {err : Int} {p : Option Addr} {aw : Int} {lat : List Int} {u : Int} (h : WBox w g err p aw lat u) : w.cell? ⟨g, 259, none⟩ = some (.int .i64 u) := by
  obtain ⟨T, hT, hb⟩ := h.blk
  have hl := h.len
  simp only [World.cell?, hb, wcells]
  simp [hl]
theorem WBox.set0 {w : World} {g : Nat} {err : Int} {p : Option Addr} {aw : Int} {lat : List Int} {u : Int} (h : WBox w g err p aw lat u) (x : Int) : WBox (w.setCell ⟨g, 0, none⟩ (.int .i64 x)) g x p aw lat u := ⟨h.len, by
  obtain ⟨T, hT, this⟩ := h.blk
  refine ⟨T, hT, ?_⟩
  simp only [World.setCell, Array.getElem?_modify, if_true, this]
  simp [wcells]⟩
theorem WBox.set1 {w : World} {g : Nat} {err : Int} {p : Option Addr} {aw : Int} {lat : List Int} {u : Int} (h : WBox w g err p aw lat u) (x : Option Addr) : WBox (w.setCell ⟨g, 1, none⟩ (.pointer x)) g err x aw lat u := ⟨h.len, by
  obtain ⟨T, hT, this⟩ := h.blk
  refine ⟨T, hT, ?_⟩
  simp only [World.setCell, Array.getElem?_modify, if_true, this]
  simp [wcells]⟩
theorem WBox.set2 {w : World} {g : Nat} {err : Int} {p : Option Addr} {aw : Int} {lat : List Int} {u : Int} (h : WBox w g err p aw lat u) (x : Int) : WBox (w.setCell ⟨g, 2, none⟩ (.int .i64 x)) g err p x lat u := ⟨h.len, by
  obtain ⟨T, hT, this⟩ := h.blk
  refine ⟨T, hT, ?_⟩
  simp only [World.setCell, Array.getElem?_modify, if_true, this]
  simp [wcells]⟩
theorem WBox.setu {w : World} {g : Nat} {err : Int} {p : Option Addr} {aw : Int} {lat : List Int} {u : Int} (h : WBox w g err p aw lat u) (x : Int) : WBox (w.setCell ⟨g, 259, none⟩ (.int .i64 x)) g err p aw lat x := ⟨h.len, by
  obtain ⟨T, hT, hb⟩ := h.blk
  have hl := h.len
  refine ⟨T, hT, ?_⟩
  simp only [World.setCell, Array.getElem?_modify, if_true, hb]
  simp [wcells, List.set_append_right, hl]⟩

set_option maxRecDepth 100000 in
theorem stFine {w : World} {g : Nat} {err : Int} (c1 : w.cell? ⟨g, 0, none⟩ = some (.int .i64 err)) :
    Calls Tryz.prog 54 #[.pointer (some ⟨g, 0, none⟩)] w fun e w' => e = .returned (.bool (err == 0)) ∧ w' = w := by
  go_enter Tryz.func54, Tryz.ntmps54
  go_wp2
  go_ret
  exact ⟨rfl, rfl⟩
set_option maxRecDepth 100000 in
theorem stMeet {w : World} {g : Nat} {e0 : Int} (c1 : w.cell? ⟨g, 0, none⟩ = some (.int .i64 0)) (c2 : w.frozen? ⟨g, 0, none⟩ = false) :
    Calls Tryz.prog 81 #[.pointer (some ⟨g, 0, none⟩), .int .i64 e0] w fun e w' => e = .returned (.tuple #[]) ∧ w' = w.setCell ⟨g, 0, none⟩ (.int .i64 e0) := by
  go_enter Tryz.func81, Tryz.ntmps81
  go_wp2_with fail
  refine (stFine c1).mono ?_
  rintro e w' ⟨rfl, rfl⟩
  go_wp2
  go_end0
  exact ⟨rfl, rfl⟩
set_option maxRecDepth 100000 in
theorem stMeet1 {w : World} {g : Nat} {err e0 : Int} (c1 : w.cell? ⟨g, 0, none⟩ = some (.int .i64 err)) (he : (err == 0) = false) :
    Calls Tryz.prog 81 #[.pointer (some ⟨g, 0, none⟩), .int .i64 e0] w fun e w' => e = .returned (.tuple #[]) ∧ w' = w := by
  have t := stFine c1
  rw [he] at t
  clear he
  go_enter Tryz.func81, Tryz.ntmps81
  go_wp2_with fail
  refine t.mono ?_
  rintro e w' ⟨rfl, rfl⟩
  go_wp2
  go_end0
  exact ⟨rfl, rfl⟩
/-- a load that a region meets -/
theorem run_ld {a : Act} {w : World} {o : Oper} {T : TypeId} (k : Nat) {g off : Nat} {v : Value} (ho : o.op = .load T (.tmp k)) (hp : a.eval (.tmp k) = .pointer (some ⟨g, off, none⟩)) (hl : (loadVar T ⟨g, off, none⟩).run Tryz.prog w = .ok v w) : (execOp a.eval o).run Tryz.prog w = .ok (.value v) w := by
  simp only [execOp, ho, hp]
  simp [Instr.loadAt, Instr.sureAddr, Result.andThen, hl]
theorem run_st {a : Act} {w : World} {o : Oper} {T : TypeId} (k q : Nat) {g off : Nat} {v : Value} (ho : o.op = .store T (.tmp k) (.tmp q)) (hp : a.eval (.tmp k) = .pointer (some ⟨g, off, none⟩)) (hq : a.eval (.tmp q) = v) {w1 : World} (hl : (storeVar T ⟨g, off, none⟩ v).run Tryz.prog w = .ok () w1) : (execOp a.eval o).run Tryz.prog w = .ok .skip w1 := by
  simp only [execOp, ho, hp, hq]
  simp [Instr.storeAt, Instr.sureAddr, Result.andThen, hl]
theorem ld_last {w : World} {g : Nat} {p : Option Addr} (c : w.cell? ⟨g, 1, none⟩ = some (.pointer p)) : (loadVar 77 ⟨g, 1, none⟩).run Tryz.prog w = .ok (.pointer p) w := by
  go_simp
theorem st_last {w : World} {g : Nat} {p q : Option Addr} (c : w.cell? ⟨g, 1, none⟩ = some (.pointer p)) (f : w.frozen? ⟨g, 1, none⟩ = false) : (storeVar 77 ⟨g, 1, none⟩ (.pointer q)).run Tryz.prog w = .ok () (w.setCell ⟨g, 1, none⟩ (.pointer q)) := by
  go_simp
theorem under_room : Tryz.prog.underlying 78 = some (.array 256 5) := by kernel_rfl
theorem info_room : (Tryz.prog.info? 78).map (·.size) = some 256 := by kernel_rfl
theorem ld_room {w : World} {g o : Nat} {l : List Int} (hl : l.length = 256) (c : ∀ i, i < 256 → w.cell? ⟨g, o + i, none⟩ = some (.int .u8 (nth l i))) : (loadVar 78 ⟨g, o, none⟩).run Tryz.prog w = .ok (.agg (l.map (Value.int .u8)).toArray) w := by
  have h := run_loadCells_list (P := Tryz.prog) w ⟨g, o, none⟩ (l.map (Value.int .u8)) (fun j v hv => by
    obtain ⟨hj, e⟩ := List.getElem?_eq_some_iff.1 hv
    rw [List.length_map] at hj
    rw [addr_add, c j (by omega), ← e, List.getElem_map, nth_eq hj])
  rw [List.length_map, hl] at h
  cases hi : Tryz.prog.info? 78 with
  | none => have := info_room; simp [hi] at this
  | some i =>
    have hz : i.size = 256 := by have := info_room; simpa [hi] using this
    simp [loadVar, isAgg, run_underlying under_room, sizeOf, typeInfo, hi, hz, h]
def placesOf (P : Program) (d : Option TypeDesc) : Option (List (Nat × Nat)) := match d with
  | some (.struct fs) => fs.toList.mapM (fun f => (P.info? f.type).map fun i => (f.offset, i.size))
  | _ => none
theorem places_pc : placesOf Tryz.prog (Tryz.prog.underlying 124) = some [(0, 1), (1, 256)] := by kernel_rfl
theorem zero_pc : ((Tryz.prog.info? 124).bind (·.zero)).map (·.cells.size) = some 257 := by kernel_rfl
theorem built_pc (p : Option Addr) (A : List Value) (hA : A.length = 256) : Tryz.prog.built 124 [(0, .pointer p), (1, .agg A.toArray)] = some (Value.pointer p :: A).toArray := by
  have hu := places_pc
  have hz := zero_pc
  unfold Program.built
  generalize Tryz.prog.info? 124 = I at *
  generalize Tryz.prog.underlying 124 = U at *
  cases I with
  | none => simp at hz
  | some it =>
    cases h2 : it.zero with
    | none => simp [h2] at hz
    | some z =>
      have sz : z.cells.size = 257 := by simpa [h2] using hz
      cases U with
      | none => simp [placesOf] at hu
      | some d =>
        cases d <;> try (simp [placesOf] at hu; done)
        case struct fs =>
          simp only [placesOf] at hu
          simp only [hu, h2]
          have hc : (Value.pointer p).cells = #[.pointer p] := rfl
          have hc2 : (Value.agg A.toArray).cells = A.toArray := rfl
          simp only [Instr.fill, hc, hc2]
          obtain ⟨g1, g2⟩ := Great.foldl_set 1 A 0 (z.cells.setIfInBounds 0 (.pointer p))
          simp [hA, sz]
          apply Array.ext_getElem?
          intro k
          have hk := g2 k
          simp only [Array.size_setIfInBounds, sz, hA] at hk
          rw [Nat.add_zero] at hk
          rw [hk]
          cases k with
          | zero => rw [if_neg (by omega)]; simp [sz]
          | succ k =>
            by_cases hh : k < 256
            · rw [if_pos (by omega)]; simp
            · rw [if_neg (by omega), Array.getElem?_eq_none (by simp [sz]; omega), Array.getElem?_eq_none (by simp [hA]; omega)]
theorem run_bd {a : Act} {w : World} {o : Oper} {T : TypeId} (ps : Array (Nat × Operand)) {L : List (Nat × Value)} {cs : Array Value} (ho : o.op = .build T ps) (hp : (ps.map fun (i, x) => (i, a.eval x)).toList = L) (hb : Tryz.prog.built T L = some cs) : (execOp a.eval o).run Tryz.prog w = .ok (.value (.agg cs)) w := by
  subst hp
  simp only [execOp, ho]
  simp only [Sem.run_bind, run_build w T _ cs hb, Result.andThen_ok]
  rfl
set_option maxHeartbeats 2000000 in
set_option maxRecDepth 100000 in
theorem wrPut {w : World} {g : Nat} {err : Int} {p : Option Addr} {aw : Int} {lat : List Int} {u : Int} (X : WBox w g err p aw lat u) (ha : 0 ≤ aw) (hb : aw ≤ 4611686018427387904) :
    Calls Tryz.prog 124 #[.pointer (some ⟨g, 0, none⟩)] w fun e w' => e = .returned (.tuple #[]) ∧ WBox w' g err (some ⟨w.heap.size, 0, none⟩) (aw + 256) lat 0 ∧ Box w' w.heap.size (.pointer p :: lat.map (Value.int .u8)) 124 ∧ But g w w' := by
  have Y := X
  have hlt := X.lt
  have c1 := X.c1
  have f1 := X.free 1
  have hl4 := ld_last X.c1
  have hl8 := ld_room X.len X.cl
  have hb9 := built_pc p (lat.map (Value.int .u8)) (by rw [List.length_map]; exact X.len)
  go_enter Tryz.func124, Tryz.ntmps124
  go_wp2_with fail
  refine rg_start (S := fun _ => True) (by kernel_rfl) trivial ?_
  refine rg_take 0 (some 2) (.pointer (some ⟨g, 0, none⟩)) (by kernel_rfl) (fun _ _ => by kernel_rfl) (fun _ _ _ h => h) trivial ?_
  refine rg_take 1 (some 3) (.pointer (some ⟨g, 0, none⟩)) (by kernel_rfl) (fun _ _ => by kernel_rfl) (fun _ _ _ h => h) trivial ?_
  refine rg_take 2 (some 4) (.pointer (some ⟨g, 0, none⟩)) (by kernel_rfl) (fun _ _ => by kernel_rfl) (fun _ _ _ h => h) trivial ?_
  refine rg_take 3 (some 5) (.pointer (some ⟨g, 1, none⟩)) (by kernel_rfl) (fun _ _ => by kernel_rfl) (fun _ _ _ h => h) trivial ?_
  refine rg_take 5 (some 7) (.pointer (some ⟨g, 0, none⟩)) (by kernel_rfl) (fun _ _ => by kernel_rfl) (fun _ _ _ h => h) trivial ?_
  refine rg_take 6 (some 8) (.pointer (some ⟨g, 0, none⟩)) (by kernel_rfl) (fun _ _ => by kernel_rfl) (fun _ _ _ h => h) trivial ?_
  refine rg_take 7 (some 9) (.pointer (some ⟨g, 3, none⟩)) (by kernel_rfl) (fun _ _ => by kernel_rfl) (fun _ _ _ h => h) trivial ?_
  refine rg_ready [4, 8] (by kernel_rfl) (by simp) ?_
  have X : WBox w.drew g err p aw lat u := ⟨Y.len, Y.blk⟩
  have hl4 := ld_last X.c1
  have hl8 := ld_room X.len X.cl
  refine ar_val 4 (some 6) (.pointer p) _ (by kernel_rfl) (run_ld 5 (by kernel_rfl) (by kernel_rfl) hl4) trivial ?_ (ar_val 8 (some 10) (.agg (lat.map (Value.int .u8)).toArray) _ (by kernel_rfl) (run_ld 9 (by kernel_rfl) (by kernel_rfl) hl8) trivial ?_ ar_nil)
  · refine rg_ready [8] (by kernel_rfl) (by simp) ?_
    refine ar_val 8 (some 10) (.agg (lat.map (Value.int .u8)).toArray) _ (by kernel_rfl) (run_ld 9 (by kernel_rfl) (by kernel_rfl) hl8) trivial ?_ ar_nil
    refine rg_ready [9] (by kernel_rfl) (by simp) ?_
    refine ar_val 9 (some 11) (.agg (Value.pointer p :: lat.map (Value.int .u8)).toArray) _ (by kernel_rfl) (run_bd #[(0, .tmp 6), (1, .tmp 10)] (by kernel_rfl) (by kernel_rfl) hb9) trivial ?_ ar_nil
    refine rg_ready [10] (by kernel_rfl) (by simp) ?_
    refine ar_alloc 10 (some 12) 124 (Value.pointer p :: lat.map (Value.int .u8)) (by kernel_rfl) (by kernel_rfl) ?_ ar_nil
    intro V XB hB
    refine ⟨trivial, ?_⟩
    replace X := X.keep hB
    replace hB : Below w.heap.size w V := (Below.refl w.heap.size w).drew.trans hB
    refine rg_take 11 (some 13) (.pointer (some ⟨g, 0, none⟩)) (by kernel_rfl) (fun _ _ => by kernel_rfl) (fun _ _ _ h => h) trivial ?_
    refine rg_take 12 (some 14) (.pointer (some ⟨g, 1, none⟩)) (by kernel_rfl) (fun _ _ => by kernel_rfl) (fun _ _ _ h => h) trivial ?_
    refine rg_ready [13] (by kernel_rfl) (by simp) ?_
    refine ar_void 13 (V.setCell ⟨g, 1, none⟩ (.pointer (some ⟨w.heap.size, 0, none⟩))) (by kernel_rfl) (run_st 14 12 (v := .pointer (some ⟨w.heap.size, 0, none⟩)) (by kernel_rfl) (by kernel_rfl) (by kernel_rfl) (st_last X.c1 (X.free 1))) trivial ?_ ar_nil
    refine rg_done (by kernel_rfl) ?_
    try simp only [Act.put, List.setIfInBounds_toArray, List.set_cons_zero, List.set_cons_succ]
    replace X := X.set1 (some ⟨w.heap.size, 0, none⟩)
    have HN : Hid (But g w (V.setCell ⟨g, 1, none⟩ (.pointer (some ⟨w.heap.size, 0, none⟩)))) := ⟨hB.os, hB.tape, hB.output, by rw [size_set]; exact hB.size, fun k h1 h2 => by rw [Below.heap_setCell _ _ _ k h2]; exact hB.block k h1⟩
    replace XB : Box (V.setCell ⟨g, 1, none⟩ (.pointer (some ⟨w.heap.size, 0, none⟩))) w.heap.size _ _ := XB.off (g' := g) (by show w.heap.size ≠ g; omega) (fun k hk => Below.heap_setCell _ _ _ k hk)
    clear hB
    generalize V.setCell ⟨g, 1, none⟩ (.pointer (some ⟨w.heap.size, 0, none⟩)) = W at *
    have c2 := X.c2
    have f2 := X.free 2
    have cu := X.cu
    have fu := X.free 259
    clear hl4 hl8 hb9 c1 f1
    have XF := (X.set2 (aw + 256)).setu 0
    have HF : Hid (But g w ((W.setCell ⟨g, 2, none⟩ (.int .i64 (aw + 256))).setCell ⟨g, 259, none⟩ (.int .i64 0))) := ⟨HN.out.os, HN.out.tape, HN.out.output, by rw [size_set, size_set]; exact HN.out.size, fun k h1 h2 => by rw [Below.heap_setCell _ _ _ k h2, Below.heap_setCell _ _ _ k h2]; exact HN.out.block k h1 h2⟩
    have HX : Hid (Box ((W.setCell ⟨g, 2, none⟩ (.int .i64 (aw + 256))).setCell ⟨g, 259, none⟩ (.int .i64 0)) w.heap.size (Value.pointer p :: lat.map (Value.int .u8)) 124) := (XB.off (g' := g) (by omega) (fun k hk => Below.heap_setCell _ _ _ k hk)).off (g' := g) (by omega) (fun k hk => Below.heap_setCell _ _ _ k hk)
    go_wp2
    go_end0
    exact ⟨rfl, XF, HX.out, HF.out⟩
  · refine rg_ready [4] (by kernel_rfl) (by simp) ?_
    refine ar_val 4 (some 6) (.pointer p) _ (by kernel_rfl) (run_ld 5 (by kernel_rfl) (by kernel_rfl) hl4) trivial ?_ ar_nil
    refine rg_ready [9] (by kernel_rfl) (by simp) ?_
    refine ar_val 9 (some 11) (.agg (Value.pointer p :: lat.map (Value.int .u8)).toArray) _ (by kernel_rfl) (run_bd #[(0, .tmp 6), (1, .tmp 10)] (by kernel_rfl) (by kernel_rfl) hb9) trivial ?_ ar_nil
    refine rg_ready [10] (by kernel_rfl) (by simp) ?_
    refine ar_alloc 10 (some 12) 124 (Value.pointer p :: lat.map (Value.int .u8)) (by kernel_rfl) (by kernel_rfl) ?_ ar_nil
    intro V XB hB
    refine ⟨trivial, ?_⟩
    replace X := X.keep hB
    replace hB : Below w.heap.size w V := (Below.refl w.heap.size w).drew.trans hB
    refine rg_take 11 (some 13) (.pointer (some ⟨g, 0, none⟩)) (by kernel_rfl) (fun _ _ => by kernel_rfl) (fun _ _ _ h => h) trivial ?_
    refine rg_take 12 (some 14) (.pointer (some ⟨g, 1, none⟩)) (by kernel_rfl) (fun _ _ => by kernel_rfl) (fun _ _ _ h => h) trivial ?_
    refine rg_ready [13] (by kernel_rfl) (by simp) ?_
    refine ar_void 13 (V.setCell ⟨g, 1, none⟩ (.pointer (some ⟨w.heap.size, 0, none⟩))) (by kernel_rfl) (run_st 14 12 (v := .pointer (some ⟨w.heap.size, 0, none⟩)) (by kernel_rfl) (by kernel_rfl) (by kernel_rfl) (st_last X.c1 (X.free 1))) trivial ?_ ar_nil
    refine rg_done (by kernel_rfl) ?_
    try simp only [Act.put, List.setIfInBounds_toArray, List.set_cons_zero, List.set_cons_succ]
    replace X := X.set1 (some ⟨w.heap.size, 0, none⟩)
    have HN : Hid (But g w (V.setCell ⟨g, 1, none⟩ (.pointer (some ⟨w.heap.size, 0, none⟩)))) := ⟨hB.os, hB.tape, hB.output, by rw [size_set]; exact hB.size, fun k h1 h2 => by rw [Below.heap_setCell _ _ _ k h2]; exact hB.block k h1⟩
    replace XB : Box (V.setCell ⟨g, 1, none⟩ (.pointer (some ⟨w.heap.size, 0, none⟩))) w.heap.size _ _ := XB.off (g' := g) (by show w.heap.size ≠ g; omega) (fun k hk => Below.heap_setCell _ _ _ k hk)
    clear hB
    generalize V.setCell ⟨g, 1, none⟩ (.pointer (some ⟨w.heap.size, 0, none⟩)) = W at *
    have c2 := X.c2
    have f2 := X.free 2
    have cu := X.cu
    have fu := X.free 259
    clear hl4 hl8 hb9 c1 f1
    have XF := (X.set2 (aw + 256)).setu 0
    have HF : Hid (But g w ((W.setCell ⟨g, 2, none⟩ (.int .i64 (aw + 256))).setCell ⟨g, 259, none⟩ (.int .i64 0))) := ⟨HN.out.os, HN.out.tape, HN.out.output, by rw [size_set, size_set]; exact HN.out.size, fun k h1 h2 => by rw [Below.heap_setCell _ _ _ k h2, Below.heap_setCell _ _ _ k h2]; exact HN.out.block k h1 h2⟩
    have HX : Hid (Box ((W.setCell ⟨g, 2, none⟩ (.int .i64 (aw + 256))).setCell ⟨g, 259, none⟩ (.int .i64 0)) w.heap.size (Value.pointer p :: lat.map (Value.int .u8)) 124) := (XB.off (g' := g) (by omega) (fun k hk => Below.heap_setCell _ _ _ k hk)).off (g' := g) (by omega) (fun k hk => Below.heap_setCell _ _ _ k hk)
    go_wp2
    go_end0
    exact ⟨rfl, XF, HX.out, HF.out⟩
end Go.Proofs.YtpoifdokmjhclaaGreat

namespace Go.Proofs.YtpoifdokmjhclaaGreat
open Go.RowKit Lim

/-- the pieces that were put away, the latest first -/
def PcL (w:World) : List (Nat×List Int)->Option Addr->List Int->Prop
 | [],p,l=>p=none/\l=[]
 | x::r,p,l=>∃ q s,p=some ⟨x.1,0,none⟩/\l=s ++ x.2/\Box w x.1 (.pointer q::x.2.map (Value.int .u8)) 124/\x.2.length=256/\PcL w r q s
structure Pc (w:World)(p:Option Addr)(l:List Int):Prop where
 ex:∃ L,PcL w L p l
theorem Pc.nil {w:World} : Pc w none []:=⟨[],rfl,rfl⟩
theorem Pc.cons {w:World}{b:Nat}{p:Option Addr}{ps bs:List Int}(hb:Box w b (.pointer p::bs.map (Value.int .u8)) 124)(hl:bs.length=256)(h:Pc w p ps):Pc w (some ⟨b,0,none⟩) (ps ++ bs):=h.ex.elim fun L h=>⟨(b,bs)::L,p,ps,rfl,rfl,hb,hl,h⟩
theorem Pc.ind {w:World}{M:(p:Option Addr)->(l:List Int)->Pc w p l->Prop}(nil:M none [] Pc.nil)(cons:∀ {b p ps bs} (hb:Box w b (.pointer p::bs.map (Value.int .u8)) 124) (hl:bs.length=256) (h:Pc w p ps),M p ps h->M (some ⟨b,0,none⟩) (ps ++ bs) (.cons hb hl h)){p:Option Addr}{l:List Int}(h:Pc w p l):M p l h:=by
 obtain ⟨L,e⟩:=h.ex
 induction L generalizing p l with
 | nil=>
  obtain ⟨rfl,rfl⟩:=e
  exact nil
 | cons x r ih=>
  obtain ⟨q,s,rfl,rfl,a,b,c⟩:=e
  exact cons a b ⟨r,c⟩ (ih ⟨r,c⟩ c)
theorem Pc.off {w w' : World} {p : Option Addr} {ps : List Int} (h : Pc w p ps) {g : Nat} {cs : List Value} (X : ∃ T, T ≠ 124 ∧ Box w g cs T) (hw : ∀ k, k < w.heap.size → k ≠ g → w'.heap[k]? = w.heap[k]?) : Pc w' p ps := by
  obtain ⟨T, hT, X⟩ := X
  induction h using Pc.ind with
  | nil => exact .nil
  | cons hb hl _ ih =>
    refine .cons ⟨?_⟩ hl ih
    rw [hw _ hb.lt (fun e => by
      subst e
      have h1 := hb.blk
      rw [X.blk] at h1
      simp at h1
      exact hT h1.2)]
    exact hb.blk
theorem Pc.keep {w w' : World} {p : Option Addr} {ps : List Int} (h : Pc w p ps) (hB : Below w.heap.size w w') : Pc w' p ps := by
  induction h using Pc.ind with
  | nil => exact .nil
  | cons hb hl _ ih => exact .cons (hb.keep hB) hl ih
/-- block g is a Writer: its error, what was laid -/
structure WrA (w : World) (g : Nat) (err : Int) (l : List Int) : Prop where
  ex : ∃ p ps lat, ∃ u : Nat, WBox w g err p (ps.length : Int) lat (u : Int) ∧ Pc w p ps ∧ u < 256 ∧ l = ps ++ lat.take u
theorem WrA.lt {w : World} {g : Nat} {err : Int} {l : List Int} (h : WrA w g err l) : g < w.heap.size := by
  obtain ⟨p, ps, lat, u, X, _⟩ := h.ex
  exact X.lt
theorem WrA.keep {w w' : World} {g : Nat} {err : Int} {l : List Int} (h : WrA w g err l) (hB : Below w.heap.size w w') : WrA w' g err l := by
  obtain ⟨p, ps, lat, u, X, P, hu, e⟩ := h.ex
  exact ⟨p, ps, lat, u, X.keep hB, P.keep hB, hu, e⟩
theorem But.refl (g : Nat) (w : World) : But g w w := ⟨rfl, rfl, rfl, Nat.le_refl _, fun _ _ _ => rfl⟩
theorem But.trans {g : Nat} {w w1 w2 : World} (h : But g w w1) (h' : But g w1 w2) : But g w w2 := ⟨h'.os.trans h.os, h'.tape.trans h.tape, h'.output.trans h.output, Nat.le_trans h.size h'.size, fun k h1 h2 => (h'.block k (Nat.lt_of_lt_of_le h1 h.size) h2).trans (h.block k h1 h2)⟩
theorem But.drew {g : Nat} {w w1 : World} (h : But g w w1) : But g w w1.drew := ⟨h.os, h.tape, h.output, h.size, h.block⟩
theorem But.cell {g : Nat} {w w1 : World} (h : But g w w1) {b o : Nat} {v : Value} (hc : w.cell? ⟨b, o, none⟩ = some v) (hb : b ≠ g) : w1.cell? ⟨b, o, none⟩ = some v := by
  rw [World.cell?_of_block (w := w) (h.block b (cell_lt hc) hb)]; exact hc

theorem splice_w (err : Int) (p : Option Addr) (aw : Int) (lat ms : List Int) (x : Int) (u : Nat) (h : u + ms.length ≤ lat.length) :
    splice (wcells err p aw lat x) (3 + u) (ms.map (Value.int .u8)) = wcells err p aw (lat.take u ++ ms ++ lat.drop (u + ms.length)) x := by
  unfold splice wcells
  rw [show 3 + u = u + 1 + 1 + 1 by omega, List.length_map, show u + 1 + 1 + 1 + ms.length = u + ms.length + 1 + 1 + 1 by omega]
  simp only [List.take_succ_cons, List.drop_succ_cons, List.cons_append]
  rw [List.take_append_of_le_length (by rw [List.length_map]; omega), List.drop_append_of_le_length (by rw [List.length_map]; omega)]
  simp
theorem step_copyE {P : Program} {ops : Array Oper} {o : Oper} {a : Act} {w : World} {K : Act → World → Prop} {Q : Exit → Act → World → Prop} {E : Prop} (hgd : o.guard = none) (d s : Operand) (dT sT : TypeId)
    (ho : o.op = .call { callee := .builtin .copy, args := #[d, s], argTypes := #[dT, sT] }) (elem : TypeId) (hu : P.underlying dT = some (.slice elem)) (hsz : (P.info? elem).map (·.size) = some 1)
    (g off dLen dCap : Nat) (ad : Addr) (sLen sCap : Nat) (hd : a.eval d = .slice (some ⟨g, off, none⟩) dLen dCap) (hs : a.eval s = .slice (some ad) sLen sCap)
    (cur : List Value) (t : TypeId) (hg : w.heap[g]? = some (.cells cur.toArray t (0, 0))) (cs : List Value) (m : Nat) (hm : cs.length = m) (hn : m = Nat.min sLen dLen)
    (hsrc : ∀ j v, cs[j]? = some v → w.cell? (ad.add j) = some v) (hfit : off + m ≤ cur.length) (h1 : ∀ v ∈ cs, v.oneCell' = true)
    (h : ∀ w', Hid (w'.heap[g]? = some (.cells (splice cur off cs).toArray t (0, 0))) → Hid (∀ b, b ≠ g → w'.heap[b]? = w.heap[b]?) → Hid (w'.os = w.os ∧ w'.tape = w.tape ∧ w'.output = w.output ∧ w'.heap.size = w.heap.size) → K (a.put o.dst (.int .i64 (m : Int))) w') :
    if Region.wanted o (yielded ops a.tmps) = true then Oper.wp P o a w K Q else E := by
  subst hm
  have hw : Region.wanted o (yielded ops a.tmps) = true := by simp [Region.wanted, hgd]
  rw [if_pos hw]
  have hrun := run_copy_row (P := P) w dT sT o.type elem g off dLen dCap ad sLen sCap cur.toArray t cs hu hsz hg hn hsrc (by simpa using hfit) h1
  unfold Oper.wp
  simp [execOp, ho, resolve, invoke, builtin, hd, hs, hrun, Result.andThen]
  exact h _ (show _ = _ by simpa [splice] using setRow_heap w g _ _ t _ hg) (fun b hb => setRow_other w g b _ hb) ⟨rfl, rfl, rfl, by simp [World.setRow]⟩
theorem info_e1 : (Tryz.prog.info? 5).map (·.size) = some 1 := by kernel_rfl
set_option maxRecDepth 100000 in
theorem sliceRoom (g u : Nat) (h : u < 256) (W : World) : (Instr.sliceAt 78 (.pointer (some ⟨g, 3, none⟩)) (some (.int .i64 (u : Int))) none none).run Tryz.prog W = .ok (.slice (some ⟨g, 3 + u, none⟩) (256 - u) (256 - u)) W := by
  have hal : Tryz.prog.arrayLen 78 = 256 := by kernel_rfl
  have hel : Tryz.prog.elem 78 = 5 := by kernel_rfl
  have hu : Tryz.prog.underlying 78 = some (.array (Tryz.prog.arrayLen 78) (Tryz.prog.elem 78)) := by kernel_rfl
  have hs : (sizeOf 5).run Tryz.prog W = .ok 1 W := by kernel_rfl
  rw [run_sliceAt_array_l W 78 ⟨g, 3, none⟩ hu .i64 (u : Int) (by omega) (by rw [hal]; omega), hel, hs, hal]
  simp only [Result.andThen, slicedAt, Int.toNat_natCast, Nat.mul_one]
  rw [if_neg (by omega)]
  congr 3
  exact addr_add g 3 u
set_option maxRecDepth 100000 in
theorem sliceB (ao : Option Addr) (n c m : Nat) (W : World) (hm : m ≤ n) (hn : n ≤ c) : (Instr.sliceAt 29 (.slice ao n c) (some (.int .i64 (m : Int))) none none).run Tryz.prog W = .ok (.slice (restAt ao c m) (n - m) (c - m)) W := by
  have h1 : (m : Int) ≤ n := by omega
  have h2 : (m : Int) ≤ c := by omega
  unfold restAt
  split
  · go_simp
  · go_simp
def lenV (v : Value) : Nat := match v with
  | .slice _ n _ => n
  | _ => 0
set_option maxHeartbeats 4000000 in
set_option maxRecDepth 100000 in
theorem wrLay {w : World} {g n c b o : Nat} {ao : Option Addr} {L l : List Int} (X : WrA w g 0 L) (ha : AtB w ao b o l) (hl : l.length = n) (hc : n ≤ c) (hb : b ≠ g) (hbig : L.length + n ≤ 4611686018427387904) :
    Calls Tryz.prog 82 #[.pointer (some ⟨g, 0, none⟩), .slice ao n c] w fun e w' => e = .returned (.tuple #[]) ∧ WrA w' g 0 (L ++ l) ∧ But g w w' := by
  have HX : Hid (WrA w g 0 L) := X
  have HA : Hid (AtB w ao b o l) := ha
  clear X ha
  go_enter Tryz.func82, Tryz.ntmps82
  go_wp2_with fail
  go_loopw [1] (fun tb wr => ∃ k r a' c', Hid (k + r = n) ∧ tb = .slice a' r c' ∧ r ≤ c' ∧ Hid (0 < r → a' = some ⟨b, o + k, none⟩) ∧ WrA wr g 0 (L ++ l.take k) ∧ But g w wr) (fun tb _ => lenV tb)
  case atStart => exact ⟨0, n, ao, c, Nat.zero_add n, rfl, hc, fun h => by
    rcases HA.out.loc with e | e
    · rw [e] at hl; simp at hl; omega
    · rw [e]; rfl, by simpa using HX.out, But.refl _ _⟩
  case round =>
    obtain ⟨k, r, a', c', hk, rfl, hkc, haddr, Y, hbut⟩ := hrel
    obtain ⟨p, ps, lat, u, W0, P0, hu, hL⟩ := Y.ex
    have HL := (show Hid _ from hL)
    have hps : (ps.length : Int) ≤ 4611686018427387904 := by have h1 := congrArg List.length hL; simp at h1; have := hk.out; omega
    have HP := (show Hid _ from P0)
    have HB := (show Hid _ from hbut)
    have t := stFine W0.c0
    have HY : Hid (WrA wr g 0 (L ++ l.take k)) := Y
    clear hL P0 hbut Y
    go_wp2_with fail
    refine t.mono ?_
    rintro e w1 ⟨rfl, rfl⟩
    clear t
    by_cases hlt : 0 < r
    · obtain rfl := haddr.out hlt
      have hlt' : (0 : Int) < r := by omega
      obtain ⟨m, hm⟩ : ∃ m, m = Nat.min r (256 - u) := ⟨_, rfl⟩
      have hm1 : m ≤ r := by rw [hm]; exact Nat.min_le_left _ _
      have hm2 : m ≤ 256 - u := by rw [hm]; exact Nat.min_le_right _ _
      have hm3 : 1 ≤ m := by rw [hm]; exact Nat.le_min.2 ⟨hlt, by omega⟩
      have HM := (show Hid _ from hm)
      clear hm
      obtain ⟨ms, hms⟩ : ∃ ms, ms = (l.drop k).take m := ⟨_, rfl⟩
      have hml : ms.length = m := by rw [hms, List.length_take, List.length_drop]; have := hk.out; omega
      have hln := W0.len
      have HML := (show Hid _ from hml)
      have HMS := (show Hid _ from hms)
      have HS : Hid (∀ W, But g w W → ∀ j v, (ms.map (Value.int .u8))[j]? = some v → W.cell? ((⟨b, o + k, none⟩ : Addr).add j) = some v) := fun W hW j v hj => by
        obtain ⟨h1, h2⟩ := List.getElem?_eq_some_iff.1 hj
        rw [List.length_map] at h1
        rw [List.getElem_map] at h2
        have hh := hk.out
        rw [addr_add]
        refine hW.cell ?_ hb
        rw [← h2, show o + k + j = o + (k + j) by omega, HA.out.cell (k + j) (by omega), ← nth_eq h1, hms, nth_take (by omega), nth_drop]
      have hsp := splice_w 0 p (ps.length : Int) lat ms (u : Int) u (by omega)
      have HSP := (show Hid _ from hsp)
      have HLN := (show Hid _ from hln)
      clear hsp hml hms hln
      have cu := W0.cu
      have hsl := sliceRoom g u hu
      have HC : Hid (∀ W, (Instr.sliceAt 29 (.slice (some ⟨b, o + k, none⟩) r c') (some (.int .i64 (m : Int))) none none).run Tryz.prog W = .ok (.slice (restAt (some ⟨b, o + k, none⟩) c' m) (r - m) (c' - m)) W) := fun W => sliceB _ _ _ _ W hm1 hkc
      go_wp2_with fail
      obtain ⟨TW, hTW, W0b⟩ := W0.blk
      go_region_law (refine step_copyE rfl (.tmp 21) (.tmp 22) 29 29 rfl 5 under_bytes info_e1 g (3 + u) (256 - u) (256 - u) ⟨b, o + k, none⟩ r c' (by rfl) (by rfl) _ TW W0b (ms.map (Value.int .u8)) m (by rw [List.length_map]; exact HML.out) HM.out (fun j v hj => HS.out _ HB.out.drew j v hj) (by simp [wcells, HLN.out]; omega) (by simp [Value.oneCell']) ?_; intro w4 hg4 ho4 hs4)
      have X4 : WBox w4 g 0 p (ps.length : Int) (lat.take u ++ ms ++ lat.drop (u + ms.length)) (u : Int) := ⟨by have := HML.out; have := HLN.out; simp; omega, ⟨TW, hTW, by rw [← HSP.out]; exact hg4.out⟩⟩
      have X5 := X4.setu ((u : Int) + (m : Int))
      have B5 : Hid (But g w1 (w4.setCell ⟨g, 259, none⟩ (.int .i64 ((u : Int) + (m : Int))))) := ⟨hs4.out.1, hs4.out.2.1, hs4.out.2.2.1, by rw [size_set, hs4.out.2.2.2]; exact Nat.le_refl _, fun j h1 h2 => by rw [Below.heap_setCell _ _ _ j h2, ho4.out j h2]; rfl⟩
      have cu4 := X4.cu
      have fu4 := X4.free 259
      have cu5 := X5.cu
      have hsl2 := HC.out
      clear cu hsl hg4 ho4 hs4
      by_cases hf : u + m = 256
      · have hq : (((u : Int) + (m : Int)) == 256) = true := by rw [beq_iff_eq]; omega
        have HF := (show Hid _ from hf)
        clear hf
        go_wp2_with fail
        refine (wrPut X5 (by omega) hps).mono ?_
        rintro e w6 ⟨rfl, X6, XB, hb6⟩
        have H6 : Hid (WrA w6 g 0 (L ++ l.take (k + m))) := by
          have h1 := HML.out
          have h2 := HLN.out
          have h3 := HF.out
          have e1 : lat.drop (u + ms.length) = [] := List.drop_eq_nil_of_le (by omega)
          have e2 : L ++ l.take (k + m) = ps ++ (lat.take u ++ ms ++ lat.drop (u + ms.length)) := by
            rw [List.take_add, ← List.append_assoc, HL.out, ← HMS.out, e1, List.append_nil, List.append_assoc]
          refine ⟨some ⟨_, 0, none⟩, ps ++ (lat.take u ++ ms ++ lat.drop (u + ms.length)), lat.take u ++ ms ++ lat.drop (u + ms.length), 0, ?_, .cons XB X6.len (HP.out.off W0.box (B5.out.trans hb6).block), by omega, ?_⟩
          · have e3 : (((ps ++ (lat.take u ++ ms ++ lat.drop (u + ms.length))).length : Nat) : Int) = (ps.length : Int) + 256 := by rw [List.length_append, X6.len]; rfl
            rw [e3]; exact X6
          · rw [e2]; simp
        have H7 : Hid (But g w w6) := HB.out.trans (B5.out.trans hb6)
        clear X6 XB hb6 X4 X5 cu4 cu5 fu4 hq W0 hsl2
        go_wp2
        go_roundw
        case rel => exact ⟨k + m, r - m, _, _, by show _ = _; have := hk.out; omega, rfl, by omega, fun h => by
          unfold restAt; rw [if_neg (by omega)]; show some ((⟨b, o + k, none⟩ : Addr).add m) = _; rw [addr_add, Nat.add_assoc], H6.out, H7.out⟩
        case measure => simp [lenV]; omega
      · have hq : (((u : Int) + (m : Int)) == 256) = false := by rw [beq_eq_false_iff_ne]; omega
        have H6 : Hid (WrA (w4.setCell ⟨g, 259, none⟩ (.int .i64 ((u : Int) + (m : Int)))) g 0 (L ++ l.take (k + m))) := by
          have h1 := HML.out
          have h2 := HLN.out
          refine ⟨p, ps, _, u + m, X5, HP.out.off W0.box B5.out.block, by omega, ?_⟩
          have e4 : (lat.take u ++ ms ++ lat.drop (u + ms.length)).take (u + m) = lat.take u ++ ms := by
            rw [List.take_append_of_le_length (by simp; omega)]
            exact List.take_of_length_le (by simp; omega)
          rw [e4, List.take_add, ← List.append_assoc, HL.out, ← HMS.out, List.append_assoc]
        have H7 := (show Hid _ from HB.out.trans B5.out)
        have HF := (show Hid _ from hf)
        clear hf X4 X5 W0
        go_wp2
        go_roundw
        case rel => exact ⟨k + m, r - m, _, _, by show _ = _; have := hk.out; omega, rfl, by omega, fun h => by
          unfold restAt; rw [if_neg (by omega)]; show some ((⟨b, o + k, none⟩ : Addr).add m) = _; rw [addr_add, Nat.add_assoc], H6.out, H7.out⟩
        case measure => simp [lenV]; omega
    · obtain rfl : r = 0 := by omega
      have HE : Hid (WrA w1 g 0 (L ++ l)) := by
        have h1 := HY.out
        rw [List.take_of_length_le (by have := hk.out; omega)] at h1
        exact h1
      go_wp2
      go_end0
      exact ⟨rfl, HE.out, HB.out⟩
end Go.Proofs.YtpoifdokmjhclaaGreat

namespace Go.Proofs.YtpoifdokmjhclaaGreat
open Go.RowKit Lim

/-- a number in m bytes, the highest first -/
def be : Nat → Int → List Int
  | 0, _ => []
  | m + 1, x => x / 256 ^ m % 256 :: be m x
theorem be_length (m : Nat) (x : Int) : (be m x).length = m := by
  induction m with
  | zero => rfl
  | succ m ih => rw [be, List.length_cons, ih]
theorem be_nth (m : Nat) (x : Int) : ∀ i, i < m → nth (be m x) i = x / 256 ^ (m - 1 - i) % 256 := by
  induction m with
  | zero => intro i hi; omega
  | succ m ih =>
    intro i hi
    cases i with
    | zero => rfl
    | succ i =>
      rw [be, nth_succ, ih i (by omega), show m - 1 - i = m + 1 - 1 - (i + 1) by omega]
theorem be_oct (m : Nat) (x : Int) : Octets (be m x) := by
  induction m with
  | zero => intro y hy; simp [be] at hy
  | succ m ih =>
    intro y hy
    rw [be] at hy
    rcases List.mem_cons.1 hy with e | e
    · subst e; exact ⟨Int.emod_nonneg _ (by decide), Int.emod_lt_of_pos _ (by decide)⟩
    · exact ih y e
theorem be_val (m : Nat) {x : Int} (hx : 0 ≤ x) : bval (be m x) = x % 256 ^ m := by
  induction m with
  | zero => simp [be, bval]
  | succ m ih => rw [be, bval, be_length, ih, ← emod_parts x hx m]
/-- what a Writer has, when l is laid -/
def wrote (err : Int) (L l : List Int) : List Int := if err = 0 then L ++ l else L
set_option maxHeartbeats 2000000 in
set_option maxRecDepth 100000 in
theorem wrLayE {w : World} {g n c : Nat} {ao : Option Addr} {err : Int} {L : List Int} (X : WrA w g err L) (he : err ≠ 0) :
    Calls Tryz.prog 82 #[.pointer (some ⟨g, 0, none⟩), .slice ao n c] w fun e w' => e = .returned (.tuple #[]) ∧ w' = w := by
  obtain ⟨p, ps, lat, u, W0, _⟩ := X.ex
  have t := stFine W0.c0
  rw [beq_eq_false_iff_ne.2 he] at t
  clear X W0 he
  go_enter Tryz.func82, Tryz.ntmps82
  go_wp2_with fail
  go_loopw [1] (fun tb wr => tb = .slice ao n c ∧ wr = w) (fun _ _ => 0)
  case atStart => exact ⟨rfl, rfl⟩
  case round =>
    obtain ⟨rfl, rfl⟩ := hrel
    go_wp2_with fail
    refine t.mono ?_
    rintro e w1 ⟨rfl, rfl⟩
    clear t
    go_wp2
    go_end0
    exact ⟨rfl, rfl⟩
theorem wrLayV {w : World} {g n c b o : Nat} {ao : Option Addr} {err : Int} {L l : List Int} (X : WrA w g err L) (ha : AtB w ao b o l) (hl : l.length = n) (hc : n ≤ c) (hb : b ≠ g) (hbig : L.length + n ≤ 4611686018427387904) :
    Calls Tryz.prog 82 #[.pointer (some ⟨g, 0, none⟩), .slice ao n c] w fun e w' => e = .returned (.tuple #[]) ∧ WrA w' g err (wrote err L l) ∧ But g w w' := by
  unfold wrote
  by_cases he : err = 0
  · subst he
    rw [if_pos rfl]
    exact wrLay X ha hl hc hb hbig
  · rw [if_neg he]
    refine (wrLayE X he).mono ?_
    rintro e w' ⟨h1, h2⟩
    subst h2
    exact ⟨h1, X, But.refl _ _⟩
set_option maxRecDepth 100000 in
theorem slice8 (g m : Nat) (h : m ≤ 8) (W : World) : (Instr.sliceAt 164 (.pointer (some ⟨g, 0, none⟩)) none (some (.int .i64 (m : Int))) none).run Tryz.prog W = .ok (.slice (some ⟨g, 0, none⟩) m 8) W := by
  have h1 : (m : Int) ≤ 8 := by omega
  go_simp
theorem set_take {ds : List Int} {k : Nat} {v : Int} (hk : k < ds.length) : (ds.set k v).take (k + 1) = ds.take k ++ [v] := by
  rw [take_succ_nth (by rw [List.length_set]; exact hk), nth_set hk, if_pos rfl, List.take_set_of_le (Nat.le_refl _)]
theorem Box.bytes {w : World} {g : Nat} {ds : List Int} {t : TypeId} (h : Box w g (ds.map (Value.int .u8)) t) {i : Nat} (hi : i < ds.length) : w.cell? ⟨g, i, none⟩ = some (.int .u8 (nth ds i)) := by
  simp [World.cell?, h.blk, hi, nth_eq hi]
theorem Box.thaw {w : World} {g : Nat} {cs : List Value} {t : TypeId} (h : Box w g cs t) (i : Nat) : w.frozen? ⟨g, i, none⟩ = false := by simp [World.frozen?, h.blk]
theorem Box.setB {w : World} {g : Nat} {ds : List Int} {t : TypeId} (h : Box w g (ds.map (Value.int .u8)) t) (i : Nat) (x : Int) : Box (w.setCell ⟨g, i, none⟩ (.int .u8 x)) g ((ds.set i x).map (Value.int .u8)) t := ⟨by
  have hb := h.blk
  simp only [World.setCell, Array.getElem?_modify, if_true, hb]
  simp⟩
set_option maxHeartbeats 2000000 in
set_option maxRecDepth 100000 in
theorem wrNum {w : World} {g m : Nat} {err x : Int} {L : List Int} (X : WrA w g err L) (hm : m ≤ 8) (hbig : L.length + 8 ≤ 4611686018427387904) :
    Calls Tryz.prog 52 #[.pointer (some ⟨g, 0, none⟩), .int .u64 x, .int .i64 m] w fun e w' => e = .returned (.tuple #[]) ∧ WrA w' g err (wrote err L (be m x)) ∧ But g w w' := by
  have HX : Hid (WrA w g err L) := X
  have hg := X.lt
  have N := box_new w ((List.replicate 8 (0 : Int)).map (Value.int .u8)) 164
  have HB := below_alloc w (.cells #[.int .u8 0, .int .u8 0, .int .u8 0, .int .u8 0, .int .u8 0, .int .u8 0, .int .u8 0, .int .u8 0] 164)
  have HN := (show Hid _ from N)
  have HBB := (show Hid _ from HB)
  clear X N HB
  go_enter Tryz.func52, Tryz.ntmps52
  go_wp2_with fail
  go_loopw [9] (fun ti wr => ∃ (k : Nat) (ds : List Int), k ≤ m ∧ ti = .int .i64 k ∧ ds.length = 8 ∧ Hid (ds.take k = (be m x).take k) ∧ Box wr w.heap.size (ds.map (Value.int .u8)) 164 ∧ Below w.heap.size w wr) (fun ti _ => m - (intOf ti).toNat)
  case atStart => exact ⟨0, List.replicate 8 0, Nat.zero_le _, rfl, rfl, rfl, HN.out, HBB.out⟩
  case round =>
    obtain ⟨k, ds, hk, rfl, hlen, htk, hbx, hbe⟩ := hrel
    by_cases hlt : k < m
    · obtain ⟨h, hh⟩ : ∃ h : Nat, (m : Int) - 1 - k = h := ⟨m - 1 - k, by omega⟩
      have hh' : m - 1 - k = h := by omega
      have HD : Hid ((ds.set k (x / 2 ^ (8 * h) % 256)).take (k + 1) = (be m x).take (k + 1)) := by
        have e1 : (256 : Int) ^ h = 2 ^ (8 * h) := by rw [Int.pow_mul]; rfl
        show _ = _
        rw [set_take (by omega), htk.out, take_succ_nth (by rw [be_length]; exact hlt), be_nth m x k hlt, hh', e1]
      have hk8 : (k : Int) < 8 := by omega
      have hh8 : h < 8 := by omega
      have c1 := hbx.bytes (i := k) (by omega)
      have f1 := hbx.thaw k
      have HQ := (show Hid _ from hbx.setB k (x / 2 ^ (8 * h) % 256))
      have HE := (show Hid _ from hbe)
      have HLE := (show Hid _ from hlen)
      clear hh' hbx hbe htk hlen
      go_wp2_with fail
      refine ⟨⟨k + 1, _, by omega, by go_num, by rw [List.length_set]; exact HLE.out, HD.out, HQ.out, HE.out.setCell (p := ⟨w.heap.size, k, none⟩) (Nat.le_refl _) _⟩, by simp [intOf]; omega⟩
    · obtain rfl : k = m := by omega
      have A : AtB wr (some ⟨w.heap.size, 0, none⟩) w.heap.size 0 (be k x) := ⟨.inr rfl, fun i hi => by
        rw [be_length] at hi
        have e := htk.out
        rw [List.take_of_length_le (l := be k x) (by rw [be_length]; exact Nat.le_refl _)] at e
        rw [Nat.zero_add, hbx.bytes (by omega), ← e, nth_take hi]⟩
      have t := wrLayV (n := k) (c := 8) (HX.out.keep hbe) A (be_length k x) hm (by omega) (by omega)
      have hs8 := slice8 w.heap.size k hm
      have HE : Hid (∀ w', But g wr w' → But g w w') := fun w' hb => (⟨hbe.os, hbe.tape, hbe.output, hbe.size, fun k h1 _ => hbe.block k h1⟩ : But g w wr).trans hb
      clear A hbx hbe htk
      go_wp2_with fail
      refine t.mono ?_
      rintro e w1 ⟨rfl, h1, h2⟩
      have H2 := (show Hid _ from HE.out w1 h2)
      clear t h2
      go_wp2
      go_end0
      exact ⟨rfl, h1, H2.out⟩
theorem shr_zero {n k : Nat} (h : n < 256 ^ k) : (n : Int) / 2 ^ (8 * k) = 0 := by
  have e : (2 : Int) ^ (8 * k) = ((256 ^ k : Nat) : Int) := by rw [Int.pow_mul, Int.natCast_pow]; rfl
  rw [e]
  exact Int.ediv_eq_zero_of_lt (by omega) (by omega)
/-- a list behind its length -/
def cntd (m : Nat) (l : List Int) : List Int := be m l.length ++ l
theorem wrote_two (err : Int) (L l r : List Int) : wrote err (wrote err L l) r = wrote err L (l ++ r) := by
  unfold wrote
  by_cases h : err = 0
  · rw [if_pos h, if_pos h, if_pos h, List.append_assoc]
  · rw [if_neg h, if_neg h, if_neg h]
theorem wrote_len (err : Int) (L l : List Int) : (wrote err L l).length ≤ L.length + l.length := by
  unfold wrote
  split
  · rw [List.length_append]; exact Nat.le_refl _
  · exact Nat.le_add_right _ _
theorem But.at {g : Nat} {w w' : World} (h : But g w w') {ao : Option Addr} {b o : Nat} {l : List Int} (k : AtB w ao b o l) (hb : b ≠ g) : AtB w' ao b o l := ⟨k.loc, fun i hi => h.cell (k.cell i hi) hb⟩
set_option maxHeartbeats 2000000 in
set_option maxRecDepth 100000 in
theorem wrCnt {w : World} {g n c b o m : Nat} {ao : Option Addr} {err : Int} {L l : List Int} (X : WrA w g err L) (ha : AtB w ao b o l) (hl : l.length = n) (hc : n ≤ c) (hb : b ≠ g) (hm : m = 1 ∨ m = 4) (hn : n < 256 ^ m) (hbig : L.length + n + 16 ≤ 4611686018427387904) :
    Calls Tryz.prog 256 #[.pointer (some ⟨g, 0, none⟩), .slice ao n c, .int .i64 m] w fun e w' => e = .returned (.tuple #[]) ∧ WrA w' g err (wrote err L (cntd m l)) ∧ But g w w' := by
  have t := wrNum (m := m) (x := (n : Int)) X (by omega) (by omega)
  have hz := shr_zero hn
  have hm8 : m ≤ 4 := by omega
  have HM := (show Hid _ from hm)
  have HN := (show Hid _ from hn)
  clear X hm hn
  go_enter Tryz.func256, Tryz.ntmps256
  go_wp2_with fail
  refine t.mono ?_
  rintro e w1 ⟨rfl, X1, hb1⟩
  have t2 := wrLayV X1 (hb1.at ha hb) hl hc hb (by have := wrote_len err L (be m n); rw [be_length] at this; omega)
  rw [wrote_two] at t2
  have HE : Hid (be m n ++ l = cntd m l) := by show _ = _; unfold cntd; rw [hl]
  have HB1 := (show Hid _ from hb1)
  clear t X1 hb1 ha
  go_wp2_with fail
  refine t2.mono ?_
  rintro e w2 ⟨rfl, X2, hb2⟩
  have HB2 := (show Hid _ from HB1.out.trans hb2)
  clear t2 hb2
  go_wp2
  go_end0
  exact ⟨rfl, by rw [← HE.out]; exact X2, HB2.out⟩
theorem shr_pos {n k : Nat} (h : 256 ^ k ≤ n) : ((n : Int) / 2 ^ (8 * k) != 0) = true := by
  have e : (2 : Int) ^ (8 * k) = ((256 ^ k : Nat) : Int) := by rw [Int.pow_mul, Int.natCast_pow]; rfl
  rw [e, bne_iff_ne]
  have h1 : 0 < n / 256 ^ k := Nat.div_pos h (Nat.pow_pos (by decide))
  have h2 : (n : Int) / ((256 ^ k : Nat) : Int) = ((n / 256 ^ k : Nat) : Int) := rfl
  omega
/-- the error of a list that is too long -/
def long (err : Int) : Int := if err = 0 then 42 else err
theorem stMeetW {w : World} {g : Nat} {err e0 : Int} {L : List Int} (X : WrA w g err L) :
    Calls Tryz.prog 81 #[.pointer (some ⟨g, 0, none⟩), .int .i64 e0] w fun e w' => e = .returned (.tuple #[]) ∧ WrA w' g (if err = 0 then e0 else err) L ∧ But g w w' := by
  obtain ⟨p, ps, lat, u, W0, P0, hu, hL⟩ := X.ex
  by_cases he : err = 0
  · subst he
    rw [if_pos rfl]
    refine (stMeet W0.c0 (W0.free 0)).mono ?_
    rintro e w' ⟨h1, rfl⟩
    have hB : But g w (w.setCell ⟨g, 0, none⟩ (.int .i64 e0)) := ⟨rfl, rfl, rfl, by rw [size_set]; exact Nat.le_refl _, fun k _ h2 => Below.heap_setCell _ _ _ k h2⟩
    exact ⟨h1, ⟨p, ps, lat, u, W0.set0 e0, P0.off W0.box hB.block, hu, hL⟩, hB⟩
  · rw [if_neg he]
    refine (stMeet1 W0.c0 (beq_eq_false_iff_ne.2 he)).mono ?_
    rintro e w' ⟨h1, rfl⟩
    exact ⟨h1, X, But.refl _ _⟩
set_option maxHeartbeats 2000000 in
set_option maxRecDepth 100000 in
theorem wrCntLong {w : World} {g n c m : Nat} {ao : Option Addr} {err : Int} {L : List Int} (X : WrA w g err L) (hc : n ≤ 9223372036854775807) (hm : m ≤ 4) (hn : 256 ^ m ≤ n) :
    Calls Tryz.prog 256 #[.pointer (some ⟨g, 0, none⟩), .slice ao n c, .int .i64 m] w fun e w' => e = .returned (.tuple #[]) ∧ WrA w' g (long err) L ∧ But g w w' := by
  have t := stMeetW (e0 := 42) X
  have hz := shr_pos hn
  have HN := (show Hid _ from hn)
  clear X hn
  go_enter Tryz.func256, Tryz.ntmps256
  go_wp2_with fail
  refine t.mono ?_
  rintro e w1 ⟨rfl, X1, hb1⟩
  have HX := (show Hid _ from X1)
  have HB1 := (show Hid _ from hb1)
  clear t X1 hb1
  go_wp2
  (try simp only [Exit.inBlock, Exit.then])
  refine bodyPost_ret (results_none rfl _ _ _) rfl ?_
  exact ⟨rfl, HX.out, HB1.out⟩
set_option maxRecDepth 100000 in
theorem wrU8 {w : World} {g : Nat} {err x : Int} {L : List Int} (X : WrA w g err L) (hx0 : 0 ≤ x) (hx : x < 256) (hbig : L.length + 8 ≤ 4611686018427387904) :
    Calls Tryz.prog 209 #[.pointer (some ⟨g, 0, none⟩), .int .u8 x] w fun e w' => e = .returned (.tuple #[]) ∧ WrA w' g err (wrote err L (be 1 x)) ∧ But g w w' := by
  have t := wrNum (m := 1) (x := x) X (by decide) hbig
  clear X
  go_enter Tryz.func209, Tryz.ntmps209
  go_wp2_with fail
  refine t.mono ?_
  rintro e w1 ⟨rfl, X1, hb1⟩
  clear t
  go_wp2
  go_end0
  exact ⟨rfl, X1, hb1⟩
set_option maxRecDepth 100000 in
theorem wrU32 {w : World} {g : Nat} {err x : Int} {L : List Int} (X : WrA w g err L) (hx0 : 0 ≤ x) (hx : x < 4294967296) (hbig : L.length + 8 ≤ 4611686018427387904) :
    Calls Tryz.prog 28 #[.pointer (some ⟨g, 0, none⟩), .int .u32 x] w fun e w' => e = .returned (.tuple #[]) ∧ WrA w' g err (wrote err L (be 4 x)) ∧ But g w w' := by
  have t := wrNum (m := 4) (x := x) X (by decide) hbig
  clear X
  go_enter Tryz.func28, Tryz.ntmps28
  go_wp2_with fail
  refine t.mono ?_
  rintro e w1 ⟨rfl, X1, hb1⟩
  clear t
  go_wp2
  go_end0
  exact ⟨rfl, X1, hb1⟩
set_option maxRecDepth 100000 in
theorem wrU64 {w : World} {g : Nat} {err x : Int} {L : List Int} (X : WrA w g err L) (hbig : L.length + 8 ≤ 4611686018427387904) :
    Calls Tryz.prog 53 #[.pointer (some ⟨g, 0, none⟩), .int .u64 x] w fun e w' => e = .returned (.tuple #[]) ∧ WrA w' g err (wrote err L (be 8 x)) ∧ But g w w' := by
  have t := wrNum (m := 8) (x := x) X (by decide) hbig
  clear X
  go_enter Tryz.func53, Tryz.ntmps53
  go_wp2_with fail
  refine t.mono ?_
  rintro e w1 ⟨rfl, X1, hb1⟩
  clear t
  go_wp2
  go_end0
  exact ⟨rfl, X1, hb1⟩
set_option maxRecDepth 100000 in
theorem wrBool {w : World} {g : Nat} {err : Int} {x : Bool} {L : List Int} (X : WrA w g err L) (hbig : L.length + 8 ≤ 4611686018427387904) :
    Calls Tryz.prog 164 #[.pointer (some ⟨g, 0, none⟩), .bool x] w fun e w' => e = .returned (.tuple #[]) ∧ WrA w' g err (wrote err L (be 1 (if x then 1 else 0))) ∧ But g w w' := by
  cases x
  · have t := wrU8 (x := 0) X (by decide) (by decide) hbig
    clear X
    go_enter Tryz.func164, Tryz.ntmps164
    go_wp2_with fail
    refine t.mono ?_
    rintro e w1 ⟨rfl, X1, hb1⟩
    clear t
    go_wp2
    go_end0
    exact ⟨rfl, X1, hb1⟩
  · have t := wrU8 (x := 1) X (by decide) (by decide) hbig
    clear X
    go_enter Tryz.func164, Tryz.ntmps164
    go_wp2_with fail
    refine t.mono ?_
    rintro e w1 ⟨rfl, X1, hb1⟩
    clear t
    go_wp2
    go_end0
    exact ⟨rfl, X1, hb1⟩
end Go.Proofs.YtpoifdokmjhclaaGreat

namespace Go.Proofs.YtpoifdokmjhclaaGreat
open Go.RowKit Lim

/-- the bytes of a whole number, the highest first -/
def natB (V : Int) : List Int := be ((bitLen V.toNat + 7) / 8) V
theorem natB_is {V : Int} (hV : 0 ≤ V) : IsB (natB V) V := by
  obtain ⟨h1, h2⟩ := bytes_len hV
  unfold natB
  generalize (bitLen V.toNat + 7) / 8 = k at *
  refine ⟨be_oct k V, fun hne => ?_, by rw [be_val k hV, Int.emod_eq_of_lt hV h1]⟩
  have hk : k ≠ 0 := fun e => hne (by rw [e]; rfl)
  rw [be_nth k V 0 (by omega), show k - 1 - 0 = k - 1 by omega]
  have hp : (0 : Int) < 256 ^ (k - 1) := Int.pow_pos (by decide)
  have q1 : 1 ≤ V / 256 ^ (k - 1) := by rw [Int.le_ediv_iff_mul_le hp]; have := h2 hk; omega
  have q2 : V / 256 ^ (k - 1) < 256 := by
    rw [Int.ediv_lt_iff_lt_mul hp, Int.mul_comm, ← Int.pow_succ, show (k - 1).succ = k from by omega]; exact h1
  rw [Int.emod_eq_of_lt (by omega) q2]; omega
theorem natB_oct (V : Int) : Octets (natB V) := be_oct _ _
/-- the error behind a whole number -/
def natE (V err : Int) : Int := if (natB V).length < 256 then err else long err
/-- what a Writer has behind it -/
def natL (V err : Int) (L : List Int) : List Int := if (natB V).length < 256 then wrote err L (cntd 1 (natB V)) else L
theorem But.of {g : Nat} {w w' : World} (h : Below w.heap.size w w') : But g w w' := ⟨h.os, h.tape, h.output, h.size, fun k h1 _ => h.block k h1⟩
set_option maxHeartbeats 2000000 in
set_option maxRecDepth 100000 in
theorem wrNat {w : World} {g n c : Nat} {ao : Option Addr} {err V : Int} {L : List Int} (X : WrA w g err L) (h : NatA w ao n c V) (hn : n ≤ 1099511627776) (hbig : L.length + 8 * n + 16 ≤ 4611686018427387904) :
    Calls Tryz.prog 210 #[.pointer (some ⟨g, 0, none⟩), .slice ao n c] w fun e w' => e = .returned (.tuple #[]) ∧ WrA w' g (natE V err) (natL V err L) ∧ But g w w' := by
  obtain ⟨b, o, l, h1, h2, h3, h4, h5⟩ := h.ex
  have t := bytes_any ao n c b o l w h1 h2 hn h3 h4
  rw [h5] at t
  have hV : 0 ≤ V := by rw [← h5]; exact val_nonneg h3
  have hg := X.lt
  have HX : Hid (WrA w g err L) := X
  clear X h h1 h2 h3 h4 h5
  go_enter Tryz.func210, Tryz.ntmps210
  go_wp2_with fail
  refine t.mono ?_
  rintro e w1 ⟨v, r, rfl, hN, hI, -, hr8, hB⟩
  obtain ⟨ao', b', o', c', rfl, hc', hb', hA, -⟩ := hN.is
  obtain rfl := isB_unique hI (natB_is hV)
  have X1 := HX.out.keep hB
  have HB := (show Hid _ from hB)
  clear t hN hI hB
  by_cases hlt : (natB V).length < 256
  · have t2 := wrCnt (m := 1) X1 hA rfl hc' (by omega) (.inl rfl) (by simpa using hlt) (by omega)
    have HE : Hid (natE V err = err ∧ natL V err L = wrote err L (cntd 1 (natB V))) := by
      unfold natE natL
      rw [if_pos hlt, if_pos hlt]; exact ⟨rfl, rfl⟩
    clear X1 hA hlt
    go_wp2_with fail
    refine t2.mono ?_
    rintro e w2 ⟨rfl, X2, hb2⟩
    have H2 := (show Hid _ from (But.of (g := g) HB.out).trans hb2)
    clear t2 hb2
    go_wp2
    go_end0
    exact ⟨rfl, by rw [HE.out.1, HE.out.2]; exact X2, H2.out⟩
  · have t2 := wrCntLong (ao := ao') (c := c') (m := 1) (n := (natB V).length) X1 (by omega) (by decide) (by omega)
    have HE : Hid (natE V err = long err ∧ natL V err L = L) := by
      unfold natE natL
      rw [if_neg hlt, if_neg hlt]; exact ⟨rfl, rfl⟩
    clear X1 hA hlt
    go_wp2_with fail
    refine t2.mono ?_
    rintro e w2 ⟨rfl, X2, hb2⟩
    have H2 := (show Hid _ from (But.of (g := g) HB.out).trans hb2)
    clear t2 hb2
    go_wp2
    go_end0
    exact ⟨rfl, by rw [HE.out.1, HE.out.2]; exact X2, H2.out⟩
set_option maxHeartbeats 2000000 in
set_option maxRecDepth 100000 in
theorem wrDec {w : World} {g n c : Nat} {ao : Option Addr} {err V : Int} {L : List Int} (X : WrA w g err L) (h : NatA w ao n c V) (hn : n ≤ 1099511627776) (hbig : L.length + 8 * n + 16 ≤ 4611686018427387904) :
    Calls Tryz.prog 166 #[.pointer (some ⟨g, 0, none⟩), .agg #[.slice ao n c]] w fun e w' => e = .returned (.tuple #[]) ∧ WrA w' g (natE V err) (natL V err L) ∧ But g w w' := by
  have HB : Hid (Below w.heap.size w (w.alloc (.cells #[.slice ao n c] 55))) := below_alloc w _
  have t := wrNat (X.keep HB.out) (h.keep HB.out) hn hbig
  clear X h
  go_enter Tryz.func166, Tryz.ntmps166
  go_wp2_with fail
  refine t.mono ?_
  rintro e w2 ⟨rfl, X2, hb2⟩
  replace hb2 := (show Hid _ from (But.of (g := g) HB.out).trans hb2)
  clear t HB
  go_wp2
  go_end0
  exact ⟨rfl, X2, hb2.out⟩
end Go.Proofs.YtpoifdokmjhclaaGreat

namespace Go.Proofs.YtpoifdokmjhclaaGreat
open Go.RowKit Lim

/-- the error behind a part that is read: the first one -/
def rdE {α : Type} (r : Int ⊕ α × Nat) (err : Int) : Int := if err = 0 then (match r with | .inl e => e | .inr _ => 0) else err
/-- what is left -/
def rdL {α : Type} (r : Int ⊕ α × Nat) (err : Int) (l : List Int) : List Int := if err = 0 then (match r with | .inl _ => l | .inr p => l.drop p.2) else l
/-- what is told -/
def rdV {α : Type} (z : α) (r : Int ⊕ α × Nat) (err : Int) : α := if err = 0 then (match r with | .inl _ => z | .inr p => p.1) else z
/-- a number of m bytes -/
def pFix (m : Nat) (l : List Int) : Int ⊕ Int × Nat := if m ≤ l.length then .inr (bval (l.take m), m) else .inl 40
def pBool (l : List Int) : Int ⊕ Bool × Nat := if 1 ≤ l.length then (if 1 < bval (l.take 1) then .inl 41 else .inr (bval (l.take 1) == 1, 1)) else .inl 40
/-- how many bytes a count of m bytes tells -/
def cntOf (m : Nat) (l : List Int) : Nat := (bval (l.take m)).toNat
def pNat (l : List Int) : Int ⊕ Int × Nat := if 1 ≤ l.length then (if 1 + cntOf 1 l ≤ l.length then (if 0 < cntOf 1 l ∧ nth (l.drop 1) 0 = 0 then .inl 41 else .inr (bval ((l.drop 1).take (cntOf 1 l)), 1 + cntOf 1 l)) else .inl 40) else .inl 40
theorem rdE_bad {α : Type} {r : Int ⊕ α × Nat} {err : Int} (h : err ≠ 0) : rdE r err = err := by unfold rdE; rw [if_neg h]
theorem rdL_bad {α : Type} {r : Int ⊕ α × Nat} {err : Int} {l : List Int} (h : err ≠ 0) : rdL r err l = l := by unfold rdL; rw [if_neg h]
theorem rdV_bad {α : Type} {z : α} {r : Int ⊕ α × Nat} {err : Int} (h : err ≠ 0) : rdV z r err = z := by unfold rdV; rw [if_neg h]
theorem fixV_eq (m : Nat) (err : Int) (l : List Int) : fixV m err l = rdV 0 (pFix m l) err := by
  unfold fixV rdV pFix
  by_cases h1 : err = 0 <;> by_cases h2 : m ≤ l.length <;> simp [h1, h2]
theorem fixE_eq (m : Nat) (err : Int) (l : List Int) : fixE m err l = rdE (pFix m l) err := by
  unfold fixE rdE pFix
  by_cases h1 : err = 0 <;> by_cases h2 : m ≤ l.length <;> simp [h1, h2]
theorem fixL_eq (m : Nat) (err : Int) (l : List Int) : fixL m err l = rdL (pFix m l) err l := by
  unfold fixL rdL pFix
  by_cases h1 : err = 0 <;> by_cases h2 : m ≤ l.length <;> simp [h1, h2]
theorem ByA.but {w w' : World} {b g n c : Nat} {ao : Option Addr} {l : List Int} (h : ByA w b ao n c l) {cs : List Value} {t : TypeId} (s : Box w g cs t) (hv : ∀ v ∈ cs, ∀ x, v ≠ .int .u8 x) (hB : But g w w') : ByA w' b ao n c l := by
  obtain ⟨o, h1, h2, h3, h4, h5⟩ := h.ex
  refine ⟨o, h1, h2, h3, h4, h5.loc, fun i hi => ?_⟩
  have hc := h5.cell i hi
  refine hB.cell hc (fun e => ?_)
  subst e
  simp only [World.cell?, s.blk] at hc
  have h6 : cs.toArray[o + i]? = some (.int .u8 (nth l i)) := by simpa using hc
  rw [List.getElem?_toArray] at h6
  exact absurd rfl (hv _ (List.mem_of_getElem? h6) _)
/-- a Reader whose error is laid down, and its bytes given back -/
theorem RdA.back {w w1 : World} {g b n c : Nat} {ao : Option Addr} {l : List Int} {y : Value} (e0 : Int) (X : Box w g [.int .i64 0, .slice ao n c] 161) (A : ByA w b ao n c l) (hB : But g w w1) (Y : Box w1 g [.int .i64 0, y] 161) :
    RdA ((w1.setCell ⟨g, 1, none⟩ (.slice ao n c)).setCell ⟨g, 0, none⟩ (.int .i64 e0)) g b e0 l ∧ But g w ((w1.setCell ⟨g, 1, none⟩ (.slice ao n c)).setCell ⟨g, 0, none⟩ (.int .i64 e0)) := by
  have H : But g w ((w1.setCell ⟨g, 1, none⟩ (.slice ao n c)).setCell ⟨g, 0, none⟩ (.int .i64 e0)) := ⟨hB.os, hB.tape, hB.output, by rw [size_set, size_set]; exact hB.size, fun k h1 h2 => by rw [Below.heap_setCell _ _ _ k h2, Below.heap_setCell _ _ _ k h2]; exact hB.block k h1 h2⟩
  exact ⟨⟨ao, n, c, box_put0 (box_put1 Y _) _, A.but X (no_u8 _ _ _ _) H⟩, H⟩
theorem RdA.lt {w : World} {g b : Nat} {err : Int} {l : List Int} (h : RdA w g b err l) : g < w.heap.size := by
  obtain ⟨_, _, _, X, _⟩ := h.ex
  exact X.lt
theorem raNum {w : World} {g b m : Nat} {l : List Int} (h : RdA w g b 0 l) (hm : m ≤ l.length) (h8 : m ≤ 8) :
    Calls Tryz.prog 123 #[.pointer (some ⟨g, 0, none⟩), .int .u64 m] w fun e w' => e = .returned (.tuple #[.int .u64 (bval (l.take m)), .int .i64 0]) ∧ RdA w' g b 0 (l.drop m) ∧ But g w w' := by
  obtain ⟨ao, n, c, X, A⟩ := h.ex
  obtain ⟨o, h1, h2, ⟨h3, -⟩, -, -⟩ := A.ex
  refine (rdNum X A (by omega : m ≤ n) h8).mono ?_
  rintro e w' ⟨h4, rfl⟩
  have H : But g w (w.setCell ⟨g, 1, none⟩ (.slice (restAt ao c m) (n - m) (c - m))) := ⟨rfl, rfl, rfl, by rw [size_set]; exact Nat.le_refl _, fun k _ h2 => Below.heap_setCell _ _ _ k h2⟩
  exact ⟨h4, ⟨_, _, _, box_put1 X _, (A.rest (by omega)).but X (no_u8 _ _ _ _) H⟩, H⟩
theorem raNumS {w : World} {g b m : Nat} {l : List Int} (h : RdA w g b 0 l) (hm : l.length < m) :
    Calls Tryz.prog 123 #[.pointer (some ⟨g, 0, none⟩), .int .u64 m] w fun e w' => e = .returned (.tuple #[.int .u64 0, .int .i64 40]) ∧ w' = w := by
  obtain ⟨ao, n, c, X, A⟩ := h.ex
  obtain ⟨o, h1, h2, ⟨h3, -⟩, -, -⟩ := A.ex
  exact rdNumS X (by omega) (by omega)
theorem raTake {w : World} {g b m : Nat} {l : List Int} (h : RdA w g b 0 l) (hm : m ≤ l.length) :
    Calls Tryz.prog 157 #[.pointer (some ⟨g, 0, none⟩), .int .u64 m] w fun e w' => ∃ ao, e = .returned (.tuple #[.slice ao m m, .int .i64 0]) ∧ ByA w' b ao m m (l.take m) ∧ RdA w' g b 0 (l.drop m) ∧ But g w w' := by
  obtain ⟨ao, n, c, X, A⟩ := h.ex
  obtain ⟨o, h1, h2, ⟨h3, -⟩, -, -⟩ := A.ex
  refine (rdTake X h2 h3 (by omega : m ≤ n)).mono ?_
  rintro e w' ⟨h4, rfl⟩
  have H : But g w (w.setCell ⟨g, 1, none⟩ (.slice (restAt ao c m) (n - m) (c - m))) := ⟨rfl, rfl, rfl, by rw [size_set]; exact Nat.le_refl _, fun k _ h2 => Below.heap_setCell _ _ _ k h2⟩
  exact ⟨ao, h4, (A.front (by omega)).but X (no_u8 _ _ _ _) H, ⟨_, _, _, box_put1 X _, (A.rest (by omega)).but X (no_u8 _ _ _ _) H⟩, H⟩
theorem raTakeS {w : World} {g b m : Nat} {l : List Int} (h : RdA w g b 0 l) (hm : l.length < m) :
    Calls Tryz.prog 157 #[.pointer (some ⟨g, 0, none⟩), .int .u64 m] w fun e w' => e = .returned (.tuple #[.slice none 0 0, .int .i64 40]) ∧ w' = w := by
  obtain ⟨ao, n, c, X, A⟩ := h.ex
  obtain ⟨o, h1, h2, ⟨h3, -⟩, -, -⟩ := A.ex
  exact rdTakeS X (by omega) (by omega)
theorem RdA.oct {w : World} {g b : Nat} {err : Int} {l : List Int} (h : RdA w g b err l) : Octets l := by
  obtain ⟨_, _, _, _, A⟩ := h.ex
  obtain ⟨o, _, _, _, h4, _⟩ := A.ex
  exact h4
theorem cntOf_eq {w : World} {g b m : Nat} {err : Int} {l : List Int} (h : RdA w g b err l) : ((cntOf m l : Nat) : Int) = bval (l.take m) := by
  unfold cntOf
  rw [Int.toNat_of_nonneg (bval_bound (fun x hx => h.oct x (List.mem_of_mem_take hx))).1]
set_option maxHeartbeats 2000000 in
set_option maxRecDepth 100000 in
theorem raTruth {w : World} {g b : Nat} {l : List Int} (h : RdA w g b 0 l) :
    Calls Tryz.prog 155 #[.pointer (some ⟨g, 0, none⟩)] w fun e w' => ∃ v, e = .returned (.tuple #[v, .int .i64 (rdE (pBool l) 0)]) ∧ ∃ l1, RdA w' g b 0 l1 ∧ But g w w' ∧ ∀ x k, pBool l = .inr (x, k) → l1 = l.drop k ∧ v = .bool x := by
  by_cases hl : 1 ≤ l.length
  · have t := raNum (m := 1) h hl (by decide)
    by_cases hx : 1 < bval (l.take 1)
    · have hp : pBool l = .inl 41 := by unfold pBool; rw [if_pos hl, if_pos hx]
      have HR : Hid (rdE (pBool l) 0 = 41) := by show _ = _; rw [hp]; rfl
      have HP := (show Hid _ from hp)
      clear hp h
      have hx' : (bval (l.take 1) == 1) = false := by rw [beq_eq_false_iff_ne]; omega
      generalize bval (l.take 1) = X at *
      go_enter Tryz.func155, Tryz.ntmps155
      go_wp2_with fail
      refine t.mono ?_
      rintro e w1 ⟨rfl, h1, h2⟩
      clear t
      go_wp2
      go_ret2
      exact ⟨_, by rw [HR.out]; rfl, _, h1, h2, fun x k e => by rw [HP.out] at e; cases e⟩
    · have hp : pBool l = .inr (bval (l.take 1) == 1, 1) := by unfold pBool; rw [if_pos hl, if_neg hx]
      have HR : Hid (rdE (pBool l) 0 = 0) := by show _ = _; rw [hp]; rfl
      have HP := (show Hid _ from hp)
      clear hp h
      generalize bval (l.take 1) = X at *
      have hx' : X ≤ 1 := by omega
      clear hx
      go_enter Tryz.func155, Tryz.ntmps155
      go_wp2_with fail
      refine t.mono ?_
      rintro e w1 ⟨rfl, h1, h2⟩
      clear t
      go_wp2
      go_ret2
      exact ⟨_, by rw [HR.out]; rfl, _, h1, h2, fun x k e => by rw [HP.out] at e; cases e; exact ⟨rfl, rfl⟩⟩
  · have t := raNumS (m := 1) h (by omega)
    have hp : pBool l = .inl 40 := by unfold pBool; rw [if_neg hl]
    have HR : Hid (rdE (pBool l) 0 = 40) := by show _ = _; rw [hp]; rfl
    have HP := (show Hid _ from hp)
    have HH := (show Hid _ from h)
    clear hp h hl
    go_enter Tryz.func155, Tryz.ntmps155
    go_wp2_with fail
    refine t.mono ?_
    rintro e w1 ⟨rfl, rfl⟩
    clear t
    go_wp2
    go_ret2
    exact ⟨_, by rw [HR.out]; rfl, _, HH.out, ⟨rfl, rfl, rfl, Nat.le_refl _, fun _ _ _ => rfl⟩, fun x k e => by rw [HP.out] at e; cases e⟩
end Go.Proofs.YtpoifdokmjhclaaGreat

namespace Go.Proofs.YtpoifdokmjhclaaGreat
open Go.RowKit Lim

set_option maxHeartbeats 2000000 in
set_option maxRecDepth 100000 in
theorem clone_any (ao : Option Addr) (n c b o : Nat) (l : List Int) (w : World) (hl : l.length = n) (hbig : n ≤ 1099511627776) (hnil : ao = none → c = 0) (ha : AtB w ao b o l) :
    Calls Tryz.prog 78 #[.slice ao n c] w fun e w' => ∃ v, e = .returned v ∧ MineB w' w.heap.size v l ∧ Below w.heap.size w w' := by
  obtain ⟨i0, hi, hz0, hz1, hz2⟩ := info_parts info_u8
  have qT : ∀ (w : World) (a : Option Addr) (n c n' c' : Nat), (binOp .eql 29 (.slice a n c) (.slice none n' c')).run Tryz.prog w = .ok (.bool a.isNone) w := fun w a n c n' c' => Lib.run_eql_slice_nil w _ _ a n c n' c' under_bytes
  cases ao with
  | none =>
    have e0 : l = [] := by rcases ha.loc with e | e
                           · exact e
                           · simp at e
    subst e0
    have hn0 : n = 0 := hl.symm
    subst hn0
    have hc0 := hnil rfl
    subst hc0
    have hown : w.ownsRow w.heap.size 5 1 (.slice none 0 0) 0 [] := World.ownsRow_nil _ _ _ _
    go_enter Tryz.func78, Tryz.ntmps78
    go_wp2
    go_ret
    exact ⟨_, rfl, hown, Below.refl _ _⟩
  | some x =>
    have hB := below_alloc w (.cells #[] 5)
    have hown : (w.alloc (.cells #[] 5)).ownsRow w.heap.size 5 1 (.slice (some ⟨w.heap.size, 0, none⟩) 0 0) 0 [] := ⟨rfl, .inr ⟨w.heap.size, 0, #[], rfl, Nat.le_refl _, (box_new w [] 5).blk, Nat.le_refl _, by decide, rfl, rfl⟩⟩
    have hsrc : ∀ j u, (l.map (Value.int .u8))[j]? = some u → (w.alloc (.cells #[] 5)).cell? (x.add j) = some u := by
      intro j u hu
      rw [List.getElem?_map] at hu
      have hj : j < l.length := by
        rcases Nat.lt_or_ge j l.length with hj | hj
        · exact hj
        · rw [List.getElem?_eq_none hj] at hu; simp at hu
      rw [List.getElem?_eq_getElem hj] at hu
      simp at hu
      subst hu
      have hx : x = ⟨b, o, none⟩ := by
        rcases ha.loc with e | e
        · subst e; simp at hj
        · simpa using e
      subst hx
      have := (ha.keep hB).cell j hj
      rw [nth_eq hj] at this
      rw [addr_add]
      exact this
    have HB := (show Hid _ from hB)
    clear hB
    go_enter Tryz.func78, Tryz.ntmps78
    go_wp2_with (at_builtin; refine wpList_append_own _ rfl _ _ 29 rfl w.heap.size 5 i0 (.int .u8 0) 1 1 under_bytes hi hz0 hz1 hz2 rfl (by decide) _ _ _ rfl hown x n c (l.map (Value.int .u8)) rfl (by simp [hl]) ?c1 ?c2 ?c3 ?c4 ?c5 ?_)
    case c1 => exact hsrc
    case c2 => exact ints_oneCell _ _
    case c3 => unfold maxLen; omega
    case c4 => omega
    case c5 => exact HB.out.size
    intro v' w1 hown' hgrow _
    go_wp2
    go_ret
    refine ⟨v', rfl, ?_, HB.out.grown hgrow HB.out.size (own_ge hown)⟩
    unfold MineB
    rw [hl]
    simpa using hown'
theorem cntOf_lt {w : World} {g b m : Nat} {err : Int} {l : List Int} (h : RdA w g b err l) (hm : m ≤ l.length) : ((cntOf m l : Nat) : Int) < 256 ^ m := by
  have := (bval_bound (l := l.take m) (fun x hx => h.oct x (List.mem_of_mem_take hx))).2
  rw [List.length_take, Nat.min_eq_left hm] at this
  rw [cntOf_eq h]
  exact this
end Go.Proofs.YtpoifdokmjhclaaGreat

namespace Go.Proofs.YtpoifdokmjhclaaGreat
open Go.RowKit Lim

theorem mineB_keep {w w' : World} {B : Nat} {v : Value} {l : List Int} (h : MineB w B v l) (hb : Below w.heap.size w w') : MineB w' B v l := by
  obtain ⟨h1, h2⟩ := h
  refine ⟨h1, ?_⟩
  rcases h2 with h2 | ⟨g, cap, cur, h3, h4, h5, h6⟩
  · exact .inl h2
  · refine .inr ⟨g, cap, cur, h3, h4, ?_, h6⟩
    rw [hb.block g (by
      rcases Nat.lt_or_ge g w.heap.size with h | h
      · exact h
      · rw [Array.getElem?_eq_none h] at h5; cases h5)]
    exact h5
end Go.Proofs.YtpoifdokmjhclaaGreat

namespace Go.Proofs.YtpoifdokmjhclaaGreat
open Go.RowKit Lim

theorem pBool_ne {l : List Int} {e0 : Int} (h : pBool l = .inl e0) : e0 ≠ 0 := by
  unfold pBool at h
  repeat' split at h
  all_goals (cases h; try decide)
theorem pNat_ne {l : List Int} {e0 : Int} (h : pNat l = .inl e0) : e0 ≠ 0 := by
  unfold pNat at h
  repeat' split at h
  all_goals (cases h; try decide)
theorem enBo {α : Type} {w : World} {g b : Nat} {err : Int} {l : List Int} {z : α} {p : Int ⊕ α × Nat} {V : α → Value → World → Prop} (h : RdA w g b err l) (hp : ∀ e0, p = .inl e0 → e0 ≠ 0) (hz : ∀ w', V z (.bool false) w')
    (t : err = 0 → Calls Tryz.prog 155 #[.pointer (some ⟨g, 0, none⟩)] w fun e w' => ∃ v, e = .returned (.tuple #[v, .int .i64 (rdE p 0)]) ∧ ∃ l1, RdA w' g b 0 l1 ∧ But g w w' ∧ ∀ x k, p = .inr (x, k) → l1 = l.drop k ∧ V x v w') :
    Calls Tryz.prog 154 #[.pointer (some ⟨g, 0, none⟩), .func (.func 155) #[.pointer (some ⟨g, 0, none⟩)] #[]] w fun e w' => ∃ v, e = .returned v ∧ V (rdV z p err) v w' ∧ RdA w' g b (rdE p err) (rdL p err l) ∧ But g w w' := by
  obtain ⟨ao, n, c, X, A⟩ := h.ex
  by_cases he : err = 0
  · subst he
    match hq : p with
    | .inl e0 =>
      have he0 : e0 ≠ 0 := hp e0 rfl
      have tF : Calls Tryz.prog 155 #[.pointer (some ⟨g, 0, none⟩)] w fun e w' => ∃ v, e = .returned (.tuple #[v, .int .i64 e0]) ∧ ∃ l1, RdA w' g b 0 l1 ∧ But g w w' := (t rfl).mono (by
        rintro e w' ⟨v, e1, l1, h1, h2, -⟩
        exact ⟨v, e1, l1, h1, h2⟩)
      refine (enBoErr he0 X (fun v w1 hQ => by
        obtain ⟨l1, h1, -⟩ := hQ
        obtain ⟨_, _, _, Y, _⟩ := h1.ex
        exact ⟨_, Y⟩) tF).mono ?_
      rintro e w' ⟨e1, v, w1, ⟨l1, h1, h2⟩, rfl⟩
      obtain ⟨_, _, _, Y, _⟩ := h1.ex
      have H := RdA.back e0 X A h2 Y
      exact ⟨_, e1, hz _, H.1, H.2⟩
    | .inr (x, k) =>
      have tF : Calls Tryz.prog 155 #[.pointer (some ⟨g, 0, none⟩)] w fun e w' => ∃ v, e = .returned (.tuple #[v, .int .i64 0]) ∧ (V x v w' ∧ RdA w' g b 0 (l.drop k) ∧ But g w w') := (t rfl).mono (by
        rintro e w' ⟨v, e1, l1, h1, h2, h3⟩
        obtain ⟨h4, h5⟩ := h3 x k rfl
        subst h4
        exact ⟨v, e1, h5, h1, h2⟩)
      exact enBoOk X tF
  · refine (enBoBad X he).mono ?_
    rintro e w' ⟨rfl, rfl⟩
    rw [rdV_bad he, rdE_bad he, rdL_bad he]
    exact ⟨_, rfl, hz _, h, But.refl _ _⟩
theorem enNa {α : Type} {w : World} {g b : Nat} {err : Int} {l : List Int} {z : α} {p : Int ⊕ α × Nat} {V : α → Value → World → Prop} (h : RdA w g b err l) (hp : ∀ e0, p = .inl e0 → e0 ≠ 0) (hz : ∀ w', V z (.slice none 0 0) w')
    (t : err = 0 → Calls Tryz.prog 204 #[.pointer (some ⟨g, 0, none⟩)] w fun e w' => ∃ v, e = .returned (.tuple #[v, .int .i64 (rdE p 0)]) ∧ ∃ l1, RdA w' g b 0 l1 ∧ But g w w' ∧ ∀ x k, p = .inr (x, k) → l1 = l.drop k ∧ V x v w') :
    Calls Tryz.prog 203 #[.pointer (some ⟨g, 0, none⟩), .func (.func 204) #[.pointer (some ⟨g, 0, none⟩)] #[]] w fun e w' => ∃ v, e = .returned v ∧ V (rdV z p err) v w' ∧ RdA w' g b (rdE p err) (rdL p err l) ∧ But g w w' := by
  obtain ⟨ao, n, c, X, A⟩ := h.ex
  by_cases he : err = 0
  · subst he
    match hq : p with
    | .inl e0 =>
      have he0 : e0 ≠ 0 := hp e0 rfl
      have tF : Calls Tryz.prog 204 #[.pointer (some ⟨g, 0, none⟩)] w fun e w' => ∃ v, e = .returned (.tuple #[v, .int .i64 e0]) ∧ ∃ l1, RdA w' g b 0 l1 ∧ But g w w' := (t rfl).mono (by
        rintro e w' ⟨v, e1, l1, h1, h2, -⟩
        exact ⟨v, e1, l1, h1, h2⟩)
      refine (enNaErr he0 X (fun v w1 hQ => by
        obtain ⟨l1, h1, -⟩ := hQ
        obtain ⟨_, _, _, Y, _⟩ := h1.ex
        exact ⟨_, Y⟩) tF).mono ?_
      rintro e w' ⟨e1, v, w1, ⟨l1, h1, h2⟩, rfl⟩
      obtain ⟨_, _, _, Y, _⟩ := h1.ex
      have H := RdA.back e0 X A h2 Y
      exact ⟨_, e1, hz _, H.1, H.2⟩
    | .inr (x, k) =>
      have tF : Calls Tryz.prog 204 #[.pointer (some ⟨g, 0, none⟩)] w fun e w' => ∃ v, e = .returned (.tuple #[v, .int .i64 0]) ∧ (V x v w' ∧ RdA w' g b 0 (l.drop k) ∧ But g w w') := (t rfl).mono (by
        rintro e w' ⟨v, e1, l1, h1, h2, h3⟩
        obtain ⟨h4, h5⟩ := h3 x k rfl
        subst h4
        exact ⟨v, e1, h5, h1, h2⟩)
      exact enNaOk X tF
  · refine (enNaBad X he).mono ?_
    rintro e w' ⟨rfl, rfl⟩
    rw [rdV_bad he, rdE_bad he, rdL_bad he]
    exact ⟨_, rfl, hz _, h, But.refl _ _⟩
theorem pFix_v {w : World} {g b m : Nat} {err : Int} {l : List Int} (h : RdA w g b err l) : 0 ≤ rdV 0 (pFix m l) err ∧ rdV 0 (pFix m l) err < 256 ^ m := by
  have h0 : (0 : Int) < 256 ^ m := Int.pow_pos (by decide)
  unfold rdV pFix
  split
  · split
    · exact ⟨Int.le_refl _, h0⟩
    · rename_i hh
      split at hh
      · cases hh
        have := bval_bound (l := l.take m) (fun x hx => h.oct x (List.mem_of_mem_take hx))
        rw [List.length_take, Nat.min_eq_left (by assumption)] at this
        exact this
      · cases hh
  · exact ⟨Int.le_refl _, h0⟩
set_option maxRecDepth 100000 in
theorem rdU32 {w : World} {g b : Nat} {err : Int} {l : List Int} (h : RdA w g b err l) :
    Calls Tryz.prog 46 #[.pointer (some ⟨g, 0, none⟩)] w fun e w' => e = .returned (.int .u32 (rdV 0 (pFix 4 l) err)) ∧ RdA w' g b (rdE (pFix 4 l) err) (rdL (pFix 4 l) err l) ∧ But g w w' := by
  have t := rdFixed (m := 4) h (by decide)
  obtain ⟨h1, h2⟩ := pFix_v (m := 4) h
  rw [show (256 : Int) ^ 4 = 4294967296 by decide] at h2
  rw [fixV_eq, fixE_eq, fixL_eq] at t
  clear h
  generalize rdV 0 (pFix 4 l) err = V at *
  generalize rdE (pFix 4 l) err = E at *
  generalize rdL (pFix 4 l) err l = R at *
  go_enter Tryz.func46, Tryz.ntmps46
  go_wp2_with fail
  refine t.mono ?_
  rintro e w1 ⟨rfl, k1, k2⟩
  clear t
  go_wp2
  go_ret
  exact ⟨rfl, k1, k2⟩
set_option maxRecDepth 100000 in
theorem rdU64 {w : World} {g b : Nat} {err : Int} {l : List Int} (h : RdA w g b err l) :
    Calls Tryz.prog 48 #[.pointer (some ⟨g, 0, none⟩)] w fun e w' => e = .returned (.int .u64 (rdV 0 (pFix 8 l) err)) ∧ RdA w' g b (rdE (pFix 8 l) err) (rdL (pFix 8 l) err l) ∧ But g w w' := by
  have t := rdFixed (m := 8) h (by decide)
  obtain ⟨h1, h2⟩ := pFix_v (m := 8) h
  rw [show (256 : Int) ^ 8 = 18446744073709551616 by decide] at h2
  rw [fixV_eq, fixE_eq, fixL_eq] at t
  clear h
  generalize rdV 0 (pFix 8 l) err = V at *
  generalize rdE (pFix 8 l) err = E at *
  generalize rdL (pFix 8 l) err l = R at *
  go_enter Tryz.func48, Tryz.ntmps48
  go_wp2_with fail
  refine t.mono ?_
  rintro e w1 ⟨rfl, k1, k2⟩
  clear t
  go_wp2
  go_ret
  exact ⟨rfl, k1, k2⟩
set_option maxRecDepth 100000 in
theorem rdBool {w : World} {g b : Nat} {err : Int} {l : List Int} (h : RdA w g b err l) :
    Calls Tryz.prog 113 #[.pointer (some ⟨g, 0, none⟩)] w fun e w' => e = .returned (.bool (rdV false (pBool l) err)) ∧ RdA w' g b (rdE (pBool l) err) (rdL (pBool l) err l) ∧ But g w w' := by
  have t := enBo (z := false) (p := pBool l) (V := fun x v _ => v = .bool x) h (fun _ => pBool_ne) (fun _ => rfl) (fun e => by subst e; exact raTruth h)
  clear h
  generalize rdV false (pBool l) err = V at *
  generalize rdE (pBool l) err = E at *
  generalize rdL (pBool l) err l = R at *
  go_enter Tryz.func113, Tryz.ntmps113
  go_wp2_with fail
  refine t.mono ?_
  rintro e w1 ⟨v, rfl, rfl, k1, k2⟩
  clear t
  go_wp2
  go_ret
  exact ⟨rfl, k1, k2⟩
theorem Slot.bx {w : World} {g : Nat} {v : Value} {t : TypeId} (s : Slot w g v t) : Box w g [v] t := ⟨s.blk⟩
theorem RdA.put {w : World} {g b G : Nat} {err : Int} {l : List Int} (h : RdA w g b err l) {v u : Value} {t : TypeId} (s : Slot w G v t) (hG : G ≠ g) (hv : ∀ x, v ≠ .int .u8 x) : RdA (w.setCell ⟨G, 0, none⟩ u) g b err l := by
  obtain ⟨ao, n, c, X, A⟩ := h.ex
  refine ⟨ao, n, c, ⟨?_⟩, A.box s.bx (fun v' hv' => by rw [List.mem_singleton] at hv'; subst hv'; exact hv) fun k hk => Below.heap_setCell _ _ _ k hk⟩
  rw [Below.heap_setCell _ _ _ g hG.symm]
  exact X.blk
theorem Slot.but {w w' : World} {g G : Nat} {v : Value} {t : TypeId} (s : Slot w G v t) (h : But g w w') (hG : G ≠ g) : Slot w' G v t := ⟨by
  rw [h.block G s.bx.lt hG]
  exact s.blk⟩
theorem But.put {w w' : World} {g G : Nat} (h : But g w w') (hG : w.heap.size ≤ G) (u : Value) : But g w (w'.setCell ⟨G, 0, none⟩ u) := ⟨h.os, h.tape, h.output, by rw [size_set]; exact h.size, fun k h1 h2 => by rw [Below.heap_setCell _ _ _ k (by show k ≠ G; omega)]; exact h.block k h1 h2⟩
set_option maxRecDepth 100000 in
theorem rdLeft {w : World} {g b : Nat} {err : Int} {l : List Int} (h : RdA w g b err l) :
    Calls Tryz.prog 80 #[.pointer (some ⟨g, 0, none⟩)] w fun e w' => e = .returned (.int .i64 l.length) ∧ w' = w := by
  obtain ⟨ao, n, c, X, A⟩ := h.ex
  obtain ⟨o, h1, -⟩ := A.ex
  subst h1
  obtain ⟨c1, c2, c3, c4⟩ := X.two
  clear X A h
  go_enter Tryz.func80, Tryz.ntmps80
  go_wp2
  go_ret
  exact ⟨rfl, rfl⟩
end Go.Proofs.YtpoifdokmjhclaaGreat

namespace Go.Proofs.YtpoifdokmjhclaaGreat
open Go.RowKit Lim

set_option maxRecDepth 100000 in
theorem rdMeetBad {w : World} {g : Nat} {err e0 : Int} {v : Value} {t : TypeId} (he : err ≠ 0) (X : Box w g [.int .i64 err, v] t) :
    Calls Tryz.prog 81 #[.pointer (some ⟨g, 0, none⟩), .int .i64 e0] w fun e w' => e = .returned (.tuple #[]) ∧ w' = w := by
  have hb : (err == 0) = false := beq_eq_false_iff_ne.2 he
  have t := rdFine X
  rw [hb] at t
  clear he hb X
  go_enter Tryz.func81, Tryz.ntmps81
  go_wp2_with fail
  refine t.mono ?_
  rintro e w' ⟨rfl, rfl⟩
  clear t
  go_wp2
  go_end0
  exact ⟨rfl, rfl⟩
/-- what End tells -/
def endE (err : Int) (l : List Int) : Int := if err = 0 then (if l.length = 0 then 0 else 43) else err
set_option maxRecDepth 100000 in
theorem rdEnd {w : World} {g b : Nat} {err : Int} {l : List Int} (h : RdA w g b err l) (hbig : l.length ≤ 9223372036854775807) :
    Calls Tryz.prog 49 #[.pointer (some ⟨g, 0, none⟩)] w fun e w' => e = .returned (.int .i64 (endE err l)) ∧ RdA w' g b (endE err l) l ∧ But g w w' := by
  have tL := rdLeft h
  obtain ⟨ao, n, c, X, A⟩ := h.ex
  obtain ⟨c1, c2, c3, c4⟩ := X.two
  by_cases hl : l.length = 0
  · have HE : Hid (endE err l = err) := by
      show _ = _
      unfold endE
      by_cases he : err = 0
      · rw [if_pos he, if_pos hl, he]
      · rw [if_neg he]
    have HH := (show Hid _ from h)
    rw [hl] at tL
    clear X A h hl
    go_enter Tryz.func49, Tryz.ntmps49
    go_wp2_with fail
    refine tL.mono ?_
    rintro e w' ⟨rfl, rfl⟩
    clear tL
    go_wp2
    go_ret
    rw [HE.out]
    exact ⟨rfl, HH.out, But.refl _ _⟩
  · have hpos : (0 : Int) < l.length := by omega
    by_cases he : err = 0
    · subst he
      have HE : Hid (endE 0 l = 43) := by show _ = _; unfold endE; rw [if_pos rfl, if_neg hl]
      have HH : Hid (RdA (w.setCell ⟨g, 0, none⟩ (.int .i64 43)) g b 43 l) := ⟨ao, n, c, box_put0 X _, A.box X (no_u8 _ _ _ _) fun k hk => Below.heap_setCell _ _ _ k hk⟩
      have d1 := (box_put0 X (.int .i64 43)).two.1
      have HW : Hid (But g w (w.setCell ⟨g, 0, none⟩ (.int .i64 43))) := ⟨rfl, rfl, rfl, by rw [size_set]; exact Nat.le_refl _, fun k _ h2 => Below.heap_setCell _ _ _ k h2⟩
      have tM := rdMeet (e0 := 43) X
      clear X A h hl
      generalize l.length = L at *
      go_enter Tryz.func49, Tryz.ntmps49
      go_wp2_with fail
      refine tL.mono ?_
      rintro e w' ⟨rfl, rfl⟩
      clear tL
      go_wp2_with fail
      refine tM.mono ?_
      rintro e w1 ⟨rfl, rfl⟩
      clear tM
      go_wp2
      go_ret
      rw [HE.out]
      exact ⟨rfl, HH.out, HW.out⟩
    · have HE : Hid (endE err l = err) := by show _ = _; unfold endE; rw [if_neg he]
      have tM := rdMeetBad (e0 := 43) he X
      have HH := (show Hid _ from h)
      clear X A h hl he
      generalize l.length = L at *
      go_enter Tryz.func49, Tryz.ntmps49
      go_wp2_with fail
      refine tL.mono ?_
      rintro e w' ⟨rfl, rfl⟩
      clear tL
      go_wp2_with fail
      refine tM.mono ?_
      rintro e w1 ⟨rfl, rfl⟩
      clear tM
      go_wp2
      go_ret
      rw [HE.out]
      exact ⟨rfl, HH.out, But.refl _ _⟩
theorem MineB.bya {w : World} {B : Nat} {v : Value} {l : List Int} (h : MineB w B v l) (ho : Octets l) : ∃ b ao c, v = .slice ao l.length c ∧ B ≤ b ∧ ByA w b ao l.length c l := by
  obtain ⟨_, h2⟩ := h
  rcases h2 with ⟨rfl, h0⟩ | ⟨g, cap, cur, rfl, hB, hh, hle, hmx, hsz, htk⟩
  · have e : l = [] := List.eq_nil_of_length_eq_zero h0
    subst e
    exact ⟨B, none, 0, rfl, Nat.le_refl _, 0, rfl, Nat.le_refl _, ⟨by decide, fun _ => rfl⟩, ho, .inl rfl, fun i hi => by simp at hi⟩
  · refine ⟨g, _, _, rfl, hB, 0, rfl, hle, ⟨by unfold maxLen at hmx; omega, fun e => by cases e⟩, ho, .inr rfl, fun i hi => ?_⟩
    simp only [World.cell?, hh]
    have e : cur[0 + i]? = some (.int .u8 (nth l i)) := by
      have h3 : (cur.toList.take (l.length * 1))[i]? = some (.int .u8 (nth l i)) := by
        rw [htk, List.getElem?_map, List.getElem?_eq_getElem hi, nth_eq hi]
        rfl
      rw [List.getElem?_take] at h3
      split at h3
      · rw [Nat.zero_add, ← Array.getElem?_toList]
        exact h3
      · cases h3
    simpa using e
set_option maxRecDepth 100000 in
theorem rdNew {w : World} {b n c : Nat} {ao : Option Addr} {l : List Int} (A : ByA w b ao n c l) (hbig : n ≤ 1099511627776) :
    Calls Tryz.prog 44 #[.slice ao n c] w fun e w' => ∃ g b', e = .returned (.pointer (some ⟨g, 0, none⟩)) ∧ w.heap.size ≤ g ∧ w.heap.size ≤ b' ∧ RdA w' g b' 0 l ∧ Below w.heap.size w w' := by
  obtain ⟨o, h1, h2, h3, h4, h5⟩ := A.ex
  have t := clone_any ao n c b o l w h1 hbig h3.2 h5
  have HO := (show Hid _ from h4)
  clear h1 h2 h3 h4 h5 A
  go_enter Tryz.func44, Tryz.ntmps44
  go_wp2_with fail
  refine t.mono ?_
  rintro e w1 ⟨v, rfl, hM, hB⟩
  obtain ⟨b', ao', c', rfl, hb', hA⟩ := hM.bya HO.out
  have HA := (show Hid _ from hA)
  have HB := (show Hid _ from hB)
  have HBB := (show Hid _ from hb')
  clear t hM hB hA hb'
  go_wp2
  go_ret
  exact ⟨w1.heap.size, b', rfl, HB.out.size, HBB.out, ⟨ao', _, c', box_new w1 [.int .i64 0, .slice ao' l.length c'] _, HA.out.keep (below_alloc _ _)⟩, joinB HB.out (below_alloc _ _)⟩
end Go.Proofs.YtpoifdokmjhclaaGreat

namespace Go.Proofs.YtpoifdokmjhclaaGreat
open Go.RowKit Lim

set_option maxHeartbeats 2000000 in
set_option maxRecDepth 100000 in
theorem wrOutE {w : World} {g : Nat} {err : Int} {L : List Int} (X : WrA w g err L) (he : err ≠ 0) :
    Calls Tryz.prog 34 #[.pointer (some ⟨g, 0, none⟩)] w fun e w' => e = .returned (.tuple #[.slice none 0 0, .int .i64 err]) ∧ Below w.heap.size w w' := by
  obtain ⟨p, ps, lat, u, W0, -⟩ := X.ex
  have t := stFine W0.c0
  have c0 := W0.c0
  rw [beq_eq_false_iff_ne.2 he] at t
  clear X W0 he
  go_enter Tryz.func34, Tryz.ntmps34
  go_wp2_with fail
  refine t.mono ?_
  rintro e w1 ⟨rfl, rfl⟩
  clear t
  go_wp2_with fail
  go_quiet (fail)
  go_wp2
  go_ret2
  exact ⟨rfl, below_drewN (Below.refl _ _) _⟩
theorem ld_int {w : World} {g o : Nat} {x : Int} (c : w.cell? ⟨g, o, none⟩ = some (.int .i64 x)) : (loadVar 3 ⟨g, o, none⟩).run Tryz.prog w = .ok (.int .i64 x) w := by
  go_simp
theorem run_addi {a : Act} {w : World} {o : Oper} (x y : Nat) {X Y : Int} (ho : o.op = .binOp .add 3 (.tmp x) (.tmp y) 3) (hx : a.eval (.tmp x) = .int .i64 X) (hy : a.eval (.tmp y) = .int .i64 Y) (h0 : 0 ≤ X + Y) (h1 : X + Y ≤ 9223372036854775807) : (execOp a.eval o).run Tryz.prog w = .ok (.value (.int .i64 (X + Y))) w := by
  simp only [execOp, ho, hx, hy]
  go_simp
  simp [IntKind.wrap, IntKind.bits, IntKind.signed]
  omega
theorem run_mkB {a : Act} {w : World} {o : Oper} {x N : Nat} {X : Int} (ho : o.op = .makeSlice 29 (.tmp x) (.tmp x)) (hx : a.eval (.tmp x) = .int .i64 X) (hX : X = (N : Int)) (hN : N ≤ 17592186044416) : (execOp a.eval o).run Tryz.prog w = .ok (.value (.slice (some ⟨w.heap.size, 0, none⟩) N N)) (w.alloc (.cells ((List.replicate N 0).map (Value.int .u8)).toArray 5)) := by
  subst hX
  obtain ⟨i, hi, hz, hs, hb⟩ := info_parts info_u8
  have hrun := run_make (P := Tryz.prog) w 29 5 i (.int .u8 0) under_bytes hi hz .i64 .i64 (N : Int) (N : Int) (by omega) (by omega) (by rw [hb]; omega) (by omega)
  simp only [execOp, ho, hx]
  simp [hrun, Result.andThen, hs, made_u8]
set_option maxRecDepth 100000 in
theorem sliceRoomHi (g u : Nat) (h : u ≤ 256) (W : World) : (Instr.sliceAt 78 (.pointer (some ⟨g, 3, none⟩)) none (some (.int .i64 (u : Int))) none).run Tryz.prog W = .ok (.slice (some ⟨g, 3, none⟩) u 256) W := by
  have h1 : (u : Int) ≤ 256 := by omega
  go_simp
set_option maxRecDepth 100000 in
theorem sliceRoomAll (g : Nat) (W : World) : (Instr.sliceAt 78 (.pointer (some ⟨g, 1, none⟩)) none none none).run Tryz.prog W = .ok (.slice (some ⟨g, 1, none⟩) 256 256) W := by
  go_simp
theorem run_sl {a : Act} {w : World} {o : Oper} {T : TypeId} (x : Operand) (lo hi : Option Operand) {v : Value} {X : Value} {lo' hi' : Option Value} (ho : o.op = .slice T x lo hi none) (hx : a.eval x = X) (hlo : lo.map a.eval = lo') (hhi : hi.map a.eval = hi') (h : (Instr.sliceAt T X lo' hi' none).run Tryz.prog w = .ok v w) : (execOp a.eval o).run Tryz.prog w = .ok (.value v) w := by
  subst hx
  subst hlo
  subst hhi
  simp only [execOp, ho, Option.map_none]
  simp [h, Result.andThen]
theorem run_cp {a : Act} {w : World} {o : Oper} (d s : Nat) (ho : o.op = .call { callee := .builtin .copy, args := #[.tmp d, .tmp s], argTypes := #[29, 29] })
    {g off dLen dCap sLen sCap : Nat} {ad : Addr} (hd : a.eval (.tmp d) = .slice (some ⟨g, off, none⟩) dLen dCap) (hs : a.eval (.tmp s) = .slice (some ad) sLen sCap)
    {cur : List Value} {t : TypeId} (hg : Box w g cur t) (cs : List Value) (m : Nat) (hm : cs.length = m) (hn : m = Nat.min sLen dLen)
    (hsrc : ∀ j v, cs[j]? = some v → w.cell? (ad.add j) = some v) (hfit : off + m ≤ cur.length) (h1 : ∀ v ∈ cs, v.oneCell' = true) :
    (execOp a.eval o).run Tryz.prog w = .ok (.value (.int .i64 (m : Int))) (w.setRow g (splice cur off cs).toArray) := by
  subst hm
  have hrun := run_copy_row (P := Tryz.prog) w 29 29 o.type 5 g off dLen dCap ad sLen sCap cur.toArray t cs under_bytes info_e1 hg.blk hn hsrc (by simpa using hfit) h1
  simp [execOp, ho, resolve, invoke, builtin, hd, hs, hrun, Result.andThen, splice, goInt]
set_option maxHeartbeats 2000000 in
set_option maxRecDepth 100000 in
theorem wrOut {w : World} {g : Nat} {L : List Int} (X : WrA w g 0 L) (hbig : L.length ≤ 17592186044416) :
    Calls Tryz.prog 34 #[.pointer (some ⟨g, 0, none⟩)] w fun e w' => e = .returned (.tuple #[.slice (some ⟨w.heap.size, 0, none⟩) L.length L.length, .int .i64 0]) ∧ Box w' w.heap.size (L.map (Value.int .u8)) 5 ∧ Below w.heap.size w w' := by
  obtain ⟨p, ps, lat, u, W0, P0, hu, hL⟩ := X.ex
  have t := stFine W0.c0
  have hlen : L.length = ps.length + u := by rw [hL, List.length_append, List.length_take, W0.len]; omega
  obtain ⟨N, hN⟩ : ∃ N, N = L.length := ⟨_, rfl⟩
  rw [← hN] at hlen hbig ⊢
  have HL := (show Hid _ from hL)
  have HP := (show Hid _ from P0)
  have HN := (show Hid _ from hN)
  have HH := (show Hid _ from hlen)
  have hps : ps.length ≤ 17592186044416 := by omega
  clear X hL P0 hN hlen
  go_enter Tryz.func34, Tryz.ntmps34
  go_wp2_with fail
  refine t.mono ?_
  rintro e w1 ⟨rfl, rfl⟩
  clear t
  go_wp2_with fail
  have W1 : WBox w1.drew g 0 p (ps.length : Int) lat (u : Int) := ⟨W0.len, W0.blk⟩
  refine rg_start (S := fun w' => WBox w' g 0 p (ps.length : Int) lat (u : Int)) (by kernel_rfl) W1 ?_
  refine rg_take 0 (some 17) (.pointer (some ⟨g, 0, none⟩)) (by kernel_rfl) (fun _ _ => by kernel_rfl) (fun _ _ _ h => h) W1 ?_
  refine rg_take 1 (some 18) (.pointer (some ⟨g, 0, none⟩)) (by kernel_rfl) (fun _ _ => by kernel_rfl) (fun _ _ _ h => h) W1 ?_
  refine rg_take 2 (some 19) (.pointer (some ⟨g, 2, none⟩)) (by kernel_rfl) (fun _ _ => by kernel_rfl) (fun _ _ _ h => h) W1 ?_
  refine rg_load 3 (some 20) (.int .i64 (ps.length : Int)) 3 19 g 2 (by kernel_rfl) (by kernel_rfl) (by kernel_rfl) (fun w' h => ld_int h.c2) (fun _ _ _ h => h) W1 ?_
  refine rg_take 4 (some 21) (.pointer (some ⟨g, 0, none⟩)) (by kernel_rfl) (fun _ _ => by kernel_rfl) (fun _ _ _ h => h) W1 ?_
  refine rg_take 5 (some 22) (.pointer (some ⟨g, 0, none⟩)) (by kernel_rfl) (fun _ _ => by kernel_rfl) (fun _ _ _ h => h) W1 ?_
  refine rg_take 6 (some 23) (.pointer (some ⟨g, 259, none⟩)) (by kernel_rfl) (fun _ _ => by kernel_rfl) (fun _ _ _ h => h) W1 ?_
  refine rg_load 7 (some 24) (.int .i64 (u : Int)) 3 23 g 259 (by kernel_rfl) (by kernel_rfl) (by kernel_rfl) (fun w' h => ld_int h.cu) (fun _ _ _ h => h) W1 ?_
  refine rg_take 8 (some 25) (.int .i64 ((ps.length : Int) + (u : Int))) (by kernel_rfl) (fun _ _ => run_addi 20 24 (by kernel_rfl) (by kernel_rfl) (by kernel_rfl) (by omega) (by omega)) (fun _ _ _ h => h) W1 ?_
  refine rg_ready [9] (by kernel_rfl) (by simp) ?_
  have W2 : WBox (w1.drew.alloc (.cells ((List.replicate N 0).map (Value.int .u8)).toArray 5)) g 0 p (ps.length : Int) lat (u : Int) := W1.keep (below_alloc _ _)
  refine ar_val 9 (some 26) (.slice (some ⟨w1.heap.size, 0, none⟩) N N) (w1.drew.alloc (.cells ((List.replicate N 0).map (Value.int .u8)).toArray 5)) (by kernel_rfl) (run_mkB (x := 25) (N := N) (X := (ps.length : Int) + (u : Int)) (by kernel_rfl) (by kernel_rfl) (by have := HH.out; omega) hbig) W2 ?_ ar_nil
  refine rg_take 10 (some 4) (.slice (some ⟨w1.heap.size, 0, none⟩) N N) (by kernel_rfl) (fun _ _ => by kernel_rfl) (fun _ _ _ h => h) W2 ?_
  refine rg_done (by kernel_rfl) ?_
  try simp only [Act.put, List.setIfInBounds_toArray, List.set_cons_zero, List.set_cons_succ]
  have hg := W0.lt
  have B0 : Box (w1.drew.alloc (.cells ((List.replicate N 0).map (Value.int .u8)).toArray 5)) w1.heap.size ((List.replicate N 0).map (Value.int .u8)) 5 := box_new w1.drew _ _
  have HB0 : Hid (Below w1.heap.size w1 (w1.drew.alloc (.cells ((List.replicate N 0).map (Value.int .u8)).toArray 5))) := (Below.refl w1.heap.size w1).drew.trans (below_alloc w1.drew _)
  clear W1
  generalize w1.drew.alloc (.cells ((List.replicate N 0).map (Value.int .u8)).toArray 5) = V at *
  have HW0 := (show Hid _ from W0)
  clear W0
  have c2 := W2.c2
  have cu := W2.cu
  obtain ⟨off, hoff⟩ : ∃ off, off = if u = 0 then 0 else ps.length := ⟨_, rfl⟩
  have hs1 : ∀ W, (Instr.sliceAt 29 (.slice (some ⟨w1.heap.size, 0, none⟩) N N) (some (.int .i64 (ps.length : Int))) none none).run Tryz.prog W = .ok (.slice (some ⟨w1.heap.size, off, none⟩) u u) W := fun W => by
    have hh := HH.out
    rw [sliceB _ N N ps.length W (by omega) (Nat.le_refl _), show N - ps.length = u by omega, hoff]
    unfold restAt
    by_cases hu0 : u = 0
    · rw [if_pos (by omega), if_pos hu0]
    · rw [if_neg (by omega), if_neg hu0]
      show Result.ok (Value.slice (some ((⟨w1.heap.size, 0, none⟩ : Addr).add ps.length)) u u) W = _
      rw [addr_add, Nat.zero_add]
  have hs2 := sliceRoomHi g u (by omega)
  have HSP : Hid (splice ((List.replicate N (0 : Int)).map (Value.int .u8)) off ((lat.take u).map (Value.int .u8)) = (List.replicate ps.length 0 ++ lat.take u).map (Value.int .u8)) := by
    have hh := HH.out
    have hl := W2.len
    show _ = _
    unfold splice
    by_cases hu0 : u = 0
    · rw [hoff, if_pos hu0]
      subst hu0
      simp
      omega
    · rw [hoff, if_neg hu0, List.length_map, List.length_take, hl]
      rw [List.drop_eq_nil_of_le (by simp; omega)]
      simp
      omega
  have HOF := (show Hid _ from hoff)
  have HLN := (show Hid _ from W2.len)
  clear hoff
  go_wp2_with fail
  have W3 : WBox V.drew g 0 p (ps.length : Int) lat (u : Int) := ⟨W2.len, W2.blk⟩
  refine rg_start (S := fun w' => WBox w' g 0 p (ps.length : Int) lat (u : Int)) (by kernel_rfl) W3 ?_
  refine rg_take 0 (some 27) (.slice (some ⟨w1.heap.size, 0, none⟩) N N) (by kernel_rfl) (fun _ _ => by kernel_rfl) (fun _ _ _ h => h) W3 ?_
  refine rg_take 1 (some 28) (.pointer (some ⟨g, 0, none⟩)) (by kernel_rfl) (fun _ _ => by kernel_rfl) (fun _ _ _ h => h) W3 ?_
  refine rg_take 2 (some 29) (.pointer (some ⟨g, 0, none⟩)) (by kernel_rfl) (fun _ _ => by kernel_rfl) (fun _ _ _ h => h) W3 ?_
  refine rg_take 3 (some 30) (.pointer (some ⟨g, 2, none⟩)) (by kernel_rfl) (fun _ _ => by kernel_rfl) (fun _ _ _ h => h) W3 ?_
  refine rg_load 4 (some 31) (.int .i64 (ps.length : Int)) 3 30 g 2 (by kernel_rfl) (by kernel_rfl) (by kernel_rfl) (fun w' h => ld_int h.c2) (fun _ _ _ h => h) W3 ?_
  refine rg_take 5 (some 32) (.slice (some ⟨w1.heap.size, off, none⟩) u u) (by kernel_rfl) (fun w' _ => run_sl (.tmp 27) (some (.tmp 31)) none (by kernel_rfl) (by kernel_rfl) (by kernel_rfl) (by kernel_rfl) (hs1 w')) (fun _ _ _ h => h) W3 ?_
  refine rg_take 6 (some 33) (.pointer (some ⟨g, 0, none⟩)) (by kernel_rfl) (fun _ _ => by kernel_rfl) (fun _ _ _ h => h) W3 ?_
  refine rg_take 7 (some 34) (.pointer (some ⟨g, 0, none⟩)) (by kernel_rfl) (fun _ _ => by kernel_rfl) (fun _ _ _ h => h) W3 ?_
  refine rg_take 8 (some 35) (.pointer (some ⟨g, 3, none⟩)) (by kernel_rfl) (fun _ _ => by kernel_rfl) (fun _ _ _ h => h) W3 ?_
  refine rg_take 9 (some 36) (.pointer (some ⟨g, 0, none⟩)) (by kernel_rfl) (fun _ _ => by kernel_rfl) (fun _ _ _ h => h) W3 ?_
  refine rg_take 10 (some 37) (.pointer (some ⟨g, 0, none⟩)) (by kernel_rfl) (fun _ _ => by kernel_rfl) (fun _ _ _ h => h) W3 ?_
  refine rg_take 11 (some 38) (.pointer (some ⟨g, 259, none⟩)) (by kernel_rfl) (fun _ _ => by kernel_rfl) (fun _ _ _ h => h) W3 ?_
  refine rg_load 12 (some 39) (.int .i64 (u : Int)) 3 38 g 259 (by kernel_rfl) (by kernel_rfl) (by kernel_rfl) (fun w' h => ld_int h.cu) (fun _ _ _ h => h) W3 ?_
  refine rg_take 13 (some 40) (.slice (some ⟨g, 3, none⟩) u 256) (by kernel_rfl) (fun w' _ => run_sl (.tmp 35) none (some (.tmp 39)) (by kernel_rfl) (by kernel_rfl) (by kernel_rfl) (by kernel_rfl) (hs2 w')) (fun _ _ _ h => h) W3 ?_
  refine rg_ready [14] (by kernel_rfl) (by simp) ?_
  have W4 : WBox (V.drew.setRow w1.heap.size (splice ((List.replicate N (0 : Int)).map (Value.int .u8)) off ((lat.take u).map (Value.int .u8))).toArray) g 0 p (ps.length : Int) lat (u : Int) := W3.off (g' := w1.heap.size) (by omega) (fun k hk => setRow_other _ _ k _ hk)
  refine ar_val 14 (some 41) (.int .i64 (u : Int)) (V.drew.setRow w1.heap.size (splice ((List.replicate N (0 : Int)).map (Value.int .u8)) off ((lat.take u).map (Value.int .u8))).toArray) (by kernel_rfl) (run_cp 32 40 (by kernel_rfl) (g := w1.heap.size) (off := off) (dLen := u) (dCap := u) (sLen := u) (sCap := 256) (ad := ⟨g, 3, none⟩) (by kernel_rfl) (by kernel_rfl) B0.drew ((lat.take u).map (Value.int .u8)) u (by have := HLN.out; simp; omega) (Nat.min_self u).symm (fun j v hj => by
    obtain ⟨h1, h2⟩ := List.getElem?_eq_some_iff.1 hj
    rw [List.length_map, List.length_take] at h1
    rw [addr_add, ← h2, List.getElem_map, List.getElem_take, ← nth_eq (l := lat) (by omega)]
    exact W3.cl j (by omega)) (by have := HH.out; have := HOF.out; rw [List.length_map, List.length_replicate, this]; split <;> omega) (ints_oneCell _ _)) W4 ?_ ar_nil
  refine rg_done (by kernel_rfl) ?_
  try simp only [Act.put, List.setIfInBounds_toArray, List.set_cons_zero, List.set_cons_succ]
  have B4 : Box (V.drew.setRow w1.heap.size (splice ((List.replicate N (0 : Int)).map (Value.int .u8)) off ((lat.take u).map (Value.int .u8))).toArray) w1.heap.size ((List.replicate ps.length 0 ++ lat.take u).map (Value.int .u8)) 5 := by
    have := B0.drew.row (ds := splice ((List.replicate N (0 : Int)).map (Value.int .u8)) off ((lat.take u).map (Value.int .u8)))
    rw [HSP.out] at this ⊢
    exact this
  have HB4 : Hid (Below w1.heap.size w1 (V.drew.setRow w1.heap.size (splice ((List.replicate N (0 : Int)).map (Value.int .u8)) off ((lat.take u).map (Value.int .u8))).toArray)) := below_row HB0.out.drew (Nat.le_refl _) _
  generalize V.drew.setRow w1.heap.size (splice ((List.replicate N (0 : Int)).map (Value.int .u8)) off ((lat.take u).map (Value.int .u8))).toArray = w4 at *
  have HBX := (show Hid _ from B4)
  clear c2 cu hs1 hs2 B0 W2 W3 B4
  have c2 := W4.c2
  have c1 := W4.c1
  go_wp2_with fail
  go_loopw [5, 6] (fun ta tp wr => ∃ q rest fin, tp = .pointer q ∧ Hid (Pc w1 q rest) ∧ Hid (L = rest ++ fin) ∧ ta = .int .i64 (rest.length : Int) ∧ Hid (Box wr w1.heap.size ((List.replicate rest.length 0 ++ fin).map (Value.int .u8)) 5) ∧ Hid (Below w1.heap.size w1 wr)) (fun ta _ _ => (intOf ta).toNat)
  case atStart => exact ⟨p, ps, lat.take u, rfl, HP.out, HL.out, rfl, HBX.out, HB4.out⟩
  case round =>
    clear c2 c1 W4 HBX HB4 HW0 HSP HOF
    obtain ⟨q, rest, fin, rfl, hP, hE, rfl, hB, hBe⟩ := hrel
    have hP' := hP.out
    induction hP' using Pc.ind with
    | nil =>
      have HF : Hid (Box wr w1.heap.size (L.map (Value.int .u8)) 5) := by rw [hE.out]; exact hB.out
      go_wp2
      go_ret2
      exact ⟨rfl, HF.out, hBe.out⟩
    | cons hb hbl hp2 ih0=>
      clear ih0
      rename_i b p' ps' bs
      have hbw := hb.keep (hBe.out.mono (Nat.le_refl _))
      have e256 : (((ps' ++ bs).length : Nat) : Int) = (ps'.length : Int) + 256 := by rw [List.length_append, hbl]; rfl
      have hN : ps'.length + 256 + fin.length = N := by rw [HN.out, hE.out, List.length_append, List.length_append, hbl]
      rw [e256]
      have hs1 : ∀ W, (Instr.sliceAt 29 (.slice (some ⟨w1.heap.size, 0, none⟩) N N) (some (.int .i64 (ps'.length : Int))) none none).run Tryz.prog W = .ok (.slice (some ⟨w1.heap.size, ps'.length, none⟩) (N - ps'.length) (N - ps'.length)) W := fun W => by
        rw [sliceB _ N N ps'.length W (by omega) (Nat.le_refl _)]
        unfold restAt
        rw [if_neg (by omega)]
        show Result.ok (Value.slice (some ((⟨w1.heap.size, 0, none⟩ : Addr).add ps'.length)) _ _) W = _
        rw [addr_add, Nat.zero_add]
      have hs2 := sliceRoomAll b
      have HSQ : Hid (splice ((List.replicate (ps' ++ bs).length (0 : Int) ++ fin).map (Value.int .u8)) ps'.length (bs.map (Value.int .u8)) = (List.replicate ps'.length 0 ++ (bs ++ fin)).map (Value.int .u8)) := by
        show _ = _
        unfold splice
        rw [List.length_map, hbl, List.length_append, hbl, ← List.map_take, ← List.map_drop, List.take_append_of_le_length (by simp), List.drop_append_of_le_length (by simp), List.drop_eq_nil_of_le (by simp), List.take_replicate, Nat.min_eq_left (by omega)]
        simp
      have HLE : Hid (L = ps' ++ (bs ++ fin)) := by show _ = _; rw [hE.out, List.append_assoc]
      have HH2 := (show Hid _ from hN)
      have Hb := (show Hid _ from hbl)
      clear hN hbl e256
      have hpl : ps'.length ≤ 17592186044416 := by have := HH2.out; omega
      go_wp2_with fail
      refine rg_start (S := fun _ => True) (by kernel_rfl) trivial ?_
      refine rg_take 0 (some 58) (.slice (some ⟨w1.heap.size, 0, none⟩) N N) (by kernel_rfl) (fun _ _ => by kernel_rfl) (fun _ _ _ h => h) trivial ?_
      refine rg_take 1 (some 59) (.int .i64 (ps'.length : Int)) (by kernel_rfl) (fun _ _ => by kernel_rfl) (fun _ _ _ h => h) trivial ?_
      refine rg_take 2 (some 60) (.slice (some ⟨w1.heap.size, ps'.length, none⟩) (N - ps'.length) (N - ps'.length)) (by kernel_rfl) (fun w' _ => run_sl (.tmp 58) (some (.tmp 59)) none (by kernel_rfl) (by kernel_rfl) (by kernel_rfl) (by kernel_rfl) (hs1 w')) (fun _ _ _ h => h) trivial ?_
      refine rg_take 3 (some 61) (.pointer (some ⟨b, 0, none⟩)) (by kernel_rfl) (fun _ _ => by kernel_rfl) (fun _ _ _ h => h) trivial ?_
      refine rg_take 4 (some 62) (.pointer (some ⟨b, 0, none⟩)) (by kernel_rfl) (fun _ _ => by kernel_rfl) (fun _ _ _ h => h) trivial ?_
      refine rg_take 5 (some 63) (.pointer (some ⟨b, 1, none⟩)) (by kernel_rfl) (fun _ _ => by kernel_rfl) (fun _ _ _ h => h) trivial ?_
      refine rg_take 6 (some 64) (.slice (some ⟨b, 1, none⟩) 256 256) (by kernel_rfl) (fun w' _ => run_sl (.tmp 63) none none (by kernel_rfl) (by kernel_rfl) (by kernel_rfl) (by kernel_rfl) (hs2 w')) (fun _ _ _ h => h) trivial ?_
      refine rg_ready [7] (by kernel_rfl) (by simp) ?_
      have hbb : b ≠ w1.heap.size := by have := hb.lt; omega
      refine ar_val 7 (some 65) (.int .i64 ((256 : Nat) : Int)) (wr.drew.setRow w1.heap.size (splice ((List.replicate (ps' ++ bs).length (0 : Int) ++ fin).map (Value.int .u8)) ps'.length (bs.map (Value.int .u8))).toArray) (by kernel_rfl) (run_cp 60 64 (by kernel_rfl) (g := w1.heap.size) (off := ps'.length) (dLen := N - ps'.length) (dCap := N - ps'.length) (sLen := 256) (sCap := 256) (ad := ⟨b, 1, none⟩) (by kernel_rfl) (by kernel_rfl) hB.out.drew (bs.map (Value.int .u8)) 256 (by rw [List.length_map]; exact Hb.out) (Nat.min_eq_left (by have := HH2.out; omega)).symm (fun j v hj => by
        obtain ⟨h1, h2⟩ := List.getElem?_eq_some_iff.1 hj
        have h3 := hbw.drew.blk
        rw [addr_add, Nat.add_comm 1 j]
        simp only [World.cell?, h3]
        simpa using hj) (by have := Hb.out; simp; omega) (ints_oneCell _ _)) trivial ?_ ar_nil
      refine rg_done (by kernel_rfl) ?_
      try simp only [Act.put, List.setIfInBounds_toArray, List.set_cons_zero, List.set_cons_succ]
      have B5 : Hid (Box (wr.drew.setRow w1.heap.size (splice ((List.replicate (ps' ++ bs).length (0 : Int) ++ fin).map (Value.int .u8)) ps'.length (bs.map (Value.int .u8))).toArray) w1.heap.size ((List.replicate ps'.length 0 ++ (bs ++ fin)).map (Value.int .u8)) 5) := by
        have := hB.out.drew.row (ds := splice ((List.replicate (ps' ++ bs).length (0 : Int) ++ fin).map (Value.int .u8)) ps'.length (bs.map (Value.int .u8)))
        rw [HSQ.out] at this ⊢
        exact this
      have HB5 : Hid (Below w1.heap.size w1 (wr.drew.setRow w1.heap.size (splice ((List.replicate (ps' ++ bs).length (0 : Int) ++ fin).map (Value.int .u8)) ps'.length (bs.map (Value.int .u8))).toArray)) := below_row hBe.out.drew (Nat.le_refl _) _
      have X5 := hbw.drew.off (g' := w1.heap.size) hbb (fun k hk => setRow_other wr.drew w1.heap.size k (splice ((List.replicate (ps' ++ bs).length (0 : Int) ++ fin).map (Value.int .u8)) ps'.length (bs.map (Value.int .u8))).toArray hk)
      clear hs1 hs2 hbw HSQ
      generalize (wr.drew.setRow w1.heap.size (splice ((List.replicate (ps' ++ bs).length (0 : Int) ++ fin).map (Value.int .u8)) ps'.length (bs.map (Value.int .u8))).toArray) = w5 at *
      have cb : w5.cell? ⟨b, 0, none⟩ = some (.pointer p') := by
        have := X5.blk
        simp [World.cell?, this]
      have HP2 := (show Hid _ from hp2)
      clear X5 hb hp2
      go_wp2
      go_roundw
      case rel => exact ⟨p', ps', bs ++ fin, rfl, HP2.out, HLE.out, rfl, B5.out, HB5.out⟩
      case measure => simp [intOf]; omega
end Go.Proofs.YtpoifdokmjhclaaGreat

namespace Go.Proofs.YtpoifdokmjhclaaGreat
open Go.RowKit Lim

set_option maxRecDepth 100000 in
theorem zero_writer : Tryz.zeroCells80 = (wcells 0 none 0 (List.replicate 256 0) 0).toArray := by kernel_rfl
theorem wrNew (w : World) : WrA (w.alloc (.cells Tryz.zeroCells80 80)) w.heap.size 0 [] := by
  rw [zero_writer]
  exact ⟨none, [], List.replicate 256 0, 0, ⟨by rw [List.length_replicate], ⟨_, by decide, (box_new w _ _).blk⟩⟩, .nil, by decide, by simp⟩
theorem Box.atB {w : World} {g : Nat} {l : List Int} {t : TypeId} (h : Box w g (l.map (Value.int .u8)) t) : AtB w (some ⟨g, 0, none⟩) g 0 l := ⟨.inr rfl, fun i hi => by rw [Nat.zero_add]; exact h.bytes hi⟩
theorem ByA.butN {w w' : World} {b g n c : Nat} {ao : Option Addr} {l : List Int} (h : ByA w b ao n c l) (hb : b ≠ g) (hB : But g w w') : ByA w' b ao n c l := by
  obtain ⟨o, h1, h2, h3, h4, h5⟩ := h.ex
  exact ⟨o, h1, h2, h3, h4, h5.loc, fun i hi => hB.cell (h5.cell i hi) hb⟩
theorem RdA.offW {w w' : World} {g g' b : Nat} {err : Int} {l : List Int} (h : RdA w g b err l) (hne : g ≠ g') (hb : b ≠ g') (hB : But g' w w') : RdA w' g b err l := by
  obtain ⟨ao, n, c, X, A⟩ := h.ex
  exact ⟨ao, n, c, ⟨by rw [hB.block g X.lt hne]; exact X.blk⟩, A.butN hb hB⟩
theorem Pc.off2 {w w' : World} {p : Option Addr} {ps : List Int} (h : Pc w p ps) {g : Nat} {cs : List Value} {t : TypeId} (ht : t ≠ 124) (X : Box w g cs t) (hw : ∀ k, k < w.heap.size → k ≠ g → w'.heap[k]? = w.heap[k]?) : Pc w' p ps := by
  induction h using Pc.ind with
  | nil => exact .nil
  | cons hb hl _ ih =>
    refine .cons ⟨?_⟩ hl ih
    rw [hw _ hb.lt (fun e => by
      subst e
      have h1 := hb.blk
      rw [X.blk] at h1
      simp at h1
      exact ht h1.2)]
    exact hb.blk
theorem natB_unique {V : Int} {l : List Int} (hV : 0 ≤ V) (h : IsB l V) : natB V = l := isB_unique (natB_is hV) h
theorem natB_0 : natB 0 = [] := natB_unique (by decide) ⟨fun x hx => by simp at hx, fun h => absurd rfl h, rfl⟩
theorem bSame {w : World} {b0 b1 n0 c0 n1 c1 : Nat} {a0 a1 : Option Addr} {l l' : List Int} (h0 : ByA w b0 a0 n0 c0 l) (h1 : ByA w b1 a1 n1 c1 l') (hn0 : n0 ≤ 4398046511104) (hn1 : n1 ≤ 4398046511104) :
    Calls Tryz.prog 10 #[.slice a0 n0 c0, .slice a1 n1 c1] w fun e w' => e = .returned (.bool (eqB l l')) ∧ Below w.heap.size w w' := by
  obtain ⟨o0, e0, _, _, _, A0⟩ := h0.ex
  obtain ⟨o1, e1, _, _, _, A1⟩ := h1.ex
  exact helpBytes a0 n0 c0 b0 o0 a1 n1 c1 b1 o1 l l' w e0 e1 hn0 hn1 A0 A1
theorem rdNew2 {w : World} {b n c : Nat} {ao : Option Addr} {l : List Int} (A : ByA w b ao n c l) (hbig : n ≤ 1099511627776) :
    Calls Tryz.prog 44 #[.slice ao n c] w fun e w' => ∃ g b', e = .returned (.pointer (some ⟨g, 0, none⟩)) ∧ (w.heap.size ≤ g ∧ w.heap.size ≤ b' ∧ b' < w'.heap.size) ∧ RdA w' g b' 0 l ∧ Below w.heap.size w w' := by
  refine (rdNew A hbig).mono ?_
  rintro e w' ⟨g, b', e1, h1, h2, R, hB⟩
  obtain ⟨ao', n', c', X, A'⟩ := R.ex
  obtain ⟨o, k1, k2, k3, k4, k5⟩ := A'.ex
  rcases k5.lt with e | e
  · subst e
    exact ⟨g, g, e1, ⟨h1, h1, X.lt⟩, ⟨ao', n', c', X, o, k1, k2, k3, k4, .inl rfl, fun i hi => by simp at hi⟩, hB⟩
  · exact ⟨g, b', e1, ⟨h1, h2, e⟩, R, hB⟩
end Go.Proofs.YtpoifdokmjhclaaGreat

namespace Go.Proofs.YtpoifdokmjhclaaGreat
open Go.RowKit Lim

end Go.Proofs.YtpoifdokmjhclaaGreat

namespace Go.Proofs.YtpoifdokmjhclaaGreat
open Go.RowKit Lim

/-- a step of a script: its five cells, and what lies behind its two lists -/
structure Stp where
  what : Int
  num : Int
  na : Option Addr
  nn : Nat
  nc : Nat
  V : Int
  ba : Option Addr
  bn : Nat
  bc : Nat
  bb : Nat
  bl : List Int
  most : Int
end Go.Proofs.YtpoifdokmjhclaaGreat

namespace Go.Proofs.YtpoifdokmjhclaaGreat
open Go.RowKit Lim

theorem be_bval {l : List Int} (h : Octets l) : be l.length (bval l) = l := by
  refine bval_inj (be_oct _ _) h (be_length _ _) ?_
  have hb := bval_bound h
  rw [be_val _ hb.1, Int.emod_eq_of_lt hb.1 hb.2]
theorem be_take {l : List Int} (h : Octets l) {m : Nat} (hm : m ≤ l.length) : be m (bval (l.take m)) = l.take m := by
  have := be_bval (l := l.take m) (fun x hx => h x (List.mem_of_mem_take hx))
  rwa [List.length_take, Nat.min_eq_left hm] at this
/-- a part was read of L: with an error nothing is taken; without one, what is laid again is what was taken -/
def One (err' : Int) (L L' : List Int) (laid : List Int → Prop) : Prop := (err' ≠ 0 ∧ L' = L) ∨ (err' = 0 ∧ ∃ k, k ≤ L.length ∧ laid (L.take k) ∧ L' = L.drop k)
theorem one_fix {L : List Int} (h : Octets L) (m : Nat) : One (rdE (pFix m L) 0) L (rdL (pFix m L) 0 L) (fun t => be m (rdV 0 (pFix m L) 0) = t) := by
  by_cases hm : m ≤ L.length
  · have e : pFix m L = .inr (bval (L.take m), m) := by unfold pFix; rw [if_pos hm]
    rw [e]
    exact .inr ⟨rfl, m, hm, be_take h hm, rfl⟩
  · have e : pFix m L = .inl 40 := by unfold pFix; rw [if_neg hm]
    rw [e]
    exact .inl ⟨by decide, rfl⟩
theorem one_bool {L : List Int} (h : Octets L) : One (rdE (pBool L) 0) L (rdL (pBool L) 0 L) (fun t => be 1 (if rdV false (pBool L) 0 then 1 else 0) = t) := by
  by_cases hm : 1 ≤ L.length
  · by_cases hx : 1 < bval (L.take 1)
    · have e : pBool L = .inl 41 := by unfold pBool; rw [if_pos hm, if_pos hx]
      rw [e]
      exact .inl ⟨by decide, rfl⟩
    · have e : pBool L = .inr (bval (L.take 1) == 1, 1) := by unfold pBool; rw [if_pos hm, if_neg hx]
      rw [e]
      refine .inr ⟨rfl, 1, hm, ?_, rfl⟩
      have hbt := be_take h hm
      have h0 := (bval_bound (l := L.take 1) (fun x hx => h x (List.mem_of_mem_take hx))).1
      show be 1 (if (bval (L.take 1) == 1) = true then 1 else 0) = L.take 1
      generalize L.take 1 = M at *
      by_cases h1 : bval M = 1
      · rw [h1] at hbt ⊢
        exact hbt
      · rw [show bval M = 0 by omega] at hbt ⊢
        exact hbt
  · have e : pBool L = .inl 40 := by unfold pBool; rw [if_neg hm]
    rw [e]
    exact .inl ⟨by decide, rfl⟩
theorem cntOf_nn {m : Nat} {L : List Int} (h : Octets L) : ((cntOf m L : Nat) : Int) = bval (L.take m) := by
  unfold cntOf
  rw [Int.toNat_of_nonneg (bval_bound (fun x hx => h x (List.mem_of_mem_take hx))).1]
theorem cnt_lay {m : Nat} {L : List Int} (h : Octets L) (hm : m ≤ L.length) (hc : m + cntOf m L ≤ L.length) : cntd m ((L.drop m).take (cntOf m L)) = L.take (m + cntOf m L) := by
  unfold cntd
  have e : (((L.drop m).take (cntOf m L)).length : Int) = bval (L.take m) := by
    rw [List.length_take, List.length_drop, Nat.min_eq_left (by omega)]
    exact cntOf_nn h
  rw [e, be_take h hm, List.take_add]
theorem one_nat {L : List Int} (h : Octets L) : One (rdE (pNat L) 0) L (rdL (pNat L) 0 L) (fun t => natE (rdV 0 (pNat L) 0) 0 = 0 ∧ ∀ K, natL (rdV 0 (pNat L) 0) 0 K = K ++ t) := by
  by_cases hm : 1 ≤ L.length
  · by_cases hc : 1 + cntOf 1 L ≤ L.length
    · by_cases hz : 0 < cntOf 1 L ∧ nth (L.drop 1) 0 = 0
      · have e : pNat L = .inl 41 := by unfold pNat; rw [if_pos hm, if_pos hc, if_pos hz]
        rw [e]
        exact .inl ⟨by decide, rfl⟩
      · have e : pNat L = .inr (bval ((L.drop 1).take (cntOf 1 L)), 1 + cntOf 1 L) := by unfold pNat; rw [if_pos hm, if_pos hc, if_neg hz]
        have hcl := cnt_lay h hm hc
        have hlt : ((cntOf 1 L : Nat) : Int) < 256 := by
          have := (bval_bound (l := L.take 1) (fun x hx => h x (List.mem_of_mem_take hx))).2
          rw [List.length_take, Nat.min_eq_left hm] at this
          rw [cntOf_nn h]
          simpa using this
        have hoct : Octets ((L.drop 1).take (cntOf 1 L)) := fun x hx => h x (List.mem_of_mem_drop (List.mem_of_mem_take hx))
        have hlen : ((L.drop 1).take (cntOf 1 L)).length = cntOf 1 L := by rw [List.length_take, List.length_drop]; omega
        have hB : natB (bval ((L.drop 1).take (cntOf 1 L))) = (L.drop 1).take (cntOf 1 L) := natB_unique (bval_bound hoct).1 ⟨hoct, fun hne => by
          have hpos : 0 < cntOf 1 L := by
            rcases Nat.eq_zero_or_pos (cntOf 1 L) with h0 | h0
            · exact absurd (by rw [h0]; simp) hne
            · exact h0
          rw [nth_take hpos]
          exact fun h0 => hz ⟨hpos, h0⟩, rfl⟩
        rw [e]
        refine .inr ⟨rfl, _, hc, ?_, rfl⟩
        show natE (bval ((L.drop 1).take (cntOf 1 L))) 0 = 0 ∧ ∀ K, natL (bval ((L.drop 1).take (cntOf 1 L))) 0 K = K ++ L.take (1 + cntOf 1 L)
        unfold natE natL
        rw [hB, if_pos (by omega)]
        refine ⟨rfl, fun K => ?_⟩
        rw [if_pos (by omega), hcl]
        rfl
    · have e : pNat L = .inl 40 := by unfold pNat; rw [if_pos hm, if_neg hc]
      rw [e]
      exact .inl ⟨by decide, rfl⟩
  · have e : pNat L = .inl 40 := by unfold pNat; rw [if_neg hm]
    rw [e]
    exact .inl ⟨by decide, rfl⟩
theorem ByA.front2 {w : World} {b : Nat} {ao : Option Addr} {n c : Nat} {l : List Int} (h : ByA w b ao n c l) {k : Nat} (hk : k ≤ n) : ByA w b ao k c (l.take k) := by
  obtain ⟨o, h1, h2, h3, h4, h5⟩ := h.ex
  refine ⟨o, by rw [List.length_take]; omega, by omega, h3, fun x hx => h4 x (List.mem_of_mem_take hx), ?_, fun i hi => ?_⟩
  · rcases h5.loc with e | e
    · exact .inl (by rw [e]; simp)
    · exact .inr e
  · rw [List.length_take] at hi
    rw [h5.cell i (by omega), nth_take (by omega)]
end Go.Proofs.YtpoifdokmjhclaaGreat

namespace Go.Proofs.YtpoifdokmjhclaaGreat
open Go.RowKit Lim

/-- the bytes of a step; none: it is too long -/
def stB (s : Stp) : Option (List Int) :=
  if s.what = 0 then some (be 1 (s.num % 256))
  else if s.what = 1 then some (be 4 (s.num % 4294967296))
  else if s.what = 2 then some (be 8 s.num)
  else if s.what = 3 then some (be 1 (if s.num % 2 == 1 then 1 else 0))
  else if s.what = 4 ∨ s.what = 5 then (if (natB s.V).length < 256 then some (cntd 1 (natB s.V)) else none)
  else if s.what = 6 then some (cntd 4 s.bl)
  else some []
/-- one step more -/
def stO (s : Stp) (o : Option (List Int)) : Option (List Int) := o.bind fun L => (stB s).map (L ++ ·)
/-- the bytes of a script -/
def laid (ss : List Stp) : Option (List Int) := ss.foldl (fun o s => stO s o) (some [])
end Go.Proofs.YtpoifdokmjhclaaGreat

namespace Go.Proofs.YtpoifdokmjhclaaGreat
open Go.RowKit Lim

end Go.Proofs.YtpoifdokmjhclaaGreat

namespace Go.Proofs.YtpoifdokmjhclaaGreat
open Go.RowKit Lim

theorem MineB.shape {w : World} {B : Nat} {v : Value} {l : List Int} (h : MineB w B v l) : ∃ ao c, v = .slice ao l.length c := by
  rcases h.2 with ⟨rfl, h0⟩ | ⟨g, cap, cur, rfl, _⟩
  · exact ⟨none, 0, by rw [h0]⟩
  · exact ⟨_, _, rfl⟩
end Go.Proofs.YtpoifdokmjhclaaGreat

namespace Go.Proofs.YtpoifdokmjhclaaGreat
open Go.RowKit Lim

/-- only lists of bytes above B are changed -/
structure Byt (B : Nat) (w w' : World) : Prop where
  os : w'.os = w.os
  tape : w'.tape = w.tape
  output : w'.output = w.output
  size : w.heap.size ≤ w'.heap.size
  low : ∀ k : Nat, k < B → k < w.heap.size → w'.heap[k]? = w.heap[k]?
  typ : ∀ (k : Nat) (c : Array Value) (t : TypeId) (f : Nat × Nat), w.heap[k]? = some (Obj.cells c t f) → t ≠ 5 → w'.heap[k]? = w.heap[k]?
theorem Byt.of {B : Nat} {w w' : World} (h : Below w.heap.size w w') : Byt B w w' := ⟨h.os, h.tape, h.output, h.size, fun k _ hk => h.block k hk, fun k _ _ _ hc _ => h.block k (lt_of_block hc)⟩
theorem Byt.trans {B : Nat} {w w1 w2 : World} (h : Byt B w w1) (h' : Byt B w1 w2) : Byt B w w2 := ⟨h'.os.trans h.os, h'.tape.trans h.tape, h'.output.trans h.output, Nat.le_trans h.size h'.size,
  fun k hk hs => (h'.low k hk (Nat.lt_of_lt_of_le hs h.size)).trans (h.low k hk hs), fun k c t f hc ht => (h'.typ k c t f (by rw [h.typ k c t f hc ht]; exact hc) ht).trans (h.typ k c t f hc ht)⟩
theorem Byt.grown {B n : Nat} {w w' : World} {v : Value} {xs : List Value} (ho : w.ownsRow B 5 1 v n xs) (h : w.grownBy w' v.ownBlock) : Byt B w w' := by
  refine ⟨h.os, h.tape, h.output, h.size, fun k hk hs => h.block k hs fun e => ?_, fun k c t f hc ht => h.block k (lt_of_block hc) fun e => ?_⟩
  · have := (ho.lt k e.symm).1
    omega
  · rcases ho.2 with ⟨rfl, _⟩ | ⟨g, cap, cur, rfl, _, hh, _⟩
    · cases e
    · simp [Value.ownBlock] at e
      subst e
      rw [hh] at hc
      cases hc
      exact ht rfl
theorem Byt.below {B A : Nat} {w0 w w' : World} (h : Byt B w w') (b : Below A w0 w) (hA : A ≤ B) (hs : A ≤ w0.heap.size) : Below A w0 w' :=
  ⟨h.os.trans b.os, h.tape.trans b.tape, h.output.trans b.output, Nat.le_trans b.size h.size, fun k hk => (h.low k (by omega) (Nat.lt_of_lt_of_le (Nat.lt_of_lt_of_le hk hs) b.size)).trans (b.block k hk)⟩
set_option maxHeartbeats 2000000 in
set_option maxRecDepth 100000 in
theorem put_any {w : World} {B n : Nat} {x : Int} {v : Value} {L : List Int} (hM : MineB w B v L) (hB : B ≤ w.heap.size) (hn : n ≤ 8) (hL : L.length ≤ 1099511627776) :
    Calls Tryz.prog 35 #[v, .int .i64 n, .int .u64 x] w fun e w' => ∃ v', e = .returned v' ∧ MineB w' B v' (L ++ be n x) ∧ Byt B w w' := by
  obtain ⟨i0, hi, hz0, hz1, hz2⟩ := info_parts info_u8
  have HI : Hid (Tryz.prog.info? 5 = some i0 ∧ i0.zero = some (.int .u8 0) ∧ i0.size = 1 ∧ i0.bytes = 1) := ⟨hi, hz0, hz1, hz2⟩
  have HM := (show Hid _ from hM)
  have HBS := (show Hid _ from hB)
  have hn' : (n : Int) ≤ 8 := by omega
  clear hi hz0 hz1 hz2 hM hB
  go_enter Tryz.func35, Tryz.ntmps35
  go_wp2_with fail
  go_loopw [0, 7] (fun tv ti wr => ∃ j : Nat, j ≤ n ∧ ti = .int .i64 ((n : Int) - 1 - j) ∧ MineB wr B tv (L ++ (be n x).take j) ∧ Byt B w wr) (fun _ ti _ => (intOf ti + 1).toNat)
  case atStart => exact ⟨0, Nat.zero_le _, by simp, by rw [List.take_zero, List.append_nil]; exact HM.out, Byt.of (Below.refl _ _)⟩
  case round =>
    obtain ⟨j, hj, rfl, hMj, hBj⟩ := hrel
    by_cases hlt : j < n
    · obtain ⟨h, hh⟩ : ∃ h : Nat, (n : Int) - 1 - j = h := ⟨n - 1 - j, by omega⟩
      have hh' : n - 1 - j = h := by omega
      have hh8 : h < 8 := by omega
      have HD : Hid ((be n x).take (j + 1) = (be n x).take j ++ [x / 2 ^ (8 * h) % 256]) := by
        have e1 : (256 : Int) ^ h = 2 ^ (8 * h) := by rw [Int.pow_mul]; rfl
        show _ = _
        rw [take_succ_nth (by rw [be_length]; exact hlt), be_nth n x j hlt, hh', e1]
      obtain ⟨M, hMd⟩ : ∃ M, M = L ++ (be n x).take j := ⟨_, rfl⟩
      rw [← hMd] at hMj
      obtain ⟨q, hq⟩ : ∃ q, M.length = q := ⟨_, rfl⟩
      have hqL : q ≤ 1099511627776 + 8 := by
        have : M.length = L.length + ((be n x).take j).length := by rw [hMd, List.length_append]
        rw [List.length_take, be_length] at this
        omega
      have HMD := (show Hid _ from hMd)
      have HQ := (show Hid _ from hq)
      obtain ⟨az, cz, rfl⟩ := hMj.shape
      have hal := below_alloc wr (.cells #[.int .u8 (x / 2 ^ (8 * h) % 256)] 5)
      have hown : (wr.alloc (.cells #[.int .u8 (x / 2 ^ (8 * h) % 256)] 5)).ownsRow B 5 1 (.slice az M.length cz) M.length (M.map (Value.int .u8)) := mineB_keep hMj hal
      rw [hq] at hown ⊢
      have HBJ := (show Hid _ from hBj.trans (Byt.of hal))
      have HSZ : Hid (B ≤ (wr.alloc (.cells #[.int .u8 (x / 2 ^ (8 * h) % 256)] 5)).heap.size) := Nat.le_trans HBS.out (Nat.le_trans hBj.size hal.size)
      have hsrc : ∀ q u, [Value.int .u8 (x / 2 ^ (8 * h) % 256)][q]? = some u → (wr.alloc (.cells #[.int .u8 (x / 2 ^ (8 * h) % 256)] 5)).cell? ((⟨wr.heap.size, 0, none⟩ : Addr).add q) = some u := fun q u hu => by
        match q, hu with
        | 0, hu =>
          cases hu
          have hb := (box_new wr [Value.int .u8 (x / 2 ^ (8 * h) % 256)] 5).blk
          simp only [World.cell?, Addr.add, if_true, hb]
          rfl
        | q + 1, hu => simp at hu
      clear hMj hBj hal hh' hq hMd
      rw [hh]
      go_wp2_with (at_builtin; refine wpList_append_own _ rfl _ _ 29 rfl B 5 i0 (.int .u8 0) 1 1 under_bytes HI.out.1 HI.out.2.1 HI.out.2.2.1 HI.out.2.2.2 rfl (by decide) _ _ _ rfl hown ⟨wr.heap.size, 0, none⟩ 1 1 [Value.int .u8 (x / 2 ^ (8 * h) % 256)] rfl rfl ?c1 ?c2 ?c3 ?c4 ?c5 ?_)
      case c1 => exact hsrc
      case c2 => intro u hu; rw [List.mem_singleton] at hu; subst hu; rfl
      case c3 => unfold maxLen; omega
      case c4 => omega
      case c5 => exact HSZ.out
      intro v' w2 hown' hgrow _
      have HBY := (show Hid _ from HBJ.out.trans (Byt.grown hown hgrow))
      have HM2 : Hid (MineB w2 B v' (L ++ (be n x).take (j + 1))) := by
        show w2.ownsRow _ _ _ _ _ _
        have e : (L ++ (be n x).take (j + 1)) = M ++ [x / 2 ^ (8 * h) % 256] := by rw [HD.out, HMD.out, List.append_assoc]
        rw [e, List.length_append, HQ.out, List.map_append]
        exact hown'
      clear hown hown' hgrow hsrc
      go_wp2
      exact ⟨⟨j + 1, by omega, by go_num, HM2.out, HBY.out⟩, by simp [intOf]⟩
    · obtain rfl : j = n := by omega
      have HM2 : Hid (MineB wr B u0 (L ++ be j x)) := by
        have := hMj
        rw [List.take_of_length_le (by rw [be_length]; exact Nat.le_refl _)] at this
        exact this
      have HBY := (show Hid _ from hBj)
      have e1 : (j : Int) - 1 - j = -1 := by omega
      rw [e1]
      clear hMj hBj
      go_wp2
      go_ret
      exact ⟨_, rfl, HM2.out, HBY.out⟩
end Go.Proofs.YtpoifdokmjhclaaGreat

namespace Go.Proofs.YtpoifdokmjhclaaGreat
open Go.RowKit Lim

/-- the document's Reader: its bytes, its error -/
structure RfA (w : World) (g b : Nat) (err : Int) (l : List Int) : Prop where
  ex : ∃ ao n c, Box w g [.slice ao n c, .int .i64 err] 70 ∧ ByA w b ao n c l
theorem RfA.keep {w w' : World} {g b : Nat} {err : Int} {l : List Int} (h : RfA w g b err l) (hb : Below w.heap.size w w') : RfA w' g b err l := by
  obtain ⟨ao, n, c, h1, h2⟩ := h.ex
  exact ⟨ao, n, c, h1.keep hb, h2.keep hb⟩
theorem no_u8f (err : Int) (ao : Option Addr) (n c : Nat) : ∀ v ∈ [Value.slice ao n c, Value.int .i64 err], ∀ x, v ≠ .int .u8 x := fun v hv x e => by
  rcases List.mem_cons.1 hv with h | h
  · subst h; cases e
  · rw [List.mem_singleton] at h; subst h; cases e
theorem RfA.lt {w : World} {g b : Nat} {err : Int} {l : List Int} (h : RfA w g b err l) : g < w.heap.size := by
  obtain ⟨_, _, _, X, _⟩ := h.ex
  exact X.lt
theorem RfA.oct {w : World} {g b : Nat} {err : Int} {l : List Int} (h : RfA w g b err l) : Octets l := by
  obtain ⟨_, _, _, _, A⟩ := h.ex
  obtain ⟨o, _, _, _, h4, _⟩ := A.ex
  exact h4
theorem but_set (w : World) (g k : Nat) (v : Value) : But g w (w.setCell ⟨g, k, none⟩ v) := ⟨rfl, rfl, rfl, by rw [size_set]; exact Nat.le_refl _, fun _ _ h2 => Below.heap_setCell _ _ _ _ h2⟩
set_option maxRecDepth 100000 in
theorem rfTake {w : World} {g b m : Nat} {l : List Int} (h : RfA w g b 0 l) (hm : m ≤ l.length) :
    Calls Tryz.prog 50 #[.pointer (some ⟨g, 0, none⟩), .int .i64 m] w fun e w' => ∃ ao c, e = .returned (.slice ao m c) ∧ ByA w' b ao m c (l.take m) ∧ RfA w' g b 0 (l.drop m) ∧ But g w w' := by
  obtain ⟨ao, n, c, X, A⟩ := h.ex
  obtain ⟨o, h1, h2, ⟨h3, -⟩, -, -⟩ := A.ex
  have hmn : m ≤ n := by omega
  have H : But g w (w.setCell ⟨g, 0, none⟩ (.slice (restAt ao c m) (n - m) (c - m))) := but_set _ _ _ _
  have HR : Hid (∀ w', w' = w.setCell ⟨g, 0, none⟩ (.slice (restAt ao c m) (n - m) (c - m)) → ByA w' b ao m c (l.take m) ∧ RfA w' g b 0 (l.drop m) ∧ But g w w') := fun w' e => by
    subst e
    exact ⟨(A.front2 hmn).but X (no_u8f _ _ _ _) H, ⟨_, _, _, box_put0 X _, (A.rest hmn).but X (no_u8f _ _ _ _) H⟩, H⟩
  obtain ⟨c1, c2, c3, c4⟩ := X.two
  have hm0 : (m : Int) ≤ n := by omega
  have hm1 : (m : Int) ≤ c := by omega
  have hq : ((n : Int) < m) = False := eq_false (by omega)
  have hn9 : (c : Int) ≤ 9223372036854775807 := by omega
  clear X A h H
  go_enter Tryz.func50, Tryz.ntmps50
  go_wp2
  · subst h
    go_ret
    exact ⟨ao, c, rfl, HR.out _ (by unfold restAt; rw [if_pos rfl, Nat.sub_self])⟩
  · go_ret
    exact ⟨ao, c, rfl, HR.out _ (by unfold restAt; rw [if_neg (by assumption)])⟩
set_option maxRecDepth 100000 in
theorem rfTakeS {w : World} {g b m : Nat} {l : List Int} (h : RfA w g b 0 l) (hm : l.length < m) :
    Calls Tryz.prog 50 #[.pointer (some ⟨g, 0, none⟩), .int .i64 m] w fun e w' => e = .returned (.slice none 0 0) ∧ RfA w' g b 40 l ∧ But g w w' := by
  obtain ⟨ao, n, c, X, A⟩ := h.ex
  obtain ⟨o, h1, h2, ⟨h3, -⟩, -, -⟩ := A.ex
  have H : But g w (w.setCell ⟨g, 1, none⟩ (.int .i64 40)) := but_set _ _ _ _
  have HR : Hid (RfA (w.setCell ⟨g, 1, none⟩ (.int .i64 40)) g b 40 l ∧ But g w (w.setCell ⟨g, 1, none⟩ (.int .i64 40))) := ⟨⟨_, _, _, box_put1 X _, A.but X (no_u8f _ _ _ _) H⟩, H⟩
  obtain ⟨c1, c2, c3, c4⟩ := X.two
  have d2 := (box_put1 X (.int .i64 40)).two.2.1
  have hq : ((n : Int) < m) = True := eq_true (by omega)
  clear X A h H hm
  go_enter Tryz.func50, Tryz.ntmps50
  go_wp2
  go_ret
  exact ⟨rfl, HR.out⟩
set_option maxRecDepth 100000 in
theorem rfTakeE {w : World} {g b : Nat} {m err : Int} {l : List Int} (h : RfA w g b err l) (he : err ≠ 0) :
    Calls Tryz.prog 50 #[.pointer (some ⟨g, 0, none⟩), .int .i64 m] w fun e w' => e = .returned (.slice none 0 0) ∧ w' = w := by
  obtain ⟨ao, n, c, X, A⟩ := h.ex
  obtain ⟨c1, c2, c3, c4⟩ := X.two
  have hb1 : (err == 0) = false := beq_eq_false_iff_ne.2 he
  have hb2 : (err != 0) = true := bne_iff_ne.2 he
  clear X A h he
  go_enter Tryz.func50, Tryz.ntmps50
  go_wp2
  go_ret
  exact ⟨rfl, rfl⟩
set_option maxHeartbeats 2000000 in
set_option maxRecDepth 100000 in
theorem rfU {w : World} {g b m : Nat} {err : Int} {l : List Int} (h : RfA w g b err l) (h8 : m ≤ 8) :
    Calls Tryz.prog 25 #[.pointer (some ⟨g, 0, none⟩), .int .i64 m] w fun e w' => e = .returned (.int .u64 (rdV 0 (pFix m l) err)) ∧ RfA w' g b (rdE (pFix m l) err) (rdL (pFix m l) err l) ∧ But g w w' := by
  by_cases he : err = 0
  · subst he
    by_cases hm : m ≤ l.length
    · have hp : pFix m l = .inr (bval (l.take m), m) := by unfold pFix; rw [if_pos hm]
      rw [hp]
      show Calls Tryz.prog _ _ w fun e w' => e = .returned (.int .u64 (bval (l.take m))) ∧ RfA w' g b 0 (l.drop m) ∧ But g w w'
      have HO : Hid (Octets (l.take m)) := fun x hx => h.oct x (List.mem_of_mem_take hx)
      have hlm : (l.take m).length = m := by rw [List.length_take]; omega
      have t := rfTake h hm
      clear hp h
      generalize l.take m = d at *
      generalize l.drop m = r at *
      have h8' : (m : Int) ≤ 8 := by omega
      go_enter Tryz.func25, Tryz.ntmps25
      go_wp2_with fail
      refine t.mono ?_
      rintro e w1 ⟨ao, c, rfl, A1, R1, b1⟩
      have HR1 := (show Hid _ from R1)
      have HB1 := (show Hid _ from b1)
      obtain ⟨o, -, -, -, -, hA5⟩ := A1.ex
      have HA5 := (show Hid _ from hA5)
      clear t A1 R1 b1 hA5
      go_wp2_with fail
      go_loop [6, 7] (fun tx ti => ∃ k : Nat, k ≤ m ∧ ti = .int .i64 k ∧ tx = .int .u64 (bval (d.take k))) (fun _ ti => m - (intOf ti).toNat)
      case atStart => exact ⟨0, Nat.zero_le _, rfl, rfl⟩
      case round =>
        obtain ⟨k, hk, rfl, rfl⟩ := hrel
        by_cases hlt : k < m
        · have hkl : k < d.length := by omega
          have hcell := HA5.out.cell k hkl
          obtain rfl : ao = some ⟨b, o, none⟩ := by
            rcases HA5.out.loc with e | e
            · rw [e] at hkl; simp at hkl
            · exact e
          have hk0 : (k : Int) < m := by omega
          have hd := HO.out.nth k
          have HB := bval_bound (l := d.take k) (fun x hx => HO.out x (List.mem_of_mem_take hx))
          have hp : (256 : Int) ^ (d.take k).length ≤ 256 ^ 7 := pow256_mono (by rw [List.length_take]; omega)
          have hx1 : bval (d.take k) < 72057594037927936 := by
            have e7 : (256 : Int) ^ 7 = 72057594037927936 := by decide
            omega
          have hx0 := HB.1
          have hor := or8 (bval (d.take k)) (nth d k) hx0 hx1 hd.1 hd.2
          have HN : Hid (bval (d.take (k + 1)) = bval (d.take k) * 256 + nth d k) := by show _ = _; rw [take_succ_nth hkl, bval_snoc2]
          clear HB hp
          generalize bval (d.take k) = V at *
          generalize nth d k = D at *
          go_wp2
          go_round
          case rel => exact ⟨k + 1, by omega, by go_num, by rw [HN.out]⟩
          case measure => simp [intOf]; omega
        · obtain rfl : k = m := by omega
          have hdk : d.take k = d := List.take_of_length_le (by omega)
          rw [hdk]
          go_wp2
          go_ret
          exact ⟨rfl, HR1.out, HB1.out⟩
    · have hp : pFix m l = .inl 40 := by unfold pFix; rw [if_neg hm]
      rw [hp]
      show Calls Tryz.prog _ _ w fun e w' => e = .returned (.int .u64 0) ∧ RfA w' g b 40 l ∧ But g w w'
      have t := rfTakeS (m := m) h (by omega)
      clear hp h hm
      go_enter Tryz.func25, Tryz.ntmps25
      go_wp2_with fail
      refine t.mono ?_
      rintro e w1 ⟨rfl, R1, b1⟩
      have HR1 := (show Hid _ from R1)
      have HB1 := (show Hid _ from b1)
      clear t R1 b1
      go_wp2_with fail
      go_loop [6, 7] (fun tx ti => tx = .int .u64 0 ∧ ti = .int .i64 0) (fun _ _ => 0)
      case atStart => exact ⟨rfl, rfl⟩
      case round =>
        obtain ⟨rfl, rfl⟩ := hrel
        go_wp2
        go_ret
        exact ⟨rfl, HR1.out, HB1.out⟩
  · rw [rdV_bad he, rdE_bad he, rdL_bad he]
    have t := rfTakeE (m := (m : Int)) h he
    have HH := (show Hid _ from h)
    clear h he
    go_enter Tryz.func25, Tryz.ntmps25
    go_wp2_with fail
    refine t.mono ?_
    rintro e w1 ⟨rfl, hw1⟩
    subst hw1
    clear t
    go_wp2_with fail
    go_loop [6, 7] (fun tx ti => tx = .int .u64 0 ∧ ti = .int .i64 0) (fun _ _ => 0)
    case atStart => exact ⟨rfl, rfl⟩
    case round =>
      obtain ⟨rfl, rfl⟩ := hrel
      go_wp2
      go_ret
      exact ⟨rfl, HH.out, But.refl _ _⟩
set_option maxRecDepth 100000 in
theorem rfEnd {w : World} {g b : Nat} {err : Int} {l : List Int} (h : RfA w g b err l) :
    Calls Tryz.prog 27 #[.pointer (some ⟨g, 0, none⟩)] w fun e w' => e = .returned (.int .i64 (endE err l)) ∧ RfA w' g b (endE err l) l ∧ But g w w' := by
  obtain ⟨ao, n, c, X, A⟩ := h.ex
  obtain ⟨o, h1, h2, ⟨h3, -⟩, -, -⟩ := A.ex
  have H : But g w (w.setCell ⟨g, 1, none⟩ (.int .i64 43)) := but_set _ _ _ _
  have HR : Hid (RfA (w.setCell ⟨g, 1, none⟩ (.int .i64 43)) g b 43 l ∧ But g w (w.setCell ⟨g, 1, none⟩ (.int .i64 43))) := ⟨⟨_, _, _, box_put1 X _, A.but X (no_u8f _ _ _ _) H⟩, H⟩
  obtain ⟨c1, c2, c3, c4⟩ := X.two
  have d2 := (box_put1 X (.int .i64 43)).two.2.1
  have HH := (show Hid _ from h)
  by_cases he : err = 0
  · subst he
    by_cases hl : l.length = 0
    · have e : endE 0 l = 0 := by unfold endE; rw [if_pos rfl, if_pos hl]
      rw [e]
      have hn : n = 0 := by omega
      subst hn
      clear X A h H HR e hl d2
      go_enter Tryz.func27, Tryz.ntmps27
      go_wp2
      go_ret
      exact ⟨rfl, HH.out, But.refl _ _⟩
    · have e : endE 0 l = 43 := by unfold endE; rw [if_pos rfl, if_neg hl]
      rw [e]
      have hn : 0 < n := by omega
      clear X A h H e hl HH
      go_enter Tryz.func27, Tryz.ntmps27
      go_wp2
      go_ret
      exact ⟨rfl, HR.out⟩
  · have e : endE err l = err := by unfold endE; rw [if_neg he]
    rw [e]
    have hb1 : (err == 0) = false := beq_eq_false_iff_ne.2 he
    clear X A h H HR e he d2
    go_enter Tryz.func27, Tryz.ntmps27
    go_wp2
    go_ret
    exact ⟨rfl, HH.out, But.refl _ _⟩
end Go.Proofs.YtpoifdokmjhclaaGreat
