/- Several texts, joined: KyX, Div64, DivS, Norm, AddT, Add, TakeT, Sub, DivOne, DivL, Guess, Mul, DivLong, DivM, Scale, Pow, Help, ByteMem, FromB, Digits, Parse, Nm, Reg, RegA, ToB. -/
import Derived.Test.YtemkjdanemddpaaGreatJap
import Derived.Test.YtemkjdanemddpaaGreatJae
import Derived.Deep.QuietTactic
import Derived.BigQuiet
import Derived.Deep.RegionWith
import Derived.ScopeJumps
import Derived.WalkSmall
import Derived.OneCell
import Derived.Deep.RegionHeld3
import Derived.Laws.Tables
namespace Go.Proofs.YtemkjdanemddpaaGreat
namespace Ky
open Go.RowKit Go.Lib Pg
attribute [local go_sem] Oper.semAt_some
theorem mk_eq {k a b n m0 m1 : Int} (hf : frm k = (n, m0, m1)) : mk k a b = [m0] ++ (if 8 < n then be 8 (tn k a) else []) ++ (if m1 = 0 then [] else [m1]) ++ (if 16 < n then be 8 b else []) := by
  unfold mk mkb
  rw [hf]
theorem mk_len (k a b : Int) : (mk k a b).length ≤ 18 := by
  unfold mk
  rw [List.length_append]
  have := mkb_len (frm k) (tn k a)
  split
  · rw [be_length]; omega
  · simp; omega
end Ky
end Go.Proofs.YtemkjdanemddpaaGreat

namespace Go.Proofs.YtemkjdanemddpaaGreat
open Go.RowKit Lim

end Go.Proofs.YtemkjdanemddpaaGreat

namespace Go.Proofs.YtemkjdanemddpaaGreat
open Go.RowKit Lim

end Go.Proofs.YtemkjdanemddpaaGreat

namespace Go.Proofs.YtemkjdanemddpaaGreat
open Go.RowKit Lim

end Go.Proofs.YtemkjdanemddpaaGreat

namespace Go.Proofs.YtemkjdanemddpaaGreat
open Go.RowKit Lim

end Go.Proofs.YtemkjdanemddpaaGreat

namespace Go.Proofs.YtemkjdanemddpaaGreat
open Go.RowKit Lim

theorem pow_pos (k : Nat) : (0 : Int) < 18446744073709551616 ^ k := Int.pow_pos (by decide)
end Go.Proofs.YtemkjdanemddpaaGreat

namespace Go.Proofs.YtemkjdanemddpaaGreat
open Go.RowKit Lim

end Go.Proofs.YtemkjdanemddpaaGreat

namespace Go.Proofs.YtemkjdanemddpaaGreat
open Go.RowKit Lim

end Go.Proofs.YtemkjdanemddpaaGreat

namespace Go.Proofs.YtemkjdanemddpaaGreat
open Go.RowKit Lim

theorem below_alloc (w : World) (o : Obj) : Below w.heap.size w (w.alloc o) := (Below.refl _ _).alloc (Nat.le_refl _) _

end Go.Proofs.YtemkjdanemddpaaGreat

namespace Go.Proofs.YtemkjdanemddpaaGreat
open Go.RowKit Lim

end Go.Proofs.YtemkjdanemddpaaGreat

namespace Go.Proofs.YtemkjdanemddpaaGreat
open Go.RowKit Lim

end Go.Proofs.YtemkjdanemddpaaGreat

namespace Go.Proofs.YtemkjdanemddpaaGreat
open Go.RowKit Lim

end Go.Proofs.YtemkjdanemddpaaGreat

namespace Go.Proofs.YtemkjdanemddpaaGreat
open Go.RowKit Lim

end Go.Proofs.YtemkjdanemddpaaGreat

namespace Go.Proofs.YtemkjdanemddpaaGreat
open Go.RowKit Lim

end Go.Proofs.YtemkjdanemddpaaGreat

namespace Go.Proofs.YtemkjdanemddpaaGreat
open Go.RowKit Lim

end Go.Proofs.YtemkjdanemddpaaGreat

namespace Go.Proofs.YtemkjdanemddpaaGreat
open Go.RowKit Lim

end Go.Proofs.YtemkjdanemddpaaGreat

namespace Go.Proofs.YtemkjdanemddpaaGreat
open Go.RowKit Lim

end Go.Proofs.YtemkjdanemddpaaGreat

namespace Go.Proofs.YtemkjdanemddpaaGreat
open Go.RowKit Lim

def Octets (l : List Int) : Prop := ∀ x ∈ l, 0 ≤ x ∧ x < 256
/-- bytes' worth, the highest first -/
def bval : List Int → Int
  | [] => 0
  | x :: l => x * 256 ^ l.length + bval l
theorem bval_bound {l : List Int} (h : Octets l) : 0 ≤ bval l ∧ bval l < 256 ^ l.length := by
  induction l with
  | nil => simp [bval]
  | cons x l ih =>
    have h1 := ih (fun y hy => h y (List.mem_cons_of_mem _ hy))
    have h2 := h x List.mem_cons_self
    have hp : (0 : Int) < 256 ^ l.length := Int.pow_pos (by decide)
    have h3 : 0 ≤ x * 256 ^ l.length := Int.mul_nonneg h2.1 (Int.le_of_lt hp)
    have h4 : x * 256 ^ l.length ≤ 255 * 256 ^ l.length := Int.mul_le_mul_of_nonneg_right (by omega) (Int.le_of_lt hp)
    rw [bval, List.length_cons, Int.pow_succ]; omega
/-- the bytes of a value -/
def IsB (l : List Int) (n : Int) : Prop := Octets l ∧ (l ≠ [] → nth l 0 ≠ 0) ∧ bval l = n
theorem bval_inj : ∀ {a b : List Int}, Octets a → Octets b → a.length = b.length → bval a = bval b → a = b
  | [], [], _, _, _, _ => rfl
  | x :: a, y :: b, ha, hb, hl, hv => by
    have ha' : Octets a := fun z hz => ha z (List.mem_cons_of_mem _ hz)
    have hb' : Octets b := fun z hz => hb z (List.mem_cons_of_mem _ hz)
    have hl' : a.length = b.length := by simpa using hl
    have h1 := bval_bound ha'
    have h2 := bval_bound hb'
    rw [bval, bval, hl'] at hv
    rw [hl'] at h1
    have hp : (0 : Int) < 256 ^ b.length := Int.pow_pos (by decide)
    have e : x = y := by
      rcases Int.lt_trichotomy x y with c | c | c
      · have : (x + 1) * 256 ^ b.length ≤ y * 256 ^ b.length := Int.mul_le_mul_of_nonneg_right (by omega) (Int.le_of_lt hp)
        rw [Int.add_mul] at this; omega
      · exact c
      · have : (y + 1) * 256 ^ b.length ≤ x * 256 ^ b.length := Int.mul_le_mul_of_nonneg_right (by omega) (Int.le_of_lt hp)
        rw [Int.add_mul] at this; omega
    subst e
    rw [bval_inj ha' hb' hl' (by omega)]
theorem bval_ge {l : List Int} (h : Octets l) (h0 : l ≠ []) (h1 : nth l 0 ≠ 0) : 256 ^ (l.length - 1) ≤ bval l := by
  cases l with
  | nil => exact absurd rfl h0
  | cons x l =>
    rw [nth_zero] at h1
    have h2 := h x List.mem_cons_self
    have h3 := bval_bound (l := l) (fun z hz => h z (List.mem_cons_of_mem _ hz))
    have hp : (0 : Int) < 256 ^ l.length := Int.pow_pos (by decide)
    have : 1 * 256 ^ l.length ≤ x * 256 ^ l.length := Int.mul_le_mul_of_nonneg_right (by omega) (Int.le_of_lt hp)
    rw [bval, List.length_cons, Nat.add_sub_cancel]; omega
theorem pow256_mono {a b : Nat} (h : a ≤ b) : (256 : Int) ^ a ≤ 256 ^ b := by
  have : (256 : Nat) ^ a ≤ 256 ^ b := Nat.pow_le_pow_right (by decide) h
  have e1 : ((256 ^ a : Nat) : Int) = (256 : Int) ^ a := by rw [Int.natCast_pow]; rfl
  have e2 : ((256 ^ b : Nat) : Int) = (256 : Int) ^ b := by rw [Int.natCast_pow]; rfl
  omega
theorem isB_unique {a b : List Int} {n : Int} (ha : IsB a n) (hb : IsB b n) : a = b := by
  apply bval_inj ha.1 hb.1
  · have key : ∀ {a b : List Int}, IsB a n → IsB b n → ¬ a.length < b.length := by
      intro a b ha hb hlt
      have h1 := (bval_bound ha.1).2
      have h2 := bval_ge hb.1 (fun e => by subst e; simp at hlt) (hb.2.1 (fun e => by subst e; simp at hlt))
      rw [ha.2.2] at h1
      rw [hb.2.2] at h2
      have := pow256_mono (show a.length ≤ b.length - 1 by omega)
      omega
    have h1 := key ha hb
    have h2 := key hb ha
    omega
  · rw [ha.2.2, hb.2.2]

end Go.Proofs.YtemkjdanemddpaaGreat

namespace Go.Proofs.YtemkjdanemddpaaGreat
open Go.RowKit Lim

end Go.Proofs.YtemkjdanemddpaaGreat

namespace Go.Proofs.YtemkjdanemddpaaGreat
open Go.RowKit Lim

end Go.Proofs.YtemkjdanemddpaaGreat

namespace Go.Proofs.YtemkjdanemddpaaGreat
open Go.RowKit Lim

end Go.Proofs.YtemkjdanemddpaaGreat

namespace Go.Proofs.YtemkjdanemddpaaGreat
open Go.RowKit Lim

theorem joinB {w wa w' : World} (b : Below w.heap.size w wa) (h : Below wa.heap.size wa w') : Below w.heap.size w w' := b.trans (h.mono b.size)

end Go.Proofs.YtemkjdanemddpaaGreat

namespace Go.Proofs.YtemkjdanemddpaaGreat
open Go.RowKit Lim

section
variable {ops : Array Oper} {Q : Exit → Act → World → Prop} {S : World → Prop} {fuel : Nat} {listed : Array Bool} {a : Act} {w : World}

/-- operation i may be taken first, is wanted, and writes d -/
def rgChk (ops : Array Oper) (listed : Array Bool) (a : Act) (i : Nat) (d : Option Tmp) : Bool :=
  Region.noSelect ops && Region.free .any ops listed i && (Region.ready .any ops listed).contains i && decide (i < ops.size) && Region.wanted (ops.getD i default) (yielded ops a.tmps) && decide ((ops.getD i default).dst = d)
/-- operation i alone may come up, is wanted, and writes d -/
def rgLone (ops : Array Oper) (listed : Array Bool) (a : Act) (i : Nat) (d : Option Tmp) : Bool :=
  decide (Region.ready .any ops listed = [i]) && decide (i < ops.size) && Region.wanted (ops.getD i default) (yielded ops a.tmps) && decide ((ops.getD i default).dst = d)
theorem at_getD {i : Nat} (h : i < ops.size) : ops[i]? = some (ops.getD i default) := by
  simp [Array.getD, h]
theorem rg_take (i : Nat) (d : Option Tmp) (v : Value) (hc : rgChk ops listed a i d = true) (hy : ∀ w', S w' → (execOp a.eval (ops.getD i default)).run Tryz.prog w' = .ok (.value v) w')
    (hQ : ∀ c a w, Q (.panic c) (a.put d v) w → Q (.panic c) a w) (hS : S w)
    (h : wpAnyH Tryz.prog .any ops Q S fuel (listed.setIfInBounds i true) (a.put d v) w) : wpAnyH Tryz.prog .any ops Q S (fuel + 1) listed a w := by
  simp only [rgChk, Bool.and_eq_true, decide_eq_true_eq] at hc
  obtain ⟨⟨⟨⟨⟨h1, h2⟩, h3⟩, h4⟩, h5⟩, h6⟩ := hc
  subst h6
  exact wpAnyH_take (at_getD h4) h1 h2 h3 hQ (.inl ⟨h5, hy⟩) hS h
theorem rg_load (i : Nat) (d : Option Tmp) (v : Value) (T : TypeId) (k g o : Nat) (hc : rgChk ops listed a i d = true) (ho : (ops.getD i default).op = .load T (.tmp k)) (hp : a.eval (.tmp k) = .pointer (some ⟨g, o, none⟩))
    (hl : ∀ w', S w' → (loadVar T ⟨g, o, none⟩).run Tryz.prog w' = .ok v w')
    (hQ : ∀ c a w, Q (.panic c) (a.put d v) w → Q (.panic c) a w) (hS : S w)
    (h : wpAnyH Tryz.prog .any ops Q S fuel (listed.setIfInBounds i true) (a.put d v) w) : wpAnyH Tryz.prog .any ops Q S (fuel + 1) listed a w :=
  rg_take i d v hc (fun w' hS' => by
    have := hl w' hS'
    simp only [execOp, ho, hp]
    simp [Instr.loadAt, Instr.sureAddr, Result.andThen, this]) hQ hS h
theorem rg_call (i : Nat) (d : Option Tmp) (f : FuncId) (args : Array Value) {Qc : Ending → World → Prop} (hc : rgLone ops listed a i d = true) (hrun : (execOp a.eval (ops.getD i default)).run Tryz.prog w = .ok (.enter f args) w)
    (hcall : Calls Tryz.prog f args w Qc) (hk : ∀ e w', Qc e w' → ∃ v, e = .returned v ∧ S w' ∧ wpAnyH Tryz.prog .any ops Q S fuel (listed.setIfInBounds i true) (a.put d v) w') :
    wpAnyH Tryz.prog .any ops Q S (fuel + 1) listed a w := by
  simp only [rgLone, Bool.and_eq_true, decide_eq_true_eq] at hc
  obtain ⟨⟨⟨h3, h4⟩, h5⟩, h6⟩ := hc
  subst h6
  refine wpAnyH_all h3 (by simp) fun j hj => ?_
  obtain rfl : j = i := by simpa using hj
  refine wpOp_step (at_getD h4) fun K hK => ?_
  rw [if_pos h5]
  unfold Oper.wp
  rw [hrun]
  refine hcall.mono fun e w' he => ?_
  obtain ⟨v, rfl, hS', hw⟩ := hk e w' he
  exact hK _ _ ⟨hS', hw⟩
theorem rg_done (hr : Region.ready .any ops listed = []) (h : Q .normal a w) : wpAnyH Tryz.prog .any ops Q S fuel listed a w := wpAnyH_done hr h fuel
theorem rg_start {id : Nat} (hm : Tryz.prog.follows .mixedOrders = true) (hS : S w.drew) (h : wpAnyH Tryz.prog .any ops Q S ops.size (Array.replicate ops.size false) a w.drew) : (Code.region id ops true).wp Tryz.prog Q a w :=
  wp_region_held_drew hm hS fun _ => h
end
end Go.Proofs.YtemkjdanemddpaaGreat

namespace Go.Proofs.YtemkjdanemddpaaGreat
open Go.RowKit Lim

section
variable {ops : Array Oper} {Q : Exit → Act → World → Prop} {S : World → Prop} {fuel : Nat} {listed : Array Bool} {a : Act} {w : World}
end
end Go.Proofs.YtemkjdanemddpaaGreat

namespace Go.Proofs.YtemkjdanemddpaaGreat
open Go.RowKit Lim

theorem emod_parts (V : Int) (hV : 0 ≤ V) (k : Nat) : V % 256 ^ (k + 1) = (V / 256 ^ k % 256) * 256 ^ k + V % 256 ^ k := by
  obtain ⟨v, rfl⟩ := Int.eq_ofNat_of_zero_le hV
  have e : ∀ j : Nat, (256 : Int) ^ j = ((256 ^ j : Nat) : Int) := fun j => by rw [Int.natCast_pow]; rfl
  rw [e, e]
  have := Nat.mod_mul (x := v) (a := 256 ^ k) (b := 256)
  rw [← Nat.pow_succ] at this
  have h2 : ((v % 256 ^ (k + 1) : Nat) : Int) = ((v % 256 ^ k + 256 ^ k * (v / 256 ^ k % 256) : Nat) : Int) := by rw [this]
  rw [Int.natCast_add, Int.natCast_mul] at h2
  simp only [Int.natCast_emod, Int.natCast_ediv] at h2
  rw [h2, Int.add_comm, Int.mul_comm]; rfl
/-- how many bytes -/
theorem bytes_len {V : Int} (hV : 0 ≤ V) : V < 256 ^ ((bitLen V.toNat + 7) / 8) ∧ ((bitLen V.toNat + 7) / 8 ≠ 0 → 256 ^ ((bitLen V.toNat + 7) / 8 - 1) ≤ V) := by
  obtain ⟨v, rfl⟩ := Int.eq_ofNat_of_zero_le hV
  rw [Int.toNat_natCast]
  have hs := bitLen_spec v
  have e : ∀ j : Nat, (256 : Int) ^ j = ((2 ^ (8 * j) : Nat) : Int) := fun j => by rw [Nat.pow_mul, Int.natCast_pow]; rfl
  rw [e, e]
  constructor
  · have := Nat.pow_le_pow_right (n := 2) (by decide) (show bitLen v ≤ 8 * ((bitLen v + 7) / 8) by omega)
    have h1 := hs.1
    omega
  · intro hm
    have hv0 : v ≠ 0 := by intro e; subst e; simp [bitLen] at hm
    have := Nat.pow_le_pow_right (n := 2) (by decide) (show 8 * ((bitLen v + 7) / 8 - 1) ≤ bitLen v - 1 by omega)
    have h1 := hs.2 hv0
    omega
end Go.Proofs.YtemkjdanemddpaaGreat
