/- Several texts, joined: RcG, RcH, RcI, EncF, EncG, EncI, RcJ, RcK, RcL, EncJ, EncK, RefB2, EncL, EncP, EncQ, EncR, EncS, RcO, RcM, RcN, EncM, RcT. -/
import Derived.Test.YtidnifmehnjipaaGreatJaj
import Derived.Lib.SlBytesConst
import Derived.Test.YtidnifmehnjipaaGreatJab
namespace Go.Proofs.YtidnifmehnjipaaGreat
namespace Rc
open Go.RowKit Go.Lib Pg
attribute [local go_sem] Oper.semAt_some
abbrev RSt := Int × List Int × (Nat → Int)
def pBoolI (l : List Int) : Int ⊕ Int × Nat := match pBool l with
  | .inl e => .inl e
  | .inr p => .inr ((if p.1 then 1 else 0), p.2)
/-- what is read of a field -/
def p1 : Nat → List Int → Int ⊕ Int × Nat
  | 0, l => pFix 8 l
  | 1, l => pBoolI l
  | _, l => pNat l
theorem pBoolI_E (l : List Int) (err : Int) : rdE (pBoolI l) err = rdE (pBool l) err := by
  unfold rdE pBoolI
  cases pBool l <;> rfl
theorem pBoolI_L (l m : List Int) (err : Int) : rdL (pBoolI l) err m = rdL (pBool l) err m := by
  unfold rdL pBoolI
  cases pBool l <;> rfl
theorem pBoolI_V (l : List Int) (err : Int) : rdV 0 (pBoolI l) err = if rdV false (pBool l) err then 1 else 0 := by
  unfold rdV pBoolI
  by_cases h : err = 0
  · rw [if_pos h, if_pos h]
    cases pBool l <;> rfl
  · rw [if_neg h, if_neg h]
    rfl
def rnx (k o : Nat) (s : RSt) : RSt := (rdE (p1 k s.2.1) s.1, rdL (p1 k s.2.1) s.1 s.2.1, fun i => if i = o then rdV 0 (p1 k s.2.1) s.1 else s.2.2 i)
def FldR (w : World) (B : Nat) (kd : Nat → Nat) (cs : List Value) (xs : Nat → Int) : Prop := ∀ o, (kd o = 0 → cs[o]? = some (.int .u64 (xs o))) ∧ (kd o = 1 → ∃ b : Bool, cs[o]? = some (.bool b) ∧ xs o = if b then 1 else 0) ∧ (kd o = 2 → ∃ ao n c, cs[o]? = some (.slice ao n c) ∧ NatW w B ao n c (xs o) ∧ n ≤ 255)
theorem FldR.off {w w' : World} {B : Nat} {kd : Nat → Nat} {cs : List Value} {xs : Nat → Int} (h : FldR w B kd cs xs) (hs : w.heap.size ≤ w'.heap.size) (hw : ∀ b, B ≤ b → b < w.heap.size → w'.heap[b]? = w.heap[b]?) : FldR w' B kd cs xs := fun o => ⟨(h o).1, (h o).2.1, fun hk => by
  obtain ⟨ao, n, c, h1, h2, h3⟩ := (h o).2.2 hk
  exact ⟨ao, n, c, h1, h2.off hs hw, h3⟩⟩
structure RI (w0 : World) (B g b vb rb : Nat) (kd : Nat → Nat) (len : Nat) (T vt : TypeId) (s : RSt) (w : World) : Prop where
  rd : RdA w g b s.1 s.2.1
  var : Blk w vb [.pointer (some ⟨g, 0, none⟩)] vt
  rc : ∃ cs, cs.length = len ∧ Blk w rb cs T ∧ FldR w B kd cs s.2.2
  bel : Below w0.heap.size w0 w
  s1 : rb ≠ g
  s2 : vb ≠ g
  s3 : vb ≠ rb
  s4 : b ≠ rb
  g1 : g < B
  r1 : rb < B
  g0 : w0.heap.size ≤ g
  r0 : w0.heap.size ≤ rb
theorem but_set (w : World) (g o : Nat) (v : Value) : But g w (w.setCell ⟨g, o, none⟩ v) := by
  have h := (Chg.refl (fun x => x = g) w).cell (g := g) (i := o) (.inl rfl) v
  exact ⟨h.os, h.tape, h.output, h.size, fun b hb hne => h.same b hb hne⟩
/-- one field more is read -/
theorem RI.step {w0 w w1 : World} {B g b vb rb len o k : Nat} {kd : Nat → Nat} {T vt : TypeId} {s : RSt} {e1 : Int} {l1 : List Int} {v : Value} {x : Int} (h : RI w0 B g b vb rb kd len T vt s w) (ho : kd o = k) (hl : o < len) (X : RdA w1 g b e1 l1) (hB : But g w w1) (hv : (k = 0 ∧ v = .int .u64 x) ∨ (k = 1 ∧ ∃ t : Bool, v = .bool t ∧ x = if t then 1 else 0) ∨ (k = 2 ∧ ∃ ao n c, v = .slice ao n c ∧ NatW w1 B ao n c x ∧ n ≤ 255)) :
    RI w0 B g b vb rb kd len T vt (e1, l1, fun i => if i = o then x else s.2.2 i) (w1.setCell ⟨rb, o, none⟩ v) ∧ Chg (fun y => y = g ∨ y = rb) w (w1.setCell ⟨rb, o, none⟩ v) := by
  have hS := but_set w1 rb o v
  have h1 := h.s1
  have h3 := h.g1
  have h4 := h.r1
  have hc1 : Chg (· = g) w w1 := But.chg hB
  have hc2 : Chg (· = rb) w1 (w1.setCell ⟨rb, o, none⟩ v) := But.chg hS
  obtain ⟨cs, hcl, hcb, hF⟩ := h.rc
  have b1 : Below w0.heap.size w0 w1 := hB.below h.bel h.g0 (Nat.le_refl _)
  have off1 : ∀ y, B ≤ y → y < w.heap.size → w1.heap[y]? = w.heap[y]? := fun y hy hy2 => hB.block y hy2 (by omega)
  have off2 : ∀ y, B ≤ y → y < w1.heap.size → (w1.setCell ⟨rb, o, none⟩ v).heap[y]? = w1.heap[y]? := fun y hy hy2 => hS.block y hy2 (by omega)
  refine ⟨⟨X.offW (fun e => h1 e.symm) h.s4 hS, (h.var.chg hc1 h.s2).chg hc2 h.s3, ⟨cs.set o v, by rw [List.length_set]; exact hcl, (hcb.chg hc1 h1).setCell (i := o) v, ?_⟩, hS.below b1 h.r0 (Nat.le_refl _), h.s1, h.s2, h.s3, h.s4, h.g1, h.r1, h.g0, h.r0⟩, (hc1.mono (fun _ _ e => .inl e)).trans hc2 (fun _ _ e => .inr e)⟩
  have hF1 := hF.off hB.size off1
  intro i
  by_cases hi : i = o
  · subst hi
    have hget : (cs.set i v)[i]? = some v := by rw [List.getElem?_set_self (by omega)]
    rw [hget]
    simp only [if_true]
    refine ⟨fun hk => ?_, fun hk => ?_, fun hk => ?_⟩
    · rcases hv with ⟨_, e⟩ | ⟨e, _⟩ | ⟨e, _⟩
      · rw [e]
      · omega
      · omega
    · rcases hv with ⟨e, _⟩ | ⟨_, t, e, e2⟩ | ⟨e, _⟩
      · omega
      · exact ⟨t, by rw [e], e2⟩
      · omega
    · rcases hv with ⟨e, _⟩ | ⟨e, _⟩ | ⟨_, ao, n, c, e, e2, e3⟩
      · omega
      · omega
      · exact ⟨ao, n, c, by rw [e], e2.off hS.size off2, e3⟩
  · have hget : (cs.set o v)[i]? = cs[i]? := by rw [List.getElem?_set_ne (fun e => hi e.symm)]
    simp only [if_neg hi]
    rw [hget]
    exact (hF1.off hS.size off2) i
theorem kl_Params {o k : Nat} (h : kd_Params o = k) (hk : k ≠ 9) : o < 10 := by
  by_cases ho : o < 10
  · exact ho
  · exfalso
    have : kd_Params o = 9 := by
      unfold kd_Params
      rw [List.getD_eq_getElem?_getD, List.getElem?_eq_none (by simp; omega)]
      rfl
    omega
set_option maxRecDepth 100000 in
theorem rn_Chain {w : World} {g b vb rb o : Nat} {err : Int} {l : List Int} {cs : List Value} {T vt : TypeId} {old : Value} (X : RdA w g b err l) (V : Blk w vb [.pointer (some ⟨g, 0, none⟩)] vt) (R : Blk w rb cs T) (hr : rb ≠ g) (ho : cs[o]? = some old) (hold : ∃ y, old = .int .u64 y) :
    Calls Tryz.prog 228 #[.pointer (some ⟨rb, o, none⟩), .pointer (some ⟨vb, 0, none⟩)] w fun e w' => e = .returned (.tuple #[]) ∧ ∃ w1, w' = w1.setCell ⟨rb, o, none⟩ (.int .u64 (rdV 0 (p1 0 l) err)) ∧ RdA w1 g b (rdE (p1 0 l) err) (rdL (p1 0 l) err l) ∧ But g w w1 := by
  obtain ⟨y, rfl⟩ := hold
  have t := rdU64 X
  show Calls Tryz.prog _ _ w fun e w' => e = .returned (.tuple #[]) ∧ ∃ w1, w' = w1.setCell ⟨rb, o, none⟩ (.int .u64 (rdV 0 (pFix 8 l) err)) ∧ RdA w1 g b (rdE (pFix 8 l) err) (rdL (pFix 8 l) err l) ∧ But g w w1
  generalize rdV 0 (pFix 8 l) err = Y at *
  generalize rdE (pFix 8 l) err = E at *
  generalize rdL (pFix 8 l) err l = Rl at *
  have cv := V.cell (i := 0) rfl
  have HR := hid3 R
  have HNE := hid3 hr
  have HO := hid3 ho
  clear X V R ho hr
  go_enter Tryz.func228, Tryz.ntmps228
  go_wp2_with (go_at_call 164; refine t.mono ?_; rintro e' w1 ⟨rfl, X1, B1⟩; clear t; have R1 := HR.out.chg (But.chg B1) HNE.out; have cr := R1.cell HO.out; have fr := R1.free o; clear R1; replace X1 := hid3 X1)
  go_end0
  exact ⟨rfl, w1, rfl, X1.out, B1⟩
set_option maxRecDepth 100000 in
theorem rt_Chain {w : World} {g b vb rb o : Nat} {err : Int} {l : List Int} {cs : List Value} {T vt : TypeId} {old : Value} (X : RdA w g b err l) (V : Blk w vb [.pointer (some ⟨g, 0, none⟩)] vt) (R : Blk w rb cs T) (hr : rb ≠ g) (ho : cs[o]? = some old) (hold : ∃ y, old = .bool y) :
    Calls Tryz.prog 229 #[.pointer (some ⟨rb, o, none⟩), .pointer (some ⟨vb, 0, none⟩)] w fun e w' => e = .returned (.tuple #[]) ∧ ∃ w1, w' = w1.setCell ⟨rb, o, none⟩ (.bool (rdV false (pBool l) err)) ∧ RdA w1 g b (rdE (p1 1 l) err) (rdL (p1 1 l) err l) ∧ But g w w1 := by
  obtain ⟨y, rfl⟩ := hold
  have t := rdBool X
  show Calls Tryz.prog _ _ w fun e w' => e = .returned (.tuple #[]) ∧ ∃ w1, w' = w1.setCell ⟨rb, o, none⟩ (.bool (rdV false (pBool l) err)) ∧ RdA w1 g b (rdE (pBoolI l) err) (rdL (pBoolI l) err l) ∧ But g w w1
  rw [pBoolI_E, pBoolI_L]
  generalize rdV false (pBool l) err = Y at *
  generalize rdE (pBool l) err = E at *
  generalize rdL (pBool l) err l = Rl at *
  have cv := V.cell (i := 0) rfl
  have HR := hid3 R
  have HNE := hid3 hr
  have HO := hid3 ho
  clear X V R ho hr
  go_enter Tryz.func229, Tryz.ntmps229
  go_wp2_with (go_at_call 166; refine t.mono ?_; rintro e' w1 ⟨rfl, X1, B1⟩; clear t; have R1 := HR.out.chg (But.chg B1) HNE.out; have cr := R1.cell HO.out; have fr := R1.free o; clear R1; replace X1 := hid3 X1)
  go_end0
  exact ⟨rfl, w1, rfl, X1.out, B1⟩
set_option maxRecDepth 100000 in
theorem rd_Chain {w : World} {g b vb rb o : Nat} {err : Int} {l : List Int} {cs : List Value} {T vt : TypeId} {old : Value} (X : RdA w g b err l) (V : Blk w vb [.pointer (some ⟨g, 0, none⟩)] vt) (R : Blk w rb cs T) (hr : rb ≠ g) (ho : cs[o]? = some old) (hold : ∃ a n c, old = .slice a n c) :
    Calls Tryz.prog 230 #[.pointer (some ⟨rb, o, none⟩), .pointer (some ⟨vb, 0, none⟩)] w fun e w' => e = .returned (.tuple #[]) ∧ ∃ w1 ao n c, w' = w1.setCell ⟨rb, o, none⟩ (.slice ao n c) ∧ NatW w1 w.heap.size ao n c (rdV 0 (p1 2 l) err) ∧ n ≤ 255 ∧ RdA w1 g b (rdE (p1 2 l) err) (rdL (p1 2 l) err l) ∧ But g w w1 := by
  obtain ⟨oa, on, oc, rfl⟩ := hold
  have t := rdDecW X
  show Calls Tryz.prog _ _ w fun e w' => e = .returned (.tuple #[]) ∧ ∃ w1 ao n c, w' = w1.setCell ⟨rb, o, none⟩ (.slice ao n c) ∧ NatW w1 w.heap.size ao n c (rdV 0 (pNat l) err) ∧ n ≤ 255 ∧ RdA w1 g b (rdE (pNat l) err) (rdL (pNat l) err l) ∧ But g w w1
  generalize rdV 0 (pNat l) err = Y at *
  generalize rdE (pNat l) err = E at *
  generalize rdL (pNat l) err l = Rl at *
  have cv := V.cell (i := 0) rfl
  have HR := hid3 R
  have HNE := hid3 hr
  have HO := hid3 ho
  clear X V R ho hr
  go_enter Tryz.func230, Tryz.ntmps230
  go_wp2_with (go_at_call 168; refine t.mono ?_; rintro e' w1 ⟨a1, n1, d1, rfl, N1, hn1, X1, B1⟩; clear t; have R1 := HR.out.chg (But.chg B1) HNE.out; have cr := R1.cell HO.out; have fr := R1.free o; clear R1; replace X1 := hid3 X1)
  go_end0
  exact ⟨rfl, w1, a1, n1, d1, rfl, N1, hn1, X1.out, B1⟩
theorem kl_Chain {o k : Nat} (h : kd_Chain o = k) (hk : k ≠ 9) : o < 2 := by
  by_cases ho : o < 2
  · exact ho
  · exfalso
    have : kd_Chain o = 9 := by
      unfold kd_Chain
      rw [List.getD_eq_getElem?_getD, List.getElem?_eq_none (by simp; omega)]
      rfl
    omega
theorem rhc_Chain {w0 : World} {B g b vb rb : Nat} {T vt : TypeId} : HC RSt (fun s w => RI w0 B g b vb rb kd_Chain 2 T vt s w ∧ B ≤ w.heap.size) (fun y => y = g ∨ y = rb) rb 228 229 230 (.pointer (some ⟨vb, 0, none⟩)) rnx kd_Chain (fun _ => True) where
  oks := fun _ _ _ _ => trivial
  keep := fun s w w' h Bl => by
    obtain ⟨h, hB⟩ := h
    obtain ⟨cs, h1, h2, h3⟩ := h.rc
    exact ⟨⟨h.rd.keep Bl, h.var.keep Bl, ⟨cs, h1, h2.keep Bl, h3.off Bl.size (fun y _ hy => Bl.block y hy)⟩, h.bel.trans (Bl.mono h.bel.size), h.s1, h.s2, h.s3, h.s4, h.g1, h.r1, h.g0, h.r0⟩, Nat.le_trans hB Bl.size⟩
  old := fun s w y h e => by
    have := h.1.g1
    have := h.1.r1
    have := h.2
    rcases e with e | e <;> omega
  e1 := fun _ _ => by kernel_rfl
  e2 := fun _ _ => by kernel_rfl
  e3 := fun _ _ => by kernel_rfl
  u := fun s w o h _ hk => by
    obtain ⟨h, hB⟩ := h
    obtain ⟨cs, h1, h2, h3⟩ := h.rc
    refine (rn_Chain h.rd h.var h2 h.s1 ((h3 o).1 hk) ⟨_, rfl⟩).mono ?_
    rintro e w' ⟨rfl, w1, rfl, X, Bu⟩
    obtain ⟨r1, r2⟩ := h.step hk (kl_Chain hk (by decide)) X Bu (.inl ⟨rfl, rfl⟩)
    exact ⟨rfl, ⟨r1, Nat.le_trans hB r2.size⟩, r2⟩
  t := fun s w o h _ hk => by
    obtain ⟨h, hB⟩ := h
    obtain ⟨cs, h1, h2, h3⟩ := h.rc
    obtain ⟨t, ht, _⟩ := (h3 o).2.1 hk
    refine (rt_Chain h.rd h.var h2 h.s1 ht ⟨_, rfl⟩).mono ?_
    rintro e w' ⟨rfl, w1, rfl, X, Bu⟩
    obtain ⟨r1, r2⟩ := h.step hk (kl_Chain hk (by decide)) X Bu (x := rdV 0 (p1 1 s.2.1) s.1) (.inr (.inl ⟨rfl, _, rfl, pBoolI_V _ _⟩))
    exact ⟨rfl, ⟨r1, Nat.le_trans hB r2.size⟩, r2⟩
  d := fun s w o h _ hk => by
    obtain ⟨h, hB⟩ := h
    obtain ⟨cs, h1, h2, h3⟩ := h.rc
    obtain ⟨ao, n, c, ht, _⟩ := (h3 o).2.2 hk
    refine (rd_Chain h.rd h.var h2 h.s1 ht ⟨_, _, _, rfl⟩).mono ?_
    rintro e w' ⟨rfl, w1, a1, n1, c1, rfl, hN, hn, X, Bu⟩
    obtain ⟨r1, r2⟩ := h.step hk (kl_Chain hk (by decide)) X Bu (x := rdV 0 (p1 2 s.2.1) s.1) (.inr (.inr ⟨rfl, _, _, _, rfl, hN.low hB, hn⟩))
    exact ⟨rfl, ⟨r1, Nat.le_trans hB r2.size⟩, r2⟩
theorem kl_Pool {o k : Nat} (h : kd_Pool o = k) (hk : k ≠ 9) : o < 1 := by
  by_cases ho : o < 1
  · exact ho
  · exfalso
    have : kd_Pool o = 9 := by
      unfold kd_Pool
      rw [List.getD_eq_getElem?_getD, List.getElem?_eq_none (by simp; omega)]
      rfl
    omega
theorem kl_Account {o k : Nat} (h : kd_Account o = k) (hk : k ≠ 9) : o < 2 := by
  by_cases ho : o < 2
  · exact ho
  · exfalso
    have : kd_Account o = 9 := by
      unfold kd_Account
      rw [List.getD_eq_getElem?_getD, List.getElem?_eq_none (by simp; omega)]
      rfl
    omega
theorem kl_Val {o k : Nat} (h : kd_Val o = k) (hk : k ≠ 9) : o < 10 := by
  by_cases ho : o < 10
  · exact ho
  · exfalso
    have : kd_Val o = 9 := by
      unfold kd_Val
      rw [List.getD_eq_getElem?_getD, List.getElem?_eq_none (by simp; omega)]
      rfl
    omega
theorem kl_Delegation {o k : Nat} (h : kd_Delegation o = k) (hk : k ≠ 9) : o < 3 := by
  by_cases ho : o < 3
  · exact ho
  · exfalso
    have : kd_Delegation o = 9 := by
      unfold kd_Delegation
      rw [List.getD_eq_getElem?_getD, List.getElem?_eq_none (by simp; omega)]
      rfl
    omega
theorem kl_History {o k : Nat} (h : kd_History o = k) (hk : k ≠ 9) : o < 2 := by
  by_cases ho : o < 2
  · exact ho
  · exfalso
    have : kd_History o = 9 := by
      unfold kd_History
      rw [List.getD_eq_getElem?_getD, List.getElem?_eq_none (by simp; omega)]
      rfl
    omega
theorem kl_Cut {o k : Nat} (h : kd_Cut o = k) (hk : k ≠ 9) : o < 2 := by
  by_cases ho : o < 2
  · exact ho
  · exfalso
    have : kd_Cut o = 9 := by
      unfold kd_Cut
      rw [List.getD_eq_getElem?_getD, List.getElem?_eq_none (by simp; omega)]
      rfl
    omega
set_option maxRecDepth 100000 in
theorem rn_Unbonding {w : World} {g b vb rb o : Nat} {err : Int} {l : List Int} {cs : List Value} {T vt : TypeId} {old : Value} (X : RdA w g b err l) (V : Blk w vb [.pointer (some ⟨g, 0, none⟩)] vt) (R : Blk w rb cs T) (hr : rb ≠ g) (ho : cs[o]? = some old) (hold : ∃ y, old = .int .u64 y) :
    Calls Tryz.prog 193 #[.pointer (some ⟨rb, o, none⟩), .pointer (some ⟨vb, 0, none⟩)] w fun e w' => e = .returned (.tuple #[]) ∧ ∃ w1, w' = w1.setCell ⟨rb, o, none⟩ (.int .u64 (rdV 0 (p1 0 l) err)) ∧ RdA w1 g b (rdE (p1 0 l) err) (rdL (p1 0 l) err l) ∧ But g w w1 := by
  obtain ⟨y, rfl⟩ := hold
  have t := rdU64 X
  show Calls Tryz.prog _ _ w fun e w' => e = .returned (.tuple #[]) ∧ ∃ w1, w' = w1.setCell ⟨rb, o, none⟩ (.int .u64 (rdV 0 (pFix 8 l) err)) ∧ RdA w1 g b (rdE (pFix 8 l) err) (rdL (pFix 8 l) err l) ∧ But g w w1
  generalize rdV 0 (pFix 8 l) err = Y at *
  generalize rdE (pFix 8 l) err = E at *
  generalize rdL (pFix 8 l) err l = Rl at *
  have cv := V.cell (i := 0) rfl
  have HR := hid3 R
  have HNE := hid3 hr
  have HO := hid3 ho
  clear X V R ho hr
  go_enter Tryz.func193, Tryz.ntmps193
  go_wp2_with (go_at_call 164; refine t.mono ?_; rintro e' w1 ⟨rfl, X1, B1⟩; clear t; have R1 := HR.out.chg (But.chg B1) HNE.out; have cr := R1.cell HO.out; have fr := R1.free o; clear R1; replace X1 := hid3 X1)
  go_end0
  exact ⟨rfl, w1, rfl, X1.out, B1⟩
set_option maxRecDepth 100000 in
theorem rt_Unbonding {w : World} {g b vb rb o : Nat} {err : Int} {l : List Int} {cs : List Value} {T vt : TypeId} {old : Value} (X : RdA w g b err l) (V : Blk w vb [.pointer (some ⟨g, 0, none⟩)] vt) (R : Blk w rb cs T) (hr : rb ≠ g) (ho : cs[o]? = some old) (hold : ∃ y, old = .bool y) :
    Calls Tryz.prog 194 #[.pointer (some ⟨rb, o, none⟩), .pointer (some ⟨vb, 0, none⟩)] w fun e w' => e = .returned (.tuple #[]) ∧ ∃ w1, w' = w1.setCell ⟨rb, o, none⟩ (.bool (rdV false (pBool l) err)) ∧ RdA w1 g b (rdE (p1 1 l) err) (rdL (p1 1 l) err l) ∧ But g w w1 := by
  obtain ⟨y, rfl⟩ := hold
  have t := rdBool X
  show Calls Tryz.prog _ _ w fun e w' => e = .returned (.tuple #[]) ∧ ∃ w1, w' = w1.setCell ⟨rb, o, none⟩ (.bool (rdV false (pBool l) err)) ∧ RdA w1 g b (rdE (pBoolI l) err) (rdL (pBoolI l) err l) ∧ But g w w1
  rw [pBoolI_E, pBoolI_L]
  generalize rdV false (pBool l) err = Y at *
  generalize rdE (pBool l) err = E at *
  generalize rdL (pBool l) err l = Rl at *
  have cv := V.cell (i := 0) rfl
  have HR := hid3 R
  have HNE := hid3 hr
  have HO := hid3 ho
  clear X V R ho hr
  go_enter Tryz.func194, Tryz.ntmps194
  go_wp2_with (go_at_call 166; refine t.mono ?_; rintro e' w1 ⟨rfl, X1, B1⟩; clear t; have R1 := HR.out.chg (But.chg B1) HNE.out; have cr := R1.cell HO.out; have fr := R1.free o; clear R1; replace X1 := hid3 X1)
  go_end0
  exact ⟨rfl, w1, rfl, X1.out, B1⟩
set_option maxRecDepth 100000 in
theorem rd_Unbonding {w : World} {g b vb rb o : Nat} {err : Int} {l : List Int} {cs : List Value} {T vt : TypeId} {old : Value} (X : RdA w g b err l) (V : Blk w vb [.pointer (some ⟨g, 0, none⟩)] vt) (R : Blk w rb cs T) (hr : rb ≠ g) (ho : cs[o]? = some old) (hold : ∃ a n c, old = .slice a n c) :
    Calls Tryz.prog 195 #[.pointer (some ⟨rb, o, none⟩), .pointer (some ⟨vb, 0, none⟩)] w fun e w' => e = .returned (.tuple #[]) ∧ ∃ w1 ao n c, w' = w1.setCell ⟨rb, o, none⟩ (.slice ao n c) ∧ NatW w1 w.heap.size ao n c (rdV 0 (p1 2 l) err) ∧ n ≤ 255 ∧ RdA w1 g b (rdE (p1 2 l) err) (rdL (p1 2 l) err l) ∧ But g w w1 := by
  obtain ⟨oa, on, oc, rfl⟩ := hold
  have t := rdDecW X
  show Calls Tryz.prog _ _ w fun e w' => e = .returned (.tuple #[]) ∧ ∃ w1 ao n c, w' = w1.setCell ⟨rb, o, none⟩ (.slice ao n c) ∧ NatW w1 w.heap.size ao n c (rdV 0 (pNat l) err) ∧ n ≤ 255 ∧ RdA w1 g b (rdE (pNat l) err) (rdL (pNat l) err l) ∧ But g w w1
  generalize rdV 0 (pNat l) err = Y at *
  generalize rdE (pNat l) err = E at *
  generalize rdL (pNat l) err l = Rl at *
  have cv := V.cell (i := 0) rfl
  have HR := hid3 R
  have HNE := hid3 hr
  have HO := hid3 ho
  clear X V R ho hr
  go_enter Tryz.func195, Tryz.ntmps195
  go_wp2_with (go_at_call 168; refine t.mono ?_; rintro e' w1 ⟨a1, n1, d1, rfl, N1, hn1, X1, B1⟩; clear t; have R1 := HR.out.chg (But.chg B1) HNE.out; have cr := R1.cell HO.out; have fr := R1.free o; clear R1; replace X1 := hid3 X1)
  go_end0
  exact ⟨rfl, w1, a1, n1, d1, rfl, N1, hn1, X1.out, B1⟩
theorem kl_Unbonding {o k : Nat} (h : kd_Unbonding o = k) (hk : k ≠ 9) : o < 6 := by
  by_cases ho : o < 6
  · exact ho
  · exfalso
    have : kd_Unbonding o = 9 := by
      unfold kd_Unbonding
      rw [List.getD_eq_getElem?_getD, List.getElem?_eq_none (by simp; omega)]
      rfl
    omega
theorem rhc_Unbonding {w0 : World} {B g b vb rb : Nat} {T vt : TypeId} : HC RSt (fun s w => RI w0 B g b vb rb kd_Unbonding 6 T vt s w ∧ B ≤ w.heap.size) (fun y => y = g ∨ y = rb) rb 193 194 195 (.pointer (some ⟨vb, 0, none⟩)) rnx kd_Unbonding (fun _ => True) where
  oks := fun _ _ _ _ => trivial
  keep := fun s w w' h Bl => by
    obtain ⟨h, hB⟩ := h
    obtain ⟨cs, h1, h2, h3⟩ := h.rc
    exact ⟨⟨h.rd.keep Bl, h.var.keep Bl, ⟨cs, h1, h2.keep Bl, h3.off Bl.size (fun y _ hy => Bl.block y hy)⟩, h.bel.trans (Bl.mono h.bel.size), h.s1, h.s2, h.s3, h.s4, h.g1, h.r1, h.g0, h.r0⟩, Nat.le_trans hB Bl.size⟩
  old := fun s w y h e => by
    have := h.1.g1
    have := h.1.r1
    have := h.2
    rcases e with e | e <;> omega
  e1 := fun _ _ => by kernel_rfl
  e2 := fun _ _ => by kernel_rfl
  e3 := fun _ _ => by kernel_rfl
  u := fun s w o h _ hk => by
    obtain ⟨h, hB⟩ := h
    obtain ⟨cs, h1, h2, h3⟩ := h.rc
    refine (rn_Unbonding h.rd h.var h2 h.s1 ((h3 o).1 hk) ⟨_, rfl⟩).mono ?_
    rintro e w' ⟨rfl, w1, rfl, X, Bu⟩
    obtain ⟨r1, r2⟩ := h.step hk (kl_Unbonding hk (by decide)) X Bu (.inl ⟨rfl, rfl⟩)
    exact ⟨rfl, ⟨r1, Nat.le_trans hB r2.size⟩, r2⟩
  t := fun s w o h _ hk => by
    obtain ⟨h, hB⟩ := h
    obtain ⟨cs, h1, h2, h3⟩ := h.rc
    obtain ⟨t, ht, _⟩ := (h3 o).2.1 hk
    refine (rt_Unbonding h.rd h.var h2 h.s1 ht ⟨_, rfl⟩).mono ?_
    rintro e w' ⟨rfl, w1, rfl, X, Bu⟩
    obtain ⟨r1, r2⟩ := h.step hk (kl_Unbonding hk (by decide)) X Bu (x := rdV 0 (p1 1 s.2.1) s.1) (.inr (.inl ⟨rfl, _, rfl, pBoolI_V _ _⟩))
    exact ⟨rfl, ⟨r1, Nat.le_trans hB r2.size⟩, r2⟩
  d := fun s w o h _ hk => by
    obtain ⟨h, hB⟩ := h
    obtain ⟨cs, h1, h2, h3⟩ := h.rc
    obtain ⟨ao, n, c, ht, _⟩ := (h3 o).2.2 hk
    refine (rd_Unbonding h.rd h.var h2 h.s1 ht ⟨_, _, _, rfl⟩).mono ?_
    rintro e w' ⟨rfl, w1, a1, n1, c1, rfl, hN, hn, X, Bu⟩
    obtain ⟨r1, r2⟩ := h.step hk (kl_Unbonding hk (by decide)) X Bu (x := rdV 0 (p1 2 s.2.1) s.1) (.inr (.inr ⟨rfl, _, _, _, rfl, hN.low hB, hn⟩))
    exact ⟨rfl, ⟨r1, Nat.le_trans hB r2.size⟩, r2⟩
set_option maxRecDepth 100000 in
theorem rn_Move {w : World} {g b vb rb o : Nat} {err : Int} {l : List Int} {cs : List Value} {T vt : TypeId} {old : Value} (X : RdA w g b err l) (V : Blk w vb [.pointer (some ⟨g, 0, none⟩)] vt) (R : Blk w rb cs T) (hr : rb ≠ g) (ho : cs[o]? = some old) (hold : ∃ y, old = .int .u64 y) :
    Calls Tryz.prog 202 #[.pointer (some ⟨rb, o, none⟩), .pointer (some ⟨vb, 0, none⟩)] w fun e w' => e = .returned (.tuple #[]) ∧ ∃ w1, w' = w1.setCell ⟨rb, o, none⟩ (.int .u64 (rdV 0 (p1 0 l) err)) ∧ RdA w1 g b (rdE (p1 0 l) err) (rdL (p1 0 l) err l) ∧ But g w w1 := by
  obtain ⟨y, rfl⟩ := hold
  have t := rdU64 X
  show Calls Tryz.prog _ _ w fun e w' => e = .returned (.tuple #[]) ∧ ∃ w1, w' = w1.setCell ⟨rb, o, none⟩ (.int .u64 (rdV 0 (pFix 8 l) err)) ∧ RdA w1 g b (rdE (pFix 8 l) err) (rdL (pFix 8 l) err l) ∧ But g w w1
  generalize rdV 0 (pFix 8 l) err = Y at *
  generalize rdE (pFix 8 l) err = E at *
  generalize rdL (pFix 8 l) err l = Rl at *
  have cv := V.cell (i := 0) rfl
  have HR := hid3 R
  have HNE := hid3 hr
  have HO := hid3 ho
  clear X V R ho hr
  go_enter Tryz.func202, Tryz.ntmps202
  go_wp2_with (go_at_call 164; refine t.mono ?_; rintro e' w1 ⟨rfl, X1, B1⟩; clear t; have R1 := HR.out.chg (But.chg B1) HNE.out; have cr := R1.cell HO.out; have fr := R1.free o; clear R1; replace X1 := hid3 X1)
  go_end0
  exact ⟨rfl, w1, rfl, X1.out, B1⟩
set_option maxRecDepth 100000 in
theorem rt_Move {w : World} {g b vb rb o : Nat} {err : Int} {l : List Int} {cs : List Value} {T vt : TypeId} {old : Value} (X : RdA w g b err l) (V : Blk w vb [.pointer (some ⟨g, 0, none⟩)] vt) (R : Blk w rb cs T) (hr : rb ≠ g) (ho : cs[o]? = some old) (hold : ∃ y, old = .bool y) :
    Calls Tryz.prog 203 #[.pointer (some ⟨rb, o, none⟩), .pointer (some ⟨vb, 0, none⟩)] w fun e w' => e = .returned (.tuple #[]) ∧ ∃ w1, w' = w1.setCell ⟨rb, o, none⟩ (.bool (rdV false (pBool l) err)) ∧ RdA w1 g b (rdE (p1 1 l) err) (rdL (p1 1 l) err l) ∧ But g w w1 := by
  obtain ⟨y, rfl⟩ := hold
  have t := rdBool X
  show Calls Tryz.prog _ _ w fun e w' => e = .returned (.tuple #[]) ∧ ∃ w1, w' = w1.setCell ⟨rb, o, none⟩ (.bool (rdV false (pBool l) err)) ∧ RdA w1 g b (rdE (pBoolI l) err) (rdL (pBoolI l) err l) ∧ But g w w1
  rw [pBoolI_E, pBoolI_L]
  generalize rdV false (pBool l) err = Y at *
  generalize rdE (pBool l) err = E at *
  generalize rdL (pBool l) err l = Rl at *
  have cv := V.cell (i := 0) rfl
  have HR := hid3 R
  have HNE := hid3 hr
  have HO := hid3 ho
  clear X V R ho hr
  go_enter Tryz.func203, Tryz.ntmps203
  go_wp2_with (go_at_call 166; refine t.mono ?_; rintro e' w1 ⟨rfl, X1, B1⟩; clear t; have R1 := HR.out.chg (But.chg B1) HNE.out; have cr := R1.cell HO.out; have fr := R1.free o; clear R1; replace X1 := hid3 X1)
  go_end0
  exact ⟨rfl, w1, rfl, X1.out, B1⟩
set_option maxRecDepth 100000 in
theorem rd_Move {w : World} {g b vb rb o : Nat} {err : Int} {l : List Int} {cs : List Value} {T vt : TypeId} {old : Value} (X : RdA w g b err l) (V : Blk w vb [.pointer (some ⟨g, 0, none⟩)] vt) (R : Blk w rb cs T) (hr : rb ≠ g) (ho : cs[o]? = some old) (hold : ∃ a n c, old = .slice a n c) :
    Calls Tryz.prog 204 #[.pointer (some ⟨rb, o, none⟩), .pointer (some ⟨vb, 0, none⟩)] w fun e w' => e = .returned (.tuple #[]) ∧ ∃ w1 ao n c, w' = w1.setCell ⟨rb, o, none⟩ (.slice ao n c) ∧ NatW w1 w.heap.size ao n c (rdV 0 (p1 2 l) err) ∧ n ≤ 255 ∧ RdA w1 g b (rdE (p1 2 l) err) (rdL (p1 2 l) err l) ∧ But g w w1 := by
  obtain ⟨oa, on, oc, rfl⟩ := hold
  have t := rdDecW X
  show Calls Tryz.prog _ _ w fun e w' => e = .returned (.tuple #[]) ∧ ∃ w1 ao n c, w' = w1.setCell ⟨rb, o, none⟩ (.slice ao n c) ∧ NatW w1 w.heap.size ao n c (rdV 0 (pNat l) err) ∧ n ≤ 255 ∧ RdA w1 g b (rdE (pNat l) err) (rdL (pNat l) err l) ∧ But g w w1
  generalize rdV 0 (pNat l) err = Y at *
  generalize rdE (pNat l) err = E at *
  generalize rdL (pNat l) err l = Rl at *
  have cv := V.cell (i := 0) rfl
  have HR := hid3 R
  have HNE := hid3 hr
  have HO := hid3 ho
  clear X V R ho hr
  go_enter Tryz.func204, Tryz.ntmps204
  go_wp2_with (go_at_call 168; refine t.mono ?_; rintro e' w1 ⟨a1, n1, d1, rfl, N1, hn1, X1, B1⟩; clear t; have R1 := HR.out.chg (But.chg B1) HNE.out; have cr := R1.cell HO.out; have fr := R1.free o; clear R1; replace X1 := hid3 X1)
  go_end0
  exact ⟨rfl, w1, a1, n1, d1, rfl, N1, hn1, X1.out, B1⟩
theorem kl_Move {o k : Nat} (h : kd_Move o = k) (hk : k ≠ 9) : o < 7 := by
  by_cases ho : o < 7
  · exact ho
  · exfalso
    have : kd_Move o = 9 := by
      unfold kd_Move
      rw [List.getD_eq_getElem?_getD, List.getElem?_eq_none (by simp; omega)]
      rfl
    omega
theorem rhc_Move {w0 : World} {B g b vb rb : Nat} {T vt : TypeId} : HC RSt (fun s w => RI w0 B g b vb rb kd_Move 7 T vt s w ∧ B ≤ w.heap.size) (fun y => y = g ∨ y = rb) rb 202 203 204 (.pointer (some ⟨vb, 0, none⟩)) rnx kd_Move (fun _ => True) where
  oks := fun _ _ _ _ => trivial
  keep := fun s w w' h Bl => by
    obtain ⟨h, hB⟩ := h
    obtain ⟨cs, h1, h2, h3⟩ := h.rc
    exact ⟨⟨h.rd.keep Bl, h.var.keep Bl, ⟨cs, h1, h2.keep Bl, h3.off Bl.size (fun y _ hy => Bl.block y hy)⟩, h.bel.trans (Bl.mono h.bel.size), h.s1, h.s2, h.s3, h.s4, h.g1, h.r1, h.g0, h.r0⟩, Nat.le_trans hB Bl.size⟩
  old := fun s w y h e => by
    have := h.1.g1
    have := h.1.r1
    have := h.2
    rcases e with e | e <;> omega
  e1 := fun _ _ => by kernel_rfl
  e2 := fun _ _ => by kernel_rfl
  e3 := fun _ _ => by kernel_rfl
  u := fun s w o h _ hk => by
    obtain ⟨h, hB⟩ := h
    obtain ⟨cs, h1, h2, h3⟩ := h.rc
    refine (rn_Move h.rd h.var h2 h.s1 ((h3 o).1 hk) ⟨_, rfl⟩).mono ?_
    rintro e w' ⟨rfl, w1, rfl, X, Bu⟩
    obtain ⟨r1, r2⟩ := h.step hk (kl_Move hk (by decide)) X Bu (.inl ⟨rfl, rfl⟩)
    exact ⟨rfl, ⟨r1, Nat.le_trans hB r2.size⟩, r2⟩
  t := fun s w o h _ hk => by
    obtain ⟨h, hB⟩ := h
    obtain ⟨cs, h1, h2, h3⟩ := h.rc
    obtain ⟨t, ht, _⟩ := (h3 o).2.1 hk
    refine (rt_Move h.rd h.var h2 h.s1 ht ⟨_, rfl⟩).mono ?_
    rintro e w' ⟨rfl, w1, rfl, X, Bu⟩
    obtain ⟨r1, r2⟩ := h.step hk (kl_Move hk (by decide)) X Bu (x := rdV 0 (p1 1 s.2.1) s.1) (.inr (.inl ⟨rfl, _, rfl, pBoolI_V _ _⟩))
    exact ⟨rfl, ⟨r1, Nat.le_trans hB r2.size⟩, r2⟩
  d := fun s w o h _ hk => by
    obtain ⟨h, hB⟩ := h
    obtain ⟨cs, h1, h2, h3⟩ := h.rc
    obtain ⟨ao, n, c, ht, _⟩ := (h3 o).2.2 hk
    refine (rd_Move h.rd h.var h2 h.s1 ht ⟨_, _, _, rfl⟩).mono ?_
    rintro e w' ⟨rfl, w1, a1, n1, c1, rfl, hN, hn, X, Bu⟩
    obtain ⟨r1, r2⟩ := h.step hk (kl_Move hk (by decide)) X Bu (x := rdV 0 (p1 2 s.2.1) s.1) (.inr (.inr ⟨rfl, _, _, _, rfl, hN.low hB, hn⟩))
    exact ⟨rfl, ⟨r1, Nat.le_trans hB r2.size⟩, r2⟩
set_option maxRecDepth 100000 in
theorem rn_Number {w : World} {g b vb rb o : Nat} {err : Int} {l : List Int} {cs : List Value} {T vt : TypeId} {old : Value} (X : RdA w g b err l) (V : Blk w vb [.pointer (some ⟨g, 0, none⟩)] vt) (R : Blk w rb cs T) (hr : rb ≠ g) (ho : cs[o]? = some old) (hold : ∃ y, old = .int .u64 y) :
    Calls Tryz.prog 163 #[.pointer (some ⟨rb, o, none⟩), .pointer (some ⟨vb, 0, none⟩)] w fun e w' => e = .returned (.tuple #[]) ∧ ∃ w1, w' = w1.setCell ⟨rb, o, none⟩ (.int .u64 (rdV 0 (p1 0 l) err)) ∧ RdA w1 g b (rdE (p1 0 l) err) (rdL (p1 0 l) err l) ∧ But g w w1 := by
  obtain ⟨y, rfl⟩ := hold
  have t := rdU64 X
  show Calls Tryz.prog _ _ w fun e w' => e = .returned (.tuple #[]) ∧ ∃ w1, w' = w1.setCell ⟨rb, o, none⟩ (.int .u64 (rdV 0 (pFix 8 l) err)) ∧ RdA w1 g b (rdE (pFix 8 l) err) (rdL (pFix 8 l) err l) ∧ But g w w1
  generalize rdV 0 (pFix 8 l) err = Y at *
  generalize rdE (pFix 8 l) err = E at *
  generalize rdL (pFix 8 l) err l = Rl at *
  have cv := V.cell (i := 0) rfl
  have HR := hid3 R
  have HNE := hid3 hr
  have HO := hid3 ho
  clear X V R ho hr
  go_enter Tryz.func163, Tryz.ntmps163
  go_wp2_with (go_at_call 164; refine t.mono ?_; rintro e' w1 ⟨rfl, X1, B1⟩; clear t; have R1 := HR.out.chg (But.chg B1) HNE.out; have cr := R1.cell HO.out; have fr := R1.free o; clear R1; replace X1 := hid3 X1)
  go_end0
  exact ⟨rfl, w1, rfl, X1.out, B1⟩
set_option maxRecDepth 100000 in
theorem rt_Number {w : World} {g b vb rb o : Nat} {err : Int} {l : List Int} {cs : List Value} {T vt : TypeId} {old : Value} (X : RdA w g b err l) (V : Blk w vb [.pointer (some ⟨g, 0, none⟩)] vt) (R : Blk w rb cs T) (hr : rb ≠ g) (ho : cs[o]? = some old) (hold : ∃ y, old = .bool y) :
    Calls Tryz.prog 165 #[.pointer (some ⟨rb, o, none⟩), .pointer (some ⟨vb, 0, none⟩)] w fun e w' => e = .returned (.tuple #[]) ∧ ∃ w1, w' = w1.setCell ⟨rb, o, none⟩ (.bool (rdV false (pBool l) err)) ∧ RdA w1 g b (rdE (p1 1 l) err) (rdL (p1 1 l) err l) ∧ But g w w1 := by
  obtain ⟨y, rfl⟩ := hold
  have t := rdBool X
  show Calls Tryz.prog _ _ w fun e w' => e = .returned (.tuple #[]) ∧ ∃ w1, w' = w1.setCell ⟨rb, o, none⟩ (.bool (rdV false (pBool l) err)) ∧ RdA w1 g b (rdE (pBoolI l) err) (rdL (pBoolI l) err l) ∧ But g w w1
  rw [pBoolI_E, pBoolI_L]
  generalize rdV false (pBool l) err = Y at *
  generalize rdE (pBool l) err = E at *
  generalize rdL (pBool l) err l = Rl at *
  have cv := V.cell (i := 0) rfl
  have HR := hid3 R
  have HNE := hid3 hr
  have HO := hid3 ho
  clear X V R ho hr
  go_enter Tryz.func165, Tryz.ntmps165
  go_wp2_with (go_at_call 166; refine t.mono ?_; rintro e' w1 ⟨rfl, X1, B1⟩; clear t; have R1 := HR.out.chg (But.chg B1) HNE.out; have cr := R1.cell HO.out; have fr := R1.free o; clear R1; replace X1 := hid3 X1)
  go_end0
  exact ⟨rfl, w1, rfl, X1.out, B1⟩
set_option maxRecDepth 100000 in
theorem rd_Number {w : World} {g b vb rb o : Nat} {err : Int} {l : List Int} {cs : List Value} {T vt : TypeId} {old : Value} (X : RdA w g b err l) (V : Blk w vb [.pointer (some ⟨g, 0, none⟩)] vt) (R : Blk w rb cs T) (hr : rb ≠ g) (ho : cs[o]? = some old) (hold : ∃ a n c, old = .slice a n c) :
    Calls Tryz.prog 167 #[.pointer (some ⟨rb, o, none⟩), .pointer (some ⟨vb, 0, none⟩)] w fun e w' => e = .returned (.tuple #[]) ∧ ∃ w1 ao n c, w' = w1.setCell ⟨rb, o, none⟩ (.slice ao n c) ∧ NatW w1 w.heap.size ao n c (rdV 0 (p1 2 l) err) ∧ n ≤ 255 ∧ RdA w1 g b (rdE (p1 2 l) err) (rdL (p1 2 l) err l) ∧ But g w w1 := by
  obtain ⟨oa, on, oc, rfl⟩ := hold
  have t := rdDecW X
  show Calls Tryz.prog _ _ w fun e w' => e = .returned (.tuple #[]) ∧ ∃ w1 ao n c, w' = w1.setCell ⟨rb, o, none⟩ (.slice ao n c) ∧ NatW w1 w.heap.size ao n c (rdV 0 (pNat l) err) ∧ n ≤ 255 ∧ RdA w1 g b (rdE (pNat l) err) (rdL (pNat l) err l) ∧ But g w w1
  generalize rdV 0 (pNat l) err = Y at *
  generalize rdE (pNat l) err = E at *
  generalize rdL (pNat l) err l = Rl at *
  have cv := V.cell (i := 0) rfl
  have HR := hid3 R
  have HNE := hid3 hr
  have HO := hid3 ho
  clear X V R ho hr
  go_enter Tryz.func167, Tryz.ntmps167
  go_wp2_with (go_at_call 168; refine t.mono ?_; rintro e' w1 ⟨a1, n1, d1, rfl, N1, hn1, X1, B1⟩; clear t; have R1 := HR.out.chg (But.chg B1) HNE.out; have cr := R1.cell HO.out; have fr := R1.free o; clear R1; replace X1 := hid3 X1)
  go_end0
  exact ⟨rfl, w1, a1, n1, d1, rfl, N1, hn1, X1.out, B1⟩
theorem kl_Number {o k : Nat} (h : kd_Number o = k) (hk : k ≠ 9) : o < 1 := by
  by_cases ho : o < 1
  · exact ho
  · exfalso
    have : kd_Number o = 9 := by
      unfold kd_Number
      rw [List.getD_eq_getElem?_getD, List.getElem?_eq_none (by simp; omega)]
      rfl
    omega
theorem rhc_Number {w0 : World} {B g b vb rb : Nat} {T vt : TypeId} : HC RSt (fun s w => RI w0 B g b vb rb kd_Number 1 T vt s w ∧ B ≤ w.heap.size) (fun y => y = g ∨ y = rb) rb 163 165 167 (.pointer (some ⟨vb, 0, none⟩)) rnx kd_Number (fun _ => True) where
  oks := fun _ _ _ _ => trivial
  keep := fun s w w' h Bl => by
    obtain ⟨h, hB⟩ := h
    obtain ⟨cs, h1, h2, h3⟩ := h.rc
    exact ⟨⟨h.rd.keep Bl, h.var.keep Bl, ⟨cs, h1, h2.keep Bl, h3.off Bl.size (fun y _ hy => Bl.block y hy)⟩, h.bel.trans (Bl.mono h.bel.size), h.s1, h.s2, h.s3, h.s4, h.g1, h.r1, h.g0, h.r0⟩, Nat.le_trans hB Bl.size⟩
  old := fun s w y h e => by
    have := h.1.g1
    have := h.1.r1
    have := h.2
    rcases e with e | e <;> omega
  e1 := fun _ _ => by kernel_rfl
  e2 := fun _ _ => by kernel_rfl
  e3 := fun _ _ => by kernel_rfl
  u := fun s w o h _ hk => by
    obtain ⟨h, hB⟩ := h
    obtain ⟨cs, h1, h2, h3⟩ := h.rc
    refine (rn_Number h.rd h.var h2 h.s1 ((h3 o).1 hk) ⟨_, rfl⟩).mono ?_
    rintro e w' ⟨rfl, w1, rfl, X, Bu⟩
    obtain ⟨r1, r2⟩ := h.step hk (kl_Number hk (by decide)) X Bu (.inl ⟨rfl, rfl⟩)
    exact ⟨rfl, ⟨r1, Nat.le_trans hB r2.size⟩, r2⟩
  t := fun s w o h _ hk => by
    obtain ⟨h, hB⟩ := h
    obtain ⟨cs, h1, h2, h3⟩ := h.rc
    obtain ⟨t, ht, _⟩ := (h3 o).2.1 hk
    refine (rt_Number h.rd h.var h2 h.s1 ht ⟨_, rfl⟩).mono ?_
    rintro e w' ⟨rfl, w1, rfl, X, Bu⟩
    obtain ⟨r1, r2⟩ := h.step hk (kl_Number hk (by decide)) X Bu (x := rdV 0 (p1 1 s.2.1) s.1) (.inr (.inl ⟨rfl, _, rfl, pBoolI_V _ _⟩))
    exact ⟨rfl, ⟨r1, Nat.le_trans hB r2.size⟩, r2⟩
  d := fun s w o h _ hk => by
    obtain ⟨h, hB⟩ := h
    obtain ⟨cs, h1, h2, h3⟩ := h.rc
    obtain ⟨ao, n, c, ht, _⟩ := (h3 o).2.2 hk
    refine (rd_Number h.rd h.var h2 h.s1 ht ⟨_, _, _, rfl⟩).mono ?_
    rintro e w' ⟨rfl, w1, a1, n1, c1, rfl, hN, hn, X, Bu⟩
    obtain ⟨r1, r2⟩ := h.step hk (kl_Number hk (by decide)) X Bu (x := rdV 0 (p1 2 s.2.1) s.1) (.inr (.inr ⟨rfl, _, _, _, rfl, hN.low hB, hn⟩))
    exact ⟨rfl, ⟨r1, Nat.le_trans hB r2.size⟩, r2⟩
end Rc
end Go.Proofs.YtidnifmehnjipaaGreat

namespace Go.Proofs.YtidnifmehnjipaaGreat
namespace Rc
open Go.RowKit Go.Lib Pg
attribute [local go_sem] Oper.semAt_some
theorem rdL_len {α : Type} (p : Int ⊕ α × Nat) (err : Int) (l : List Int) : (rdL p err l).length ≤ l.length := by
  unfold rdL
  split
  · cases p
    · exact Nat.le_refl _
    · simp
  · exact Nat.le_refl _
theorem thr_len (ks : List (Nat × Nat)) : ∀ s : RSt, (thr rnx ks s).2.1.length ≤ s.2.1.length := by
  induction ks with
  | nil => intro s; exact Nat.le_refl _
  | cons p ks ih =>
    intro s
    have e : thr rnx (p :: ks) s = thr rnx ks (rnx p.1 p.2 s) := rfl
    rw [e]
    exact Nat.le_trans (ih _) (rdL_len _ _ _)
/-- how a record's reading ends -/
structure FinR (w : World) (kd : Nat → Nat) (len : Nat) (mk : List Value → Value) (s : RSt) (e : Ending) (w' : World) : Prop where
  ex : ∃ cs xs r, e = .returned (.tuple #[mk cs, .int .i64 r]) ∧ cs.length = len ∧ FldR w' w.heap.size kd cs xs ∧ (endE s.1 s.2.1 = 0 → r = 0 ∧ xs = s.2.2) ∧ (endE s.1 s.2.1 ≠ 0 → r = 80 ∧ xs = fun _ => 0)
  bel : Below w.heap.size w w'
theorem FldR.low {w : World} {B B' : Nat} {kd : Nat → Nat} {cs : List Value} {xs : Nat → Int} (h : FldR w B kd cs xs) (hB : B' ≤ B) : FldR w B' kd cs xs := fun o => ⟨(h o).1, (h o).2.1, fun hk => by
  obtain ⟨ao, n, c, h1, h2, h3⟩ := (h o).2.2 hk
  exact ⟨ao, n, c, h1, h2.low hB, h3⟩⟩
theorem ret_rc {fn : Func} {p u : Tmp} {T : TypeId} (h : fn.results = #[.cell p T, .tmp u]) {tmps : Array Value} {w : World} {g : Nat} {v x : Value} (hp : tmps.getD p undef = .pointer (some ⟨g, 0, none⟩)) (hu : tmps.getD u undef = x) (hl : (loadVar T ⟨g, 0, none⟩).run Tryz.prog w = .ok v w) : (results fn tmps).run Tryz.prog w = .ok (.tuple #[v, x]) w := by
  have hp' : tmps[p]?.getD undef = .pointer (some ⟨g, 0, none⟩) := by simpa using hp
  have hu' : tmps[u]?.getD undef = x := by simpa using hu
  simp [results, h, hp', hu', asAddr, hl]
def mkA (cs : List Value) : Value := .agg cs.toArray
def mkO (cs : List Value) : Value := cs.headD undef
theorem ld_Chain {w : World} {g : Nat} {y0 y1 : Value} (c0 : w.cell? ⟨g, 0, none⟩ = some y0) (c1 : w.cell? ⟨g, 1, none⟩ = some y1) : (loadVar 40 ⟨g, 0, none⟩).run Tryz.prog w = .ok (.agg #[y0, y1]) w := by go_simp
set_option maxHeartbeats 4000000 in
set_option maxRecDepth 100000 in
theorem read_Chain {w : World} {bb n c : Nat} {ao : Option Addr} {l : List Int} (A : ByA w bb ao n c l) (hn : n ≤ 1000000000) (hl : l.length = n) :
    Calls Tryz.prog 186 #[.slice ao n c, .func (.func 86) #[] #[]] w (FinR w kd_Chain 2 mkA (thr rnx [(0, 0), (0, 1)] (0, l, fun _ => (0 : Int)))) := by
  have b1 := below_alloc w (.cells #[.int .u64 0, .int .u64 0] 40)
  have b2 := below_alloc (w.alloc (.cells #[.int .u64 0, .int .u64 0] 40)) (.cells #[.int .u64 0, .int .u64 0] 40)
  have b3 := below_alloc ((w.alloc (.cells #[.int .u64 0, .int .u64 0] 40)).alloc (.cells #[.int .u64 0, .int .u64 0] 40)) (.cells #[.int .u64 0, .int .u64 0] 40)
  have z1 := size_al w (.cells #[.int .u64 0, .int .u64 0] 40)
  have z2 := size_al (w.alloc (.cells #[.int .u64 0, .int .u64 0] 40)) (.cells #[.int .u64 0, .int .u64 0] 40)
  have z3 := size_al ((w.alloc (.cells #[.int .u64 0, .int .u64 0] 40)).alloc (.cells #[.int .u64 0, .int .u64 0] 40)) (.cells #[.int .u64 0, .int .u64 0] 40)
  have y1 := ((blk_new w [.int .u64 0, .int .u64 0] 40).keep b2).keep b3
  have y2 := (blk_new (w.alloc (.cells #[.int .u64 0, .int .u64 0] 40)) [.int .u64 0, .int .u64 0] 40).keep b3
  have y3 := blk_new ((w.alloc (.cells #[.int .u64 0, .int .u64 0] 40)).alloc (.cells #[.int .u64 0, .int .u64 0] 40)) [.int .u64 0, .int .u64 0] 40
  rw [z2, z1] at y3
  rw [z1] at y2
  rw [z2, z1] at z3
  obtain ⟨W3, hW3⟩ : ∃ W3, Hid ((((w.alloc (.cells #[.int .u64 0, .int .u64 0] 40)).alloc (.cells #[.int .u64 0, .int .u64 0] 40)).alloc (.cells #[.int .u64 0, .int .u64 0] 40)) = W3) := ⟨_, rfl⟩
  have BB := joinB (joinB b1 b2) b3
  rw [hW3.out] at BB y1 y2 y3 z3
  have HN := hid3 (rdNew (A.keep BB) (by omega))
  have Y1 := hid3 y1
  have Y2 := hid3 y2
  have Y3 := hid3 y3
  have Z3 := hid3 z3
  have HBB := hid3 BB
  have HL := hid3 hl
  clear b1 b2 b3 z1 z2 z3 y1 y2 y3 BB A hl
  obtain ⟨st, hst⟩ : ∃ st, Hid (thr rnx [(0, 0), (0, 1)] (0, l, fun _ => (0 : Int)) = st) := ⟨_, rfl⟩
  have hsl : st.2.1.length ≤ n := by have h := thr_len [(0, 0), (0, 1)] (0, l, fun _ => (0 : Int)); rw [hst.out] at h; rw [HL.out] at h; exact h
  rw [hst.out]
  go_enter Tryz.func186, Tryz.ntmps186
  go_wp2_with fail
  rw [hW3.out]
  refine HN.out.mono ?_
  rintro e' w4 ⟨g, b', rfl, hg, hb', X4, B4⟩
  have b5 := below_alloc w4 (.cells #[.pointer (some ⟨g, 0, none⟩)] 257)
  have v5 := blk_new w4 [.pointer (some ⟨g, 0, none⟩)] 257
  have z5 := size_al w4 (.cells #[.pointer (some ⟨g, 0, none⟩)] 257)
  obtain ⟨W5, hW5⟩ : ∃ W5, Hid (w4.alloc (.cells #[.pointer (some ⟨g, 0, none⟩)] 257) = W5) := ⟨_, rfl⟩
  rw [hW5.out] at b5 v5 z5
  have hgl := X4.lt
  have hz3 := Z3.out
  have hz4 := B4.size
  have F0 : FldR W5 W5.heap.size kd_Chain [.int .u64 0, .int .u64 0] (fun _ => 0) := fun o => match o with
    | 0 => ⟨fun _ => rfl, fun h => absurd h (by decide), fun h => absurd h (by decide)⟩
    | 1 => ⟨fun _ => rfl, fun h => absurd h (by decide), fun h => absurd h (by decide)⟩
    | k + 2 => ⟨fun h => absurd h (by simp [kd_Chain]), fun h => absurd h (by simp [kd_Chain]), fun h => absurd h (by simp [kd_Chain])⟩
  have U := ofChain_any (rhc_Chain (w0 := w) (B := W5.heap.size) (g := g) (b := b') (vb := w4.heap.size) (rb := w.heap.size + 1) (T := 40) (vt := 257)) (s := (0, l, fun _ => (0 : Int))) (w := W5) ⟨⟨X4.keep b5, v5, ⟨_, rfl, (Y2.out.keep B4).keep b5, F0⟩, joinB (joinB HBB.out B4) b5, by omega, by omega, by omega, by omega, by omega, by omega, by omega, by omega⟩, Nat.le_refl _⟩ (by simp [kd_Chain]) trivial
  rw [hst.out] at U
  have HU := hid3 U
  have P1 := hid3 ((Y1.out.keep B4).keep b5)
  have P3 := hid3 ((Y3.out.keep B4).keep b5)
  have HS := hid3 (show w.heap.size ≠ g ∧ w.heap.size + 1 + 1 ≠ g ∧ w.heap.size + 1 + 1 ≠ w.heap.size + 1 ∧ w.heap.size ≠ w.heap.size + 1 ∧ w.heap.size ≤ W5.heap.size ∧ w.heap.size ≤ g from ⟨by omega, by omega, by omega, by omega, by omega, by omega⟩)
  clear U b5 v5 z5 hgl hz3 hz4 F0 X4 B4 hg hb' HN Y1 Y2 Y3
  go_wp2_with fail
  rw [hW5.out]
  refine HU.out.mono ?_
  rintro e' w6 ⟨rfl, ⟨I6, hB6⟩, C6⟩
  have c6 := I6.var.cell (i := 0) rfl
  go_wp2_with fail
  refine (rdEnd I6.rd (by omega)).mono ?_
  rintro e' w7 ⟨rfl, X7, B7⟩
  obtain ⟨cs6, hl6, R6, F6⟩ := I6.rc
  obtain ⟨XS, hXS⟩ : ∃ XS, Hid (st.2.2 = XS) := ⟨_, rfl⟩
  rw [hXS.out] at F6
  have hF6 := hid3 F6
  have q0 := (F6 0).1 rfl
  have q1 := (F6 1).1 rfl
  have ecs : cs6 = [.int .u64 (XS 0), .int .u64 (XS 1)] := by
    apply List.ext_getElem?
    intro i
    match i with
    | 0 => rw [q0]; rfl
    | 1 => rw [q1]; rfl
    | k + 2 => rw [List.getElem?_eq_none (by omega), List.getElem?_eq_none (by simp)]
  subst ecs
  have C7 := But.chg B7
  have K1 := (P1.out.chg C6 (fun h => h.elim HS.out.1 HS.out.2.2.2.1)).chg C7 HS.out.1
  have K3 := (P3.out.chg C6 (fun h => h.elim HS.out.2.1 HS.out.2.2.1)).chg C7 HS.out.2.1
  have K2 := R6.chg C7 I6.s1
  have BF := hid3 (B7.below I6.bel HS.out.2.2.2.2.2 (Nat.le_refl _))
  have hF7 := hid3 ((hF6.out.off (w' := w7) B7.size (fun y hy hy2 => B7.block y hy2 (by have := I6.g1; omega))))
  have hBw := hid3 (show w.heap.size < W5.heap.size ∧ w.heap.size < w7.heap.size from ⟨by have := I6.r1; omega, K1.lt⟩)
  have u0 := K1.cell (i := 0) rfl
  have f0 := K1.free 0
  have v0 := K2.cell (i := 0) rfl
  have o0 := K3.cell (i := 0) rfl
  have u1 := K1.cell (i := 1) rfl
  have f1 := K1.free 1
  have v1 := K2.cell (i := 1) rfl
  have o1 := K3.cell (i := 1) rfl
  have KFblk := hid3 (show Blk ((w7.setCell ⟨w.heap.size, 0, none⟩ (.int .u64 (XS 0))).setCell ⟨w.heap.size, 1, none⟩ (.int .u64 (XS 1))) w.heap.size [.int .u64 (XS 0), .int .u64 (XS 1)] 40 from ((K1.setCell (i := 0) (.int .u64 (XS 0))).setCell (i := 1) (.int .u64 (XS 1))))
  have KFchg := hid3 (show Chg (fun x => x = w.heap.size) w7 ((w7.setCell ⟨w.heap.size, 0, none⟩ (.int .u64 (XS 0))).setCell ⟨w.heap.size, 1, none⟩ (.int .u64 (XS 1))) from (((Chg.refl (fun x => x = w.heap.size) w7).cell (g := w.heap.size) (i := 0) (.inl rfl) (.int .u64 (XS 0))).cell (g := w.heap.size) (i := 1) (.inl rfl) (.int .u64 (XS 1))))
  have KFbel := hid3 (show Below w.heap.size w ((w7.setCell ⟨w.heap.size, 0, none⟩ (.int .u64 (XS 0))).setCell ⟨w.heap.size, 1, none⟩ (.int .u64 (XS 1))) from ((BF.out.setCell (p := ⟨w.heap.size, 0, none⟩) (Nat.le_refl _) (.int .u64 (XS 0))).setCell (p := ⟨w.heap.size, 1, none⟩) (Nat.le_refl _) (.int .u64 (XS 1))))
  have KZblk := hid3 (show Blk ((w7.setCell ⟨w.heap.size, 0, none⟩ (.int .u64 0)).setCell ⟨w.heap.size, 1, none⟩ (.int .u64 0)) w.heap.size [.int .u64 0, .int .u64 0] 40 from ((K1.setCell (i := 0) (.int .u64 0)).setCell (i := 1) (.int .u64 0)))
  have KZchg := hid3 (show Chg (fun x => x = w.heap.size) w7 ((w7.setCell ⟨w.heap.size, 0, none⟩ (.int .u64 0)).setCell ⟨w.heap.size, 1, none⟩ (.int .u64 0)) from (((Chg.refl (fun x => x = w.heap.size) w7).cell (g := w.heap.size) (i := 0) (.inl rfl) (.int .u64 0)).cell (g := w.heap.size) (i := 1) (.inl rfl) (.int .u64 0)))
  have KZbel := hid3 (show Below w.heap.size w ((w7.setCell ⟨w.heap.size, 0, none⟩ (.int .u64 0)).setCell ⟨w.heap.size, 1, none⟩ (.int .u64 0)) from ((BF.out.setCell (p := ⟨w.heap.size, 0, none⟩) (Nat.le_refl _) (.int .u64 0)).setCell (p := ⟨w.heap.size, 1, none⟩) (Nat.le_refl _) (.int .u64 0)))
  clear K1 K2 K3 I6 C6 C7 B7 X7 R6 hl6 F6 c6 HU P1 P3 q0 q1
  obtain ⟨E0, hE0⟩ : ∃ E0, Hid (endE st.1 st.2.1 = E0) := ⟨_, rfl⟩
  rw [hE0.out]
  by_cases hE : E0 = 0
  · subst hE
    go_wp2
    refine bodyPost_ret (ret_rc rfl rfl rfl (ld_Chain (KFblk.out.cell (i := 0) rfl) (KFblk.out.cell (i := 1) rfl))) rfl ?_
    exact ⟨⟨[.int .u64 (XS 0), .int .u64 (XS 1)], XS, 0, rfl, rfl, (hF7.out.off KFchg.out.size (fun y hy _ => KFchg.out.same y (by assumption) (fun e => by have e' : y = w.heap.size := e; have := hBw.out; omega))).low (by have := hBw.out; omega), fun _ => ⟨rfl, hXS.out.symm⟩, fun h => absurd hE0.out h⟩, KFbel.out⟩
  · have hE1 : ¬ (E0 = 0) := hE
    go_wp2
    refine bodyPost_ret (ret_rc rfl rfl rfl (ld_Chain (KZblk.out.cell (i := 0) rfl) (KZblk.out.cell (i := 1) rfl))) rfl ?_
    exact ⟨⟨[.int .u64 0, .int .u64 0], fun _ => 0, 80, rfl, rfl, (fun o => match o with | 0 => ⟨fun _ => rfl, fun h => absurd h (by decide), fun h => absurd h (by decide)⟩ | 1 => ⟨fun _ => rfl, fun h => absurd h (by decide), fun h => absurd h (by decide)⟩ | k + 2 => ⟨fun h => absurd h (by simp [kd_Chain]), fun h => absurd h (by simp [kd_Chain]), fun h => absurd h (by simp [kd_Chain])⟩), fun h => absurd (hE0.out.symm.trans h) hE1, fun _ => ⟨rfl, rfl⟩⟩, KZbel.out⟩
theorem ld_Pool {w : World} {g : Nat} {y0 : Value} (c0 : w.cell? ⟨g, 0, none⟩ = some y0) : (loadVar 46 ⟨g, 0, none⟩).run Tryz.prog w = .ok (.agg #[y0]) w := by go_simp
theorem ld_Unbonding {w : World} {g : Nat} {y0 y1 y2 y3 y4 y5 : Value} (c0 : w.cell? ⟨g, 0, none⟩ = some y0) (c1 : w.cell? ⟨g, 1, none⟩ = some y1) (c2 : w.cell? ⟨g, 2, none⟩ = some y2) (c3 : w.cell? ⟨g, 3, none⟩ = some y3) (c4 : w.cell? ⟨g, 4, none⟩ = some y4) (c5 : w.cell? ⟨g, 5, none⟩ = some y5) : (loadVar 42 ⟨g, 0, none⟩).run Tryz.prog w = .ok (.agg #[y0, y1, y2, y3, y4, y5]) w := by go_simp
set_option maxHeartbeats 4000000 in
set_option maxRecDepth 100000 in
theorem read_Unbonding {w : World} {bb n c : Nat} {ao : Option Addr} {l : List Int} (A : ByA w bb ao n c l) (hn : n ≤ 1000000000) (hl : l.length = n) :
    Calls Tryz.prog 145 #[.slice ao n c, .func (.func 144) #[] #[]] w (FinR w kd_Unbonding 6 mkA (thr rnx [(0, 0), (0, 1), (0, 2), (0, 3), (0, 4), (0, 5)] (0, l, fun _ => (0 : Int)))) := by
  have b1 := below_alloc w (.cells #[.int .u64 0, .int .u64 0, .int .u64 0, .int .u64 0, .int .u64 0, .int .u64 0] 42)
  have b2 := below_alloc (w.alloc (.cells #[.int .u64 0, .int .u64 0, .int .u64 0, .int .u64 0, .int .u64 0, .int .u64 0] 42)) (.cells #[.int .u64 0, .int .u64 0, .int .u64 0, .int .u64 0, .int .u64 0, .int .u64 0] 42)
  have b3 := below_alloc ((w.alloc (.cells #[.int .u64 0, .int .u64 0, .int .u64 0, .int .u64 0, .int .u64 0, .int .u64 0] 42)).alloc (.cells #[.int .u64 0, .int .u64 0, .int .u64 0, .int .u64 0, .int .u64 0, .int .u64 0] 42)) (.cells #[.int .u64 0, .int .u64 0, .int .u64 0, .int .u64 0, .int .u64 0, .int .u64 0] 42)
  have z1 := size_al w (.cells #[.int .u64 0, .int .u64 0, .int .u64 0, .int .u64 0, .int .u64 0, .int .u64 0] 42)
  have z2 := size_al (w.alloc (.cells #[.int .u64 0, .int .u64 0, .int .u64 0, .int .u64 0, .int .u64 0, .int .u64 0] 42)) (.cells #[.int .u64 0, .int .u64 0, .int .u64 0, .int .u64 0, .int .u64 0, .int .u64 0] 42)
  have z3 := size_al ((w.alloc (.cells #[.int .u64 0, .int .u64 0, .int .u64 0, .int .u64 0, .int .u64 0, .int .u64 0] 42)).alloc (.cells #[.int .u64 0, .int .u64 0, .int .u64 0, .int .u64 0, .int .u64 0, .int .u64 0] 42)) (.cells #[.int .u64 0, .int .u64 0, .int .u64 0, .int .u64 0, .int .u64 0, .int .u64 0] 42)
  have y1 := ((blk_new w [.int .u64 0, .int .u64 0, .int .u64 0, .int .u64 0, .int .u64 0, .int .u64 0] 42).keep b2).keep b3
  have y2 := (blk_new (w.alloc (.cells #[.int .u64 0, .int .u64 0, .int .u64 0, .int .u64 0, .int .u64 0, .int .u64 0] 42)) [.int .u64 0, .int .u64 0, .int .u64 0, .int .u64 0, .int .u64 0, .int .u64 0] 42).keep b3
  have y3 := blk_new ((w.alloc (.cells #[.int .u64 0, .int .u64 0, .int .u64 0, .int .u64 0, .int .u64 0, .int .u64 0] 42)).alloc (.cells #[.int .u64 0, .int .u64 0, .int .u64 0, .int .u64 0, .int .u64 0, .int .u64 0] 42)) [.int .u64 0, .int .u64 0, .int .u64 0, .int .u64 0, .int .u64 0, .int .u64 0] 42
  rw [z2, z1] at y3
  rw [z1] at y2
  rw [z2, z1] at z3
  obtain ⟨W3, hW3⟩ : ∃ W3, Hid ((((w.alloc (.cells #[.int .u64 0, .int .u64 0, .int .u64 0, .int .u64 0, .int .u64 0, .int .u64 0] 42)).alloc (.cells #[.int .u64 0, .int .u64 0, .int .u64 0, .int .u64 0, .int .u64 0, .int .u64 0] 42)).alloc (.cells #[.int .u64 0, .int .u64 0, .int .u64 0, .int .u64 0, .int .u64 0, .int .u64 0] 42)) = W3) := ⟨_, rfl⟩
  have BB := joinB (joinB b1 b2) b3
  rw [hW3.out] at BB y1 y2 y3 z3
  have HN := hid3 (rdNew (A.keep BB) (by omega))
  have Y1 := hid3 y1
  have Y2 := hid3 y2
  have Y3 := hid3 y3
  have Z3 := hid3 z3
  have HBB := hid3 BB
  have HL := hid3 hl
  clear b1 b2 b3 z1 z2 z3 y1 y2 y3 BB A hl
  obtain ⟨st, hst⟩ : ∃ st, Hid (thr rnx [(0, 0), (0, 1), (0, 2), (0, 3), (0, 4), (0, 5)] (0, l, fun _ => (0 : Int)) = st) := ⟨_, rfl⟩
  have hsl : st.2.1.length ≤ n := by have h := thr_len [(0, 0), (0, 1), (0, 2), (0, 3), (0, 4), (0, 5)] (0, l, fun _ => (0 : Int)); rw [hst.out] at h; rw [HL.out] at h; exact h
  rw [hst.out]
  go_enter Tryz.func145, Tryz.ntmps145
  go_wp2_with fail
  rw [hW3.out]
  refine HN.out.mono ?_
  rintro e' w4 ⟨g, b', rfl, hg, hb', X4, B4⟩
  have b5 := below_alloc w4 (.cells #[.pointer (some ⟨g, 0, none⟩)] 257)
  have v5 := blk_new w4 [.pointer (some ⟨g, 0, none⟩)] 257
  have z5 := size_al w4 (.cells #[.pointer (some ⟨g, 0, none⟩)] 257)
  obtain ⟨W5, hW5⟩ : ∃ W5, Hid (w4.alloc (.cells #[.pointer (some ⟨g, 0, none⟩)] 257) = W5) := ⟨_, rfl⟩
  rw [hW5.out] at b5 v5 z5
  have hgl := X4.lt
  have hz3 := Z3.out
  have hz4 := B4.size
  have F0 : FldR W5 W5.heap.size kd_Unbonding [.int .u64 0, .int .u64 0, .int .u64 0, .int .u64 0, .int .u64 0, .int .u64 0] (fun _ => 0) := fun o => match o with
    | 0 => ⟨fun _ => rfl, fun h => absurd h (by decide), fun h => absurd h (by decide)⟩
    | 1 => ⟨fun _ => rfl, fun h => absurd h (by decide), fun h => absurd h (by decide)⟩
    | 2 => ⟨fun _ => rfl, fun h => absurd h (by decide), fun h => absurd h (by decide)⟩
    | 3 => ⟨fun _ => rfl, fun h => absurd h (by decide), fun h => absurd h (by decide)⟩
    | 4 => ⟨fun _ => rfl, fun h => absurd h (by decide), fun h => absurd h (by decide)⟩
    | 5 => ⟨fun _ => rfl, fun h => absurd h (by decide), fun h => absurd h (by decide)⟩
    | k + 6 => ⟨fun h => absurd h (by simp [kd_Unbonding]), fun h => absurd h (by simp [kd_Unbonding]), fun h => absurd h (by simp [kd_Unbonding])⟩
  have U := ofUnbonding_any (rhc_Unbonding (w0 := w) (B := W5.heap.size) (g := g) (b := b') (vb := w4.heap.size) (rb := w.heap.size + 1) (T := 42) (vt := 257)) (s := (0, l, fun _ => (0 : Int))) (w := W5) ⟨⟨X4.keep b5, v5, ⟨_, rfl, (Y2.out.keep B4).keep b5, F0⟩, joinB (joinB HBB.out B4) b5, by omega, by omega, by omega, by omega, by omega, by omega, by omega, by omega⟩, Nat.le_refl _⟩ (by simp [kd_Unbonding]) trivial
  rw [hst.out] at U
  have HU := hid3 U
  have P1 := hid3 ((Y1.out.keep B4).keep b5)
  have P3 := hid3 ((Y3.out.keep B4).keep b5)
  have HS := hid3 (show w.heap.size ≠ g ∧ w.heap.size + 1 + 1 ≠ g ∧ w.heap.size + 1 + 1 ≠ w.heap.size + 1 ∧ w.heap.size ≠ w.heap.size + 1 ∧ w.heap.size ≤ W5.heap.size ∧ w.heap.size ≤ g from ⟨by omega, by omega, by omega, by omega, by omega, by omega⟩)
  clear U b5 v5 z5 hgl hz3 hz4 F0 X4 B4 hg hb' HN Y1 Y2 Y3
  go_wp2_with fail
  rw [hW5.out]
  refine HU.out.mono ?_
  rintro e' w6 ⟨rfl, ⟨I6, hB6⟩, C6⟩
  have c6 := I6.var.cell (i := 0) rfl
  go_wp2_with fail
  refine (rdEnd I6.rd (by omega)).mono ?_
  rintro e' w7 ⟨rfl, X7, B7⟩
  obtain ⟨cs6, hl6, R6, F6⟩ := I6.rc
  obtain ⟨XS, hXS⟩ : ∃ XS, Hid (st.2.2 = XS) := ⟨_, rfl⟩
  rw [hXS.out] at F6
  have hF6 := hid3 F6
  have q0 := (F6 0).1 rfl
  have q1 := (F6 1).1 rfl
  have q2 := (F6 2).1 rfl
  have q3 := (F6 3).1 rfl
  have q4 := (F6 4).1 rfl
  have q5 := (F6 5).1 rfl
  have ecs : cs6 = [.int .u64 (XS 0), .int .u64 (XS 1), .int .u64 (XS 2), .int .u64 (XS 3), .int .u64 (XS 4), .int .u64 (XS 5)] := by
    apply List.ext_getElem?
    intro i
    match i with
    | 0 => rw [q0]; rfl
    | 1 => rw [q1]; rfl
    | 2 => rw [q2]; rfl
    | 3 => rw [q3]; rfl
    | 4 => rw [q4]; rfl
    | 5 => rw [q5]; rfl
    | k + 6 => rw [List.getElem?_eq_none (by omega), List.getElem?_eq_none (by simp)]
  subst ecs
  have C7 := But.chg B7
  have K1 := (P1.out.chg C6 (fun h => h.elim HS.out.1 HS.out.2.2.2.1)).chg C7 HS.out.1
  have K3 := (P3.out.chg C6 (fun h => h.elim HS.out.2.1 HS.out.2.2.1)).chg C7 HS.out.2.1
  have K2 := R6.chg C7 I6.s1
  have BF := hid3 (B7.below I6.bel HS.out.2.2.2.2.2 (Nat.le_refl _))
  have hF7 := hid3 ((hF6.out.off (w' := w7) B7.size (fun y hy hy2 => B7.block y hy2 (by have := I6.g1; omega))))
  have hBw := hid3 (show w.heap.size < W5.heap.size ∧ w.heap.size < w7.heap.size from ⟨by have := I6.r1; omega, K1.lt⟩)
  have u0 := K1.cell (i := 0) rfl
  have f0 := K1.free 0
  have v0 := K2.cell (i := 0) rfl
  have o0 := K3.cell (i := 0) rfl
  have u1 := K1.cell (i := 1) rfl
  have f1 := K1.free 1
  have v1 := K2.cell (i := 1) rfl
  have o1 := K3.cell (i := 1) rfl
  have u2 := K1.cell (i := 2) rfl
  have f2 := K1.free 2
  have v2 := K2.cell (i := 2) rfl
  have o2 := K3.cell (i := 2) rfl
  have u3 := K1.cell (i := 3) rfl
  have f3 := K1.free 3
  have v3 := K2.cell (i := 3) rfl
  have o3 := K3.cell (i := 3) rfl
  have u4 := K1.cell (i := 4) rfl
  have f4 := K1.free 4
  have v4 := K2.cell (i := 4) rfl
  have o4 := K3.cell (i := 4) rfl
  have u5 := K1.cell (i := 5) rfl
  have f5 := K1.free 5
  have v5 := K2.cell (i := 5) rfl
  have o5 := K3.cell (i := 5) rfl
  have KFblk := hid3 (show Blk ((((((w7.setCell ⟨w.heap.size, 0, none⟩ (.int .u64 (XS 0))).setCell ⟨w.heap.size, 1, none⟩ (.int .u64 (XS 1))).setCell ⟨w.heap.size, 2, none⟩ (.int .u64 (XS 2))).setCell ⟨w.heap.size, 3, none⟩ (.int .u64 (XS 3))).setCell ⟨w.heap.size, 4, none⟩ (.int .u64 (XS 4))).setCell ⟨w.heap.size, 5, none⟩ (.int .u64 (XS 5))) w.heap.size [.int .u64 (XS 0), .int .u64 (XS 1), .int .u64 (XS 2), .int .u64 (XS 3), .int .u64 (XS 4), .int .u64 (XS 5)] 42 from ((((((K1.setCell (i := 0) (.int .u64 (XS 0))).setCell (i := 1) (.int .u64 (XS 1))).setCell (i := 2) (.int .u64 (XS 2))).setCell (i := 3) (.int .u64 (XS 3))).setCell (i := 4) (.int .u64 (XS 4))).setCell (i := 5) (.int .u64 (XS 5))))
  have KFchg := hid3 (show Chg (fun x => x = w.heap.size) w7 ((((((w7.setCell ⟨w.heap.size, 0, none⟩ (.int .u64 (XS 0))).setCell ⟨w.heap.size, 1, none⟩ (.int .u64 (XS 1))).setCell ⟨w.heap.size, 2, none⟩ (.int .u64 (XS 2))).setCell ⟨w.heap.size, 3, none⟩ (.int .u64 (XS 3))).setCell ⟨w.heap.size, 4, none⟩ (.int .u64 (XS 4))).setCell ⟨w.heap.size, 5, none⟩ (.int .u64 (XS 5))) from (((((((Chg.refl (fun x => x = w.heap.size) w7).cell (g := w.heap.size) (i := 0) (.inl rfl) (.int .u64 (XS 0))).cell (g := w.heap.size) (i := 1) (.inl rfl) (.int .u64 (XS 1))).cell (g := w.heap.size) (i := 2) (.inl rfl) (.int .u64 (XS 2))).cell (g := w.heap.size) (i := 3) (.inl rfl) (.int .u64 (XS 3))).cell (g := w.heap.size) (i := 4) (.inl rfl) (.int .u64 (XS 4))).cell (g := w.heap.size) (i := 5) (.inl rfl) (.int .u64 (XS 5))))
  have KFbel := hid3 (show Below w.heap.size w ((((((w7.setCell ⟨w.heap.size, 0, none⟩ (.int .u64 (XS 0))).setCell ⟨w.heap.size, 1, none⟩ (.int .u64 (XS 1))).setCell ⟨w.heap.size, 2, none⟩ (.int .u64 (XS 2))).setCell ⟨w.heap.size, 3, none⟩ (.int .u64 (XS 3))).setCell ⟨w.heap.size, 4, none⟩ (.int .u64 (XS 4))).setCell ⟨w.heap.size, 5, none⟩ (.int .u64 (XS 5))) from ((((((BF.out.setCell (p := ⟨w.heap.size, 0, none⟩) (Nat.le_refl _) (.int .u64 (XS 0))).setCell (p := ⟨w.heap.size, 1, none⟩) (Nat.le_refl _) (.int .u64 (XS 1))).setCell (p := ⟨w.heap.size, 2, none⟩) (Nat.le_refl _) (.int .u64 (XS 2))).setCell (p := ⟨w.heap.size, 3, none⟩) (Nat.le_refl _) (.int .u64 (XS 3))).setCell (p := ⟨w.heap.size, 4, none⟩) (Nat.le_refl _) (.int .u64 (XS 4))).setCell (p := ⟨w.heap.size, 5, none⟩) (Nat.le_refl _) (.int .u64 (XS 5))))
  have KZblk := hid3 (show Blk ((((((w7.setCell ⟨w.heap.size, 0, none⟩ (.int .u64 0)).setCell ⟨w.heap.size, 1, none⟩ (.int .u64 0)).setCell ⟨w.heap.size, 2, none⟩ (.int .u64 0)).setCell ⟨w.heap.size, 3, none⟩ (.int .u64 0)).setCell ⟨w.heap.size, 4, none⟩ (.int .u64 0)).setCell ⟨w.heap.size, 5, none⟩ (.int .u64 0)) w.heap.size [.int .u64 0, .int .u64 0, .int .u64 0, .int .u64 0, .int .u64 0, .int .u64 0] 42 from ((((((K1.setCell (i := 0) (.int .u64 0)).setCell (i := 1) (.int .u64 0)).setCell (i := 2) (.int .u64 0)).setCell (i := 3) (.int .u64 0)).setCell (i := 4) (.int .u64 0)).setCell (i := 5) (.int .u64 0)))
  have KZchg := hid3 (show Chg (fun x => x = w.heap.size) w7 ((((((w7.setCell ⟨w.heap.size, 0, none⟩ (.int .u64 0)).setCell ⟨w.heap.size, 1, none⟩ (.int .u64 0)).setCell ⟨w.heap.size, 2, none⟩ (.int .u64 0)).setCell ⟨w.heap.size, 3, none⟩ (.int .u64 0)).setCell ⟨w.heap.size, 4, none⟩ (.int .u64 0)).setCell ⟨w.heap.size, 5, none⟩ (.int .u64 0)) from (((((((Chg.refl (fun x => x = w.heap.size) w7).cell (g := w.heap.size) (i := 0) (.inl rfl) (.int .u64 0)).cell (g := w.heap.size) (i := 1) (.inl rfl) (.int .u64 0)).cell (g := w.heap.size) (i := 2) (.inl rfl) (.int .u64 0)).cell (g := w.heap.size) (i := 3) (.inl rfl) (.int .u64 0)).cell (g := w.heap.size) (i := 4) (.inl rfl) (.int .u64 0)).cell (g := w.heap.size) (i := 5) (.inl rfl) (.int .u64 0)))
  have KZbel := hid3 (show Below w.heap.size w ((((((w7.setCell ⟨w.heap.size, 0, none⟩ (.int .u64 0)).setCell ⟨w.heap.size, 1, none⟩ (.int .u64 0)).setCell ⟨w.heap.size, 2, none⟩ (.int .u64 0)).setCell ⟨w.heap.size, 3, none⟩ (.int .u64 0)).setCell ⟨w.heap.size, 4, none⟩ (.int .u64 0)).setCell ⟨w.heap.size, 5, none⟩ (.int .u64 0)) from ((((((BF.out.setCell (p := ⟨w.heap.size, 0, none⟩) (Nat.le_refl _) (.int .u64 0)).setCell (p := ⟨w.heap.size, 1, none⟩) (Nat.le_refl _) (.int .u64 0)).setCell (p := ⟨w.heap.size, 2, none⟩) (Nat.le_refl _) (.int .u64 0)).setCell (p := ⟨w.heap.size, 3, none⟩) (Nat.le_refl _) (.int .u64 0)).setCell (p := ⟨w.heap.size, 4, none⟩) (Nat.le_refl _) (.int .u64 0)).setCell (p := ⟨w.heap.size, 5, none⟩) (Nat.le_refl _) (.int .u64 0)))
  clear K1 K2 K3 I6 C6 C7 B7 X7 R6 hl6 F6 c6 HU P1 P3 q0 q1 q2 q3 q4 q5
  obtain ⟨E0, hE0⟩ : ∃ E0, Hid (endE st.1 st.2.1 = E0) := ⟨_, rfl⟩
  rw [hE0.out]
  by_cases hE : E0 = 0
  · subst hE
    go_wp2
    refine bodyPost_ret (ret_rc rfl rfl rfl (ld_Unbonding (KFblk.out.cell (i := 0) rfl) (KFblk.out.cell (i := 1) rfl) (KFblk.out.cell (i := 2) rfl) (KFblk.out.cell (i := 3) rfl) (KFblk.out.cell (i := 4) rfl) (KFblk.out.cell (i := 5) rfl))) rfl ?_
    exact ⟨⟨[.int .u64 (XS 0), .int .u64 (XS 1), .int .u64 (XS 2), .int .u64 (XS 3), .int .u64 (XS 4), .int .u64 (XS 5)], XS, 0, rfl, rfl, (hF7.out.off KFchg.out.size (fun y hy _ => KFchg.out.same y (by assumption) (fun e => by have e' : y = w.heap.size := e; have := hBw.out; omega))).low (by have := hBw.out; omega), fun _ => ⟨rfl, hXS.out.symm⟩, fun h => absurd hE0.out h⟩, KFbel.out⟩
  · have hE1 : ¬ (E0 = 0) := hE
    go_wp2
    refine bodyPost_ret (ret_rc rfl rfl rfl (ld_Unbonding (KZblk.out.cell (i := 0) rfl) (KZblk.out.cell (i := 1) rfl) (KZblk.out.cell (i := 2) rfl) (KZblk.out.cell (i := 3) rfl) (KZblk.out.cell (i := 4) rfl) (KZblk.out.cell (i := 5) rfl))) rfl ?_
    exact ⟨⟨[.int .u64 0, .int .u64 0, .int .u64 0, .int .u64 0, .int .u64 0, .int .u64 0], fun _ => 0, 80, rfl, rfl, (fun o => match o with | 0 => ⟨fun _ => rfl, fun h => absurd h (by decide), fun h => absurd h (by decide)⟩ | 1 => ⟨fun _ => rfl, fun h => absurd h (by decide), fun h => absurd h (by decide)⟩ | 2 => ⟨fun _ => rfl, fun h => absurd h (by decide), fun h => absurd h (by decide)⟩ | 3 => ⟨fun _ => rfl, fun h => absurd h (by decide), fun h => absurd h (by decide)⟩ | 4 => ⟨fun _ => rfl, fun h => absurd h (by decide), fun h => absurd h (by decide)⟩ | 5 => ⟨fun _ => rfl, fun h => absurd h (by decide), fun h => absurd h (by decide)⟩ | k + 6 => ⟨fun h => absurd h (by simp [kd_Unbonding]), fun h => absurd h (by simp [kd_Unbonding]), fun h => absurd h (by simp [kd_Unbonding])⟩), fun h => absurd (hE0.out.symm.trans h) hE1, fun _ => ⟨rfl, rfl⟩⟩, KZbel.out⟩
theorem ld_Move {w : World} {g : Nat} {y0 y1 y2 y3 y4 y5 y6 : Value} (c0 : w.cell? ⟨g, 0, none⟩ = some y0) (c1 : w.cell? ⟨g, 1, none⟩ = some y1) (c2 : w.cell? ⟨g, 2, none⟩ = some y2) (c3 : w.cell? ⟨g, 3, none⟩ = some y3) (c4 : w.cell? ⟨g, 4, none⟩ = some y4) (c5 : w.cell? ⟨g, 5, none⟩ = some y5) (c6 : w.cell? ⟨g, 6, none⟩ = some y6) : (loadVar 48 ⟨g, 0, none⟩).run Tryz.prog w = .ok (.agg #[y0, y1, y2, y3, y4, y5, y6]) w := by go_simp
set_option maxHeartbeats 4000000 in
set_option maxRecDepth 100000 in
theorem read_Move {w : World} {bb n c : Nat} {ao : Option Addr} {l : List Int} (A : ByA w bb ao n c l) (hn : n ≤ 1000000000) (hl : l.length = n) :
    Calls Tryz.prog 150 #[.slice ao n c, .func (.func 149) #[] #[]] w (FinR w kd_Move 7 mkA (thr rnx [(0, 0), (0, 1), (0, 2), (0, 3), (0, 4), (0, 5), (2, 6)] (0, l, fun _ => (0 : Int)))) := by
  have b1 := below_alloc w (.cells #[.int .u64 0, .int .u64 0, .int .u64 0, .int .u64 0, .int .u64 0, .int .u64 0, .slice none 0 0] 48)
  have b2 := below_alloc (w.alloc (.cells #[.int .u64 0, .int .u64 0, .int .u64 0, .int .u64 0, .int .u64 0, .int .u64 0, .slice none 0 0] 48)) (.cells #[.int .u64 0, .int .u64 0, .int .u64 0, .int .u64 0, .int .u64 0, .int .u64 0, .slice none 0 0] 48)
  have b3 := below_alloc ((w.alloc (.cells #[.int .u64 0, .int .u64 0, .int .u64 0, .int .u64 0, .int .u64 0, .int .u64 0, .slice none 0 0] 48)).alloc (.cells #[.int .u64 0, .int .u64 0, .int .u64 0, .int .u64 0, .int .u64 0, .int .u64 0, .slice none 0 0] 48)) (.cells #[.int .u64 0, .int .u64 0, .int .u64 0, .int .u64 0, .int .u64 0, .int .u64 0, .slice none 0 0] 48)
  have z1 := size_al w (.cells #[.int .u64 0, .int .u64 0, .int .u64 0, .int .u64 0, .int .u64 0, .int .u64 0, .slice none 0 0] 48)
  have z2 := size_al (w.alloc (.cells #[.int .u64 0, .int .u64 0, .int .u64 0, .int .u64 0, .int .u64 0, .int .u64 0, .slice none 0 0] 48)) (.cells #[.int .u64 0, .int .u64 0, .int .u64 0, .int .u64 0, .int .u64 0, .int .u64 0, .slice none 0 0] 48)
  have z3 := size_al ((w.alloc (.cells #[.int .u64 0, .int .u64 0, .int .u64 0, .int .u64 0, .int .u64 0, .int .u64 0, .slice none 0 0] 48)).alloc (.cells #[.int .u64 0, .int .u64 0, .int .u64 0, .int .u64 0, .int .u64 0, .int .u64 0, .slice none 0 0] 48)) (.cells #[.int .u64 0, .int .u64 0, .int .u64 0, .int .u64 0, .int .u64 0, .int .u64 0, .slice none 0 0] 48)
  have y1 := ((blk_new w [.int .u64 0, .int .u64 0, .int .u64 0, .int .u64 0, .int .u64 0, .int .u64 0, .slice none 0 0] 48).keep b2).keep b3
  have y2 := (blk_new (w.alloc (.cells #[.int .u64 0, .int .u64 0, .int .u64 0, .int .u64 0, .int .u64 0, .int .u64 0, .slice none 0 0] 48)) [.int .u64 0, .int .u64 0, .int .u64 0, .int .u64 0, .int .u64 0, .int .u64 0, .slice none 0 0] 48).keep b3
  have y3 := blk_new ((w.alloc (.cells #[.int .u64 0, .int .u64 0, .int .u64 0, .int .u64 0, .int .u64 0, .int .u64 0, .slice none 0 0] 48)).alloc (.cells #[.int .u64 0, .int .u64 0, .int .u64 0, .int .u64 0, .int .u64 0, .int .u64 0, .slice none 0 0] 48)) [.int .u64 0, .int .u64 0, .int .u64 0, .int .u64 0, .int .u64 0, .int .u64 0, .slice none 0 0] 48
  rw [z2, z1] at y3
  rw [z1] at y2
  rw [z2, z1] at z3
  obtain ⟨W3, hW3⟩ : ∃ W3, Hid ((((w.alloc (.cells #[.int .u64 0, .int .u64 0, .int .u64 0, .int .u64 0, .int .u64 0, .int .u64 0, .slice none 0 0] 48)).alloc (.cells #[.int .u64 0, .int .u64 0, .int .u64 0, .int .u64 0, .int .u64 0, .int .u64 0, .slice none 0 0] 48)).alloc (.cells #[.int .u64 0, .int .u64 0, .int .u64 0, .int .u64 0, .int .u64 0, .int .u64 0, .slice none 0 0] 48)) = W3) := ⟨_, rfl⟩
  have BB := joinB (joinB b1 b2) b3
  rw [hW3.out] at BB y1 y2 y3 z3
  have HN := hid3 (rdNew (A.keep BB) (by omega))
  have Y1 := hid3 y1
  have Y2 := hid3 y2
  have Y3 := hid3 y3
  have Z3 := hid3 z3
  have HBB := hid3 BB
  have HL := hid3 hl
  clear b1 b2 b3 z1 z2 z3 y1 y2 y3 BB A hl
  obtain ⟨st, hst⟩ : ∃ st, Hid (thr rnx [(0, 0), (0, 1), (0, 2), (0, 3), (0, 4), (0, 5), (2, 6)] (0, l, fun _ => (0 : Int)) = st) := ⟨_, rfl⟩
  have hsl : st.2.1.length ≤ n := by have h := thr_len [(0, 0), (0, 1), (0, 2), (0, 3), (0, 4), (0, 5), (2, 6)] (0, l, fun _ => (0 : Int)); rw [hst.out] at h; rw [HL.out] at h; exact h
  rw [hst.out]
  go_enter Tryz.func150, Tryz.ntmps150
  go_wp2_with fail
  rw [hW3.out]
  refine HN.out.mono ?_
  rintro e' w4 ⟨g, b', rfl, hg, hb', X4, B4⟩
  have b5 := below_alloc w4 (.cells #[.pointer (some ⟨g, 0, none⟩)] 257)
  have v5 := blk_new w4 [.pointer (some ⟨g, 0, none⟩)] 257
  have z5 := size_al w4 (.cells #[.pointer (some ⟨g, 0, none⟩)] 257)
  obtain ⟨W5, hW5⟩ : ∃ W5, Hid (w4.alloc (.cells #[.pointer (some ⟨g, 0, none⟩)] 257) = W5) := ⟨_, rfl⟩
  rw [hW5.out] at b5 v5 z5
  have hgl := X4.lt
  have hz3 := Z3.out
  have hz4 := B4.size
  have F0 : FldR W5 W5.heap.size kd_Move [.int .u64 0, .int .u64 0, .int .u64 0, .int .u64 0, .int .u64 0, .int .u64 0, .slice none 0 0] (fun _ => 0) := fun o => match o with
    | 0 => ⟨fun _ => rfl, fun h => absurd h (by decide), fun h => absurd h (by decide)⟩
    | 1 => ⟨fun _ => rfl, fun h => absurd h (by decide), fun h => absurd h (by decide)⟩
    | 2 => ⟨fun _ => rfl, fun h => absurd h (by decide), fun h => absurd h (by decide)⟩
    | 3 => ⟨fun _ => rfl, fun h => absurd h (by decide), fun h => absurd h (by decide)⟩
    | 4 => ⟨fun _ => rfl, fun h => absurd h (by decide), fun h => absurd h (by decide)⟩
    | 5 => ⟨fun _ => rfl, fun h => absurd h (by decide), fun h => absurd h (by decide)⟩
    | 6 => ⟨fun h => absurd h (by decide), fun h => absurd h (by decide), fun _ => ⟨none, 0, 0, rfl, natW_nil _ _, by decide⟩⟩
    | k + 7 => ⟨fun h => absurd h (by simp [kd_Move]), fun h => absurd h (by simp [kd_Move]), fun h => absurd h (by simp [kd_Move])⟩
  have U := ofMove_any (rhc_Move (w0 := w) (B := W5.heap.size) (g := g) (b := b') (vb := w4.heap.size) (rb := w.heap.size + 1) (T := 48) (vt := 257)) (s := (0, l, fun _ => (0 : Int))) (w := W5) ⟨⟨X4.keep b5, v5, ⟨_, rfl, (Y2.out.keep B4).keep b5, F0⟩, joinB (joinB HBB.out B4) b5, by omega, by omega, by omega, by omega, by omega, by omega, by omega, by omega⟩, Nat.le_refl _⟩ (by simp [kd_Move]) trivial
  rw [hst.out] at U
  have HU := hid3 U
  have P1 := hid3 ((Y1.out.keep B4).keep b5)
  have P3 := hid3 ((Y3.out.keep B4).keep b5)
  have HS := hid3 (show w.heap.size ≠ g ∧ w.heap.size + 1 + 1 ≠ g ∧ w.heap.size + 1 + 1 ≠ w.heap.size + 1 ∧ w.heap.size ≠ w.heap.size + 1 ∧ w.heap.size ≤ W5.heap.size ∧ w.heap.size ≤ g from ⟨by omega, by omega, by omega, by omega, by omega, by omega⟩)
  clear U b5 v5 z5 hgl hz3 hz4 F0 X4 B4 hg hb' HN Y1 Y2 Y3
  go_wp2_with fail
  rw [hW5.out]
  refine HU.out.mono ?_
  rintro e' w6 ⟨rfl, ⟨I6, hB6⟩, C6⟩
  have c6 := I6.var.cell (i := 0) rfl
  go_wp2_with fail
  refine (rdEnd I6.rd (by omega)).mono ?_
  rintro e' w7 ⟨rfl, X7, B7⟩
  obtain ⟨cs6, hl6, R6, F6⟩ := I6.rc
  obtain ⟨XS, hXS⟩ : ∃ XS, Hid (st.2.2 = XS) := ⟨_, rfl⟩
  rw [hXS.out] at F6
  have hF6 := hid3 F6
  have q0 := (F6 0).1 rfl
  have q1 := (F6 1).1 rfl
  have q2 := (F6 2).1 rfl
  have q3 := (F6 3).1 rfl
  have q4 := (F6 4).1 rfl
  have q5 := (F6 5).1 rfl
  obtain ⟨a6, n6, d6, q6, -, -⟩ := (F6 6).2.2 rfl
  have ecs : cs6 = [.int .u64 (XS 0), .int .u64 (XS 1), .int .u64 (XS 2), .int .u64 (XS 3), .int .u64 (XS 4), .int .u64 (XS 5), .slice a6 n6 d6] := by
    apply List.ext_getElem?
    intro i
    match i with
    | 0 => rw [q0]; rfl
    | 1 => rw [q1]; rfl
    | 2 => rw [q2]; rfl
    | 3 => rw [q3]; rfl
    | 4 => rw [q4]; rfl
    | 5 => rw [q5]; rfl
    | 6 => rw [q6]; rfl
    | k + 7 => rw [List.getElem?_eq_none (by omega), List.getElem?_eq_none (by simp)]
  subst ecs
  have C7 := But.chg B7
  have K1 := (P1.out.chg C6 (fun h => h.elim HS.out.1 HS.out.2.2.2.1)).chg C7 HS.out.1
  have K3 := (P3.out.chg C6 (fun h => h.elim HS.out.2.1 HS.out.2.2.1)).chg C7 HS.out.2.1
  have K2 := R6.chg C7 I6.s1
  have BF := hid3 (B7.below I6.bel HS.out.2.2.2.2.2 (Nat.le_refl _))
  have hF7 := hid3 ((hF6.out.off (w' := w7) B7.size (fun y hy hy2 => B7.block y hy2 (by have := I6.g1; omega))))
  have hBw := hid3 (show w.heap.size < W5.heap.size ∧ w.heap.size < w7.heap.size from ⟨by have := I6.r1; omega, K1.lt⟩)
  have u0 := K1.cell (i := 0) rfl
  have f0 := K1.free 0
  have v0 := K2.cell (i := 0) rfl
  have o0 := K3.cell (i := 0) rfl
  have u1 := K1.cell (i := 1) rfl
  have f1 := K1.free 1
  have v1 := K2.cell (i := 1) rfl
  have o1 := K3.cell (i := 1) rfl
  have u2 := K1.cell (i := 2) rfl
  have f2 := K1.free 2
  have v2 := K2.cell (i := 2) rfl
  have o2 := K3.cell (i := 2) rfl
  have u3 := K1.cell (i := 3) rfl
  have f3 := K1.free 3
  have v3 := K2.cell (i := 3) rfl
  have o3 := K3.cell (i := 3) rfl
  have u4 := K1.cell (i := 4) rfl
  have f4 := K1.free 4
  have v4 := K2.cell (i := 4) rfl
  have o4 := K3.cell (i := 4) rfl
  have u5 := K1.cell (i := 5) rfl
  have f5 := K1.free 5
  have v5 := K2.cell (i := 5) rfl
  have o5 := K3.cell (i := 5) rfl
  have u6 := K1.cell (i := 6) rfl
  have f6 := K1.free 6
  have v6 := K2.cell (i := 6) rfl
  have o6 := K3.cell (i := 6) rfl
  have KFblk := hid3 (show Blk (((((((w7.setCell ⟨w.heap.size, 0, none⟩ (.int .u64 (XS 0))).setCell ⟨w.heap.size, 1, none⟩ (.int .u64 (XS 1))).setCell ⟨w.heap.size, 2, none⟩ (.int .u64 (XS 2))).setCell ⟨w.heap.size, 3, none⟩ (.int .u64 (XS 3))).setCell ⟨w.heap.size, 4, none⟩ (.int .u64 (XS 4))).setCell ⟨w.heap.size, 5, none⟩ (.int .u64 (XS 5))).setCell ⟨w.heap.size, 6, none⟩ (.slice a6 n6 d6)) w.heap.size [.int .u64 (XS 0), .int .u64 (XS 1), .int .u64 (XS 2), .int .u64 (XS 3), .int .u64 (XS 4), .int .u64 (XS 5), .slice a6 n6 d6] 48 from (((((((K1.setCell (i := 0) (.int .u64 (XS 0))).setCell (i := 1) (.int .u64 (XS 1))).setCell (i := 2) (.int .u64 (XS 2))).setCell (i := 3) (.int .u64 (XS 3))).setCell (i := 4) (.int .u64 (XS 4))).setCell (i := 5) (.int .u64 (XS 5))).setCell (i := 6) (.slice a6 n6 d6)))
  have KFchg := hid3 (show Chg (fun x => x = w.heap.size) w7 (((((((w7.setCell ⟨w.heap.size, 0, none⟩ (.int .u64 (XS 0))).setCell ⟨w.heap.size, 1, none⟩ (.int .u64 (XS 1))).setCell ⟨w.heap.size, 2, none⟩ (.int .u64 (XS 2))).setCell ⟨w.heap.size, 3, none⟩ (.int .u64 (XS 3))).setCell ⟨w.heap.size, 4, none⟩ (.int .u64 (XS 4))).setCell ⟨w.heap.size, 5, none⟩ (.int .u64 (XS 5))).setCell ⟨w.heap.size, 6, none⟩ (.slice a6 n6 d6)) from ((((((((Chg.refl (fun x => x = w.heap.size) w7).cell (g := w.heap.size) (i := 0) (.inl rfl) (.int .u64 (XS 0))).cell (g := w.heap.size) (i := 1) (.inl rfl) (.int .u64 (XS 1))).cell (g := w.heap.size) (i := 2) (.inl rfl) (.int .u64 (XS 2))).cell (g := w.heap.size) (i := 3) (.inl rfl) (.int .u64 (XS 3))).cell (g := w.heap.size) (i := 4) (.inl rfl) (.int .u64 (XS 4))).cell (g := w.heap.size) (i := 5) (.inl rfl) (.int .u64 (XS 5))).cell (g := w.heap.size) (i := 6) (.inl rfl) (.slice a6 n6 d6)))
  have KFbel := hid3 (show Below w.heap.size w (((((((w7.setCell ⟨w.heap.size, 0, none⟩ (.int .u64 (XS 0))).setCell ⟨w.heap.size, 1, none⟩ (.int .u64 (XS 1))).setCell ⟨w.heap.size, 2, none⟩ (.int .u64 (XS 2))).setCell ⟨w.heap.size, 3, none⟩ (.int .u64 (XS 3))).setCell ⟨w.heap.size, 4, none⟩ (.int .u64 (XS 4))).setCell ⟨w.heap.size, 5, none⟩ (.int .u64 (XS 5))).setCell ⟨w.heap.size, 6, none⟩ (.slice a6 n6 d6)) from (((((((BF.out.setCell (p := ⟨w.heap.size, 0, none⟩) (Nat.le_refl _) (.int .u64 (XS 0))).setCell (p := ⟨w.heap.size, 1, none⟩) (Nat.le_refl _) (.int .u64 (XS 1))).setCell (p := ⟨w.heap.size, 2, none⟩) (Nat.le_refl _) (.int .u64 (XS 2))).setCell (p := ⟨w.heap.size, 3, none⟩) (Nat.le_refl _) (.int .u64 (XS 3))).setCell (p := ⟨w.heap.size, 4, none⟩) (Nat.le_refl _) (.int .u64 (XS 4))).setCell (p := ⟨w.heap.size, 5, none⟩) (Nat.le_refl _) (.int .u64 (XS 5))).setCell (p := ⟨w.heap.size, 6, none⟩) (Nat.le_refl _) (.slice a6 n6 d6)))
  have KZblk := hid3 (show Blk (((((((w7.setCell ⟨w.heap.size, 0, none⟩ (.int .u64 0)).setCell ⟨w.heap.size, 1, none⟩ (.int .u64 0)).setCell ⟨w.heap.size, 2, none⟩ (.int .u64 0)).setCell ⟨w.heap.size, 3, none⟩ (.int .u64 0)).setCell ⟨w.heap.size, 4, none⟩ (.int .u64 0)).setCell ⟨w.heap.size, 5, none⟩ (.int .u64 0)).setCell ⟨w.heap.size, 6, none⟩ (.slice none 0 0)) w.heap.size [.int .u64 0, .int .u64 0, .int .u64 0, .int .u64 0, .int .u64 0, .int .u64 0, .slice none 0 0] 48 from (((((((K1.setCell (i := 0) (.int .u64 0)).setCell (i := 1) (.int .u64 0)).setCell (i := 2) (.int .u64 0)).setCell (i := 3) (.int .u64 0)).setCell (i := 4) (.int .u64 0)).setCell (i := 5) (.int .u64 0)).setCell (i := 6) (.slice none 0 0)))
  have KZchg := hid3 (show Chg (fun x => x = w.heap.size) w7 (((((((w7.setCell ⟨w.heap.size, 0, none⟩ (.int .u64 0)).setCell ⟨w.heap.size, 1, none⟩ (.int .u64 0)).setCell ⟨w.heap.size, 2, none⟩ (.int .u64 0)).setCell ⟨w.heap.size, 3, none⟩ (.int .u64 0)).setCell ⟨w.heap.size, 4, none⟩ (.int .u64 0)).setCell ⟨w.heap.size, 5, none⟩ (.int .u64 0)).setCell ⟨w.heap.size, 6, none⟩ (.slice none 0 0)) from ((((((((Chg.refl (fun x => x = w.heap.size) w7).cell (g := w.heap.size) (i := 0) (.inl rfl) (.int .u64 0)).cell (g := w.heap.size) (i := 1) (.inl rfl) (.int .u64 0)).cell (g := w.heap.size) (i := 2) (.inl rfl) (.int .u64 0)).cell (g := w.heap.size) (i := 3) (.inl rfl) (.int .u64 0)).cell (g := w.heap.size) (i := 4) (.inl rfl) (.int .u64 0)).cell (g := w.heap.size) (i := 5) (.inl rfl) (.int .u64 0)).cell (g := w.heap.size) (i := 6) (.inl rfl) (.slice none 0 0)))
  have KZbel := hid3 (show Below w.heap.size w (((((((w7.setCell ⟨w.heap.size, 0, none⟩ (.int .u64 0)).setCell ⟨w.heap.size, 1, none⟩ (.int .u64 0)).setCell ⟨w.heap.size, 2, none⟩ (.int .u64 0)).setCell ⟨w.heap.size, 3, none⟩ (.int .u64 0)).setCell ⟨w.heap.size, 4, none⟩ (.int .u64 0)).setCell ⟨w.heap.size, 5, none⟩ (.int .u64 0)).setCell ⟨w.heap.size, 6, none⟩ (.slice none 0 0)) from (((((((BF.out.setCell (p := ⟨w.heap.size, 0, none⟩) (Nat.le_refl _) (.int .u64 0)).setCell (p := ⟨w.heap.size, 1, none⟩) (Nat.le_refl _) (.int .u64 0)).setCell (p := ⟨w.heap.size, 2, none⟩) (Nat.le_refl _) (.int .u64 0)).setCell (p := ⟨w.heap.size, 3, none⟩) (Nat.le_refl _) (.int .u64 0)).setCell (p := ⟨w.heap.size, 4, none⟩) (Nat.le_refl _) (.int .u64 0)).setCell (p := ⟨w.heap.size, 5, none⟩) (Nat.le_refl _) (.int .u64 0)).setCell (p := ⟨w.heap.size, 6, none⟩) (Nat.le_refl _) (.slice none 0 0)))
  clear K1 K2 K3 I6 C6 C7 B7 X7 R6 hl6 F6 c6 HU P1 P3 q0 q1 q2 q3 q4 q5 q6
  obtain ⟨E0, hE0⟩ : ∃ E0, Hid (endE st.1 st.2.1 = E0) := ⟨_, rfl⟩
  rw [hE0.out]
  by_cases hE : E0 = 0
  · subst hE
    go_wp2
    refine bodyPost_ret (ret_rc rfl rfl rfl (ld_Move (KFblk.out.cell (i := 0) rfl) (KFblk.out.cell (i := 1) rfl) (KFblk.out.cell (i := 2) rfl) (KFblk.out.cell (i := 3) rfl) (KFblk.out.cell (i := 4) rfl) (KFblk.out.cell (i := 5) rfl) (KFblk.out.cell (i := 6) rfl))) rfl ?_
    exact ⟨⟨[.int .u64 (XS 0), .int .u64 (XS 1), .int .u64 (XS 2), .int .u64 (XS 3), .int .u64 (XS 4), .int .u64 (XS 5), .slice a6 n6 d6], XS, 0, rfl, rfl, (hF7.out.off KFchg.out.size (fun y hy _ => KFchg.out.same y (by assumption) (fun e => by have e' : y = w.heap.size := e; have := hBw.out; omega))).low (by have := hBw.out; omega), fun _ => ⟨rfl, hXS.out.symm⟩, fun h => absurd hE0.out h⟩, KFbel.out⟩
  · have hE1 : ¬ (E0 = 0) := hE
    go_wp2
    refine bodyPost_ret (ret_rc rfl rfl rfl (ld_Move (KZblk.out.cell (i := 0) rfl) (KZblk.out.cell (i := 1) rfl) (KZblk.out.cell (i := 2) rfl) (KZblk.out.cell (i := 3) rfl) (KZblk.out.cell (i := 4) rfl) (KZblk.out.cell (i := 5) rfl) (KZblk.out.cell (i := 6) rfl))) rfl ?_
    exact ⟨⟨[.int .u64 0, .int .u64 0, .int .u64 0, .int .u64 0, .int .u64 0, .int .u64 0, .slice none 0 0], fun _ => 0, 80, rfl, rfl, (fun o => match o with | 0 => ⟨fun _ => rfl, fun h => absurd h (by decide), fun h => absurd h (by decide)⟩ | 1 => ⟨fun _ => rfl, fun h => absurd h (by decide), fun h => absurd h (by decide)⟩ | 2 => ⟨fun _ => rfl, fun h => absurd h (by decide), fun h => absurd h (by decide)⟩ | 3 => ⟨fun _ => rfl, fun h => absurd h (by decide), fun h => absurd h (by decide)⟩ | 4 => ⟨fun _ => rfl, fun h => absurd h (by decide), fun h => absurd h (by decide)⟩ | 5 => ⟨fun _ => rfl, fun h => absurd h (by decide), fun h => absurd h (by decide)⟩ | 6 => ⟨fun h => absurd h (by decide), fun h => absurd h (by decide), fun _ => ⟨none, 0, 0, rfl, natW_nil _ _, by decide⟩⟩ | k + 7 => ⟨fun h => absurd h (by simp [kd_Move]), fun h => absurd h (by simp [kd_Move]), fun h => absurd h (by simp [kd_Move])⟩), fun h => absurd (hE0.out.symm.trans h) hE1, fun _ => ⟨rfl, rfl⟩⟩, KZbel.out⟩
end Rc
end Go.Proofs.YtidnifmehnjipaaGreat

namespace Go.Proofs.YtidnifmehnjipaaGreat
namespace Rc
open Go.RowKit Go.Lib Pg
attribute [local go_sem] Oper.semAt_some
set_option maxHeartbeats 4000000 in
set_option maxRecDepth 100000 in
theorem read_Number {w : World} {bb n c : Nat} {ao : Option Addr} {l : List Int} (A : ByA w bb ao n c l) (hn : n ≤ 1000000000) (hl : l.length = n) :
    Calls Tryz.prog 116 #[.slice ao n c, .func (.func 117) #[] #[]] w (FinR w kd_Number 1 mkO (thr rnx [(0, 0)] (0, l, fun _ => (0 : Int)))) := by
  have b1 := below_alloc w (.cells #[.int .u64 0] 22)
  have z1 := size_al w (.cells #[.int .u64 0] 22)
  have y1 := blk_new w [.int .u64 0] 22
  obtain ⟨W3, hW3⟩ : ∃ W3, Hid (w.alloc (.cells #[.int .u64 0] 22) = W3) := ⟨_, rfl⟩
  rw [hW3.out] at b1 y1 z1
  have HN := hid3 (rdNew (A.keep b1) (by omega))
  have Y2 := hid3 y1
  have Z3 := hid3 z1
  have HBB := hid3 b1
  have HL := hid3 hl
  clear b1 z1 y1 A hl
  obtain ⟨st, hst⟩ : ∃ st, Hid (thr rnx [(0, 0)] (0, l, fun _ => (0 : Int)) = st) := ⟨_, rfl⟩
  have hsl : st.2.1.length ≤ n := by have h := thr_len [(0, 0)] (0, l, fun _ => (0 : Int)); rw [hst.out] at h; rw [HL.out] at h; exact h
  rw [hst.out]
  go_enter Tryz.func116, Tryz.ntmps116
  go_wp2_with fail
  rw [hW3.out]
  refine HN.out.mono ?_
  rintro e' w4 ⟨g, b', rfl, hg, hb', X4, B4⟩
  have b5 := below_alloc w4 (.cells #[.pointer (some ⟨g, 0, none⟩)] 257)
  have v5 := blk_new w4 [.pointer (some ⟨g, 0, none⟩)] 257
  have z5 := size_al w4 (.cells #[.pointer (some ⟨g, 0, none⟩)] 257)
  obtain ⟨W5, hW5⟩ : ∃ W5, Hid (w4.alloc (.cells #[.pointer (some ⟨g, 0, none⟩)] 257) = W5) := ⟨_, rfl⟩
  rw [hW5.out] at b5 v5 z5
  have hgl := X4.lt
  have hz3 := Z3.out
  have hz4 := B4.size
  have F0 : FldR W5 W5.heap.size kd_Number [.int .u64 0] (fun _ => 0) := fun o => match o with
    | 0 => ⟨fun _ => rfl, fun h => absurd h (by decide), fun h => absurd h (by decide)⟩
    | k + 1 => ⟨fun h => absurd h (by simp [kd_Number]), fun h => absurd h (by simp [kd_Number]), fun h => absurd h (by simp [kd_Number])⟩
  have U := ofNumber_any (rhc_Number (w0 := w) (B := W5.heap.size) (g := g) (b := b') (vb := w4.heap.size) (rb := w.heap.size) (T := 22) (vt := 257)) (s := (0, l, fun _ => (0 : Int))) (w := W5) ⟨⟨X4.keep b5, v5, ⟨_, rfl, (Y2.out.keep B4).keep b5, F0⟩, joinB (joinB HBB.out B4) b5, by omega, by omega, by omega, by omega, by omega, by omega, by omega, by omega⟩, Nat.le_refl _⟩ (by simp [kd_Number]) trivial
  rw [hst.out] at U
  have HU := hid3 U
  have HS := hid3 (show w.heap.size ≤ W5.heap.size ∧ w.heap.size ≤ g from ⟨by omega, by omega⟩)
  clear U b5 v5 z5 hgl hz3 hz4 F0 X4 B4 hg hb' HN Y2
  go_wp2_with fail
  rw [hW5.out]
  refine HU.out.mono ?_
  rintro e' w6 ⟨rfl, ⟨I6, hB6⟩, C6⟩
  have c6 := I6.var.cell (i := 0) rfl
  go_wp2_with fail
  refine (rdEnd I6.rd (by omega)).mono ?_
  rintro e' w7 ⟨rfl, X7, B7⟩
  obtain ⟨cs6, hl6, R6, F6⟩ := I6.rc
  obtain ⟨XS, hXS⟩ : ∃ XS, Hid (st.2.2 = XS) := ⟨_, rfl⟩
  rw [hXS.out] at F6
  have hF6 := hid3 F6
  have q0 := (F6 0).1 rfl
  have ecs : cs6 = [.int .u64 (XS 0)] := by
    apply List.ext_getElem?
    intro i
    match i with
    | 0 => rw [q0]; rfl
    | k + 1 => rw [List.getElem?_eq_none (by omega), List.getElem?_eq_none (by simp)]
  subst ecs
  have C7 := But.chg B7
  have K2 := R6.chg C7 I6.s1
  have BF := hid3 (B7.below I6.bel HS.out.2 (Nat.le_refl _))
  have hF7 := hid3 ((hF6.out.off (w' := w7) B7.size (fun y hy hy2 => B7.block y hy2 (by have := I6.g1; omega))))
  have v0 := K2.cell (i := 0) rfl
  clear K2 I6 C6 C7 B7 X7 R6 hl6 F6 c6 HU q0
  obtain ⟨E0, hE0⟩ : ∃ E0, Hid (endE st.1 st.2.1 = E0) := ⟨_, rfl⟩
  rw [hE0.out]
  by_cases hE : E0 = 0
  · subst hE
    go_wp2
    go_ret2
    exact ⟨⟨[.int .u64 (XS 0)], XS, 0, rfl, rfl, hF7.out.low HS.out.1, fun _ => ⟨rfl, hXS.out.symm⟩, fun h => absurd hE0.out h⟩, BF.out⟩
  · have hE1 : ¬ (E0 = 0) := hE
    go_wp2
    go_ret2
    exact ⟨⟨[.int .u64 0], fun _ => 0, 80, rfl, rfl, (fun o => match o with | 0 => ⟨fun _ => rfl, fun h => absurd h (by decide), fun h => absurd h (by decide)⟩ | k + 1 => ⟨fun h => absurd h (by simp [kd_Number]), fun h => absurd h (by simp [kd_Number]), fun h => absurd h (by simp [kd_Number])⟩), fun h => absurd (hE0.out.symm.trans h) hE1, fun _ => ⟨rfl, rfl⟩⟩, BF.out⟩
set_option maxHeartbeats 2000000 in
set_option maxRecDepth 100000 in
theorem PutChain_any {w : World} {x0 : Int} {x1 : Int} :
    Calls Tryz.prog 34 #[.agg #[.int .u64 x0, .int .u64 x1]] w fun e w' => ∃ b n, e = .returned (.slice (some ⟨b, 0, none⟩) n n) ∧ n = (thr (pnx (fun o => ([x0, x1] : List Int).getD o 0)) [(0, 0), (0, 1)] []).length ∧ Box w' b ((thr (pnx (fun o => ([x0, x1] : List Int).getD o 0)) [(0, 0), (0, 1)] []).map (Value.int .u8)) 5 ∧ w.heap.size ≤ b ∧ Below w.heap.size w w' := by
  have b1 := below_alloc w (.cells #[.int .u64 x0, .int .u64 x1] 40)
  have U := put_Chain (x0 := x0) (x1 := x1) (w := w.alloc (.cells #[.int .u64 x0, .int .u64 x1] 40))
  have HB := hid3 b1
  generalize thr (pnx (fun o => ([x0, x1] : List Int).getD o 0)) [(0, 0), (0, 1)] [] = M at *
  have HU := hid3 U
  clear U
  go_enter Tryz.func34, Tryz.ntmps34
  go_wp2_with fail
  refine HU.out.mono ?_
  rintro e' w1 ⟨b, n, rfl, hn, X, hb, B⟩
  have FF := hid3 (show n = M.length ∧ Box w1 b (M.map (Value.int .u8)) 5 ∧ w.heap.size ≤ b ∧ Below w.heap.size w w1 from ⟨hn, X, Nat.le_trans HB.out.size hb, joinB HB.out B⟩)
  clear hn X hb B HU HB
  go_wp2
  go_ret
  exact ⟨b, n, rfl, FF.out⟩
set_option maxHeartbeats 4000000 in
set_option maxRecDepth 100000 in
theorem Chain_any {w : World} {bb n c : Nat} {ao : Option Addr} {l : List Int} (A : ByA w bb ao n c l) (hn : n ≤ 1000000000) (hl : l.length = n) :
    Calls Tryz.prog 141 #[.slice ao n c] w (FinR w kd_Chain 2 mkA (thr rnx [(0, 0), (0, 1)] (0, l, fun _ => (0 : Int)))) := by
  have b1 := below_alloc w (.cells #[.int .u64 0, .int .u64 0] 40)
  have y1 := blk_new w [.int .u64 0, .int .u64 0] 40
  have z1 := size_al w (.cells #[.int .u64 0, .int .u64 0] 40)
  have U := read_Chain (A.keep b1) hn hl
  generalize thr rnx [(0, 0), (0, 1)] (0, l, fun _ => (0 : Int)) = st at *
  obtain ⟨W1, hW1⟩ : ∃ W1, Hid (w.alloc (.cells #[.int .u64 0, .int .u64 0] 40) = W1) := ⟨_, rfl⟩
  rw [hW1.out] at b1 y1 z1 U
  have HU := hid3 U
  have HB := hid3 b1
  have HY := hid3 y1
  have HZ := hid3 z1
  clear A hl b1 y1 z1 U
  go_enter Tryz.func141, Tryz.ntmps141
  go_wp2_with fail
  rw [hW1.out]
  refine HU.out.mono ?_
  rintro e' w1 ⟨⟨cs, xs, r, rfl, h1, h2, h3, h4⟩, B⟩
  have q0 := (h2 0).1 rfl
  have q1 := (h2 1).1 rfl
  have ecs : cs = [.int .u64 (xs 0), .int .u64 (xs 1)] := by
    apply List.ext_getElem?
    intro i
    match i with
    | 0 => rw [q0]; rfl
    | 1 => rw [q1]; rfl
    | k + 2 => rw [List.getElem?_eq_none (by omega), List.getElem?_eq_none (by simp)]
  subst ecs
  have K1 := HY.out.keep B
  have BF := joinB HB.out B
  have u0 := K1.cell (i := 0) rfl
  have f0 := K1.free 0
  have u1 := K1.cell (i := 1) rfl
  have f1 := K1.free 1
  have KB := hid3 (show Blk ((w1.setCell ⟨w.heap.size, 0, none⟩ (.int .u64 (xs 0))).setCell ⟨w.heap.size, 1, none⟩ (.int .u64 (xs 1))) w.heap.size [.int .u64 (xs 0), .int .u64 (xs 1)] 40 from ((K1.setCell (i := 0) (.int .u64 (xs 0))).setCell (i := 1) (.int .u64 (xs 1))))
  have KC := hid3 (show Chg (fun x => x = w.heap.size) w1 ((w1.setCell ⟨w.heap.size, 0, none⟩ (.int .u64 (xs 0))).setCell ⟨w.heap.size, 1, none⟩ (.int .u64 (xs 1))) from (((Chg.refl (fun x => x = w.heap.size) w1).cell (g := w.heap.size) (i := 0) (.inl rfl) (.int .u64 (xs 0))).cell (g := w.heap.size) (i := 1) (.inl rfl) (.int .u64 (xs 1))))
  have FF := hid3 (show FinR w kd_Chain 2 mkA st (.returned (.tuple #[.agg #[.int .u64 (xs 0), .int .u64 (xs 1)], .int .i64 r])) ((w1.setCell ⟨w.heap.size, 0, none⟩ (.int .u64 (xs 0))).setCell ⟨w.heap.size, 1, none⟩ (.int .u64 (xs 1))) from ⟨⟨[.int .u64 (xs 0), .int .u64 (xs 1)], xs, r, rfl, rfl, (h2.off KC.out.size (fun y hy hy2 => KC.out.same y hy2 (fun e => by have e' : y = w.heap.size := e; have := HZ.out; omega))).low HB.out.size, h3, h4⟩, ((BF.setCell (p := ⟨w.heap.size, 0, none⟩) (Nat.le_refl _) (.int .u64 (xs 0))).setCell (p := ⟨w.heap.size, 1, none⟩) (Nat.le_refl _) (.int .u64 (xs 1)))⟩)
  clear h1 h2 h3 h4 B K1 BF HU KC HY HB q0 q1
  simp only [mkA]
  go_wp2
  refine bodyPost_ret (ret_rc rfl rfl rfl (ld_Chain (KB.out.cell (i := 0) rfl) (KB.out.cell (i := 1) rfl))) rfl ?_
  exact FF.out
set_option maxHeartbeats 2000000 in
set_option maxRecDepth 100000 in
theorem PutUnbonding_any {w : World} {x0 : Int} {x1 : Int} {x2 : Int} {x3 : Int} {x4 : Int} {x5 : Int} :
    Calls Tryz.prog 95 #[.agg #[.int .u64 x0, .int .u64 x1, .int .u64 x2, .int .u64 x3, .int .u64 x4, .int .u64 x5]] w fun e w' => ∃ b n, e = .returned (.slice (some ⟨b, 0, none⟩) n n) ∧ n = (thr (pnx (fun o => ([x0, x1, x2, x3, x4, x5] : List Int).getD o 0)) [(0, 0), (0, 1), (0, 2), (0, 3), (0, 4), (0, 5)] []).length ∧ Box w' b ((thr (pnx (fun o => ([x0, x1, x2, x3, x4, x5] : List Int).getD o 0)) [(0, 0), (0, 1), (0, 2), (0, 3), (0, 4), (0, 5)] []).map (Value.int .u8)) 5 ∧ w.heap.size ≤ b ∧ Below w.heap.size w w' := by
  have b1 := below_alloc w (.cells #[.int .u64 x0, .int .u64 x1, .int .u64 x2, .int .u64 x3, .int .u64 x4, .int .u64 x5] 42)
  have U := put_Unbonding (x0 := x0) (x1 := x1) (x2 := x2) (x3 := x3) (x4 := x4) (x5 := x5) (w := w.alloc (.cells #[.int .u64 x0, .int .u64 x1, .int .u64 x2, .int .u64 x3, .int .u64 x4, .int .u64 x5] 42))
  have HB := hid3 b1
  generalize thr (pnx (fun o => ([x0, x1, x2, x3, x4, x5] : List Int).getD o 0)) [(0, 0), (0, 1), (0, 2), (0, 3), (0, 4), (0, 5)] [] = M at *
  have HU := hid3 U
  clear U
  go_enter Tryz.func95, Tryz.ntmps95
  go_wp2_with fail
  refine HU.out.mono ?_
  rintro e' w1 ⟨b, n, rfl, hn, X, hb, B⟩
  have FF := hid3 (show n = M.length ∧ Box w1 b (M.map (Value.int .u8)) 5 ∧ w.heap.size ≤ b ∧ Below w.heap.size w w1 from ⟨hn, X, Nat.le_trans HB.out.size hb, joinB HB.out B⟩)
  clear hn X hb B HU HB
  go_wp2
  go_ret
  exact ⟨b, n, rfl, FF.out⟩
set_option maxHeartbeats 4000000 in
set_option maxRecDepth 100000 in
theorem Unbonding_any {w : World} {bb n c : Nat} {ao : Option Addr} {l : List Int} (A : ByA w bb ao n c l) (hn : n ≤ 1000000000) (hl : l.length = n) :
    Calls Tryz.prog 96 #[.slice ao n c] w (FinR w kd_Unbonding 6 mkA (thr rnx [(0, 0), (0, 1), (0, 2), (0, 3), (0, 4), (0, 5)] (0, l, fun _ => (0 : Int)))) := by
  have b1 := below_alloc w (.cells #[.int .u64 0, .int .u64 0, .int .u64 0, .int .u64 0, .int .u64 0, .int .u64 0] 42)
  have y1 := blk_new w [.int .u64 0, .int .u64 0, .int .u64 0, .int .u64 0, .int .u64 0, .int .u64 0] 42
  have z1 := size_al w (.cells #[.int .u64 0, .int .u64 0, .int .u64 0, .int .u64 0, .int .u64 0, .int .u64 0] 42)
  have U := read_Unbonding (A.keep b1) hn hl
  generalize thr rnx [(0, 0), (0, 1), (0, 2), (0, 3), (0, 4), (0, 5)] (0, l, fun _ => (0 : Int)) = st at *
  obtain ⟨W1, hW1⟩ : ∃ W1, Hid (w.alloc (.cells #[.int .u64 0, .int .u64 0, .int .u64 0, .int .u64 0, .int .u64 0, .int .u64 0] 42) = W1) := ⟨_, rfl⟩
  rw [hW1.out] at b1 y1 z1 U
  have HU := hid3 U
  have HB := hid3 b1
  have HY := hid3 y1
  have HZ := hid3 z1
  clear A hl b1 y1 z1 U
  go_enter Tryz.func96, Tryz.ntmps96
  go_wp2_with fail
  rw [hW1.out]
  refine HU.out.mono ?_
  rintro e' w1 ⟨⟨cs, xs, r, rfl, h1, h2, h3, h4⟩, B⟩
  have q0 := (h2 0).1 rfl
  have q1 := (h2 1).1 rfl
  have q2 := (h2 2).1 rfl
  have q3 := (h2 3).1 rfl
  have q4 := (h2 4).1 rfl
  have q5 := (h2 5).1 rfl
  have ecs : cs = [.int .u64 (xs 0), .int .u64 (xs 1), .int .u64 (xs 2), .int .u64 (xs 3), .int .u64 (xs 4), .int .u64 (xs 5)] := by
    apply List.ext_getElem?
    intro i
    match i with
    | 0 => rw [q0]; rfl
    | 1 => rw [q1]; rfl
    | 2 => rw [q2]; rfl
    | 3 => rw [q3]; rfl
    | 4 => rw [q4]; rfl
    | 5 => rw [q5]; rfl
    | k + 6 => rw [List.getElem?_eq_none (by omega), List.getElem?_eq_none (by simp)]
  subst ecs
  have K1 := HY.out.keep B
  have BF := joinB HB.out B
  have u0 := K1.cell (i := 0) rfl
  have f0 := K1.free 0
  have u1 := K1.cell (i := 1) rfl
  have f1 := K1.free 1
  have u2 := K1.cell (i := 2) rfl
  have f2 := K1.free 2
  have u3 := K1.cell (i := 3) rfl
  have f3 := K1.free 3
  have u4 := K1.cell (i := 4) rfl
  have f4 := K1.free 4
  have u5 := K1.cell (i := 5) rfl
  have f5 := K1.free 5
  have KB := hid3 (show Blk ((((((w1.setCell ⟨w.heap.size, 0, none⟩ (.int .u64 (xs 0))).setCell ⟨w.heap.size, 1, none⟩ (.int .u64 (xs 1))).setCell ⟨w.heap.size, 2, none⟩ (.int .u64 (xs 2))).setCell ⟨w.heap.size, 3, none⟩ (.int .u64 (xs 3))).setCell ⟨w.heap.size, 4, none⟩ (.int .u64 (xs 4))).setCell ⟨w.heap.size, 5, none⟩ (.int .u64 (xs 5))) w.heap.size [.int .u64 (xs 0), .int .u64 (xs 1), .int .u64 (xs 2), .int .u64 (xs 3), .int .u64 (xs 4), .int .u64 (xs 5)] 42 from ((((((K1.setCell (i := 0) (.int .u64 (xs 0))).setCell (i := 1) (.int .u64 (xs 1))).setCell (i := 2) (.int .u64 (xs 2))).setCell (i := 3) (.int .u64 (xs 3))).setCell (i := 4) (.int .u64 (xs 4))).setCell (i := 5) (.int .u64 (xs 5))))
  have KC := hid3 (show Chg (fun x => x = w.heap.size) w1 ((((((w1.setCell ⟨w.heap.size, 0, none⟩ (.int .u64 (xs 0))).setCell ⟨w.heap.size, 1, none⟩ (.int .u64 (xs 1))).setCell ⟨w.heap.size, 2, none⟩ (.int .u64 (xs 2))).setCell ⟨w.heap.size, 3, none⟩ (.int .u64 (xs 3))).setCell ⟨w.heap.size, 4, none⟩ (.int .u64 (xs 4))).setCell ⟨w.heap.size, 5, none⟩ (.int .u64 (xs 5))) from (((((((Chg.refl (fun x => x = w.heap.size) w1).cell (g := w.heap.size) (i := 0) (.inl rfl) (.int .u64 (xs 0))).cell (g := w.heap.size) (i := 1) (.inl rfl) (.int .u64 (xs 1))).cell (g := w.heap.size) (i := 2) (.inl rfl) (.int .u64 (xs 2))).cell (g := w.heap.size) (i := 3) (.inl rfl) (.int .u64 (xs 3))).cell (g := w.heap.size) (i := 4) (.inl rfl) (.int .u64 (xs 4))).cell (g := w.heap.size) (i := 5) (.inl rfl) (.int .u64 (xs 5))))
  have FF := hid3 (show FinR w kd_Unbonding 6 mkA st (.returned (.tuple #[.agg #[.int .u64 (xs 0), .int .u64 (xs 1), .int .u64 (xs 2), .int .u64 (xs 3), .int .u64 (xs 4), .int .u64 (xs 5)], .int .i64 r])) ((((((w1.setCell ⟨w.heap.size, 0, none⟩ (.int .u64 (xs 0))).setCell ⟨w.heap.size, 1, none⟩ (.int .u64 (xs 1))).setCell ⟨w.heap.size, 2, none⟩ (.int .u64 (xs 2))).setCell ⟨w.heap.size, 3, none⟩ (.int .u64 (xs 3))).setCell ⟨w.heap.size, 4, none⟩ (.int .u64 (xs 4))).setCell ⟨w.heap.size, 5, none⟩ (.int .u64 (xs 5))) from ⟨⟨[.int .u64 (xs 0), .int .u64 (xs 1), .int .u64 (xs 2), .int .u64 (xs 3), .int .u64 (xs 4), .int .u64 (xs 5)], xs, r, rfl, rfl, (h2.off KC.out.size (fun y hy hy2 => KC.out.same y hy2 (fun e => by have e' : y = w.heap.size := e; have := HZ.out; omega))).low HB.out.size, h3, h4⟩, ((((((BF.setCell (p := ⟨w.heap.size, 0, none⟩) (Nat.le_refl _) (.int .u64 (xs 0))).setCell (p := ⟨w.heap.size, 1, none⟩) (Nat.le_refl _) (.int .u64 (xs 1))).setCell (p := ⟨w.heap.size, 2, none⟩) (Nat.le_refl _) (.int .u64 (xs 2))).setCell (p := ⟨w.heap.size, 3, none⟩) (Nat.le_refl _) (.int .u64 (xs 3))).setCell (p := ⟨w.heap.size, 4, none⟩) (Nat.le_refl _) (.int .u64 (xs 4))).setCell (p := ⟨w.heap.size, 5, none⟩) (Nat.le_refl _) (.int .u64 (xs 5)))⟩)
  clear h1 h2 h3 h4 B K1 BF HU KC HY HB q0 q1 q2 q3 q4 q5
  simp only [mkA]
  go_wp2
  refine bodyPost_ret (ret_rc rfl rfl rfl (ld_Unbonding (KB.out.cell (i := 0) rfl) (KB.out.cell (i := 1) rfl) (KB.out.cell (i := 2) rfl) (KB.out.cell (i := 3) rfl) (KB.out.cell (i := 4) rfl) (KB.out.cell (i := 5) rfl))) rfl ?_
  exact FF.out
set_option maxHeartbeats 2000000 in
set_option maxRecDepth 100000 in
theorem PutMove_any {w : World} {x0 : Int} {x1 : Int} {x2 : Int} {x3 : Int} {x4 : Int} {x5 : Int} {a6 : Option Addr} {n6 c6 : Nat} {x6 : Int} (h6 : NatA w a6 n6 c6 x6) (m6 : n6 ≤ 1000000) :
    Calls Tryz.prog 101 #[.agg #[.int .u64 x0, .int .u64 x1, .int .u64 x2, .int .u64 x3, .int .u64 x4, .int .u64 x5, .slice a6 n6 c6]] w fun e w' => ∃ b n, e = .returned (.slice (some ⟨b, 0, none⟩) n n) ∧ n = (thr (pnx (fun o => ([x0, x1, x2, x3, x4, x5, x6] : List Int).getD o 0)) [(0, 0), (0, 1), (0, 2), (0, 3), (0, 4), (0, 5), (2, 6)] []).length ∧ Box w' b ((thr (pnx (fun o => ([x0, x1, x2, x3, x4, x5, x6] : List Int).getD o 0)) [(0, 0), (0, 1), (0, 2), (0, 3), (0, 4), (0, 5), (2, 6)] []).map (Value.int .u8)) 5 ∧ w.heap.size ≤ b ∧ Below w.heap.size w w' := by
  have b1 := below_alloc w (.cells #[.int .u64 x0, .int .u64 x1, .int .u64 x2, .int .u64 x3, .int .u64 x4, .int .u64 x5, .slice a6 n6 c6] 48)
  have U := put_Move (h6.keep b1) m6 (x0 := x0) (x1 := x1) (x2 := x2) (x3 := x3) (x4 := x4) (x5 := x5) (w := w.alloc (.cells #[.int .u64 x0, .int .u64 x1, .int .u64 x2, .int .u64 x3, .int .u64 x4, .int .u64 x5, .slice a6 n6 c6] 48))
  have HB := hid3 b1
  generalize thr (pnx (fun o => ([x0, x1, x2, x3, x4, x5, x6] : List Int).getD o 0)) [(0, 0), (0, 1), (0, 2), (0, 3), (0, 4), (0, 5), (2, 6)] [] = M at *
  have HU := hid3 U
  clear U
  go_enter Tryz.func101, Tryz.ntmps101
  go_wp2_with fail
  refine HU.out.mono ?_
  rintro e' w1 ⟨b, n, rfl, hn, X, hb, B⟩
  have FF := hid3 (show n = M.length ∧ Box w1 b (M.map (Value.int .u8)) 5 ∧ w.heap.size ≤ b ∧ Below w.heap.size w w1 from ⟨hn, X, Nat.le_trans HB.out.size hb, joinB HB.out B⟩)
  clear hn X hb B HU HB
  go_wp2
  go_ret
  exact ⟨b, n, rfl, FF.out⟩
set_option maxHeartbeats 4000000 in
set_option maxRecDepth 100000 in
theorem Move_any {w : World} {bb n c : Nat} {ao : Option Addr} {l : List Int} (A : ByA w bb ao n c l) (hn : n ≤ 1000000000) (hl : l.length = n) :
    Calls Tryz.prog 102 #[.slice ao n c] w (FinR w kd_Move 7 mkA (thr rnx [(0, 0), (0, 1), (0, 2), (0, 3), (0, 4), (0, 5), (2, 6)] (0, l, fun _ => (0 : Int)))) := by
  have b1 := below_alloc w (.cells #[.int .u64 0, .int .u64 0, .int .u64 0, .int .u64 0, .int .u64 0, .int .u64 0, .slice none 0 0] 48)
  have y1 := blk_new w [.int .u64 0, .int .u64 0, .int .u64 0, .int .u64 0, .int .u64 0, .int .u64 0, .slice none 0 0] 48
  have z1 := size_al w (.cells #[.int .u64 0, .int .u64 0, .int .u64 0, .int .u64 0, .int .u64 0, .int .u64 0, .slice none 0 0] 48)
  have U := read_Move (A.keep b1) hn hl
  generalize thr rnx [(0, 0), (0, 1), (0, 2), (0, 3), (0, 4), (0, 5), (2, 6)] (0, l, fun _ => (0 : Int)) = st at *
  obtain ⟨W1, hW1⟩ : ∃ W1, Hid (w.alloc (.cells #[.int .u64 0, .int .u64 0, .int .u64 0, .int .u64 0, .int .u64 0, .int .u64 0, .slice none 0 0] 48) = W1) := ⟨_, rfl⟩
  rw [hW1.out] at b1 y1 z1 U
  have HU := hid3 U
  have HB := hid3 b1
  have HY := hid3 y1
  have HZ := hid3 z1
  clear A hl b1 y1 z1 U
  go_enter Tryz.func102, Tryz.ntmps102
  go_wp2_with fail
  rw [hW1.out]
  refine HU.out.mono ?_
  rintro e' w1 ⟨⟨cs, xs, r, rfl, h1, h2, h3, h4⟩, B⟩
  have q0 := (h2 0).1 rfl
  have q1 := (h2 1).1 rfl
  have q2 := (h2 2).1 rfl
  have q3 := (h2 3).1 rfl
  have q4 := (h2 4).1 rfl
  have q5 := (h2 5).1 rfl
  obtain ⟨a6, n6, d6, q6, -, -⟩ := (h2 6).2.2 rfl
  have ecs : cs = [.int .u64 (xs 0), .int .u64 (xs 1), .int .u64 (xs 2), .int .u64 (xs 3), .int .u64 (xs 4), .int .u64 (xs 5), .slice a6 n6 d6] := by
    apply List.ext_getElem?
    intro i
    match i with
    | 0 => rw [q0]; rfl
    | 1 => rw [q1]; rfl
    | 2 => rw [q2]; rfl
    | 3 => rw [q3]; rfl
    | 4 => rw [q4]; rfl
    | 5 => rw [q5]; rfl
    | 6 => rw [q6]; rfl
    | k + 7 => rw [List.getElem?_eq_none (by omega), List.getElem?_eq_none (by simp)]
  subst ecs
  have K1 := HY.out.keep B
  have BF := joinB HB.out B
  have u0 := K1.cell (i := 0) rfl
  have f0 := K1.free 0
  have u1 := K1.cell (i := 1) rfl
  have f1 := K1.free 1
  have u2 := K1.cell (i := 2) rfl
  have f2 := K1.free 2
  have u3 := K1.cell (i := 3) rfl
  have f3 := K1.free 3
  have u4 := K1.cell (i := 4) rfl
  have f4 := K1.free 4
  have u5 := K1.cell (i := 5) rfl
  have f5 := K1.free 5
  have u6 := K1.cell (i := 6) rfl
  have f6 := K1.free 6
  have KB := hid3 (show Blk (((((((w1.setCell ⟨w.heap.size, 0, none⟩ (.int .u64 (xs 0))).setCell ⟨w.heap.size, 1, none⟩ (.int .u64 (xs 1))).setCell ⟨w.heap.size, 2, none⟩ (.int .u64 (xs 2))).setCell ⟨w.heap.size, 3, none⟩ (.int .u64 (xs 3))).setCell ⟨w.heap.size, 4, none⟩ (.int .u64 (xs 4))).setCell ⟨w.heap.size, 5, none⟩ (.int .u64 (xs 5))).setCell ⟨w.heap.size, 6, none⟩ (.slice a6 n6 d6)) w.heap.size [.int .u64 (xs 0), .int .u64 (xs 1), .int .u64 (xs 2), .int .u64 (xs 3), .int .u64 (xs 4), .int .u64 (xs 5), .slice a6 n6 d6] 48 from (((((((K1.setCell (i := 0) (.int .u64 (xs 0))).setCell (i := 1) (.int .u64 (xs 1))).setCell (i := 2) (.int .u64 (xs 2))).setCell (i := 3) (.int .u64 (xs 3))).setCell (i := 4) (.int .u64 (xs 4))).setCell (i := 5) (.int .u64 (xs 5))).setCell (i := 6) (.slice a6 n6 d6)))
  have KC := hid3 (show Chg (fun x => x = w.heap.size) w1 (((((((w1.setCell ⟨w.heap.size, 0, none⟩ (.int .u64 (xs 0))).setCell ⟨w.heap.size, 1, none⟩ (.int .u64 (xs 1))).setCell ⟨w.heap.size, 2, none⟩ (.int .u64 (xs 2))).setCell ⟨w.heap.size, 3, none⟩ (.int .u64 (xs 3))).setCell ⟨w.heap.size, 4, none⟩ (.int .u64 (xs 4))).setCell ⟨w.heap.size, 5, none⟩ (.int .u64 (xs 5))).setCell ⟨w.heap.size, 6, none⟩ (.slice a6 n6 d6)) from ((((((((Chg.refl (fun x => x = w.heap.size) w1).cell (g := w.heap.size) (i := 0) (.inl rfl) (.int .u64 (xs 0))).cell (g := w.heap.size) (i := 1) (.inl rfl) (.int .u64 (xs 1))).cell (g := w.heap.size) (i := 2) (.inl rfl) (.int .u64 (xs 2))).cell (g := w.heap.size) (i := 3) (.inl rfl) (.int .u64 (xs 3))).cell (g := w.heap.size) (i := 4) (.inl rfl) (.int .u64 (xs 4))).cell (g := w.heap.size) (i := 5) (.inl rfl) (.int .u64 (xs 5))).cell (g := w.heap.size) (i := 6) (.inl rfl) (.slice a6 n6 d6)))
  have FF := hid3 (show FinR w kd_Move 7 mkA st (.returned (.tuple #[.agg #[.int .u64 (xs 0), .int .u64 (xs 1), .int .u64 (xs 2), .int .u64 (xs 3), .int .u64 (xs 4), .int .u64 (xs 5), .slice a6 n6 d6], .int .i64 r])) (((((((w1.setCell ⟨w.heap.size, 0, none⟩ (.int .u64 (xs 0))).setCell ⟨w.heap.size, 1, none⟩ (.int .u64 (xs 1))).setCell ⟨w.heap.size, 2, none⟩ (.int .u64 (xs 2))).setCell ⟨w.heap.size, 3, none⟩ (.int .u64 (xs 3))).setCell ⟨w.heap.size, 4, none⟩ (.int .u64 (xs 4))).setCell ⟨w.heap.size, 5, none⟩ (.int .u64 (xs 5))).setCell ⟨w.heap.size, 6, none⟩ (.slice a6 n6 d6)) from ⟨⟨[.int .u64 (xs 0), .int .u64 (xs 1), .int .u64 (xs 2), .int .u64 (xs 3), .int .u64 (xs 4), .int .u64 (xs 5), .slice a6 n6 d6], xs, r, rfl, rfl, (h2.off KC.out.size (fun y hy hy2 => KC.out.same y hy2 (fun e => by have e' : y = w.heap.size := e; have := HZ.out; omega))).low HB.out.size, h3, h4⟩, (((((((BF.setCell (p := ⟨w.heap.size, 0, none⟩) (Nat.le_refl _) (.int .u64 (xs 0))).setCell (p := ⟨w.heap.size, 1, none⟩) (Nat.le_refl _) (.int .u64 (xs 1))).setCell (p := ⟨w.heap.size, 2, none⟩) (Nat.le_refl _) (.int .u64 (xs 2))).setCell (p := ⟨w.heap.size, 3, none⟩) (Nat.le_refl _) (.int .u64 (xs 3))).setCell (p := ⟨w.heap.size, 4, none⟩) (Nat.le_refl _) (.int .u64 (xs 4))).setCell (p := ⟨w.heap.size, 5, none⟩) (Nat.le_refl _) (.int .u64 (xs 5))).setCell (p := ⟨w.heap.size, 6, none⟩) (Nat.le_refl _) (.slice a6 n6 d6))⟩)
  clear h1 h2 h3 h4 B K1 BF HU KC HY HB q0 q1 q2 q3 q4 q5 q6
  simp only [mkA]
  go_wp2
  refine bodyPost_ret (ret_rc rfl rfl rfl (ld_Move (KB.out.cell (i := 0) rfl) (KB.out.cell (i := 1) rfl) (KB.out.cell (i := 2) rfl) (KB.out.cell (i := 3) rfl) (KB.out.cell (i := 4) rfl) (KB.out.cell (i := 5) rfl) (KB.out.cell (i := 6) rfl))) rfl ?_
  exact FF.out
set_option maxHeartbeats 2000000 in
set_option maxRecDepth 100000 in
theorem PutNumber_any {w : World} {x0 : Int} :
    Calls Tryz.prog 93 #[.int .u64 x0] w fun e w' => ∃ b n, e = .returned (.slice (some ⟨b, 0, none⟩) n n) ∧ n = (thr (pnx (fun o => ([x0] : List Int).getD o 0)) [(0, 0)] []).length ∧ Box w' b ((thr (pnx (fun o => ([x0] : List Int).getD o 0)) [(0, 0)] []).map (Value.int .u8)) 5 ∧ w.heap.size ≤ b ∧ Below w.heap.size w w' := by
  have U := put_Number (x0 := x0) (w := w)
  have HB := hid3 (Below.refl w.heap.size w)
  generalize thr (pnx (fun o => ([x0] : List Int).getD o 0)) [(0, 0)] [] = M at *
  have HU := hid3 U
  clear U
  go_enter Tryz.func93, Tryz.ntmps93
  go_wp2_with fail
  refine HU.out.mono ?_
  rintro e' w1 ⟨b, n, rfl, hn, X, hb, B⟩
  have FF := hid3 (show n = M.length ∧ Box w1 b (M.map (Value.int .u8)) 5 ∧ w.heap.size ≤ b ∧ Below w.heap.size w w1 from ⟨hn, X, Nat.le_trans HB.out.size hb, joinB HB.out B⟩)
  clear hn X hb B HU HB
  go_wp2
  go_ret
  exact ⟨b, n, rfl, FF.out⟩
set_option maxRecDepth 100000 in
theorem Number_any {w : World} {bb n c : Nat} {ao : Option Addr} {l : List Int} (A : ByA w bb ao n c l) (hn : n ≤ 1000000000) (hl : l.length = n) :
    Calls Tryz.prog 65 #[.slice ao n c] w (FinR w kd_Number 1 mkO (thr rnx [(0, 0)] (0, l, fun _ => (0 : Int)))) := by
  have U := read_Number A hn hl
  generalize thr rnx [(0, 0)] (0, l, fun _ => (0 : Int)) = st at *
  clear A hl
  go_enter Tryz.func65, Tryz.ntmps65
  go_wp2_with fail
  refine U.mono ?_
  rintro e' w1 ⟨⟨cs, xs, r, rfl, h1, h2, h3, h4⟩, B⟩
  have q0 := (h2 0).1 rfl
  have ecs : cs = [.int .u64 (xs 0)] := by
    apply List.ext_getElem?
    intro i
    match i with
    | 0 => rw [q0]; rfl
    | k + 1 => rw [List.getElem?_eq_none (by omega), List.getElem?_eq_none (by simp)]
  subst ecs
  have FF := hid3 (show FinR w kd_Number 1 mkO st (.returned (.tuple #[.int .u64 (xs 0), .int .i64 r])) w1 from ⟨⟨[.int .u64 (xs 0)], xs, r, rfl, rfl, h2, h3, h4⟩, B⟩)
  clear h1 h2 h3 h4 B q0 U
  simp only [mkO, List.headD_cons]
  go_wp2
  go_ret2
  exact FF.out
end Rc
end Go.Proofs.YtidnifmehnjipaaGreat

namespace Go.Proofs.YtidnifmehnjipaaGreat
open Go.RowKit Lim

theorem natL_256 (L : List Int) : natL 256 0 L = L ++ [2, 1, 0] := by
  unfold natL
  rw [natB_256]
  rfl
theorem natE_256 : natE 256 0 = 0 := by
  unfold natE
  rw [natB_256]
  rfl
theorem natL_0 (L : List Int) : natL 0 0 L = L ++ [0] := by
  unfold natL
  rw [natB_0]
  rfl
theorem natE_0 : natE 0 0 = 0 := by
  unfold natE
  rw [natB_0]
  rfl
theorem lit256 (w : World) (t : TypeId) : NatO (w.alloc (.cells #[.int .u64 256] t)) (some ⟨w.heap.size, 0, none⟩) 1 1 256 := ⟨w.heap.size, 0, [256], rfl, Nat.le_refl _, ⟨fun x hx => by simp at hx; omega, by decide, by decide⟩, lit_nat w [256] t⟩
theorem litB (w : World) (l : List Int) (ho : Octets l) (h : l.length ≤ 9223372036854775807) : ByA (w.alloc (.cells (l.map (Value.int .u8)).toArray 5)) w.heap.size (some ⟨w.heap.size, 0, none⟩) l.length l.length l := (lit_bytes w l _).bya ho h
theorem under_byte : Tryz.prog.underlying 5 = some (.int .u8) := by kernel_rfl
theorem lit2 (w : World) (a b : Int) (h : Octets [a, b]) : ByA (w.alloc (.cells #[.int .u8 a, .int .u8 b] 5 (2, 3))) w.heap.size (some ⟨w.heap.size, 0, none⟩) 2 2 [a, b] := ⟨0, rfl, Nat.le_refl _, ⟨by decide, fun e => by cases e⟩, h, .inr rfl, fun i hi => by
  have hb : (w.alloc (.cells #[.int .u8 a, .int .u8 b] 5 (2, 3))).heap[w.heap.size]? = some (.cells #[.int .u8 a, .int .u8 b] 5 (2, 3)) := by
    show (w.heap.push _)[w.heap.size]? = _
    simp
  simp only [World.cell?, hb]
  match i, hi with
  | 0, _ => rfl
  | 1, _ => rfl⟩
end Go.Proofs.YtidnifmehnjipaaGreat

namespace Go.Proofs.YtidnifmehnjipaaGreat
open Go.RowKit Lim

/-- a step of a script: its five cells, and what lies behind its two lists -/
structure Stp where
  what : Int
  num : Int
  na : Option Addr
  nn : Nat
  nc : Nat
  V : Int
  ba : Option Addr
  bn : Nat
  bc : Nat
  bb : Nat
  bl : List Int
  most : Int
structure StpA (w : World) (s : Stp) : Prop where
  w1 : -9223372036854775808 ≤ s.what
  w2 : s.what ≤ 9223372036854775807
  n1 : 0 ≤ s.num
  n2 : s.num ≤ 18446744073709551615
  nat : NatA w s.na s.nn s.nc s.V
  nlt : s.nn ≤ 1099511627776 * 16
  byt : ByA w s.bb s.ba s.bn s.bc s.bl
  blt : s.bn ≤ 1099511627776 * 128
  m1 : -9223372036854775808 ≤ s.most
  m2 : s.most ≤ 9223372036854775807
theorem StpA.keep {w w' : World} {s : Stp} (h : StpA w s) (hb : Below w.heap.size w w') : StpA w' s := ⟨h.w1, h.w2, h.n1, h.n2, h.nat.keep hb, h.nlt, h.byt.keep hb, h.blt, h.m1, h.m2⟩
structure StpC (w : World) (b o : Nat) (s : Stp) : Prop where
  c0 : w.cell? ⟨b, o, none⟩ = some (.int .i64 s.what)
  c1 : w.cell? ⟨b, o + 1, none⟩ = some (.int .u64 s.num)
  c2 : w.cell? ⟨b, o + 2, none⟩ = some (.slice s.na s.nn s.nc)
  c3 : w.cell? ⟨b, o + 3, none⟩ = some (.slice s.ba s.bn s.bc)
  c4 : w.cell? ⟨b, o + 4, none⟩ = some (.int .i64 s.most)
theorem StpC.keep {w w' : World} {b o : Nat} {s : Stp} (h : StpC w b o s) (hb : Below w.heap.size w w') : StpC w' b o s := by
  have k : ∀ {q : Nat} {v : Value}, w.cell? ⟨b, q, none⟩ = some v → w'.cell? ⟨b, q, none⟩ = some v := fun {q v} hc => by
    have hlt := cell_lt hc
    rw [World.cell?_of_block (w := w) (hb.block b hlt)]
    exact hc
  exact ⟨k h.c0, k h.c1, k h.c2, k h.c3, k h.c4⟩
/-- a script in memory -/
structure StepsA (w : World) (ao : Option Addr) (n : Nat) (ss : List Stp) : Prop where
  len : ss.length = n
  le : n ≤ 9223372036854775807
  get : ∀ i s, ss[i]? = some s → ∃ b o, ao = some ⟨b, o, none⟩ ∧ StpC w b (o + i * 5) s ∧ StpA w s
theorem StepsA.keep {w w' : World} {ao : Option Addr} {n : Nat} {ss : List Stp} (h : StepsA w ao n ss) (hb : Below w.heap.size w w') : StepsA w' ao n ss :=
  ⟨h.len, h.le, fun i s hs => by
    obtain ⟨b, o, h1, h2, h3⟩ := h.get i s hs
    exact ⟨b, o, h1, h2.keep hb, h3.keep hb⟩⟩
theorem StepsA.at {w : World} {ao : Option Addr} {n : Nat} {ss : List Stp} (h : StepsA w ao n ss) {i : Nat} (hi : i < n) : ∃ s b o, ss[i]? = some s ∧ ao = some ⟨b, o, none⟩ ∧ StpC w b (o + i * 5) s ∧ StpA w s := by
  have hl := h.len
  have e : ss[i]? = some ss[i] := List.getElem?_eq_getElem (by omega)
  obtain ⟨b, o, h1, h2, h3⟩ := h.get i _ e
  exact ⟨_, b, o, e, h1, h2, h3⟩
/-- how heavy the first steps are -/
def heavy : List Stp → Nat
  | [] => 0
  | s :: r => s.bn + 8 * s.nn + heavy r
theorem heavy_snoc (l : List Stp) (s : Stp) : heavy (l ++ [s]) = heavy l + (s.bn + 8 * s.nn) := by
  induction l with
  | nil => simp [heavy]
  | cons x l ih => simp only [List.cons_append, heavy, ih]; omega
theorem heavy_take {l : List Stp} {i : Nat} {s : Stp} (h : l[i]? = some s) : heavy (l.take (i + 1)) = heavy (l.take i) + (s.bn + 8 * s.nn) := by
  rw [List.take_add_one, h]
  simp [heavy_snoc]
theorem heavy_append (l r : List Stp) : heavy (l ++ r) = heavy l + heavy r := by
  induction l with
  | nil => simp [heavy]
  | cons x l ih => simp only [List.cons_append, heavy, ih]; omega
theorem heavy_le (l : List Stp) (k : Nat) : heavy (l.take k) ≤ heavy l := by
  have := heavy_append (l.take k) (l.drop k)
  rw [List.take_append_drop] at this
  omega
theorem heavy_mem {l : List Stp} {i : Nat} {s : Stp} (h : l[i]? = some s) : s.bn + 8 * s.nn ≤ heavy l := by
  have h1 := heavy_take h
  have h2 := heavy_le l (i + 1)
  omega
end Go.Proofs.YtidnifmehnjipaaGreat

namespace Go.Proofs.YtidnifmehnjipaaGreat
open Go.RowKit Lim

theorem be_bval {l : List Int} (h : Octets l) : be l.length (bval l) = l := by
  refine bval_inj (be_oct _ _) h (be_length _ _) ?_
  have hb := bval_bound h
  rw [be_val _ hb.1, Int.emod_eq_of_lt hb.1 hb.2]
theorem be_take {l : List Int} (h : Octets l) {m : Nat} (hm : m ≤ l.length) : be m (bval (l.take m)) = l.take m := by
  have := be_bval (l := l.take m) (fun x hx => h x (List.mem_of_mem_take hx))
  rwa [List.length_take, Nat.min_eq_left hm] at this
/-- a part was read of L: with an error nothing is taken; without one, what is laid again is what was taken -/
def One (err' : Int) (L L' : List Int) (laid : List Int → Prop) : Prop := (err' ≠ 0 ∧ L' = L) ∨ (err' = 0 ∧ ∃ k, k ≤ L.length ∧ laid (L.take k) ∧ L' = L.drop k)
theorem one_fix {L : List Int} (h : Octets L) (m : Nat) : One (rdE (pFix m L) 0) L (rdL (pFix m L) 0 L) (fun t => be m (rdV 0 (pFix m L) 0) = t) := by
  by_cases hm : m ≤ L.length
  · have e : pFix m L = .inr (bval (L.take m), m) := by unfold pFix; rw [if_pos hm]
    rw [e]
    exact .inr ⟨rfl, m, hm, be_take h hm, rfl⟩
  · have e : pFix m L = .inl 40 := by unfold pFix; rw [if_neg hm]
    rw [e]
    exact .inl ⟨by decide, rfl⟩
theorem one_bool {L : List Int} (h : Octets L) : One (rdE (pBool L) 0) L (rdL (pBool L) 0 L) (fun t => be 1 (if rdV false (pBool L) 0 then 1 else 0) = t) := by
  by_cases hm : 1 ≤ L.length
  · by_cases hx : 1 < bval (L.take 1)
    · have e : pBool L = .inl 41 := by unfold pBool; rw [if_pos hm, if_pos hx]
      rw [e]
      exact .inl ⟨by decide, rfl⟩
    · have e : pBool L = .inr (bval (L.take 1) == 1, 1) := by unfold pBool; rw [if_pos hm, if_neg hx]
      rw [e]
      refine .inr ⟨rfl, 1, hm, ?_, rfl⟩
      have hbt := be_take h hm
      have h0 := (bval_bound (l := L.take 1) (fun x hx => h x (List.mem_of_mem_take hx))).1
      show be 1 (if (bval (L.take 1) == 1) = true then 1 else 0) = L.take 1
      generalize L.take 1 = M at *
      by_cases h1 : bval M = 1
      · rw [h1] at hbt ⊢
        exact hbt
      · rw [show bval M = 0 by omega] at hbt ⊢
        exact hbt
  · have e : pBool L = .inl 40 := by unfold pBool; rw [if_neg hm]
    rw [e]
    exact .inl ⟨by decide, rfl⟩
theorem cntOf_nn {m : Nat} {L : List Int} (h : Octets L) : ((cntOf m L : Nat) : Int) = bval (L.take m) := by
  unfold cntOf
  rw [Int.toNat_of_nonneg (bval_bound (fun x hx => h x (List.mem_of_mem_take hx))).1]
theorem cnt_lay {m : Nat} {L : List Int} (h : Octets L) (hm : m ≤ L.length) (hc : m + cntOf m L ≤ L.length) : cntd m ((L.drop m).take (cntOf m L)) = L.take (m + cntOf m L) := by
  unfold cntd
  have e : (((L.drop m).take (cntOf m L)).length : Int) = bval (L.take m) := by
    rw [List.length_take, List.length_drop, Nat.min_eq_left (by omega)]
    exact cntOf_nn h
  rw [e, be_take h hm, List.take_add]
theorem one_nat {L : List Int} (h : Octets L) : One (rdE (pNat L) 0) L (rdL (pNat L) 0 L) (fun t => natE (rdV 0 (pNat L) 0) 0 = 0 ∧ ∀ K, natL (rdV 0 (pNat L) 0) 0 K = K ++ t) := by
  by_cases hm : 1 ≤ L.length
  · by_cases hc : 1 + cntOf 1 L ≤ L.length
    · by_cases hz : 0 < cntOf 1 L ∧ nth (L.drop 1) 0 = 0
      · have e : pNat L = .inl 41 := by unfold pNat; rw [if_pos hm, if_pos hc, if_pos hz]
        rw [e]
        exact .inl ⟨by decide, rfl⟩
      · have e : pNat L = .inr (bval ((L.drop 1).take (cntOf 1 L)), 1 + cntOf 1 L) := by unfold pNat; rw [if_pos hm, if_pos hc, if_neg hz]
        have hcl := cnt_lay h hm hc
        have hlt : ((cntOf 1 L : Nat) : Int) < 256 := by
          have := (bval_bound (l := L.take 1) (fun x hx => h x (List.mem_of_mem_take hx))).2
          rw [List.length_take, Nat.min_eq_left hm] at this
          rw [cntOf_nn h]
          simpa using this
        have hoct : Octets ((L.drop 1).take (cntOf 1 L)) := fun x hx => h x (List.mem_of_mem_drop (List.mem_of_mem_take hx))
        have hlen : ((L.drop 1).take (cntOf 1 L)).length = cntOf 1 L := by rw [List.length_take, List.length_drop]; omega
        have hB : natB (bval ((L.drop 1).take (cntOf 1 L))) = (L.drop 1).take (cntOf 1 L) := natB_unique (bval_bound hoct).1 ⟨hoct, fun hne => by
          have hpos : 0 < cntOf 1 L := by
            rcases Nat.eq_zero_or_pos (cntOf 1 L) with h0 | h0
            · exact absurd (by rw [h0]; simp) hne
            · exact h0
          rw [nth_take hpos]
          exact fun h0 => hz ⟨hpos, h0⟩, rfl⟩
        rw [e]
        refine .inr ⟨rfl, _, hc, ?_, rfl⟩
        show natE (bval ((L.drop 1).take (cntOf 1 L))) 0 = 0 ∧ ∀ K, natL (bval ((L.drop 1).take (cntOf 1 L))) 0 K = K ++ L.take (1 + cntOf 1 L)
        unfold natE natL
        rw [hB, if_pos (by omega)]
        refine ⟨rfl, fun K => ?_⟩
        rw [if_pos (by omega), hcl]
        rfl
    · have e : pNat L = .inl 40 := by unfold pNat; rw [if_pos hm, if_neg hc]
      rw [e]
      exact .inl ⟨by decide, rfl⟩
  · have e : pNat L = .inl 40 := by unfold pNat; rw [if_neg hm]
    rw [e]
    exact .inl ⟨by decide, rfl⟩
theorem one_raw {L : List Int} {most : Int} (h : Octets L) : One (rdE (pRaw most L) 0) L (rdL (pRaw most L) 0 L) (fun t => cntd 4 (rdV [] (pRaw most L) 0) = t) := by
  by_cases hm : 4 ≤ L.length
  · by_cases hq : most < (cntOf 4 L : Int)
    · have e : pRaw most L = .inl 42 := by unfold pRaw; rw [if_pos hm, if_pos hq]
      rw [e]
      exact .inl ⟨by decide, rfl⟩
    · by_cases hc : 4 + cntOf 4 L ≤ L.length
      · have e : pRaw most L = .inr ((L.drop 4).take (cntOf 4 L), 4 + cntOf 4 L) := by unfold pRaw; rw [if_pos hm, if_neg hq, if_pos hc]
        rw [e]
        exact .inr ⟨rfl, _, hc, cnt_lay h hm hc, rfl⟩
      · have e : pRaw most L = .inl 40 := by unfold pRaw; rw [if_pos hm, if_neg hq, if_neg hc]
        rw [e]
        exact .inl ⟨by decide, rfl⟩
  · have e : pRaw most L = .inl 40 := by unfold pRaw; rw [if_neg hm]
    rw [e]
    exact .inl ⟨by decide, rfl⟩
theorem ByA.front2 {w : World} {b : Nat} {ao : Option Addr} {n c : Nat} {l : List Int} (h : ByA w b ao n c l) {k : Nat} (hk : k ≤ n) : ByA w b ao k c (l.take k) := by
  obtain ⟨o, h1, h2, h3, h4, h5⟩ := h.ex
  refine ⟨o, by rw [List.length_take]; omega, by omega, h3, fun x hx => h4 x (List.mem_of_mem_take hx), ?_, fun i hi => ?_⟩
  · rcases h5.loc with e | e
    · exact .inl (by rw [e]; simp)
    · exact .inr e
  · rw [List.length_take] at hi
    rw [h5.cell i (by omega), nth_take (by omega)]
theorem pRaw_len {most : Int} {L : List Int} {err : Int} : (rdV [] (pRaw most L) err).length ≤ L.length := by
  unfold rdV pRaw
  repeat' split
  all_goals first
    | exact Nat.zero_le _
    | (rename_i hh; repeat' split at hh
       all_goals first
         | cases hh
           rw [List.length_take, List.length_drop]; omega
         | cases hh)
theorem pRaw_oct {most : Int} {L : List Int} {err : Int} (h : Octets L) : Octets (rdV [] (pRaw most L) err) := by
  unfold rdV pRaw
  repeat' split
  all_goals first
    | exact fun x hx => by simp at hx
    | (rename_i hh; repeat' split at hh
       all_goals first
         | cases hh
           exact fun x hx => h x (List.mem_of_mem_drop (List.mem_of_mem_take hx))
         | cases hh)
end Go.Proofs.YtidnifmehnjipaaGreat

namespace Go.Proofs.YtidnifmehnjipaaGreat
namespace Rc
open Go.RowKit Go.Lib Pg Lim
theorem cntd_len (m : Nat) (l : List Int) : (cntd m l).length = m + l.length := by
  unfold cntd
  rw [List.length_append, be_length]
theorem take_app {l r : List Int} {m : Nat} (h : l.length = m) : (l ++ r).take m = l ∧ (l ++ r).drop m = r := by
  subst h
  exact ⟨List.take_left, List.drop_left⟩
theorem back_fix (m : Nat) {x : Int} (hx : 0 ≤ x) (r : List Int) : pFix m (be m x ++ r) = .inr (x % 256 ^ m, m) ∧ (be m x ++ r).drop m = r := by
  have h := take_app (r := r) (be_length m x)
  refine ⟨?_, h.2⟩
  unfold pFix
  rw [if_pos (by rw [List.length_append, be_length]; omega), h.1, be_val m hx]
theorem cnt_app {m : Nat} {l r : List Int} (hl : (l.length : Int) < 256 ^ m) : cntOf m (cntd m l ++ r) = l.length := by
  unfold cntOf cntd
  rw [List.append_assoc, (take_app (be_length m _)).1, be_val m (by omega), Int.emod_eq_of_lt (by omega) hl]
  rfl
theorem cnt_drop (m : Nat) (l r : List Int) : (cntd m l ++ r).drop m = l ++ r := by
  unfold cntd
  rw [List.append_assoc, (take_app (be_length m _)).2]
theorem back_nat {V : Int} (hV : 0 ≤ V) (hl : (natB V).length < 256) (r : List Int) : pNat (cntd 1 (natB V) ++ r) = .inr (V, 1 + (natB V).length) ∧ (cntd 1 (natB V) ++ r).drop (1 + (natB V).length) = r := by
  have hc : cntOf 1 (cntd 1 (natB V) ++ r) = (natB V).length := cnt_app (by simpa using (by omega : ((natB V).length : Int) < 256))
  have hd := cnt_drop 1 (natB V) r
  have hB := natB_is hV
  refine ⟨?_, ?_⟩
  · unfold pNat
    rw [if_pos (by rw [List.length_append, cntd_len]; omega), hc, if_pos (by rw [List.length_append, cntd_len]; omega), hd, if_neg, (take_app rfl).1, hB.2.2]
    rintro ⟨h0, h1⟩
    have hne : natB V ≠ [] := fun e => by rw [e] at h0; simp at h0
    refine hB.2.1 hne ?_
    rw [← h1]
    cases hh : natB V with
    | nil => exact absurd hh hne
    | cons x t => rfl
  · rw [← List.drop_drop, hd, (take_app rfl).2]
theorem back_raw {l : List Int} (hl : l.length < 4294967296) (r : List Int) : pRaw (l.length : Int) (cntd 4 l ++ r) = .inr (l, 4 + l.length) ∧ (cntd 4 l ++ r).drop (4 + l.length) = r := by
  have hc : cntOf 4 (cntd 4 l ++ r) = l.length := cnt_app (by simpa using (by omega : (l.length : Int) < 4294967296))
  have hd := cnt_drop 4 l r
  refine ⟨?_, ?_⟩
  · unfold pRaw
    rw [if_pos (by rw [List.length_append, cntd_len]; omega), hc, if_neg (by omega), if_pos (by rw [List.length_append, cntd_len]; omega), hd, (take_app rfl).1]
  · rw [← List.drop_drop, hd, (take_app rfl).2]
theorem back_bool (x : Bool) (r : List Int) : pBool (be 1 (if x then 1 else 0) ++ r) = .inr (x, 1) ∧ (be 1 (if x then 1 else 0) ++ r).drop 1 = r := by
  cases x
  · exact ⟨rfl, rfl⟩
  · exact ⟨rfl, rfl⟩
/-- a field that was read, laid again -/
theorem one1 {l : List Int} (h : Octets l) (k : Nat) (he : rdE (p1 k l) 0 = 0) : enc1 k (rdV 0 (p1 k l) 0) ++ rdL (p1 k l) 0 l = l ∧ ∃ m, rdL (p1 k l) 0 l = l.drop m := by
  match k with
  | 0 =>
    rcases one_fix h 8 with ⟨h1, _⟩ | ⟨_, m, h2, h3, h4⟩
    · exact absurd he h1
    · show be 8 (rdV 0 (pFix 8 l) 0) ++ rdL (pFix 8 l) 0 l = l ∧ ∃ m, rdL (pFix 8 l) 0 l = l.drop m
      rw [h3, h4]
      exact ⟨List.take_append_drop m l, m, rfl⟩
  | 1 =>
    have he' : rdE (pBool l) 0 = 0 := by rw [← pBoolI_E]; exact he
    rcases one_bool h with ⟨h1, _⟩ | ⟨_, m, h2, h3, h4⟩
    · exact absurd he' h1
    · show be 1 (rdV 0 (pBoolI l) 0) ++ rdL (pBoolI l) 0 l = l ∧ ∃ m, rdL (pBoolI l) 0 l = l.drop m
      rw [pBoolI_V, pBoolI_L, h3, h4]
      exact ⟨List.take_append_drop m l, m, rfl⟩
  | k + 2 =>
    rcases one_nat h with ⟨h1, _⟩ | ⟨_, m, h2, ⟨h3, h5⟩, h4⟩
    · exact absurd he h1
    · show cntd 1 (natB (fit (rdV 0 (pNat l) 0))) ++ rdL (pNat l) 0 l = l ∧ ∃ m, rdL (pNat l) 0 l = l.drop m
      have hf : (natB (rdV 0 (pNat l) 0)).length < 256 := by
        unfold natE at h3
        split at h3
        · assumption
        · exact absurd h3 (by decide)
      have e := h5 []
      unfold natL wrote at e
      rw [if_pos hf, if_pos rfl] at e
      unfold fit
      rw [if_pos hf]
      simp only [List.nil_append] at e
      rw [e, h4]
      exact ⟨List.take_append_drop m l, m, rfl⟩
theorem thr_cons {σ : Type} (nx : Nat → Nat → σ → σ) (p : Nat × Nat) (ks : List (Nat × Nat)) (s : σ) : thr nx (p :: ks) s = thr nx ks (nx p.1 p.2 s) := rfl
theorem thr_bad (ks : List (Nat × Nat)) : ∀ s : RSt, s.1 ≠ 0 → (thr rnx ks s).1 = s.1 := by
  induction ks with
  | nil => intro s _; rfl
  | cons p ks ih =>
    intro s hs
    have e : (rnx p.1 p.2 s).1 = s.1 := rdE_bad hs
    rw [thr_cons, ih _ (by rw [e]; exact hs), e]
theorem thr_place (ks : List (Nat × Nat)) (o : Nat) : ∀ s : RSt, o ∉ ks.map Prod.snd → (thr rnx ks s).2.2 o = s.2.2 o := by
  induction ks with
  | nil => intro s _; rfl
  | cons p ks ih =>
    intro s ho
    rw [List.map_cons, List.mem_cons, not_or] at ho
    rw [thr_cons, ih _ ho.2]
    show (if o = p.2 then _ else _) = _
    rw [if_neg ho.1]
theorem octets_drop {l : List Int} (h : Octets l) (m : Nat) : Octets (l.drop m) := fun x hx => h x (List.mem_of_mem_drop hx)
/-- a record that was read, laid again -/
theorem thr_one (ks : List (Nat × Nat)) : ∀ (l : List Int) (xs : Nat → Int), Octets l → (ks.map Prod.snd).Nodup → (thr rnx ks (0, l, xs)).1 = 0 → ∀ L, thr (pnx (thr rnx ks (0, l, xs)).2.2) ks L ++ (thr rnx ks (0, l, xs)).2.1 = L ++ l := by
  induction ks with
  | nil => intro l xs _ _ _ L; rfl
  | cons p ks ih =>
    intro l xs ho hnd he L
    rw [List.map_cons, List.nodup_cons] at hnd
    rw [thr_cons] at he
    have e1 : rdE (p1 p.1 l) 0 = 0 := by
      by_cases hz : rdE (p1 p.1 l) 0 = 0
      · exact hz
      · exact absurd ((thr_bad ks (rnx p.1 p.2 (0, l, xs)) hz).symm.trans he) hz
    obtain ⟨h1, m, h2⟩ := one1 ho p.1 e1
    have es : rnx p.1 p.2 (0, l, xs) = (0, rdL (p1 p.1 l) 0 l, fun i => if i = p.2 then rdV 0 (p1 p.1 l) 0 else xs i) := by
      show (rdE (p1 p.1 l) 0, _, _) = _
      rw [e1]
    have e0 : thr rnx (p :: ks) (0, l, xs) = thr rnx ks (0, rdL (p1 p.1 l) 0 l, fun i => if i = p.2 then rdV 0 (p1 p.1 l) 0 else xs i) := by rw [thr_cons, es]
    rw [es] at he
    rw [e0]
    have ih' := ih _ _ (by rw [h2]; exact octets_drop ho m) hnd.2 he
    rw [thr_cons, ih']
    have ev : (thr rnx ks (0, rdL (p1 p.1 l) 0 l, fun i => if i = p.2 then rdV 0 (p1 p.1 l) 0 else xs i)).2.2 p.2 = rdV 0 (p1 p.1 l) 0 := by
      rw [thr_place ks p.2 _ hnd.1]
      show (if p.2 = p.2 then _ else _) = _
      rw [if_pos rfl]
    show (L ++ enc1 p.1 _) ++ _ = L ++ l
    rw [ev, List.append_assoc, h1]
/-- a field that was laid, read -/
def rng : Nat → Int → Prop
  | 0, x => 0 ≤ x ∧ x < 18446744073709551616
  | 1, x => x = 0 ∨ x = 1
  | _, x => 0 ≤ x
def fitk : Nat → Int → Int
  | 0, x => x
  | 1, x => x
  | _, x => fit x
theorem back1 (k : Nat) {x : Int} (hx : rng k x) (r : List Int) : ∃ m, p1 k (enc1 k x ++ r) = .inr (fitk k x, m) ∧ (enc1 k x ++ r).drop m = r := by
  match k, hx with
  | 0, hx =>
    obtain ⟨h1, h2⟩ := back_fix 8 hx.1 r
    refine ⟨8, ?_, h2⟩
    show pFix 8 (be 8 x ++ r) = _
    rw [h1, Int.emod_eq_of_lt hx.1 (by have := hx.2; simpa using this)]
    rfl
  | 1, hx =>
    have key : ∀ t : Bool, ∃ m, pBoolI (be 1 (if t then 1 else 0) ++ r) = .inr ((if t then 1 else 0), m) ∧ (be 1 (if t then 1 else 0) ++ r).drop m = r := fun t => by
      obtain ⟨h1, h2⟩ := back_bool t r
      refine ⟨1, ?_, h2⟩
      unfold pBoolI
      rw [h1]
    rcases hx with rfl | rfl
    · exact key false
    · exact key true
  | k + 2, hx =>
    have hV : 0 ≤ fit x := by
      unfold fit
      split
      · exact hx
      · decide
    obtain ⟨h1, h2⟩ := back_nat hV (fit_len x) r
    exact ⟨_, h1, h2⟩
/-- a record that was laid, read -/
theorem thr_back (xv : Nat → Int) (ks : List (Nat × Nat)) : ∀ (r : List Int) (xs : Nat → Int), (ks.map Prod.snd).Nodup → (∀ p ∈ ks, rng p.1 (xv p.2)) → ∃ ys, thr rnx ks (0, thr (pnx xv) ks [] ++ r, xs) = (0, r, ys) ∧ (∀ p ∈ ks, ys p.2 = fitk p.1 (xv p.2)) ∧ ∀ o, o ∉ ks.map Prod.snd → ys o = xs o := by
  have hL : ∀ (ks : List (Nat × Nat)) (L : List Int), thr (pnx xv) ks L = L ++ thr (pnx xv) ks [] := by
    intro ks
    induction ks with
    | nil => intro L; simp [thr]
    | cons p ks ih =>
      intro L
      rw [thr_cons, thr_cons, ih (pnx xv p.1 p.2 L), ih (pnx xv p.1 p.2 [])]
      simp [pnx, List.append_assoc]
  induction ks with
  | nil => exact fun r xs _ _ => ⟨xs, rfl, (fun p hp => by cases hp), fun _ _ => rfl⟩
  | cons p ks ih =>
    intro r xs hnd hr
    rw [List.map_cons, List.nodup_cons] at hnd
    obtain ⟨m, h1, h2⟩ := back1 p.1 (hr p List.mem_cons_self) (thr (pnx xv) ks [] ++ r)
    have el : thr (pnx xv) (p :: ks) [] ++ r = enc1 p.1 (xv p.2) ++ (thr (pnx xv) ks [] ++ r) := by
      rw [thr_cons, hL]
      simp [pnx, List.append_assoc]
    rw [el, thr_cons]
    have es : rnx p.1 p.2 (0, enc1 p.1 (xv p.2) ++ (thr (pnx xv) ks [] ++ r), xs) = (0, thr (pnx xv) ks [] ++ r, fun i => if i = p.2 then fitk p.1 (xv p.2) else xs i) := by
      show (rdE (p1 p.1 _) 0, rdL (p1 p.1 _) 0 _, fun i => if i = p.2 then rdV 0 (p1 p.1 _) 0 else xs i) = _
      rw [h1]
      show (_, List.drop m _, _) = _
      rw [h2]
      rfl
    rw [es]
    obtain ⟨ys, e1, e2, e3⟩ := ih r _ hnd.2 (fun q hq => hr q (List.mem_cons_of_mem _ hq))
    refine ⟨ys, e1, fun q hq => ?_, fun o ho => ?_⟩
    · rcases List.mem_cons.1 hq with rfl | hq
      · rw [e3 _ hnd.1]
        show (if q.2 = q.2 then _ else _) = _
        rw [if_pos rfl]
      · exact e2 q hq
    · rw [List.map_cons, List.mem_cons, not_or] at ho
      rw [e3 o ho.2]
      show (if o = p.2 then _ else _) = _
      rw [if_neg ho.1]
end Rc
end Go.Proofs.YtidnifmehnjipaaGreat

namespace Go.Proofs.YtidnifmehnjipaaGreat
namespace Rc
open Go.RowKit Go.Lib Pg
attribute [local go_sem] Oper.semAt_some
theorem enc1_oct (k : Nat) (x : Int) : Octets (enc1 k x) := by
  unfold enc1
  split
  · exact be_oct _ _
  · exact be_oct _ _
  · intro y hy
    rcases List.mem_append.1 hy with h | h
    · exact be_oct _ _ y h
    · exact natB_oct _ y h
theorem thr_oct (xs : Nat → Int) (ks : List (Nat × Nat)) : ∀ L, Octets L → Octets (thr (pnx xs) ks L) := by
  induction ks with
  | nil => exact fun _ h => h
  | cons p ks ih =>
    intro L h
    rw [thr_cons]
    refine ih _ ?_
    intro y hy
    rcases List.mem_append.1 hy with h1 | h1
    · exact h y h1
    · exact enc1_oct _ _ y h1
/-- bytes that were laid, as a list -/
theorem box_bya {w : World} {b n : Nat} {M : List Int} (h : Box w b (M.map (Value.int .u8)) 5) (hn : n = M.length) (ho : Octets M) (hl : M.length ≤ 1000000) : ByA w b (some ⟨b, 0, none⟩) n n M :=
  ⟨0, hn.symm, Nat.le_refl _, ⟨by omega, fun e => by cases e⟩, ho, h.atB⟩
set_option maxRecDepth 100000 in
theorem decSame {w : World} {a0 a1 : Option Addr} {n0 c0 n1 c1 : Nat} {x : Int} (h0 : NatO w a0 n0 c0 x) (h1 : NatO w a1 n1 c1 x) (hn0 : n0 ≤ 1000000) (hn1 : n1 ≤ 1000000) :
    Calls Tryz.prog 68 #[.agg #[.slice a0 n0 c0], .agg #[.slice a1 n1 c1]] w fun e w' => e = .returned (.bool true) ∧ Below w.heap.size w w' := by
  have b1 := below_alloc w (.cells #[.slice a0 n0 c0] 46)
  have b2 := below_alloc (w.alloc (.cells #[.slice a0 n0 c0] 46)) (.cells #[.slice a1 n1 c1] 46)
  have BB := joinB b1 b2
  have t := nSameE (h0.keep BB) (h1.keep BB) (by omega) (by omega)
  have HB := hid3 BB
  clear h0 h1 b1 b2 BB
  go_enter Tryz.func68, Tryz.ntmps68
  go_wp2_with fail
  refine t.mono ?_
  rintro e w1 ⟨rfl, B1⟩
  have HB1 := hid3 (joinB HB.out B1)
  clear t B1
  go_wp2
  go_ret
  exact ⟨rfl, HB1.out⟩
set_option maxHeartbeats 2000000 in
set_option maxRecDepth 100000 in
theorem sameMove {w : World} {x0 : Int} {x1 : Int} {x2 : Int} {x3 : Int} {x4 : Int} {x5 : Int} {a6 b6 : Option Addr} {n6 c6 m6 d6 : Nat} {x6 : Int} (h6 : NatO w a6 n6 c6 x6) (g6 : NatO w b6 m6 d6 x6) (p6 : n6 ≤ 1000000) (q6 : m6 ≤ 1000000) :
    Calls Tryz.prog 27 #[.agg #[.int .u64 x0, .int .u64 x1, .int .u64 x2, .int .u64 x3, .int .u64 x4, .int .u64 x5, .slice a6 n6 c6], .agg #[.int .u64 x0, .int .u64 x1, .int .u64 x2, .int .u64 x3, .int .u64 x4, .int .u64 x5, .slice b6 m6 d6]] w fun e w' => e = .returned (.bool true) ∧ Below w.heap.size w w' := by
  have zb1 := below_alloc w (.cells #[.int .u64 x0, .int .u64 x1, .int .u64 x2, .int .u64 x3, .int .u64 x4, .int .u64 x5, .slice a6 n6 c6] 48)
  have zb2 := below_alloc (w.alloc (.cells #[.int .u64 x0, .int .u64 x1, .int .u64 x2, .int .u64 x3, .int .u64 x4, .int .u64 x5, .slice a6 n6 c6] 48)) (.cells #[.int .u64 x0, .int .u64 x1, .int .u64 x2, .int .u64 x3, .int .u64 x4, .int .u64 x5, .slice b6 m6 d6] 48)
  have zx1 := (blk_new w [.int .u64 x0, .int .u64 x1, .int .u64 x2, .int .u64 x3, .int .u64 x4, .int .u64 x5, .slice a6 n6 c6] 48).keep zb2
  have zx2 := blk_new (w.alloc (.cells #[.int .u64 x0, .int .u64 x1, .int .u64 x2, .int .u64 x3, .int .u64 x4, .int .u64 x5, .slice a6 n6 c6] 48)) [.int .u64 x0, .int .u64 x1, .int .u64 x2, .int .u64 x3, .int .u64 x4, .int .u64 x5, .slice b6 m6 d6] 48
  rw [size_al] at zx2
  obtain ⟨W2, hW2⟩ : ∃ W2, Hid (((w.alloc (.cells #[.int .u64 x0, .int .u64 x1, .int .u64 x2, .int .u64 x3, .int .u64 x4, .int .u64 x5, .slice a6 n6 c6] 48)).alloc (.cells #[.int .u64 x0, .int .u64 x1, .int .u64 x2, .int .u64 x3, .int .u64 x4, .int .u64 x5, .slice b6 m6 d6] 48)) = W2) := ⟨_, rfl⟩
  have bb := joinB zb1 zb2
  rw [hW2.out] at zx1 zx2 bb
  have X1 := hid3 zx1
  have X2 := hid3 zx2
  have HB := hid3 bb
  have BZ := hid3 (Below.refl W2.heap.size W2)
  replace h6 := hid3 h6
  replace g6 := hid3 g6
  clear zb1 zb2 zx1 zx2 bb
  go_enter Tryz.func27, Tryz.ntmps27
  go_wp2_with fail
  rw [hW2.out]
  go_wp2_with first
    | (go_at_call 68; have gate := h6; clear gate; go_must (refine (decSame ((h6.out.keep HB.out).keep BZ.out) ((g6.out.keep HB.out).keep BZ.out) p6 q6).mono ?_); rintro e' y0 ⟨rfl, BN⟩; replace BZ := hid3 (joinB BZ.out BN); clear h6 BN; have u0_0 := (X1.out.keep BZ.out).cell (i := 0) rfl; have v0_0 := (X2.out.keep BZ.out).cell (i := 0) rfl; have u0_1 := (X1.out.keep BZ.out).cell (i := 1) rfl; have v0_1 := (X2.out.keep BZ.out).cell (i := 1) rfl; have u0_2 := (X1.out.keep BZ.out).cell (i := 2) rfl; have v0_2 := (X2.out.keep BZ.out).cell (i := 2) rfl; have u0_3 := (X1.out.keep BZ.out).cell (i := 3) rfl; have v0_3 := (X2.out.keep BZ.out).cell (i := 3) rfl; have u0_4 := (X1.out.keep BZ.out).cell (i := 4) rfl; have v0_4 := (X2.out.keep BZ.out).cell (i := 4) rfl; have u0_5 := (X1.out.keep BZ.out).cell (i := 5) rfl; have v0_5 := (X2.out.keep BZ.out).cell (i := 5) rfl; have u0_6 := (X1.out.keep BZ.out).cell (i := 6) rfl; have v0_6 := (X2.out.keep BZ.out).cell (i := 6) rfl)
  go_ret
  exact ⟨rfl, joinB HB.out BZ.out⟩
end Rc
end Go.Proofs.YtidnifmehnjipaaGreat

namespace Go.Proofs.YtidnifmehnjipaaGreat
namespace Rc
open Go.RowKit Go.Lib Pg
attribute [local go_sem] Oper.semAt_some
theorem bk_Chain {w : World} {bb n c : Nat} {ao : Option Addr} {x0 : Int} {x1 : Int} (A : ByA w bb ao n c (thr (pnx (fun o => ([x0, x1] : List Int).getD o 0)) [(0, 0), (0, 1)] [])) (hn : n ≤ 1000000000) (r0 : 0 ≤ x0 ∧ x0 < 18446744073709551616) (r1 : 0 ≤ x1 ∧ x1 < 18446744073709551616) :
    Calls Tryz.prog 141 #[.slice ao n c] w fun e w' => e = .returned (.tuple #[.agg #[.int .u64 x0, .int .u64 x1], .int .i64 0]) ∧ Below w.heap.size w w' := by
  have hl : (thr (pnx (fun o => ([x0, x1] : List Int).getD o 0)) [(0, 0), (0, 1)] []).length = n := by obtain ⟨o, h1, _⟩ := A.ex; exact h1
  obtain ⟨ys, e1, e2, -⟩ := thr_back (fun o => ([x0, x1] : List Int).getD o 0) [(0, 0), (0, 1)] [] (fun _ => 0) (by decide) (List.forall_mem_cons.2 ⟨r0, List.forall_mem_cons.2 ⟨r1, fun _ h => by cases h⟩⟩)
  rw [List.append_nil] at e1
  refine (Chain_any A hn hl).mono ?_
  rintro e w' ⟨⟨cs, xs, r, rfl, h1, h2, h3, h4⟩, B⟩
  rw [e1] at h3
  obtain ⟨rfl, rfl⟩ := h3 rfl
  have y0 := e2 (0, 0) (by simp)
  have q0 : cs[0]? = some (.int .u64 x0) := by rw [(h2 0).1 rfl]; exact congrArg _ (congrArg _ y0)
  have y1 := e2 (0, 1) (by simp)
  have q1 : cs[1]? = some (.int .u64 x1) := by rw [(h2 1).1 rfl]; exact congrArg _ (congrArg _ y1)
  have ecs : cs = [.int .u64 x0, .int .u64 x1] := by
    apply List.ext_getElem?
    intro i
    match i with
    | 0 => rw [q0]; rfl
    | 1 => rw [q1]; rfl
    | k + 2 => rw [List.getElem?_eq_none (by omega), List.getElem?_eq_none (by simp)]
  subst ecs
  exact ⟨rfl, B⟩
theorem bk_Unbonding {w : World} {bb n c : Nat} {ao : Option Addr} {x0 : Int} {x1 : Int} {x2 : Int} {x3 : Int} {x4 : Int} {x5 : Int} (A : ByA w bb ao n c (thr (pnx (fun o => ([x0, x1, x2, x3, x4, x5] : List Int).getD o 0)) [(0, 0), (0, 1), (0, 2), (0, 3), (0, 4), (0, 5)] [])) (hn : n ≤ 1000000000) (r0 : 0 ≤ x0 ∧ x0 < 18446744073709551616) (r1 : 0 ≤ x1 ∧ x1 < 18446744073709551616) (r2 : 0 ≤ x2 ∧ x2 < 18446744073709551616) (r3 : 0 ≤ x3 ∧ x3 < 18446744073709551616) (r4 : 0 ≤ x4 ∧ x4 < 18446744073709551616) (r5 : 0 ≤ x5 ∧ x5 < 18446744073709551616) :
    Calls Tryz.prog 96 #[.slice ao n c] w fun e w' => e = .returned (.tuple #[.agg #[.int .u64 x0, .int .u64 x1, .int .u64 x2, .int .u64 x3, .int .u64 x4, .int .u64 x5], .int .i64 0]) ∧ Below w.heap.size w w' := by
  have hl : (thr (pnx (fun o => ([x0, x1, x2, x3, x4, x5] : List Int).getD o 0)) [(0, 0), (0, 1), (0, 2), (0, 3), (0, 4), (0, 5)] []).length = n := by obtain ⟨o, h1, _⟩ := A.ex; exact h1
  obtain ⟨ys, e1, e2, -⟩ := thr_back (fun o => ([x0, x1, x2, x3, x4, x5] : List Int).getD o 0) [(0, 0), (0, 1), (0, 2), (0, 3), (0, 4), (0, 5)] [] (fun _ => 0) (by decide) (List.forall_mem_cons.2 ⟨r0, List.forall_mem_cons.2 ⟨r1, List.forall_mem_cons.2 ⟨r2, List.forall_mem_cons.2 ⟨r3, List.forall_mem_cons.2 ⟨r4, List.forall_mem_cons.2 ⟨r5, fun _ h => by cases h⟩⟩⟩⟩⟩⟩)
  rw [List.append_nil] at e1
  refine (Unbonding_any A hn hl).mono ?_
  rintro e w' ⟨⟨cs, xs, r, rfl, h1, h2, h3, h4⟩, B⟩
  rw [e1] at h3
  obtain ⟨rfl, rfl⟩ := h3 rfl
  have y0 := e2 (0, 0) (by simp)
  have q0 : cs[0]? = some (.int .u64 x0) := by rw [(h2 0).1 rfl]; exact congrArg _ (congrArg _ y0)
  have y1 := e2 (0, 1) (by simp)
  have q1 : cs[1]? = some (.int .u64 x1) := by rw [(h2 1).1 rfl]; exact congrArg _ (congrArg _ y1)
  have y2 := e2 (0, 2) (by simp)
  have q2 : cs[2]? = some (.int .u64 x2) := by rw [(h2 2).1 rfl]; exact congrArg _ (congrArg _ y2)
  have y3 := e2 (0, 3) (by simp)
  have q3 : cs[3]? = some (.int .u64 x3) := by rw [(h2 3).1 rfl]; exact congrArg _ (congrArg _ y3)
  have y4 := e2 (0, 4) (by simp)
  have q4 : cs[4]? = some (.int .u64 x4) := by rw [(h2 4).1 rfl]; exact congrArg _ (congrArg _ y4)
  have y5 := e2 (0, 5) (by simp)
  have q5 : cs[5]? = some (.int .u64 x5) := by rw [(h2 5).1 rfl]; exact congrArg _ (congrArg _ y5)
  have ecs : cs = [.int .u64 x0, .int .u64 x1, .int .u64 x2, .int .u64 x3, .int .u64 x4, .int .u64 x5] := by
    apply List.ext_getElem?
    intro i
    match i with
    | 0 => rw [q0]; rfl
    | 1 => rw [q1]; rfl
    | 2 => rw [q2]; rfl
    | 3 => rw [q3]; rfl
    | 4 => rw [q4]; rfl
    | 5 => rw [q5]; rfl
    | k + 6 => rw [List.getElem?_eq_none (by omega), List.getElem?_eq_none (by simp)]
  subst ecs
  exact ⟨rfl, B⟩
theorem bk_Move {w : World} {bb n c : Nat} {ao : Option Addr} {x0 : Int} {x1 : Int} {x2 : Int} {x3 : Int} {x4 : Int} {x5 : Int} {x6 : Int} (A : ByA w bb ao n c (thr (pnx (fun o => ([x0, x1, x2, x3, x4, x5, x6] : List Int).getD o 0)) [(0, 0), (0, 1), (0, 2), (0, 3), (0, 4), (0, 5), (2, 6)] [])) (hn : n ≤ 1000000000) (r0 : 0 ≤ x0 ∧ x0 < 18446744073709551616) (r1 : 0 ≤ x1 ∧ x1 < 18446744073709551616) (r2 : 0 ≤ x2 ∧ x2 < 18446744073709551616) (r3 : 0 ≤ x3 ∧ x3 < 18446744073709551616) (r4 : 0 ≤ x4 ∧ x4 < 18446744073709551616) (r5 : 0 ≤ x5 ∧ x5 < 18446744073709551616) (r6 : 0 ≤ x6) :
    Calls Tryz.prog 102 #[.slice ao n c] w fun e w' => ∃ a6 n6 c6, e = .returned (.tuple #[.agg #[.int .u64 x0, .int .u64 x1, .int .u64 x2, .int .u64 x3, .int .u64 x4, .int .u64 x5, .slice a6 n6 c6], .int .i64 0]) ∧ (NatW w' w.heap.size a6 n6 c6 (fit x6) ∧ n6 ≤ 255) ∧ Below w.heap.size w w' := by
  have hl : (thr (pnx (fun o => ([x0, x1, x2, x3, x4, x5, x6] : List Int).getD o 0)) [(0, 0), (0, 1), (0, 2), (0, 3), (0, 4), (0, 5), (2, 6)] []).length = n := by obtain ⟨o, h1, _⟩ := A.ex; exact h1
  obtain ⟨ys, e1, e2, -⟩ := thr_back (fun o => ([x0, x1, x2, x3, x4, x5, x6] : List Int).getD o 0) [(0, 0), (0, 1), (0, 2), (0, 3), (0, 4), (0, 5), (2, 6)] [] (fun _ => 0) (by decide) (List.forall_mem_cons.2 ⟨r0, List.forall_mem_cons.2 ⟨r1, List.forall_mem_cons.2 ⟨r2, List.forall_mem_cons.2 ⟨r3, List.forall_mem_cons.2 ⟨r4, List.forall_mem_cons.2 ⟨r5, List.forall_mem_cons.2 ⟨r6, fun _ h => by cases h⟩⟩⟩⟩⟩⟩⟩)
  rw [List.append_nil] at e1
  refine (Move_any A hn hl).mono ?_
  rintro e w' ⟨⟨cs, xs, r, rfl, h1, h2, h3, h4⟩, B⟩
  rw [e1] at h3
  obtain ⟨rfl, rfl⟩ := h3 rfl
  have y0 := e2 (0, 0) (by simp)
  have q0 : cs[0]? = some (.int .u64 x0) := by rw [(h2 0).1 rfl]; exact congrArg _ (congrArg _ y0)
  have y1 := e2 (0, 1) (by simp)
  have q1 : cs[1]? = some (.int .u64 x1) := by rw [(h2 1).1 rfl]; exact congrArg _ (congrArg _ y1)
  have y2 := e2 (0, 2) (by simp)
  have q2 : cs[2]? = some (.int .u64 x2) := by rw [(h2 2).1 rfl]; exact congrArg _ (congrArg _ y2)
  have y3 := e2 (0, 3) (by simp)
  have q3 : cs[3]? = some (.int .u64 x3) := by rw [(h2 3).1 rfl]; exact congrArg _ (congrArg _ y3)
  have y4 := e2 (0, 4) (by simp)
  have q4 : cs[4]? = some (.int .u64 x4) := by rw [(h2 4).1 rfl]; exact congrArg _ (congrArg _ y4)
  have y5 := e2 (0, 5) (by simp)
  have q5 : cs[5]? = some (.int .u64 x5) := by rw [(h2 5).1 rfl]; exact congrArg _ (congrArg _ y5)
  have y6 := e2 (2, 6) (by simp)
  obtain ⟨a6, n6, c6, q6, w6, k6⟩ := (h2 6).2.2 rfl
  rw [show _ = fit x6 from y6] at w6
  have ecs : cs = [.int .u64 x0, .int .u64 x1, .int .u64 x2, .int .u64 x3, .int .u64 x4, .int .u64 x5, .slice a6 n6 c6] := by
    apply List.ext_getElem?
    intro i
    match i with
    | 0 => rw [q0]; rfl
    | 1 => rw [q1]; rfl
    | 2 => rw [q2]; rfl
    | 3 => rw [q3]; rfl
    | 4 => rw [q4]; rfl
    | 5 => rw [q5]; rfl
    | 6 => rw [q6]; rfl
    | k + 7 => rw [List.getElem?_eq_none (by omega), List.getElem?_eq_none (by simp)]
  subst ecs
  exact ⟨a6, n6, c6, rfl, ⟨w6, k6⟩, B⟩
theorem bk_Number {w : World} {bb n c : Nat} {ao : Option Addr} {x0 : Int} (A : ByA w bb ao n c (thr (pnx (fun o => ([x0] : List Int).getD o 0)) [(0, 0)] [])) (hn : n ≤ 1000000000) (r0 : 0 ≤ x0 ∧ x0 < 18446744073709551616) :
    Calls Tryz.prog 65 #[.slice ao n c] w fun e w' => e = .returned (.tuple #[.int .u64 x0, .int .i64 0]) ∧ Below w.heap.size w w' := by
  have hl : (thr (pnx (fun o => ([x0] : List Int).getD o 0)) [(0, 0)] []).length = n := by obtain ⟨o, h1, _⟩ := A.ex; exact h1
  obtain ⟨ys, e1, e2, -⟩ := thr_back (fun o => ([x0] : List Int).getD o 0) [(0, 0)] [] (fun _ => 0) (by decide) (List.forall_mem_cons.2 ⟨r0, fun _ h => by cases h⟩)
  rw [List.append_nil] at e1
  refine (Number_any A hn hl).mono ?_
  rintro e w' ⟨⟨cs, xs, r, rfl, h1, h2, h3, h4⟩, B⟩
  rw [e1] at h3
  obtain ⟨rfl, rfl⟩ := h3 rfl
  have y0 := e2 (0, 0) (by simp)
  have q0 : cs[0]? = some (.int .u64 x0) := by rw [(h2 0).1 rfl]; exact congrArg _ (congrArg _ y0)
  have ecs : cs = [.int .u64 x0] := by
    apply List.ext_getElem?
    intro i
    match i with
    | 0 => rw [q0]; rfl
    | k + 1 => rw [List.getElem?_eq_none (by omega), List.getElem?_eq_none (by simp)]
  subst ecs
  exact ⟨rfl, B⟩
end Rc
end Go.Proofs.YtidnifmehnjipaaGreat

namespace Go.Proofs.YtidnifmehnjipaaGreat
open Go.RowKit Lim

/-- the bytes of a step; none: it is too long -/
def stB (s : Stp) : Option (List Int) :=
  if s.what = 0 then some (be 1 (s.num % 256))
  else if s.what = 1 then some (be 4 (s.num % 4294967296))
  else if s.what = 2 then some (be 8 s.num)
  else if s.what = 3 then some (be 1 (if s.num % 2 == 1 then 1 else 0))
  else if s.what = 4 ∨ s.what = 5 then (if (natB s.V).length < 256 then some (cntd 1 (natB s.V)) else none)
  else if s.what = 6 then some (cntd 4 s.bl)
  else some []
/-- one step more -/
def stO (s : Stp) (o : Option (List Int)) : Option (List Int) := o.bind fun L => (stB s).map (L ++ ·)
/-- the bytes of a script -/
def laid (ss : List Stp) : Option (List Int) := ss.foldl (fun o s => stO s o) (some [])
theorem laid_snoc (ss : List Stp) (s : Stp) : laid (ss ++ [s]) = stO s (laid ss) := by
  unfold laid
  rw [List.foldl_append]
  rfl
theorem laid_take {ss : List Stp} {i : Nat} {s : Stp} (h : ss[i]? = some s) : laid (ss.take (i + 1)) = stO s (laid (ss.take i)) := by
  rw [List.take_add_one, h]
  exact laid_snoc _ _
theorem laid_from (ss : List Stp) (o : Option (List Int)) : ss.foldl (fun o s => stO s o) o = o.bind fun L => (laid ss).map (L ++ ·) := by
  induction ss generalizing o with
  | nil =>
    cases o with
    | none => rfl
    | some L => simp [laid]
  | cons s r ih =>
    have h1 : laid (s :: r) = (stO s (some [])).bind fun L => (laid r).map (L ++ ·) := by
      unfold laid
      rw [List.foldl_cons]
      exact ih _
    rw [List.foldl_cons, ih, h1]
    cases o with
    | none => rfl
    | some L =>
      unfold stO
      cases stB s with
      | none => rfl
      | some l =>
        cases laid r with
        | none => rfl
        | some t => simp [List.append_assoc]
theorem laid_append (l m : List Stp) : laid (l ++ m) = (laid l).bind fun L => (laid m).map (L ++ ·) := by
  rw [← laid_from m (laid l)]
  unfold laid
  rw [List.foldl_append]
theorem laid_cons (s : Stp) (r : List Stp) : laid (s :: r) = (stB s).bind fun L => (laid r).map (L ++ ·) := by
  have := laid_append [s] r
  rw [List.singleton_append] at this
  rw [this]
  unfold laid
  rw [List.foldl_cons, List.foldl_nil]
  unfold stO
  cases stB s with
  | none => rfl
  | some l => simp
/-- a Writer that has laid o (none: the error 42), at most N bytes -/
structure WrO (w : World) (g : Nat) (o : Option (List Int)) (N : Nat) : Prop where
  ex : ∃ err L, WrA w g err L ∧ L.length ≤ N ∧ (∀ M, o = some M → err = 0 ∧ L = M) ∧ (o = none → err = 42)
theorem WrO.lt {w : World} {g : Nat} {o : Option (List Int)} {N : Nat} (h : WrO w g o N) : g < w.heap.size := by
  obtain ⟨_, _, X, _⟩ := h.ex
  exact X.lt
theorem WrO.keep {w w' : World} {g : Nat} {o : Option (List Int)} {N : Nat} (h : WrO w g o N) (hb : Below w.heap.size w w') : WrO w' g o N := by
  obtain ⟨e, L, X, h1⟩ := h.ex
  exact ⟨e, L, X.keep hb, h1⟩
theorem WrO.off {w w' : World} {g g' : Nat} {o o' : Option (List Int)} {N N' : Nat} (h : WrO w g o N) (h' : WrO w g' o' N') (hne : g ≠ g') (hb : But g' w w') : WrO w' g o N := by
  obtain ⟨e, L, X, h1⟩ := h.ex
  obtain ⟨_, _, X', _⟩ := h'.ex
  exact ⟨e, L, X.off X' hne hb, h1⟩
theorem wroNew (w : World) : WrO (w.alloc (.cells Tryz.zeroCells219 219)) w.heap.size (some []) 0 :=
  ⟨0, [], wrNew w, Nat.le_refl _, fun M e => by cases e; exact ⟨rfl, rfl⟩, fun e => by cases e⟩
theorem WrO.some {w : World} {g : Nat} {o : Option (List Int)} {N : Nat} (h : WrO w g o N) {L : List Int} (e : o = .some L) : WrA w g 0 L ∧ L.length ≤ N := by
  obtain ⟨err, M, X, h1, h2, _⟩ := h.ex
  obtain ⟨rfl, rfl⟩ := h2 L e
  exact ⟨X, h1⟩
theorem WrO.none {w : World} {g : Nat} {o : Option (List Int)} {N : Nat} (h : WrO w g o N) (e : o = .none) : ∃ L, WrA w g 42 L := by
  obtain ⟨err, M, X, h1, _, h3⟩ := h.ex
  obtain rfl := h3 e
  exact ⟨M, X⟩
theorem cntd_len (m : Nat) (l : List Int) : (cntd m l).length = m + l.length := by
  unfold cntd
  rw [List.length_append, be_length]
/-- the step s, laid by a call that writes l -/
theorem WrO.lay {w' : World} {g : Nat} {o : Option (List Int)} {N K : Nat} {err : Int} {L l : List Int} {s : Stp} (hs : stB s = .some l) (hK : l.length ≤ K) (h1 : L.length ≤ N) (h2 : ∀ M, o = .some M → err = 0 ∧ L = M) (h3 : o = .none → err = 42) (X : WrA w' g err (wrote err L l)) : WrO w' g (stO s o) (N + K) := by
  refine ⟨err, _, X, ?_, fun M e => ?_, fun e => ?_⟩
  · have := wrote_len err L l
    omega
  · cases o with
    | none => cases e
    | some M' =>
      obtain ⟨rfl, rfl⟩ := h2 M' rfl
      unfold stO at e
      rw [hs] at e
      cases e
      exact ⟨rfl, rfl⟩
  · cases o with
    | none => exact h3 rfl
    | some M' =>
      unfold stO at e
      rw [hs] at e
      cases e
theorem raw_at {w : World} {g n c b : Nat} {ao : Option Addr} {l : List Int} (h : ByA w b ao n c l) (hg : w.heap.size ≤ g) : ∃ b' o, AtB w ao b' o l ∧ l.length = n ∧ n ≤ c ∧ b' ≠ g := by
  obtain ⟨o, h1, h2, h3, h4, h5⟩ := h.ex
  rcases h5.lt with e | e
  · subst e
    exact ⟨g + 1, 0, ⟨.inl rfl, fun i hi => by simp at hi⟩, h1, h2, by omega⟩
  · exact ⟨b, o, h5, h1, h2, by omega⟩
theorem natE_two {V err : Int} (h : (natB V).length < 256) (L : List Int) : natE V err = err ∧ natL V err L = wrote err L (cntd 1 (natB V)) := by
  unfold natE natL
  rw [if_pos h, if_pos h]
  exact ⟨rfl, rfl⟩
/-- a whole number's step -/
theorem WrO.nat {w' : World} {g : Nat} {o : Option (List Int)} {N K : Nat} {err : Int} {L : List Int} {s : Stp} (hw : s.what = 4 ∨ s.what = 5) (hK : 256 ≤ K) (h1 : L.length ≤ N) (h2 : ∀ M, o = .some M → err = 0 ∧ L = M) (h3 : o = .none → err = 42) (X : WrA w' g (natE s.V err) (natL s.V err L)) : WrO w' g (stO s o) (N + K) := by
  have e : stB s = if (natB s.V).length < 256 then .some (cntd 1 (natB s.V)) else .none := by
    unfold stB
    rcases hw with h | h <;> simp [h]
  by_cases hl : (natB s.V).length < 256
  · rw [if_pos hl] at e
    rw [(natE_two hl L).1, (natE_two hl L).2] at X
    exact WrO.lay e (by rw [cntd_len]; omega) h1 h2 h3 X
  · rw [if_neg hl] at e
    unfold natE natL at X
    rw [if_neg hl, if_neg hl] at X
    refine ⟨_, _, X, by omega, fun M hM => ?_, fun _ => ?_⟩
    · unfold stO at hM
      rw [e] at hM
      cases o <;> cases hM
    · unfold long
      cases o with
      | none => rw [h3 rfl]; rfl
      | some M => rw [(h2 M rfl).1]; rfl
end Go.Proofs.YtidnifmehnjipaaGreat

namespace Go.Proofs.YtidnifmehnjipaaGreat
open Go.RowKit Lim

theorem take_app {l r : List Int} {m : Nat} (h : l.length = m) : (l ++ r).take m = l ∧ (l ++ r).drop m = r := by
  subst h
  exact ⟨List.take_left, List.drop_left⟩
theorem back_fix (m : Nat) {x : Int} (hx : 0 ≤ x) (r : List Int) : pFix m (be m x ++ r) = .inr (x % 256 ^ m, m) ∧ (be m x ++ r).drop m = r := by
  have h := take_app (r := r) (be_length m x)
  refine ⟨?_, h.2⟩
  unfold pFix
  rw [if_pos (by rw [List.length_append, be_length]; omega), h.1, be_val m hx]
theorem cnt_app {m : Nat} {l r : List Int} (hl : (l.length : Int) < 256 ^ m) : cntOf m (cntd m l ++ r) = l.length := by
  unfold cntOf cntd
  rw [List.append_assoc, (take_app (be_length m _)).1, be_val m (by omega), Int.emod_eq_of_lt (by omega) hl]
  rfl
theorem cnt_drop (m : Nat) (l r : List Int) : (cntd m l ++ r).drop m = l ++ r := by
  unfold cntd
  rw [List.append_assoc, (take_app (be_length m _)).2]
theorem back_nat {V : Int} (hV : 0 ≤ V) (hl : (natB V).length < 256) (r : List Int) : pNat (cntd 1 (natB V) ++ r) = .inr (V, 1 + (natB V).length) ∧ (cntd 1 (natB V) ++ r).drop (1 + (natB V).length) = r := by
  have hc : cntOf 1 (cntd 1 (natB V) ++ r) = (natB V).length := cnt_app (by simpa using (by omega : ((natB V).length : Int) < 256))
  have hd := cnt_drop 1 (natB V) r
  have hB := natB_is hV
  refine ⟨?_, ?_⟩
  · unfold pNat
    rw [if_pos (by rw [List.length_append, cntd_len]; omega), hc, if_pos (by rw [List.length_append, cntd_len]; omega), hd, if_neg, (take_app rfl).1, hB.2.2]
    rintro ⟨h0, h1⟩
    have hne : natB V ≠ [] := fun e => by rw [e] at h0; simp at h0
    refine hB.2.1 hne ?_
    rw [← h1]
    cases hh : natB V with
    | nil => exact absurd hh hne
    | cons x t => rfl
  · rw [← List.drop_drop, hd, (take_app rfl).2]
theorem back_raw {l : List Int} (hl : l.length < 4294967296) (r : List Int) : pRaw (l.length : Int) (cntd 4 l ++ r) = .inr (l, 4 + l.length) ∧ (cntd 4 l ++ r).drop (4 + l.length) = r := by
  have hc : cntOf 4 (cntd 4 l ++ r) = l.length := cnt_app (by simpa using (by omega : (l.length : Int) < 4294967296))
  have hd := cnt_drop 4 l r
  refine ⟨?_, ?_⟩
  · unfold pRaw
    rw [if_pos (by rw [List.length_append, cntd_len]; omega), hc, if_neg (by omega), if_pos (by rw [List.length_append, cntd_len]; omega), hd, (take_app rfl).1]
  · rw [← List.drop_drop, hd, (take_app rfl).2]
theorem back_bool (x : Bool) (r : List Int) : pBool (be 1 (if x then 1 else 0) ++ r) = .inr (x, 1) ∧ (be 1 (if x then 1 else 0) ++ r).drop 1 = r := by
  cases x
  · exact ⟨rfl, rfl⟩
  · exact ⟨rfl, rfl⟩
theorem bkU64 {w : World} {g b : Nat} {x : Int} {r : List Int} (h0 : 0 ≤ x) (h1 : x < 18446744073709551616) (R : RdA w g b 0 (be 8 x ++ r)) :
    Calls Tryz.prog 164 #[.pointer (some ⟨g, 0, none⟩)] w fun e w' => e = .returned (.int .u64 x) ∧ RdA w' g b 0 r ∧ But g w w' := by
  have t := rdU64 R
  obtain ⟨e1, e2⟩ := back_fix 8 h0 r
  rw [e1] at t
  unfold rdV rdE rdL at t
  simp only [if_true] at t
  rw [e2, Int.emod_eq_of_lt h0 (by simpa using h1)] at t
  exact t
theorem bkBool {w : World} {g b : Nat} {x : Bool} {r : List Int} (R : RdA w g b 0 (be 1 (if x then 1 else 0) ++ r)) :
    Calls Tryz.prog 166 #[.pointer (some ⟨g, 0, none⟩)] w fun e w' => e = .returned (.bool x) ∧ RdA w' g b 0 r ∧ But g w w' := by
  have t := rdBool R
  obtain ⟨e1, e2⟩ := back_bool x r
  rw [e1] at t
  unfold rdV rdE rdL at t
  simp only [if_true] at t
  rw [e2] at t
  exact t
theorem bkNat {w : World} {g b : Nat} {V : Int} {r : List Int} (hV : 0 ≤ V) (hl : (natB V).length < 256) (R : RdA w g b 0 (cntd 1 (natB V) ++ r)) :
    Calls Tryz.prog 215 #[.pointer (some ⟨g, 0, none⟩)] w fun e w' => ∃ a n c, e = .returned (.slice a n c) ∧ NatO w' a n c V ∧ n ≤ 255 ∧ RdA w' g b 0 r ∧ But g w w' := by
  have t := rdNat R
  obtain ⟨e1, e2⟩ := back_nat hV hl r
  rw [e1] at t
  unfold rdV rdE rdL at t
  simp only [if_true] at t
  rw [e2] at t
  exact t
theorem bkDec {w : World} {g b : Nat} {V : Int} {r : List Int} (hV : 0 ≤ V) (hl : (natB V).length < 256) (R : RdA w g b 0 (cntd 1 (natB V) ++ r)) :
    Calls Tryz.prog 168 #[.pointer (some ⟨g, 0, none⟩)] w fun e w' => ∃ a n c, e = .returned (.agg #[.slice a n c]) ∧ NatO w' a n c V ∧ n ≤ 255 ∧ RdA w' g b 0 r ∧ But g w w' := by
  have t := rdDec R
  obtain ⟨e1, e2⟩ := back_nat hV hl r
  rw [e1] at t
  unfold rdV rdE rdL at t
  simp only [if_true] at t
  rw [e2] at t
  exact t
theorem stB_oct {w : World} {s : Stp} {l : List Int} (A : StpA w s) (h : stB s = some l) : Octets l := by
  have hbl : Octets s.bl := by obtain ⟨_, _, _, _, h4, _⟩ := A.byt.ex; exact h4
  have happ : ∀ {a b : List Int}, Octets a → Octets b → Octets (a ++ b) := fun ha hb x hx => by
    rcases List.mem_append.1 hx with e | e
    · exact ha x e
    · exact hb x e
  unfold stB at h
  repeat' split at h
  all_goals first
    | (cases h; done)
    | (cases h; exact be_oct _ _)
    | (cases h; exact happ (be_oct _ _) (natB_oct _))
    | (cases h; exact happ (be_oct _ _) hbl)
    | (cases h; exact fun x hx => by simp at hx)
theorem laid_oct {w : World} : ∀ {ss : List Stp} {T : List Int}, (∀ s ∈ ss, StpA w s) → laid ss = some T → Octets T
  | [], T, _, h => by cases h; exact fun x hx => by simp at hx
  | s :: r, T, hA, h => by
    rw [laid_cons] at h
    cases hs : stB s with
    | none => rw [hs] at h; cases h
    | some l =>
      rw [hs] at h
      cases hr : laid r with
      | none => rw [hr] at h; cases h
      | some t =>
        rw [hr] at h
        cases h
        intro x hx
        rcases List.mem_append.1 hx with e | e
        · exact stB_oct (hA s (List.mem_cons_self ..)) hs x e
        · exact laid_oct (fun s' hs' => hA s' (List.mem_cons_of_mem _ hs')) hr x e
theorem laid_step {ss : List Stp} {k : Nat} {s : Stp} {T : List Int} (h : laid (ss.drop k) = some T) (hs : ss[k]? = some s) : ∃ l T', stB s = some l ∧ laid (ss.drop (k + 1)) = some T' ∧ T = l ++ T' := by
  have hk : k < ss.length := by
    rcases Nat.lt_or_ge k ss.length with h | h
    · exact h
    · rw [List.getElem?_eq_none h] at hs; cases hs
  have e : ss.drop k = s :: ss.drop (k + 1) := by
    rw [List.drop_eq_getElem_cons hk]
    rw [List.getElem?_eq_getElem hk] at hs
    cases hs
    rfl
  rw [e, laid_cons] at h
  cases hb : stB s with
  | none => rw [hb] at h; cases h
  | some l =>
    rw [hb] at h
    cases hr : laid (ss.drop (k + 1)) with
    | none => rw [hr] at h; cases h
    | some t =>
      rw [hr] at h
      cases h
      exact ⟨l, t, rfl, rfl, rfl⟩
theorem ld_u64 {w : World} {g o : Nat} {x : Int} (hc : w.cell? ⟨g, o, none⟩ = some (.int .u64 x)) : (loadVar 22 ⟨g, o, none⟩).run Tryz.prog w = .ok (.int .u64 x) w := by go_simp
theorem ld_nat {w : World} {g o n c : Nat} {a : Option Addr} (hc : w.cell? ⟨g, o, none⟩ = some (.slice a n c)) : (loadVar 44 ⟨g, o, none⟩).run Tryz.prog w = .ok (.slice a n c) w := by go_simp
theorem ld_byt {w : World} {g o n c : Nat} {a : Option Addr} (hc : w.cell? ⟨g, o, none⟩ = some (.slice a n c)) : (loadVar 36 ⟨g, o, none⟩).run Tryz.prog w = .ok (.slice a n c) w := by go_simp
end Go.Proofs.YtidnifmehnjipaaGreat

namespace Go.Proofs.YtidnifmehnjipaaGreat
open Go.RowKit Lim

theorem MineB.shape {w : World} {B : Nat} {v : Value} {l : List Int} (h : MineB w B v l) : ∃ ao c, v = .slice ao l.length c := by
  rcases h.2 with ⟨rfl, h0⟩ | ⟨g, cap, cur, rfl, _⟩
  · exact ⟨none, 0, by rw [h0]⟩
  · exact ⟨_, _, rfl⟩
theorem MineB.atB {w : World} {B : Nat} {v : Value} {l : List Int} (h : MineB w B v l) : ∃ ao c b o, v = .slice ao l.length c ∧ l.length ≤ c ∧ AtB w ao b o l := by
  obtain ⟨_, h2⟩ := h
  rcases h2 with ⟨rfl, h0⟩ | ⟨g, cap, cur, rfl, hB, hh, hle, hmx, hsz, htk⟩
  · have e : l = [] := List.eq_nil_of_length_eq_zero h0
    subst e
    exact ⟨none, 0, 0, 0, rfl, Nat.le_refl _, .inl rfl, fun i hi => by simp at hi⟩
  · refine ⟨some ⟨g, 0, none⟩, cap, g, 0, rfl, hle, .inr rfl, fun i hi => ?_⟩
    have e : cur.toList[i]? = some (.int .u8 (nth l i)) := by
      have h1 : (cur.toList.take (l.length * 1))[i]? = some (.int .u8 (nth l i)) := by
        rw [htk, List.getElem?_map, List.getElem?_eq_getElem hi, nth_eq hi]; rfl
      rwa [Nat.mul_one, List.getElem?_take_of_lt hi] at h1
    simp only [World.cell?, hh]
    simpa using e
theorem minB_mono {w : World} {B B' : Nat} {v : Value} {l : List Int} (h : MineB w B v l) (hB : B' ≤ B) : MineB w B' v l := by
  obtain ⟨h1, h2⟩ := h
  refine ⟨h1, ?_⟩
  rcases h2 with h2 | ⟨g, cap, cur, rfl, hB1, hr⟩
  · exact .inl h2
  · exact .inr ⟨g, cap, cur, rfl, by omega, hr⟩
theorem bval_snoc (l : List Int) (c : Int) : bval (l ++ [c]) = 256 * bval l + c := by
  induction l with
  | nil => simp [bval]
  | cons x l ih => simp only [List.cons_append, bval, ih, List.length_append, List.length_singleton, Int.pow_succ]; grind
theorem IsB.snoc {l : List Int} {V c : Int} (h : IsB l V) (h0 : 0 ≤ c) (h1 : c < 256) (hne : l ≠ [] ∨ c ≠ 0) : IsB (l ++ [c]) (256 * V + c) := by
  refine ⟨fun x hx => ?_, fun _ => ?_, by rw [bval_snoc, h.2.2]⟩
  · rcases List.mem_append.1 hx with e | e
    · exact h.1 x e
    · simp at e; subst e; exact ⟨h0, h1⟩
  · cases l with
    | nil =>
      rcases hne with e | e
      · exact absurd rfl e
      · rw [List.nil_append, nth_zero]; exact e
    | cons y l => rw [List.cons_append, nth_zero]; have := h.2.1 (by simp); rwa [nth_zero] at this
theorem IsB.zero {l : List Int} {V : Int} (h : IsB l V) (hl : l = []) : IsB l (256 * V + 0) := by
  subst hl
  have := h.2.2
  simp [bval] at this
  subst this
  exact ⟨h.1, h.2.1, rfl⟩
theorem v32_drop {l : List Int} {i : Nat} (h : i < l.length) : v32 (l.drop i) = nth l i + 4294967296 * v32 (l.drop (i + 1)) := by
  rw [List.drop_eq_getElem_cons h, v32, nth_eq h]
theorem byte_step (V x : Int) (j : Nat) (hj : j < 4) : 256 * (V * 256 ^ j + x / 2 ^ (32 - 8 * j)) + x / 2 ^ (24 - 8 * j) % 256 = V * 256 ^ (j + 1) + x / 2 ^ (32 - 8 * (j + 1)) := by
  have e : x / 2 ^ (32 - 8 * j) = x / 2 ^ (24 - 8 * j) / 256 := by
    rw [Int.ediv_ediv_of_nonneg (Int.le_of_lt (Int.pow_pos (by decide))), show (256 : Int) = 2 ^ 8 from rfl, ← Int.pow_add, show 24 - 8 * j + 8 = 32 - 8 * j from by omega]
  rw [e, show 32 - 8 * (j + 1) = 24 - 8 * j from by omega, Int.pow_succ]
  generalize x / 2 ^ (24 - 8 * j) = y
  have : V * (256 ^ j * 256) = 256 * (V * 256 ^ j) := by grind
  omega

set_option maxHeartbeats 4000000 in
set_option maxRecDepth 100000 in
theorem refBytes_any (ao : Option Addr) (n c b o : Nat) (l : List Int) (w : World) (hl : l.length = n) (hbig : n ≤ 274877906944) (wl : Words l) (ha : At w ao b o l) :
    Calls Tryz.prog 151 #[.slice ao n c] w fun e w' => ∃ v r, e = .returned v ∧ MineB w' w.heap.size v r ∧ IsB r (val l) ∧ r.length ≤ 8 * n ∧ Below w.heap.size w w' := by
  obtain ⟨i0, hi0, hz0, hz1, hz2⟩ := info_parts info_u8
  go_enter Tryz.func151, Tryz.ntmps151
  go_wp2_with fail
  refine (digits_any ao n c b o l w hl hbig wl ha).mono ?_
  rintro e w1 ⟨v, d, rfl, hn1, hd, hdn, hdv, hdl, hb1⟩
  obtain ⟨ad, bd, od, cd, rfl, hcd, _, hat, _⟩ := hn1.is
  have hsz1 := hb1.size
  have HDV := (show Hid _ from hdv)
  have HDN := (show Hid _ from hdn)
  clear hdv hdn hn1
  obtain ⟨N, hN⟩ : ∃ N, d.length = N := ⟨_, rfl⟩
  have HN := (show Hid _ from hN)
  rw [hN] at hcd hdl ⊢
  clear hN
  go_wp2_with fail
  go_loopw [4, 5] (fun tz ti wr => ∃ (m : Nat) (r : List Int), m ≤ N ∧ ti = .int .i64 ((m : Int) - 1) ∧ MineB wr w1.heap.size tz r ∧ IsB r (v32 (d.drop m)) ∧ r.length ≤ 4 * (N - m) ∧ Below w1.heap.size w1 wr) (fun _ ti _ => (intOf ti + 1).toNat)
  case atStart => exact ⟨N, [], Nat.le_refl _, rfl, World.ownsRow_nil _ _ _ _, ⟨fun x hx => by simp at hx, fun h => absurd rfl h, by rw [List.drop_of_length_le (by rw [HN.out]; exact Nat.le_refl _)]; rfl⟩, by simp, Below.refl _ _⟩
  case round =>
    obtain ⟨m, r, hm, rfl, hmr, hIr, hrl, hbe⟩ := hrel
    by_cases hlt : 0 < m
    · obtain ⟨i, rfl⟩ : ∃ i, m = i + 1 := ⟨m - 1, by omega⟩
      rcases hat.loc with e | rfl
      · subst e; have := HN.out; simp at this; omega
      have hii : ((i + 1 : Nat) : Int) - 1 = i := by omega
      rw [hii]
      have hi1 : (i : Int) < N := by omega
      have hx := hd.nth i
      have hlb := cell_lt (hat.cell i (by rw [HN.out]; omega))
      have HV : Hid (v32 (d.drop i) = nth d i + 4294967296 * v32 (d.drop (i + 1))) := v32_drop (by rw [HN.out]; omega)
      have HC : Hid (∀ wz, Below w1.heap.size w1 wz → wz.cell? ⟨bd, od + i, none⟩ = some (.int .u64 (nth d i))) := fun wz hz => by
        rw [hz.cell (p := ⟨bd, od + i, none⟩) hlb]; exact hat.cell i (by rw [HN.out]; omega)
      generalize v32 (d.drop (i + 1)) = V at *
      generalize nth d i = x at *
      go_wp2_with fail
      go_loopw [4, 6] (fun tz tk wr => ∃ (j : Nat) (r : List Int), j ≤ 4 ∧ tk = .int .i64 (24 - 8 * (j : Int)) ∧ MineB wr w1.heap.size tz r ∧ IsB r (V * 256 ^ j + x / 2 ^ (32 - 8 * j)) ∧ r.length ≤ 4 * (N - (i + 1)) + j ∧ Below w1.heap.size w1 wr) (fun _ tk _ => (intOf tk + 8).toNat)
      case atStart => exact ⟨0, r, by decide, rfl, hmr, by rw [show x / 2 ^ (32 - 8 * 0) = 0 from Int.ediv_eq_zero_of_lt hx.1 hx.2]; simpa using hIr, by omega, hbe⟩
      case round =>
        clear hmr hIr hrl hbe
        obtain ⟨j, r, hj, rfl, hmr, hIr, hrl, hbe⟩ := hrel
        obtain ⟨az, cz, rfl⟩ := hmr.shape
        by_cases hj4 : j < 4
        · obtain ⟨sh, hsh⟩ : ∃ sh : Nat, (24 : Int) - 8 * j = sh := ⟨24 - 8 * j, by omega⟩
          have hsh2 : 24 - 8 * j = sh := by omega
          have hst := byte_step V x j hj4
          rw [hsh2] at hst
          have HST := (show Hid _ from hst)
          have HSH := (show Hid _ from hsh2)
          clear hst hsh2
          have hc0 := Int.emod_nonneg (x / 2 ^ sh) (show (256 : Int) ≠ 0 by decide)
          have hc1 := Int.emod_lt_of_pos (x / 2 ^ sh) (show (0 : Int) < 256 by decide)
          have hcell := HC.out wr hbe
          have hszr := hbe.size
          have hsh64 : sh ≤ 24 := by have := HSH.out; omega
          obtain ⟨C, hC⟩ : ∃ C, x / 2 ^ sh % 256 = C := ⟨_, rfl⟩
          rw [hC] at hc0 hc1 HST
          by_cases hskip : r = [] ∧ C = 0
          · obtain ⟨rfl, rfl⟩ := hskip
            have HI := hIr.zero rfl
            rw [HST.out] at HI
            have HI2 := (show Hid _ from HI)
            clear HI
            go_wp2
            go_roundw
            case rel => exact ⟨j + 1, [], by omega, by rw [show (24 - 8 * ((j + 1 : Nat) : Int)) = (sh : Int) - 8 from by omega], hmr, HI2.out, by simp, hbe⟩
            case measure => simp [intOf]; omega
          · by_cases hr0 : r = []
            · have hC0 : C ≠ 0 := fun e => hskip ⟨hr0, e⟩
              have hCb : (C != 0) = true := by rw [bne_iff_ne]; exact hC0
              have hrl0 : r.length = 0 := by rw [hr0]; rfl
              have hown : wr.ownsRow w1.heap.size 5 1 (.slice az r.length cz) r.length (r.map (Value.int .u8)) := hmr
              have hnn : r.length ≤ 4398046511104 := by omega
              have HIa := hIr.snoc (c := C) hc0 hc1 (.inr hC0)
              rw [HST.out] at HIa
              have HI2 := (show Hid _ from HIa)
              clear HIa
              generalize hRL : r.length = RL at *
              have HRL := (show Hid _ from hRL)
              clear hRL
              have hRL0 : RL ≤ 0 := by have := hrl0; omega
              clear hrl0 hr0 hskip
              go_wp2_with (at_builtin; refine wpList_append_own _ rfl _ _ 36 rfl w1.heap.size 5 i0 (.int .u8 0) 1 1 under_bytes hi0 hz0 hz1 hz2 rfl (by decide) _ _ _ rfl (hown.alloc _) ⟨wr.heap.size, 0, none⟩ 1 1 [.int .u8 C] rfl rfl ?ca1 ?ca2 ?ca3 ?ca4 ?ca5 ?_)
              case ca1 => exact cell_one_new _ _ _
              case ca2 => intro u hu; simp at hu; subst hu; rfl
              case ca3 => unfold maxLen; omega
              case ca4 => omega
              case ca5 => simp; omega
              intro v' w2 hown' hgrow _
              have hM : MineB w2 w1.heap.size v' (r ++ [C]) := by
                unfold MineB
                rw [List.length_append, HRL.out, List.map_append]; exact hown'
              have HB : Below w1.heap.size w1 w2 := (hbe.alloc (by omega) _).grown hgrow (by simp; omega) (own_ge hmr)
              have hlr : (r ++ [C]).length ≤ 4 * (N - (i + 1)) + (j + 1) := by rw [List.length_append, HRL.out]; simp; omega
              clear hown' hgrow hown hmr hbe hIr
              go_wp2
              go_roundw
              case rel => exact ⟨j + 1, r ++ [C], by omega, by rw [show (24 - 8 * ((j + 1 : Nat) : Int)) = (sh : Int) - 8 from by omega], hM, HI2.out, hlr, HB⟩
              case measure => simp [intOf]; omega
            · have hrp : 0 < r.length := Nat.pos_of_ne_zero fun e => hr0 (List.eq_nil_of_length_eq_zero e)
              have hown : wr.ownsRow w1.heap.size 5 1 (.slice az r.length cz) r.length (r.map (Value.int .u8)) := hmr
              have hnn : r.length ≤ 4398046511104 := by omega
              have HIa := hIr.snoc (c := C) hc0 hc1 (.inl hr0)
              rw [HST.out] at HIa
              have HI2 := (show Hid _ from HIa)
              clear HIa
              generalize hRL : r.length = RL at *
              have HRL := (show Hid _ from hRL)
              clear hRL
              clear hr0 hskip
              go_wp2_with (at_builtin; refine wpList_append_own _ rfl _ _ 36 rfl w1.heap.size 5 i0 (.int .u8 0) 1 1 under_bytes hi0 hz0 hz1 hz2 rfl (by decide) _ _ _ rfl (hown.alloc _) ⟨wr.heap.size, 0, none⟩ 1 1 [.int .u8 C] rfl rfl ?cb1 ?cb2 ?cb3 ?cb4 ?cb5 ?_)
              case cb1 => exact cell_one_new _ _ _
              case cb2 => intro u hu; simp at hu; subst hu; rfl
              case cb3 => unfold maxLen; omega
              case cb4 => omega
              case cb5 => simp; omega
              intro v' w2 hown' hgrow _
              have hM : MineB w2 w1.heap.size v' (r ++ [C]) := by
                unfold MineB
                rw [List.length_append, HRL.out, List.map_append]; exact hown'
              have HB : Below w1.heap.size w1 w2 := (hbe.alloc (by omega) _).grown hgrow (by simp; omega) (own_ge hmr)
              have hlr : (r ++ [C]).length ≤ 4 * (N - (i + 1)) + (j + 1) := by rw [List.length_append, HRL.out]; simp; omega
              clear hown' hgrow hown hmr hbe hIr
              go_wp2
              go_roundw
              case rel => exact ⟨j + 1, r ++ [C], by omega, by rw [show (24 - 8 * ((j + 1 : Nat) : Int)) = (sh : Int) - 8 from by omega], hM, HI2.out, hlr, HB⟩
              case measure => simp [intOf]; omega
        · have hj5 : j = 4 := by omega
          subst hj5
          have HI : IsB r (v32 (d.drop i)) := by
            rw [HV.out]
            have := hIr
            rw [show (256 : Int) ^ 4 = 4294967296 from by decide, show (2 : Int) ^ (32 - 8 * 4) = 1 from by decide, Int.ediv_one] at this
            rw [show x + 4294967296 * V = V * 4294967296 + x from by omega]; exact this
          have HI2 := (show Hid _ from HI)
          clear HI hIr
          go_wp2
          go_roundw
          case rel => exact ⟨i, r, by omega, rfl, hmr, HI2.out, by omega, hbe⟩
          case measure => simp [intOf]
    · have hm0 : m = 0 := by omega
      subst hm0
      rw [List.drop_zero, HDV.out] at hIr
      have HI2 := (show Hid _ from hIr)
      have hM : MineB wr w.heap.size _ r := minB_mono hmr hsz1
      have HB := hb1.trans (hbe.mono hsz1)
      clear hIr hmr
      go_wp2
      go_ret
      exact ⟨_, r, rfl, hM, HI2.out, by omega, HB⟩
end Go.Proofs.YtidnifmehnjipaaGreat

namespace Go.Proofs.YtidnifmehnjipaaGreat
open Go.RowKit Lim

/-- only lists of bytes above B are changed -/
structure Byt (B : Nat) (w w' : World) : Prop where
  os : w'.os = w.os
  tape : w'.tape = w.tape
  output : w'.output = w.output
  size : w.heap.size ≤ w'.heap.size
  low : ∀ k : Nat, k < B → k < w.heap.size → w'.heap[k]? = w.heap[k]?
  typ : ∀ (k : Nat) (c : Array Value) (t : TypeId) (f : Nat × Nat), w.heap[k]? = some (Obj.cells c t f) → t ≠ 5 → w'.heap[k]? = w.heap[k]?
theorem Byt.of {B : Nat} {w w' : World} (h : Below w.heap.size w w') : Byt B w w' := ⟨h.os, h.tape, h.output, h.size, fun k _ hk => h.block k hk, fun k _ _ _ hc _ => h.block k (lt_of_block hc)⟩
theorem Byt.trans {B : Nat} {w w1 w2 : World} (h : Byt B w w1) (h' : Byt B w1 w2) : Byt B w w2 := ⟨h'.os.trans h.os, h'.tape.trans h.tape, h'.output.trans h.output, Nat.le_trans h.size h'.size,
  fun k hk hs => (h'.low k hk (Nat.lt_of_lt_of_le hs h.size)).trans (h.low k hk hs), fun k c t f hc ht => (h'.typ k c t f (by rw [h.typ k c t f hc ht]; exact hc) ht).trans (h.typ k c t f hc ht)⟩
theorem Byt.grown {B n : Nat} {w w' : World} {v : Value} {xs : List Value} (ho : w.ownsRow B 5 1 v n xs) (h : w.grownBy w' v.ownBlock) : Byt B w w' := by
  refine ⟨h.os, h.tape, h.output, h.size, fun k hk hs => h.block k hs fun e => ?_, fun k c t f hc ht => h.block k (lt_of_block hc) fun e => ?_⟩
  · have := (ho.lt k e.symm).1
    omega
  · rcases ho.2 with ⟨rfl, _⟩ | ⟨g, cap, cur, rfl, _, hh, _⟩
    · cases e
    · simp [Value.ownBlock] at e
      subst e
      rw [hh] at hc
      cases hc
      exact ht rfl
theorem Byt.below {B A : Nat} {w0 w w' : World} (h : Byt B w w') (b : Below A w0 w) (hA : A ≤ B) (hs : A ≤ w0.heap.size) : Below A w0 w' :=
  ⟨h.os.trans b.os, h.tape.trans b.tape, h.output.trans b.output, Nat.le_trans b.size h.size, fun k hk => (h.low k (by omega) (Nat.lt_of_lt_of_le (Nat.lt_of_lt_of_le hk hs) b.size)).trans (b.block k hk)⟩
theorem Pc.byt {B : Nat} {w w' : World} {p : Option Addr} {ps : List Int} (h : Pc w p ps) (b : Byt B w w') : Pc w' p ps := by
  induction h with
  | nil => exact .nil
  | cons hb hl _ ih => exact .cons ⟨by rw [b.typ _ _ _ _ hb.blk (by decide)]; exact hb.blk⟩ hl ih
theorem WrO.byt {B : Nat} {w w' : World} {g : Nat} {o : Option (List Int)} {N : Nat} (h : WrO w g o N) (b : Byt B w w') : WrO w' g o N := by
  obtain ⟨e, L, X, h1⟩ := h.ex
  obtain ⟨p, ps, lat, u, X', P, hu, hL⟩ := X.ex
  exact ⟨e, L, ⟨p, ps, lat, u, ⟨X'.len, by rw [b.typ _ _ _ _ X'.blk (by decide)]; exact X'.blk⟩, P.byt b, hu, hL⟩, h1⟩
theorem RdA.byt {B : Nat} {w w' : World} {g bb : Nat} {err : Int} {L : List Int} (h : RdA w g bb err L) (hb : L = [] ∨ bb < B) (b : Byt B w w') : RdA w' g bb err L := by
  obtain ⟨ao, n, c, X, A⟩ := h.ex
  obtain ⟨o, h1, h2, h3, h4, h5⟩ := A.ex
  refine ⟨ao, n, c, ⟨by rw [b.typ _ _ _ _ X.blk (by decide)]; exact X.blk⟩, o, h1, h2, h3, h4, h5.loc, fun i hi => ?_⟩
  have hc := h5.cell i hi
  rcases hb with e | e
  · subst e; simp at hi
  · rw [World.cell?_of_block (w := w) (b.low bb e (cell_lt hc))]
    exact hc
/-- bytes that may be written over -/
structure ByR (w : World) (g n : Nat) : Prop where
  ex : ∃ cur, w.heap[g]? = some (.cells cur 5 (0, 0)) ∧ n ≤ cur.size ∧ ∀ i, i < n → ∃ x, cur[i]? = some (.int .u8 x)
theorem MineB.byr {w : World} {B : Nat} {v : Value} {l : List Int} (h : MineB w B v l) : v = .slice none 0 0 ∧ l = [] ∨ ∃ g c, v = .slice (some ⟨g, 0, none⟩) l.length c ∧ B ≤ g ∧ g < w.heap.size ∧ ByR w g l.length := by
  obtain ⟨_, h2⟩ := h
  rcases h2 with ⟨rfl, h0⟩ | ⟨g, cap, cur, rfl, hB, hh, hle, hmx, hsz, htk⟩
  · exact .inl ⟨rfl, List.eq_nil_of_length_eq_zero h0⟩
  · refine .inr ⟨g, cap, rfl, hB, lt_of_block hh, cur, hh, by omega, fun i hi => ⟨nth l i, ?_⟩⟩
    have h3 : (cur.toList.take (l.length * 1))[i]? = some (.int .u8 (nth l i)) := by
      rw [htk, List.getElem?_map, List.getElem?_eq_getElem hi, nth_eq hi]
      rfl
    rw [List.getElem?_take] at h3
    split at h3
    · rw [← Array.getElem?_toList]
      exact h3
    · cases h3
theorem Box.byr {w : World} {g : Nat} {l : List Int} (h : Box w g (l.map (Value.int .u8)) 5) : ByR w g l.length := ⟨_, h.blk, by simp, fun i hi => ⟨nth l i, by simp [hi, nth_eq hi]⟩⟩
theorem ByR.cell {w : World} {g n i : Nat} (h : ByR w g n) (hi : i < n) : ∃ x, w.cell? ⟨g, i, none⟩ = some (.int .u8 x) ∧ w.frozen? ⟨g, i, none⟩ = false := by
  obtain ⟨cur, h1, h2, h3⟩ := h.ex
  obtain ⟨x, hx⟩ := h3 i hi
  exact ⟨x, by simp [World.cell?, h1, hx], by simp [World.frozen?, h1]⟩
theorem ByR.set {w : World} {g n i : Nat} (h : ByR w g n) (y : Int) : ByR (w.setCell ⟨g, i, none⟩ (.int .u8 y)) g n := by
  obtain ⟨cur, h1, h2, h3⟩ := h.ex
  refine ⟨cur.setIfInBounds i (.int .u8 y), ?_, by simpa using h2, fun j hj => ?_⟩
  · simp only [World.setCell, Array.getElem?_modify, if_true, h1]
    simp
  · by_cases e : i = j
    · subst e
      exact ⟨y, by rw [Array.getElem?_setIfInBounds]; simp; omega⟩
    · obtain ⟨x, hx⟩ := h3 j hj
      exact ⟨x, by rw [Array.getElem?_setIfInBounds, if_neg e]; exact hx⟩
theorem be_mod (m : Nat) {x : Int} (hx : 0 ≤ x) : be m (x % 256 ^ m) = be m x := by
  have h0 : (0 : Int) < 256 ^ m := Int.pow_pos (by decide)
  refine bval_inj (be_oct _ _) (be_oct _ _) (by rw [be_length, be_length]) ?_
  rw [be_val m hx, be_val m (Int.emod_nonneg _ (by omega)), Int.emod_emod]
set_option maxHeartbeats 2000000 in
set_option maxRecDepth 100000 in
theorem put_any {w : World} {B n : Nat} {x : Int} {v : Value} {L : List Int} (hM : MineB w B v L) (hB : B ≤ w.heap.size) (hn : n ≤ 8) (hL : L.length ≤ 1099511627776) :
    Calls Tryz.prog 89 #[v, .int .i64 n, .int .u64 x] w fun e w' => ∃ v', e = .returned v' ∧ MineB w' B v' (L ++ be n x) ∧ Byt B w w' := by
  obtain ⟨i0, hi, hz0, hz1, hz2⟩ := info_parts info_u8
  have HI : Hid (Tryz.prog.info? 5 = some i0 ∧ i0.zero = some (.int .u8 0) ∧ i0.size = 1 ∧ i0.bytes = 1) := ⟨hi, hz0, hz1, hz2⟩
  have HM := (show Hid _ from hM)
  have HBS := (show Hid _ from hB)
  have hn' : (n : Int) ≤ 8 := by omega
  clear hi hz0 hz1 hz2 hM hB
  go_enter Tryz.func89, Tryz.ntmps89
  go_wp2_with fail
  go_loopw [0, 7] (fun tv ti wr => ∃ j : Nat, j ≤ n ∧ ti = .int .i64 ((n : Int) - 1 - j) ∧ MineB wr B tv (L ++ (be n x).take j) ∧ Byt B w wr) (fun _ ti _ => (intOf ti + 1).toNat)
  case atStart => exact ⟨0, Nat.zero_le _, by simp, by rw [List.take_zero, List.append_nil]; exact HM.out, Byt.of (Below.refl _ _)⟩
  case round =>
    obtain ⟨j, hj, rfl, hMj, hBj⟩ := hrel
    by_cases hlt : j < n
    · obtain ⟨h, hh⟩ : ∃ h : Nat, (n : Int) - 1 - j = h := ⟨n - 1 - j, by omega⟩
      have hh' : n - 1 - j = h := by omega
      have hh8 : h < 8 := by omega
      have HD : Hid ((be n x).take (j + 1) = (be n x).take j ++ [x / 2 ^ (8 * h) % 256]) := by
        have e1 : (256 : Int) ^ h = 2 ^ (8 * h) := by rw [Int.pow_mul]; rfl
        show _ = _
        rw [take_succ_nth (by rw [be_length]; exact hlt), be_nth n x j hlt, hh', e1]
      obtain ⟨M, hMd⟩ : ∃ M, M = L ++ (be n x).take j := ⟨_, rfl⟩
      rw [← hMd] at hMj
      obtain ⟨q, hq⟩ : ∃ q, M.length = q := ⟨_, rfl⟩
      have hqL : q ≤ 1099511627776 + 8 := by
        have : M.length = L.length + ((be n x).take j).length := by rw [hMd, List.length_append]
        rw [List.length_take, be_length] at this
        omega
      have HMD := (show Hid _ from hMd)
      have HQ := (show Hid _ from hq)
      obtain ⟨az, cz, rfl⟩ := hMj.shape
      have hal := below_alloc wr (.cells #[.int .u8 (x / 2 ^ (8 * h) % 256)] 5)
      have hown : (wr.alloc (.cells #[.int .u8 (x / 2 ^ (8 * h) % 256)] 5)).ownsRow B 5 1 (.slice az M.length cz) M.length (M.map (Value.int .u8)) := mineB_keep hMj hal
      rw [hq] at hown ⊢
      have HBJ := (show Hid _ from hBj.trans (Byt.of hal))
      have HSZ : Hid (B ≤ (wr.alloc (.cells #[.int .u8 (x / 2 ^ (8 * h) % 256)] 5)).heap.size) := Nat.le_trans HBS.out (Nat.le_trans hBj.size hal.size)
      have hsrc : ∀ q u, [Value.int .u8 (x / 2 ^ (8 * h) % 256)][q]? = some u → (wr.alloc (.cells #[.int .u8 (x / 2 ^ (8 * h) % 256)] 5)).cell? ((⟨wr.heap.size, 0, none⟩ : Addr).add q) = some u := fun q u hu => by
        match q, hu with
        | 0, hu =>
          cases hu
          have hb := (box_new wr [Value.int .u8 (x / 2 ^ (8 * h) % 256)] 5).blk
          simp only [World.cell?, Addr.add, if_true, hb]
          rfl
        | q + 1, hu => simp at hu
      clear hMj hBj hal hh' hq hMd
      rw [hh]
      go_wp2_with (at_builtin; refine wpList_append_own _ rfl _ _ 36 rfl B 5 i0 (.int .u8 0) 1 1 under_bytes HI.out.1 HI.out.2.1 HI.out.2.2.1 HI.out.2.2.2 rfl (by decide) _ _ _ rfl hown ⟨wr.heap.size, 0, none⟩ 1 1 [Value.int .u8 (x / 2 ^ (8 * h) % 256)] rfl rfl ?c1 ?c2 ?c3 ?c4 ?c5 ?_)
      case c1 => exact hsrc
      case c2 => intro u hu; rw [List.mem_singleton] at hu; subst hu; rfl
      case c3 => unfold maxLen; omega
      case c4 => omega
      case c5 => exact HSZ.out
      intro v' w2 hown' hgrow _
      have HBY := (show Hid _ from HBJ.out.trans (Byt.grown hown hgrow))
      have HM2 : Hid (MineB w2 B v' (L ++ (be n x).take (j + 1))) := by
        show w2.ownsRow _ _ _ _ _ _
        have e : (L ++ (be n x).take (j + 1)) = M ++ [x / 2 ^ (8 * h) % 256] := by rw [HD.out, HMD.out, List.append_assoc]
        rw [e, List.length_append, HQ.out, List.map_append]
        exact hown'
      clear hown hown' hgrow hsrc
      go_wp2
      exact ⟨⟨j + 1, by omega, by go_num, HM2.out, HBY.out⟩, by simp [intOf]⟩
    · obtain rfl : j = n := by omega
      have HM2 : Hid (MineB wr B u0 (L ++ be j x)) := by
        have := hMj
        rw [List.take_of_length_le (by rw [be_length]; exact Nat.le_refl _)] at this
        exact this
      have HBY := (show Hid _ from hBj)
      have e1 : (j : Int) - 1 - j = -1 := by omega
      rw [e1]
      clear hMj hBj
      go_wp2
      go_ret
      exact ⟨_, rfl, HM2.out, HBY.out⟩
end Go.Proofs.YtidnifmehnjipaaGreat

namespace Go.Proofs.YtidnifmehnjipaaGreat
open Go.RowKit Lim

/-- the document's Reader: its bytes, its error -/
structure RfA (w : World) (g b : Nat) (err : Int) (l : List Int) : Prop where
  ex : ∃ ao n c, Box w g [.slice ao n c, .int .i64 err] 243 ∧ ByA w b ao n c l
theorem RfA.keep {w w' : World} {g b : Nat} {err : Int} {l : List Int} (h : RfA w g b err l) (hb : Below w.heap.size w w') : RfA w' g b err l := by
  obtain ⟨ao, n, c, h1, h2⟩ := h.ex
  exact ⟨ao, n, c, h1.keep hb, h2.keep hb⟩
theorem no_u8f (err : Int) (ao : Option Addr) (n c : Nat) : ∀ v ∈ [Value.slice ao n c, Value.int .i64 err], ∀ x, v ≠ .int .u8 x := fun v hv x e => by
  rcases List.mem_cons.1 hv with h | h
  · subst h; cases e
  · rw [List.mem_singleton] at h; subst h; cases e
theorem RfA.lt {w : World} {g b : Nat} {err : Int} {l : List Int} (h : RfA w g b err l) : g < w.heap.size := by
  obtain ⟨_, _, _, X, _⟩ := h.ex
  exact X.lt
theorem RfA.oct {w : World} {g b : Nat} {err : Int} {l : List Int} (h : RfA w g b err l) : Octets l := by
  obtain ⟨_, _, _, _, A⟩ := h.ex
  obtain ⟨o, _, _, _, h4, _⟩ := A.ex
  exact h4
theorem RfA.len {w : World} {g b : Nat} {err : Int} {l : List Int} (h : RfA w g b err l) : l.length ≤ 9223372036854775807 := by
  obtain ⟨_, _, _, _, A⟩ := h.ex
  obtain ⟨o, _, _, ⟨_, _⟩, _, _⟩ := A.ex
  omega
/-- the Reader is read: the document's stays -/
theorem RfA.offR {w w' : World} {g g' b b' : Nat} {err e' : Int} {l l' : List Int} (h : RfA w g b err l) (h' : RdA w g' b' e' l') (hne : g ≠ g') (hB : But g' w w') : RfA w' g b err l := by
  obtain ⟨ao, n, c, X, A⟩ := h.ex
  obtain ⟨_, _, _, X', _⟩ := h'.ex
  exact ⟨ao, n, c, ⟨by rw [hB.block g X.lt hne]; exact X.blk⟩, A.but X' (no_u8 _ _ _ _) hB⟩
/-- the document's is read: the Reader stays -/
theorem RdA.offF {w w' : World} {g g' b b' : Nat} {err e' : Int} {l l' : List Int} (h : RdA w g b err l) (h' : RfA w g' b' e' l') (hne : g ≠ g') (hB : But g' w w') : RdA w' g b err l := by
  obtain ⟨ao, n, c, X, A⟩ := h.ex
  obtain ⟨_, _, _, X', _⟩ := h'.ex
  exact ⟨ao, n, c, ⟨by rw [hB.block g X.lt hne]; exact X.blk⟩, A.but X' (no_u8f _ _ _ _) hB⟩
theorem RfA.offN {w w' : World} {g g' b : Nat} {err : Int} {l : List Int} (h : RfA w g b err l) (hne : g ≠ g') (hb : b ≠ g') (hB : But g' w w') : RfA w' g b err l := by
  obtain ⟨ao, n, c, X, A⟩ := h.ex
  exact ⟨ao, n, c, ⟨by rw [hB.block g X.lt hne]; exact X.blk⟩, A.butN hb hB⟩
theorem but_set (w : World) (g k : Nat) (v : Value) : But g w (w.setCell ⟨g, k, none⟩ v) := ⟨rfl, rfl, rfl, by rw [size_set]; exact Nat.le_refl _, fun _ _ h2 => Below.heap_setCell _ _ _ _ h2⟩
set_option maxRecDepth 100000 in
theorem rfTake {w : World} {g b m : Nat} {l : List Int} (h : RfA w g b 0 l) (hm : m ≤ l.length) :
    Calls Tryz.prog 196 #[.pointer (some ⟨g, 0, none⟩), .int .i64 m] w fun e w' => ∃ ao c, e = .returned (.slice ao m c) ∧ ByA w' b ao m c (l.take m) ∧ RfA w' g b 0 (l.drop m) ∧ But g w w' := by
  obtain ⟨ao, n, c, X, A⟩ := h.ex
  obtain ⟨o, h1, h2, ⟨h3, -⟩, -, -⟩ := A.ex
  have hmn : m ≤ n := by omega
  have H : But g w (w.setCell ⟨g, 0, none⟩ (.slice (restAt ao c m) (n - m) (c - m))) := but_set _ _ _ _
  have HR : Hid (∀ w', w' = w.setCell ⟨g, 0, none⟩ (.slice (restAt ao c m) (n - m) (c - m)) → ByA w' b ao m c (l.take m) ∧ RfA w' g b 0 (l.drop m) ∧ But g w w') := fun w' e => by
    subst e
    exact ⟨(A.front2 hmn).but X (no_u8f _ _ _ _) H, ⟨_, _, _, box_put0 X _, (A.rest hmn).but X (no_u8f _ _ _ _) H⟩, H⟩
  obtain ⟨c1, c2, c3, c4⟩ := X.two
  have hm0 : (m : Int) ≤ n := by omega
  have hm1 : (m : Int) ≤ c := by omega
  have hq : ((n : Int) < m) = False := eq_false (by omega)
  have hn9 : (c : Int) ≤ 9223372036854775807 := by omega
  clear X A h H
  go_enter Tryz.func196, Tryz.ntmps196
  go_wp2
  · subst h
    go_ret
    exact ⟨ao, c, rfl, HR.out _ (by unfold restAt; rw [if_pos rfl, Nat.sub_self])⟩
  · go_ret
    exact ⟨ao, c, rfl, HR.out _ (by unfold restAt; rw [if_neg (by assumption)])⟩
set_option maxRecDepth 100000 in
theorem rfTakeS {w : World} {g b m : Nat} {l : List Int} (h : RfA w g b 0 l) (hm : l.length < m) :
    Calls Tryz.prog 196 #[.pointer (some ⟨g, 0, none⟩), .int .i64 m] w fun e w' => e = .returned (.slice none 0 0) ∧ RfA w' g b 40 l ∧ But g w w' := by
  obtain ⟨ao, n, c, X, A⟩ := h.ex
  obtain ⟨o, h1, h2, ⟨h3, -⟩, -, -⟩ := A.ex
  have H : But g w (w.setCell ⟨g, 1, none⟩ (.int .i64 40)) := but_set _ _ _ _
  have HR : Hid (RfA (w.setCell ⟨g, 1, none⟩ (.int .i64 40)) g b 40 l ∧ But g w (w.setCell ⟨g, 1, none⟩ (.int .i64 40))) := ⟨⟨_, _, _, box_put1 X _, A.but X (no_u8f _ _ _ _) H⟩, H⟩
  obtain ⟨c1, c2, c3, c4⟩ := X.two
  have d2 := (box_put1 X (.int .i64 40)).two.2.1
  have hq : ((n : Int) < m) = True := eq_true (by omega)
  clear X A h H hm
  go_enter Tryz.func196, Tryz.ntmps196
  go_wp2
  go_ret
  exact ⟨rfl, HR.out⟩
set_option maxRecDepth 100000 in
theorem rfTakeE {w : World} {g b : Nat} {m err : Int} {l : List Int} (h : RfA w g b err l) (he : err ≠ 0) :
    Calls Tryz.prog 196 #[.pointer (some ⟨g, 0, none⟩), .int .i64 m] w fun e w' => e = .returned (.slice none 0 0) ∧ w' = w := by
  obtain ⟨ao, n, c, X, A⟩ := h.ex
  obtain ⟨c1, c2, c3, c4⟩ := X.two
  have hb1 : (err == 0) = false := beq_eq_false_iff_ne.2 he
  have hb2 : (err != 0) = true := bne_iff_ne.2 he
  clear X A h he
  go_enter Tryz.func196, Tryz.ntmps196
  go_wp2
  go_ret
  exact ⟨rfl, rfl⟩
set_option maxHeartbeats 2000000 in
set_option maxRecDepth 100000 in
theorem rfU {w : World} {g b m : Nat} {err : Int} {l : List Int} (h : RfA w g b err l) (h8 : m ≤ 8) :
    Calls Tryz.prog 146 #[.pointer (some ⟨g, 0, none⟩), .int .i64 m] w fun e w' => e = .returned (.int .u64 (rdV 0 (pFix m l) err)) ∧ RfA w' g b (rdE (pFix m l) err) (rdL (pFix m l) err l) ∧ But g w w' := by
  by_cases he : err = 0
  · subst he
    by_cases hm : m ≤ l.length
    · have hp : pFix m l = .inr (bval (l.take m), m) := by unfold pFix; rw [if_pos hm]
      rw [hp]
      show Calls Tryz.prog _ _ w fun e w' => e = .returned (.int .u64 (bval (l.take m))) ∧ RfA w' g b 0 (l.drop m) ∧ But g w w'
      have HO : Hid (Octets (l.take m)) := fun x hx => h.oct x (List.mem_of_mem_take hx)
      have hlm : (l.take m).length = m := by rw [List.length_take]; omega
      have t := rfTake h hm
      clear hp h
      generalize l.take m = d at *
      generalize l.drop m = r at *
      have h8' : (m : Int) ≤ 8 := by omega
      go_enter Tryz.func146, Tryz.ntmps146
      go_wp2_with fail
      refine t.mono ?_
      rintro e w1 ⟨ao, c, rfl, A1, R1, b1⟩
      have HR1 := (show Hid _ from R1)
      have HB1 := (show Hid _ from b1)
      obtain ⟨o, -, -, -, -, hA5⟩ := A1.ex
      have HA5 := (show Hid _ from hA5)
      clear t A1 R1 b1 hA5
      go_wp2_with fail
      go_loop [6, 7] (fun tx ti => ∃ k : Nat, k ≤ m ∧ ti = .int .i64 k ∧ tx = .int .u64 (bval (d.take k))) (fun _ ti => m - (intOf ti).toNat)
      case atStart => exact ⟨0, Nat.zero_le _, rfl, rfl⟩
      case round =>
        obtain ⟨k, hk, rfl, rfl⟩ := hrel
        by_cases hlt : k < m
        · have hkl : k < d.length := by omega
          have hcell := HA5.out.cell k hkl
          obtain rfl : ao = some ⟨b, o, none⟩ := by
            rcases HA5.out.loc with e | e
            · rw [e] at hkl; simp at hkl
            · exact e
          have hk0 : (k : Int) < m := by omega
          have hd := HO.out.nth k
          have HB := bval_bound (l := d.take k) (fun x hx => HO.out x (List.mem_of_mem_take hx))
          have hp : (256 : Int) ^ (d.take k).length ≤ 256 ^ 7 := pow256_mono (by rw [List.length_take]; omega)
          have hx1 : bval (d.take k) < 72057594037927936 := by
            have e7 : (256 : Int) ^ 7 = 72057594037927936 := by decide
            omega
          have hx0 := HB.1
          have hor := or8 (bval (d.take k)) (nth d k) hx0 hx1 hd.1 hd.2
          have HN : Hid (bval (d.take (k + 1)) = bval (d.take k) * 256 + nth d k) := by show _ = _; rw [take_succ_nth hkl, bval_snoc2]
          clear HB hp
          generalize bval (d.take k) = V at *
          generalize nth d k = D at *
          go_wp2
          go_round
          case rel => exact ⟨k + 1, by omega, by go_num, by rw [HN.out]⟩
          case measure => simp [intOf]; omega
        · obtain rfl : k = m := by omega
          have hdk : d.take k = d := List.take_of_length_le (by omega)
          rw [hdk]
          go_wp2
          go_ret
          exact ⟨rfl, HR1.out, HB1.out⟩
    · have hp : pFix m l = .inl 40 := by unfold pFix; rw [if_neg hm]
      rw [hp]
      show Calls Tryz.prog _ _ w fun e w' => e = .returned (.int .u64 0) ∧ RfA w' g b 40 l ∧ But g w w'
      have t := rfTakeS (m := m) h (by omega)
      clear hp h hm
      go_enter Tryz.func146, Tryz.ntmps146
      go_wp2_with fail
      refine t.mono ?_
      rintro e w1 ⟨rfl, R1, b1⟩
      have HR1 := (show Hid _ from R1)
      have HB1 := (show Hid _ from b1)
      clear t R1 b1
      go_wp2_with fail
      go_loop [6, 7] (fun tx ti => tx = .int .u64 0 ∧ ti = .int .i64 0) (fun _ _ => 0)
      case atStart => exact ⟨rfl, rfl⟩
      case round =>
        obtain ⟨rfl, rfl⟩ := hrel
        go_wp2
        go_ret
        exact ⟨rfl, HR1.out, HB1.out⟩
  · rw [rdV_bad he, rdE_bad he, rdL_bad he]
    have t := rfTakeE (m := (m : Int)) h he
    have HH := (show Hid _ from h)
    clear h he
    go_enter Tryz.func146, Tryz.ntmps146
    go_wp2_with fail
    refine t.mono ?_
    rintro e w1 ⟨rfl, hw1⟩
    subst hw1
    clear t
    go_wp2_with fail
    go_loop [6, 7] (fun tx ti => tx = .int .u64 0 ∧ ti = .int .i64 0) (fun _ _ => 0)
    case atStart => exact ⟨rfl, rfl⟩
    case round =>
      obtain ⟨rfl, rfl⟩ := hrel
      go_wp2
      go_ret
      exact ⟨rfl, HH.out, But.refl _ _⟩
set_option maxRecDepth 100000 in
theorem rfEnd {w : World} {g b : Nat} {err : Int} {l : List Int} (h : RfA w g b err l) :
    Calls Tryz.prog 197 #[.pointer (some ⟨g, 0, none⟩)] w fun e w' => e = .returned (.int .i64 (endE err l)) ∧ RfA w' g b (endE err l) l ∧ But g w w' := by
  obtain ⟨ao, n, c, X, A⟩ := h.ex
  obtain ⟨o, h1, h2, ⟨h3, -⟩, -, -⟩ := A.ex
  have H : But g w (w.setCell ⟨g, 1, none⟩ (.int .i64 43)) := but_set _ _ _ _
  have HR : Hid (RfA (w.setCell ⟨g, 1, none⟩ (.int .i64 43)) g b 43 l ∧ But g w (w.setCell ⟨g, 1, none⟩ (.int .i64 43))) := ⟨⟨_, _, _, box_put1 X _, A.but X (no_u8f _ _ _ _) H⟩, H⟩
  obtain ⟨c1, c2, c3, c4⟩ := X.two
  have d2 := (box_put1 X (.int .i64 43)).two.2.1
  have HH := (show Hid _ from h)
  by_cases he : err = 0
  · subst he
    by_cases hl : l.length = 0
    · have e : endE 0 l = 0 := by unfold endE; rw [if_pos rfl, if_pos hl]
      rw [e]
      have hn : n = 0 := by omega
      subst hn
      clear X A h H HR e hl d2
      go_enter Tryz.func197, Tryz.ntmps197
      go_wp2
      go_ret
      exact ⟨rfl, HH.out, But.refl _ _⟩
    · have e : endE 0 l = 43 := by unfold endE; rw [if_pos rfl, if_neg hl]
      rw [e]
      have hn : 0 < n := by omega
      clear X A h H e hl HH
      go_enter Tryz.func197, Tryz.ntmps197
      go_wp2
      go_ret
      exact ⟨rfl, HR.out⟩
  · have e : endE err l = err := by unfold endE; rw [if_neg he]
    rw [e]
    have hb1 : (err == 0) = false := beq_eq_false_iff_ne.2 he
    clear X A h H HR e he d2
    go_enter Tryz.func197, Tryz.ntmps197
    go_wp2
    go_ret
    exact ⟨rfl, HH.out, But.refl _ _⟩
end Go.Proofs.YtidnifmehnjipaaGreat

namespace Go.Proofs.YtidnifmehnjipaaGreat
open Go.RowKit Lim

theorem bval_one {l : List Int} (h : 1 ≤ l.length) : bval (l.take 1) = nth l 0 := by
  cases l with
  | nil => simp at h
  | cons x t => simp [bval, nth]
theorem nth_drop1 (l : List Int) : nth (l.drop 1) 0 = nth l 1 := by
  cases l with
  | nil => rfl
  | cons x t => rfl
set_option maxHeartbeats 2000000 in
set_option maxRecDepth 100000 in
theorem rfNatE {w : World} {g b : Nat} {err : Int} {l : List Int} (h : RfA w g b err l) (he : err ≠ 0) :
    Calls Tryz.prog 207 #[.pointer (some ⟨g, 0, none⟩)] w fun e w' => e = .returned (.slice none 0 0) ∧ RfA w' g b err l ∧ But g w w' := by
  obtain ⟨ao, n, c, X, A⟩ := h.ex
  obtain ⟨c1, c2, c3, c4⟩ := X.two
  have HH := (show Hid _ from h)
  have hb1 : (err == 0) = false := beq_eq_false_iff_ne.2 he
  have hb2 : (err != 0) = true := bne_iff_ne.2 he
  clear X A h he
  go_enter Tryz.func207, Tryz.ntmps207
  go_wp2_with fail
  go_region
  go_wp2
  go_ret
  exact ⟨rfl, HH.out.keep (Below.refl _ _).drew, But.of (Below.refl _ _).drew⟩
end Go.Proofs.YtidnifmehnjipaaGreat

namespace Go.Proofs.YtidnifmehnjipaaGreat
open Go.RowKit Lim

theorem RfA.err {w : World} {g b n c : Nat} {ao : Option Addr} {l : List Int} (e : Int) (X : Box w g [.slice ao n c, .int .i64 0] 243) (A : ByA w b ao n c l) :
    RfA (w.drew.setCell ⟨g, 1, none⟩ (.int .i64 e)) g b e l ∧ But g w (w.drew.setCell ⟨g, 1, none⟩ (.int .i64 e)) := by
  have hd : Below w.heap.size w w.drew := (Below.refl _ _).drew
  have H : But g w.drew (w.drew.setCell ⟨g, 1, none⟩ (.int .i64 e)) := but_set _ _ _ _
  exact ⟨⟨_, _, _, box_put1 X.drew _, (A.keep hd).but X.drew (no_u8f _ _ _ _) H⟩, (But.of hd).trans H⟩
set_option maxHeartbeats 400000 in
set_option maxRecDepth 100000 in
theorem rfNatS {w : World} {g b : Nat} {l : List Int} (h : RfA w g b 0 l) (hs : ¬ (1 ≤ l.length ∧ 1 + cntOf 1 l ≤ l.length)) :
    Calls Tryz.prog 207 #[.pointer (some ⟨g, 0, none⟩)] w fun e w' => e = .returned (.slice none 0 0) ∧ RfA w' g b 40 l ∧ But g w w' := by
  obtain ⟨ao, n, c, X, A⟩ := h.ex
  obtain ⟨o, h1, h2, ⟨h3, -⟩, h4, h5⟩ := A.ex
  obtain ⟨c1, c2, c3, c4⟩ := X.two
  have HR := (show Hid _ from RfA.err 40 X A)
  have d2 := (box_put1 X.drew (.int .i64 40)).two.2.1
  by_cases hl : 1 ≤ l.length
  · have hc0 := h5.cell 0 (by omega)
    rw [Nat.add_zero] at hc0
    obtain rfl : ao = some ⟨b, o, none⟩ := by
      rcases h5.loc with e | e
      · rw [e] at hl; simp at hl
      · exact e
    have hn : 0 < n := by omega
    have hnz : (n == 0) = false := beq_eq_false_iff_ne.2 (by omega)
    have hnz2 : ((n : Int) == 0) = false := beq_eq_false_iff_ne.2 (by omega)
    have hnz3 : ((n : Int) = 0) = False := eq_false (by omega)
    have hnz4 : (n = 0) = False := eq_false (by omega)
    have hx : (cntOf 1 l : Int) = nth l 0 := by rw [cntOf_nn h4, bval_one hl]
    rw [← hx] at hc0
    have hxb : cntOf 1 l < 256 := by
      have := h4.nth 0
      omega
    have hlt : ¬ 1 + cntOf 1 l ≤ n := fun hh => hs ⟨hl, by omega⟩
    clear X A h hs h5 hx h4
    generalize cntOf 1 l = x at *
    have hq : ((n : Int) < 1 + (x : Int)) = True := eq_true (by omega)
    clear hlt
    go_enter Tryz.func207, Tryz.ntmps207
    go_wp2_with fail
    go_region
    go_wp2
    go_ret
    exact ⟨rfl, HR.out⟩
  · have hn : n = 0 := by omega
    subst hn
    clear X A h hs h5
    go_enter Tryz.func207, Tryz.ntmps207
    go_wp2_with fail
    go_region
    go_wp2
    go_ret
    exact ⟨rfl, HR.out⟩
set_option maxHeartbeats 400000 in
set_option maxRecDepth 100000 in
theorem rfNatF {w : World} {g b : Nat} {l : List Int} (h : RfA w g b 0 l) (hl : 1 ≤ l.length) (hs : 1 + cntOf 1 l ≤ l.length) (hz : 0 < cntOf 1 l ∧ nth (l.drop 1) 0 = 0) :
    Calls Tryz.prog 207 #[.pointer (some ⟨g, 0, none⟩)] w fun e w' => e = .returned (.slice none 0 0) ∧ RfA w' g b 41 l ∧ But g w w' := by
  obtain ⟨ao, n, c, X, A⟩ := h.ex
  obtain ⟨o, h1, h2, ⟨h3, -⟩, h4, h5⟩ := A.ex
  obtain ⟨c1, c2, c3, c4⟩ := X.two
  have HR := (show Hid _ from RfA.err 41 X A)
  have d2 := (box_put1 X.drew (.int .i64 41)).two.2.1
  have hc0 := h5.cell 0 (by omega)
  rw [Nat.add_zero] at hc0
  have hc1 := h5.cell 1 (by omega)
  rw [nth_drop1] at hz
  rw [hz.2] at hc1
  obtain rfl : ao = some ⟨b, o, none⟩ := by
    rcases h5.loc with e | e
    · rw [e] at hl; simp at hl
    · exact e
  have hn : 0 < n := by omega
  have hnz : (n == 0) = false := beq_eq_false_iff_ne.2 (by omega)
  have hnz2 : ((n : Int) == 0) = false := beq_eq_false_iff_ne.2 (by omega)
  have hnz3 : ((n : Int) = 0) = False := eq_false (by omega)
  have hnz4 : (n = 0) = False := eq_false (by omega)
  have hx : (cntOf 1 l : Int) = nth l 0 := by rw [cntOf_nn h4, bval_one hl]
  rw [← hx] at hc0
  have hxb : cntOf 1 l < 256 := by
    have := h4.nth 0
    omega
  have hz1 := hz.1
  rw [h1] at hs
  clear X A h h5 hx h4 hz hl
  generalize cntOf 1 l = x at *
  have hq : ((n : Int) < 1 + (x : Int)) = False := eq_false (by omega)
  have hn1 : (1 : Int) < n := by omega
  go_enter Tryz.func207, Tryz.ntmps207
  go_wp2_with fail
  go_region
  go_wp2
  go_ret
  exact ⟨rfl, HR.out⟩
set_option maxHeartbeats 400000 in
set_option maxRecDepth 100000 in
theorem rfNatY {w : World} {g b : Nat} {l : List Int} (h : RfA w g b 0 l) (hl : 1 ≤ l.length) (hs : 1 + cntOf 1 l ≤ l.length) (hz : ¬ (0 < cntOf 1 l ∧ nth (l.drop 1) 0 = 0)) :
    Calls Tryz.prog 207 #[.pointer (some ⟨g, 0, none⟩)] w fun e w' => ∃ a n c, e = .returned (.slice a n c) ∧ NatO w' a n c (bval ((l.drop 1).take (cntOf 1 l))) ∧ n ≤ 510 ∧ RfA w' g b 0 (l.drop (1 + cntOf 1 l)) ∧ But g w w' := by
  obtain ⟨ao, n, c, X, A⟩ := h.ex
  obtain ⟨o, h1, h2, ⟨h3, -⟩, h4, h5⟩ := A.ex
  obtain ⟨c1, c2, c3, c4⟩ := X.two
  have hc0 := h5.cell 0 (by omega)
  rw [Nat.add_zero] at hc0
  obtain rfl : ao = some ⟨b, o, none⟩ := by
    rcases h5.loc with e | e
    · rw [e] at hl; simp at hl
    · exact e
  have hn : 0 < n := by omega
  have hnz : (n == 0) = false := beq_eq_false_iff_ne.2 (by omega)
  have hnz2 : ((n : Int) == 0) = false := beq_eq_false_iff_ne.2 (by omega)
  have hnz3 : ((n : Int) = 0) = False := eq_false (by omega)
  have hnz4 : (n = 0) = False := eq_false (by omega)
  have hx : (cntOf 1 l : Int) = nth l 0 := by rw [cntOf_nn h4, bval_one hl]
  rw [← hx] at hc0
  have hxb : cntOf 1 l < 256 := by
    have := h4.nth 0
    omega
  have t := rfTake (h.keep (Below.refl w.heap.size w).drew) hs
  rw [show ((1 + cntOf 1 l : Nat) : Int) = 1 + (cntOf 1 l : Int) from by omega] at t
  have htk : (l.take (1 + cntOf 1 l)).drop 1 = (l.drop 1).take (cntOf 1 l) := by rw [Nat.add_comm, List.drop_take]; simp
  have hlb : ((l.drop 1).take (cntOf 1 l)).length = cntOf 1 l := by rw [List.length_take, List.length_drop]; omega
  have hob : Octets ((l.drop 1).take (cntOf 1 l)) := fun y hy => h4 y (List.mem_of_mem_drop (List.mem_of_mem_take hy))
  have hnb : 0 < cntOf 1 l → nth ((l.drop 1).take (cntOf 1 l)) 0 ≠ 0 := fun h0 h9 => hz ⟨h0, by rw [nth_take h0] at h9; exact h9⟩
  have hcell1 : 0 < cntOf 1 l → w.cell? ⟨b, o + 1, none⟩ = some (.int .u8 (nth l 1)) := fun _ => h5.cell 1 (by omega)
  have hne1 : 0 < cntOf 1 l → nth l 1 ≠ 0 := fun h0 h9 => hz ⟨h0, by rw [nth_drop1]; exact h9⟩
  rw [h1] at hs
  have HTK := (show Hid _ from htk)
  have HLB := (show Hid _ from hlb)
  have HOB := (show Hid _ from hob)
  have HNB := (show Hid _ from hnb)
  clear X A h h5 hx h4 hz htk hlb hob hnb
  generalize (l.drop 1).take (cntOf 1 l) = lb at *
  generalize l.drop (1 + cntOf 1 l) = rr at *
  generalize l.take (1 + cntOf 1 l) = ll at *
  generalize nth l 1 = y at *
  generalize cntOf 1 l = x at *
  have hq : ((n : Int) < 1 + (x : Int)) = False := eq_false (by omega)
  have hBD := (show Hid _ from (Below.refl w.heap.size w).drew)
  by_cases hz0 : x = 0
  · have hx0 : ((0 : Int) < (x : Int)) = False := eq_false (by omega)
    have hx1 : (0 < x) = False := eq_false (by omega)
    clear hcell1 hne1 hz0
    go_enter Tryz.func207, Tryz.ntmps207
    go_wp2_with fail
    go_region
    go_wp2_with fail
    refine t.mono ?_
    rintro e w1 ⟨ao, c9, rfl, A1, R1, b1⟩
    have hc9 : 1 + x ≤ c9 := by obtain ⟨_, _, h9, _⟩ := A1.ex; exact h9
    have A2 := A1.rest (k := 1) (by omega)
    rw [HTK.out, show 1 + x - 1 = x from by omega] at A2
    have hsl : ∀ W, (Instr.sliceAt 36 (.slice ao (1 + x) c9) (some (.int .i64 1)) none none).run Tryz.prog W = .ok (.slice (restAt ao c9 1) x (c9 - 1)) W := fun W => by
      have h9 := sliceB ao (1 + x) c9 1 W (by omega) hc9
      rw [show 1 + x - 1 = x from by omega] at h9
      exact h9
    obtain ⟨o2, k1, k2, k3, k4, k5⟩ := A2.ex
    have t2 := refFrom_yes (restAt ao c9 1) x (c9 - 1) b o2 lb w1 k1 (by omega) HOB.out k5 HNB.out
    have HR1 := (show Hid _ from R1)
    have HB1 := (show Hid _ from (But.of (g := g) hBD.out).trans b1)
    clear t A1 R1 b1 A2 k1 k2 k3 k4 k5
    go_wp2_with fail
    refine t2.mono ?_
    rintro e w2 ⟨v, r, rfl, N2, I2, hr2, b2⟩
    obtain ⟨a', c', rfl, hO⟩ := N2.o I2
    have HOO := (show Hid _ from hO)
    have HR2 := (show Hid _ from HR1.out.keep b2)
    have HB2 := (show Hid _ from HB1.out.trans (But.of b2))
    clear t2 N2 I2 hO b2
    go_wp2
    go_ret
    exact ⟨_, _, _, rfl, HOO.out, by omega, HR2.out, HB2.out⟩
  · have hx0 : (0 : Int) < (x : Int) := by omega
    have hx1 : 0 < x := by omega
    have hc1 := hcell1 hx1
    have hy : (y == 0) = false := beq_eq_false_iff_ne.2 (hne1 hx1)
    have hn1 : (1 : Int) < n := by omega
    clear hcell1 hne1 hz0
    go_enter Tryz.func207, Tryz.ntmps207
    go_wp2_with fail
    go_region
    go_wp2_with fail
    refine t.mono ?_
    rintro e w1 ⟨ao, c9, rfl, A1, R1, b1⟩
    have hc9 : 1 + x ≤ c9 := by obtain ⟨_, _, h9, _⟩ := A1.ex; exact h9
    have A2 := A1.rest (k := 1) (by omega)
    rw [HTK.out, show 1 + x - 1 = x from by omega] at A2
    have hsl : ∀ W, (Instr.sliceAt 36 (.slice ao (1 + x) c9) (some (.int .i64 1)) none none).run Tryz.prog W = .ok (.slice (restAt ao c9 1) x (c9 - 1)) W := fun W => by
      have h9 := sliceB ao (1 + x) c9 1 W (by omega) hc9
      rw [show 1 + x - 1 = x from by omega] at h9
      exact h9
    obtain ⟨o2, k1, k2, k3, k4, k5⟩ := A2.ex
    have t2 := refFrom_yes (restAt ao c9 1) x (c9 - 1) b o2 lb w1 k1 (by omega) HOB.out k5 HNB.out
    have HR1 := (show Hid _ from R1)
    have HB1 := (show Hid _ from (But.of (g := g) hBD.out).trans b1)
    clear t A1 R1 b1 A2 k1 k2 k3 k4 k5
    go_wp2_with fail
    refine t2.mono ?_
    rintro e w2 ⟨v, r, rfl, N2, I2, hr2, b2⟩
    obtain ⟨a', c', rfl, hO⟩ := N2.o I2
    have HOO := (show Hid _ from hO)
    have HR2 := (show Hid _ from HR1.out.keep b2)
    have HB2 := (show Hid _ from HB1.out.trans (But.of b2))
    clear t2 N2 I2 hO b2
    go_wp2
    go_ret
    exact ⟨_, _, _, rfl, HOO.out, by omega, HR2.out, HB2.out⟩
theorem rfNat {w : World} {g b : Nat} {err : Int} {l : List Int} (h : RfA w g b err l) :
    Calls Tryz.prog 207 #[.pointer (some ⟨g, 0, none⟩)] w fun e w' => ∃ a n c, e = .returned (.slice a n c) ∧ NatO w' a n c (rdV 0 (pNat l) err) ∧ n ≤ 510 ∧ RfA w' g b (rdE (pNat l) err) (rdL (pNat l) err l) ∧ But g w w' := by
  by_cases he : err = 0
  · subst he
    by_cases hl : 1 ≤ l.length ∧ 1 + cntOf 1 l ≤ l.length
    · by_cases hz : 0 < cntOf 1 l ∧ nth (l.drop 1) 0 = 0
      · have hp : pNat l = .inl 41 := by unfold pNat; rw [if_pos hl.1, if_pos hl.2, if_pos hz]
        rw [hp]
        refine (rfNatF h hl.1 hl.2 hz).mono ?_
        rintro e w' ⟨h1, h2, h3⟩
        exact ⟨none, 0, 0, h1, natO_nil _, by decide, h2, h3⟩
      · have hp : pNat l = .inr (bval ((l.drop 1).take (cntOf 1 l)), 1 + cntOf 1 l) := by unfold pNat; rw [if_pos hl.1, if_pos hl.2, if_neg hz]
        rw [hp]
        exact rfNatY h hl.1 hl.2 hz
    · have hp : pNat l = .inl 40 := by
        unfold pNat
        by_cases h1 : 1 ≤ l.length
        · rw [if_pos h1, if_neg (fun h2 => hl ⟨h1, h2⟩)]
        · rw [if_neg h1]
      rw [hp]
      refine (rfNatS h hl).mono ?_
      rintro e w' ⟨h1, h2, h3⟩
      exact ⟨none, 0, 0, h1, natO_nil _, by decide, h2, h3⟩
  · rw [rdV_bad he, rdE_bad he, rdL_bad he]
    refine (rfNatE h he).mono ?_
    rintro e w' ⟨h1, h2, h3⟩
    exact ⟨none, 0, 0, h1, natO_nil _, by decide, h2, h3⟩
end Go.Proofs.YtidnifmehnjipaaGreat

namespace Go.Proofs.YtidnifmehnjipaaGreat
open Go.RowKit Lim

theorem atB_srcS {w : World} {x : Addr} {b o : Nat} {l : List Int} (h : AtB w (some x) b o l) : ∀ j u, (l.map (Value.int .u8))[j]? = some u → w.cell? (x.add j) = some u := by
  intro j u hu
  rw [List.getElem?_map] at hu
  rcases Nat.lt_or_ge j l.length with hj | hj
  · rw [List.getElem?_eq_getElem hj] at hu
    simp at hu
    subst hu
    have hx : x = ⟨b, o, none⟩ := by
      rcases h.loc with e | e
      · subst e; simp at hj
      · simpa using e
    subst hx
    have := h.cell j hj
    rw [nth_eq hj] at this
    rw [addr_add]
    exact this
  · rw [List.getElem?_eq_none hj] at hu; simp at hu
theorem i64_or_nat (a b : Nat) (ha : a < 9223372036854775808) (hb : b < 9223372036854775808) : bits .or .i64 (a : Int) (b : Int) = ((a ||| b : Nat) : Int) := by
  have hx : a ||| b < 2 ^ 63 := Nat.or_lt_two_pow (by omega) (by omega)
  show IntKind.i64.wrap ((BitVec.ofInt 64 (a : Int) ||| BitVec.ofInt 64 (b : Int)).toNat : Int) = _
  rw [BitVec.toNat_or, ofInt_u64 a (by omega), ofInt_u64 b (by omega)]
  simp [IntKind.wrap, IntKind.bits, IntKind.signed]
  omega
theorem or_addi (a b : Int) (s : Nat) (k : Int) (ha : a = k * 2 ^ s) (hk : 0 ≤ k) (ha1 : a < 9223372036854775808) (hb0 : 0 ≤ b) (hb1 : b < 2 ^ s) (hb2 : b < 9223372036854775808) : bits .or .i64 a b = a + b := by
  have h2 : (0 : Int) < 2 ^ s := Int.pow_pos (by decide)
  have ha0 : 0 ≤ a := by rw [ha]; exact Int.mul_nonneg hk (Int.le_of_lt h2)
  obtain ⟨A, rfl⟩ := Int.eq_ofNat_of_zero_le ha0
  obtain ⟨k, rfl⟩ := Int.eq_ofNat_of_zero_le hk
  obtain ⟨b, rfl⟩ := Int.eq_ofNat_of_zero_le hb0
  rw [i64_or_nat A b (by omega) (by omega)]
  have e : A = 2 ^ s * k := by
    have : (A : Int) = ((2 ^ s * k : Nat) : Int) := by rw [ha, Int.natCast_mul, Int.natCast_pow, Int.mul_comm]; rfl
    omega
  have hb' : b < 2 ^ s := by
    have : ((2 ^ s : Nat) : Int) = 2 ^ s := by rw [Int.natCast_pow]; rfl
    omega
  rw [e, ← Nat.two_pow_add_eq_or_of_lt hb']
  omega
theorem bval_four {l : List Int} (h : 4 ≤ l.length) : bval (l.take 4) = nth l 0 * 16777216 + nth l 1 * 65536 + nth l 2 * 256 + nth l 3 := by
  match l, h with
  | a :: b :: c :: d :: r, _ =>
    simp [bval, nth]
    omega
theorem RfA.put {w : World} {g b G : Nat} {err : Int} {l : List Int} (h : RfA w g b err l) {v u : Value} {t : TypeId} (s : Slot w G v t) (hG : G ≠ g) (hv : ∀ x, v ≠ .int .u8 x) : RfA (w.setCell ⟨G, 0, none⟩ u) g b err l := by
  obtain ⟨ao, n, c, X, A⟩ := h.ex
  refine ⟨ao, n, c, ⟨?_⟩, A.box s.bx (fun v' hv' => by rw [List.mem_singleton] at hv'; subst hv'; exact hv) fun k hk => Below.heap_setCell _ _ _ k hk⟩
  rw [Below.heap_setCell _ _ _ g hG.symm]
  exact X.blk
set_option maxRecDepth 100000 in
theorem rfDec {w : World} {g b : Nat} {err : Int} {l : List Int} (h : RfA w g b err l) :
    Calls Tryz.prog 153 #[.pointer (some ⟨g, 0, none⟩)] w fun e w' => ∃ ao n c, e = .returned (.agg #[.slice ao n c]) ∧ NatO w' ao n c (rdV 0 (pNat l) err) ∧ n ≤ 510 ∧ RfA w' g b (rdE (pNat l) err) (rdL (pNat l) err l) ∧ But g w w' := by
  have HB := (show Hid _ from below_alloc w (.cells #[.slice none 0 0] 46))
  have S0 := slot_new w (.slice none 0 0) 46
  have hg : w.heap.size ≠ g := by have := h.lt; omega
  have HG := (show Hid _ from hg)
  have t := rfNat (h.keep HB.out)
  clear h hg
  generalize rdV 0 (pNat l) err = V at *
  generalize rdE (pNat l) err = E at *
  generalize rdL (pNat l) err l = R at *
  go_enter Tryz.func153, Tryz.ntmps153
  go_wp2_with fail
  refine t.mono ?_
  rintro e w1 ⟨ao, n, c, rfl, k3, k4, k1, k2⟩
  have S1 := S0.but k2 HG.out
  have c1 := S1.cell
  have f1 := S1.free
  have S2 := S1.put (.slice ao n c)
  have HO := (show Hid _ from k3.put S1 not_int (.slice ao n c))
  have HR := (show Hid _ from k1.put (u := .slice ao n c) S1 HG.out (fun x e => by cases e))
  have HW := (show Hid _ from ((But.of (g := g) HB.out).trans k2).put (Nat.le_refl _) (.slice ao n c))
  clear t S0 S1 k1 k2 k3 HB HG
  go_wp2
  refine bodyPost_ret (ret_dec rfl rfl S2) rfl ?_
  exact ⟨ao, n, c, rfl, HO.out, k4, HR.out, HW.out⟩
end Go.Proofs.YtidnifmehnjipaaGreat

namespace Go.Proofs.YtidnifmehnjipaaGreat
namespace Rc
open Go.RowKit Go.Lib Pg Lim
attribute [local go_sem] Oper.semAt_some
set_option maxHeartbeats 400000 in
set_option maxRecDepth 100000 in
theorem rfNatYW {w : World} {g b : Nat} {l : List Int} (h : RfA w g b 0 l) (hl : 1 ≤ l.length) (hs : 1 + cntOf 1 l ≤ l.length) (hz : ¬ (0 < cntOf 1 l ∧ nth (l.drop 1) 0 = 0)) :
    Calls Tryz.prog 207 #[.pointer (some ⟨g, 0, none⟩)] w fun e w' => ∃ a n c, e = .returned (.slice a n c) ∧ NatW w' w.heap.size a n c (bval ((l.drop 1).take (cntOf 1 l))) ∧ n ≤ 510 ∧ RfA w' g b 0 (l.drop (1 + cntOf 1 l)) ∧ But g w w' := by
  obtain ⟨ao, n, c, X, A⟩ := h.ex
  obtain ⟨o, h1, h2, ⟨h3, -⟩, h4, h5⟩ := A.ex
  obtain ⟨c1, c2, c3, c4⟩ := X.two
  have hc0 := h5.cell 0 (by omega)
  rw [Nat.add_zero] at hc0
  obtain rfl : ao = some ⟨b, o, none⟩ := by
    rcases h5.loc with e | e
    · rw [e] at hl; simp at hl
    · exact e
  have hn : 0 < n := by omega
  have hnz : (n == 0) = false := beq_eq_false_iff_ne.2 (by omega)
  have hnz2 : ((n : Int) == 0) = false := beq_eq_false_iff_ne.2 (by omega)
  have hnz3 : ((n : Int) = 0) = False := eq_false (by omega)
  have hnz4 : (n = 0) = False := eq_false (by omega)
  have hx : (cntOf 1 l : Int) = nth l 0 := by rw [cntOf_nn h4, bval_one hl]
  rw [← hx] at hc0
  have hxb : cntOf 1 l < 256 := by
    have := h4.nth 0
    omega
  have t := rfTake (h.keep (Below.refl w.heap.size w).drew) hs
  rw [show ((1 + cntOf 1 l : Nat) : Int) = 1 + (cntOf 1 l : Int) from by omega] at t
  have htk : (l.take (1 + cntOf 1 l)).drop 1 = (l.drop 1).take (cntOf 1 l) := by rw [Nat.add_comm, List.drop_take]; simp
  have hlb : ((l.drop 1).take (cntOf 1 l)).length = cntOf 1 l := by rw [List.length_take, List.length_drop]; omega
  have hob : Octets ((l.drop 1).take (cntOf 1 l)) := fun y hy => h4 y (List.mem_of_mem_drop (List.mem_of_mem_take hy))
  have hnb : 0 < cntOf 1 l → nth ((l.drop 1).take (cntOf 1 l)) 0 ≠ 0 := fun h0 h9 => hz ⟨h0, by rw [nth_take h0] at h9; exact h9⟩
  have hcell1 : 0 < cntOf 1 l → w.cell? ⟨b, o + 1, none⟩ = some (.int .u8 (nth l 1)) := fun _ => h5.cell 1 (by omega)
  have hne1 : 0 < cntOf 1 l → nth l 1 ≠ 0 := fun h0 h9 => hz ⟨h0, by rw [nth_drop1]; exact h9⟩
  rw [h1] at hs
  have HTK := (show Hid _ from htk)
  have HLB := (show Hid _ from hlb)
  have HOB := (show Hid _ from hob)
  have HNB := (show Hid _ from hnb)
  clear X A h h5 hx h4 hz htk hlb hob hnb
  generalize (l.drop 1).take (cntOf 1 l) = lb at *
  generalize l.drop (1 + cntOf 1 l) = rr at *
  generalize l.take (1 + cntOf 1 l) = ll at *
  generalize nth l 1 = y at *
  generalize cntOf 1 l = x at *
  have hq : ((n : Int) < 1 + (x : Int)) = False := eq_false (by omega)
  have hBD := (show Hid _ from (Below.refl w.heap.size w).drew)
  by_cases hz0 : x = 0
  · have hx0 : ((0 : Int) < (x : Int)) = False := eq_false (by omega)
    have hx1 : (0 < x) = False := eq_false (by omega)
    clear hcell1 hne1 hz0
    go_enter Tryz.func207, Tryz.ntmps207
    go_wp2_with fail
    go_region
    go_wp2_with fail
    refine t.mono ?_
    rintro e w1 ⟨ao, c9, rfl, A1, R1, b1⟩
    have hc9 : 1 + x ≤ c9 := by obtain ⟨_, _, h9, _⟩ := A1.ex; exact h9
    have A2 := A1.rest (k := 1) (by omega)
    rw [HTK.out, show 1 + x - 1 = x from by omega] at A2
    have hsl : ∀ W, (Instr.sliceAt 36 (.slice ao (1 + x) c9) (some (.int .i64 1)) none none).run Tryz.prog W = .ok (.slice (restAt ao c9 1) x (c9 - 1)) W := fun W => by
      have h9 := sliceB ao (1 + x) c9 1 W (by omega) hc9
      rw [show 1 + x - 1 = x from by omega] at h9
      exact h9
    obtain ⟨o2, k1, k2, k3, k4, k5⟩ := A2.ex
    have t2 := refFrom_yes (restAt ao c9 1) x (c9 - 1) b o2 lb w1 k1 (by omega) HOB.out k5 HNB.out
    have HR1 := (show Hid _ from R1)
    have HB1 := (show Hid _ from (But.of (g := g) hBD.out).trans b1)
    clear t A1 R1 b1 A2 k1 k2 k3 k4 k5
    go_wp2_with fail
    refine t2.mono ?_
    rintro e w2 ⟨v, r, rfl, N2, I2, hr2, b2⟩
    obtain ⟨a', c', rfl, hO⟩ := newV_w N2 I2 (show w.heap.size ≤ w1.heap.size from HB1.out.size)
    have HOO := (show Hid _ from hO)
    have HR2 := (show Hid _ from HR1.out.keep b2)
    have HB2 := (show Hid _ from HB1.out.trans (But.of b2))
    clear t2 N2 I2 hO b2
    go_wp2
    go_ret
    exact ⟨_, _, _, rfl, HOO.out, by omega, HR2.out, HB2.out⟩
  · have hx0 : (0 : Int) < (x : Int) := by omega
    have hx1 : 0 < x := by omega
    have hc1 := hcell1 hx1
    have hy : (y == 0) = false := beq_eq_false_iff_ne.2 (hne1 hx1)
    have hn1 : (1 : Int) < n := by omega
    clear hcell1 hne1 hz0
    go_enter Tryz.func207, Tryz.ntmps207
    go_wp2_with fail
    go_region
    go_wp2_with fail
    refine t.mono ?_
    rintro e w1 ⟨ao, c9, rfl, A1, R1, b1⟩
    have hc9 : 1 + x ≤ c9 := by obtain ⟨_, _, h9, _⟩ := A1.ex; exact h9
    have A2 := A1.rest (k := 1) (by omega)
    rw [HTK.out, show 1 + x - 1 = x from by omega] at A2
    have hsl : ∀ W, (Instr.sliceAt 36 (.slice ao (1 + x) c9) (some (.int .i64 1)) none none).run Tryz.prog W = .ok (.slice (restAt ao c9 1) x (c9 - 1)) W := fun W => by
      have h9 := sliceB ao (1 + x) c9 1 W (by omega) hc9
      rw [show 1 + x - 1 = x from by omega] at h9
      exact h9
    obtain ⟨o2, k1, k2, k3, k4, k5⟩ := A2.ex
    have t2 := refFrom_yes (restAt ao c9 1) x (c9 - 1) b o2 lb w1 k1 (by omega) HOB.out k5 HNB.out
    have HR1 := (show Hid _ from R1)
    have HB1 := (show Hid _ from (But.of (g := g) hBD.out).trans b1)
    clear t A1 R1 b1 A2 k1 k2 k3 k4 k5
    go_wp2_with fail
    refine t2.mono ?_
    rintro e w2 ⟨v, r, rfl, N2, I2, hr2, b2⟩
    obtain ⟨a', c', rfl, hO⟩ := newV_w N2 I2 (show w.heap.size ≤ w1.heap.size from HB1.out.size)
    have HOO := (show Hid _ from hO)
    have HR2 := (show Hid _ from HR1.out.keep b2)
    have HB2 := (show Hid _ from HB1.out.trans (But.of b2))
    clear t2 N2 I2 hO b2
    go_wp2
    go_ret
    exact ⟨_, _, _, rfl, HOO.out, by omega, HR2.out, HB2.out⟩
theorem rfNatW {w : World} {g b : Nat} {err : Int} {l : List Int} (h : RfA w g b err l) :
    Calls Tryz.prog 207 #[.pointer (some ⟨g, 0, none⟩)] w fun e w' => ∃ a n c, e = .returned (.slice a n c) ∧ NatW w' w.heap.size a n c (rdV 0 (pNat l) err) ∧ n ≤ 510 ∧ RfA w' g b (rdE (pNat l) err) (rdL (pNat l) err l) ∧ But g w w' := by
  by_cases he : err = 0
  · subst he
    by_cases hl : 1 ≤ l.length ∧ 1 + cntOf 1 l ≤ l.length
    · by_cases hz : 0 < cntOf 1 l ∧ nth (l.drop 1) 0 = 0
      · have hp : pNat l = .inl 41 := by unfold pNat; rw [if_pos hl.1, if_pos hl.2, if_pos hz]
        rw [hp]
        refine (rfNatF h hl.1 hl.2 hz).mono ?_
        rintro e w' ⟨h1, h2, h3⟩
        exact ⟨none, 0, 0, h1, natW_nil _ _, by decide, h2, h3⟩
      · have hp : pNat l = .inr (bval ((l.drop 1).take (cntOf 1 l)), 1 + cntOf 1 l) := by unfold pNat; rw [if_pos hl.1, if_pos hl.2, if_neg hz]
        rw [hp]
        exact rfNatYW h hl.1 hl.2 hz
    · have hp : pNat l = .inl 40 := by
        unfold pNat
        by_cases h1 : 1 ≤ l.length
        · rw [if_pos h1, if_neg (fun h2 => hl ⟨h1, h2⟩)]
        · rw [if_neg h1]
      rw [hp]
      refine (rfNatS h hl).mono ?_
      rintro e w' ⟨h1, h2, h3⟩
      exact ⟨none, 0, 0, h1, natW_nil _ _, by decide, h2, h3⟩
  · rw [rdV_bad he, rdE_bad he, rdL_bad he]
    refine (rfNatE h he).mono ?_
    rintro e w' ⟨h1, h2, h3⟩
    exact ⟨none, 0, 0, h1, natW_nil _ _, by decide, h2, h3⟩
set_option maxRecDepth 100000 in
theorem rfDecW {w : World} {g b : Nat} {err : Int} {l : List Int} (h : RfA w g b err l) :
    Calls Tryz.prog 153 #[.pointer (some ⟨g, 0, none⟩)] w fun e w' => ∃ ao n c, e = .returned (.agg #[.slice ao n c]) ∧ NatW w' w.heap.size ao n c (rdV 0 (pNat l) err) ∧ n ≤ 510 ∧ RfA w' g b (rdE (pNat l) err) (rdL (pNat l) err l) ∧ But g w w' := by
  have HB := (show Hid _ from below_alloc w (.cells #[.slice none 0 0] 46))
  have S0 := slot_new w (.slice none 0 0) 46
  have hg : w.heap.size ≠ g := by have := h.lt; omega
  have HG := (show Hid _ from hg)
  have t := rfNatW (h.keep HB.out)
  clear h hg
  generalize rdV 0 (pNat l) err = V at *
  generalize rdE (pNat l) err = E at *
  generalize rdL (pNat l) err l = R at *
  go_enter Tryz.func153, Tryz.ntmps153
  go_wp2_with fail
  refine t.mono ?_
  rintro e w1 ⟨ao, n, c, rfl, k3, k4, k1, k2⟩
  have S1 := S0.but k2 HG.out
  have c1 := S1.cell
  have f1 := S1.free
  have S2 := S1.put (.slice ao n c)
  have HO := (show Hid (NatW (w1.setCell ⟨w.heap.size, 0, none⟩ (.slice ao n c)) w.heap.size ao n c V) from (k3.off (w' := w1.setCell ⟨w.heap.size, 0, none⟩ (.slice ao n c)) (by rw [size_set]; exact Nat.le_refl _) (fun b hb _ => Below.heap_setCell _ _ _ b (by have := size_al w (.cells #[.slice none 0 0] 46); show b ≠ w.heap.size; omega))).low HB.out.size)
  have HR := (show Hid _ from k1.put (u := .slice ao n c) S1 HG.out (fun x e => by cases e))
  have HW := (show Hid _ from ((But.of (g := g) HB.out).trans k2).put (Nat.le_refl _) (.slice ao n c))
  clear t S0 S1 k1 k2 k3 HB HG
  go_wp2
  refine bodyPost_ret (ret_dec rfl rfl S2) rfl ?_
  exact ⟨ao, n, c, rfl, HO.out, k4, HR.out, HW.out⟩
end Rc
end Go.Proofs.YtidnifmehnjipaaGreat

namespace Go.Proofs.YtidnifmehnjipaaGreat
namespace Rc
open Go.RowKit Go.Lib Pg Lim
attribute [local go_sem] Oper.semAt_some
theorem K8 : Kd Tryz.prog 36 5 1 1 (.int .u8 0) := ⟨by kernel_rfl, by kernel_rfl, rfl, by simp [Value.cells, Value.oneCell'], by decide⟩
/-- a byte more behind bytes that were laid -/
theorem app_b {w : World} {b n : Nat} {M : List Int} {x : Int} (h : Box w b (M.map (Value.int .u8)) 5) (hn : n = M.length) (ho : Octets M) (hx : 0 ≤ x ∧ x < 256) (hl : M.length ≤ 100000) :
    ∃ b' c' w', (Builtin.append_ #[36, 36] 36 #[.slice (some ⟨b, 0, none⟩) n n, .slice (some ⟨w.heap.size, 0, none⟩) 1 1]).run Tryz.prog (w.alloc (.cells #[.int .u8 x] 5)) = .ok (.slice (some ⟨b', 0, none⟩) (n + 1) c') w' ∧ ByA w' b' (some ⟨b', 0, none⟩) (n + 1) c' (M ++ [x]) ∧ Chg (· = b) w w' := by
  have al := below_alloc w (.cells #[.int .u8 x] 5)
  have nb := blk_new w [.int .u8 x] 5
  have hB : Blk (w.alloc (.cells #[.int .u8 x] 5)) b (M.map (Value.int .u8)) 5 := (Blk.mk h.blk).keep al
  have R := blk_rw (k := 1) (n := n) hB (by rw [List.length_map, hn, Nat.mul_one]) (by have : n ≤ 100000 := by omega
                                                                                       simp only [maxLen]; omega)
  obtain ⟨b', c', w', hr, hb, R', C⟩ := app_row K8 36 R ⟨w.heap.size, 0, none⟩ 1 1 [.int .u8 x] rfl (fun j u hj => by
    have : j = 0 := by have := (List.getElem?_eq_some_iff.1 hj).1; simp at this; omega
    subst this
    simp at hj
    subst hj
    exact nb.cell (i := 0) rfl) (by simp [Value.oneCell']) (by omega) (by omega)
  have hle := R'.le
  refine ⟨b', c', w', hr, ⟨0, by simp [hn], hle.1, ⟨by have := hle.2; simp only [maxLen] at this; omega, fun e => by cases e⟩, ?_, ⟨.inr rfl, fun i hi => ?_⟩⟩, (Chg.of (F := fun y => y = b) al).trans C (fun _ _ h => h)⟩
  · intro y hy
    rcases List.mem_append.1 hy with h1 | h1
    · exact ho y h1
    · simp at h1; subst h1; exact hx
  · rw [Nat.zero_add]
    refine R'.cell ?_
    have e : (M.map (Value.int .u8) ++ [Value.int .u8 x]) = (M ++ [x]).map (Value.int .u8) := by simp
    rw [e, List.getElem?_map]
    have : (M ++ [x])[i]? = some (nth (M ++ [x]) i) := by
      simp [nth, List.getD_eq_getElem?_getD, List.getElem?_eq_getElem hi]
    rw [this]
    rfl
theorem nat7 (w : World) : NatO (w.alloc (.cells #[.int .u64 7] 22)) (some ⟨w.heap.size, 0, none⟩) 1 1 7 :=
  ⟨w.heap.size, 0, [7], rfl, Nat.le_refl _, ⟨fun x hx => by simp at hx; omega, by decide, by decide⟩, ⟨.inr rfl, fun i hi => by
    have : i = 0 := by simp at hi; omega
    subst this
    exact (blk_new w [.int .u64 7] 22).cell (i := 0) rfl⟩⟩
theorem natB_7 : natB 7 = [7] := natB_unique (by decide) ⟨fun x hx => by simp at hx; omega, fun _ => by decide, by decide⟩
theorem fit_7 : fit 7 = 7 := by unfold fit; rw [natB_7]; rfl
theorem fit_0 : fit 0 = 0 := by unfold fit; rw [natB_0]; rfl
/-- bytes of few fields -/
theorem shortL (xs : Nat → Int) (ks : List (Nat × Nat)) (h : ks.length ≤ 10) : (thr (pnx xs) ks []).length ≤ 3000 := by
  have := pnx_len xs ks []
  simp at this
  omega
theorem laidB {w : World} {b n : Nat} {xs : Nat → Int} {ks : List (Nat × Nat)} (X : Box w b ((thr (pnx xs) ks []).map (Value.int .u8)) 5) (hn : n = (thr (pnx xs) ks []).length) (hk : ks.length ≤ 10) : ByA w b (some ⟨b, 0, none⟩) n n (thr (pnx xs) ks []) ∧ n ≤ 3000 := by
  have h := shortL xs ks hk
  exact ⟨box_bya X hn (thr_oct _ _ _ (fun y hy => by cases hy)) (by omega), by omega⟩
theorem lit_bya (w : World) (l : List Int) (ho : Octets l) (hl : l.length ≤ 1000) : ByA (w.alloc (.cells (l.map (Value.int .u8)).toArray 5)) w.heap.size (some ⟨w.heap.size, 0, none⟩) l.length l.length l := box_bya (box_new w (l.map (Value.int .u8)) 5) rfl ho (by omega)
end Rc
end Go.Proofs.YtidnifmehnjipaaGreat

namespace Go.Proofs.YtidnifmehnjipaaGreat
namespace Rc
open Go.RowKit Go.Lib Pg Lim
/-- where the ways of a stretch of code come together -/
structure CutP (a : Act) (slots : List Nat) (F : World → Prop) (a' : Act) (w' : World) : Prop where
  ex : ∃ x : Nat → Value, a' = putAll a (slots.map fun i => (some i, x i)) ∧ F w'
theorem wp_cut {c d : Code} {a : Act} {w : World} {Q : Exit → Act → World → Prop} (slots : List Nat) (F : World → Prop) (h1 : c.wp Tryz.prog (Exit.then (CutP a slots F) (fun _ _ _ => False)) a w) (h2 : ∀ (x : Nat → Value) w', F w' → d.wp Tryz.prog Q (putAll a (slots.map fun i => (some i, x i))) w') : (Code.seq c d).wp Tryz.prog Q a w :=
  wp_seq (Code.wp_mono (fun e a' w' h => by
    cases e <;> first
      | (obtain ⟨x, rfl, hF⟩ := h; exact h2 x w' hF)
      | exact h.elim) h1)
theorem cut_end {a a' : Act} {w : World} {F : World → Prop} {slots : List Nat} (h : a' = putAll a (slots.map fun i => (some i, a'.tmps.getD i undef))) (hF : F w) : CutP a slots F a' w := ⟨fun i => a'.tmps.getD i undef, h, hF⟩
theorem endE_zero {err : Int} {l : List Int} (h : endE err l = 0) : err = 0 ∧ l = [] := by
  unfold endE at h
  split at h
  · rename_i he
    split at h
    · rename_i hl
      exact ⟨he, List.eq_nil_of_length_eq_zero hl⟩
    · exact absurd h (by decide)
  · exact absurd h (by assumption)
/-- what is read whole is laid again as it was -/
theorem ones (ks : List (Nat × Nat)) (l : List Int) (ho : Octets l) (hnd : (ks.map Prod.snd).Nodup) (h : endE (thr rnx ks (0, l, fun _ => 0)).1 (thr rnx ks (0, l, fun _ => 0)).2.1 = 0) : thr (pnx (thr rnx ks (0, l, fun _ => 0)).2.2) ks [] = l := by
  obtain ⟨h1, h2⟩ := endE_zero h
  have := thr_one ks l (fun _ => 0) ho hnd h1 []
  rw [h2, List.append_nil, List.nil_append] at this
  exact this
theorem thr_congr {xs ys : Nat → Int} (ks : List (Nat × Nat)) (h : ∀ p ∈ ks, xs p.2 = ys p.2) : ∀ L, thr (pnx xs) ks L = thr (pnx ys) ks L := by
  induction ks with
  | nil => intro L; rfl
  | cons p ks ih =>
    intro L
    rw [thr_cons, thr_cons]
    have e : pnx xs p.1 p.2 L = pnx ys p.1 p.2 L := by unfold pnx; rw [h p List.mem_cons_self]
    rw [e]
    exact ih (fun q hq => h q (List.mem_cons_of_mem _ hq)) _
theorem fix8 (l : List Int) : (8 ≤ l.length → rdE (pFix 8 l) 0 = 0 ∧ rdL (pFix 8 l) 0 l = l.drop 8) ∧ (l.length < 8 → rdE (pFix 8 l) 0 ≠ 0) := by
  refine ⟨fun h => ?_, fun h => ?_⟩
  · unfold pFix
    rw [if_pos h]
    exact ⟨rfl, rfl⟩
  · unfold pFix
    rw [if_neg (by omega)]
    decide
/-- numbers alone: so many bytes -/
theorem len_u (k : Nat) : ∀ (ks : List (Nat × Nat)) (l : List Int) (xs : Nat → Int), ks.length = k → (∀ p ∈ ks, p.1 = 0) → (endE (thr rnx ks (0, l, xs)).1 (thr rnx ks (0, l, xs)).2.1 = 0 ↔ l.length = 8 * k) := by
  induction k with
  | zero =>
    intro ks l xs hk _
    obtain rfl : ks = [] := List.eq_nil_of_length_eq_zero hk
    show endE 0 l = 0 ↔ _
    unfold endE
    rw [if_pos rfl]
    constructor
    · intro h
      split at h
      · omega
      · exact absurd h (by decide)
    · intro h
      rw [if_pos (by omega)]
  | succ k ih =>
    intro ks l xs hk h0
    match ks, hk with
    | p :: ks, hk =>
      have hp : p.1 = 0 := h0 p List.mem_cons_self
      rw [thr_cons]
      by_cases hl : 8 ≤ l.length
      · obtain ⟨e1, e2⟩ := (fix8 l).1 hl
        have es : rnx p.1 p.2 (0, l, xs) = (0, l.drop 8, fun i => if i = p.2 then rdV 0 (pFix 8 l) 0 else xs i) := by
          rw [hp]
          show (rdE (pFix 8 l) 0, rdL (pFix 8 l) 0 l, _) = _
          rw [e1, e2]
          rfl
        rw [es, ih ks (l.drop 8) _ (by simpa using hk) (fun q hq => h0 q (List.mem_cons_of_mem _ hq)), List.length_drop]
        omega
      · have e1 : (rnx p.1 p.2 (0, l, xs)).1 ≠ 0 := by rw [hp]; exact (fix8 l).2 (by omega)
        have e2 := thr_bad ks _ e1
        constructor
        · intro h
          obtain ⟨h1, _⟩ := endE_zero h
          rw [e2] at h1
          exact absurd h1 e1
        · intro h
          omega
end Rc
end Go.Proofs.YtidnifmehnjipaaGreat

namespace Go.Proofs.YtidnifmehnjipaaGreat
open Go.RowKit Lim

theorem AtB.byt {B : Nat} {w w' : World} {ao : Option Addr} {b o : Nat} {l : List Int} (h : AtB w ao b o l) (hb : l = [] ∨ b < B) (k : Byt B w w') : AtB w' ao b o l :=
  ⟨h.loc, fun i hi => by
    have hc := h.cell i hi
    rcases hb with e | e
    · subst e; simp at hi
    · rw [World.cell?_of_block (w := w) (k.low b e (cell_lt hc))]
      exact hc⟩
theorem atB_src {w : World} {x : Addr} {b o : Nat} {l : List Int} (h : AtB w (some x) b o l) : ∀ j u, (l.map (Value.int .u8))[j]? = some u → w.cell? (x.add j) = some u := by
  intro j u hu
  rw [List.getElem?_map] at hu
  rcases Nat.lt_or_ge j l.length with hj | hj
  · rw [List.getElem?_eq_getElem hj] at hu
    simp at hu
    subst hu
    have hx : x = ⟨b, o, none⟩ := by
      rcases h.loc with e | e
      · subst e; simp at hj
      · simpa using e
    subst hx
    have := h.cell j hj
    rw [nth_eq hj] at this
    rw [addr_add]
    exact this
  · rw [List.getElem?_eq_none hj] at hu; simp at hu
theorem mineB_app {w : World} {B n : Nat} {v : Value} {L l : List Int} (h : w.ownsRow B 5 1 v n (L.map (Value.int .u8) ++ l.map (Value.int .u8))) (hn : n = L.length + l.length) : MineB w B v (L ++ l) := by
  unfold MineB
  rw [List.length_append, List.map_append, ← hn]
  exact h
set_option maxHeartbeats 2000000 in
set_option maxRecDepth 100000 in
theorem refNat4 {w : World} {B n c : Nat} {ao : Option Addr} {v : Value} {L : List Int} {V : Int} (hM : MineB w B v L) (hB : B ≤ w.heap.size) (hL : L.length ≤ 1099511627776) (A : NatA w ao n c V) (hn : n ≤ 3000) :
    Calls Tryz.prog 206 #[v, .slice ao n c] w fun e w' => ∃ v', e = .returned (.tuple #[v', .bool (decide ((natB V).length < 256))]) ∧ ((natB V).length < 256 → MineB w' B v' (L ++ cntd 1 (natB V))) ∧ Byt B w w' := by
  obtain ⟨i0, hi, hz0, hz1, hz2⟩ := info_parts info_u8
  have HI : Hid (Tryz.prog.info? 5 = some i0 ∧ i0.zero = some (.int .u8 0) ∧ i0.size = 1 ∧ i0.bytes = 1) := ⟨hi, hz0, hz1, hz2⟩
  have hV := A.nonneg
  obtain ⟨b, o, l, h1, h2, h3, h4, rfl⟩ := A.ex
  have HM := (show Hid _ from hM)
  have HBS := (show Hid _ from hB)
  have HV := (show Hid _ from hV)
  have t := refBytes_any ao n c b o l w h1 (by omega) h3 h4
  clear hi hz0 hz1 hz2 A h1 h2 h3 h4 hM hB hV
  obtain ⟨r, hr⟩ : ∃ r, natB (val l) = r := ⟨_, rfl⟩
  obtain ⟨q, hq⟩ : ∃ q, r.length = q := ⟨_, rfl⟩
  have HR := (show Hid _ from hr)
  have HQ := (show Hid _ from hq)
  rw [hr, hq]
  clear hr hq
  by_cases hlt : q < 256
  · rw [decide_eq_true hlt]
    have hlt' : (q : Int) < 256 := by omega
    have hq2 : ((255 : Int) < q) = False := eq_false (by omega)
    clear hlt
    go_enter Tryz.func206, Tryz.ntmps206
    go_wp2_with fail
    refine t.mono ?_
    rintro e w1 ⟨v1, r', rfl, hM1, hI, -, hB1⟩
    obtain rfl : r = r' := by rw [← HR.out]; exact natB_unique HV.out hI
    obtain ⟨a1, c1, rfl⟩ := hM1.shape
    have hM1' := hM1
    rw [HQ.out] at hM1 ⊢
    have HM1 := (show Hid (MineB w1 w.heap.size (.slice a1 q c1) r) from hM1)
    have HB1 := (show Hid _ from hB1)
    have hal := below_alloc w1 (.cells #[.int .u8 (q : Int)] 5)
    have hown : (w1.alloc (.cells #[.int .u8 (q : Int)] 5)).ownsRow B 5 1 v L.length (L.map (Value.int .u8)) := mineB_keep (mineB_keep HM.out HB1.out) hal
    have HAL := (show Hid _ from joinB HB1.out hal)
    have hsrc : ∀ j u, [Value.int .u8 (q : Int)][j]? = some u → (w1.alloc (.cells #[.int .u8 (q : Int)] 5)).cell? ((⟨w1.heap.size, 0, none⟩ : Addr).add j) = some u := fun j u hu => by
      match j, hu with
      | 0, hu =>
        cases hu
        have hb := (box_new w1 [Value.int .u8 (q : Int)] 5).blk
        simp only [World.cell?, Addr.add, if_true, hb]
        rfl
      | j + 1, hu => simp at hu
    have HM1A : Hid (MineB (w1.alloc (.cells #[.int .u8 (q : Int)] 5)) w.heap.size (.slice a1 q c1) r) := mineB_keep HM1.out hal
    clear hal t hI hB1 hM1 hM1'
    go_wp2_with (at_builtin; refine wpList_append_own _ rfl (.tmp 13) (.tmp 17) 36 rfl B 5 i0 (.int .u8 0) 1 1 under_bytes HI.out.1 HI.out.2.1 HI.out.2.2.1 HI.out.2.2.2 rfl (by decide) _ _ _ rfl hown ⟨w1.heap.size, 0, none⟩ 1 1 [Value.int .u8 (q : Int)] rfl rfl ?c1 ?c2 ?c3 ?c4 ?c5 ?_)
    case c1 => exact hsrc
    case c2 => intro u hu; rw [List.mem_singleton] at hu; subst hu; rfl
    case c3 => unfold maxLen; omega
    case c4 => omega
    case c5 => exact Nat.le_trans HBS.out HAL.out.size
    intro v2 w2 hown2 hgrow _
    obtain ⟨M, hMd⟩ : ∃ M, M = L ++ [(q : Int)] := ⟨_, rfl⟩
    have hM2 : MineB w2 B v2 M := by
      rw [hMd]
      exact mineB_app (l := [(q : Int)]) hown2 (by simp)
    have hownM : w2.ownsRow B 5 1 v2 M.length (M.map (Value.int .u8)) := hM2
    have HMD := (show Hid _ from hMd)
    have HLEN : Hid (M.length = L.length + 1) := by show _ = _; rw [hMd]; simp
    have HBY := (show Hid _ from (Byt.of (B := B) HAL.out).trans (Byt.grown hown hgrow))
    have hlow : ∀ k, v.ownBlock = some k → k < w.heap.size := fun k hk => ((show w.ownsRow B 5 1 v L.length (L.map (Value.int .u8)) from HM.out).lt k hk).2
    have HS2 : Hid (∃ b o, AtB w2 a1 b o r) := by
      obtain ⟨b9, a9, c9, e9, A9⟩ := HM1A.out.bya (by rw [← HR.out]; exact natB_oct _)
      injection e9 with e1 e2 e3
      subst e1
      rcases A9 with ⟨hge, o9, -, -, -, -, A9⟩
      refine ⟨b9, o9, A9.loc, fun i hi => hgrow.cell (A9.cell i hi) fun e => ?_⟩
      have := hlow b9 e.symm
      omega
    clear hown hown2 hgrow hsrc hM2 hMd hlow
    cases a1 with
    | none =>
      have e0 : q = 0 ∧ c1 = 0 := by
        rcases HM1.out.2 with ⟨h, -⟩ | ⟨_, _, _, h, _⟩
        · injection h with h1 h2 h3
          exact ⟨h2, h3⟩
        · cases h
      obtain ⟨rfl, rfl⟩ := e0
      go_wp2_with (at_builtin; refine wpList_append_own_none rfl (.tmp 18) (.tmp 19) 36 rfl B 5 i0 1 under_bytes HI.out.1 _ _ _ rfl hownM rfl ?_)
      have HM9 : Hid (MineB w2 B v2 (L ++ cntd 1 r)) := by
        have hr0 : r = [] := List.eq_nil_of_length_eq_zero HQ.out
        have e : L ++ cntd 1 r = M := by rw [HMD.out, hr0]; rfl
        rw [e]
        exact hownM
      clear hownM
      go_wp2
      go_ret2
      exact ⟨_, rfl, fun _ => HM9.out, HBY.out⟩
    | some x =>
      have hsrc2 : ∀ j u, (r.map (Value.int .u8))[j]? = some u → w2.cell? (x.add j) = some u := by
        obtain ⟨b9, o9, A9⟩ := HS2.out
        exact atB_src A9
      go_wp2_with (at_builtin; refine wpList_append_own _ rfl (.tmp 18) (.tmp 19) 36 rfl B 5 i0 (.int .u8 0) 1 1 under_bytes HI.out.1 HI.out.2.1 HI.out.2.2.1 HI.out.2.2.2 rfl (by decide) _ _ _ rfl hownM x q c1 (r.map (Value.int .u8)) rfl (by rw [List.length_map, HQ.out, Nat.mul_one]) ?c1 ?c2 ?c3 ?c4 ?c5 ?_)
      case c1 => exact hsrc2
      case c2 => exact ints_oneCell _ _
      case c3 => unfold maxLen; have := HLEN.out; omega
      case c4 => have := HLEN.out; omega
      case c5 => exact Nat.le_trans HBS.out HBY.out.size
      intro v3 w3 hown3 hgrow3 _
      have HM9 : Hid (MineB w3 B v3 (L ++ cntd 1 r)) := by
        have h9 := mineB_app (L := M) (l := r) hown3 (by rw [HQ.out])
        have e : L ++ cntd 1 r = M ++ r := by
          unfold cntd
          rw [HMD.out, HQ.out, List.append_assoc]
          congr 2
          show [(q : Int) / 256 ^ 0 % 256] = _
          rw [show (256 : Int) ^ 0 = 1 by decide, Int.ediv_one, Int.emod_eq_of_lt (by omega) hlt']
        rw [e]
        exact h9
      have HBY2 := (show Hid _ from HBY.out.trans (Byt.grown hownM hgrow3))
      clear hownM hown3 hgrow3 hsrc2
      go_wp2
      go_ret2
      exact ⟨_, rfl, fun _ => HM9.out, HBY2.out⟩
  · rw [decide_eq_false hlt]
    have hq2 : ((255 : Int) < q) = True := eq_true (by omega)
    go_enter Tryz.func206, Tryz.ntmps206
    go_wp2_with fail
    refine t.mono ?_
    rintro e w1 ⟨v1, r', rfl, hM1, hI, -, hB1⟩
    obtain rfl : r = r' := by rw [← HR.out]; exact natB_unique HV.out hI
    obtain ⟨a1, c1, rfl⟩ := hM1.shape
    rw [HQ.out]
    have HB1 := (show Hid _ from hB1)
    have HLT := (show Hid _ from hlt)
    clear t hI hB1 hM1 hlt
    go_wp2
    go_ret2
    exact ⟨_, rfl, fun h => absurd h HLT.out, Byt.of HB1.out⟩
end Go.Proofs.YtidnifmehnjipaaGreat

namespace Go.Proofs.YtidnifmehnjipaaGreat
namespace Rc
open Go.RowKit Go.Lib Pg Lim
attribute [local go_sem] Oper.semAt_some
theorem mineB_off {w : World} {B g i : Nat} {v : Value} {l : List Int} {cs : List Value} {t : TypeId} (h : MineB w B v l) (k : Blk w g cs t) (ht : t ≠ 5) (u : Value) : MineB (w.setCell ⟨g, i, none⟩ u) B v l := by
  obtain ⟨h1, h2⟩ := h
  refine ⟨h1, ?_⟩
  rcases h2 with h2 | ⟨g', cap, cur, h3, h4, h5, h6⟩
  · exact .inl h2
  · refine .inr ⟨g', cap, cur, h3, h4, ?_, h6⟩
    have hne : g' ≠ g := fun e => by
      subst e
      have := k.blk.symm.trans h5
      simp at this
      exact ht this.2
    rw [Below.heap_setCell w _ u g' hne]
    exact h5
set_option maxHeartbeats 2000000 in
set_option maxRecDepth 100000 in
theorem refDec4 {w : World} {B n c : Nat} {ao : Option Addr} {v : Value} {L : List Int} {V : Int} (hM : MineB w B v L) (hB : B ≤ w.heap.size) (hL : L.length ≤ 1099511627776) (A : NatA w ao n c V) (hn : n ≤ 3000) (hV : (natB V).length < 256) :
    Calls Tryz.prog 152 #[v, .agg #[.slice ao n c]] w fun e w' => ∃ v', e = .returned v' ∧ MineB w' B v' (L ++ cntd 1 (natB V)) ∧ Byt B w w' := by
  have b1 := below_alloc w (.cells #[.slice ao n c] 46)
  have x1 := (blk_new w [.slice ao n c] 46).cell (i := 0) rfl
  have t := refNat4 (mineB_keep hM b1) (Nat.le_trans hB b1.size) hL (A.keep b1) hn
  rw [decide_eq_true hV] at t
  have HB := hid3 b1
  have HV := hid3 hV
  clear b1 hV hM hB A
  generalize L ++ cntd 1 (natB V) = M at *
  go_enter Tryz.func152, Tryz.ntmps152
  go_wp2_with fail
  refine t.mono ?_
  rintro e w1 ⟨v1, rfl, hm, hb⟩
  have HM := hid3 (hm HV.out)
  have HY := hid3 ((Byt.of HB.out).trans hb)
  clear hm hb t
  go_wp2
  go_ret
  exact ⟨_, rfl, HM.out, HY.out⟩
set_option maxHeartbeats 2000000 in
set_option maxRecDepth 100000 in
theorem rd8 {w : World} {B n c : Nat} {ao : Option Addr} {v : Value} {L : List Int} {V : Int} (hM : MineB w B v L) (hB : B ≤ w.heap.size) (hL : L.length ≤ 1099511627776) (A : NatA w ao n c V) (hn : n ≤ 3000) :
    Calls Tryz.prog 104 #[v, .agg #[.slice ao n c]] w fun e w' => ∃ v', e = .returned v' ∧ MineB w' B v' (L ++ cntd 1 (natB (fit V))) ∧ Byt B w w' := by
  have b1 := below_alloc w (.cells #[.slice ao n c] 46)
  have k1 := blk_new w [.slice ao n c] 46
  have x1 := k1.cell (i := 0) rfl
  have hV0 := A.nonneg
  obtain ⟨b, o, l, h1, h2, h3, h4, hv⟩ := (A.keep b1).ex
  have t := refBytes_any ao n c b o l _ h1 (by omega) h3 h4
  rw [hv] at t
  have HA := hid3 (A.keep b1)
  have HM := hid3 (mineB_keep hM b1)
  have HZ := hid3 (Nat.le_trans hB b1.size)
  have HS := hid3 (Nat.lt_of_lt_of_le (Nat.lt_succ_self _) (Nat.le_of_eq (size_al w (.cells #[.slice ao n c] 46)).symm))
  have HK := hid3 k1
  have HB := hid3 b1
  have HV0 := hid3 hV0
  clear b1 k1 hM hB A h1 h2 h3 h4 hv hV0
  go_enter Tryz.func104, Tryz.ntmps104
  go_wp2_with fail
  refine t.mono ?_
  rintro e w1 ⟨v1, r, rfl, hM1, hI, -, hB1⟩
  obtain ⟨r1, c1, rfl⟩ := hM1.shape
  have hr : natB V = r := natB_unique HV0.out hI
  have HR := hid3 hr
  have y1 := (HK.out.keep hB1).cell (i := 0) rfl
  have HK1 := hid3 (HK.out.keep hB1)
  have HB2 := hid3 (joinB HB.out hB1)
  by_cases hlt : r.length < 256
  · have hq : ((255 : Int) < r.length) = False := eq_false (by omega)
    have e1 : fit V = V := by unfold fit; rw [if_pos (by rw [hr]; exact hlt)]
    have t2 := refDec4 (mineB_keep HM.out hB1) (Nat.le_trans HZ.out hB1.size) hL (HA.out.keep hB1) hn (by rw [hr]; exact hlt)
    have E1 := hid3 e1
    obtain ⟨M, hM⟩ : ∃ M, Hid (L ++ cntd 1 (natB V) = M) := ⟨_, rfl⟩
    rw [hM.out] at t2
    generalize r.length = q at *
    clear hM1 hI hB1 hr HR HM HA e1 HK HB t hlt
    go_wp2_with fail
    refine t2.mono ?_
    rintro e w2 ⟨v2, rfl, hm, hb⟩
    have FF := hid3 (show MineB w2 B v2 M ∧ Byt B w w2 from ⟨hm, (Byt.of HB2.out).trans hb⟩)
    clear hm hb t2
    go_wp2
    go_ret
    exact ⟨_, rfl, by rw [E1.out, hM.out]; exact FF.out.1, FF.out.2⟩
  · have hq : ((255 : Int) < r.length) = True := eq_true (by omega)
    have e1 : fit V = 0 := by unfold fit; rw [if_neg (by rw [hr]; exact hlt)]
    have S2 : Below w.heap.size w (w1.setCell ⟨w.heap.size, 0, none⟩ (.slice none 0 0)) := HB2.out.setCell (p := ⟨w.heap.size, 0, none⟩) (Nat.le_refl _) _
    have K2 := HK1.out.setCell (i := 0) (.slice none 0 0)
    have f1 := HK1.out.free 0
    have z1 := K2.cell (i := 0) (v := .slice none 0 0) rfl
    have M2 : MineB (w1.setCell ⟨w.heap.size, 0, none⟩ (.slice none 0 0)) B v L := by
      have u := mineB_keep HM.out hB1
      exact mineB_off u HK1.out (by decide) _
    have t2 := refDec4 M2 (Nat.le_trans HZ.out (Nat.le_trans hB1.size (by rw [size_set]; exact Nat.le_refl _))) hL (natO_nil (w1.setCell ⟨w.heap.size, 0, none⟩ (.slice none 0 0))).a (by omega) (by rw [natB_0]; decide)
    have E1 := hid3 e1
    obtain ⟨M, hM⟩ : ∃ M, Hid (L ++ cntd 1 (natB 0) = M) := ⟨_, rfl⟩
    rw [hM.out] at t2
    generalize r.length = q at *
    have HS2 := hid3 S2
    clear hM1 hI hB1 hr HR HM HA e1 HK HB t hlt S2 K2 M2 HK1
    go_wp2_with fail
    refine t2.mono ?_
    rintro e w2 ⟨v2, rfl, hm, hb⟩
    have FF := hid3 (show MineB w2 B v2 M ∧ Byt B w w2 from ⟨hm, (Byt.of HS2.out).trans hb⟩)
    clear hm hb t2
    go_wp2
    go_ret
    exact ⟨_, rfl, by rw [E1.out, hM.out]; exact FF.out.1, FF.out.2⟩
theorem Blk.byt {B : Nat} {w w' : World} {g : Nat} {cs : List Value} {t : TypeId} (h : Blk w g cs t) (b : Byt B w w') (ht : t ≠ 5) : Blk w' g cs t := ⟨by rw [b.typ g _ t _ h.blk ht]; exact h.blk⟩
set_option maxHeartbeats 2000000 in
set_option maxRecDepth 100000 in
theorem ru8 {w : World} {B lb : Nat} {v : Value} {L xs : List Int} (hM : MineB w B v L) (hB : B ≤ w.heap.size) (hX : Blk w lb (xs.map (Value.int .u64)) 22) (hL : L.length ≤ 1000000) (hx : xs.length ≤ 1000) :
    Calls Tryz.prog 38 #[v, .slice (some ⟨lb, 0, none⟩) xs.length xs.length] w fun e w' => ∃ v', e = .returned v' ∧ MineB w' B v' (L ++ xs.flatMap (be 8)) ∧ Byt B w w' := by
  have HM := hid3 hM
  have HB := hid3 hB
  have HX := hid3 hX
  have hlen : ∀ j, ((xs.take j).flatMap (be 8)).length ≤ 8 * xs.length := fun j => by
    rw [List.length_flatMap]
    have e : ∀ l : List Int, (l.map (fun a => (be 8 a).length)).sum = 8 * l.length := fun l => by
      induction l with
      | nil => rfl
      | cons a l ih => rw [List.map_cons, List.sum_cons, ih, be_length, List.length_cons]; omega
    rw [e, List.length_take]
    omega
  have HL := hid3 hlen
  obtain ⟨n, hn⟩ : ∃ n, xs.length = n := ⟨_, rfl⟩
  have HN := hid3 hn
  rw [hn]
  rw [hn] at hx
  clear hM hB hX hlen hn
  go_enter Tryz.func38, Tryz.ntmps38
  go_wp2_with fail
  go_loopw [0, 5] (fun tv ti wr => ∃ j : Nat, j ≤ n ∧ ti = .int .i64 j ∧ MineB wr B tv (L ++ (xs.take j).flatMap (be 8)) ∧ Byt B w wr) (fun _ ti _ => n - (intOf ti).toNat)
  case atStart => exact ⟨0, Nat.zero_le _, rfl, by rw [List.take_zero, List.flatMap_nil, List.append_nil]; exact HM.out, Byt.of (Below.refl _ _)⟩
  case round =>
    obtain ⟨j, hj, rfl, hMj, hBj⟩ := hrel
    by_cases hlt : j < n
    · have hlt' : (j : Int) < n := by omega
      obtain ⟨x, hxj⟩ : ∃ x, xs[j]? = some x := ⟨_, List.getElem?_eq_getElem (by rw [HN.out]; exact hlt)⟩
      have c1 := (Blk.byt HX.out hBj (by decide)).cell (i := j) (v := .int .u64 x) (by rw [List.getElem?_map, hxj]; rfl)
      have t := put_any (n := 8) (x := x) hMj (Nat.le_trans HB.out hBj.size) (by decide) (by
        have := HL.out j
        rw [List.length_append]
        rw [HN.out] at this
        omega)
      have HD : Hid ((L ++ (xs.take j).flatMap (be 8)) ++ be 8 x = L ++ (xs.take (j + 1)).flatMap (be 8)) := by
        show _ = _
        rw [List.take_add_one, hxj, List.flatMap_append, List.append_assoc]
        simp
      rw [HD.out] at t
      have HBj := hid3 hBj
      obtain ⟨M, hM⟩ : ∃ M, Hid (L ++ (xs.take (j + 1)).flatMap (be 8) = M) := ⟨_, rfl⟩
      rw [hM.out] at t
      clear hMj hBj hxj
      go_wp2_with fail
      refine t.mono ?_
      rintro e w2 ⟨v2, rfl, hm, hb⟩
      have FF := hid3 (show MineB w2 B v2 M ∧ Byt B w w2 from ⟨hm, HBj.out.trans hb⟩)
      clear hm hb t c1 HBj
      go_wp2
      refine ⟨⟨j + 1, by omega, by go_num, ?_, FF.out.2⟩, by simp [intOf]; omega⟩
      rw [hM.out]; exact FF.out.1
    · obtain rfl : j = n := by omega
      rw [← HN.out, List.take_length] at hMj
      have FF := hid3 (And.intro hMj hBj)
      clear hMj hBj
      go_wp2
      go_ret
      exact ⟨_, rfl, FF.out⟩
end Rc
end Go.Proofs.YtidnifmehnjipaaGreat
