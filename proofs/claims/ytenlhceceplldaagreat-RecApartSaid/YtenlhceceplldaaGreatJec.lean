/- Several texts, joined: RcG. -/
import Derived.Test.YtenlhceceplldaaGreatJeb
namespace Go.Proofs.YtenlhceceplldaaGreat
namespace Rc
open Go.RowKit Go.Lib Pg
attribute [local go_sem] Oper.semAt_some
abbrev RSt := Int × List Int × (Nat → Int)
def pBoolI (l : List Int) : Int ⊕ Int × Nat := match pBool l with
  | .inl e => .inl e
  | .inr p => .inr ((if p.1 then 1 else 0), p.2)
/-- what is read of a field -/
def p1 : Nat → List Int → Int ⊕ Int × Nat
  | 0, l => pFix 8 l
  | 1, l => pBoolI l
  | _, l => pNat l
theorem pBoolI_E (l : List Int) (err : Int) : rdE (pBoolI l) err = rdE (pBool l) err := by
  unfold rdE pBoolI
  cases pBool l <;> rfl
theorem pBoolI_L (l m : List Int) (err : Int) : rdL (pBoolI l) err m = rdL (pBool l) err m := by
  unfold rdL pBoolI
  cases pBool l <;> rfl
theorem pBoolI_V (l : List Int) (err : Int) : rdV 0 (pBoolI l) err = if rdV false (pBool l) err then 1 else 0 := by
  unfold rdV pBoolI
  by_cases h : err = 0
  · rw [if_pos h, if_pos h]
    cases pBool l <;> rfl
  · rw [if_neg h, if_neg h]
    rfl
def rnx (k o : Nat) (s : RSt) : RSt := (rdE (p1 k s.2.1) s.1, rdL (p1 k s.2.1) s.1 s.2.1, fun i => if i = o then rdV 0 (p1 k s.2.1) s.1 else s.2.2 i)
def FldR (w : World) (B : Nat) (kd : Nat → Nat) (cs : List Value) (xs : Nat → Int) : Prop := ∀ o, (kd o = 0 → cs[o]? = some (.int .u64 (xs o))) ∧ (kd o = 1 → ∃ b : Bool, cs[o]? = some (.bool b) ∧ xs o = if b then 1 else 0) ∧ (kd o = 2 → ∃ ao n c, cs[o]? = some (.slice ao n c) ∧ NatW w B ao n c (xs o) ∧ n ≤ 255)
theorem FldR.off {w w' : World} {B : Nat} {kd : Nat → Nat} {cs : List Value} {xs : Nat → Int} (h : FldR w B kd cs xs) (hs : w.heap.size ≤ w'.heap.size) (hw : ∀ b, B ≤ b → b < w.heap.size → w'.heap[b]? = w.heap[b]?) : FldR w' B kd cs xs := fun o => ⟨(h o).1, (h o).2.1, fun hk => by
  obtain ⟨ao, n, c, h1, h2, h3⟩ := (h o).2.2 hk
  exact ⟨ao, n, c, h1, h2.off hs hw, h3⟩⟩
structure RI (w0 : World) (B g b vb rb : Nat) (kd : Nat → Nat) (len : Nat) (T vt : TypeId) (s : RSt) (w : World) : Prop where
  rd : RdA w g b s.1 s.2.1
  var : Blk w vb [.pointer (some ⟨g, 0, none⟩)] vt
  rc : ∃ cs, cs.length = len ∧ Blk w rb cs T ∧ FldR w B kd cs s.2.2
  bel : Below w0.heap.size w0 w
  s1 : rb ≠ g
  s2 : vb ≠ g
  s3 : vb ≠ rb
  s4 : b ≠ rb
  g1 : g < B
  r1 : rb < B
  g0 : w0.heap.size ≤ g
  r0 : w0.heap.size ≤ rb
theorem but_set (w : World) (g o : Nat) (v : Value) : But g w (w.setCell ⟨g, o, none⟩ v) := by
  have h := (Chg.refl (fun x => x = g) w).cell (g := g) (i := o) (.inl rfl) v
  exact ⟨h.os, h.tape, h.output, h.size, fun b hb hne => h.same b hb hne⟩
/-- one field more is read -/
theorem RI.step {w0 w w1 : World} {B g b vb rb len o k : Nat} {kd : Nat → Nat} {T vt : TypeId} {s : RSt} {e1 : Int} {l1 : List Int} {v : Value} {x : Int} (h : RI w0 B g b vb rb kd len T vt s w) (ho : kd o = k) (hl : o < len) (X : RdA w1 g b e1 l1) (hB : But g w w1) (hv : (k = 0 ∧ v = .int .u64 x) ∨ (k = 1 ∧ ∃ t : Bool, v = .bool t ∧ x = if t then 1 else 0) ∨ (k = 2 ∧ ∃ ao n c, v = .slice ao n c ∧ NatW w1 B ao n c x ∧ n ≤ 255)) :
    RI w0 B g b vb rb kd len T vt (e1, l1, fun i => if i = o then x else s.2.2 i) (w1.setCell ⟨rb, o, none⟩ v) ∧ Chg (fun y => y = g ∨ y = rb) w (w1.setCell ⟨rb, o, none⟩ v) := by
  have hS := but_set w1 rb o v
  have h1 := h.s1
  have h3 := h.g1
  have h4 := h.r1
  have hc1 : Chg (· = g) w w1 := But.chg hB
  have hc2 : Chg (· = rb) w1 (w1.setCell ⟨rb, o, none⟩ v) := But.chg hS
  obtain ⟨cs, hcl, hcb, hF⟩ := h.rc
  have b1 : Below w0.heap.size w0 w1 := hB.below h.bel h.g0 (Nat.le_refl _)
  have off1 : ∀ y, B ≤ y → y < w.heap.size → w1.heap[y]? = w.heap[y]? := fun y hy hy2 => hB.block y hy2 (by omega)
  have off2 : ∀ y, B ≤ y → y < w1.heap.size → (w1.setCell ⟨rb, o, none⟩ v).heap[y]? = w1.heap[y]? := fun y hy hy2 => hS.block y hy2 (by omega)
  refine ⟨⟨X.offW (fun e => h1 e.symm) h.s4 hS, (h.var.chg hc1 h.s2).chg hc2 h.s3, ⟨cs.set o v, by rw [List.length_set]; exact hcl, (hcb.chg hc1 h1).setCell (i := o) v, ?_⟩, hS.below b1 h.r0 (Nat.le_refl _), h.s1, h.s2, h.s3, h.s4, h.g1, h.r1, h.g0, h.r0⟩, (hc1.mono (fun _ _ e => .inl e)).trans hc2 (fun _ _ e => .inr e)⟩
  have hF1 := hF.off hB.size off1
  intro i
  by_cases hi : i = o
  · subst hi
    have hget : (cs.set i v)[i]? = some v := by rw [List.getElem?_set_self (by omega)]
    rw [hget]
    simp only [if_true]
    refine ⟨fun hk => ?_, fun hk => ?_, fun hk => ?_⟩
    · rcases hv with ⟨_, e⟩ | ⟨e, _⟩ | ⟨e, _⟩
      · rw [e]
      · omega
      · omega
    · rcases hv with ⟨e, _⟩ | ⟨_, t, e, e2⟩ | ⟨e, _⟩
      · omega
      · exact ⟨t, by rw [e], e2⟩
      · omega
    · rcases hv with ⟨e, _⟩ | ⟨e, _⟩ | ⟨_, ao, n, c, e, e2, e3⟩
      · omega
      · omega
      · exact ⟨ao, n, c, by rw [e], e2.off hS.size off2, e3⟩
  · have hget : (cs.set o v)[i]? = cs[i]? := by rw [List.getElem?_set_ne (fun e => hi e.symm)]
    simp only [if_neg hi]
    rw [hget]
    exact (hF1.off hS.size off2) i
set_option maxRecDepth 100000 in
theorem rn_Params {w : World} {g b vb rb o : Nat} {err : Int} {l : List Int} {cs : List Value} {T vt : TypeId} {old : Value} (X : RdA w g b err l) (V : Blk w vb [.pointer (some ⟨g, 0, none⟩)] vt) (R : Blk w rb cs T) (hr : rb ≠ g) (ho : cs[o]? = some old) (hold : ∃ y, old = .int .u64 y) :
    Calls Tryz.prog 179 #[.pointer (some ⟨rb, o, none⟩), .pointer (some ⟨vb, 0, none⟩)] w fun e w' => e = .returned (.tuple #[]) ∧ ∃ w1, w' = w1.setCell ⟨rb, o, none⟩ (.int .u64 (rdV 0 (p1 0 l) err)) ∧ RdA w1 g b (rdE (p1 0 l) err) (rdL (p1 0 l) err l) ∧ But g w w1 := by
  obtain ⟨y, rfl⟩ := hold
  have t := rdU64 X
  show Calls Tryz.prog _ _ w fun e w' => e = .returned (.tuple #[]) ∧ ∃ w1, w' = w1.setCell ⟨rb, o, none⟩ (.int .u64 (rdV 0 (pFix 8 l) err)) ∧ RdA w1 g b (rdE (pFix 8 l) err) (rdL (pFix 8 l) err l) ∧ But g w w1
  generalize rdV 0 (pFix 8 l) err = Y at *
  generalize rdE (pFix 8 l) err = E at *
  generalize rdL (pFix 8 l) err l = Rl at *
  have cv := V.cell (i := 0) rfl
  have HR := hid3 R
  have HNE := hid3 hr
  have HO := hid3 ho
  clear X V R ho hr
  go_enter Tryz.func179, Tryz.ntmps179
  go_wp2_with (go_at_call 155; refine t.mono ?_; rintro e' w1 ⟨rfl, X1, B1⟩; clear t; have R1 := HR.out.chg (But.chg B1) HNE.out; have cr := R1.cell HO.out; have fr := R1.free o; clear R1; replace X1 := hid3 X1)
  go_end0
  exact ⟨rfl, w1, rfl, X1.out, B1⟩
set_option maxRecDepth 100000 in
theorem rt_Params {w : World} {g b vb rb o : Nat} {err : Int} {l : List Int} {cs : List Value} {T vt : TypeId} {old : Value} (X : RdA w g b err l) (V : Blk w vb [.pointer (some ⟨g, 0, none⟩)] vt) (R : Blk w rb cs T) (hr : rb ≠ g) (ho : cs[o]? = some old) (hold : ∃ y, old = .bool y) :
    Calls Tryz.prog 180 #[.pointer (some ⟨rb, o, none⟩), .pointer (some ⟨vb, 0, none⟩)] w fun e w' => e = .returned (.tuple #[]) ∧ ∃ w1, w' = w1.setCell ⟨rb, o, none⟩ (.bool (rdV false (pBool l) err)) ∧ RdA w1 g b (rdE (p1 1 l) err) (rdL (p1 1 l) err l) ∧ But g w w1 := by
  obtain ⟨y, rfl⟩ := hold
  have t := rdBool X
  show Calls Tryz.prog _ _ w fun e w' => e = .returned (.tuple #[]) ∧ ∃ w1, w' = w1.setCell ⟨rb, o, none⟩ (.bool (rdV false (pBool l) err)) ∧ RdA w1 g b (rdE (pBoolI l) err) (rdL (pBoolI l) err l) ∧ But g w w1
  rw [pBoolI_E, pBoolI_L]
  generalize rdV false (pBool l) err = Y at *
  generalize rdE (pBool l) err = E at *
  generalize rdL (pBool l) err l = Rl at *
  have cv := V.cell (i := 0) rfl
  have HR := hid3 R
  have HNE := hid3 hr
  have HO := hid3 ho
  clear X V R ho hr
  go_enter Tryz.func180, Tryz.ntmps180
  go_wp2_with (go_at_call 157; refine t.mono ?_; rintro e' w1 ⟨rfl, X1, B1⟩; clear t; have R1 := HR.out.chg (But.chg B1) HNE.out; have cr := R1.cell HO.out; have fr := R1.free o; clear R1; replace X1 := hid3 X1)
  go_end0
  exact ⟨rfl, w1, rfl, X1.out, B1⟩
set_option maxRecDepth 100000 in
theorem rd_Params {w : World} {g b vb rb o : Nat} {err : Int} {l : List Int} {cs : List Value} {T vt : TypeId} {old : Value} (X : RdA w g b err l) (V : Blk w vb [.pointer (some ⟨g, 0, none⟩)] vt) (R : Blk w rb cs T) (hr : rb ≠ g) (ho : cs[o]? = some old) (hold : ∃ a n c, old = .slice a n c) :
    Calls Tryz.prog 181 #[.pointer (some ⟨rb, o, none⟩), .pointer (some ⟨vb, 0, none⟩)] w fun e w' => e = .returned (.tuple #[]) ∧ ∃ w1 ao n c, w' = w1.setCell ⟨rb, o, none⟩ (.slice ao n c) ∧ NatW w1 w.heap.size ao n c (rdV 0 (p1 2 l) err) ∧ n ≤ 255 ∧ RdA w1 g b (rdE (p1 2 l) err) (rdL (p1 2 l) err l) ∧ But g w w1 := by
  obtain ⟨oa, on, oc, rfl⟩ := hold
  have t := rdDecW X
  show Calls Tryz.prog _ _ w fun e w' => e = .returned (.tuple #[]) ∧ ∃ w1 ao n c, w' = w1.setCell ⟨rb, o, none⟩ (.slice ao n c) ∧ NatW w1 w.heap.size ao n c (rdV 0 (pNat l) err) ∧ n ≤ 255 ∧ RdA w1 g b (rdE (pNat l) err) (rdL (pNat l) err l) ∧ But g w w1
  generalize rdV 0 (pNat l) err = Y at *
  generalize rdE (pNat l) err = E at *
  generalize rdL (pNat l) err l = Rl at *
  have cv := V.cell (i := 0) rfl
  have HR := hid3 R
  have HNE := hid3 hr
  have HO := hid3 ho
  clear X V R ho hr
  go_enter Tryz.func181, Tryz.ntmps181
  go_wp2_with (go_at_call 159; refine t.mono ?_; rintro e' w1 ⟨a1, n1, d1, rfl, N1, hn1, X1, B1⟩; clear t; have R1 := HR.out.chg (But.chg B1) HNE.out; have cr := R1.cell HO.out; have fr := R1.free o; clear R1; replace X1 := hid3 X1)
  go_end0
  exact ⟨rfl, w1, a1, n1, d1, rfl, N1, hn1, X1.out, B1⟩
theorem kl_Params {o k : Nat} (h : kd_Params o = k) (hk : k ≠ 9) : o < 10 := by
  by_cases ho : o < 10
  · exact ho
  · exfalso
    have : kd_Params o = 9 := by
      unfold kd_Params
      rw [List.getD_eq_getElem?_getD, List.getElem?_eq_none (by simp; omega)]
      rfl
    omega
theorem rhc_Params {w0 : World} {B g b vb rb : Nat} {T vt : TypeId} : HC RSt (fun s w => RI w0 B g b vb rb kd_Params 10 T vt s w ∧ B ≤ w.heap.size) (fun y => y = g ∨ y = rb) rb 179 180 181 (.pointer (some ⟨vb, 0, none⟩)) rnx kd_Params (fun _ => True) where
  oks := fun _ _ _ _ => trivial
  keep := fun s w w' h Bl => by
    obtain ⟨h, hB⟩ := h
    obtain ⟨cs, h1, h2, h3⟩ := h.rc
    exact ⟨⟨h.rd.keep Bl, h.var.keep Bl, ⟨cs, h1, h2.keep Bl, h3.off Bl.size (fun y _ hy => Bl.block y hy)⟩, h.bel.trans (Bl.mono h.bel.size), h.s1, h.s2, h.s3, h.s4, h.g1, h.r1, h.g0, h.r0⟩, Nat.le_trans hB Bl.size⟩
  old := fun s w y h e => by
    have := h.1.g1
    have := h.1.r1
    have := h.2
    rcases e with e | e <;> omega
  e1 := fun _ _ => by kernel_rfl
  e2 := fun _ _ => by kernel_rfl
  e3 := fun _ _ => by kernel_rfl
  u := fun s w o h _ hk => by
    obtain ⟨h, hB⟩ := h
    obtain ⟨cs, h1, h2, h3⟩ := h.rc
    refine (rn_Params h.rd h.var h2 h.s1 ((h3 o).1 hk) ⟨_, rfl⟩).mono ?_
    rintro e w' ⟨rfl, w1, rfl, X, Bu⟩
    obtain ⟨r1, r2⟩ := h.step hk (kl_Params hk (by decide)) X Bu (.inl ⟨rfl, rfl⟩)
    exact ⟨rfl, ⟨r1, Nat.le_trans hB r2.size⟩, r2⟩
  t := fun s w o h _ hk => by
    obtain ⟨h, hB⟩ := h
    obtain ⟨cs, h1, h2, h3⟩ := h.rc
    obtain ⟨t, ht, _⟩ := (h3 o).2.1 hk
    refine (rt_Params h.rd h.var h2 h.s1 ht ⟨_, rfl⟩).mono ?_
    rintro e w' ⟨rfl, w1, rfl, X, Bu⟩
    obtain ⟨r1, r2⟩ := h.step hk (kl_Params hk (by decide)) X Bu (x := rdV 0 (p1 1 s.2.1) s.1) (.inr (.inl ⟨rfl, _, rfl, pBoolI_V _ _⟩))
    exact ⟨rfl, ⟨r1, Nat.le_trans hB r2.size⟩, r2⟩
  d := fun s w o h _ hk => by
    obtain ⟨h, hB⟩ := h
    obtain ⟨cs, h1, h2, h3⟩ := h.rc
    obtain ⟨ao, n, c, ht, _⟩ := (h3 o).2.2 hk
    refine (rd_Params h.rd h.var h2 h.s1 ht ⟨_, _, _, rfl⟩).mono ?_
    rintro e w' ⟨rfl, w1, a1, n1, c1, rfl, hN, hn, X, Bu⟩
    obtain ⟨r1, r2⟩ := h.step hk (kl_Params hk (by decide)) X Bu (x := rdV 0 (p1 2 s.2.1) s.1) (.inr (.inr ⟨rfl, _, _, _, rfl, hN.low hB, hn⟩))
    exact ⟨rfl, ⟨r1, Nat.le_trans hB r2.size⟩, r2⟩
set_option maxRecDepth 100000 in
theorem rn_Chain {w : World} {g b vb rb o : Nat} {err : Int} {l : List Int} {cs : List Value} {T vt : TypeId} {old : Value} (X : RdA w g b err l) (V : Blk w vb [.pointer (some ⟨g, 0, none⟩)] vt) (R : Blk w rb cs T) (hr : rb ≠ g) (ho : cs[o]? = some old) (hold : ∃ y, old = .int .u64 y) :
    Calls Tryz.prog 184 #[.pointer (some ⟨rb, o, none⟩), .pointer (some ⟨vb, 0, none⟩)] w fun e w' => e = .returned (.tuple #[]) ∧ ∃ w1, w' = w1.setCell ⟨rb, o, none⟩ (.int .u64 (rdV 0 (p1 0 l) err)) ∧ RdA w1 g b (rdE (p1 0 l) err) (rdL (p1 0 l) err l) ∧ But g w w1 := by
  obtain ⟨y, rfl⟩ := hold
  have t := rdU64 X
  show Calls Tryz.prog _ _ w fun e w' => e = .returned (.tuple #[]) ∧ ∃ w1, w' = w1.setCell ⟨rb, o, none⟩ (.int .u64 (rdV 0 (pFix 8 l) err)) ∧ RdA w1 g b (rdE (pFix 8 l) err) (rdL (pFix 8 l) err l) ∧ But g w w1
  generalize rdV 0 (pFix 8 l) err = Y at *
  generalize rdE (pFix 8 l) err = E at *
  generalize rdL (pFix 8 l) err l = Rl at *
  have cv := V.cell (i := 0) rfl
  have HR := hid3 R
  have HNE := hid3 hr
  have HO := hid3 ho
  clear X V R ho hr
  go_enter Tryz.func184, Tryz.ntmps184
  go_wp2_with (go_at_call 155; refine t.mono ?_; rintro e' w1 ⟨rfl, X1, B1⟩; clear t; have R1 := HR.out.chg (But.chg B1) HNE.out; have cr := R1.cell HO.out; have fr := R1.free o; clear R1; replace X1 := hid3 X1)
  go_end0
  exact ⟨rfl, w1, rfl, X1.out, B1⟩
set_option maxRecDepth 100000 in
theorem rt_Chain {w : World} {g b vb rb o : Nat} {err : Int} {l : List Int} {cs : List Value} {T vt : TypeId} {old : Value} (X : RdA w g b err l) (V : Blk w vb [.pointer (some ⟨g, 0, none⟩)] vt) (R : Blk w rb cs T) (hr : rb ≠ g) (ho : cs[o]? = some old) (hold : ∃ y, old = .bool y) :
    Calls Tryz.prog 185 #[.pointer (some ⟨rb, o, none⟩), .pointer (some ⟨vb, 0, none⟩)] w fun e w' => e = .returned (.tuple #[]) ∧ ∃ w1, w' = w1.setCell ⟨rb, o, none⟩ (.bool (rdV false (pBool l) err)) ∧ RdA w1 g b (rdE (p1 1 l) err) (rdL (p1 1 l) err l) ∧ But g w w1 := by
  obtain ⟨y, rfl⟩ := hold
  have t := rdBool X
  show Calls Tryz.prog _ _ w fun e w' => e = .returned (.tuple #[]) ∧ ∃ w1, w' = w1.setCell ⟨rb, o, none⟩ (.bool (rdV false (pBool l) err)) ∧ RdA w1 g b (rdE (pBoolI l) err) (rdL (pBoolI l) err l) ∧ But g w w1
  rw [pBoolI_E, pBoolI_L]
  generalize rdV false (pBool l) err = Y at *
  generalize rdE (pBool l) err = E at *
  generalize rdL (pBool l) err l = Rl at *
  have cv := V.cell (i := 0) rfl
  have HR := hid3 R
  have HNE := hid3 hr
  have HO := hid3 ho
  clear X V R ho hr
  go_enter Tryz.func185, Tryz.ntmps185
  go_wp2_with (go_at_call 157; refine t.mono ?_; rintro e' w1 ⟨rfl, X1, B1⟩; clear t; have R1 := HR.out.chg (But.chg B1) HNE.out; have cr := R1.cell HO.out; have fr := R1.free o; clear R1; replace X1 := hid3 X1)
  go_end0
  exact ⟨rfl, w1, rfl, X1.out, B1⟩
set_option maxRecDepth 100000 in
theorem rd_Chain {w : World} {g b vb rb o : Nat} {err : Int} {l : List Int} {cs : List Value} {T vt : TypeId} {old : Value} (X : RdA w g b err l) (V : Blk w vb [.pointer (some ⟨g, 0, none⟩)] vt) (R : Blk w rb cs T) (hr : rb ≠ g) (ho : cs[o]? = some old) (hold : ∃ a n c, old = .slice a n c) :
    Calls Tryz.prog 186 #[.pointer (some ⟨rb, o, none⟩), .pointer (some ⟨vb, 0, none⟩)] w fun e w' => e = .returned (.tuple #[]) ∧ ∃ w1 ao n c, w' = w1.setCell ⟨rb, o, none⟩ (.slice ao n c) ∧ NatW w1 w.heap.size ao n c (rdV 0 (p1 2 l) err) ∧ n ≤ 255 ∧ RdA w1 g b (rdE (p1 2 l) err) (rdL (p1 2 l) err l) ∧ But g w w1 := by
  obtain ⟨oa, on, oc, rfl⟩ := hold
  have t := rdDecW X
  show Calls Tryz.prog _ _ w fun e w' => e = .returned (.tuple #[]) ∧ ∃ w1 ao n c, w' = w1.setCell ⟨rb, o, none⟩ (.slice ao n c) ∧ NatW w1 w.heap.size ao n c (rdV 0 (pNat l) err) ∧ n ≤ 255 ∧ RdA w1 g b (rdE (pNat l) err) (rdL (pNat l) err l) ∧ But g w w1
  generalize rdV 0 (pNat l) err = Y at *
  generalize rdE (pNat l) err = E at *
  generalize rdL (pNat l) err l = Rl at *
  have cv := V.cell (i := 0) rfl
  have HR := hid3 R
  have HNE := hid3 hr
  have HO := hid3 ho
  clear X V R ho hr
  go_enter Tryz.func186, Tryz.ntmps186
  go_wp2_with (go_at_call 159; refine t.mono ?_; rintro e' w1 ⟨a1, n1, d1, rfl, N1, hn1, X1, B1⟩; clear t; have R1 := HR.out.chg (But.chg B1) HNE.out; have cr := R1.cell HO.out; have fr := R1.free o; clear R1; replace X1 := hid3 X1)
  go_end0
  exact ⟨rfl, w1, a1, n1, d1, rfl, N1, hn1, X1.out, B1⟩
theorem kl_Chain {o k : Nat} (h : kd_Chain o = k) (hk : k ≠ 9) : o < 2 := by
  by_cases ho : o < 2
  · exact ho
  · exfalso
    have : kd_Chain o = 9 := by
      unfold kd_Chain
      rw [List.getD_eq_getElem?_getD, List.getElem?_eq_none (by simp; omega)]
      rfl
    omega
theorem rhc_Chain {w0 : World} {B g b vb rb : Nat} {T vt : TypeId} : HC RSt (fun s w => RI w0 B g b vb rb kd_Chain 2 T vt s w ∧ B ≤ w.heap.size) (fun y => y = g ∨ y = rb) rb 184 185 186 (.pointer (some ⟨vb, 0, none⟩)) rnx kd_Chain (fun _ => True) where
  oks := fun _ _ _ _ => trivial
  keep := fun s w w' h Bl => by
    obtain ⟨h, hB⟩ := h
    obtain ⟨cs, h1, h2, h3⟩ := h.rc
    exact ⟨⟨h.rd.keep Bl, h.var.keep Bl, ⟨cs, h1, h2.keep Bl, h3.off Bl.size (fun y _ hy => Bl.block y hy)⟩, h.bel.trans (Bl.mono h.bel.size), h.s1, h.s2, h.s3, h.s4, h.g1, h.r1, h.g0, h.r0⟩, Nat.le_trans hB Bl.size⟩
  old := fun s w y h e => by
    have := h.1.g1
    have := h.1.r1
    have := h.2
    rcases e with e | e <;> omega
  e1 := fun _ _ => by kernel_rfl
  e2 := fun _ _ => by kernel_rfl
  e3 := fun _ _ => by kernel_rfl
  u := fun s w o h _ hk => by
    obtain ⟨h, hB⟩ := h
    obtain ⟨cs, h1, h2, h3⟩ := h.rc
    refine (rn_Chain h.rd h.var h2 h.s1 ((h3 o).1 hk) ⟨_, rfl⟩).mono ?_
    rintro e w' ⟨rfl, w1, rfl, X, Bu⟩
    obtain ⟨r1, r2⟩ := h.step hk (kl_Chain hk (by decide)) X Bu (.inl ⟨rfl, rfl⟩)
    exact ⟨rfl, ⟨r1, Nat.le_trans hB r2.size⟩, r2⟩
  t := fun s w o h _ hk => by
    obtain ⟨h, hB⟩ := h
    obtain ⟨cs, h1, h2, h3⟩ := h.rc
    obtain ⟨t, ht, _⟩ := (h3 o).2.1 hk
    refine (rt_Chain h.rd h.var h2 h.s1 ht ⟨_, rfl⟩).mono ?_
    rintro e w' ⟨rfl, w1, rfl, X, Bu⟩
    obtain ⟨r1, r2⟩ := h.step hk (kl_Chain hk (by decide)) X Bu (x := rdV 0 (p1 1 s.2.1) s.1) (.inr (.inl ⟨rfl, _, rfl, pBoolI_V _ _⟩))
    exact ⟨rfl, ⟨r1, Nat.le_trans hB r2.size⟩, r2⟩
  d := fun s w o h _ hk => by
    obtain ⟨h, hB⟩ := h
    obtain ⟨cs, h1, h2, h3⟩ := h.rc
    obtain ⟨ao, n, c, ht, _⟩ := (h3 o).2.2 hk
    refine (rd_Chain h.rd h.var h2 h.s1 ht ⟨_, _, _, rfl⟩).mono ?_
    rintro e w' ⟨rfl, w1, a1, n1, c1, rfl, hN, hn, X, Bu⟩
    obtain ⟨r1, r2⟩ := h.step hk (kl_Chain hk (by decide)) X Bu (x := rdV 0 (p1 2 s.2.1) s.1) (.inr (.inr ⟨rfl, _, _, _, rfl, hN.low hB, hn⟩))
    exact ⟨rfl, ⟨r1, Nat.le_trans hB r2.size⟩, r2⟩
set_option maxRecDepth 100000 in
theorem rn_Pool {w : World} {g b vb rb o : Nat} {err : Int} {l : List Int} {cs : List Value} {T vt : TypeId} {old : Value} (X : RdA w g b err l) (V : Blk w vb [.pointer (some ⟨g, 0, none⟩)] vt) (R : Blk w rb cs T) (hr : rb ≠ g) (ho : cs[o]? = some old) (hold : ∃ y, old = .int .u64 y) :
    Calls Tryz.prog 187 #[.pointer (some ⟨rb, o, none⟩), .pointer (some ⟨vb, 0, none⟩)] w fun e w' => e = .returned (.tuple #[]) ∧ ∃ w1, w' = w1.setCell ⟨rb, o, none⟩ (.int .u64 (rdV 0 (p1 0 l) err)) ∧ RdA w1 g b (rdE (p1 0 l) err) (rdL (p1 0 l) err l) ∧ But g w w1 := by
  obtain ⟨y, rfl⟩ := hold
  have t := rdU64 X
  show Calls Tryz.prog _ _ w fun e w' => e = .returned (.tuple #[]) ∧ ∃ w1, w' = w1.setCell ⟨rb, o, none⟩ (.int .u64 (rdV 0 (pFix 8 l) err)) ∧ RdA w1 g b (rdE (pFix 8 l) err) (rdL (pFix 8 l) err l) ∧ But g w w1
  generalize rdV 0 (pFix 8 l) err = Y at *
  generalize rdE (pFix 8 l) err = E at *
  generalize rdL (pFix 8 l) err l = Rl at *
  have cv := V.cell (i := 0) rfl
  have HR := hid3 R
  have HNE := hid3 hr
  have HO := hid3 ho
  clear X V R ho hr
  go_enter Tryz.func187, Tryz.ntmps187
  go_wp2_with (go_at_call 155; refine t.mono ?_; rintro e' w1 ⟨rfl, X1, B1⟩; clear t; have R1 := HR.out.chg (But.chg B1) HNE.out; have cr := R1.cell HO.out; have fr := R1.free o; clear R1; replace X1 := hid3 X1)
  go_end0
  exact ⟨rfl, w1, rfl, X1.out, B1⟩
set_option maxRecDepth 100000 in
theorem rt_Pool {w : World} {g b vb rb o : Nat} {err : Int} {l : List Int} {cs : List Value} {T vt : TypeId} {old : Value} (X : RdA w g b err l) (V : Blk w vb [.pointer (some ⟨g, 0, none⟩)] vt) (R : Blk w rb cs T) (hr : rb ≠ g) (ho : cs[o]? = some old) (hold : ∃ y, old = .bool y) :
    Calls Tryz.prog 188 #[.pointer (some ⟨rb, o, none⟩), .pointer (some ⟨vb, 0, none⟩)] w fun e w' => e = .returned (.tuple #[]) ∧ ∃ w1, w' = w1.setCell ⟨rb, o, none⟩ (.bool (rdV false (pBool l) err)) ∧ RdA w1 g b (rdE (p1 1 l) err) (rdL (p1 1 l) err l) ∧ But g w w1 := by
  obtain ⟨y, rfl⟩ := hold
  have t := rdBool X
  show Calls Tryz.prog _ _ w fun e w' => e = .returned (.tuple #[]) ∧ ∃ w1, w' = w1.setCell ⟨rb, o, none⟩ (.bool (rdV false (pBool l) err)) ∧ RdA w1 g b (rdE (pBoolI l) err) (rdL (pBoolI l) err l) ∧ But g w w1
  rw [pBoolI_E, pBoolI_L]
  generalize rdV false (pBool l) err = Y at *
  generalize rdE (pBool l) err = E at *
  generalize rdL (pBool l) err l = Rl at *
  have cv := V.cell (i := 0) rfl
  have HR := hid3 R
  have HNE := hid3 hr
  have HO := hid3 ho
  clear X V R ho hr
  go_enter Tryz.func188, Tryz.ntmps188
  go_wp2_with (go_at_call 157; refine t.mono ?_; rintro e' w1 ⟨rfl, X1, B1⟩; clear t; have R1 := HR.out.chg (But.chg B1) HNE.out; have cr := R1.cell HO.out; have fr := R1.free o; clear R1; replace X1 := hid3 X1)
  go_end0
  exact ⟨rfl, w1, rfl, X1.out, B1⟩
set_option maxRecDepth 100000 in
theorem rd_Pool {w : World} {g b vb rb o : Nat} {err : Int} {l : List Int} {cs : List Value} {T vt : TypeId} {old : Value} (X : RdA w g b err l) (V : Blk w vb [.pointer (some ⟨g, 0, none⟩)] vt) (R : Blk w rb cs T) (hr : rb ≠ g) (ho : cs[o]? = some old) (hold : ∃ a n c, old = .slice a n c) :
    Calls Tryz.prog 189 #[.pointer (some ⟨rb, o, none⟩), .pointer (some ⟨vb, 0, none⟩)] w fun e w' => e = .returned (.tuple #[]) ∧ ∃ w1 ao n c, w' = w1.setCell ⟨rb, o, none⟩ (.slice ao n c) ∧ NatW w1 w.heap.size ao n c (rdV 0 (p1 2 l) err) ∧ n ≤ 255 ∧ RdA w1 g b (rdE (p1 2 l) err) (rdL (p1 2 l) err l) ∧ But g w w1 := by
  obtain ⟨oa, on, oc, rfl⟩ := hold
  have t := rdDecW X
  show Calls Tryz.prog _ _ w fun e w' => e = .returned (.tuple #[]) ∧ ∃ w1 ao n c, w' = w1.setCell ⟨rb, o, none⟩ (.slice ao n c) ∧ NatW w1 w.heap.size ao n c (rdV 0 (pNat l) err) ∧ n ≤ 255 ∧ RdA w1 g b (rdE (pNat l) err) (rdL (pNat l) err l) ∧ But g w w1
  generalize rdV 0 (pNat l) err = Y at *
  generalize rdE (pNat l) err = E at *
  generalize rdL (pNat l) err l = Rl at *
  have cv := V.cell (i := 0) rfl
  have HR := hid3 R
  have HNE := hid3 hr
  have HO := hid3 ho
  clear X V R ho hr
  go_enter Tryz.func189, Tryz.ntmps189
  go_wp2_with (go_at_call 159; refine t.mono ?_; rintro e' w1 ⟨a1, n1, d1, rfl, N1, hn1, X1, B1⟩; clear t; have R1 := HR.out.chg (But.chg B1) HNE.out; have cr := R1.cell HO.out; have fr := R1.free o; clear R1; replace X1 := hid3 X1)
  go_end0
  exact ⟨rfl, w1, a1, n1, d1, rfl, N1, hn1, X1.out, B1⟩
theorem kl_Pool {o k : Nat} (h : kd_Pool o = k) (hk : k ≠ 9) : o < 1 := by
  by_cases ho : o < 1
  · exact ho
  · exfalso
    have : kd_Pool o = 9 := by
      unfold kd_Pool
      rw [List.getD_eq_getElem?_getD, List.getElem?_eq_none (by simp; omega)]
      rfl
    omega
theorem rhc_Pool {w0 : World} {B g b vb rb : Nat} {T vt : TypeId} : HC RSt (fun s w => RI w0 B g b vb rb kd_Pool 1 T vt s w ∧ B ≤ w.heap.size) (fun y => y = g ∨ y = rb) rb 187 188 189 (.pointer (some ⟨vb, 0, none⟩)) rnx kd_Pool (fun _ => True) where
  oks := fun _ _ _ _ => trivial
  keep := fun s w w' h Bl => by
    obtain ⟨h, hB⟩ := h
    obtain ⟨cs, h1, h2, h3⟩ := h.rc
    exact ⟨⟨h.rd.keep Bl, h.var.keep Bl, ⟨cs, h1, h2.keep Bl, h3.off Bl.size (fun y _ hy => Bl.block y hy)⟩, h.bel.trans (Bl.mono h.bel.size), h.s1, h.s2, h.s3, h.s4, h.g1, h.r1, h.g0, h.r0⟩, Nat.le_trans hB Bl.size⟩
  old := fun s w y h e => by
    have := h.1.g1
    have := h.1.r1
    have := h.2
    rcases e with e | e <;> omega
  e1 := fun _ _ => by kernel_rfl
  e2 := fun _ _ => by kernel_rfl
  e3 := fun _ _ => by kernel_rfl
  u := fun s w o h _ hk => by
    obtain ⟨h, hB⟩ := h
    obtain ⟨cs, h1, h2, h3⟩ := h.rc
    refine (rn_Pool h.rd h.var h2 h.s1 ((h3 o).1 hk) ⟨_, rfl⟩).mono ?_
    rintro e w' ⟨rfl, w1, rfl, X, Bu⟩
    obtain ⟨r1, r2⟩ := h.step hk (kl_Pool hk (by decide)) X Bu (.inl ⟨rfl, rfl⟩)
    exact ⟨rfl, ⟨r1, Nat.le_trans hB r2.size⟩, r2⟩
  t := fun s w o h _ hk => by
    obtain ⟨h, hB⟩ := h
    obtain ⟨cs, h1, h2, h3⟩ := h.rc
    obtain ⟨t, ht, _⟩ := (h3 o).2.1 hk
    refine (rt_Pool h.rd h.var h2 h.s1 ht ⟨_, rfl⟩).mono ?_
    rintro e w' ⟨rfl, w1, rfl, X, Bu⟩
    obtain ⟨r1, r2⟩ := h.step hk (kl_Pool hk (by decide)) X Bu (x := rdV 0 (p1 1 s.2.1) s.1) (.inr (.inl ⟨rfl, _, rfl, pBoolI_V _ _⟩))
    exact ⟨rfl, ⟨r1, Nat.le_trans hB r2.size⟩, r2⟩
  d := fun s w o h _ hk => by
    obtain ⟨h, hB⟩ := h
    obtain ⟨cs, h1, h2, h3⟩ := h.rc
    obtain ⟨ao, n, c, ht, _⟩ := (h3 o).2.2 hk
    refine (rd_Pool h.rd h.var h2 h.s1 ht ⟨_, _, _, rfl⟩).mono ?_
    rintro e w' ⟨rfl, w1, a1, n1, c1, rfl, hN, hn, X, Bu⟩
    obtain ⟨r1, r2⟩ := h.step hk (kl_Pool hk (by decide)) X Bu (x := rdV 0 (p1 2 s.2.1) s.1) (.inr (.inr ⟨rfl, _, _, _, rfl, hN.low hB, hn⟩))
    exact ⟨rfl, ⟨r1, Nat.le_trans hB r2.size⟩, r2⟩
set_option maxRecDepth 100000 in
theorem rn_Account {w : World} {g b vb rb o : Nat} {err : Int} {l : List Int} {cs : List Value} {T vt : TypeId} {old : Value} (X : RdA w g b err l) (V : Blk w vb [.pointer (some ⟨g, 0, none⟩)] vt) (R : Blk w rb cs T) (hr : rb ≠ g) (ho : cs[o]? = some old) (hold : ∃ y, old = .int .u64 y) :
    Calls Tryz.prog 161 #[.pointer (some ⟨rb, o, none⟩), .pointer (some ⟨vb, 0, none⟩)] w fun e w' => e = .returned (.tuple #[]) ∧ ∃ w1, w' = w1.setCell ⟨rb, o, none⟩ (.int .u64 (rdV 0 (p1 0 l) err)) ∧ RdA w1 g b (rdE (p1 0 l) err) (rdL (p1 0 l) err l) ∧ But g w w1 := by
  obtain ⟨y, rfl⟩ := hold
  have t := rdU64 X
  show Calls Tryz.prog _ _ w fun e w' => e = .returned (.tuple #[]) ∧ ∃ w1, w' = w1.setCell ⟨rb, o, none⟩ (.int .u64 (rdV 0 (pFix 8 l) err)) ∧ RdA w1 g b (rdE (pFix 8 l) err) (rdL (pFix 8 l) err l) ∧ But g w w1
  generalize rdV 0 (pFix 8 l) err = Y at *
  generalize rdE (pFix 8 l) err = E at *
  generalize rdL (pFix 8 l) err l = Rl at *
  have cv := V.cell (i := 0) rfl
  have HR := hid3 R
  have HNE := hid3 hr
  have HO := hid3 ho
  clear X V R ho hr
  go_enter Tryz.func161, Tryz.ntmps161
  go_wp2_with (go_at_call 155; refine t.mono ?_; rintro e' w1 ⟨rfl, X1, B1⟩; clear t; have R1 := HR.out.chg (But.chg B1) HNE.out; have cr := R1.cell HO.out; have fr := R1.free o; clear R1; replace X1 := hid3 X1)
  go_end0
  exact ⟨rfl, w1, rfl, X1.out, B1⟩
set_option maxRecDepth 100000 in
theorem rt_Account {w : World} {g b vb rb o : Nat} {err : Int} {l : List Int} {cs : List Value} {T vt : TypeId} {old : Value} (X : RdA w g b err l) (V : Blk w vb [.pointer (some ⟨g, 0, none⟩)] vt) (R : Blk w rb cs T) (hr : rb ≠ g) (ho : cs[o]? = some old) (hold : ∃ y, old = .bool y) :
    Calls Tryz.prog 162 #[.pointer (some ⟨rb, o, none⟩), .pointer (some ⟨vb, 0, none⟩)] w fun e w' => e = .returned (.tuple #[]) ∧ ∃ w1, w' = w1.setCell ⟨rb, o, none⟩ (.bool (rdV false (pBool l) err)) ∧ RdA w1 g b (rdE (p1 1 l) err) (rdL (p1 1 l) err l) ∧ But g w w1 := by
  obtain ⟨y, rfl⟩ := hold
  have t := rdBool X
  show Calls Tryz.prog _ _ w fun e w' => e = .returned (.tuple #[]) ∧ ∃ w1, w' = w1.setCell ⟨rb, o, none⟩ (.bool (rdV false (pBool l) err)) ∧ RdA w1 g b (rdE (pBoolI l) err) (rdL (pBoolI l) err l) ∧ But g w w1
  rw [pBoolI_E, pBoolI_L]
  generalize rdV false (pBool l) err = Y at *
  generalize rdE (pBool l) err = E at *
  generalize rdL (pBool l) err l = Rl at *
  have cv := V.cell (i := 0) rfl
  have HR := hid3 R
  have HNE := hid3 hr
  have HO := hid3 ho
  clear X V R ho hr
  go_enter Tryz.func162, Tryz.ntmps162
  go_wp2_with (go_at_call 157; refine t.mono ?_; rintro e' w1 ⟨rfl, X1, B1⟩; clear t; have R1 := HR.out.chg (But.chg B1) HNE.out; have cr := R1.cell HO.out; have fr := R1.free o; clear R1; replace X1 := hid3 X1)
  go_end0
  exact ⟨rfl, w1, rfl, X1.out, B1⟩
set_option maxRecDepth 100000 in
theorem rd_Account {w : World} {g b vb rb o : Nat} {err : Int} {l : List Int} {cs : List Value} {T vt : TypeId} {old : Value} (X : RdA w g b err l) (V : Blk w vb [.pointer (some ⟨g, 0, none⟩)] vt) (R : Blk w rb cs T) (hr : rb ≠ g) (ho : cs[o]? = some old) (hold : ∃ a n c, old = .slice a n c) :
    Calls Tryz.prog 163 #[.pointer (some ⟨rb, o, none⟩), .pointer (some ⟨vb, 0, none⟩)] w fun e w' => e = .returned (.tuple #[]) ∧ ∃ w1 ao n c, w' = w1.setCell ⟨rb, o, none⟩ (.slice ao n c) ∧ NatW w1 w.heap.size ao n c (rdV 0 (p1 2 l) err) ∧ n ≤ 255 ∧ RdA w1 g b (rdE (p1 2 l) err) (rdL (p1 2 l) err l) ∧ But g w w1 := by
  obtain ⟨oa, on, oc, rfl⟩ := hold
  have t := rdDecW X
  show Calls Tryz.prog _ _ w fun e w' => e = .returned (.tuple #[]) ∧ ∃ w1 ao n c, w' = w1.setCell ⟨rb, o, none⟩ (.slice ao n c) ∧ NatW w1 w.heap.size ao n c (rdV 0 (pNat l) err) ∧ n ≤ 255 ∧ RdA w1 g b (rdE (pNat l) err) (rdL (pNat l) err l) ∧ But g w w1
  generalize rdV 0 (pNat l) err = Y at *
  generalize rdE (pNat l) err = E at *
  generalize rdL (pNat l) err l = Rl at *
  have cv := V.cell (i := 0) rfl
  have HR := hid3 R
  have HNE := hid3 hr
  have HO := hid3 ho
  clear X V R ho hr
  go_enter Tryz.func163, Tryz.ntmps163
  go_wp2_with (go_at_call 159; refine t.mono ?_; rintro e' w1 ⟨a1, n1, d1, rfl, N1, hn1, X1, B1⟩; clear t; have R1 := HR.out.chg (But.chg B1) HNE.out; have cr := R1.cell HO.out; have fr := R1.free o; clear R1; replace X1 := hid3 X1)
  go_end0
  exact ⟨rfl, w1, a1, n1, d1, rfl, N1, hn1, X1.out, B1⟩
theorem kl_Account {o k : Nat} (h : kd_Account o = k) (hk : k ≠ 9) : o < 2 := by
  by_cases ho : o < 2
  · exact ho
  · exfalso
    have : kd_Account o = 9 := by
      unfold kd_Account
      rw [List.getD_eq_getElem?_getD, List.getElem?_eq_none (by simp; omega)]
      rfl
    omega
theorem rhc_Account {w0 : World} {B g b vb rb : Nat} {T vt : TypeId} : HC RSt (fun s w => RI w0 B g b vb rb kd_Account 2 T vt s w ∧ B ≤ w.heap.size) (fun y => y = g ∨ y = rb) rb 161 162 163 (.pointer (some ⟨vb, 0, none⟩)) rnx kd_Account (fun _ => True) where
  oks := fun _ _ _ _ => trivial
  keep := fun s w w' h Bl => by
    obtain ⟨h, hB⟩ := h
    obtain ⟨cs, h1, h2, h3⟩ := h.rc
    exact ⟨⟨h.rd.keep Bl, h.var.keep Bl, ⟨cs, h1, h2.keep Bl, h3.off Bl.size (fun y _ hy => Bl.block y hy)⟩, h.bel.trans (Bl.mono h.bel.size), h.s1, h.s2, h.s3, h.s4, h.g1, h.r1, h.g0, h.r0⟩, Nat.le_trans hB Bl.size⟩
  old := fun s w y h e => by
    have := h.1.g1
    have := h.1.r1
    have := h.2
    rcases e with e | e <;> omega
  e1 := fun _ _ => by kernel_rfl
  e2 := fun _ _ => by kernel_rfl
  e3 := fun _ _ => by kernel_rfl
  u := fun s w o h _ hk => by
    obtain ⟨h, hB⟩ := h
    obtain ⟨cs, h1, h2, h3⟩ := h.rc
    refine (rn_Account h.rd h.var h2 h.s1 ((h3 o).1 hk) ⟨_, rfl⟩).mono ?_
    rintro e w' ⟨rfl, w1, rfl, X, Bu⟩
    obtain ⟨r1, r2⟩ := h.step hk (kl_Account hk (by decide)) X Bu (.inl ⟨rfl, rfl⟩)
    exact ⟨rfl, ⟨r1, Nat.le_trans hB r2.size⟩, r2⟩
  t := fun s w o h _ hk => by
    obtain ⟨h, hB⟩ := h
    obtain ⟨cs, h1, h2, h3⟩ := h.rc
    obtain ⟨t, ht, _⟩ := (h3 o).2.1 hk
    refine (rt_Account h.rd h.var h2 h.s1 ht ⟨_, rfl⟩).mono ?_
    rintro e w' ⟨rfl, w1, rfl, X, Bu⟩
    obtain ⟨r1, r2⟩ := h.step hk (kl_Account hk (by decide)) X Bu (x := rdV 0 (p1 1 s.2.1) s.1) (.inr (.inl ⟨rfl, _, rfl, pBoolI_V _ _⟩))
    exact ⟨rfl, ⟨r1, Nat.le_trans hB r2.size⟩, r2⟩
  d := fun s w o h _ hk => by
    obtain ⟨h, hB⟩ := h
    obtain ⟨cs, h1, h2, h3⟩ := h.rc
    obtain ⟨ao, n, c, ht, _⟩ := (h3 o).2.2 hk
    refine (rd_Account h.rd h.var h2 h.s1 ht ⟨_, _, _, rfl⟩).mono ?_
    rintro e w' ⟨rfl, w1, a1, n1, c1, rfl, hN, hn, X, Bu⟩
    obtain ⟨r1, r2⟩ := h.step hk (kl_Account hk (by decide)) X Bu (x := rdV 0 (p1 2 s.2.1) s.1) (.inr (.inr ⟨rfl, _, _, _, rfl, hN.low hB, hn⟩))
    exact ⟨rfl, ⟨r1, Nat.le_trans hB r2.size⟩, r2⟩
set_option maxRecDepth 100000 in
theorem rn_Val {w : World} {g b vb rb o : Nat} {err : Int} {l : List Int} {cs : List Value} {T vt : TypeId} {old : Value} (X : RdA w g b err l) (V : Blk w vb [.pointer (some ⟨g, 0, none⟩)] vt) (R : Blk w rb cs T) (hr : rb ≠ g) (ho : cs[o]? = some old) (hold : ∃ y, old = .int .u64 y) :
    Calls Tryz.prog 164 #[.pointer (some ⟨rb, o, none⟩), .pointer (some ⟨vb, 0, none⟩)] w fun e w' => e = .returned (.tuple #[]) ∧ ∃ w1, w' = w1.setCell ⟨rb, o, none⟩ (.int .u64 (rdV 0 (p1 0 l) err)) ∧ RdA w1 g b (rdE (p1 0 l) err) (rdL (p1 0 l) err l) ∧ But g w w1 := by
  obtain ⟨y, rfl⟩ := hold
  have t := rdU64 X
  show Calls Tryz.prog _ _ w fun e w' => e = .returned (.tuple #[]) ∧ ∃ w1, w' = w1.setCell ⟨rb, o, none⟩ (.int .u64 (rdV 0 (pFix 8 l) err)) ∧ RdA w1 g b (rdE (pFix 8 l) err) (rdL (pFix 8 l) err l) ∧ But g w w1
  generalize rdV 0 (pFix 8 l) err = Y at *
  generalize rdE (pFix 8 l) err = E at *
  generalize rdL (pFix 8 l) err l = Rl at *
  have cv := V.cell (i := 0) rfl
  have HR := hid3 R
  have HNE := hid3 hr
  have HO := hid3 ho
  clear X V R ho hr
  go_enter Tryz.func164, Tryz.ntmps164
  go_wp2_with (go_at_call 155; refine t.mono ?_; rintro e' w1 ⟨rfl, X1, B1⟩; clear t; have R1 := HR.out.chg (But.chg B1) HNE.out; have cr := R1.cell HO.out; have fr := R1.free o; clear R1; replace X1 := hid3 X1)
  go_end0
  exact ⟨rfl, w1, rfl, X1.out, B1⟩
set_option maxRecDepth 100000 in
theorem rt_Val {w : World} {g b vb rb o : Nat} {err : Int} {l : List Int} {cs : List Value} {T vt : TypeId} {old : Value} (X : RdA w g b err l) (V : Blk w vb [.pointer (some ⟨g, 0, none⟩)] vt) (R : Blk w rb cs T) (hr : rb ≠ g) (ho : cs[o]? = some old) (hold : ∃ y, old = .bool y) :
    Calls Tryz.prog 165 #[.pointer (some ⟨rb, o, none⟩), .pointer (some ⟨vb, 0, none⟩)] w fun e w' => e = .returned (.tuple #[]) ∧ ∃ w1, w' = w1.setCell ⟨rb, o, none⟩ (.bool (rdV false (pBool l) err)) ∧ RdA w1 g b (rdE (p1 1 l) err) (rdL (p1 1 l) err l) ∧ But g w w1 := by
  obtain ⟨y, rfl⟩ := hold
  have t := rdBool X
  show Calls Tryz.prog _ _ w fun e w' => e = .returned (.tuple #[]) ∧ ∃ w1, w' = w1.setCell ⟨rb, o, none⟩ (.bool (rdV false (pBool l) err)) ∧ RdA w1 g b (rdE (pBoolI l) err) (rdL (pBoolI l) err l) ∧ But g w w1
  rw [pBoolI_E, pBoolI_L]
  generalize rdV false (pBool l) err = Y at *
  generalize rdE (pBool l) err = E at *
  generalize rdL (pBool l) err l = Rl at *
  have cv := V.cell (i := 0) rfl
  have HR := hid3 R
  have HNE := hid3 hr
  have HO := hid3 ho
  clear X V R ho hr
  go_enter Tryz.func165, Tryz.ntmps165
  go_wp2_with (go_at_call 157; refine t.mono ?_; rintro e' w1 ⟨rfl, X1, B1⟩; clear t; have R1 := HR.out.chg (But.chg B1) HNE.out; have cr := R1.cell HO.out; have fr := R1.free o; clear R1; replace X1 := hid3 X1)
  go_end0
  exact ⟨rfl, w1, rfl, X1.out, B1⟩
set_option maxRecDepth 100000 in
theorem rd_Val {w : World} {g b vb rb o : Nat} {err : Int} {l : List Int} {cs : List Value} {T vt : TypeId} {old : Value} (X : RdA w g b err l) (V : Blk w vb [.pointer (some ⟨g, 0, none⟩)] vt) (R : Blk w rb cs T) (hr : rb ≠ g) (ho : cs[o]? = some old) (hold : ∃ a n c, old = .slice a n c) :
    Calls Tryz.prog 166 #[.pointer (some ⟨rb, o, none⟩), .pointer (some ⟨vb, 0, none⟩)] w fun e w' => e = .returned (.tuple #[]) ∧ ∃ w1 ao n c, w' = w1.setCell ⟨rb, o, none⟩ (.slice ao n c) ∧ NatW w1 w.heap.size ao n c (rdV 0 (p1 2 l) err) ∧ n ≤ 255 ∧ RdA w1 g b (rdE (p1 2 l) err) (rdL (p1 2 l) err l) ∧ But g w w1 := by
  obtain ⟨oa, on, oc, rfl⟩ := hold
  have t := rdDecW X
  show Calls Tryz.prog _ _ w fun e w' => e = .returned (.tuple #[]) ∧ ∃ w1 ao n c, w' = w1.setCell ⟨rb, o, none⟩ (.slice ao n c) ∧ NatW w1 w.heap.size ao n c (rdV 0 (pNat l) err) ∧ n ≤ 255 ∧ RdA w1 g b (rdE (pNat l) err) (rdL (pNat l) err l) ∧ But g w w1
  generalize rdV 0 (pNat l) err = Y at *
  generalize rdE (pNat l) err = E at *
  generalize rdL (pNat l) err l = Rl at *
  have cv := V.cell (i := 0) rfl
  have HR := hid3 R
  have HNE := hid3 hr
  have HO := hid3 ho
  clear X V R ho hr
  go_enter Tryz.func166, Tryz.ntmps166
  go_wp2_with (go_at_call 159; refine t.mono ?_; rintro e' w1 ⟨a1, n1, d1, rfl, N1, hn1, X1, B1⟩; clear t; have R1 := HR.out.chg (But.chg B1) HNE.out; have cr := R1.cell HO.out; have fr := R1.free o; clear R1; replace X1 := hid3 X1)
  go_end0
  exact ⟨rfl, w1, a1, n1, d1, rfl, N1, hn1, X1.out, B1⟩
theorem kl_Val {o k : Nat} (h : kd_Val o = k) (hk : k ≠ 9) : o < 10 := by
  by_cases ho : o < 10
  · exact ho
  · exfalso
    have : kd_Val o = 9 := by
      unfold kd_Val
      rw [List.getD_eq_getElem?_getD, List.getElem?_eq_none (by simp; omega)]
      rfl
    omega
theorem rhc_Val {w0 : World} {B g b vb rb : Nat} {T vt : TypeId} : HC RSt (fun s w => RI w0 B g b vb rb kd_Val 10 T vt s w ∧ B ≤ w.heap.size) (fun y => y = g ∨ y = rb) rb 164 165 166 (.pointer (some ⟨vb, 0, none⟩)) rnx kd_Val (fun _ => True) where
  oks := fun _ _ _ _ => trivial
  keep := fun s w w' h Bl => by
    obtain ⟨h, hB⟩ := h
    obtain ⟨cs, h1, h2, h3⟩ := h.rc
    exact ⟨⟨h.rd.keep Bl, h.var.keep Bl, ⟨cs, h1, h2.keep Bl, h3.off Bl.size (fun y _ hy => Bl.block y hy)⟩, h.bel.trans (Bl.mono h.bel.size), h.s1, h.s2, h.s3, h.s4, h.g1, h.r1, h.g0, h.r0⟩, Nat.le_trans hB Bl.size⟩
  old := fun s w y h e => by
    have := h.1.g1
    have := h.1.r1
    have := h.2
    rcases e with e | e <;> omega
  e1 := fun _ _ => by kernel_rfl
  e2 := fun _ _ => by kernel_rfl
  e3 := fun _ _ => by kernel_rfl
  u := fun s w o h _ hk => by
    obtain ⟨h, hB⟩ := h
    obtain ⟨cs, h1, h2, h3⟩ := h.rc
    refine (rn_Val h.rd h.var h2 h.s1 ((h3 o).1 hk) ⟨_, rfl⟩).mono ?_
    rintro e w' ⟨rfl, w1, rfl, X, Bu⟩
    obtain ⟨r1, r2⟩ := h.step hk (kl_Val hk (by decide)) X Bu (.inl ⟨rfl, rfl⟩)
    exact ⟨rfl, ⟨r1, Nat.le_trans hB r2.size⟩, r2⟩
  t := fun s w o h _ hk => by
    obtain ⟨h, hB⟩ := h
    obtain ⟨cs, h1, h2, h3⟩ := h.rc
    obtain ⟨t, ht, _⟩ := (h3 o).2.1 hk
    refine (rt_Val h.rd h.var h2 h.s1 ht ⟨_, rfl⟩).mono ?_
    rintro e w' ⟨rfl, w1, rfl, X, Bu⟩
    obtain ⟨r1, r2⟩ := h.step hk (kl_Val hk (by decide)) X Bu (x := rdV 0 (p1 1 s.2.1) s.1) (.inr (.inl ⟨rfl, _, rfl, pBoolI_V _ _⟩))
    exact ⟨rfl, ⟨r1, Nat.le_trans hB r2.size⟩, r2⟩
  d := fun s w o h _ hk => by
    obtain ⟨h, hB⟩ := h
    obtain ⟨cs, h1, h2, h3⟩ := h.rc
    obtain ⟨ao, n, c, ht, _⟩ := (h3 o).2.2 hk
    refine (rd_Val h.rd h.var h2 h.s1 ht ⟨_, _, _, rfl⟩).mono ?_
    rintro e w' ⟨rfl, w1, a1, n1, c1, rfl, hN, hn, X, Bu⟩
    obtain ⟨r1, r2⟩ := h.step hk (kl_Val hk (by decide)) X Bu (x := rdV 0 (p1 2 s.2.1) s.1) (.inr (.inr ⟨rfl, _, _, _, rfl, hN.low hB, hn⟩))
    exact ⟨rfl, ⟨r1, Nat.le_trans hB r2.size⟩, r2⟩
set_option maxRecDepth 100000 in
theorem rn_Delegation {w : World} {g b vb rb o : Nat} {err : Int} {l : List Int} {cs : List Value} {T vt : TypeId} {old : Value} (X : RdA w g b err l) (V : Blk w vb [.pointer (some ⟨g, 0, none⟩)] vt) (R : Blk w rb cs T) (hr : rb ≠ g) (ho : cs[o]? = some old) (hold : ∃ y, old = .int .u64 y) :
    Calls Tryz.prog 191 #[.pointer (some ⟨rb, o, none⟩), .pointer (some ⟨vb, 0, none⟩)] w fun e w' => e = .returned (.tuple #[]) ∧ ∃ w1, w' = w1.setCell ⟨rb, o, none⟩ (.int .u64 (rdV 0 (p1 0 l) err)) ∧ RdA w1 g b (rdE (p1 0 l) err) (rdL (p1 0 l) err l) ∧ But g w w1 := by
  obtain ⟨y, rfl⟩ := hold
  have t := rdU64 X
  show Calls Tryz.prog _ _ w fun e w' => e = .returned (.tuple #[]) ∧ ∃ w1, w' = w1.setCell ⟨rb, o, none⟩ (.int .u64 (rdV 0 (pFix 8 l) err)) ∧ RdA w1 g b (rdE (pFix 8 l) err) (rdL (pFix 8 l) err l) ∧ But g w w1
  generalize rdV 0 (pFix 8 l) err = Y at *
  generalize rdE (pFix 8 l) err = E at *
  generalize rdL (pFix 8 l) err l = Rl at *
  have cv := V.cell (i := 0) rfl
  have HR := hid3 R
  have HNE := hid3 hr
  have HO := hid3 ho
  clear X V R ho hr
  go_enter Tryz.func191, Tryz.ntmps191
  go_wp2_with (go_at_call 155; refine t.mono ?_; rintro e' w1 ⟨rfl, X1, B1⟩; clear t; have R1 := HR.out.chg (But.chg B1) HNE.out; have cr := R1.cell HO.out; have fr := R1.free o; clear R1; replace X1 := hid3 X1)
  go_end0
  exact ⟨rfl, w1, rfl, X1.out, B1⟩
set_option maxRecDepth 100000 in
theorem rt_Delegation {w : World} {g b vb rb o : Nat} {err : Int} {l : List Int} {cs : List Value} {T vt : TypeId} {old : Value} (X : RdA w g b err l) (V : Blk w vb [.pointer (some ⟨g, 0, none⟩)] vt) (R : Blk w rb cs T) (hr : rb ≠ g) (ho : cs[o]? = some old) (hold : ∃ y, old = .bool y) :
    Calls Tryz.prog 192 #[.pointer (some ⟨rb, o, none⟩), .pointer (some ⟨vb, 0, none⟩)] w fun e w' => e = .returned (.tuple #[]) ∧ ∃ w1, w' = w1.setCell ⟨rb, o, none⟩ (.bool (rdV false (pBool l) err)) ∧ RdA w1 g b (rdE (p1 1 l) err) (rdL (p1 1 l) err l) ∧ But g w w1 := by
  obtain ⟨y, rfl⟩ := hold
  have t := rdBool X
  show Calls Tryz.prog _ _ w fun e w' => e = .returned (.tuple #[]) ∧ ∃ w1, w' = w1.setCell ⟨rb, o, none⟩ (.bool (rdV false (pBool l) err)) ∧ RdA w1 g b (rdE (pBoolI l) err) (rdL (pBoolI l) err l) ∧ But g w w1
  rw [pBoolI_E, pBoolI_L]
  generalize rdV false (pBool l) err = Y at *
  generalize rdE (pBool l) err = E at *
  generalize rdL (pBool l) err l = Rl at *
  have cv := V.cell (i := 0) rfl
  have HR := hid3 R
  have HNE := hid3 hr
  have HO := hid3 ho
  clear X V R ho hr
  go_enter Tryz.func192, Tryz.ntmps192
  go_wp2_with (go_at_call 157; refine t.mono ?_; rintro e' w1 ⟨rfl, X1, B1⟩; clear t; have R1 := HR.out.chg (But.chg B1) HNE.out; have cr := R1.cell HO.out; have fr := R1.free o; clear R1; replace X1 := hid3 X1)
  go_end0
  exact ⟨rfl, w1, rfl, X1.out, B1⟩
set_option maxRecDepth 100000 in
theorem rd_Delegation {w : World} {g b vb rb o : Nat} {err : Int} {l : List Int} {cs : List Value} {T vt : TypeId} {old : Value} (X : RdA w g b err l) (V : Blk w vb [.pointer (some ⟨g, 0, none⟩)] vt) (R : Blk w rb cs T) (hr : rb ≠ g) (ho : cs[o]? = some old) (hold : ∃ a n c, old = .slice a n c) :
    Calls Tryz.prog 193 #[.pointer (some ⟨rb, o, none⟩), .pointer (some ⟨vb, 0, none⟩)] w fun e w' => e = .returned (.tuple #[]) ∧ ∃ w1 ao n c, w' = w1.setCell ⟨rb, o, none⟩ (.slice ao n c) ∧ NatW w1 w.heap.size ao n c (rdV 0 (p1 2 l) err) ∧ n ≤ 255 ∧ RdA w1 g b (rdE (p1 2 l) err) (rdL (p1 2 l) err l) ∧ But g w w1 := by
  obtain ⟨oa, on, oc, rfl⟩ := hold
  have t := rdDecW X
  show Calls Tryz.prog _ _ w fun e w' => e = .returned (.tuple #[]) ∧ ∃ w1 ao n c, w' = w1.setCell ⟨rb, o, none⟩ (.slice ao n c) ∧ NatW w1 w.heap.size ao n c (rdV 0 (pNat l) err) ∧ n ≤ 255 ∧ RdA w1 g b (rdE (pNat l) err) (rdL (pNat l) err l) ∧ But g w w1
  generalize rdV 0 (pNat l) err = Y at *
  generalize rdE (pNat l) err = E at *
  generalize rdL (pNat l) err l = Rl at *
  have cv := V.cell (i := 0) rfl
  have HR := hid3 R
  have HNE := hid3 hr
  have HO := hid3 ho
  clear X V R ho hr
  go_enter Tryz.func193, Tryz.ntmps193
  go_wp2_with (go_at_call 159; refine t.mono ?_; rintro e' w1 ⟨a1, n1, d1, rfl, N1, hn1, X1, B1⟩; clear t; have R1 := HR.out.chg (But.chg B1) HNE.out; have cr := R1.cell HO.out; have fr := R1.free o; clear R1; replace X1 := hid3 X1)
  go_end0
  exact ⟨rfl, w1, a1, n1, d1, rfl, N1, hn1, X1.out, B1⟩
theorem kl_Delegation {o k : Nat} (h : kd_Delegation o = k) (hk : k ≠ 9) : o < 3 := by
  by_cases ho : o < 3
  · exact ho
  · exfalso
    have : kd_Delegation o = 9 := by
      unfold kd_Delegation
      rw [List.getD_eq_getElem?_getD, List.getElem?_eq_none (by simp; omega)]
      rfl
    omega
theorem rhc_Delegation {w0 : World} {B g b vb rb : Nat} {T vt : TypeId} : HC RSt (fun s w => RI w0 B g b vb rb kd_Delegation 3 T vt s w ∧ B ≤ w.heap.size) (fun y => y = g ∨ y = rb) rb 191 192 193 (.pointer (some ⟨vb, 0, none⟩)) rnx kd_Delegation (fun _ => True) where
  oks := fun _ _ _ _ => trivial
  keep := fun s w w' h Bl => by
    obtain ⟨h, hB⟩ := h
    obtain ⟨cs, h1, h2, h3⟩ := h.rc
    exact ⟨⟨h.rd.keep Bl, h.var.keep Bl, ⟨cs, h1, h2.keep Bl, h3.off Bl.size (fun y _ hy => Bl.block y hy)⟩, h.bel.trans (Bl.mono h.bel.size), h.s1, h.s2, h.s3, h.s4, h.g1, h.r1, h.g0, h.r0⟩, Nat.le_trans hB Bl.size⟩
  old := fun s w y h e => by
    have := h.1.g1
    have := h.1.r1
    have := h.2
    rcases e with e | e <;> omega
  e1 := fun _ _ => by kernel_rfl
  e2 := fun _ _ => by kernel_rfl
  e3 := fun _ _ => by kernel_rfl
  u := fun s w o h _ hk => by
    obtain ⟨h, hB⟩ := h
    obtain ⟨cs, h1, h2, h3⟩ := h.rc
    refine (rn_Delegation h.rd h.var h2 h.s1 ((h3 o).1 hk) ⟨_, rfl⟩).mono ?_
    rintro e w' ⟨rfl, w1, rfl, X, Bu⟩
    obtain ⟨r1, r2⟩ := h.step hk (kl_Delegation hk (by decide)) X Bu (.inl ⟨rfl, rfl⟩)
    exact ⟨rfl, ⟨r1, Nat.le_trans hB r2.size⟩, r2⟩
  t := fun s w o h _ hk => by
    obtain ⟨h, hB⟩ := h
    obtain ⟨cs, h1, h2, h3⟩ := h.rc
    obtain ⟨t, ht, _⟩ := (h3 o).2.1 hk
    refine (rt_Delegation h.rd h.var h2 h.s1 ht ⟨_, rfl⟩).mono ?_
    rintro e w' ⟨rfl, w1, rfl, X, Bu⟩
    obtain ⟨r1, r2⟩ := h.step hk (kl_Delegation hk (by decide)) X Bu (x := rdV 0 (p1 1 s.2.1) s.1) (.inr (.inl ⟨rfl, _, rfl, pBoolI_V _ _⟩))
    exact ⟨rfl, ⟨r1, Nat.le_trans hB r2.size⟩, r2⟩
  d := fun s w o h _ hk => by
    obtain ⟨h, hB⟩ := h
    obtain ⟨cs, h1, h2, h3⟩ := h.rc
    obtain ⟨ao, n, c, ht, _⟩ := (h3 o).2.2 hk
    refine (rd_Delegation h.rd h.var h2 h.s1 ht ⟨_, _, _, rfl⟩).mono ?_
    rintro e w' ⟨rfl, w1, a1, n1, c1, rfl, hN, hn, X, Bu⟩
    obtain ⟨r1, r2⟩ := h.step hk (kl_Delegation hk (by decide)) X Bu (x := rdV 0 (p1 2 s.2.1) s.1) (.inr (.inr ⟨rfl, _, _, _, rfl, hN.low hB, hn⟩))
    exact ⟨rfl, ⟨r1, Nat.le_trans hB r2.size⟩, r2⟩
set_option maxRecDepth 100000 in
theorem rn_History {w : World} {g b vb rb o : Nat} {err : Int} {l : List Int} {cs : List Value} {T vt : TypeId} {old : Value} (X : RdA w g b err l) (V : Blk w vb [.pointer (some ⟨g, 0, none⟩)] vt) (R : Blk w rb cs T) (hr : rb ≠ g) (ho : cs[o]? = some old) (hold : ∃ y, old = .int .u64 y) :
    Calls Tryz.prog 167 #[.pointer (some ⟨rb, o, none⟩), .pointer (some ⟨vb, 0, none⟩)] w fun e w' => e = .returned (.tuple #[]) ∧ ∃ w1, w' = w1.setCell ⟨rb, o, none⟩ (.int .u64 (rdV 0 (p1 0 l) err)) ∧ RdA w1 g b (rdE (p1 0 l) err) (rdL (p1 0 l) err l) ∧ But g w w1 := by
  obtain ⟨y, rfl⟩ := hold
  have t := rdU64 X
  show Calls Tryz.prog _ _ w fun e w' => e = .returned (.tuple #[]) ∧ ∃ w1, w' = w1.setCell ⟨rb, o, none⟩ (.int .u64 (rdV 0 (pFix 8 l) err)) ∧ RdA w1 g b (rdE (pFix 8 l) err) (rdL (pFix 8 l) err l) ∧ But g w w1
  generalize rdV 0 (pFix 8 l) err = Y at *
  generalize rdE (pFix 8 l) err = E at *
  generalize rdL (pFix 8 l) err l = Rl at *
  have cv := V.cell (i := 0) rfl
  have HR := hid3 R
  have HNE := hid3 hr
  have HO := hid3 ho
  clear X V R ho hr
  go_enter Tryz.func167, Tryz.ntmps167
  go_wp2_with (go_at_call 155; refine t.mono ?_; rintro e' w1 ⟨rfl, X1, B1⟩; clear t; have R1 := HR.out.chg (But.chg B1) HNE.out; have cr := R1.cell HO.out; have fr := R1.free o; clear R1; replace X1 := hid3 X1)
  go_end0
  exact ⟨rfl, w1, rfl, X1.out, B1⟩
set_option maxRecDepth 100000 in
theorem rt_History {w : World} {g b vb rb o : Nat} {err : Int} {l : List Int} {cs : List Value} {T vt : TypeId} {old : Value} (X : RdA w g b err l) (V : Blk w vb [.pointer (some ⟨g, 0, none⟩)] vt) (R : Blk w rb cs T) (hr : rb ≠ g) (ho : cs[o]? = some old) (hold : ∃ y, old = .bool y) :
    Calls Tryz.prog 168 #[.pointer (some ⟨rb, o, none⟩), .pointer (some ⟨vb, 0, none⟩)] w fun e w' => e = .returned (.tuple #[]) ∧ ∃ w1, w' = w1.setCell ⟨rb, o, none⟩ (.bool (rdV false (pBool l) err)) ∧ RdA w1 g b (rdE (p1 1 l) err) (rdL (p1 1 l) err l) ∧ But g w w1 := by
  obtain ⟨y, rfl⟩ := hold
  have t := rdBool X
  show Calls Tryz.prog _ _ w fun e w' => e = .returned (.tuple #[]) ∧ ∃ w1, w' = w1.setCell ⟨rb, o, none⟩ (.bool (rdV false (pBool l) err)) ∧ RdA w1 g b (rdE (pBoolI l) err) (rdL (pBoolI l) err l) ∧ But g w w1
  rw [pBoolI_E, pBoolI_L]
  generalize rdV false (pBool l) err = Y at *
  generalize rdE (pBool l) err = E at *
  generalize rdL (pBool l) err l = Rl at *
  have cv := V.cell (i := 0) rfl
  have HR := hid3 R
  have HNE := hid3 hr
  have HO := hid3 ho
  clear X V R ho hr
  go_enter Tryz.func168, Tryz.ntmps168
  go_wp2_with (go_at_call 157; refine t.mono ?_; rintro e' w1 ⟨rfl, X1, B1⟩; clear t; have R1 := HR.out.chg (But.chg B1) HNE.out; have cr := R1.cell HO.out; have fr := R1.free o; clear R1; replace X1 := hid3 X1)
  go_end0
  exact ⟨rfl, w1, rfl, X1.out, B1⟩
set_option maxRecDepth 100000 in
theorem rd_History {w : World} {g b vb rb o : Nat} {err : Int} {l : List Int} {cs : List Value} {T vt : TypeId} {old : Value} (X : RdA w g b err l) (V : Blk w vb [.pointer (some ⟨g, 0, none⟩)] vt) (R : Blk w rb cs T) (hr : rb ≠ g) (ho : cs[o]? = some old) (hold : ∃ a n c, old = .slice a n c) :
    Calls Tryz.prog 169 #[.pointer (some ⟨rb, o, none⟩), .pointer (some ⟨vb, 0, none⟩)] w fun e w' => e = .returned (.tuple #[]) ∧ ∃ w1 ao n c, w' = w1.setCell ⟨rb, o, none⟩ (.slice ao n c) ∧ NatW w1 w.heap.size ao n c (rdV 0 (p1 2 l) err) ∧ n ≤ 255 ∧ RdA w1 g b (rdE (p1 2 l) err) (rdL (p1 2 l) err l) ∧ But g w w1 := by
  obtain ⟨oa, on, oc, rfl⟩ := hold
  have t := rdDecW X
  show Calls Tryz.prog _ _ w fun e w' => e = .returned (.tuple #[]) ∧ ∃ w1 ao n c, w' = w1.setCell ⟨rb, o, none⟩ (.slice ao n c) ∧ NatW w1 w.heap.size ao n c (rdV 0 (pNat l) err) ∧ n ≤ 255 ∧ RdA w1 g b (rdE (pNat l) err) (rdL (pNat l) err l) ∧ But g w w1
  generalize rdV 0 (pNat l) err = Y at *
  generalize rdE (pNat l) err = E at *
  generalize rdL (pNat l) err l = Rl at *
  have cv := V.cell (i := 0) rfl
  have HR := hid3 R
  have HNE := hid3 hr
  have HO := hid3 ho
  clear X V R ho hr
  go_enter Tryz.func169, Tryz.ntmps169
  go_wp2_with (go_at_call 159; refine t.mono ?_; rintro e' w1 ⟨a1, n1, d1, rfl, N1, hn1, X1, B1⟩; clear t; have R1 := HR.out.chg (But.chg B1) HNE.out; have cr := R1.cell HO.out; have fr := R1.free o; clear R1; replace X1 := hid3 X1)
  go_end0
  exact ⟨rfl, w1, a1, n1, d1, rfl, N1, hn1, X1.out, B1⟩
theorem kl_History {o k : Nat} (h : kd_History o = k) (hk : k ≠ 9) : o < 2 := by
  by_cases ho : o < 2
  · exact ho
  · exfalso
    have : kd_History o = 9 := by
      unfold kd_History
      rw [List.getD_eq_getElem?_getD, List.getElem?_eq_none (by simp; omega)]
      rfl
    omega
theorem rhc_History {w0 : World} {B g b vb rb : Nat} {T vt : TypeId} : HC RSt (fun s w => RI w0 B g b vb rb kd_History 2 T vt s w ∧ B ≤ w.heap.size) (fun y => y = g ∨ y = rb) rb 167 168 169 (.pointer (some ⟨vb, 0, none⟩)) rnx kd_History (fun _ => True) where
  oks := fun _ _ _ _ => trivial
  keep := fun s w w' h Bl => by
    obtain ⟨h, hB⟩ := h
    obtain ⟨cs, h1, h2, h3⟩ := h.rc
    exact ⟨⟨h.rd.keep Bl, h.var.keep Bl, ⟨cs, h1, h2.keep Bl, h3.off Bl.size (fun y _ hy => Bl.block y hy)⟩, h.bel.trans (Bl.mono h.bel.size), h.s1, h.s2, h.s3, h.s4, h.g1, h.r1, h.g0, h.r0⟩, Nat.le_trans hB Bl.size⟩
  old := fun s w y h e => by
    have := h.1.g1
    have := h.1.r1
    have := h.2
    rcases e with e | e <;> omega
  e1 := fun _ _ => by kernel_rfl
  e2 := fun _ _ => by kernel_rfl
  e3 := fun _ _ => by kernel_rfl
  u := fun s w o h _ hk => by
    obtain ⟨h, hB⟩ := h
    obtain ⟨cs, h1, h2, h3⟩ := h.rc
    refine (rn_History h.rd h.var h2 h.s1 ((h3 o).1 hk) ⟨_, rfl⟩).mono ?_
    rintro e w' ⟨rfl, w1, rfl, X, Bu⟩
    obtain ⟨r1, r2⟩ := h.step hk (kl_History hk (by decide)) X Bu (.inl ⟨rfl, rfl⟩)
    exact ⟨rfl, ⟨r1, Nat.le_trans hB r2.size⟩, r2⟩
  t := fun s w o h _ hk => by
    obtain ⟨h, hB⟩ := h
    obtain ⟨cs, h1, h2, h3⟩ := h.rc
    obtain ⟨t, ht, _⟩ := (h3 o).2.1 hk
    refine (rt_History h.rd h.var h2 h.s1 ht ⟨_, rfl⟩).mono ?_
    rintro e w' ⟨rfl, w1, rfl, X, Bu⟩
    obtain ⟨r1, r2⟩ := h.step hk (kl_History hk (by decide)) X Bu (x := rdV 0 (p1 1 s.2.1) s.1) (.inr (.inl ⟨rfl, _, rfl, pBoolI_V _ _⟩))
    exact ⟨rfl, ⟨r1, Nat.le_trans hB r2.size⟩, r2⟩
  d := fun s w o h _ hk => by
    obtain ⟨h, hB⟩ := h
    obtain ⟨cs, h1, h2, h3⟩ := h.rc
    obtain ⟨ao, n, c, ht, _⟩ := (h3 o).2.2 hk
    refine (rd_History h.rd h.var h2 h.s1 ht ⟨_, _, _, rfl⟩).mono ?_
    rintro e w' ⟨rfl, w1, a1, n1, c1, rfl, hN, hn, X, Bu⟩
    obtain ⟨r1, r2⟩ := h.step hk (kl_History hk (by decide)) X Bu (x := rdV 0 (p1 2 s.2.1) s.1) (.inr (.inr ⟨rfl, _, _, _, rfl, hN.low hB, hn⟩))
    exact ⟨rfl, ⟨r1, Nat.le_trans hB r2.size⟩, r2⟩
set_option maxRecDepth 100000 in
theorem rn_Cut {w : World} {g b vb rb o : Nat} {err : Int} {l : List Int} {cs : List Value} {T vt : TypeId} {old : Value} (X : RdA w g b err l) (V : Blk w vb [.pointer (some ⟨g, 0, none⟩)] vt) (R : Blk w rb cs T) (hr : rb ≠ g) (ho : cs[o]? = some old) (hold : ∃ y, old = .int .u64 y) :
    Calls Tryz.prog 154 #[.pointer (some ⟨rb, o, none⟩), .pointer (some ⟨vb, 0, none⟩)] w fun e w' => e = .returned (.tuple #[]) ∧ ∃ w1, w' = w1.setCell ⟨rb, o, none⟩ (.int .u64 (rdV 0 (p1 0 l) err)) ∧ RdA w1 g b (rdE (p1 0 l) err) (rdL (p1 0 l) err l) ∧ But g w w1 := by
  obtain ⟨y, rfl⟩ := hold
  have t := rdU64 X
  show Calls Tryz.prog _ _ w fun e w' => e = .returned (.tuple #[]) ∧ ∃ w1, w' = w1.setCell ⟨rb, o, none⟩ (.int .u64 (rdV 0 (pFix 8 l) err)) ∧ RdA w1 g b (rdE (pFix 8 l) err) (rdL (pFix 8 l) err l) ∧ But g w w1
  generalize rdV 0 (pFix 8 l) err = Y at *
  generalize rdE (pFix 8 l) err = E at *
  generalize rdL (pFix 8 l) err l = Rl at *
  have cv := V.cell (i := 0) rfl
  have HR := hid3 R
  have HNE := hid3 hr
  have HO := hid3 ho
  clear X V R ho hr
  go_enter Tryz.func154, Tryz.ntmps154
  go_wp2_with (go_at_call 155; refine t.mono ?_; rintro e' w1 ⟨rfl, X1, B1⟩; clear t; have R1 := HR.out.chg (But.chg B1) HNE.out; have cr := R1.cell HO.out; have fr := R1.free o; clear R1; replace X1 := hid3 X1)
  go_end0
  exact ⟨rfl, w1, rfl, X1.out, B1⟩
set_option maxRecDepth 100000 in
theorem rt_Cut {w : World} {g b vb rb o : Nat} {err : Int} {l : List Int} {cs : List Value} {T vt : TypeId} {old : Value} (X : RdA w g b err l) (V : Blk w vb [.pointer (some ⟨g, 0, none⟩)] vt) (R : Blk w rb cs T) (hr : rb ≠ g) (ho : cs[o]? = some old) (hold : ∃ y, old = .bool y) :
    Calls Tryz.prog 156 #[.pointer (some ⟨rb, o, none⟩), .pointer (some ⟨vb, 0, none⟩)] w fun e w' => e = .returned (.tuple #[]) ∧ ∃ w1, w' = w1.setCell ⟨rb, o, none⟩ (.bool (rdV false (pBool l) err)) ∧ RdA w1 g b (rdE (p1 1 l) err) (rdL (p1 1 l) err l) ∧ But g w w1 := by
  obtain ⟨y, rfl⟩ := hold
  have t := rdBool X
  show Calls Tryz.prog _ _ w fun e w' => e = .returned (.tuple #[]) ∧ ∃ w1, w' = w1.setCell ⟨rb, o, none⟩ (.bool (rdV false (pBool l) err)) ∧ RdA w1 g b (rdE (pBoolI l) err) (rdL (pBoolI l) err l) ∧ But g w w1
  rw [pBoolI_E, pBoolI_L]
  generalize rdV false (pBool l) err = Y at *
  generalize rdE (pBool l) err = E at *
  generalize rdL (pBool l) err l = Rl at *
  have cv := V.cell (i := 0) rfl
  have HR := hid3 R
  have HNE := hid3 hr
  have HO := hid3 ho
  clear X V R ho hr
  go_enter Tryz.func156, Tryz.ntmps156
  go_wp2_with (go_at_call 157; refine t.mono ?_; rintro e' w1 ⟨rfl, X1, B1⟩; clear t; have R1 := HR.out.chg (But.chg B1) HNE.out; have cr := R1.cell HO.out; have fr := R1.free o; clear R1; replace X1 := hid3 X1)
  go_end0
  exact ⟨rfl, w1, rfl, X1.out, B1⟩
set_option maxRecDepth 100000 in
theorem rd_Cut {w : World} {g b vb rb o : Nat} {err : Int} {l : List Int} {cs : List Value} {T vt : TypeId} {old : Value} (X : RdA w g b err l) (V : Blk w vb [.pointer (some ⟨g, 0, none⟩)] vt) (R : Blk w rb cs T) (hr : rb ≠ g) (ho : cs[o]? = some old) (hold : ∃ a n c, old = .slice a n c) :
    Calls Tryz.prog 158 #[.pointer (some ⟨rb, o, none⟩), .pointer (some ⟨vb, 0, none⟩)] w fun e w' => e = .returned (.tuple #[]) ∧ ∃ w1 ao n c, w' = w1.setCell ⟨rb, o, none⟩ (.slice ao n c) ∧ NatW w1 w.heap.size ao n c (rdV 0 (p1 2 l) err) ∧ n ≤ 255 ∧ RdA w1 g b (rdE (p1 2 l) err) (rdL (p1 2 l) err l) ∧ But g w w1 := by
  obtain ⟨oa, on, oc, rfl⟩ := hold
  have t := rdDecW X
  show Calls Tryz.prog _ _ w fun e w' => e = .returned (.tuple #[]) ∧ ∃ w1 ao n c, w' = w1.setCell ⟨rb, o, none⟩ (.slice ao n c) ∧ NatW w1 w.heap.size ao n c (rdV 0 (pNat l) err) ∧ n ≤ 255 ∧ RdA w1 g b (rdE (pNat l) err) (rdL (pNat l) err l) ∧ But g w w1
  generalize rdV 0 (pNat l) err = Y at *
  generalize rdE (pNat l) err = E at *
  generalize rdL (pNat l) err l = Rl at *
  have cv := V.cell (i := 0) rfl
  have HR := hid3 R
  have HNE := hid3 hr
  have HO := hid3 ho
  clear X V R ho hr
  go_enter Tryz.func158, Tryz.ntmps158
  go_wp2_with (go_at_call 159; refine t.mono ?_; rintro e' w1 ⟨a1, n1, d1, rfl, N1, hn1, X1, B1⟩; clear t; have R1 := HR.out.chg (But.chg B1) HNE.out; have cr := R1.cell HO.out; have fr := R1.free o; clear R1; replace X1 := hid3 X1)
  go_end0
  exact ⟨rfl, w1, a1, n1, d1, rfl, N1, hn1, X1.out, B1⟩
theorem kl_Cut {o k : Nat} (h : kd_Cut o = k) (hk : k ≠ 9) : o < 2 := by
  by_cases ho : o < 2
  · exact ho
  · exfalso
    have : kd_Cut o = 9 := by
      unfold kd_Cut
      rw [List.getD_eq_getElem?_getD, List.getElem?_eq_none (by simp; omega)]
      rfl
    omega
theorem rhc_Cut {w0 : World} {B g b vb rb : Nat} {T vt : TypeId} : HC RSt (fun s w => RI w0 B g b vb rb kd_Cut 2 T vt s w ∧ B ≤ w.heap.size) (fun y => y = g ∨ y = rb) rb 154 156 158 (.pointer (some ⟨vb, 0, none⟩)) rnx kd_Cut (fun _ => True) where
  oks := fun _ _ _ _ => trivial
  keep := fun s w w' h Bl => by
    obtain ⟨h, hB⟩ := h
    obtain ⟨cs, h1, h2, h3⟩ := h.rc
    exact ⟨⟨h.rd.keep Bl, h.var.keep Bl, ⟨cs, h1, h2.keep Bl, h3.off Bl.size (fun y _ hy => Bl.block y hy)⟩, h.bel.trans (Bl.mono h.bel.size), h.s1, h.s2, h.s3, h.s4, h.g1, h.r1, h.g0, h.r0⟩, Nat.le_trans hB Bl.size⟩
  old := fun s w y h e => by
    have := h.1.g1
    have := h.1.r1
    have := h.2
    rcases e with e | e <;> omega
  e1 := fun _ _ => by kernel_rfl
  e2 := fun _ _ => by kernel_rfl
  e3 := fun _ _ => by kernel_rfl
  u := fun s w o h _ hk => by
    obtain ⟨h, hB⟩ := h
    obtain ⟨cs, h1, h2, h3⟩ := h.rc
    refine (rn_Cut h.rd h.var h2 h.s1 ((h3 o).1 hk) ⟨_, rfl⟩).mono ?_
    rintro e w' ⟨rfl, w1, rfl, X, Bu⟩
    obtain ⟨r1, r2⟩ := h.step hk (kl_Cut hk (by decide)) X Bu (.inl ⟨rfl, rfl⟩)
    exact ⟨rfl, ⟨r1, Nat.le_trans hB r2.size⟩, r2⟩
  t := fun s w o h _ hk => by
    obtain ⟨h, hB⟩ := h
    obtain ⟨cs, h1, h2, h3⟩ := h.rc
    obtain ⟨t, ht, _⟩ := (h3 o).2.1 hk
    refine (rt_Cut h.rd h.var h2 h.s1 ht ⟨_, rfl⟩).mono ?_
    rintro e w' ⟨rfl, w1, rfl, X, Bu⟩
    obtain ⟨r1, r2⟩ := h.step hk (kl_Cut hk (by decide)) X Bu (x := rdV 0 (p1 1 s.2.1) s.1) (.inr (.inl ⟨rfl, _, rfl, pBoolI_V _ _⟩))
    exact ⟨rfl, ⟨r1, Nat.le_trans hB r2.size⟩, r2⟩
  d := fun s w o h _ hk => by
    obtain ⟨h, hB⟩ := h
    obtain ⟨cs, h1, h2, h3⟩ := h.rc
    obtain ⟨ao, n, c, ht, _⟩ := (h3 o).2.2 hk
    refine (rd_Cut h.rd h.var h2 h.s1 ht ⟨_, _, _, rfl⟩).mono ?_
    rintro e w' ⟨rfl, w1, a1, n1, c1, rfl, hN, hn, X, Bu⟩
    obtain ⟨r1, r2⟩ := h.step hk (kl_Cut hk (by decide)) X Bu (x := rdV 0 (p1 2 s.2.1) s.1) (.inr (.inr ⟨rfl, _, _, _, rfl, hN.low hB, hn⟩))
    exact ⟨rfl, ⟨r1, Nat.le_trans hB r2.size⟩, r2⟩
set_option maxRecDepth 100000 in
theorem rn_Unbonding {w : World} {g b vb rb o : Nat} {err : Int} {l : List Int} {cs : List Value} {T vt : TypeId} {old : Value} (X : RdA w g b err l) (V : Blk w vb [.pointer (some ⟨g, 0, none⟩)] vt) (R : Blk w rb cs T) (hr : rb ≠ g) (ho : cs[o]? = some old) (hold : ∃ y, old = .int .u64 y) :
    Calls Tryz.prog 194 #[.pointer (some ⟨rb, o, none⟩), .pointer (some ⟨vb, 0, none⟩)] w fun e w' => e = .returned (.tuple #[]) ∧ ∃ w1, w' = w1.setCell ⟨rb, o, none⟩ (.int .u64 (rdV 0 (p1 0 l) err)) ∧ RdA w1 g b (rdE (p1 0 l) err) (rdL (p1 0 l) err l) ∧ But g w w1 := by
  obtain ⟨y, rfl⟩ := hold
  have t := rdU64 X
  show Calls Tryz.prog _ _ w fun e w' => e = .returned (.tuple #[]) ∧ ∃ w1, w' = w1.setCell ⟨rb, o, none⟩ (.int .u64 (rdV 0 (pFix 8 l) err)) ∧ RdA w1 g b (rdE (pFix 8 l) err) (rdL (pFix 8 l) err l) ∧ But g w w1
  generalize rdV 0 (pFix 8 l) err = Y at *
  generalize rdE (pFix 8 l) err = E at *
  generalize rdL (pFix 8 l) err l = Rl at *
  have cv := V.cell (i := 0) rfl
  have HR := hid3 R
  have HNE := hid3 hr
  have HO := hid3 ho
  clear X V R ho hr
  go_enter Tryz.func194, Tryz.ntmps194
  go_wp2_with (go_at_call 155; refine t.mono ?_; rintro e' w1 ⟨rfl, X1, B1⟩; clear t; have R1 := HR.out.chg (But.chg B1) HNE.out; have cr := R1.cell HO.out; have fr := R1.free o; clear R1; replace X1 := hid3 X1)
  go_end0
  exact ⟨rfl, w1, rfl, X1.out, B1⟩
set_option maxRecDepth 100000 in
theorem rt_Unbonding {w : World} {g b vb rb o : Nat} {err : Int} {l : List Int} {cs : List Value} {T vt : TypeId} {old : Value} (X : RdA w g b err l) (V : Blk w vb [.pointer (some ⟨g, 0, none⟩)] vt) (R : Blk w rb cs T) (hr : rb ≠ g) (ho : cs[o]? = some old) (hold : ∃ y, old = .bool y) :
    Calls Tryz.prog 195 #[.pointer (some ⟨rb, o, none⟩), .pointer (some ⟨vb, 0, none⟩)] w fun e w' => e = .returned (.tuple #[]) ∧ ∃ w1, w' = w1.setCell ⟨rb, o, none⟩ (.bool (rdV false (pBool l) err)) ∧ RdA w1 g b (rdE (p1 1 l) err) (rdL (p1 1 l) err l) ∧ But g w w1 := by
  obtain ⟨y, rfl⟩ := hold
  have t := rdBool X
  show Calls Tryz.prog _ _ w fun e w' => e = .returned (.tuple #[]) ∧ ∃ w1, w' = w1.setCell ⟨rb, o, none⟩ (.bool (rdV false (pBool l) err)) ∧ RdA w1 g b (rdE (pBoolI l) err) (rdL (pBoolI l) err l) ∧ But g w w1
  rw [pBoolI_E, pBoolI_L]
  generalize rdV false (pBool l) err = Y at *
  generalize rdE (pBool l) err = E at *
  generalize rdL (pBool l) err l = Rl at *
  have cv := V.cell (i := 0) rfl
  have HR := hid3 R
  have HNE := hid3 hr
  have HO := hid3 ho
  clear X V R ho hr
  go_enter Tryz.func195, Tryz.ntmps195
  go_wp2_with (go_at_call 157; refine t.mono ?_; rintro e' w1 ⟨rfl, X1, B1⟩; clear t; have R1 := HR.out.chg (But.chg B1) HNE.out; have cr := R1.cell HO.out; have fr := R1.free o; clear R1; replace X1 := hid3 X1)
  go_end0
  exact ⟨rfl, w1, rfl, X1.out, B1⟩
set_option maxRecDepth 100000 in
theorem rd_Unbonding {w : World} {g b vb rb o : Nat} {err : Int} {l : List Int} {cs : List Value} {T vt : TypeId} {old : Value} (X : RdA w g b err l) (V : Blk w vb [.pointer (some ⟨g, 0, none⟩)] vt) (R : Blk w rb cs T) (hr : rb ≠ g) (ho : cs[o]? = some old) (hold : ∃ a n c, old = .slice a n c) :
    Calls Tryz.prog 196 #[.pointer (some ⟨rb, o, none⟩), .pointer (some ⟨vb, 0, none⟩)] w fun e w' => e = .returned (.tuple #[]) ∧ ∃ w1 ao n c, w' = w1.setCell ⟨rb, o, none⟩ (.slice ao n c) ∧ NatW w1 w.heap.size ao n c (rdV 0 (p1 2 l) err) ∧ n ≤ 255 ∧ RdA w1 g b (rdE (p1 2 l) err) (rdL (p1 2 l) err l) ∧ But g w w1 := by
  obtain ⟨oa, on, oc, rfl⟩ := hold
  have t := rdDecW X
  show Calls Tryz.prog _ _ w fun e w' => e = .returned (.tuple #[]) ∧ ∃ w1 ao n c, w' = w1.setCell ⟨rb, o, none⟩ (.slice ao n c) ∧ NatW w1 w.heap.size ao n c (rdV 0 (pNat l) err) ∧ n ≤ 255 ∧ RdA w1 g b (rdE (pNat l) err) (rdL (pNat l) err l) ∧ But g w w1
  generalize rdV 0 (pNat l) err = Y at *
  generalize rdE (pNat l) err = E at *
  generalize rdL (pNat l) err l = Rl at *
  have cv := V.cell (i := 0) rfl
  have HR := hid3 R
  have HNE := hid3 hr
  have HO := hid3 ho
  clear X V R ho hr
  go_enter Tryz.func196, Tryz.ntmps196
  go_wp2_with (go_at_call 159; refine t.mono ?_; rintro e' w1 ⟨a1, n1, d1, rfl, N1, hn1, X1, B1⟩; clear t; have R1 := HR.out.chg (But.chg B1) HNE.out; have cr := R1.cell HO.out; have fr := R1.free o; clear R1; replace X1 := hid3 X1)
  go_end0
  exact ⟨rfl, w1, a1, n1, d1, rfl, N1, hn1, X1.out, B1⟩
theorem kl_Unbonding {o k : Nat} (h : kd_Unbonding o = k) (hk : k ≠ 9) : o < 6 := by
  by_cases ho : o < 6
  · exact ho
  · exfalso
    have : kd_Unbonding o = 9 := by
      unfold kd_Unbonding
      rw [List.getD_eq_getElem?_getD, List.getElem?_eq_none (by simp; omega)]
      rfl
    omega
theorem rhc_Unbonding {w0 : World} {B g b vb rb : Nat} {T vt : TypeId} : HC RSt (fun s w => RI w0 B g b vb rb kd_Unbonding 6 T vt s w ∧ B ≤ w.heap.size) (fun y => y = g ∨ y = rb) rb 194 195 196 (.pointer (some ⟨vb, 0, none⟩)) rnx kd_Unbonding (fun _ => True) where
  oks := fun _ _ _ _ => trivial
  keep := fun s w w' h Bl => by
    obtain ⟨h, hB⟩ := h
    obtain ⟨cs, h1, h2, h3⟩ := h.rc
    exact ⟨⟨h.rd.keep Bl, h.var.keep Bl, ⟨cs, h1, h2.keep Bl, h3.off Bl.size (fun y _ hy => Bl.block y hy)⟩, h.bel.trans (Bl.mono h.bel.size), h.s1, h.s2, h.s3, h.s4, h.g1, h.r1, h.g0, h.r0⟩, Nat.le_trans hB Bl.size⟩
  old := fun s w y h e => by
    have := h.1.g1
    have := h.1.r1
    have := h.2
    rcases e with e | e <;> omega
  e1 := fun _ _ => by kernel_rfl
  e2 := fun _ _ => by kernel_rfl
  e3 := fun _ _ => by kernel_rfl
  u := fun s w o h _ hk => by
    obtain ⟨h, hB⟩ := h
    obtain ⟨cs, h1, h2, h3⟩ := h.rc
    refine (rn_Unbonding h.rd h.var h2 h.s1 ((h3 o).1 hk) ⟨_, rfl⟩).mono ?_
    rintro e w' ⟨rfl, w1, rfl, X, Bu⟩
    obtain ⟨r1, r2⟩ := h.step hk (kl_Unbonding hk (by decide)) X Bu (.inl ⟨rfl, rfl⟩)
    exact ⟨rfl, ⟨r1, Nat.le_trans hB r2.size⟩, r2⟩
  t := fun s w o h _ hk => by
    obtain ⟨h, hB⟩ := h
    obtain ⟨cs, h1, h2, h3⟩ := h.rc
    obtain ⟨t, ht, _⟩ := (h3 o).2.1 hk
    refine (rt_Unbonding h.rd h.var h2 h.s1 ht ⟨_, rfl⟩).mono ?_
    rintro e w' ⟨rfl, w1, rfl, X, Bu⟩
    obtain ⟨r1, r2⟩ := h.step hk (kl_Unbonding hk (by decide)) X Bu (x := rdV 0 (p1 1 s.2.1) s.1) (.inr (.inl ⟨rfl, _, rfl, pBoolI_V _ _⟩))
    exact ⟨rfl, ⟨r1, Nat.le_trans hB r2.size⟩, r2⟩
  d := fun s w o h _ hk => by
    obtain ⟨h, hB⟩ := h
    obtain ⟨cs, h1, h2, h3⟩ := h.rc
    obtain ⟨ao, n, c, ht, _⟩ := (h3 o).2.2 hk
    refine (rd_Unbonding h.rd h.var h2 h.s1 ht ⟨_, _, _, rfl⟩).mono ?_
    rintro e w' ⟨rfl, w1, a1, n1, c1, rfl, hN, hn, X, Bu⟩
    obtain ⟨r1, r2⟩ := h.step hk (kl_Unbonding hk (by decide)) X Bu (x := rdV 0 (p1 2 s.2.1) s.1) (.inr (.inr ⟨rfl, _, _, _, rfl, hN.low hB, hn⟩))
    exact ⟨rfl, ⟨r1, Nat.le_trans hB r2.size⟩, r2⟩
set_option maxRecDepth 100000 in
theorem rn_Move {w : World} {g b vb rb o : Nat} {err : Int} {l : List Int} {cs : List Value} {T vt : TypeId} {old : Value} (X : RdA w g b err l) (V : Blk w vb [.pointer (some ⟨g, 0, none⟩)] vt) (R : Blk w rb cs T) (hr : rb ≠ g) (ho : cs[o]? = some old) (hold : ∃ y, old = .int .u64 y) :
    Calls Tryz.prog 197 #[.pointer (some ⟨rb, o, none⟩), .pointer (some ⟨vb, 0, none⟩)] w fun e w' => e = .returned (.tuple #[]) ∧ ∃ w1, w' = w1.setCell ⟨rb, o, none⟩ (.int .u64 (rdV 0 (p1 0 l) err)) ∧ RdA w1 g b (rdE (p1 0 l) err) (rdL (p1 0 l) err l) ∧ But g w w1 := by
  obtain ⟨y, rfl⟩ := hold
  have t := rdU64 X
  show Calls Tryz.prog _ _ w fun e w' => e = .returned (.tuple #[]) ∧ ∃ w1, w' = w1.setCell ⟨rb, o, none⟩ (.int .u64 (rdV 0 (pFix 8 l) err)) ∧ RdA w1 g b (rdE (pFix 8 l) err) (rdL (pFix 8 l) err l) ∧ But g w w1
  generalize rdV 0 (pFix 8 l) err = Y at *
  generalize rdE (pFix 8 l) err = E at *
  generalize rdL (pFix 8 l) err l = Rl at *
  have cv := V.cell (i := 0) rfl
  have HR := hid3 R
  have HNE := hid3 hr
  have HO := hid3 ho
  clear X V R ho hr
  go_enter Tryz.func197, Tryz.ntmps197
  go_wp2_with (go_at_call 155; refine t.mono ?_; rintro e' w1 ⟨rfl, X1, B1⟩; clear t; have R1 := HR.out.chg (But.chg B1) HNE.out; have cr := R1.cell HO.out; have fr := R1.free o; clear R1; replace X1 := hid3 X1)
  go_end0
  exact ⟨rfl, w1, rfl, X1.out, B1⟩
set_option maxRecDepth 100000 in
theorem rt_Move {w : World} {g b vb rb o : Nat} {err : Int} {l : List Int} {cs : List Value} {T vt : TypeId} {old : Value} (X : RdA w g b err l) (V : Blk w vb [.pointer (some ⟨g, 0, none⟩)] vt) (R : Blk w rb cs T) (hr : rb ≠ g) (ho : cs[o]? = some old) (hold : ∃ y, old = .bool y) :
    Calls Tryz.prog 198 #[.pointer (some ⟨rb, o, none⟩), .pointer (some ⟨vb, 0, none⟩)] w fun e w' => e = .returned (.tuple #[]) ∧ ∃ w1, w' = w1.setCell ⟨rb, o, none⟩ (.bool (rdV false (pBool l) err)) ∧ RdA w1 g b (rdE (p1 1 l) err) (rdL (p1 1 l) err l) ∧ But g w w1 := by
  obtain ⟨y, rfl⟩ := hold
  have t := rdBool X
  show Calls Tryz.prog _ _ w fun e w' => e = .returned (.tuple #[]) ∧ ∃ w1, w' = w1.setCell ⟨rb, o, none⟩ (.bool (rdV false (pBool l) err)) ∧ RdA w1 g b (rdE (pBoolI l) err) (rdL (pBoolI l) err l) ∧ But g w w1
  rw [pBoolI_E, pBoolI_L]
  generalize rdV false (pBool l) err = Y at *
  generalize rdE (pBool l) err = E at *
  generalize rdL (pBool l) err l = Rl at *
  have cv := V.cell (i := 0) rfl
  have HR := hid3 R
  have HNE := hid3 hr
  have HO := hid3 ho
  clear X V R ho hr
  go_enter Tryz.func198, Tryz.ntmps198
  go_wp2_with (go_at_call 157; refine t.mono ?_; rintro e' w1 ⟨rfl, X1, B1⟩; clear t; have R1 := HR.out.chg (But.chg B1) HNE.out; have cr := R1.cell HO.out; have fr := R1.free o; clear R1; replace X1 := hid3 X1)
  go_end0
  exact ⟨rfl, w1, rfl, X1.out, B1⟩
set_option maxRecDepth 100000 in
theorem rd_Move {w : World} {g b vb rb o : Nat} {err : Int} {l : List Int} {cs : List Value} {T vt : TypeId} {old : Value} (X : RdA w g b err l) (V : Blk w vb [.pointer (some ⟨g, 0, none⟩)] vt) (R : Blk w rb cs T) (hr : rb ≠ g) (ho : cs[o]? = some old) (hold : ∃ a n c, old = .slice a n c) :
    Calls Tryz.prog 199 #[.pointer (some ⟨rb, o, none⟩), .pointer (some ⟨vb, 0, none⟩)] w fun e w' => e = .returned (.tuple #[]) ∧ ∃ w1 ao n c, w' = w1.setCell ⟨rb, o, none⟩ (.slice ao n c) ∧ NatW w1 w.heap.size ao n c (rdV 0 (p1 2 l) err) ∧ n ≤ 255 ∧ RdA w1 g b (rdE (p1 2 l) err) (rdL (p1 2 l) err l) ∧ But g w w1 := by
  obtain ⟨oa, on, oc, rfl⟩ := hold
  have t := rdDecW X
  show Calls Tryz.prog _ _ w fun e w' => e = .returned (.tuple #[]) ∧ ∃ w1 ao n c, w' = w1.setCell ⟨rb, o, none⟩ (.slice ao n c) ∧ NatW w1 w.heap.size ao n c (rdV 0 (pNat l) err) ∧ n ≤ 255 ∧ RdA w1 g b (rdE (pNat l) err) (rdL (pNat l) err l) ∧ But g w w1
  generalize rdV 0 (pNat l) err = Y at *
  generalize rdE (pNat l) err = E at *
  generalize rdL (pNat l) err l = Rl at *
  have cv := V.cell (i := 0) rfl
  have HR := hid3 R
  have HNE := hid3 hr
  have HO := hid3 ho
  clear X V R ho hr
  go_enter Tryz.func199, Tryz.ntmps199
  go_wp2_with (go_at_call 159; refine t.mono ?_; rintro e' w1 ⟨a1, n1, d1, rfl, N1, hn1, X1, B1⟩; clear t; have R1 := HR.out.chg (But.chg B1) HNE.out; have cr := R1.cell HO.out; have fr := R1.free o; clear R1; replace X1 := hid3 X1)
  go_end0
  exact ⟨rfl, w1, a1, n1, d1, rfl, N1, hn1, X1.out, B1⟩
theorem kl_Move {o k : Nat} (h : kd_Move o = k) (hk : k ≠ 9) : o < 7 := by
  by_cases ho : o < 7
  · exact ho
  · exfalso
    have : kd_Move o = 9 := by
      unfold kd_Move
      rw [List.getD_eq_getElem?_getD, List.getElem?_eq_none (by simp; omega)]
      rfl
    omega
theorem rhc_Move {w0 : World} {B g b vb rb : Nat} {T vt : TypeId} : HC RSt (fun s w => RI w0 B g b vb rb kd_Move 7 T vt s w ∧ B ≤ w.heap.size) (fun y => y = g ∨ y = rb) rb 197 198 199 (.pointer (some ⟨vb, 0, none⟩)) rnx kd_Move (fun _ => True) where
  oks := fun _ _ _ _ => trivial
  keep := fun s w w' h Bl => by
    obtain ⟨h, hB⟩ := h
    obtain ⟨cs, h1, h2, h3⟩ := h.rc
    exact ⟨⟨h.rd.keep Bl, h.var.keep Bl, ⟨cs, h1, h2.keep Bl, h3.off Bl.size (fun y _ hy => Bl.block y hy)⟩, h.bel.trans (Bl.mono h.bel.size), h.s1, h.s2, h.s3, h.s4, h.g1, h.r1, h.g0, h.r0⟩, Nat.le_trans hB Bl.size⟩
  old := fun s w y h e => by
    have := h.1.g1
    have := h.1.r1
    have := h.2
    rcases e with e | e <;> omega
  e1 := fun _ _ => by kernel_rfl
  e2 := fun _ _ => by kernel_rfl
  e3 := fun _ _ => by kernel_rfl
  u := fun s w o h _ hk => by
    obtain ⟨h, hB⟩ := h
    obtain ⟨cs, h1, h2, h3⟩ := h.rc
    refine (rn_Move h.rd h.var h2 h.s1 ((h3 o).1 hk) ⟨_, rfl⟩).mono ?_
    rintro e w' ⟨rfl, w1, rfl, X, Bu⟩
    obtain ⟨r1, r2⟩ := h.step hk (kl_Move hk (by decide)) X Bu (.inl ⟨rfl, rfl⟩)
    exact ⟨rfl, ⟨r1, Nat.le_trans hB r2.size⟩, r2⟩
  t := fun s w o h _ hk => by
    obtain ⟨h, hB⟩ := h
    obtain ⟨cs, h1, h2, h3⟩ := h.rc
    obtain ⟨t, ht, _⟩ := (h3 o).2.1 hk
    refine (rt_Move h.rd h.var h2 h.s1 ht ⟨_, rfl⟩).mono ?_
    rintro e w' ⟨rfl, w1, rfl, X, Bu⟩
    obtain ⟨r1, r2⟩ := h.step hk (kl_Move hk (by decide)) X Bu (x := rdV 0 (p1 1 s.2.1) s.1) (.inr (.inl ⟨rfl, _, rfl, pBoolI_V _ _⟩))
    exact ⟨rfl, ⟨r1, Nat.le_trans hB r2.size⟩, r2⟩
  d := fun s w o h _ hk => by
    obtain ⟨h, hB⟩ := h
    obtain ⟨cs, h1, h2, h3⟩ := h.rc
    obtain ⟨ao, n, c, ht, _⟩ := (h3 o).2.2 hk
    refine (rd_Move h.rd h.var h2 h.s1 ht ⟨_, _, _, rfl⟩).mono ?_
    rintro e w' ⟨rfl, w1, a1, n1, c1, rfl, hN, hn, X, Bu⟩
    obtain ⟨r1, r2⟩ := h.step hk (kl_Move hk (by decide)) X Bu (x := rdV 0 (p1 2 s.2.1) s.1) (.inr (.inr ⟨rfl, _, _, _, rfl, hN.low hB, hn⟩))
    exact ⟨rfl, ⟨r1, Nat.le_trans hB r2.size⟩, r2⟩
set_option maxRecDepth 100000 in
theorem rn_Number {w : World} {g b vb rb o : Nat} {err : Int} {l : List Int} {cs : List Value} {T vt : TypeId} {old : Value} (X : RdA w g b err l) (V : Blk w vb [.pointer (some ⟨g, 0, none⟩)] vt) (R : Blk w rb cs T) (hr : rb ≠ g) (ho : cs[o]? = some old) (hold : ∃ y, old = .int .u64 y) :
    Calls Tryz.prog 170 #[.pointer (some ⟨rb, o, none⟩), .pointer (some ⟨vb, 0, none⟩)] w fun e w' => e = .returned (.tuple #[]) ∧ ∃ w1, w' = w1.setCell ⟨rb, o, none⟩ (.int .u64 (rdV 0 (p1 0 l) err)) ∧ RdA w1 g b (rdE (p1 0 l) err) (rdL (p1 0 l) err l) ∧ But g w w1 := by
  obtain ⟨y, rfl⟩ := hold
  have t := rdU64 X
  show Calls Tryz.prog _ _ w fun e w' => e = .returned (.tuple #[]) ∧ ∃ w1, w' = w1.setCell ⟨rb, o, none⟩ (.int .u64 (rdV 0 (pFix 8 l) err)) ∧ RdA w1 g b (rdE (pFix 8 l) err) (rdL (pFix 8 l) err l) ∧ But g w w1
  generalize rdV 0 (pFix 8 l) err = Y at *
  generalize rdE (pFix 8 l) err = E at *
  generalize rdL (pFix 8 l) err l = Rl at *
  have cv := V.cell (i := 0) rfl
  have HR := hid3 R
  have HNE := hid3 hr
  have HO := hid3 ho
  clear X V R ho hr
  go_enter Tryz.func170, Tryz.ntmps170
  go_wp2_with (go_at_call 155; refine t.mono ?_; rintro e' w1 ⟨rfl, X1, B1⟩; clear t; have R1 := HR.out.chg (But.chg B1) HNE.out; have cr := R1.cell HO.out; have fr := R1.free o; clear R1; replace X1 := hid3 X1)
  go_end0
  exact ⟨rfl, w1, rfl, X1.out, B1⟩
set_option maxRecDepth 100000 in
theorem rt_Number {w : World} {g b vb rb o : Nat} {err : Int} {l : List Int} {cs : List Value} {T vt : TypeId} {old : Value} (X : RdA w g b err l) (V : Blk w vb [.pointer (some ⟨g, 0, none⟩)] vt) (R : Blk w rb cs T) (hr : rb ≠ g) (ho : cs[o]? = some old) (hold : ∃ y, old = .bool y) :
    Calls Tryz.prog 171 #[.pointer (some ⟨rb, o, none⟩), .pointer (some ⟨vb, 0, none⟩)] w fun e w' => e = .returned (.tuple #[]) ∧ ∃ w1, w' = w1.setCell ⟨rb, o, none⟩ (.bool (rdV false (pBool l) err)) ∧ RdA w1 g b (rdE (p1 1 l) err) (rdL (p1 1 l) err l) ∧ But g w w1 := by
  obtain ⟨y, rfl⟩ := hold
  have t := rdBool X
  show Calls Tryz.prog _ _ w fun e w' => e = .returned (.tuple #[]) ∧ ∃ w1, w' = w1.setCell ⟨rb, o, none⟩ (.bool (rdV false (pBool l) err)) ∧ RdA w1 g b (rdE (pBoolI l) err) (rdL (pBoolI l) err l) ∧ But g w w1
  rw [pBoolI_E, pBoolI_L]
  generalize rdV false (pBool l) err = Y at *
  generalize rdE (pBool l) err = E at *
  generalize rdL (pBool l) err l = Rl at *
  have cv := V.cell (i := 0) rfl
  have HR := hid3 R
  have HNE := hid3 hr
  have HO := hid3 ho
  clear X V R ho hr
  go_enter Tryz.func171, Tryz.ntmps171
  go_wp2_with (go_at_call 157; refine t.mono ?_; rintro e' w1 ⟨rfl, X1, B1⟩; clear t; have R1 := HR.out.chg (But.chg B1) HNE.out; have cr := R1.cell HO.out; have fr := R1.free o; clear R1; replace X1 := hid3 X1)
  go_end0
  exact ⟨rfl, w1, rfl, X1.out, B1⟩
set_option maxRecDepth 100000 in
theorem rd_Number {w : World} {g b vb rb o : Nat} {err : Int} {l : List Int} {cs : List Value} {T vt : TypeId} {old : Value} (X : RdA w g b err l) (V : Blk w vb [.pointer (some ⟨g, 0, none⟩)] vt) (R : Blk w rb cs T) (hr : rb ≠ g) (ho : cs[o]? = some old) (hold : ∃ a n c, old = .slice a n c) :
    Calls Tryz.prog 172 #[.pointer (some ⟨rb, o, none⟩), .pointer (some ⟨vb, 0, none⟩)] w fun e w' => e = .returned (.tuple #[]) ∧ ∃ w1 ao n c, w' = w1.setCell ⟨rb, o, none⟩ (.slice ao n c) ∧ NatW w1 w.heap.size ao n c (rdV 0 (p1 2 l) err) ∧ n ≤ 255 ∧ RdA w1 g b (rdE (p1 2 l) err) (rdL (p1 2 l) err l) ∧ But g w w1 := by
  obtain ⟨oa, on, oc, rfl⟩ := hold
  have t := rdDecW X
  show Calls Tryz.prog _ _ w fun e w' => e = .returned (.tuple #[]) ∧ ∃ w1 ao n c, w' = w1.setCell ⟨rb, o, none⟩ (.slice ao n c) ∧ NatW w1 w.heap.size ao n c (rdV 0 (pNat l) err) ∧ n ≤ 255 ∧ RdA w1 g b (rdE (pNat l) err) (rdL (pNat l) err l) ∧ But g w w1
  generalize rdV 0 (pNat l) err = Y at *
  generalize rdE (pNat l) err = E at *
  generalize rdL (pNat l) err l = Rl at *
  have cv := V.cell (i := 0) rfl
  have HR := hid3 R
  have HNE := hid3 hr
  have HO := hid3 ho
  clear X V R ho hr
  go_enter Tryz.func172, Tryz.ntmps172
  go_wp2_with (go_at_call 159; refine t.mono ?_; rintro e' w1 ⟨a1, n1, d1, rfl, N1, hn1, X1, B1⟩; clear t; have R1 := HR.out.chg (But.chg B1) HNE.out; have cr := R1.cell HO.out; have fr := R1.free o; clear R1; replace X1 := hid3 X1)
  go_end0
  exact ⟨rfl, w1, a1, n1, d1, rfl, N1, hn1, X1.out, B1⟩
theorem kl_Number {o k : Nat} (h : kd_Number o = k) (hk : k ≠ 9) : o < 1 := by
  by_cases ho : o < 1
  · exact ho
  · exfalso
    have : kd_Number o = 9 := by
      unfold kd_Number
      rw [List.getD_eq_getElem?_getD, List.getElem?_eq_none (by simp; omega)]
      rfl
    omega
theorem rhc_Number {w0 : World} {B g b vb rb : Nat} {T vt : TypeId} : HC RSt (fun s w => RI w0 B g b vb rb kd_Number 1 T vt s w ∧ B ≤ w.heap.size) (fun y => y = g ∨ y = rb) rb 170 171 172 (.pointer (some ⟨vb, 0, none⟩)) rnx kd_Number (fun _ => True) where
  oks := fun _ _ _ _ => trivial
  keep := fun s w w' h Bl => by
    obtain ⟨h, hB⟩ := h
    obtain ⟨cs, h1, h2, h3⟩ := h.rc
    exact ⟨⟨h.rd.keep Bl, h.var.keep Bl, ⟨cs, h1, h2.keep Bl, h3.off Bl.size (fun y _ hy => Bl.block y hy)⟩, h.bel.trans (Bl.mono h.bel.size), h.s1, h.s2, h.s3, h.s4, h.g1, h.r1, h.g0, h.r0⟩, Nat.le_trans hB Bl.size⟩
  old := fun s w y h e => by
    have := h.1.g1
    have := h.1.r1
    have := h.2
    rcases e with e | e <;> omega
  e1 := fun _ _ => by kernel_rfl
  e2 := fun _ _ => by kernel_rfl
  e3 := fun _ _ => by kernel_rfl
  u := fun s w o h _ hk => by
    obtain ⟨h, hB⟩ := h
    obtain ⟨cs, h1, h2, h3⟩ := h.rc
    refine (rn_Number h.rd h.var h2 h.s1 ((h3 o).1 hk) ⟨_, rfl⟩).mono ?_
    rintro e w' ⟨rfl, w1, rfl, X, Bu⟩
    obtain ⟨r1, r2⟩ := h.step hk (kl_Number hk (by decide)) X Bu (.inl ⟨rfl, rfl⟩)
    exact ⟨rfl, ⟨r1, Nat.le_trans hB r2.size⟩, r2⟩
  t := fun s w o h _ hk => by
    obtain ⟨h, hB⟩ := h
    obtain ⟨cs, h1, h2, h3⟩ := h.rc
    obtain ⟨t, ht, _⟩ := (h3 o).2.1 hk
    refine (rt_Number h.rd h.var h2 h.s1 ht ⟨_, rfl⟩).mono ?_
    rintro e w' ⟨rfl, w1, rfl, X, Bu⟩
    obtain ⟨r1, r2⟩ := h.step hk (kl_Number hk (by decide)) X Bu (x := rdV 0 (p1 1 s.2.1) s.1) (.inr (.inl ⟨rfl, _, rfl, pBoolI_V _ _⟩))
    exact ⟨rfl, ⟨r1, Nat.le_trans hB r2.size⟩, r2⟩
  d := fun s w o h _ hk => by
    obtain ⟨h, hB⟩ := h
    obtain ⟨cs, h1, h2, h3⟩ := h.rc
    obtain ⟨ao, n, c, ht, _⟩ := (h3 o).2.2 hk
    refine (rd_Number h.rd h.var h2 h.s1 ht ⟨_, _, _, rfl⟩).mono ?_
    rintro e w' ⟨rfl, w1, a1, n1, c1, rfl, hN, hn, X, Bu⟩
    obtain ⟨r1, r2⟩ := h.step hk (kl_Number hk (by decide)) X Bu (x := rdV 0 (p1 2 s.2.1) s.1) (.inr (.inr ⟨rfl, _, _, _, rfl, hN.low hB, hn⟩))
    exact ⟨rfl, ⟨r1, Nat.le_trans hB r2.size⟩, r2⟩
end Rc
end Go.Proofs.YtenlhceceplldaaGreat
