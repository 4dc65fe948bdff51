/- Several texts, joined: RcD, RcE, RcF. -/
import Derived.Test.YtenlhceceplldaaGreatJea
namespace Go.Proofs.YtenlhceceplldaaGreat
namespace Rc
open Go.RowKit Go.Lib Pg
attribute [local go_sem] Oper.semAt_some
theorem enc1_len (k : Nat) (x : Int) : (enc1 k x).length ≤ 300 := by
  unfold enc1
  split
  · rw [be_length]; decide
  · rw [be_length]; decide
  · have := fit_len x
    simp only [cntd, List.length_append, be_length]
    omega
/-- a field laid behind what there is -/
def pnx (xs : Nat → Int) (k o : Nat) (L : List Int) : List Int := L ++ enc1 k (xs o)
theorem pnx_len (xs : Nat → Int) (l : List (Nat × Nat)) : ∀ L : List Int, (thr (pnx xs) l L).length ≤ L.length + 300 * l.length := by
  induction l with
  | nil => intro L; simp [thr]
  | cons p l ih =>
    intro L
    have h := ih (pnx xs p.1 p.2 L)
    have h2 := enc1_len p.1 (xs p.2)
    have e : thr (pnx xs) (p :: l) L = thr (pnx xs) l (pnx xs p.1 p.2 L) := rfl
    rw [e]
    simp only [pnx, List.length_append] at h
    simp only [List.length_cons]
    simp only [pnx]
    omega
def okL (L : List Int) : Prop := L.length ≤ 1000000000000
structure PI (w0 : World) (bw rb : Nat) (cs : List Value) (T : TypeId) (L : List Int) (w : World) : Prop where
  wr : WrA w bw 0 L
  bel : Below w0.heap.size w0 w
  blk : Blk w rb cs T
  hb : w0.heap.size ≤ bw
  ne : rb ≠ bw
/-- a record's cells and what they are worth -/
def FldP (w0 : World) (kd : Nat → Nat) (cs : List Value) (xs : Nat → Int) : Prop := ∀ o, (kd o = 0 → cs[o]? = some (.int .u64 (xs o))) ∧ (kd o = 1 → ∃ b : Bool, cs[o]? = some (.bool b) ∧ xs o = if b then 1 else 0) ∧ (kd o = 2 → ∃ ao n c, cs[o]? = some (.slice ao n c) ∧ NatA w0 ao n c (xs o) ∧ n ≤ 1000000)
theorem PI.step {w0 w w' : World} {bw rb : Nat} {cs : List Value} {T : TypeId} {L L' : List Int} (h : PI w0 bw rb cs T L w) (X : WrA w' bw 0 L') (B : But bw w w') : PI w0 bw rb cs T L' w' :=
  ⟨X, B.below h.bel h.hb (Nat.le_refl _), h.blk.chg (But.chg B) (fun e => h.ne e), h.hb, h.ne⟩
set_option maxRecDepth 100000 in
theorem pn_Params {w : World} {bw rb o : Nat} {L : List Int} {x : Int} (c : w.cell? ⟨rb, o, none⟩ = some (.int .u64 x)) (X : WrA w bw 0 L) (hL : L.length ≤ 1000000000000) :
    Calls Tryz.prog 98 #[.pointer (some ⟨rb, o, none⟩), .pointer (some ⟨bw, 0, none⟩)] w fun e w' => e = .returned (.tuple #[]) ∧ WrA w' bw 0 (L ++ enc1 0 x) ∧ But bw w w' := by
  have t := wrU64 (x := x) X (by omega)
  clear X
  go_enter Tryz.func98, Tryz.ntmps98
  go_wp2_with (go_at_call 99; refine t.mono ?_; rintro e' w1 ⟨rfl, X1, B1⟩; clear t)
  go_end0
  exact ⟨rfl, X1, B1⟩
set_option maxRecDepth 100000 in
theorem pt_Params {w : World} {bw rb o : Nat} {L : List Int} {x : Bool} {y : Int} (hy : (if x then (1 : Int) else 0) = y) (c : w.cell? ⟨rb, o, none⟩ = some (.bool x)) (X : WrA w bw 0 L) (hL : L.length ≤ 1000000000000) :
    Calls Tryz.prog 100 #[.pointer (some ⟨rb, o, none⟩), .pointer (some ⟨bw, 0, none⟩)] w fun e w' => e = .returned (.tuple #[]) ∧ WrA w' bw 0 (L ++ enc1 1 y) ∧ But bw w w' := by
  have t := wrBool (x := x) X (by omega)
  rw [hy] at t
  clear X hy
  go_enter Tryz.func100, Tryz.ntmps100
  go_wp2_with (go_at_call 101; refine t.mono ?_; rintro e' w1 ⟨rfl, X1, B1⟩; clear t)
  go_end0
  exact ⟨rfl, X1, B1⟩
set_option maxRecDepth 100000 in
theorem pd_Params {w : World} {bw rb o : Nat} {L : List Int} {ao : Option Addr} {n c : Nat} {V : Int} (cc : w.cell? ⟨rb, o, none⟩ = some (.slice ao n c)) (hV : NatA w ao n c V) (hn : n ≤ 1000000) (X : WrA w bw 0 L) (hL : L.length ≤ 1000000000000) :
    Calls Tryz.prog 102 #[.pointer (some ⟨rb, o, none⟩), .pointer (some ⟨bw, 0, none⟩)] w fun e w' => e = .returned (.tuple #[]) ∧ WrA w' bw 0 (L ++ enc1 2 V) ∧ But bw w w' := by
  have t := fitting_any hV hn
  have HX := hid3 X
  clear X hV
  go_enter Tryz.func102, Tryz.ntmps102
  go_wp2_with first
    | (go_at_call 104; refine t.mono ?_; rintro e' w1 ⟨a1, n1, c1, rfl, N1, hn1, B1⟩; clear t)
    | (go_at_call 103; refine (wrDec (HX.out.keep B1) N1 (by omega) (by omega)).mono ?_; rintro e' w2 ⟨rfl, X2, B2⟩)
  go_end0
  have hE : natE (fit V) 0 = 0 := by unfold natE; rw [if_pos (fit_len V)]
  have hL2 : natL (fit V) 0 L = L ++ enc1 2 V := by unfold natL wrote; rw [if_pos (fit_len V), if_pos rfl]; rfl
  rw [hE, hL2] at X2
  exact ⟨rfl, X2, (But.of B1).trans B2⟩
def kd_Params (o : Nat) : Nat := ([0, 0, 0, 0, 0, 0, 0, 0, 0, 0] : List Nat).getD o 9
theorem hc_Params {w0 : World} {bw rb : Nat} {cs : List Value} {T : TypeId} {xs : Nat → Int} (F : FldP w0 kd_Params cs xs) : HC (List Int) (PI w0 bw rb cs T) (· = bw) rb 98 100 102 (.pointer (some ⟨bw, 0, none⟩)) (pnx xs) kd_Params okL where
  oks := fun k o L h => by
    unfold okL pnx at *
    rw [List.length_append] at h
    omega
  keep := fun L w w' h B => ⟨h.wr.keep B, h.bel.trans (B.mono h.bel.size), h.blk.keep B, h.hb, h.ne⟩
  old := fun L w b h e => by have e' : b = bw := e; subst e'; exact h.wr.lt
  e1 := fun _ _ => by kernel_rfl
  e2 := fun _ _ => by kernel_rfl
  e3 := fun _ _ => by kernel_rfl
  u := fun L w o h hok hk => by
    have hl : L.length ≤ 1000000000000 := by unfold okL pnx at hok; rw [List.length_append] at hok; omega
    refine (pn_Params (h.blk.cell ((F o).1 hk)) h.wr hl).mono ?_
    rintro e w' ⟨rfl, X, B⟩
    exact ⟨rfl, h.step X B, But.chg B⟩
  t := fun L w o h hok hk => by
    have hl : L.length ≤ 1000000000000 := by unfold okL pnx at hok; rw [List.length_append] at hok; omega
    obtain ⟨b, hb, hx⟩ := (F o).2.1 hk
    refine (pt_Params hx.symm (h.blk.cell hb) h.wr hl).mono ?_
    rintro e w' ⟨rfl, X, B⟩
    exact ⟨rfl, h.step X B, But.chg B⟩
  d := fun L w o h hok hk => by
    have hl : L.length ≤ 1000000000000 := by unfold okL pnx at hok; rw [List.length_append] at hok; omega
    obtain ⟨ao, n, c, hb, hV, hn⟩ := (F o).2.2 hk
    refine (pd_Params (h.blk.cell hb) (hV.keep h.bel) hn h.wr hl).mono ?_
    rintro e w' ⟨rfl, X, B⟩
    exact ⟨rfl, h.step X B, But.chg B⟩
set_option maxRecDepth 100000 in
theorem pn_Chain {w : World} {bw rb o : Nat} {L : List Int} {x : Int} (c : w.cell? ⟨rb, o, none⟩ = some (.int .u64 x)) (X : WrA w bw 0 L) (hL : L.length ≤ 1000000000000) :
    Calls Tryz.prog 107 #[.pointer (some ⟨rb, o, none⟩), .pointer (some ⟨bw, 0, none⟩)] w fun e w' => e = .returned (.tuple #[]) ∧ WrA w' bw 0 (L ++ enc1 0 x) ∧ But bw w w' := by
  have t := wrU64 (x := x) X (by omega)
  clear X
  go_enter Tryz.func107, Tryz.ntmps107
  go_wp2_with (go_at_call 99; refine t.mono ?_; rintro e' w1 ⟨rfl, X1, B1⟩; clear t)
  go_end0
  exact ⟨rfl, X1, B1⟩
set_option maxRecDepth 100000 in
theorem pt_Chain {w : World} {bw rb o : Nat} {L : List Int} {x : Bool} {y : Int} (hy : (if x then (1 : Int) else 0) = y) (c : w.cell? ⟨rb, o, none⟩ = some (.bool x)) (X : WrA w bw 0 L) (hL : L.length ≤ 1000000000000) :
    Calls Tryz.prog 108 #[.pointer (some ⟨rb, o, none⟩), .pointer (some ⟨bw, 0, none⟩)] w fun e w' => e = .returned (.tuple #[]) ∧ WrA w' bw 0 (L ++ enc1 1 y) ∧ But bw w w' := by
  have t := wrBool (x := x) X (by omega)
  rw [hy] at t
  clear X hy
  go_enter Tryz.func108, Tryz.ntmps108
  go_wp2_with (go_at_call 101; refine t.mono ?_; rintro e' w1 ⟨rfl, X1, B1⟩; clear t)
  go_end0
  exact ⟨rfl, X1, B1⟩
set_option maxRecDepth 100000 in
theorem pd_Chain {w : World} {bw rb o : Nat} {L : List Int} {ao : Option Addr} {n c : Nat} {V : Int} (cc : w.cell? ⟨rb, o, none⟩ = some (.slice ao n c)) (hV : NatA w ao n c V) (hn : n ≤ 1000000) (X : WrA w bw 0 L) (hL : L.length ≤ 1000000000000) :
    Calls Tryz.prog 109 #[.pointer (some ⟨rb, o, none⟩), .pointer (some ⟨bw, 0, none⟩)] w fun e w' => e = .returned (.tuple #[]) ∧ WrA w' bw 0 (L ++ enc1 2 V) ∧ But bw w w' := by
  have t := fitting_any hV hn
  have HX := hid3 X
  clear X hV
  go_enter Tryz.func109, Tryz.ntmps109
  go_wp2_with first
    | (go_at_call 104; refine t.mono ?_; rintro e' w1 ⟨a1, n1, c1, rfl, N1, hn1, B1⟩; clear t)
    | (go_at_call 103; refine (wrDec (HX.out.keep B1) N1 (by omega) (by omega)).mono ?_; rintro e' w2 ⟨rfl, X2, B2⟩)
  go_end0
  have hE : natE (fit V) 0 = 0 := by unfold natE; rw [if_pos (fit_len V)]
  have hL2 : natL (fit V) 0 L = L ++ enc1 2 V := by unfold natL wrote; rw [if_pos (fit_len V), if_pos rfl]; rfl
  rw [hE, hL2] at X2
  exact ⟨rfl, X2, (But.of B1).trans B2⟩
def kd_Chain (o : Nat) : Nat := ([0, 0] : List Nat).getD o 9
theorem hc_Chain {w0 : World} {bw rb : Nat} {cs : List Value} {T : TypeId} {xs : Nat → Int} (F : FldP w0 kd_Chain cs xs) : HC (List Int) (PI w0 bw rb cs T) (· = bw) rb 107 108 109 (.pointer (some ⟨bw, 0, none⟩)) (pnx xs) kd_Chain okL where
  oks := fun k o L h => by
    unfold okL pnx at *
    rw [List.length_append] at h
    omega
  keep := fun L w w' h B => ⟨h.wr.keep B, h.bel.trans (B.mono h.bel.size), h.blk.keep B, h.hb, h.ne⟩
  old := fun L w b h e => by have e' : b = bw := e; subst e'; exact h.wr.lt
  e1 := fun _ _ => by kernel_rfl
  e2 := fun _ _ => by kernel_rfl
  e3 := fun _ _ => by kernel_rfl
  u := fun L w o h hok hk => by
    have hl : L.length ≤ 1000000000000 := by unfold okL pnx at hok; rw [List.length_append] at hok; omega
    refine (pn_Chain (h.blk.cell ((F o).1 hk)) h.wr hl).mono ?_
    rintro e w' ⟨rfl, X, B⟩
    exact ⟨rfl, h.step X B, But.chg B⟩
  t := fun L w o h hok hk => by
    have hl : L.length ≤ 1000000000000 := by unfold okL pnx at hok; rw [List.length_append] at hok; omega
    obtain ⟨b, hb, hx⟩ := (F o).2.1 hk
    refine (pt_Chain hx.symm (h.blk.cell hb) h.wr hl).mono ?_
    rintro e w' ⟨rfl, X, B⟩
    exact ⟨rfl, h.step X B, But.chg B⟩
  d := fun L w o h hok hk => by
    have hl : L.length ≤ 1000000000000 := by unfold okL pnx at hok; rw [List.length_append] at hok; omega
    obtain ⟨ao, n, c, hb, hV, hn⟩ := (F o).2.2 hk
    refine (pd_Chain (h.blk.cell hb) (hV.keep h.bel) hn h.wr hl).mono ?_
    rintro e w' ⟨rfl, X, B⟩
    exact ⟨rfl, h.step X B, But.chg B⟩
set_option maxRecDepth 100000 in
theorem pn_Pool {w : World} {bw rb o : Nat} {L : List Int} {x : Int} (c : w.cell? ⟨rb, o, none⟩ = some (.int .u64 x)) (X : WrA w bw 0 L) (hL : L.length ≤ 1000000000000) :
    Calls Tryz.prog 110 #[.pointer (some ⟨rb, o, none⟩), .pointer (some ⟨bw, 0, none⟩)] w fun e w' => e = .returned (.tuple #[]) ∧ WrA w' bw 0 (L ++ enc1 0 x) ∧ But bw w w' := by
  have t := wrU64 (x := x) X (by omega)
  clear X
  go_enter Tryz.func110, Tryz.ntmps110
  go_wp2_with (go_at_call 99; refine t.mono ?_; rintro e' w1 ⟨rfl, X1, B1⟩; clear t)
  go_end0
  exact ⟨rfl, X1, B1⟩
set_option maxRecDepth 100000 in
theorem pt_Pool {w : World} {bw rb o : Nat} {L : List Int} {x : Bool} {y : Int} (hy : (if x then (1 : Int) else 0) = y) (c : w.cell? ⟨rb, o, none⟩ = some (.bool x)) (X : WrA w bw 0 L) (hL : L.length ≤ 1000000000000) :
    Calls Tryz.prog 111 #[.pointer (some ⟨rb, o, none⟩), .pointer (some ⟨bw, 0, none⟩)] w fun e w' => e = .returned (.tuple #[]) ∧ WrA w' bw 0 (L ++ enc1 1 y) ∧ But bw w w' := by
  have t := wrBool (x := x) X (by omega)
  rw [hy] at t
  clear X hy
  go_enter Tryz.func111, Tryz.ntmps111
  go_wp2_with (go_at_call 101; refine t.mono ?_; rintro e' w1 ⟨rfl, X1, B1⟩; clear t)
  go_end0
  exact ⟨rfl, X1, B1⟩
set_option maxRecDepth 100000 in
theorem pd_Pool {w : World} {bw rb o : Nat} {L : List Int} {ao : Option Addr} {n c : Nat} {V : Int} (cc : w.cell? ⟨rb, o, none⟩ = some (.slice ao n c)) (hV : NatA w ao n c V) (hn : n ≤ 1000000) (X : WrA w bw 0 L) (hL : L.length ≤ 1000000000000) :
    Calls Tryz.prog 112 #[.pointer (some ⟨rb, o, none⟩), .pointer (some ⟨bw, 0, none⟩)] w fun e w' => e = .returned (.tuple #[]) ∧ WrA w' bw 0 (L ++ enc1 2 V) ∧ But bw w w' := by
  have t := fitting_any hV hn
  have HX := hid3 X
  clear X hV
  go_enter Tryz.func112, Tryz.ntmps112
  go_wp2_with first
    | (go_at_call 104; refine t.mono ?_; rintro e' w1 ⟨a1, n1, c1, rfl, N1, hn1, B1⟩; clear t)
    | (go_at_call 103; refine (wrDec (HX.out.keep B1) N1 (by omega) (by omega)).mono ?_; rintro e' w2 ⟨rfl, X2, B2⟩)
  go_end0
  have hE : natE (fit V) 0 = 0 := by unfold natE; rw [if_pos (fit_len V)]
  have hL2 : natL (fit V) 0 L = L ++ enc1 2 V := by unfold natL wrote; rw [if_pos (fit_len V), if_pos rfl]; rfl
  rw [hE, hL2] at X2
  exact ⟨rfl, X2, (But.of B1).trans B2⟩
def kd_Pool (o : Nat) : Nat := ([2] : List Nat).getD o 9
theorem hc_Pool {w0 : World} {bw rb : Nat} {cs : List Value} {T : TypeId} {xs : Nat → Int} (F : FldP w0 kd_Pool cs xs) : HC (List Int) (PI w0 bw rb cs T) (· = bw) rb 110 111 112 (.pointer (some ⟨bw, 0, none⟩)) (pnx xs) kd_Pool okL where
  oks := fun k o L h => by
    unfold okL pnx at *
    rw [List.length_append] at h
    omega
  keep := fun L w w' h B => ⟨h.wr.keep B, h.bel.trans (B.mono h.bel.size), h.blk.keep B, h.hb, h.ne⟩
  old := fun L w b h e => by have e' : b = bw := e; subst e'; exact h.wr.lt
  e1 := fun _ _ => by kernel_rfl
  e2 := fun _ _ => by kernel_rfl
  e3 := fun _ _ => by kernel_rfl
  u := fun L w o h hok hk => by
    have hl : L.length ≤ 1000000000000 := by unfold okL pnx at hok; rw [List.length_append] at hok; omega
    refine (pn_Pool (h.blk.cell ((F o).1 hk)) h.wr hl).mono ?_
    rintro e w' ⟨rfl, X, B⟩
    exact ⟨rfl, h.step X B, But.chg B⟩
  t := fun L w o h hok hk => by
    have hl : L.length ≤ 1000000000000 := by unfold okL pnx at hok; rw [List.length_append] at hok; omega
    obtain ⟨b, hb, hx⟩ := (F o).2.1 hk
    refine (pt_Pool hx.symm (h.blk.cell hb) h.wr hl).mono ?_
    rintro e w' ⟨rfl, X, B⟩
    exact ⟨rfl, h.step X B, But.chg B⟩
  d := fun L w o h hok hk => by
    have hl : L.length ≤ 1000000000000 := by unfold okL pnx at hok; rw [List.length_append] at hok; omega
    obtain ⟨ao, n, c, hb, hV, hn⟩ := (F o).2.2 hk
    refine (pd_Pool (h.blk.cell hb) (hV.keep h.bel) hn h.wr hl).mono ?_
    rintro e w' ⟨rfl, X, B⟩
    exact ⟨rfl, h.step X B, But.chg B⟩
set_option maxRecDepth 100000 in
theorem pn_Account {w : World} {bw rb o : Nat} {L : List Int} {x : Int} (c : w.cell? ⟨rb, o, none⟩ = some (.int .u64 x)) (X : WrA w bw 0 L) (hL : L.length ≤ 1000000000000) :
    Calls Tryz.prog 114 #[.pointer (some ⟨rb, o, none⟩), .pointer (some ⟨bw, 0, none⟩)] w fun e w' => e = .returned (.tuple #[]) ∧ WrA w' bw 0 (L ++ enc1 0 x) ∧ But bw w w' := by
  have t := wrU64 (x := x) X (by omega)
  clear X
  go_enter Tryz.func114, Tryz.ntmps114
  go_wp2_with (go_at_call 99; refine t.mono ?_; rintro e' w1 ⟨rfl, X1, B1⟩; clear t)
  go_end0
  exact ⟨rfl, X1, B1⟩
set_option maxRecDepth 100000 in
theorem pt_Account {w : World} {bw rb o : Nat} {L : List Int} {x : Bool} {y : Int} (hy : (if x then (1 : Int) else 0) = y) (c : w.cell? ⟨rb, o, none⟩ = some (.bool x)) (X : WrA w bw 0 L) (hL : L.length ≤ 1000000000000) :
    Calls Tryz.prog 115 #[.pointer (some ⟨rb, o, none⟩), .pointer (some ⟨bw, 0, none⟩)] w fun e w' => e = .returned (.tuple #[]) ∧ WrA w' bw 0 (L ++ enc1 1 y) ∧ But bw w w' := by
  have t := wrBool (x := x) X (by omega)
  rw [hy] at t
  clear X hy
  go_enter Tryz.func115, Tryz.ntmps115
  go_wp2_with (go_at_call 101; refine t.mono ?_; rintro e' w1 ⟨rfl, X1, B1⟩; clear t)
  go_end0
  exact ⟨rfl, X1, B1⟩
set_option maxRecDepth 100000 in
theorem pd_Account {w : World} {bw rb o : Nat} {L : List Int} {ao : Option Addr} {n c : Nat} {V : Int} (cc : w.cell? ⟨rb, o, none⟩ = some (.slice ao n c)) (hV : NatA w ao n c V) (hn : n ≤ 1000000) (X : WrA w bw 0 L) (hL : L.length ≤ 1000000000000) :
    Calls Tryz.prog 116 #[.pointer (some ⟨rb, o, none⟩), .pointer (some ⟨bw, 0, none⟩)] w fun e w' => e = .returned (.tuple #[]) ∧ WrA w' bw 0 (L ++ enc1 2 V) ∧ But bw w w' := by
  have t := fitting_any hV hn
  have HX := hid3 X
  clear X hV
  go_enter Tryz.func116, Tryz.ntmps116
  go_wp2_with first
    | (go_at_call 104; refine t.mono ?_; rintro e' w1 ⟨a1, n1, c1, rfl, N1, hn1, B1⟩; clear t)
    | (go_at_call 103; refine (wrDec (HX.out.keep B1) N1 (by omega) (by omega)).mono ?_; rintro e' w2 ⟨rfl, X2, B2⟩)
  go_end0
  have hE : natE (fit V) 0 = 0 := by unfold natE; rw [if_pos (fit_len V)]
  have hL2 : natL (fit V) 0 L = L ++ enc1 2 V := by unfold natL wrote; rw [if_pos (fit_len V), if_pos rfl]; rfl
  rw [hE, hL2] at X2
  exact ⟨rfl, X2, (But.of B1).trans B2⟩
def kd_Account (o : Nat) : Nat := ([0, 0] : List Nat).getD o 9
theorem hc_Account {w0 : World} {bw rb : Nat} {cs : List Value} {T : TypeId} {xs : Nat → Int} (F : FldP w0 kd_Account cs xs) : HC (List Int) (PI w0 bw rb cs T) (· = bw) rb 114 115 116 (.pointer (some ⟨bw, 0, none⟩)) (pnx xs) kd_Account okL where
  oks := fun k o L h => by
    unfold okL pnx at *
    rw [List.length_append] at h
    omega
  keep := fun L w w' h B => ⟨h.wr.keep B, h.bel.trans (B.mono h.bel.size), h.blk.keep B, h.hb, h.ne⟩
  old := fun L w b h e => by have e' : b = bw := e; subst e'; exact h.wr.lt
  e1 := fun _ _ => by kernel_rfl
  e2 := fun _ _ => by kernel_rfl
  e3 := fun _ _ => by kernel_rfl
  u := fun L w o h hok hk => by
    have hl : L.length ≤ 1000000000000 := by unfold okL pnx at hok; rw [List.length_append] at hok; omega
    refine (pn_Account (h.blk.cell ((F o).1 hk)) h.wr hl).mono ?_
    rintro e w' ⟨rfl, X, B⟩
    exact ⟨rfl, h.step X B, But.chg B⟩
  t := fun L w o h hok hk => by
    have hl : L.length ≤ 1000000000000 := by unfold okL pnx at hok; rw [List.length_append] at hok; omega
    obtain ⟨b, hb, hx⟩ := (F o).2.1 hk
    refine (pt_Account hx.symm (h.blk.cell hb) h.wr hl).mono ?_
    rintro e w' ⟨rfl, X, B⟩
    exact ⟨rfl, h.step X B, But.chg B⟩
  d := fun L w o h hok hk => by
    have hl : L.length ≤ 1000000000000 := by unfold okL pnx at hok; rw [List.length_append] at hok; omega
    obtain ⟨ao, n, c, hb, hV, hn⟩ := (F o).2.2 hk
    refine (pd_Account (h.blk.cell hb) (hV.keep h.bel) hn h.wr hl).mono ?_
    rintro e w' ⟨rfl, X, B⟩
    exact ⟨rfl, h.step X B, But.chg B⟩
set_option maxRecDepth 100000 in
theorem pn_Val {w : World} {bw rb o : Nat} {L : List Int} {x : Int} (c : w.cell? ⟨rb, o, none⟩ = some (.int .u64 x)) (X : WrA w bw 0 L) (hL : L.length ≤ 1000000000000) :
    Calls Tryz.prog 117 #[.pointer (some ⟨rb, o, none⟩), .pointer (some ⟨bw, 0, none⟩)] w fun e w' => e = .returned (.tuple #[]) ∧ WrA w' bw 0 (L ++ enc1 0 x) ∧ But bw w w' := by
  have t := wrU64 (x := x) X (by omega)
  clear X
  go_enter Tryz.func117, Tryz.ntmps117
  go_wp2_with (go_at_call 99; refine t.mono ?_; rintro e' w1 ⟨rfl, X1, B1⟩; clear t)
  go_end0
  exact ⟨rfl, X1, B1⟩
set_option maxRecDepth 100000 in
theorem pt_Val {w : World} {bw rb o : Nat} {L : List Int} {x : Bool} {y : Int} (hy : (if x then (1 : Int) else 0) = y) (c : w.cell? ⟨rb, o, none⟩ = some (.bool x)) (X : WrA w bw 0 L) (hL : L.length ≤ 1000000000000) :
    Calls Tryz.prog 118 #[.pointer (some ⟨rb, o, none⟩), .pointer (some ⟨bw, 0, none⟩)] w fun e w' => e = .returned (.tuple #[]) ∧ WrA w' bw 0 (L ++ enc1 1 y) ∧ But bw w w' := by
  have t := wrBool (x := x) X (by omega)
  rw [hy] at t
  clear X hy
  go_enter Tryz.func118, Tryz.ntmps118
  go_wp2_with (go_at_call 101; refine t.mono ?_; rintro e' w1 ⟨rfl, X1, B1⟩; clear t)
  go_end0
  exact ⟨rfl, X1, B1⟩
set_option maxRecDepth 100000 in
theorem pd_Val {w : World} {bw rb o : Nat} {L : List Int} {ao : Option Addr} {n c : Nat} {V : Int} (cc : w.cell? ⟨rb, o, none⟩ = some (.slice ao n c)) (hV : NatA w ao n c V) (hn : n ≤ 1000000) (X : WrA w bw 0 L) (hL : L.length ≤ 1000000000000) :
    Calls Tryz.prog 119 #[.pointer (some ⟨rb, o, none⟩), .pointer (some ⟨bw, 0, none⟩)] w fun e w' => e = .returned (.tuple #[]) ∧ WrA w' bw 0 (L ++ enc1 2 V) ∧ But bw w w' := by
  have t := fitting_any hV hn
  have HX := hid3 X
  clear X hV
  go_enter Tryz.func119, Tryz.ntmps119
  go_wp2_with first
    | (go_at_call 104; refine t.mono ?_; rintro e' w1 ⟨a1, n1, c1, rfl, N1, hn1, B1⟩; clear t)
    | (go_at_call 103; refine (wrDec (HX.out.keep B1) N1 (by omega) (by omega)).mono ?_; rintro e' w2 ⟨rfl, X2, B2⟩)
  go_end0
  have hE : natE (fit V) 0 = 0 := by unfold natE; rw [if_pos (fit_len V)]
  have hL2 : natL (fit V) 0 L = L ++ enc1 2 V := by unfold natL wrote; rw [if_pos (fit_len V), if_pos rfl]; rfl
  rw [hE, hL2] at X2
  exact ⟨rfl, X2, (But.of B1).trans B2⟩
def kd_Val (o : Nat) : Nat := ([0, 0, 2, 1, 0, 1, 0, 2, 2, 2] : List Nat).getD o 9
theorem hc_Val {w0 : World} {bw rb : Nat} {cs : List Value} {T : TypeId} {xs : Nat → Int} (F : FldP w0 kd_Val cs xs) : HC (List Int) (PI w0 bw rb cs T) (· = bw) rb 117 118 119 (.pointer (some ⟨bw, 0, none⟩)) (pnx xs) kd_Val okL where
  oks := fun k o L h => by
    unfold okL pnx at *
    rw [List.length_append] at h
    omega
  keep := fun L w w' h B => ⟨h.wr.keep B, h.bel.trans (B.mono h.bel.size), h.blk.keep B, h.hb, h.ne⟩
  old := fun L w b h e => by have e' : b = bw := e; subst e'; exact h.wr.lt
  e1 := fun _ _ => by kernel_rfl
  e2 := fun _ _ => by kernel_rfl
  e3 := fun _ _ => by kernel_rfl
  u := fun L w o h hok hk => by
    have hl : L.length ≤ 1000000000000 := by unfold okL pnx at hok; rw [List.length_append] at hok; omega
    refine (pn_Val (h.blk.cell ((F o).1 hk)) h.wr hl).mono ?_
    rintro e w' ⟨rfl, X, B⟩
    exact ⟨rfl, h.step X B, But.chg B⟩
  t := fun L w o h hok hk => by
    have hl : L.length ≤ 1000000000000 := by unfold okL pnx at hok; rw [List.length_append] at hok; omega
    obtain ⟨b, hb, hx⟩ := (F o).2.1 hk
    refine (pt_Val hx.symm (h.blk.cell hb) h.wr hl).mono ?_
    rintro e w' ⟨rfl, X, B⟩
    exact ⟨rfl, h.step X B, But.chg B⟩
  d := fun L w o h hok hk => by
    have hl : L.length ≤ 1000000000000 := by unfold okL pnx at hok; rw [List.length_append] at hok; omega
    obtain ⟨ao, n, c, hb, hV, hn⟩ := (F o).2.2 hk
    refine (pd_Val (h.blk.cell hb) (hV.keep h.bel) hn h.wr hl).mono ?_
    rintro e w' ⟨rfl, X, B⟩
    exact ⟨rfl, h.step X B, But.chg B⟩
set_option maxRecDepth 100000 in
theorem pn_Delegation {w : World} {bw rb o : Nat} {L : List Int} {x : Int} (c : w.cell? ⟨rb, o, none⟩ = some (.int .u64 x)) (X : WrA w bw 0 L) (hL : L.length ≤ 1000000000000) :
    Calls Tryz.prog 120 #[.pointer (some ⟨rb, o, none⟩), .pointer (some ⟨bw, 0, none⟩)] w fun e w' => e = .returned (.tuple #[]) ∧ WrA w' bw 0 (L ++ enc1 0 x) ∧ But bw w w' := by
  have t := wrU64 (x := x) X (by omega)
  clear X
  go_enter Tryz.func120, Tryz.ntmps120
  go_wp2_with (go_at_call 99; refine t.mono ?_; rintro e' w1 ⟨rfl, X1, B1⟩; clear t)
  go_end0
  exact ⟨rfl, X1, B1⟩
set_option maxRecDepth 100000 in
theorem pt_Delegation {w : World} {bw rb o : Nat} {L : List Int} {x : Bool} {y : Int} (hy : (if x then (1 : Int) else 0) = y) (c : w.cell? ⟨rb, o, none⟩ = some (.bool x)) (X : WrA w bw 0 L) (hL : L.length ≤ 1000000000000) :
    Calls Tryz.prog 121 #[.pointer (some ⟨rb, o, none⟩), .pointer (some ⟨bw, 0, none⟩)] w fun e w' => e = .returned (.tuple #[]) ∧ WrA w' bw 0 (L ++ enc1 1 y) ∧ But bw w w' := by
  have t := wrBool (x := x) X (by omega)
  rw [hy] at t
  clear X hy
  go_enter Tryz.func121, Tryz.ntmps121
  go_wp2_with (go_at_call 101; refine t.mono ?_; rintro e' w1 ⟨rfl, X1, B1⟩; clear t)
  go_end0
  exact ⟨rfl, X1, B1⟩
set_option maxRecDepth 100000 in
theorem pd_Delegation {w : World} {bw rb o : Nat} {L : List Int} {ao : Option Addr} {n c : Nat} {V : Int} (cc : w.cell? ⟨rb, o, none⟩ = some (.slice ao n c)) (hV : NatA w ao n c V) (hn : n ≤ 1000000) (X : WrA w bw 0 L) (hL : L.length ≤ 1000000000000) :
    Calls Tryz.prog 122 #[.pointer (some ⟨rb, o, none⟩), .pointer (some ⟨bw, 0, none⟩)] w fun e w' => e = .returned (.tuple #[]) ∧ WrA w' bw 0 (L ++ enc1 2 V) ∧ But bw w w' := by
  have t := fitting_any hV hn
  have HX := hid3 X
  clear X hV
  go_enter Tryz.func122, Tryz.ntmps122
  go_wp2_with first
    | (go_at_call 104; refine t.mono ?_; rintro e' w1 ⟨a1, n1, c1, rfl, N1, hn1, B1⟩; clear t)
    | (go_at_call 103; refine (wrDec (HX.out.keep B1) N1 (by omega) (by omega)).mono ?_; rintro e' w2 ⟨rfl, X2, B2⟩)
  go_end0
  have hE : natE (fit V) 0 = 0 := by unfold natE; rw [if_pos (fit_len V)]
  have hL2 : natL (fit V) 0 L = L ++ enc1 2 V := by unfold natL wrote; rw [if_pos (fit_len V), if_pos rfl]; rfl
  rw [hE, hL2] at X2
  exact ⟨rfl, X2, (But.of B1).trans B2⟩
def kd_Delegation (o : Nat) : Nat := ([2, 0, 2] : List Nat).getD o 9
theorem hc_Delegation {w0 : World} {bw rb : Nat} {cs : List Value} {T : TypeId} {xs : Nat → Int} (F : FldP w0 kd_Delegation cs xs) : HC (List Int) (PI w0 bw rb cs T) (· = bw) rb 120 121 122 (.pointer (some ⟨bw, 0, none⟩)) (pnx xs) kd_Delegation okL where
  oks := fun k o L h => by
    unfold okL pnx at *
    rw [List.length_append] at h
    omega
  keep := fun L w w' h B => ⟨h.wr.keep B, h.bel.trans (B.mono h.bel.size), h.blk.keep B, h.hb, h.ne⟩
  old := fun L w b h e => by have e' : b = bw := e; subst e'; exact h.wr.lt
  e1 := fun _ _ => by kernel_rfl
  e2 := fun _ _ => by kernel_rfl
  e3 := fun _ _ => by kernel_rfl
  u := fun L w o h hok hk => by
    have hl : L.length ≤ 1000000000000 := by unfold okL pnx at hok; rw [List.length_append] at hok; omega
    refine (pn_Delegation (h.blk.cell ((F o).1 hk)) h.wr hl).mono ?_
    rintro e w' ⟨rfl, X, B⟩
    exact ⟨rfl, h.step X B, But.chg B⟩
  t := fun L w o h hok hk => by
    have hl : L.length ≤ 1000000000000 := by unfold okL pnx at hok; rw [List.length_append] at hok; omega
    obtain ⟨b, hb, hx⟩ := (F o).2.1 hk
    refine (pt_Delegation hx.symm (h.blk.cell hb) h.wr hl).mono ?_
    rintro e w' ⟨rfl, X, B⟩
    exact ⟨rfl, h.step X B, But.chg B⟩
  d := fun L w o h hok hk => by
    have hl : L.length ≤ 1000000000000 := by unfold okL pnx at hok; rw [List.length_append] at hok; omega
    obtain ⟨ao, n, c, hb, hV, hn⟩ := (F o).2.2 hk
    refine (pd_Delegation (h.blk.cell hb) (hV.keep h.bel) hn h.wr hl).mono ?_
    rintro e w' ⟨rfl, X, B⟩
    exact ⟨rfl, h.step X B, But.chg B⟩
set_option maxRecDepth 100000 in
theorem pn_History {w : World} {bw rb o : Nat} {L : List Int} {x : Int} (c : w.cell? ⟨rb, o, none⟩ = some (.int .u64 x)) (X : WrA w bw 0 L) (hL : L.length ≤ 1000000000000) :
    Calls Tryz.prog 123 #[.pointer (some ⟨rb, o, none⟩), .pointer (some ⟨bw, 0, none⟩)] w fun e w' => e = .returned (.tuple #[]) ∧ WrA w' bw 0 (L ++ enc1 0 x) ∧ But bw w w' := by
  have t := wrU64 (x := x) X (by omega)
  clear X
  go_enter Tryz.func123, Tryz.ntmps123
  go_wp2_with (go_at_call 99; refine t.mono ?_; rintro e' w1 ⟨rfl, X1, B1⟩; clear t)
  go_end0
  exact ⟨rfl, X1, B1⟩
set_option maxRecDepth 100000 in
theorem pt_History {w : World} {bw rb o : Nat} {L : List Int} {x : Bool} {y : Int} (hy : (if x then (1 : Int) else 0) = y) (c : w.cell? ⟨rb, o, none⟩ = some (.bool x)) (X : WrA w bw 0 L) (hL : L.length ≤ 1000000000000) :
    Calls Tryz.prog 124 #[.pointer (some ⟨rb, o, none⟩), .pointer (some ⟨bw, 0, none⟩)] w fun e w' => e = .returned (.tuple #[]) ∧ WrA w' bw 0 (L ++ enc1 1 y) ∧ But bw w w' := by
  have t := wrBool (x := x) X (by omega)
  rw [hy] at t
  clear X hy
  go_enter Tryz.func124, Tryz.ntmps124
  go_wp2_with (go_at_call 101; refine t.mono ?_; rintro e' w1 ⟨rfl, X1, B1⟩; clear t)
  go_end0
  exact ⟨rfl, X1, B1⟩
set_option maxRecDepth 100000 in
theorem pd_History {w : World} {bw rb o : Nat} {L : List Int} {ao : Option Addr} {n c : Nat} {V : Int} (cc : w.cell? ⟨rb, o, none⟩ = some (.slice ao n c)) (hV : NatA w ao n c V) (hn : n ≤ 1000000) (X : WrA w bw 0 L) (hL : L.length ≤ 1000000000000) :
    Calls Tryz.prog 125 #[.pointer (some ⟨rb, o, none⟩), .pointer (some ⟨bw, 0, none⟩)] w fun e w' => e = .returned (.tuple #[]) ∧ WrA w' bw 0 (L ++ enc1 2 V) ∧ But bw w w' := by
  have t := fitting_any hV hn
  have HX := hid3 X
  clear X hV
  go_enter Tryz.func125, Tryz.ntmps125
  go_wp2_with first
    | (go_at_call 104; refine t.mono ?_; rintro e' w1 ⟨a1, n1, c1, rfl, N1, hn1, B1⟩; clear t)
    | (go_at_call 103; refine (wrDec (HX.out.keep B1) N1 (by omega) (by omega)).mono ?_; rintro e' w2 ⟨rfl, X2, B2⟩)
  go_end0
  have hE : natE (fit V) 0 = 0 := by unfold natE; rw [if_pos (fit_len V)]
  have hL2 : natL (fit V) 0 L = L ++ enc1 2 V := by unfold natL wrote; rw [if_pos (fit_len V), if_pos rfl]; rfl
  rw [hE, hL2] at X2
  exact ⟨rfl, X2, (But.of B1).trans B2⟩
def kd_History (o : Nat) : Nat := ([2, 0] : List Nat).getD o 9
theorem hc_History {w0 : World} {bw rb : Nat} {cs : List Value} {T : TypeId} {xs : Nat → Int} (F : FldP w0 kd_History cs xs) : HC (List Int) (PI w0 bw rb cs T) (· = bw) rb 123 124 125 (.pointer (some ⟨bw, 0, none⟩)) (pnx xs) kd_History okL where
  oks := fun k o L h => by
    unfold okL pnx at *
    rw [List.length_append] at h
    omega
  keep := fun L w w' h B => ⟨h.wr.keep B, h.bel.trans (B.mono h.bel.size), h.blk.keep B, h.hb, h.ne⟩
  old := fun L w b h e => by have e' : b = bw := e; subst e'; exact h.wr.lt
  e1 := fun _ _ => by kernel_rfl
  e2 := fun _ _ => by kernel_rfl
  e3 := fun _ _ => by kernel_rfl
  u := fun L w o h hok hk => by
    have hl : L.length ≤ 1000000000000 := by unfold okL pnx at hok; rw [List.length_append] at hok; omega
    refine (pn_History (h.blk.cell ((F o).1 hk)) h.wr hl).mono ?_
    rintro e w' ⟨rfl, X, B⟩
    exact ⟨rfl, h.step X B, But.chg B⟩
  t := fun L w o h hok hk => by
    have hl : L.length ≤ 1000000000000 := by unfold okL pnx at hok; rw [List.length_append] at hok; omega
    obtain ⟨b, hb, hx⟩ := (F o).2.1 hk
    refine (pt_History hx.symm (h.blk.cell hb) h.wr hl).mono ?_
    rintro e w' ⟨rfl, X, B⟩
    exact ⟨rfl, h.step X B, But.chg B⟩
  d := fun L w o h hok hk => by
    have hl : L.length ≤ 1000000000000 := by unfold okL pnx at hok; rw [List.length_append] at hok; omega
    obtain ⟨ao, n, c, hb, hV, hn⟩ := (F o).2.2 hk
    refine (pd_History (h.blk.cell hb) (hV.keep h.bel) hn h.wr hl).mono ?_
    rintro e w' ⟨rfl, X, B⟩
    exact ⟨rfl, h.step X B, But.chg B⟩
set_option maxRecDepth 100000 in
theorem pn_Cut {w : World} {bw rb o : Nat} {L : List Int} {x : Int} (c : w.cell? ⟨rb, o, none⟩ = some (.int .u64 x)) (X : WrA w bw 0 L) (hL : L.length ≤ 1000000000000) :
    Calls Tryz.prog 126 #[.pointer (some ⟨rb, o, none⟩), .pointer (some ⟨bw, 0, none⟩)] w fun e w' => e = .returned (.tuple #[]) ∧ WrA w' bw 0 (L ++ enc1 0 x) ∧ But bw w w' := by
  have t := wrU64 (x := x) X (by omega)
  clear X
  go_enter Tryz.func126, Tryz.ntmps126
  go_wp2_with (go_at_call 99; refine t.mono ?_; rintro e' w1 ⟨rfl, X1, B1⟩; clear t)
  go_end0
  exact ⟨rfl, X1, B1⟩
set_option maxRecDepth 100000 in
theorem pt_Cut {w : World} {bw rb o : Nat} {L : List Int} {x : Bool} {y : Int} (hy : (if x then (1 : Int) else 0) = y) (c : w.cell? ⟨rb, o, none⟩ = some (.bool x)) (X : WrA w bw 0 L) (hL : L.length ≤ 1000000000000) :
    Calls Tryz.prog 127 #[.pointer (some ⟨rb, o, none⟩), .pointer (some ⟨bw, 0, none⟩)] w fun e w' => e = .returned (.tuple #[]) ∧ WrA w' bw 0 (L ++ enc1 1 y) ∧ But bw w w' := by
  have t := wrBool (x := x) X (by omega)
  rw [hy] at t
  clear X hy
  go_enter Tryz.func127, Tryz.ntmps127
  go_wp2_with (go_at_call 101; refine t.mono ?_; rintro e' w1 ⟨rfl, X1, B1⟩; clear t)
  go_end0
  exact ⟨rfl, X1, B1⟩
set_option maxRecDepth 100000 in
theorem pd_Cut {w : World} {bw rb o : Nat} {L : List Int} {ao : Option Addr} {n c : Nat} {V : Int} (cc : w.cell? ⟨rb, o, none⟩ = some (.slice ao n c)) (hV : NatA w ao n c V) (hn : n ≤ 1000000) (X : WrA w bw 0 L) (hL : L.length ≤ 1000000000000) :
    Calls Tryz.prog 128 #[.pointer (some ⟨rb, o, none⟩), .pointer (some ⟨bw, 0, none⟩)] w fun e w' => e = .returned (.tuple #[]) ∧ WrA w' bw 0 (L ++ enc1 2 V) ∧ But bw w w' := by
  have t := fitting_any hV hn
  have HX := hid3 X
  clear X hV
  go_enter Tryz.func128, Tryz.ntmps128
  go_wp2_with first
    | (go_at_call 104; refine t.mono ?_; rintro e' w1 ⟨a1, n1, c1, rfl, N1, hn1, B1⟩; clear t)
    | (go_at_call 103; refine (wrDec (HX.out.keep B1) N1 (by omega) (by omega)).mono ?_; rintro e' w2 ⟨rfl, X2, B2⟩)
  go_end0
  have hE : natE (fit V) 0 = 0 := by unfold natE; rw [if_pos (fit_len V)]
  have hL2 : natL (fit V) 0 L = L ++ enc1 2 V := by unfold natL wrote; rw [if_pos (fit_len V), if_pos rfl]; rfl
  rw [hE, hL2] at X2
  exact ⟨rfl, X2, (But.of B1).trans B2⟩
def kd_Cut (o : Nat) : Nat := ([0, 0] : List Nat).getD o 9
theorem hc_Cut {w0 : World} {bw rb : Nat} {cs : List Value} {T : TypeId} {xs : Nat → Int} (F : FldP w0 kd_Cut cs xs) : HC (List Int) (PI w0 bw rb cs T) (· = bw) rb 126 127 128 (.pointer (some ⟨bw, 0, none⟩)) (pnx xs) kd_Cut okL where
  oks := fun k o L h => by
    unfold okL pnx at *
    rw [List.length_append] at h
    omega
  keep := fun L w w' h B => ⟨h.wr.keep B, h.bel.trans (B.mono h.bel.size), h.blk.keep B, h.hb, h.ne⟩
  old := fun L w b h e => by have e' : b = bw := e; subst e'; exact h.wr.lt
  e1 := fun _ _ => by kernel_rfl
  e2 := fun _ _ => by kernel_rfl
  e3 := fun _ _ => by kernel_rfl
  u := fun L w o h hok hk => by
    have hl : L.length ≤ 1000000000000 := by unfold okL pnx at hok; rw [List.length_append] at hok; omega
    refine (pn_Cut (h.blk.cell ((F o).1 hk)) h.wr hl).mono ?_
    rintro e w' ⟨rfl, X, B⟩
    exact ⟨rfl, h.step X B, But.chg B⟩
  t := fun L w o h hok hk => by
    have hl : L.length ≤ 1000000000000 := by unfold okL pnx at hok; rw [List.length_append] at hok; omega
    obtain ⟨b, hb, hx⟩ := (F o).2.1 hk
    refine (pt_Cut hx.symm (h.blk.cell hb) h.wr hl).mono ?_
    rintro e w' ⟨rfl, X, B⟩
    exact ⟨rfl, h.step X B, But.chg B⟩
  d := fun L w o h hok hk => by
    have hl : L.length ≤ 1000000000000 := by unfold okL pnx at hok; rw [List.length_append] at hok; omega
    obtain ⟨ao, n, c, hb, hV, hn⟩ := (F o).2.2 hk
    refine (pd_Cut (h.blk.cell hb) (hV.keep h.bel) hn h.wr hl).mono ?_
    rintro e w' ⟨rfl, X, B⟩
    exact ⟨rfl, h.step X B, But.chg B⟩
set_option maxRecDepth 100000 in
theorem pn_Unbonding {w : World} {bw rb o : Nat} {L : List Int} {x : Int} (c : w.cell? ⟨rb, o, none⟩ = some (.int .u64 x)) (X : WrA w bw 0 L) (hL : L.length ≤ 1000000000000) :
    Calls Tryz.prog 129 #[.pointer (some ⟨rb, o, none⟩), .pointer (some ⟨bw, 0, none⟩)] w fun e w' => e = .returned (.tuple #[]) ∧ WrA w' bw 0 (L ++ enc1 0 x) ∧ But bw w w' := by
  have t := wrU64 (x := x) X (by omega)
  clear X
  go_enter Tryz.func129, Tryz.ntmps129
  go_wp2_with (go_at_call 99; refine t.mono ?_; rintro e' w1 ⟨rfl, X1, B1⟩; clear t)
  go_end0
  exact ⟨rfl, X1, B1⟩
set_option maxRecDepth 100000 in
theorem pt_Unbonding {w : World} {bw rb o : Nat} {L : List Int} {x : Bool} {y : Int} (hy : (if x then (1 : Int) else 0) = y) (c : w.cell? ⟨rb, o, none⟩ = some (.bool x)) (X : WrA w bw 0 L) (hL : L.length ≤ 1000000000000) :
    Calls Tryz.prog 130 #[.pointer (some ⟨rb, o, none⟩), .pointer (some ⟨bw, 0, none⟩)] w fun e w' => e = .returned (.tuple #[]) ∧ WrA w' bw 0 (L ++ enc1 1 y) ∧ But bw w w' := by
  have t := wrBool (x := x) X (by omega)
  rw [hy] at t
  clear X hy
  go_enter Tryz.func130, Tryz.ntmps130
  go_wp2_with (go_at_call 101; refine t.mono ?_; rintro e' w1 ⟨rfl, X1, B1⟩; clear t)
  go_end0
  exact ⟨rfl, X1, B1⟩
set_option maxRecDepth 100000 in
theorem pd_Unbonding {w : World} {bw rb o : Nat} {L : List Int} {ao : Option Addr} {n c : Nat} {V : Int} (cc : w.cell? ⟨rb, o, none⟩ = some (.slice ao n c)) (hV : NatA w ao n c V) (hn : n ≤ 1000000) (X : WrA w bw 0 L) (hL : L.length ≤ 1000000000000) :
    Calls Tryz.prog 131 #[.pointer (some ⟨rb, o, none⟩), .pointer (some ⟨bw, 0, none⟩)] w fun e w' => e = .returned (.tuple #[]) ∧ WrA w' bw 0 (L ++ enc1 2 V) ∧ But bw w w' := by
  have t := fitting_any hV hn
  have HX := hid3 X
  clear X hV
  go_enter Tryz.func131, Tryz.ntmps131
  go_wp2_with first
    | (go_at_call 104; refine t.mono ?_; rintro e' w1 ⟨a1, n1, c1, rfl, N1, hn1, B1⟩; clear t)
    | (go_at_call 103; refine (wrDec (HX.out.keep B1) N1 (by omega) (by omega)).mono ?_; rintro e' w2 ⟨rfl, X2, B2⟩)
  go_end0
  have hE : natE (fit V) 0 = 0 := by unfold natE; rw [if_pos (fit_len V)]
  have hL2 : natL (fit V) 0 L = L ++ enc1 2 V := by unfold natL wrote; rw [if_pos (fit_len V), if_pos rfl]; rfl
  rw [hE, hL2] at X2
  exact ⟨rfl, X2, (But.of B1).trans B2⟩
def kd_Unbonding (o : Nat) : Nat := ([0, 0, 0, 0, 0, 0] : List Nat).getD o 9
theorem hc_Unbonding {w0 : World} {bw rb : Nat} {cs : List Value} {T : TypeId} {xs : Nat → Int} (F : FldP w0 kd_Unbonding cs xs) : HC (List Int) (PI w0 bw rb cs T) (· = bw) rb 129 130 131 (.pointer (some ⟨bw, 0, none⟩)) (pnx xs) kd_Unbonding okL where
  oks := fun k o L h => by
    unfold okL pnx at *
    rw [List.length_append] at h
    omega
  keep := fun L w w' h B => ⟨h.wr.keep B, h.bel.trans (B.mono h.bel.size), h.blk.keep B, h.hb, h.ne⟩
  old := fun L w b h e => by have e' : b = bw := e; subst e'; exact h.wr.lt
  e1 := fun _ _ => by kernel_rfl
  e2 := fun _ _ => by kernel_rfl
  e3 := fun _ _ => by kernel_rfl
  u := fun L w o h hok hk => by
    have hl : L.length ≤ 1000000000000 := by unfold okL pnx at hok; rw [List.length_append] at hok; omega
    refine (pn_Unbonding (h.blk.cell ((F o).1 hk)) h.wr hl).mono ?_
    rintro e w' ⟨rfl, X, B⟩
    exact ⟨rfl, h.step X B, But.chg B⟩
  t := fun L w o h hok hk => by
    have hl : L.length ≤ 1000000000000 := by unfold okL pnx at hok; rw [List.length_append] at hok; omega
    obtain ⟨b, hb, hx⟩ := (F o).2.1 hk
    refine (pt_Unbonding hx.symm (h.blk.cell hb) h.wr hl).mono ?_
    rintro e w' ⟨rfl, X, B⟩
    exact ⟨rfl, h.step X B, But.chg B⟩
  d := fun L w o h hok hk => by
    have hl : L.length ≤ 1000000000000 := by unfold okL pnx at hok; rw [List.length_append] at hok; omega
    obtain ⟨ao, n, c, hb, hV, hn⟩ := (F o).2.2 hk
    refine (pd_Unbonding (h.blk.cell hb) (hV.keep h.bel) hn h.wr hl).mono ?_
    rintro e w' ⟨rfl, X, B⟩
    exact ⟨rfl, h.step X B, But.chg B⟩
set_option maxRecDepth 100000 in
theorem pn_Move {w : World} {bw rb o : Nat} {L : List Int} {x : Int} (c : w.cell? ⟨rb, o, none⟩ = some (.int .u64 x)) (X : WrA w bw 0 L) (hL : L.length ≤ 1000000000000) :
    Calls Tryz.prog 132 #[.pointer (some ⟨rb, o, none⟩), .pointer (some ⟨bw, 0, none⟩)] w fun e w' => e = .returned (.tuple #[]) ∧ WrA w' bw 0 (L ++ enc1 0 x) ∧ But bw w w' := by
  have t := wrU64 (x := x) X (by omega)
  clear X
  go_enter Tryz.func132, Tryz.ntmps132
  go_wp2_with (go_at_call 99; refine t.mono ?_; rintro e' w1 ⟨rfl, X1, B1⟩; clear t)
  go_end0
  exact ⟨rfl, X1, B1⟩
set_option maxRecDepth 100000 in
theorem pt_Move {w : World} {bw rb o : Nat} {L : List Int} {x : Bool} {y : Int} (hy : (if x then (1 : Int) else 0) = y) (c : w.cell? ⟨rb, o, none⟩ = some (.bool x)) (X : WrA w bw 0 L) (hL : L.length ≤ 1000000000000) :
    Calls Tryz.prog 133 #[.pointer (some ⟨rb, o, none⟩), .pointer (some ⟨bw, 0, none⟩)] w fun e w' => e = .returned (.tuple #[]) ∧ WrA w' bw 0 (L ++ enc1 1 y) ∧ But bw w w' := by
  have t := wrBool (x := x) X (by omega)
  rw [hy] at t
  clear X hy
  go_enter Tryz.func133, Tryz.ntmps133
  go_wp2_with (go_at_call 101; refine t.mono ?_; rintro e' w1 ⟨rfl, X1, B1⟩; clear t)
  go_end0
  exact ⟨rfl, X1, B1⟩
set_option maxRecDepth 100000 in
theorem pd_Move {w : World} {bw rb o : Nat} {L : List Int} {ao : Option Addr} {n c : Nat} {V : Int} (cc : w.cell? ⟨rb, o, none⟩ = some (.slice ao n c)) (hV : NatA w ao n c V) (hn : n ≤ 1000000) (X : WrA w bw 0 L) (hL : L.length ≤ 1000000000000) :
    Calls Tryz.prog 134 #[.pointer (some ⟨rb, o, none⟩), .pointer (some ⟨bw, 0, none⟩)] w fun e w' => e = .returned (.tuple #[]) ∧ WrA w' bw 0 (L ++ enc1 2 V) ∧ But bw w w' := by
  have t := fitting_any hV hn
  have HX := hid3 X
  clear X hV
  go_enter Tryz.func134, Tryz.ntmps134
  go_wp2_with first
    | (go_at_call 104; refine t.mono ?_; rintro e' w1 ⟨a1, n1, c1, rfl, N1, hn1, B1⟩; clear t)
    | (go_at_call 103; refine (wrDec (HX.out.keep B1) N1 (by omega) (by omega)).mono ?_; rintro e' w2 ⟨rfl, X2, B2⟩)
  go_end0
  have hE : natE (fit V) 0 = 0 := by unfold natE; rw [if_pos (fit_len V)]
  have hL2 : natL (fit V) 0 L = L ++ enc1 2 V := by unfold natL wrote; rw [if_pos (fit_len V), if_pos rfl]; rfl
  rw [hE, hL2] at X2
  exact ⟨rfl, X2, (But.of B1).trans B2⟩
def kd_Move (o : Nat) : Nat := ([0, 0, 0, 0, 0, 0, 2] : List Nat).getD o 9
theorem hc_Move {w0 : World} {bw rb : Nat} {cs : List Value} {T : TypeId} {xs : Nat → Int} (F : FldP w0 kd_Move cs xs) : HC (List Int) (PI w0 bw rb cs T) (· = bw) rb 132 133 134 (.pointer (some ⟨bw, 0, none⟩)) (pnx xs) kd_Move okL where
  oks := fun k o L h => by
    unfold okL pnx at *
    rw [List.length_append] at h
    omega
  keep := fun L w w' h B => ⟨h.wr.keep B, h.bel.trans (B.mono h.bel.size), h.blk.keep B, h.hb, h.ne⟩
  old := fun L w b h e => by have e' : b = bw := e; subst e'; exact h.wr.lt
  e1 := fun _ _ => by kernel_rfl
  e2 := fun _ _ => by kernel_rfl
  e3 := fun _ _ => by kernel_rfl
  u := fun L w o h hok hk => by
    have hl : L.length ≤ 1000000000000 := by unfold okL pnx at hok; rw [List.length_append] at hok; omega
    refine (pn_Move (h.blk.cell ((F o).1 hk)) h.wr hl).mono ?_
    rintro e w' ⟨rfl, X, B⟩
    exact ⟨rfl, h.step X B, But.chg B⟩
  t := fun L w o h hok hk => by
    have hl : L.length ≤ 1000000000000 := by unfold okL pnx at hok; rw [List.length_append] at hok; omega
    obtain ⟨b, hb, hx⟩ := (F o).2.1 hk
    refine (pt_Move hx.symm (h.blk.cell hb) h.wr hl).mono ?_
    rintro e w' ⟨rfl, X, B⟩
    exact ⟨rfl, h.step X B, But.chg B⟩
  d := fun L w o h hok hk => by
    have hl : L.length ≤ 1000000000000 := by unfold okL pnx at hok; rw [List.length_append] at hok; omega
    obtain ⟨ao, n, c, hb, hV, hn⟩ := (F o).2.2 hk
    refine (pd_Move (h.blk.cell hb) (hV.keep h.bel) hn h.wr hl).mono ?_
    rintro e w' ⟨rfl, X, B⟩
    exact ⟨rfl, h.step X B, But.chg B⟩
set_option maxRecDepth 100000 in
theorem pn_Number {w : World} {bw rb o : Nat} {L : List Int} {x : Int} (c : w.cell? ⟨rb, o, none⟩ = some (.int .u64 x)) (X : WrA w bw 0 L) (hL : L.length ≤ 1000000000000) :
    Calls Tryz.prog 135 #[.pointer (some ⟨rb, o, none⟩), .pointer (some ⟨bw, 0, none⟩)] w fun e w' => e = .returned (.tuple #[]) ∧ WrA w' bw 0 (L ++ enc1 0 x) ∧ But bw w w' := by
  have t := wrU64 (x := x) X (by omega)
  clear X
  go_enter Tryz.func135, Tryz.ntmps135
  go_wp2_with (go_at_call 99; refine t.mono ?_; rintro e' w1 ⟨rfl, X1, B1⟩; clear t)
  go_end0
  exact ⟨rfl, X1, B1⟩
set_option maxRecDepth 100000 in
theorem pt_Number {w : World} {bw rb o : Nat} {L : List Int} {x : Bool} {y : Int} (hy : (if x then (1 : Int) else 0) = y) (c : w.cell? ⟨rb, o, none⟩ = some (.bool x)) (X : WrA w bw 0 L) (hL : L.length ≤ 1000000000000) :
    Calls Tryz.prog 136 #[.pointer (some ⟨rb, o, none⟩), .pointer (some ⟨bw, 0, none⟩)] w fun e w' => e = .returned (.tuple #[]) ∧ WrA w' bw 0 (L ++ enc1 1 y) ∧ But bw w w' := by
  have t := wrBool (x := x) X (by omega)
  rw [hy] at t
  clear X hy
  go_enter Tryz.func136, Tryz.ntmps136
  go_wp2_with (go_at_call 101; refine t.mono ?_; rintro e' w1 ⟨rfl, X1, B1⟩; clear t)
  go_end0
  exact ⟨rfl, X1, B1⟩
set_option maxRecDepth 100000 in
theorem pd_Number {w : World} {bw rb o : Nat} {L : List Int} {ao : Option Addr} {n c : Nat} {V : Int} (cc : w.cell? ⟨rb, o, none⟩ = some (.slice ao n c)) (hV : NatA w ao n c V) (hn : n ≤ 1000000) (X : WrA w bw 0 L) (hL : L.length ≤ 1000000000000) :
    Calls Tryz.prog 137 #[.pointer (some ⟨rb, o, none⟩), .pointer (some ⟨bw, 0, none⟩)] w fun e w' => e = .returned (.tuple #[]) ∧ WrA w' bw 0 (L ++ enc1 2 V) ∧ But bw w w' := by
  have t := fitting_any hV hn
  have HX := hid3 X
  clear X hV
  go_enter Tryz.func137, Tryz.ntmps137
  go_wp2_with first
    | (go_at_call 104; refine t.mono ?_; rintro e' w1 ⟨a1, n1, c1, rfl, N1, hn1, B1⟩; clear t)
    | (go_at_call 103; refine (wrDec (HX.out.keep B1) N1 (by omega) (by omega)).mono ?_; rintro e' w2 ⟨rfl, X2, B2⟩)
  go_end0
  have hE : natE (fit V) 0 = 0 := by unfold natE; rw [if_pos (fit_len V)]
  have hL2 : natL (fit V) 0 L = L ++ enc1 2 V := by unfold natL wrote; rw [if_pos (fit_len V), if_pos rfl]; rfl
  rw [hE, hL2] at X2
  exact ⟨rfl, X2, (But.of B1).trans B2⟩
def kd_Number (o : Nat) : Nat := ([0] : List Nat).getD o 9
theorem hc_Number {w0 : World} {bw rb : Nat} {cs : List Value} {T : TypeId} {xs : Nat → Int} (F : FldP w0 kd_Number cs xs) : HC (List Int) (PI w0 bw rb cs T) (· = bw) rb 135 136 137 (.pointer (some ⟨bw, 0, none⟩)) (pnx xs) kd_Number okL where
  oks := fun k o L h => by
    unfold okL pnx at *
    rw [List.length_append] at h
    omega
  keep := fun L w w' h B => ⟨h.wr.keep B, h.bel.trans (B.mono h.bel.size), h.blk.keep B, h.hb, h.ne⟩
  old := fun L w b h e => by have e' : b = bw := e; subst e'; exact h.wr.lt
  e1 := fun _ _ => by kernel_rfl
  e2 := fun _ _ => by kernel_rfl
  e3 := fun _ _ => by kernel_rfl
  u := fun L w o h hok hk => by
    have hl : L.length ≤ 1000000000000 := by unfold okL pnx at hok; rw [List.length_append] at hok; omega
    refine (pn_Number (h.blk.cell ((F o).1 hk)) h.wr hl).mono ?_
    rintro e w' ⟨rfl, X, B⟩
    exact ⟨rfl, h.step X B, But.chg B⟩
  t := fun L w o h hok hk => by
    have hl : L.length ≤ 1000000000000 := by unfold okL pnx at hok; rw [List.length_append] at hok; omega
    obtain ⟨b, hb, hx⟩ := (F o).2.1 hk
    refine (pt_Number hx.symm (h.blk.cell hb) h.wr hl).mono ?_
    rintro e w' ⟨rfl, X, B⟩
    exact ⟨rfl, h.step X B, But.chg B⟩
  d := fun L w o h hok hk => by
    have hl : L.length ≤ 1000000000000 := by unfold okL pnx at hok; rw [List.length_append] at hok; omega
    obtain ⟨ao, n, c, hb, hV, hn⟩ := (F o).2.2 hk
    refine (pd_Number (h.blk.cell hb) (hV.keep h.bel) hn h.wr hl).mono ?_
    rintro e w' ⟨rfl, X, B⟩
    exact ⟨rfl, h.step X B, But.chg B⟩
end Rc
end Go.Proofs.YtenlhceceplldaaGreat

namespace Go.Proofs.YtenlhceceplldaaGreat
namespace Rc
open Go.RowKit Go.Lib Pg
attribute [local go_sem] Oper.semAt_some
theorem fl_Params {w : World} {x0 : Int} {x1 : Int} {x2 : Int} {x3 : Int} {x4 : Int} {x5 : Int} {x6 : Int} {x7 : Int} {x8 : Int} {x9 : Int} : FldP w kd_Params [.int .u64 x0, .int .u64 x1, .int .u64 x2, .int .u64 x3, .int .u64 x4, .int .u64 x5, .int .u64 x6, .int .u64 x7, .int .u64 x8, .int .u64 x9] (fun o => ([x0, x1, x2, x3, x4, x5, x6, x7, x8, x9] : List Int).getD o 0) := fun o => match o with
    | 0 => ⟨fun _ => rfl, fun h => absurd h (by decide), fun h => absurd h (by decide)⟩
    | 1 => ⟨fun _ => rfl, fun h => absurd h (by decide), fun h => absurd h (by decide)⟩
    | 2 => ⟨fun _ => rfl, fun h => absurd h (by decide), fun h => absurd h (by decide)⟩
    | 3 => ⟨fun _ => rfl, fun h => absurd h (by decide), fun h => absurd h (by decide)⟩
    | 4 => ⟨fun _ => rfl, fun h => absurd h (by decide), fun h => absurd h (by decide)⟩
    | 5 => ⟨fun _ => rfl, fun h => absurd h (by decide), fun h => absurd h (by decide)⟩
    | 6 => ⟨fun _ => rfl, fun h => absurd h (by decide), fun h => absurd h (by decide)⟩
    | 7 => ⟨fun _ => rfl, fun h => absurd h (by decide), fun h => absurd h (by decide)⟩
    | 8 => ⟨fun _ => rfl, fun h => absurd h (by decide), fun h => absurd h (by decide)⟩
    | 9 => ⟨fun _ => rfl, fun h => absurd h (by decide), fun h => absurd h (by decide)⟩
    | k + 10 => ⟨fun h => absurd h (by simp [kd_Params]), fun h => absurd h (by simp [kd_Params]), fun h => absurd h (by simp [kd_Params])⟩
set_option maxHeartbeats 2000000 in
set_option maxRecDepth 100000 in
theorem put_Params {w : World} {x0 : Int} {x1 : Int} {x2 : Int} {x3 : Int} {x4 : Int} {x5 : Int} {x6 : Int} {x7 : Int} {x8 : Int} {x9 : Int} :
    Calls Tryz.prog 46 #[.agg #[.int .u64 x0, .int .u64 x1, .int .u64 x2, .int .u64 x3, .int .u64 x4, .int .u64 x5, .int .u64 x6, .int .u64 x7, .int .u64 x8, .int .u64 x9], .func (.func 47) #[] #[]] w fun e w' => ∃ b n, e = .returned (.slice (some ⟨b, 0, none⟩) n n) ∧ n = (thr (pnx (fun o => ([x0, x1, x2, x3, x4, x5, x6, x7, x8, x9] : List Int).getD o 0)) [(0, 0), (0, 1), (0, 2), (0, 3), (0, 4), (0, 5), (0, 6), (0, 7), (0, 8), (0, 9)] []).length ∧ Box w' b ((thr (pnx (fun o => ([x0, x1, x2, x3, x4, x5, x6, x7, x8, x9] : List Int).getD o 0)) [(0, 0), (0, 1), (0, 2), (0, 3), (0, 4), (0, 5), (0, 6), (0, 7), (0, 8), (0, 9)] []).map (Value.int .u8)) 5 ∧ w.heap.size ≤ b ∧ Below w.heap.size w w' := by
  have F := fl_Params (x0 := x0) (x1 := x1) (x2 := x2) (x3 := x3) (x4 := x4) (x5 := x5) (x6 := x6) (x7 := x7) (x8 := x8) (x9 := x9) (w := w)
  have b1 := below_alloc w (.cells #[.int .u64 x0, .int .u64 x1, .int .u64 x2, .int .u64 x3, .int .u64 x4, .int .u64 x5, .int .u64 x6, .int .u64 x7, .int .u64 x8, .int .u64 x9] 24)
  have b2 := below_alloc (w.alloc (.cells #[.int .u64 x0, .int .u64 x1, .int .u64 x2, .int .u64 x3, .int .u64 x4, .int .u64 x5, .int .u64 x6, .int .u64 x7, .int .u64 x8, .int .u64 x9] 24)) (.cells Tryz.zeroCells159 159)
  have s1 := size_al w (.cells #[.int .u64 x0, .int .u64 x1, .int .u64 x2, .int .u64 x3, .int .u64 x4, .int .u64 x5, .int .u64 x6, .int .u64 x7, .int .u64 x8, .int .u64 x9] 24)
  have X := wrNew (w.alloc (.cells #[.int .u64 x0, .int .u64 x1, .int .u64 x2, .int .u64 x3, .int .u64 x4, .int .u64 x5, .int .u64 x6, .int .u64 x7, .int .u64 x8, .int .u64 x9] 24))
  have B := (blk_new w [.int .u64 x0, .int .u64 x1, .int .u64 x2, .int .u64 x3, .int .u64 x4, .int .u64 x5, .int .u64 x6, .int .u64 x7, .int .u64 x8, .int .u64 x9] 24).keep b2
  rw [s1] at X
  obtain ⟨W2, hW2⟩ : ∃ W2, Hid ((w.alloc (.cells #[.int .u64 x0, .int .u64 x1, .int .u64 x2, .int .u64 x3, .int .u64 x4, .int .u64 x5, .int .u64 x6, .int .u64 x7, .int .u64 x8, .int .u64 x9] 24)).alloc (.cells Tryz.zeroCells159 159) = W2) := ⟨_, rfl⟩
  have BB := joinB b1 b2
  rw [hW2.out] at BB X B
  obtain ⟨M, hM⟩ : ∃ M, Hid (thr (pnx (fun o => ([x0, x1, x2, x3, x4, x5, x6, x7, x8, x9] : List Int).getD o 0)) [(0, 0), (0, 1), (0, 2), (0, 3), (0, 4), (0, 5), (0, 6), (0, 7), (0, 8), (0, 9)] [] = M) := ⟨_, rfl⟩
  have hlen : M.length ≤ 3000 := by have h := pnx_len (fun o => ([x0, x1, x2, x3, x4, x5, x6, x7, x8, x9] : List Int).getD o 0) [(0, 0), (0, 1), (0, 2), (0, 3), (0, 4), (0, 5), (0, 6), (0, 7), (0, 8), (0, 9)] []; rw [hM.out] at h; simp at h; omega
  have U := ofParams_any (hc_Params (bw := w.heap.size + 1) (rb := w.heap.size) (T := 24) F) (s := []) (w := W2) ⟨X, BB, B, Nat.le_succ _, by omega⟩ (by simp [kd_Params]) (by rw [hM.out]; show M.length ≤ 1000000000000; omega)
  rw [hM.out] at U ⊢
  have HU := hid3 U
  clear U F b1 b2 s1 X B BB
  go_enter Tryz.func46, Tryz.ntmps46
  go_wp2_with fail
  rw [hW2.out]
  refine HU.out.mono ?_
  rintro e' w3 ⟨rfl, I3, C3⟩
  go_wp2_with fail
  refine (wrOut I3.wr (by omega)).mono ?_
  rintro e' w4 ⟨rfl, X4, B4⟩
  have hr := hid3 (show w.heap.size ≤ w3.heap.size ∧ Below w.heap.size w w4 from ⟨I3.bel.size, joinB I3.bel B4⟩)
  have HX4 := hid3 X4
  clear I3 C3 X4 B4
  go_wp2
  go_ret
  exact ⟨_, _, rfl, rfl, HX4.out, hr.out.1, hr.out.2⟩
theorem fl_Chain {w : World} {x0 : Int} {x1 : Int} : FldP w kd_Chain [.int .u64 x0, .int .u64 x1] (fun o => ([x0, x1] : List Int).getD o 0) := fun o => match o with
    | 0 => ⟨fun _ => rfl, fun h => absurd h (by decide), fun h => absurd h (by decide)⟩
    | 1 => ⟨fun _ => rfl, fun h => absurd h (by decide), fun h => absurd h (by decide)⟩
    | k + 2 => ⟨fun h => absurd h (by simp [kd_Chain]), fun h => absurd h (by simp [kd_Chain]), fun h => absurd h (by simp [kd_Chain])⟩
set_option maxHeartbeats 2000000 in
set_option maxRecDepth 100000 in
theorem put_Chain {w : World} {x0 : Int} {x1 : Int} :
    Calls Tryz.prog 48 #[.agg #[.int .u64 x0, .int .u64 x1], .func (.func 49) #[] #[]] w fun e w' => ∃ b n, e = .returned (.slice (some ⟨b, 0, none⟩) n n) ∧ n = (thr (pnx (fun o => ([x0, x1] : List Int).getD o 0)) [(0, 0), (0, 1)] []).length ∧ Box w' b ((thr (pnx (fun o => ([x0, x1] : List Int).getD o 0)) [(0, 0), (0, 1)] []).map (Value.int .u8)) 5 ∧ w.heap.size ≤ b ∧ Below w.heap.size w w' := by
  have F := fl_Chain (x0 := x0) (x1 := x1) (w := w)
  have b1 := below_alloc w (.cells #[.int .u64 x0, .int .u64 x1] 26)
  have b2 := below_alloc (w.alloc (.cells #[.int .u64 x0, .int .u64 x1] 26)) (.cells Tryz.zeroCells159 159)
  have s1 := size_al w (.cells #[.int .u64 x0, .int .u64 x1] 26)
  have X := wrNew (w.alloc (.cells #[.int .u64 x0, .int .u64 x1] 26))
  have B := (blk_new w [.int .u64 x0, .int .u64 x1] 26).keep b2
  rw [s1] at X
  obtain ⟨W2, hW2⟩ : ∃ W2, Hid ((w.alloc (.cells #[.int .u64 x0, .int .u64 x1] 26)).alloc (.cells Tryz.zeroCells159 159) = W2) := ⟨_, rfl⟩
  have BB := joinB b1 b2
  rw [hW2.out] at BB X B
  obtain ⟨M, hM⟩ : ∃ M, Hid (thr (pnx (fun o => ([x0, x1] : List Int).getD o 0)) [(0, 0), (0, 1)] [] = M) := ⟨_, rfl⟩
  have hlen : M.length ≤ 3000 := by have h := pnx_len (fun o => ([x0, x1] : List Int).getD o 0) [(0, 0), (0, 1)] []; rw [hM.out] at h; simp at h; omega
  have U := ofChain_any (hc_Chain (bw := w.heap.size + 1) (rb := w.heap.size) (T := 26) F) (s := []) (w := W2) ⟨X, BB, B, Nat.le_succ _, by omega⟩ (by simp [kd_Chain]) (by rw [hM.out]; show M.length ≤ 1000000000000; omega)
  rw [hM.out] at U ⊢
  have HU := hid3 U
  clear U F b1 b2 s1 X B BB
  go_enter Tryz.func48, Tryz.ntmps48
  go_wp2_with fail
  rw [hW2.out]
  refine HU.out.mono ?_
  rintro e' w3 ⟨rfl, I3, C3⟩
  go_wp2_with fail
  refine (wrOut I3.wr (by omega)).mono ?_
  rintro e' w4 ⟨rfl, X4, B4⟩
  have hr := hid3 (show w.heap.size ≤ w3.heap.size ∧ Below w.heap.size w w4 from ⟨I3.bel.size, joinB I3.bel B4⟩)
  have HX4 := hid3 X4
  clear I3 C3 X4 B4
  go_wp2
  go_ret
  exact ⟨_, _, rfl, rfl, HX4.out, hr.out.1, hr.out.2⟩
theorem fl_Pool {w : World} {a0 : Option Addr} {n0 c0 : Nat} {x0 : Int} (h0 : NatA w a0 n0 c0 x0) (m0 : n0 ≤ 1000000) : FldP w kd_Pool [.slice a0 n0 c0] (fun o => ([x0] : List Int).getD o 0) := fun o => match o with
    | 0 => ⟨fun h => absurd h (by decide), fun h => absurd h (by decide), fun _ => ⟨a0, n0, c0, rfl, h0, m0⟩⟩
    | k + 1 => ⟨fun h => absurd h (by simp [kd_Pool]), fun h => absurd h (by simp [kd_Pool]), fun h => absurd h (by simp [kd_Pool])⟩
set_option maxHeartbeats 2000000 in
set_option maxRecDepth 100000 in
theorem put_Pool {w : World} {a0 : Option Addr} {n0 c0 : Nat} {x0 : Int} (h0 : NatA w a0 n0 c0 x0) (m0 : n0 ≤ 1000000) :
    Calls Tryz.prog 50 #[.agg #[.slice a0 n0 c0], .func (.func 51) #[] #[]] w fun e w' => ∃ b n, e = .returned (.slice (some ⟨b, 0, none⟩) n n) ∧ n = (thr (pnx (fun o => ([x0] : List Int).getD o 0)) [(2, 0)] []).length ∧ Box w' b ((thr (pnx (fun o => ([x0] : List Int).getD o 0)) [(2, 0)] []).map (Value.int .u8)) 5 ∧ w.heap.size ≤ b ∧ Below w.heap.size w w' := by
  have F := fl_Pool h0 m0 (w := w)
  have b1 := below_alloc w (.cells #[.slice a0 n0 c0] 30)
  have b2 := below_alloc (w.alloc (.cells #[.slice a0 n0 c0] 30)) (.cells Tryz.zeroCells159 159)
  have s1 := size_al w (.cells #[.slice a0 n0 c0] 30)
  have X := wrNew (w.alloc (.cells #[.slice a0 n0 c0] 30))
  have B := (blk_new w [.slice a0 n0 c0] 30).keep b2
  rw [s1] at X
  obtain ⟨W2, hW2⟩ : ∃ W2, Hid ((w.alloc (.cells #[.slice a0 n0 c0] 30)).alloc (.cells Tryz.zeroCells159 159) = W2) := ⟨_, rfl⟩
  have BB := joinB b1 b2
  rw [hW2.out] at BB X B
  obtain ⟨M, hM⟩ : ∃ M, Hid (thr (pnx (fun o => ([x0] : List Int).getD o 0)) [(2, 0)] [] = M) := ⟨_, rfl⟩
  have hlen : M.length ≤ 3000 := by have h := pnx_len (fun o => ([x0] : List Int).getD o 0) [(2, 0)] []; rw [hM.out] at h; simp at h; omega
  have U := ofPool_any (hc_Pool (bw := w.heap.size + 1) (rb := w.heap.size) (T := 30) F) (s := []) (w := W2) ⟨X, BB, B, Nat.le_succ _, by omega⟩ (by simp [kd_Pool]) (by rw [hM.out]; show M.length ≤ 1000000000000; omega)
  rw [hM.out] at U ⊢
  have HU := hid3 U
  clear U F b1 b2 s1 X B BB
  go_enter Tryz.func50, Tryz.ntmps50
  go_wp2_with fail
  rw [hW2.out]
  refine HU.out.mono ?_
  rintro e' w3 ⟨rfl, I3, C3⟩
  go_wp2_with fail
  refine (wrOut I3.wr (by omega)).mono ?_
  rintro e' w4 ⟨rfl, X4, B4⟩
  have hr := hid3 (show w.heap.size ≤ w3.heap.size ∧ Below w.heap.size w w4 from ⟨I3.bel.size, joinB I3.bel B4⟩)
  have HX4 := hid3 X4
  clear I3 C3 X4 B4
  go_wp2
  go_ret
  exact ⟨_, _, rfl, rfl, HX4.out, hr.out.1, hr.out.2⟩
theorem fl_Account {w : World} {x0 : Int} {x1 : Int} : FldP w kd_Account [.int .u64 x0, .int .u64 x1] (fun o => ([x0, x1] : List Int).getD o 0) := fun o => match o with
    | 0 => ⟨fun _ => rfl, fun h => absurd h (by decide), fun h => absurd h (by decide)⟩
    | 1 => ⟨fun _ => rfl, fun h => absurd h (by decide), fun h => absurd h (by decide)⟩
    | k + 2 => ⟨fun h => absurd h (by simp [kd_Account]), fun h => absurd h (by simp [kd_Account]), fun h => absurd h (by simp [kd_Account])⟩
set_option maxHeartbeats 2000000 in
set_option maxRecDepth 100000 in
theorem put_Account {w : World} {x0 : Int} {x1 : Int} :
    Calls Tryz.prog 52 #[.agg #[.int .u64 x0, .int .u64 x1], .func (.func 53) #[] #[]] w fun e w' => ∃ b n, e = .returned (.slice (some ⟨b, 0, none⟩) n n) ∧ n = (thr (pnx (fun o => ([x0, x1] : List Int).getD o 0)) [(0, 0), (0, 1)] []).length ∧ Box w' b ((thr (pnx (fun o => ([x0, x1] : List Int).getD o 0)) [(0, 0), (0, 1)] []).map (Value.int .u8)) 5 ∧ w.heap.size ≤ b ∧ Below w.heap.size w w' := by
  have F := fl_Account (x0 := x0) (x1 := x1) (w := w)
  have b1 := below_alloc w (.cells #[.int .u64 x0, .int .u64 x1] 32)
  have b2 := below_alloc (w.alloc (.cells #[.int .u64 x0, .int .u64 x1] 32)) (.cells Tryz.zeroCells159 159)
  have s1 := size_al w (.cells #[.int .u64 x0, .int .u64 x1] 32)
  have X := wrNew (w.alloc (.cells #[.int .u64 x0, .int .u64 x1] 32))
  have B := (blk_new w [.int .u64 x0, .int .u64 x1] 32).keep b2
  rw [s1] at X
  obtain ⟨W2, hW2⟩ : ∃ W2, Hid ((w.alloc (.cells #[.int .u64 x0, .int .u64 x1] 32)).alloc (.cells Tryz.zeroCells159 159) = W2) := ⟨_, rfl⟩
  have BB := joinB b1 b2
  rw [hW2.out] at BB X B
  obtain ⟨M, hM⟩ : ∃ M, Hid (thr (pnx (fun o => ([x0, x1] : List Int).getD o 0)) [(0, 0), (0, 1)] [] = M) := ⟨_, rfl⟩
  have hlen : M.length ≤ 3000 := by have h := pnx_len (fun o => ([x0, x1] : List Int).getD o 0) [(0, 0), (0, 1)] []; rw [hM.out] at h; simp at h; omega
  have U := ofAccount_any (hc_Account (bw := w.heap.size + 1) (rb := w.heap.size) (T := 32) F) (s := []) (w := W2) ⟨X, BB, B, Nat.le_succ _, by omega⟩ (by simp [kd_Account]) (by rw [hM.out]; show M.length ≤ 1000000000000; omega)
  rw [hM.out] at U ⊢
  have HU := hid3 U
  clear U F b1 b2 s1 X B BB
  go_enter Tryz.func52, Tryz.ntmps52
  go_wp2_with fail
  rw [hW2.out]
  refine HU.out.mono ?_
  rintro e' w3 ⟨rfl, I3, C3⟩
  go_wp2_with fail
  refine (wrOut I3.wr (by omega)).mono ?_
  rintro e' w4 ⟨rfl, X4, B4⟩
  have hr := hid3 (show w.heap.size ≤ w3.heap.size ∧ Below w.heap.size w w4 from ⟨I3.bel.size, joinB I3.bel B4⟩)
  have HX4 := hid3 X4
  clear I3 C3 X4 B4
  go_wp2
  go_ret
  exact ⟨_, _, rfl, rfl, HX4.out, hr.out.1, hr.out.2⟩
theorem fl_Val {w : World} {x0 : Int} {x1 : Int} {a2 : Option Addr} {n2 c2 : Nat} {x2 : Int} {b3 : Bool} {x4 : Int} {b5 : Bool} {x6 : Int} {a7 : Option Addr} {n7 c7 : Nat} {x7 : Int} {a8 : Option Addr} {n8 c8 : Nat} {x8 : Int} {a9 : Option Addr} {n9 c9 : Nat} {x9 : Int} (h2 : NatA w a2 n2 c2 x2) (m2 : n2 ≤ 1000000) (h7 : NatA w a7 n7 c7 x7) (m7 : n7 ≤ 1000000) (h8 : NatA w a8 n8 c8 x8) (m8 : n8 ≤ 1000000) (h9 : NatA w a9 n9 c9 x9) (m9 : n9 ≤ 1000000) : FldP w kd_Val [.int .u64 x0, .int .u64 x1, .slice a2 n2 c2, .bool b3, .int .u64 x4, .bool b5, .int .u64 x6, .slice a7 n7 c7, .slice a8 n8 c8, .slice a9 n9 c9] (fun o => ([x0, x1, x2, (if b3 then 1 else 0), x4, (if b5 then 1 else 0), x6, x7, x8, x9] : List Int).getD o 0) := fun o => match o with
    | 0 => ⟨fun _ => rfl, fun h => absurd h (by decide), fun h => absurd h (by decide)⟩
    | 1 => ⟨fun _ => rfl, fun h => absurd h (by decide), fun h => absurd h (by decide)⟩
    | 2 => ⟨fun h => absurd h (by decide), fun h => absurd h (by decide), fun _ => ⟨a2, n2, c2, rfl, h2, m2⟩⟩
    | 3 => ⟨fun h => absurd h (by decide), fun _ => ⟨b3, rfl, rfl⟩, fun h => absurd h (by decide)⟩
    | 4 => ⟨fun _ => rfl, fun h => absurd h (by decide), fun h => absurd h (by decide)⟩
    | 5 => ⟨fun h => absurd h (by decide), fun _ => ⟨b5, rfl, rfl⟩, fun h => absurd h (by decide)⟩
    | 6 => ⟨fun _ => rfl, fun h => absurd h (by decide), fun h => absurd h (by decide)⟩
    | 7 => ⟨fun h => absurd h (by decide), fun h => absurd h (by decide), fun _ => ⟨a7, n7, c7, rfl, h7, m7⟩⟩
    | 8 => ⟨fun h => absurd h (by decide), fun h => absurd h (by decide), fun _ => ⟨a8, n8, c8, rfl, h8, m8⟩⟩
    | 9 => ⟨fun h => absurd h (by decide), fun h => absurd h (by decide), fun _ => ⟨a9, n9, c9, rfl, h9, m9⟩⟩
    | k + 10 => ⟨fun h => absurd h (by simp [kd_Val]), fun h => absurd h (by simp [kd_Val]), fun h => absurd h (by simp [kd_Val])⟩
set_option maxHeartbeats 2000000 in
set_option maxRecDepth 100000 in
theorem put_Val {w : World} {x0 : Int} {x1 : Int} {a2 : Option Addr} {n2 c2 : Nat} {x2 : Int} {b3 : Bool} {x4 : Int} {b5 : Bool} {x6 : Int} {a7 : Option Addr} {n7 c7 : Nat} {x7 : Int} {a8 : Option Addr} {n8 c8 : Nat} {x8 : Int} {a9 : Option Addr} {n9 c9 : Nat} {x9 : Int} (h2 : NatA w a2 n2 c2 x2) (m2 : n2 ≤ 1000000) (h7 : NatA w a7 n7 c7 x7) (m7 : n7 ≤ 1000000) (h8 : NatA w a8 n8 c8 x8) (m8 : n8 ≤ 1000000) (h9 : NatA w a9 n9 c9 x9) (m9 : n9 ≤ 1000000) :
    Calls Tryz.prog 54 #[.agg #[.int .u64 x0, .int .u64 x1, .slice a2 n2 c2, .bool b3, .int .u64 x4, .bool b5, .int .u64 x6, .slice a7 n7 c7, .slice a8 n8 c8, .slice a9 n9 c9], .func (.func 55) #[] #[]] w fun e w' => ∃ b n, e = .returned (.slice (some ⟨b, 0, none⟩) n n) ∧ n = (thr (pnx (fun o => ([x0, x1, x2, (if b3 then 1 else 0), x4, (if b5 then 1 else 0), x6, x7, x8, x9] : List Int).getD o 0)) [(0, 0), (0, 1), (2, 2), (1, 3), (0, 4), (1, 5), (0, 6), (2, 7), (2, 8), (2, 9)] []).length ∧ Box w' b ((thr (pnx (fun o => ([x0, x1, x2, (if b3 then 1 else 0), x4, (if b5 then 1 else 0), x6, x7, x8, x9] : List Int).getD o 0)) [(0, 0), (0, 1), (2, 2), (1, 3), (0, 4), (1, 5), (0, 6), (2, 7), (2, 8), (2, 9)] []).map (Value.int .u8)) 5 ∧ w.heap.size ≤ b ∧ Below w.heap.size w w' := by
  have F := fl_Val h2 m2 h7 m7 h8 m8 h9 m9 (x0 := x0) (x1 := x1) (x4 := x4) (x6 := x6) (b3 := b3) (b5 := b5) (w := w)
  have b1 := below_alloc w (.cells #[.int .u64 x0, .int .u64 x1, .slice a2 n2 c2, .bool b3, .int .u64 x4, .bool b5, .int .u64 x6, .slice a7 n7 c7, .slice a8 n8 c8, .slice a9 n9 c9] 34)
  have b2 := below_alloc (w.alloc (.cells #[.int .u64 x0, .int .u64 x1, .slice a2 n2 c2, .bool b3, .int .u64 x4, .bool b5, .int .u64 x6, .slice a7 n7 c7, .slice a8 n8 c8, .slice a9 n9 c9] 34)) (.cells Tryz.zeroCells159 159)
  have s1 := size_al w (.cells #[.int .u64 x0, .int .u64 x1, .slice a2 n2 c2, .bool b3, .int .u64 x4, .bool b5, .int .u64 x6, .slice a7 n7 c7, .slice a8 n8 c8, .slice a9 n9 c9] 34)
  have X := wrNew (w.alloc (.cells #[.int .u64 x0, .int .u64 x1, .slice a2 n2 c2, .bool b3, .int .u64 x4, .bool b5, .int .u64 x6, .slice a7 n7 c7, .slice a8 n8 c8, .slice a9 n9 c9] 34))
  have B := (blk_new w [.int .u64 x0, .int .u64 x1, .slice a2 n2 c2, .bool b3, .int .u64 x4, .bool b5, .int .u64 x6, .slice a7 n7 c7, .slice a8 n8 c8, .slice a9 n9 c9] 34).keep b2
  rw [s1] at X
  obtain ⟨W2, hW2⟩ : ∃ W2, Hid ((w.alloc (.cells #[.int .u64 x0, .int .u64 x1, .slice a2 n2 c2, .bool b3, .int .u64 x4, .bool b5, .int .u64 x6, .slice a7 n7 c7, .slice a8 n8 c8, .slice a9 n9 c9] 34)).alloc (.cells Tryz.zeroCells159 159) = W2) := ⟨_, rfl⟩
  have BB := joinB b1 b2
  rw [hW2.out] at BB X B
  obtain ⟨M, hM⟩ : ∃ M, Hid (thr (pnx (fun o => ([x0, x1, x2, (if b3 then 1 else 0), x4, (if b5 then 1 else 0), x6, x7, x8, x9] : List Int).getD o 0)) [(0, 0), (0, 1), (2, 2), (1, 3), (0, 4), (1, 5), (0, 6), (2, 7), (2, 8), (2, 9)] [] = M) := ⟨_, rfl⟩
  have hlen : M.length ≤ 3000 := by have h := pnx_len (fun o => ([x0, x1, x2, (if b3 then 1 else 0), x4, (if b5 then 1 else 0), x6, x7, x8, x9] : List Int).getD o 0) [(0, 0), (0, 1), (2, 2), (1, 3), (0, 4), (1, 5), (0, 6), (2, 7), (2, 8), (2, 9)] []; rw [hM.out] at h; simp at h; omega
  have U := ofVal_any (hc_Val (bw := w.heap.size + 1) (rb := w.heap.size) (T := 34) F) (s := []) (w := W2) ⟨X, BB, B, Nat.le_succ _, by omega⟩ (by simp [kd_Val]) (by rw [hM.out]; show M.length ≤ 1000000000000; omega)
  rw [hM.out] at U ⊢
  have HU := hid3 U
  clear U F b1 b2 s1 X B BB
  go_enter Tryz.func54, Tryz.ntmps54
  go_wp2_with fail
  rw [hW2.out]
  refine HU.out.mono ?_
  rintro e' w3 ⟨rfl, I3, C3⟩
  go_wp2_with fail
  refine (wrOut I3.wr (by omega)).mono ?_
  rintro e' w4 ⟨rfl, X4, B4⟩
  have hr := hid3 (show w.heap.size ≤ w3.heap.size ∧ Below w.heap.size w w4 from ⟨I3.bel.size, joinB I3.bel B4⟩)
  have HX4 := hid3 X4
  clear I3 C3 X4 B4
  go_wp2
  go_ret
  exact ⟨_, _, rfl, rfl, HX4.out, hr.out.1, hr.out.2⟩
theorem fl_Delegation {w : World} {a0 : Option Addr} {n0 c0 : Nat} {x0 : Int} {x1 : Int} {a2 : Option Addr} {n2 c2 : Nat} {x2 : Int} (h0 : NatA w a0 n0 c0 x0) (m0 : n0 ≤ 1000000) (h2 : NatA w a2 n2 c2 x2) (m2 : n2 ≤ 1000000) : FldP w kd_Delegation [.slice a0 n0 c0, .int .u64 x1, .slice a2 n2 c2] (fun o => ([x0, x1, x2] : List Int).getD o 0) := fun o => match o with
    | 0 => ⟨fun h => absurd h (by decide), fun h => absurd h (by decide), fun _ => ⟨a0, n0, c0, rfl, h0, m0⟩⟩
    | 1 => ⟨fun _ => rfl, fun h => absurd h (by decide), fun h => absurd h (by decide)⟩
    | 2 => ⟨fun h => absurd h (by decide), fun h => absurd h (by decide), fun _ => ⟨a2, n2, c2, rfl, h2, m2⟩⟩
    | k + 3 => ⟨fun h => absurd h (by simp [kd_Delegation]), fun h => absurd h (by simp [kd_Delegation]), fun h => absurd h (by simp [kd_Delegation])⟩
set_option maxHeartbeats 2000000 in
set_option maxRecDepth 100000 in
theorem put_Delegation {w : World} {a0 : Option Addr} {n0 c0 : Nat} {x0 : Int} {x1 : Int} {a2 : Option Addr} {n2 c2 : Nat} {x2 : Int} (h0 : NatA w a0 n0 c0 x0) (m0 : n0 ≤ 1000000) (h2 : NatA w a2 n2 c2 x2) (m2 : n2 ≤ 1000000) :
    Calls Tryz.prog 56 #[.agg #[.slice a0 n0 c0, .int .u64 x1, .slice a2 n2 c2], .func (.func 57) #[] #[]] w fun e w' => ∃ b n, e = .returned (.slice (some ⟨b, 0, none⟩) n n) ∧ n = (thr (pnx (fun o => ([x0, x1, x2] : List Int).getD o 0)) [(2, 0), (0, 1), (2, 2)] []).length ∧ Box w' b ((thr (pnx (fun o => ([x0, x1, x2] : List Int).getD o 0)) [(2, 0), (0, 1), (2, 2)] []).map (Value.int .u8)) 5 ∧ w.heap.size ≤ b ∧ Below w.heap.size w w' := by
  have F := fl_Delegation h0 m0 h2 m2 (x1 := x1) (w := w)
  have b1 := below_alloc w (.cells #[.slice a0 n0 c0, .int .u64 x1, .slice a2 n2 c2] 36)
  have b2 := below_alloc (w.alloc (.cells #[.slice a0 n0 c0, .int .u64 x1, .slice a2 n2 c2] 36)) (.cells Tryz.zeroCells159 159)
  have s1 := size_al w (.cells #[.slice a0 n0 c0, .int .u64 x1, .slice a2 n2 c2] 36)
  have X := wrNew (w.alloc (.cells #[.slice a0 n0 c0, .int .u64 x1, .slice a2 n2 c2] 36))
  have B := (blk_new w [.slice a0 n0 c0, .int .u64 x1, .slice a2 n2 c2] 36).keep b2
  rw [s1] at X
  obtain ⟨W2, hW2⟩ : ∃ W2, Hid ((w.alloc (.cells #[.slice a0 n0 c0, .int .u64 x1, .slice a2 n2 c2] 36)).alloc (.cells Tryz.zeroCells159 159) = W2) := ⟨_, rfl⟩
  have BB := joinB b1 b2
  rw [hW2.out] at BB X B
  obtain ⟨M, hM⟩ : ∃ M, Hid (thr (pnx (fun o => ([x0, x1, x2] : List Int).getD o 0)) [(2, 0), (0, 1), (2, 2)] [] = M) := ⟨_, rfl⟩
  have hlen : M.length ≤ 3000 := by have h := pnx_len (fun o => ([x0, x1, x2] : List Int).getD o 0) [(2, 0), (0, 1), (2, 2)] []; rw [hM.out] at h; simp at h; omega
  have U := ofDelegation_any (hc_Delegation (bw := w.heap.size + 1) (rb := w.heap.size) (T := 36) F) (s := []) (w := W2) ⟨X, BB, B, Nat.le_succ _, by omega⟩ (by simp [kd_Delegation]) (by rw [hM.out]; show M.length ≤ 1000000000000; omega)
  rw [hM.out] at U ⊢
  have HU := hid3 U
  clear U F b1 b2 s1 X B BB
  go_enter Tryz.func56, Tryz.ntmps56
  go_wp2_with fail
  rw [hW2.out]
  refine HU.out.mono ?_
  rintro e' w3 ⟨rfl, I3, C3⟩
  go_wp2_with fail
  refine (wrOut I3.wr (by omega)).mono ?_
  rintro e' w4 ⟨rfl, X4, B4⟩
  have hr := hid3 (show w.heap.size ≤ w3.heap.size ∧ Below w.heap.size w w4 from ⟨I3.bel.size, joinB I3.bel B4⟩)
  have HX4 := hid3 X4
  clear I3 C3 X4 B4
  go_wp2
  go_ret
  exact ⟨_, _, rfl, rfl, HX4.out, hr.out.1, hr.out.2⟩
theorem fl_History {w : World} {a0 : Option Addr} {n0 c0 : Nat} {x0 : Int} {x1 : Int} (h0 : NatA w a0 n0 c0 x0) (m0 : n0 ≤ 1000000) : FldP w kd_History [.slice a0 n0 c0, .int .u64 x1] (fun o => ([x0, x1] : List Int).getD o 0) := fun o => match o with
    | 0 => ⟨fun h => absurd h (by decide), fun h => absurd h (by decide), fun _ => ⟨a0, n0, c0, rfl, h0, m0⟩⟩
    | 1 => ⟨fun _ => rfl, fun h => absurd h (by decide), fun h => absurd h (by decide)⟩
    | k + 2 => ⟨fun h => absurd h (by simp [kd_History]), fun h => absurd h (by simp [kd_History]), fun h => absurd h (by simp [kd_History])⟩
set_option maxHeartbeats 2000000 in
set_option maxRecDepth 100000 in
theorem put_History {w : World} {a0 : Option Addr} {n0 c0 : Nat} {x0 : Int} {x1 : Int} (h0 : NatA w a0 n0 c0 x0) (m0 : n0 ≤ 1000000) :
    Calls Tryz.prog 58 #[.agg #[.slice a0 n0 c0, .int .u64 x1], .func (.func 59) #[] #[]] w fun e w' => ∃ b n, e = .returned (.slice (some ⟨b, 0, none⟩) n n) ∧ n = (thr (pnx (fun o => ([x0, x1] : List Int).getD o 0)) [(2, 0), (0, 1)] []).length ∧ Box w' b ((thr (pnx (fun o => ([x0, x1] : List Int).getD o 0)) [(2, 0), (0, 1)] []).map (Value.int .u8)) 5 ∧ w.heap.size ≤ b ∧ Below w.heap.size w w' := by
  have F := fl_History h0 m0 (x1 := x1) (w := w)
  have b1 := below_alloc w (.cells #[.slice a0 n0 c0, .int .u64 x1] 38)
  have b2 := below_alloc (w.alloc (.cells #[.slice a0 n0 c0, .int .u64 x1] 38)) (.cells Tryz.zeroCells159 159)
  have s1 := size_al w (.cells #[.slice a0 n0 c0, .int .u64 x1] 38)
  have X := wrNew (w.alloc (.cells #[.slice a0 n0 c0, .int .u64 x1] 38))
  have B := (blk_new w [.slice a0 n0 c0, .int .u64 x1] 38).keep b2
  rw [s1] at X
  obtain ⟨W2, hW2⟩ : ∃ W2, Hid ((w.alloc (.cells #[.slice a0 n0 c0, .int .u64 x1] 38)).alloc (.cells Tryz.zeroCells159 159) = W2) := ⟨_, rfl⟩
  have BB := joinB b1 b2
  rw [hW2.out] at BB X B
  obtain ⟨M, hM⟩ : ∃ M, Hid (thr (pnx (fun o => ([x0, x1] : List Int).getD o 0)) [(2, 0), (0, 1)] [] = M) := ⟨_, rfl⟩
  have hlen : M.length ≤ 3000 := by have h := pnx_len (fun o => ([x0, x1] : List Int).getD o 0) [(2, 0), (0, 1)] []; rw [hM.out] at h; simp at h; omega
  have U := ofHistory_any (hc_History (bw := w.heap.size + 1) (rb := w.heap.size) (T := 38) F) (s := []) (w := W2) ⟨X, BB, B, Nat.le_succ _, by omega⟩ (by simp [kd_History]) (by rw [hM.out]; show M.length ≤ 1000000000000; omega)
  rw [hM.out] at U ⊢
  have HU := hid3 U
  clear U F b1 b2 s1 X B BB
  go_enter Tryz.func58, Tryz.ntmps58
  go_wp2_with fail
  rw [hW2.out]
  refine HU.out.mono ?_
  rintro e' w3 ⟨rfl, I3, C3⟩
  go_wp2_with fail
  refine (wrOut I3.wr (by omega)).mono ?_
  rintro e' w4 ⟨rfl, X4, B4⟩
  have hr := hid3 (show w.heap.size ≤ w3.heap.size ∧ Below w.heap.size w w4 from ⟨I3.bel.size, joinB I3.bel B4⟩)
  have HX4 := hid3 X4
  clear I3 C3 X4 B4
  go_wp2
  go_ret
  exact ⟨_, _, rfl, rfl, HX4.out, hr.out.1, hr.out.2⟩
theorem fl_Cut {w : World} {x0 : Int} {x1 : Int} : FldP w kd_Cut [.int .u64 x0, .int .u64 x1] (fun o => ([x0, x1] : List Int).getD o 0) := fun o => match o with
    | 0 => ⟨fun _ => rfl, fun h => absurd h (by decide), fun h => absurd h (by decide)⟩
    | 1 => ⟨fun _ => rfl, fun h => absurd h (by decide), fun h => absurd h (by decide)⟩
    | k + 2 => ⟨fun h => absurd h (by simp [kd_Cut]), fun h => absurd h (by simp [kd_Cut]), fun h => absurd h (by simp [kd_Cut])⟩
set_option maxHeartbeats 2000000 in
set_option maxRecDepth 100000 in
theorem put_Cut {w : World} {x0 : Int} {x1 : Int} :
    Calls Tryz.prog 60 #[.agg #[.int .u64 x0, .int .u64 x1], .func (.func 61) #[] #[]] w fun e w' => ∃ b n, e = .returned (.slice (some ⟨b, 0, none⟩) n n) ∧ n = (thr (pnx (fun o => ([x0, x1] : List Int).getD o 0)) [(0, 0), (0, 1)] []).length ∧ Box w' b ((thr (pnx (fun o => ([x0, x1] : List Int).getD o 0)) [(0, 0), (0, 1)] []).map (Value.int .u8)) 5 ∧ w.heap.size ≤ b ∧ Below w.heap.size w w' := by
  have F := fl_Cut (x0 := x0) (x1 := x1) (w := w)
  have b1 := below_alloc w (.cells #[.int .u64 x0, .int .u64 x1] 40)
  have b2 := below_alloc (w.alloc (.cells #[.int .u64 x0, .int .u64 x1] 40)) (.cells Tryz.zeroCells159 159)
  have s1 := size_al w (.cells #[.int .u64 x0, .int .u64 x1] 40)
  have X := wrNew (w.alloc (.cells #[.int .u64 x0, .int .u64 x1] 40))
  have B := (blk_new w [.int .u64 x0, .int .u64 x1] 40).keep b2
  rw [s1] at X
  obtain ⟨W2, hW2⟩ : ∃ W2, Hid ((w.alloc (.cells #[.int .u64 x0, .int .u64 x1] 40)).alloc (.cells Tryz.zeroCells159 159) = W2) := ⟨_, rfl⟩
  have BB := joinB b1 b2
  rw [hW2.out] at BB X B
  obtain ⟨M, hM⟩ : ∃ M, Hid (thr (pnx (fun o => ([x0, x1] : List Int).getD o 0)) [(0, 0), (0, 1)] [] = M) := ⟨_, rfl⟩
  have hlen : M.length ≤ 3000 := by have h := pnx_len (fun o => ([x0, x1] : List Int).getD o 0) [(0, 0), (0, 1)] []; rw [hM.out] at h; simp at h; omega
  have U := ofCut_any (hc_Cut (bw := w.heap.size + 1) (rb := w.heap.size) (T := 40) F) (s := []) (w := W2) ⟨X, BB, B, Nat.le_succ _, by omega⟩ (by simp [kd_Cut]) (by rw [hM.out]; show M.length ≤ 1000000000000; omega)
  rw [hM.out] at U ⊢
  have HU := hid3 U
  clear U F b1 b2 s1 X B BB
  go_enter Tryz.func60, Tryz.ntmps60
  go_wp2_with fail
  rw [hW2.out]
  refine HU.out.mono ?_
  rintro e' w3 ⟨rfl, I3, C3⟩
  go_wp2_with fail
  refine (wrOut I3.wr (by omega)).mono ?_
  rintro e' w4 ⟨rfl, X4, B4⟩
  have hr := hid3 (show w.heap.size ≤ w3.heap.size ∧ Below w.heap.size w w4 from ⟨I3.bel.size, joinB I3.bel B4⟩)
  have HX4 := hid3 X4
  clear I3 C3 X4 B4
  go_wp2
  go_ret
  exact ⟨_, _, rfl, rfl, HX4.out, hr.out.1, hr.out.2⟩
theorem fl_Unbonding {w : World} {x0 : Int} {x1 : Int} {x2 : Int} {x3 : Int} {x4 : Int} {x5 : Int} : FldP w kd_Unbonding [.int .u64 x0, .int .u64 x1, .int .u64 x2, .int .u64 x3, .int .u64 x4, .int .u64 x5] (fun o => ([x0, x1, x2, x3, x4, x5] : List Int).getD o 0) := fun o => match o with
    | 0 => ⟨fun _ => rfl, fun h => absurd h (by decide), fun h => absurd h (by decide)⟩
    | 1 => ⟨fun _ => rfl, fun h => absurd h (by decide), fun h => absurd h (by decide)⟩
    | 2 => ⟨fun _ => rfl, fun h => absurd h (by decide), fun h => absurd h (by decide)⟩
    | 3 => ⟨fun _ => rfl, fun h => absurd h (by decide), fun h => absurd h (by decide)⟩
    | 4 => ⟨fun _ => rfl, fun h => absurd h (by decide), fun h => absurd h (by decide)⟩
    | 5 => ⟨fun _ => rfl, fun h => absurd h (by decide), fun h => absurd h (by decide)⟩
    | k + 6 => ⟨fun h => absurd h (by simp [kd_Unbonding]), fun h => absurd h (by simp [kd_Unbonding]), fun h => absurd h (by simp [kd_Unbonding])⟩
set_option maxHeartbeats 2000000 in
set_option maxRecDepth 100000 in
theorem put_Unbonding {w : World} {x0 : Int} {x1 : Int} {x2 : Int} {x3 : Int} {x4 : Int} {x5 : Int} :
    Calls Tryz.prog 62 #[.agg #[.int .u64 x0, .int .u64 x1, .int .u64 x2, .int .u64 x3, .int .u64 x4, .int .u64 x5], .func (.func 63) #[] #[]] w fun e w' => ∃ b n, e = .returned (.slice (some ⟨b, 0, none⟩) n n) ∧ n = (thr (pnx (fun o => ([x0, x1, x2, x3, x4, x5] : List Int).getD o 0)) [(0, 0), (0, 1), (0, 2), (0, 3), (0, 4), (0, 5)] []).length ∧ Box w' b ((thr (pnx (fun o => ([x0, x1, x2, x3, x4, x5] : List Int).getD o 0)) [(0, 0), (0, 1), (0, 2), (0, 3), (0, 4), (0, 5)] []).map (Value.int .u8)) 5 ∧ w.heap.size ≤ b ∧ Below w.heap.size w w' := by
  have F := fl_Unbonding (x0 := x0) (x1 := x1) (x2 := x2) (x3 := x3) (x4 := x4) (x5 := x5) (w := w)
  have b1 := below_alloc w (.cells #[.int .u64 x0, .int .u64 x1, .int .u64 x2, .int .u64 x3, .int .u64 x4, .int .u64 x5] 42)
  have b2 := below_alloc (w.alloc (.cells #[.int .u64 x0, .int .u64 x1, .int .u64 x2, .int .u64 x3, .int .u64 x4, .int .u64 x5] 42)) (.cells Tryz.zeroCells159 159)
  have s1 := size_al w (.cells #[.int .u64 x0, .int .u64 x1, .int .u64 x2, .int .u64 x3, .int .u64 x4, .int .u64 x5] 42)
  have X := wrNew (w.alloc (.cells #[.int .u64 x0, .int .u64 x1, .int .u64 x2, .int .u64 x3, .int .u64 x4, .int .u64 x5] 42))
  have B := (blk_new w [.int .u64 x0, .int .u64 x1, .int .u64 x2, .int .u64 x3, .int .u64 x4, .int .u64 x5] 42).keep b2
  rw [s1] at X
  obtain ⟨W2, hW2⟩ : ∃ W2, Hid ((w.alloc (.cells #[.int .u64 x0, .int .u64 x1, .int .u64 x2, .int .u64 x3, .int .u64 x4, .int .u64 x5] 42)).alloc (.cells Tryz.zeroCells159 159) = W2) := ⟨_, rfl⟩
  have BB := joinB b1 b2
  rw [hW2.out] at BB X B
  obtain ⟨M, hM⟩ : ∃ M, Hid (thr (pnx (fun o => ([x0, x1, x2, x3, x4, x5] : List Int).getD o 0)) [(0, 0), (0, 1), (0, 2), (0, 3), (0, 4), (0, 5)] [] = M) := ⟨_, rfl⟩
  have hlen : M.length ≤ 3000 := by have h := pnx_len (fun o => ([x0, x1, x2, x3, x4, x5] : List Int).getD o 0) [(0, 0), (0, 1), (0, 2), (0, 3), (0, 4), (0, 5)] []; rw [hM.out] at h; simp at h; omega
  have U := ofUnbonding_any (hc_Unbonding (bw := w.heap.size + 1) (rb := w.heap.size) (T := 42) F) (s := []) (w := W2) ⟨X, BB, B, Nat.le_succ _, by omega⟩ (by simp [kd_Unbonding]) (by rw [hM.out]; show M.length ≤ 1000000000000; omega)
  rw [hM.out] at U ⊢
  have HU := hid3 U
  clear U F b1 b2 s1 X B BB
  go_enter Tryz.func62, Tryz.ntmps62
  go_wp2_with fail
  rw [hW2.out]
  refine HU.out.mono ?_
  rintro e' w3 ⟨rfl, I3, C3⟩
  go_wp2_with fail
  refine (wrOut I3.wr (by omega)).mono ?_
  rintro e' w4 ⟨rfl, X4, B4⟩
  have hr := hid3 (show w.heap.size ≤ w3.heap.size ∧ Below w.heap.size w w4 from ⟨I3.bel.size, joinB I3.bel B4⟩)
  have HX4 := hid3 X4
  clear I3 C3 X4 B4
  go_wp2
  go_ret
  exact ⟨_, _, rfl, rfl, HX4.out, hr.out.1, hr.out.2⟩
theorem fl_Move {w : World} {x0 : Int} {x1 : Int} {x2 : Int} {x3 : Int} {x4 : Int} {x5 : Int} {a6 : Option Addr} {n6 c6 : Nat} {x6 : Int} (h6 : NatA w a6 n6 c6 x6) (m6 : n6 ≤ 1000000) : FldP w kd_Move [.int .u64 x0, .int .u64 x1, .int .u64 x2, .int .u64 x3, .int .u64 x4, .int .u64 x5, .slice a6 n6 c6] (fun o => ([x0, x1, x2, x3, x4, x5, x6] : List Int).getD o 0) := fun o => match o with
    | 0 => ⟨fun _ => rfl, fun h => absurd h (by decide), fun h => absurd h (by decide)⟩
    | 1 => ⟨fun _ => rfl, fun h => absurd h (by decide), fun h => absurd h (by decide)⟩
    | 2 => ⟨fun _ => rfl, fun h => absurd h (by decide), fun h => absurd h (by decide)⟩
    | 3 => ⟨fun _ => rfl, fun h => absurd h (by decide), fun h => absurd h (by decide)⟩
    | 4 => ⟨fun _ => rfl, fun h => absurd h (by decide), fun h => absurd h (by decide)⟩
    | 5 => ⟨fun _ => rfl, fun h => absurd h (by decide), fun h => absurd h (by decide)⟩
    | 6 => ⟨fun h => absurd h (by decide), fun h => absurd h (by decide), fun _ => ⟨a6, n6, c6, rfl, h6, m6⟩⟩
    | k + 7 => ⟨fun h => absurd h (by simp [kd_Move]), fun h => absurd h (by simp [kd_Move]), fun h => absurd h (by simp [kd_Move])⟩
set_option maxHeartbeats 2000000 in
set_option maxRecDepth 100000 in
theorem put_Move {w : World} {x0 : Int} {x1 : Int} {x2 : Int} {x3 : Int} {x4 : Int} {x5 : Int} {a6 : Option Addr} {n6 c6 : Nat} {x6 : Int} (h6 : NatA w a6 n6 c6 x6) (m6 : n6 ≤ 1000000) :
    Calls Tryz.prog 64 #[.agg #[.int .u64 x0, .int .u64 x1, .int .u64 x2, .int .u64 x3, .int .u64 x4, .int .u64 x5, .slice a6 n6 c6], .func (.func 65) #[] #[]] w fun e w' => ∃ b n, e = .returned (.slice (some ⟨b, 0, none⟩) n n) ∧ n = (thr (pnx (fun o => ([x0, x1, x2, x3, x4, x5, x6] : List Int).getD o 0)) [(0, 0), (0, 1), (0, 2), (0, 3), (0, 4), (0, 5), (2, 6)] []).length ∧ Box w' b ((thr (pnx (fun o => ([x0, x1, x2, x3, x4, x5, x6] : List Int).getD o 0)) [(0, 0), (0, 1), (0, 2), (0, 3), (0, 4), (0, 5), (2, 6)] []).map (Value.int .u8)) 5 ∧ w.heap.size ≤ b ∧ Below w.heap.size w w' := by
  have F := fl_Move h6 m6 (x0 := x0) (x1 := x1) (x2 := x2) (x3 := x3) (x4 := x4) (x5 := x5) (w := w)
  have b1 := below_alloc w (.cells #[.int .u64 x0, .int .u64 x1, .int .u64 x2, .int .u64 x3, .int .u64 x4, .int .u64 x5, .slice a6 n6 c6] 44)
  have b2 := below_alloc (w.alloc (.cells #[.int .u64 x0, .int .u64 x1, .int .u64 x2, .int .u64 x3, .int .u64 x4, .int .u64 x5, .slice a6 n6 c6] 44)) (.cells Tryz.zeroCells159 159)
  have s1 := size_al w (.cells #[.int .u64 x0, .int .u64 x1, .int .u64 x2, .int .u64 x3, .int .u64 x4, .int .u64 x5, .slice a6 n6 c6] 44)
  have X := wrNew (w.alloc (.cells #[.int .u64 x0, .int .u64 x1, .int .u64 x2, .int .u64 x3, .int .u64 x4, .int .u64 x5, .slice a6 n6 c6] 44))
  have B := (blk_new w [.int .u64 x0, .int .u64 x1, .int .u64 x2, .int .u64 x3, .int .u64 x4, .int .u64 x5, .slice a6 n6 c6] 44).keep b2
  rw [s1] at X
  obtain ⟨W2, hW2⟩ : ∃ W2, Hid ((w.alloc (.cells #[.int .u64 x0, .int .u64 x1, .int .u64 x2, .int .u64 x3, .int .u64 x4, .int .u64 x5, .slice a6 n6 c6] 44)).alloc (.cells Tryz.zeroCells159 159) = W2) := ⟨_, rfl⟩
  have BB := joinB b1 b2
  rw [hW2.out] at BB X B
  obtain ⟨M, hM⟩ : ∃ M, Hid (thr (pnx (fun o => ([x0, x1, x2, x3, x4, x5, x6] : List Int).getD o 0)) [(0, 0), (0, 1), (0, 2), (0, 3), (0, 4), (0, 5), (2, 6)] [] = M) := ⟨_, rfl⟩
  have hlen : M.length ≤ 3000 := by have h := pnx_len (fun o => ([x0, x1, x2, x3, x4, x5, x6] : List Int).getD o 0) [(0, 0), (0, 1), (0, 2), (0, 3), (0, 4), (0, 5), (2, 6)] []; rw [hM.out] at h; simp at h; omega
  have U := ofMove_any (hc_Move (bw := w.heap.size + 1) (rb := w.heap.size) (T := 44) F) (s := []) (w := W2) ⟨X, BB, B, Nat.le_succ _, by omega⟩ (by simp [kd_Move]) (by rw [hM.out]; show M.length ≤ 1000000000000; omega)
  rw [hM.out] at U ⊢
  have HU := hid3 U
  clear U F b1 b2 s1 X B BB
  go_enter Tryz.func64, Tryz.ntmps64
  go_wp2_with fail
  rw [hW2.out]
  refine HU.out.mono ?_
  rintro e' w3 ⟨rfl, I3, C3⟩
  go_wp2_with fail
  refine (wrOut I3.wr (by omega)).mono ?_
  rintro e' w4 ⟨rfl, X4, B4⟩
  have hr := hid3 (show w.heap.size ≤ w3.heap.size ∧ Below w.heap.size w w4 from ⟨I3.bel.size, joinB I3.bel B4⟩)
  have HX4 := hid3 X4
  clear I3 C3 X4 B4
  go_wp2
  go_ret
  exact ⟨_, _, rfl, rfl, HX4.out, hr.out.1, hr.out.2⟩
theorem fl_Number {w : World} {x0 : Int} : FldP w kd_Number [.int .u64 x0] (fun o => ([x0] : List Int).getD o 0) := fun o => match o with
    | 0 => ⟨fun _ => rfl, fun h => absurd h (by decide), fun h => absurd h (by decide)⟩
    | k + 1 => ⟨fun h => absurd h (by simp [kd_Number]), fun h => absurd h (by simp [kd_Number]), fun h => absurd h (by simp [kd_Number])⟩
set_option maxHeartbeats 2000000 in
set_option maxRecDepth 100000 in
theorem put_Number {w : World} {x0 : Int} :
    Calls Tryz.prog 66 #[.int .u64 x0, .func (.func 67) #[] #[]] w fun e w' => ∃ b n, e = .returned (.slice (some ⟨b, 0, none⟩) n n) ∧ n = (thr (pnx (fun o => ([x0] : List Int).getD o 0)) [(0, 0)] []).length ∧ Box w' b ((thr (pnx (fun o => ([x0] : List Int).getD o 0)) [(0, 0)] []).map (Value.int .u8)) 5 ∧ w.heap.size ≤ b ∧ Below w.heap.size w w' := by
  have F := fl_Number (x0 := x0) (w := w)
  have b1 := below_alloc w (.cells #[.int .u64 x0] 22)
  have b2 := below_alloc (w.alloc (.cells #[.int .u64 x0] 22)) (.cells Tryz.zeroCells159 159)
  have s1 := size_al w (.cells #[.int .u64 x0] 22)
  have X := wrNew (w.alloc (.cells #[.int .u64 x0] 22))
  have B := (blk_new w [.int .u64 x0] 22).keep b2
  rw [s1] at X
  obtain ⟨W2, hW2⟩ : ∃ W2, Hid ((w.alloc (.cells #[.int .u64 x0] 22)).alloc (.cells Tryz.zeroCells159 159) = W2) := ⟨_, rfl⟩
  have BB := joinB b1 b2
  rw [hW2.out] at BB X B
  obtain ⟨M, hM⟩ : ∃ M, Hid (thr (pnx (fun o => ([x0] : List Int).getD o 0)) [(0, 0)] [] = M) := ⟨_, rfl⟩
  have hlen : M.length ≤ 3000 := by have h := pnx_len (fun o => ([x0] : List Int).getD o 0) [(0, 0)] []; rw [hM.out] at h; simp at h; omega
  have U := ofNumber_any (hc_Number (bw := w.heap.size + 1) (rb := w.heap.size) (T := 22) F) (s := []) (w := W2) ⟨X, BB, B, Nat.le_succ _, by omega⟩ (by simp [kd_Number]) (by rw [hM.out]; show M.length ≤ 1000000000000; omega)
  rw [hM.out] at U ⊢
  have HU := hid3 U
  clear U F b1 b2 s1 X B BB
  go_enter Tryz.func66, Tryz.ntmps66
  go_wp2_with fail
  rw [hW2.out]
  refine HU.out.mono ?_
  rintro e' w3 ⟨rfl, I3, C3⟩
  go_wp2_with fail
  refine (wrOut I3.wr (by omega)).mono ?_
  rintro e' w4 ⟨rfl, X4, B4⟩
  have hr := hid3 (show w.heap.size ≤ w3.heap.size ∧ Below w.heap.size w w4 from ⟨I3.bel.size, joinB I3.bel B4⟩)
  have HX4 := hid3 X4
  clear I3 C3 X4 B4
  go_wp2
  go_ret
  exact ⟨_, _, rfl, rfl, HX4.out, hr.out.1, hr.out.2⟩
end Rc
end Go.Proofs.YtenlhceceplldaaGreat

namespace Go.Proofs.YtenlhceceplldaaGreat
namespace Rc
open Go.RowKit Go.Lib Pg Lim
attribute [local go_sem] Oper.semAt_some
/-- the normal list of x, in a block from B on -/
structure NatW (w : World) (B : Nat) (ao : Option Addr) (n c : Nat) (x : Int) : Prop where
  ex : ∃ b o l, l.length = n ∧ n ≤ c ∧ IsN l x ∧ At w ao b o l ∧ B ≤ b
theorem NatW.o {w : World} {B n c : Nat} {ao : Option Addr} {x : Int} (h : NatW w B ao n c x) : NatO w ao n c x := by
  obtain ⟨b, o, l, h1, h2, h3, h4, _⟩ := h.ex
  exact ⟨b, o, l, h1, h2, h3, h4⟩
theorem natW_nil (w : World) (B : Nat) : NatW w B none 0 0 0 := ⟨B, 0, [], rfl, Nat.le_refl _, isN_nil, ⟨.inl rfl, fun i hi => by simp at hi⟩, Nat.le_refl _⟩
theorem NatW.low {w : World} {B B' n c : Nat} {ao : Option Addr} {x : Int} (h : NatW w B ao n c x) (hB : B' ≤ B) : NatW w B' ao n c x := by
  obtain ⟨b, o, l, h1, h2, h3, h4, h5⟩ := h.ex
  exact ⟨b, o, l, h1, h2, h3, h4, Nat.le_trans hB h5⟩
theorem NatW.off {w w' : World} {B n c : Nat} {ao : Option Addr} {x : Int} (h : NatW w B ao n c x) (_hs : w.heap.size ≤ w'.heap.size) (hw : ∀ b, B ≤ b → b < w.heap.size → w'.heap[b]? = w.heap[b]?) : NatW w' B ao n c x := by
  obtain ⟨b, o, l, h1, h2, h3, h4, h5⟩ := h.ex
  refine ⟨b, o, l, h1, h2, h3, ⟨h4.loc, fun i hi => ?_⟩, h5⟩
  have hc := h4.cell i hi
  rw [World.cell?_of_block (w := w) (hw b h5 (cell_lt hc))]
  exact hc
theorem newV_w {w w' : World} {v : Value} {r : List Int} {x : Int} {B : Nat} (h : NewV w w' v r) (hI : IsN r x) (hB : B ≤ w.heap.size) : ∃ a c, v = .slice a r.length c ∧ NatW w' B a r.length c x := by
  obtain ⟨ao, b, o, c, e, h1, h2, h3, h4⟩ := h.is
  exact ⟨ao, c, e, b, o, r, rfl, h1, hI, h3, Nat.le_trans hB h2⟩
set_option maxRecDepth 100000 in
theorem raNaturalW {w : World} {g b : Nat} {l : List Int} (h : RdA w g b 0 l) :
    Calls Tryz.prog 217 #[.pointer (some ⟨g, 0, none⟩)] w fun e w' => ∃ v, e = .returned (.tuple #[v, .int .i64 (rdE (pNat l) 0)]) ∧ ∃ l1, RdA w' g b 0 l1 ∧ But g w w' ∧ ∀ x k, pNat l = .inr (x, k) → l1 = l.drop k ∧ ∃ ao n c, v = .slice ao n c ∧ NatW w' w.heap.size ao n c x ∧ n ≤ 255 := by
  have hcn := cntOf_eq (m := 1) h
  by_cases hl : 1 ≤ l.length
  · have t := raNum (m := 1) h hl (by decide)
    have hN := cntOf_lt h hl
    rw [show (256 : Int) ^ 1 = 256 by decide] at hN
    rw [← hcn] at t
    have HO := (show Hid _ from h.oct)
    by_cases hs : 1 + cntOf 1 l ≤ l.length
    · by_cases hz : 0 < cntOf 1 l ∧ nth (l.drop 1) 0 = 0
      · have hp : pNat l = .inl 41 := by unfold pNat; rw [if_pos hl, if_pos hs, if_pos hz]
        have HR : Hid (rdE (pNat l) 0 = 41) := by show _ = _; rw [hp]; rfl
        have HP := (show Hid _ from hp)
        have HZ := (show Hid _ from hz)
        clear hp h hz hcn
        generalize cntOf 1 l = N at *
        go_enter Tryz.func217, Tryz.ntmps217
        go_wp2_with fail
        refine t.mono ?_
        rintro e w1 ⟨rfl, h1, h2⟩
        have t2 := raTake (m := N) h1 (by rw [List.length_drop]; omega)
        clear t
        go_wp2_with fail
        refine t2.mono ?_
        rintro e w2 ⟨ao, rfl, hA, h3, h4⟩
        obtain ⟨o, k1, k2, k3, k4, k5⟩ := hA.ex
        have t3 := from_no ao N N b o _ w2 k1 HZ.out.1 k5 (by rw [nth_take HZ.out.1]; exact HZ.out.2)
        clear t2 k1 k2 k3 k4 k5 hA
        go_wp2_with fail
        refine t3.mono ?_
        rintro e w3 ⟨rfl, rfl⟩
        clear t3
        go_wp2
        go_ret2
        exact ⟨_, by rw [HR.out]; rfl, _, h3, h2.trans h4, fun x k e => by rw [HP.out] at e; cases e⟩
      · have hp : pNat l = .inr (bval ((l.drop 1).take (cntOf 1 l)), 1 + cntOf 1 l) := by unfold pNat; rw [if_pos hl, if_pos hs, if_neg hz]
        have HR : Hid (rdE (pNat l) 0 = 0) := by show _ = _; rw [hp]; rfl
        have HP := (show Hid _ from hp)
        have HZ := (show Hid _ from hz)
        clear hp h hz hcn
        generalize cntOf 1 l = N at *
        go_enter Tryz.func217, Tryz.ntmps217
        go_wp2_with fail
        refine t.mono ?_
        rintro e w1 ⟨rfl, h1, h2⟩
        have t2 := raTake (m := N) h1 (by rw [List.length_drop]; omega)
        clear t
        go_wp2_with fail
        refine t2.mono ?_
        rintro e w2 ⟨ao, rfl, hA, h3, h4⟩
        obtain ⟨o, k1, k2, k3, k4, k5⟩ := hA.ex
        have t3 := from_yes ao N N b o _ w2 k1 (by omega) k4 k5 (fun hpos e0 => HZ.out ⟨hpos, by rw [nth_take hpos] at e0; exact e0⟩)
        clear t2 k1 k2 k3 k4 k5 hA
        go_wp2_with fail
        refine t3.mono ?_
        rintro e w3 ⟨v, r, rfl, k1, k2, k3, k4⟩
        obtain ⟨a', c', rfl, hO⟩ := newV_w k1 k2 (show w.heap.size ≤ w2.heap.size from (h2.trans h4).size)
        have HOO := (show Hid _ from hO)
        have HK := (show Hid _ from k4)
        clear t3 k1 k2 k4 hO
        go_wp2
        go_ret2
        exact ⟨_, by rw [HR.out]; rfl, _, h3.keep HK.out, (h2.trans h4).trans (But.of HK.out), fun x k e => by
          rw [HP.out] at e
          cases e
          exact ⟨by rw [List.drop_drop], _, _, _, rfl, HOO.out, by omega⟩⟩
    · have hp : pNat l = .inl 40 := by unfold pNat; rw [if_pos hl, if_neg hs]
      have HR : Hid (rdE (pNat l) 0 = 40) := by show _ = _; rw [hp]; rfl
      have HP := (show Hid _ from hp)
      clear hp h hcn
      generalize cntOf 1 l = N at *
      go_enter Tryz.func217, Tryz.ntmps217
      go_wp2_with fail
      refine t.mono ?_
      rintro e w1 ⟨rfl, h1, h2⟩
      have t2 := raTakeS (m := N) h1 (by rw [List.length_drop]; omega)
      clear t hs
      go_wp2_with fail
      refine t2.mono ?_
      rintro e w2 ⟨rfl, rfl⟩
      clear t2
      go_wp2
      go_ret2
      exact ⟨_, by rw [HR.out]; rfl, _, h1, h2, fun x k e => by rw [HP.out] at e; cases e⟩
  · have t := raNumS (m := 1) h (by omega)
    have hp : pNat l = .inl 40 := by unfold pNat; rw [if_neg hl]
    have HR : Hid (rdE (pNat l) 0 = 40) := by show _ = _; rw [hp]; rfl
    have HP := (show Hid _ from hp)
    have HH := (show Hid _ from h)
    clear hp h hl hcn
    go_enter Tryz.func217, Tryz.ntmps217
    go_wp2_with fail
    refine t.mono ?_
    rintro e w1 ⟨rfl, rfl⟩
    clear t
    go_wp2
    go_ret2
    exact ⟨_, by rw [HR.out]; rfl, _, HH.out, But.refl _ _, fun x k e => by rw [HP.out] at e; cases e⟩
set_option maxRecDepth 100000 in
theorem rdNatW {w : World} {g b : Nat} {err : Int} {l : List Int} (h : RdA w g b err l) :
    Calls Tryz.prog 205 #[.pointer (some ⟨g, 0, none⟩)] w fun e w' => ∃ ao n c, e = .returned (.slice ao n c) ∧ NatW w' w.heap.size ao n c (rdV 0 (pNat l) err) ∧ n ≤ 255 ∧ RdA w' g b (rdE (pNat l) err) (rdL (pNat l) err l) ∧ But g w w' := by
  have t := enNa (z := (0 : Int)) (p := pNat l) (V := fun x v w' => ∃ ao n c, v = .slice ao n c ∧ NatW w' w.heap.size ao n c x ∧ n ≤ 255) h (fun _ => pNat_ne) (fun w' => ⟨none, 0, 0, rfl, natW_nil w' w.heap.size, by decide⟩) (fun e => by subst e; exact raNaturalW h)
  clear h
  generalize rdV 0 (pNat l) err = V at *
  generalize rdE (pNat l) err = E at *
  generalize rdL (pNat l) err l = R at *
  go_enter Tryz.func205, Tryz.ntmps205
  go_wp2_with fail
  refine t.mono ?_
  rintro e w1 ⟨v, rfl, ⟨ao, n, c, rfl, k3, k4⟩, k1, k2⟩
  clear t
  go_wp2
  go_ret
  exact ⟨ao, n, c, rfl, k3, k4, k1, k2⟩
set_option maxRecDepth 100000 in
theorem rdDecW {w : World} {g b : Nat} {err : Int} {l : List Int} (h : RdA w g b err l) :
    Calls Tryz.prog 159 #[.pointer (some ⟨g, 0, none⟩)] w fun e w' => ∃ ao n c, e = .returned (.agg #[.slice ao n c]) ∧ NatW w' w.heap.size ao n c (rdV 0 (pNat l) err) ∧ n ≤ 255 ∧ RdA w' g b (rdE (pNat l) err) (rdL (pNat l) err l) ∧ But g w w' := by
  have HB := (show Hid _ from below_alloc w (.cells #[.slice none 0 0] 30))
  have S0 := slot_new w (.slice none 0 0) 30
  have hg : w.heap.size ≠ g := by have := h.lt; omega
  have HG := (show Hid _ from hg)
  have t := rdNatW (h.keep HB.out)
  clear h hg
  generalize rdV 0 (pNat l) err = V at *
  generalize rdE (pNat l) err = E at *
  generalize rdL (pNat l) err l = R at *
  go_enter Tryz.func159, Tryz.ntmps159
  go_wp2_with fail
  refine t.mono ?_
  rintro e w1 ⟨ao, n, c, rfl, k3, k4, k1, k2⟩
  have S1 := S0.but k2 HG.out
  have c1 := S1.cell
  have f1 := S1.free
  have S2 := S1.put (.slice ao n c)
  have HO := (show Hid (NatW (w1.setCell ⟨w.heap.size, 0, none⟩ (.slice ao n c)) w.heap.size ao n c V) from (k3.off (w' := w1.setCell ⟨w.heap.size, 0, none⟩ (.slice ao n c)) (by rw [size_set]; exact Nat.le_refl _) (fun b hb _ => Below.heap_setCell _ _ _ b (by have := size_al w (.cells #[.slice none 0 0] 30); show b ≠ w.heap.size; omega))).low HB.out.size)
  have HR := (show Hid _ from k1.put (u := .slice ao n c) S1 HG.out (fun x e => by cases e))
  have HW := (show Hid _ from ((But.of (g := g) HB.out).trans k2).put (Nat.le_refl _) (.slice ao n c))
  clear t S0 S1 k1 k2 k3 HB HG
  go_wp2
  refine bodyPost_ret (ret_dec rfl rfl S2) rfl ?_
  exact ⟨ao, n, c, rfl, HO.out, k4, HR.out, HW.out⟩
end Rc
end Go.Proofs.YtenlhceceplldaaGreat
