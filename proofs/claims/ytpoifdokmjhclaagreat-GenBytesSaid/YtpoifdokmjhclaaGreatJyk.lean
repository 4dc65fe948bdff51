/- Several texts, joined: KyX, RcA, RcB2, RcC, RcD2, RcE2, RcF, RcG2, RcH2, RcI2, RcJ, RcK, RcL, EncQ, EncR, EncS, RcO, RcM, RcN. -/
import Derived.Test.YtpoifdokmjhclaaGreatJyj
import Derived.Test.YtpoifdokmjhclaaGreatJyb
import Derived.Test.YtpoifdokmjhclaaGreatJyc
import Derived.Test.YtpoifdokmjhclaaGreatJyf
import Derived.Test.YtpoifdokmjhclaaGreatJyd
namespace Go.Proofs.YtpoifdokmjhclaaGreat
namespace Ky
open Go.RowKit Go.Lib Pg
attribute [local go_sem] Oper.semAt_some
theorem mk_eq {k a b n m0 m1 : Int} (hf : frm k = (n, m0, m1)) : mk k a b = [m0] ++ (if 8 < n then be 8 (tn k a) else []) ++ (if m1 = 0 then [] else [m1]) ++ (if 16 < n then be 8 b else []) := by
  unfold mk mkb
  rw [hf]
theorem mk_len (k a b : Int) : (mk k a b).length ≤ 18 := by
  unfold mk
  rw [List.length_append]
  have := mkb_len (frm k) (tn k a)
  split
  · rw [be_length]; omega
  · simp; omega
end Ky
end Go.Proofs.YtpoifdokmjhclaaGreat

namespace Go.Proofs.YtpoifdokmjhclaaGreat
namespace Rc
open Go.RowKit Go.Lib Pg
attribute [local go_sem] Oper.semAt_some
theorem hid3 {p : Prop} (h : p) : Hid p := h
theorem size_al (w : World) (o : Obj) : (w.alloc o).heap.size = w.heap.size + 1 := by
  show (w.heap.push o).size = _
  simp
theorem belowD' (w : World) : Below w.heap.size w w.drew := ⟨rfl, rfl, rfl, Nat.le_refl _, fun _ _ => rfl⟩
/-- what hands do with a field (kind 0: a number, 1: a truth, 2: a decimal) at a place of the record rb -/
structure HC (σ : Type) (Inv : σ → World → Prop) (G : Nat → Prop) (rb : Nat) (f1 f2 f3 : FuncId) (c : Value) (nx : Nat → Nat → σ → σ) (kd : Nat → Nat) (ok : σ → Prop) : Prop where
  oks : ∀ k o s, ok (nx k o s) → ok s
  keep : ∀ s w w', Inv s w → Below w.heap.size w w' → Inv s w'
  old : ∀ s w b, Inv s w → G b → b < w.heap.size
  e1 : ∀ args w, (callFunc f1 args).run Tryz.prog w = .ok (.enter f1 args) w
  e2 : ∀ args w, (callFunc f2 args).run Tryz.prog w = .ok (.enter f2 args) w
  e3 : ∀ args w, (callFunc f3 args).run Tryz.prog w = .ok (.enter f3 args) w
  u : ∀ s w o, Inv s w → ok (nx 0 o s) → kd o = 0 → Calls Tryz.prog f1 #[.pointer (some ⟨rb, o, none⟩), c] w fun e w' => e = .returned (.tuple #[]) ∧ Inv (nx 0 o s) w' ∧ Chg G w w'
  t : ∀ s w o, Inv s w → ok (nx 1 o s) → kd o = 1 → Calls Tryz.prog f2 #[.pointer (some ⟨rb, o, none⟩), c] w fun e w' => e = .returned (.tuple #[]) ∧ Inv (nx 1 o s) w' ∧ Chg G w w'
  d : ∀ s w o, Inv s w → ok (nx 2 o s) → kd o = 2 → Calls Tryz.prog f3 #[.pointer (some ⟨rb, o, none⟩), c] w fun e w' => e = .returned (.tuple #[]) ∧ Inv (nx 2 o s) w' ∧ Chg G w w'
theorem HC.okf {σ : Type} {Inv : σ → World → Prop} {G : Nat → Prop} {rb : Nat} {f1 f2 f3 : FuncId} {c : Value} {nx : Nat → Nat → σ → σ} {kd : Nat → Nat} {ok : σ → Prop} (H : HC σ Inv G rb f1 f2 f3 c nx kd ok) (k : Nat) (l : List Nat) : ∀ s, ok (l.foldl (fun s o => nx k o s) s) → ok s := by
  induction l with
  | nil => exact fun _ h => h
  | cons o l ih => exact fun s h => H.oks _ _ _ (ih _ h)
structure FinH (σ : Type) (Inv : σ → World → Prop) (G : Nat → Prop) (s : σ) (w : World) (e : Ending) (w' : World) : Prop where
  ret : e = .returned (.tuple #[])
  inv : Inv s w'
  chg : Chg G w w'
set_option maxHeartbeats 2000000 in
set_option maxRecDepth 100000 in
theorem numbers_any {σ : Type} {Inv : σ → World → Prop} {G : Nat → Prop} {rb sb n cc : Nat} {f1 f2 f3 : FuncId} {c : Value} {nx : Nat → Nat → σ → σ} {kd : Nat → Nat} {ok : σ → Prop} {s : σ} {offs : List Nat} {w : World} (H : HC σ Inv G rb f1 f2 f3 c nx kd ok) (hI : Inv s w) (hb : Blk w sb (offs.map fun o => .pointer (some ⟨rb, o, none⟩)) 111) (hG : ¬ G sb) (hk : ∀ o ∈ offs, kd o = 0) (hok : ok (offs.foldl (fun s o => nx 0 o s) s)) (hn : offs.length = n) (hn2 : n ≤ 1000) :
    Calls Tryz.prog 116 #[.agg #[.func (.func f1) #[] #[c], .func (.func f2) #[] #[c], .func (.func f3) #[] #[c]], .slice (some ⟨sb, 0, none⟩) n cc] w (FinH σ Inv G (offs.foldl (fun s o => nx 0 o s) s) w) := by
  have al := below_alloc w (.cells #[.func (.func f1) #[] #[c], .func (.func f2) #[] #[c], .func (.func f3) #[] #[c]] 216)
  have nb := blk_new w [.func (.func f1) #[] #[c], .func (.func f2) #[] #[c], .func (.func f3) #[] #[c]] 216
  have HH := hid3 H
  have HI := hid3 hI
  have HB := hid3 hb
  have HK := hid3 hk
  have HN := hid3 hn
  have HO := hid3 hok
  have AL := hid3 al
  have NB := hid3 nb
  have hgw : ¬ G w.heap.size := fun h => by have := H.old s w _ hI h; omega
  have HG := hid3 hG
  have HGW := hid3 hgw
  clear H hI hb hk hn al nb hG hgw hok
  go_enter Tryz.func116, Tryz.ntmps116
  go_wp2_with fail
  go_loopw [8] (fun ti wr => ∃ k : Nat, k ≤ n ∧ ti = .int .i64 k ∧ Hid (Inv ((offs.take k).foldl (fun s o => nx 0 o s) s) wr) ∧ Hid (Chg G w wr) ∧ Hid (Blk wr w.heap.size [.func (.func f1) #[] #[c], .func (.func f2) #[] #[c], .func (.func f3) #[] #[c]] 216)) (fun ti _ => n - (intOf ti).toNat)
  case atStart => exact ⟨0, Nat.zero_le _, rfl, HH.out.keep _ _ _ HI.out AL.out, Chg.of AL.out, NB.out⟩
  case round =>
    obtain ⟨k, hk, rfl, H1, H2, H3⟩ := hrel
    by_cases hlt : k < n
    · obtain ⟨o, ho⟩ : ∃ o, Hid (offs[k]? = some o) := ⟨offs[k]'(by have := HN.out; omega), List.getElem?_eq_getElem _⟩
      have hb1 := HB.out.chg H2.out HG.out
      have c1 : wr.cell? ⟨sb, k, none⟩ = some (.pointer (some ⟨rb, o, none⟩)) := hb1.cell (i := k) (by rw [List.getElem?_map, ho.out]; rfl)
      have c2 := H3.out.cell (i := 0) rfl
      have hk0 : (k : Int) < n := by omega
      have hov : ok (nx 0 o ((offs.take k).foldl (fun s o => nx 0 o s) s)) := by
        have h := HO.out
        rw [← List.take_append_drop (k + 1) offs, List.foldl_append] at h
        have h2 := HH.out.okf 0 _ _ h
        rw [List.take_add_one, ho.out, List.foldl_append] at h2
        exact h2
      have U := HH.out.u _ wr o H1.out hov (HK.out o (List.mem_of_getElem? ho.out))
      clear hb1 hov
      go_wp2_with fail
      rw [HH.out.e1]
      refine U.mono ?_
      rintro e' w3 ⟨rfl, I3, C3⟩
      go_wp2_with fail
      go_roundw
      case rel => exact ⟨k + 1, by omega, by go_num, by show Inv _ _; rw [List.take_add_one, ho.out, List.foldl_append]; exact I3, H2.out.trans C3 (fun _ _ h => h), H3.out.chg C3 HGW.out⟩
      case measure => simp [intOf]; omega
    · obtain rfl : k = n := by omega
      have hk0 : ¬ ((k : Int) < k) := by omega
      go_wp2
      go_end0
      refine ⟨rfl, ?_, H2.out⟩
      have h := H1.out
      rw [List.take_of_length_le (by have := HN.out; omega)] at h
      exact h
set_option maxHeartbeats 2000000 in
set_option maxRecDepth 100000 in
theorem decimals_any {σ : Type} {Inv : σ → World → Prop} {G : Nat → Prop} {rb sb n cc : Nat} {f1 f2 f3 : FuncId} {c : Value} {nx : Nat → Nat → σ → σ} {kd : Nat → Nat} {ok : σ → Prop} {s : σ} {offs : List Nat} {w : World} (H : HC σ Inv G rb f1 f2 f3 c nx kd ok) (hI : Inv s w) (hb : Blk w sb (offs.map fun o => .pointer (some ⟨rb, o, none⟩)) 212) (hG : ¬ G sb) (hk : ∀ o ∈ offs, kd o = 2) (hok : ok (offs.foldl (fun s o => nx 2 o s) s)) (hn : offs.length = n) (hn2 : n ≤ 1000) :
    Calls Tryz.prog 120 #[.agg #[.func (.func f1) #[] #[c], .func (.func f2) #[] #[c], .func (.func f3) #[] #[c]], .slice (some ⟨sb, 0, none⟩) n cc] w (FinH σ Inv G (offs.foldl (fun s o => nx 2 o s) s) w) := by
  have al := below_alloc w (.cells #[.func (.func f1) #[] #[c], .func (.func f2) #[] #[c], .func (.func f3) #[] #[c]] 216)
  have nb := blk_new w [.func (.func f1) #[] #[c], .func (.func f2) #[] #[c], .func (.func f3) #[] #[c]] 216
  have HH := hid3 H
  have HI := hid3 hI
  have HB := hid3 hb
  have HK := hid3 hk
  have HN := hid3 hn
  have HO := hid3 hok
  have AL := hid3 al
  have NB := hid3 nb
  have hgw : ¬ G w.heap.size := fun h => by have := H.old s w _ hI h; omega
  have HG := hid3 hG
  have HGW := hid3 hgw
  clear H hI hb hk hn al nb hG hgw hok
  go_enter Tryz.func120, Tryz.ntmps120
  go_wp2_with fail
  go_loopw [8] (fun ti wr => ∃ k : Nat, k ≤ n ∧ ti = .int .i64 k ∧ Hid (Inv ((offs.take k).foldl (fun s o => nx 2 o s) s) wr) ∧ Hid (Chg G w wr) ∧ Hid (Blk wr w.heap.size [.func (.func f1) #[] #[c], .func (.func f2) #[] #[c], .func (.func f3) #[] #[c]] 216)) (fun ti _ => n - (intOf ti).toNat)
  case atStart => exact ⟨0, Nat.zero_le _, rfl, HH.out.keep _ _ _ HI.out AL.out, Chg.of AL.out, NB.out⟩
  case round =>
    obtain ⟨k, hk, rfl, H1, H2, H3⟩ := hrel
    by_cases hlt : k < n
    · obtain ⟨o, ho⟩ : ∃ o, Hid (offs[k]? = some o) := ⟨offs[k]'(by have := HN.out; omega), List.getElem?_eq_getElem _⟩
      have hb1 := HB.out.chg H2.out HG.out
      have c1 : wr.cell? ⟨sb, k, none⟩ = some (.pointer (some ⟨rb, o, none⟩)) := hb1.cell (i := k) (by rw [List.getElem?_map, ho.out]; rfl)
      have c2 := H3.out.cell (i := 2) rfl
      have hk0 : (k : Int) < n := by omega
      have hov : ok (nx 2 o ((offs.take k).foldl (fun s o => nx 2 o s) s)) := by
        have h := HO.out
        rw [← List.take_append_drop (k + 1) offs, List.foldl_append] at h
        have h2 := HH.out.okf 2 _ _ h
        rw [List.take_add_one, ho.out, List.foldl_append] at h2
        exact h2
      have U := HH.out.d _ wr o H1.out hov (HK.out o (List.mem_of_getElem? ho.out))
      clear hb1 hov
      go_wp2_with fail
      rw [HH.out.e3]
      refine U.mono ?_
      rintro e' w3 ⟨rfl, I3, C3⟩
      go_wp2_with fail
      go_roundw
      case rel => exact ⟨k + 1, by omega, by go_num, by show Inv _ _; rw [List.take_add_one, ho.out, List.foldl_append]; exact I3, H2.out.trans C3 (fun _ _ h => h), H3.out.chg C3 HGW.out⟩
      case measure => simp [intOf]; omega
    · obtain rfl : k = n := by omega
      have hk0 : ¬ ((k : Int) < k) := by omega
      go_wp2
      go_end0
      refine ⟨rfl, ?_, H2.out⟩
      have h := H1.out
      rw [List.take_of_length_le (by have := HN.out; omega)] at h
      exact h
end Rc
end Go.Proofs.YtpoifdokmjhclaaGreat

namespace Go.Proofs.YtpoifdokmjhclaaGreat
namespace Rc
open Go.RowKit Go.Lib Pg Gl
attribute [local go_sem] Oper.semAt_some
set_option maxRecDepth 100000
def thr {σ : Type} (nx : Nat → Nat → σ → σ) (l : List (Nat × Nat)) (s : σ) : σ := l.foldl (fun s p => nx p.1 p.2 s) s
theorem HC.okt {σ : Type} {Inv : σ → World → Prop} {G : Nat → Prop} {rb : Nat} {f1 f2 f3 : FuncId} {c : Value} {nx : Nat → Nat → σ → σ} {kd : Nat → Nat} {ok : σ → Prop} (H : HC σ Inv G rb f1 f2 f3 c nx kd ok) (l : List (Nat × Nat)) : ∀ s, ok (thr nx l s) → ok s := by
  induction l with
  | nil => exact fun _ h => h
  | cons o l ih => exact fun s h => H.oks _ _ _ (ih _ h)
abbrev hq (f1 f2 f3 : FuncId) (c : Value) : List Value := [.func (.func f1) #[] #[c], .func (.func f2) #[] #[c], .func (.func f3) #[] #[c]]
theorem run_cvL {ev : Operand → Value} {w : World} {o : Oper} {x y : Operand} {f : FuncId} {v c : Value} {T : Array TypeId} (ho : o.op = .call { callee := .value x, args := #[y], argTypes := T }) (hx : ev x = .func (.func f) #[] #[c]) (hy : ev y = v) (he : ∀ args w, (callFunc f args).run Tryz.prog w = .ok (.enter f args) w) : (execOp ev o).run Tryz.prog w = .ok (.enter f #[v, c]) w := by
  have h9 := he #[v, c] w
  simp only [execOp, ho]
  go_simp
/-- on the way through a record's fields: R is left -/
structure Oi {σ : Type} (Inv : σ → World → Prop) (G : Nat → Prop) (rb : Nat) (f1 f2 f3 : FuncId) (c : Value) (nx : Nat → Nat → σ → σ) (kd : Nat → Nat) (ok : σ → Prop) (w0 : World) (gb : Nat) (R : List (Nat × Nat)) (s : σ) (w : World) : Prop where
  H : HC σ Inv G rb f1 f2 f3 c nx kd ok
  I : Inv s w
  C : Chg G w0 w
  X : Blk w gb (hq f1 f2 f3 c) 216
  ng : ¬ G gb
  hk : ∀ p ∈ R, kd p.2 = p.1
  hok : ok (thr nx R s)
section
variable {σ : Type} {Inv : σ → World → Prop} {G : Nat → Prop} {rb : Nat} {f1 f2 f3 : FuncId} {c : Value} {nx : Nat → Nat → σ → σ} {kd : Nat → Nat} {ok : σ → Prop} {s : σ} {w0 w v : World} {gb : Nat} {R : List (Nat × Nat)}
theorem Oi.start (H : HC σ Inv G rb f1 f2 f3 c nx kd ok) (hI : Inv s w) (hk : ∀ p ∈ R, kd p.2 = p.1) (hok : ok (thr nx R s)) (X : Blk v gb (hq f1 f2 f3 c) 216) (hg : w.heap.size ≤ gb) (B : Below w.heap.size w v) : Oi Inv G rb f1 f2 f3 c nx kd ok w gb R s v :=
  ⟨H, H.keep _ _ _ hI B, Chg.of B, X, fun h => by have := H.old s w _ hI h; omega, hk, hok⟩
theorem Oi.below (O : Oi Inv G rb f1 f2 f3 c nx kd ok w0 gb R s w) (B : Below w.heap.size w v) : Oi Inv G rb f1 f2 f3 c nx kd ok w0 gb R s v :=
  ⟨O.H, O.H.keep _ _ _ O.I B, O.C.trans (Chg.of (F := G) B) (fun _ _ h => h), O.X.keep B, O.ng, O.hk, O.hok⟩
theorem Oi.drew (O : Oi Inv G rb f1 f2 f3 c nx kd ok w0 gb R s w) : Oi Inv G rb f1 f2 f3 c nx kd ok w0 gb R s w.drew := O.below (belowD' w)
theorem Oi.new (O : Oi Inv G rb f1 f2 f3 c nx kd ok w0 gb R s w) {g : Nat} (hg : w.heap.size ≤ g) (B : Below w.heap.size w v) : Oi Inv G rb f1 f2 f3 c nx kd ok w0 gb R s v ∧ ¬ G g :=
  ⟨O.below B, fun h => by have := O.H.old s w _ O.I h; omega⟩
theorem thr_take {k : Nat} (offs : List Nat) (hR : R.take offs.length = offs.map fun o => (k, o)) : thr nx R s = thr nx (R.drop offs.length) (offs.foldl (fun s o => nx k o s) s) := by
  conv => lhs; rw [← List.take_append_drop offs.length R, hR]
  simp only [thr, List.foldl_append, List.foldl_map]
theorem Oi.next {k : Nat} (O : Oi Inv G rb f1 f2 f3 c nx kd ok w0 gb R s w) (offs : List Nat) (hR : R.take offs.length = offs.map fun o => (k, o)) : (∀ o ∈ offs, kd o = k) ∧ ok (offs.foldl (fun s o => nx k o s) s) ∧ (Inv (offs.foldl (fun s o => nx k o s) s) v → Chg G w v → Oi Inv G rb f1 f2 f3 c nx kd ok w0 gb (R.drop offs.length) (offs.foldl (fun s o => nx k o s) s) v) := by
  have hok := O.hok
  rw [thr_take offs hR] at hok
  exact ⟨fun o ho => O.hk (k, o) (List.mem_of_mem_take (hR ▸ List.mem_map.2 ⟨o, ho, rfl⟩)), O.H.okt _ _ hok, fun I C => ⟨O.H, I, O.C.trans C (fun _ _ h => h), O.X.chg C O.ng, O.ng, fun p hp => O.hk p (List.mem_of_mem_drop hp), hok⟩⟩
theorem Oi.tru (o : Nat) (O : Oi Inv G rb f1 f2 f3 c nx kd ok w0 gb R s w) (hR : R.take 1 = [(1, o)] := by rfl) : Calls Tryz.prog f2 #[pq rb o, c] w fun e w' => e = .returned (.tuple #[]) ∧ Oi Inv G rb f1 f2 f3 c nx kd ok w0 gb (R.drop 1) (nx 1 o s) w' := by
  have h1 := (O.next (v := w) [o] hR).1
  have h2 := (O.next (v := w) [o] hR).2.1
  refine (O.H.t s w o O.I h2 (h1 o (List.mem_singleton.2 rfl))).mono ?_
  rintro e w' ⟨rfl, I, C⟩
  exact ⟨rfl, (O.next [o] hR).2.2 I C⟩
theorem Oi.numbers (offs : List Nat) {n sb : Nat} (O : Oi Inv G rb f1 f2 f3 c nx kd ok w0 gb R s w) (N : ¬ G sb) (X : Blk w sb (offs.map fun o => .pointer (some ⟨rb, o, none⟩)) 111) (hR : R.take offs.length = offs.map (fun o => (0, o)) := by rfl) (hn : offs.length = n := by rfl) (h2 : n ≤ 1000 := by decide) : Calls Tryz.prog 116 #[.agg (hq f1 f2 f3 c).toArray, sg n sb] w fun e w' => e = .returned (.tuple #[]) ∧ Oi Inv G rb f1 f2 f3 c nx kd ok w0 gb (R.drop offs.length) (offs.foldl (fun s o => nx 0 o s) s) w' := by
  refine (numbers_any O.H O.I X N (O.next (v := w) offs hR).1 (O.next (v := w) offs hR).2.1 hn h2).mono ?_
  rintro e w' ⟨rfl, I, C⟩
  exact ⟨rfl, (O.next offs hR).2.2 I C⟩
theorem Oi.decimals (offs : List Nat) {n sb : Nat} (O : Oi Inv G rb f1 f2 f3 c nx kd ok w0 gb R s w) (N : ¬ G sb) (X : Blk w sb (offs.map fun o => .pointer (some ⟨rb, o, none⟩)) 212) (hR : R.take offs.length = offs.map (fun o => (2, o)) := by rfl) (hn : offs.length = n := by rfl) (h2 : n ≤ 1000 := by decide) : Calls Tryz.prog 120 #[.agg (hq f1 f2 f3 c).toArray, sg n sb] w fun e w' => e = .returned (.tuple #[]) ∧ Oi Inv G rb f1 f2 f3 c nx kd ok w0 gb (R.drop offs.length) (offs.foldl (fun s o => nx 2 o s) s) w' := by
  refine (decimals_any O.H O.I X N (O.next (v := w) offs hR).1 (O.next (v := w) offs hR).2.1 hn h2).mono ?_
  rintro e w' ⟨rfl, I, C⟩
  exact ⟨rfl, (O.next offs hR).2.2 I C⟩
theorem ofParams_any (H : HC σ Inv G rb f1 f2 f3 c nx kd ok) (hI : Inv s w) (hkd : ∀ p ∈ [(0, 0), (0, 1), (0, 2), (0, 3), (0, 4), (0, 5), (0, 6), (0, 7), (0, 8), (0, 9)], kd p.2 = p.1) (hok : ok (thr nx [(0, 0), (0, 1), (0, 2), (0, 3), (0, 4), (0, 5), (0, 6), (0, 7), (0, 8), (0, 9)] s)) : Calls Tryz.prog 128 #[.pointer (some ⟨rb, 0, none⟩), .agg #[.func (.func f1) #[] #[c], .func (.func f2) #[] #[c], .func (.func f3) #[] #[c]]] w (FinH σ Inv G (thr nx [(0, 0), (0, 1), (0, 2), (0, 3), (0, 4), (0, 5), (0, 6), (0, 7), (0, 8), (0, 9)] s) w) := by
  refine gc_enter (n := 37) Tryz.func128 rfl (by kernel_rfl) (by kernel_rfl) ?_
  refine gc_seq ?_
  refine gc_reg ?_
  refine ta 3 (hq f1 f2 f3 c) 216 (pg) ?_
  intro v1 g2 Xg2 hg2 B
  have O := Oi.start H hI hkd hok Xg2 hg2 B
  clear Xg2 B H hI hkd hok
  refine gl_nil ?_
  refine ge_then ?_
  replace O := O.drew
  refine gc_draw (fun w' => Blk w' g2 (hq f1 f2 f3 c) 216) (fun _ => false) O.X ?_
  refine zlr 0 4 (hq f1 f2 f3 c) (fun _ h => h) 0 ?_
  refine z 1 5 (pg rb) ?_
  refine z 2 6 (pg rb) ?_
  refine z 3 7 (pg rb) ?_
  refine z 4 8 (pg rb) ?_
  refine z 5 9 (pg rb) ?_
  refine z 6 10 (pq rb 1) ?_
  refine z 7 11 (pg rb) ?_
  refine z 8 12 (pg rb) ?_
  refine z 9 13 (pq rb 2) ?_
  refine z 10 14 (pg rb) ?_
  refine z 11 15 (pg rb) ?_
  refine z 12 16 (pq rb 3) ?_
  refine z 13 17 (pg rb) ?_
  refine z 14 18 (pg rb) ?_
  refine z 15 19 (pq rb 4) ?_
  refine z 16 20 (pg rb) ?_
  refine z 17 21 (pg rb) ?_
  refine z 18 22 (pq rb 5) ?_
  refine z 19 23 (pg rb) ?_
  refine z 20 24 (pg rb) ?_
  refine z 21 25 (pq rb 6) ?_
  refine z 22 26 (pg rb) ?_
  refine z 23 27 (pg rb) ?_
  refine z 24 28 (pq rb 7) ?_
  refine z 25 29 (pg rb) ?_
  refine z 26 30 (pg rb) ?_
  refine z 27 31 (pq rb 8) ?_
  refine z 28 32 (pg rb) ?_
  refine z 29 33 (pg rb) ?_
  refine z 30 34 (pq rb 9) ?_
  refine za 31 35 [pg rb, pq rb 1, pq rb 2, pq rb 3, pq rb 4, pq rb 5, pq rb 6, pq rb 7, pq rb 8, pq rb 9] 111 (sg 10) ?_
  intro v3 g4 Xg4 hg4 B
  obtain ⟨O, N⟩ := O.new hg4 B
  refine ⟨O.X, ?_⟩
  refine zc 32 36 116 #[.agg (hq f1 f2 f3 c).toArray, sg 10 g4] (O.numbers [0, 1, 2, 3, 4, 5, 6, 7, 8, 9] N Xg4) ?_
  rintro _ v5 ⟨rfl, O⟩
  clear Xg4 N
  refine ⟨_, rfl, O.X, ?_⟩
  refine gz_done ?_
  refine ge_end (.tuple #[]) (rs0 (by kernel_rfl)) ?_
  exact ⟨rfl, O.I, O.C⟩
theorem ofChain_any (H : HC σ Inv G rb f1 f2 f3 c nx kd ok) (hI : Inv s w) (hkd : ∀ p ∈ [(0, 0), (0, 1)], kd p.2 = p.1) (hok : ok (thr nx [(0, 0), (0, 1)] s)) : Calls Tryz.prog 130 #[.pointer (some ⟨rb, 0, none⟩), .agg #[.func (.func f1) #[] #[c], .func (.func f2) #[] #[c], .func (.func f3) #[] #[c]]] w (FinH σ Inv G (thr nx [(0, 0), (0, 1)] s) w) := by
  refine gc_enter (n := 13) Tryz.func130 rfl (by kernel_rfl) (by kernel_rfl) ?_
  refine gc_seq ?_
  refine gc_reg ?_
  refine ta 3 (hq f1 f2 f3 c) 216 (pg) ?_
  intro v1 g2 Xg2 hg2 B
  have O := Oi.start H hI hkd hok Xg2 hg2 B
  clear Xg2 B H hI hkd hok
  refine gl_nil ?_
  refine ge_then ?_
  replace O := O.drew
  refine gc_draw (fun w' => Blk w' g2 (hq f1 f2 f3 c) 216) (fun _ => false) O.X ?_
  refine zlr 0 4 (hq f1 f2 f3 c) (fun _ h => h) 0 ?_
  refine z 1 5 (pg rb) ?_
  refine z 2 6 (pg rb) ?_
  refine z 3 7 (pg rb) ?_
  refine z 4 8 (pg rb) ?_
  refine z 5 9 (pg rb) ?_
  refine z 6 10 (pq rb 1) ?_
  refine za 7 11 [pg rb, pq rb 1] 111 (sg 2) ?_
  intro v3 g4 Xg4 hg4 B
  obtain ⟨O, N⟩ := O.new hg4 B
  refine ⟨O.X, ?_⟩
  refine zc 8 12 116 #[.agg (hq f1 f2 f3 c).toArray, sg 2 g4] (O.numbers [0, 1] N Xg4) ?_
  rintro _ v5 ⟨rfl, O⟩
  clear Xg4 N
  refine ⟨_, rfl, O.X, ?_⟩
  refine gz_done ?_
  refine ge_end (.tuple #[]) (rs0 (by kernel_rfl)) ?_
  exact ⟨rfl, O.I, O.C⟩
theorem ofPool_any (H : HC σ Inv G rb f1 f2 f3 c nx kd ok) (hI : Inv s w) (hkd : ∀ p ∈ [(2, 0)], kd p.2 = p.1) (hok : ok (thr nx [(2, 0)] s)) : Calls Tryz.prog 363 #[.pointer (some ⟨rb, 0, none⟩), .agg #[.func (.func f1) #[] #[c], .func (.func f2) #[] #[c], .func (.func f3) #[] #[c]]] w (FinH σ Inv G (thr nx [(2, 0)] s) w) := by
  refine gc_enter (n := 8) Tryz.func363 rfl (by kernel_rfl) (by kernel_rfl) ?_
  refine gc_seq ?_
  refine gc_reg ?_
  refine ta 3 (hq f1 f2 f3 c) 216 (pg) ?_
  intro v1 g2 Xg2 hg2 B
  have O := Oi.start H hI hkd hok Xg2 hg2 B
  clear Xg2 B H hI hkd hok
  refine gl_nil ?_
  refine ge_then ?_
  refine gc_reg ?_
  refine tlr 4 (hq f1 f2 f3 c) O.X 0 ?_
  refine t 5 (pg rb) ?_
  refine ta 6 [pg rb] 212 (sg 1) ?_
  intro v3 g4 Xg4 hg4 B
  obtain ⟨O, N⟩ := O.new hg4 B
  refine tc 7 120 #[.agg (hq f1 f2 f3 c).toArray, sg 1 g4] (O.decimals [0] N Xg4) ?_
  rintro _ v5 ⟨rfl, O⟩
  refine ⟨_, rfl, ?_⟩
  clear Xg4 N
  refine gl_nil ?_
  refine ge_end (.tuple #[]) (rs0 (by kernel_rfl)) ?_
  exact ⟨rfl, O.I, O.C⟩
theorem ofAccount_any (H : HC σ Inv G rb f1 f2 f3 c nx kd ok) (hI : Inv s w) (hkd : ∀ p ∈ [(0, 0), (0, 1)], kd p.2 = p.1) (hok : ok (thr nx [(0, 0), (0, 1)] s)) : Calls Tryz.prog 74 #[.pointer (some ⟨rb, 0, none⟩), .agg #[.func (.func f1) #[] #[c], .func (.func f2) #[] #[c], .func (.func f3) #[] #[c]]] w (FinH σ Inv G (thr nx [(0, 0), (0, 1)] s) w) := by
  refine gc_enter (n := 13) Tryz.func74 rfl (by kernel_rfl) (by kernel_rfl) ?_
  refine gc_seq ?_
  refine gc_reg ?_
  refine ta 3 (hq f1 f2 f3 c) 216 (pg) ?_
  intro v1 g2 Xg2 hg2 B
  have O := Oi.start H hI hkd hok Xg2 hg2 B
  clear Xg2 B H hI hkd hok
  refine gl_nil ?_
  refine ge_then ?_
  replace O := O.drew
  refine gc_draw (fun w' => Blk w' g2 (hq f1 f2 f3 c) 216) (fun _ => false) O.X ?_
  refine zlr 0 4 (hq f1 f2 f3 c) (fun _ h => h) 0 ?_
  refine z 1 5 (pg rb) ?_
  refine z 2 6 (pg rb) ?_
  refine z 3 7 (pg rb) ?_
  refine z 4 8 (pg rb) ?_
  refine z 5 9 (pg rb) ?_
  refine z 6 10 (pq rb 1) ?_
  refine za 7 11 [pg rb, pq rb 1] 111 (sg 2) ?_
  intro v3 g4 Xg4 hg4 B
  obtain ⟨O, N⟩ := O.new hg4 B
  refine ⟨O.X, ?_⟩
  refine zc 8 12 116 #[.agg (hq f1 f2 f3 c).toArray, sg 2 g4] (O.numbers [0, 1] N Xg4) ?_
  rintro _ v5 ⟨rfl, O⟩
  clear Xg4 N
  refine ⟨_, rfl, O.X, ?_⟩
  refine gz_done ?_
  refine ge_end (.tuple #[]) (rs0 (by kernel_rfl)) ?_
  exact ⟨rfl, O.I, O.C⟩
theorem ofVal_any (H : HC σ Inv G rb f1 f2 f3 c nx kd ok) (hI : Inv s w) (hkd : ∀ p ∈ [(0, 0), (0, 1), (2, 2), (1, 3), (0, 4), (1, 5), (0, 6), (2, 7), (2, 8), (2, 9)], kd p.2 = p.1) (hok : ok (thr nx [(0, 0), (0, 1), (2, 2), (1, 3), (0, 4), (1, 5), (0, 6), (2, 7), (2, 8), (2, 9)] s)) : Calls Tryz.prog 77 #[.pointer (some ⟨rb, 0, none⟩), .agg #[.func (.func f1) #[] #[c], .func (.func f2) #[] #[c], .func (.func f3) #[] #[c]]] w (FinH σ Inv G (thr nx [(0, 0), (0, 1), (2, 2), (1, 3), (0, 4), (1, 5), (0, 6), (2, 7), (2, 8), (2, 9)] s) w) := by
  refine gc_enter (n := 55) Tryz.func77 rfl (by kernel_rfl) (by kernel_rfl) ?_
  refine gc_seq ?_
  refine gc_reg ?_
  refine ta 3 (hq f1 f2 f3 c) 216 (pg) ?_
  intro v1 g2 Xg2 hg2 B
  have O := Oi.start H hI hkd hok Xg2 hg2 B
  clear Xg2 B H hI hkd hok
  refine gl_nil ?_
  refine ge_then ?_
  refine gc_seq ?_
  replace O := O.drew
  refine gc_draw (fun w' => Blk w' g2 (hq f1 f2 f3 c) 216) (fun _ => false) O.X ?_
  refine zlr 0 4 (hq f1 f2 f3 c) (fun _ h => h) 0 ?_
  refine z 1 5 (pg rb) ?_
  refine z 2 6 (pg rb) ?_
  refine z 3 7 (pg rb) ?_
  refine z 4 8 (pg rb) ?_
  refine z 5 9 (pg rb) ?_
  refine z 6 10 (pq rb 1) ?_
  refine za 7 11 [pg rb, pq rb 1] 111 (sg 2) ?_
  intro v3 g4 Xg4 hg4 B
  obtain ⟨O, N⟩ := O.new hg4 B
  refine ⟨O.X, ?_⟩
  refine zc 8 12 116 #[.agg (hq f1 f2 f3 c).toArray, sg 2 g4] (O.numbers [0, 1] N Xg4) ?_
  rintro _ v5 ⟨rfl, O⟩
  clear Xg4 N
  refine ⟨_, rfl, O.X, ?_⟩
  refine gz_done ?_
  refine ge_then ?_
  refine gc_fr [(0, pg rb), (3, pg g2)] (by kernel_rfl) ?_
  refine gc_seq ?_
  replace O := O.drew
  refine gc_draw (fun w' => Blk w' g2 (hq f1 f2 f3 c) 216) (fun _ => false) O.X ?_
  refine zlr 0 13 (hq f1 f2 f3 c) (fun _ h => h) 0 ?_
  refine z 1 14 (pg rb) ?_
  refine z 2 15 (pg rb) ?_
  refine z 3 16 (pq rb 2) ?_
  refine za 4 17 [pq rb 2] 212 (sg 1) ?_
  intro v6 g7 Xg7 hg7 B
  obtain ⟨O, N⟩ := O.new hg7 B
  refine ⟨O.X, ?_⟩
  refine zc 5 18 120 #[.agg (hq f1 f2 f3 c).toArray, sg 1 g7] (O.decimals [2] N Xg7) ?_
  rintro _ v8 ⟨rfl, O⟩
  clear Xg7 N
  refine ⟨_, rfl, O.X, ?_⟩
  refine gz_done ?_
  refine ge_then ?_
  refine gc_seq ?_
  replace O := O.drew
  refine gc_draw (fun w' => Blk w' g2 (hq f1 f2 f3 c) 216) (fun _ => false) O.X ?_
  refine z 0 19 (pq g2 1) ?_
  refine zl 1 20 (.func (.func f2) #[] #[c]) (fun _ h => h) 1 ?_
  refine z 2 21 (pg rb) ?_
  refine z 3 22 (pg rb) ?_
  refine z 4 23 (pq rb 3) ?_
  refine zc 5 24 f2 #[pq rb 3, c] (O.tru 3) ?_ (hrun := run_cvL rfl (by kernel_rfl) (by kernel_rfl) O.H.e2)
  rintro _ v9 ⟨rfl, O⟩
  refine ⟨_, rfl, O.X, ?_⟩
  refine gz_done ?_
  refine ge_then ?_
  refine gc_fr [(0, pg rb), (3, pg g2)] (by kernel_rfl) ?_
  refine gc_seq ?_
  replace O := O.drew
  refine gc_draw (fun w' => Blk w' g2 (hq f1 f2 f3 c) 216) (fun _ => false) O.X ?_
  refine zlr 0 25 (hq f1 f2 f3 c) (fun _ h => h) 0 ?_
  refine z 1 26 (pg rb) ?_
  refine z 2 27 (pg rb) ?_
  refine z 3 28 (pq rb 4) ?_
  refine za 4 29 [pq rb 4] 111 (sg 1) ?_
  intro v10 g11 Xg11 hg11 B
  obtain ⟨O, N⟩ := O.new hg11 B
  refine ⟨O.X, ?_⟩
  refine zc 5 30 116 #[.agg (hq f1 f2 f3 c).toArray, sg 1 g11] (O.numbers [4] N Xg11) ?_
  rintro _ v12 ⟨rfl, O⟩
  clear Xg11 N
  refine ⟨_, rfl, O.X, ?_⟩
  refine gz_done ?_
  refine ge_then ?_
  refine gc_seq ?_
  replace O := O.drew
  refine gc_draw (fun w' => Blk w' g2 (hq f1 f2 f3 c) 216) (fun _ => false) O.X ?_
  refine z 0 31 (pq g2 1) ?_
  refine zl 1 32 (.func (.func f2) #[] #[c]) (fun _ h => h) 1 ?_
  refine z 2 33 (pg rb) ?_
  refine z 3 34 (pg rb) ?_
  refine z 4 35 (pq rb 5) ?_
  refine zc 5 36 f2 #[pq rb 5, c] (O.tru 5) ?_ (hrun := run_cvL rfl (by kernel_rfl) (by kernel_rfl) O.H.e2)
  rintro _ v13 ⟨rfl, O⟩
  refine ⟨_, rfl, O.X, ?_⟩
  refine gz_done ?_
  refine ge_then ?_
  refine gc_fr [(0, pg rb), (3, pg g2)] (by kernel_rfl) ?_
  refine gc_seq ?_
  replace O := O.drew
  refine gc_draw (fun w' => Blk w' g2 (hq f1 f2 f3 c) 216) (fun _ => false) O.X ?_
  refine zlr 0 37 (hq f1 f2 f3 c) (fun _ h => h) 0 ?_
  refine z 1 38 (pg rb) ?_
  refine z 2 39 (pg rb) ?_
  refine z 3 40 (pq rb 6) ?_
  refine za 4 41 [pq rb 6] 111 (sg 1) ?_
  intro v14 g15 Xg15 hg15 B
  obtain ⟨O, N⟩ := O.new hg15 B
  refine ⟨O.X, ?_⟩
  refine zc 5 42 116 #[.agg (hq f1 f2 f3 c).toArray, sg 1 g15] (O.numbers [6] N Xg15) ?_
  rintro _ v16 ⟨rfl, O⟩
  clear Xg15 N
  refine ⟨_, rfl, O.X, ?_⟩
  refine gz_done ?_
  refine ge_then ?_
  replace O := O.drew
  refine gc_draw (fun w' => Blk w' g2 (hq f1 f2 f3 c) 216) (fun _ => false) O.X ?_
  refine zlr 0 43 (hq f1 f2 f3 c) (fun _ h => h) 0 ?_
  refine z 1 44 (pg rb) ?_
  refine z 2 45 (pg rb) ?_
  refine z 3 46 (pq rb 7) ?_
  refine z 4 47 (pg rb) ?_
  refine z 5 48 (pg rb) ?_
  refine z 6 49 (pq rb 8) ?_
  refine z 7 50 (pg rb) ?_
  refine z 8 51 (pg rb) ?_
  refine z 9 52 (pq rb 9) ?_
  refine za 10 53 [pq rb 7, pq rb 8, pq rb 9] 212 (sg 3) ?_
  intro v17 g18 Xg18 hg18 B
  obtain ⟨O, N⟩ := O.new hg18 B
  refine ⟨O.X, ?_⟩
  refine zc 11 54 120 #[.agg (hq f1 f2 f3 c).toArray, sg 3 g18] (O.decimals [7, 8, 9] N Xg18) ?_
  rintro _ v19 ⟨rfl, O⟩
  clear Xg18 N
  refine ⟨_, rfl, O.X, ?_⟩
  refine gz_done ?_
  refine ge_end (.tuple #[]) (rs0 (by kernel_rfl)) ?_
  exact ⟨rfl, O.I, O.C⟩
theorem ofDelegation_any (H : HC σ Inv G rb f1 f2 f3 c nx kd ok) (hI : Inv s w) (hkd : ∀ p ∈ [(2, 0), (0, 1), (2, 2)], kd p.2 = p.1) (hok : ok (thr nx [(2, 0), (0, 1), (2, 2)] s)) : Calls Tryz.prog 341 #[.pointer (some ⟨rb, 0, none⟩), .agg #[.func (.func f1) #[] #[c], .func (.func f2) #[] #[c], .func (.func f3) #[] #[c]]] w (FinH σ Inv G (thr nx [(2, 0), (0, 1), (2, 2)] s) w) := by
  refine gc_enter (n := 22) Tryz.func341 rfl (by kernel_rfl) (by kernel_rfl) ?_
  refine gc_seq ?_
  refine gc_reg ?_
  refine ta 3 (hq f1 f2 f3 c) 216 (pg) ?_
  intro v1 g2 Xg2 hg2 B
  have O := Oi.start H hI hkd hok Xg2 hg2 B
  clear Xg2 B H hI hkd hok
  refine gl_nil ?_
  refine ge_then ?_
  refine gc_seq ?_
  replace O := O.drew
  refine gc_draw (fun w' => Blk w' g2 (hq f1 f2 f3 c) 216) (fun _ => false) O.X ?_
  refine zlr 0 4 (hq f1 f2 f3 c) (fun _ h => h) 0 ?_
  refine z 1 5 (pg rb) ?_
  refine z 2 6 (pg rb) ?_
  refine z 3 7 (pg rb) ?_
  refine za 4 8 [pg rb] 212 (sg 1) ?_
  intro v3 g4 Xg4 hg4 B
  obtain ⟨O, N⟩ := O.new hg4 B
  refine ⟨O.X, ?_⟩
  refine zc 5 9 120 #[.agg (hq f1 f2 f3 c).toArray, sg 1 g4] (O.decimals [0] N Xg4) ?_
  rintro _ v5 ⟨rfl, O⟩
  clear Xg4 N
  refine ⟨_, rfl, O.X, ?_⟩
  refine gz_done ?_
  refine ge_then ?_
  refine gc_seq ?_
  replace O := O.drew
  refine gc_draw (fun w' => Blk w' g2 (hq f1 f2 f3 c) 216) (fun _ => false) O.X ?_
  refine zlr 0 10 (hq f1 f2 f3 c) (fun _ h => h) 0 ?_
  refine z 1 11 (pg rb) ?_
  refine z 2 12 (pg rb) ?_
  refine z 3 13 (pq rb 1) ?_
  refine za 4 14 [pq rb 1] 111 (sg 1) ?_
  intro v6 g7 Xg7 hg7 B
  obtain ⟨O, N⟩ := O.new hg7 B
  refine ⟨O.X, ?_⟩
  refine zc 5 15 116 #[.agg (hq f1 f2 f3 c).toArray, sg 1 g7] (O.numbers [1] N Xg7) ?_
  rintro _ v8 ⟨rfl, O⟩
  clear Xg7 N
  refine ⟨_, rfl, O.X, ?_⟩
  refine gz_done ?_
  refine ge_then ?_
  refine gc_fr [(0, pg rb), (3, pg g2)] (by kernel_rfl) ?_
  replace O := O.drew
  refine gc_draw (fun w' => Blk w' g2 (hq f1 f2 f3 c) 216) (fun _ => false) O.X ?_
  refine zlr 0 16 (hq f1 f2 f3 c) (fun _ h => h) 0 ?_
  refine z 1 17 (pg rb) ?_
  refine z 2 18 (pg rb) ?_
  refine z 3 19 (pq rb 2) ?_
  refine za 4 20 [pq rb 2] 212 (sg 1) ?_
  intro v9 g10 Xg10 hg10 B
  obtain ⟨O, N⟩ := O.new hg10 B
  refine ⟨O.X, ?_⟩
  refine zc 5 21 120 #[.agg (hq f1 f2 f3 c).toArray, sg 1 g10] (O.decimals [2] N Xg10) ?_
  rintro _ v11 ⟨rfl, O⟩
  clear Xg10 N
  refine ⟨_, rfl, O.X, ?_⟩
  refine gz_done ?_
  refine ge_end (.tuple #[]) (rs0 (by kernel_rfl)) ?_
  exact ⟨rfl, O.I, O.C⟩
theorem ofHistory_any (H : HC σ Inv G rb f1 f2 f3 c nx kd ok) (hI : Inv s w) (hkd : ∀ p ∈ [(2, 0), (0, 1)], kd p.2 = p.1) (hok : ok (thr nx [(2, 0), (0, 1)] s)) : Calls Tryz.prog 263 #[.pointer (some ⟨rb, 0, none⟩), .agg #[.func (.func f1) #[] #[c], .func (.func f2) #[] #[c], .func (.func f3) #[] #[c]]] w (FinH σ Inv G (thr nx [(2, 0), (0, 1)] s) w) := by
  refine gc_enter (n := 16) Tryz.func263 rfl (by kernel_rfl) (by kernel_rfl) ?_
  refine gc_seq ?_
  refine gc_reg ?_
  refine ta 3 (hq f1 f2 f3 c) 216 (pg) ?_
  intro v1 g2 Xg2 hg2 B
  have O := Oi.start H hI hkd hok Xg2 hg2 B
  clear Xg2 B H hI hkd hok
  refine gl_nil ?_
  refine ge_then ?_
  refine gc_seq ?_
  replace O := O.drew
  refine gc_draw (fun w' => Blk w' g2 (hq f1 f2 f3 c) 216) (fun _ => false) O.X ?_
  refine zlr 0 4 (hq f1 f2 f3 c) (fun _ h => h) 0 ?_
  refine z 1 5 (pg rb) ?_
  refine z 2 6 (pg rb) ?_
  refine z 3 7 (pg rb) ?_
  refine za 4 8 [pg rb] 212 (sg 1) ?_
  intro v3 g4 Xg4 hg4 B
  obtain ⟨O, N⟩ := O.new hg4 B
  refine ⟨O.X, ?_⟩
  refine zc 5 9 120 #[.agg (hq f1 f2 f3 c).toArray, sg 1 g4] (O.decimals [0] N Xg4) ?_
  rintro _ v5 ⟨rfl, O⟩
  clear Xg4 N
  refine ⟨_, rfl, O.X, ?_⟩
  refine gz_done ?_
  refine ge_then ?_
  replace O := O.drew
  refine gc_draw (fun w' => Blk w' g2 (hq f1 f2 f3 c) 216) (fun _ => false) O.X ?_
  refine zlr 0 10 (hq f1 f2 f3 c) (fun _ h => h) 0 ?_
  refine z 1 11 (pg rb) ?_
  refine z 2 12 (pg rb) ?_
  refine z 3 13 (pq rb 1) ?_
  refine za 4 14 [pq rb 1] 111 (sg 1) ?_
  intro v6 g7 Xg7 hg7 B
  obtain ⟨O, N⟩ := O.new hg7 B
  refine ⟨O.X, ?_⟩
  refine zc 5 15 116 #[.agg (hq f1 f2 f3 c).toArray, sg 1 g7] (O.numbers [1] N Xg7) ?_
  rintro _ v8 ⟨rfl, O⟩
  clear Xg7 N
  refine ⟨_, rfl, O.X, ?_⟩
  refine gz_done ?_
  refine ge_end (.tuple #[]) (rs0 (by kernel_rfl)) ?_
  exact ⟨rfl, O.I, O.C⟩
end
end Rc
end Go.Proofs.YtpoifdokmjhclaaGreat

namespace Go.Proofs.YtpoifdokmjhclaaGreat
namespace Rc
open Go.RowKit Go.Lib Pg
attribute [local go_sem] Oper.semAt_some
/-- a number as a record holds it -/
def fit (V : Int) : Int := if (natB V).length < 256 then V else 0
theorem fit_len (V : Int) : (natB (fit V)).length < 256 := by
  unfold fit
  split
  · assumption
  · rw [natB_0]; decide
/-- a field's bytes -/
def enc1 : Nat → Int → List Int
  | 0, x => be 8 x
  | 1, x => be 1 x
  | _, x => cntd 1 (natB (fit x))
theorem But.chg {g : Nat} {w w' : World} (h : But g w w') : Chg (· = g) w w' := ⟨h.os, h.tape, h.output, h.size, fun b hb hne => h.block b hb hne⟩
set_option maxHeartbeats 2000000 in
set_option maxRecDepth 100000 in
theorem fitting_any {w : World} {ao : Option Addr} {n c : Nat} {V : Int} (h : NatA w ao n c V) (hn : n ≤ 1000000) :
    Calls Tryz.prog 167 #[.agg #[.slice ao n c]] w fun e w' => ∃ a1 n1 c1, e = .returned (.agg #[.slice a1 n1 c1]) ∧ NatA w' a1 n1 c1 (fit V) ∧ n1 ≤ 1000000 ∧ Below w.heap.size w w' := by
  have b1 := below_alloc w (.cells #[.slice ao n c] 55)
  have b2 := below_alloc (w.alloc (.cells #[.slice ao n c] 55)) (.cells #[.slice none 0 0] 55)
  have b3 := below_alloc ((w.alloc (.cells #[.slice ao n c] 55)).alloc (.cells #[.slice none 0 0] 55)) (.cells Tryz.zeroCells80 80)
  have s1 := size_al w (.cells #[.slice ao n c] 55)
  have s2 := size_al (w.alloc (.cells #[.slice ao n c] 55)) (.cells #[.slice none 0 0] 55)
  have x1 := ((blk_new w [.slice ao n c] 55).keep b2).keep b3
  have x2 := (blk_new (w.alloc (.cells #[.slice ao n c] 55)) [.slice none 0 0] 55).keep b3
  have X := wrNew ((w.alloc (.cells #[.slice ao n c] 55)).alloc (.cells #[.slice none 0 0] 55))
  rw [s2, s1] at X
  rw [s1] at x2
  obtain ⟨W3, hW3⟩ : ∃ W3, Hid ((((w.alloc (.cells #[.slice ao n c] 55)).alloc (.cells #[.slice none 0 0] 55)).alloc (.cells Tryz.zeroCells80 80)) = W3) := ⟨_, rfl⟩
  have BZ := joinB (joinB b1 b2) b3
  rw [hW3.out] at BZ x1 x2 X
  have HB3 := hid3 BZ
  have HX1 := hid3 x1
  have HX2 := hid3 x2
  have HX := hid3 X
  have HN := hid3 (h.keep BZ)
  have HNw := hid3 h
  have HG1 := hid3 (show ¬ (w.heap.size = w.heap.size + 1 + 1) by omega)
  have HG2 := hid3 (show ¬ (w.heap.size + 1 = w.heap.size + 1 + 1) by omega)
  clear b1 b2 s1 s2 x1 x2 b3 X h BZ
  by_cases hf : (natB V).length < 256
  · have HE := hid3 (show natE V 0 = 0 by unfold natE; rw [if_pos hf])
    have HF := hid3 (show fit V = V by unfold fit; rw [if_pos hf])
    have HL := hid3 (show (natL V 0 []).length ≤ 17592186044416 by
      unfold natL wrote
      rw [if_pos hf, if_pos rfl]
      simp [cntd, be_length]
      omega)
    clear hf
    go_enter Tryz.func167, Tryz.ntmps167
    go_wp2_with fail
    rw [hW3.out]
    refine (wrDec HX.out HN.out (by omega) (by simp; omega)).mono ?_
    rintro e' w4 ⟨rfl, X4, B4⟩
    rw [HE.out] at X4
    go_wp2_with fail
    refine (wrOut X4 HL.out).mono ?_
    rintro e' w5 ⟨rfl, -, B5⟩
    have k1 := HX1.out.chg (But.chg B4) HG1.out
    have k2 := HX2.out.chg (But.chg B4) HG2.out
    have d1 := (k1.keep B5).cell (i := 0) rfl
    have d2 := (k2.keep B5).cell (i := 0) rfl
    have f2 := (k2.keep B5).free 0
    have BB := hid3 ((B4.below HB3.out (by omega) (Nat.le_refl _)).trans (B5.mono (by have := HB3.out.size; have := B4.size; omega)))
    have S9 := hid3 (show Slot _ _ _ _ from ⟨((k2.keep B5).setCell (i := 0) (.slice ao n c)).blk⟩)
    clear k1 k2 X4 B4 B5
    go_wp2
    refine bodyPost_ret (ret_dec rfl rfl S9.out) rfl ?_
    refine ⟨ao, n, c, rfl, ?_, hn, ?_⟩
    · rw [HF.out]
      exact HNw.out.keep (BB.out.setCell (Nat.le_succ _) _)
    · exact BB.out.setCell (Nat.le_succ _) _
  · have HE := hid3 (show natE V 0 = 42 by unfold natE; rw [if_neg hf]; rfl)
    have HF := hid3 (show fit V = 0 by unfold fit; rw [if_neg hf])
    clear hf
    go_enter Tryz.func167, Tryz.ntmps167
    go_wp2_with fail
    rw [hW3.out]
    refine (wrDec HX.out HN.out (by omega) (by simp; omega)).mono ?_
    rintro e' w4 ⟨rfl, X4, B4⟩
    rw [HE.out] at X4
    go_wp2_with fail
    refine (wrOutE X4 (by decide)).mono ?_
    rintro e' w5 ⟨rfl, B5⟩
    have k1 := HX1.out.chg (But.chg B4) HG1.out
    have k2 := HX2.out.chg (But.chg B4) HG2.out
    have d1 := (k1.keep B5).cell (i := 0) rfl
    have d2 := (k2.keep B5).cell (i := 0) rfl
    have f2 := (k2.keep B5).free 0
    have BB := hid3 ((B4.below HB3.out (by omega) (Nat.le_refl _)).trans (B5.mono (by have := HB3.out.size; have := B4.size; omega)))
    have S9 := hid3 (show Slot _ _ _ _ from ⟨((k2.keep B5).setCell (i := 0) (.slice none 0 0)).blk⟩)
    clear k1 k2 X4 B4 B5
    go_wp2
    refine bodyPost_ret (ret_dec rfl rfl S9.out) rfl ?_
    refine ⟨none, 0, 0, rfl, ?_, by decide, ?_⟩
    · rw [HF.out]
      exact (natO_nil _).a
    · exact BB.out.setCell (Nat.le_succ _) _
end Rc
end Go.Proofs.YtpoifdokmjhclaaGreat

namespace Go.Proofs.YtpoifdokmjhclaaGreat
namespace Rc
open Go.RowKit Go.Lib Pg Gl
attribute [local go_sem] Oper.semAt_some
set_option maxRecDepth 100000
theorem enc1_len (k : Nat) (x : Int) : (enc1 k x).length ≤ 300 := by
  unfold enc1
  split
  · rw [be_length]; decide
  · rw [be_length]; decide
  · have := fit_len x
    simp only [cntd, List.length_append, be_length]
    omega
/-- a field laid behind what there is -/
def pnx (xs : Nat → Int) (k o : Nat) (L : List Int) : List Int := L ++ enc1 k (xs o)
theorem pnx_len (xs : Nat → Int) (l : List (Nat × Nat)) : ∀ L : List Int, (thr (pnx xs) l L).length ≤ L.length + 300 * l.length := by
  induction l with
  | nil => intro L; simp [thr]
  | cons p l ih =>
    intro L
    have h := ih (pnx xs p.1 p.2 L)
    have h2 := enc1_len p.1 (xs p.2)
    have e : thr (pnx xs) (p :: l) L = thr (pnx xs) l (pnx xs p.1 p.2 L) := rfl
    rw [e]
    simp only [pnx, List.length_append] at h
    simp only [List.length_cons]
    simp only [pnx]
    omega
def okL (L : List Int) : Prop := L.length ≤ 1000000000000
structure PI (w0 : World) (bw rb : Nat) (cs : List Value) (T : TypeId) (L : List Int) (w : World) : Prop where
  wr : WrA w bw 0 L
  bel : Below w0.heap.size w0 w
  blk : Blk w rb cs T
  hb : w0.heap.size ≤ bw
  ne : rb ≠ bw
/-- a record's cells and what they are worth -/
def FldP (w0 : World) (kd : Nat → Nat) (cs : List Value) (xs : Nat → Int) : Prop := ∀ o, (kd o = 0 → cs[o]? = some (.int .u64 (xs o))) ∧ (kd o = 1 → ∃ b : Bool, cs[o]? = some (.bool b) ∧ xs o = if b then 1 else 0) ∧ (kd o = 2 → ∃ ao n c, cs[o]? = some (.slice ao n c) ∧ NatA w0 ao n c (xs o) ∧ n ≤ 1000000)
theorem PI.step {w0 w w' : World} {bw rb : Nat} {cs : List Value} {T : TypeId} {L L' : List Int} (h : PI w0 bw rb cs T L w) (X : WrA w' bw 0 L') (B : But bw w w') : PI w0 bw rb cs T L' w' :=
  ⟨X, B.below h.bel h.hb (Nat.le_refl _), h.blk.chg (But.chg B) (fun e => h.ne e), h.hb, h.ne⟩
def kd_Params (o : Nat) : Nat := ([0, 0, 0, 0, 0, 0, 0, 0, 0, 0] : List Nat).getD o 9
def kd_Chain (o : Nat) : Nat := ([0, 0] : List Nat).getD o 9
def kd_Pool (o : Nat) : Nat := ([2] : List Nat).getD o 9
def kd_Account (o : Nat) : Nat := ([0, 0] : List Nat).getD o 9
def kd_Val (o : Nat) : Nat := ([0, 0, 2, 1, 0, 1, 0, 2, 2, 2] : List Nat).getD o 9
def kd_Delegation (o : Nat) : Nat := ([2, 0, 2] : List Nat).getD o 9
def kd_History (o : Nat) : Nat := ([2, 0] : List Nat).getD o 9
/-- a function that is like another -/
structure Lk (f : FuncId) (g : Func) : Prop where
  ex : ∃ fn, Tryz.prog.funcs[f]? = some fn ∧ fn.body = g.body ∧ fn.ntmps = g.ntmps ∧ fn.results = g.results
  en : ∀ args w, (callFunc f args).run Tryz.prog w = .ok (.enter f args) w
theorem drop_one {cs : List Value} {o : Nat} {v : Value} (h : cs[o]? = some v) : (cs.drop o).take [v].length = [v] := by
  rw [List.getElem?_eq_some_iff] at h
  obtain ⟨h1, rfl⟩ := h
  rw [List.drop_eq_getElem_cons h1]
  rfl
section
variable {w w0 : World} {f f1 f2 f3 : FuncId} {bw rb o : Nat} {L : List Int} {cs : List Value} {T : TypeId}
theorem pn_any (K : Lk f Tryz.f162) {x : Int} (R : Blk w rb cs T) (c : cs[o]? = some (.int .u64 x)) (X : WrA w bw 0 L) (hL : L.length ≤ 1000000000000) : Calls Tryz.prog f #[pq rb o, pg bw] w fun e w' => e = .returned (.tuple #[]) ∧ WrA w' bw 0 (L ++ enc1 0 x) ∧ But bw w w' := by
  obtain ⟨⟨fn, hf, hb, hn, hr⟩, -⟩ := K
  refine gc_enter (n := 7) hf (hb.trans rfl) hn (by kernel_rfl) ?_
  refine gc_reg ?_
  refine t 3 (pq rb o) ?_
  refine t 4 (pq rb o) ?_
  refine tl 5 (.int .u64 x) R o ?_ (hv := c)
  refine tc 6 53 #[pg bw, .int .u64 x] (wrU64 X (by omega)) ?_
  rintro _ v ⟨rfl, X, B⟩
  refine ⟨_, rfl, ?_⟩
  refine gl_nil ?_
  refine ge_end (.tuple #[]) (rs0 hr) ?_
  exact ⟨rfl, X, B⟩
theorem pt_any (K : Lk f Tryz.f163) {x : Bool} {y : Int} (hy : (if x then (1 : Int) else 0) = y) (R : Blk w rb cs T) (c : cs[o]? = some (.bool x)) (X : WrA w bw 0 L) (hL : L.length ≤ 1000000000000) : Calls Tryz.prog f #[pq rb o, pg bw] w fun e w' => e = .returned (.tuple #[]) ∧ WrA w' bw 0 (L ++ enc1 1 y) ∧ But bw w w' := by
  subst hy
  obtain ⟨⟨fn, hf, hb, hn, hr⟩, -⟩ := K
  refine gc_enter (n := 7) hf (hb.trans rfl) hn (by kernel_rfl) ?_
  refine gc_reg ?_
  refine t 3 (pq rb o) ?_
  refine t 4 (pq rb o) ?_
  refine tl 5 (.bool x) R o ?_ (hv := c)
  refine tc 6 164 #[pg bw, .bool x] (wrBool X (by omega)) ?_
  rintro _ v ⟨rfl, X, B⟩
  refine ⟨_, rfl, ?_⟩
  refine gl_nil ?_
  refine ge_end (.tuple #[]) (rs0 hr) ?_
  exact ⟨rfl, X, B⟩
theorem pd_any (K : Lk f Tryz.f165) {ao : Option Addr} {n c : Nat} {V : Int} (R : Blk w rb cs T) (cc : cs[o]? = some (.slice ao n c)) (hV : NatA w ao n c V) (hn' : n ≤ 1000000) (X : WrA w bw 0 L) (hL : L.length ≤ 1000000000000) : Calls Tryz.prog f #[pq rb o, pg bw] w fun e w' => e = .returned (.tuple #[]) ∧ WrA w' bw 0 (L ++ enc1 2 V) ∧ But bw w w' := by
  obtain ⟨⟨fn, hf, hb, hn, hr⟩, -⟩ := K
  refine gc_enter (n := 8) hf (hb.trans rfl) hn (by kernel_rfl) ?_
  refine gc_reg ?_
  refine t 3 (pq rb o) ?_
  refine t 4 (pq rb o) ?_
  refine tlr 5 [.slice ao n c] R o ?_ (hr := drop_one cc)
  refine tc 6 167 #[.agg #[.slice ao n c]] (fitting_any hV hn') ?_
  rintro _ v ⟨a1, n1, c1, rfl, N1, hn1, B1⟩
  refine ⟨_, rfl, ?_⟩
  refine tc 7 166 #[pg bw, .agg #[.slice a1 n1 c1]] (wrDec (X.keep B1) N1 (by omega) (by omega)) ?_
  rintro _ v2 ⟨rfl, X2, B2⟩
  refine ⟨_, rfl, ?_⟩
  have hE : natE (fit V) 0 = 0 := by unfold natE; rw [if_pos (fit_len V)]
  have hL2 : natL (fit V) 0 L = L ++ enc1 2 V := by unfold natL wrote; rw [if_pos (fit_len V), if_pos rfl]; rfl
  rw [hE, hL2] at X2
  refine gl_nil ?_
  refine ge_end (.tuple #[]) (rs0 hr) ?_
  exact ⟨rfl, X2, (But.of B1).trans B2⟩
theorem hc_any (L1 : Lk f1 Tryz.f162) (L2 : Lk f2 Tryz.f163) (L3 : Lk f3 Tryz.f165) {kd : Nat → Nat} {xs : Nat → Int} (F : FldP w0 kd cs xs) : HC (List Int) (PI w0 bw rb cs T) (· = bw) rb f1 f2 f3 (.pointer (some ⟨bw, 0, none⟩)) (pnx xs) kd okL where
  oks := fun k o L h => by
    unfold okL pnx at *
    rw [List.length_append] at h
    omega
  keep := fun L w w' h B => ⟨h.wr.keep B, h.bel.trans (B.mono h.bel.size), h.blk.keep B, h.hb, h.ne⟩
  old := fun L w b h e => by have e' : b = bw := e; subst e'; exact h.wr.lt
  e1 := L1.en
  e2 := L2.en
  e3 := L3.en
  u := fun L w o h hok hk => by
    have hl : L.length ≤ 1000000000000 := by unfold okL pnx at hok; rw [List.length_append] at hok; omega
    refine (pn_any L1 h.blk ((F o).1 hk) h.wr hl).mono ?_
    rintro e w' ⟨rfl, X, B⟩
    exact ⟨rfl, h.step X B, But.chg B⟩
  t := fun L w o h hok hk => by
    have hl : L.length ≤ 1000000000000 := by unfold okL pnx at hok; rw [List.length_append] at hok; omega
    obtain ⟨b, hb, hx⟩ := (F o).2.1 hk
    refine (pt_any L2 hx.symm h.blk hb h.wr hl).mono ?_
    rintro e w' ⟨rfl, X, B⟩
    exact ⟨rfl, h.step X B, But.chg B⟩
  d := fun L w o h hok hk => by
    have hl : L.length ≤ 1000000000000 := by unfold okL pnx at hok; rw [List.length_append] at hok; omega
    obtain ⟨ao, n, c, hb, hV, hn⟩ := (F o).2.2 hk
    refine (pd_any L3 h.blk hb (hV.keep h.bel) hn h.wr hl).mono ?_
    rintro e w' ⟨rfl, X, B⟩
    exact ⟨rfl, h.step X B, But.chg B⟩
end
end Rc
end Go.Proofs.YtpoifdokmjhclaaGreat

namespace Go.Proofs.YtpoifdokmjhclaaGreat
namespace Rc
open Go.RowKit Go.Lib Pg Gl
attribute [local go_sem] Oper.semAt_some
set_option maxRecDepth 100000
theorem fl_Params {w : World} {x0 : Int} {x1 : Int} {x2 : Int} {x3 : Int} {x4 : Int} {x5 : Int} {x6 : Int} {x7 : Int} {x8 : Int} {x9 : Int} : FldP w kd_Params [.int .u64 x0, .int .u64 x1, .int .u64 x2, .int .u64 x3, .int .u64 x4, .int .u64 x5, .int .u64 x6, .int .u64 x7, .int .u64 x8, .int .u64 x9] (fun o => ([x0, x1, x2, x3, x4, x5, x6, x7, x8, x9] : List Int).getD o 0) := fun o => match o with
    | 0 => ⟨fun _ => rfl, fun h => absurd h (by decide), fun h => absurd h (by decide)⟩
    | 1 => ⟨fun _ => rfl, fun h => absurd h (by decide), fun h => absurd h (by decide)⟩
    | 2 => ⟨fun _ => rfl, fun h => absurd h (by decide), fun h => absurd h (by decide)⟩
    | 3 => ⟨fun _ => rfl, fun h => absurd h (by decide), fun h => absurd h (by decide)⟩
    | 4 => ⟨fun _ => rfl, fun h => absurd h (by decide), fun h => absurd h (by decide)⟩
    | 5 => ⟨fun _ => rfl, fun h => absurd h (by decide), fun h => absurd h (by decide)⟩
    | 6 => ⟨fun _ => rfl, fun h => absurd h (by decide), fun h => absurd h (by decide)⟩
    | 7 => ⟨fun _ => rfl, fun h => absurd h (by decide), fun h => absurd h (by decide)⟩
    | 8 => ⟨fun _ => rfl, fun h => absurd h (by decide), fun h => absurd h (by decide)⟩
    | 9 => ⟨fun _ => rfl, fun h => absurd h (by decide), fun h => absurd h (by decide)⟩
    | k + 10 => ⟨fun h => absurd h (by simp [kd_Params]), fun h => absurd h (by simp [kd_Params]), fun h => absurd h (by simp [kd_Params])⟩
theorem fl_Chain {w : World} {x0 : Int} {x1 : Int} : FldP w kd_Chain [.int .u64 x0, .int .u64 x1] (fun o => ([x0, x1] : List Int).getD o 0) := fun o => match o with
    | 0 => ⟨fun _ => rfl, fun h => absurd h (by decide), fun h => absurd h (by decide)⟩
    | 1 => ⟨fun _ => rfl, fun h => absurd h (by decide), fun h => absurd h (by decide)⟩
    | k + 2 => ⟨fun h => absurd h (by simp [kd_Chain]), fun h => absurd h (by simp [kd_Chain]), fun h => absurd h (by simp [kd_Chain])⟩
theorem fl_Pool {w : World} {a0 : Option Addr} {n0 c0 : Nat} {x0 : Int} (h0 : NatA w a0 n0 c0 x0) (m0 : n0 ≤ 1000000) : FldP w kd_Pool [.slice a0 n0 c0] (fun o => ([x0] : List Int).getD o 0) := fun o => match o with
    | 0 => ⟨fun h => absurd h (by decide), fun h => absurd h (by decide), fun _ => ⟨a0, n0, c0, rfl, h0, m0⟩⟩
    | k + 1 => ⟨fun h => absurd h (by simp [kd_Pool]), fun h => absurd h (by simp [kd_Pool]), fun h => absurd h (by simp [kd_Pool])⟩
theorem fl_Account {w : World} {x0 : Int} {x1 : Int} : FldP w kd_Account [.int .u64 x0, .int .u64 x1] (fun o => ([x0, x1] : List Int).getD o 0) := fun o => match o with
    | 0 => ⟨fun _ => rfl, fun h => absurd h (by decide), fun h => absurd h (by decide)⟩
    | 1 => ⟨fun _ => rfl, fun h => absurd h (by decide), fun h => absurd h (by decide)⟩
    | k + 2 => ⟨fun h => absurd h (by simp [kd_Account]), fun h => absurd h (by simp [kd_Account]), fun h => absurd h (by simp [kd_Account])⟩
theorem fl_Val {w : World} {x0 : Int} {x1 : Int} {a2 : Option Addr} {n2 c2 : Nat} {x2 : Int} {b3 : Bool} {x4 : Int} {b5 : Bool} {x6 : Int} {a7 : Option Addr} {n7 c7 : Nat} {x7 : Int} {a8 : Option Addr} {n8 c8 : Nat} {x8 : Int} {a9 : Option Addr} {n9 c9 : Nat} {x9 : Int} (h2 : NatA w a2 n2 c2 x2) (m2 : n2 ≤ 1000000) (h7 : NatA w a7 n7 c7 x7) (m7 : n7 ≤ 1000000) (h8 : NatA w a8 n8 c8 x8) (m8 : n8 ≤ 1000000) (h9 : NatA w a9 n9 c9 x9) (m9 : n9 ≤ 1000000) : FldP w kd_Val [.int .u64 x0, .int .u64 x1, .slice a2 n2 c2, .bool b3, .int .u64 x4, .bool b5, .int .u64 x6, .slice a7 n7 c7, .slice a8 n8 c8, .slice a9 n9 c9] (fun o => ([x0, x1, x2, (if b3 then 1 else 0), x4, (if b5 then 1 else 0), x6, x7, x8, x9] : List Int).getD o 0) := fun o => match o with
    | 0 => ⟨fun _ => rfl, fun h => absurd h (by decide), fun h => absurd h (by decide)⟩
    | 1 => ⟨fun _ => rfl, fun h => absurd h (by decide), fun h => absurd h (by decide)⟩
    | 2 => ⟨fun h => absurd h (by decide), fun h => absurd h (by decide), fun _ => ⟨a2, n2, c2, rfl, h2, m2⟩⟩
    | 3 => ⟨fun h => absurd h (by decide), fun _ => ⟨b3, rfl, rfl⟩, fun h => absurd h (by decide)⟩
    | 4 => ⟨fun _ => rfl, fun h => absurd h (by decide), fun h => absurd h (by decide)⟩
    | 5 => ⟨fun h => absurd h (by decide), fun _ => ⟨b5, rfl, rfl⟩, fun h => absurd h (by decide)⟩
    | 6 => ⟨fun _ => rfl, fun h => absurd h (by decide), fun h => absurd h (by decide)⟩
    | 7 => ⟨fun h => absurd h (by decide), fun h => absurd h (by decide), fun _ => ⟨a7, n7, c7, rfl, h7, m7⟩⟩
    | 8 => ⟨fun h => absurd h (by decide), fun h => absurd h (by decide), fun _ => ⟨a8, n8, c8, rfl, h8, m8⟩⟩
    | 9 => ⟨fun h => absurd h (by decide), fun h => absurd h (by decide), fun _ => ⟨a9, n9, c9, rfl, h9, m9⟩⟩
    | k + 10 => ⟨fun h => absurd h (by simp [kd_Val]), fun h => absurd h (by simp [kd_Val]), fun h => absurd h (by simp [kd_Val])⟩
theorem fl_Delegation {w : World} {a0 : Option Addr} {n0 c0 : Nat} {x0 : Int} {x1 : Int} {a2 : Option Addr} {n2 c2 : Nat} {x2 : Int} (h0 : NatA w a0 n0 c0 x0) (m0 : n0 ≤ 1000000) (h2 : NatA w a2 n2 c2 x2) (m2 : n2 ≤ 1000000) : FldP w kd_Delegation [.slice a0 n0 c0, .int .u64 x1, .slice a2 n2 c2] (fun o => ([x0, x1, x2] : List Int).getD o 0) := fun o => match o with
    | 0 => ⟨fun h => absurd h (by decide), fun h => absurd h (by decide), fun _ => ⟨a0, n0, c0, rfl, h0, m0⟩⟩
    | 1 => ⟨fun _ => rfl, fun h => absurd h (by decide), fun h => absurd h (by decide)⟩
    | 2 => ⟨fun h => absurd h (by decide), fun h => absurd h (by decide), fun _ => ⟨a2, n2, c2, rfl, h2, m2⟩⟩
    | k + 3 => ⟨fun h => absurd h (by simp [kd_Delegation]), fun h => absurd h (by simp [kd_Delegation]), fun h => absurd h (by simp [kd_Delegation])⟩
theorem fl_History {w : World} {a0 : Option Addr} {n0 c0 : Nat} {x0 : Int} {x1 : Int} (h0 : NatA w a0 n0 c0 x0) (m0 : n0 ≤ 1000000) : FldP w kd_History [.slice a0 n0 c0, .int .u64 x1] (fun o => ([x0, x1] : List Int).getD o 0) := fun o => match o with
    | 0 => ⟨fun h => absurd h (by decide), fun h => absurd h (by decide), fun _ => ⟨a0, n0, c0, rfl, h0, m0⟩⟩
    | 1 => ⟨fun _ => rfl, fun h => absurd h (by decide), fun h => absurd h (by decide)⟩
    | k + 2 => ⟨fun h => absurd h (by simp [kd_History]), fun h => absurd h (by simp [kd_History]), fun h => absurd h (by simp [kd_History])⟩
theorem ta_wr {n : Nat} {ds : List Deferred} {ops : Array Oper} {rest : List Oper} {o : Oper} {l : Fr} {w : World} {Q : Exit → Act → World → Prop} (d : Nat) (h : ∀ w1 g, WrA w1 g 0 [] → w.heap.size ≤ g → Below w.heap.size w w1 → GL Tryz.prog n ds ops Q rest ((d, pg g) :: l) w1) (hg : gd ops l o = some true := by kernel_rfl) (hc : chk n l o (some d) = true := by kernel_rfl) (hrun : (execOp (evL l) o).run Tryz.prog w = .ok (.value (pg w.heap.size)) (w.alloc (.cells Tryz.zeroCells80 80)) := by kernel_rfl) : GL Tryz.prog n ds ops Q (o :: rest) l w := gl_val (some d) _ hg hc hrun (h _ _ (wrNew w) (Nat.le_refl _) (below_alloc w _))
theorem put_Params {w : World} {x0 : Int} {x1 : Int} {x2 : Int} {x3 : Int} {x4 : Int} {x5 : Int} {x6 : Int} {x7 : Int} {x8 : Int} {x9 : Int} :
    Calls Tryz.prog 127 #[.agg #[.int .u64 x0, .int .u64 x1, .int .u64 x2, .int .u64 x3, .int .u64 x4, .int .u64 x5, .int .u64 x6, .int .u64 x7, .int .u64 x8, .int .u64 x9], .func (.func 128) #[] #[]] w fun e w' => ∃ b n, e = .returned (.slice (some ⟨b, 0, none⟩) n n) ∧ n = (thr (pnx (fun o => ([x0, x1, x2, x3, x4, x5, x6, x7, x8, x9] : List Int).getD o 0)) [(0, 0), (0, 1), (0, 2), (0, 3), (0, 4), (0, 5), (0, 6), (0, 7), (0, 8), (0, 9)] []).length ∧ Box w' b ((thr (pnx (fun o => ([x0, x1, x2, x3, x4, x5, x6, x7, x8, x9] : List Int).getD o 0)) [(0, 0), (0, 1), (0, 2), (0, 3), (0, 4), (0, 5), (0, 6), (0, 7), (0, 8), (0, 9)] []).map (Value.int .u8)) 5 ∧ w.heap.size ≤ b ∧ Below w.heap.size w w' := by
  refine gc_enter (n := 19) Tryz.func127 rfl (by kernel_rfl) (by kernel_rfl) ?_
  refine gc_seq ?_
  refine gc_reg ?_
  refine ta 2 [.int .u64 x0, .int .u64 x1, .int .u64 x2, .int .u64 x3, .int .u64 x4, .int .u64 x5, .int .u64 x6, .int .u64 x7, .int .u64 x8, .int .u64 x9] 24 (pg) ?_
  intro v1 g1 X1 q1 B1
  refine t 4 (.slice none 0 0) ?_
  refine gl_nil ?_
  refine ge_then ?_
  refine gc_seq ?_
  refine gc_reg ?_
  refine ta_wr 5 ?_
  intro v2 g2 X2 q2 B2
  refine gl_nil ?_
  refine ge_then ?_
  refine gc_seq ?_
  refine gc_reg ?_
  refine t 8 (.func (.func 128) #[] #[]) ?_
  refine t 9 (.func (.func 162) #[] #[pg g2]) ?_
  refine t 10 (.func (.func 163) #[] #[pg g2]) ?_
  refine t 11 (.func (.func 165) #[] #[pg g2]) ?_
  refine t 12 (.agg (hq 162 163 165 (pg g2)).toArray) ?_
  have l1 := X1.lt
  have hlen := pnx_len (fun o => ([x0, x1, x2, x3, x4, x5, x6, x7, x8, x9] : List Int).getD o 0) [(0, 0), (0, 1), (0, 2), (0, 3), (0, 4), (0, 5), (0, 6), (0, 7), (0, 8), (0, 9)] []
  refine tc 13 128 #[pg g1, .agg (hq 162 163 165 (pg g2)).toArray] (ofParams_any (hc_any ⟨⟨_, Tryz.func162, rfl, rfl, rfl⟩, fun _ _ => by kernel_rfl⟩ ⟨⟨_, Tryz.func163, rfl, rfl, rfl⟩, fun _ _ => by kernel_rfl⟩ ⟨⟨_, Tryz.func165, rfl, rfl, rfl⟩, fun _ _ => by kernel_rfl⟩ (fl_Params (x0 := x0) (x1 := x1) (x2 := x2) (x3 := x3) (x4 := x4) (x5 := x5) (x6 := x6) (x7 := x7) (x8 := x8) (x9 := x9) (w := w))) (s := []) ⟨X2, joinB B1 B2, X1.keep B2, Nat.le_trans B1.size q2, by omega⟩ (by decide) (Nat.le_trans hlen (by decide))) ?_
  rintro _ v3 ⟨rfl, I, C⟩
  generalize thr (pnx (fun o => ([x0, x1, x2, x3, x4, x5, x6, x7, x8, x9] : List Int).getD o 0)) [(0, 0), (0, 1), (0, 2), (0, 3), (0, 4), (0, 5), (0, 6), (0, 7), (0, 8), (0, 9)] [] = M at *
  refine ⟨_, rfl, ?_⟩
  refine gl_nil ?_
  refine ge_then ?_
  refine gc_seq ?_
  refine gc_reg ?_
  refine tc 15 34 #[pg g2] (wrOut I.wr (Nat.le_trans hlen (by decide))) ?_
  rintro _ v4 ⟨rfl, X4, B4⟩
  refine ⟨_, rfl, ?_⟩
  refine t 14 (.tuple #[sg M.length v3.heap.size, .int .i64 0]) ?_
  refine t 16 (sg M.length v3.heap.size) ?_
  refine t 17 (.int .i64 0) ?_
  refine t 6 (sg M.length v3.heap.size) ?_
  refine t 7 (.int .i64 0) ?_
  refine gl_nil ?_
  refine ge_then ?_
  refine gc_seq ?_
  refine gc_reg ?_
  refine t 18 (sg M.length v3.heap.size) ?_
  refine t 4 (sg M.length v3.heap.size) ?_
  refine gl_nil ?_
  refine ge_then ?_
  refine gc_ret ?_
  refine ge_ret (sg M.length v3.heap.size) (rs1 4 (by kernel_rfl) (by kernel_rfl)) ?_
  exact ⟨_, _, rfl, rfl, X4, I.bel.size, joinB I.bel B4⟩
theorem put_Chain {w : World} {x0 : Int} {x1 : Int} :
    Calls Tryz.prog 129 #[.agg #[.int .u64 x0, .int .u64 x1], .func (.func 130) #[] #[]] w fun e w' => ∃ b n, e = .returned (.slice (some ⟨b, 0, none⟩) n n) ∧ n = (thr (pnx (fun o => ([x0, x1] : List Int).getD o 0)) [(0, 0), (0, 1)] []).length ∧ Box w' b ((thr (pnx (fun o => ([x0, x1] : List Int).getD o 0)) [(0, 0), (0, 1)] []).map (Value.int .u8)) 5 ∧ w.heap.size ≤ b ∧ Below w.heap.size w w' := by
  refine gc_enter (n := 19) Tryz.func129 rfl (by kernel_rfl) (by kernel_rfl) ?_
  refine gc_seq ?_
  refine gc_reg ?_
  refine ta 2 [.int .u64 x0, .int .u64 x1] 138 (pg) ?_
  intro v1 g1 X1 q1 B1
  refine t 4 (.slice none 0 0) ?_
  refine gl_nil ?_
  refine ge_then ?_
  refine gc_seq ?_
  refine gc_reg ?_
  refine ta_wr 5 ?_
  intro v2 g2 X2 q2 B2
  refine gl_nil ?_
  refine ge_then ?_
  refine gc_seq ?_
  refine gc_reg ?_
  refine t 8 (.func (.func 130) #[] #[]) ?_
  refine t 9 (.func (.func 168) #[] #[pg g2]) ?_
  refine t 10 (.func (.func 169) #[] #[pg g2]) ?_
  refine t 11 (.func (.func 170) #[] #[pg g2]) ?_
  refine t 12 (.agg (hq 168 169 170 (pg g2)).toArray) ?_
  have l1 := X1.lt
  have hlen := pnx_len (fun o => ([x0, x1] : List Int).getD o 0) [(0, 0), (0, 1)] []
  refine tc 13 130 #[pg g1, .agg (hq 168 169 170 (pg g2)).toArray] (ofChain_any (hc_any ⟨⟨_, Tryz.func168, rfl, rfl, rfl⟩, fun _ _ => by kernel_rfl⟩ ⟨⟨_, Tryz.func169, rfl, rfl, rfl⟩, fun _ _ => by kernel_rfl⟩ ⟨⟨_, Tryz.func170, rfl, rfl, rfl⟩, fun _ _ => by kernel_rfl⟩ (fl_Chain (x0 := x0) (x1 := x1) (w := w))) (s := []) ⟨X2, joinB B1 B2, X1.keep B2, Nat.le_trans B1.size q2, by omega⟩ (by decide) (Nat.le_trans hlen (by decide))) ?_
  rintro _ v3 ⟨rfl, I, C⟩
  generalize thr (pnx (fun o => ([x0, x1] : List Int).getD o 0)) [(0, 0), (0, 1)] [] = M at *
  refine ⟨_, rfl, ?_⟩
  refine gl_nil ?_
  refine ge_then ?_
  refine gc_seq ?_
  refine gc_reg ?_
  refine tc 15 34 #[pg g2] (wrOut I.wr (Nat.le_trans hlen (by decide))) ?_
  rintro _ v4 ⟨rfl, X4, B4⟩
  refine ⟨_, rfl, ?_⟩
  refine t 14 (.tuple #[sg M.length v3.heap.size, .int .i64 0]) ?_
  refine t 16 (sg M.length v3.heap.size) ?_
  refine t 17 (.int .i64 0) ?_
  refine t 6 (sg M.length v3.heap.size) ?_
  refine t 7 (.int .i64 0) ?_
  refine gl_nil ?_
  refine ge_then ?_
  refine gc_seq ?_
  refine gc_reg ?_
  refine t 18 (sg M.length v3.heap.size) ?_
  refine t 4 (sg M.length v3.heap.size) ?_
  refine gl_nil ?_
  refine ge_then ?_
  refine gc_ret ?_
  refine ge_ret (sg M.length v3.heap.size) (rs1 4 (by kernel_rfl) (by kernel_rfl)) ?_
  exact ⟨_, _, rfl, rfl, X4, I.bel.size, joinB I.bel B4⟩
theorem put_Pool {w : World} {a0 : Option Addr} {n0 c0 : Nat} {x0 : Int} (h0 : NatA w a0 n0 c0 x0) (m0 : n0 ≤ 1000000) :
    Calls Tryz.prog 362 #[.agg #[.slice a0 n0 c0], .func (.func 363) #[] #[]] w fun e w' => ∃ b n, e = .returned (.slice (some ⟨b, 0, none⟩) n n) ∧ n = (thr (pnx (fun o => ([x0] : List Int).getD o 0)) [(2, 0)] []).length ∧ Box w' b ((thr (pnx (fun o => ([x0] : List Int).getD o 0)) [(2, 0)] []).map (Value.int .u8)) 5 ∧ w.heap.size ≤ b ∧ Below w.heap.size w w' := by
  refine gc_enter (n := 19) Tryz.func362 rfl (by kernel_rfl) (by kernel_rfl) ?_
  refine gc_seq ?_
  refine gc_reg ?_
  refine ta 2 [.slice a0 n0 c0] 55 (pg) ?_
  intro v1 g1 X1 q1 B1
  refine t 4 (.slice none 0 0) ?_
  refine gl_nil ?_
  refine ge_then ?_
  refine gc_seq ?_
  refine gc_reg ?_
  refine ta_wr 5 ?_
  intro v2 g2 X2 q2 B2
  refine gl_nil ?_
  refine ge_then ?_
  refine gc_seq ?_
  refine gc_reg ?_
  refine t 8 (.func (.func 363) #[] #[]) ?_
  refine t 9 (.func (.func 382) #[] #[pg g2]) ?_
  refine t 10 (.func (.func 383) #[] #[pg g2]) ?_
  refine t 11 (.func (.func 384) #[] #[pg g2]) ?_
  refine t 12 (.agg (hq 382 383 384 (pg g2)).toArray) ?_
  have l1 := X1.lt
  have hlen := pnx_len (fun o => ([x0] : List Int).getD o 0) [(2, 0)] []
  refine tc 13 363 #[pg g1, .agg (hq 382 383 384 (pg g2)).toArray] (ofPool_any (hc_any ⟨⟨_, Tryz.func382, rfl, rfl, rfl⟩, fun _ _ => by kernel_rfl⟩ ⟨⟨_, Tryz.func383, rfl, rfl, rfl⟩, fun _ _ => by kernel_rfl⟩ ⟨⟨_, Tryz.func384, rfl, rfl, rfl⟩, fun _ _ => by kernel_rfl⟩ (fl_Pool h0 m0 (w := w))) (s := []) ⟨X2, joinB B1 B2, X1.keep B2, Nat.le_trans B1.size q2, by omega⟩ (by decide) (Nat.le_trans hlen (by decide))) ?_
  rintro _ v3 ⟨rfl, I, C⟩
  generalize thr (pnx (fun o => ([x0] : List Int).getD o 0)) [(2, 0)] [] = M at *
  refine ⟨_, rfl, ?_⟩
  refine gl_nil ?_
  refine ge_then ?_
  refine gc_seq ?_
  refine gc_reg ?_
  refine tc 15 34 #[pg g2] (wrOut I.wr (Nat.le_trans hlen (by decide))) ?_
  rintro _ v4 ⟨rfl, X4, B4⟩
  refine ⟨_, rfl, ?_⟩
  refine t 14 (.tuple #[sg M.length v3.heap.size, .int .i64 0]) ?_
  refine t 16 (sg M.length v3.heap.size) ?_
  refine t 17 (.int .i64 0) ?_
  refine t 6 (sg M.length v3.heap.size) ?_
  refine t 7 (.int .i64 0) ?_
  refine gl_nil ?_
  refine ge_then ?_
  refine gc_seq ?_
  refine gc_reg ?_
  refine t 18 (sg M.length v3.heap.size) ?_
  refine t 4 (sg M.length v3.heap.size) ?_
  refine gl_nil ?_
  refine ge_then ?_
  refine gc_ret ?_
  refine ge_ret (sg M.length v3.heap.size) (rs1 4 (by kernel_rfl) (by kernel_rfl)) ?_
  exact ⟨_, _, rfl, rfl, X4, I.bel.size, joinB I.bel B4⟩
theorem put_Account {w : World} {x0 : Int} {x1 : Int} :
    Calls Tryz.prog 172 #[.agg #[.int .u64 x0, .int .u64 x1], .func (.func 74) #[] #[]] w fun e w' => ∃ b n, e = .returned (.slice (some ⟨b, 0, none⟩) n n) ∧ n = (thr (pnx (fun o => ([x0, x1] : List Int).getD o 0)) [(0, 0), (0, 1)] []).length ∧ Box w' b ((thr (pnx (fun o => ([x0, x1] : List Int).getD o 0)) [(0, 0), (0, 1)] []).map (Value.int .u8)) 5 ∧ w.heap.size ≤ b ∧ Below w.heap.size w w' := by
  refine gc_enter (n := 19) Tryz.func172 rfl (by kernel_rfl) (by kernel_rfl) ?_
  refine gc_seq ?_
  refine gc_reg ?_
  refine ta 2 [.int .u64 x0, .int .u64 x1] 50 (pg) ?_
  intro v1 g1 X1 q1 B1
  refine t 4 (.slice none 0 0) ?_
  refine gl_nil ?_
  refine ge_then ?_
  refine gc_seq ?_
  refine gc_reg ?_
  refine ta_wr 5 ?_
  intro v2 g2 X2 q2 B2
  refine gl_nil ?_
  refine ge_then ?_
  refine gc_seq ?_
  refine gc_reg ?_
  refine t 8 (.func (.func 74) #[] #[]) ?_
  refine t 9 (.func (.func 212) #[] #[pg g2]) ?_
  refine t 10 (.func (.func 213) #[] #[pg g2]) ?_
  refine t 11 (.func (.func 214) #[] #[pg g2]) ?_
  refine t 12 (.agg (hq 212 213 214 (pg g2)).toArray) ?_
  have l1 := X1.lt
  have hlen := pnx_len (fun o => ([x0, x1] : List Int).getD o 0) [(0, 0), (0, 1)] []
  refine tc 13 74 #[pg g1, .agg (hq 212 213 214 (pg g2)).toArray] (ofAccount_any (hc_any ⟨⟨_, Tryz.func212, rfl, rfl, rfl⟩, fun _ _ => by kernel_rfl⟩ ⟨⟨_, Tryz.func213, rfl, rfl, rfl⟩, fun _ _ => by kernel_rfl⟩ ⟨⟨_, Tryz.func214, rfl, rfl, rfl⟩, fun _ _ => by kernel_rfl⟩ (fl_Account (x0 := x0) (x1 := x1) (w := w))) (s := []) ⟨X2, joinB B1 B2, X1.keep B2, Nat.le_trans B1.size q2, by omega⟩ (by decide) (Nat.le_trans hlen (by decide))) ?_
  rintro _ v3 ⟨rfl, I, C⟩
  generalize thr (pnx (fun o => ([x0, x1] : List Int).getD o 0)) [(0, 0), (0, 1)] [] = M at *
  refine ⟨_, rfl, ?_⟩
  refine gl_nil ?_
  refine ge_then ?_
  refine gc_seq ?_
  refine gc_reg ?_
  refine tc 15 34 #[pg g2] (wrOut I.wr (Nat.le_trans hlen (by decide))) ?_
  rintro _ v4 ⟨rfl, X4, B4⟩
  refine ⟨_, rfl, ?_⟩
  refine t 14 (.tuple #[sg M.length v3.heap.size, .int .i64 0]) ?_
  refine t 16 (sg M.length v3.heap.size) ?_
  refine t 17 (.int .i64 0) ?_
  refine t 6 (sg M.length v3.heap.size) ?_
  refine t 7 (.int .i64 0) ?_
  refine gl_nil ?_
  refine ge_then ?_
  refine gc_seq ?_
  refine gc_reg ?_
  refine t 18 (sg M.length v3.heap.size) ?_
  refine t 4 (sg M.length v3.heap.size) ?_
  refine gl_nil ?_
  refine ge_then ?_
  refine gc_ret ?_
  refine ge_ret (sg M.length v3.heap.size) (rs1 4 (by kernel_rfl) (by kernel_rfl)) ?_
  exact ⟨_, _, rfl, rfl, X4, I.bel.size, joinB I.bel B4⟩
theorem put_Val {w : World} {x0 : Int} {x1 : Int} {a2 : Option Addr} {n2 c2 : Nat} {x2 : Int} {b3 : Bool} {x4 : Int} {b5 : Bool} {x6 : Int} {a7 : Option Addr} {n7 c7 : Nat} {x7 : Int} {a8 : Option Addr} {n8 c8 : Nat} {x8 : Int} {a9 : Option Addr} {n9 c9 : Nat} {x9 : Int} (h2 : NatA w a2 n2 c2 x2) (m2 : n2 ≤ 1000000) (h7 : NatA w a7 n7 c7 x7) (m7 : n7 ≤ 1000000) (h8 : NatA w a8 n8 c8 x8) (m8 : n8 ≤ 1000000) (h9 : NatA w a9 n9 c9 x9) (m9 : n9 ≤ 1000000) :
    Calls Tryz.prog 249 #[.agg #[.int .u64 x0, .int .u64 x1, .slice a2 n2 c2, .bool b3, .int .u64 x4, .bool b5, .int .u64 x6, .slice a7 n7 c7, .slice a8 n8 c8, .slice a9 n9 c9], .func (.func 77) #[] #[]] w fun e w' => ∃ b n, e = .returned (.slice (some ⟨b, 0, none⟩) n n) ∧ n = (thr (pnx (fun o => ([x0, x1, x2, (if b3 then 1 else 0), x4, (if b5 then 1 else 0), x6, x7, x8, x9] : List Int).getD o 0)) [(0, 0), (0, 1), (2, 2), (1, 3), (0, 4), (1, 5), (0, 6), (2, 7), (2, 8), (2, 9)] []).length ∧ Box w' b ((thr (pnx (fun o => ([x0, x1, x2, (if b3 then 1 else 0), x4, (if b5 then 1 else 0), x6, x7, x8, x9] : List Int).getD o 0)) [(0, 0), (0, 1), (2, 2), (1, 3), (0, 4), (1, 5), (0, 6), (2, 7), (2, 8), (2, 9)] []).map (Value.int .u8)) 5 ∧ w.heap.size ≤ b ∧ Below w.heap.size w w' := by
  refine gc_enter (n := 19) Tryz.func249 rfl (by kernel_rfl) (by kernel_rfl) ?_
  refine gc_seq ?_
  refine gc_reg ?_
  refine ta 2 [.int .u64 x0, .int .u64 x1, .slice a2 n2 c2, .bool b3, .int .u64 x4, .bool b5, .int .u64 x6, .slice a7 n7 c7, .slice a8 n8 c8, .slice a9 n9 c9] 57 (pg) ?_
  intro v1 g1 X1 q1 B1
  refine t 4 (.slice none 0 0) ?_
  refine gl_nil ?_
  refine ge_then ?_
  refine gc_seq ?_
  refine gc_reg ?_
  refine ta_wr 5 ?_
  intro v2 g2 X2 q2 B2
  refine gl_nil ?_
  refine ge_then ?_
  refine gc_seq ?_
  refine gc_reg ?_
  refine t 8 (.func (.func 77) #[] #[]) ?_
  refine t 9 (.func (.func 307) #[] #[pg g2]) ?_
  refine t 10 (.func (.func 308) #[] #[pg g2]) ?_
  refine t 11 (.func (.func 309) #[] #[pg g2]) ?_
  refine t 12 (.agg (hq 307 308 309 (pg g2)).toArray) ?_
  have l1 := X1.lt
  have hlen := pnx_len (fun o => ([x0, x1, x2, (if b3 then 1 else 0), x4, (if b5 then 1 else 0), x6, x7, x8, x9] : List Int).getD o 0) [(0, 0), (0, 1), (2, 2), (1, 3), (0, 4), (1, 5), (0, 6), (2, 7), (2, 8), (2, 9)] []
  refine tc 13 77 #[pg g1, .agg (hq 307 308 309 (pg g2)).toArray] (ofVal_any (hc_any ⟨⟨_, Tryz.func307, rfl, rfl, rfl⟩, fun _ _ => by kernel_rfl⟩ ⟨⟨_, Tryz.func308, rfl, rfl, rfl⟩, fun _ _ => by kernel_rfl⟩ ⟨⟨_, Tryz.func309, rfl, rfl, rfl⟩, fun _ _ => by kernel_rfl⟩ (fl_Val h2 m2 h7 m7 h8 m8 h9 m9 (x0 := x0) (x1 := x1) (b3 := b3) (x4 := x4) (b5 := b5) (x6 := x6) (w := w))) (s := []) ⟨X2, joinB B1 B2, X1.keep B2, Nat.le_trans B1.size q2, by omega⟩ (by decide) (Nat.le_trans hlen (by decide))) ?_
  rintro _ v3 ⟨rfl, I, C⟩
  generalize thr (pnx (fun o => ([x0, x1, x2, (if b3 then 1 else 0), x4, (if b5 then 1 else 0), x6, x7, x8, x9] : List Int).getD o 0)) [(0, 0), (0, 1), (2, 2), (1, 3), (0, 4), (1, 5), (0, 6), (2, 7), (2, 8), (2, 9)] [] = M at *
  refine ⟨_, rfl, ?_⟩
  refine gl_nil ?_
  refine ge_then ?_
  refine gc_seq ?_
  refine gc_reg ?_
  refine tc 15 34 #[pg g2] (wrOut I.wr (Nat.le_trans hlen (by decide))) ?_
  rintro _ v4 ⟨rfl, X4, B4⟩
  refine ⟨_, rfl, ?_⟩
  refine t 14 (.tuple #[sg M.length v3.heap.size, .int .i64 0]) ?_
  refine t 16 (sg M.length v3.heap.size) ?_
  refine t 17 (.int .i64 0) ?_
  refine t 6 (sg M.length v3.heap.size) ?_
  refine t 7 (.int .i64 0) ?_
  refine gl_nil ?_
  refine ge_then ?_
  refine gc_seq ?_
  refine gc_reg ?_
  refine t 18 (sg M.length v3.heap.size) ?_
  refine t 4 (sg M.length v3.heap.size) ?_
  refine gl_nil ?_
  refine ge_then ?_
  refine gc_ret ?_
  refine ge_ret (sg M.length v3.heap.size) (rs1 4 (by kernel_rfl) (by kernel_rfl)) ?_
  exact ⟨_, _, rfl, rfl, X4, I.bel.size, joinB I.bel B4⟩
theorem put_Delegation {w : World} {a0 : Option Addr} {n0 c0 : Nat} {x0 : Int} {x1 : Int} {a2 : Option Addr} {n2 c2 : Nat} {x2 : Int} (h0 : NatA w a0 n0 c0 x0) (m0 : n0 ≤ 1000000) (h2 : NatA w a2 n2 c2 x2) (m2 : n2 ≤ 1000000) :
    Calls Tryz.prog 340 #[.agg #[.slice a0 n0 c0, .int .u64 x1, .slice a2 n2 c2], .func (.func 341) #[] #[]] w fun e w' => ∃ b n, e = .returned (.slice (some ⟨b, 0, none⟩) n n) ∧ n = (thr (pnx (fun o => ([x0, x1, x2] : List Int).getD o 0)) [(2, 0), (0, 1), (2, 2)] []).length ∧ Box w' b ((thr (pnx (fun o => ([x0, x1, x2] : List Int).getD o 0)) [(2, 0), (0, 1), (2, 2)] []).map (Value.int .u8)) 5 ∧ w.heap.size ≤ b ∧ Below w.heap.size w w' := by
  refine gc_enter (n := 19) Tryz.func340 rfl (by kernel_rfl) (by kernel_rfl) ?_
  refine gc_seq ?_
  refine gc_reg ?_
  refine ta 2 [.slice a0 n0 c0, .int .u64 x1, .slice a2 n2 c2] 181 (pg) ?_
  intro v1 g1 X1 q1 B1
  refine t 4 (.slice none 0 0) ?_
  refine gl_nil ?_
  refine ge_then ?_
  refine gc_seq ?_
  refine gc_reg ?_
  refine ta_wr 5 ?_
  intro v2 g2 X2 q2 B2
  refine gl_nil ?_
  refine ge_then ?_
  refine gc_seq ?_
  refine gc_reg ?_
  refine t 8 (.func (.func 341) #[] #[]) ?_
  refine t 9 (.func (.func 365) #[] #[pg g2]) ?_
  refine t 10 (.func (.func 366) #[] #[pg g2]) ?_
  refine t 11 (.func (.func 367) #[] #[pg g2]) ?_
  refine t 12 (.agg (hq 365 366 367 (pg g2)).toArray) ?_
  have l1 := X1.lt
  have hlen := pnx_len (fun o => ([x0, x1, x2] : List Int).getD o 0) [(2, 0), (0, 1), (2, 2)] []
  refine tc 13 341 #[pg g1, .agg (hq 365 366 367 (pg g2)).toArray] (ofDelegation_any (hc_any ⟨⟨_, Tryz.func365, rfl, rfl, rfl⟩, fun _ _ => by kernel_rfl⟩ ⟨⟨_, Tryz.func366, rfl, rfl, rfl⟩, fun _ _ => by kernel_rfl⟩ ⟨⟨_, Tryz.func367, rfl, rfl, rfl⟩, fun _ _ => by kernel_rfl⟩ (fl_Delegation h0 m0 h2 m2 (x1 := x1) (w := w))) (s := []) ⟨X2, joinB B1 B2, X1.keep B2, Nat.le_trans B1.size q2, by omega⟩ (by decide) (Nat.le_trans hlen (by decide))) ?_
  rintro _ v3 ⟨rfl, I, C⟩
  generalize thr (pnx (fun o => ([x0, x1, x2] : List Int).getD o 0)) [(2, 0), (0, 1), (2, 2)] [] = M at *
  refine ⟨_, rfl, ?_⟩
  refine gl_nil ?_
  refine ge_then ?_
  refine gc_seq ?_
  refine gc_reg ?_
  refine tc 15 34 #[pg g2] (wrOut I.wr (Nat.le_trans hlen (by decide))) ?_
  rintro _ v4 ⟨rfl, X4, B4⟩
  refine ⟨_, rfl, ?_⟩
  refine t 14 (.tuple #[sg M.length v3.heap.size, .int .i64 0]) ?_
  refine t 16 (sg M.length v3.heap.size) ?_
  refine t 17 (.int .i64 0) ?_
  refine t 6 (sg M.length v3.heap.size) ?_
  refine t 7 (.int .i64 0) ?_
  refine gl_nil ?_
  refine ge_then ?_
  refine gc_seq ?_
  refine gc_reg ?_
  refine t 18 (sg M.length v3.heap.size) ?_
  refine t 4 (sg M.length v3.heap.size) ?_
  refine gl_nil ?_
  refine ge_then ?_
  refine gc_ret ?_
  refine ge_ret (sg M.length v3.heap.size) (rs1 4 (by kernel_rfl) (by kernel_rfl)) ?_
  exact ⟨_, _, rfl, rfl, X4, I.bel.size, joinB I.bel B4⟩
theorem put_History {w : World} {a0 : Option Addr} {n0 c0 : Nat} {x0 : Int} {x1 : Int} (h0 : NatA w a0 n0 c0 x0) (m0 : n0 ≤ 1000000) :
    Calls Tryz.prog 264 #[.agg #[.slice a0 n0 c0, .int .u64 x1], .func (.func 263) #[] #[]] w fun e w' => ∃ b n, e = .returned (.slice (some ⟨b, 0, none⟩) n n) ∧ n = (thr (pnx (fun o => ([x0, x1] : List Int).getD o 0)) [(2, 0), (0, 1)] []).length ∧ Box w' b ((thr (pnx (fun o => ([x0, x1] : List Int).getD o 0)) [(2, 0), (0, 1)] []).map (Value.int .u8)) 5 ∧ w.heap.size ≤ b ∧ Below w.heap.size w w' := by
  refine gc_enter (n := 19) Tryz.func264 rfl (by kernel_rfl) (by kernel_rfl) ?_
  refine gc_seq ?_
  refine gc_reg ?_
  refine ta 2 [.slice a0 n0 c0, .int .u64 x1] 272 (pg) ?_
  intro v1 g1 X1 q1 B1
  refine t 4 (.slice none 0 0) ?_
  refine gl_nil ?_
  refine ge_then ?_
  refine gc_seq ?_
  refine gc_reg ?_
  refine ta_wr 5 ?_
  intro v2 g2 X2 q2 B2
  refine gl_nil ?_
  refine ge_then ?_
  refine gc_seq ?_
  refine gc_reg ?_
  refine t 8 (.func (.func 263) #[] #[]) ?_
  refine t 9 (.func (.func 317) #[] #[pg g2]) ?_
  refine t 10 (.func (.func 318) #[] #[pg g2]) ?_
  refine t 11 (.func (.func 319) #[] #[pg g2]) ?_
  refine t 12 (.agg (hq 317 318 319 (pg g2)).toArray) ?_
  have l1 := X1.lt
  have hlen := pnx_len (fun o => ([x0, x1] : List Int).getD o 0) [(2, 0), (0, 1)] []
  refine tc 13 263 #[pg g1, .agg (hq 317 318 319 (pg g2)).toArray] (ofHistory_any (hc_any ⟨⟨_, Tryz.func317, rfl, rfl, rfl⟩, fun _ _ => by kernel_rfl⟩ ⟨⟨_, Tryz.func318, rfl, rfl, rfl⟩, fun _ _ => by kernel_rfl⟩ ⟨⟨_, Tryz.func319, rfl, rfl, rfl⟩, fun _ _ => by kernel_rfl⟩ (fl_History h0 m0 (x1 := x1) (w := w))) (s := []) ⟨X2, joinB B1 B2, X1.keep B2, Nat.le_trans B1.size q2, by omega⟩ (by decide) (Nat.le_trans hlen (by decide))) ?_
  rintro _ v3 ⟨rfl, I, C⟩
  generalize thr (pnx (fun o => ([x0, x1] : List Int).getD o 0)) [(2, 0), (0, 1)] [] = M at *
  refine ⟨_, rfl, ?_⟩
  refine gl_nil ?_
  refine ge_then ?_
  refine gc_seq ?_
  refine gc_reg ?_
  refine tc 15 34 #[pg g2] (wrOut I.wr (Nat.le_trans hlen (by decide))) ?_
  rintro _ v4 ⟨rfl, X4, B4⟩
  refine ⟨_, rfl, ?_⟩
  refine t 14 (.tuple #[sg M.length v3.heap.size, .int .i64 0]) ?_
  refine t 16 (sg M.length v3.heap.size) ?_
  refine t 17 (.int .i64 0) ?_
  refine t 6 (sg M.length v3.heap.size) ?_
  refine t 7 (.int .i64 0) ?_
  refine gl_nil ?_
  refine ge_then ?_
  refine gc_seq ?_
  refine gc_reg ?_
  refine t 18 (sg M.length v3.heap.size) ?_
  refine t 4 (sg M.length v3.heap.size) ?_
  refine gl_nil ?_
  refine ge_then ?_
  refine gc_ret ?_
  refine ge_ret (sg M.length v3.heap.size) (rs1 4 (by kernel_rfl) (by kernel_rfl)) ?_
  exact ⟨_, _, rfl, rfl, X4, I.bel.size, joinB I.bel B4⟩
end Rc
end Go.Proofs.YtpoifdokmjhclaaGreat

namespace Go.Proofs.YtpoifdokmjhclaaGreat
namespace Rc
open Go.RowKit Go.Lib Pg Lim
attribute [local go_sem] Oper.semAt_some
/-- the normal list of x, in a block from B on -/
structure NatW (w : World) (B : Nat) (ao : Option Addr) (n c : Nat) (x : Int) : Prop where
  ex : ∃ b o l, l.length = n ∧ n ≤ c ∧ IsN l x ∧ At w ao b o l ∧ B ≤ b
theorem natW_nil (w : World) (B : Nat) : NatW w B none 0 0 0 := ⟨B, 0, [], rfl, Nat.le_refl _, isN_nil, ⟨.inl rfl, fun i hi => by simp at hi⟩, Nat.le_refl _⟩
theorem NatW.low {w : World} {B B' n c : Nat} {ao : Option Addr} {x : Int} (h : NatW w B ao n c x) (hB : B' ≤ B) : NatW w B' ao n c x := by
  obtain ⟨b, o, l, h1, h2, h3, h4, h5⟩ := h.ex
  exact ⟨b, o, l, h1, h2, h3, h4, Nat.le_trans hB h5⟩
theorem NatW.off {w w' : World} {B n c : Nat} {ao : Option Addr} {x : Int} (h : NatW w B ao n c x) (_hs : w.heap.size ≤ w'.heap.size) (hw : ∀ b, B ≤ b → b < w.heap.size → w'.heap[b]? = w.heap[b]?) : NatW w' B ao n c x := by
  obtain ⟨b, o, l, h1, h2, h3, h4, h5⟩ := h.ex
  refine ⟨b, o, l, h1, h2, h3, ⟨h4.loc, fun i hi => ?_⟩, h5⟩
  have hc := h4.cell i hi
  rw [World.cell?_of_block (w := w) (hw b h5 (cell_lt hc))]
  exact hc
theorem newV_w {w w' : World} {v : Value} {r : List Int} {x : Int} {B : Nat} (h : NewV w w' v r) (hI : IsN r x) (hB : B ≤ w.heap.size) : ∃ a c, v = .slice a r.length c ∧ NatW w' B a r.length c x := by
  obtain ⟨ao, b, o, c, e, h1, h2, h3, h4⟩ := h.is
  exact ⟨ao, c, e, b, o, r, rfl, h1, hI, h3, Nat.le_trans hB h2⟩
set_option maxRecDepth 100000 in
theorem raNaturalW {w : World} {g b : Nat} {l : List Int} (h : RdA w g b 0 l) :
    Calls Tryz.prog 204 #[.pointer (some ⟨g, 0, none⟩)] w fun e w' => ∃ v, e = .returned (.tuple #[v, .int .i64 (rdE (pNat l) 0)]) ∧ ∃ l1, RdA w' g b 0 l1 ∧ But g w w' ∧ ∀ x k, pNat l = .inr (x, k) → l1 = l.drop k ∧ ∃ ao n c, v = .slice ao n c ∧ NatW w' w.heap.size ao n c x ∧ n ≤ 255 := by
  have hcn := cntOf_eq (m := 1) h
  by_cases hl : 1 ≤ l.length
  · have t := raNum (m := 1) h hl (by decide)
    have hN := cntOf_lt h hl
    rw [show (256 : Int) ^ 1 = 256 by decide] at hN
    rw [← hcn] at t
    have HO := (show Hid _ from h.oct)
    by_cases hs : 1 + cntOf 1 l ≤ l.length
    · by_cases hz : 0 < cntOf 1 l ∧ nth (l.drop 1) 0 = 0
      · have hp : pNat l = .inl 41 := by unfold pNat; rw [if_pos hl, if_pos hs, if_pos hz]
        have HR : Hid (rdE (pNat l) 0 = 41) := by show _ = _; rw [hp]; rfl
        have HP := (show Hid _ from hp)
        have HZ := (show Hid _ from hz)
        clear hp h hz hcn
        generalize cntOf 1 l = N at *
        go_enter Tryz.func204, Tryz.ntmps204
        go_wp2_with fail
        refine t.mono ?_
        rintro e w1 ⟨rfl, h1, h2⟩
        have t2 := raTake (m := N) h1 (by rw [List.length_drop]; omega)
        clear t
        go_wp2_with fail
        refine t2.mono ?_
        rintro e w2 ⟨ao, rfl, hA, h3, h4⟩
        obtain ⟨o, k1, k2, k3, k4, k5⟩ := hA.ex
        have t3 := from_no ao N N b o _ w2 k1 HZ.out.1 k5 (by rw [nth_take HZ.out.1]; exact HZ.out.2)
        clear t2 k1 k2 k3 k4 k5 hA
        go_wp2_with fail
        refine t3.mono ?_
        rintro e w3 ⟨rfl, rfl⟩
        clear t3
        go_wp2
        go_ret2
        exact ⟨_, by rw [HR.out]; rfl, _, h3, h2.trans h4, fun x k e => by rw [HP.out] at e; cases e⟩
      · have hp : pNat l = .inr (bval ((l.drop 1).take (cntOf 1 l)), 1 + cntOf 1 l) := by unfold pNat; rw [if_pos hl, if_pos hs, if_neg hz]
        have HR : Hid (rdE (pNat l) 0 = 0) := by show _ = _; rw [hp]; rfl
        have HP := (show Hid _ from hp)
        have HZ := (show Hid _ from hz)
        clear hp h hz hcn
        generalize cntOf 1 l = N at *
        go_enter Tryz.func204, Tryz.ntmps204
        go_wp2_with fail
        refine t.mono ?_
        rintro e w1 ⟨rfl, h1, h2⟩
        have t2 := raTake (m := N) h1 (by rw [List.length_drop]; omega)
        clear t
        go_wp2_with fail
        refine t2.mono ?_
        rintro e w2 ⟨ao, rfl, hA, h3, h4⟩
        obtain ⟨o, k1, k2, k3, k4, k5⟩ := hA.ex
        have t3 := from_yes ao N N b o _ w2 k1 (by omega) k4 k5 (fun hpos e0 => HZ.out ⟨hpos, by rw [nth_take hpos] at e0; exact e0⟩)
        clear t2 k1 k2 k3 k4 k5 hA
        go_wp2_with fail
        refine t3.mono ?_
        rintro e w3 ⟨v, r, rfl, k1, k2, k3, k4⟩
        obtain ⟨a', c', rfl, hO⟩ := newV_w k1 k2 (show w.heap.size ≤ w2.heap.size from (h2.trans h4).size)
        have HOO := (show Hid _ from hO)
        have HK := (show Hid _ from k4)
        clear t3 k1 k2 k4 hO
        go_wp2
        go_ret2
        exact ⟨_, by rw [HR.out]; rfl, _, h3.keep HK.out, (h2.trans h4).trans (But.of HK.out), fun x k e => by
          rw [HP.out] at e
          cases e
          exact ⟨by rw [List.drop_drop], _, _, _, rfl, HOO.out, by omega⟩⟩
    · have hp : pNat l = .inl 40 := by unfold pNat; rw [if_pos hl, if_neg hs]
      have HR : Hid (rdE (pNat l) 0 = 40) := by show _ = _; rw [hp]; rfl
      have HP := (show Hid _ from hp)
      clear hp h hcn
      generalize cntOf 1 l = N at *
      go_enter Tryz.func204, Tryz.ntmps204
      go_wp2_with fail
      refine t.mono ?_
      rintro e w1 ⟨rfl, h1, h2⟩
      have t2 := raTakeS (m := N) h1 (by rw [List.length_drop]; omega)
      clear t hs
      go_wp2_with fail
      refine t2.mono ?_
      rintro e w2 ⟨rfl, rfl⟩
      clear t2
      go_wp2
      go_ret2
      exact ⟨_, by rw [HR.out]; rfl, _, h1, h2, fun x k e => by rw [HP.out] at e; cases e⟩
  · have t := raNumS (m := 1) h (by omega)
    have hp : pNat l = .inl 40 := by unfold pNat; rw [if_neg hl]
    have HR : Hid (rdE (pNat l) 0 = 40) := by show _ = _; rw [hp]; rfl
    have HP := (show Hid _ from hp)
    have HH := (show Hid _ from h)
    clear hp h hl hcn
    go_enter Tryz.func204, Tryz.ntmps204
    go_wp2_with fail
    refine t.mono ?_
    rintro e w1 ⟨rfl, rfl⟩
    clear t
    go_wp2
    go_ret2
    exact ⟨_, by rw [HR.out]; rfl, _, HH.out, But.refl _ _, fun x k e => by rw [HP.out] at e; cases e⟩
set_option maxRecDepth 100000 in
theorem rdNatW {w : World} {g b : Nat} {err : Int} {l : List Int} (h : RdA w g b err l) :
    Calls Tryz.prog 156 #[.pointer (some ⟨g, 0, none⟩)] w fun e w' => ∃ ao n c, e = .returned (.slice ao n c) ∧ NatW w' w.heap.size ao n c (rdV 0 (pNat l) err) ∧ n ≤ 255 ∧ RdA w' g b (rdE (pNat l) err) (rdL (pNat l) err l) ∧ But g w w' := by
  have t := enNa (z := (0 : Int)) (p := pNat l) (V := fun x v w' => ∃ ao n c, v = .slice ao n c ∧ NatW w' w.heap.size ao n c x ∧ n ≤ 255) h (fun _ => pNat_ne) (fun w' => ⟨none, 0, 0, rfl, natW_nil w' w.heap.size, by decide⟩) (fun e => by subst e; exact raNaturalW h)
  clear h
  generalize rdV 0 (pNat l) err = V at *
  generalize rdE (pNat l) err = E at *
  generalize rdL (pNat l) err l = R at *
  go_enter Tryz.func156, Tryz.ntmps156
  go_wp2_with fail
  refine t.mono ?_
  rintro e w1 ⟨v, rfl, ⟨ao, n, c, rfl, k3, k4⟩, k1, k2⟩
  clear t
  go_wp2
  go_ret
  exact ⟨ao, n, c, rfl, k3, k4, k1, k2⟩
set_option maxRecDepth 100000 in
theorem rdDecW {w : World} {g b : Nat} {err : Int} {l : List Int} (h : RdA w g b err l) :
    Calls Tryz.prog 115 #[.pointer (some ⟨g, 0, none⟩)] w fun e w' => ∃ ao n c, e = .returned (.agg #[.slice ao n c]) ∧ NatW w' w.heap.size ao n c (rdV 0 (pNat l) err) ∧ n ≤ 255 ∧ RdA w' g b (rdE (pNat l) err) (rdL (pNat l) err l) ∧ But g w w' := by
  have HB := (show Hid _ from below_alloc w (.cells #[.slice none 0 0] 55))
  have S0 := slot_new w (.slice none 0 0) 55
  have hg : w.heap.size ≠ g := by have := h.lt; omega
  have HG := (show Hid _ from hg)
  have t := rdNatW (h.keep HB.out)
  clear h hg
  generalize rdV 0 (pNat l) err = V at *
  generalize rdE (pNat l) err = E at *
  generalize rdL (pNat l) err l = R at *
  go_enter Tryz.func115, Tryz.ntmps115
  go_wp2_with fail
  refine t.mono ?_
  rintro e w1 ⟨ao, n, c, rfl, k3, k4, k1, k2⟩
  have S1 := S0.but k2 HG.out
  have c1 := S1.cell
  have f1 := S1.free
  have S2 := S1.put (.slice ao n c)
  have HO := (show Hid (NatW (w1.setCell ⟨w.heap.size, 0, none⟩ (.slice ao n c)) w.heap.size ao n c V) from (k3.off (w' := w1.setCell ⟨w.heap.size, 0, none⟩ (.slice ao n c)) (by rw [size_set]; exact Nat.le_refl _) (fun b hb _ => Below.heap_setCell _ _ _ b (by have := size_al w (.cells #[.slice none 0 0] 55); show b ≠ w.heap.size; omega))).low HB.out.size)
  have HR := (show Hid _ from k1.put (u := .slice ao n c) S1 HG.out (fun x e => by cases e))
  have HW := (show Hid _ from ((But.of (g := g) HB.out).trans k2).put (Nat.le_refl _) (.slice ao n c))
  clear t S0 S1 k1 k2 k3 HB HG
  go_wp2
  refine bodyPost_ret (ret_dec rfl rfl S2) rfl ?_
  exact ⟨ao, n, c, rfl, HO.out, k4, HR.out, HW.out⟩
end Rc
end Go.Proofs.YtpoifdokmjhclaaGreat

namespace Go.Proofs.YtpoifdokmjhclaaGreat
namespace Rc
open Go.RowKit Go.Lib Pg Gl
attribute [local go_sem] Oper.semAt_some
set_option maxRecDepth 100000
abbrev RSt := Int × List Int × (Nat → Int)
def pBoolI (l : List Int) : Int ⊕ Int × Nat := match pBool l with
  | .inl e => .inl e
  | .inr p => .inr ((if p.1 then 1 else 0), p.2)
/-- what is read of a field -/
def p1 : Nat → List Int → Int ⊕ Int × Nat
  | 0, l => pFix 8 l
  | 1, l => pBoolI l
  | _, l => pNat l
theorem pBoolI_E (l : List Int) (err : Int) : rdE (pBoolI l) err = rdE (pBool l) err := by
  unfold rdE pBoolI
  cases pBool l <;> rfl
theorem pBoolI_L (l m : List Int) (err : Int) : rdL (pBoolI l) err m = rdL (pBool l) err m := by
  unfold rdL pBoolI
  cases pBool l <;> rfl
theorem pBoolI_V (l : List Int) (err : Int) : rdV 0 (pBoolI l) err = if rdV false (pBool l) err then 1 else 0 := by
  unfold rdV pBoolI
  by_cases h : err = 0
  · rw [if_pos h, if_pos h]
    cases pBool l <;> rfl
  · rw [if_neg h, if_neg h]
    rfl
def rnx (k o : Nat) (s : RSt) : RSt := (rdE (p1 k s.2.1) s.1, rdL (p1 k s.2.1) s.1 s.2.1, fun i => if i = o then rdV 0 (p1 k s.2.1) s.1 else s.2.2 i)
def FldR (w : World) (B : Nat) (kd : Nat → Nat) (cs : List Value) (xs : Nat → Int) : Prop := ∀ o, (kd o = 0 → cs[o]? = some (.int .u64 (xs o))) ∧ (kd o = 1 → ∃ b : Bool, cs[o]? = some (.bool b) ∧ xs o = if b then 1 else 0) ∧ (kd o = 2 → ∃ ao n c, cs[o]? = some (.slice ao n c) ∧ NatW w B ao n c (xs o) ∧ n ≤ 255)
theorem FldR.off {w w' : World} {B : Nat} {kd : Nat → Nat} {cs : List Value} {xs : Nat → Int} (h : FldR w B kd cs xs) (hs : w.heap.size ≤ w'.heap.size) (hw : ∀ b, B ≤ b → b < w.heap.size → w'.heap[b]? = w.heap[b]?) : FldR w' B kd cs xs := fun o => ⟨(h o).1, (h o).2.1, fun hk => by
  obtain ⟨ao, n, c, h1, h2, h3⟩ := (h o).2.2 hk
  exact ⟨ao, n, c, h1, h2.off hs hw, h3⟩⟩
structure RI (w0 : World) (B g b vb rb : Nat) (kd : Nat → Nat) (len : Nat) (T vt : TypeId) (s : RSt) (w : World) : Prop where
  rd : RdA w g b s.1 s.2.1
  var : Blk w vb [.pointer (some ⟨g, 0, none⟩)] vt
  rc : ∃ cs, cs.length = len ∧ Blk w rb cs T ∧ FldR w B kd cs s.2.2
  bel : Below w0.heap.size w0 w
  s1 : rb ≠ g
  s2 : vb ≠ g
  s3 : vb ≠ rb
  s4 : b ≠ rb
  g1 : g < B
  r1 : rb < B
  g0 : w0.heap.size ≤ g
  r0 : w0.heap.size ≤ rb
theorem spl_one {cs : List Value} {o : Nat} {v : Value} (h : o < cs.length) : spl cs o [v] = cs.set o v := by
  simp only [spl]
  rw [List.set_eq_take_append_cons_drop, if_pos h, List.append_assoc]
  rfl
/-- one field more is read -/
theorem RI.step {w0 w w1 w' : World} {B g b vb rb len o k : Nat} {kd : Nat → Nat} {T vt : TypeId} {s : RSt} {e1 : Int} {l1 : List Int} {v : Value} {x : Int} {cs : List Value} (h : RI w0 B g b vb rb kd len T vt s w) (hcl : cs.length = len) (hF : FldR w B kd cs s.2.2) (ho : kd o = k) (hl : o < len) (X : RdA w1 g b e1 l1) (hB : But g w w1) (Y : Blk w' rb (spl cs o [v]) T) (C : Chg (· = rb) w1 w') (hv : (k = 0 ∧ v = .int .u64 x) ∨ (k = 1 ∧ ∃ t : Bool, v = .bool t ∧ x = if t then 1 else 0) ∨ (k = 2 ∧ ∃ ao n c, v = .slice ao n c ∧ NatW w1 B ao n c x ∧ n ≤ 255)) :
    RI w0 B g b vb rb kd len T vt (e1, l1, fun i => if i = o then x else s.2.2 i) w' ∧ Chg (fun y => y = g ∨ y = rb) w w' := by
  have hS : But rb w1 w' := ⟨C.os, C.tape, C.output, C.size, fun b hb hne => C.same b hb hne⟩
  have h1 := h.s1
  have h3 := h.g1
  have h4 := h.r1
  have hc1 : Chg (· = g) w w1 := But.chg hB
  rw [spl_one (by omega)] at Y
  have b1 : Below w0.heap.size w0 w1 := hB.below h.bel h.g0 (Nat.le_refl _)
  have off1 : ∀ y, B ≤ y → y < w.heap.size → w1.heap[y]? = w.heap[y]? := fun y hy hy2 => hB.block y hy2 (by omega)
  have off2 : ∀ y, B ≤ y → y < w1.heap.size → w'.heap[y]? = w1.heap[y]? := fun y hy hy2 => hS.block y hy2 (by omega)
  refine ⟨⟨X.offW (fun e => h1 e.symm) h.s4 hS, (h.var.chg hc1 h.s2).chg C h.s3, ⟨cs.set o v, by rw [List.length_set]; exact hcl, Y, ?_⟩, hS.below b1 h.r0 (Nat.le_refl _), h.s1, h.s2, h.s3, h.s4, h.g1, h.r1, h.g0, h.r0⟩, (hc1.mono (fun _ _ e => .inl e)).trans C (fun _ _ e => .inr e)⟩
  have hF1 := hF.off hB.size off1
  intro i
  by_cases hi : i = o
  · subst hi
    have hget : (cs.set i v)[i]? = some v := by rw [List.getElem?_set_self (by omega)]
    rw [hget]
    simp only [if_true]
    refine ⟨fun hk => ?_, fun hk => ?_, fun hk => ?_⟩
    · rcases hv with ⟨_, e⟩ | ⟨e, _⟩ | ⟨e, _⟩
      · rw [e]
      · omega
      · omega
    · rcases hv with ⟨e, _⟩ | ⟨_, t, e, e2⟩ | ⟨e, _⟩
      · omega
      · exact ⟨t, by rw [e], e2⟩
      · omega
    · rcases hv with ⟨e, _⟩ | ⟨e, _⟩ | ⟨_, ao, n, c, e, e2, e3⟩
      · omega
      · omega
      · exact ⟨ao, n, c, by rw [e], e2.off hS.size off2, e3⟩
  · have hget : (cs.set o v)[i]? = cs[i]? := by rw [List.getElem?_set_ne (fun e => hi e.symm)]
    simp only [if_neg hi]
    rw [hget]
    exact (hF1.off hS.size off2) i
theorem kl_any (ks : List Nat) {o k : Nat} (h : ks.getD o 9 = k) (hk : k ≠ 9) : o < ks.length := by
  by_cases ho : o < ks.length
  · exact ho
  · exfalso
    rw [List.getD_eq_getElem?_getD, List.getElem?_eq_none (by omega)] at h
    exact hk h.symm
section
variable {w : World} {f f1 f2 f3 : FuncId} {g b vb rb o : Nat} {err : Int} {l : List Int} {cs : List Value} {T vt : TypeId}
theorem rn_any (K : Lk f Tryz.f238) (X : RdA w g b err l) (V : Blk w vb [.pointer (some ⟨g, 0, none⟩)] vt) (R : Blk w rb cs T) (hr' : rb ≠ g) (ho : o < cs.length) : Calls Tryz.prog f #[pq rb o, pg vb] w fun e w' => e = .returned (.tuple #[]) ∧ ∃ w1, Blk w' rb (spl cs o [.int .u64 (rdV 0 (p1 0 l) err)]) T ∧ Chg (· = rb) w1 w' ∧ RdA w1 g b (rdE (p1 0 l) err) (rdL (p1 0 l) err l) ∧ But g w w1 := by
  obtain ⟨⟨fn, hf, hb, hn, hr⟩, -⟩ := K
  refine gc_enter (n := 7) hf (hb.trans rfl) hn (by kernel_rfl) ?_
  refine gc_reg ?_
  refine t 3 (pq rb o) ?_
  refine tl 4 (pg g) V 0 ?_
  refine tc 5 48 #[pg g] (rdU64 X) ?_
  rintro _ w1 ⟨rfl, X, B⟩
  refine ⟨_, rfl, ?_⟩
  refine t 6 (pq rb o) ?_
  refine ts (R.chg (But.chg B) hr') o (.int .u64 (rdV 0 (p1 0 l) err)) [.int .u64 (rdV 0 (p1 0 l) err)] _ ?_ (hb := Nat.ble_eq_true_of_le ho)
  intro w2 Y C
  refine gl_nil ?_
  refine ge_end (.tuple #[]) (rs0 hr) ?_
  exact ⟨rfl, w1, Y, C, X, B⟩
theorem rt_any (K : Lk f Tryz.f239) (X : RdA w g b err l) (V : Blk w vb [.pointer (some ⟨g, 0, none⟩)] vt) (R : Blk w rb cs T) (hr' : rb ≠ g) (ho : o < cs.length) : Calls Tryz.prog f #[pq rb o, pg vb] w fun e w' => e = .returned (.tuple #[]) ∧ ∃ w1, Blk w' rb (spl cs o [.bool (rdV false (pBool l) err)]) T ∧ Chg (· = rb) w1 w' ∧ RdA w1 g b (rdE (p1 1 l) err) (rdL (p1 1 l) err l) ∧ But g w w1 := by
  obtain ⟨⟨fn, hf, hb, hn, hr⟩, -⟩ := K
  refine gc_enter (n := 7) hf (hb.trans rfl) hn (by kernel_rfl) ?_
  refine gc_reg ?_
  refine t 3 (pq rb o) ?_
  refine tl 4 (pg g) V 0 ?_
  refine tc 5 113 #[pg g] (rdBool X) ?_
  rintro _ w1 ⟨rfl, X, B⟩
  refine ⟨_, rfl, ?_⟩
  refine t 6 (pq rb o) ?_
  refine ts (R.chg (But.chg B) hr') o (.bool (rdV false (pBool l) err)) [.bool (rdV false (pBool l) err)] _ ?_ (hb := Nat.ble_eq_true_of_le ho)
  intro w2 Y C
  refine gl_nil ?_
  refine ge_end (.tuple #[]) (rs0 hr) ?_
  exact ⟨rfl, w1, Y, C, by show RdA w1 g b (rdE (pBoolI l) err) (rdL (pBoolI l) err l); rw [pBoolI_E, pBoolI_L]; exact X, B⟩
theorem rd_any (K : Lk f Tryz.f240) (X : RdA w g b err l) (V : Blk w vb [.pointer (some ⟨g, 0, none⟩)] vt) (R : Blk w rb cs T) (hr' : rb ≠ g) (ho : o < cs.length) : Calls Tryz.prog f #[pq rb o, pg vb] w fun e w' => e = .returned (.tuple #[]) ∧ ∃ w1 ao n c, Blk w' rb (spl cs o [.slice ao n c]) T ∧ Chg (· = rb) w1 w' ∧ NatW w1 w.heap.size ao n c (rdV 0 (p1 2 l) err) ∧ n ≤ 255 ∧ RdA w1 g b (rdE (p1 2 l) err) (rdL (p1 2 l) err l) ∧ But g w w1 := by
  obtain ⟨⟨fn, hf, hb, hn, hr⟩, -⟩ := K
  refine gc_enter (n := 7) hf (hb.trans rfl) hn (by kernel_rfl) ?_
  refine gc_reg ?_
  refine t 3 (pq rb o) ?_
  refine tl 4 (pg g) V 0 ?_
  refine tc 5 115 #[pg g] (rdDecW X) ?_
  rintro _ w1 ⟨a1, n1, d1, rfl, N, hn1, X, B⟩
  refine ⟨_, rfl, ?_⟩
  refine t 6 (pq rb o) ?_
  refine ts (R.chg (But.chg B) hr') o (.agg #[.slice a1 n1 d1]) [.slice a1 n1 d1] _ ?_ (hb := Nat.ble_eq_true_of_le ho)
  intro w2 Y C
  refine gl_nil ?_
  refine ge_end (.tuple #[]) (rs0 hr) ?_
  exact ⟨rfl, w1, a1, n1, d1, Y, C, N, hn1, X, B⟩
theorem rhc_any {w0 : World} {B : Nat} (ks : List Nat) (L1 : Lk f1 Tryz.f238) (L2 : Lk f2 Tryz.f239) (L3 : Lk f3 Tryz.f240) : HC RSt (fun s w => RI w0 B g b vb rb (fun o => ks.getD o 9) ks.length T vt s w ∧ B ≤ w.heap.size) (fun y => y = g ∨ y = rb) rb f1 f2 f3 (.pointer (some ⟨vb, 0, none⟩)) rnx (fun o => ks.getD o 9) (fun _ => True) where
  oks := fun _ _ _ _ => trivial
  keep := fun s w w' h Bl => by
    obtain ⟨h, hB⟩ := h
    obtain ⟨cs, h1, h2, h3⟩ := h.rc
    exact ⟨⟨h.rd.keep Bl, h.var.keep Bl, ⟨cs, h1, h2.keep Bl, h3.off Bl.size (fun y _ hy => Bl.block y hy)⟩, h.bel.trans (Bl.mono h.bel.size), h.s1, h.s2, h.s3, h.s4, h.g1, h.r1, h.g0, h.r0⟩, Nat.le_trans hB Bl.size⟩
  old := fun s w y h e => by
    have := h.1.g1
    have := h.1.r1
    have := h.2
    rcases e with e | e <;> omega
  e1 := L1.en
  e2 := L2.en
  e3 := L3.en
  u := fun s w o h _ hk => by
    obtain ⟨h, hB⟩ := h
    obtain ⟨cs, h1, h2, h3⟩ := h.rc
    have ho := kl_any ks hk (by decide)
    refine (rn_any L1 h.rd h.var h2 h.s1 (by omega)).mono ?_
    rintro e w' ⟨rfl, w1, Y, C, X, Bu⟩
    obtain ⟨r1, r2⟩ := h.step h1 h3 hk ho X Bu Y C (.inl ⟨rfl, rfl⟩)
    exact ⟨rfl, ⟨r1, Nat.le_trans hB r2.size⟩, r2⟩
  t := fun s w o h _ hk => by
    obtain ⟨h, hB⟩ := h
    obtain ⟨cs, h1, h2, h3⟩ := h.rc
    have ho := kl_any ks hk (by decide)
    refine (rt_any L2 h.rd h.var h2 h.s1 (by omega)).mono ?_
    rintro e w' ⟨rfl, w1, Y, C, X, Bu⟩
    obtain ⟨r1, r2⟩ := h.step h1 h3 hk ho X Bu Y C (x := rdV 0 (p1 1 s.2.1) s.1) (.inr (.inl ⟨rfl, _, rfl, pBoolI_V _ _⟩))
    exact ⟨rfl, ⟨r1, Nat.le_trans hB r2.size⟩, r2⟩
  d := fun s w o h _ hk => by
    obtain ⟨h, hB⟩ := h
    obtain ⟨cs, h1, h2, h3⟩ := h.rc
    have ho := kl_any ks hk (by decide)
    refine (rd_any L3 h.rd h.var h2 h.s1 (by omega)).mono ?_
    rintro e w' ⟨rfl, w1, a1, n1, c1, Y, C, hN, hn, X, Bu⟩
    obtain ⟨r1, r2⟩ := h.step h1 h3 hk ho X Bu Y C (x := rdV 0 (p1 2 s.2.1) s.1) (.inr (.inr ⟨rfl, _, _, _, rfl, hN.low hB, hn⟩))
    exact ⟨rfl, ⟨r1, Nat.le_trans hB r2.size⟩, r2⟩
end
end Rc
end Go.Proofs.YtpoifdokmjhclaaGreat

namespace Go.Proofs.YtpoifdokmjhclaaGreat
namespace Rc
open Go.RowKit Go.Lib Pg Gl
attribute [local go_sem] Oper.semAt_some
set_option maxRecDepth 100000
theorem rdL_len {α : Type} (p : Int ⊕ α × Nat) (err : Int) (l : List Int) : (rdL p err l).length ≤ l.length := by
  unfold rdL
  split
  · cases p
    · exact Nat.le_refl _
    · simp
  · exact Nat.le_refl _
theorem thr_len (ks : List (Nat × Nat)) : ∀ s : RSt, (thr rnx ks s).2.1.length ≤ s.2.1.length := by
  induction ks with
  | nil => intro s; exact Nat.le_refl _
  | cons p ks ih =>
    intro s
    have e : thr rnx (p :: ks) s = thr rnx ks (rnx p.1 p.2 s) := rfl
    rw [e]
    exact Nat.le_trans (ih _) (rdL_len _ _ _)
/-- how a record's reading ends -/
structure FinR (w : World) (kd : Nat → Nat) (len : Nat) (mk : List Value → Value) (s : RSt) (e : Ending) (w' : World) : Prop where
  ex : ∃ cs xs r, e = .returned (.tuple #[mk cs, .int .i64 r]) ∧ cs.length = len ∧ FldR w' w.heap.size kd cs xs ∧ (endE s.1 s.2.1 = 0 → r = 0 ∧ xs = s.2.2) ∧ (endE s.1 s.2.1 ≠ 0 → r = 80 ∧ xs = fun _ => 0)
  bel : Below w.heap.size w w'
theorem FldR.low {w : World} {B B' : Nat} {kd : Nat → Nat} {cs : List Value} {xs : Nat → Int} (h : FldR w B kd cs xs) (hB : B' ≤ B) : FldR w B' kd cs xs := fun o => ⟨(h o).1, (h o).2.1, fun hk => by
  obtain ⟨ao, n, c, h1, h2, h3⟩ := (h o).2.2 hk
  exact ⟨ao, n, c, h1, h2.low hB, h3⟩⟩
def mkA (cs : List Value) : Value := .agg cs.toArray
/-- what a variable of such fields begins with -/
def zk : Nat → Value
  | 0 => .int .u64 0
  | 1 => .bool false
  | _ => .slice none 0 0
abbrev zs (ks : List Nat) : List Value := ks.map zk
theorem fld0 (ks : List Nat) (w : World) (B : Nat) : FldR w B (fun o => ks.getD o 9) (zs ks) (fun _ => 0) := by
  intro o
  have h : ∀ k, k ≠ 9 → ks.getD o 9 = k → (zs ks)[o]? = some (zk k) := by
    intro k hk h
    have ho := kl_any ks h hk
    rw [List.getD_eq_getElem?_getD, List.getElem?_eq_getElem ho] at h
    rw [List.getElem?_map, List.getElem?_eq_getElem ho]
    exact congrArg (fun x => some (zk x)) h
  exact ⟨fun k => h 0 (by decide) k, fun k => ⟨false, h 1 (by decide) k, rfl⟩, fun k => ⟨none, 0, 0, h 2 (by decide) k, natW_nil _ _, by decide⟩⟩
theorem fld_one {w : World} {B : Nat} {ks : List Nat} {cs : List Value} {xs : Nat → Int} (F : FldR w B (fun o => ks.getD o 9) cs xs) (hc : cs.length = ks.length) (hk : ∀ k ∈ ks, k < 3) : cs.all (·.oneCell') = true := by
  rw [List.all_eq_true]
  intro v hv
  obtain ⟨o, ho, rfl⟩ := List.mem_iff_getElem.1 hv
  have hlt := hk (ks[o]'(by omega)) (List.getElem_mem _)
  have hd : ks.getD o 9 = ks[o]'(by omega) := by rw [List.getD_eq_getElem?_getD, List.getElem?_eq_getElem (by omega)]; rfl
  have hg := List.getElem?_eq_getElem ho
  obtain ⟨h0, h1, h2⟩ := F o
  rw [hg] at h0 h1 h2
  rcases (show ks[o]'(by omega) = 0 ∨ ks[o]'(by omega) = 1 ∨ ks[o]'(by omega) = 2 by omega) with e | e | e
  · rw [Option.some.inj (h0 (hd.trans e))]; rfl
  · obtain ⟨b, hb, -⟩ := h1 (hd.trans e)
    rw [Option.some.inj hb]; rfl
  · obtain ⟨a, n, c, hb, -⟩ := h2 (hd.trans e)
    rw [Option.some.inj hb]; rfl
theorem rd_len (ks : List (Nat × Nat)) {l : List Int} {n : Nat} (hn : n ≤ 1000000000) (hl : l.length = n) : (thr rnx ks (0, l, fun _ => (0 : Int))).2.1.length ≤ 9223372036854775807 := by
  have h : (thr rnx ks (0, l, fun _ => (0 : Int))).2.1.length ≤ l.length := thr_len ks (0, l, fun _ => (0 : Int))
  omega
section
variable {w v1 v2 v3 v4 v5 v6 v7 v8 v9 : World} {g g1 g2 g3 g5 b' B : Nat} {T vt : TypeId} {l : List Int} {ks : List Nat} {cs : List Value} {st : RSt}
/-- ahead of the hands -/
theorem rd_pre (X1 : Blk v1 g1 (zs ks) T) (h1 : w.heap.size ≤ g1) (B1 : Below w.heap.size w v1) (X2 : Blk v2 g2 (zs ks) T) (h2 : v1.heap.size ≤ g2) (B2 : Below v1.heap.size v1 v2) (X3 : Blk v3 g3 (zs ks) T) (h3 : v2.heap.size ≤ g3) (B3 : Below v2.heap.size v2 v3) (X4 : RdA v4 g b' 0 l) (hg : v3.heap.size ≤ g) (hb : v3.heap.size ≤ b') (hb2 : b' < v4.heap.size) (B4 : Below v3.heap.size v3 v4) (h5 : v4.heap.size ≤ g5) (B5 : Below v4.heap.size v4 v5) (Y : Blk v6 g5 [.pointer (some ⟨g, 0, none⟩)] vt) (C : Chg (· = g5) v5 v6) :
    (RI w v6.heap.size g b' g5 g2 (fun o => ks.getD o 9) ks.length T vt (0, l, fun _ => (0 : Int)) v6 ∧ v6.heap.size ≤ v6.heap.size) ∧ Blk v6 g1 (zs ks) T ∧ Blk v6 g3 (zs ks) T ∧ g1 ≠ g ∧ g1 ≠ g2 ∧ g3 ≠ g ∧ g3 ≠ g2 ∧ w.heap.size ≤ g1 ∧ g1 < v6.heap.size := by
  have a1 := X1.lt
  have a2 := X2.lt
  have a3 := X3.lt
  have a4 := X4.lt
  have s1 := B1.size
  have s2 := B2.size
  have s3 := B3.size
  have s4 := B4.size
  have s5 := B5.size
  have s6 := C.size
  have hC := joinB B4 B5
  have hS : But g5 v5 v6 := ⟨C.os, C.tape, C.output, C.size, fun b hb hne => C.same b hb hne⟩
  refine ⟨⟨⟨(X4.keep B5).offW (by omega) (by omega) hS, Y, ⟨_, by simp, ((X2.keep B3).keep hC).chg C (show g2 ≠ g5 by omega), fld0 ks _ _⟩, belowC (joinB (joinB (joinB B1 B2) B3) hC) C (by omega), by omega, by omega, by omega, by omega, by omega, by omega, by omega, by omega⟩, Nat.le_refl _⟩, (((X1.keep B2).keep B3).keep hC).chg C (show g1 ≠ g5 by omega), (X3.keep hC).chg C (show g3 ≠ g5 by omega), by omega, by omega, by omega, by omega, by omega, by omega⟩
theorem rd_mid (K1 : Blk v6 g1 (zs ks) T) (K3 : Blk v6 g3 (zs ks) T) (n1 : g1 ≠ g) (n2 : g1 ≠ g2) (n3 : g3 ≠ g) (n4 : g3 ≠ g2) (C : Chg (fun y => y = g ∨ y = g2) v6 v7) (R : Blk v7 g2 cs T) (n5 : g2 ≠ g) (C7 : But g v7 v8) : Blk v8 g1 (zs ks) T ∧ Blk v8 g2 cs T ∧ Blk v8 g3 (zs ks) T :=
  ⟨(K1.chg C (fun h => h.elim n1 n2)).chg (But.chg C7) n1, R.chg (But.chg C7) n5, (K3.chg C (fun h => h.elim n3 n4)).chg (But.chg C7) n3⟩
theorem rd_fin (I : RI w B g b' g5 g2 (fun o => ks.getD o 9) ks.length T vt st v7) (C7 : But g v7 v8) (C : Chg (· = g1) v8 v9) (h1 : w.heap.size ≤ g1) (h2 : g1 < B) {xs : Nat → Int} (F : FldR v7 B (fun o => ks.getD o 9) cs xs) : FldR v9 w.heap.size (fun o => ks.getD o 9) cs xs ∧ Below w.heap.size w v9 := by
  have := I.g1
  refine ⟨((F.off C7.size (fun y hy hy2 => C7.block y hy2 (by omega))).off C.size (fun y hy hy2 => C.same y hy2 (fun e => by have e' : y = g1 := e; omega))).low (by omega), belowC (C7.below I.bel I.g0 (Nat.le_refl _)) C h1⟩
end
theorem ls1 {cs : List Value} (h : cs.length = 1) : ∃ y0, cs = [y0] := match cs, h with
  | [y0], _ => ⟨y0, rfl⟩
theorem ls2 {cs : List Value} (h : cs.length = 2) : ∃ y0 y1, cs = [y0, y1] := match cs, h with
  | [y0, y1], _ => ⟨y0, y1, rfl⟩
theorem ls10 {cs : List Value} (h : cs.length = 10) : ∃ y0 y1 y2 y3 y4 y5 y6 y7 y8 y9, cs = [y0, y1, y2, y3, y4, y5, y6, y7, y8, y9] := match cs, h with
  | [y0, y1, y2, y3, y4, y5, y6, y7, y8, y9], _ => ⟨y0, y1, y2, y3, y4, y5, y6, y7, y8, y9, rfl⟩
theorem read_Params {w : World} {bb n c : Nat} {ao : Option Addr} {l : List Int} (A : ByA w bb ao n c l) (hn : n ≤ 1000000000) (hl : l.length = n) :
    Calls Tryz.prog 191 #[.slice ao n c, .func (.func 128) #[] #[]] w (FinR w kd_Params 10 mkA (thr rnx [(0, 0), (0, 1), (0, 2), (0, 3), (0, 4), (0, 5), (0, 6), (0, 7), (0, 8), (0, 9)] (0, l, fun _ => (0 : Int)))) := by
  refine gc_enter (n := 22) Tryz.func191 rfl (by kernel_rfl) (by kernel_rfl) ?_
  refine gc_seq ?_
  refine gc_reg ?_
  refine ta 4 (zs [0, 0, 0, 0, 0, 0, 0, 0, 0, 0]) 24 (pg) ?_
  intro v1 g1 X1 h1 B1
  refine t 5 (.int .i64 0) ?_
  refine gl_nil ?_
  refine ge_then ?_
  refine gc_seq ?_
  refine gc_reg ?_
  refine ta 6 (zs [0, 0, 0, 0, 0, 0, 0, 0, 0, 0]) 24 (pg) ?_
  intro v2 g2 X2 h2 B2
  refine ta 7 (zs [0, 0, 0, 0, 0, 0, 0, 0, 0, 0]) 24 (pg) ?_
  intro v3 g3 X3 h3 B3
  refine gl_nil ?_
  refine ge_then ?_
  refine gc_seq ?_
  refine gc_reg ?_
  refine t 9 (.slice ao n c) ?_
  refine tc 10 44 #[.slice ao n c] (rdNew2 (A.keep (joinB (joinB B1 B2) B3)) (by omega)) ?_
  rintro _ v4 ⟨g, b', rfl, ⟨hg, hb', hb2⟩, X4, B4⟩
  refine ⟨_, rfl, ?_⟩
  refine ta 8 [.pointer none] 105 (pg) ?_
  intro v5 g5 X5 h5 B5
  refine ts X5 0 (pg g) [pg g] [pg g] ?_
  intro v6 Y C
  obtain ⟨I, K1, K3, n1, n2, n3, n4, n5, n6⟩ := rd_pre X1 h1 B1 X2 h2 B2 X3 h3 B3 X4 hg hb' hb2 B4 h5 B5 Y C
  refine gl_nil ?_
  refine ge_then ?_
  refine gc_seq ?_
  refine gc_reg ?_
  refine t 11 (.func (.func 128) #[] #[]) ?_
  refine t 12 (.func (.func 238) #[] #[pg g5]) ?_
  refine t 13 (.func (.func 239) #[] #[pg g5]) ?_
  refine t 14 (.func (.func 240) #[] #[pg g5]) ?_
  refine t 15 (.agg (hq 238 239 240 (pg g5)).toArray) ?_
  refine tc 16 128 #[pg g2, .agg (hq 238 239 240 (pg g5)).toArray] (ofParams_any (rhc_any [0, 0, 0, 0, 0, 0, 0, 0, 0, 0] ⟨⟨_, Tryz.func238, rfl, rfl, rfl⟩, fun _ _ => by kernel_rfl⟩ ⟨⟨_, Tryz.func239, rfl, rfl, rfl⟩, fun _ _ => by kernel_rfl⟩ ⟨⟨_, Tryz.func240, rfl, rfl, rfl⟩, fun _ _ => by kernel_rfl⟩) I (by decide) trivial) ?_
  rintro _ v7 ⟨rfl, ⟨I, -⟩, C⟩
  refine ⟨_, rfl, ?_⟩
  obtain ⟨cs, hc, R, F⟩ := I.rc
  obtain ⟨y0, y1, y2, y3, y4, y5, y6, y7, y8, y9, rfl⟩ := ls10 hc
  refine gl_nil ?_
  refine ge_then ?_
  refine gc_seq ?_
  refine gc_seq ?_
  refine gc_reg ?_
  refine tl 17 (pg g) I.var 0 ?_
  refine tc 18 49 #[pg g] (rdEnd I.rd (rd_len _ hn hl)) ?_
  rintro _ v8 ⟨rfl, -, B7⟩
  refine ⟨_, rfl, ?_⟩
  obtain ⟨K1, K2, K3⟩ := rd_mid K1 K3 n1 n2 n3 n4 C R I.s1 B7
  generalize thr rnx [(0, 0), (0, 1), (0, 2), (0, 3), (0, 4), (0, 5), (0, 6), (0, 7), (0, 8), (0, 9)] (0, l, fun _ => (0 : Int)) = st at *
  by_cases hE : endE st.1 st.2.1 = 0
  · refine tq 19 (.bool (endE st.1 st.2.1 != 0)) (.bool false) (congrArg Value.bool (bne_eq_false_iff_eq.2 hE)) ?_
    refine gl_nil ?_
    refine ge_then ?_
    refine gc_no ?_
    refine gc_skip ?_
    refine ge_then ?_
    refine gc_seq ?_
    refine gc_reg ?_
    refine tlr 21 [y0, y1, y2, y3, y4, y5, y6, y7, y8, y9] K2 0 ?_
    refine ts K1 0 (.agg ([y0, y1, y2, y3, y4, y5, y6, y7, y8, y9]).toArray) [y0, y1, y2, y3, y4, y5, y6, y7, y8, y9] [y0, y1, y2, y3, y4, y5, y6, y7, y8, y9] ?_ (h1 := fld_one F hc (by decide))
    intro v9 Y C
    refine t 5 (.int .i64 0) ?_
    refine gl_nil ?_
    refine ge_then ?_
    refine gc_ret ?_
    refine ge_ret (.tuple #[.agg ([y0, y1, y2, y3, y4, y5, y6, y7, y8, y9]).toArray, .int .i64 0]) (rsct 4 5 (T := 24) (by kernel_rfl) (by kernel_rfl) (by kernel_rfl) (lr Y 0)) ?_
    obtain ⟨F, B⟩ := rd_fin I B7 C n5 n6 F
    exact ⟨⟨_, _, 0, rfl, rfl, F, fun _ => ⟨rfl, rfl⟩, fun h => absurd hE h⟩, B⟩
  · refine tq 19 (.bool (endE st.1 st.2.1 != 0)) (.bool true) (congrArg Value.bool (bne_iff_ne.2 hE)) ?_
    refine gl_nil ?_
    refine ge_then ?_
    refine gc_yes ?_
    refine gc_seq ?_
    refine gc_reg ?_
    refine tlr 20 (zs [0, 0, 0, 0, 0, 0, 0, 0, 0, 0]) K3 0 ?_
    refine ts K1 0 (.agg ((zs [0, 0, 0, 0, 0, 0, 0, 0, 0, 0])).toArray) (zs [0, 0, 0, 0, 0, 0, 0, 0, 0, 0]) (zs [0, 0, 0, 0, 0, 0, 0, 0, 0, 0]) ?_
    intro v9 Y C
    refine t 5 (.int .i64 80) ?_
    refine gl_nil ?_
    refine ge_then ?_
    refine gc_ret ?_
    refine ge_tr ?_
    refine ge_ret (.tuple #[.agg ((zs [0, 0, 0, 0, 0, 0, 0, 0, 0, 0])).toArray, .int .i64 80]) (rsct 4 5 (T := 24) (by kernel_rfl) (by kernel_rfl) (by kernel_rfl) (lr Y 0)) ?_
    obtain ⟨F, B⟩ := rd_fin I B7 C n5 n6 (fld0 [0, 0, 0, 0, 0, 0, 0, 0, 0, 0] _ _)
    exact ⟨⟨_, _, 80, rfl, rfl, F, fun h => absurd h hE, fun _ => ⟨rfl, rfl⟩⟩, B⟩
theorem read_Pool {w : World} {bb n c : Nat} {ao : Option Addr} {l : List Int} (A : ByA w bb ao n c l) (hn : n ≤ 1000000000) (hl : l.length = n) :
    Calls Tryz.prog 364 #[.slice ao n c, .func (.func 363) #[] #[]] w (FinR w kd_Pool 1 mkA (thr rnx [(2, 0)] (0, l, fun _ => (0 : Int)))) := by
  refine gc_enter (n := 22) Tryz.func364 rfl (by kernel_rfl) (by kernel_rfl) ?_
  refine gc_seq ?_
  refine gc_reg ?_
  refine ta 4 (zs [2]) 55 (pg) ?_
  intro v1 g1 X1 h1 B1
  refine t 5 (.int .i64 0) ?_
  refine gl_nil ?_
  refine ge_then ?_
  refine gc_seq ?_
  refine gc_reg ?_
  refine ta 6 (zs [2]) 55 (pg) ?_
  intro v2 g2 X2 h2 B2
  refine ta 7 (zs [2]) 55 (pg) ?_
  intro v3 g3 X3 h3 B3
  refine gl_nil ?_
  refine ge_then ?_
  refine gc_seq ?_
  refine gc_reg ?_
  refine t 9 (.slice ao n c) ?_
  refine tc 10 44 #[.slice ao n c] (rdNew2 (A.keep (joinB (joinB B1 B2) B3)) (by omega)) ?_
  rintro _ v4 ⟨g, b', rfl, ⟨hg, hb', hb2⟩, X4, B4⟩
  refine ⟨_, rfl, ?_⟩
  refine ta 8 [.pointer none] 105 (pg) ?_
  intro v5 g5 X5 h5 B5
  refine ts X5 0 (pg g) [pg g] [pg g] ?_
  intro v6 Y C
  obtain ⟨I, K1, K3, n1, n2, n3, n4, n5, n6⟩ := rd_pre X1 h1 B1 X2 h2 B2 X3 h3 B3 X4 hg hb' hb2 B4 h5 B5 Y C
  refine gl_nil ?_
  refine ge_then ?_
  refine gc_seq ?_
  refine gc_reg ?_
  refine t 11 (.func (.func 363) #[] #[]) ?_
  refine t 12 (.func (.func 385) #[] #[pg g5]) ?_
  refine t 13 (.func (.func 386) #[] #[pg g5]) ?_
  refine t 14 (.func (.func 387) #[] #[pg g5]) ?_
  refine t 15 (.agg (hq 385 386 387 (pg g5)).toArray) ?_
  refine tc 16 363 #[pg g2, .agg (hq 385 386 387 (pg g5)).toArray] (ofPool_any (rhc_any [2] ⟨⟨_, Tryz.func385, rfl, rfl, rfl⟩, fun _ _ => by kernel_rfl⟩ ⟨⟨_, Tryz.func386, rfl, rfl, rfl⟩, fun _ _ => by kernel_rfl⟩ ⟨⟨_, Tryz.func387, rfl, rfl, rfl⟩, fun _ _ => by kernel_rfl⟩) I (by decide) trivial) ?_
  rintro _ v7 ⟨rfl, ⟨I, -⟩, C⟩
  refine ⟨_, rfl, ?_⟩
  obtain ⟨cs, hc, R, F⟩ := I.rc
  obtain ⟨y0, rfl⟩ := ls1 hc
  refine gl_nil ?_
  refine ge_then ?_
  refine gc_seq ?_
  refine gc_seq ?_
  refine gc_reg ?_
  refine tl 17 (pg g) I.var 0 ?_
  refine tc 18 49 #[pg g] (rdEnd I.rd (rd_len _ hn hl)) ?_
  rintro _ v8 ⟨rfl, -, B7⟩
  refine ⟨_, rfl, ?_⟩
  obtain ⟨K1, K2, K3⟩ := rd_mid K1 K3 n1 n2 n3 n4 C R I.s1 B7
  generalize thr rnx [(2, 0)] (0, l, fun _ => (0 : Int)) = st at *
  by_cases hE : endE st.1 st.2.1 = 0
  · refine tq 19 (.bool (endE st.1 st.2.1 != 0)) (.bool false) (congrArg Value.bool (bne_eq_false_iff_eq.2 hE)) ?_
    refine gl_nil ?_
    refine ge_then ?_
    refine gc_no ?_
    refine gc_skip ?_
    refine ge_then ?_
    refine gc_seq ?_
    refine gc_reg ?_
    refine tlr 21 [y0] K2 0 ?_
    refine ts K1 0 (.agg ([y0]).toArray) [y0] [y0] ?_ (h1 := fld_one F hc (by decide))
    intro v9 Y C
    refine t 5 (.int .i64 0) ?_
    refine gl_nil ?_
    refine ge_then ?_
    refine gc_ret ?_
    refine ge_ret (.tuple #[.agg ([y0]).toArray, .int .i64 0]) (rsct 4 5 (T := 55) (by kernel_rfl) (by kernel_rfl) (by kernel_rfl) (lr Y 0)) ?_
    obtain ⟨F, B⟩ := rd_fin I B7 C n5 n6 F
    exact ⟨⟨_, _, 0, rfl, rfl, F, fun _ => ⟨rfl, rfl⟩, fun h => absurd hE h⟩, B⟩
  · refine tq 19 (.bool (endE st.1 st.2.1 != 0)) (.bool true) (congrArg Value.bool (bne_iff_ne.2 hE)) ?_
    refine gl_nil ?_
    refine ge_then ?_
    refine gc_yes ?_
    refine gc_seq ?_
    refine gc_reg ?_
    refine tlr 20 (zs [2]) K3 0 ?_
    refine ts K1 0 (.agg ((zs [2])).toArray) (zs [2]) (zs [2]) ?_
    intro v9 Y C
    refine t 5 (.int .i64 80) ?_
    refine gl_nil ?_
    refine ge_then ?_
    refine gc_ret ?_
    refine ge_tr ?_
    refine ge_ret (.tuple #[.agg ((zs [2])).toArray, .int .i64 80]) (rsct 4 5 (T := 55) (by kernel_rfl) (by kernel_rfl) (by kernel_rfl) (lr Y 0)) ?_
    obtain ⟨F, B⟩ := rd_fin I B7 C n5 n6 (fld0 [2] _ _)
    exact ⟨⟨_, _, 80, rfl, rfl, F, fun h => absurd h hE, fun _ => ⟨rfl, rfl⟩⟩, B⟩
theorem read_Account {w : World} {bb n c : Nat} {ao : Option Addr} {l : List Int} (A : ByA w bb ao n c l) (hn : n ≤ 1000000000) (hl : l.length = n) :
    Calls Tryz.prog 73 #[.slice ao n c, .func (.func 74) #[] #[]] w (FinR w kd_Account 2 mkA (thr rnx [(0, 0), (0, 1)] (0, l, fun _ => (0 : Int)))) := by
  refine gc_enter (n := 22) Tryz.func73 rfl (by kernel_rfl) (by kernel_rfl) ?_
  refine gc_seq ?_
  refine gc_reg ?_
  refine ta 4 (zs [0, 0]) 50 (pg) ?_
  intro v1 g1 X1 h1 B1
  refine t 5 (.int .i64 0) ?_
  refine gl_nil ?_
  refine ge_then ?_
  refine gc_seq ?_
  refine gc_reg ?_
  refine ta 6 (zs [0, 0]) 50 (pg) ?_
  intro v2 g2 X2 h2 B2
  refine ta 7 (zs [0, 0]) 50 (pg) ?_
  intro v3 g3 X3 h3 B3
  refine gl_nil ?_
  refine ge_then ?_
  refine gc_seq ?_
  refine gc_reg ?_
  refine t 9 (.slice ao n c) ?_
  refine tc 10 44 #[.slice ao n c] (rdNew2 (A.keep (joinB (joinB B1 B2) B3)) (by omega)) ?_
  rintro _ v4 ⟨g, b', rfl, ⟨hg, hb', hb2⟩, X4, B4⟩
  refine ⟨_, rfl, ?_⟩
  refine ta 8 [.pointer none] 105 (pg) ?_
  intro v5 g5 X5 h5 B5
  refine ts X5 0 (pg g) [pg g] [pg g] ?_
  intro v6 Y C
  obtain ⟨I, K1, K3, n1, n2, n3, n4, n5, n6⟩ := rd_pre X1 h1 B1 X2 h2 B2 X3 h3 B3 X4 hg hb' hb2 B4 h5 B5 Y C
  refine gl_nil ?_
  refine ge_then ?_
  refine gc_seq ?_
  refine gc_reg ?_
  refine t 11 (.func (.func 74) #[] #[]) ?_
  refine t 12 (.func (.func 111) #[] #[pg g5]) ?_
  refine t 13 (.func (.func 112) #[] #[pg g5]) ?_
  refine t 14 (.func (.func 114) #[] #[pg g5]) ?_
  refine t 15 (.agg (hq 111 112 114 (pg g5)).toArray) ?_
  refine tc 16 74 #[pg g2, .agg (hq 111 112 114 (pg g5)).toArray] (ofAccount_any (rhc_any [0, 0] ⟨⟨_, Tryz.func111, rfl, rfl, rfl⟩, fun _ _ => by kernel_rfl⟩ ⟨⟨_, Tryz.func112, rfl, rfl, rfl⟩, fun _ _ => by kernel_rfl⟩ ⟨⟨_, Tryz.func114, rfl, rfl, rfl⟩, fun _ _ => by kernel_rfl⟩) I (by decide) trivial) ?_
  rintro _ v7 ⟨rfl, ⟨I, -⟩, C⟩
  refine ⟨_, rfl, ?_⟩
  obtain ⟨cs, hc, R, F⟩ := I.rc
  obtain ⟨y0, y1, rfl⟩ := ls2 hc
  refine gl_nil ?_
  refine ge_then ?_
  refine gc_seq ?_
  refine gc_seq ?_
  refine gc_reg ?_
  refine tl 17 (pg g) I.var 0 ?_
  refine tc 18 49 #[pg g] (rdEnd I.rd (rd_len _ hn hl)) ?_
  rintro _ v8 ⟨rfl, -, B7⟩
  refine ⟨_, rfl, ?_⟩
  obtain ⟨K1, K2, K3⟩ := rd_mid K1 K3 n1 n2 n3 n4 C R I.s1 B7
  generalize thr rnx [(0, 0), (0, 1)] (0, l, fun _ => (0 : Int)) = st at *
  by_cases hE : endE st.1 st.2.1 = 0
  · refine tq 19 (.bool (endE st.1 st.2.1 != 0)) (.bool false) (congrArg Value.bool (bne_eq_false_iff_eq.2 hE)) ?_
    refine gl_nil ?_
    refine ge_then ?_
    refine gc_no ?_
    refine gc_skip ?_
    refine ge_then ?_
    refine gc_seq ?_
    refine gc_reg ?_
    refine tlr 21 [y0, y1] K2 0 ?_
    refine ts K1 0 (.agg ([y0, y1]).toArray) [y0, y1] [y0, y1] ?_ (h1 := fld_one F hc (by decide))
    intro v9 Y C
    refine t 5 (.int .i64 0) ?_
    refine gl_nil ?_
    refine ge_then ?_
    refine gc_ret ?_
    refine ge_ret (.tuple #[.agg ([y0, y1]).toArray, .int .i64 0]) (rsct 4 5 (T := 50) (by kernel_rfl) (by kernel_rfl) (by kernel_rfl) (lr Y 0)) ?_
    obtain ⟨F, B⟩ := rd_fin I B7 C n5 n6 F
    exact ⟨⟨_, _, 0, rfl, rfl, F, fun _ => ⟨rfl, rfl⟩, fun h => absurd hE h⟩, B⟩
  · refine tq 19 (.bool (endE st.1 st.2.1 != 0)) (.bool true) (congrArg Value.bool (bne_iff_ne.2 hE)) ?_
    refine gl_nil ?_
    refine ge_then ?_
    refine gc_yes ?_
    refine gc_seq ?_
    refine gc_reg ?_
    refine tlr 20 (zs [0, 0]) K3 0 ?_
    refine ts K1 0 (.agg ((zs [0, 0])).toArray) (zs [0, 0]) (zs [0, 0]) ?_
    intro v9 Y C
    refine t 5 (.int .i64 80) ?_
    refine gl_nil ?_
    refine ge_then ?_
    refine gc_ret ?_
    refine ge_tr ?_
    refine ge_ret (.tuple #[.agg ((zs [0, 0])).toArray, .int .i64 80]) (rsct 4 5 (T := 50) (by kernel_rfl) (by kernel_rfl) (by kernel_rfl) (lr Y 0)) ?_
    obtain ⟨F, B⟩ := rd_fin I B7 C n5 n6 (fld0 [0, 0] _ _)
    exact ⟨⟨_, _, 80, rfl, rfl, F, fun h => absurd h hE, fun _ => ⟨rfl, rfl⟩⟩, B⟩
theorem read_Val {w : World} {bb n c : Nat} {ao : Option Addr} {l : List Int} (A : ByA w bb ao n c l) (hn : n ≤ 1000000000) (hl : l.length = n) :
    Calls Tryz.prog 76 #[.slice ao n c, .func (.func 77) #[] #[]] w (FinR w kd_Val 10 mkA (thr rnx [(0, 0), (0, 1), (2, 2), (1, 3), (0, 4), (1, 5), (0, 6), (2, 7), (2, 8), (2, 9)] (0, l, fun _ => (0 : Int)))) := by
  refine gc_enter (n := 22) Tryz.func76 rfl (by kernel_rfl) (by kernel_rfl) ?_
  refine gc_seq ?_
  refine gc_reg ?_
  refine ta 4 (zs [0, 0, 2, 1, 0, 1, 0, 2, 2, 2]) 57 (pg) ?_
  intro v1 g1 X1 h1 B1
  refine t 5 (.int .i64 0) ?_
  refine gl_nil ?_
  refine ge_then ?_
  refine gc_seq ?_
  refine gc_reg ?_
  refine ta 6 (zs [0, 0, 2, 1, 0, 1, 0, 2, 2, 2]) 57 (pg) ?_
  intro v2 g2 X2 h2 B2
  refine ta 7 (zs [0, 0, 2, 1, 0, 1, 0, 2, 2, 2]) 57 (pg) ?_
  intro v3 g3 X3 h3 B3
  refine gl_nil ?_
  refine ge_then ?_
  refine gc_seq ?_
  refine gc_reg ?_
  refine t 9 (.slice ao n c) ?_
  refine tc 10 44 #[.slice ao n c] (rdNew2 (A.keep (joinB (joinB B1 B2) B3)) (by omega)) ?_
  rintro _ v4 ⟨g, b', rfl, ⟨hg, hb', hb2⟩, X4, B4⟩
  refine ⟨_, rfl, ?_⟩
  refine ta 8 [.pointer none] 105 (pg) ?_
  intro v5 g5 X5 h5 B5
  refine ts X5 0 (pg g) [pg g] [pg g] ?_
  intro v6 Y C
  obtain ⟨I, K1, K3, n1, n2, n3, n4, n5, n6⟩ := rd_pre X1 h1 B1 X2 h2 B2 X3 h3 B3 X4 hg hb' hb2 B4 h5 B5 Y C
  refine gl_nil ?_
  refine ge_then ?_
  refine gc_seq ?_
  refine gc_reg ?_
  refine t 11 (.func (.func 77) #[] #[]) ?_
  refine t 12 (.func (.func 117) #[] #[pg g5]) ?_
  refine t 13 (.func (.func 118) #[] #[pg g5]) ?_
  refine t 14 (.func (.func 119) #[] #[pg g5]) ?_
  refine t 15 (.agg (hq 117 118 119 (pg g5)).toArray) ?_
  refine tc 16 77 #[pg g2, .agg (hq 117 118 119 (pg g5)).toArray] (ofVal_any (rhc_any [0, 0, 2, 1, 0, 1, 0, 2, 2, 2] ⟨⟨_, Tryz.func117, rfl, rfl, rfl⟩, fun _ _ => by kernel_rfl⟩ ⟨⟨_, Tryz.func118, rfl, rfl, rfl⟩, fun _ _ => by kernel_rfl⟩ ⟨⟨_, Tryz.func119, rfl, rfl, rfl⟩, fun _ _ => by kernel_rfl⟩) I (by decide) trivial) ?_
  rintro _ v7 ⟨rfl, ⟨I, -⟩, C⟩
  refine ⟨_, rfl, ?_⟩
  obtain ⟨cs, hc, R, F⟩ := I.rc
  obtain ⟨y0, y1, y2, y3, y4, y5, y6, y7, y8, y9, rfl⟩ := ls10 hc
  refine gl_nil ?_
  refine ge_then ?_
  refine gc_seq ?_
  refine gc_seq ?_
  refine gc_reg ?_
  refine tl 17 (pg g) I.var 0 ?_
  refine tc 18 49 #[pg g] (rdEnd I.rd (rd_len _ hn hl)) ?_
  rintro _ v8 ⟨rfl, -, B7⟩
  refine ⟨_, rfl, ?_⟩
  obtain ⟨K1, K2, K3⟩ := rd_mid K1 K3 n1 n2 n3 n4 C R I.s1 B7
  generalize thr rnx [(0, 0), (0, 1), (2, 2), (1, 3), (0, 4), (1, 5), (0, 6), (2, 7), (2, 8), (2, 9)] (0, l, fun _ => (0 : Int)) = st at *
  by_cases hE : endE st.1 st.2.1 = 0
  · refine tq 19 (.bool (endE st.1 st.2.1 != 0)) (.bool false) (congrArg Value.bool (bne_eq_false_iff_eq.2 hE)) ?_
    refine gl_nil ?_
    refine ge_then ?_
    refine gc_no ?_
    refine gc_skip ?_
    refine ge_then ?_
    refine gc_seq ?_
    refine gc_reg ?_
    refine tlr 21 [y0, y1, y2, y3, y4, y5, y6, y7, y8, y9] K2 0 ?_
    refine ts K1 0 (.agg ([y0, y1, y2, y3, y4, y5, y6, y7, y8, y9]).toArray) [y0, y1, y2, y3, y4, y5, y6, y7, y8, y9] [y0, y1, y2, y3, y4, y5, y6, y7, y8, y9] ?_ (h1 := fld_one F hc (by decide))
    intro v9 Y C
    refine t 5 (.int .i64 0) ?_
    refine gl_nil ?_
    refine ge_then ?_
    refine gc_ret ?_
    refine ge_ret (.tuple #[.agg ([y0, y1, y2, y3, y4, y5, y6, y7, y8, y9]).toArray, .int .i64 0]) (rsct 4 5 (T := 57) (by kernel_rfl) (by kernel_rfl) (by kernel_rfl) (lr Y 0)) ?_
    obtain ⟨F, B⟩ := rd_fin I B7 C n5 n6 F
    exact ⟨⟨_, _, 0, rfl, rfl, F, fun _ => ⟨rfl, rfl⟩, fun h => absurd hE h⟩, B⟩
  · refine tq 19 (.bool (endE st.1 st.2.1 != 0)) (.bool true) (congrArg Value.bool (bne_iff_ne.2 hE)) ?_
    refine gl_nil ?_
    refine ge_then ?_
    refine gc_yes ?_
    refine gc_seq ?_
    refine gc_reg ?_
    refine tlr 20 (zs [0, 0, 2, 1, 0, 1, 0, 2, 2, 2]) K3 0 ?_
    refine ts K1 0 (.agg ((zs [0, 0, 2, 1, 0, 1, 0, 2, 2, 2])).toArray) (zs [0, 0, 2, 1, 0, 1, 0, 2, 2, 2]) (zs [0, 0, 2, 1, 0, 1, 0, 2, 2, 2]) ?_
    intro v9 Y C
    refine t 5 (.int .i64 80) ?_
    refine gl_nil ?_
    refine ge_then ?_
    refine gc_ret ?_
    refine ge_tr ?_
    refine ge_ret (.tuple #[.agg ((zs [0, 0, 2, 1, 0, 1, 0, 2, 2, 2])).toArray, .int .i64 80]) (rsct 4 5 (T := 57) (by kernel_rfl) (by kernel_rfl) (by kernel_rfl) (lr Y 0)) ?_
    obtain ⟨F, B⟩ := rd_fin I B7 C n5 n6 (fld0 [0, 0, 2, 1, 0, 1, 0, 2, 2, 2] _ _)
    exact ⟨⟨_, _, 80, rfl, rfl, F, fun h => absurd h hE, fun _ => ⟨rfl, rfl⟩⟩, B⟩
theorem read_History {w : World} {bb n c : Nat} {ao : Option Addr} {l : List Int} (A : ByA w bb ao n c l) (hn : n ≤ 1000000000) (hl : l.length = n) :
    Calls Tryz.prog 262 #[.slice ao n c, .func (.func 263) #[] #[]] w (FinR w kd_History 2 mkA (thr rnx [(2, 0), (0, 1)] (0, l, fun _ => (0 : Int)))) := by
  refine gc_enter (n := 22) Tryz.func262 rfl (by kernel_rfl) (by kernel_rfl) ?_
  refine gc_seq ?_
  refine gc_reg ?_
  refine ta 4 (zs [2, 0]) 272 (pg) ?_
  intro v1 g1 X1 h1 B1
  refine t 5 (.int .i64 0) ?_
  refine gl_nil ?_
  refine ge_then ?_
  refine gc_seq ?_
  refine gc_reg ?_
  refine ta 6 (zs [2, 0]) 272 (pg) ?_
  intro v2 g2 X2 h2 B2
  refine ta 7 (zs [2, 0]) 272 (pg) ?_
  intro v3 g3 X3 h3 B3
  refine gl_nil ?_
  refine ge_then ?_
  refine gc_seq ?_
  refine gc_reg ?_
  refine t 9 (.slice ao n c) ?_
  refine tc 10 44 #[.slice ao n c] (rdNew2 (A.keep (joinB (joinB B1 B2) B3)) (by omega)) ?_
  rintro _ v4 ⟨g, b', rfl, ⟨hg, hb', hb2⟩, X4, B4⟩
  refine ⟨_, rfl, ?_⟩
  refine ta 8 [.pointer none] 105 (pg) ?_
  intro v5 g5 X5 h5 B5
  refine ts X5 0 (pg g) [pg g] [pg g] ?_
  intro v6 Y C
  obtain ⟨I, K1, K3, n1, n2, n3, n4, n5, n6⟩ := rd_pre X1 h1 B1 X2 h2 B2 X3 h3 B3 X4 hg hb' hb2 B4 h5 B5 Y C
  refine gl_nil ?_
  refine ge_then ?_
  refine gc_seq ?_
  refine gc_reg ?_
  refine t 11 (.func (.func 263) #[] #[]) ?_
  refine t 12 (.func (.func 314) #[] #[pg g5]) ?_
  refine t 13 (.func (.func 315) #[] #[pg g5]) ?_
  refine t 14 (.func (.func 316) #[] #[pg g5]) ?_
  refine t 15 (.agg (hq 314 315 316 (pg g5)).toArray) ?_
  refine tc 16 263 #[pg g2, .agg (hq 314 315 316 (pg g5)).toArray] (ofHistory_any (rhc_any [2, 0] ⟨⟨_, Tryz.func314, rfl, rfl, rfl⟩, fun _ _ => by kernel_rfl⟩ ⟨⟨_, Tryz.func315, rfl, rfl, rfl⟩, fun _ _ => by kernel_rfl⟩ ⟨⟨_, Tryz.func316, rfl, rfl, rfl⟩, fun _ _ => by kernel_rfl⟩) I (by decide) trivial) ?_
  rintro _ v7 ⟨rfl, ⟨I, -⟩, C⟩
  refine ⟨_, rfl, ?_⟩
  obtain ⟨cs, hc, R, F⟩ := I.rc
  obtain ⟨y0, y1, rfl⟩ := ls2 hc
  refine gl_nil ?_
  refine ge_then ?_
  refine gc_seq ?_
  refine gc_seq ?_
  refine gc_reg ?_
  refine tl 17 (pg g) I.var 0 ?_
  refine tc 18 49 #[pg g] (rdEnd I.rd (rd_len _ hn hl)) ?_
  rintro _ v8 ⟨rfl, -, B7⟩
  refine ⟨_, rfl, ?_⟩
  obtain ⟨K1, K2, K3⟩ := rd_mid K1 K3 n1 n2 n3 n4 C R I.s1 B7
  generalize thr rnx [(2, 0), (0, 1)] (0, l, fun _ => (0 : Int)) = st at *
  by_cases hE : endE st.1 st.2.1 = 0
  · refine tq 19 (.bool (endE st.1 st.2.1 != 0)) (.bool false) (congrArg Value.bool (bne_eq_false_iff_eq.2 hE)) ?_
    refine gl_nil ?_
    refine ge_then ?_
    refine gc_no ?_
    refine gc_skip ?_
    refine ge_then ?_
    refine gc_seq ?_
    refine gc_reg ?_
    refine tlr 21 [y0, y1] K2 0 ?_
    refine ts K1 0 (.agg ([y0, y1]).toArray) [y0, y1] [y0, y1] ?_ (h1 := fld_one F hc (by decide))
    intro v9 Y C
    refine t 5 (.int .i64 0) ?_
    refine gl_nil ?_
    refine ge_then ?_
    refine gc_ret ?_
    refine ge_ret (.tuple #[.agg ([y0, y1]).toArray, .int .i64 0]) (rsct 4 5 (T := 272) (by kernel_rfl) (by kernel_rfl) (by kernel_rfl) (lr Y 0)) ?_
    obtain ⟨F, B⟩ := rd_fin I B7 C n5 n6 F
    exact ⟨⟨_, _, 0, rfl, rfl, F, fun _ => ⟨rfl, rfl⟩, fun h => absurd hE h⟩, B⟩
  · refine tq 19 (.bool (endE st.1 st.2.1 != 0)) (.bool true) (congrArg Value.bool (bne_iff_ne.2 hE)) ?_
    refine gl_nil ?_
    refine ge_then ?_
    refine gc_yes ?_
    refine gc_seq ?_
    refine gc_reg ?_
    refine tlr 20 (zs [2, 0]) K3 0 ?_
    refine ts K1 0 (.agg ((zs [2, 0])).toArray) (zs [2, 0]) (zs [2, 0]) ?_
    intro v9 Y C
    refine t 5 (.int .i64 80) ?_
    refine gl_nil ?_
    refine ge_then ?_
    refine gc_ret ?_
    refine ge_tr ?_
    refine ge_ret (.tuple #[.agg ((zs [2, 0])).toArray, .int .i64 80]) (rsct 4 5 (T := 272) (by kernel_rfl) (by kernel_rfl) (by kernel_rfl) (lr Y 0)) ?_
    obtain ⟨F, B⟩ := rd_fin I B7 C n5 n6 (fld0 [2, 0] _ _)
    exact ⟨⟨_, _, 80, rfl, rfl, F, fun h => absurd h hE, fun _ => ⟨rfl, rfl⟩⟩, B⟩
end Rc
end Go.Proofs.YtpoifdokmjhclaaGreat

namespace Go.Proofs.YtpoifdokmjhclaaGreat
namespace Rc
open Go.RowKit Go.Lib Pg Gl
attribute [local go_sem] Oper.semAt_some
set_option maxRecDepth 100000
theorem PutParams_any {w : World} {x0 : Int} {x1 : Int} {x2 : Int} {x3 : Int} {x4 : Int} {x5 : Int} {x6 : Int} {x7 : Int} {x8 : Int} {x9 : Int} :
    Calls Tryz.prog 88 #[.agg #[.int .u64 x0, .int .u64 x1, .int .u64 x2, .int .u64 x3, .int .u64 x4, .int .u64 x5, .int .u64 x6, .int .u64 x7, .int .u64 x8, .int .u64 x9]] w fun e w' => ∃ b n, e = .returned (.slice (some ⟨b, 0, none⟩) n n) ∧ n = (thr (pnx (fun o => ([x0, x1, x2, x3, x4, x5, x6, x7, x8, x9] : List Int).getD o 0)) [(0, 0), (0, 1), (0, 2), (0, 3), (0, 4), (0, 5), (0, 6), (0, 7), (0, 8), (0, 9)] []).length ∧ Box w' b ((thr (pnx (fun o => ([x0, x1, x2, x3, x4, x5, x6, x7, x8, x9] : List Int).getD o 0)) [(0, 0), (0, 1), (0, 2), (0, 3), (0, 4), (0, 5), (0, 6), (0, 7), (0, 8), (0, 9)] []).map (Value.int .u8)) 5 ∧ w.heap.size ≤ b ∧ Below w.heap.size w w' := by
  refine gc_enter (n := 5) Tryz.func88 rfl (by kernel_rfl) (by kernel_rfl) ?_
  refine gc_seq ?_
  refine gc_reg ?_
  refine ta 1 [.int .u64 x0, .int .u64 x1, .int .u64 x2, .int .u64 x3, .int .u64 x4, .int .u64 x5, .int .u64 x6, .int .u64 x7, .int .u64 x8, .int .u64 x9] 24 (pg) ?_
  intro v1 g1 X1 q1 B1
  refine t 2 (.slice none 0 0) ?_
  refine gl_nil ?_
  refine ge_then ?_
  refine gc_seq ?_
  refine gc_reg ?_
  refine tlr 3 [.int .u64 x0, .int .u64 x1, .int .u64 x2, .int .u64 x3, .int .u64 x4, .int .u64 x5, .int .u64 x6, .int .u64 x7, .int .u64 x8, .int .u64 x9] X1 0 ?_
  refine tc 4 127 #[.agg #[.int .u64 x0, .int .u64 x1, .int .u64 x2, .int .u64 x3, .int .u64 x4, .int .u64 x5, .int .u64 x6, .int .u64 x7, .int .u64 x8, .int .u64 x9], .func (.func 128) #[] #[]] (put_Params) ?_
  rintro _ v2 ⟨b, n, rfl, hn, X, hb, B2⟩
  refine ⟨_, rfl, ?_⟩
  refine t 2 (.slice (some ⟨b, 0, none⟩) n n) ?_
  refine gl_nil ?_
  refine ge_then ?_
  refine gc_ret ?_
  refine ge_ret (.slice (some ⟨b, 0, none⟩) n n) (rs1 2 (by kernel_rfl) (by kernel_rfl)) ?_
  exact ⟨b, n, rfl, hn, X, Nat.le_trans B1.size hb, joinB B1 B2⟩
theorem Params_any {w : World} {bb n c : Nat} {ao : Option Addr} {l : List Int} (A : ByA w bb ao n c l) (hn : n ≤ 1000000000) (hl : l.length = n) :
    Calls Tryz.prog 145 #[.slice ao n c] w (FinR w kd_Params 10 mkA (thr rnx [(0, 0), (0, 1), (0, 2), (0, 3), (0, 4), (0, 5), (0, 6), (0, 7), (0, 8), (0, 9)] (0, l, fun _ => (0 : Int)))) := by
  refine gc_enter (n := 8) Tryz.func145 rfl (by kernel_rfl) (by kernel_rfl) ?_
  refine gc_seq ?_
  refine gc_reg ?_
  refine ta 2 (zs [0, 0, 0, 0, 0, 0, 0, 0, 0, 0]) 24 (pg) ?_
  intro v1 g1 X1 q1 B1
  refine t 3 (.int .i64 0) ?_
  refine gl_nil ?_
  refine ge_then ?_
  refine gc_seq ?_
  refine gc_reg ?_
  refine t 4 (.slice ao n c) ?_
  refine tc 5 191 #[.slice ao n c, .func (.func 128) #[] #[]] (read_Params (A.keep B1) hn hl) ?_
  rintro _ v2 ⟨⟨cs, xs, r, rfl, hc, F, h3, h4⟩, B2⟩
  refine ⟨_, rfl, ?_⟩
  obtain ⟨y0, y1, y2, y3, y4, y5, y6, y7, y8, y9, rfl⟩ := ls10 hc
  have l1 := X1.lt
  refine t 6 (.agg ([y0, y1, y2, y3, y4, y5, y6, y7, y8, y9]).toArray) ?_
  refine t 7 (.int .i64 r) ?_
  refine ts (X1.keep B2) 0 (.agg ([y0, y1, y2, y3, y4, y5, y6, y7, y8, y9]).toArray) [y0, y1, y2, y3, y4, y5, y6, y7, y8, y9] [y0, y1, y2, y3, y4, y5, y6, y7, y8, y9] ?_ (h1 := fld_one (ks := [0, 0, 0, 0, 0, 0, 0, 0, 0, 0]) F hc (by decide))
  intro v3 Y C
  refine t 3 (.int .i64 r) ?_
  refine gl_nil ?_
  refine ge_then ?_
  refine gc_ret ?_
  refine ge_ret (.tuple #[.agg ([y0, y1, y2, y3, y4, y5, y6, y7, y8, y9]).toArray, .int .i64 r]) (rsct 2 3 (T := 24) (by kernel_rfl) (by kernel_rfl) (by kernel_rfl) (lr Y 0)) ?_
  exact ⟨⟨_, xs, r, rfl, rfl, (F.off C.size (fun y hy hy2 => C.same y hy2 (fun e => by have e' : y = g1 := e; omega))).low B1.size, h3, h4⟩, belowC (joinB B1 B2) C q1⟩
theorem PutChain_any {w : World} {x0 : Int} {x1 : Int} :
    Calls Tryz.prog 89 #[.agg #[.int .u64 x0, .int .u64 x1]] w fun e w' => ∃ b n, e = .returned (.slice (some ⟨b, 0, none⟩) n n) ∧ n = (thr (pnx (fun o => ([x0, x1] : List Int).getD o 0)) [(0, 0), (0, 1)] []).length ∧ Box w' b ((thr (pnx (fun o => ([x0, x1] : List Int).getD o 0)) [(0, 0), (0, 1)] []).map (Value.int .u8)) 5 ∧ w.heap.size ≤ b ∧ Below w.heap.size w w' := by
  refine gc_enter (n := 5) Tryz.func89 rfl (by kernel_rfl) (by kernel_rfl) ?_
  refine gc_seq ?_
  refine gc_reg ?_
  refine ta 1 [.int .u64 x0, .int .u64 x1] 138 (pg) ?_
  intro v1 g1 X1 q1 B1
  refine t 2 (.slice none 0 0) ?_
  refine gl_nil ?_
  refine ge_then ?_
  refine gc_seq ?_
  refine gc_reg ?_
  refine tlr 3 [.int .u64 x0, .int .u64 x1] X1 0 ?_
  refine tc 4 129 #[.agg #[.int .u64 x0, .int .u64 x1], .func (.func 130) #[] #[]] (put_Chain) ?_
  rintro _ v2 ⟨b, n, rfl, hn, X, hb, B2⟩
  refine ⟨_, rfl, ?_⟩
  refine t 2 (.slice (some ⟨b, 0, none⟩) n n) ?_
  refine gl_nil ?_
  refine ge_then ?_
  refine gc_ret ?_
  refine ge_ret (.slice (some ⟨b, 0, none⟩) n n) (rs1 2 (by kernel_rfl) (by kernel_rfl)) ?_
  exact ⟨b, n, rfl, hn, X, Nat.le_trans B1.size hb, joinB B1 B2⟩
theorem PutPool_any {w : World} {a0 : Option Addr} {n0 c0 : Nat} {x0 : Int} (h0 : NatA w a0 n0 c0 x0) (m0 : n0 ≤ 1000000) :
    Calls Tryz.prog 337 #[.agg #[.slice a0 n0 c0]] w fun e w' => ∃ b n, e = .returned (.slice (some ⟨b, 0, none⟩) n n) ∧ n = (thr (pnx (fun o => ([x0] : List Int).getD o 0)) [(2, 0)] []).length ∧ Box w' b ((thr (pnx (fun o => ([x0] : List Int).getD o 0)) [(2, 0)] []).map (Value.int .u8)) 5 ∧ w.heap.size ≤ b ∧ Below w.heap.size w w' := by
  refine gc_enter (n := 5) Tryz.func337 rfl (by kernel_rfl) (by kernel_rfl) ?_
  refine gc_seq ?_
  refine gc_reg ?_
  refine ta 1 [.slice a0 n0 c0] 55 (pg) ?_
  intro v1 g1 X1 q1 B1
  refine t 2 (.slice none 0 0) ?_
  refine gl_nil ?_
  refine ge_then ?_
  refine gc_seq ?_
  refine gc_reg ?_
  refine tlr 3 [.slice a0 n0 c0] X1 0 ?_
  refine tc 4 362 #[.agg #[.slice a0 n0 c0], .func (.func 363) #[] #[]] (put_Pool (h0.keep B1) m0) ?_
  rintro _ v2 ⟨b, n, rfl, hn, X, hb, B2⟩
  refine ⟨_, rfl, ?_⟩
  refine t 2 (.slice (some ⟨b, 0, none⟩) n n) ?_
  refine gl_nil ?_
  refine ge_then ?_
  refine gc_ret ?_
  refine ge_ret (.slice (some ⟨b, 0, none⟩) n n) (rs1 2 (by kernel_rfl) (by kernel_rfl)) ?_
  exact ⟨b, n, rfl, hn, X, Nat.le_trans B1.size hb, joinB B1 B2⟩
theorem Pool_any {w : World} {bb n c : Nat} {ao : Option Addr} {l : List Int} (A : ByA w bb ao n c l) (hn : n ≤ 1000000000) (hl : l.length = n) :
    Calls Tryz.prog 339 #[.slice ao n c] w (FinR w kd_Pool 1 mkA (thr rnx [(2, 0)] (0, l, fun _ => (0 : Int)))) := by
  refine gc_enter (n := 8) Tryz.func339 rfl (by kernel_rfl) (by kernel_rfl) ?_
  refine gc_seq ?_
  refine gc_reg ?_
  refine ta 2 (zs [2]) 55 (pg) ?_
  intro v1 g1 X1 q1 B1
  refine t 3 (.int .i64 0) ?_
  refine gl_nil ?_
  refine ge_then ?_
  refine gc_seq ?_
  refine gc_reg ?_
  refine t 4 (.slice ao n c) ?_
  refine tc 5 364 #[.slice ao n c, .func (.func 363) #[] #[]] (read_Pool (A.keep B1) hn hl) ?_
  rintro _ v2 ⟨⟨cs, xs, r, rfl, hc, F, h3, h4⟩, B2⟩
  refine ⟨_, rfl, ?_⟩
  obtain ⟨y0, rfl⟩ := ls1 hc
  have l1 := X1.lt
  refine t 6 (.agg ([y0]).toArray) ?_
  refine t 7 (.int .i64 r) ?_
  refine ts (X1.keep B2) 0 (.agg ([y0]).toArray) [y0] [y0] ?_ (h1 := fld_one (ks := [2]) F hc (by decide))
  intro v3 Y C
  refine t 3 (.int .i64 r) ?_
  refine gl_nil ?_
  refine ge_then ?_
  refine gc_ret ?_
  refine ge_ret (.tuple #[.agg ([y0]).toArray, .int .i64 r]) (rsct 2 3 (T := 55) (by kernel_rfl) (by kernel_rfl) (by kernel_rfl) (lr Y 0)) ?_
  exact ⟨⟨_, xs, r, rfl, rfl, (F.off C.size (fun y hy hy2 => C.same y hy2 (fun e => by have e' : y = g1 := e; omega))).low B1.size, h3, h4⟩, belowC (joinB B1 B2) C q1⟩
theorem PutAccount_any {w : World} {x0 : Int} {x1 : Int} :
    Calls Tryz.prog 132 #[.agg #[.int .u64 x0, .int .u64 x1]] w fun e w' => ∃ b n, e = .returned (.slice (some ⟨b, 0, none⟩) n n) ∧ n = (thr (pnx (fun o => ([x0, x1] : List Int).getD o 0)) [(0, 0), (0, 1)] []).length ∧ Box w' b ((thr (pnx (fun o => ([x0, x1] : List Int).getD o 0)) [(0, 0), (0, 1)] []).map (Value.int .u8)) 5 ∧ w.heap.size ≤ b ∧ Below w.heap.size w w' := by
  refine gc_enter (n := 5) Tryz.func132 rfl (by kernel_rfl) (by kernel_rfl) ?_
  refine gc_seq ?_
  refine gc_reg ?_
  refine ta 1 [.int .u64 x0, .int .u64 x1] 50 (pg) ?_
  intro v1 g1 X1 q1 B1
  refine t 2 (.slice none 0 0) ?_
  refine gl_nil ?_
  refine ge_then ?_
  refine gc_seq ?_
  refine gc_reg ?_
  refine tlr 3 [.int .u64 x0, .int .u64 x1] X1 0 ?_
  refine tc 4 172 #[.agg #[.int .u64 x0, .int .u64 x1], .func (.func 74) #[] #[]] (put_Account) ?_
  rintro _ v2 ⟨b, n, rfl, hn, X, hb, B2⟩
  refine ⟨_, rfl, ?_⟩
  refine t 2 (.slice (some ⟨b, 0, none⟩) n n) ?_
  refine gl_nil ?_
  refine ge_then ?_
  refine gc_ret ?_
  refine ge_ret (.slice (some ⟨b, 0, none⟩) n n) (rs1 2 (by kernel_rfl) (by kernel_rfl)) ?_
  exact ⟨b, n, rfl, hn, X, Nat.le_trans B1.size hb, joinB B1 B2⟩
theorem Account_any {w : World} {bb n c : Nat} {ao : Option Addr} {l : List Int} (A : ByA w bb ao n c l) (hn : n ≤ 1000000000) (hl : l.length = n) :
    Calls Tryz.prog 41 #[.slice ao n c] w (FinR w kd_Account 2 mkA (thr rnx [(0, 0), (0, 1)] (0, l, fun _ => (0 : Int)))) := by
  refine gc_enter (n := 8) Tryz.func41 rfl (by kernel_rfl) (by kernel_rfl) ?_
  refine gc_seq ?_
  refine gc_reg ?_
  refine ta 2 (zs [0, 0]) 50 (pg) ?_
  intro v1 g1 X1 q1 B1
  refine t 3 (.int .i64 0) ?_
  refine gl_nil ?_
  refine ge_then ?_
  refine gc_seq ?_
  refine gc_reg ?_
  refine t 4 (.slice ao n c) ?_
  refine tc 5 73 #[.slice ao n c, .func (.func 74) #[] #[]] (read_Account (A.keep B1) hn hl) ?_
  rintro _ v2 ⟨⟨cs, xs, r, rfl, hc, F, h3, h4⟩, B2⟩
  refine ⟨_, rfl, ?_⟩
  obtain ⟨y0, y1, rfl⟩ := ls2 hc
  have l1 := X1.lt
  refine t 6 (.agg ([y0, y1]).toArray) ?_
  refine t 7 (.int .i64 r) ?_
  refine ts (X1.keep B2) 0 (.agg ([y0, y1]).toArray) [y0, y1] [y0, y1] ?_ (h1 := fld_one (ks := [0, 0]) F hc (by decide))
  intro v3 Y C
  refine t 3 (.int .i64 r) ?_
  refine gl_nil ?_
  refine ge_then ?_
  refine gc_ret ?_
  refine ge_ret (.tuple #[.agg ([y0, y1]).toArray, .int .i64 r]) (rsct 2 3 (T := 50) (by kernel_rfl) (by kernel_rfl) (by kernel_rfl) (lr Y 0)) ?_
  exact ⟨⟨_, xs, r, rfl, rfl, (F.off C.size (fun y hy hy2 => C.same y hy2 (fun e => by have e' : y = g1 := e; omega))).low B1.size, h3, h4⟩, belowC (joinB B1 B2) C q1⟩
theorem PutVal_any {w : World} {x0 : Int} {x1 : Int} {a2 : Option Addr} {n2 c2 : Nat} {x2 : Int} {b3 : Bool} {x4 : Int} {b5 : Bool} {x6 : Int} {a7 : Option Addr} {n7 c7 : Nat} {x7 : Int} {a8 : Option Addr} {n8 c8 : Nat} {x8 : Int} {a9 : Option Addr} {n9 c9 : Nat} {x9 : Int} (h2 : NatA w a2 n2 c2 x2) (m2 : n2 ≤ 1000000) (h7 : NatA w a7 n7 c7 x7) (m7 : n7 ≤ 1000000) (h8 : NatA w a8 n8 c8 x8) (m8 : n8 ≤ 1000000) (h9 : NatA w a9 n9 c9 x9) (m9 : n9 ≤ 1000000) :
    Calls Tryz.prog 199 #[.agg #[.int .u64 x0, .int .u64 x1, .slice a2 n2 c2, .bool b3, .int .u64 x4, .bool b5, .int .u64 x6, .slice a7 n7 c7, .slice a8 n8 c8, .slice a9 n9 c9]] w fun e w' => ∃ b n, e = .returned (.slice (some ⟨b, 0, none⟩) n n) ∧ n = (thr (pnx (fun o => ([x0, x1, x2, (if b3 then 1 else 0), x4, (if b5 then 1 else 0), x6, x7, x8, x9] : List Int).getD o 0)) [(0, 0), (0, 1), (2, 2), (1, 3), (0, 4), (1, 5), (0, 6), (2, 7), (2, 8), (2, 9)] []).length ∧ Box w' b ((thr (pnx (fun o => ([x0, x1, x2, (if b3 then 1 else 0), x4, (if b5 then 1 else 0), x6, x7, x8, x9] : List Int).getD o 0)) [(0, 0), (0, 1), (2, 2), (1, 3), (0, 4), (1, 5), (0, 6), (2, 7), (2, 8), (2, 9)] []).map (Value.int .u8)) 5 ∧ w.heap.size ≤ b ∧ Below w.heap.size w w' := by
  refine gc_enter (n := 5) Tryz.func199 rfl (by kernel_rfl) (by kernel_rfl) ?_
  refine gc_seq ?_
  refine gc_reg ?_
  refine ta 1 [.int .u64 x0, .int .u64 x1, .slice a2 n2 c2, .bool b3, .int .u64 x4, .bool b5, .int .u64 x6, .slice a7 n7 c7, .slice a8 n8 c8, .slice a9 n9 c9] 57 (pg) ?_
  intro v1 g1 X1 q1 B1
  refine t 2 (.slice none 0 0) ?_
  refine gl_nil ?_
  refine ge_then ?_
  refine gc_seq ?_
  refine gc_reg ?_
  refine tlr 3 [.int .u64 x0, .int .u64 x1, .slice a2 n2 c2, .bool b3, .int .u64 x4, .bool b5, .int .u64 x6, .slice a7 n7 c7, .slice a8 n8 c8, .slice a9 n9 c9] X1 0 ?_
  refine tc 4 249 #[.agg #[.int .u64 x0, .int .u64 x1, .slice a2 n2 c2, .bool b3, .int .u64 x4, .bool b5, .int .u64 x6, .slice a7 n7 c7, .slice a8 n8 c8, .slice a9 n9 c9], .func (.func 77) #[] #[]] (put_Val (h2.keep B1) m2 (h7.keep B1) m7 (h8.keep B1) m8 (h9.keep B1) m9) ?_
  rintro _ v2 ⟨b, n, rfl, hn, X, hb, B2⟩
  refine ⟨_, rfl, ?_⟩
  refine t 2 (.slice (some ⟨b, 0, none⟩) n n) ?_
  refine gl_nil ?_
  refine ge_then ?_
  refine gc_ret ?_
  refine ge_ret (.slice (some ⟨b, 0, none⟩) n n) (rs1 2 (by kernel_rfl) (by kernel_rfl)) ?_
  exact ⟨b, n, rfl, hn, X, Nat.le_trans B1.size hb, joinB B1 B2⟩
theorem Val_any {w : World} {bb n c : Nat} {ao : Option Addr} {l : List Int} (A : ByA w bb ao n c l) (hn : n ≤ 1000000000) (hl : l.length = n) :
    Calls Tryz.prog 43 #[.slice ao n c] w (FinR w kd_Val 10 mkA (thr rnx [(0, 0), (0, 1), (2, 2), (1, 3), (0, 4), (1, 5), (0, 6), (2, 7), (2, 8), (2, 9)] (0, l, fun _ => (0 : Int)))) := by
  refine gc_enter (n := 8) Tryz.func43 rfl (by kernel_rfl) (by kernel_rfl) ?_
  refine gc_seq ?_
  refine gc_reg ?_
  refine ta 2 (zs [0, 0, 2, 1, 0, 1, 0, 2, 2, 2]) 57 (pg) ?_
  intro v1 g1 X1 q1 B1
  refine t 3 (.int .i64 0) ?_
  refine gl_nil ?_
  refine ge_then ?_
  refine gc_seq ?_
  refine gc_reg ?_
  refine t 4 (.slice ao n c) ?_
  refine tc 5 76 #[.slice ao n c, .func (.func 77) #[] #[]] (read_Val (A.keep B1) hn hl) ?_
  rintro _ v2 ⟨⟨cs, xs, r, rfl, hc, F, h3, h4⟩, B2⟩
  refine ⟨_, rfl, ?_⟩
  obtain ⟨y0, y1, y2, y3, y4, y5, y6, y7, y8, y9, rfl⟩ := ls10 hc
  have l1 := X1.lt
  refine t 6 (.agg ([y0, y1, y2, y3, y4, y5, y6, y7, y8, y9]).toArray) ?_
  refine t 7 (.int .i64 r) ?_
  refine ts (X1.keep B2) 0 (.agg ([y0, y1, y2, y3, y4, y5, y6, y7, y8, y9]).toArray) [y0, y1, y2, y3, y4, y5, y6, y7, y8, y9] [y0, y1, y2, y3, y4, y5, y6, y7, y8, y9] ?_ (h1 := fld_one (ks := [0, 0, 2, 1, 0, 1, 0, 2, 2, 2]) F hc (by decide))
  intro v3 Y C
  refine t 3 (.int .i64 r) ?_
  refine gl_nil ?_
  refine ge_then ?_
  refine gc_ret ?_
  refine ge_ret (.tuple #[.agg ([y0, y1, y2, y3, y4, y5, y6, y7, y8, y9]).toArray, .int .i64 r]) (rsct 2 3 (T := 57) (by kernel_rfl) (by kernel_rfl) (by kernel_rfl) (lr Y 0)) ?_
  exact ⟨⟨_, xs, r, rfl, rfl, (F.off C.size (fun y hy hy2 => C.same y hy2 (fun e => by have e' : y = g1 := e; omega))).low B1.size, h3, h4⟩, belowC (joinB B1 B2) C q1⟩
theorem PutDelegation_any {w : World} {a0 : Option Addr} {n0 c0 : Nat} {x0 : Int} {x1 : Int} {a2 : Option Addr} {n2 c2 : Nat} {x2 : Int} (h0 : NatA w a0 n0 c0 x0) (m0 : n0 ≤ 1000000) (h2 : NatA w a2 n2 c2 x2) (m2 : n2 ≤ 1000000) :
    Calls Tryz.prog 291 #[.agg #[.slice a0 n0 c0, .int .u64 x1, .slice a2 n2 c2]] w fun e w' => ∃ b n, e = .returned (.slice (some ⟨b, 0, none⟩) n n) ∧ n = (thr (pnx (fun o => ([x0, x1, x2] : List Int).getD o 0)) [(2, 0), (0, 1), (2, 2)] []).length ∧ Box w' b ((thr (pnx (fun o => ([x0, x1, x2] : List Int).getD o 0)) [(2, 0), (0, 1), (2, 2)] []).map (Value.int .u8)) 5 ∧ w.heap.size ≤ b ∧ Below w.heap.size w w' := by
  refine gc_enter (n := 5) Tryz.func291 rfl (by kernel_rfl) (by kernel_rfl) ?_
  refine gc_seq ?_
  refine gc_reg ?_
  refine ta 1 [.slice a0 n0 c0, .int .u64 x1, .slice a2 n2 c2] 181 (pg) ?_
  intro v1 g1 X1 q1 B1
  refine t 2 (.slice none 0 0) ?_
  refine gl_nil ?_
  refine ge_then ?_
  refine gc_seq ?_
  refine gc_reg ?_
  refine tlr 3 [.slice a0 n0 c0, .int .u64 x1, .slice a2 n2 c2] X1 0 ?_
  refine tc 4 340 #[.agg #[.slice a0 n0 c0, .int .u64 x1, .slice a2 n2 c2], .func (.func 341) #[] #[]] (put_Delegation (h0.keep B1) m0 (h2.keep B1) m2) ?_
  rintro _ v2 ⟨b, n, rfl, hn, X, hb, B2⟩
  refine ⟨_, rfl, ?_⟩
  refine t 2 (.slice (some ⟨b, 0, none⟩) n n) ?_
  refine gl_nil ?_
  refine ge_then ?_
  refine gc_ret ?_
  refine ge_ret (.slice (some ⟨b, 0, none⟩) n n) (rs1 2 (by kernel_rfl) (by kernel_rfl)) ?_
  exact ⟨b, n, rfl, hn, X, Nat.le_trans B1.size hb, joinB B1 B2⟩
theorem PutHistory_any {w : World} {a0 : Option Addr} {n0 c0 : Nat} {x0 : Int} {x1 : Int} (h0 : NatA w a0 n0 c0 x0) (m0 : n0 ≤ 1000000) :
    Calls Tryz.prog 221 #[.agg #[.slice a0 n0 c0, .int .u64 x1]] w fun e w' => ∃ b n, e = .returned (.slice (some ⟨b, 0, none⟩) n n) ∧ n = (thr (pnx (fun o => ([x0, x1] : List Int).getD o 0)) [(2, 0), (0, 1)] []).length ∧ Box w' b ((thr (pnx (fun o => ([x0, x1] : List Int).getD o 0)) [(2, 0), (0, 1)] []).map (Value.int .u8)) 5 ∧ w.heap.size ≤ b ∧ Below w.heap.size w w' := by
  refine gc_enter (n := 5) Tryz.func221 rfl (by kernel_rfl) (by kernel_rfl) ?_
  refine gc_seq ?_
  refine gc_reg ?_
  refine ta 1 [.slice a0 n0 c0, .int .u64 x1] 272 (pg) ?_
  intro v1 g1 X1 q1 B1
  refine t 2 (.slice none 0 0) ?_
  refine gl_nil ?_
  refine ge_then ?_
  refine gc_seq ?_
  refine gc_reg ?_
  refine tlr 3 [.slice a0 n0 c0, .int .u64 x1] X1 0 ?_
  refine tc 4 264 #[.agg #[.slice a0 n0 c0, .int .u64 x1], .func (.func 263) #[] #[]] (put_History (h0.keep B1) m0) ?_
  rintro _ v2 ⟨b, n, rfl, hn, X, hb, B2⟩
  refine ⟨_, rfl, ?_⟩
  refine t 2 (.slice (some ⟨b, 0, none⟩) n n) ?_
  refine gl_nil ?_
  refine ge_then ?_
  refine gc_ret ?_
  refine ge_ret (.slice (some ⟨b, 0, none⟩) n n) (rs1 2 (by kernel_rfl) (by kernel_rfl)) ?_
  exact ⟨b, n, rfl, hn, X, Nat.le_trans B1.size hb, joinB B1 B2⟩
theorem History_any {w : World} {bb n c : Nat} {ao : Option Addr} {l : List Int} (A : ByA w bb ao n c l) (hn : n ≤ 1000000000) (hl : l.length = n) :
    Calls Tryz.prog 220 #[.slice ao n c] w (FinR w kd_History 2 mkA (thr rnx [(2, 0), (0, 1)] (0, l, fun _ => (0 : Int)))) := by
  refine gc_enter (n := 8) Tryz.func220 rfl (by kernel_rfl) (by kernel_rfl) ?_
  refine gc_seq ?_
  refine gc_reg ?_
  refine ta 2 (zs [2, 0]) 272 (pg) ?_
  intro v1 g1 X1 q1 B1
  refine t 3 (.int .i64 0) ?_
  refine gl_nil ?_
  refine ge_then ?_
  refine gc_seq ?_
  refine gc_reg ?_
  refine t 4 (.slice ao n c) ?_
  refine tc 5 262 #[.slice ao n c, .func (.func 263) #[] #[]] (read_History (A.keep B1) hn hl) ?_
  rintro _ v2 ⟨⟨cs, xs, r, rfl, hc, F, h3, h4⟩, B2⟩
  refine ⟨_, rfl, ?_⟩
  obtain ⟨y0, y1, rfl⟩ := ls2 hc
  have l1 := X1.lt
  refine t 6 (.agg ([y0, y1]).toArray) ?_
  refine t 7 (.int .i64 r) ?_
  refine ts (X1.keep B2) 0 (.agg ([y0, y1]).toArray) [y0, y1] [y0, y1] ?_ (h1 := fld_one (ks := [2, 0]) F hc (by decide))
  intro v3 Y C
  refine t 3 (.int .i64 r) ?_
  refine gl_nil ?_
  refine ge_then ?_
  refine gc_ret ?_
  refine ge_ret (.tuple #[.agg ([y0, y1]).toArray, .int .i64 r]) (rsct 2 3 (T := 272) (by kernel_rfl) (by kernel_rfl) (by kernel_rfl) (lr Y 0)) ?_
  exact ⟨⟨_, xs, r, rfl, rfl, (F.off C.size (fun y hy hy2 => C.same y hy2 (fun e => by have e' : y = g1 := e; omega))).low B1.size, h3, h4⟩, belowC (joinB B1 B2) C q1⟩
end Rc
end Go.Proofs.YtpoifdokmjhclaaGreat

namespace Go.Proofs.YtpoifdokmjhclaaGreat
namespace Rc
open Go.RowKit Go.Lib Pg Lim
theorem cntd_len (m : Nat) (l : List Int) : (cntd m l).length = m + l.length := by
  unfold cntd
  rw [List.length_append, be_length]
theorem take_app {l r : List Int} {m : Nat} (h : l.length = m) : (l ++ r).take m = l ∧ (l ++ r).drop m = r := by
  subst h
  exact ⟨List.take_left, List.drop_left⟩
theorem back_fix (m : Nat) {x : Int} (hx : 0 ≤ x) (r : List Int) : pFix m (be m x ++ r) = .inr (x % 256 ^ m, m) ∧ (be m x ++ r).drop m = r := by
  have h := take_app (r := r) (be_length m x)
  refine ⟨?_, h.2⟩
  unfold pFix
  rw [if_pos (by rw [List.length_append, be_length]; omega), h.1, be_val m hx]
theorem cnt_app {m : Nat} {l r : List Int} (hl : (l.length : Int) < 256 ^ m) : cntOf m (cntd m l ++ r) = l.length := by
  unfold cntOf cntd
  rw [List.append_assoc, (take_app (be_length m _)).1, be_val m (by omega), Int.emod_eq_of_lt (by omega) hl]
  rfl
theorem cnt_drop (m : Nat) (l r : List Int) : (cntd m l ++ r).drop m = l ++ r := by
  unfold cntd
  rw [List.append_assoc, (take_app (be_length m _)).2]
theorem back_nat {V : Int} (hV : 0 ≤ V) (hl : (natB V).length < 256) (r : List Int) : pNat (cntd 1 (natB V) ++ r) = .inr (V, 1 + (natB V).length) ∧ (cntd 1 (natB V) ++ r).drop (1 + (natB V).length) = r := by
  have hc : cntOf 1 (cntd 1 (natB V) ++ r) = (natB V).length := cnt_app (by simpa using (by omega : ((natB V).length : Int) < 256))
  have hd := cnt_drop 1 (natB V) r
  have hB := natB_is hV
  refine ⟨?_, ?_⟩
  · unfold pNat
    rw [if_pos (by rw [List.length_append, cntd_len]; omega), hc, if_pos (by rw [List.length_append, cntd_len]; omega), hd, if_neg, (take_app rfl).1, hB.2.2]
    rintro ⟨h0, h1⟩
    have hne : natB V ≠ [] := fun e => by rw [e] at h0; simp at h0
    refine hB.2.1 hne ?_
    rw [← h1]
    cases hh : natB V with
    | nil => exact absurd hh hne
    | cons x t => rfl
  · rw [← List.drop_drop, hd, (take_app rfl).2]
theorem back_bool (x : Bool) (r : List Int) : pBool (be 1 (if x then 1 else 0) ++ r) = .inr (x, 1) ∧ (be 1 (if x then 1 else 0) ++ r).drop 1 = r := by
  cases x
  · exact ⟨rfl, rfl⟩
  · exact ⟨rfl, rfl⟩
/-- a field that was read, laid again -/
theorem one1 {l : List Int} (h : Octets l) (k : Nat) (he : rdE (p1 k l) 0 = 0) : enc1 k (rdV 0 (p1 k l) 0) ++ rdL (p1 k l) 0 l = l ∧ ∃ m, rdL (p1 k l) 0 l = l.drop m := by
  match k with
  | 0 =>
    rcases one_fix h 8 with ⟨h1, _⟩ | ⟨_, m, h2, h3, h4⟩
    · exact absurd he h1
    · show be 8 (rdV 0 (pFix 8 l) 0) ++ rdL (pFix 8 l) 0 l = l ∧ ∃ m, rdL (pFix 8 l) 0 l = l.drop m
      rw [h3, h4]
      exact ⟨List.take_append_drop m l, m, rfl⟩
  | 1 =>
    have he' : rdE (pBool l) 0 = 0 := by rw [← pBoolI_E]; exact he
    rcases one_bool h with ⟨h1, _⟩ | ⟨_, m, h2, h3, h4⟩
    · exact absurd he' h1
    · show be 1 (rdV 0 (pBoolI l) 0) ++ rdL (pBoolI l) 0 l = l ∧ ∃ m, rdL (pBoolI l) 0 l = l.drop m
      rw [pBoolI_V, pBoolI_L, h3, h4]
      exact ⟨List.take_append_drop m l, m, rfl⟩
  | k + 2 =>
    rcases one_nat h with ⟨h1, _⟩ | ⟨_, m, h2, ⟨h3, h5⟩, h4⟩
    · exact absurd he h1
    · show cntd 1 (natB (fit (rdV 0 (pNat l) 0))) ++ rdL (pNat l) 0 l = l ∧ ∃ m, rdL (pNat l) 0 l = l.drop m
      have hf : (natB (rdV 0 (pNat l) 0)).length < 256 := by
        unfold natE at h3
        split at h3
        · assumption
        · exact absurd h3 (by decide)
      have e := h5 []
      unfold natL wrote at e
      rw [if_pos hf, if_pos rfl] at e
      unfold fit
      rw [if_pos hf]
      simp only [List.nil_append] at e
      rw [e, h4]
      exact ⟨List.take_append_drop m l, m, rfl⟩
theorem thr_cons {σ : Type} (nx : Nat → Nat → σ → σ) (p : Nat × Nat) (ks : List (Nat × Nat)) (s : σ) : thr nx (p :: ks) s = thr nx ks (nx p.1 p.2 s) := rfl
theorem thr_bad (ks : List (Nat × Nat)) : ∀ s : RSt, s.1 ≠ 0 → (thr rnx ks s).1 = s.1 := by
  induction ks with
  | nil => intro s _; rfl
  | cons p ks ih =>
    intro s hs
    have e : (rnx p.1 p.2 s).1 = s.1 := rdE_bad hs
    rw [thr_cons, ih _ (by rw [e]; exact hs), e]
theorem thr_place (ks : List (Nat × Nat)) (o : Nat) : ∀ s : RSt, o ∉ ks.map Prod.snd → (thr rnx ks s).2.2 o = s.2.2 o := by
  induction ks with
  | nil => intro s _; rfl
  | cons p ks ih =>
    intro s ho
    rw [List.map_cons, List.mem_cons, not_or] at ho
    rw [thr_cons, ih _ ho.2]
    show (if o = p.2 then _ else _) = _
    rw [if_neg ho.1]
theorem octets_drop {l : List Int} (h : Octets l) (m : Nat) : Octets (l.drop m) := fun x hx => h x (List.mem_of_mem_drop hx)
/-- a record that was read, laid again -/
theorem thr_one (ks : List (Nat × Nat)) : ∀ (l : List Int) (xs : Nat → Int), Octets l → (ks.map Prod.snd).Nodup → (thr rnx ks (0, l, xs)).1 = 0 → ∀ L, thr (pnx (thr rnx ks (0, l, xs)).2.2) ks L ++ (thr rnx ks (0, l, xs)).2.1 = L ++ l := by
  induction ks with
  | nil => intro l xs _ _ _ L; rfl
  | cons p ks ih =>
    intro l xs ho hnd he L
    rw [List.map_cons, List.nodup_cons] at hnd
    rw [thr_cons] at he
    have e1 : rdE (p1 p.1 l) 0 = 0 := by
      by_cases hz : rdE (p1 p.1 l) 0 = 0
      · exact hz
      · exact absurd ((thr_bad ks (rnx p.1 p.2 (0, l, xs)) hz).symm.trans he) hz
    obtain ⟨h1, m, h2⟩ := one1 ho p.1 e1
    have es : rnx p.1 p.2 (0, l, xs) = (0, rdL (p1 p.1 l) 0 l, fun i => if i = p.2 then rdV 0 (p1 p.1 l) 0 else xs i) := by
      show (rdE (p1 p.1 l) 0, _, _) = _
      rw [e1]
    have e0 : thr rnx (p :: ks) (0, l, xs) = thr rnx ks (0, rdL (p1 p.1 l) 0 l, fun i => if i = p.2 then rdV 0 (p1 p.1 l) 0 else xs i) := by rw [thr_cons, es]
    rw [es] at he
    rw [e0]
    have ih' := ih _ _ (by rw [h2]; exact octets_drop ho m) hnd.2 he
    rw [thr_cons, ih']
    have ev : (thr rnx ks (0, rdL (p1 p.1 l) 0 l, fun i => if i = p.2 then rdV 0 (p1 p.1 l) 0 else xs i)).2.2 p.2 = rdV 0 (p1 p.1 l) 0 := by
      rw [thr_place ks p.2 _ hnd.1]
      show (if p.2 = p.2 then _ else _) = _
      rw [if_pos rfl]
    show (L ++ enc1 p.1 _) ++ _ = L ++ l
    rw [ev, List.append_assoc, h1]
/-- a field that was laid, read -/
def rng : Nat → Int → Prop
  | 0, x => 0 ≤ x ∧ x < 18446744073709551616
  | 1, x => x = 0 ∨ x = 1
  | _, x => 0 ≤ x
def fitk : Nat → Int → Int
  | 0, x => x
  | 1, x => x
  | _, x => fit x
theorem back1 (k : Nat) {x : Int} (hx : rng k x) (r : List Int) : ∃ m, p1 k (enc1 k x ++ r) = .inr (fitk k x, m) ∧ (enc1 k x ++ r).drop m = r := by
  match k, hx with
  | 0, hx =>
    obtain ⟨h1, h2⟩ := back_fix 8 hx.1 r
    refine ⟨8, ?_, h2⟩
    show pFix 8 (be 8 x ++ r) = _
    rw [h1, Int.emod_eq_of_lt hx.1 (by have := hx.2; simpa using this)]
    rfl
  | 1, hx =>
    have key : ∀ t : Bool, ∃ m, pBoolI (be 1 (if t then 1 else 0) ++ r) = .inr ((if t then 1 else 0), m) ∧ (be 1 (if t then 1 else 0) ++ r).drop m = r := fun t => by
      obtain ⟨h1, h2⟩ := back_bool t r
      refine ⟨1, ?_, h2⟩
      unfold pBoolI
      rw [h1]
    rcases hx with rfl | rfl
    · exact key false
    · exact key true
  | k + 2, hx =>
    have hV : 0 ≤ fit x := by
      unfold fit
      split
      · exact hx
      · decide
    obtain ⟨h1, h2⟩ := back_nat hV (fit_len x) r
    exact ⟨_, h1, h2⟩
/-- a record that was laid, read -/
theorem thr_back (xv : Nat → Int) (ks : List (Nat × Nat)) : ∀ (r : List Int) (xs : Nat → Int), (ks.map Prod.snd).Nodup → (∀ p ∈ ks, rng p.1 (xv p.2)) → ∃ ys, thr rnx ks (0, thr (pnx xv) ks [] ++ r, xs) = (0, r, ys) ∧ (∀ p ∈ ks, ys p.2 = fitk p.1 (xv p.2)) ∧ ∀ o, o ∉ ks.map Prod.snd → ys o = xs o := by
  have hL : ∀ (ks : List (Nat × Nat)) (L : List Int), thr (pnx xv) ks L = L ++ thr (pnx xv) ks [] := by
    intro ks
    induction ks with
    | nil => intro L; simp [thr]
    | cons p ks ih =>
      intro L
      rw [thr_cons, thr_cons, ih (pnx xv p.1 p.2 L), ih (pnx xv p.1 p.2 [])]
      simp [pnx, List.append_assoc]
  induction ks with
  | nil => exact fun r xs _ _ => ⟨xs, rfl, (fun p hp => by cases hp), fun _ _ => rfl⟩
  | cons p ks ih =>
    intro r xs hnd hr
    rw [List.map_cons, List.nodup_cons] at hnd
    obtain ⟨m, h1, h2⟩ := back1 p.1 (hr p List.mem_cons_self) (thr (pnx xv) ks [] ++ r)
    have el : thr (pnx xv) (p :: ks) [] ++ r = enc1 p.1 (xv p.2) ++ (thr (pnx xv) ks [] ++ r) := by
      rw [thr_cons, hL]
      simp [pnx, List.append_assoc]
    rw [el, thr_cons]
    have es : rnx p.1 p.2 (0, enc1 p.1 (xv p.2) ++ (thr (pnx xv) ks [] ++ r), xs) = (0, thr (pnx xv) ks [] ++ r, fun i => if i = p.2 then fitk p.1 (xv p.2) else xs i) := by
      show (rdE (p1 p.1 _) 0, rdL (p1 p.1 _) 0 _, fun i => if i = p.2 then rdV 0 (p1 p.1 _) 0 else xs i) = _
      rw [h1]
      show (_, List.drop m _, _) = _
      rw [h2]
      rfl
    rw [es]
    obtain ⟨ys, e1, e2, e3⟩ := ih r _ hnd.2 (fun q hq => hr q (List.mem_cons_of_mem _ hq))
    refine ⟨ys, e1, fun q hq => ?_, fun o ho => ?_⟩
    · rcases List.mem_cons.1 hq with rfl | hq
      · rw [e3 _ hnd.1]
        show (if q.2 = q.2 then _ else _) = _
        rw [if_pos rfl]
      · exact e2 q hq
    · rw [List.map_cons, List.mem_cons, not_or] at ho
      rw [e3 o ho.2]
      show (if o = p.2 then _ else _) = _
      rw [if_neg ho.1]
end Rc
end Go.Proofs.YtpoifdokmjhclaaGreat

namespace Go.Proofs.YtpoifdokmjhclaaGreat
namespace Rc
open Go.RowKit Go.Lib Pg
attribute [local go_sem] Oper.semAt_some
theorem enc1_oct (k : Nat) (x : Int) : Octets (enc1 k x) := by
  unfold enc1
  split
  · exact be_oct _ _
  · exact be_oct _ _
  · intro y hy
    rcases List.mem_append.1 hy with h | h
    · exact be_oct _ _ y h
    · exact natB_oct _ y h
theorem thr_oct (xs : Nat → Int) (ks : List (Nat × Nat)) : ∀ L, Octets L → Octets (thr (pnx xs) ks L) := by
  induction ks with
  | nil => exact fun _ h => h
  | cons p ks ih =>
    intro L h
    rw [thr_cons]
    refine ih _ ?_
    intro y hy
    rcases List.mem_append.1 hy with h1 | h1
    · exact h y h1
    · exact enc1_oct _ _ y h1
/-- bytes that were laid, as a list -/
theorem box_bya {w : World} {b n : Nat} {M : List Int} (h : Box w b (M.map (Value.int .u8)) 5) (hn : n = M.length) (ho : Octets M) (hl : M.length ≤ 1000000) : ByA w b (some ⟨b, 0, none⟩) n n M :=
  ⟨0, hn.symm, Nat.le_refl _, ⟨by omega, fun e => by cases e⟩, ho, h.atB⟩
end Rc
end Go.Proofs.YtpoifdokmjhclaaGreat

namespace Go.Proofs.YtpoifdokmjhclaaGreat
namespace Rc
open Go.RowKit Go.Lib Pg
attribute [local go_sem] Oper.semAt_some
end Rc
end Go.Proofs.YtpoifdokmjhclaaGreat

namespace Go.Proofs.YtpoifdokmjhclaaGreat
open Go.RowKit Lim

end Go.Proofs.YtpoifdokmjhclaaGreat

namespace Go.Proofs.YtpoifdokmjhclaaGreat
open Go.RowKit Lim

end Go.Proofs.YtpoifdokmjhclaaGreat

namespace Go.Proofs.YtpoifdokmjhclaaGreat
open Go.RowKit Lim

end Go.Proofs.YtpoifdokmjhclaaGreat

namespace Go.Proofs.YtpoifdokmjhclaaGreat
namespace Rc
open Go.RowKit Go.Lib Pg Lim
attribute [local go_sem] Oper.semAt_some
end Rc
end Go.Proofs.YtpoifdokmjhclaaGreat

namespace Go.Proofs.YtpoifdokmjhclaaGreat
namespace Rc
open Go.RowKit Go.Lib Pg Lim
attribute [local go_sem] Oper.semAt_some
end Rc
end Go.Proofs.YtpoifdokmjhclaaGreat

namespace Go.Proofs.YtpoifdokmjhclaaGreat
namespace Rc
open Go.RowKit Go.Lib Pg Lim
theorem endE_zero {err : Int} {l : List Int} (h : endE err l = 0) : err = 0 ∧ l = [] := by
  unfold endE at h
  split at h
  · rename_i he
    split at h
    · rename_i hl
      exact ⟨he, List.eq_nil_of_length_eq_zero hl⟩
    · exact absurd h (by decide)
  · exact absurd h (by assumption)
/-- what is read whole is laid again as it was -/
theorem ones (ks : List (Nat × Nat)) (l : List Int) (ho : Octets l) (hnd : (ks.map Prod.snd).Nodup) (h : endE (thr rnx ks (0, l, fun _ => 0)).1 (thr rnx ks (0, l, fun _ => 0)).2.1 = 0) : thr (pnx (thr rnx ks (0, l, fun _ => 0)).2.2) ks [] = l := by
  obtain ⟨h1, h2⟩ := endE_zero h
  have := thr_one ks l (fun _ => 0) ho hnd h1 []
  rw [h2, List.append_nil, List.nil_append] at this
  exact this
end Rc
end Go.Proofs.YtpoifdokmjhclaaGreat
