/- Several texts, joined: QuS, QuT, QuU. -/
import Derived.Test.YtidnifmehnjipaaGreatJar
import Derived.Test.YtidnifmehnjipaaGreatJav
import Derived.Test.YtidnifmehnjipaaGreatJas
import Derived.Test.YtidnifmehnjipaaGreatJah
namespace Go.Proofs.YtidnifmehnjipaaGreat
namespace Qu
open Go.RowKit Go.Lib Pg Lim Gl Kv Bk Pw
set_option linter.unusedVariables false
set_option linter.unusedSimpArgs false
set_option maxHeartbeats 1000000
abbrev Uq (x : Int) : Prop := 0 ≤ x ∧ x < 18446744073709551616
/-- the keys that a queue lays -/
def Ok (k a b : Int) : Prop := ((k = 2 ∧ a = 0 ∧ b = 0) ∨ (k = 12 ∧ b = 0) ∨ (k = 13 ∧ b = 0) ∨ k = 14 ∨ k = 15 ∨ k = 17) ∧ Uq a ∧ Uq b
theorem ok2 : Ok 2 0 0 := ⟨.inl ⟨rfl, rfl, rfl⟩, by decide, by decide⟩
theorem ok12 {i : Int} (h : Uq i) : Ok 12 i 0 := ⟨.inr (.inl ⟨rfl, rfl⟩), h, by decide⟩
theorem ok13 {i : Int} (h : Uq i) : Ok 13 i 0 := ⟨.inr (.inr (.inl ⟨rfl, rfl⟩)), h, by decide⟩
theorem okr {k i : Int} (hk : k = 12 ∨ k = 13) (h : Uq i) : Ok k i 0 := by
  rcases hk with rfl | rfl
  · exact ok12 h
  · exact ok13 h
theorem ok14 {a b : Int} (h : Uq a) (h2 : Uq b) : Ok 14 a b := ⟨by simp, h, h2⟩
theorem ok15 {a b : Int} (h : Uq a) (h2 : Uq b) : Ok 15 a b := ⟨by simp, h, h2⟩
theorem ok17 {a b : Int} (h : Uq a) (h2 : Uq b) : Ok 17 a b := ⟨by simp, h, h2⟩
theorem Ok.nat {k a b : Int} (h : Ok k a b) : ∃ n : Nat, k = (n : Int) ∧ n < 18 ∧ 0 < n ∧ Ky.mkE k a b = false := by
  rcases h.1 with ⟨rfl, rfl, rfl⟩ | ⟨rfl, rfl⟩ | ⟨rfl, rfl⟩ | rfl | rfl | rfl
  · exact ⟨2, rfl, by decide, by decide, mkE2⟩
  · exact ⟨12, rfl, by decide, by decide, mkE12 a⟩
  · exact ⟨13, rfl, by decide, by decide, mkE13 a⟩
  · exact ⟨14, rfl, by decide, by decide, mkE14 a b⟩
  · exact ⟨15, rfl, by decide, by decide, mkE15 a b⟩
  · exact ⟨17, rfl, by decide, by decide, mkE17 a b⟩
theorem ok_inj {k a b k' a' b' : Int} (h : Ok k a b) (h' : Ok k' a' b') (e : Ky.mk k a b = Ky.mk k' a' b') : k = k' ∧ a = a' ∧ b = b' := by
  obtain ⟨n, rfl, n1, n2, n3⟩ := h.nat
  obtain ⟨m, rfl, m1, m2, m3⟩ := h'.nat
  obtain ⟨e1, e2, e3⟩ := Ky.mk_inj n1 n2 m1 m2 h.2.1 h.2.2 h'.2.1 h'.2.2 n3 m3 e
  exact ⟨by rw [e1], e2, e3⟩
section
variable {E : Ents} {k a b k' a' b' : Int} {v : List Int}
theorem lkp (hR : Rise E) (h : Ok k a b) (h' : Ok k' a' b') : Kv.look (put E (Ky.mk k a b) v) (Ky.mk k' a' b') = if k = k' ∧ a = a' ∧ b = b' then some v else Kv.look E (Ky.mk k' a' b') := by
  rw [look_put hR]
  by_cases e : k = k' ∧ a = a' ∧ b = b'
  · rw [if_pos e, if_pos (by rw [e.1, e.2.1, e.2.2])]
  · rw [if_neg e, if_neg (fun x => e (ok_inj h h' x))]
theorem lkr (hR : Rise E) (h : Ok k a b) (h' : Ok k' a' b') : Kv.look (Kv.rem E (Ky.mk k a b)) (Ky.mk k' a' b') = if k = k' ∧ a = a' ∧ b = b' then none else Kv.look E (Ky.mk k' a' b') := by
  rw [look_rem hR]
  by_cases e : k = k' ∧ a = a' ∧ b = b'
  · rw [if_pos e, if_pos (by rw [e.1, e.2.1, e.2.2])]
  · rw [if_neg e, if_neg (fun x => e (ok_inj h h' x))]
end
/-- numbers read back -/
theorem nv_back {x : Int} (hx : Uq x) : numB (nv x) = x := by
  obtain ⟨ys, h1, h2⟩ := Rc.thr_back (fun o => ([x] : List Int).getD o 0) [(0, 0)] [] (fun _ => 0) (by decide) (List.forall_mem_cons.2 ⟨hx, fun _ h => by cases h⟩)
  rw [List.append_nil] at h1
  have e : Rc.stNumber (nv x) = (0, [], ys) := h1
  unfold numB
  rw [e]
  exact h2.1 (0, 0) (by simp)
theorem uv_back {x0 x1 x2 x3 x4 x5 : Int} (r0 : Uq x0) (r1 : Uq x1) (r2 : Uq x2) (r3 : Uq x3) (r4 : Uq x4) (r5 : Uq x5) : uX (uv x0 x1 x2 x3 x4 x5) 0 = x0 ∧ uX (uv x0 x1 x2 x3 x4 x5) 1 = x1 ∧ uX (uv x0 x1 x2 x3 x4 x5) 2 = x2 ∧ uX (uv x0 x1 x2 x3 x4 x5) 3 = x3 ∧ uX (uv x0 x1 x2 x3 x4 x5) 4 = x4 ∧ uX (uv x0 x1 x2 x3 x4 x5) 5 = x5 := by
  obtain ⟨ys, h1, h2⟩ := Rc.thr_back (fun o => ([x0, x1, x2, x3, x4, x5] : List Int).getD o 0) [(0, 0), (0, 1), (0, 2), (0, 3), (0, 4), (0, 5)] [] (fun _ => 0) (by decide) (List.forall_mem_cons.2 ⟨r0, List.forall_mem_cons.2 ⟨r1, List.forall_mem_cons.2 ⟨r2, List.forall_mem_cons.2 ⟨r3, List.forall_mem_cons.2 ⟨r4, List.forall_mem_cons.2 ⟨r5, fun _ h => by cases h⟩⟩⟩⟩⟩⟩)
  rw [List.append_nil] at h1
  have e : Rc.stUnbonding (uv x0 x1 x2 x3 x4 x5) = (0, [], ys) := h1
  unfold uX
  rw [e]
  exact ⟨h2.1 (0, 0) (by simp), h2.1 (0, 1) (by simp), h2.1 (0, 2) (by simp), h2.1 (0, 3) (by simp), h2.1 (0, 4) (by simp), h2.1 (0, 5) (by simp)⟩
theorem mv_back {x0 x1 x2 x3 x4 x5 x6 : Int} (r0 : Uq x0) (r1 : Uq x1) (r2 : Uq x2) (r3 : Uq x3) (r4 : Uq x4) (r5 : Uq x5) (r6 : 0 ≤ x6) : (mX (mv x0 x1 x2 x3 x4 x5 x6) 0 = x0 ∧ mX (mv x0 x1 x2 x3 x4 x5 x6) 1 = x1 ∧ mX (mv x0 x1 x2 x3 x4 x5 x6) 2 = x2) ∧ (mX (mv x0 x1 x2 x3 x4 x5 x6) 3 = x3 ∧ mX (mv x0 x1 x2 x3 x4 x5 x6) 4 = x4 ∧ mX (mv x0 x1 x2 x3 x4 x5 x6) 5 = x5) ∧ mX (mv x0 x1 x2 x3 x4 x5 x6) 6 = Rc.fit x6 := by
  obtain ⟨ys, h1, h2⟩ := Rc.thr_back (fun o => ([x0, x1, x2, x3, x4, x5, x6] : List Int).getD o 0) [(0, 0), (0, 1), (0, 2), (0, 3), (0, 4), (0, 5), (2, 6)] [] (fun _ => 0) (by decide) (List.forall_mem_cons.2 ⟨r0, List.forall_mem_cons.2 ⟨r1, List.forall_mem_cons.2 ⟨r2, List.forall_mem_cons.2 ⟨r3, List.forall_mem_cons.2 ⟨r4, List.forall_mem_cons.2 ⟨r5, List.forall_mem_cons.2 ⟨r6, fun _ h => by cases h⟩⟩⟩⟩⟩⟩⟩)
  rw [List.append_nil] at h1
  have e : Rc.stMove (mv x0 x1 x2 x3 x4 x5 x6) = (0, [], ys) := h1
  unfold mX
  rw [e]
  exact ⟨⟨h2.1 (0, 0) (by simp), h2.1 (0, 1) (by simp), h2.1 (0, 2) (by simp)⟩, ⟨h2.1 (0, 3) (by simp), h2.1 (0, 4) (by simp), h2.1 (0, 5) (by simp)⟩, h2.1 (2, 6) (by simp)⟩
theorem pv_back2 {x y : Int} (hx : Uq x) (hy : Uq y) : hgtB (pv x y) = x ∧ nxtB (pv x y) = y := Bk.pv_back hx hy
/-- an entry: its number, its kind, who began it, which validator it left, when it comes due -/
structure Qe where
  id : Int
  k : Int
  del : Int
  val : Int
  due : Int
def cnt (A : List Qe) (a b : Int) : Nat := A.countP (fun e => decide (e.del = a ∧ e.val = b))
/-- a record tells its entry's trail -/
def Tells (e : Qe) (l : List Int) : Prop := (e.k = 12 → uX l 0 = e.del ∧ uX l 1 = e.val ∧ uX l 3 = e.due) ∧ (e.k = 13 → mX l 0 = e.del ∧ mX l 1 = e.val ∧ mX l 4 = e.due)
/-- what lies there of a queue whose entries are A -/
structure Qs (E : Ents) (nx : Int) (A : List Qe) : Prop where
  rise : Rise E
  keys : ∀ x ∈ E, ∃ k a b, Ok k a b ∧ x.1 = Ky.mk k a b
  next : nxtB (chn E) = nx
  hgt : Uq (hgtB (chn E))
  nx0 : 0 ≤ nx
  ids : A.Pairwise (fun x y => x.id ≠ y.id)
  good : ∀ e ∈ A, (e.k = 12 ∨ e.k = 13) ∧ (0 ≤ e.id ∧ e.id < nx) ∧ Uq e.del ∧ Uq e.val ∧ Uq e.due
  recs : ∀ e ∈ A, ∃ l, Kv.look E (Ky.mk e.k e.id 0) = some l ∧ Tells e l
  noRec : ∀ k i, (k = 12 ∨ k = 13) → Uq i → (∀ e ∈ A, ¬ (e.id = i ∧ e.k = k)) → Kv.look E (Ky.mk k i 0) = none
  dues : ∀ d i, Uq d → Uq i → ∀ v, Kv.look E (Ky.mk 14 d i) = some v ↔ ∃ e ∈ A, e.id = i ∧ e.due = d ∧ v = nv e.k
  srcs : ∀ d i, Uq d → Uq i → ∀ v, Kv.look E (Ky.mk 15 d i) = some v ↔ ∃ e ∈ A, e.id = i ∧ e.val = d ∧ v = nv e.k
  cnts : ∀ a b, Uq a → Uq b → Kv.look E (Ky.mk 17 a b) = if cnt A a b = 0 then none else some (nv (cnt A a b : Nat))
section
variable {E : Ents} {nx : Int} {A : List Qe}
theorem cnt_le (A : List Qe) (a b : Int) : Qu.cnt A a b ≤ A.length := List.countP_le_length
theorem Qs.cntQ (h : Qs E nx A) {a b : Int} (ha : Uq a) (hb : Uq b) (hA : A.length ≤ 1000000) : Qu.cntQ E a b = (Qu.cnt A a b : Nat) := by
  have h1 := cnt_le A a b
  unfold Qu.cntQ got
  rw [h.cnts a b ha hb]
  split
  · rename_i e; rw [e]; exact numB_nil
  · show numB (nv _) = _
    exact nv_back ⟨by omega, by omega⟩
/-- two entries of one number are one -/
theorem Qs.one (h : Qs E nx A) {e f : Qe} (he : e ∈ A) (hf : f ∈ A) (hid : e.id = f.id) : e = f := by
  have := h.ids
  clear h
  induction A with
  | nil => cases he
  | cons x A ih =>
    rw [List.pairwise_cons] at this
    rcases List.mem_cons.1 he with h1 | h1 <;> rcases List.mem_cons.1 hf with h2 | h2
    · rw [h1, h2]
    · exact absurd (by rw [← h1]; exact hid) (this.1 f h2)
    · exact absurd (by rw [← h2]; exact hid.symm) (this.1 e h1)
    · exact ih h1 h2 this.2
theorem mem_put_key {k v : List Int} {x : KV} (h : x ∈ put E k v) : x ∈ E ∨ x.1 = k := (Pw.mem_put h).imp id (fun e => by rw [e])
theorem keys_put {k a b : Int} {v : List Int} (h : ∀ x ∈ E, ∃ k a b, Ok k a b ∧ x.1 = Ky.mk k a b) (ho : Ok k a b) : ∀ x ∈ put E (Ky.mk k a b) v, ∃ k a b, Ok k a b ∧ x.1 = Ky.mk k a b := fun x hx => (mem_put_key hx).elim (h x) (fun e => ⟨k, a, b, ho, e⟩)
theorem keys_rem {k : List Int} (h : ∀ x ∈ E, ∃ k a b, Ok k a b ∧ x.1 = Ky.mk k a b) : ∀ x ∈ Kv.rem E k, ∃ k a b, Ok k a b ∧ x.1 = Ky.mk k a b := fun x hx => h x (List.mem_filter.1 hx).1
theorem cnt_app (A : List Qe) (e : Qe) (a b : Int) : Qu.cnt (A ++ [e]) a b = Qu.cnt A a b + if e.del = a ∧ e.val = b then 1 else 0 := by
  unfold Qu.cnt
  rw [List.countP_append]
  by_cases h : e.del = a ∧ e.val = b
  · rw [if_pos h]; simp [h]
  · rw [if_neg h]; simp [h]
/-- the store behind begin, ahead of the count -/
def E1b (E : Ents) (i : Int) (e : Qe) (r : List Int) : Ents := put (put (put (nextE E) (Ky.mk e.k i 0) r) (Ky.mk 14 e.due i) (nv e.k)) (Ky.mk 15 e.val i) (nv e.k)
theorem nx_rise (h : Rise E) : Rise (nextE E) := h.put _ _
theorem E1b_rise (h : Rise E) (i : Int) (e : Qe) (r : List Int) : Rise (E1b E i e r) := (((nx_rise h).put _ _).put _ _).put _ _
theorem E1b_look (h : Rise E) {i : Int} {e : Qe} {r : List Int} (hk : e.k = 12 ∨ e.k = 13) (hi : Uq i) (hv : Uq e.val) (hd : Uq e.due) {k a b : Int} (ho : Ok k a b) : Kv.look (E1b E i e r) (Ky.mk k a b) = if 15 = k ∧ e.val = a ∧ i = b then some (nv e.k) else if 14 = k ∧ e.due = a ∧ i = b then some (nv e.k) else if e.k = k ∧ i = a ∧ 0 = b then some r else if 2 = k ∧ 0 = a ∧ 0 = b then some (pv (hgtB (chn E)) ((nxtB (chn E) + 1) % 18446744073709551616)) else Kv.look E (Ky.mk k a b) := by
  unfold E1b
  rw [lkp (((nx_rise h).put _ _).put _ _) (ok15 hv hi) ho, lkp ((nx_rise h).put _ _) (ok14 hd hi) ho, lkp (nx_rise h) (okr hk hi) ho]
  unfold nextE
  rw [lkp h ok2 ho]
theorem begin_eq (h : Qs E nx A) (hnx : nx + 1 < 18446744073709551616) (hA : A.length ≤ 100000) {e : Qe} {r : List Int} (hk : e.k = 12 ∨ e.k = 13) (hdl : Uq e.del) (hv : Uq e.val) (hd : Uq e.due) :
    beginE E e.k r e.del e.val e.due = put (E1b E nx e r) (Ky.mk 17 e.del e.val) (nv ((Qu.cnt A e.del e.val + 1 : Nat) : Int)) ∧ rputE (put (nextE E) (Ky.mk e.k nx 0) r) e.k nx e.del e.val e.due = put (E1b E nx e r) (Ky.mk 17 e.del e.val) (nv ((Qu.cnt A e.del e.val + 1 : Nat) : Int)) := by
  have hi : Uq nx := ⟨h.nx0, by omega⟩
  have hc : Qu.cntQ (E1b E nx e r) e.del e.val = (Qu.cnt A e.del e.val : Nat) := by
    rw [← h.cntQ hdl hv (by omega)]
    unfold Qu.cntQ got
    rw [E1b_look h.rise hk hi hv hd (ok17 hdl hv), if_neg (by simp), if_neg (by simp), if_neg (by omega), if_neg (by simp)]
  have h1 := cnt_le A e.del e.val
  have h2 : ((Qu.cnt A e.del e.val : Nat) + 1 : Int) % 18446744073709551616 = ((Qu.cnt A e.del e.val + 1 : Nat) : Int) := by omega
  refine ⟨?_, ?_⟩
  · unfold beginE
    simp only [h.next]
    show cntE (E1b E nx e r) e.del e.val ((Qu.cntQ (E1b E nx e r) e.del e.val + 1) % 18446744073709551616) = _
    rw [hc, h2]
    unfold cntE
    rw [if_neg (by omega)]
  · show put (E1b E nx e r) (Ky.mk 17 e.del e.val) (nv ((Qu.cntQ (E1b E nx e r) e.del e.val + 1) % 18446744073709551616)) = _
    rw [hc, h2]
/-- an entry begins -/
theorem Qs.begin (h : Qs E nx A) (hnx : nx + 1 < 18446744073709551616) (hA : A.length ≤ 100000) {e : Qe} {r : List Int} (hid : e.id = nx) (hk : e.k = 12 ∨ e.k = 13) (hdl : Uq e.del) (hv : Uq e.val) (hd : Uq e.due) (hr : Tells e r) : Qs (beginE E e.k r e.del e.val e.due) (nx + 1) (A ++ [e]) := by
  rw [(begin_eq h hnx hA hk hdl hv hd).1]
  have hi : Uq nx := ⟨h.nx0, by omega⟩
  have L : ∀ {k a b : Int}, Ok k a b → Kv.look (put (E1b E nx e r) (Ky.mk 17 e.del e.val) (nv ((Qu.cnt A e.del e.val + 1 : Nat) : Int))) (Ky.mk k a b) = if 17 = k ∧ e.del = a ∧ e.val = b then some (nv ((Qu.cnt A e.del e.val + 1 : Nat) : Int)) else if 15 = k ∧ e.val = a ∧ nx = b then some (nv e.k) else if 14 = k ∧ e.due = a ∧ nx = b then some (nv e.k) else if e.k = k ∧ nx = a ∧ 0 = b then some r else if 2 = k ∧ 0 = a ∧ 0 = b then some (pv (hgtB (chn E)) (nx + 1)) else Kv.look E (Ky.mk k a b) := fun {k a b} ho => by
    rw [lkp (E1b_rise h.rise _ _ _) (ok17 hdl hv) ho, E1b_look h.rise hk hi hv hd ho, h.next, show (nx + 1) % 18446744073709551616 = nx + 1 by have := h.nx0; omega]
  have hch : chn (put (E1b E nx e r) (Ky.mk 17 e.del e.val) (nv ((Qu.cnt A e.del e.val + 1 : Nat) : Int))) = pv (hgtB (chn E)) (nx + 1) := by
    unfold chn got
    rw [L ok2, if_neg (by simp), if_neg (by simp), if_neg (by simp), if_neg (by omega), if_pos (by simp)]
    rfl
  obtain ⟨p1, p2⟩ := pv_back2 h.hgt (y := nx + 1) ⟨by have := h.nx0; omega, hnx⟩
  have old : ∀ f ∈ A, f.id ≠ nx := fun f hf e => by have := (h.good f hf).2.1; omega
  refine ⟨(E1b_rise h.rise _ _ _).put _ _, ?_, by rw [hch]; exact p2, by rw [hch, p1]; exact h.hgt, by have := h.nx0; omega, ?_, ?_, ?_, ?_, ?_, ?_, ?_⟩
  · exact keys_put (keys_put (keys_put (keys_put (keys_put h.keys ok2) (okr hk hi)) (ok14 hd hi)) (ok15 hv hi)) (ok17 hdl hv)
  · rw [List.pairwise_append]
    exact ⟨h.ids, List.pairwise_singleton _ _, fun a ha b hb => by rw [List.mem_singleton.1 hb, hid]; exact old a ha⟩
  · intro f hf
    rcases List.mem_append.1 hf with hf | hf
    · obtain ⟨g1, g2, g3⟩ := h.good f hf
      exact ⟨g1, ⟨g2.1, by omega⟩, g3⟩
    · rw [List.mem_singleton.1 hf]
      exact ⟨hk, ⟨by omega, by omega⟩, hdl, hv, hd⟩
  · intro f hf
    rcases List.mem_append.1 hf with hf | hf
    · obtain ⟨g1, g2, g3⟩ := h.good f hf
      have := old f hf
      rw [L (okr g1 ⟨g2.1, by omega⟩), if_neg (by omega), if_neg (by omega), if_neg (by omega), if_neg (by omega), if_neg (by omega)]
      exact h.recs f hf
    · rw [List.mem_singleton.1 hf, hid, L (okr hk hi), if_neg (by omega), if_neg (by omega), if_neg (by omega), if_pos ⟨rfl, rfl, rfl⟩]
      exact ⟨r, rfl, hr⟩
  · intro k i hk2 hi2 hno
    have hne : ¬ (e.id = i ∧ e.k = k) := hno e (by simp)
    rw [L (okr hk2 hi2), if_neg (by omega), if_neg (by omega), if_neg (by omega), if_neg (by omega), if_neg (by omega)]
    exact h.noRec k i hk2 hi2 (fun f hf => hno f (by simp [hf]))
  · intro d i hd2 hi2 v
    rw [L (ok14 hd2 hi2), if_neg (by simp), if_neg (by simp)]
    by_cases c : e.due = d ∧ nx = i
    · rw [if_pos ⟨rfl, c⟩]
      constructor
      · intro q
        exact ⟨e, by simp, by omega, c.1, by injection q with q; exact q.symm⟩
      · rintro ⟨f, hf, f1, f2, f3⟩
        rcases List.mem_append.1 hf with hf | hf
        · exact absurd (f1.trans c.2.symm) (old f hf)
        · rw [f3, List.mem_singleton.1 hf]
    · rw [if_neg (fun x => c x.2), if_neg (by omega), if_neg (by simp), h.dues d i hd2 hi2 v]
      constructor
      · rintro ⟨f, hf, q⟩
        exact ⟨f, by simp [hf], q⟩
      · rintro ⟨f, hf, q⟩
        rcases List.mem_append.1 hf with hf | hf
        · exact ⟨f, hf, q⟩
        · rw [List.mem_singleton.1 hf] at q
          exact absurd ⟨q.2.1, by omega⟩ c
  · intro d i hd2 hi2 v
    rw [L (ok15 hd2 hi2), if_neg (by simp)]
    by_cases c : e.val = d ∧ nx = i
    · rw [if_pos ⟨rfl, c⟩]
      constructor
      · intro q
        exact ⟨e, by simp, by omega, c.1, by injection q with q; exact q.symm⟩
      · rintro ⟨f, hf, f1, f2, f3⟩
        rcases List.mem_append.1 hf with hf | hf
        · exact absurd (f1.trans c.2.symm) (old f hf)
        · rw [f3, List.mem_singleton.1 hf]
    · rw [if_neg (fun x => c x.2), if_neg (by simp), if_neg (by omega), if_neg (by simp), h.srcs d i hd2 hi2 v]
      constructor
      · rintro ⟨f, hf, q⟩
        exact ⟨f, by simp [hf], q⟩
      · rintro ⟨f, hf, q⟩
        rcases List.mem_append.1 hf with hf | hf
        · exact ⟨f, hf, q⟩
        · rw [List.mem_singleton.1 hf] at q
          exact absurd ⟨q.2.1, by omega⟩ c
  · intro a b ha hb
    rw [L (ok17 ha hb), cnt_app]
    by_cases c : e.del = a ∧ e.val = b
    · rw [if_pos ⟨rfl, c⟩, if_pos c, if_neg (by omega), c.1, c.2]
    · rw [if_neg (fun x => c x.2), if_neg (by simp), if_neg (by simp), if_neg (by omega), if_neg (by simp), if_neg c, Nat.add_zero]
      exact h.cnts a b ha hb
end
end Qu
end Go.Proofs.YtidnifmehnjipaaGreat

namespace Go.Proofs.YtidnifmehnjipaaGreat
namespace Qu
open Go.RowKit Go.Lib Pg Lim Gl Kv Bk Pw
set_option linter.unusedVariables false
set_option linter.unusedSimpArgs false
set_option maxHeartbeats 1000000
section
variable {E : Ents} {nx : Int} {A : List Qe}
def less1A (A : List Qe) (i : Int) : List Qe := A.filter (fun x => decide (x.id ≠ i))
theorem less1A_mem {i : Int} {f : Qe} : f ∈ less1A A i ↔ f ∈ A ∧ f.id ≠ i := by unfold less1A; rw [List.mem_filter]; simp
theorem cnt_cons (x : Qe) (A : List Qe) (a b : Int) : Qu.cnt (x :: A) a b = Qu.cnt A a b + if x.del = a ∧ x.val = b then 1 else 0 := by
  unfold Qu.cnt
  rw [List.countP_cons]
  by_cases h : x.del = a ∧ x.val = b <;> simp [h]
theorem cnt_del (hp : A.Pairwise (fun x y => x.id ≠ y.id)) {e : Qe} (he : e ∈ A) (a b : Int) : Qu.cnt A a b = Qu.cnt (less1A A e.id) a b + if e.del = a ∧ e.val = b then 1 else 0 := by
  induction A with
  | nil => cases he
  | cons x A ih =>
    rw [List.pairwise_cons] at hp
    rcases List.mem_cons.1 he with rfl | he
    · have h1 : less1A (e :: A) e.id = A := by
        unfold less1A
        rw [List.filter_cons_of_neg (by simp), List.filter_eq_self.2]
        intro y hy
        have := hp.1 y hy
        simp
        exact fun q => this q.symm
      rw [h1, cnt_cons]
    · have h1 : less1A (x :: A) e.id = x :: less1A A e.id := by
        unfold less1A
        rw [List.filter_cons_of_pos (by simp; exact hp.1 e he)]
      rw [h1, cnt_cons, cnt_cons, ih hp.2 he]
      omega
def E1d (E : Ents) (e : Qe) : Ents := Kv.rem (Kv.rem (Kv.rem E (Ky.mk e.k e.id 0)) (Ky.mk 14 e.due e.id)) (Ky.mk 15 e.val e.id)
theorem E1d_rise (h : Rise E) (e : Qe) : Rise (E1d E e) := ((h.rem _).rem _).rem _
theorem E1d_look (h : Rise E) {e : Qe} (hk : e.k = 12 ∨ e.k = 13) (hi : Uq e.id) (hv : Uq e.val) (hd : Uq e.due) {k a b : Int} (ho : Ok k a b) : Kv.look (E1d E e) (Ky.mk k a b) = if 15 = k ∧ e.val = a ∧ e.id = b then none else if 14 = k ∧ e.due = a ∧ e.id = b then none else if e.k = k ∧ e.id = a ∧ 0 = b then none else Kv.look E (Ky.mk k a b) := by
  unfold E1d
  rw [lkr ((h.rem _).rem _) (ok15 hv hi) ho, lkr (h.rem _) (ok14 hd hi) ho, lkr h (okr hk hi) ho]
def cutE (E : Ents) (a b : Int) (c : Nat) : Ents := if c = 0 then Kv.rem E (Ky.mk 17 a b) else put E (Ky.mk 17 a b) (nv (c : Nat))
theorem Qs.uid (h : Qs E nx A) (hnx : nx ≤ 18446744073709551616) {e : Qe} (he : e ∈ A) : Uq e.id := by have := (h.good e he).2.1; exact ⟨this.1, by omega⟩
theorem Qs.cpos (h : Qs E nx A) {e : Qe} (he : e ∈ A) : Qu.cnt A e.del e.val = Qu.cnt (less1A A e.id) e.del e.val + 1 := by rw [cnt_del h.ids he, if_pos ⟨rfl, rfl⟩]
theorem end_eq (h : Qs E nx A) (hnx : nx ≤ 18446744073709551616) (hA : A.length ≤ 100000) {e : Qe} (he : e ∈ A) :
    endQ E e.k e.id e.del e.val e.due = cutE (E1d E e) e.del e.val (Qu.cnt (less1A A e.id) e.del e.val) ∧ rendQ E e.k e.id e.del e.val e.due = cutE (E1d E e) e.del e.val (Qu.cnt (less1A A e.id) e.del e.val) := by
  obtain ⟨g1, g2, g3, g4, g5⟩ := h.good e he
  have hi := h.uid hnx he
  have hc : Qu.cntQ (E1d E e) e.del e.val = (Qu.cnt A e.del e.val : Nat) := by
    rw [← h.cntQ g3 g4 (by omega)]
    unfold Qu.cntQ got
    rw [E1d_look h.rise g1 hi g4 g5 (ok17 g3 g4), if_neg (by simp), if_neg (by simp), if_neg (by omega)]
  have h1 := cnt_le A e.del e.val
  have h2 := h.cpos he
  have h3 : ((Qu.cnt A e.del e.val : Nat) - 1 : Int) % 18446744073709551616 = ((Qu.cnt (less1A A e.id) e.del e.val : Nat) : Int) := by omega
  refine ⟨?_, ?_⟩
  · show cntE (E1d E e) e.del e.val ((Qu.cntQ (E1d E e) e.del e.val - 1) % 18446744073709551616) = _
    rw [hc, h3]
    unfold cntE cutE
    by_cases c : Qu.cnt (less1A A e.id) e.del e.val = 0
    · rw [if_pos (by omega), if_pos c]
    · rw [if_neg (by omega), if_neg c]
  · show (if Qu.cntQ (E1d E e) e.del e.val ≤ 1 then Kv.rem (E1d E e) (Ky.mk 17 e.del e.val) else put (E1d E e) (Ky.mk 17 e.del e.val) (nv ((Qu.cntQ (E1d E e) e.del e.val - 1) % 18446744073709551616))) = _
    rw [hc, h3]
    unfold cutE
    by_cases c : Qu.cnt (less1A A e.id) e.del e.val = 0
    · rw [if_pos (by omega), if_pos c]
    · rw [if_neg (by omega), if_neg c]
/-- an entry goes -/
theorem Qs.end (h : Qs E nx A) (hnx : nx ≤ 18446744073709551616) (hA : A.length ≤ 100000) {e : Qe} (he : e ∈ A) : Qs (endQ E e.k e.id e.del e.val e.due) nx (less1A A e.id) := by
  rw [(end_eq h hnx hA he).1]
  obtain ⟨g1, g2, g3, g4, g5⟩ := h.good e he
  have hi := h.uid hnx he
  have L : ∀ {k a b : Int}, Ok k a b → Kv.look (cutE (E1d E e) e.del e.val (Qu.cnt (less1A A e.id) e.del e.val)) (Ky.mk k a b) = if 17 = k ∧ e.del = a ∧ e.val = b then (if Qu.cnt (less1A A e.id) e.del e.val = 0 then none else some (nv (Qu.cnt (less1A A e.id) e.del e.val : Nat))) else if 15 = k ∧ e.val = a ∧ e.id = b then none else if 14 = k ∧ e.due = a ∧ e.id = b then none else if e.k = k ∧ e.id = a ∧ 0 = b then none else Kv.look E (Ky.mk k a b) := fun {k a b} ho => by
    unfold cutE
    by_cases c : Qu.cnt (less1A A e.id) e.del e.val = 0
    · rw [if_pos c, if_pos c, lkr (E1d_rise h.rise _) (ok17 g3 g4) ho, E1d_look h.rise g1 hi g4 g5 ho]
    · rw [if_neg c, if_neg c, lkp (E1d_rise h.rise _) (ok17 g3 g4) ho, E1d_look h.rise g1 hi g4 g5 ho]
  have hch : chn (cutE (E1d E e) e.del e.val (Qu.cnt (less1A A e.id) e.del e.val)) = chn E := by
    unfold chn got
    rw [L ok2, if_neg (by simp), if_neg (by simp), if_neg (by simp), if_neg (by omega)]
  refine ⟨?_, ?_, by rw [hch]; exact h.next, by rw [hch]; exact h.hgt, h.nx0, List.Pairwise.filter _ h.ids, fun f hf => h.good f (less1A_mem.1 hf).1, ?_, ?_, ?_, ?_, ?_⟩
  · unfold cutE
    split
    · exact (E1d_rise h.rise _).rem _
    · exact (E1d_rise h.rise _).put _ _
  · unfold cutE
    split
    · exact keys_rem (keys_rem (keys_rem (keys_rem h.keys)))
    · exact keys_put (keys_rem (keys_rem (keys_rem h.keys))) (ok17 g3 g4)
  · intro f hf
    obtain ⟨hf1, hf2⟩ := less1A_mem.1 hf
    obtain ⟨q1, q2, q3⟩ := h.good f hf1
    rw [L (okr q1 (h.uid hnx hf1)), if_neg (by omega), if_neg (by omega), if_neg (by omega), if_neg (by omega)]
    exact h.recs f hf1
  · intro k i hk2 hi2 hno
    rw [L (okr hk2 hi2), if_neg (by omega), if_neg (by omega), if_neg (by omega)]
    split
    · rfl
    · rename_i c
      refine h.noRec k i hk2 hi2 (fun f hf q => ?_)
      by_cases d : f.id = e.id
      · have := h.one hf he d
        subst this
        omega
      · exact hno f (less1A_mem.2 ⟨hf, d⟩) q
  · intro d i hd2 hi2 v
    rw [L (ok14 hd2 hi2), if_neg (by simp), if_neg (by simp)]
    by_cases c : e.due = d ∧ e.id = i
    · rw [if_pos ⟨rfl, c⟩]
      constructor
      · intro q; cases q
      · rintro ⟨f, hf, f1, f2, f3⟩
        exact absurd (f1.trans c.2.symm) (less1A_mem.1 hf).2
    · rw [if_neg (fun x => c x.2), if_neg (by omega), h.dues d i hd2 hi2 v]
      constructor
      · rintro ⟨f, hf, q⟩
        refine ⟨f, less1A_mem.2 ⟨hf, fun x => c ?_⟩, q⟩
        have := h.one hf he x
        subst this
        exact ⟨q.2.1, q.1⟩
      · rintro ⟨f, hf, q⟩
        exact ⟨f, (less1A_mem.1 hf).1, q⟩
  · intro d i hd2 hi2 v
    rw [L (ok15 hd2 hi2), if_neg (by simp)]
    by_cases c : e.val = d ∧ e.id = i
    · rw [if_pos ⟨rfl, c⟩]
      constructor
      · intro q; cases q
      · rintro ⟨f, hf, f1, f2, f3⟩
        exact absurd (f1.trans c.2.symm) (less1A_mem.1 hf).2
    · rw [if_neg (fun x => c x.2), if_neg (by simp), if_neg (by omega), h.srcs d i hd2 hi2 v]
      constructor
      · rintro ⟨f, hf, q⟩
        refine ⟨f, less1A_mem.2 ⟨hf, fun x => c ?_⟩, q⟩
        have := h.one hf he x
        subst this
        exact ⟨q.2.1, q.1⟩
      · rintro ⟨f, hf, q⟩
        exact ⟨f, (less1A_mem.1 hf).1, q⟩
  · intro a b ha hb
    rw [L (ok17 ha hb)]
    by_cases c : e.del = a ∧ e.val = b
    · rw [if_pos ⟨rfl, c⟩, c.1, c.2]
    · rw [if_neg (fun x => c x.2), if_neg (by simp), if_neg (by simp), if_neg (by omega), h.cnts a b ha hb, cnt_del h.ids he a b, if_neg c, Nat.add_zero]
theorem Qs.drop (h : Qs E nx A) (hnx : nx ≤ 18446744073709551616) (hA : A.length ≤ 100000) {e : Qe} (he : e ∈ A) : dropE E e.id e.k = endQ E e.k e.id e.del e.val e.due ∧ rdropE E e.id e.k = dropE E e.id e.k ∧ dropB E e.id e.k = true := by
  obtain ⟨l, hl, t1, t2⟩ := h.recs e he
  have hg : got E (Ky.mk e.k e.id 0) = l := by unfold got; rw [hl]; rfl
  have he2 := (end_eq h hnx hA he)
  rcases (h.good e he).1 with hk | hk
  · rw [hk] at hl hg he2 ⊢
    obtain ⟨q1, q2, q3⟩ := t1 hk
    have e1 : dropE E e.id 12 = endQ E 12 e.id e.del e.val e.due := by
      unfold dropE dropU
      rw [if_pos rfl, hl, if_pos (show (some l).isSome = true from rfl), hg, q1, q2, q3]
    refine ⟨e1, ?_, ?_⟩
    · unfold rdropE
      rw [e1, if_pos rfl, hl, if_pos (show (some l).isSome = true from rfl), hg, q1, q2, q3, he2.1, he2.2]
    · unfold dropB
      rw [if_pos rfl, hl]
      rfl
  · rw [hk] at hl hg he2 ⊢
    obtain ⟨q1, q2, q3⟩ := t2 hk
    have e1 : dropE E e.id 13 = endQ E 13 e.id e.del e.val e.due := by
      unfold dropE dropM
      rw [if_neg (by decide), if_pos rfl, hl, if_pos (show (some l).isSome = true from rfl), hg, q1, q2, q3]
    refine ⟨e1, ?_, ?_⟩
    · unfold rdropE
      rw [e1, if_neg (by decide), if_pos rfl, hl, if_pos (show (some l).isSome = true from rfl), hg, q1, q2, q3, he2.1, he2.2]
    · unfold dropB
      rw [if_neg (by decide), if_pos rfl, hl]
      rfl
theorem Qs.dropN (h : Qs E nx A) {id k : Int} (hid : Uq id) (hno : ∀ e ∈ A, ¬ (e.id = id ∧ e.k = k)) : dropE E id k = E ∧ rdropE E id k = E ∧ dropB E id k = false := by
  by_cases c : k = 12
  · subst c
    have hl := h.noRec 12 id (.inl rfl) hid hno
    unfold dropE rdropE dropB dropU
    simp only [hl]
    simp
  · by_cases c2 : k = 13
    · subst c2
      have hl := h.noRec 13 id (.inr rfl) hid hno
      unfold dropE rdropE dropB dropM
      simp only [hl]
      simp
    · unfold dropE rdropE dropB
      rw [if_neg c, if_neg c2, if_neg c, if_neg c2, if_neg c, if_neg c2]
      exact ⟨rfl, rfl, rfl⟩
/-- whatever is dropped -/
theorem Qs.dropAny (h : Qs E nx A) (hnx : nx ≤ 18446744073709551616) (hA : A.length ≤ 100000) {id : Int} (k : Int) (hid : Uq id) : rdropE E id k = dropE E id k ∧ ∃ A', A'.length ≤ A.length ∧ Qs (dropE E id k) nx A' := by
  by_cases c : ∃ e ∈ A, e.id = id ∧ e.k = k
  · obtain ⟨e, he, rfl, rfl⟩ := c
    obtain ⟨h1, h2, _⟩ := h.drop hnx hA he
    refine ⟨h2, less1A A e.id, List.length_filter_le _ _, ?_⟩
    rw [h1]
    exact h.end hnx hA he
  · obtain ⟨h1, h2, _⟩ := h.dropN hid (k := k) (fun e he q => c ⟨e, he, q⟩)
    exact ⟨h2.trans h1.symm, A, Nat.le_refl _, by rw [h1]; exact h⟩
/-- a record laid anew -/
theorem Qs.relay (h : Qs E nx A) {k id : Int} {r : List Int} (hk : k = 12 ∨ k = 13) (hid : Uq id) (hnx : nx ≤ 18446744073709551616) (hs : (Kv.look E (Ky.mk k id 0)).isSome = true) (hr : ∀ e ∈ A, Tells e (got E (Ky.mk k id 0)) → e.id = id → e.k = k → Tells e r) : Qs (put E (Ky.mk k id 0) r) nx A := by
  have L : ∀ {k' a b : Int}, Ok k' a b → Kv.look (put E (Ky.mk k id 0) r) (Ky.mk k' a b) = if k = k' ∧ id = a ∧ 0 = b then some r else Kv.look E (Ky.mk k' a b) := fun ho => lkp h.rise (okr hk hid) ho
  have hch : chn (put E (Ky.mk k id 0) r) = chn E := by
    unfold chn got
    rw [L ok2, if_neg (by omega)]
  refine ⟨h.rise.put _ _, keys_put h.keys (okr hk hid), by rw [hch]; exact h.next, by rw [hch]; exact h.hgt, h.nx0, h.ids, h.good, ?_, ?_, ?_, ?_, ?_⟩
  · intro f hf
    rw [L (okr (h.good f hf).1 (h.uid hnx hf))]
    by_cases c : k = f.k ∧ id = f.id ∧ (0 : Int) = 0
    · rw [if_pos c]
      obtain ⟨l, hl, ht⟩ := h.recs f hf
      refine ⟨r, rfl, hr f hf ?_ c.2.1.symm c.1.symm⟩
      unfold got
      rw [c.1, c.2.1, hl]
      exact ht
    · rw [if_neg c]
      exact h.recs f hf
  · intro k2 i hk2 hi2 hno
    rw [L (okr hk2 hi2)]
    by_cases c : k = k2 ∧ id = i ∧ (0 : Int) = 0
    · rw [c.1, c.2.1, h.noRec k2 i hk2 hi2 hno] at hs
      cases hs
    · rw [if_neg c]
      exact h.noRec k2 i hk2 hi2 hno
  · intro d i hd2 hi2 v
    rw [L (ok14 hd2 hi2), if_neg (by omega)]
    exact h.dues d i hd2 hi2 v
  · intro d i hd2 hi2 v
    rw [L (ok15 hd2 hi2), if_neg (by omega)]
    exact h.srcs d i hd2 hi2 v
  · intro a b ha hb
    rw [L (ok17 ha hb), if_neg (by omega)]
    exact h.cnts a b ha hb
theorem Qs.less (h : Qs E nx A) {id y : Int} (hid : Uq id) (hy : Uq y) (hnx : nx ≤ 18446744073709551616) (ho : Oct (got E (Ky.mk 12 id 0))) : Qs (lessU E id y) nx A := by
  unfold lessU
  split
  · rename_i c
    refine h.relay (.inl rfl) hid hnx c (fun e he t _ hk => ⟨fun _ => ?_, fun k3 => by omega⟩)
    obtain ⟨b0, b1, _, b3, _⟩ := uv_back (uX_rng ho 0) (uX_rng ho 1) (uX_rng ho 2) (uX_rng ho 3) (uX_rng ho 4) hy
    obtain ⟨t0, t1, t3⟩ := t.1 hk
    exact ⟨b0.trans t0, b1.trans t1, b3.trans t3⟩
  · exact h
theorem Qs.few (h : Qs E nx A) {id y : Int} (hid : Uq id) (hy : 0 ≤ y) (hnx : nx ≤ 18446744073709551616) (ho : Oct (got E (Ky.mk 13 id 0))) : Qs (fewM E id y) nx A := by
  unfold fewM
  split
  · rename_i c
    refine h.relay (.inr rfl) hid hnx c (fun e he t _ hk => ⟨fun k3 => by omega, fun _ => ?_⟩)
    obtain ⟨⟨b0, b1, _⟩, ⟨_, b4, _⟩, _⟩ := mv_back (mX_rng ho 0) (mX_rng ho 1) (mX_rng ho 2) (mX_rng ho 3) (mX_rng ho 4) (mX_rng ho 5) hy
    obtain ⟨t0, t1, t3⟩ := t.2 hk
    exact ⟨b0.trans t0, b1.trans t1, b4.trans t3⟩
  · exact h
end
end Qu
end Go.Proofs.YtidnifmehnjipaaGreat

namespace Go.Proofs.YtidnifmehnjipaaGreat
namespace Qu
open Go.RowKit Go.Lib Pg Lim Gl Kv Bk Pw
set_option linter.unusedVariables false
set_option linter.unusedSimpArgs false
set_option maxHeartbeats 1000000
def p14 (h : Int) : List Int := Ky.mkb (Ky.frm 14) (Ky.tn 14 h)
def p15 (v : Int) : List Int := Ky.mkb (Ky.frm 15) (Ky.tn 15 v)
theorem p14_eq (h : Int) : p14 h = 113 :: Ky.be 8 h := by
  show [113] ++ (if (8 : Int) < 17 then Ky.be 8 h else []) ++ (if (0 : Int) = 0 then [] else [0]) = _
  simp
theorem p15_eq (h : Int) : p15 h = 101 :: Ky.be 8 h := by
  show [101] ++ (if (8 : Int) < 17 then Ky.be 8 h else []) ++ (if (0 : Int) = 0 then [] else [0]) = _
  simp
theorem mk14_eq (a b : Int) : Ky.mk 14 a b = 113 :: (Ky.be 8 a ++ Ky.be 8 b) := by rw [Ky.mk_eq (k := 14) (n := 17) (m0 := 113) (m1 := 0) rfl]; rfl
theorem mk15_eq (a b : Int) : Ky.mk 15 a b = 101 :: (Ky.be 8 a ++ Ky.be 8 b) := by rw [Ky.mk_eq (k := 15) (n := 17) (m0 := 101) (m1 := 0) rfl]; rfl
theorem mk_hd {k a b : Int} (h : Ok k a b) (h14 : k ≠ 14) : ∃ m t, Ky.mk k a b = m :: t ∧ (m = 99 ∨ m = 117 ∨ m = 114 ∨ m = 101 ∨ m = 107) ∧ (m = 101 → k = 15) := by
  rcases h.1 with ⟨rfl, rfl, rfl⟩ | ⟨rfl, rfl⟩ | ⟨rfl, rfl⟩ | rfl | rfl | rfl
  · exact ⟨99, _, by rw [Ky.mk_eq (k := 2) (n := 1) (m0 := 99) (m1 := 0) rfl]; rfl, by decide, by decide⟩
  · exact ⟨117, _, by rw [Ky.mk_eq (k := 12) (n := 9) (m0 := 117) (m1 := 0) rfl]; rfl, by decide, by decide⟩
  · exact ⟨114, _, by rw [Ky.mk_eq (k := 13) (n := 9) (m0 := 114) (m1 := 0) rfl]; rfl, by decide, by decide⟩
  · exact absurd rfl h14
  · exact ⟨101, _, mk15_eq a b, by decide, by decide⟩
  · exact ⟨107, _, by rw [Ky.mk_eq (k := 17) (n := 17) (m0 := 107) (m1 := 0) rfl]; rfl, by decide, by decide⟩
theorem u256 {a : Int} (h : Uq a) : 0 ≤ a ∧ a < 256 ^ 8 := by rw [show (256 : Int) ^ 8 = 18446744073709551616 by decide]; exact h
theorem pre_be {a h : Int} {t : List Int} (ha : Uq a) (hh : Uq h) : Ky.be 8 h <+: Ky.be 8 a ++ t ↔ a = h := by
  constructor
  · rintro ⟨s, e⟩
    have := (List.append_inj e (by rw [Ky.be_length, Ky.be_length])).1
    exact ((Ky.be8_eq (u256 hh) (u256 ha)).1 this).symm
  · rintro rfl
    exact List.prefix_append _ _
theorem oct_mk (k a b : Int) (h : Ok k a b) : Oct (Ky.mk k a b) := by
  rcases h.1 with ⟨rfl, rfl, rfl⟩ | ⟨rfl, rfl⟩ | ⟨rfl, rfl⟩ | rfl | rfl | rfl
  · rw [Ky.mk_eq (k := 2) (n := 1) (m0 := 99) (m1 := 0) rfl]; intro x hx; simp at hx; omega
  · rw [Ky.mk_eq (k := 12) (n := 9) (m0 := 117) (m1 := 0) rfl]
    intro x hx
    simp at hx
    rcases hx with rfl | hx
    · decide
    · exact Ky.be_oct _ _ x hx
  · rw [Ky.mk_eq (k := 13) (n := 9) (m0 := 114) (m1 := 0) rfl]
    intro x hx
    simp at hx
    rcases hx with rfl | hx
    · decide
    · exact Ky.be_oct _ _ x hx
  · rw [mk14_eq]
    intro x hx
    simp at hx
    rcases hx with rfl | hx | hx
    · decide
    · exact Ky.be_oct _ _ x hx
    · exact Ky.be_oct _ _ x hx
  · rw [mk15_eq]
    intro x hx
    simp at hx
    rcases hx with rfl | hx | hx
    · decide
    · exact Ky.be_oct _ _ x hx
    · exact Ky.be_oct _ _ x hx
  · rw [Ky.mk_eq (k := 17) (n := 17) (m0 := 107) (m1 := 0) rfl]
    intro x hx
    simp at hx
    rcases hx with rfl | hx | hx
    · decide
    · exact Ky.be_oct _ _ x hx
    · exact Ky.be_oct _ _ x hx
theorem nxt14 (h : Int) : Ky.nxt (p14 h) ≠ [] := by
  intro e
  have := Ky.nxt_nil e 113 (by rw [p14_eq]; simp)
  omega
/-- which keys a walk up to a time meets -/
theorem key14 {h k a b : Int} (hh : Uq h) (ho : Ok k a b) (v : List Int) : abtw [113] (Ky.nxt (p14 h)) (Ky.mk k a b, v) = decide (k = 14 ∧ a ≤ h) := by
  unfold abtw
  simp only []
  by_cases c : k = 14
  · subst c
    have h1 : ¬ Lt (Ky.mk 14 a b) [113] := by
      rw [mk14_eq, Ky.lt_cons]
      rintro (q | ⟨_, q⟩)
      · omega
      · exact Ky.not_lt_nil q
    have hp : p14 h <+: Ky.mk 14 a b ↔ a = h := by rw [p14_eq, mk14_eq, List.cons_prefix_cons]; simp only [true_and]; exact pre_be ho.2.1 hh
    have hl : Lt (Ky.mk 14 a b) (p14 h) ↔ a < h := by
      have e : Ky.be 8 h = Ky.be 8 h ++ [] := by simp
      rw [p14_eq, mk14_eq, Ky.lt_cons, e, Ky.lt_app_len (by rw [Ky.be_length, Ky.be_length]), Ky.be8_lt (u256 ho.2.1) (u256 hh)]
      constructor
      · rintro (q | ⟨_, q | ⟨_, q⟩⟩)
        · omega
        · exact q
        · exact absurd q Ky.not_lt_nil
      · intro q
        exact .inr ⟨rfl, .inl q⟩
    have h2 : Lt (Ky.mk 14 a b) (Ky.nxt (p14 h)) ↔ a ≤ h := by
      constructor
      · intro q
        by_cases c : a ≤ h
        · exact c
        · exact absurd q (Ky.not_lt_nxt (oct_mk _ _ _ ho) (fun x => by have := hp.1 x; omega) (fun x => by have := hl.1 x; omega))
      · intro q
        rcases Int.lt_or_eq_of_le q with q | q
        · exact (hl.2 q).trans (Ky.lt_nxt (nxt14 h))
        · exact Ky.pre_lt_nxt (nxt14 h) (hp.2 q)
    simp [h1, nxt14, h2]
  · obtain ⟨m, t, e, hm, _⟩ := mk_hd ho c
    have h3 : decide (k = 14 ∧ a ≤ h) = false := decide_eq_false (fun x => c x.1)
    rw [h3]
    by_cases hlt : m < 113
    · have : Lt (Ky.mk k a b) [113] := by rw [e, Ky.lt_cons]; exact .inl hlt
      simp [this]
    · have : ¬ Lt (Ky.mk k a b) (Ky.nxt (p14 h)) := Ky.not_lt_nxt (oct_mk _ _ _ ho) (by rw [e, p14_eq, List.cons_prefix_cons]; rintro ⟨q, _⟩; omega) (by
        rw [e, p14_eq, Ky.lt_cons]
        rintro (q | ⟨q, _⟩) <;> omega)
      simp [this, nxt14]
theorem key15 {h k a b : Int} (hh : Uq h) (ho : Ok k a b) : decide (p15 h <+: Ky.mk k a b) = decide (k = 15 ∧ a = h) := by
  by_cases c : k = 15
  · subst c
    have : p15 h <+: Ky.mk 15 a b ↔ a = h := by rw [p15_eq, mk15_eq, List.cons_prefix_cons]; simp only [true_and]; exact pre_be ho.2.1 hh
    simp [this]
  · have h3 : decide (k = 15 ∧ a = h) = false := decide_eq_false (fun x => c x.1)
    rw [h3]
    refine decide_eq_false (fun x => ?_)
    by_cases c2 : k = 14
    · subst c2
      rw [p15_eq, mk14_eq, List.cons_prefix_cons] at x
      omega
    · obtain ⟨m, t, e, hm, hm2⟩ := mk_hd ho c2
      rw [e, p15_eq, List.cons_prefix_cons] at x
      exact c (hm2 x.1.symm)
theorem key113 {k a b : Int} (ho : Ok k a b) : decide ([113] <+: Ky.mk k a b) = decide (k = 14) := by
  by_cases c : k = 14
  · subst c
    rw [mk14_eq]
    simp
  · obtain ⟨m, t, e, hm, _⟩ := mk_hd ho c
    rw [e, decide_eq_false c]
    refine decide_eq_false (fun x => ?_)
    rw [List.cons_prefix_cons] at x
    omega
theorem back14 {a b : Int} (ha : Uq a) (hb : Uq b) : Ky.frm (14 : Nat) = Ky.fIn (Ky.mk 14 a b) ∧ Ky.rdA 14 (Ky.mk 14 a b) = a ∧ Ky.rdB (Ky.mk 14 a b) = b := Ky.mk_back (k := 14) (by decide) (by decide) ha hb (mkE14 a b)
theorem back15 {a b : Int} (ha : Uq a) (hb : Uq b) : Ky.frm (15 : Nat) = Ky.fIn (Ky.mk 15 a b) ∧ Ky.rdA 15 (Ky.mk 15 a b) = a ∧ Ky.rdB (Ky.mk 15 a b) = b := Ky.mk_back (k := 15) (by decide) (by decide) ha hb (mkE15 a b)
section
variable {E : Ents} {nx : Int} {A : List Qe}
abbrev Kys (E : Ents) : Prop := ∀ x ∈ E, ∃ k a b, Ok k a b ∧ x.1 = Ky.mk k a b
/-- what walks meet are marks -/
theorem Kys.k14 (h : Kys E) {t : Int} (ht : Uq t) : ∀ x ∈ E, abtw [113] (Ky.nxt (p14 t)) x = true → Ky.frm (14 : Nat) = Ky.fIn x.1 := fun x hx hp => by
  obtain ⟨k, a, b, ho, e⟩ := h x hx
  have e2 : x = (Ky.mk k a b, x.2) := by rw [← e]
  rw [e2, key14 ht ho] at hp
  obtain ⟨rfl, _⟩ := of_decide_eq_true hp
  rw [e]
  exact (back14 ho.2.1 ho.2.2).1
theorem Kys.k15 (h : Kys E) {t : Int} (ht : Uq t) : ∀ x ∈ E, p15 t <+: x.1 → Ky.frm (15 : Nat) = Ky.fIn x.1 := fun x hx hp => by
  obtain ⟨k, a, b, ho, e⟩ := h x hx
  rw [e] at hp
  have hp2 := (key15 ht ho).symm.trans (decide_eq_true hp)
  obtain ⟨rfl, _⟩ := of_decide_eq_true hp2
  rw [e]
  exact (back15 ho.2.1 ho.2.2).1
theorem Kys.k113 (h : Kys E) : ∀ x ∈ E, [113] <+: x.1 → Ky.frm (14 : Nat) = Ky.fIn x.1 := fun x hx hp => by
  obtain ⟨k, a, b, ho, e⟩ := h x hx
  rw [e] at hp
  have hp2 := (key113 ho).symm.trans (decide_eq_true hp)
  obtain rfl := of_decide_eq_true hp2
  rw [e]
  exact (back14 ho.2.1 ho.2.2).1
/-- the document's way: all marks, of them those up to the time -/
theorem Kys.upto (h : Kys E) {t : Int} (ht : Uq t) : (E.filter (fun x => decide ([113] <+: x.1))).filter (fun x => decide (Ky.rdA 14 x.1 ≤ t)) = E.filter (abtw [113] (Ky.nxt (p14 t))) := by
  rw [List.filter_filter]
  refine List.filter_congr (fun x hx => ?_)
  obtain ⟨k, a, b, ho, e⟩ := h x hx
  have e2 : x = (Ky.mk k a b, x.2) := by rw [← e]
  rw [e2, key14 ht ho, key113 ho]
  by_cases c : k = 14
  · subst c
    simp [(back14 ho.2.1 ho.2.2).2.1]
  · simp [c]
def mk14E (e : Qe) : KV := (Ky.mk 14 e.due e.id, nv e.k)
def mk15E (e : Qe) : KV := (Ky.mk 15 e.val e.id, nv e.k)
theorem look_in (h : Rise E) {k v : List Int} : (k, v) ∈ E ↔ Kv.look E k = some v := by
  constructor
  · intro hm
    have : ∀ F : Ents, Rise F → (k, v) ∈ F → Kv.look F k = some v := by
      intro F hF hm
      induction F with
      | nil => cases hm
      | cons x F ih =>
        have hp := List.pairwise_cons.1 hF
        unfold Kv.look
        rcases List.mem_cons.1 hm with e | hm
        · subst e
          rw [List.find?_cons_of_pos (by simp)]
          rfl
        · have hl := hp.1 _ hm
          rw [List.find?_cons_of_neg]
          · exact ih hp.2 hm
          · intro q
            have q2 := of_decide_eq_true q
            rw [q2] at hl
            exact lt_irrefl _ hl
    exact this E h hm
  · exact Kv.look_mem
theorem kinds {x : Int} (h : x = 12 ∨ x = 13) : wrap64 (numB (nv x)) = x := by
  rcases h with rfl | rfl
  · rw [nv_back (by decide)]; unfold wrap64; omega
  · rw [nv_back (by decide)]; unfold wrap64; omega
def dueS (E : Ents) (t : Int) : Ents := E.filter (abtw [113] (Ky.nxt (p14 t)))
def frmS (E : Ents) (t : Int) : Ents := E.filter (fun x => decide (p15 t <+: x.1))
theorem Qs.dueS (h : Qs E nx A) (hnx : nx ≤ 18446744073709551616) {t : Int} (ht : Uq t) (x : KV) : x ∈ dueS E t ↔ ∃ e ∈ A, e.due ≤ t ∧ x = mk14E e := by
  unfold Qu.dueS
  rw [List.mem_filter]
  constructor
  · rintro ⟨hx, hp⟩
    obtain ⟨k, a, b, ho, e⟩ := h.keys x hx
    have e2 : x = (Ky.mk k a b, x.2) := by rw [← e]
    rw [e2, key14 ht ho] at hp
    obtain ⟨rfl, hle⟩ := of_decide_eq_true hp
    rw [e2] at hx
    obtain ⟨f, hf, f1, f2, f3⟩ := (h.dues a b ho.2.1 ho.2.2 x.2).1 ((look_in h.rise).1 hx)
    exact ⟨f, hf, by omega, by rw [e2]; unfold mk14E; rw [f1, f2, f3]⟩
  · rintro ⟨e, he, hle, rfl⟩
    obtain ⟨g1, g2, g3, g4, g5⟩ := h.good e he
    have hi := h.uid hnx he
    refine ⟨(look_in h.rise).2 ((h.dues e.due e.id g5 hi _).2 ⟨e, he, rfl, rfl, rfl⟩), ?_⟩
    unfold mk14E
    rw [key14 ht (ok14 g5 hi)]
    simp [hle]
theorem Qs.frmS (h : Qs E nx A) (hnx : nx ≤ 18446744073709551616) {t : Int} (ht : Uq t) (x : KV) : x ∈ frmS E t ↔ ∃ e ∈ A, e.val = t ∧ x = mk15E e := by
  unfold Qu.frmS
  rw [List.mem_filter]
  constructor
  · rintro ⟨hx, hp⟩
    obtain ⟨k, a, b, ho, e⟩ := h.keys x hx
    have e2 : x = (Ky.mk k a b, x.2) := by rw [← e]
    rw [e, key15 ht ho] at hp
    obtain ⟨rfl, hle⟩ := of_decide_eq_true hp
    rw [e2] at hx
    obtain ⟨f, hf, f1, f2, f3⟩ := (h.srcs a b ho.2.1 ho.2.2 x.2).1 ((look_in h.rise).1 hx)
    exact ⟨f, hf, by omega, by rw [e2]; unfold mk15E; rw [f1, f2, f3]⟩
  · rintro ⟨e, he, hle, rfl⟩
    obtain ⟨g1, g2, g3, g4, g5⟩ := h.good e he
    have hi := h.uid hnx he
    refine ⟨(look_in h.rise).2 ((h.srcs e.val e.id g4 hi _).2 ⟨e, he, rfl, rfl, rfl⟩), ?_⟩
    unfold mk15E
    rw [key15 ht (ok15 g4 hi)]
    simp [hle]
theorem upto_eq (E : Ents) (t : Int) : upto E (p14 t) = (dueS E t).map (fun x => (Ky.rdB x.1, wrap64 (numB x.2))) := rfl
theorem under_eq (E : Ents) (t : Int) : under E (p15 t) = (frmS E t).map (fun x => (Ky.rdB x.1, wrap64 (numB x.2))) := rfl
theorem Qs.val14 (h : Qs E nx A) (hnx : nx ≤ 18446744073709551616) {e : Qe} (he : e ∈ A) : (Ky.rdB (mk14E e).1, wrap64 (numB (mk14E e).2)) = (e.id, e.k) := by
  obtain ⟨g1, g2, g3, g4, g5⟩ := h.good e he
  unfold mk14E
  rw [(back14 g5 (h.uid hnx he)).2.2, kinds g1]
theorem Qs.val15 (h : Qs E nx A) (hnx : nx ≤ 18446744073709551616) {e : Qe} (he : e ∈ A) : (Ky.rdB (mk15E e).1, wrap64 (numB (mk15E e).2)) = (e.id, e.k) := by
  obtain ⟨g1, g2, g3, g4, g5⟩ := h.good e he
  unfold mk15E
  rw [(back15 g4 (h.uid hnx he)).2.2, kinds g1]
theorem rise_nodup (h : Rise E) : E.Nodup := List.Pairwise.imp (fun {x y} hl e => by rw [e] at hl; exact lt_irrefl _ hl) h
/-- each is told once, from its time on -/
theorem Qs.dueIn (h : Qs E nx A) (hnx : nx ≤ 18446744073709551616) {t : Int} (ht : Uq t) (i k : Int) : (upto E (p14 t)).count (i, k) = if ∃ e ∈ A, e.due ≤ t ∧ e.id = i ∧ e.k = k then 1 else 0 := by
  have nd : (upto E (p14 t)).Nodup := by
    rw [upto_eq]
    refine List.pairwise_map.2 (List.Pairwise.imp_of_mem (fun {x y} hx hy hne q => hne ?_) (rise_nodup (List.Pairwise.filter _ h.rise : Rise (Qu.dueS E t))))
    obtain ⟨e, he, _, rfl⟩ := (h.dueS hnx ht x).1 hx
    obtain ⟨f, hf, _, rfl⟩ := (h.dueS hnx ht y).1 hy
    rw [h.val14 hnx he, h.val14 hnx hf] at q
    rw [h.one he hf (by injection q)]
  rw [nd.count]
  have : (i, k) ∈ upto E (p14 t) ↔ ∃ e ∈ A, e.due ≤ t ∧ e.id = i ∧ e.k = k := by
    rw [upto_eq, List.mem_map]
    constructor
    · rintro ⟨x, hx, q⟩
      obtain ⟨e, he, hl, rfl⟩ := (h.dueS hnx ht x).1 hx
      rw [h.val14 hnx he] at q
      injection q with q1 q2
      exact ⟨e, he, hl, q1, q2⟩
    · rintro ⟨e, he, hl, rfl, rfl⟩
      exact ⟨mk14E e, (h.dueS hnx ht _).2 ⟨e, he, hl, rfl⟩, h.val14 hnx he⟩
  by_cases c : (i, k) ∈ upto E (p14 t)
  · rw [if_pos c, if_pos (this.1 c)]
  · rw [if_neg c, if_neg (fun q => c (this.2 q))]
theorem Qs.frmIn (h : Qs E nx A) (hnx : nx ≤ 18446744073709551616) {t : Int} (ht : Uq t) (i k : Int) : (under E (p15 t)).count (i, k) = if ∃ e ∈ A, e.val = t ∧ e.id = i ∧ e.k = k then 1 else 0 := by
  have nd : (under E (p15 t)).Nodup := by
    rw [under_eq]
    refine List.pairwise_map.2 (List.Pairwise.imp_of_mem (fun {x y} hx hy hne q => hne ?_) (rise_nodup (List.Pairwise.filter _ h.rise : Rise (Qu.frmS E t))))
    obtain ⟨e, he, _, rfl⟩ := (h.frmS hnx ht x).1 hx
    obtain ⟨f, hf, _, rfl⟩ := (h.frmS hnx ht y).1 hy
    rw [h.val15 hnx he, h.val15 hnx hf] at q
    rw [h.one he hf (by injection q)]
  rw [nd.count]
  have : (i, k) ∈ under E (p15 t) ↔ ∃ e ∈ A, e.val = t ∧ e.id = i ∧ e.k = k := by
    rw [under_eq, List.mem_map]
    constructor
    · rintro ⟨x, hx, q⟩
      obtain ⟨e, he, hl, rfl⟩ := (h.frmS hnx ht x).1 hx
      rw [h.val15 hnx he] at q
      injection q with q1 q2
      exact ⟨e, he, hl, q1, q2⟩
    · rintro ⟨e, he, hl, rfl, rfl⟩
      exact ⟨mk15E e, (h.frmS hnx ht _).2 ⟨e, he, hl, rfl⟩, h.val15 hnx he⟩
  by_cases c : (i, k) ∈ under E (p15 t)
  · rw [if_pos c, if_pos (this.1 c)]
  · rw [if_neg c, if_neg (fun q => c (this.2 q))]
/-- as many as there are entries -/
theorem Qs.dueLen (h : Qs E nx A) (hnx : nx ≤ 18446744073709551616) : (upto E (p14 18446744073709551615)).length = A.length := by
  rw [upto_eq, List.length_map]
  have nd : (A.map mk14E).Nodup := by
    refine List.pairwise_map.2 (List.Pairwise.imp_of_mem (fun {e f} he hf hne q => hne ?_) h.ids)
    have := congrArg (fun x : KV => Ky.rdB x.1) q
    obtain ⟨g1, g2, g3, g4, g5⟩ := h.good e he
    obtain ⟨k1, k2, k3, k4, k5⟩ := h.good f hf
    simp only [mk14E] at this
    rw [(back14 g5 (h.uid hnx he)).2.2, (back14 k5 (h.uid hnx hf)).2.2] at this
    exact this
  have p : (Qu.dueS E 18446744073709551615).Perm (A.map mk14E) := (List.perm_ext_iff_of_nodup (rise_nodup (List.Pairwise.filter _ h.rise : Rise (Qu.dueS E _))) nd).2 (fun x => by
    refine (h.dueS hnx (by decide) x).trans ?_
    rw [List.mem_map]
    constructor
    · rintro ⟨e, he, _, rfl⟩
      exact ⟨e, he, rfl⟩
    · rintro ⟨e, he, rfl⟩
      exact ⟨e, he, by have := (h.good e he).2.2.2.2; omega, rfl⟩)
  rw [p.length_eq, List.length_map]
/-- what stands where among those due, and how neighbours stand -/
theorem Qs.dueAt (h : Qs E nx A) (hnx : nx ≤ 18446744073709551616) {t : Int} (ht : Uq t) {j : Nat} (hj : j < (upto E (p14 t)).length) : ∃ e ∈ A, e.due ≤ t ∧ (Qu.dueS E t)[j]? = some (mk14E e) ∧ (upto E (p14 t))[j]? = some (e.id, e.k) := by
  have hj2 : j < (Qu.dueS E t).length := by rw [upto_eq, List.length_map] at hj; exact hj
  obtain ⟨e, he, hl, q⟩ := (h.dueS hnx ht (Qu.dueS E t)[j]).1 (List.getElem_mem hj2)
  refine ⟨e, he, hl, by rw [List.getElem?_eq_getElem hj2, q], ?_⟩
  rw [upto_eq, List.getElem?_map, List.getElem?_eq_getElem hj2, q]
  exact congrArg some (h.val14 hnx he)
theorem Qs.dueOrd (h : Qs E nx A) (hnx : nx ≤ 18446744073709551616) {t : Int} (ht : Uq t) {j : Nat} (hj : j + 1 < (upto E (p14 t)).length) : ∃ e ∈ A, ∃ f ∈ A, (upto E (p14 t))[j]? = some (e.id, e.k) ∧ (upto E (p14 t))[j + 1]? = some (f.id, f.k) ∧ (e.due < f.due ∨ (e.due = f.due ∧ e.id < f.id)) := by
  obtain ⟨e, he, _, e1, e2⟩ := h.dueAt hnx ht (j := j) (by omega)
  obtain ⟨f, hf, _, f1, f2⟩ := h.dueAt hnx ht hj
  refine ⟨e, he, f, hf, e2, f2, ?_⟩
  obtain ⟨l1, q1⟩ := List.getElem?_eq_some_iff.1 e1
  obtain ⟨l2, q2⟩ := List.getElem?_eq_some_iff.1 f1
  have hr : Rise (Qu.dueS E t) := List.Pairwise.filter _ h.rise
  have hl := List.pairwise_iff_getElem.1 hr j (j + 1) l1 l2 (by omega)
  rw [q1, q2] at hl
  obtain ⟨g1, g2, g3, g4, g5⟩ := h.good e he
  obtain ⟨k1, k2, k3, k4, k5⟩ := h.good f hf
  have q := (Ky.mk_lt (k := 14) (by decide) (by decide) g5 (h.uid hnx he) k5 (h.uid hnx hf) (mkE14 _ _) (mkE14 _ _)).1 hl
  simpa using q
theorem Qs.frmOrd (h : Qs E nx A) (hnx : nx ≤ 18446744073709551616) {t : Int} (ht : Uq t) {j : Nat} (hj : j + 1 < (under E (p15 t)).length) : ∃ e ∈ A, ∃ f ∈ A, (under E (p15 t))[j]? = some (e.id, e.k) ∧ (under E (p15 t))[j + 1]? = some (f.id, f.k) ∧ e.id < f.id := by
  have hj2 : j + 1 < (Qu.frmS E t).length := by rw [under_eq, List.length_map] at hj; exact hj
  obtain ⟨e, he, ev, q⟩ := (h.frmS hnx ht (Qu.frmS E t)[j]).1 (List.getElem_mem (by omega))
  obtain ⟨f, hf, fv, q'⟩ := (h.frmS hnx ht (Qu.frmS E t)[j + 1]).1 (List.getElem_mem hj2)
  refine ⟨e, he, f, hf, ?_, ?_, ?_⟩
  · rw [under_eq, List.getElem?_map, List.getElem?_eq_getElem (by omega), q]
    exact congrArg some (h.val15 hnx he)
  · rw [under_eq, List.getElem?_map, List.getElem?_eq_getElem hj2, q']
    exact congrArg some (h.val15 hnx hf)
  · have hr : Rise (Qu.frmS E t) := List.Pairwise.filter _ h.rise
    have hl := List.pairwise_iff_getElem.1 hr j (j + 1) (by omega) hj2 (by omega)
    rw [q, q'] at hl
    obtain ⟨g1, g2, g3, g4, g5⟩ := h.good e he
    obtain ⟨k1, k2, k3, k4, k5⟩ := h.good f hf
    have q := (Ky.mk_lt (k := 15) (by decide) (by decide) g4 (h.uid hnx he) k4 (h.uid hnx hf) (mkE15 _ _) (mkE15 _ _)).1 hl
    simp at q
    omega
/-- where no entry is left, the chain record alone lies there -/
theorem Qs.bare (h : Qs E nx []) : E.length ≤ 1 := by
  have hk : ∀ x ∈ E, x.1 = Ky.mk 2 0 0 := fun x hx => by
    obtain ⟨k, a, b, ho, e⟩ := h.keys x hx
    have hl : Kv.look E (Ky.mk k a b) = some x.2 := (look_in h.rise).1 (by rw [← e]; exact hx)
    rcases ho.1 with ⟨rfl, rfl, rfl⟩ | ⟨rfl, rfl⟩ | ⟨rfl, rfl⟩ | rfl | rfl | rfl
    · exact e
    · rw [h.noRec 12 a (.inl rfl) ho.2.1 (fun _ h => by cases h)] at hl; cases hl
    · rw [h.noRec 13 a (.inr rfl) ho.2.1 (fun _ h => by cases h)] at hl; cases hl
    · obtain ⟨f, hf, _⟩ := (h.dues a b ho.2.1 ho.2.2 x.2).1 hl; cases hf
    · obtain ⟨f, hf, _⟩ := (h.srcs a b ho.2.1 ho.2.2 x.2).1 hl; cases hf
    · rw [h.cnts a b ho.2.1 ho.2.2] at hl; cases hl
  have hr := h.rise
  match E, hk, hr with
  | [], _, _ => simp
  | [_], _, _ => simp
  | x :: y :: E, hk, hr =>
    have h1 := hk x (by simp)
    have h2 := hk y (by simp)
    have h3 := (List.pairwise_cons.1 hr).1 y (by simp)
    rw [h1, h2] at h3
    exact absurd h3 (lt_irrefl _)
end
end Qu
end Go.Proofs.YtidnifmehnjipaaGreat
