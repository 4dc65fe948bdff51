/- Several texts, joined: PgPq, PgWx. -/
import Derived.Test.YtjnjkgakdnjlmaaJae
namespace Go.Proofs.Ytjnjkgakdnjlmaa
namespace Pg
open Go.RowKit Go.Lib
attribute [local go_sem] Oper.semAt_some
/-- a list of pairs, es, in a block from B on; its bytes in D's -/
structure Pq (w : World) (B : Nat) (D : Nat → Prop) (v : Value) (es : List En) : Prop where
  ex : (v = .slice none 0 0 ∧ es = []) ∨ ∃ b c, v = .slice (some ⟨b, 0, none⟩) es.length c ∧ B ≤ b ∧ Rw w 52 2 b es.length c (flat es)
  ents : ∀ e ∈ es, EnA w D e
theorem Pq.shape {w : World} {B : Nat} {D : Nat → Prop} {v : Value} {es : List En} (h : Pq w B D v es) : ∃ ao c, v = .slice ao es.length c := by
  rcases h.ex with ⟨rfl, rfl⟩ | ⟨b, c, rfl, _⟩
  · exact ⟨none, 0, rfl⟩
  · exact ⟨_, c, rfl⟩
theorem Pq.keep {w w' : World} {B : Nat} {D : Nat → Prop} {v : Value} {es : List En} (h : Pq w B D v es) (hb : Below w.heap.size w w') : Pq w' B D v es :=
  ⟨h.ex.imp id (fun ⟨b, c, e, hl, hR⟩ => ⟨b, c, e, hl, hR.keep hb⟩), fun e he => (h.ents e he).keep hb⟩
theorem Pq.nil (w : World) (B : Nat) (D : Nat → Prop) : Pq w B D (.slice none 0 0) [] := ⟨.inl ⟨rfl, rfl⟩, fun _ h => by simp at h⟩
theorem PrA.q {w : World} {B : Nat} {v : Value} {es : List En} (h : PrA w B v es) : Pq w B (B ≤ ·) v es := ⟨h.ex, h.ents⟩
theorem Pq.a {w : World} {B B0 : Nat} {D : Nat → Prop} {v : Value} {es : List En} (h : Pq w B D v es) (hB : B0 ≤ B) (hD : ∀ b, b < w.heap.size → D b → B0 ≤ b) : PrA w B0 v es :=
  ⟨h.ex.imp id (fun ⟨b, c, e, hl, hR⟩ => ⟨b, c, e, by omega, hR⟩), fun e he => (h.ents e he).mono hD⟩
theorem Pq.spr {w w' : World} {B B1 : Nat} {D : Nat → Prop} {v : Value} {es : List En} (h : Pq w B D v es) (hS : Spr B1 w w') (hb : ∀ b c, v = .slice (some ⟨b, 0, none⟩) es.length c → b < B1) : Pq w' B D v es :=
  ⟨h.ex.imp id (fun ⟨b, c, e, hl, hR⟩ => ⟨b, c, e, hl, hR.chg hS.chg (fun ⟨h1, _⟩ => by have := hb b c e; omega)⟩), fun e he => ⟨hS.ob (h.ents e he).k, hS.ob (h.ents e he).v⟩⟩
theorem Pq.cells {w : World} {B p n c : Nat} {D : Nat → Prop} {es : List En} (h : Pq w B D (.slice (some ⟨p, 0, none⟩) n c) es) {k : Nat} {e : En} (hk : es[k]? = some e) : w.cell? ⟨p, k * 2, none⟩ = some e.kv ∧ w.cell? ⟨p, k * 2 + 1, none⟩ = some e.vv ∧ p < w.heap.size := by
  rcases h.ex with ⟨e1, rfl⟩ | ⟨b, c', e1, hl, hR⟩
  · simp at hk
  · cases e1
    obtain ⟨h1, h2⟩ := flat_at hk
    exact ⟨hR.cell h1, hR.cell h2, hR.lt⟩
theorem Pq.some {w : World} {B n c : Nat} {ao : Option Addr} {D : Nat → Prop} {es : List En} (h : Pq w B D (.slice ao n c) es) {k : Nat} {e : En} (hk : es[k]? = some e) : ∃ p, ao = Option.some ⟨p, 0, none⟩ := by
  rcases h.ex with ⟨_, e⟩ | ⟨p, c', e, _⟩
  · subst e; simp at hk
  · cases e; exact ⟨p, rfl⟩
theorem app_pq {w : World} {B : Nat} {D : Nat → Prop} {ov : Value} {es : List En} {e : En} {a : Addr} (ty : TypeId) (h : Pq w B D ov es) (hB : B ≤ w.heap.size) (he : EnA w D e) (hl : es.length ≤ 2000000000) (c0 : w.cell? (a.add 0) = some e.kv) (c1 : w.cell? (a.add 1) = some e.vv) :
    ∃ ov' w', (Builtin.append_ #[44, 44] ty #[ov, .slice (some a) 1 1]).run Try.prog w = .ok ov' w' ∧ Pq w' B D ov' (es ++ [e]) ∧ Spr B w w' := by
  have hnews : ∀ j u, [e.kv, e.vv][j]? = some u → w.cell? (a.add j) = some u := fun j u hj => by
    match j with
    | 0 => simp at hj; rw [← hj]; exact c0
    | 1 => simp at hj; rw [← hj]; exact c1
    | k + 2 => simp at hj
  rcases h.ex with ⟨rfl, rfl⟩ | ⟨b, c, rfl, hb, hR⟩
  · obtain ⟨c', w', hr, hR, hw⟩ := app_nil (w := w) KQ ty a 1 1 [e.kv, e.vv] rfl hnews (by omega) (by omega) (by omega)
    refine ⟨_, w', hr, ⟨.inr ⟨_, c', rfl, hB, hR⟩, fun x hx => ?_⟩, Spr.of hw⟩
    simp at hx
    subst hx
    exact he.keep hw
  · obtain ⟨ak, nk, hk1⟩ := he.k.shape
    obtain ⟨av, nv, hv1⟩ := he.v.shape
    obtain ⟨b', c', w', hr, hb', hR', hw⟩ := app_row (w := w) KQ ty hR a 1 1 [e.kv, e.vv] rfl hnews (by rw [hk1, hv1]; simp [Value.oneCell']) (by omega) (by omega)
    obtain ⟨cs0, k0⟩ := hR.kind
    have hS : Spr B w w' := ⟨hw.mono (fun x _ ex => ⟨ex ▸ hb, cs0, ex ▸ k0⟩)⟩
    refine ⟨_, w', hr, ⟨.inr ⟨b', c', by simp, by rcases hb' with rfl | rfl <;> assumption, by rw [flat_append, List.length_append]; exact hR'⟩, fun x hx => ?_⟩, hS⟩
    have hx' : EnA w D x := by
      rcases List.mem_append.1 hx with hx | hx
      · exact h.ents x hx
      · simp at hx; rw [hx]; exact he
    exact ⟨hS.ob hx'.k, hS.ob hx'.v⟩
theorem Spr.below {B : Nat} {w w' : World} (h : Spr B w w') (hB : B ≤ w.heap.size) : Below B w w' := h.chg.below (fun _ h => h.1) hB
theorem lit2 (w : World) (u v : Value) (t : TypeId) : (w.alloc (.cells #[u, v] t)).cell? ((⟨w.heap.size, 0, none⟩ : Addr).add 0) = some u ∧ (w.alloc (.cells #[u, v] t)).cell? ((⟨w.heap.size, 0, none⟩ : Addr).add 1) = some v := by
  have h := blk_new w [u, v] t
  exact ⟨h.cell (i := 0) rfl, h.cell (i := 1) rfl⟩
/-- one more pair, a copy of one that lies elsewhere -/
theorem app_copy {w : World} {B : Nat} {D : Nat → Prop} {ov : Value} {es : List En} {e : En} (h : Pq w B D ov es) (hB : B ≤ w.heap.size) (he : EnA w D e) (hl : es.length ≤ 2000000000) :
    ∃ ov' w', (Builtin.append_ #[44, 44] 44 #[ov, .slice (some ⟨w.heap.size, 0, none⟩) 1 1]).run Try.prog (w.alloc (.cells #[e.kv, e.vv] 52)) = .ok ov' w' ∧ Pq w' B D ov' (es ++ [e]) ∧ Below B w w' := by
  have hb := below_alloc w (.cells #[e.kv, e.vv] 52)
  obtain ⟨c0, c1⟩ := lit2 w e.kv e.vv 52
  obtain ⟨ov', w', hr, hP, hS⟩ := app_pq (a := ⟨w.heap.size, 0, none⟩) 44 (h.keep hb) (Nat.le_trans hB hb.size) (he.keep hb) hl c0 c1
  exact ⟨ov', w', hr, hP, (hb.mono hB).trans (hS.below (Nat.le_trans hB hb.size))⟩
/-- the first n, or the last n backwards -/
def fst' (es : List En) (back : Bool) : List En := if back then es.reverse else es
set_option maxHeartbeats 2000000 in
set_option maxRecDepth 100000 in
theorem first_any {w : World} {B n : Nat} {back : Bool} {v : Value} {es : List En} (h : PrA w B v es) (hl : es.length ≤ 1000000000) (hn : n ≤ 1000000000) :
    Calls Try.prog 22 #[v, .bool back, .int .i64 n] w fun e w' => ∃ v', e = .returned v' ∧ Pq w' w.heap.size (fun b => B ≤ b ∧ b < w.heap.size) v' ((fst' es back).take n) ∧ Below w.heap.size w w' := by
  obtain ⟨ao, c, rfl⟩ := h.shape
  obtain ⟨m, hm⟩ : ∃ m, Hid (es.length = m) := ⟨_, rfl⟩
  rw [hm.out] at h hl ⊢
  have HA : Hid _ := h
  have HFL : Hid ((fst' es back).length = m) := by show _ = _; unfold fst'; split <;> simp [hm.out]
  clear h
  go_enter Try.func22, Try.ntmps22
  go_wp2_with fail
  go_loopw [7, 8] (fun tv ti wr => ∃ k : Nat, k ≤ m ∧ k ≤ n ∧ ti = .int .i64 k ∧ Hid (Pq wr w.heap.size (fun b => B ≤ b ∧ b < w.heap.size) tv ((fst' es back).take k)) ∧ Hid (Below w.heap.size w wr)) (fun _ ti _ => m - (intOf ti).toNat)
  case atStart => exact ⟨0, Nat.zero_le _, Nat.zero_le _, rfl, Pq.nil _ _ _, Below.refl _ _⟩
  case round =>
    obtain ⟨k, hk, hkn, rfl, HP, HB⟩ := hrel
    obtain ⟨bo, d, hbo⟩ := HP.out.shape
    have hkl : ((fst' es back).take k).length = k := by rw [List.length_take, HFL.out]; omega
    rw [hkl] at hbo
    subst hbo
    clear hkl
    by_cases hlt : k < m
    · by_cases hltn : k < n
      · cases back
        · obtain ⟨x, hx⟩ : ∃ x, es[k]? = some x := ⟨es[k]'(by have := hm.out; omega), List.getElem?_eq_getElem _⟩
          obtain ⟨p, rfl⟩ := HA.out.q.some hx
          have X := (HA.out.ents x (List.mem_of_getElem? hx)).mono (D' := fun b => B ≤ b ∧ b < w.heap.size) (fun b h1 h2 => ⟨h2, h1⟩)
          obtain ⟨c1, c2, _⟩ := (HA.out.keep HB.out).cells hx
          obtain ⟨ov', w', hr, hP, hS⟩ := app_copy HP.out HB.out.size (X.keep HB.out) (by rw [List.length_take]; omega)
          obtain ⟨xk, xkl, xv, xvl⟩ := x
          obtain ⟨a1, n1, e1⟩ := X.k.shape
          obtain ⟨a2, n2, e2⟩ := X.v.shape
          simp only at e1 e2 c1 c2 hr
          subst e1 e2
          have HT : Hid ((fst' es false).take (k + 1) = (fst' es false).take k ++ [⟨.slice a1 xkl.length n1, xkl, .slice a2 xvl.length n2, xvl⟩]) := by
            show _ = _
            rw [List.take_add_one, show fst' es false = es from rfl, hx]; rfl
          have HPP : Hid _ := hP
          have HSS : Hid _ := hS
          have hk0 : (k : Int) < m := by omega
          have hk1 : (k : Int) < n := by omega
          clear hP hS X hx
          go_wp2_with (at_builtin; refine Lib.wpList_append_run _ rfl _ _ _ _ rfl _ _ rfl rfl _ _ hr ?_)
          go_roundw
          case rel => exact ⟨k + 1, by omega, by omega, by go_num, by rw [HT.out]; exact HPP, HB.out.trans HSS.out⟩
          case measure => simp [intOf]; omega
        · obtain ⟨j, HJ⟩ : ∃ j, Hid (j + k + 1 = m) := ⟨m - 1 - k, by show _ = _; omega⟩
          obtain ⟨x, hx⟩ : ∃ x, es[j]? = some x := ⟨es[j]'(by have := hm.out; have := HJ.out; omega), List.getElem?_eq_getElem _⟩
          obtain ⟨p, rfl⟩ := HA.out.q.some hx
          have X := (HA.out.ents x (List.mem_of_getElem? hx)).mono (D' := fun b => B ≤ b ∧ b < w.heap.size) (fun b h1 h2 => ⟨h2, h1⟩)
          obtain ⟨c1, c2, _⟩ := (HA.out.keep HB.out).cells hx
          obtain ⟨ov', w', hr, hP, hS⟩ := app_copy HP.out HB.out.size (X.keep HB.out) (by rw [List.length_take]; omega)
          obtain ⟨xk, xkl, xv, xvl⟩ := x
          obtain ⟨a1, n1, e1⟩ := X.k.shape
          obtain ⟨a2, n2, e2⟩ := X.v.shape
          simp only at e1 e2 c1 c2 hr
          subst e1 e2
          have HT : Hid ((fst' es true).take (k + 1) = (fst' es true).take k ++ [⟨.slice a1 xkl.length n1, xkl, .slice a2 xvl.length n2, xvl⟩]) := by
            show _ = _
            rw [List.take_add_one, show fst' es true = es.reverse from rfl, List.getElem?_reverse (by have := hm.out; omega), show es.length - 1 - k = j by have := hm.out; have := HJ.out; omega, hx]; rfl
          have HPP : Hid _ := hP
          have HSS : Hid _ := hS
          have hk0 : (k : Int) < m := by omega
          have hk1 : (k : Int) < n := by omega
          have hj0 : (j : Int) < m := by have := HJ.out; omega
          have hj1 : (m : Int) - 1 - (k : Int) = (j : Int) := by have := HJ.out; omega
          have hj2 : IntKind.i64.wrap ((m : Int) - 1) = (m : Int) - 1 := by rw [IntKind.wrap_i64]; omega
          clear hP hS X hx
          go_wp2_with (at_builtin; refine Lib.wpList_append_run _ rfl _ _ _ _ rfl _ _ rfl rfl _ _ hr ?_)
          go_roundw
          case rel => exact ⟨k + 1, by omega, by omega, by go_num, by rw [HT.out]; exact HPP, HB.out.trans HSS.out⟩
          case measure => simp [intOf]; omega
      · have hk2 : ¬ ((k : Int) < n) := by omega
        have hk3 : (k : Int) < m := by omega
        obtain rfl : k = n := by omega
        go_wp2
        go_ret
        exact ⟨_, rfl, HP.out, HB.out⟩
    · obtain rfl : k = m := by omega
      have hT : Hid ((fst' es back).take n = (fst' es back).take k) := by
        show _ = _
        rw [List.take_of_length_le (by have := HFL.out; omega), List.take_of_length_le (by have := HFL.out; omega)]
      go_wp2
      go_ret
      rw [hT.out]
      exact ⟨_, rfl, HP.out, HB.out⟩
end Pg
end Go.Proofs.Ytjnjkgakdnjlmaa

namespace Go.Proofs.Ytjnjkgakdnjlmaa
namespace Pg
open Go.RowKit Go.Lib
theorem Pq.sh {w : World} {B : Nat} {D : Nat → Prop} {v : Value} {es : List En} (h : Pq w B D v es) : ∃ ao n c, v = .slice ao n c := by
  obtain ⟨ao, c, e⟩ := h.shape
  exact ⟨ao, _, c, e⟩
theorem PrA.sh {w : World} {B : Nat} {v : Value} {es : List En} (h : PrA w B v es) : ∃ ao n c, v = .slice ao n c := by
  obtain ⟨ao, c, e⟩ := h.shape
  exact ⟨ao, _, c, e⟩
theorem hid {p : Prop} (h : p) : Hid p := h
theorem AOrd.del_first {Q : List (List KV)} (h : AOrd Q) {x : KV} {r : List KV} (e : Q.flatten = x :: r) : (adel Q x.1).flatten = r := by
  have hh : ahas Q x.1 = true := (h.has_iff _).2 (by rw [e]; simp)
  obtain ⟨X, y, Y, e1, e2⟩ := h.del_old hh
  have hp := h.flat
  cases X with
  | nil =>
    rw [e2]
    rw [e] at e1
    simp at e1
    exact e1.2.symm
  | cons x0 X =>
    rw [e1] at hp
    rw [e] at e1
    simp at e1
    have := (List.pairwise_cons.1 hp).1 (x.1, y) (by simp)
    rw [← e1.1] at this
    exact (lt_irrefl _ this).elim
theorem Mp.ne {w : World} {F D : Nat → Prop} {g N : Nat} {Q : List (List KV)} (M : Mp w F D g Q N) : ∀ es ∈ Q, es ≠ [] := by
  obtain ⟨L, rfl, A, O, S, n, r⟩ := M.ex
  intro es he h
  obtain ⟨es', h1, rfl⟩ := List.mem_map.1 he
  have := (S.one es' h1).1
  rw [List.map_eq_nil_iff] at h
  rw [h] at this
  simp at this
theorem Mb.none {w : World} {B g N : Nat} {Q : List (List KV)} (h : Mb w B g Q N) (e : Q.flatten = []) : Q = [] := by
  obtain ⟨F, M, _⟩ := h
  cases Q with
  | nil => rfl
  | cons a Q =>
    have := M.ne a List.mem_cons_self
    simp at e
    exact (this e.1).elim
theorem Mb.ord {w : World} {B g N : Nat} {Q : List (List KV)} (h : Mb w B g Q N) : AOrd Q := by
  obtain ⟨F, M, _⟩ := h
  exact M.ord
theorem Mb.size {w : World} {B g N : Nat} {Q : List (List KV)} (h : Mb w B g Q N) : Q.flatten.length ≤ N := by
  obtain ⟨F, M, _⟩ := h
  exact M.len
theorem Mb.small {w : World} {B g N : Nat} {Q : List (List KV)} (h : Mb w B g Q N) : ∀ x ∈ Q.flatten, x.1.length ≤ 1000000000 ∧ x.2.length ≤ 1000000000 := by
  obtain ⟨F, M, _⟩ := h
  exact M.small
theorem PrA.nil (w : World) (B : Nat) : PrA w B (.slice none 0 0) [] := ⟨.inl ⟨rfl, rfl⟩, fun _ h => by simp at h⟩
theorem mup0 {w : World} {B g N n : Nat} {Q : List (List KV)} {fv tv : Value} {f t : List Int} (h : Mb w B g Q N) (hN : N ≤ 100000000) (hf : By w fv f) (ht : By w tv t) (hfl : f.length ≤ 1000000000) (htl : t.length ≤ 1000000000) (hn : n ≤ 1073741824) :
    Calls Try.prog 21 #[.pointer (some ⟨g, 0, none⟩), fv, tv, .bool false, .int .i64 n] w fun e w' => ∃ v es, e = .returned v ∧ PrA w' w.heap.size v es ∧ es.map En.kl2 = (Q.flatten.filter (abtw f t)).take n ∧ Below w.heap.size w w' := by
  by_cases h0 : n = 0
  · subst h0
    obtain ⟨F, M, _⟩ := h
    exact (mno (back := false) M hN hf ht hfl htl).mono fun e w' ⟨he, hb⟩ => ⟨_, [], he, PrA.nil _ _, by simp, hb⟩
  · exact h.up hN hf ht hfl htl (by omega) hn
theorem mdown0 {w : World} {B g N n : Nat} {Q : List (List KV)} {fv tv : Value} {f t : List Int} (h : Mb w B g Q N) (hN : N ≤ 100000000) (hf : By w fv f) (ht : By w tv t) (hfl : f.length ≤ 1000000000) (htl : t.length ≤ 1000000000) (hn : n ≤ 1073741824) :
    Calls Try.prog 21 #[.pointer (some ⟨g, 0, none⟩), fv, tv, .bool true, .int .i64 n] w fun e w' => ∃ v es, e = .returned v ∧ PrA w' w.heap.size v es ∧ es.map En.kl2 = (Q.flatten.filter (abtw f t)).reverse.take n ∧ Below w.heap.size w w' := by
  by_cases h0 : n = 0
  · subst h0
    obtain ⟨F, M, _⟩ := h
    exact (mno (back := true) M hN hf ht hfl htl).mono fun e w' ⟨he, hb⟩ => ⟨_, [], he, PrA.nil _ _, by simp, hb⟩
  · exact h.down hN hf ht hfl htl (by omega) hn
theorem small_of {a : List En} {l : List KV} (h : a.map En.kl2 = l) (hl : ∀ x ∈ l, x.1.length ≤ 1000000000 ∧ x.2.length ≤ 1000000000) : ∀ e ∈ a, e.kl.length ≤ 1000000000 ∧ e.vl.length ≤ 1000000000 := fun e he => hl e.kl2 (by rw [← h]; exact List.mem_map.2 ⟨e, he, rfl⟩)
theorem small_take {a : List En} {l : List KV} {n : Nat} (h : a.map En.kl2 = l.take n) (hl : ∀ x ∈ l, x.1.length ≤ 1000000000 ∧ x.2.length ≤ 1000000000) : ∀ e ∈ a, e.kl.length ≤ 1000000000 ∧ e.vl.length ≤ 1000000000 := small_of h fun x hx => hl x (List.mem_of_mem_take hx)
/-- the blocks from a up to b stay -/
structure KpR (a b : Nat) (w w' : World) : Prop where
  same : ∀ x, a ≤ x → x < b → w'.heap[x]? = w.heap[x]?
theorem KpR.refl (a b : Nat) (w : World) : KpR a b w w := ⟨fun _ _ _ => rfl⟩
theorem KpR.trans {a b : Nat} {w w1 w2 : World} (h : KpR a b w w1) (h' : KpR a b w1 w2) : KpR a b w w2 := ⟨fun x h1 h2 => (h'.same x h1 h2).trans (h.same x h1 h2)⟩
theorem KpR.of {a b : Nat} {w w' : World} (h : Below w.heap.size w w') (hb : b ≤ w.heap.size) : KpR a b w w' := ⟨fun x _ h2 => h.block x (by omega)⟩
theorem PrA.kpr {w w' : World} {B : Nat} {v : Value} {es : List En} (h : PrA w B v es) (hk : KpR B w.heap.size w w') : PrA w' B v es :=
  ⟨h.ex.imp id (fun ⟨b, c, e, hl, hR⟩ => ⟨b, c, e, hl, hR.same (hk.same b hl hR.lt)⟩), fun e he => (h.ents e he).same fun b h1 h2 => hk.same b h2 h1⟩
/-- two maps; the first one's blocks lie below lo or from hi on -/
structure Mu (w : World) (B lo hi g : Nat) (Q : List (List KV)) (N g' : Nat) (Q' : List (List KV)) (N' : Nat) : Prop where
  ex : ∃ F F', Mp w F (B ≤ ·) g Q N ∧ Mp w F' (B ≤ ·) g' Q' N' ∧ (∀ b, F b → ¬ F' b) ∧ (∀ b, F b → B ≤ b) ∧ (∀ b, F' b → B ≤ b) ∧ ∀ b, F b → b < lo ∨ hi ≤ b
theorem Mt.u {w w' : World} {B g N g' N' : Nat} {Q Q' : List (List KV)} (h : Mt w B g Q N g' Q' N') (hb : Below w.heap.size w w') : Mu w' B w.heap.size w'.heap.size g Q N g' Q' N' := by
  obtain ⟨F, F', M, M', hd, hF, hF'⟩ := h
  exact ⟨F, F', M.keep hb, M'.keep hb, hd, hF, hF', fun b h => .inl (M.lt h)⟩
theorem Mu.fst {w : World} {B lo hi g N g' N' : Nat} {Q Q' : List (List KV)} (h : Mu w B lo hi g Q N g' Q' N') : Mb w B g Q N := by
  obtain ⟨F, F', M, M', hd, hF, hF', _⟩ := h.ex
  exact ⟨F, M, hF⟩
theorem Mu.snd {w : World} {B lo hi g N g' N' : Nat} {Q Q' : List (List KV)} (h : Mu w B lo hi g Q N g' Q' N') : Mb w B g' Q' N' := by
  obtain ⟨F, F', M, M', hd, hF, hF', _⟩ := h.ex
  exact ⟨F', M', hF'⟩
theorem Mu.keep {w w' : World} {B lo hi g N g' N' : Nat} {Q Q' : List (List KV)} (h : Mu w B lo hi g Q N g' Q' N') (hb : Below w.heap.size w w') : Mu w' B lo hi g Q N g' Q' N' := by
  obtain ⟨F, F', M, M', r⟩ := h.ex
  exact ⟨F, F', M.keep hb, M'.keep hb, r⟩
theorem Mu.more {w : World} {B lo hi g N g' N' M M' : Nat} {Q Q' : List (List KV)} (h : Mu w B lo hi g Q N g' Q' N') (h1 : N ≤ M) (h2 : N' ≤ M') : Mu w B lo hi g Q M g' Q' M' := by
  obtain ⟨F, F', A, A', r⟩ := h.ex
  exact ⟨F, F', A.more h1, A'.more h2, r⟩
theorem Mu.del {w : World} {B lo hi g N g' N' : Nat} {Q Q' : List (List KV)} {kv : Value} {k : List Int} (h : Mu w B lo hi g Q N g' Q' N') (hB : B ≤ w.heap.size) (hh : hi ≤ w.heap.size) (hk : By w kv k) (hN : N ≤ 100000000) :
    Calls Try.prog 14 #[.pointer (some ⟨g, 0, none⟩), kv] w fun e w' => e = .returned (.bool (ahas Q k)) ∧ Mu w' B lo hi g (adel Q k) N g' Q' N' ∧ Below B w w' ∧ KpR lo hi w w' := by
  obtain ⟨F, F', M, M', hd, hF, hF', hR⟩ := h.ex
  refine (mdel M hk hN).mono fun e w' ⟨he, F2, M2, hF2, hc⟩ => ⟨he, ⟨F2, F', M2, M'.chg hc hd (fun b hb cs => M.noU hb cs), fun b hb hb' => ?_, fun b hb => (hF2 b hb).elim (hF b) (fun h => by omega), hF', fun b hb => (hF2 b hb).elim (hR b) (fun h => .inr (by omega))⟩, hc.below hF hB, ⟨fun x h1 h2 => hc.same x (by omega) fun f => by have := hR x f; omega⟩⟩
  rcases hF2 b hb with h | h
  · exact hd b h hb'
  · have := M'.lt hb'; omega
theorem take_all {l : List KV} {n : Nat} (h : l.length ≤ n) : l.take n = l := List.take_of_length_le h
end Pg
end Go.Proofs.Ytjnjkgakdnjlmaa
