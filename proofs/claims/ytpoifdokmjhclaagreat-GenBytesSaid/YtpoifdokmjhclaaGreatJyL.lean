/- Several texts, joined: KvCb, KvLi, KvCc, KvCd, KvCe, KvCg. -/
import Derived.Test.YtpoifdokmjhclaaGreatJyi
import Derived.Lib.SlBytesConst
namespace Go.Proofs.YtpoifdokmjhclaaGreat
namespace Kv
open Go.RowKit Go.Lib Pg
attribute [local go_sem] Oper.semAt_some
theorem under_byte : Tryz.prog.underlying 5 = some (.int .u8) := by kernel_rfl
theorem under_bytes : Tryz.prog.underlying 29 = some (.slice 5) := by kernel_rfl
theorem size_al (w : World) (o : Obj) : (w.alloc o).heap.size = w.heap.size + 1 := by
  show (w.heap.push o).size = _
  rw [Array.size_push]
theorem conv2 (w : World) (o : Obj) (C : Array Value) (n c : Nat) : (convert 29 29 (.slice (some ⟨w.heap.size + 1, 0, none⟩) n c)).run Tryz.prog ((w.alloc o).alloc (.cells C 5)) = .ok (.slice (some ⟨w.heap.size + 1, 0, none⟩) n c) ((w.alloc o).alloc (.cells C 5 (C.size, C.size + 1))) := by
  have h := Lib.run_convert_bytes_const (P := Tryz.prog) (w.alloc o) 29 5 C n c under_bytes under_byte
  rw [size_al] at h
  exact h
theorem Kn.abc {w0 w : World} {f : Fm} {g : Nat} {E : Ents} {W : List Ents} {n N : Nat} (h : Kn w0 w f g E W n N) {x y z : Int} (hx : 0 ≤ x ∧ x < 256) (hy : 0 ≤ y ∧ y < 256) (hz : 0 ≤ z ∧ z < 256) : Kn w0 (((w.alloc (.cells #[.int .u8 x] 5 (1, 2))).alloc (.cells #[.int .u8 y] 5 (1, 2))).alloc (.cells #[.int .u8 z] 5)) (((f.by (.slice (some ⟨w.heap.size, 0, none⟩) 1 1) [x]).by (.slice (some ⟨w.heap.size + 1, 0, none⟩) 1 1) [y]).by (.slice (some ⟨w.heap.size + 1 + 1, 0, none⟩) 1 1) [z]) g E W n N := by
  have h' := ((h.const hx).const hy).lit hz
  simp only [size_al] at h'
  exact h'
theorem kset1 {w0 w : World} {f : Fm} {g : Nat} {E : Ents} {W : List Ents} {n N : Nat} {kv vv : Value} {k v : List Int} {E' : Ents} {r : Int} {n' N' : Nat} (h : Kn w0 w f g E W n N) (hk : Fr w0 f kv k) (hv : Fr w0 f vv v) (hn : n ≤ 4000000000000000000) (hN : N + 2 ≤ 100000000) (hE : (if setE k v = 0 then put E k v else E) = E') (hr : setE k v = r) (e1 : n + 1 = n') (e2 : N + 2 = N') :
    Calls Tryz.prog 86 #[.pointer (some ⟨g, 0, none⟩), kv, vv] w (Fin w0 f g E' W n' N' (.int .i64 r)) := by
  subst hE hr e1 e2; exact kset h hk hv hn hN
theorem kdel1 {w0 w : World} {f : Fm} {g : Nat} {E : Ents} {W : List Ents} {n N : Nat} {kv : Value} {k : List Int} {E' : Ents} {r : Bool} {n' N' : Nat} (h : Kn w0 w f g E W n N) (hk : Fr w0 f kv k) (hkl : k.length ≤ 1000000000) (hn : n ≤ 4000000000000000000) (hN : N + 2 ≤ 100000000) (hE : rem E k = E') (hr : (look E k).isSome = r) (e1 : n + 1 = n') (e2 : N + 2 = N') :
    Calls Tryz.prog 131 #[.pointer (some ⟨g, 0, none⟩), kv] w (Fin w0 f g E' W n' N' (.bool r)) := by
  subst hE hr e1 e2; exact kdel h hk hkl hn hN
theorem krb1 {w0 w : World} {f : Fm} {g : Nat} {E : Ents} {W : List Ents} {n N : Nat} {E' : Ents} {W' : List Ents} {r : Int} (h : Kn w0 w f g E W n N) (hN : N ≤ 100000000) (hE : W.headD E = E') (hW : W.tail = W') (hr : (if W = [] then 62 else 0 : Int) = r) :
    Calls Tryz.prog 136 #[.pointer (some ⟨g, 0, none⟩)] w (Fin w0 f g E' W' n N (.int .i64 r)) := by
  subst hE hW hr; exact krollback h hN
theorem kcm1 {w0 w : World} {f : Fm} {g : Nat} {E : Ents} {W : List Ents} {n N : Nat} {W' : List Ents} {r : Int} (h : Kn w0 w f g E W n N) (hN : N ≤ 100000000) (hW : W.tail = W') (hr : (if W = [] then 62 else 0 : Int) = r) :
    Calls Tryz.prog 137 #[.pointer (some ⟨g, 0, none⟩)] w (Fin w0 f g E W' n N (.int .i64 r)) := by
  subst hW hr; exact kcommit h hN
theorem kbg1 {w0 w : World} {f : Fm} {g : Nat} {E : Ents} {W : List Ents} {n N : Nat} {W' : List Ents} {r : Int} (h : Kn w0 w f g E W n N) (hW : (if W.length = 16 then W else E :: W) = W') (hr : (if W.length = 16 then 62 else 0 : Int) = r) :
    Calls Tryz.prog 133 #[.pointer (some ⟨g, 0, none⟩)] w (Fin w0 f g E W' n N (.int .i64 r)) := by
  subst hW hr; exact kbegin h
theorem kdp1 {w0 w : World} {f : Fm} {g : Nat} {E : Ents} {W : List Ents} {n N : Nat} {r : Int} (h : Kn w0 w f g E W n N) (hr : ((W.length : Nat) : Int) = r) :
    Calls Tryz.prog 158 #[.pointer (some ⟨g, 0, none⟩)] w fun e w' => e = .returned (.int .i64 r) ∧ w' = w := by
  subst hr; exact kdepth h
structure FinV (w0 : World) (f : Fm) (g : Nat) (E : Ents) (W : List Ents) (n N : Nat) (b : Bool) (l : List Int) (e : Ending) (w' : World) : Prop where
  ex : ∃ v, e = .returned (.tuple #[v, .bool b]) ∧ Kn w0 w' (f.by v l) g E W n N
theorem kgt1 {w0 w : World} {f : Fm} {g : Nat} {E : Ents} {W : List Ents} {n N : Nat} {kv : Value} {k l : List Int} {b : Bool} {n' : Nat} (h : Kn w0 w f g E W n N) (hk : Fr w0 f kv k) (hn : n ≤ 4000000000000000000) (hN : N ≤ 100000000) (hb : (look E k).isSome = b) (hl : (look E k).getD [] = l) (e1 : n + 1 = n') :
    Calls Tryz.prog 39 #[.pointer (some ⟨g, 0, none⟩), kv] w (FinV w0 f g E W n' N b l) := by
  subst hb hl e1
  refine (kget h hk hn hN).mono ?_
  rintro e w' ⟨v, rfl, h⟩
  exact ⟨v, rfl, h⟩
theorem khs1 {w0 w : World} {f : Fm} {g : Nat} {E : Ents} {W : List Ents} {n N : Nat} {kv : Value} {k : List Int} {b : Bool} {n' : Nat} (h : Kn w0 w f g E W n N) (hk : Fr w0 f kv k) (hn : n ≤ 4000000000000000000) (hN : N ≤ 100000000) (hb : (look E k).isSome = b) (e1 : n + 1 = n') :
    Calls Tryz.prog 94 #[.pointer (some ⟨g, 0, none⟩), kv] w (Fin w0 f g E W n' N (.bool b)) := by
  subst hb e1; exact khas h hk hn hN
structure FinL (w0 : World) (f : Fm) (g : Nat) (E : Ents) (W : List Ents) (n N m : Nat) (F : Ents) (e : Ending) (w' : World) : Prop where
  ex : ∃ ao c, e = .returned (.slice ao m c) ∧ Kn w0 w' (f.pr (.slice ao m c) F) g E W n N
theorem kdm1 {w0 w : World} {f : Fm} {g : Nat} {E : Ents} {W : List Ents} {n N : Nat} {m' : Nat} (h : Kn w0 w f g E W n N) (hN : N ≤ 100000000) (e2 : E.length = m') :
    Calls Tryz.prog 216 #[.pointer (some ⟨g, 0, none⟩)] w (FinL w0 f g E W n N m' E) := by
  subst e2
  refine (kdump h hN).mono ?_
  rintro e w' ⟨ao, c, rfl, h⟩
  exact ⟨ao, c, rfl, h⟩
theorem kpf1 {w0 w : World} {f : Fm} {g : Nat} {E : Ents} {W : List Ents} {n N : Nat} {pv : Value} {p : List Int} {F : Ents} (h : Kn w0 w f g E W n N) (hN : N ≤ 100000000) (hp : Fr w0 f pv p) (hpl : p.length ≤ 1000000) (hF : E.filter (fun x => decide (p <+: x.1)) = F) :
    Calls Tryz.prog 195 #[.pointer (some ⟨g, 0, none⟩), pv] w (FinW w0 f g E W n N F) := by
  subst hF; exact kprefix h hN hp hpl
theorem kwk1 {w0 w : World} {f : Fm} {g : Nat} {E : Ents} {W : List Ents} {n N : Nat} {F : Ents} (h : Kn w0 w f g E W n N) (hN : N ≤ 100000000) (hF : E.filter (abtw [] []) = F) :
    Calls Tryz.prog 359 #[.pointer (some ⟨g, 0, none⟩), .slice none 0 0, .slice none 0 0] w (FinW w0 f g E W n N F) := by
  subst hF; exact kwalk h hN (.inl (By.nil _)) (.inl (By.nil _)) (by decide) (by decide)
theorem kby1 {w0 w : World} {f : Fm} {g : Nat} {E : Ents} {W : List Ents} {n N : Nat} {u v : Value} {a b : List Int} {r : Bool} (h : Kn w0 w f g E W n N) (hu : Fr w0 f u a) (hv : Fr w0 f v b) (ha : a.length ≤ 1000000000) (hb : b.length ≤ 1000000000) (hr : decide (a = b) = r) :
    Calls Tryz.prog 10 #[u, v] w (Fin w0 f g E W n N (.bool r)) := by
  subst hr
  refine (kbytes h hu hv ha hb).mono ?_
  rintro e w' ⟨rfl, h⟩
  exact ⟨rfl, h⟩
end Kv
end Go.Proofs.YtpoifdokmjhclaaGreat

namespace Go.Proofs.YtpoifdokmjhclaaGreat
namespace Kv
open Go.RowKit Go.Lib Pg
attribute [local go_sem] Oper.semAt_some
/-- a step of a script: its four cells, and what lies behind its two lists -/
structure Ste where
  what : Int
  num : Int
  ka : Option Addr
  kc : Nat
  kl : List Int
  va : Option Addr
  vc : Nat
  vl : List Int
def Ste.kv (s : Ste) : Value := .slice s.ka s.kl.length s.kc
def Ste.vv (s : Ste) : Value := .slice s.va s.vl.length s.vc
structure SteA (w : World) (s : Ste) : Prop where
  w1 : -9223372036854775808 ≤ s.what
  w2 : s.what ≤ 9223372036854775807
  n1 : -9223372036854775808 ≤ s.num
  n2 : s.num ≤ 9223372036854775807
  k : By w s.kv s.kl
  kb : s.kl.length ≤ 140737488355328
  v : By w s.vv s.vl
  vb : s.vl.length ≤ 140737488355328
theorem SteA.keep {w w' : World} {s : Ste} (h : SteA w s) (hb : Below w.heap.size w w') : SteA w' s := ⟨h.w1, h.w2, h.n1, h.n2, h.k.keep hb, h.kb, h.v.keep hb, h.vb⟩
structure SteC (w : World) (b o : Nat) (s : Ste) : Prop where
  c0 : w.cell? ⟨b, o, none⟩ = some (.int .i64 s.what)
  c1 : w.cell? ⟨b, o + 1, none⟩ = some (.int .i64 s.num)
  c2 : w.cell? ⟨b, o + 2, none⟩ = some s.kv
  c3 : w.cell? ⟨b, o + 3, none⟩ = some s.vv
theorem SteC.keep {w w' : World} {b o : Nat} {s : Ste} (h : SteC w b o s) (hb : Below w.heap.size w w') : SteC w' b o s := by
  have k : ∀ {q : Nat} {v : Value}, w.cell? ⟨b, q, none⟩ = some v → w'.cell? ⟨b, q, none⟩ = some v := fun {q v} hc => by
    have hlt := cell_lt hc
    rw [World.cell?_of_block (w := w) (hb.block b hlt)]
    exact hc
  exact ⟨k h.c0, k h.c1, k h.c2, k h.c3⟩
/-- a script in memory -/
structure StesA (w : World) (ao : Option Addr) (n : Nat) (ss : List Ste) : Prop where
  len : ss.length = n
  le : n ≤ 9223372036854775807
  get : ∀ i s, ss[i]? = some s → ∃ b o, ao = some ⟨b, o, none⟩ ∧ SteC w b (o + i * 4) s ∧ SteA w s
theorem StesA.keep {w w' : World} {ao : Option Addr} {n : Nat} {ss : List Ste} (h : StesA w ao n ss) (hb : Below w.heap.size w w') : StesA w' ao n ss :=
  ⟨h.len, h.le, fun i s hs => by
    obtain ⟨b, o, h1, h2, h3⟩ := h.get i s hs
    exact ⟨b, o, h1, h2.keep hb, h3.keep hb⟩⟩
theorem StesA.at {w : World} {ao : Option Addr} {n : Nat} {ss : List Ste} (h : StesA w ao n ss) {i : Nat} (hi : i < n) : ∃ s b o, ss[i]? = some s ∧ ao = some ⟨b, o, none⟩ ∧ SteC w b (o + i * 4) s ∧ SteA w s := by
  have hl := h.len
  have e : ss[i]? = some ss[i] := List.getElem?_eq_getElem (by omega)
  obtain ⟨b, o, h1, h2, h3⟩ := h.get i _ e
  exact ⟨_, b, o, e, h1, h2, h3⟩
/-- how heavy steps are -/
def hvy : List Ste → Nat
  | [] => 0
  | s :: r => s.kl.length + s.vl.length + hvy r
theorem hvy_snoc (l : List Ste) (s : Ste) : hvy (l ++ [s]) = hvy l + (s.kl.length + s.vl.length) := by
  induction l with
  | nil => simp [hvy]
  | cons x l ih => simp only [List.cons_append, hvy, ih]; omega
theorem hvy_take {l : List Ste} {i : Nat} {s : Ste} (h : l[i]? = some s) : hvy (l.take (i + 1)) = hvy (l.take i) + (s.kl.length + s.vl.length) := by
  rw [List.take_add_one, h]
  simp [hvy_snoc]
theorem hvy_append (l r : List Ste) : hvy (l ++ r) = hvy l + hvy r := by
  induction l with
  | nil => simp [hvy]
  | cons x l ih => simp only [List.cons_append, hvy, ih]; omega
theorem hvy_le (l : List Ste) (k : Nat) : hvy (l.take k) ≤ hvy l := by
  have := hvy_append (l.take k) (l.drop k)
  rw [List.take_append_drop] at this
  omega
theorem hvy_mem {l : List Ste} {i : Nat} {s : Ste} (h : l[i]? = some s) : s.kl.length + s.vl.length ≤ hvy l := by
  have h1 := hvy_take h
  have h2 := hvy_le l (i + 1)
  omega
/-- a script that is looked at -/
def lite (n h : Nat) : Bool := decide (n + h ≤ 8000 ∧ n ≤ 400)
theorem lite_yes {n h : Nat} (e : lite n h = true) : n + h ≤ 8000 ∧ n ≤ 400 := by unfold lite at e; simpa using e
end Kv
end Go.Proofs.YtpoifdokmjhclaaGreat

namespace Go.Proofs.YtpoifdokmjhclaaGreat
namespace Kv
open Go.RowKit Go.Lib Pg
attribute [local go_sem] Oper.semAt_some
theorem belowD' (w : World) : Below w.heap.size w w.drew := ⟨rfl, rfl, rfl, Nat.le_refl _, fun _ _ => rfl⟩
theorem pcells2 {B : Nat} {w w' : World} {p i j : Nat} {a b : Value} (h : w.cell? ⟨p, i, none⟩ = some a ∧ w.cell? ⟨p, j, none⟩ = some b) (h1 : p < B) (hb : Below B w w') : w'.cell? ⟨p, i, none⟩ = some a ∧ w'.cell? ⟨p, j, none⟩ = some b := by
  refine ⟨?_, ?_⟩
  · rw [hb.cell (p := ⟨p, i, none⟩) h1]; exact h.1
  · rw [hb.cell (p := ⟨p, j, none⟩) h1]; exact h.2
theorem below_drew0 {B : Nat} {w w' : World} (h : Below B w.drew w') : Below B w w' := ⟨h.os, h.tape, h.output, h.size, h.block⟩
theorem lt_nil (x : List Int) : ¬ Lt x [] := by
  unfold Lt
  cases x <;> simp [cmpB]
theorem filter_all (l : List KV) : l.filter (abtw [] []) = l := by
  rw [List.filter_eq_self]
  intro x _
  simp [abtw, lt_nil]
/-- the store's entries and journals; at most B changes so far -/
structure KB (w0 w : World) (f : Fm) (g : Nat) (E : Ents) (W : List Ents) (B : Nat) : Prop where
  ex : ∃ n N, Kn w0 w f g E W n N ∧ n ≤ 10 * B ∧ N ≤ 2 * B
structure FinB (w0 : World) (f : Fm) (g : Nat) (E : Ents) (W : List Ents) (B : Nat) (r : Value) (e : Ending) (w' : World) : Prop where
  ret : e = .returned r
  kb : KB w0 w' f g E W B
def setd (E : Ents) (k v : List Int) : Ents := if setE k v = 0 then put E k v else E
theorem KB.keep {w0 w : World} {f : Fm} {g : Nat} {E : Ents} {W : List Ents} {B : Nat} (h : KB w0 w f g E W B) {w' : World} (hb : Below w.heap.size w w') : KB w0 w' f g E W B := by
  obtain ⟨n, N, h, h1, h2⟩ := h.ex
  exact ⟨n, N, h.keep hb, h1, h2⟩
theorem KB.drew {w0 w : World} {f : Fm} {g : Nat} {E : Ents} {W : List Ents} {B : Nat} (h : KB w0 w f g E W B) : KB w0 w.drew f g E W B := h.keep (belowD' w)
theorem KB.below {w0 w : World} {f : Fm} {g : Nat} {E : Ents} {W : List Ents} {B : Nat} (h : KB w0 w f g E W B) : Below w0.heap.size w0 w := by
  obtain ⟨n, N, h, h1, h2⟩ := h.ex
  exact h.below
theorem KB.more {w0 w : World} {f : Fm} {g : Nat} {E : Ents} {W : List Ents} {B : Nat} {B' : Nat} (h : KB w0 w f g E W B) (hB : B ≤ B') : KB w0 w f g E W B' := by
  obtain ⟨n, N, h, h1, h2⟩ := h.ex
  exact ⟨n, N, h, by omega, by omega⟩
theorem KB.depth {w0 w : World} {f : Fm} {g : Nat} {E : Ents} {W : List Ents} {B : Nat} (h : KB w0 w f g E W B) : W.length ≤ 16 := by
  obtain ⟨n, N, h, h1, h2⟩ := h.ex
  exact h.depth
theorem KB.rise {w0 w : World} {f : Fm} {g : Nat} {E : Ents} {W : List Ents} {B : Nat} (h : KB w0 w f g E W B) : Rise E := by
  obtain ⟨n, N, h, h1, h2⟩ := h.ex
  exact h.rise
theorem KB.size {w0 w : World} {f : Fm} {g : Nat} {E : Ents} {W : List Ents} {B : Nat} (h : KB w0 w f g E W B) : E.length ≤ 2 * B := by
  obtain ⟨n, N, h, h1, h2⟩ := h.ex
  have := h.size
  omega
theorem KB.small {w0 w : World} {f : Fm} {g : Nat} {E : Ents} {W : List Ents} {B : Nat} (h : KB w0 w f g E W B) : ∀ x ∈ E, x.1.length ≤ 1000000000 ∧ x.2.length ≤ 1000000000 := by
  obtain ⟨n, N, h, h1, h2⟩ := h.ex
  obtain ⟨K, h⟩ := h.ex
  exact h.sa.small
theorem bset {w0 w : World} {f : Fm} {g : Nat} {E : Ents} {W : List Ents} {B : Nat} {kv vv : Value} {k v : List Int} (h : KB w0 w f g E W B) (hk : Fr w0 f kv k) (hv : Fr w0 f vv v) (hB : B ≤ 1000000) :
    Calls Tryz.prog 86 #[.pointer (some ⟨g, 0, none⟩), kv, vv] w (FinB w0 f g (setd E k v) W (B + 1) (.int .i64 (setE k v))) := by
  obtain ⟨n, N, h, h1, h2⟩ := h.ex
  refine (kset h hk hv (by omega) (by omega)).mono ?_
  rintro e w' ⟨rfl, h⟩
  exact ⟨rfl, _, _, h, by omega, by omega⟩
theorem bdel {w0 w : World} {f : Fm} {g : Nat} {E : Ents} {W : List Ents} {B : Nat} {kv : Value} {k : List Int} (h : KB w0 w f g E W B) (hk : Fr w0 f kv k) (hkl : k.length ≤ 1000000000) (hB : B ≤ 1000000) :
    Calls Tryz.prog 131 #[.pointer (some ⟨g, 0, none⟩), kv] w (FinB w0 f g (rem E k) W (B + 1) (.bool (look E k).isSome)) := by
  obtain ⟨n, N, h, h1, h2⟩ := h.ex
  refine (kdel h hk hkl (by omega) (by omega)).mono ?_
  rintro e w' ⟨rfl, h⟩
  exact ⟨rfl, _, _, h, by omega, by omega⟩
structure FinQ (w0 : World) (f : Fm) (g : Nat) (E : Ents) (W : List Ents) (B : Nat) (b : Bool) (l : List Int) (e : Ending) (w' : World) : Prop where
  ex : ∃ v, e = .returned (.tuple #[v, .bool b]) ∧ KB w0 w' (f.by v l) g E W B
theorem bget {w0 w : World} {f : Fm} {g : Nat} {E : Ents} {W : List Ents} {B : Nat} {kv : Value} {k : List Int} (h : KB w0 w f g E W B) (hk : Fr w0 f kv k) (hB : B ≤ 1000000) :
    Calls Tryz.prog 39 #[.pointer (some ⟨g, 0, none⟩), kv] w (FinQ w0 f g E W (B + 1) (look E k).isSome ((look E k).getD [])) := by
  obtain ⟨n, N, h, h1, h2⟩ := h.ex
  refine (kget h hk (by omega) (by omega)).mono ?_
  rintro e w' ⟨v, rfl, h⟩
  exact ⟨v, rfl, _, _, h, by omega, by omega⟩
theorem bhas {w0 w : World} {f : Fm} {g : Nat} {E : Ents} {W : List Ents} {B : Nat} {kv : Value} {k : List Int} (h : KB w0 w f g E W B) (hk : Fr w0 f kv k) (hB : B ≤ 1000000) :
    Calls Tryz.prog 94 #[.pointer (some ⟨g, 0, none⟩), kv] w (FinB w0 f g E W (B + 1) (.bool (look E k).isSome)) := by
  obtain ⟨n, N, h, h1, h2⟩ := h.ex
  refine (khas h hk (by omega) (by omega)).mono ?_
  rintro e w' ⟨rfl, h⟩
  exact ⟨rfl, _, _, h, by omega, by omega⟩
theorem brollback {w0 w : World} {f : Fm} {g : Nat} {E : Ents} {W : List Ents} {B : Nat} {E' : Ents} {W' : List Ents} (h : KB w0 w f g E W B) (hB : B ≤ 1000000) (hE : W.headD E = E') (hW : W.tail = W') :
    Calls Tryz.prog 136 #[.pointer (some ⟨g, 0, none⟩)] w (FinB w0 f g E' W' B (.int .i64 (if W = [] then 62 else 0))) := by
  subst hE hW
  obtain ⟨n, N, h, h1, h2⟩ := h.ex
  refine (krollback h (by omega)).mono ?_
  rintro e w' ⟨rfl, h⟩
  exact ⟨rfl, _, _, h, by omega, by omega⟩
theorem bcommit {w0 w : World} {f : Fm} {g : Nat} {E : Ents} {W : List Ents} {B : Nat} {W' : List Ents} (h : KB w0 w f g E W B) (hB : B ≤ 1000000) (hW : W.tail = W') :
    Calls Tryz.prog 137 #[.pointer (some ⟨g, 0, none⟩)] w (FinB w0 f g E W' B (.int .i64 (if W = [] then 62 else 0))) := by
  subst hW
  obtain ⟨n, N, h, h1, h2⟩ := h.ex
  refine (kcommit h (by omega)).mono ?_
  rintro e w' ⟨rfl, h⟩
  exact ⟨rfl, _, _, h, by omega, by omega⟩
def begun (E : Ents) (W : List Ents) : List Ents := if W.length = 16 then W else E :: W
theorem bbegin {w0 w : World} {f : Fm} {g : Nat} {E : Ents} {W : List Ents} {B : Nat} {W' : List Ents} (h : KB w0 w f g E W B) (hW : begun E W = W') :
    Calls Tryz.prog 133 #[.pointer (some ⟨g, 0, none⟩)] w (FinB w0 f g E W' B (.int .i64 (if W.length = 16 then 62 else 0))) := by
  subst hW
  obtain ⟨n, N, h, h1, h2⟩ := h.ex
  refine (kbegin h).mono ?_
  rintro e w' ⟨rfl, h⟩
  exact ⟨rfl, _, _, h, by omega, by omega⟩
theorem bdepth {w0 w : World} {f : Fm} {g : Nat} {E : Ents} {W : List Ents} {B : Nat} {r : Int} (h : KB w0 w f g E W B) (hr : ((W.length : Nat) : Int) = r) :
    Calls Tryz.prog 158 #[.pointer (some ⟨g, 0, none⟩)] w fun e w' => e = .returned (.int .i64 r) ∧ w' = w := by
  obtain ⟨n, N, h, h1, h2⟩ := h.ex
  exact kdp1 h hr
/-- a list of pairs that is at hand -/
structure FinR (w0 : World) (f : Fm) (g : Nat) (E : Ents) (W : List Ents) (B : Nat) (F : Ents) (e : Ending) (w' : World) : Prop where
  ex : ∃ ao n c, e = .returned (.slice ao n c) ∧ KB w0 w' (f.pr (.slice ao n c) F) g E W B
theorem bdump {w0 w : World} {f : Fm} {g : Nat} {E : Ents} {W : List Ents} {B : Nat} (h : KB w0 w f g E W B) (hB : B ≤ 1000000) :
    Calls Tryz.prog 216 #[.pointer (some ⟨g, 0, none⟩)] w (FinR w0 f g E W B E) := by
  obtain ⟨n, N, h, h1, h2⟩ := h.ex
  refine (kdump h (by omega)).mono ?_
  rintro e w' ⟨ao, c, rfl, h⟩
  exact ⟨ao, _, c, rfl, _, _, h, by omega, by omega⟩
structure FinC (w0 : World) (e : Ending) (w' : World) : Prop where
  ex : ∃ g, e = .returned (.pointer (some ⟨g, 0, none⟩)) ∧ KB w0 w' ⟨[], [], []⟩ g [] [] 0
theorem bnew {w0 w : World} (hb : Below w0.heap.size w0 w) : Calls Tryz.prog 64 #[] w (FinC w0) := by
  refine (knew hb).mono ?_
  rintro e w' ⟨g, rfl, h⟩
  exact ⟨g, rfl, _, _, h, by omega, by omega⟩
/-- set or deleted -/
def chgd (E : Ents) (what : Int) (k v : List Int) : Ents := if what.tmod 2 = 0 then setd E k v else rem E k
end Kv
end Go.Proofs.YtpoifdokmjhclaaGreat

namespace Go.Proofs.YtpoifdokmjhclaaGreat
namespace Kv
open Go.RowKit Go.Lib Pg
structure K2 (w0 w : World) (f : Fm) (g : Nat) (E : Ents) (W : List Ents) (g2 : Nat) (E2 : Ents) (W2 : List Ents) (B : Nat) : Prop where
  ex : ∃ n2 N2, KB w0 w (f.st ⟨g2, E2, W2, n2, N2⟩) g E W B ∧ n2 ≤ 10 * B ∧ N2 ≤ 2 * B
structure FinK (w0 : World) (f : Fm) (g : Nat) (E : Ents) (W : List Ents) (g2 : Nat) (E2 : Ents) (W2 : List Ents) (B : Nat) (r : Value) (e : Ending) (w' : World) : Prop where
  ret : e = .returned r
  k2 : K2 w0 w' f g E W g2 E2 W2 B
theorem K2.swap {w0 w : World} {f : Fm} {g g2 : Nat} {E E2 : Ents} {W W2 : List Ents} {B : Nat} (h : K2 w0 w f g E W g2 E2 W2 B) : K2 w0 w f g2 E2 W2 g E W B := by
  obtain ⟨n2, N2, h, h1, h2⟩ := h.ex
  obtain ⟨n, N, h, h3, h4⟩ := h.ex
  exact ⟨n, N, ⟨n2, N2, h.swap rfl, h1, h2⟩, h3, h4⟩
theorem K2.keep {w0 w w' : World} {f : Fm} {g g2 : Nat} {E E2 : Ents} {W W2 : List Ents} {B : Nat} (h : K2 w0 w f g E W g2 E2 W2 B) (hb : Below w.heap.size w w') : K2 w0 w' f g E W g2 E2 W2 B := by
  obtain ⟨n2, N2, h, h1, h2⟩ := h.ex
  exact ⟨n2, N2, h.keep hb, h1, h2⟩
theorem K2.drew {w0 w : World} {f : Fm} {g g2 : Nat} {E E2 : Ents} {W W2 : List Ents} {B : Nat} (h : K2 w0 w f g E W g2 E2 W2 B) : K2 w0 w.drew f g E W g2 E2 W2 B := h.keep (belowD' w)
theorem K2.below {w0 w : World} {f : Fm} {g g2 : Nat} {E E2 : Ents} {W W2 : List Ents} {B : Nat} (h : K2 w0 w f g E W g2 E2 W2 B) : Below w0.heap.size w0 w := by
  obtain ⟨n2, N2, h, h1, h2⟩ := h.ex
  exact h.below
theorem K2.more {w0 w : World} {f : Fm} {g g2 : Nat} {E E2 : Ents} {W W2 : List Ents} {B B' : Nat} (h : K2 w0 w f g E W g2 E2 W2 B) (hB : B ≤ B') : K2 w0 w f g E W g2 E2 W2 B' := by
  obtain ⟨n2, N2, h, h1, h2⟩ := h.ex
  exact ⟨n2, N2, h.more hB, by omega, by omega⟩
theorem K2.size {w0 w : World} {f : Fm} {g g2 : Nat} {E E2 : Ents} {W W2 : List Ents} {B : Nat} (h : K2 w0 w f g E W g2 E2 W2 B) : E.length ≤ 2 * B := by
  obtain ⟨n2, N2, h, h1, h2⟩ := h.ex
  exact h.size
theorem K2.small {w0 w : World} {f : Fm} {g g2 : Nat} {E E2 : Ents} {W W2 : List Ents} {B : Nat} (h : K2 w0 w f g E W g2 E2 W2 B) : ∀ x ∈ E, x.1.length ≤ 1000000000 ∧ x.2.length ≤ 1000000000 := by
  obtain ⟨n2, N2, h, h1, h2⟩ := h.ex
  exact h.small
theorem K2.depth {w0 w : World} {f : Fm} {g g2 : Nat} {E E2 : Ents} {W W2 : List Ents} {B : Nat} (h : K2 w0 w f g E W g2 E2 W2 B) : W.length ≤ 16 := by
  obtain ⟨n2, N2, h, h1, h2⟩ := h.ex
  exact h.depth
theorem K2.lift {w0 w : World} {f : Fm} {g g2 : Nat} {E E2 E' : Ents} {W W2 W' : List Ents} {B B' : Nat} {P : Nat} {args : Array Value} {r : Value} (h : K2 w0 w f g E W g2 E2 W2 B) (u : ∀ s, KB w0 w (f.st s) g E W B → Calls Tryz.prog P args w (FinB w0 (f.st s) g E' W' B' r)) (hB : B ≤ B') : Calls Tryz.prog P args w (FinK w0 f g E' W' g2 E2 W2 B' r) := by
  obtain ⟨n2, N2, h, h1, h2⟩ := h.ex
  refine (u _ h).mono ?_
  rintro e w' ⟨rfl, h⟩
  exact ⟨rfl, n2, N2, h, by omega, by omega⟩
structure FinKR (w0 : World) (f : Fm) (g : Nat) (E : Ents) (W : List Ents) (g2 : Nat) (E2 : Ents) (W2 : List Ents) (B : Nat) (e : Ending) (w' : World) : Prop where
  ex : ∃ ao n c, e = .returned (.slice ao n c) ∧ K2 w0 w' (f.pr (.slice ao n c) E) g E W g2 E2 W2 B
theorem K2.dump {w0 w : World} {f : Fm} {g g2 : Nat} {E E2 : Ents} {W W2 : List Ents} {B : Nat} (h : K2 w0 w f g E W g2 E2 W2 B) (hB : B ≤ 1000000) : Calls Tryz.prog 216 #[.pointer (some ⟨g, 0, none⟩)] w (FinKR w0 f g E W g2 E2 W2 B) := by
  obtain ⟨n2, N2, h, h1, h2⟩ := h.ex
  refine (bdump h hB).mono ?_
  rintro e w' ⟨ao, n, c, rfl, h⟩
  exact ⟨ao, n, c, rfl, n2, N2, h, h1, h2⟩
theorem K2.dep {w0 w : World} {f : Fm} {g g2 : Nat} {E E2 : Ents} {W W2 : List Ents} {B : Nat} {r : Int} (h : K2 w0 w f g E W g2 E2 W2 B) (hr : ((W.length : Nat) : Int) = r) : Calls Tryz.prog 158 #[.pointer (some ⟨g, 0, none⟩)] w fun e w' => e = .returned (.int .i64 r) ∧ w' = w := by
  obtain ⟨n2, N2, h, h1, h2⟩ := h.ex
  exact bdepth h hr
structure FinD (w0 : World) (g : Nat) (e : Ending) (w' : World) : Prop where
  ex : ∃ g2, e = .returned (.pointer (some ⟨g2, 0, none⟩)) ∧ K2 w0 w' ⟨[], [], []⟩ g [] [] g2 [] [] 0
theorem bnew2 {w0 w : World} {g : Nat} (h : KB w0 w ⟨[], [], []⟩ g [] [] 0) : Calls Tryz.prog 64 #[] w (FinD w0 g) := by
  obtain ⟨n, N, h, h1, h2⟩ := h.ex
  refine (knew2 h).mono ?_
  rintro e w' ⟨g2, rfl, h⟩
  exact ⟨g2, rfl, K2.swap ⟨n, N, ⟨_, _, h, by omega, by omega⟩, h1, h2⟩⟩
end Kv
end Go.Proofs.YtpoifdokmjhclaaGreat

namespace Go.Proofs.YtpoifdokmjhclaaGreat
namespace Kv
open Go.RowKit Go.Lib Pg
theorem Kn.drop {w0 w : World} {f : Fm} {g : Nat} {E : Ents} {W : List Ents} {n N : Nat} {v : Value} {l : List Int} (h : Kn w0 w (f.by v l) g E W n N) : Kn w0 w f g E W n N := by
  obtain ⟨K, h⟩ := h.ex
  exact ⟨K, h.sa, h.kz, fun p hp => h.bys p (List.mem_cons_of_mem _ hp), h.prs, h.oth, h.bel⟩
theorem K2.drop {w0 w : World} {f : Fm} {g g2 : Nat} {E E2 : Ents} {W W2 : List Ents} {B : Nat} {v : Value} {l : List Int} (h : K2 w0 w (f.by v l) g E W g2 E2 W2 B) : K2 w0 w f g E W g2 E2 W2 B := by
  obtain ⟨n2, N2, h, h1, h2⟩ := h.ex
  obtain ⟨n, N, h, h3, h4⟩ := h.ex
  exact ⟨n2, N2, ⟨n, N, Kn.drop (v := v) (l := l) h, h3, h4⟩, h1, h2⟩
theorem K2.lits {w0 w : World} {f : Fm} {g g2 : Nat} {E E2 : Ents} {W W2 : List Ents} {B : Nat} (h : K2 w0 w f g E W g2 E2 W2 B) {x y : Int} (hx : 0 ≤ x ∧ x < 256) (hy : 0 ≤ y ∧ y < 256) : K2 w0 ((w.alloc (.cells #[.int .u8 x] 5)).alloc (.cells #[.int .u8 y] 5)) ((f.by (.slice (some ⟨w.heap.size, 0, none⟩) 1 1) [x]).by (.slice (some ⟨w.heap.size + 1, 0, none⟩) 1 1) [y]) g E W g2 E2 W2 B := by
  obtain ⟨n2, N2, h, h1, h2⟩ := h.ex
  obtain ⟨n, N, h, h3, h4⟩ := h.ex
  have h' := (h.lit hx).lit hy
  simp only [size_al] at h'
  exact ⟨n2, N2, ⟨n, N, h', h3, h4⟩, h1, h2⟩
structure FinX (w0 : World) (f : Fm) (g : Nat) (E : Ents) (W : List Ents) (B : Nat) (e : Ending) (w' : World) : Prop where
  ex : ∃ g2 N2, e = .returned (.pointer (some ⟨g2, 0, none⟩)) ∧ KB w0 w' (f.st ⟨g2, E, [], 0, N2⟩) g E W B ∧ N2 ≤ 2 * B
theorem bcopy {w0 w : World} {f : Fm} {g : Nat} {E : Ents} {W : List Ents} {B : Nat} (h : KB w0 w f g E W B) (hB : B ≤ 1000000) :
    Calls Tryz.prog 173 #[.pointer (some ⟨g, 0, none⟩)] w (FinX w0 f g E W B) := by
  obtain ⟨n, N, h, h1, h2⟩ := h.ex
  refine (kcopy h (by omega)).mono ?_
  rintro e w' ⟨g2, rfl, h⟩
  exact ⟨g2, N, rfl, ⟨n, N, h.swap rfl, h1, h2⟩, h2⟩
theorem KB.odep {w0 w : World} {f : Fm} {g g2 : Nat} {E : Ents} {W : List Ents} {B : Nat} {E2 : Ents} {W2 : List Ents} {n2 N2 : Nat} {r : Int} (h : KB w0 w (f.st ⟨g2, E2, W2, n2, N2⟩) g E W B) (hr : ((W2.length : Nat) : Int) = r) : Calls Tryz.prog 158 #[.pointer (some ⟨g2, 0, none⟩)] w fun e w' => e = .returned (.int .i64 r) ∧ w' = w := by
  obtain ⟨n, N, h, h1, h2⟩ := h.ex
  exact kdp1 (h.swap rfl) hr
/-- how many journals there are, as the store's block says -/
def jln (w : World) (g : Nat) : Nat := match w.cell? ⟨g, 1, none⟩ with
  | some (.slice _ n _) => n
  | _ => 0
theorem SA.jln {w : World} {K D : Nat → Prop} {g n N : Nat} {E : Ents} {W : List Ents} (h : SA w K D g E W n N) : jln w g = W.length := by
  obtain ⟨F, V, m, Q, jv, T, oj, hb, _, _, hj, hk, _⟩ := h.ex
  have hl := hk.len
  simp at hl
  have hc := hb.cell (i := 1) rfl
  unfold Kv.jln
  rw [hc, ← hl]
  rcases hj.row with ⟨_, rfl, rfl⟩ | ⟨b, c, _, rfl, _⟩ <;> rfl
theorem K2.jln {w0 w : World} {f : Fm} {g g2 : Nat} {E E2 : Ents} {W W2 : List Ents} {B : Nat} (h : K2 w0 w f g E W g2 E2 W2 B) : jln w g = W.length := by
  obtain ⟨n2, N2, h, _⟩ := h.ex
  obtain ⟨n, N, h, _⟩ := h.ex
  obtain ⟨K, h⟩ := h.ex
  exact h.sa.jln
end Kv
end Go.Proofs.YtpoifdokmjhclaaGreat

namespace Go.Proofs.YtpoifdokmjhclaaGreat
namespace Kv
open Go.RowKit Go.Lib Pg
theorem look_skip {X Y : Ents} {k v x : List Int} (h : ¬ k = x) : look (X ++ (k, v) :: Y) x = look (X ++ Y) x := by
  unfold look
  rw [List.find?_append, List.find?_append, List.find?_cons]
  simp [h]
theorem look_put {E : Ents} (h : Rise E) (k v x : List Int) : look (put E k v) x = if k = x then some v else look E x := by
  obtain ⟨X, Y, c, ⟨rfl, _⟩ | ⟨y, rfl, _⟩⟩ := h.cut k
  · rw [c.put0]
    split
    · rename_i e; subst e; exact c.look1
    · rename_i e; exact look_skip e
  · rw [c.put1]
    split
    · rename_i e; subst e; exact c.look1
    · rename_i e; rw [look_skip e, look_skip e]
theorem look_rem {E : Ents} (h : Rise E) (k x : List Int) : look (rem E k) x = if k = x then none else look E x := by
  obtain ⟨X, Y, c, ⟨rfl, _⟩ | ⟨y, rfl, _⟩⟩ := h.cut k
  · rw [c.rem0]
    split
    · rename_i e; subst e; exact c.look0
    · rfl
  · rw [c.rem1]
    split
    · rename_i e; subst e; exact c.look0
    · rename_i e; rw [look_skip e]
abbrev good (s : Ste) : Prop := ¬ s.what.tmod 2 = 0 ∨ (1 ≤ s.kl.length ∧ s.kl.length ≤ 64 ∧ s.vl.length ≤ 4096)
theorem set_good (k v : List Int) : setE k v = 0 ↔ (1 ≤ k.length ∧ k.length ≤ 64 ∧ v.length ≤ 4096) := by
  unfold setE
  split
  · constructor
    · intro h; simp at h
    · intro h; omega
  · split
    · constructor
      · intro h; simp at h
      · intro h; omega
    · constructor
      · intro _; omega
      · intro _; rfl
/-- the entries behind the first j steps -/
def run (ss : List Ste) : Nat → Ents
  | 0 => []
  | j + 1 => match ss[j]? with
    | some s => chgd (run ss j) s.what s.kl s.vl
    | none => run ss j
/-- the last step of the first j that counts for this key, or -1 -/
def lastI (ss : List Ste) (x : List Int) : Nat → Int
  | 0 => -1
  | j + 1 => match ss[j]? with
    | some s => if s.kl = x ∧ good s then (j : Int) else lastI ss x j
    | none => lastI ss x j
theorem run_at {ss : List Ste} {j : Nat} {s : Ste} (h : ss[j]? = some s) : run ss (j + 1) = chgd (run ss j) s.what s.kl s.vl := by
  simp only [run, h]
theorem last_yes {ss : List Ste} {x : List Int} {j : Nat} {s : Ste} (h : ss[j]? = some s) (h1 : s.kl = x) (h2 : good s) : lastI ss x (j + 1) = (j : Int) := by
  simp only [lastI, h]
  rw [if_pos ⟨h1, h2⟩]
theorem last_no {ss : List Ste} {x : List Int} {j : Nat} {s : Ste} (h : ss[j]? = some s) (h1 : ¬ (s.kl = x ∧ good s)) : lastI ss x (j + 1) = lastI ss x j := by
  simp only [lastI, h]
  rw [if_neg h1]
theorem rise_chgd {E : Ents} (h : Rise E) (what : Int) (k v : List Int) : Rise (chgd E what k v) := by
  unfold chgd setd
  split
  · split
    · exact h.put k v
    · exact h
  · exact h.rem k
theorem rise_run (ss : List Ste) : ∀ j, Rise (run ss j)
  | 0 => List.Pairwise.nil
  | j + 1 => by
    have ih := rise_run ss j
    simp only [run]
    split
    · exact rise_chgd ih _ _ _
    · exact ih
theorem look_chgd {E : Ents} (h : Rise E) (s : Ste) (x : List Int) : look (chgd E s.what s.kl s.vl) x = if s.kl = x ∧ good s then (if s.what.tmod 2 = 0 then some s.vl else none) else look E x := by
  unfold chgd
  by_cases hw : s.what.tmod 2 = 0
  · rw [if_pos hw]
    unfold setd
    by_cases hg : setE s.kl s.vl = 0
    · have g : good s := .inr ((set_good _ _).1 hg)
      rw [if_pos hg, look_put h]
      by_cases hk : s.kl = x
      · rw [if_pos hk, if_pos ⟨hk, g⟩, if_pos hw]
      · rw [if_neg hk, if_neg (fun h => hk h.1)]
    · have g : ¬ good s := fun g => g.elim (fun h => h hw) (fun h => hg ((set_good _ _).2 h))
      rw [if_neg hg, if_neg (fun h => g h.2)]
  · rw [if_neg hw, look_rem h]
    have g : good s := .inl hw
    by_cases hk : s.kl = x
    · rw [if_pos hk, if_pos ⟨hk, g⟩, if_neg hw]
    · rw [if_neg hk, if_neg (fun h => hk h.1)]
theorem look_run (ss : List Ste) (x : List Int) : ∀ j, (lastI ss x j = -1 ∧ look (run ss j) x = none) ∨ ∃ (t : Nat) (s : Ste), t < j ∧ ss[t]? = some s ∧ lastI ss x j = (t : Int) ∧ look (run ss j) x = (if s.what.tmod 2 = 0 then some s.vl else none)
  | 0 => .inl ⟨rfl, rfl⟩
  | j + 1 => by
    have ih := look_run ss x j
    cases h : ss[j]? with
    | none =>
      have e1 : run ss (j + 1) = run ss j := by simp only [run, h]
      have e2 : lastI ss x (j + 1) = lastI ss x j := by simp only [lastI, h]
      rw [e1, e2]
      exact ih.imp id (fun ⟨t, s, a, b⟩ => ⟨t, s, by omega, b⟩)
    | some s =>
      rw [run_at h, look_chgd (rise_run ss j)]
      by_cases hc : s.kl = x ∧ good s
      · rw [if_pos hc]
        exact .inr ⟨j, s, by omega, h, last_yes h hc.1 hc.2, rfl⟩
      · rw [if_neg hc, last_no h hc]
        exact ih.imp id (fun ⟨t, s, a, b⟩ => ⟨t, s, by omega, b⟩)
theorem StesA.ata {w : World} {b o n : Nat} {ss : List Ste} (h : StesA w (some ⟨b, o, none⟩) n ss) {i : Nat} {s : Ste} (hi : ss[i]? = some s) : SteC w b (o + i * 4) s ∧ SteA w s := by
  obtain ⟨b', o', e, h1, h2⟩ := h.get i s hi
  cases e
  exact ⟨h1, h2⟩
theorem KB.drop {w0 w : World} {f : Fm} {g : Nat} {E : Ents} {W : List Ents} {B : Nat} {v : Value} {l : List Int} (h : KB w0 w (f.by v l) g E W B) : KB w0 w f g E W B := by
  obtain ⟨n, N, h, h3, h4⟩ := h.ex
  exact ⟨n, N, h.drop, h3, h4⟩
theorem bbytes {w0 w : World} {f : Fm} {g : Nat} {E : Ents} {W : List Ents} {B : Nat} {u v : Value} {a b : List Int} {r : Bool} (h : KB w0 w f g E W B) (hu : Fr w0 f u a) (hv : Fr w0 f v b) (ha : a.length ≤ 1000000000) (hb : b.length ≤ 1000000000) (hr : decide (a = b) = r) :
    Calls Tryz.prog 10 #[u, v] w (FinB w0 f g E W B (.bool r)) := by
  subst hr
  obtain ⟨n, N, h, h3, h4⟩ := h.ex
  refine (kbytes h hu hv ha hb).mono ?_
  rintro e w' ⟨rfl, h⟩
  exact ⟨rfl, n, N, h, h3, h4⟩
end Kv
end Go.Proofs.YtpoifdokmjhclaaGreat
