/- Several texts, joined: KvEa, KvEb, KvEc, KvEd, KvEe, KvEf, KvEg. -/
import Derived.Test.YtplminnejheceaaJqa
namespace Go.Proofs.Ytplminnejheceaa
namespace Kv
open Go.RowKit Go.Lib Pg
/-- what a change of Z's blocks leaves -/
def St (Z : Nat → Prop) (R : World → Prop) : Prop := ∀ u u', R u → Chg Z u u' → R u'
/-- the blocks from B on are as in w1 -/
def Frz (w1 : World) (B : Nat) (u : World) : Prop := w1.heap.size ≤ u.heap.size ∧ ∀ b, B ≤ b → b < w1.heap.size → u.heap[b]? = w1.heap[b]?
theorem Frz.st {w1 : World} {B : Nat} {Z : Nat → Prop} (hz : ∀ b, B ≤ b → b < w1.heap.size → ¬ Z b) : St Z (Frz w1 B) := fun _ _ h hc =>
  ⟨Nat.le_trans h.1 hc.size, fun b h3 h4 => (hc.same b (Nat.lt_of_lt_of_le h4 h.1) (hz b h3 h4)).trans (h.2 b h3 h4)⟩
theorem Frz.refl (w1 : World) (B : Nat) : Frz w1 B w1 := ⟨Nat.le_refl _, fun _ _ _ => rfl⟩
theorem Frz.ob {w1 u : World} {B : Nat} {D : Nat → Prop} {v : Value} {l : List Int} (h : Frz w1 B u) (hv : OB w1 D v l) (hD : ∀ b, D b → B ≤ b) : OB u D v l :=
  hv.same (fun b hb hd => h.2 b (hD b hd) hb)
theorem Frz.blk {w1 u : World} {B b : Nat} {cs : List Value} {t : TypeId} (h : Frz w1 B u) (hb : Blk w1 b cs t) (hB : B ≤ b) : Blk u b cs t := hb.same (h.2 b hB hb.lt)
theorem Frz.pr {w1 u : World} {B : Nat} {v : Value} {es : List En} (h : Frz w1 B u) (hv : PrA w1 B v es) : PrA u B v es :=
  ⟨hv.ex.imp id (fun ⟨b, c, e, hl, hR⟩ => ⟨b, c, e, hl, hR.same (h.2 b hl hR.lt)⟩), fun e he => ⟨h.ob (hv.ents e he).k (fun _ h => h), h.ob (hv.ents e he).v (fun _ h => h)⟩⟩
theorem Pl.same {w w' : World} {z X : Nat → Prop} {v : Value} {F : Ents} (h : Pl w z X v F) (hX : ∀ b, X b → z b) (hs : ∀ b, b < w.heap.size → z b → w'.heap[b]? = w.heap[b]?) : Pl w' z X v F := by
  obtain ⟨es, P, e⟩ := h.ex
  refine ⟨⟨es, ⟨P.ex.imp id ?_, fun e he => ⟨(P.ents e he).k.same hs, (P.ents e he).v.same hs⟩⟩, e⟩, h.blk⟩
  rintro ⟨b, c, ev, hl, hR⟩
  exact ⟨b, c, ev, hl, hR.same (hs b hR.lt (hX b (h.blk b _ _ ev)))⟩
theorem Pl.zmono {w : World} {z z' X : Nat → Prop} {v : Value} {F : Ents} (h : Pl w z X v F) (hz : ∀ b, b < w.heap.size → z b → z' b) : Pl w z' X v F := by
  obtain ⟨es, P, e⟩ := h.ex
  exact ⟨⟨es, ⟨P.ex, fun e he => (P.ents e he).mono hz⟩, e⟩, h.blk⟩
theorem RS.same {w w' : World} {z : Nat → Prop} {q n : Nat} {X : Nat → Prop} {E : Ents} {W : List Ents} (h : RS w z X q E W n) (hsz : w.heap.size ≤ w'.heap.size) (hs : ∀ b, b < w.heap.size → z b → w'.heap[b]? = w.heap[b]?) : RS w' z X q E W n := by
  obtain ⟨lv, wv, hb, hl, hw⟩ := h.ex
  have hX : ∀ b, X b → z b := fun b hb => (h.xz b hb).1
  refine ⟨⟨lv, wv, hb.same (hs q hb.lt (hX q h.xq)), hl.same hX hs, ⟨hw.ex.imp id ?_⟩⟩, h.xq, fun b hx => ⟨(h.xz b hx).1, Nat.lt_of_lt_of_le (h.xz b hx).2 hsz⟩, h.rise, h.small⟩
  rintro ⟨b, c, vs, e, hx, hR, hv⟩
  exact ⟨b, c, vs, e, hx, hR.same (hs b hR.lt (hX b hx)), fun i v F h1 h2 => (hv i v F h1 h2).same hX hs⟩
theorem RS.zmono {w : World} {z z' : Nat → Prop} {q n : Nat} {X : Nat → Prop} {E : Ents} {W : List Ents} (h : RS w z X q E W n) (hz : ∀ b, b < w.heap.size → z b → z' b) : RS w z' X q E W n := by
  obtain ⟨lv, wv, hb, hl, hw⟩ := h.ex
  refine ⟨⟨lv, wv, hb, hl.zmono hz, ⟨hw.ex.imp id ?_⟩⟩, h.xq, fun b hx => ⟨hz b (h.xz b hx).2 (h.xz b hx).1, (h.xz b hx).2⟩, h.rise, h.small⟩
  rintro ⟨b, c, vs, e, hx, hR, hv⟩
  exact ⟨b, c, vs, e, hx, hR, fun i v F h1 h2 => (hv i v F h1 h2).zmono hz⟩
def Gd (F : Ents) : Prop := Rise F ∧ ∀ x ∈ F, x.1.length ≤ 1000000000 ∧ x.2.length ≤ 1000000000
structure KPK (w0 w : World) (Z : Nat → Prop) (R : World → Prop) (K X : Nat → Prop) (g : Nat) (E : Ents) (W : List Ents) (n N q : Nat) (E2 : Ents) (W2 : List Ents) (n2 : Nat) : Prop where
  sa : SA w K Z g E W n N
  rs : RS w Z X q E2 W2 n2
  ap : ∀ b, K b → Z b ∧ ¬ X b
  wr : ∀ F ∈ W2, Gd F
  fr : R w
  st : St Z R
  zz : ∀ b, Z b → w0.heap.size ≤ b
  zn : ∀ b, w.heap.size ≤ b → Z b
  bel : Below w0.heap.size w0 w
structure KP (w0 w : World) (Z : Nat → Prop) (R : World → Prop) (g : Nat) (E : Ents) (W : List Ents) (n N q : Nat) (E2 : Ents) (W2 : List Ents) (n2 : Nat) : Prop where
  ex : ∃ K X, KPK w0 w Z R K X g E W n N q E2 W2 n2
section
variable {w0 w w' : World} {Z : Nat → Prop} {R : World → Prop} {K X : Nat → Prop} {g : Nat} {E : Ents} {W : List Ents} {n N q : Nat} {E2 : Ents} {W2 : List Ents} {n2 : Nat}
theorem KPK.xz (h : KPK w0 w Z R K X g E W n N q E2 W2 n2) {b : Nat} (hb : X b) : Z b ∧ b < w.heap.size := h.rs.xz b hb
/-- a step of the program's store -/
theorem KPK.sstep {K' : Nat → Prop} {E' : Ents} {W' : List Ents} {n' N' : Nat} (h : KPK w0 w Z R K X g E W n N q E2 W2 n2) (hs : SA w' K' (fun b => Z b ∨ w.heap.size ≤ b) g E' W' n' N') (hK : ∀ b, K' b → K b ∨ w.heap.size ≤ b) (hc : Chg K w w') : KPK w0 w' Z R K' X g E' W' n' N' q E2 W2 n2 := by
  have hcz : Chg Z w w' := hc.mono (fun b _ hb => (h.ap b hb).1)
  refine ⟨hs.mono (fun b _ hb => hb.elim id (h.zn b)), h.rs.chg hc (fun b hb => (h.ap b hb).2) (fun b hb cs => h.sa.noU hb cs), fun b hb => ?_, h.wr, h.st _ _ h.fr hcz, h.st, h.zz, fun b hb => h.zn b (Nat.le_trans hc.size hb), h.bel.trans (hc.below (fun b hb => h.zz b (h.ap b hb).1) h.bel.size)⟩
  rcases hK b hb with hk | hk
  · exact h.ap b hk
  · exact ⟨h.zn b hk, fun hx => by have := (h.xz hx).2; omega⟩
/-- a step of the document's -/
theorem KPK.rstep {X' : Nat → Prop} {E' : Ents} {W' : List Ents} {n' : Nat} (h : KPK w0 w Z R K X g E W n N q E2 W2 n2) (hr : RS w' Z X' q E' W' n') (hX : ∀ b, X' b → X b ∨ w.heap.size ≤ b) (hc : Chg (XU w X) w w') (hw : ∀ F ∈ W', Gd F) : KPK w0 w' Z R K X' g E W n N q E' W' n' := by
  have hcz : Chg Z w w' := hc.mono (fun b _ hb => (h.xz hb.1).1)
  refine ⟨h.sa.chg hc (fun b hb hk => (h.ap b hk).2 hb.1) (fun b hb => hb.2), hr, fun b hb => ⟨(h.ap b hb).1, fun hx => ?_⟩, hw, h.st _ _ h.fr hcz, h.st, h.zz, fun b hb => h.zn b (Nat.le_trans hc.size hb), h.bel.trans (hc.below (fun b hb => h.zz b (h.xz hb.1).1) h.bel.size)⟩
  rcases hX b hx with hx | hx
  · exact (h.ap b hb).2 hx
  · have := h.sa.lt hb; omega
theorem KPK.keep (h : KPK w0 w Z R K X g E W n N q E2 W2 n2) (B : Below w.heap.size w w') : KPK w0 w' Z R K X g E W n N q E2 W2 n2 :=
  h.sstep ((h.sa.keep B).mono (fun _ _ h => .inl h)) (fun _ h => .inl h) (Chg.of B)
theorem KP.keep (h : KP w0 w Z R g E W n N q E2 W2 n2) (B : Below w.heap.size w w') : KP w0 w' Z R g E W n N q E2 W2 n2 := by
  obtain ⟨K, X, h⟩ := h.ex
  exact ⟨K, X, h.keep B⟩
theorem KP.drew (h : KP w0 w Z R g E W n N q E2 W2 n2) : KP w0 w.drew Z R g E W n N q E2 W2 n2 := h.keep (belowD' w)
theorem KP.fr (h : KP w0 w Z R g E W n N q E2 W2 n2) : R w := by
  obtain ⟨K, X, h⟩ := h.ex
  exact h.fr
theorem KP.bel (h : KP w0 w Z R g E W n N q E2 W2 n2) : Below w0.heap.size w0 w := by
  obtain ⟨K, X, h⟩ := h.ex
  exact h.bel
theorem KP.depth (h : KP w0 w Z R g E W n N q E2 W2 n2) : W.length ≤ 16 := by
  obtain ⟨K, X, h⟩ := h.ex
  exact h.sa.depth
theorem KP.size (h : KP w0 w Z R g E W n N q E2 W2 n2) : E.length ≤ N := by
  obtain ⟨K, X, h⟩ := h.ex
  exact h.sa.size
theorem KP.gd (h : KP w0 w Z R g E W n N q E2 W2 n2) : Gd E := by
  obtain ⟨K, X, h⟩ := h.ex
  exact ⟨h.sa.rise, h.sa.small⟩
/-- bytes at hand: of the arguments, or of the frame -/
def Fb (w0 : World) (R : World → Prop) (v : Value) (l : List Int) : Prop := By w0 v l ∨ ∀ u, R u → By u v l
theorem KPK.bz (h : KPK w0 w Z R K X g E W n N q E2 W2 n2) {v : Value} {l : List Int} (hv : Fb w0 R v l) : BK w Z v l := fun w' hc => by
  rcases hv with hv | hv
  · exact hv.keep (h.bel.trans (hc.below h.zz h.bel.size))
  · exact hv w' (h.st _ _ h.fr hc)
theorem KPK.bk (h : KPK w0 w Z R K X g E W n N q E2 W2 n2) {v : Value} {l : List Int} (hv : Fb w0 R v l) : BK w K v l := fun w' hc => h.bz hv w' (hc.mono (fun b _ hb => (h.ap b hb).1))
theorem KPK.bq (h : KPK w0 w Z R K X g E W n N q E2 W2 n2) {v : Value} {l : List Int} (hv : Fb w0 R v l) : BK w (· = q) v l := fun w' hc => h.bz hv w' (hc.mono (fun b _ hb => by have e : b = q := hb; subst e; exact (h.xz h.rs.xq).1))
/-- a new frame: what was made since stays as it is -/
theorem KPK.hole {n' N' : Nat} {E' : Ents} {W' : List Ents} (h : KPK w0 w Z R K X g E W n N q E2 W2 n2) (hs : SA w' K (fun b => Z b ∧ b < w.heap.size) g E' W' n' N') (hc : Chg K w w') : KPK w0 w' (fun b => Z b ∧ ¬ (w.heap.size ≤ b ∧ b < w'.heap.size)) (fun u => R u ∧ Frz w' w.heap.size u) K X g E' W' n' N' q E2 W2 n2 := by
  have h' := h.sstep (hs.mono (fun _ _ h => .inl h.1)) (fun _ h => .inl h) hc
  refine ⟨hs.mono (fun b _ hb => ⟨hb.1, fun hh => by have := hb.2; omega⟩), ?_, fun b hb => ⟨⟨(h.ap b hb).1, fun hh => by have := h.sa.lt hb; omega⟩, (h.ap b hb).2⟩, h.wr, ⟨h'.fr, Frz.refl _ _⟩, ?_, fun b hb => h.zz b hb.1, fun b hb => ⟨h.zn b (Nat.le_trans hc.size hb), fun hh => by omega⟩, h'.bel⟩
  · have r0 : RS w (fun b => Z b ∧ ¬ (w.heap.size ≤ b ∧ b < w'.heap.size)) X q E2 W2 n2 := h.rs.zmono (fun b hb hz => ⟨hz, fun hh => by omega⟩)
    exact r0.chg hc (fun b hb => (h.ap b hb).2) (fun b hb cs => h.sa.noU hb cs)
  · intro u u' hR hc'
    exact ⟨h.st u u' hR.1 (hc'.mono (fun _ _ h => h.1)), Frz.st (Z := fun b => Z b ∧ ¬ (w.heap.size ≤ b ∧ b < w'.heap.size)) (fun b h1 h2 h3 => h3.2 ⟨h1, h2⟩) u u' hR.2 hc'⟩
/-- the frame is given up -/
theorem KPK.wide {Z' : Nat → Prop} {R' : World → Prop} (h : KPK w0 w Z R K X g E W n N q E2 W2 n2) (hZ : ∀ b, Z b → Z' b) (hz : ∀ b, Z' b → w0.heap.size ≤ b) (hR : R' w) (hS : St Z' R') : KPK w0 w Z' R' K X g E W n N q E2 W2 n2 :=
  ⟨h.sa.mono (fun b _ hb => hZ b hb), h.rs.zmono (fun b _ hb => hZ b hb), fun b hb => ⟨hZ b (h.ap b hb).1, (h.ap b hb).2⟩, h.wr, hR, hS, hz, fun b hb => hZ b (h.zn b hb), h.bel⟩
/-- what lies outside Z is written over -/
theorem KPK.off {Y : Nat → Prop} (h : KPK w0 w Z R K X g E W n N q E2 W2 n2) (hc : Chg Y w w') (hY : ∀ b, Y b → ¬ Z b ∧ w0.heap.size ≤ b) : KPK w0 w' Z (fun _ => True) K X g E W n N q E2 W2 n2 :=
  ⟨h.sa.same (fun b hb => hc.same b (h.sa.lt hb) (fun hy => (hY b hy).1 (h.ap b hb).1)) (fun b hb hz _ => hc.same b hb (fun hy => (hY b hy).1 hz)), h.rs.same hc.size (fun b hb hz => hc.same b hb (fun hy => (hY b hy).1 hz)), h.ap, h.wr, trivial, fun _ _ _ _ => trivial, h.zz, fun b hb => h.zn b (Nat.le_trans hc.size hb), h.bel.trans (hc.below (fun b hb => (hY b hb).2) h.bel.size)⟩
end
end Kv
end Go.Proofs.Ytplminnejheceaa

namespace Go.Proofs.Ytplminnejheceaa
namespace Kv
open Go.RowKit Go.Lib Pg
section
variable {w0 w : World} {Z : Nat → Prop} {R : World → Prop} {g : Nat} {E : Ents} {W : List Ents} {n N q : Nat} {E2 : Ents} {W2 : List Ents} {n2 : Nat}
structure FinA (w0 : World) (Z : Nat → Prop) (R : World → Prop) (g : Nat) (E : Ents) (W : List Ents) (n N q : Nat) (E2 : Ents) (W2 : List Ents) (n2 : Nat) (r : Value) (e : Ending) (w' : World) : Prop where
  ret : e = .returned r
  kp : KP w0 w' Z R g E W n N q E2 W2 n2
theorem KP.ends {E' : Ents} {W' : List Ents} {n' N' : Nat} {r : Value} {P : Nat} {args : Array Value} (h : KP w0 w Z R g E W n N q E2 W2 n2) (u : ∀ K X, KPK w0 w Z R K X g E W n N q E2 W2 n2 → Calls Try.prog P args w (Ends w K Z g E' W' n' N' r)) : Calls Try.prog P args w (FinA w0 Z R g E' W' n' N' q E2 W2 n2 r) := by
  obtain ⟨K, X, h⟩ := h.ex
  refine (u K X h).mono ?_
  rintro e w' ⟨rfl, K', hs, hK, hc⟩
  exact ⟨rfl, K', X, h.sstep hs hK hc⟩
theorem pset {kv vv : Value} {k v : List Int} {E' : Ents} {r : Int} (h : KP w0 w Z R g E W n N q E2 W2 n2) (hk : Fb w0 R kv k) (hv : Fb w0 R vv v) (hn : n ≤ 4000000000000000000) (hN : N + 2 ≤ 100000000) (hE : (if setE k v = 0 then put E k v else E) = E') (hr : setE k v = r) :
    Calls Try.prog 18 #[.pointer (some ⟨g, 0, none⟩), kv, vv] w (FinA w0 Z R g E' W (n + 1) (N + 2) q E2 W2 n2 (.int .i64 r)) := by
  subst hE hr
  exact h.ends fun K X h => sset h.sa (h.bk hk) (h.bk hv) hn hN
theorem pdel {kv : Value} {k : List Int} {r : Bool} (h : KP w0 w Z R g E W n N q E2 W2 n2) (hk : Fb w0 R kv k) (hkl : k.length ≤ 1000000000) (hn : n ≤ 4000000000000000000) (hN : N + 2 ≤ 100000000) (hr : (look E k).isSome = r) :
    Calls Try.prog 20 #[.pointer (some ⟨g, 0, none⟩), kv] w (FinA w0 Z R g (rem E k) W (n + 1) (N + 2) q E2 W2 n2 (.bool r)) := by
  subst hr
  exact h.ends fun K X h => sdel h.sa (h.bk hk) hkl hn hN
theorem prollback {E' : Ents} {W' : List Ents} {r : Int} (h : KP w0 w Z R g E W n N q E2 W2 n2) (hN : N ≤ 100000000) (hE : W.headD E = E') (hW : W.tail = W') (hr : (if W = [] then 62 else 0) = r) :
    Calls Try.prog 22 #[.pointer (some ⟨g, 0, none⟩)] w (FinA w0 Z R g E' W' n N q E2 W2 n2 (.int .i64 r)) := by
  subst hE hW hr
  exact h.ends fun K X h => srollback h.sa hN
theorem pcommit {W' : List Ents} {r : Int} (h : KP w0 w Z R g E W n N q E2 W2 n2) (hN : N ≤ 100000000) (hW : W.tail = W') (hr : (if W = [] then 62 else 0) = r) :
    Calls Try.prog 21 #[.pointer (some ⟨g, 0, none⟩)] w (FinA w0 Z R g E W' n N q E2 W2 n2 (.int .i64 r)) := by
  subst hW hr
  exact h.ends fun K X h => scommit h.sa hN
theorem pbegin {W' : List Ents} {r : Int} (h : KP w0 w Z R g E W n N q E2 W2 n2) (hW : (if W.length = 16 then W else E :: W) = W') (hr : (if W.length = 16 then 62 else 0) = r) :
    Calls Try.prog 19 #[.pointer (some ⟨g, 0, none⟩)] w (FinA w0 Z R g E W' n N q E2 W2 n2 (.int .i64 r)) := by
  subst hW hr
  exact h.ends fun K X h => sbegin h.sa
theorem phas {kv : Value} {k : List Int} {r : Bool} (h : KP w0 w Z R g E W n N q E2 W2 n2) (hk : Fb w0 R kv k) (hn : n ≤ 4000000000000000000) (hN : N ≤ 100000000) (hr : (look E k).isSome = r) :
    Calls Try.prog 29 #[.pointer (some ⟨g, 0, none⟩), kv] w (FinA w0 Z R g E W (n + 1) N q E2 W2 n2 (.bool r)) := by
  subst hr
  obtain ⟨K, X, h⟩ := h.ex
  refine (shas h.sa (h.bk hk) hn hN).mono ?_
  rintro e w' ⟨rfl, S, c⟩
  exact ⟨rfl, K, X, h.sstep (S.mono (fun _ _ h => .inl h)) (fun _ h => .inl h) c⟩
/-- the frame of what was made between v0 and v1 -/
def hz (Z : Nat → Prop) (v0 v1 : World) (b : Nat) : Prop := Z b ∧ ¬ (v0.heap.size ≤ b ∧ b < v1.heap.size)
def hr (R : World → Prop) (v0 v1 : World) (u : World) : Prop := R u ∧ Frz v1 v0.heap.size u
/-- where it can be given up again -/
structure Out (w0 : World) (Z : Nat → Prop) (R : World → Prop) (v0 : World) : Prop where
  st : St Z R
  zn : ∀ b, v0.heap.size ≤ b → Z b
  zz : ∀ b, Z b → w0.heap.size ≤ b
theorem KP.out (h : KP w0 w Z R g E W n N q E2 W2 n2) : Out w0 Z R w := by
  obtain ⟨K, X, h⟩ := h.ex
  exact ⟨h.st, h.zn, h.zz⟩
theorem KP.give {v0 v1 w' : World} (h : KP w0 w (hz Z v0 v1) (hr R v0 v1) g E W n N q E2 W2 n2) (ho : Out w0 Z R v0) (hc : Chg (fun b => v0.heap.size ≤ b ∧ b < v1.heap.size) w w') : KP w0 w' Z R g E W n N q E2 W2 n2 := by
  obtain ⟨K, X, h⟩ := h.ex
  have h1 := h.off hc (fun b hb => ⟨fun hz => hz.2 hb, ho.zz b (ho.zn b hb.1)⟩)
  exact ⟨K, X, h1.wide (fun b hb => hb.1) ho.zz (ho.st _ _ h.fr.1 (hc.mono (fun b _ hb => ho.zn b hb.1))) ho.st⟩
theorem KP.give0 {v0 v1 : World} (h : KP w0 w (hz Z v0 v1) (hr R v0 v1) g E W n N q E2 W2 n2) (ho : Out w0 Z R v0) : KP w0 w Z R g E W n N q E2 W2 n2 := h.give ho (Chg.refl _ _)
/-- a frame of what was made by steps that change nothing old -/
theorem KP.hole0 {w' : World} (h : KP w0 w Z R g E W n N q E2 W2 n2) (B : Below w.heap.size w w') : KP w0 w' (hz Z w w') (hr R w w') g E W n N q E2 W2 n2 := by
  obtain ⟨K, X, h⟩ := h.ex
  exact ⟨K, X, h.hole ((h.sa.mono (fun b hb hz => (⟨hz, hb⟩ : Z b ∧ b < w.heap.size))).keep B) (Chg.of B)⟩
theorem Fb.more {v0 v1 : World} {v : Value} {l : List Int} (h : Fb w0 R v l) : Fb w0 (hr R v0 v1) v l := h.imp id (fun h u hu => h u hu.1)
structure FinGp (w0 : World) (Z : Nat → Prop) (R : World → Prop) (g : Nat) (E : Ents) (W : List Ents) (n N q : Nat) (E2 : Ents) (W2 : List Ents) (n2 : Nat) (w : World) (r : Bool) (l : List Int) (e : Ending) (w' : World) : Prop where
  ex : ∃ v, e = .returned (.tuple #[v, .bool r]) ∧ OB w' (fun b => w.heap.size ≤ b ∧ b < w'.heap.size) v l ∧ KP w0 w' (hz Z w w') (hr R w w') g E W n N q E2 W2 n2
theorem pget {kv : Value} {k : List Int} {r : Bool} {l : List Int} (h : KP w0 w Z R g E W n N q E2 W2 n2) (hk : Fb w0 R kv k) (hn : n ≤ 4000000000000000000) (hN : N ≤ 100000000) (hr : (look E k).isSome = r) (hl : (look E k).getD [] = l) :
    Calls Try.prog 28 #[.pointer (some ⟨g, 0, none⟩), kv] w (FinGp w0 Z R g E W (n + 1) N q E2 W2 n2 w r l) := by
  subst hr hl
  obtain ⟨K, X, h⟩ := h.ex
  refine (sget (h.sa.mono (fun b hb hz => (⟨hz, hb⟩ : Z b ∧ b < w.heap.size))) (h.bk hk) hn hN).mono ?_
  rintro e w' ⟨v, rfl, O, S, c⟩
  exact ⟨v, rfl, O.mono (fun b hb h => ⟨h, hb⟩), K, X, h.hole S c⟩
structure FinIp (w0 : World) (Z : Nat → Prop) (R : World → Prop) (g : Nat) (E : Ents) (W : List Ents) (n N q : Nat) (E2 : Ents) (W2 : List Ents) (n2 : Nat) (F : Ents) (e : Ending) (w' : World) : Prop where
  ex : ∃ v EL, e = .returned v ∧ Iter w' g EL v ∧ EL.map En.kl2 = F ∧ KP w0 w' Z R g E W n N q E2 W2 n2
theorem pwalk {fv tv : Value} {a t : List Int} (h : KP w0 w Z R g E W n N q E2 W2 n2) (hN : N ≤ 100000000) (hf : Fb w0 R fv a) (ht : Fb w0 R tv t) (hfl : a.length ≤ 1000000000) (htl : t.length ≤ 1000000000) :
    Calls Try.prog 26 #[.pointer (some ⟨g, 0, none⟩), fv, tv] w (FinIp w0 Z R g E W n N q E2 W2 n2 (E.filter (abtw a t))) := by
  obtain ⟨K, X, h⟩ := h.ex
  refine (swalk h.sa hN (h.bk hf).by (h.bk ht).by hfl htl).mono ?_
  rintro e w' ⟨v, EL, rfl, I, hE, B⟩
  exact ⟨v, EL, rfl, I, hE, K, X, h.keep B⟩
theorem pprefix {pv : Value} {p : List Int} (h : KP w0 w Z R g E W n N q E2 W2 n2) (hN : N ≤ 100000000) (hp : Fb w0 R pv p) (hpl : p.length ≤ 1000000) :
    Calls Try.prog 25 #[.pointer (some ⟨g, 0, none⟩), pv] w (FinIp w0 Z R g E W n N q E2 W2 n2 (E.filter (fun x => decide (p <+: x.1)))) := by
  obtain ⟨K, X, h⟩ := h.ex
  refine (sprefix h.sa hN (h.bk hp).by hpl).mono ?_
  rintro e w' ⟨v, EL, rfl, I, hE, B⟩
  exact ⟨v, EL, rfl, I, hE, K, X, h.keep B⟩
structure FinTp (w0 : World) (Z : Nat → Prop) (R : World → Prop) (g : Nat) (E : Ents) (W : List Ents) (n N q : Nat) (E2 : Ents) (W2 : List Ents) (n2 : Nat) (w : World) (F : Ents) (e : Ending) (w' : World) : Prop where
  ex : ∃ v es, e = .returned v ∧ PrA w' w.heap.size v es ∧ es.map En.kl2 = F ∧ KP w0 w' (hz Z w w') (hr R w w') g E W n N q E2 W2 n2
theorem ptaken {F : Ents} {m : Nat} {v : Value} {EL : List En} (h : KP w0 w Z R g E W n N q E2 W2 n2) (hI : Iter w g EL v) (hF : EL.map En.kl2 = F) (hm0 : 0 < m) (hm : m ≤ 1073741824) (hx : n + F.length ≤ 3000000000000000000) :
    Calls Try.prog 24 #[v, .int .i64 m] w (FinTp w0 Z R g E W (n + 1 + (F.take m).length) N q E2 W2 n2 w (F.take m)) := by
  obtain ⟨K, X, h⟩ := h.ex
  have hl : F.length = EL.length := by rw [← hF, List.length_map]
  refine (staken (h.sa.mono (fun b hb hz => (⟨hz, hb⟩ : Z b ∧ b < w.heap.size))) hI hm0 hm (by omega)).mono ?_
  rintro e w' ⟨v2, es, rfl, P, he, S, c⟩
  rw [hF] at he
  have hl2 : es.length = (F.take m).length := by rw [← he, List.length_map]
  rw [hl2] at S
  exact ⟨v2, es, rfl, P, he, K, X, h.hole S (c.mono (fun b _ e => by have e' : b = g := e; subst e'; exact h.sa.top))⟩
theorem pdump (h : KP w0 w Z R g E W n N q E2 W2 n2) (hN : N ≤ 100000000) :
    Calls Try.prog 15 #[.pointer (some ⟨g, 0, none⟩)] w (FinTp w0 Z R g E W n N q E2 W2 n2 w E) := by
  obtain ⟨K, X, hk⟩ := id h.ex
  refine (sdump hk.sa hN).mono ?_
  rintro e w' ⟨v, es, rfl, P, he, B⟩
  exact ⟨v, es, rfl, P, he, h.hole0 B⟩
theorem pdepth {m : Nat} (h : KP w0 w Z R g E W n N q E2 W2 n2) (hm : W.length = m) :
    Calls Try.prog 16 #[.pointer (some ⟨g, 0, none⟩)] w fun e w' => e = .returned (.int .i64 m) ∧ w' = w := by
  subst hm
  obtain ⟨K, X, h⟩ := h.ex
  exact sdepth h.sa
theorem pops (h : KP w0 w Z R g E W n N q E2 W2 n2) :
    Calls Try.prog 17 #[.pointer (some ⟨g, 0, none⟩)] w fun e w' => e = .returned (.int .i64 n) ∧ w' = w := by
  obtain ⟨K, X, h⟩ := h.ex
  exact sops h.sa
/-! ## the document's -/
theorem KPK.bset {K X : Nat → Prop} {kv : Value} {k : List Int} (h : KPK w0 w Z R K X g E W n N q E2 W2 n2) (hk : Fb w0 R kv k) (x : Value) : By (w.setCell ⟨q, 2, none⟩ x) kv k := h.bq hk _ ((Chg.refl (fun x => x = q) w).cell (.inl rfl) _)
theorem prset {kv vv : Value} {k v : List Int} {E' : Ents} {r : Int} (h : KP w0 w Z R g E W n N q E2 W2 n2) (hk : Fb w0 R kv k) (hv : Fb w0 R vv v) (hn : n2 ≤ 4000000000000000000) (hm : E2.length ≤ 1000000) (hE : (if setE k v = 0 then put E2 k v else E2) = E') (hr : setE k v = r) :
    Calls Try.prog 33 #[.pointer (some ⟨q, 0, none⟩), kv, vv] w (FinA w0 Z R g E W n N q E' W2 (n2 + 1) (.int .i64 r)) := by
  subst hE hr
  obtain ⟨K, X, h⟩ := h.ex
  refine (rset h.rs h.zn (h.bq hk).by (h.bq hv).by (h.bset hk _) (h.bset hv _) hn hm).mono ?_
  rintro e w' ⟨rfl, X', hs, hX, _, hc⟩
  exact ⟨rfl, K, X', h.rstep hs hX hc h.wr⟩
theorem prdel {kv : Value} {k : List Int} {r : Bool} (h : KP w0 w Z R g E W n N q E2 W2 n2) (hk : Fb w0 R kv k) (hkl : k.length ≤ 1000000000) (hn : n2 ≤ 4000000000000000000) (hm : E2.length ≤ 1000000) (hr : (look E2 k).isSome = r) :
    Calls Try.prog 34 #[.pointer (some ⟨q, 0, none⟩), kv] w (FinA w0 Z R g E W n N q (rem E2 k) W2 (n2 + 1) (.bool r)) := by
  subst hr
  obtain ⟨K, X, h⟩ := h.ex
  refine (rdel h.rs h.zn (h.bq hk).by (h.bset hk _) hkl hn hm).mono ?_
  rintro e w' ⟨rfl, X', hs, hX, _, hc⟩
  exact ⟨rfl, K, X', h.rstep hs hX hc h.wr⟩
theorem KPK.cq {K X : Nat → Prop} {w' : World} (h : KPK w0 w Z R K X g E W n N q E2 W2 n2) (hc : Chg (· = q) w w') : Chg (XU w X) w w' := hc.mono (fun b _ e => by have e' : b = q := e; subst e'; exact h.rs.noU)
structure FinGr (w0 : World) (Z : Nat → Prop) (R : World → Prop) (g : Nat) (E : Ents) (W : List Ents) (n N q : Nat) (E2 : Ents) (W2 : List Ents) (n2 : Nat) (r : Bool) (l : List Int) (e : Ending) (w' : World) : Prop where
  ex : ∃ v, e = .returned (.tuple #[v, .bool r]) ∧ By w' v l ∧ KP w0 w' Z R g E W n N q E2 W2 n2
theorem prget {kv : Value} {k : List Int} {r : Bool} {l : List Int} (h : KP w0 w Z R g E W n N q E2 W2 n2) (hk : Fb w0 R kv k) (hkl : k.length ≤ 1000000000) (hn : n2 ≤ 4000000000000000000) (hm : E2.length ≤ 1000000) (hr : (look E2 k).isSome = r) (hl : (look E2 k).getD [] = l) :
    Calls Try.prog 35 #[.pointer (some ⟨q, 0, none⟩), kv] w (FinGr w0 Z R g E W n N q E2 W2 (n2 + 1) r l) := by
  subst hr hl
  obtain ⟨K, X, h⟩ := h.ex
  refine (rget h.rs (h.bq hk).by hkl (h.bset hk _) hn hm).mono ?_
  rintro e w' ⟨v, rfl, O, hs, hc⟩
  exact ⟨v, rfl, O.by, K, X, h.rstep hs (fun _ h => .inl h) (h.cq hc) h.wr⟩
structure FinPr (w0 : World) (Z : Nat → Prop) (R : World → Prop) (g : Nat) (E : Ents) (W : List Ents) (n N q : Nat) (E2 : Ents) (W2 : List Ents) (n2 : Nat) (F : Ents) (e : Ending) (w' : World) : Prop where
  ex : ∃ v es, e = .returned v ∧ PrA w' w0.heap.size v es ∧ es.map En.kl2 = F ∧ KP w0 w' Z R g E W n N q E2 W2 n2
theorem prwalk {fv tv : Value} {f t : List Int} {most : Nat} (h : KP w0 w Z R g E W n N q E2 W2 n2) (hf : Fb w0 R fv f) (ht : Fb w0 R tv t) (hfl : f.length ≤ 1000000000) (htl : t.length ≤ 1000000000) (hn : n2 ≤ 3000000000000000000) (hm : E2.length ≤ 1000000) (hmo : most ≤ 1000000) :
    Calls Try.prog 38 #[.pointer (some ⟨q, 0, none⟩), fv, tv, .int .i64 most] w (FinPr w0 Z R g E W n N q E2 W2 (n2 + 1 + ((E2.filter (abtw f t)).take most).length) ((E2.filter (abtw f t)).take most)) := by
  obtain ⟨K, X, h⟩ := h.ex
  refine (rwalk h.rs (h.bq hf) (h.bq ht) hfl htl hn hm hmo).mono ?_
  rintro e w' ⟨v, es, rfl, P, he, hs, hc⟩
  exact ⟨v, es, rfl, P.a h.bel.size (fun b _ hb => h.zz b hb), he, K, X, h.rstep hs (fun _ h => .inl h) (h.cq hc) h.wr⟩
theorem prprefix {pv : Value} {p : List Int} {most : Nat} (h : KP w0 w Z R g E W n N q E2 W2 n2) (hp : Fb w0 R pv p) (hpl : p.length ≤ 1000000000) (hn : n2 ≤ 3000000000000000000) (hm : E2.length ≤ 1000000) (hmo : most ≤ 1000000) :
    Calls Try.prog 39 #[.pointer (some ⟨q, 0, none⟩), pv, .int .i64 most] w (FinPr w0 Z R g E W n N q E2 W2 (n2 + 1 + ((E2.filter (fun x => decide (p <+: x.1))).take most).length) ((E2.filter (fun x => decide (p <+: x.1))).take most)) := by
  obtain ⟨K, X, h⟩ := h.ex
  refine (rprefix h.rs (h.bq hp) hpl hn hm hmo).mono ?_
  rintro e w' ⟨v, es, rfl, P, he, hs, hc⟩
  exact ⟨v, es, rfl, P.a h.bel.size (fun b _ hb => h.zz b hb), he, K, X, h.rstep hs (fun _ h => .inl h) (h.cq hc) h.wr⟩
theorem prbegin {W' : List Ents} {r : Int} (h : KP w0 w Z R g E W n N q E2 W2 n2) (hW2 : W2.length ≤ 16) (hW : (if W2.length = 16 then W2 else E2 :: W2) = W') (hr : (if W2.length = 16 then 62 else 0) = r) :
    Calls Try.prog 40 #[.pointer (some ⟨q, 0, none⟩)] w (FinA w0 Z R g E W n N q E2 W' n2 (.int .i64 r)) := by
  subst hW hr
  obtain ⟨K, X, h⟩ := h.ex
  refine (rbegin h.rs h.zn hW2).mono ?_
  rintro e w' ⟨rfl, X', hs, hX, _, hc⟩
  refine ⟨rfl, K, X', h.rstep hs hX hc ?_⟩
  intro F hF
  unfold begun at hF
  split at hF
  · exact h.wr F hF
  · rcases List.mem_cons.1 hF with rfl | hF
    · exact ⟨h.rs.rise, h.rs.small⟩
    · exact h.wr F hF
theorem prcommit {W' : List Ents} {r : Int} (h : KP w0 w Z R g E W n N q E2 W2 n2) (hW2 : W2.length ≤ 16) (hW : W2.tail = W') (hr : (if W2 = [] then 62 else 0) = r) :
    Calls Try.prog 41 #[.pointer (some ⟨q, 0, none⟩)] w (FinA w0 Z R g E W n N q E2 W' n2 (.int .i64 r)) := by
  subst hW hr
  obtain ⟨K, X, h⟩ := h.ex
  refine (rcommit h.rs hW2).mono ?_
  rintro e w' ⟨rfl, hs, hc⟩
  exact ⟨rfl, K, X, h.rstep hs (fun _ h => .inl h) (h.cq hc) (fun F hF => h.wr F (List.mem_of_mem_tail hF))⟩
theorem prrollback {E' : Ents} {W' : List Ents} {r : Int} (h : KP w0 w Z R g E W n N q E2 W2 n2) (hW2 : W2.length ≤ 16) (hE : W2.headD E2 = E') (hW : W2.tail = W') (hr : (if W2 = [] then 62 else 0) = r) :
    Calls Try.prog 42 #[.pointer (some ⟨q, 0, none⟩)] w (FinA w0 Z R g E W n N q E' W' n2 (.int .i64 r)) := by
  subst hE hW hr
  obtain ⟨K, X, h⟩ := h.ex
  refine (rrollback h.rs hW2 h.wr).mono ?_
  rintro e w' ⟨rfl, hs, hc⟩
  exact ⟨rfl, K, X, h.rstep hs (fun _ h => .inl h) (h.cq hc) (fun F hF => h.wr F (List.mem_of_mem_tail hF))⟩
/-- a list that was taken, and the document's -/
theorem ppairs {v0 v1 : World} {u v : Value} {F : Ents} {a b : List En} (h : KP w0 w (hz Z v0 v1) (hr R v0 v1) g E W n N q E2 W2 n2) (hu : PrA v1 v0.heap.size u a) (ha : a.map En.kl2 = F) (hv : PrA w w0.heap.size v b) (hb : b.map En.kl2 = F) (hF : F.length ≤ 1000000000) (hs : ∀ x ∈ F, x.1.length ≤ 1000000000 ∧ x.2.length ≤ 1000000000) (ho : Out w0 Z R v0) :
    Calls Try.prog 14 #[u, v] w (FinA w0 Z R g E W n N q E2 W2 n2 (.bool true)) := by
  have hl : a.length = F.length := by rw [← ha, List.length_map]
  refine (pairs_same (h.fr.2.pr hu) hv (ha.trans hb.symm) (fun e he => hs e.kl2 (by rw [← ha]; exact List.mem_map_of_mem he)) (by omega)).mono ?_
  rintro e w' ⟨rfl, B⟩
  exact ⟨rfl, (h.keep B).give0 ho⟩
theorem pbytes {u v : Value} {a b : List Int} (h : KP w0 w Z R g E W n N q E2 W2 n2) (hu : By w u a) (hv : By w v b) (he : a = b) (ha : a.length ≤ 1000000000) :
    Calls Try.prog 23 #[u, v] w (FinA w0 Z R g E W n N q E2 W2 n2 (.bool true)) := by
  subst he
  refine (bytes_any hu hv ha ha).mono ?_
  rintro e w' ⟨rfl, B⟩
  exact ⟨by simp, h.keep B⟩
theorem KP.bys {v : Value} {l : List Int} (h : KP w0 w Z R g E W n N q E2 W2 n2) (hv : Fb w0 R v l) : By w v l := by
  obtain ⟨K, X, h⟩ := h.ex
  exact (h.bq hv).by
end
end Kv
end Go.Proofs.Ytplminnejheceaa

namespace Go.Proofs.Ytplminnejheceaa
namespace Kv
open Go.RowKit Go.Lib Pg
attribute [local go_sem] Oper.semAt_some
def ZO (w0 : World) (b : Nat) : Prop := w0.heap.size ≤ b
def TR : World → Prop := fun _ => True
structure FinDo (w0 : World) (g n N q : Nat) (e : Ending) (w' : World) : Prop where
  ret : e = .returned (.bool true)
  ex : ∃ E W n' N', KP w0 w' (ZO w0) TR g E W n' N' q E W n' ∧ n' ≤ n + 40 ∧ N' ≤ N + 2
theorem KP.xs {w0 w v0 v1 : World} {Z : Nat → Prop} {R : World → Prop} {g : Nat} {E : Ents} {W : List Ents} {n N q : Nat} {E2 : Ents} {W2 : List Ents} {n2 : Nat} {s : Nat} {cs : List Value} {t : TypeId} (h : KP w0 w (hz Z v0 v1) (hr R v0 v1) g E W n N q E2 W2 n2) (hb : Blk v1 s cs t) (hs : v0.heap.size ≤ s) : Blk w s cs t := h.fr.2.blk hb hs
theorem ld_8 {w : World} {g o : Nat} {v : Value} (c : w.cell? ⟨g, o, none⟩ = some v) : (loadVar 32 ⟨g, o, none⟩).run Try.prog w = .ok v w := by go_simp
theorem small_look {E : Ents} (h : Gd E) (k : List Int) : ((look E k).getD []).length ≤ 1000000000 := by
  cases hl : look E k with
  | none => simp
  | some v =>
    obtain ⟨k1, k2, -, -⟩ := cnt_look h.1 k
    rw [hl] at k1
    cases e : E[cnt E k]? with
    | none => rw [e] at k1; cases k1
    | some x =>
      rw [e] at k1
      have hx : x.1 = k := by simpa using k1.symm
      have hv := k2 x e hx
      rw [hl] at hv
      cases hv
      exact (h.2 x (List.mem_of_getElem? e)).2
/-- both copies are written over -/
theorem KP.ends2 {w0 w v0 v1 w7 w8 : World} {u1 : Nat} {Z : Nat → Prop} {R : World → Prop} {g : Nat} {E : Ents} {W : List Ents} {n N q : Nat} {E2 : Ents} {W2 : List Ents} {n2 : Nat} (h : KP w0 w (hz Z v0 v1) (hr R v0 v1) g E W n N q E2 W2 n2) (ho : Out w0 Z R v0) (h1 : v0.heap.size ≤ u1) (h2 : u1 ≤ v1.heap.size) (s7 : Spd (fun b => v0.heap.size ≤ b ∧ b < u1) w w7) (s8 : Spd (fun b => u1 ≤ b ∧ b < v1.heap.size) w7 w8) : KP w0 w8 Z R g E W n N q E2 W2 n2 := by
  refine h.give ho ((s7.chg.mono (fun b _ hb => ⟨hb.1.1, by have := hb.1.2; omega⟩)).trans s8.chg (fun b _ hb => ⟨by have := hb.1.1; omega, hb.1.2⟩))
end Kv
end Go.Proofs.Ytplminnejheceaa

namespace Go.Proofs.Ytplminnejheceaa
namespace Kv
open Go.RowKit Go.Lib Pg
attribute [local go_sem] Oper.semAt_some
set_option maxHeartbeats 2000000 in
set_option maxRecDepth 100000 in
theorem does_0 {w0 w : World} {g n N q : Nat} {E : Ents} {W : List Ents} {ka va : Option Addr} {kc vc : Nat} {k v : List Int} {nm : Int} (h : KP w0 w (ZO w0) TR g E W n N q E W n) (hk : By w0 (.slice ka k.length kc) k) (hv : By w0 (.slice va v.length vc) v) (hkl : k.length ≤ 8000) (hvl : v.length ≤ 8000) (hn : n ≤ 1000000) (hN : N ≤ 100000) :
    Calls Try.prog 13 #[.pointer (some ⟨g, 0, none⟩), .pointer (some ⟨q, 0, none⟩), .agg #[.int .i64 0, .int .i64 nm, .slice ka k.length kc, .slice va v.length vc]] w (FinDo w0 g n N q) := by
  have hsz := h.size
  have hnU := hn
  have hNU := hN
  have hdp := h.depth
  have hgd := h.gd
  obtain ⟨kn, hkn⟩ : ∃ kn, Hid (k.length = kn) := ⟨_, rfl⟩
  obtain ⟨vn, hvn⟩ : ∃ vn, Hid (v.length = vn) := ⟨_, rfl⟩
  have hkl9 : k.length ≤ 1000000000 := by omega
  have hvl9 : v.length ≤ 1000000000 := by omega
  have hkl6 : k.length ≤ 1000000 := by omega
  rw [hkn.out] at hk hkl ⊢
  rw [hvn.out] at hv hvl ⊢
  have FK := hid3 (show ∀ R, Fb w0 R (.slice ka kn kc) k from fun _ => .inl hk)
  have FV := hid3 (show ∀ R, Fb w0 R (.slice va vn vc) v from fun _ => .inl hv)
  have HO := hid3 h.out
  have HB := hid3 h.bel
  have b0 := hid3 (below_alloc w (.cells #[.int .i64 0, .int .i64 nm, .slice ka kn kc, .slice va vn vc] 34))
  have x0 := hid3 (blk_new w [.int .i64 0, .int .i64 nm, .slice ka kn kc, .slice va vn vc] 34)
  have hsa := size_al w (.cells #[.int .i64 0, .int .i64 nm, .slice ka kn kc, .slice va vn vc] 34)
  have HH := hid3 h
  have HK0 := hid3 hk
  have HV0 := hid3 hv
  have hgd' := hid3 hgd
  clear h hk hv hgd
  go_enter Try.func13, Try.ntmps13
  go_wp2_with fail
  obtain ⟨wa, hwa⟩ : ∃ wa, Hid (w.alloc (.cells #[.int .i64 0, .int .i64 nm, .slice ka kn kc, .slice va vn vc] 34) = wa) := ⟨_, rfl⟩
  rw [hwa.out] at b0 x0 hsa ⊢
  have xd := hid3 (x0.out.keep (belowD' wa))
  have b0d := hid3 (joinB b0.out (belowD' wa))
  refine rg_start (S := fun u => Blk u w.heap.size [.int .i64 0, .int .i64 nm, .slice ka kn kc, .slice va vn vc] 34) (by kernel_rfl) xd.out ?_
  refine rg_take 0 (some 18) (.pointer (some ⟨w.heap.size, 2, none⟩)) (by kernel_rfl) (fun _ _ => by kernel_rfl) (fun _ _ _ h => h) xd.out ?_
  refine rg_load 1 (some 19) (.slice ka kn kc) 32 18 w.heap.size 2 (by kernel_rfl) (by kernel_rfl) (by kernel_rfl) (fun u h => ld_8 (h.cell (i := 2) rfl)) (fun _ _ _ h => h) xd.out ?_
  refine rg_take 3 (some 21) (.pointer (some ⟨w.heap.size, 3, none⟩)) (by kernel_rfl) (fun _ _ => by kernel_rfl) (fun _ _ _ h => h) xd.out ?_
  refine rg_load 4 (some 22) (.slice va vn vc) 32 21 w.heap.size 3 (by kernel_rfl) (by kernel_rfl) (by kernel_rfl) (fun u h => ld_8 (h.cell (i := 3) rfl)) (fun _ _ _ h => h) xd.out ?_
  refine rg_call 2 (some 20) 32 #[.slice ka kn kc] (by kernel_rfl) (by kernel_rfl) (copyBytes_any ((HK0.out.keep HB.out).keep b0d.out) hkl9) ?_
  rintro e' w1 ⟨v1, rfl, O1, B1⟩
  obtain ⟨a1, d1, rfl⟩ := O1.shape
  rw [hkn.out] at O1 ⊢
  refine ⟨_, rfl, xd.out.keep B1, ?_⟩
  refine rg_call 5 (some 23) 32 #[.slice va vn vc] (by kernel_rfl) (by kernel_rfl) (copyBytes_any (((HV0.out.keep HB.out).keep b0d.out).keep B1) hvl9) ?_
  rintro e' w2 ⟨v2, rfl, O2, B2⟩
  obtain ⟨a2, d2, rfl⟩ := O2.shape
  rw [hvn.out] at O2 ⊢
  have BB := joinB (joinB b0d.out B1) B2
  have X2 := hid3 ((xd.out.keep B1).keep B2)
  have OK := hid3 (show OB w2 (fun b => w.heap.size ≤ b ∧ b < w1.heap.size) (.slice a1 kn d1) k from ((O1.mono (fun b hb h => (⟨by have : wa.heap.size ≤ b := h; omega, hb⟩ : w.heap.size ≤ b ∧ b < w1.heap.size))).keep B2))
  have OV := hid3 (show OB w2 (fun b => w1.heap.size ≤ b ∧ b < w2.heap.size) (.slice a2 vn d2) v from O2.mono (fun b hb h => ⟨h, hb⟩))
  have hu1 : w.heap.size ≤ w1.heap.size := (joinB b0d.out B1).size
  have hu2 : w1.heap.size ≤ w2.heap.size := B2.size
  refine ⟨_, rfl, X2.out, ?_⟩
  refine rg_take 6 (some 7) (.slice a1 kn d1) (by kernel_rfl) (fun _ _ => by kernel_rfl) (fun _ _ _ h => h) X2.out ?_
  refine rg_take 7 (some 8) (.slice a2 vn d2) (by kernel_rfl) (fun _ _ => by kernel_rfl) (fun _ _ _ h => h) X2.out ?_
  refine rg_done (by kernel_rfl) ?_
  simp only [Act.put, List.setIfInBounds_toArray, List.set_cons_zero, List.set_cons_succ]
  have H2 := HH.out.hole0 BB
  have FK2 := hid3 (show Fb w0 (hr TR w w2) (.slice a1 kn d1) k from .inr (fun u hu => (hu.2.ob OK.out (fun b hb => hb.1)).by))
  have FV2 := hid3 (show Fb w0 (hr TR w w2) (.slice a2 vn d2) v from .inr (fun u hu => (hu.2.ob OV.out (fun b hb => by omega)).by))
  have c0 := X2.out.cell (i := 0) rfl
  have c1 := X2.out.cell (i := 1) rfl
  have c2 := X2.out.cell (i := 2) rfl
  clear O1 O2 B1 B2 xd b0 b0d x0
  go_wp2_with fail
  have H2d' := H2.drew
  have H2d := hid3 (H2d'.xs X2.out (Nat.le_refl _))
  refine rg_start (S := fun u => Blk u w.heap.size [.int .i64 0, .int .i64 nm, .slice ka kn kc, .slice va vn vc] 34) (by kernel_rfl) H2d.out ?_
  refine rg_take 0 (some 30) (.pointer (some ⟨g, 0, none⟩)) (by kernel_rfl) (fun _ _ => by kernel_rfl) (fun _ _ _ h => h) H2d.out ?_
  refine rg_take 1 (some 31) (.slice a1 kn d1) (by kernel_rfl) (fun _ _ => by kernel_rfl) (fun _ _ _ h => h) H2d.out ?_
  refine rg_take 2 (some 32) (.slice a2 vn d2) (by kernel_rfl) (fun _ _ => by kernel_rfl) (fun _ _ _ h => h) H2d.out ?_
  refine rg_take 4 (some 34) (.pointer (some ⟨q, 0, none⟩)) (by kernel_rfl) (fun _ _ => by kernel_rfl) (fun _ _ _ h => h) H2d.out ?_
  refine rg_take 5 (some 35) (.pointer (some ⟨w.heap.size, 2, none⟩)) (by kernel_rfl) (fun _ _ => by kernel_rfl) (fun _ _ _ h => h) H2d.out ?_
  refine rg_load 6 (some 36) (.slice ka kn kc) 32 35 w.heap.size 2 (by kernel_rfl) (by kernel_rfl) (by kernel_rfl) (fun u h => ld_8 (h.cell (i := 2) rfl)) (fun _ _ _ h => h) H2d.out ?_
  refine rg_take 7 (some 37) (.pointer (some ⟨w.heap.size, 3, none⟩)) (by kernel_rfl) (fun _ _ => by kernel_rfl) (fun _ _ _ h => h) H2d.out ?_
  refine rg_load 8 (some 38) (.slice va vn vc) 32 37 w.heap.size 3 (by kernel_rfl) (by kernel_rfl) (by kernel_rfl) (fun u h => ld_8 (h.cell (i := 3) rfl)) (fun _ _ _ h => h) H2d.out ?_
  obtain ⟨r, hre⟩ : ∃ r, Hid (setE k v = r) := ⟨_, rfl⟩
  refine rg_call 3 (some 33) 18 #[.pointer (some ⟨g, 0, none⟩), .slice a1 kn d1, .slice a2 vn d2] (by kernel_rfl) (by kernel_rfl) (pset H2d' FK2.out FV2.out (by omega) (by omega) rfl hre.out) ?_
  rintro e' w3 ⟨rfl, H3⟩
  refine ⟨_, rfl, (H3.xs X2.out (Nat.le_refl _)), ?_⟩
  refine rg_call 9 (some 39) 33 #[.pointer (some ⟨q, 0, none⟩), .slice ka kn kc, .slice va vn vc] (by kernel_rfl) (by kernel_rfl) (prset H3 (FK.out _) (FV.out _) (by omega) (by omega) rfl hre.out) ?_
  rintro e' w4 ⟨rfl, H4⟩
  refine ⟨_, rfl, (H4.xs X2.out (Nat.le_refl _)), ?_⟩
  refine rg_eq 10 (some 40) (.bool (decide (r = r))) (.bool true) (by simp) (by kernel_rfl) (fun _ _ => by kernel_rfl) (fun _ _ _ h => h) (H4.xs X2.out (Nat.le_refl _)) ?_
  refine rg_take 11 (some 9) (.bool true) (by kernel_rfl) (fun _ _ => by kernel_rfl) (fun _ _ _ h => h) (H4.xs X2.out (Nat.le_refl _)) ?_
  refine rg_done (by kernel_rfl) ?_
  replace c2 := (H4.xs X2.out (Nat.le_refl _)).cell (i := 2) rfl
  simp only [Act.put, List.setIfInBounds_toArray, List.set_cons_zero, List.set_cons_succ]
  go_wp2_with first
    | (go_at_call 23; have gate := H5; clear gate; go_must (refine (pbytes H5 (H5.bys FV2.out) (H5.bys (FV.out _)) rfl hvl9).mono ?_); rintro e' w6 ⟨rfl, H6⟩; clear H5)
    | (go_at_call 23; have gate := H4; clear gate; go_must (refine (pbytes H4 (H4.bys FK2.out) (H4.bys (FK.out _)) rfl hkl9).mono ?_); rintro e' w5 ⟨rfl, H5⟩; clear H4; have cv := (H5.xs X2.out (Nat.le_refl _)).cell (i := 3) rfl)
    | (go_at_call 36; have gate := S7; clear gate; go_must (refine (spoil_any (OV7 : OB w7 (fun b => w1.heap.size ≤ b ∧ b < w2.heap.size) _ v) hvl9).mono ?_); rintro e' w8 ⟨rfl, S8⟩)
    | (go_at_call 36; have gate := H6; clear gate; go_must (refine (spoil_any (H6.fr.2.ob OK.out (fun b hb => hb.1)) hkl9).mono ?_); rintro e' w7 ⟨rfl, S7⟩; have OV7 := (H6.fr.2.ob OV.out (fun b hb => by omega)).same (fun b hb hd => S7.chg.same b hb (fun hh => by have := hh.1.2; omega)))
  go_ret
  exact ⟨rfl, _, _, _, _, H6.ends2 HO.out hu1 hu2 S7 S8, by omega, by omega⟩
set_option maxHeartbeats 2000000 in
set_option maxRecDepth 100000 in
theorem does_1 {w0 w : World} {g n N q : Nat} {E : Ents} {W : List Ents} {ka va : Option Addr} {kc vc : Nat} {k v : List Int} {nm : Int} (h : KP w0 w (ZO w0) TR g E W n N q E W n) (hk : By w0 (.slice ka k.length kc) k) (hv : By w0 (.slice va v.length vc) v) (hkl : k.length ≤ 8000) (hvl : v.length ≤ 8000) (hn : n ≤ 1000000) (hN : N ≤ 100000) :
    Calls Try.prog 13 #[.pointer (some ⟨g, 0, none⟩), .pointer (some ⟨q, 0, none⟩), .agg #[.int .i64 1, .int .i64 nm, .slice ka k.length kc, .slice va v.length vc]] w (FinDo w0 g n N q) := by
  have hsz := h.size
  have hnU := hn
  have hNU := hN
  have hdp := h.depth
  have hgd := h.gd
  obtain ⟨kn, hkn⟩ : ∃ kn, Hid (k.length = kn) := ⟨_, rfl⟩
  obtain ⟨vn, hvn⟩ : ∃ vn, Hid (v.length = vn) := ⟨_, rfl⟩
  have hkl9 : k.length ≤ 1000000000 := by omega
  have hvl9 : v.length ≤ 1000000000 := by omega
  have hkl6 : k.length ≤ 1000000 := by omega
  rw [hkn.out] at hk hkl ⊢
  rw [hvn.out] at hv hvl ⊢
  have FK := hid3 (show ∀ R, Fb w0 R (.slice ka kn kc) k from fun _ => .inl hk)
  have FV := hid3 (show ∀ R, Fb w0 R (.slice va vn vc) v from fun _ => .inl hv)
  have HO := hid3 h.out
  have HB := hid3 h.bel
  have b0 := hid3 (below_alloc w (.cells #[.int .i64 1, .int .i64 nm, .slice ka kn kc, .slice va vn vc] 34))
  have x0 := hid3 (blk_new w [.int .i64 1, .int .i64 nm, .slice ka kn kc, .slice va vn vc] 34)
  have hsa := size_al w (.cells #[.int .i64 1, .int .i64 nm, .slice ka kn kc, .slice va vn vc] 34)
  have HH := hid3 h
  have HK0 := hid3 hk
  have HV0 := hid3 hv
  have hgd' := hid3 hgd
  clear h hk hv hgd
  go_enter Try.func13, Try.ntmps13
  go_wp2_with fail
  obtain ⟨wa, hwa⟩ : ∃ wa, Hid (w.alloc (.cells #[.int .i64 1, .int .i64 nm, .slice ka kn kc, .slice va vn vc] 34) = wa) := ⟨_, rfl⟩
  rw [hwa.out] at b0 x0 hsa ⊢
  have xd := hid3 (x0.out.keep (belowD' wa))
  have b0d := hid3 (joinB b0.out (belowD' wa))
  refine rg_start (S := fun u => Blk u w.heap.size [.int .i64 1, .int .i64 nm, .slice ka kn kc, .slice va vn vc] 34) (by kernel_rfl) xd.out ?_
  refine rg_take 0 (some 18) (.pointer (some ⟨w.heap.size, 2, none⟩)) (by kernel_rfl) (fun _ _ => by kernel_rfl) (fun _ _ _ h => h) xd.out ?_
  refine rg_load 1 (some 19) (.slice ka kn kc) 32 18 w.heap.size 2 (by kernel_rfl) (by kernel_rfl) (by kernel_rfl) (fun u h => ld_8 (h.cell (i := 2) rfl)) (fun _ _ _ h => h) xd.out ?_
  refine rg_take 3 (some 21) (.pointer (some ⟨w.heap.size, 3, none⟩)) (by kernel_rfl) (fun _ _ => by kernel_rfl) (fun _ _ _ h => h) xd.out ?_
  refine rg_load 4 (some 22) (.slice va vn vc) 32 21 w.heap.size 3 (by kernel_rfl) (by kernel_rfl) (by kernel_rfl) (fun u h => ld_8 (h.cell (i := 3) rfl)) (fun _ _ _ h => h) xd.out ?_
  refine rg_call 2 (some 20) 32 #[.slice ka kn kc] (by kernel_rfl) (by kernel_rfl) (copyBytes_any ((HK0.out.keep HB.out).keep b0d.out) hkl9) ?_
  rintro e' w1 ⟨v1, rfl, O1, B1⟩
  obtain ⟨a1, d1, rfl⟩ := O1.shape
  rw [hkn.out] at O1 ⊢
  refine ⟨_, rfl, xd.out.keep B1, ?_⟩
  refine rg_call 5 (some 23) 32 #[.slice va vn vc] (by kernel_rfl) (by kernel_rfl) (copyBytes_any (((HV0.out.keep HB.out).keep b0d.out).keep B1) hvl9) ?_
  rintro e' w2 ⟨v2, rfl, O2, B2⟩
  obtain ⟨a2, d2, rfl⟩ := O2.shape
  rw [hvn.out] at O2 ⊢
  have BB := joinB (joinB b0d.out B1) B2
  have X2 := hid3 ((xd.out.keep B1).keep B2)
  have OK := hid3 (show OB w2 (fun b => w.heap.size ≤ b ∧ b < w1.heap.size) (.slice a1 kn d1) k from ((O1.mono (fun b hb h => (⟨by have : wa.heap.size ≤ b := h; omega, hb⟩ : w.heap.size ≤ b ∧ b < w1.heap.size))).keep B2))
  have OV := hid3 (show OB w2 (fun b => w1.heap.size ≤ b ∧ b < w2.heap.size) (.slice a2 vn d2) v from O2.mono (fun b hb h => ⟨h, hb⟩))
  have hu1 : w.heap.size ≤ w1.heap.size := (joinB b0d.out B1).size
  have hu2 : w1.heap.size ≤ w2.heap.size := B2.size
  refine ⟨_, rfl, X2.out, ?_⟩
  refine rg_take 6 (some 7) (.slice a1 kn d1) (by kernel_rfl) (fun _ _ => by kernel_rfl) (fun _ _ _ h => h) X2.out ?_
  refine rg_take 7 (some 8) (.slice a2 vn d2) (by kernel_rfl) (fun _ _ => by kernel_rfl) (fun _ _ _ h => h) X2.out ?_
  refine rg_done (by kernel_rfl) ?_
  simp only [Act.put, List.setIfInBounds_toArray, List.set_cons_zero, List.set_cons_succ]
  have H2 := HH.out.hole0 BB
  have FK2 := hid3 (show Fb w0 (hr TR w w2) (.slice a1 kn d1) k from .inr (fun u hu => (hu.2.ob OK.out (fun b hb => hb.1)).by))
  have FV2 := hid3 (show Fb w0 (hr TR w w2) (.slice a2 vn d2) v from .inr (fun u hu => (hu.2.ob OV.out (fun b hb => by omega)).by))
  have c0 := X2.out.cell (i := 0) rfl
  have c1 := X2.out.cell (i := 1) rfl
  have c2 := X2.out.cell (i := 2) rfl
  clear O1 O2 B1 B2 xd b0 b0d x0
  go_wp2_with fail
  have H2d' := H2.drew
  have H2d := hid3 (H2d'.xs X2.out (Nat.le_refl _))
  refine rg_start (S := fun u => Blk u w.heap.size [.int .i64 1, .int .i64 nm, .slice ka kn kc, .slice va vn vc] 34) (by kernel_rfl) H2d.out ?_
  refine rg_take 0 (some 30) (.pointer (some ⟨g, 0, none⟩)) (by kernel_rfl) (fun _ _ => by kernel_rfl) (fun _ _ _ h => h) H2d.out ?_
  refine rg_take 1 (some 31) (.slice a1 kn d1) (by kernel_rfl) (fun _ _ => by kernel_rfl) (fun _ _ _ h => h) H2d.out ?_
  refine rg_take 2 (some 32) (.slice a2 vn d2) (by kernel_rfl) (fun _ _ => by kernel_rfl) (fun _ _ _ h => h) H2d.out ?_
  refine rg_take 4 (some 34) (.pointer (some ⟨q, 0, none⟩)) (by kernel_rfl) (fun _ _ => by kernel_rfl) (fun _ _ _ h => h) H2d.out ?_
  refine rg_take 5 (some 35) (.pointer (some ⟨w.heap.size, 2, none⟩)) (by kernel_rfl) (fun _ _ => by kernel_rfl) (fun _ _ _ h => h) H2d.out ?_
  refine rg_load 6 (some 36) (.slice ka kn kc) 32 35 w.heap.size 2 (by kernel_rfl) (by kernel_rfl) (by kernel_rfl) (fun u h => ld_8 (h.cell (i := 2) rfl)) (fun _ _ _ h => h) H2d.out ?_
  refine rg_take 7 (some 37) (.pointer (some ⟨w.heap.size, 3, none⟩)) (by kernel_rfl) (fun _ _ => by kernel_rfl) (fun _ _ _ h => h) H2d.out ?_
  refine rg_load 8 (some 38) (.slice va vn vc) 32 37 w.heap.size 3 (by kernel_rfl) (by kernel_rfl) (by kernel_rfl) (fun u h => ld_8 (h.cell (i := 3) rfl)) (fun _ _ _ h => h) H2d.out ?_
  obtain ⟨r, hre⟩ : ∃ r, Hid (setE k v = r) := ⟨_, rfl⟩
  refine rg_call 3 (some 33) 18 #[.pointer (some ⟨g, 0, none⟩), .slice a1 kn d1, .slice a2 vn d2] (by kernel_rfl) (by kernel_rfl) (pset H2d' FK2.out FV2.out (by omega) (by omega) rfl hre.out) ?_
  rintro e' w3 ⟨rfl, H3⟩
  refine ⟨_, rfl, (H3.xs X2.out (Nat.le_refl _)), ?_⟩
  refine rg_call 9 (some 39) 33 #[.pointer (some ⟨q, 0, none⟩), .slice ka kn kc, .slice va vn vc] (by kernel_rfl) (by kernel_rfl) (prset H3 (FK.out _) (FV.out _) (by omega) (by omega) rfl hre.out) ?_
  rintro e' w4 ⟨rfl, H4⟩
  refine ⟨_, rfl, (H4.xs X2.out (Nat.le_refl _)), ?_⟩
  refine rg_eq 10 (some 40) (.bool (decide (r = r))) (.bool true) (by simp) (by kernel_rfl) (fun _ _ => by kernel_rfl) (fun _ _ _ h => h) (H4.xs X2.out (Nat.le_refl _)) ?_
  refine rg_take 11 (some 9) (.bool true) (by kernel_rfl) (fun _ _ => by kernel_rfl) (fun _ _ _ h => h) (H4.xs X2.out (Nat.le_refl _)) ?_
  refine rg_done (by kernel_rfl) ?_
  replace c2 := (H4.xs X2.out (Nat.le_refl _)).cell (i := 2) rfl
  simp only [Act.put, List.setIfInBounds_toArray, List.set_cons_zero, List.set_cons_succ]
  go_wp2_with first
    | (go_at_call 23; have gate := H5; clear gate; go_must (refine (pbytes H5 (H5.bys FV2.out) (H5.bys (FV.out _)) rfl hvl9).mono ?_); rintro e' w6 ⟨rfl, H6⟩; clear H5)
    | (go_at_call 23; have gate := H4; clear gate; go_must (refine (pbytes H4 (H4.bys FK2.out) (H4.bys (FK.out _)) rfl hkl9).mono ?_); rintro e' w5 ⟨rfl, H5⟩; clear H4; have cv := (H5.xs X2.out (Nat.le_refl _)).cell (i := 3) rfl)
    | (go_at_call 36; have gate := S7; clear gate; go_must (refine (spoil_any (OV7 : OB w7 (fun b => w1.heap.size ≤ b ∧ b < w2.heap.size) _ v) hvl9).mono ?_); rintro e' w8 ⟨rfl, S8⟩)
    | (go_at_call 36; have gate := H6; clear gate; go_must (refine (spoil_any (H6.fr.2.ob OK.out (fun b hb => hb.1)) hkl9).mono ?_); rintro e' w7 ⟨rfl, S7⟩; have OV7 := (H6.fr.2.ob OV.out (fun b hb => by omega)).same (fun b hb hd => S7.chg.same b hb (fun hh => by have := hh.1.2; omega)))
  go_ret
  exact ⟨rfl, _, _, _, _, H6.ends2 HO.out hu1 hu2 S7 S8, by omega, by omega⟩
set_option maxHeartbeats 2000000 in
set_option maxRecDepth 100000 in
theorem does_2 {w0 w : World} {g n N q : Nat} {E : Ents} {W : List Ents} {ka va : Option Addr} {kc vc : Nat} {k v : List Int} {nm : Int} (h : KP w0 w (ZO w0) TR g E W n N q E W n) (hk : By w0 (.slice ka k.length kc) k) (hv : By w0 (.slice va v.length vc) v) (hkl : k.length ≤ 8000) (hvl : v.length ≤ 8000) (hn : n ≤ 1000000) (hN : N ≤ 100000) :
    Calls Try.prog 13 #[.pointer (some ⟨g, 0, none⟩), .pointer (some ⟨q, 0, none⟩), .agg #[.int .i64 2, .int .i64 nm, .slice ka k.length kc, .slice va v.length vc]] w (FinDo w0 g n N q) := by
  have hsz := h.size
  have hnU := hn
  have hNU := hN
  have hdp := h.depth
  have hgd := h.gd
  obtain ⟨kn, hkn⟩ : ∃ kn, Hid (k.length = kn) := ⟨_, rfl⟩
  obtain ⟨vn, hvn⟩ : ∃ vn, Hid (v.length = vn) := ⟨_, rfl⟩
  have hkl9 : k.length ≤ 1000000000 := by omega
  have hvl9 : v.length ≤ 1000000000 := by omega
  have hkl6 : k.length ≤ 1000000 := by omega
  rw [hkn.out] at hk hkl ⊢
  rw [hvn.out] at hv hvl ⊢
  have FK := hid3 (show ∀ R, Fb w0 R (.slice ka kn kc) k from fun _ => .inl hk)
  have FV := hid3 (show ∀ R, Fb w0 R (.slice va vn vc) v from fun _ => .inl hv)
  have HO := hid3 h.out
  have HB := hid3 h.bel
  have b0 := hid3 (below_alloc w (.cells #[.int .i64 2, .int .i64 nm, .slice ka kn kc, .slice va vn vc] 34))
  have x0 := hid3 (blk_new w [.int .i64 2, .int .i64 nm, .slice ka kn kc, .slice va vn vc] 34)
  have hsa := size_al w (.cells #[.int .i64 2, .int .i64 nm, .slice ka kn kc, .slice va vn vc] 34)
  have HH := hid3 h
  have HK0 := hid3 hk
  have HV0 := hid3 hv
  have hgd' := hid3 hgd
  clear h hk hv hgd
  go_enter Try.func13, Try.ntmps13
  go_wp2_with fail
  obtain ⟨wa, hwa⟩ : ∃ wa, Hid (w.alloc (.cells #[.int .i64 2, .int .i64 nm, .slice ka kn kc, .slice va vn vc] 34) = wa) := ⟨_, rfl⟩
  rw [hwa.out] at b0 x0 hsa ⊢
  have xd := hid3 (x0.out.keep (belowD' wa))
  have b0d := hid3 (joinB b0.out (belowD' wa))
  refine rg_start (S := fun u => Blk u w.heap.size [.int .i64 2, .int .i64 nm, .slice ka kn kc, .slice va vn vc] 34) (by kernel_rfl) xd.out ?_
  refine rg_take 0 (some 18) (.pointer (some ⟨w.heap.size, 2, none⟩)) (by kernel_rfl) (fun _ _ => by kernel_rfl) (fun _ _ _ h => h) xd.out ?_
  refine rg_load 1 (some 19) (.slice ka kn kc) 32 18 w.heap.size 2 (by kernel_rfl) (by kernel_rfl) (by kernel_rfl) (fun u h => ld_8 (h.cell (i := 2) rfl)) (fun _ _ _ h => h) xd.out ?_
  refine rg_take 3 (some 21) (.pointer (some ⟨w.heap.size, 3, none⟩)) (by kernel_rfl) (fun _ _ => by kernel_rfl) (fun _ _ _ h => h) xd.out ?_
  refine rg_load 4 (some 22) (.slice va vn vc) 32 21 w.heap.size 3 (by kernel_rfl) (by kernel_rfl) (by kernel_rfl) (fun u h => ld_8 (h.cell (i := 3) rfl)) (fun _ _ _ h => h) xd.out ?_
  refine rg_call 2 (some 20) 32 #[.slice ka kn kc] (by kernel_rfl) (by kernel_rfl) (copyBytes_any ((HK0.out.keep HB.out).keep b0d.out) hkl9) ?_
  rintro e' w1 ⟨v1, rfl, O1, B1⟩
  obtain ⟨a1, d1, rfl⟩ := O1.shape
  rw [hkn.out] at O1 ⊢
  refine ⟨_, rfl, xd.out.keep B1, ?_⟩
  refine rg_call 5 (some 23) 32 #[.slice va vn vc] (by kernel_rfl) (by kernel_rfl) (copyBytes_any (((HV0.out.keep HB.out).keep b0d.out).keep B1) hvl9) ?_
  rintro e' w2 ⟨v2, rfl, O2, B2⟩
  obtain ⟨a2, d2, rfl⟩ := O2.shape
  rw [hvn.out] at O2 ⊢
  have BB := joinB (joinB b0d.out B1) B2
  have X2 := hid3 ((xd.out.keep B1).keep B2)
  have OK := hid3 (show OB w2 (fun b => w.heap.size ≤ b ∧ b < w1.heap.size) (.slice a1 kn d1) k from ((O1.mono (fun b hb h => (⟨by have : wa.heap.size ≤ b := h; omega, hb⟩ : w.heap.size ≤ b ∧ b < w1.heap.size))).keep B2))
  have OV := hid3 (show OB w2 (fun b => w1.heap.size ≤ b ∧ b < w2.heap.size) (.slice a2 vn d2) v from O2.mono (fun b hb h => ⟨h, hb⟩))
  have hu1 : w.heap.size ≤ w1.heap.size := (joinB b0d.out B1).size
  have hu2 : w1.heap.size ≤ w2.heap.size := B2.size
  refine ⟨_, rfl, X2.out, ?_⟩
  refine rg_take 6 (some 7) (.slice a1 kn d1) (by kernel_rfl) (fun _ _ => by kernel_rfl) (fun _ _ _ h => h) X2.out ?_
  refine rg_take 7 (some 8) (.slice a2 vn d2) (by kernel_rfl) (fun _ _ => by kernel_rfl) (fun _ _ _ h => h) X2.out ?_
  refine rg_done (by kernel_rfl) ?_
  simp only [Act.put, List.setIfInBounds_toArray, List.set_cons_zero, List.set_cons_succ]
  have H2 := HH.out.hole0 BB
  have FK2 := hid3 (show Fb w0 (hr TR w w2) (.slice a1 kn d1) k from .inr (fun u hu => (hu.2.ob OK.out (fun b hb => hb.1)).by))
  have FV2 := hid3 (show Fb w0 (hr TR w w2) (.slice a2 vn d2) v from .inr (fun u hu => (hu.2.ob OV.out (fun b hb => by omega)).by))
  have c0 := X2.out.cell (i := 0) rfl
  have c1 := X2.out.cell (i := 1) rfl
  have c2 := X2.out.cell (i := 2) rfl
  clear O1 O2 B1 B2 xd b0 b0d x0
  go_wp2_with fail
  have H2d' := H2.drew
  have H2d := hid3 (H2d'.xs X2.out (Nat.le_refl _))
  refine rg_start (S := fun u => Blk u w.heap.size [.int .i64 2, .int .i64 nm, .slice ka kn kc, .slice va vn vc] 34) (by kernel_rfl) H2d.out ?_
  refine rg_take 0 (some 30) (.pointer (some ⟨g, 0, none⟩)) (by kernel_rfl) (fun _ _ => by kernel_rfl) (fun _ _ _ h => h) H2d.out ?_
  refine rg_take 1 (some 31) (.slice a1 kn d1) (by kernel_rfl) (fun _ _ => by kernel_rfl) (fun _ _ _ h => h) H2d.out ?_
  refine rg_take 2 (some 32) (.slice a2 vn d2) (by kernel_rfl) (fun _ _ => by kernel_rfl) (fun _ _ _ h => h) H2d.out ?_
  refine rg_take 4 (some 34) (.pointer (some ⟨q, 0, none⟩)) (by kernel_rfl) (fun _ _ => by kernel_rfl) (fun _ _ _ h => h) H2d.out ?_
  refine rg_take 5 (some 35) (.pointer (some ⟨w.heap.size, 2, none⟩)) (by kernel_rfl) (fun _ _ => by kernel_rfl) (fun _ _ _ h => h) H2d.out ?_
  refine rg_load 6 (some 36) (.slice ka kn kc) 32 35 w.heap.size 2 (by kernel_rfl) (by kernel_rfl) (by kernel_rfl) (fun u h => ld_8 (h.cell (i := 2) rfl)) (fun _ _ _ h => h) H2d.out ?_
  refine rg_take 7 (some 37) (.pointer (some ⟨w.heap.size, 3, none⟩)) (by kernel_rfl) (fun _ _ => by kernel_rfl) (fun _ _ _ h => h) H2d.out ?_
  refine rg_load 8 (some 38) (.slice va vn vc) 32 37 w.heap.size 3 (by kernel_rfl) (by kernel_rfl) (by kernel_rfl) (fun u h => ld_8 (h.cell (i := 3) rfl)) (fun _ _ _ h => h) H2d.out ?_
  obtain ⟨r, hre⟩ : ∃ r, Hid (setE k v = r) := ⟨_, rfl⟩
  refine rg_call 3 (some 33) 18 #[.pointer (some ⟨g, 0, none⟩), .slice a1 kn d1, .slice a2 vn d2] (by kernel_rfl) (by kernel_rfl) (pset H2d' FK2.out FV2.out (by omega) (by omega) rfl hre.out) ?_
  rintro e' w3 ⟨rfl, H3⟩
  refine ⟨_, rfl, (H3.xs X2.out (Nat.le_refl _)), ?_⟩
  refine rg_call 9 (some 39) 33 #[.pointer (some ⟨q, 0, none⟩), .slice ka kn kc, .slice va vn vc] (by kernel_rfl) (by kernel_rfl) (prset H3 (FK.out _) (FV.out _) (by omega) (by omega) rfl hre.out) ?_
  rintro e' w4 ⟨rfl, H4⟩
  refine ⟨_, rfl, (H4.xs X2.out (Nat.le_refl _)), ?_⟩
  refine rg_eq 10 (some 40) (.bool (decide (r = r))) (.bool true) (by simp) (by kernel_rfl) (fun _ _ => by kernel_rfl) (fun _ _ _ h => h) (H4.xs X2.out (Nat.le_refl _)) ?_
  refine rg_take 11 (some 9) (.bool true) (by kernel_rfl) (fun _ _ => by kernel_rfl) (fun _ _ _ h => h) (H4.xs X2.out (Nat.le_refl _)) ?_
  refine rg_done (by kernel_rfl) ?_
  replace c2 := (H4.xs X2.out (Nat.le_refl _)).cell (i := 2) rfl
  simp only [Act.put, List.setIfInBounds_toArray, List.set_cons_zero, List.set_cons_succ]
  go_wp2_with first
    | (go_at_call 23; have gate := H5; clear gate; go_must (refine (pbytes H5 (H5.bys FV2.out) (H5.bys (FV.out _)) rfl hvl9).mono ?_); rintro e' w6 ⟨rfl, H6⟩; clear H5)
    | (go_at_call 23; have gate := H4; clear gate; go_must (refine (pbytes H4 (H4.bys FK2.out) (H4.bys (FK.out _)) rfl hkl9).mono ?_); rintro e' w5 ⟨rfl, H5⟩; clear H4; have cv := (H5.xs X2.out (Nat.le_refl _)).cell (i := 3) rfl)
    | (go_at_call 36; have gate := S7; clear gate; go_must (refine (spoil_any (OV7 : OB w7 (fun b => w1.heap.size ≤ b ∧ b < w2.heap.size) _ v) hvl9).mono ?_); rintro e' w8 ⟨rfl, S8⟩)
    | (go_at_call 36; have gate := H6; clear gate; go_must (refine (spoil_any (H6.fr.2.ob OK.out (fun b hb => hb.1)) hkl9).mono ?_); rintro e' w7 ⟨rfl, S7⟩; have OV7 := (H6.fr.2.ob OV.out (fun b hb => by omega)).same (fun b hb hd => S7.chg.same b hb (fun hh => by have := hh.1.2; omega)))
  go_ret
  exact ⟨rfl, _, _, _, _, H6.ends2 HO.out hu1 hu2 S7 S8, by omega, by omega⟩
set_option maxHeartbeats 2000000 in
set_option maxRecDepth 100000 in
theorem does_3 {w0 w : World} {g n N q : Nat} {E : Ents} {W : List Ents} {ka va : Option Addr} {kc vc : Nat} {k v : List Int} {nm : Int} (h : KP w0 w (ZO w0) TR g E W n N q E W n) (hk : By w0 (.slice ka k.length kc) k) (hv : By w0 (.slice va v.length vc) v) (hkl : k.length ≤ 8000) (hvl : v.length ≤ 8000) (hn : n ≤ 1000000) (hN : N ≤ 100000) :
    Calls Try.prog 13 #[.pointer (some ⟨g, 0, none⟩), .pointer (some ⟨q, 0, none⟩), .agg #[.int .i64 3, .int .i64 nm, .slice ka k.length kc, .slice va v.length vc]] w (FinDo w0 g n N q) := by
  have hsz := h.size
  have hnU := hn
  have hNU := hN
  have hdp := h.depth
  have hgd := h.gd
  obtain ⟨kn, hkn⟩ : ∃ kn, Hid (k.length = kn) := ⟨_, rfl⟩
  obtain ⟨vn, hvn⟩ : ∃ vn, Hid (v.length = vn) := ⟨_, rfl⟩
  have hkl9 : k.length ≤ 1000000000 := by omega
  have hvl9 : v.length ≤ 1000000000 := by omega
  have hkl6 : k.length ≤ 1000000 := by omega
  rw [hkn.out] at hk hkl ⊢
  rw [hvn.out] at hv hvl ⊢
  have FK := hid3 (show ∀ R, Fb w0 R (.slice ka kn kc) k from fun _ => .inl hk)
  have FV := hid3 (show ∀ R, Fb w0 R (.slice va vn vc) v from fun _ => .inl hv)
  have HO := hid3 h.out
  have HB := hid3 h.bel
  have b0 := hid3 (below_alloc w (.cells #[.int .i64 3, .int .i64 nm, .slice ka kn kc, .slice va vn vc] 34))
  have x0 := hid3 (blk_new w [.int .i64 3, .int .i64 nm, .slice ka kn kc, .slice va vn vc] 34)
  have hsa := size_al w (.cells #[.int .i64 3, .int .i64 nm, .slice ka kn kc, .slice va vn vc] 34)
  have HH := hid3 h
  have HK0 := hid3 hk
  have HV0 := hid3 hv
  have hgd' := hid3 hgd
  clear h hk hv hgd
  go_enter Try.func13, Try.ntmps13
  go_wp2_with fail
  obtain ⟨wa, hwa⟩ : ∃ wa, Hid (w.alloc (.cells #[.int .i64 3, .int .i64 nm, .slice ka kn kc, .slice va vn vc] 34) = wa) := ⟨_, rfl⟩
  rw [hwa.out] at b0 x0 hsa ⊢
  have xd := hid3 (x0.out.keep (belowD' wa))
  have b0d := hid3 (joinB b0.out (belowD' wa))
  refine rg_start (S := fun u => Blk u w.heap.size [.int .i64 3, .int .i64 nm, .slice ka kn kc, .slice va vn vc] 34) (by kernel_rfl) xd.out ?_
  refine rg_take 0 (some 18) (.pointer (some ⟨w.heap.size, 2, none⟩)) (by kernel_rfl) (fun _ _ => by kernel_rfl) (fun _ _ _ h => h) xd.out ?_
  refine rg_load 1 (some 19) (.slice ka kn kc) 32 18 w.heap.size 2 (by kernel_rfl) (by kernel_rfl) (by kernel_rfl) (fun u h => ld_8 (h.cell (i := 2) rfl)) (fun _ _ _ h => h) xd.out ?_
  refine rg_take 3 (some 21) (.pointer (some ⟨w.heap.size, 3, none⟩)) (by kernel_rfl) (fun _ _ => by kernel_rfl) (fun _ _ _ h => h) xd.out ?_
  refine rg_load 4 (some 22) (.slice va vn vc) 32 21 w.heap.size 3 (by kernel_rfl) (by kernel_rfl) (by kernel_rfl) (fun u h => ld_8 (h.cell (i := 3) rfl)) (fun _ _ _ h => h) xd.out ?_
  refine rg_call 2 (some 20) 32 #[.slice ka kn kc] (by kernel_rfl) (by kernel_rfl) (copyBytes_any ((HK0.out.keep HB.out).keep b0d.out) hkl9) ?_
  rintro e' w1 ⟨v1, rfl, O1, B1⟩
  obtain ⟨a1, d1, rfl⟩ := O1.shape
  rw [hkn.out] at O1 ⊢
  refine ⟨_, rfl, xd.out.keep B1, ?_⟩
  refine rg_call 5 (some 23) 32 #[.slice va vn vc] (by kernel_rfl) (by kernel_rfl) (copyBytes_any (((HV0.out.keep HB.out).keep b0d.out).keep B1) hvl9) ?_
  rintro e' w2 ⟨v2, rfl, O2, B2⟩
  obtain ⟨a2, d2, rfl⟩ := O2.shape
  rw [hvn.out] at O2 ⊢
  have BB := joinB (joinB b0d.out B1) B2
  have X2 := hid3 ((xd.out.keep B1).keep B2)
  have OK := hid3 (show OB w2 (fun b => w.heap.size ≤ b ∧ b < w1.heap.size) (.slice a1 kn d1) k from ((O1.mono (fun b hb h => (⟨by have : wa.heap.size ≤ b := h; omega, hb⟩ : w.heap.size ≤ b ∧ b < w1.heap.size))).keep B2))
  have OV := hid3 (show OB w2 (fun b => w1.heap.size ≤ b ∧ b < w2.heap.size) (.slice a2 vn d2) v from O2.mono (fun b hb h => ⟨h, hb⟩))
  have hu1 : w.heap.size ≤ w1.heap.size := (joinB b0d.out B1).size
  have hu2 : w1.heap.size ≤ w2.heap.size := B2.size
  refine ⟨_, rfl, X2.out, ?_⟩
  refine rg_take 6 (some 7) (.slice a1 kn d1) (by kernel_rfl) (fun _ _ => by kernel_rfl) (fun _ _ _ h => h) X2.out ?_
  refine rg_take 7 (some 8) (.slice a2 vn d2) (by kernel_rfl) (fun _ _ => by kernel_rfl) (fun _ _ _ h => h) X2.out ?_
  refine rg_done (by kernel_rfl) ?_
  simp only [Act.put, List.setIfInBounds_toArray, List.set_cons_zero, List.set_cons_succ]
  have H2 := HH.out.hole0 BB
  have FK2 := hid3 (show Fb w0 (hr TR w w2) (.slice a1 kn d1) k from .inr (fun u hu => (hu.2.ob OK.out (fun b hb => hb.1)).by))
  have FV2 := hid3 (show Fb w0 (hr TR w w2) (.slice a2 vn d2) v from .inr (fun u hu => (hu.2.ob OV.out (fun b hb => by omega)).by))
  have c0 := X2.out.cell (i := 0) rfl
  have c1 := X2.out.cell (i := 1) rfl
  have c2 := X2.out.cell (i := 2) rfl
  clear O1 O2 B1 B2 xd b0 b0d x0
  go_wp2_with fail
  have H2d' := H2.drew
  have H2d := hid3 (H2d'.xs X2.out (Nat.le_refl _))
  refine rg_start (S := fun u => Blk u w.heap.size [.int .i64 3, .int .i64 nm, .slice ka kn kc, .slice va vn vc] 34) (by kernel_rfl) H2d.out ?_
  refine rg_take 0 (some 43) (.pointer (some ⟨g, 0, none⟩)) (by kernel_rfl) (fun _ _ => by kernel_rfl) (fun _ _ _ h => h) H2d.out ?_
  refine rg_take 1 (some 44) (.slice a1 kn d1) (by kernel_rfl) (fun _ _ => by kernel_rfl) (fun _ _ _ h => h) H2d.out ?_
  refine rg_take 3 (some 46) (.pointer (some ⟨q, 0, none⟩)) (by kernel_rfl) (fun _ _ => by kernel_rfl) (fun _ _ _ h => h) H2d.out ?_
  refine rg_take 4 (some 47) (.pointer (some ⟨w.heap.size, 2, none⟩)) (by kernel_rfl) (fun _ _ => by kernel_rfl) (fun _ _ _ h => h) H2d.out ?_
  refine rg_load 5 (some 48) (.slice ka kn kc) 32 47 w.heap.size 2 (by kernel_rfl) (by kernel_rfl) (by kernel_rfl) (fun u h => ld_8 (h.cell (i := 2) rfl)) (fun _ _ _ h => h) H2d.out ?_
  obtain ⟨r, hre⟩ : ∃ r, Hid ((look E k).isSome = r) := ⟨_, rfl⟩
  refine rg_call 2 (some 45) 20 #[.pointer (some ⟨g, 0, none⟩), .slice a1 kn d1] (by kernel_rfl) (by kernel_rfl) (pdel H2d' FK2.out hkl9 (by omega) (by omega) hre.out) ?_
  rintro e' w3 ⟨rfl, H3⟩
  refine ⟨_, rfl, (H3.xs X2.out (Nat.le_refl _)), ?_⟩
  refine rg_call 6 (some 49) 34 #[.pointer (some ⟨q, 0, none⟩), .slice ka kn kc] (by kernel_rfl) (by kernel_rfl) (prdel H3 (FK.out _) hkl9 (by omega) (by omega) hre.out) ?_
  rintro e' w4 ⟨rfl, H4⟩
  refine ⟨_, rfl, (H4.xs X2.out (Nat.le_refl _)), ?_⟩
  refine rg_eq 7 (some 50) (.bool (decide (r = r))) (.bool true) (by simp) (by kernel_rfl) (fun _ _ => by cases r <;> kernel_rfl) (fun _ _ _ h => h) (H4.xs X2.out (Nat.le_refl _)) ?_
  refine rg_take 8 (some 9) (.bool true) (by kernel_rfl) (fun _ _ => by kernel_rfl) (fun _ _ _ h => h) (H4.xs X2.out (Nat.le_refl _)) ?_
  refine rg_done (by kernel_rfl) ?_
  replace c2 := (H4.xs X2.out (Nat.le_refl _)).cell (i := 2) rfl
  simp only [Act.put, List.setIfInBounds_toArray, List.set_cons_zero, List.set_cons_succ]
  go_wp2_with first
    | (go_at_call 23; have gate := H5; clear gate; go_must (refine (pbytes H5 (H5.bys FV2.out) (H5.bys (FV.out _)) rfl hvl9).mono ?_); rintro e' w6 ⟨rfl, H6⟩; clear H5)
    | (go_at_call 23; have gate := H4; clear gate; go_must (refine (pbytes H4 (H4.bys FK2.out) (H4.bys (FK.out _)) rfl hkl9).mono ?_); rintro e' w5 ⟨rfl, H5⟩; clear H4; have cv := (H5.xs X2.out (Nat.le_refl _)).cell (i := 3) rfl)
    | (go_at_call 36; have gate := S7; clear gate; go_must (refine (spoil_any (OV7 : OB w7 (fun b => w1.heap.size ≤ b ∧ b < w2.heap.size) _ v) hvl9).mono ?_); rintro e' w8 ⟨rfl, S8⟩)
    | (go_at_call 36; have gate := H6; clear gate; go_must (refine (spoil_any (H6.fr.2.ob OK.out (fun b hb => hb.1)) hkl9).mono ?_); rintro e' w7 ⟨rfl, S7⟩; have OV7 := (H6.fr.2.ob OV.out (fun b hb => by omega)).same (fun b hb hd => S7.chg.same b hb (fun hh => by have := hh.1.2; omega)))
  go_ret
  exact ⟨rfl, _, _, _, _, H6.ends2 HO.out hu1 hu2 S7 S8, by omega, by omega⟩
end Kv
end Go.Proofs.Ytplminnejheceaa

namespace Go.Proofs.Ytplminnejheceaa
namespace Kv
open Go.RowKit Go.Lib Pg
attribute [local go_sem] Oper.semAt_some
set_option maxHeartbeats 2000000 in
set_option maxRecDepth 100000 in
theorem does_8 {w0 w : World} {g n N q : Nat} {E : Ents} {W : List Ents} {ka va : Option Addr} {kc vc : Nat} {k v : List Int} {nm : Int} (h : KP w0 w (ZO w0) TR g E W n N q E W n) (hk : By w0 (.slice ka k.length kc) k) (hv : By w0 (.slice va v.length vc) v) (hkl : k.length ≤ 8000) (hvl : v.length ≤ 8000) (hn : n ≤ 1000000) (hN : N ≤ 100000) :
    Calls Try.prog 13 #[.pointer (some ⟨g, 0, none⟩), .pointer (some ⟨q, 0, none⟩), .agg #[.int .i64 8, .int .i64 nm, .slice ka k.length kc, .slice va v.length vc]] w (FinDo w0 g n N q) := by
  have hsz := h.size
  have hnU := hn
  have hNU := hN
  have hdp := h.depth
  have hgd := h.gd
  obtain ⟨kn, hkn⟩ : ∃ kn, Hid (k.length = kn) := ⟨_, rfl⟩
  obtain ⟨vn, hvn⟩ : ∃ vn, Hid (v.length = vn) := ⟨_, rfl⟩
  have hkl9 : k.length ≤ 1000000000 := by omega
  have hvl9 : v.length ≤ 1000000000 := by omega
  have hkl6 : k.length ≤ 1000000 := by omega
  rw [hkn.out] at hk hkl ⊢
  rw [hvn.out] at hv hvl ⊢
  have FK := hid3 (show ∀ R, Fb w0 R (.slice ka kn kc) k from fun _ => .inl hk)
  have FV := hid3 (show ∀ R, Fb w0 R (.slice va vn vc) v from fun _ => .inl hv)
  have HO := hid3 h.out
  have HB := hid3 h.bel
  have b0 := hid3 (below_alloc w (.cells #[.int .i64 8, .int .i64 nm, .slice ka kn kc, .slice va vn vc] 34))
  have x0 := hid3 (blk_new w [.int .i64 8, .int .i64 nm, .slice ka kn kc, .slice va vn vc] 34)
  have hsa := size_al w (.cells #[.int .i64 8, .int .i64 nm, .slice ka kn kc, .slice va vn vc] 34)
  have HH := hid3 h
  have HK0 := hid3 hk
  have HV0 := hid3 hv
  have hgd' := hid3 hgd
  clear h hk hv hgd
  go_enter Try.func13, Try.ntmps13
  go_wp2_with fail
  obtain ⟨wa, hwa⟩ : ∃ wa, Hid (w.alloc (.cells #[.int .i64 8, .int .i64 nm, .slice ka kn kc, .slice va vn vc] 34) = wa) := ⟨_, rfl⟩
  rw [hwa.out] at b0 x0 hsa ⊢
  have xd := hid3 (x0.out.keep (belowD' wa))
  have b0d := hid3 (joinB b0.out (belowD' wa))
  refine rg_start (S := fun u => Blk u w.heap.size [.int .i64 8, .int .i64 nm, .slice ka kn kc, .slice va vn vc] 34) (by kernel_rfl) xd.out ?_
  refine rg_take 0 (some 18) (.pointer (some ⟨w.heap.size, 2, none⟩)) (by kernel_rfl) (fun _ _ => by kernel_rfl) (fun _ _ _ h => h) xd.out ?_
  refine rg_load 1 (some 19) (.slice ka kn kc) 32 18 w.heap.size 2 (by kernel_rfl) (by kernel_rfl) (by kernel_rfl) (fun u h => ld_8 (h.cell (i := 2) rfl)) (fun _ _ _ h => h) xd.out ?_
  refine rg_take 3 (some 21) (.pointer (some ⟨w.heap.size, 3, none⟩)) (by kernel_rfl) (fun _ _ => by kernel_rfl) (fun _ _ _ h => h) xd.out ?_
  refine rg_load 4 (some 22) (.slice va vn vc) 32 21 w.heap.size 3 (by kernel_rfl) (by kernel_rfl) (by kernel_rfl) (fun u h => ld_8 (h.cell (i := 3) rfl)) (fun _ _ _ h => h) xd.out ?_
  refine rg_call 2 (some 20) 32 #[.slice ka kn kc] (by kernel_rfl) (by kernel_rfl) (copyBytes_any ((HK0.out.keep HB.out).keep b0d.out) hkl9) ?_
  rintro e' w1 ⟨v1, rfl, O1, B1⟩
  obtain ⟨a1, d1, rfl⟩ := O1.shape
  rw [hkn.out] at O1 ⊢
  refine ⟨_, rfl, xd.out.keep B1, ?_⟩
  refine rg_call 5 (some 23) 32 #[.slice va vn vc] (by kernel_rfl) (by kernel_rfl) (copyBytes_any (((HV0.out.keep HB.out).keep b0d.out).keep B1) hvl9) ?_
  rintro e' w2 ⟨v2, rfl, O2, B2⟩
  obtain ⟨a2, d2, rfl⟩ := O2.shape
  rw [hvn.out] at O2 ⊢
  have BB := joinB (joinB b0d.out B1) B2
  have X2 := hid3 ((xd.out.keep B1).keep B2)
  have OK := hid3 (show OB w2 (fun b => w.heap.size ≤ b ∧ b < w1.heap.size) (.slice a1 kn d1) k from ((O1.mono (fun b hb h => (⟨by have : wa.heap.size ≤ b := h; omega, hb⟩ : w.heap.size ≤ b ∧ b < w1.heap.size))).keep B2))
  have OV := hid3 (show OB w2 (fun b => w1.heap.size ≤ b ∧ b < w2.heap.size) (.slice a2 vn d2) v from O2.mono (fun b hb h => ⟨h, hb⟩))
  have hu1 : w.heap.size ≤ w1.heap.size := (joinB b0d.out B1).size
  have hu2 : w1.heap.size ≤ w2.heap.size := B2.size
  refine ⟨_, rfl, X2.out, ?_⟩
  refine rg_take 6 (some 7) (.slice a1 kn d1) (by kernel_rfl) (fun _ _ => by kernel_rfl) (fun _ _ _ h => h) X2.out ?_
  refine rg_take 7 (some 8) (.slice a2 vn d2) (by kernel_rfl) (fun _ _ => by kernel_rfl) (fun _ _ _ h => h) X2.out ?_
  refine rg_done (by kernel_rfl) ?_
  simp only [Act.put, List.setIfInBounds_toArray, List.set_cons_zero, List.set_cons_succ]
  have H2 := HH.out.hole0 BB
  have FK2 := hid3 (show Fb w0 (hr TR w w2) (.slice a1 kn d1) k from .inr (fun u hu => (hu.2.ob OK.out (fun b hb => hb.1)).by))
  have FV2 := hid3 (show Fb w0 (hr TR w w2) (.slice a2 vn d2) v from .inr (fun u hu => (hu.2.ob OV.out (fun b hb => by omega)).by))
  have c0 := X2.out.cell (i := 0) rfl
  have c1 := X2.out.cell (i := 1) rfl
  have c2 := X2.out.cell (i := 2) rfl
  clear O1 O2 B1 B2 xd b0 b0d x0
  go_wp2_with first
    | (go_at_call 19; have gate := H2; clear gate; obtain ⟨r, hre⟩ : ∃ r : Int, Hid ((if W.length = 16 then 62 else 0) = r) := ⟨_, rfl⟩; go_must (refine (pbegin H2 rfl hre.out).mono ?_); rintro e' w3 ⟨rfl, H3⟩; clear H2)
    | (go_at_call 40; have gate := H3; clear gate; go_must (refine (prbegin H3 hdp rfl hre.out).mono ?_); rintro e' w4 ⟨rfl, H4⟩; clear H3; have c2' := (H4.xs X2.out (Nat.le_refl _)).cell (i := 2) rfl)
    | (go_at_call 23; have gate := H5; clear gate; go_must (refine (pbytes H5 (H5.bys FV2.out) (H5.bys (FV.out _)) rfl hvl9).mono ?_); rintro e' w6 ⟨rfl, H6⟩; clear H5)
    | (go_at_call 23; have gate := H4; clear gate; go_must (refine (pbytes H4 (H4.bys FK2.out) (H4.bys (FK.out _)) rfl hkl9).mono ?_); rintro e' w5 ⟨rfl, H5⟩; clear H4; have cv := (H5.xs X2.out (Nat.le_refl _)).cell (i := 3) rfl)
    | (go_at_call 36; have gate := S7; clear gate; go_must (refine (spoil_any (OV7 : OB w7 (fun b => w1.heap.size ≤ b ∧ b < w2.heap.size) _ v) hvl9).mono ?_); rintro e' w8 ⟨rfl, S8⟩)
    | (go_at_call 36; have gate := H6; clear gate; go_must (refine (spoil_any (H6.fr.2.ob OK.out (fun b hb => hb.1)) hkl9).mono ?_); rintro e' w7 ⟨rfl, S7⟩; have OV7 := (H6.fr.2.ob OV.out (fun b hb => by omega)).same (fun b hb hd => S7.chg.same b hb (fun hh => by have := hh.1.2; omega)))
  go_ret
  exact ⟨rfl, _, _, _, _, H6.ends2 HO.out hu1 hu2 S7 S8, by omega, by omega⟩
set_option maxHeartbeats 2000000 in
set_option maxRecDepth 100000 in
theorem does_9 {w0 w : World} {g n N q : Nat} {E : Ents} {W : List Ents} {ka va : Option Addr} {kc vc : Nat} {k v : List Int} {nm : Int} (h : KP w0 w (ZO w0) TR g E W n N q E W n) (hk : By w0 (.slice ka k.length kc) k) (hv : By w0 (.slice va v.length vc) v) (hkl : k.length ≤ 8000) (hvl : v.length ≤ 8000) (hn : n ≤ 1000000) (hN : N ≤ 100000) :
    Calls Try.prog 13 #[.pointer (some ⟨g, 0, none⟩), .pointer (some ⟨q, 0, none⟩), .agg #[.int .i64 9, .int .i64 nm, .slice ka k.length kc, .slice va v.length vc]] w (FinDo w0 g n N q) := by
  have hsz := h.size
  have hnU := hn
  have hNU := hN
  have hdp := h.depth
  have hgd := h.gd
  obtain ⟨kn, hkn⟩ : ∃ kn, Hid (k.length = kn) := ⟨_, rfl⟩
  obtain ⟨vn, hvn⟩ : ∃ vn, Hid (v.length = vn) := ⟨_, rfl⟩
  have hkl9 : k.length ≤ 1000000000 := by omega
  have hvl9 : v.length ≤ 1000000000 := by omega
  have hkl6 : k.length ≤ 1000000 := by omega
  rw [hkn.out] at hk hkl ⊢
  rw [hvn.out] at hv hvl ⊢
  have FK := hid3 (show ∀ R, Fb w0 R (.slice ka kn kc) k from fun _ => .inl hk)
  have FV := hid3 (show ∀ R, Fb w0 R (.slice va vn vc) v from fun _ => .inl hv)
  have HO := hid3 h.out
  have HB := hid3 h.bel
  have b0 := hid3 (below_alloc w (.cells #[.int .i64 9, .int .i64 nm, .slice ka kn kc, .slice va vn vc] 34))
  have x0 := hid3 (blk_new w [.int .i64 9, .int .i64 nm, .slice ka kn kc, .slice va vn vc] 34)
  have hsa := size_al w (.cells #[.int .i64 9, .int .i64 nm, .slice ka kn kc, .slice va vn vc] 34)
  have HH := hid3 h
  have HK0 := hid3 hk
  have HV0 := hid3 hv
  have hgd' := hid3 hgd
  clear h hk hv hgd
  go_enter Try.func13, Try.ntmps13
  go_wp2_with fail
  obtain ⟨wa, hwa⟩ : ∃ wa, Hid (w.alloc (.cells #[.int .i64 9, .int .i64 nm, .slice ka kn kc, .slice va vn vc] 34) = wa) := ⟨_, rfl⟩
  rw [hwa.out] at b0 x0 hsa ⊢
  have xd := hid3 (x0.out.keep (belowD' wa))
  have b0d := hid3 (joinB b0.out (belowD' wa))
  refine rg_start (S := fun u => Blk u w.heap.size [.int .i64 9, .int .i64 nm, .slice ka kn kc, .slice va vn vc] 34) (by kernel_rfl) xd.out ?_
  refine rg_take 0 (some 18) (.pointer (some ⟨w.heap.size, 2, none⟩)) (by kernel_rfl) (fun _ _ => by kernel_rfl) (fun _ _ _ h => h) xd.out ?_
  refine rg_load 1 (some 19) (.slice ka kn kc) 32 18 w.heap.size 2 (by kernel_rfl) (by kernel_rfl) (by kernel_rfl) (fun u h => ld_8 (h.cell (i := 2) rfl)) (fun _ _ _ h => h) xd.out ?_
  refine rg_take 3 (some 21) (.pointer (some ⟨w.heap.size, 3, none⟩)) (by kernel_rfl) (fun _ _ => by kernel_rfl) (fun _ _ _ h => h) xd.out ?_
  refine rg_load 4 (some 22) (.slice va vn vc) 32 21 w.heap.size 3 (by kernel_rfl) (by kernel_rfl) (by kernel_rfl) (fun u h => ld_8 (h.cell (i := 3) rfl)) (fun _ _ _ h => h) xd.out ?_
  refine rg_call 2 (some 20) 32 #[.slice ka kn kc] (by kernel_rfl) (by kernel_rfl) (copyBytes_any ((HK0.out.keep HB.out).keep b0d.out) hkl9) ?_
  rintro e' w1 ⟨v1, rfl, O1, B1⟩
  obtain ⟨a1, d1, rfl⟩ := O1.shape
  rw [hkn.out] at O1 ⊢
  refine ⟨_, rfl, xd.out.keep B1, ?_⟩
  refine rg_call 5 (some 23) 32 #[.slice va vn vc] (by kernel_rfl) (by kernel_rfl) (copyBytes_any (((HV0.out.keep HB.out).keep b0d.out).keep B1) hvl9) ?_
  rintro e' w2 ⟨v2, rfl, O2, B2⟩
  obtain ⟨a2, d2, rfl⟩ := O2.shape
  rw [hvn.out] at O2 ⊢
  have BB := joinB (joinB b0d.out B1) B2
  have X2 := hid3 ((xd.out.keep B1).keep B2)
  have OK := hid3 (show OB w2 (fun b => w.heap.size ≤ b ∧ b < w1.heap.size) (.slice a1 kn d1) k from ((O1.mono (fun b hb h => (⟨by have : wa.heap.size ≤ b := h; omega, hb⟩ : w.heap.size ≤ b ∧ b < w1.heap.size))).keep B2))
  have OV := hid3 (show OB w2 (fun b => w1.heap.size ≤ b ∧ b < w2.heap.size) (.slice a2 vn d2) v from O2.mono (fun b hb h => ⟨h, hb⟩))
  have hu1 : w.heap.size ≤ w1.heap.size := (joinB b0d.out B1).size
  have hu2 : w1.heap.size ≤ w2.heap.size := B2.size
  refine ⟨_, rfl, X2.out, ?_⟩
  refine rg_take 6 (some 7) (.slice a1 kn d1) (by kernel_rfl) (fun _ _ => by kernel_rfl) (fun _ _ _ h => h) X2.out ?_
  refine rg_take 7 (some 8) (.slice a2 vn d2) (by kernel_rfl) (fun _ _ => by kernel_rfl) (fun _ _ _ h => h) X2.out ?_
  refine rg_done (by kernel_rfl) ?_
  simp only [Act.put, List.setIfInBounds_toArray, List.set_cons_zero, List.set_cons_succ]
  have H2 := HH.out.hole0 BB
  have FK2 := hid3 (show Fb w0 (hr TR w w2) (.slice a1 kn d1) k from .inr (fun u hu => (hu.2.ob OK.out (fun b hb => hb.1)).by))
  have FV2 := hid3 (show Fb w0 (hr TR w w2) (.slice a2 vn d2) v from .inr (fun u hu => (hu.2.ob OV.out (fun b hb => by omega)).by))
  have c0 := X2.out.cell (i := 0) rfl
  have c1 := X2.out.cell (i := 1) rfl
  have c2 := X2.out.cell (i := 2) rfl
  clear O1 O2 B1 B2 xd b0 b0d x0
  go_wp2_with first
    | (go_at_call 21; have gate := H2; clear gate; obtain ⟨r, hre⟩ : ∃ r : Int, Hid ((if W = [] then 62 else 0) = r) := ⟨_, rfl⟩; go_must (refine (pcommit H2 (by omega) rfl hre.out).mono ?_); rintro e' w3 ⟨rfl, H3⟩; clear H2)
    | (go_at_call 41; have gate := H3; clear gate; go_must (refine (prcommit H3 hdp rfl hre.out).mono ?_); rintro e' w4 ⟨rfl, H4⟩; clear H3; have c2' := (H4.xs X2.out (Nat.le_refl _)).cell (i := 2) rfl)
    | (go_at_call 23; have gate := H5; clear gate; go_must (refine (pbytes H5 (H5.bys FV2.out) (H5.bys (FV.out _)) rfl hvl9).mono ?_); rintro e' w6 ⟨rfl, H6⟩; clear H5)
    | (go_at_call 23; have gate := H4; clear gate; go_must (refine (pbytes H4 (H4.bys FK2.out) (H4.bys (FK.out _)) rfl hkl9).mono ?_); rintro e' w5 ⟨rfl, H5⟩; clear H4; have cv := (H5.xs X2.out (Nat.le_refl _)).cell (i := 3) rfl)
    | (go_at_call 36; have gate := S7; clear gate; go_must (refine (spoil_any (OV7 : OB w7 (fun b => w1.heap.size ≤ b ∧ b < w2.heap.size) _ v) hvl9).mono ?_); rintro e' w8 ⟨rfl, S8⟩)
    | (go_at_call 36; have gate := H6; clear gate; go_must (refine (spoil_any (H6.fr.2.ob OK.out (fun b hb => hb.1)) hkl9).mono ?_); rintro e' w7 ⟨rfl, S7⟩; have OV7 := (H6.fr.2.ob OV.out (fun b hb => by omega)).same (fun b hb hd => S7.chg.same b hb (fun hh => by have := hh.1.2; omega)))
  go_ret
  exact ⟨rfl, _, _, _, _, H6.ends2 HO.out hu1 hu2 S7 S8, by omega, by omega⟩
set_option maxHeartbeats 2000000 in
set_option maxRecDepth 100000 in
theorem does_10 {w0 w : World} {g n N q : Nat} {E : Ents} {W : List Ents} {ka va : Option Addr} {kc vc : Nat} {k v : List Int} {nm : Int} (h : KP w0 w (ZO w0) TR g E W n N q E W n) (hk : By w0 (.slice ka k.length kc) k) (hv : By w0 (.slice va v.length vc) v) (hkl : k.length ≤ 8000) (hvl : v.length ≤ 8000) (hn : n ≤ 1000000) (hN : N ≤ 100000) :
    Calls Try.prog 13 #[.pointer (some ⟨g, 0, none⟩), .pointer (some ⟨q, 0, none⟩), .agg #[.int .i64 10, .int .i64 nm, .slice ka k.length kc, .slice va v.length vc]] w (FinDo w0 g n N q) := by
  have hsz := h.size
  have hnU := hn
  have hNU := hN
  have hdp := h.depth
  have hgd := h.gd
  obtain ⟨kn, hkn⟩ : ∃ kn, Hid (k.length = kn) := ⟨_, rfl⟩
  obtain ⟨vn, hvn⟩ : ∃ vn, Hid (v.length = vn) := ⟨_, rfl⟩
  have hkl9 : k.length ≤ 1000000000 := by omega
  have hvl9 : v.length ≤ 1000000000 := by omega
  have hkl6 : k.length ≤ 1000000 := by omega
  rw [hkn.out] at hk hkl ⊢
  rw [hvn.out] at hv hvl ⊢
  have FK := hid3 (show ∀ R, Fb w0 R (.slice ka kn kc) k from fun _ => .inl hk)
  have FV := hid3 (show ∀ R, Fb w0 R (.slice va vn vc) v from fun _ => .inl hv)
  have HO := hid3 h.out
  have HB := hid3 h.bel
  have b0 := hid3 (below_alloc w (.cells #[.int .i64 10, .int .i64 nm, .slice ka kn kc, .slice va vn vc] 34))
  have x0 := hid3 (blk_new w [.int .i64 10, .int .i64 nm, .slice ka kn kc, .slice va vn vc] 34)
  have hsa := size_al w (.cells #[.int .i64 10, .int .i64 nm, .slice ka kn kc, .slice va vn vc] 34)
  have HH := hid3 h
  have HK0 := hid3 hk
  have HV0 := hid3 hv
  have hgd' := hid3 hgd
  clear h hk hv hgd
  go_enter Try.func13, Try.ntmps13
  go_wp2_with fail
  obtain ⟨wa, hwa⟩ : ∃ wa, Hid (w.alloc (.cells #[.int .i64 10, .int .i64 nm, .slice ka kn kc, .slice va vn vc] 34) = wa) := ⟨_, rfl⟩
  rw [hwa.out] at b0 x0 hsa ⊢
  have xd := hid3 (x0.out.keep (belowD' wa))
  have b0d := hid3 (joinB b0.out (belowD' wa))
  refine rg_start (S := fun u => Blk u w.heap.size [.int .i64 10, .int .i64 nm, .slice ka kn kc, .slice va vn vc] 34) (by kernel_rfl) xd.out ?_
  refine rg_take 0 (some 18) (.pointer (some ⟨w.heap.size, 2, none⟩)) (by kernel_rfl) (fun _ _ => by kernel_rfl) (fun _ _ _ h => h) xd.out ?_
  refine rg_load 1 (some 19) (.slice ka kn kc) 32 18 w.heap.size 2 (by kernel_rfl) (by kernel_rfl) (by kernel_rfl) (fun u h => ld_8 (h.cell (i := 2) rfl)) (fun _ _ _ h => h) xd.out ?_
  refine rg_take 3 (some 21) (.pointer (some ⟨w.heap.size, 3, none⟩)) (by kernel_rfl) (fun _ _ => by kernel_rfl) (fun _ _ _ h => h) xd.out ?_
  refine rg_load 4 (some 22) (.slice va vn vc) 32 21 w.heap.size 3 (by kernel_rfl) (by kernel_rfl) (by kernel_rfl) (fun u h => ld_8 (h.cell (i := 3) rfl)) (fun _ _ _ h => h) xd.out ?_
  refine rg_call 2 (some 20) 32 #[.slice ka kn kc] (by kernel_rfl) (by kernel_rfl) (copyBytes_any ((HK0.out.keep HB.out).keep b0d.out) hkl9) ?_
  rintro e' w1 ⟨v1, rfl, O1, B1⟩
  obtain ⟨a1, d1, rfl⟩ := O1.shape
  rw [hkn.out] at O1 ⊢
  refine ⟨_, rfl, xd.out.keep B1, ?_⟩
  refine rg_call 5 (some 23) 32 #[.slice va vn vc] (by kernel_rfl) (by kernel_rfl) (copyBytes_any (((HV0.out.keep HB.out).keep b0d.out).keep B1) hvl9) ?_
  rintro e' w2 ⟨v2, rfl, O2, B2⟩
  obtain ⟨a2, d2, rfl⟩ := O2.shape
  rw [hvn.out] at O2 ⊢
  have BB := joinB (joinB b0d.out B1) B2
  have X2 := hid3 ((xd.out.keep B1).keep B2)
  have OK := hid3 (show OB w2 (fun b => w.heap.size ≤ b ∧ b < w1.heap.size) (.slice a1 kn d1) k from ((O1.mono (fun b hb h => (⟨by have : wa.heap.size ≤ b := h; omega, hb⟩ : w.heap.size ≤ b ∧ b < w1.heap.size))).keep B2))
  have OV := hid3 (show OB w2 (fun b => w1.heap.size ≤ b ∧ b < w2.heap.size) (.slice a2 vn d2) v from O2.mono (fun b hb h => ⟨h, hb⟩))
  have hu1 : w.heap.size ≤ w1.heap.size := (joinB b0d.out B1).size
  have hu2 : w1.heap.size ≤ w2.heap.size := B2.size
  refine ⟨_, rfl, X2.out, ?_⟩
  refine rg_take 6 (some 7) (.slice a1 kn d1) (by kernel_rfl) (fun _ _ => by kernel_rfl) (fun _ _ _ h => h) X2.out ?_
  refine rg_take 7 (some 8) (.slice a2 vn d2) (by kernel_rfl) (fun _ _ => by kernel_rfl) (fun _ _ _ h => h) X2.out ?_
  refine rg_done (by kernel_rfl) ?_
  simp only [Act.put, List.setIfInBounds_toArray, List.set_cons_zero, List.set_cons_succ]
  have H2 := HH.out.hole0 BB
  have FK2 := hid3 (show Fb w0 (hr TR w w2) (.slice a1 kn d1) k from .inr (fun u hu => (hu.2.ob OK.out (fun b hb => hb.1)).by))
  have FV2 := hid3 (show Fb w0 (hr TR w w2) (.slice a2 vn d2) v from .inr (fun u hu => (hu.2.ob OV.out (fun b hb => by omega)).by))
  have c0 := X2.out.cell (i := 0) rfl
  have c1 := X2.out.cell (i := 1) rfl
  have c2 := X2.out.cell (i := 2) rfl
  clear O1 O2 B1 B2 xd b0 b0d x0
  go_wp2_with first
    | (go_at_call 22; have gate := H2; clear gate; obtain ⟨r, hre⟩ : ∃ r : Int, Hid ((if W = [] then 62 else 0) = r) := ⟨_, rfl⟩; go_must (refine (prollback H2 (by omega) rfl rfl hre.out).mono ?_); rintro e' w3 ⟨rfl, H3⟩; clear H2)
    | (go_at_call 42; have gate := H3; clear gate; go_must (refine (prrollback H3 hdp rfl rfl hre.out).mono ?_); rintro e' w4 ⟨rfl, H4⟩; clear H3; have c2' := (H4.xs X2.out (Nat.le_refl _)).cell (i := 2) rfl)
    | (go_at_call 23; have gate := H5; clear gate; go_must (refine (pbytes H5 (H5.bys FV2.out) (H5.bys (FV.out _)) rfl hvl9).mono ?_); rintro e' w6 ⟨rfl, H6⟩; clear H5)
    | (go_at_call 23; have gate := H4; clear gate; go_must (refine (pbytes H4 (H4.bys FK2.out) (H4.bys (FK.out _)) rfl hkl9).mono ?_); rintro e' w5 ⟨rfl, H5⟩; clear H4; have cv := (H5.xs X2.out (Nat.le_refl _)).cell (i := 3) rfl)
    | (go_at_call 36; have gate := S7; clear gate; go_must (refine (spoil_any (OV7 : OB w7 (fun b => w1.heap.size ≤ b ∧ b < w2.heap.size) _ v) hvl9).mono ?_); rintro e' w8 ⟨rfl, S8⟩)
    | (go_at_call 36; have gate := H6; clear gate; go_must (refine (spoil_any (H6.fr.2.ob OK.out (fun b hb => hb.1)) hkl9).mono ?_); rintro e' w7 ⟨rfl, S7⟩; have OV7 := (H6.fr.2.ob OV.out (fun b hb => by omega)).same (fun b hb hd => S7.chg.same b hb (fun hh => by have := hh.1.2; omega)))
  go_ret
  exact ⟨rfl, _, _, _, _, H6.ends2 HO.out hu1 hu2 S7 S8, by omega, by omega⟩
set_option maxHeartbeats 2000000 in
set_option maxRecDepth 100000 in
theorem does_5 {w0 w : World} {g n N q : Nat} {E : Ents} {W : List Ents} {ka va : Option Addr} {kc vc : Nat} {k v : List Int} {nm : Int} (h : KP w0 w (ZO w0) TR g E W n N q E W n) (hk : By w0 (.slice ka k.length kc) k) (hv : By w0 (.slice va v.length vc) v) (hkl : k.length ≤ 8000) (hvl : v.length ≤ 8000) (hn : n ≤ 1000000) (hN : N ≤ 100000) :
    Calls Try.prog 13 #[.pointer (some ⟨g, 0, none⟩), .pointer (some ⟨q, 0, none⟩), .agg #[.int .i64 5, .int .i64 nm, .slice ka k.length kc, .slice va v.length vc]] w (FinDo w0 g n N q) := by
  have hsz := h.size
  have hnU := hn
  have hNU := hN
  have hdp := h.depth
  have hgd := h.gd
  obtain ⟨kn, hkn⟩ : ∃ kn, Hid (k.length = kn) := ⟨_, rfl⟩
  obtain ⟨vn, hvn⟩ : ∃ vn, Hid (v.length = vn) := ⟨_, rfl⟩
  have hkl9 : k.length ≤ 1000000000 := by omega
  have hvl9 : v.length ≤ 1000000000 := by omega
  have hkl6 : k.length ≤ 1000000 := by omega
  rw [hkn.out] at hk hkl ⊢
  rw [hvn.out] at hv hvl ⊢
  have FK := hid3 (show ∀ R, Fb w0 R (.slice ka kn kc) k from fun _ => .inl hk)
  have FV := hid3 (show ∀ R, Fb w0 R (.slice va vn vc) v from fun _ => .inl hv)
  have HO := hid3 h.out
  have HB := hid3 h.bel
  have b0 := hid3 (below_alloc w (.cells #[.int .i64 5, .int .i64 nm, .slice ka kn kc, .slice va vn vc] 34))
  have x0 := hid3 (blk_new w [.int .i64 5, .int .i64 nm, .slice ka kn kc, .slice va vn vc] 34)
  have hsa := size_al w (.cells #[.int .i64 5, .int .i64 nm, .slice ka kn kc, .slice va vn vc] 34)
  have HH := hid3 h
  have HK0 := hid3 hk
  have HV0 := hid3 hv
  have hgd' := hid3 hgd
  clear h hk hv hgd
  go_enter Try.func13, Try.ntmps13
  go_wp2_with fail
  obtain ⟨wa, hwa⟩ : ∃ wa, Hid (w.alloc (.cells #[.int .i64 5, .int .i64 nm, .slice ka kn kc, .slice va vn vc] 34) = wa) := ⟨_, rfl⟩
  rw [hwa.out] at b0 x0 hsa ⊢
  have xd := hid3 (x0.out.keep (belowD' wa))
  have b0d := hid3 (joinB b0.out (belowD' wa))
  refine rg_start (S := fun u => Blk u w.heap.size [.int .i64 5, .int .i64 nm, .slice ka kn kc, .slice va vn vc] 34) (by kernel_rfl) xd.out ?_
  refine rg_take 0 (some 18) (.pointer (some ⟨w.heap.size, 2, none⟩)) (by kernel_rfl) (fun _ _ => by kernel_rfl) (fun _ _ _ h => h) xd.out ?_
  refine rg_load 1 (some 19) (.slice ka kn kc) 32 18 w.heap.size 2 (by kernel_rfl) (by kernel_rfl) (by kernel_rfl) (fun u h => ld_8 (h.cell (i := 2) rfl)) (fun _ _ _ h => h) xd.out ?_
  refine rg_take 3 (some 21) (.pointer (some ⟨w.heap.size, 3, none⟩)) (by kernel_rfl) (fun _ _ => by kernel_rfl) (fun _ _ _ h => h) xd.out ?_
  refine rg_load 4 (some 22) (.slice va vn vc) 32 21 w.heap.size 3 (by kernel_rfl) (by kernel_rfl) (by kernel_rfl) (fun u h => ld_8 (h.cell (i := 3) rfl)) (fun _ _ _ h => h) xd.out ?_
  refine rg_call 2 (some 20) 32 #[.slice ka kn kc] (by kernel_rfl) (by kernel_rfl) (copyBytes_any ((HK0.out.keep HB.out).keep b0d.out) hkl9) ?_
  rintro e' w1 ⟨v1, rfl, O1, B1⟩
  obtain ⟨a1, d1, rfl⟩ := O1.shape
  rw [hkn.out] at O1 ⊢
  refine ⟨_, rfl, xd.out.keep B1, ?_⟩
  refine rg_call 5 (some 23) 32 #[.slice va vn vc] (by kernel_rfl) (by kernel_rfl) (copyBytes_any (((HV0.out.keep HB.out).keep b0d.out).keep B1) hvl9) ?_
  rintro e' w2 ⟨v2, rfl, O2, B2⟩
  obtain ⟨a2, d2, rfl⟩ := O2.shape
  rw [hvn.out] at O2 ⊢
  have BB := joinB (joinB b0d.out B1) B2
  have X2 := hid3 ((xd.out.keep B1).keep B2)
  have OK := hid3 (show OB w2 (fun b => w.heap.size ≤ b ∧ b < w1.heap.size) (.slice a1 kn d1) k from ((O1.mono (fun b hb h => (⟨by have : wa.heap.size ≤ b := h; omega, hb⟩ : w.heap.size ≤ b ∧ b < w1.heap.size))).keep B2))
  have OV := hid3 (show OB w2 (fun b => w1.heap.size ≤ b ∧ b < w2.heap.size) (.slice a2 vn d2) v from O2.mono (fun b hb h => ⟨h, hb⟩))
  have hu1 : w.heap.size ≤ w1.heap.size := (joinB b0d.out B1).size
  have hu2 : w1.heap.size ≤ w2.heap.size := B2.size
  refine ⟨_, rfl, X2.out, ?_⟩
  refine rg_take 6 (some 7) (.slice a1 kn d1) (by kernel_rfl) (fun _ _ => by kernel_rfl) (fun _ _ _ h => h) X2.out ?_
  refine rg_take 7 (some 8) (.slice a2 vn d2) (by kernel_rfl) (fun _ _ => by kernel_rfl) (fun _ _ _ h => h) X2.out ?_
  refine rg_done (by kernel_rfl) ?_
  simp only [Act.put, List.setIfInBounds_toArray, List.set_cons_zero, List.set_cons_succ]
  have H2 := HH.out.hole0 BB
  have FK2 := hid3 (show Fb w0 (hr TR w w2) (.slice a1 kn d1) k from .inr (fun u hu => (hu.2.ob OK.out (fun b hb => hb.1)).by))
  have FV2 := hid3 (show Fb w0 (hr TR w w2) (.slice a2 vn d2) v from .inr (fun u hu => (hu.2.ob OV.out (fun b hb => by omega)).by))
  have c0 := X2.out.cell (i := 0) rfl
  have c1 := X2.out.cell (i := 1) rfl
  have c2 := X2.out.cell (i := 2) rfl
  clear O1 O2 B1 B2 xd b0 b0d x0
  go_wp2_with first
    | (go_at_call 35; have gate := H2; clear gate; obtain ⟨r, hre⟩ : ∃ r, Hid ((look E k).isSome = r) := ⟨_, rfl⟩; go_must (refine (prget H2 (FK.out _) hkl9 (by omega) (by omega) hre.out rfl).mono ?_); rintro e' w3 ⟨v3, rfl, Y3, H3⟩; clear H2 Y3)
    | (go_at_call 29; have gate := H3; clear gate; go_must (refine (phas H3 FK2.out (by omega) (by omega) hre.out).mono ?_); rintro e' w4 ⟨rfl, H4⟩; clear H3; have c2' := (H4.xs X2.out (Nat.le_refl _)).cell (i := 2) rfl)
    | (go_at_call 23; have gate := H5; clear gate; go_must (refine (pbytes H5 (H5.bys FV2.out) (H5.bys (FV.out _)) rfl hvl9).mono ?_); rintro e' w6 ⟨rfl, H6⟩; clear H5)
    | (go_at_call 23; have gate := H4; clear gate; go_must (refine (pbytes H4 (H4.bys FK2.out) (H4.bys (FK.out _)) rfl hkl9).mono ?_); rintro e' w5 ⟨rfl, H5⟩; clear H4; have cv := (H5.xs X2.out (Nat.le_refl _)).cell (i := 3) rfl)
    | (go_at_call 36; have gate := S7; clear gate; go_must (refine (spoil_any (OV7 : OB w7 (fun b => w1.heap.size ≤ b ∧ b < w2.heap.size) _ v) hvl9).mono ?_); rintro e' w8 ⟨rfl, S8⟩)
    | (go_at_call 36; have gate := H6; clear gate; go_must (refine (spoil_any (H6.fr.2.ob OK.out (fun b hb => hb.1)) hkl9).mono ?_); rintro e' w7 ⟨rfl, S7⟩; have OV7 := (H6.fr.2.ob OV.out (fun b hb => by omega)).same (fun b hb hd => S7.chg.same b hb (fun hh => by have := hh.1.2; omega)))
  go_ret
  exact ⟨rfl, _, _, _, _, H6.ends2 HO.out hu1 hu2 S7 S8, by omega, by omega⟩
set_option maxHeartbeats 2000000 in
set_option maxRecDepth 100000 in
theorem does_else {w0 w : World} {g n N q : Nat} {E : Ents} {W : List Ents} {ka va : Option Addr} {kc vc : Nat} {k v : List Int} {wh nm : Int} (h : KP w0 w (ZO w0) TR g E W n N q E W n) (hk : By w0 (.slice ka k.length kc) k) (hv : By w0 (.slice va v.length vc) v) (hkl : k.length ≤ 8000) (hvl : v.length ≤ 8000) (hn : n ≤ 1000000) (hN : N ≤ 100000) (h0 : ¬ wh = 0) (h1 : ¬ wh = 1) (h2 : ¬ wh = 2) (h3 : ¬ wh = 3) (h4 : ¬ wh = 4) (h5 : ¬ wh = 5) (h6 : ¬ wh = 6) (h7 : ¬ wh = 7) (h8 : ¬ wh = 8) (h9 : ¬ wh = 9) (h10 : ¬ wh = 10) :
    Calls Try.prog 13 #[.pointer (some ⟨g, 0, none⟩), .pointer (some ⟨q, 0, none⟩), .agg #[.int .i64 wh, .int .i64 nm, .slice ka k.length kc, .slice va v.length vc]] w (FinDo w0 g n N q) := by
  have hsz := h.size
  have hnU := hn
  have hNU := hN
  have hdp := h.depth
  have hgd := h.gd
  obtain ⟨kn, hkn⟩ : ∃ kn, Hid (k.length = kn) := ⟨_, rfl⟩
  obtain ⟨vn, hvn⟩ : ∃ vn, Hid (v.length = vn) := ⟨_, rfl⟩
  have hkl9 : k.length ≤ 1000000000 := by omega
  have hvl9 : v.length ≤ 1000000000 := by omega
  have hkl6 : k.length ≤ 1000000 := by omega
  rw [hkn.out] at hk hkl ⊢
  rw [hvn.out] at hv hvl ⊢
  have FK := hid3 (show ∀ R, Fb w0 R (.slice ka kn kc) k from fun _ => .inl hk)
  have FV := hid3 (show ∀ R, Fb w0 R (.slice va vn vc) v from fun _ => .inl hv)
  have HO := hid3 h.out
  have HB := hid3 h.bel
  have b0 := hid3 (below_alloc w (.cells #[.int .i64 wh, .int .i64 nm, .slice ka kn kc, .slice va vn vc] 34))
  have x0 := hid3 (blk_new w [.int .i64 wh, .int .i64 nm, .slice ka kn kc, .slice va vn vc] 34)
  have hsa := size_al w (.cells #[.int .i64 wh, .int .i64 nm, .slice ka kn kc, .slice va vn vc] 34)
  have HH := hid3 h
  have HK0 := hid3 hk
  have HV0 := hid3 hv
  have hgd' := hid3 hgd
  clear h hk hv hgd
  go_enter Try.func13, Try.ntmps13
  go_wp2_with fail
  obtain ⟨wa, hwa⟩ : ∃ wa, Hid (w.alloc (.cells #[.int .i64 wh, .int .i64 nm, .slice ka kn kc, .slice va vn vc] 34) = wa) := ⟨_, rfl⟩
  rw [hwa.out] at b0 x0 hsa ⊢
  have xd := hid3 (x0.out.keep (belowD' wa))
  have b0d := hid3 (joinB b0.out (belowD' wa))
  refine rg_start (S := fun u => Blk u w.heap.size [.int .i64 wh, .int .i64 nm, .slice ka kn kc, .slice va vn vc] 34) (by kernel_rfl) xd.out ?_
  refine rg_take 0 (some 18) (.pointer (some ⟨w.heap.size, 2, none⟩)) (by kernel_rfl) (fun _ _ => by kernel_rfl) (fun _ _ _ h => h) xd.out ?_
  refine rg_load 1 (some 19) (.slice ka kn kc) 32 18 w.heap.size 2 (by kernel_rfl) (by kernel_rfl) (by kernel_rfl) (fun u h => ld_8 (h.cell (i := 2) rfl)) (fun _ _ _ h => h) xd.out ?_
  refine rg_take 3 (some 21) (.pointer (some ⟨w.heap.size, 3, none⟩)) (by kernel_rfl) (fun _ _ => by kernel_rfl) (fun _ _ _ h => h) xd.out ?_
  refine rg_load 4 (some 22) (.slice va vn vc) 32 21 w.heap.size 3 (by kernel_rfl) (by kernel_rfl) (by kernel_rfl) (fun u h => ld_8 (h.cell (i := 3) rfl)) (fun _ _ _ h => h) xd.out ?_
  refine rg_call 2 (some 20) 32 #[.slice ka kn kc] (by kernel_rfl) (by kernel_rfl) (copyBytes_any ((HK0.out.keep HB.out).keep b0d.out) hkl9) ?_
  rintro e' w1 ⟨v1, rfl, O1, B1⟩
  obtain ⟨a1, d1, rfl⟩ := O1.shape
  rw [hkn.out] at O1 ⊢
  refine ⟨_, rfl, xd.out.keep B1, ?_⟩
  refine rg_call 5 (some 23) 32 #[.slice va vn vc] (by kernel_rfl) (by kernel_rfl) (copyBytes_any (((HV0.out.keep HB.out).keep b0d.out).keep B1) hvl9) ?_
  rintro e' w2 ⟨v2, rfl, O2, B2⟩
  obtain ⟨a2, d2, rfl⟩ := O2.shape
  rw [hvn.out] at O2 ⊢
  have BB := joinB (joinB b0d.out B1) B2
  have X2 := hid3 ((xd.out.keep B1).keep B2)
  have OK := hid3 (show OB w2 (fun b => w.heap.size ≤ b ∧ b < w1.heap.size) (.slice a1 kn d1) k from ((O1.mono (fun b hb h => (⟨by have : wa.heap.size ≤ b := h; omega, hb⟩ : w.heap.size ≤ b ∧ b < w1.heap.size))).keep B2))
  have OV := hid3 (show OB w2 (fun b => w1.heap.size ≤ b ∧ b < w2.heap.size) (.slice a2 vn d2) v from O2.mono (fun b hb h => ⟨h, hb⟩))
  have hu1 : w.heap.size ≤ w1.heap.size := (joinB b0d.out B1).size
  have hu2 : w1.heap.size ≤ w2.heap.size := B2.size
  refine ⟨_, rfl, X2.out, ?_⟩
  refine rg_take 6 (some 7) (.slice a1 kn d1) (by kernel_rfl) (fun _ _ => by kernel_rfl) (fun _ _ _ h => h) X2.out ?_
  refine rg_take 7 (some 8) (.slice a2 vn d2) (by kernel_rfl) (fun _ _ => by kernel_rfl) (fun _ _ _ h => h) X2.out ?_
  refine rg_done (by kernel_rfl) ?_
  simp only [Act.put, List.setIfInBounds_toArray, List.set_cons_zero, List.set_cons_succ]
  have H4 := HH.out.hole0 BB
  have FK2 := hid3 (show Fb w0 (hr TR w w2) (.slice a1 kn d1) k from .inr (fun u hu => (hu.2.ob OK.out (fun b hb => hb.1)).by))
  have FV2 := hid3 (show Fb w0 (hr TR w w2) (.slice a2 vn d2) v from .inr (fun u hu => (hu.2.ob OV.out (fun b hb => by omega)).by))
  have c0 := X2.out.cell (i := 0) rfl
  have c1 := X2.out.cell (i := 1) rfl
  have c2 := X2.out.cell (i := 2) rfl
  clear O1 O2 B1 B2 xd b0 b0d x0
  go_wp2_with first
    | (go_at_call 23; have gate := H5; clear gate; go_must (refine (pbytes H5 (H5.bys FV2.out) (H5.bys (FV.out _)) rfl hvl9).mono ?_); rintro e' w6 ⟨rfl, H6⟩; clear H5)
    | (go_at_call 23; have gate := H4; clear gate; go_must (refine (pbytes H4 (H4.bys FK2.out) (H4.bys (FK.out _)) rfl hkl9).mono ?_); rintro e' w5 ⟨rfl, H5⟩; clear H4; have cv := (H5.xs X2.out (Nat.le_refl _)).cell (i := 3) rfl)
    | (go_at_call 36; have gate := S7; clear gate; go_must (refine (spoil_any (OV7 : OB w7 (fun b => w1.heap.size ≤ b ∧ b < w2.heap.size) _ v) hvl9).mono ?_); rintro e' w8 ⟨rfl, S8⟩)
    | (go_at_call 36; have gate := H6; clear gate; go_must (refine (spoil_any (H6.fr.2.ob OK.out (fun b hb => hb.1)) hkl9).mono ?_); rintro e' w7 ⟨rfl, S7⟩; have OV7 := (H6.fr.2.ob OV.out (fun b hb => by omega)).same (fun b hb hd => S7.chg.same b hb (fun hh => by have := hh.1.2; omega)))
  go_ret
  exact ⟨rfl, _, _, _, _, H6.ends2 HO.out hu1 hu2 S7 S8, by omega, by omega⟩
end Kv
end Go.Proofs.Ytplminnejheceaa

namespace Go.Proofs.Ytplminnejheceaa
namespace Kv
open Go.RowKit Go.Lib Pg
attribute [local go_sem] Oper.semAt_some
set_option maxHeartbeats 2000000 in
set_option maxRecDepth 100000 in
theorem does_4 {w0 w : World} {g n N q : Nat} {E : Ents} {W : List Ents} {ka va : Option Addr} {kc vc : Nat} {k v : List Int} {nm : Int} (h : KP w0 w (ZO w0) TR g E W n N q E W n) (hk : By w0 (.slice ka k.length kc) k) (hv : By w0 (.slice va v.length vc) v) (hkl : k.length ≤ 8000) (hvl : v.length ≤ 8000) (hn : n ≤ 1000000) (hN : N ≤ 100000) :
    Calls Try.prog 13 #[.pointer (some ⟨g, 0, none⟩), .pointer (some ⟨q, 0, none⟩), .agg #[.int .i64 4, .int .i64 nm, .slice ka k.length kc, .slice va v.length vc]] w (FinDo w0 g n N q) := by
  have hsz := h.size
  have hnU := hn
  have hNU := hN
  have hdp := h.depth
  have hgd := h.gd
  obtain ⟨kn, hkn⟩ : ∃ kn, Hid (k.length = kn) := ⟨_, rfl⟩
  obtain ⟨vn, hvn⟩ : ∃ vn, Hid (v.length = vn) := ⟨_, rfl⟩
  have hkl9 : k.length ≤ 1000000000 := by omega
  have hvl9 : v.length ≤ 1000000000 := by omega
  have hkl6 : k.length ≤ 1000000 := by omega
  rw [hkn.out] at hk hkl ⊢
  rw [hvn.out] at hv hvl ⊢
  have FK := hid3 (show ∀ R, Fb w0 R (.slice ka kn kc) k from fun _ => .inl hk)
  have FV := hid3 (show ∀ R, Fb w0 R (.slice va vn vc) v from fun _ => .inl hv)
  have HO := hid3 h.out
  have HB := hid3 h.bel
  have b0 := hid3 (below_alloc w (.cells #[.int .i64 4, .int .i64 nm, .slice ka kn kc, .slice va vn vc] 34))
  have x0 := hid3 (blk_new w [.int .i64 4, .int .i64 nm, .slice ka kn kc, .slice va vn vc] 34)
  have hsa := size_al w (.cells #[.int .i64 4, .int .i64 nm, .slice ka kn kc, .slice va vn vc] 34)
  have HH := hid3 h
  have HK0 := hid3 hk
  have HV0 := hid3 hv
  have hgd' := hid3 hgd
  clear h hk hv hgd
  go_enter Try.func13, Try.ntmps13
  go_wp2_with fail
  obtain ⟨wa, hwa⟩ : ∃ wa, Hid (w.alloc (.cells #[.int .i64 4, .int .i64 nm, .slice ka kn kc, .slice va vn vc] 34) = wa) := ⟨_, rfl⟩
  rw [hwa.out] at b0 x0 hsa ⊢
  have xd := hid3 (x0.out.keep (belowD' wa))
  have b0d := hid3 (joinB b0.out (belowD' wa))
  refine rg_start (S := fun u => Blk u w.heap.size [.int .i64 4, .int .i64 nm, .slice ka kn kc, .slice va vn vc] 34) (by kernel_rfl) xd.out ?_
  refine rg_take 0 (some 18) (.pointer (some ⟨w.heap.size, 2, none⟩)) (by kernel_rfl) (fun _ _ => by kernel_rfl) (fun _ _ _ h => h) xd.out ?_
  refine rg_load 1 (some 19) (.slice ka kn kc) 32 18 w.heap.size 2 (by kernel_rfl) (by kernel_rfl) (by kernel_rfl) (fun u h => ld_8 (h.cell (i := 2) rfl)) (fun _ _ _ h => h) xd.out ?_
  refine rg_take 3 (some 21) (.pointer (some ⟨w.heap.size, 3, none⟩)) (by kernel_rfl) (fun _ _ => by kernel_rfl) (fun _ _ _ h => h) xd.out ?_
  refine rg_load 4 (some 22) (.slice va vn vc) 32 21 w.heap.size 3 (by kernel_rfl) (by kernel_rfl) (by kernel_rfl) (fun u h => ld_8 (h.cell (i := 3) rfl)) (fun _ _ _ h => h) xd.out ?_
  refine rg_call 2 (some 20) 32 #[.slice ka kn kc] (by kernel_rfl) (by kernel_rfl) (copyBytes_any ((HK0.out.keep HB.out).keep b0d.out) hkl9) ?_
  rintro e' w1 ⟨v1, rfl, O1, B1⟩
  obtain ⟨a1, d1, rfl⟩ := O1.shape
  rw [hkn.out] at O1 ⊢
  refine ⟨_, rfl, xd.out.keep B1, ?_⟩
  refine rg_call 5 (some 23) 32 #[.slice va vn vc] (by kernel_rfl) (by kernel_rfl) (copyBytes_any (((HV0.out.keep HB.out).keep b0d.out).keep B1) hvl9) ?_
  rintro e' w2 ⟨v2, rfl, O2, B2⟩
  obtain ⟨a2, d2, rfl⟩ := O2.shape
  rw [hvn.out] at O2 ⊢
  have BB := joinB (joinB b0d.out B1) B2
  have X2 := hid3 ((xd.out.keep B1).keep B2)
  have OK := hid3 (show OB w2 (fun b => w.heap.size ≤ b ∧ b < w1.heap.size) (.slice a1 kn d1) k from ((O1.mono (fun b hb h => (⟨by have : wa.heap.size ≤ b := h; omega, hb⟩ : w.heap.size ≤ b ∧ b < w1.heap.size))).keep B2))
  have OV := hid3 (show OB w2 (fun b => w1.heap.size ≤ b ∧ b < w2.heap.size) (.slice a2 vn d2) v from O2.mono (fun b hb h => ⟨h, hb⟩))
  have hu1 : w.heap.size ≤ w1.heap.size := (joinB b0d.out B1).size
  have hu2 : w1.heap.size ≤ w2.heap.size := B2.size
  refine ⟨_, rfl, X2.out, ?_⟩
  refine rg_take 6 (some 7) (.slice a1 kn d1) (by kernel_rfl) (fun _ _ => by kernel_rfl) (fun _ _ _ h => h) X2.out ?_
  refine rg_take 7 (some 8) (.slice a2 vn d2) (by kernel_rfl) (fun _ _ => by kernel_rfl) (fun _ _ _ h => h) X2.out ?_
  refine rg_done (by kernel_rfl) ?_
  simp only [Act.put, List.setIfInBounds_toArray, List.set_cons_zero, List.set_cons_succ]
  have H2 := HH.out.hole0 BB
  have FK2 := hid3 (show Fb w0 (hr TR w w2) (.slice a1 kn d1) k from .inr (fun u hu => (hu.2.ob OK.out (fun b hb => hb.1)).by))
  have FV2 := hid3 (show Fb w0 (hr TR w w2) (.slice a2 vn d2) v from .inr (fun u hu => (hu.2.ob OV.out (fun b hb => by omega)).by))
  have c0 := X2.out.cell (i := 0) rfl
  have c1 := X2.out.cell (i := 1) rfl
  have c2 := X2.out.cell (i := 2) rfl
  clear O1 O2 B1 B2 xd b0 b0d x0
  go_wp2_with first
    | (go_at_call 28; have gate := H2; clear gate; obtain ⟨r, hre⟩ : ∃ r, Hid ((look E k).isSome = r) := ⟨_, rfl⟩; obtain ⟨gl, hgl⟩ : ∃ gl, Hid ((look E k).getD [] = gl) := ⟨_, rfl⟩; have HO2 := hid3 H2.out; go_must (refine (pget H2 FK2.out (by omega) (by omega) hre.out hgl.out).mono ?_); rintro e' w3 ⟨v3, rfl, O3, G3⟩; obtain ⟨b3, e3, rfl⟩ := O3.shape; clear H2; have c3 := (G3.fr.1.2.blk X2.out (Nat.le_refl _)).cell (i := 2) rfl; have hgs := small_look hgd'.out k; rw [hgl.out] at hgs; replace O3 := hid3 O3)
    | (go_at_call 35; have gate := G3; clear gate; go_must (refine (prget G3 (FK.out _) hkl9 (by omega) (by omega) hre.out hgl.out).mono ?_); rintro e' w4 ⟨v4, rfl, Y4, G4⟩; clear G3; obtain ⟨b4, e4, rfl, -⟩ := id Y4.ex; replace Y4 := hid3 Y4)
    | (go_at_call 23; have gate := G4; clear gate; go_must (refine (pbytes G4 (G4.fr.2.ob O3.out (fun b hb => hb.1)).by Y4.out rfl hgs).mono ?_); rintro e' w5 ⟨rfl, G5⟩; clear G4)
    | (go_at_call 36; have gate := G5; clear gate; go_must (refine (spoil_any (G5.fr.2.ob O3.out (fun b hb => hb.1)) hgs).mono ?_); rintro e' w6 ⟨rfl, T6⟩; have H4 := G5.give HO2.out (T6.chg.mono (fun b _ hb => hb.1)); clear G5; have c2' := (H4.xs X2.out (Nat.le_refl _)).cell (i := 2) rfl)
    | (go_at_call 23; have gate := H5; clear gate; go_must (refine (pbytes H5 (H5.bys FV2.out) (H5.bys (FV.out _)) rfl hvl9).mono ?_); rintro e' w6 ⟨rfl, H6⟩; clear H5)
    | (go_at_call 23; have gate := H4; clear gate; go_must (refine (pbytes H4 (H4.bys FK2.out) (H4.bys (FK.out _)) rfl hkl9).mono ?_); rintro e' w5 ⟨rfl, H5⟩; clear H4; have cv := (H5.xs X2.out (Nat.le_refl _)).cell (i := 3) rfl)
    | (go_at_call 36; have gate := S7; clear gate; go_must (refine (spoil_any (OV7 : OB w7 (fun b => w1.heap.size ≤ b ∧ b < w2.heap.size) _ v) hvl9).mono ?_); rintro e' w8 ⟨rfl, S8⟩)
    | (go_at_call 36; have gate := H6; clear gate; go_must (refine (spoil_any (H6.fr.2.ob OK.out (fun b hb => hb.1)) hkl9).mono ?_); rintro e' w7 ⟨rfl, S7⟩; have OV7 := (H6.fr.2.ob OV.out (fun b hb => by omega)).same (fun b hb hd => S7.chg.same b hb (fun hh => by have := hh.1.2; omega)))
  go_ret
  exact ⟨rfl, _, _, _, _, H6.ends2 HO.out hu1 hu2 S7 S8, by omega, by omega⟩
set_option maxHeartbeats 2000000 in
set_option maxRecDepth 100000 in
theorem does_6 {w0 w : World} {g n N q : Nat} {E : Ents} {W : List Ents} {ka va : Option Addr} {kc vc : Nat} {k v : List Int} {nm : Int} (h : KP w0 w (ZO w0) TR g E W n N q E W n) (hk : By w0 (.slice ka k.length kc) k) (hv : By w0 (.slice va v.length vc) v) (hkl : k.length ≤ 8000) (hvl : v.length ≤ 8000) (hn : n ≤ 1000000) (hN : N ≤ 100000) :
    Calls Try.prog 13 #[.pointer (some ⟨g, 0, none⟩), .pointer (some ⟨q, 0, none⟩), .agg #[.int .i64 6, .int .i64 nm, .slice ka k.length kc, .slice va v.length vc]] w (FinDo w0 g n N q) := by
  have hsz := h.size
  have hnU := hn
  have hNU := hN
  have hdp := h.depth
  have hgd := h.gd
  obtain ⟨kn, hkn⟩ : ∃ kn, Hid (k.length = kn) := ⟨_, rfl⟩
  obtain ⟨vn, hvn⟩ : ∃ vn, Hid (v.length = vn) := ⟨_, rfl⟩
  have hkl9 : k.length ≤ 1000000000 := by omega
  have hvl9 : v.length ≤ 1000000000 := by omega
  have hkl6 : k.length ≤ 1000000 := by omega
  rw [hkn.out] at hk hkl ⊢
  rw [hvn.out] at hv hvl ⊢
  have FK := hid3 (show ∀ R, Fb w0 R (.slice ka kn kc) k from fun _ => .inl hk)
  have FV := hid3 (show ∀ R, Fb w0 R (.slice va vn vc) v from fun _ => .inl hv)
  have HO := hid3 h.out
  have HB := hid3 h.bel
  have b0 := hid3 (below_alloc w (.cells #[.int .i64 6, .int .i64 nm, .slice ka kn kc, .slice va vn vc] 34))
  have x0 := hid3 (blk_new w [.int .i64 6, .int .i64 nm, .slice ka kn kc, .slice va vn vc] 34)
  have hsa := size_al w (.cells #[.int .i64 6, .int .i64 nm, .slice ka kn kc, .slice va vn vc] 34)
  have HH := hid3 h
  have HK0 := hid3 hk
  have HV0 := hid3 hv
  have hgd' := hid3 hgd
  clear h hk hv hgd
  go_enter Try.func13, Try.ntmps13
  go_wp2_with fail
  obtain ⟨wa, hwa⟩ : ∃ wa, Hid (w.alloc (.cells #[.int .i64 6, .int .i64 nm, .slice ka kn kc, .slice va vn vc] 34) = wa) := ⟨_, rfl⟩
  rw [hwa.out] at b0 x0 hsa ⊢
  have xd := hid3 (x0.out.keep (belowD' wa))
  have b0d := hid3 (joinB b0.out (belowD' wa))
  refine rg_start (S := fun u => Blk u w.heap.size [.int .i64 6, .int .i64 nm, .slice ka kn kc, .slice va vn vc] 34) (by kernel_rfl) xd.out ?_
  refine rg_take 0 (some 18) (.pointer (some ⟨w.heap.size, 2, none⟩)) (by kernel_rfl) (fun _ _ => by kernel_rfl) (fun _ _ _ h => h) xd.out ?_
  refine rg_load 1 (some 19) (.slice ka kn kc) 32 18 w.heap.size 2 (by kernel_rfl) (by kernel_rfl) (by kernel_rfl) (fun u h => ld_8 (h.cell (i := 2) rfl)) (fun _ _ _ h => h) xd.out ?_
  refine rg_take 3 (some 21) (.pointer (some ⟨w.heap.size, 3, none⟩)) (by kernel_rfl) (fun _ _ => by kernel_rfl) (fun _ _ _ h => h) xd.out ?_
  refine rg_load 4 (some 22) (.slice va vn vc) 32 21 w.heap.size 3 (by kernel_rfl) (by kernel_rfl) (by kernel_rfl) (fun u h => ld_8 (h.cell (i := 3) rfl)) (fun _ _ _ h => h) xd.out ?_
  refine rg_call 2 (some 20) 32 #[.slice ka kn kc] (by kernel_rfl) (by kernel_rfl) (copyBytes_any ((HK0.out.keep HB.out).keep b0d.out) hkl9) ?_
  rintro e' w1 ⟨v1, rfl, O1, B1⟩
  obtain ⟨a1, d1, rfl⟩ := O1.shape
  rw [hkn.out] at O1 ⊢
  refine ⟨_, rfl, xd.out.keep B1, ?_⟩
  refine rg_call 5 (some 23) 32 #[.slice va vn vc] (by kernel_rfl) (by kernel_rfl) (copyBytes_any (((HV0.out.keep HB.out).keep b0d.out).keep B1) hvl9) ?_
  rintro e' w2 ⟨v2, rfl, O2, B2⟩
  obtain ⟨a2, d2, rfl⟩ := O2.shape
  rw [hvn.out] at O2 ⊢
  have BB := joinB (joinB b0d.out B1) B2
  have X2 := hid3 ((xd.out.keep B1).keep B2)
  have OK := hid3 (show OB w2 (fun b => w.heap.size ≤ b ∧ b < w1.heap.size) (.slice a1 kn d1) k from ((O1.mono (fun b hb h => (⟨by have : wa.heap.size ≤ b := h; omega, hb⟩ : w.heap.size ≤ b ∧ b < w1.heap.size))).keep B2))
  have OV := hid3 (show OB w2 (fun b => w1.heap.size ≤ b ∧ b < w2.heap.size) (.slice a2 vn d2) v from O2.mono (fun b hb h => ⟨h, hb⟩))
  have hu1 : w.heap.size ≤ w1.heap.size := (joinB b0d.out B1).size
  have hu2 : w1.heap.size ≤ w2.heap.size := B2.size
  refine ⟨_, rfl, X2.out, ?_⟩
  refine rg_take 6 (some 7) (.slice a1 kn d1) (by kernel_rfl) (fun _ _ => by kernel_rfl) (fun _ _ _ h => h) X2.out ?_
  refine rg_take 7 (some 8) (.slice a2 vn d2) (by kernel_rfl) (fun _ _ => by kernel_rfl) (fun _ _ _ h => h) X2.out ?_
  refine rg_done (by kernel_rfl) ?_
  simp only [Act.put, List.setIfInBounds_toArray, List.set_cons_zero, List.set_cons_succ]
  have H2 := HH.out.hole0 BB
  have FK2 := hid3 (show Fb w0 (hr TR w w2) (.slice a1 kn d1) k from .inr (fun u hu => (hu.2.ob OK.out (fun b hb => hb.1)).by))
  have FV2 := hid3 (show Fb w0 (hr TR w w2) (.slice a2 vn d2) v from .inr (fun u hu => (hu.2.ob OV.out (fun b hb => by omega)).by))
  have c0 := X2.out.cell (i := 0) rfl
  have c1 := X2.out.cell (i := 1) rfl
  have c2 := X2.out.cell (i := 2) rfl
  clear O1 O2 B1 B2 xd b0 b0d x0
  go_wp2_with first
    | (go_at_call 37; go_must (refine (place_by nm 30 (by decide) (by decide) _).mono ?_); rintro e' w9 ⟨m, hm, rfl, e9⟩; replace e9 := e9.symm; subst e9)
  have em : ((m + 1 : Nat) : Int) = 1 + (m : Int) := by omega
  have H2d' := H2.drew
  have H2d := hid3 (H2d'.xs X2.out (Nat.le_refl _))
  refine rg_start (S := fun u => Blk u w.heap.size [.int .i64 6, .int .i64 nm, .slice ka kn kc, .slice va vn vc] 34) (by kernel_rfl) H2d.out ?_
  refine rg_take 0 (some 96) (.pointer (some ⟨g, 0, none⟩)) (by kernel_rfl) (fun _ _ => by kernel_rfl) (fun _ _ _ h => h) H2d.out ?_
  refine rg_take 1 (some 97) (.slice a1 kn d1) (by kernel_rfl) (fun _ _ => by kernel_rfl) (fun _ _ _ h => h) H2d.out ?_
  refine rg_take 2 (some 98) (.slice a2 vn d2) (by kernel_rfl) (fun _ _ => by kernel_rfl) (fun _ _ _ h => h) H2d.out ?_
  refine rg_take 4 (some 100) (.int .i64 (1 + (m : Int))) (by kernel_rfl) (fun _ _ => by kernel_rfl) (fun _ _ _ h => h) H2d.out ?_
  refine rg_take 6 (some 102) (.pointer (some ⟨q, 0, none⟩)) (by kernel_rfl) (fun _ _ => by kernel_rfl) (fun _ _ _ h => h) H2d.out ?_
  refine rg_take 7 (some 103) (.pointer (some ⟨w.heap.size, 2, none⟩)) (by kernel_rfl) (fun _ _ => by kernel_rfl) (fun _ _ _ h => h) H2d.out ?_
  refine rg_load 8 (some 104) (.slice ka kn kc) 32 103 w.heap.size 2 (by kernel_rfl) (by kernel_rfl) (by kernel_rfl) (fun u h => ld_8 (h.cell (i := 2) rfl)) (fun _ _ _ h => h) H2d.out ?_
  refine rg_take 9 (some 105) (.pointer (some ⟨w.heap.size, 3, none⟩)) (by kernel_rfl) (fun _ _ => by kernel_rfl) (fun _ _ _ h => h) H2d.out ?_
  refine rg_load 10 (some 106) (.slice va vn vc) 32 105 w.heap.size 3 (by kernel_rfl) (by kernel_rfl) (by kernel_rfl) (fun u h => ld_8 (h.cell (i := 3) rfl)) (fun _ _ _ h => h) H2d.out ?_
  refine rg_take 11 (some 107) (.int .i64 (1 + (m : Int))) (by kernel_rfl) (fun _ _ => by kernel_rfl) (fun _ _ _ h => h) H2d.out ?_
  refine rg_call 3 (some 99) 26 #[.pointer (some ⟨g, 0, none⟩), .slice a1 kn d1, .slice a2 vn d2] (by kernel_rfl) (by kernel_rfl) (pwalk H2d' (by omega) FK2.out FV2.out hkl9 hvl9) ?_
  rintro e' w3 ⟨v3, EL, rfl, I3, hF3, H3⟩
  have U3 := ptaken (m := m + 1) H3 I3 hF3 (by omega) (by omega) (by have := List.length_filter_le (abtw k v) E; omega)
  rw [em] at U3
  have HO3 := hid3 H3.out
  refine ⟨_, rfl, (H3.xs X2.out (Nat.le_refl _)), ?_⟩
  refine rg_call 5 (some 101) 24 #[v3, .int .i64 (1 + (m : Int))] (by kernel_rfl) (by kernel_rfl) (U3) ?_
  rintro e' w4 ⟨v4, es4, rfl, P4, he4, H4'⟩
  have U4 := prwalk (most := m + 1) H4' (FK.out _) (FV.out _) hkl9 hvl9 (by omega) (by omega) (by omega)
  rw [em] at U4
  refine ⟨_, rfl, (H4'.fr.1.2.blk X2.out (Nat.le_refl _)), ?_⟩
  refine rg_call 12 (some 108) 38 #[.pointer (some ⟨q, 0, none⟩), .slice ka kn kc, .slice va vn vc, .int .i64 (1 + (m : Int))] (by kernel_rfl) (by kernel_rfl) (U4) ?_
  rintro e' w5 ⟨v5, es5, rfl, P5, he5, H5'⟩
  refine ⟨_, rfl, (H5'.fr.1.2.blk X2.out (Nat.le_refl _)), ?_⟩
  refine rg_call 13 (some 109) 14 #[v4, v5] (by kernel_rfl) (by kernel_rfl) (ppairs H5' P4 he4 P5 he5 (by have := List.length_take_le (m + 1) (E.filter (abtw k v)); omega) (fun x hx => hgd'.out.2 x (List.mem_filter.1 (List.mem_of_mem_take hx)).1) HO3.out) ?_
  rintro e' w6 ⟨rfl, H4⟩
  refine ⟨_, rfl, (H4.xs X2.out (Nat.le_refl _)), ?_⟩
  refine rg_take 14 (some 9) (.bool true) (by kernel_rfl) (fun _ _ => by kernel_rfl) (fun _ _ _ h => h) (H4.xs X2.out (Nat.le_refl _)) ?_
  refine rg_done (by kernel_rfl) ?_
  replace c2 := (H4.xs X2.out (Nat.le_refl _)).cell (i := 2) rfl
  have hlt := List.length_take_le (m + 1) (E.filter (abtw k v))
  clear H4' H5' H3 H2d' P4 P5 I3 U3 U4
  simp only [Act.put, List.setIfInBounds_toArray, List.set_cons_zero, List.set_cons_succ]
  go_wp2_with first
    | (go_at_call 23; have gate := H5; clear gate; go_must (refine (pbytes H5 (H5.bys FV2.out) (H5.bys (FV.out _)) rfl hvl9).mono ?_); rintro e' w6 ⟨rfl, H6⟩; clear H5)
    | (go_at_call 23; have gate := H4; clear gate; go_must (refine (pbytes H4 (H4.bys FK2.out) (H4.bys (FK.out _)) rfl hkl9).mono ?_); rintro e' w5 ⟨rfl, H5⟩; clear H4; have cv := (H5.xs X2.out (Nat.le_refl _)).cell (i := 3) rfl)
    | (go_at_call 36; have gate := S7; clear gate; go_must (refine (spoil_any (OV7 : OB w7 (fun b => w1.heap.size ≤ b ∧ b < w2.heap.size) _ v) hvl9).mono ?_); rintro e' w8 ⟨rfl, S8⟩)
    | (go_at_call 36; have gate := H6; clear gate; go_must (refine (spoil_any (H6.fr.2.ob OK.out (fun b hb => hb.1)) hkl9).mono ?_); rintro e' w7 ⟨rfl, S7⟩; have OV7 := (H6.fr.2.ob OV.out (fun b hb => by omega)).same (fun b hb hd => S7.chg.same b hb (fun hh => by have := hh.1.2; omega)))
  go_ret
  exact ⟨rfl, _, _, _, _, H6.ends2 HO.out hu1 hu2 S7 S8, by omega, by omega⟩
set_option maxHeartbeats 2000000 in
set_option maxRecDepth 100000 in
theorem does_7 {w0 w : World} {g n N q : Nat} {E : Ents} {W : List Ents} {ka va : Option Addr} {kc vc : Nat} {k v : List Int} {nm : Int} (h : KP w0 w (ZO w0) TR g E W n N q E W n) (hk : By w0 (.slice ka k.length kc) k) (hv : By w0 (.slice va v.length vc) v) (hkl : k.length ≤ 8000) (hvl : v.length ≤ 8000) (hn : n ≤ 1000000) (hN : N ≤ 100000) :
    Calls Try.prog 13 #[.pointer (some ⟨g, 0, none⟩), .pointer (some ⟨q, 0, none⟩), .agg #[.int .i64 7, .int .i64 nm, .slice ka k.length kc, .slice va v.length vc]] w (FinDo w0 g n N q) := by
  have hsz := h.size
  have hnU := hn
  have hNU := hN
  have hdp := h.depth
  have hgd := h.gd
  obtain ⟨kn, hkn⟩ : ∃ kn, Hid (k.length = kn) := ⟨_, rfl⟩
  obtain ⟨vn, hvn⟩ : ∃ vn, Hid (v.length = vn) := ⟨_, rfl⟩
  have hkl9 : k.length ≤ 1000000000 := by omega
  have hvl9 : v.length ≤ 1000000000 := by omega
  have hkl6 : k.length ≤ 1000000 := by omega
  rw [hkn.out] at hk hkl ⊢
  rw [hvn.out] at hv hvl ⊢
  have FK := hid3 (show ∀ R, Fb w0 R (.slice ka kn kc) k from fun _ => .inl hk)
  have FV := hid3 (show ∀ R, Fb w0 R (.slice va vn vc) v from fun _ => .inl hv)
  have HO := hid3 h.out
  have HB := hid3 h.bel
  have b0 := hid3 (below_alloc w (.cells #[.int .i64 7, .int .i64 nm, .slice ka kn kc, .slice va vn vc] 34))
  have x0 := hid3 (blk_new w [.int .i64 7, .int .i64 nm, .slice ka kn kc, .slice va vn vc] 34)
  have hsa := size_al w (.cells #[.int .i64 7, .int .i64 nm, .slice ka kn kc, .slice va vn vc] 34)
  have HH := hid3 h
  have HK0 := hid3 hk
  have HV0 := hid3 hv
  have hgd' := hid3 hgd
  clear h hk hv hgd
  go_enter Try.func13, Try.ntmps13
  go_wp2_with fail
  obtain ⟨wa, hwa⟩ : ∃ wa, Hid (w.alloc (.cells #[.int .i64 7, .int .i64 nm, .slice ka kn kc, .slice va vn vc] 34) = wa) := ⟨_, rfl⟩
  rw [hwa.out] at b0 x0 hsa ⊢
  have xd := hid3 (x0.out.keep (belowD' wa))
  have b0d := hid3 (joinB b0.out (belowD' wa))
  refine rg_start (S := fun u => Blk u w.heap.size [.int .i64 7, .int .i64 nm, .slice ka kn kc, .slice va vn vc] 34) (by kernel_rfl) xd.out ?_
  refine rg_take 0 (some 18) (.pointer (some ⟨w.heap.size, 2, none⟩)) (by kernel_rfl) (fun _ _ => by kernel_rfl) (fun _ _ _ h => h) xd.out ?_
  refine rg_load 1 (some 19) (.slice ka kn kc) 32 18 w.heap.size 2 (by kernel_rfl) (by kernel_rfl) (by kernel_rfl) (fun u h => ld_8 (h.cell (i := 2) rfl)) (fun _ _ _ h => h) xd.out ?_
  refine rg_take 3 (some 21) (.pointer (some ⟨w.heap.size, 3, none⟩)) (by kernel_rfl) (fun _ _ => by kernel_rfl) (fun _ _ _ h => h) xd.out ?_
  refine rg_load 4 (some 22) (.slice va vn vc) 32 21 w.heap.size 3 (by kernel_rfl) (by kernel_rfl) (by kernel_rfl) (fun u h => ld_8 (h.cell (i := 3) rfl)) (fun _ _ _ h => h) xd.out ?_
  refine rg_call 2 (some 20) 32 #[.slice ka kn kc] (by kernel_rfl) (by kernel_rfl) (copyBytes_any ((HK0.out.keep HB.out).keep b0d.out) hkl9) ?_
  rintro e' w1 ⟨v1, rfl, O1, B1⟩
  obtain ⟨a1, d1, rfl⟩ := O1.shape
  rw [hkn.out] at O1 ⊢
  refine ⟨_, rfl, xd.out.keep B1, ?_⟩
  refine rg_call 5 (some 23) 32 #[.slice va vn vc] (by kernel_rfl) (by kernel_rfl) (copyBytes_any (((HV0.out.keep HB.out).keep b0d.out).keep B1) hvl9) ?_
  rintro e' w2 ⟨v2, rfl, O2, B2⟩
  obtain ⟨a2, d2, rfl⟩ := O2.shape
  rw [hvn.out] at O2 ⊢
  have BB := joinB (joinB b0d.out B1) B2
  have X2 := hid3 ((xd.out.keep B1).keep B2)
  have OK := hid3 (show OB w2 (fun b => w.heap.size ≤ b ∧ b < w1.heap.size) (.slice a1 kn d1) k from ((O1.mono (fun b hb h => (⟨by have : wa.heap.size ≤ b := h; omega, hb⟩ : w.heap.size ≤ b ∧ b < w1.heap.size))).keep B2))
  have OV := hid3 (show OB w2 (fun b => w1.heap.size ≤ b ∧ b < w2.heap.size) (.slice a2 vn d2) v from O2.mono (fun b hb h => ⟨h, hb⟩))
  have hu1 : w.heap.size ≤ w1.heap.size := (joinB b0d.out B1).size
  have hu2 : w1.heap.size ≤ w2.heap.size := B2.size
  refine ⟨_, rfl, X2.out, ?_⟩
  refine rg_take 6 (some 7) (.slice a1 kn d1) (by kernel_rfl) (fun _ _ => by kernel_rfl) (fun _ _ _ h => h) X2.out ?_
  refine rg_take 7 (some 8) (.slice a2 vn d2) (by kernel_rfl) (fun _ _ => by kernel_rfl) (fun _ _ _ h => h) X2.out ?_
  refine rg_done (by kernel_rfl) ?_
  simp only [Act.put, List.setIfInBounds_toArray, List.set_cons_zero, List.set_cons_succ]
  have H2 := HH.out.hole0 BB
  have FK2 := hid3 (show Fb w0 (hr TR w w2) (.slice a1 kn d1) k from .inr (fun u hu => (hu.2.ob OK.out (fun b hb => hb.1)).by))
  have FV2 := hid3 (show Fb w0 (hr TR w w2) (.slice a2 vn d2) v from .inr (fun u hu => (hu.2.ob OV.out (fun b hb => by omega)).by))
  have c0 := X2.out.cell (i := 0) rfl
  have c1 := X2.out.cell (i := 1) rfl
  have c2 := X2.out.cell (i := 2) rfl
  clear O1 O2 B1 B2 xd b0 b0d x0
  go_wp2_with first
    | (go_at_call 37; go_must (refine (place_by nm 30 (by decide) (by decide) _).mono ?_); rintro e' w9 ⟨m, hm, rfl, e9⟩; replace e9 := e9.symm; subst e9)
  have em : ((m + 1 : Nat) : Int) = 1 + (m : Int) := by omega
  have H2d' := H2.drew
  have H2d := hid3 (H2d'.xs X2.out (Nat.le_refl _))
  refine rg_start (S := fun u => Blk u w.heap.size [.int .i64 7, .int .i64 nm, .slice ka kn kc, .slice va vn vc] 34) (by kernel_rfl) H2d.out ?_
  refine rg_take 0 (some 116) (.pointer (some ⟨g, 0, none⟩)) (by kernel_rfl) (fun _ _ => by kernel_rfl) (fun _ _ _ h => h) H2d.out ?_
  refine rg_take 1 (some 117) (.slice a1 kn d1) (by kernel_rfl) (fun _ _ => by kernel_rfl) (fun _ _ _ h => h) H2d.out ?_
  refine rg_take 3 (some 119) (.int .i64 (1 + (m : Int))) (by kernel_rfl) (fun _ _ => by kernel_rfl) (fun _ _ _ h => h) H2d.out ?_
  refine rg_take 5 (some 121) (.pointer (some ⟨q, 0, none⟩)) (by kernel_rfl) (fun _ _ => by kernel_rfl) (fun _ _ _ h => h) H2d.out ?_
  refine rg_take 6 (some 122) (.pointer (some ⟨w.heap.size, 2, none⟩)) (by kernel_rfl) (fun _ _ => by kernel_rfl) (fun _ _ _ h => h) H2d.out ?_
  refine rg_load 7 (some 123) (.slice ka kn kc) 32 122 w.heap.size 2 (by kernel_rfl) (by kernel_rfl) (by kernel_rfl) (fun u h => ld_8 (h.cell (i := 2) rfl)) (fun _ _ _ h => h) H2d.out ?_
  refine rg_take 8 (some 124) (.int .i64 (1 + (m : Int))) (by kernel_rfl) (fun _ _ => by kernel_rfl) (fun _ _ _ h => h) H2d.out ?_
  refine rg_call 2 (some 118) 25 #[.pointer (some ⟨g, 0, none⟩), .slice a1 kn d1] (by kernel_rfl) (by kernel_rfl) (pprefix H2d' (by omega) FK2.out hkl6) ?_
  rintro e' w3 ⟨v3, EL, rfl, I3, hF3, H3⟩
  have U3 := ptaken (m := m + 1) H3 I3 hF3 (by omega) (by omega) (by have := List.length_filter_le (fun x => decide (k <+: x.1)) E; omega)
  rw [em] at U3
  have HO3 := hid3 H3.out
  refine ⟨_, rfl, (H3.xs X2.out (Nat.le_refl _)), ?_⟩
  refine rg_call 4 (some 120) 24 #[v3, .int .i64 (1 + (m : Int))] (by kernel_rfl) (by kernel_rfl) (U3) ?_
  rintro e' w4 ⟨v4, es4, rfl, P4, he4, H4'⟩
  have U4 := prprefix (most := m + 1) H4' (FK.out _) hkl9 (by omega) (by omega) (by omega)
  rw [em] at U4
  refine ⟨_, rfl, (H4'.fr.1.2.blk X2.out (Nat.le_refl _)), ?_⟩
  refine rg_call 9 (some 125) 39 #[.pointer (some ⟨q, 0, none⟩), .slice ka kn kc, .int .i64 (1 + (m : Int))] (by kernel_rfl) (by kernel_rfl) (U4) ?_
  rintro e' w5 ⟨v5, es5, rfl, P5, he5, H5'⟩
  refine ⟨_, rfl, (H5'.fr.1.2.blk X2.out (Nat.le_refl _)), ?_⟩
  refine rg_call 10 (some 126) 14 #[v4, v5] (by kernel_rfl) (by kernel_rfl) (ppairs H5' P4 he4 P5 he5 (by have := List.length_take_le (m + 1) (E.filter (fun x => decide (k <+: x.1))); omega) (fun x hx => hgd'.out.2 x (List.mem_filter.1 (List.mem_of_mem_take hx)).1) HO3.out) ?_
  rintro e' w6 ⟨rfl, H4⟩
  refine ⟨_, rfl, (H4.xs X2.out (Nat.le_refl _)), ?_⟩
  refine rg_take 11 (some 9) (.bool true) (by kernel_rfl) (fun _ _ => by kernel_rfl) (fun _ _ _ h => h) (H4.xs X2.out (Nat.le_refl _)) ?_
  refine rg_done (by kernel_rfl) ?_
  replace c2 := (H4.xs X2.out (Nat.le_refl _)).cell (i := 2) rfl
  have hlt := List.length_take_le (m + 1) (E.filter (fun x => decide (k <+: x.1)))
  clear H4' H5' H3 H2d' P4 P5 I3 U3 U4
  simp only [Act.put, List.setIfInBounds_toArray, List.set_cons_zero, List.set_cons_succ]
  go_wp2_with first
    | (go_at_call 23; have gate := H5; clear gate; go_must (refine (pbytes H5 (H5.bys FV2.out) (H5.bys (FV.out _)) rfl hvl9).mono ?_); rintro e' w6 ⟨rfl, H6⟩; clear H5)
    | (go_at_call 23; have gate := H4; clear gate; go_must (refine (pbytes H4 (H4.bys FK2.out) (H4.bys (FK.out _)) rfl hkl9).mono ?_); rintro e' w5 ⟨rfl, H5⟩; clear H4; have cv := (H5.xs X2.out (Nat.le_refl _)).cell (i := 3) rfl)
    | (go_at_call 36; have gate := S7; clear gate; go_must (refine (spoil_any (OV7 : OB w7 (fun b => w1.heap.size ≤ b ∧ b < w2.heap.size) _ v) hvl9).mono ?_); rintro e' w8 ⟨rfl, S8⟩)
    | (go_at_call 36; have gate := H6; clear gate; go_must (refine (spoil_any (H6.fr.2.ob OK.out (fun b hb => hb.1)) hkl9).mono ?_); rintro e' w7 ⟨rfl, S7⟩; have OV7 := (H6.fr.2.ob OV.out (fun b hb => by omega)).same (fun b hb hd => S7.chg.same b hb (fun hh => by have := hh.1.2; omega)))
  go_ret
  exact ⟨rfl, _, _, _, _, H6.ends2 HO.out hu1 hu2 S7 S8, by omega, by omega⟩
end Kv
end Go.Proofs.Ytplminnejheceaa

namespace Go.Proofs.Ytplminnejheceaa
namespace Kv
open Go.RowKit Go.Lib Pg
attribute [local go_sem] Oper.semAt_some
theorem does_any {w0 w : World} {g n N q : Nat} {E : Ents} {W : List Ents} {ka va : Option Addr} {kc vc : Nat} {k v : List Int} {wh nm : Int} (h : KP w0 w (ZO w0) TR g E W n N q E W n) (hk : By w0 (.slice ka k.length kc) k) (hv : By w0 (.slice va v.length vc) v) (hkl : k.length ≤ 8000) (hvl : v.length ≤ 8000) (hn : n ≤ 1000000) (hN : N ≤ 100000) :
    Calls Try.prog 13 #[.pointer (some ⟨g, 0, none⟩), .pointer (some ⟨q, 0, none⟩), .agg #[.int .i64 wh, .int .i64 nm, .slice ka k.length kc, .slice va v.length vc]] w (FinDo w0 g n N q) := by
  by_cases h0 : wh = 0
  · subst h0; exact does_0 h hk hv hkl hvl hn hN
  by_cases h1 : wh = 1
  · subst h1; exact does_1 h hk hv hkl hvl hn hN
  by_cases h2 : wh = 2
  · subst h2; exact does_2 h hk hv hkl hvl hn hN
  by_cases h3 : wh = 3
  · subst h3; exact does_3 h hk hv hkl hvl hn hN
  by_cases h4 : wh = 4
  · subst h4; exact does_4 h hk hv hkl hvl hn hN
  by_cases h5 : wh = 5
  · subst h5; exact does_5 h hk hv hkl hvl hn hN
  by_cases h6 : wh = 6
  · subst h6; exact does_6 h hk hv hkl hvl hn hN
  by_cases h7 : wh = 7
  · subst h7; exact does_7 h hk hv hkl hvl hn hN
  by_cases h8 : wh = 8
  · subst h8; exact does_8 h hk hv hkl hvl hn hN
  by_cases h9 : wh = 9
  · subst h9; exact does_9 h hk hv hkl hvl hn hN
  by_cases h10 : wh = 10
  · subst h10; exact does_10 h hk hv hkl hvl hn hN
  exact does_else h hk hv hkl hvl hn hN h0 h1 h2 h3 h4 h5 h6 h7 h8 h9 h10
theorem WsA.none (w : World) (z X : Nat → Prop) : WsA w z X (.slice Option.none 0 0) [] := ⟨.inl ⟨rfl, rfl⟩⟩
/-- both are made -/
theorem KP.start {w0 w w1 : World} {K : Nat → Prop} {g : Nat} (hb : Below w0.heap.size w0 w) (S : SA w1 K (fun _ => False) g [] [] 0 0) (hK : ∀ b, K b → w.heap.size ≤ b) (B : Below w.heap.size w w1) : KP w0 (w1.alloc (.cells #[.slice none 0 0, .slice none 0 0, .int .i64 0] 31)) (ZO w0) TR g [] [] 0 0 w1.heap.size [] [] 0 := by
  have al := below_alloc w1 (.cells #[.slice none 0 0, .slice none 0 0, .int .i64 0] 31)
  have nb := blk_new w1 [.slice none 0 0, .slice none 0 0, .int .i64 0] 31
  have hs := size_al w1 (.cells #[.slice none 0 0, .slice none 0 0, .int .i64 0] 31)
  have h0 := hb.size
  have h1 := B.size
  refine ⟨K, fun b => b = w1.heap.size, (S.keep al).mono (fun _ _ h => h.elim), ⟨⟨_, _, nb, ⟨⟨[], Pq.nil _ _ _, rfl⟩, fun b m c e => by cases e⟩, WsA.none _ _ _⟩, rfl, fun b hx => ⟨?_, ?_⟩, List.Pairwise.nil, (fun x hx => by cases hx)⟩, fun b hk => ⟨?_, fun e => ?_⟩, (fun F hF => by cases hF), trivial, fun _ _ _ _ => trivial, fun b hz => hz, fun b hb => ?_, hb.trans ((joinB B al).mono h0)⟩
  · show w0.heap.size ≤ b
    have hx' : b = w1.heap.size := hx
    omega
  · have hx' : b = w1.heap.size := hx
    omega
  · show w0.heap.size ≤ b
    have := hK b hk
    omega
  · have e' : b = w1.heap.size := e
    have := S.lt hk
    omega
  · show w0.heap.size ≤ b
    omega
/-- a copy of either -/
theorem KPK.fresh {w0 w wf : World} {Z : Nat → Prop} {R : World → Prop} {K X K' : Nat → Prop} {g g' q' : Nat} {E : Ents} {W : List Ents} {n N q : Nat} {E2 : Ents} {W2 : List Ents} {n2 : Nat} {lv wv : Value} {es : List En} (h : KPK w0 w Z R K X g E W n N q E2 W2 n2) (ro : RO w Z X q lv wv es W2 n2) (he : es.map En.kl2 = E2) (S : SA wf K' Z g' E [] 0 N) (hK : ∀ b, K' b → w.heap.size ≤ b ∧ b ≠ q') (hq : Blk wf q' [lv, .slice none 0 0, .int .i64 (0 : Nat)] 31) (hqn : w.heap.size ≤ q') (B : Below w.heap.size w wf) : KP w0 wf Z R g' E [] 0 N q' E2 [] 0 := by
  have h' := h.keep B
  have r' := ro.keep B
  refine ⟨K', fun b => X b ∨ b = q', S, ⟨⟨_, _, hq, ⟨⟨es, r'.row, he⟩, fun b m c e => .inl (r'.blk b m c e)⟩, WsA.none _ _ _⟩, .inr rfl, fun b hx => ?_, h.rs.rise, h.rs.small⟩, fun b hk => ⟨h.zn b (hK b hk).1, fun hx => ?_⟩, (fun F hF => by cases hF), h'.fr, h'.st, h'.zz, h'.zn, h'.bel⟩
  · rcases hx with hx | rfl
    · exact r'.xz b hx
    · exact ⟨h.zn _ hqn, hq.lt⟩
  · rcases hx with hx | hx
    · have := (h.xz hx).2
      have := (hK b hk).1
      omega
    · exact (hK b hk).2 hx
end Kv
end Go.Proofs.Ytplminnejheceaa
