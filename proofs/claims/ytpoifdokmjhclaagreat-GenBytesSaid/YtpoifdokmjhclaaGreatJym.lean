/- Several texts, joined: BkA. -/
import Derived.Test.YtpoifdokmjhclaaGreatJyi
import Derived.Test.YtpoifdokmjhclaaGreatJyj
import Derived.Test.YtpoifdokmjhclaaGreatJyk
import Derived.Test.YtpoifdokmjhclaaGreatJyl
namespace Go.Proofs.YtpoifdokmjhclaaGreat
namespace Bk
open Go.RowKit Go.Lib Pg Lim Gl Kv
/-- the store, its blocks and bytes from B on -/
structure Sx (B : Nat) (w : World) (K : Nat → Prop) (g : Nat) (E : Ents) (W : List Ents) (n N : Nat) : Prop where
  sa : SA w K (B ≤ ·) g E W n N
  lo : B ≤ w.heap.size
  kb : ∀ b, K b → B ≤ b
/-- what an operation leaves -/
structure SxE (B : Nat) (w : World) (K : Nat → Prop) (g : Nat) (E : Ents) (W : List Ents) (n N : Nat) (r : Value) (e : Ending) (w' : World) : Prop where
  ret : e = .returned r
  ex : ∃ K', Sx B w' K' g E W n N ∧ (∀ b, K' b → K b ∨ w.heap.size ≤ b) ∧ Chg K w w'
/-- the same, the counts bounded -/
structure SxF (B : Nat) (w : World) (K : Nat → Prop) (g : Nat) (E : Ents) (W : List Ents) (n N : Nat) (r : Value) (e : Ending) (w' : World) : Prop where
  ret : e = .returned r
  ex : ∃ K' n' N', Sx B w' K' g E W n' N' ∧ n' ≤ n + 10 ∧ N' ≤ N + 10 ∧ (∀ b, K' b → K b ∨ w.heap.size ≤ b) ∧ Chg K w w'
/-- from a first world on -/
structure At (B : Nat) (w0 : World) (K0 : Nat → Prop) (w : World) (K : Nat → Prop) (g : Nat) (E : Ents) (W : List Ents) (n N : Nat) : Prop where
  sx : Sx B w K g E W n N
  km : ∀ b, K b → K0 b ∨ w0.heap.size ≤ b
  cc : Chg K0 w0 w
section
variable {B : Nat} {w0 w w' : World} {K0 K K' : Nat → Prop} {g : Nat} {E E' : Ents} {W W' : List Ents} {n N n' N' : Nat}
theorem Sx.at (h : Sx B w K g E W n N) : At B w K w K g E W n N := ⟨h, fun _ h => .inl h, Chg.refl _ _⟩
theorem Sx.keep (h : Sx B w K g E W n N) (b : Below w.heap.size w w') : Sx B w' K g E W n N := ⟨h.sa.keep b, Nat.le_trans h.lo b.size, h.kb⟩
theorem At.keep (h : At B w0 K0 w K g E W n N) (b : Below w.heap.size w w') : At B w0 K0 w' K g E W n N := ⟨h.sx.keep b, h.km, h.cc.trans (Chg.of (F := fun _ => False) b) (fun _ _ h => h.elim)⟩
theorem At.drew (h : At B w0 K0 w K g E W n N) : At B w0 K0 w.drew K g E W n N := h.keep (Below.refl _ _).drew
theorem At.lt (h : At B w0 K0 w K g E W n N) {b : Nat} (hb : K b) : b < w.heap.size := h.sx.sa.lt hb
theorem At.size (h : At B w0 K0 w K g E W n N) : w0.heap.size ≤ w.heap.size := h.cc.size
/-- a variable of the walk's own is written -/
theorem At.cell {x : Nat} {cs : List Value} {t : TypeId} (h : At B w0 K0 w K g E W n N) (X : Blk w x cs t) (C : Chg (· = x) w w') (hx : w0.heap.size ≤ x) (hk : ¬ K x) (ht : t ≠ 5) : At B w0 K0 w' K g E W n N := by
  refine ⟨⟨h.sx.sa.chg C (fun b e hb => hk ((show b = x from e) ▸ hb)) (fun b e cs' k => ?_), Nat.le_trans h.sx.lo C.size, h.sx.kb⟩, h.km, h.cc.trans C (fun b hb e => by have e' : b = x := e; omega)⟩
  have e' : b = x := e
  subst e'
  exact ht (X.eq k).2
theorem At.op (h : At B w0 K0 w K g E W n N) (hs : Sx B w' K' g E' W' n' N') (hK : ∀ b, K' b → K b ∨ w.heap.size ≤ b) (hc : Chg K w w') : At B w0 K0 w' K' g E' W' n' N' :=
  ⟨hs, fun b hb => (hK b hb).elim (h.km b) (fun h2 => .inr (Nat.le_trans h.cc.size h2)), h.cc.trans hc (fun b hb hk => (h.km b hk).elim id (fun h2 => by omega))⟩
theorem not_op {x : Nat} {cs : List Value} {t : TypeId} (X : Blk w x cs t) (hn : ¬ K x) (hK : ∀ b, K' b → K b ∨ w.heap.size ≤ b) : ¬ K' x := fun h => (hK x h).elim hn (fun h2 => by have := X.lt; omega)
theorem At.new {x : Nat} (h : At B w0 K0 w K g E W n N) (hx : w.heap.size ≤ x) : ¬ K x := fun hk => by have := h.lt hk; omega
theorem At.byu {v : Value} {l : List Int} (h : At B w0 K0 w K g E W n N) (hv : ByU w v l) (C : Chg K w w') : ByU w' v l := hv.chg C h.sx.sa.kind
theorem byu_keep {v : Value} {l : List Int} (h : ByU w v l) (b : Below w.heap.size w w') : ByU w' v l := h.chg (K := fun _ => False) (Chg.of b) (fun _ h => h.elim)
theorem byu_cell {x : Nat} {cs : List Value} {t : TypeId} {v : Value} {l : List Int} (h : ByU w v l) (X : Blk w x cs t) (C : Chg (· = x) w w') (ht : t ≠ 5) : ByU w' v l := h.chg C (fun b e => ⟨cs, t, by have e' : b = x := e; subst e'; exact X, ht⟩)
theorem Sx.bk {v : Value} {l : List Int} (h : Sx B w K g E W n N) (hv : ByU w v l) : BK w K v l := fun _ hc => (hv.chg hc h.sa.kind).byt
theorem Sx.ends {r : Value} {P : Nat} {args : Array Value} (h : Sx B w K g E W n N) (u : Calls Tryz.prog P args w (Kv.Ends w K (B ≤ ·) g E' W' n' N' r)) : Calls Tryz.prog P args w (SxE B w K g E' W' n' N' r) := by
  refine u.mono ?_
  rintro e w' ⟨rfl, K', hs, hK, hc⟩
  exact ⟨rfl, K', ⟨hs.mono (fun b _ hb => hb.elim id (Nat.le_trans h.lo)), Nat.le_trans h.lo hc.size, fun b hb => (hK b hb).elim (h.kb b) (Nat.le_trans h.lo)⟩, hK, hc⟩
theorem xset {kv vv : Value} {k v : List Int} (h : Sx B w K g E W n N) (hk : ByU w kv k) (hv : ByU w vv v) (hn : n ≤ 4000000000000000000) (hN : N + 2 ≤ 100000000) :
    Calls Tryz.prog 86 #[pg g, kv, vv] w (SxE B w K g (if setE k v = 0 then put E k v else E) W (n + 1) (N + 2) (.int .i64 (setE k v))) := h.ends (sset h.sa (h.bk hk) (h.bk hv) hn hN)
theorem xdel {kv : Value} {k : List Int} (h : Sx B w K g E W n N) (hk : ByU w kv k) (hkl : k.length ≤ 1000000000) (hn : n ≤ 4000000000000000000) (hN : N + 2 ≤ 100000000) :
    Calls Tryz.prog 131 #[pg g, kv] w (SxE B w K g (rem E k) W (n + 1) (N + 2) (.bool (Kv.look E k).isSome)) := h.ends (sdel h.sa (h.bk hk) hkl hn hN)
structure GetE (B : Nat) (w : World) (K : Nat → Prop) (g : Nat) (E : Ents) (W : List Ents) (n N : Nat) (k : List Int) (e : Ending) (w' : World) : Prop where
  ex : ∃ v, e = .returned (.tuple #[v, .bool (Kv.look E k).isSome]) ∧ ByU w' v ((Kv.look E k).getD []) ∧ Sx B w' K g E W n N ∧ Chg K w w'
theorem xget {kv : Value} {k : List Int} (h : Sx B w K g E W n N) (hk : ByU w kv k) (hn : n ≤ 4000000000000000000) (hN : N ≤ 100000000) :
    Calls Tryz.prog 39 #[pg g, kv] w (GetE B w K g E W (n + 1) N k) := by
  refine (sget h.sa (h.bk hk) hn hN).mono ?_
  rintro e w' ⟨v, rfl, O, S, C⟩
  exact ⟨v, rfl, ByU.of O, ⟨S, Nat.le_trans h.lo C.size, h.kb⟩, C⟩
end
/-- bytes, as enc and rec tell them -/
theorem bya {w : World} {v : Value} {l : List Int} (h : By w v l) : ∃ b ao c, v = .slice ao l.length c ∧ ByA w b ao l.length c l := by
  obtain ⟨ao, c, e, h1, h2, h3, h4, h5⟩ := h.ex
  rcases h5 with rfl | ⟨b, o, rfl, _, h6⟩
  · exact ⟨0, ao, c, e, 0, rfl, h1, ⟨h2, h3⟩, h4, .inl rfl, fun i hi => absurd hi (by simp)⟩
  · exact ⟨b, _, c, e, o, rfl, h1, ⟨h2, h3⟩, h4, .inr rfl, fun i hi => h6 i _ (by rw [nth_eq hi]; exact List.getElem?_eq_getElem hi)⟩
theorem byu_box {w : World} {b n : Nat} {l : List Int} (h : Box w b (l.map (Value.int .u8)) 5) (ho : Oct l) (hn : n = l.length) (hl : l.length ≤ 1000000) : ByU w (.slice (some ⟨b, 0, none⟩) n n) l := by
  subst hn
  refine ⟨⟨_, _, rfl, Nat.le_refl _, by omega, fun e => by simp at e, ho, .inr ⟨b, 0, rfl, h.lt, fun i x hi => ?_⟩⟩, fun b' o n' c e => ?_⟩
  · rw [Nat.zero_add]
    have e := h.blk
    simp [World.cell?, e, hi]
  · simp only [Value.slice.injEq, Option.some.injEq, Addr.mk.injEq] at e
    obtain ⟨⟨rfl, _⟩, _⟩ := e
    exact ⟨_, _, h.blk⟩
/-- where an account lies -/
def ak (id : Int) : List Int := Ky.mk 4 id 0
/-- an account's bytes -/
def pv (x y : Int) : List Int := Rc.thr (Rc.pnx (fun o => ([x, y] : List Int).getD o 0)) [(0, 0), (0, 1)] []
def coinB (l : List Int) : Int := Rc.outX (Rc.stAccount l) 0
def seqB (l : List Int) : Int := Rc.outX (Rc.stAccount l) 1
def coin (E : Ents) (id : Int) : Int := coinB ((Kv.look E (ak id)).getD [])
def seqn (E : Ents) (id : Int) : Int := seqB ((Kv.look E (ak id)).getD [])
def layE (E : Ents) (id x y : Int) : Ents := if x = 0 ∧ y = 0 then rem E (ak id) else put E (ak id) (pv x y)
abbrev isA (id : Int) : Prop := (1 ≤ id ∧ id ≤ 4) ∨ 16 ≤ id
abbrev holdsP (x k : Int) : Prop := x ≤ 1000000000000000000 ∧ k ≤ 1000000000000000000 - x
theorem ak_len (id : Int) : 0 < (ak id).length ∧ (ak id).length ≤ 18 := by
  refine ⟨?_, Ky.mk_len _ _ _⟩
  unfold ak
  rw [Ky.mk_eq (k := 4) (n := 9) (m0 := 97) (m1 := 0) rfl]
  simp
theorem pv_len (x y : Int) : (pv x y).length ≤ 600 := by have := Rc.pnx_len (fun o => ([x, y] : List Int).getD o 0) [(0, 0), (0, 1)] []; simpa [pv] using this
theorem pv_oct (x y : Int) : Oct (pv x y) := Rc.thr_oct _ _ _ (fun _ h => by simp at h)
theorem set_ok (id x y : Int) : setE (ak id) (pv x y) = 0 := by
  have h1 := ak_len id
  have h2 := pv_len x y
  unfold setE
  rw [if_neg (by omega), if_neg (by omega)]
end Bk
end Go.Proofs.YtpoifdokmjhclaaGreat
