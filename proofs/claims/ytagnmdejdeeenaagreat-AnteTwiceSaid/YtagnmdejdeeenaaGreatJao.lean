/- Several texts, joined: AnH, AnP, AnA, AnK. -/
import Derived.Test.YtagnmdejdeeenaaGreatJam
import Derived.Test.YtagnmdejdeeenaaGreatJan
namespace Go.Proofs.YtagnmdejdeeenaaGreat
namespace Bk
open Go.RowKit Go.Lib Pg Lim Gl Kv
attribute [local go_sem] Oper.semAt_some
theorem snewX {w : World} : Calls Tryz.prog 6 #[] w fun e w' => ∃ g K, e = .returned (pg g) ∧ Sx w.heap.size w' K g [] [] 0 0 ∧ (∀ b, K b → w.heap.size ≤ b) ∧ Below w.heap.size w w' := by
  refine snew.mono ?_
  rintro e w' ⟨g, K, rfl, S, hK, B⟩
  exact ⟨g, K, rfl, ⟨S.mono (fun _ _ h => h.elim), B.size, hK⟩, hK, B⟩
section
variable {B : Nat} {w : World} {K : Nat → Prop} {g : Nat} {E E' : Ents} {W : List Ents} {n N P : Nat} {args : Array Value} {r r' : Value}
theorem SxF.cast (h : Calls Tryz.prog P args w (SxF B w K g E W n N r)) (hE : E = E') (hr : r = r') : Calls Tryz.prog P args w (SxF B w K g E' W n N r') := by subst hE hr; exact h
theorem SxE.cast (h : Calls Tryz.prog P args w (SxE B w K g E W n N r)) (hr : r = r') : Calls Tryz.prog P args w (SxE B w K g E W n N r') := by subst hr; exact h
end
def U64 (x : Int) : Prop := 0 ≤ x ∧ x < 18446744073709551616
theorem ak_inj {a b : Int} (ha : U64 a) (hb : U64 b) (h : ak a = ak b) : a = b := by
  have e : ∀ c, Ky.mkE ((4 : Nat) : Int) c 0 = false := fun c => by
    unfold Ky.mkE
    rw [show (Ky.frm ((4 : Nat) : Int)).1 = 9 from rfl]
    simp
  exact (Ky.mk_inj (k := 4) (o := 4) (by decide) (by decide) (by decide) (by decide) ha (by decide) hb (by decide) (e a) (e b) h).2.1
theorem ak_pre (id : Int) : [97] <+: ak id := by
  unfold ak
  rw [Ky.mk_eq (k := 4) (n := 9) (m0 := 97) (m1 := 0) rfl]
  simp
theorem coinB_nil : coinB [] = 0 := by kernel_rfl
theorem seqB_nil : seqB [] = 0 := by kernel_rfl
/-- where the params lie -/
def pk : List Int := Ky.mk 1 0 0
theorem pk_eq : pk = [112] := by kernel_rfl
theorem ak_pk (id : Int) : ak id ≠ pk := fun e => by
  have h := ak_pre id
  rw [e, pk_eq] at h
  exact absurd h (by decide)
/-- accounts, and the params -/
def AllA (E : Ents) : Prop := ∀ e ∈ E, [97] <+: e.1 ∨ e.1 = pk
theorem AllA.lay {E : Ents} (h : AllA E) (id x y : Int) : AllA (layE E id x y) := by
  intro e he
  unfold layE at he
  split at he
  · exact h e (rem_mem he)
  · rcases put_mem he with h1 | rfl
    · exact h e h1
    · exact .inl (ak_pre id)
theorem rise_lay {E : Ents} (h : Rise E) (id x y : Int) : Rise (layE E id x y) := by
  unfold layE
  split
  · exact h.rem _
  · exact h.put _ _
section
variable {E : Ents} {id j x y : Int}
theorem look_lay (h : Rise E) (hid : U64 id) (hj : U64 j) : Kv.look (layE E id x y) (ak j) = if id = j then (if x = 0 ∧ y = 0 then none else some (pv x y)) else Kv.look E (ak j) := by
  have e : (ak id = ak j) ↔ id = j := ⟨ak_inj hid hj, fun e => by rw [e]⟩
  unfold layE
  split
  · rw [look_rem h]
    simp only [e]
  · rw [look_put h]
    simp only [e]
theorem coin_lay (h : Rise E) (hid : U64 id) (hj : U64 j) (hx : U64 x) (hy : U64 y) : coin (layE E id x y) j = if id = j then x else coin E j := by
  unfold coin
  rw [look_lay h hid hj]
  split
  · split
    · rename_i c; rw [c.1]; exact coinB_nil
    · exact (pv_back hx hy).1
  · rfl
theorem seqn_lay (h : Rise E) (hid : U64 id) (hj : U64 j) (hx : U64 x) (hy : U64 y) : seqn (layE E id x y) j = if id = j then y else seqn E j := by
  unfold seqn
  rw [look_lay h hid hj]
  split
  · split
    · rename_i c; rw [c.2]; exact seqB_nil
    · exact (pv_back hx hy).2
  · rfl
end
/-- a state of bank's -/
structure Ok (E : Ents) : Prop where
  rise : Rise E
  all : AllA E
  cr : ∀ j, U64 (coin E j)
  sr : ∀ j, U64 (seqn E j)
section
variable {E : Ents} {id a b k : Int}
theorem mint_no (h : mintR E id k ≠ 0) : mintE E id k = E := if_neg h
theorem mint_yes (h : mintR E id k = 0) : mintE E id k = layE E id (coin E id + k) (seqn E id) ∧ holdsP (coin E id) k := by
  refine ⟨if_pos h, ?_⟩
  unfold mintR at h
  by_cases h1 : isA id
  · by_cases h2 : holdsP (coin E id) k
    · exact h2
    · simp [h1, h2] at h
  · simp [h1] at h
theorem mint_all (h : AllA E) : AllA (mintE E id k) := by unfold mintE; split; exact h.lay _ _ _; exact h
theorem move_no (h : moveR E a b k ≠ 0) : moveE E a b k = E := if_neg (fun c => h c.1)
theorem move_same (h : a = b) : moveE E a b k = E := if_neg (fun c => c.2 h)
theorem move_yes (h : moveR E a b k = 0) (hab : a ≠ b) : moveE E a b k = layE (layE E a (coin E a - k) (seqn E a)) b (coin E b + k) (seqn E b) ∧ k ≤ coin E a ∧ holdsP (coin E b) k := by
  refine ⟨if_pos ⟨h, hab⟩, ?_⟩
  unfold moveR at h
  by_cases h1 : ¬ isA a ∨ ¬ isA b
  · rw [if_pos h1] at h; simp at h
  · rw [if_neg h1] at h
    by_cases h2 : coin E a < k
    · rw [if_pos h2] at h; simp at h
    · rw [if_neg h2, if_neg hab] at h
      by_cases h3 : holdsP (coin E b) k
      · exact ⟨by omega, h3⟩
      · rw [if_pos h3] at h; simp at h
theorem move_all (h : AllA E) : AllA (moveE E a b k) := by unfold moveE; split; exact (h.lay _ _ _).lay _ _ _; exact h
theorem bump_no (h : bumpR id ≠ 0) : bumpE E id = E := by
  unfold bumpR at h
  unfold bumpE
  by_cases h1 : isA id
  · simp [h1] at h
  · rw [if_neg h1]
theorem bump_all (h : AllA E) : AllA (bumpE E id) := by unfold bumpE; split; exact h.lay _ _ _; exact h
theorem bump_yes (h : bumpR id = 0) : bumpE E id = layE E id (coin E id) ((seqn E id + 1) % 18446744073709551616) := by
  unfold bumpR at h
  unfold bumpE
  by_cases h1 : isA id
  · rw [if_pos h1]
  · simp [h1] at h
theorem mod_u (z : Int) : U64 (z % 18446744073709551616) := ⟨Int.emod_nonneg _ (by decide), Int.emod_lt_of_pos _ (by decide)⟩
end
/-- what was laid between two worlds stays -/
def Ext (a : Nat) (w2 V : World) : Prop := (∀ b, a ≤ b → b < w2.heap.size → V.heap[b]? = w2.heap[b]?) ∧ w2.heap.size ≤ V.heap.size
theorem Ext.keep {a : Nat} {w2 V V' : World} (h : Ext a w2 V) (hb : Below V.heap.size V V') : Ext a w2 V' :=
  ⟨fun b h1 h2 => (hb.block b (Nat.lt_of_lt_of_le h2 h.2)).trans (h.1 b h1 h2), Nat.le_trans h.2 hb.size⟩
theorem cellB {w W : World} {b o : Nat} {v : Value} (B : Below w.heap.size w W) (h : w.cell? ⟨b, o, none⟩ = some v) : W.cell? ⟨b, o, none⟩ = some v := by
  rw [World.cell?_of_block (w := w) (B.block b (cell_lt h))]; exact h
theorem run_ixa {P : Program} {ρ : Operand → Value} {o : Oper} {w : World} {ao : Option Addr} (sz b off n c k : Nat) (hk : k < n) (hao : 0 < n → ao = some ⟨b, off, none⟩) (ho : ∃ T x y, o.op = .indexAddr T x y ∧ slT P T sz = true ∧ ρ x = .slice ao n c ∧ ρ y = .int .i64 (k : Int) := by exact ⟨_, _, _, rfl, by kernel_rfl, by kernel_rfl, by kernel_rfl⟩) : (execOp ρ o).run P w = .ok (.value (.pointer (some ⟨b, off + k * sz, none⟩))) w := by
  rw [hao (by omega)] at ho
  exact run_ixs sz b off n c k hk ho
theorem belowO {w V V' : World} {K : Nat → Prop} (h : Below w.heap.size w V) (hC : Chg K V V') (hk : ∀ b, K b → w.heap.size ≤ b) : Below w.heap.size w V' :=
  ((Chg.of (F := fun _ => False) h).trans hC (fun b hl hb => by have := hk b hb; omega)).nothing
/-- what was laid from n0 on up to wz lies beside the store's blocks K, and lies there still -/
structure Zn (K : Nat → Prop) (n0 : Nat) (wz V : World) : Prop where
  ext : Ext n0 wz V
  off : ∀ b, n0 ≤ b → b < wz.heap.size → ¬ K b
section
variable {K K' : Nat → Prop} {n0 : Nat} {wz V V' : World}
theorem Zn.keep (h : Zn K n0 wz V) (hb : Below V.heap.size V V') : Zn K n0 wz V' := ⟨h.ext.keep hb, h.off⟩
theorem Zn.drew (h : Zn K n0 wz V) : Zn K n0 wz V.drew := h.keep (Below.refl _ _).drew
theorem Zn.cell {x : Nat} (h : Zn K n0 wz V) (C : Chg (· = x) V V') (hx : x < n0 ∨ wz.heap.size ≤ x) : Zn K n0 wz V' :=
  ⟨⟨fun b h1 h2 => (C.same b (Nat.lt_of_lt_of_le h2 h.ext.2) (fun e => by have e' : b = x := e; omega)).trans (h.ext.1 b h1 h2), Nat.le_trans h.ext.2 C.size⟩, h.off⟩
theorem Zn.op (h : Zn K n0 wz V) (hC : Chg K V V') (hK : ∀ b, K' b → K b ∨ V.heap.size ≤ b) : Zn K' n0 wz V' :=
  ⟨⟨fun b h1 h2 => (hC.same b (Nat.lt_of_lt_of_le h2 h.ext.2) (h.off b h1 h2)).trans (h.ext.1 b h1 h2), Nat.le_trans h.ext.2 hC.size⟩, fun b h1 h2 hk => (hK b hk).elim (h.off b h1 h2) (fun h3 => by have := h.ext.2; omega)⟩
theorem zn_new (_hb : Below V.heap.size V V') (hk : ∀ b, K b → b < V.heap.size) : Zn K V.heap.size V' V' := ⟨⟨fun _ _ _ => rfl, Nat.le_refl _⟩, fun b h1 _ hb2 => by have := hk b hb2; omega⟩
theorem Zn.prs {v : Value} {es : List En} (h : Zn K n0 wz V) (hp : PrA wz n0 v es) : PrA V n0 v es :=
  ⟨hp.ex.imp id (fun ⟨b, c, e, hl, hR⟩ => ⟨b, c, e, hl, hR.same (h.ext.1 b hl hR.lt)⟩), fun e he => (hp.ents e he).same fun b h1 h2 => h.ext.1 b h2 h1⟩
end
section
variable {B : Nat} {w : World} {K : Nat → Prop} {g : Nat} {E : Ents} {W : List Ents} {n N : Nat}
theorem Sx.ok (h : Sx B w K g E W n N) (ha : AllA E) : Ok E := ⟨h.sa.rise, ha, h.crng, h.srng⟩
theorem dumpZ (h : Sx B w K g E W n N) (hN : N ≤ 100000000) : Calls Tryz.prog 14 #[pg g] w fun e w' => ∃ v es, e = .returned v ∧ PrA w' w.heap.size v es ∧ es.map En.kl2 = E ∧ Zn K w.heap.size w' w' ∧ Below w.heap.size w w' := by
  refine (sdump h.sa hN).mono ?_
  rintro e w' ⟨v, es, rfl, P, he, B⟩
  exact ⟨v, es, rfl, P, he, zn_new B (fun b hb => h.sa.lt hb), B⟩
theorem pairsT {n1 n2 : Nat} {E2 : Ents} {u v : Value} {a b : List En} (h : Sx B w K g E W n N) (hN : N ≤ 100000000) (ha : PrA w n1 u a) (hb : PrA w n2 v b) (ea : a.map En.kl2 = E) (eb : b.map En.kl2 = E2) (e : E2 = E) : Calls Tryz.prog 13 #[u, v] w fun e w' => e = .returned (.bool true) ∧ Below w.heap.size w w' := by
  subst e
  refine pairs_same ha hb (ea.trans eb.symm) (fun x hx => ?_) ?_
  · exact h.sa.small (x.kl, x.vl) (by rw [← ea]; exact List.mem_map.2 ⟨x, hx, rfl⟩)
  · have h1 := h.sa.size
    rw [← ea, List.length_map] at h1
    omega
end
theorem run_nq {ρ : Operand → Value} {w : World} {o : Oper} {x y x' y' : Int} (h1 : x = x') (h2 : y = y') (ho : ∃ u v, o.op = .binOp .neq 52 u v 52 ∧ ρ u = .agg #[.int .u64 x, .int .u64 y] ∧ ρ v = .agg #[.int .u64 x', .int .u64 y'] := by exact ⟨_, _, rfl, by kernel_rfl, by kernel_rfl⟩) : (execOp ρ o).run Tryz.prog w = .ok (.value (.bool false)) w := by
  obtain ⟨u, v, h, e1, e2⟩ := ho
  subst h1 h2
  simp only [execOp, h, e1, e2]
  go_simp
theorem look_cons (x : KV) (E : Ents) (k : List Int) : Kv.look (x :: E) k = if x.1 = k then some x.2 else Kv.look E k := by
  unfold Kv.look
  rw [List.find?_cons]
  by_cases h : x.1 = k <;> simp [h]
theorem rise_ext : ∀ {E F : Ents}, Rise E → Rise F → (∀ k, Kv.look E k = Kv.look F k) → E = F
  | [], [], _, _, _ => rfl
  | [], y :: F, _, _, h => by
    have := h y.1
    rw [look_cons, if_pos rfl] at this
    exact absurd this (by simp [Kv.look])
  | x :: E, [], _, _, h => by
    have := h x.1
    rw [look_cons, if_pos rfl] at this
    exact absurd this (by simp [Kv.look])
  | x :: E, y :: F, hE, hF, h => by
    unfold Rise at hE hF
    rw [List.pairwise_cons] at hE hF
    have nE : ∀ k, ¬ Lt x.1 k → Kv.look E k = none := fun k hk => look_no (fun z hz e => hk (e ▸ hE.1 z hz))
    have nF : ∀ k, ¬ Lt y.1 k → Kv.look F k = none := fun k hk => look_no (fun z hz e => hk (e ▸ hF.1 z hz))
    have key : x.1 = y.1 := by
      rcases lt_tri x.1 y.1 with hl | he | hg
      · have q := h x.1
        rw [look_cons, if_pos rfl, look_cons, if_neg (fun e => by rw [e] at hl; exact lt_irrefl _ hl), nF x.1 hl.not] at q
        cases q
      · exact he
      · have q := h y.1
        rw [look_cons y, if_pos rfl, look_cons, if_neg (fun e => by rw [e] at hg; exact lt_irrefl _ hg), nE y.1 hg.not] at q
        cases q
    have val : x.2 = y.2 := by
      have q := h x.1
      rw [look_cons, if_pos rfl, look_cons, if_pos key.symm] at q
      exact Option.some.inj q
    have tail : E = F := rise_ext hE.2 hF.2 (fun k => by
      have q := h k
      rw [look_cons, look_cons, ← key] at q
      by_cases e : x.1 = k
      · subst e
        rw [nE x.1 (lt_irrefl _), nF x.1 (by rw [key]; exact lt_irrefl _)]
      · rwa [if_neg e, if_neg e] at q)
    rw [tail, Prod.ext key val]
/-- what an account's key holds -/
def ent (x y : Int) : Option (List Int) := if x = 0 ∧ y = 0 then none else some (pv x y)
theorem lay_look {E : Ents} (h : Rise E) (id x y : Int) (k : List Int) : Kv.look (layE E id x y) k = if ak id = k then ent x y else Kv.look E k := by
  unfold layE ent
  split
  · rw [look_rem h]
  · rw [look_put h]
/-- accounts are spelled in one way, and hold no more than the bound -/
structure Can (E : Ents) : Prop where
  ok : Ok E
  one : ∀ j, U64 j → Kv.look E (ak j) = ent (coin E j) (seqn E j)
  cap : ∀ j, U64 j → coin E j ≤ 1000000000000000000
theorem can_nil : Can [] := by
  have c : ∀ j, coin [] j = 0 := fun j => coinB_nil
  have s : ∀ j, seqn [] j = 0 := fun j => seqB_nil
  refine ⟨⟨List.Pairwise.nil, fun e h => by simp at h, fun j => by rw [c]; exact ⟨by decide, by decide⟩, fun j => by rw [s]; exact ⟨by decide, by decide⟩⟩, fun j _ => ?_, fun j _ => by rw [c]; decide⟩
  rw [c, s]
  rfl
theorem can_lay {E : Ents} {id x y : Int} (h : Can E) (ho : Ok (layE E id x y)) (hid : U64 id) (hx : U64 x) (hy : U64 y) (hm : x ≤ 1000000000000000000) : Can (layE E id x y) := by
  refine ⟨ho, fun j hj => ?_, fun j hj => ?_⟩
  · rw [coin_lay h.ok.rise hid hj hx hy, seqn_lay h.ok.rise hid hj hx hy, lay_look h.ok.rise]
    by_cases e : id = j
    · subst e
      rw [if_pos rfl, if_pos rfl, if_pos rfl]
    · rw [if_neg e, if_neg e, if_neg (fun q => e (ak_inj hid hj q)), h.one j hj]
  · rw [coin_lay h.ok.rise hid hj hx hy]
    split
    · exact hm
    · exact h.cap j hj
theorem can_mint {E : Ents} {id k : Int} (h : Can E) (ho : Ok (mintE E id k)) (hid : U64 id) (hk : U64 k) : Can (mintE E id k) := by
  by_cases e : mintR E id k = 0
  · obtain ⟨q, hh⟩ := mint_yes e
    rw [q] at ho ⊢
    have c := h.ok.cr id
    unfold holdsP at hh
    exact can_lay h ho hid (by unfold U64 at *; omega) (h.ok.sr id) (by omega)
  · rw [mint_no e]
    exact h
theorem ld_u {w : World} {g o : Nat} {v : Value} (c : w.cell? ⟨g, o, none⟩ = some v) : (loadVar 22 ⟨g, o, none⟩).run Tryz.prog w = .ok v w := by go_simp
theorem run_ldu {ρ : Operand → Value} {o : Oper} {w : World} {b off : Nat} {v : Value} (hc : w.cell? ⟨b, off, none⟩ = some v) (ho : ∃ p, o.op = .load 22 p ∧ ρ p = .pointer (some ⟨b, off, none⟩) := by exact ⟨_, rfl, by kernel_rfl⟩) : (execOp ρ o).run Tryz.prog w = .ok (.value v) w := by
  obtain ⟨p, h, hp⟩ := ho
  have := ld_u hc
  simp only [execOp, h, hp]
  simp [Instr.loadAt, Instr.sureAddr, Result.andThen, this]
end Bk
end Go.Proofs.YtagnmdejdeeenaaGreat

namespace Go.Proofs.YtagnmdejdeeenaaGreat
namespace Bk
open Go.RowKit Go.Lib Pg Lim Gl Kv
def pfs : List (Nat × Nat) := [(0, 0), (0, 1), (0, 2), (0, 3), (0, 4), (0, 5), (0, 6), (0, 7), (0, 8), (0, 9)]
/-- the bytes of params with this fee, all else zero -/
def ppv (f : Int) : List Int := Rc.thr (Rc.pnx (fun o => ([0, 0, 0, 0, 0, 0, 0, 0, f, 0] : List Int).getD o 0)) pfs []
def got (E : Ents) (k : List Int) : List Int := (Kv.look E k).getD []
def pm (l : List Int) (i : Nat) : Int := Rc.outX (Rc.stParams l) i
def feeB (l : List Int) : Int := pm l 8
/-- the params' fee -/
def fee (E : Ents) : Int := feeB (got E pk)
theorem ppv_len (f : Int) : (ppv f).length ≤ 3000 := by have := Rc.pnx_len (fun o => ([0, 0, 0, 0, 0, 0, 0, 0, f, 0] : List Int).getD o 0) pfs []; simpa [ppv, pfs] using this
theorem ppv_oct (f : Int) : Oct (ppv f) := Rc.thr_oct _ _ _ (fun _ h => by simp at h)
theorem pk_set (f : Int) : setE pk (ppv f) = 0 := by
  have h2 := ppv_len f
  unfold setE
  rw [pk_eq, if_neg (by simp), if_neg (by omega)]
theorem feeB_nil : feeB [] = 0 := by kernel_rfl
theorem fee_back {f : Int} (hf : U64 f) : feeB (ppv f) = f := by
  obtain ⟨ys, h1, h2⟩ := Rc.thr_back (fun o => ([0, 0, 0, 0, 0, 0, 0, 0, f, 0] : List Int).getD o 0) pfs [] (fun _ => 0) (by decide) (by
    intro p hp
    simp only [pfs, List.mem_cons, List.not_mem_nil, or_false] at hp
    rcases hp with rfl | rfl | rfl | rfl | rfl | rfl | rfl | rfl | rfl | rfl
    all_goals first | exact (show U64 0 from ⟨by decide, by decide⟩) | exact hf)
  rw [List.append_nil] at h1
  have e : Rc.stParams (ppv f) = (0, [], ys) := h1
  unfold feeB pm
  rw [e]
  have a := h2.1 (0, 8) (by simp [pfs])
  exact a
theorem fee_put {E : Ents} {f : Int} (h : Rise E) (hf : U64 f) : fee (put E pk (ppv f)) = f := by
  unfold fee got
  rw [look_put h, if_pos rfl]
  exact fee_back hf
/-- what an operation leaves, its counts bounded -/
structure SxG (B : Nat) (w : World) (K : Nat → Prop) (g : Nat) (E : Ents) (W : List Ents) (n N : Nat) (r : Value) (e : Ending) (w' : World) : Prop where
  ret : e = .returned r
  ex : ∃ K' n' N', Sx B w' K' g E W n' N' ∧ n' ≤ n + 30 ∧ N' ≤ N + 30 ∧ (∀ b, K' b → K b ∨ w.heap.size ≤ b) ∧ Chg K w w'
/-- what admission answers, and what it leaves -/
def admR (E : Ents) (s q f : Int) : Int := if s < 16 then 180 else if f < fee E then 181 else if coin E s < f then 182 else if ¬ q = seqn E s then 183 else moveR E s 1 f
def admE (E : Ents) (s q f : Int) : Ents := if admR E s q f = 0 then bumpE (moveE E s 1 f) s else E
section
variable {E : Ents} {id x y s q f k : Int}
theorem fee_lay (h : Rise E) : fee (layE E id x y) = fee E := by
  unfold fee got
  rw [lay_look h, if_neg (ak_pk id)]
theorem fee_mint (h : Rise E) : fee (mintE E id k) = fee E := by
  unfold mintE
  split
  · exact fee_lay h
  · rfl
/-- what is asked of an offer -/
def rfR (s q f z x y : Int) : Int := if s < 16 then 180 else if f < z then 181 else if x < f then 182 else if ¬ q = y then 183 else 0
theorem adm_rf (h : rfR s q f (fee E) (coin E s) (seqn E s) ≠ 0) : admR E s q f = rfR s q f (fee E) (coin E s) (seqn E s) := by
  unfold admR rfR at *
  split
  · rfl
  split
  · rfl
  split
  · rfl
  split
  · rfl
  · simp_all
theorem adm_mv (h : rfR s q f (fee E) (coin E s) (seqn E s) = 0) : admR E s q f = moveR E s 1 f ∧ 16 ≤ s := by
  unfold rfR at h
  by_cases h1 : s < 16
  · rw [if_pos h1] at h; cases h
  rw [if_neg h1] at h
  by_cases h2 : f < fee E
  · rw [if_pos h2] at h; cases h
  rw [if_neg h2] at h
  by_cases h3 : coin E s < f
  · rw [if_pos h3] at h; cases h
  rw [if_neg h3] at h
  by_cases h4 : ¬ q = seqn E s
  · rw [if_pos h4] at h; cases h
  unfold admR
  rw [if_neg h1, if_neg h2, if_neg h3, if_neg h4]
  exact ⟨rfl, by omega⟩
theorem adm_no (h : admR E s q f ≠ 0) : admE E s q f = E := if_neg h
theorem u1 : U64 1 := ⟨by decide, by decide⟩
theorem adm_is (h : admR E s q f = 0) : 16 ≤ s ∧ fee E ≤ f ∧ f ≤ coin E s ∧ q = seqn E s ∧ moveR E s 1 f = 0 := by
  unfold admR at h
  by_cases h1 : s < 16
  · rw [if_pos h1] at h; simp at h
  rw [if_neg h1] at h
  by_cases h2 : f < fee E
  · rw [if_pos h2] at h; simp at h
  rw [if_neg h2] at h
  by_cases h3 : coin E s < f
  · rw [if_pos h3] at h; simp at h
  rw [if_neg h3] at h
  by_cases h4 : q = seqn E s
  · rw [if_neg (by simp [h4])] at h
    exact ⟨by omega, by omega, by omega, h4, h⟩
  · rw [if_pos h4] at h; simp at h
/-- what is admitted -/
theorem adm_at (o : Ok E) (hs : U64 s) (hf : U64 f) (h : admR E s q f = 0) : coin (admE E s q f) s = coin E s - f ∧ seqn (admE E s q f) s = (seqn E s + 1) % 18446744073709551616 ∧ coin (admE E s q f) 1 = coin E 1 + f ∧ seqn (admE E s q f) 1 = seqn E 1 ∧ coin E 1 + f ≤ 1000000000000000000 ∧ fee (admE E s q f) = fee E := by
  obtain ⟨h1, h2, h3, h4, h5⟩ := adm_is h
  have hs1 : s ≠ 1 := by omega
  obtain ⟨e, k1, k2⟩ := move_yes h5 hs1
  unfold holdsP at k2
  have ca := o.cr s
  have cb := o.cr 1
  have x1 : U64 (coin E s - f) := by unfold U64 at *; omega
  have x2 : U64 (coin E 1 + f) := by unfold U64 at *; omega
  have r1 := rise_lay o.rise s (coin E s - f) (seqn E s)
  have r2 := rise_lay r1 1 (coin E 1 + f) (seqn E 1)
  have ns : ¬ (1 : Int) = s := fun z => hs1 z.symm
  have cs : coin (moveE E s 1 f) s = coin E s - f := by rw [e, coin_lay r1 u1 hs x2 (o.sr 1), if_neg ns, coin_lay o.rise hs hs x1 (o.sr s), if_pos rfl]
  have ss : seqn (moveE E s 1 f) s = seqn E s := by rw [e, seqn_lay r1 u1 hs x2 (o.sr 1), if_neg ns, seqn_lay o.rise hs hs x1 (o.sr s), if_pos rfl]
  have c1 : coin (moveE E s 1 f) 1 = coin E 1 + f := by rw [e, coin_lay r1 u1 u1 x2 (o.sr 1), if_pos rfl]
  have s1 : seqn (moveE E s 1 f) 1 = seqn E 1 := by rw [e, seqn_lay r1 u1 u1 x2 (o.sr 1), if_pos rfl]
  have rm : Rise (moveE E s 1 f) := by rw [e]; exact r2
  have fm : fee (moveE E s 1 f) = fee E := by rw [e, fee_lay r1, fee_lay o.rise]
  have eE : admE E s q f = layE (moveE E s 1 f) s (coin E s - f) ((seqn E s + 1) % 18446744073709551616) := by
    unfold admE
    rw [if_pos h, bump_yes (by unfold bumpR isA; rw [if_neg (by simp; omega)]), cs, ss]
  rw [eE]
  refine ⟨?_, ?_, ?_, ?_, by omega, ?_⟩
  · rw [coin_lay rm hs hs x1 (mod_u _), if_pos rfl]
  · rw [seqn_lay rm hs hs x1 (mod_u _), if_pos rfl]
  · rw [coin_lay rm hs u1 x1 (mod_u _), if_neg hs1, c1]
  · rw [seqn_lay rm hs u1 x1 (mod_u _), if_neg hs1, s1]
  · rw [fee_lay rm, fm]
theorem adm_fee (o : Ok E) (hs : U64 s) (hf : U64 f) : fee (admE E s q f) = fee E := by
  by_cases h : admR E s q f = 0
  · exact (adm_at o hs hf h).2.2.2.2.2
  · rw [adm_no h]
/-- not twice -/
theorem adm_twice (o : Ok E) (hs : U64 s) (hf : U64 f) (h : admR E s q f = 0) : admR (admE E s q f) s q f ≠ 0 := by
  intro h2
  have a := (adm_at o hs hf h).2.1
  have b := (adm_is h).2.2.2.1
  have c := (adm_is h2).2.2.2.1
  have d := o.sr s
  rw [a] at c
  unfold U64 at d
  omega
theorem adm_all (h : AllA E) : AllA (admE E s q f) := by
  unfold admE
  split
  · exact bump_all (move_all h)
  · exact h
end
end Bk
end Go.Proofs.YtagnmdejdeeenaaGreat

namespace Go.Proofs.YtagnmdejdeeenaaGreat
namespace Bk
open Go.RowKit Go.Lib Pg Lim Gl Kv
attribute [local go_sem] Oper.semAt_some
set_option maxRecDepth 100000
set_option linter.unusedSimpArgs false
set_option linter.unusedVariables false
set_option maxHeartbeats 2000000
theorem pkE : Ky.mkE 1 0 0 = false := by kernel_rfl
theorem mk_pk {w : World} : Calls Tryz.prog 45 #[.agg #[.int .i64 1, .int .u64 0, .int .u64 0]] w fun e w' => ∃ v, e = .returned (.tuple #[v, .int .i64 0]) ∧ ByU w' v pk ∧ Below w.heap.size w w' := by
  have u := Ky.make_any (w := w) (k := 1) (a := 0) (b := 0) (by decide) (by decide)
  rw [pkE] at u
  refine u.mono ?_
  rintro e w' ⟨v, rfl, O, B⟩
  exact ⟨v, rfl, ByU.of O, B⟩
theorem skey {w : World} : Calls Tryz.prog 18 #[.int .i64 1, .int .u64 0, .int .u64 0] w fun e w' => ∃ v, e = .returned v ∧ ByU w' v pk ∧ Below w.heap.size w w' := by
  have BB := Below.refl w.heap.size w
  refine gc_enter (n := 18) Tryz.func18 rfl (by kernel_rfl) (by kernel_rfl) ?_
  refine gc_seq ?_
  refine gc_reg ?_
  refine t 6 (.slice none 0 0) ?_
  refine gl_nil ?_
  refine ge_then ?_
  refine gc_seq ?_
  refine gc_reg ?_
  refine t 10 (.int .i64 1) ?_
  refine t 11 (.int .u64 0) ?_
  refine t 12 (.int .u64 0) ?_
  refine t 13 (.agg #[.int .i64 1, .int .u64 0, .int .u64 0]) ?_
  refine tc 14 45 #[.agg #[.int .i64 1, .int .u64 0, .int .u64 0]] (mk_pk) ?_
  rintro _ v1 ⟨v0, rfl, U0, B⟩
  refine ⟨_, rfl, ?_⟩
  replace BB := joinB BB B
  clear B
  refine t 9 (.tuple #[v0, .int .i64 0]) ?_
  refine t 15 (v0) ?_
  refine t 16 (.int .i64 0) ?_
  refine t 7 (v0) ?_
  refine t 8 (.int .i64 0) ?_
  refine gl_nil ?_
  refine ge_then ?_
  refine gc_fr [(6, .slice none 0 0), (7, v0)] (by kernel_rfl) ?_
  refine gc_seq ?_
  refine gc_reg ?_
  refine t 17 (v0) ?_
  refine t 6 (v0) ?_
  refine gl_nil ?_
  refine ge_then ?_
  refine gc_ret ?_
  refine ge_ret (v0) (rs1 6 (by kernel_rfl) (by kernel_rfl)) ?_
  exact ⟨_, rfl, U0, BB⟩
theorem par_rd {w : World} {v : Value} {l : List Int} (h : ByU w v l) (hl : l.length ≤ 1000000000) : Calls Tryz.prog 101 #[v] w fun e w' => e = .returned (.tuple #[.agg #[.int .u64 (pm l 0), .int .u64 (pm l 1), .int .u64 (pm l 2), .int .u64 (pm l 3), .int .u64 (pm l 4), .int .u64 (pm l 5), .int .u64 (pm l 6), .int .u64 (pm l 7), .int .u64 (pm l 8), .int .u64 (pm l 9)], .int .i64 (Rc.outR (Rc.stParams l))]) ∧ Below w.heap.size w w' := by
  obtain ⟨b, ao, c, rfl, h2⟩ := bya h.byt
  exact Rc.oParams h2 hl
theorem put_par {w : World} {f : Int} : Calls Tryz.prog 19 #[.agg #[.int .u64 0, .int .u64 0, .int .u64 0, .int .u64 0, .int .u64 0, .int .u64 0, .int .u64 0, .int .u64 0, .int .u64 f, .int .u64 0]] w fun e w' => ∃ v, e = .returned v ∧ ByU w' v (ppv f) ∧ Below w.heap.size w w' := by
  refine Rc.PutParams_any.mono ?_
  rintro e w' ⟨b, n, rfl, hn, X, hb, B⟩
  exact ⟨_, rfl, byu_box X (ppv_oct f) hn (Nat.le_trans (ppv_len f) (by decide)), B⟩
theorem pset {B : Nat} {w : World} {K : Nat → Prop} {g : Nat} {E : Ents} {W : List Ents} {n N : Nat} {kv vv : Value} {f : Int} (h : Sx B w K g E W n N) (hk : ByU w kv pk) (hv : ByU w vv (ppv f)) (hn : n ≤ 4000000000000000000) (hN : N + 2 ≤ 100000000) :
    Calls Tryz.prog 17 #[pg g, kv, vv] w (SxE B w K g (put E pk (ppv f)) W (n + 1) (N + 2) (.int .i64 0)) := by
  have u := xset h hk hv hn hN
  rw [pk_set, if_pos rfl] at u
  exact u
theorem par_any {B : Nat} {w : World} {K : Nat → Prop} {g : Nat} {E : Ents} {W : List Ents} {n N : Nat}  (h : Sx B w K g E W n N) (hn : n + 5 ≤ 4000000000000000000) (hN : N + 5 ≤ 100000000) : Calls Tryz.prog 59 #[pg g] w (SxE B w K g E W (n + 1) N (.agg #[.int .u64 (pm (got E pk) 0), .int .u64 (pm (got E pk) 1), .int .u64 (pm (got E pk) 2), .int .u64 (pm (got E pk) 3), .int .u64 (pm (got E pk) 4), .int .u64 (pm (got E pk) 5), .int .u64 (pm (got E pk) 6), .int .u64 (pm (got E pk) 7), .int .u64 (pm (got E pk) 8), .int .u64 (pm (got E pk) 9)])) := by
  have A := h.at
  refine gc_enter (n := 19) Tryz.func59 rfl (by kernel_rfl) (by kernel_rfl) ?_
  refine gc_seq ?_
  refine gc_reg ?_
  refine ta 2 [.int .u64 0, .int .u64 0, .int .u64 0, .int .u64 0, .int .u64 0, .int .u64 0, .int .u64 0, .int .u64 0, .int .u64 0, .int .u64 0] 35 (pg) ?_
  intro v1 g2 Xg2 hg2 B
  have zg2 := Nat.le_trans A.size hg2
  have nXg2 := A.new hg2
  replace A := A.keep B
  clear B
  refine gl_nil ?_
  refine ge_then ?_
  refine gc_seq ?_
  refine gc_reg ?_
  refine t 8 (pg g) ?_
  refine tc 9 18 #[.int .i64 1, .int .u64 0, .int .u64 0] (skey) ?_
  rintro _ v5 ⟨kv4, rfl, U3, B⟩
  refine ⟨_, rfl, ?_⟩
  replace A := A.keep B
  replace Xg2 := Xg2.keep B
  clear B
  refine tc 10 39 #[pg g, kv4] (xget A.sx U3 (by omega) (by omega)) ?_
  rintro _ v8 ⟨gv6, rfl, U7, S, hC⟩
  refine ⟨_, rfl, ?_⟩
  replace Xg2 := Xg2.chg hC nXg2
  replace U3 := A.byu U3 hC
  replace A := A.op S (fun _ h => .inl h) hC
  clear S hC
  clear U3
  refine t 7 (.tuple #[gv6, .bool (Kv.look E pk).isSome]) ?_
  refine t 11 (gv6) ?_
  refine t 12 (.bool (Kv.look E pk).isSome) ?_
  refine t 3 (gv6) ?_
  refine t 4 (.bool (Kv.look E pk).isSome) ?_
  refine gl_nil ?_
  refine ge_then ?_
  refine gc_seq ?_
  refine gc_reg ?_
  refine t 14 (gv6) ?_
  refine tc 15 101 #[gv6] (par_rd U7 (A.sx.getlen _)) ?_
  rintro _ v9 ⟨rfl, B⟩
  refine ⟨_, rfl, ?_⟩
  replace A := A.keep B
  replace Xg2 := Xg2.keep B
  replace U7 := byu_keep U7 B
  clear B
  clear U7
  refine t 13 (.tuple #[.agg #[.int .u64 (pm (got E pk) 0), .int .u64 (pm (got E pk) 1), .int .u64 (pm (got E pk) 2), .int .u64 (pm (got E pk) 3), .int .u64 (pm (got E pk) 4), .int .u64 (pm (got E pk) 5), .int .u64 (pm (got E pk) 6), .int .u64 (pm (got E pk) 7), .int .u64 (pm (got E pk) 8), .int .u64 (pm (got E pk) 9)], .int .i64 (Rc.outR (Rc.stParams (got E pk)))]) ?_
  refine t 16 (.agg #[.int .u64 (pm (got E pk) 0), .int .u64 (pm (got E pk) 1), .int .u64 (pm (got E pk) 2), .int .u64 (pm (got E pk) 3), .int .u64 (pm (got E pk) 4), .int .u64 (pm (got E pk) 5), .int .u64 (pm (got E pk) 6), .int .u64 (pm (got E pk) 7), .int .u64 (pm (got E pk) 8), .int .u64 (pm (got E pk) 9)]) ?_
  refine t 17 (.int .i64 (Rc.outR (Rc.stParams (got E pk)))) ?_
  have lXg2 := Xg2.lt
  refine ta 5 [.int .u64 0, .int .u64 0, .int .u64 0, .int .u64 0, .int .u64 0, .int .u64 0, .int .u64 0, .int .u64 0, .int .u64 0, .int .u64 0] 35 (pg) ?_
  intro v10 g11 Xg11 hg11 B
  have zg11 := Nat.le_trans A.size hg11
  have nXg11 := A.new hg11
  replace A := A.keep B
  replace Xg2 := Xg2.keep B
  clear B
  refine ts Xg11 0 (.agg #[.int .u64 (pm (got E pk) 0), .int .u64 (pm (got E pk) 1), .int .u64 (pm (got E pk) 2), .int .u64 (pm (got E pk) 3), .int .u64 (pm (got E pk) 4), .int .u64 (pm (got E pk) 5), .int .u64 (pm (got E pk) 6), .int .u64 (pm (got E pk) 7), .int .u64 (pm (got E pk) 8), .int .u64 (pm (got E pk) 9)]) [.int .u64 (pm (got E pk) 0), .int .u64 (pm (got E pk) 1), .int .u64 (pm (got E pk) 2), .int .u64 (pm (got E pk) 3), .int .u64 (pm (got E pk) 4), .int .u64 (pm (got E pk) 5), .int .u64 (pm (got E pk) 6), .int .u64 (pm (got E pk) 7), .int .u64 (pm (got E pk) 8), .int .u64 (pm (got E pk) 9)] [.int .u64 (pm (got E pk) 0), .int .u64 (pm (got E pk) 1), .int .u64 (pm (got E pk) 2), .int .u64 (pm (got E pk) 3), .int .u64 (pm (got E pk) 4), .int .u64 (pm (got E pk) 5), .int .u64 (pm (got E pk) 6), .int .u64 (pm (got E pk) 7), .int .u64 (pm (got E pk) 8), .int .u64 (pm (got E pk) 9)] ?_
  intro v12 Y C
  replace A := At.cell A Xg11 C zg11 nXg11 (by decide)
  replace Xg2 := Xg2.chg C (show g2 ≠ g11 by omega)
  clear C Xg11
  have Xg11 := Y
  clear Y
  refine t 6 (.int .i64 (Rc.outR (Rc.stParams (got E pk)))) ?_
  refine gl_nil ?_
  refine ge_then ?_
  refine gc_fr [(2, pg g2), (5, pg g11)] (by kernel_rfl) ?_
  refine gc_seq ?_
  refine gc_reg ?_
  refine tlr 18 [.int .u64 (pm (got E pk) 0), .int .u64 (pm (got E pk) 1), .int .u64 (pm (got E pk) 2), .int .u64 (pm (got E pk) 3), .int .u64 (pm (got E pk) 4), .int .u64 (pm (got E pk) 5), .int .u64 (pm (got E pk) 6), .int .u64 (pm (got E pk) 7), .int .u64 (pm (got E pk) 8), .int .u64 (pm (got E pk) 9)] Xg11 0 ?_
  refine ts Xg2 0 (.agg #[.int .u64 (pm (got E pk) 0), .int .u64 (pm (got E pk) 1), .int .u64 (pm (got E pk) 2), .int .u64 (pm (got E pk) 3), .int .u64 (pm (got E pk) 4), .int .u64 (pm (got E pk) 5), .int .u64 (pm (got E pk) 6), .int .u64 (pm (got E pk) 7), .int .u64 (pm (got E pk) 8), .int .u64 (pm (got E pk) 9)]) [.int .u64 (pm (got E pk) 0), .int .u64 (pm (got E pk) 1), .int .u64 (pm (got E pk) 2), .int .u64 (pm (got E pk) 3), .int .u64 (pm (got E pk) 4), .int .u64 (pm (got E pk) 5), .int .u64 (pm (got E pk) 6), .int .u64 (pm (got E pk) 7), .int .u64 (pm (got E pk) 8), .int .u64 (pm (got E pk) 9)] [.int .u64 (pm (got E pk) 0), .int .u64 (pm (got E pk) 1), .int .u64 (pm (got E pk) 2), .int .u64 (pm (got E pk) 3), .int .u64 (pm (got E pk) 4), .int .u64 (pm (got E pk) 5), .int .u64 (pm (got E pk) 6), .int .u64 (pm (got E pk) 7), .int .u64 (pm (got E pk) 8), .int .u64 (pm (got E pk) 9)] ?_
  intro v13 Y C
  replace A := At.cell A Xg2 C zg2 nXg2 (by decide)
  replace Xg11 := Xg11.chg C (show g11 ≠ g2 by omega)
  clear C Xg2
  have Xg2 := Y
  clear Y
  refine gl_nil ?_
  refine ge_then ?_
  refine gc_ret ?_
  refine ge_ret (.agg #[.int .u64 (pm (got E pk) 0), .int .u64 (pm (got E pk) 1), .int .u64 (pm (got E pk) 2), .int .u64 (pm (got E pk) 3), .int .u64 (pm (got E pk) 4), .int .u64 (pm (got E pk) 5), .int .u64 (pm (got E pk) 6), .int .u64 (pm (got E pk) 7), .int .u64 (pm (got E pk) 8), .int .u64 (pm (got E pk) 9)]) (rsc 2 (T := 35) (by kernel_rfl) (by kernel_rfl) (lr Xg2 0)) ?_
  exact ⟨rfl, _, A.sx, A.km, A.cc⟩
theorem setp_any {B : Nat} {w : World} {K : Nat → Prop} {g : Nat} {E : Ents} {W : List Ents} {n N : Nat} {f : Int} (h : Sx B w K g E W n N) (hn : n + 5 ≤ 4000000000000000000) (hN : N + 5 ≤ 100000000) : Calls Tryz.prog 7 #[pg g, .agg #[.int .u64 0, .int .u64 0, .int .u64 0, .int .u64 0, .int .u64 0, .int .u64 0, .int .u64 0, .int .u64 0, .int .u64 f, .int .u64 0]] w (SxE B w K g (put E pk (ppv f)) W (n + 1) (N + 2) (.tuple #[])) := by
  have A := h.at
  refine gc_enter (n := 9) Tryz.func7 rfl (by kernel_rfl) (by kernel_rfl) ?_
  refine gc_seq ?_
  refine gc_reg ?_
  refine ta 3 [.int .u64 0, .int .u64 0, .int .u64 0, .int .u64 0, .int .u64 0, .int .u64 0, .int .u64 0, .int .u64 0, .int .u64 f, .int .u64 0] 35 (pg) ?_
  intro v1 g2 Xg2 hg2 B
  have zg2 := Nat.le_trans A.size hg2
  have nXg2 := A.new hg2
  replace A := A.keep B
  clear B
  refine gl_nil ?_
  refine ge_then ?_
  replace A := A.drew
  replace Xg2 := Xg2.drew
  refine gc_draw (fun w' => Blk w' g2 [.int .u64 0, .int .u64 0, .int .u64 0, .int .u64 0, .int .u64 0, .int .u64 0, .int .u64 0, .int .u64 0, .int .u64 f, .int .u64 0] 35) (fun _ => false) Xg2 ?_
  refine z 0 4 (pg g) ?_
  refine zlr 2 6 [.int .u64 0, .int .u64 0, .int .u64 0, .int .u64 0, .int .u64 0, .int .u64 0, .int .u64 0, .int .u64 0, .int .u64 f, .int .u64 0] (fun _ h => h) 0 ?_
  refine zc 1 5 18 #[.int .i64 1, .int .u64 0, .int .u64 0] (skey) ?_
  rintro _ v5 ⟨kv4, rfl, U3, B⟩
  replace A := A.keep B
  replace Xg2 := Xg2.keep B
  clear B
  refine ⟨_, rfl, Xg2, ?_⟩
  refine zc 3 7 19 #[.agg #[.int .u64 0, .int .u64 0, .int .u64 0, .int .u64 0, .int .u64 0, .int .u64 0, .int .u64 0, .int .u64 0, .int .u64 f, .int .u64 0]] (put_par) ?_
  rintro _ v8 ⟨pv7, rfl, U6, B⟩
  replace A := A.keep B
  replace Xg2 := Xg2.keep B
  replace U3 := byu_keep U3 B
  clear B
  refine ⟨_, rfl, Xg2, ?_⟩
  refine zc 4 8 17 #[pg g, kv4, pv7] (pset A.sx U3 U6 (by omega) (by omega)) ?_
  rintro _ v10 ⟨rfl, K9, S, hK, hC⟩
  have mXg2 := not_op Xg2 nXg2 hK
  replace Xg2 := Xg2.chg hC nXg2
  replace nXg2 := mXg2
  clear mXg2
  replace U3 := A.byu U3 hC
  replace U6 := A.byu U6 hC
  replace A := A.op S hK hC
  clear S hK hC
  clear U3
  clear U6
  refine ⟨_, rfl, Xg2, ?_⟩
  refine gz_done ?_
  refine ge_end (.tuple #[]) (rs0 (by kernel_rfl)) ?_
  exact ⟨rfl, _, A.sx, A.km, A.cc⟩
theorem by_user {w : World} {s q f m a b c lf x y : Int} {r : Int} (hr : (if s < 16 then 180 else 0 : Int) = r) : Calls Tryz.prog 97 #[.agg #[.int .u64 s, .int .u64 q, .int .u64 f, .int .i64 m, .int .u64 a, .int .u64 b, .int .u64 c, .int .u64 lf, .int .u64 x, .int .u64 y]] w fun e w' => e = .returned (.int .i64 r) ∧ Below w.heap.size w w' := by
  have BB := Below.refl w.heap.size w
  refine gc_enter (n := 7) Tryz.func97 rfl (by kernel_rfl) (by kernel_rfl) ?_
  refine gc_seq ?_
  refine gc_reg ?_
  refine ta 1 [.int .u64 s, .int .u64 q, .int .u64 f, .int .i64 m, .int .u64 a, .int .u64 b, .int .u64 c, .int .u64 lf, .int .u64 x, .int .u64 y] 78 (pg) ?_
  intro v1 g2 Xg2 hg2 B
  replace BB := joinB BB B
  clear B
  refine t 2 (.int .i64 0) ?_
  refine gl_nil ?_
  refine ge_then ?_
  refine gc_seq ?_
  refine gc_seq ?_
  refine gc_reg ?_
  refine t 3 (pg g2) ?_
  refine t 4 (pg g2) ?_
  refine tl 5 (.int .u64 s) Xg2 0 ?_
  by_cases c3 : (s : Int) < 16
  · refine tq 6 (.bool (decide ((s : Int) < 16))) (.bool true) (congrArg Value.bool (decide_eq_true c3)) ?_
    refine gl_nil ?_
    refine ge_then ?_
    refine gc_yes ?_
    refine gc_seq ?_
    refine gc_reg ?_
    refine t 2 (.int .i64 180) ?_
    refine gl_nil ?_
    refine ge_then ?_
    refine gc_ret ?_
    refine ge_tr ?_
    refine ge_ret (.int .i64 180) (rs1 2 (by kernel_rfl) (by kernel_rfl)) ?_
    refine ⟨?_, BB⟩
    rw [← hr, if_pos (by omega)]
  · refine tq 6 (.bool (decide ((s : Int) < 16))) (.bool false) (congrArg Value.bool (decide_eq_false c3)) ?_
    refine gl_nil ?_
    refine ge_then ?_
    refine gc_no ?_
    refine gc_skip ?_
    refine ge_then ?_
    refine gc_seq ?_
    refine gc_reg ?_
    refine t 2 (.int .i64 0) ?_
    refine gl_nil ?_
    refine ge_then ?_
    refine gc_ret ?_
    refine ge_ret (.int .i64 0) (rs1 2 (by kernel_rfl) (by kernel_rfl)) ?_
    refine ⟨?_, BB⟩
    rw [← hr, if_neg (by omega)]
theorem fee_enough {w : World} {s q f m a b c lf x y : Int} {r : Int} (hr : (if f < lf then 181 else 0 : Int) = r) : Calls Tryz.prog 98 #[.agg #[.int .u64 s, .int .u64 q, .int .u64 f, .int .i64 m, .int .u64 a, .int .u64 b, .int .u64 c, .int .u64 lf, .int .u64 x, .int .u64 y]] w fun e w' => e = .returned (.int .i64 r) ∧ Below w.heap.size w w' := by
  have BB := Below.refl w.heap.size w
  refine gc_enter (n := 9) Tryz.func98 rfl (by kernel_rfl) (by kernel_rfl) ?_
  refine gc_seq ?_
  refine gc_reg ?_
  refine ta 1 [.int .u64 s, .int .u64 q, .int .u64 f, .int .i64 m, .int .u64 a, .int .u64 b, .int .u64 c, .int .u64 lf, .int .u64 x, .int .u64 y] 78 (pg) ?_
  intro v1 g2 Xg2 hg2 B
  replace BB := joinB BB B
  clear B
  refine t 2 (.int .i64 0) ?_
  refine gl_nil ?_
  refine ge_then ?_
  refine gc_seq ?_
  refine gc_seq ?_
  refine gc_reg ?_
  refine t 3 (pg g2) ?_
  refine t 4 (pq g2 2) ?_
  refine tl 5 (.int .u64 f) Xg2 2 ?_
  refine t 6 (pq g2 7) ?_
  refine tl 7 (.int .u64 lf) Xg2 7 ?_
  by_cases c3 : (f : Int) < lf
  · refine tq 8 (.bool (decide ((f : Int) < lf))) (.bool true) (congrArg Value.bool (decide_eq_true c3)) ?_
    refine gl_nil ?_
    refine ge_then ?_
    refine gc_yes ?_
    refine gc_seq ?_
    refine gc_reg ?_
    refine t 2 (.int .i64 181) ?_
    refine gl_nil ?_
    refine ge_then ?_
    refine gc_ret ?_
    refine ge_tr ?_
    refine ge_ret (.int .i64 181) (rs1 2 (by kernel_rfl) (by kernel_rfl)) ?_
    refine ⟨?_, BB⟩
    rw [← hr, if_pos (by omega)]
  · refine tq 8 (.bool (decide ((f : Int) < lf))) (.bool false) (congrArg Value.bool (decide_eq_false c3)) ?_
    refine gl_nil ?_
    refine ge_then ?_
    refine gc_no ?_
    refine gc_skip ?_
    refine ge_then ?_
    refine gc_seq ?_
    refine gc_reg ?_
    refine t 2 (.int .i64 0) ?_
    refine gl_nil ?_
    refine ge_then ?_
    refine gc_ret ?_
    refine ge_ret (.int .i64 0) (rs1 2 (by kernel_rfl) (by kernel_rfl)) ?_
    refine ⟨?_, BB⟩
    rw [← hr, if_neg (by omega)]
theorem fee_covered {w : World} {s q f m a b c lf x y : Int} {r : Int} (hr : (if x < f then 182 else 0 : Int) = r) : Calls Tryz.prog 99 #[.agg #[.int .u64 s, .int .u64 q, .int .u64 f, .int .i64 m, .int .u64 a, .int .u64 b, .int .u64 c, .int .u64 lf, .int .u64 x, .int .u64 y]] w fun e w' => e = .returned (.int .i64 r) ∧ Below w.heap.size w w' := by
  have BB := Below.refl w.heap.size w
  refine gc_enter (n := 10) Tryz.func99 rfl (by kernel_rfl) (by kernel_rfl) ?_
  refine gc_seq ?_
  refine gc_reg ?_
  refine ta 1 [.int .u64 s, .int .u64 q, .int .u64 f, .int .i64 m, .int .u64 a, .int .u64 b, .int .u64 c, .int .u64 lf, .int .u64 x, .int .u64 y] 78 (pg) ?_
  intro v1 g2 Xg2 hg2 B
  replace BB := joinB BB B
  clear B
  refine t 2 (.int .i64 0) ?_
  refine gl_nil ?_
  refine ge_then ?_
  refine gc_seq ?_
  refine gc_seq ?_
  refine gc_reg ?_
  refine t 3 (pq g2 8) ?_
  refine t 4 (pq g2 8) ?_
  refine tl 5 (.int .u64 x) Xg2 8 ?_
  refine t 6 (pg g2) ?_
  refine t 7 (pq g2 2) ?_
  refine tl 8 (.int .u64 f) Xg2 2 ?_
  by_cases c3 : (x : Int) < f
  · refine tq 9 (.bool (decide ((x : Int) < f))) (.bool true) (congrArg Value.bool (decide_eq_true c3)) ?_
    refine gl_nil ?_
    refine ge_then ?_
    refine gc_yes ?_
    refine gc_seq ?_
    refine gc_reg ?_
    refine t 2 (.int .i64 182) ?_
    refine gl_nil ?_
    refine ge_then ?_
    refine gc_ret ?_
    refine ge_tr ?_
    refine ge_ret (.int .i64 182) (rs1 2 (by kernel_rfl) (by kernel_rfl)) ?_
    refine ⟨?_, BB⟩
    rw [← hr, if_pos (by omega)]
  · refine tq 9 (.bool (decide ((x : Int) < f))) (.bool false) (congrArg Value.bool (decide_eq_false c3)) ?_
    refine gl_nil ?_
    refine ge_then ?_
    refine gc_no ?_
    refine gc_skip ?_
    refine ge_then ?_
    refine gc_seq ?_
    refine gc_reg ?_
    refine t 2 (.int .i64 0) ?_
    refine gl_nil ?_
    refine ge_then ?_
    refine gc_ret ?_
    refine ge_ret (.int .i64 0) (rs1 2 (by kernel_rfl) (by kernel_rfl)) ?_
    refine ⟨?_, BB⟩
    rw [← hr, if_neg (by omega)]
theorem in_turn {w : World} {s q f m a b c lf x y : Int} {r : Int} (hr : (if ¬ q = y then 183 else 0 : Int) = r) : Calls Tryz.prog 100 #[.agg #[.int .u64 s, .int .u64 q, .int .u64 f, .int .i64 m, .int .u64 a, .int .u64 b, .int .u64 c, .int .u64 lf, .int .u64 x, .int .u64 y]] w fun e w' => e = .returned (.int .i64 r) ∧ Below w.heap.size w w' := by
  have BB := Below.refl w.heap.size w
  refine gc_enter (n := 10) Tryz.func100 rfl (by kernel_rfl) (by kernel_rfl) ?_
  refine gc_seq ?_
  refine gc_reg ?_
  refine ta 1 [.int .u64 s, .int .u64 q, .int .u64 f, .int .i64 m, .int .u64 a, .int .u64 b, .int .u64 c, .int .u64 lf, .int .u64 x, .int .u64 y] 78 (pg) ?_
  intro v1 g2 Xg2 hg2 B
  replace BB := joinB BB B
  clear B
  refine t 2 (.int .i64 0) ?_
  refine gl_nil ?_
  refine ge_then ?_
  refine gc_seq ?_
  refine gc_seq ?_
  refine gc_reg ?_
  refine t 3 (pg g2) ?_
  refine t 4 (pq g2 1) ?_
  refine tl 5 (.int .u64 q) Xg2 1 ?_
  refine t 6 (pq g2 8) ?_
  refine t 7 (pq g2 9) ?_
  refine tl 8 (.int .u64 y) Xg2 9 ?_
  by_cases c3 : (q : Int) = y
  · refine tq 9 (.bool ((q : Int) != y)) (.bool false) (congrArg Value.bool (bne_eq_false_iff_eq.2 c3)) ?_
    refine gl_nil ?_
    refine ge_then ?_
    refine gc_no ?_
    refine gc_skip ?_
    refine ge_then ?_
    refine gc_seq ?_
    refine gc_reg ?_
    refine t 2 (.int .i64 0) ?_
    refine gl_nil ?_
    refine ge_then ?_
    refine gc_ret ?_
    refine ge_ret (.int .i64 0) (rs1 2 (by kernel_rfl) (by kernel_rfl)) ?_
    refine ⟨?_, BB⟩
    rw [← hr, if_neg (by omega)]
  · refine tq 9 (.bool ((q : Int) != y)) (.bool true) (congrArg Value.bool (bne_iff_ne.2 c3)) ?_
    refine gl_nil ?_
    refine ge_then ?_
    refine gc_yes ?_
    refine gc_seq ?_
    refine gc_reg ?_
    refine t 2 (.int .i64 183) ?_
    refine gl_nil ?_
    refine ge_then ?_
    refine gc_ret ?_
    refine ge_tr ?_
    refine ge_ret (.int .i64 183) (rs1 2 (by kernel_rfl) (by kernel_rfl)) ?_
    refine ⟨?_, BB⟩
    rw [← hr, if_pos (by omega)]
theorem asked_any {w : World} : Calls Tryz.prog 58 #[] w fun e w' => ∃ g, e = .returned (sg 4 g) ∧ Blk w' g [.func (.func 97) #[] #[], .func (.func 98) #[] #[], .func (.func 99) #[] #[], .func (.func 100) #[] #[]] 76 ∧ Below w.heap.size w w' := by
  have BB := Below.refl w.heap.size w
  refine gc_enter (n := 2) Tryz.func58 rfl (by kernel_rfl) (by kernel_rfl) ?_
  refine gc_seq ?_
  refine gc_reg ?_
  refine t 0 (.slice none 0 0) ?_
  refine gl_nil ?_
  refine ge_then ?_
  refine gc_seq ?_
  refine gc_reg ?_
  refine ta 1 [.func (.func 97) #[] #[], .func (.func 98) #[] #[], .func (.func 99) #[] #[], .func (.func 100) #[] #[]] 76 (sg 4) ?_
  intro v1 g X hg B
  replace BB := joinB BB B
  clear B
  refine t 0 (sg 4 g) ?_
  refine gl_nil ?_
  refine ge_then ?_
  refine gc_ret ?_
  refine ge_ret (sg 4 g) (rs1 0 (by kernel_rfl) (by kernel_rfl)) ?_
  exact ⟨g, rfl, X, BB⟩
theorem gc_rds {P : Program} {n : Nat} {ds : List Deferred} {l : Fr} {w : World} {Q : Exit → Act → World → Prop} {c : Code} (k : Nat) (h : GC P n ds c (Exit.then (Code.rounds P c Q k) Q) l w) : GC P n ds (Code.loop c) Q l w := ⟨fun a r => wp_loop_rounds (k + 1) (h.out a r)⟩
theorem ge_rd {P : Program} {n : Nat} {ds : List Deferred} {l : Fr} {w : World} {Q Q' : Exit → Act → World → Prop} {c : Code} {k : Nat} (h : GC P n ds c (Exit.then (Code.rounds P c Q k) Q) l w) : GE n ds (Exit.then (Code.rounds P c Q (k + 1)) Q') .normal l w := ⟨fun a r => h.out a r⟩
theorem refusal_any {w : World} {s q f m a b c lf x y : Int} {r : Int} (hr : rfR s q f lf x y = r) : Calls Tryz.prog 30 #[.agg #[.int .u64 s, .int .u64 q, .int .u64 f, .int .i64 m, .int .u64 a, .int .u64 b, .int .u64 c, .int .u64 lf, .int .u64 x, .int .u64 y]] w fun e w' => e = .returned (.int .i64 r) ∧ Below w.heap.size w w' := by
  have BB := Below.refl w.heap.size w
  refine gc_enter (n := 22) Tryz.func30 rfl (by kernel_rfl) (by kernel_rfl) ?_
  refine gc_seq ?_
  refine gc_reg ?_
  refine ta 1 [.int .u64 s, .int .u64 q, .int .u64 f, .int .i64 m, .int .u64 a, .int .u64 b, .int .u64 c, .int .u64 lf, .int .u64 x, .int .u64 y] 78 (pg) ?_
  intro v1 g2 Xg2 hg2 B
  replace BB := joinB BB B
  clear B
  refine t 2 (.int .i64 0) ?_
  refine gl_nil ?_
  refine ge_then ?_
  refine gc_seq ?_
  refine gc_reg ?_
  refine tc 6 58 #[] (asked_any) ?_
  rintro _ v3 ⟨ga, rfl, Xa, B⟩
  refine ⟨_, rfl, ?_⟩
  replace BB := joinB BB B
  replace Xg2 := Xg2.keep B
  clear B
  refine t 3 (sg 4 ga) ?_
  refine gl_nil ?_
  refine ge_then ?_
  refine gc_seq ?_
  refine gc_seq ?_
  refine gc_reg ?_
  refine t 7 (sg 4 ga) ?_
  refine t 8 (.int .i64 4) ?_
  refine t 9 (.int .i64 0) ?_
  refine gl_nil ?_
  refine ge_then ?_
  refine gc_block ?_
  refine gc_rds 4 ?_
  refine gc_seq ?_
  refine gc_reg ?_
  refine t 10 (.bool true) ?_
  refine gl_nil ?_
  refine ge_then ?_
  refine gc_seq ?_
  refine gc_yes ?_
  refine gc_skip ?_
  refine ge_then ?_
  refine gc_seq ?_
  refine gc_block ?_
  refine gc_seq ?_
  refine gc_reg ?_
  refine t 11 (.int .i64 0) ?_
  refine t 4 (.int .i64 0) ?_
  refine gl_nil ?_
  refine ge_then ?_
  refine gc_seq ?_
  replace BB := BB.drew
  replace Xg2 := Xg2.drew
  replace Xa := Xa.drew
  refine gc_draw (fun w' => Blk w' ga [.func (.func 97) #[] #[], .func (.func 98) #[] #[], .func (.func 99) #[] #[], .func (.func 100) #[] #[]] 76 ∧ Blk w' g2 [.int .u64 s, .int .u64 q, .int .u64 f, .int .i64 m, .int .u64 a, .int .u64 b, .int .u64 c, .int .u64 lf, .int .u64 x, .int .u64 y] 78) (fun _ => false) ⟨Xa, Xg2⟩ ?_
  refine z 0 12 (sg 4 ga) ?_
  refine z 1 13 (.int .i64 0) ?_
  refine z 2 14 (pg ga) ?_
  refine zl 3 15 (.func (.func 97) #[] #[]) (fun _ h => h.1) 0 ?_
  refine zlr 4 16 [.int .u64 s, .int .u64 q, .int .u64 f, .int .i64 m, .int .u64 a, .int .u64 b, .int .u64 c, .int .u64 lf, .int .u64 x, .int .u64 y] (fun _ h => h.2) 0 ?_
  by_cases c4 : s < 16
  · refine zc 5 17 97 #[.agg #[.int .u64 s, .int .u64 q, .int .u64 f, .int .i64 m, .int .u64 a, .int .u64 b, .int .u64 c, .int .u64 lf, .int .u64 x, .int .u64 y]] (by_user (r := 180) (if_pos c4)) ?_
    rintro _ v5 ⟨rfl, B⟩
    replace BB := joinB BB B
    replace Xg2 := Xg2.keep B
    replace Xa := Xa.keep B
    clear B
    refine ⟨_, rfl, ⟨Xa, Xg2⟩, ?_⟩
    refine z 6 5 (.int .i64 180) ?_
    refine gz_done ?_
    refine ge_then ?_
    refine gc_fr [(1, pg g2), (2, .int .i64 0), (3, sg 4 ga), (4, .int .i64 0), (5, .int .i64 180), (8, .int .i64 4), (9, .int .i64 0), (10, .bool true), (11, .int .i64 0), (12, sg 4 ga), (13, .int .i64 0), (14, pg ga), (15, .func (.func 97) #[] #[]), (16, .agg #[.int .u64 s, .int .u64 q, .int .u64 f, .int .i64 m, .int .u64 a, .int .u64 b, .int .u64 c, .int .u64 lf, .int .u64 x, .int .u64 y]), (17, .int .i64 180)] (by kernel_rfl) ?_
    refine gc_seq ?_
    refine gc_reg ?_
    refine t 18 (.int .i64 180) ?_
    refine t 19 (.bool true) ?_
    refine gl_nil ?_
    refine ge_then ?_
    refine gc_yes ?_
    refine gc_seq ?_
    refine gc_reg ?_
    refine t 20 (.int .i64 180) ?_
    refine t 2 (.int .i64 180) ?_
    refine gl_nil ?_
    refine ge_then ?_
    refine gc_ret ?_
    refine ge_br ?_
    refine ge_tr ?_
    refine ge_tr ?_
    refine ge_br ?_
    refine ge_tr ?_
    refine ge_ret (.int .i64 180) (rs1 2 (by kernel_rfl) (by kernel_rfl)) ?_
    refine ⟨?_, BB⟩
    rw [← hr]
    unfold rfR
    rw [if_pos c4]
  · refine zc 5 17 97 #[.agg #[.int .u64 s, .int .u64 q, .int .u64 f, .int .i64 m, .int .u64 a, .int .u64 b, .int .u64 c, .int .u64 lf, .int .u64 x, .int .u64 y]] (by_user (r := 0) (if_neg c4)) ?_
    rintro _ v6 ⟨rfl, B⟩
    replace BB := joinB BB B
    replace Xg2 := Xg2.keep B
    replace Xa := Xa.keep B
    clear B
    refine ⟨_, rfl, ⟨Xa, Xg2⟩, ?_⟩
    refine z 6 5 (.int .i64 0) ?_
    refine gz_done ?_
    refine ge_then ?_
    refine gc_fr [(1, pg g2), (2, .int .i64 0), (3, sg 4 ga), (4, .int .i64 0), (5, .int .i64 0), (8, .int .i64 4), (9, .int .i64 0), (10, .bool true), (11, .int .i64 0), (12, sg 4 ga), (13, .int .i64 0), (14, pg ga), (15, .func (.func 97) #[] #[]), (16, .agg #[.int .u64 s, .int .u64 q, .int .u64 f, .int .i64 m, .int .u64 a, .int .u64 b, .int .u64 c, .int .u64 lf, .int .u64 x, .int .u64 y]), (17, .int .i64 0)] (by kernel_rfl) ?_
    refine gc_seq ?_
    refine gc_reg ?_
    refine t 18 (.int .i64 0) ?_
    refine t 19 (.bool false) ?_
    refine gl_nil ?_
    refine ge_then ?_
    refine gc_no ?_
    refine gc_skip ?_
    refine ge_bn ?_
    refine ge_then ?_
    refine gc_reg ?_
    refine t 21 (.int .i64 1) ?_
    refine t 9 (.int .i64 1) ?_
    refine gl_nil ?_
    refine ge_rd ?_
    refine gc_fr [(1, pg g2), (2, .int .i64 0), (3, sg 4 ga), (4, .int .i64 0), (5, .int .i64 0), (8, .int .i64 4), (9, .int .i64 1), (10, .bool true), (11, .int .i64 0), (12, sg 4 ga), (13, .int .i64 0), (14, pg ga), (15, .func (.func 97) #[] #[]), (16, .agg #[.int .u64 s, .int .u64 q, .int .u64 f, .int .i64 m, .int .u64 a, .int .u64 b, .int .u64 c, .int .u64 lf, .int .u64 x, .int .u64 y]), (17, .int .i64 0), (18, .int .i64 0), (19, .bool false), (21, .int .i64 1)] (by kernel_rfl) ?_
    refine gc_seq ?_
    refine gc_reg ?_
    refine t 10 (.bool true) ?_
    refine gl_nil ?_
    refine ge_then ?_
    refine gc_seq ?_
    refine gc_yes ?_
    refine gc_skip ?_
    refine ge_then ?_
    refine gc_seq ?_
    refine gc_block ?_
    refine gc_seq ?_
    refine gc_reg ?_
    refine t 11 (.int .i64 1) ?_
    refine t 4 (.int .i64 1) ?_
    refine gl_nil ?_
    refine ge_then ?_
    refine gc_seq ?_
    replace BB := BB.drew
    replace Xg2 := Xg2.drew
    replace Xa := Xa.drew
    refine gc_draw (fun w' => Blk w' ga [.func (.func 97) #[] #[], .func (.func 98) #[] #[], .func (.func 99) #[] #[], .func (.func 100) #[] #[]] 76 ∧ Blk w' g2 [.int .u64 s, .int .u64 q, .int .u64 f, .int .i64 m, .int .u64 a, .int .u64 b, .int .u64 c, .int .u64 lf, .int .u64 x, .int .u64 y] 78) (fun _ => false) ⟨Xa, Xg2⟩ ?_
    refine z 0 12 (sg 4 ga) ?_
    refine z 1 13 (.int .i64 1) ?_
    refine z 2 14 (pq ga 1) ?_
    refine zl 3 15 (.func (.func 98) #[] #[]) (fun _ h => h.1) 1 ?_
    refine zlr 4 16 [.int .u64 s, .int .u64 q, .int .u64 f, .int .i64 m, .int .u64 a, .int .u64 b, .int .u64 c, .int .u64 lf, .int .u64 x, .int .u64 y] (fun _ h => h.2) 0 ?_
    by_cases c7 : f < lf
    · refine zc 5 17 98 #[.agg #[.int .u64 s, .int .u64 q, .int .u64 f, .int .i64 m, .int .u64 a, .int .u64 b, .int .u64 c, .int .u64 lf, .int .u64 x, .int .u64 y]] (fee_enough (r := 181) (if_pos c7)) ?_
      rintro _ v8 ⟨rfl, B⟩
      replace BB := joinB BB B
      replace Xg2 := Xg2.keep B
      replace Xa := Xa.keep B
      clear B
      refine ⟨_, rfl, ⟨Xa, Xg2⟩, ?_⟩
      refine z 6 5 (.int .i64 181) ?_
      refine gz_done ?_
      refine ge_then ?_
      refine gc_seq ?_
      refine gc_reg ?_
      refine t 18 (.int .i64 181) ?_
      refine t 19 (.bool true) ?_
      refine gl_nil ?_
      refine ge_then ?_
      refine gc_fr [(1, pg g2), (2, .int .i64 0), (3, sg 4 ga), (4, .int .i64 1), (5, .int .i64 181), (8, .int .i64 4), (9, .int .i64 1), (10, .bool true), (11, .int .i64 1), (12, sg 4 ga), (13, .int .i64 1), (14, pq ga 1), (15, .func (.func 98) #[] #[]), (16, .agg #[.int .u64 s, .int .u64 q, .int .u64 f, .int .i64 m, .int .u64 a, .int .u64 b, .int .u64 c, .int .u64 lf, .int .u64 x, .int .u64 y]), (17, .int .i64 181), (18, .int .i64 181), (19, .bool true), (21, .int .i64 1)] (by kernel_rfl) ?_
      refine gc_yes ?_
      refine gc_seq ?_
      refine gc_reg ?_
      refine t 20 (.int .i64 181) ?_
      refine t 2 (.int .i64 181) ?_
      refine gl_nil ?_
      refine ge_then ?_
      refine gc_ret ?_
      refine ge_br ?_
      refine ge_tr ?_
      refine ge_tr ?_
      refine ge_br ?_
      refine ge_tr ?_
      refine ge_ret (.int .i64 181) (rs1 2 (by kernel_rfl) (by kernel_rfl)) ?_
      refine ⟨?_, BB⟩
      rw [← hr]
      unfold rfR
      rw [if_neg c4]
      rw [if_pos c7]
    · refine zc 5 17 98 #[.agg #[.int .u64 s, .int .u64 q, .int .u64 f, .int .i64 m, .int .u64 a, .int .u64 b, .int .u64 c, .int .u64 lf, .int .u64 x, .int .u64 y]] (fee_enough (r := 0) (if_neg c7)) ?_
      rintro _ v9 ⟨rfl, B⟩
      replace BB := joinB BB B
      replace Xg2 := Xg2.keep B
      replace Xa := Xa.keep B
      clear B
      refine ⟨_, rfl, ⟨Xa, Xg2⟩, ?_⟩
      refine z 6 5 (.int .i64 0) ?_
      refine gz_done ?_
      refine ge_then ?_
      refine gc_seq ?_
      refine gc_reg ?_
      refine t 18 (.int .i64 0) ?_
      refine t 19 (.bool false) ?_
      refine gl_nil ?_
      refine ge_then ?_
      refine gc_fr [(1, pg g2), (2, .int .i64 0), (3, sg 4 ga), (4, .int .i64 1), (5, .int .i64 0), (8, .int .i64 4), (9, .int .i64 1), (10, .bool true), (11, .int .i64 1), (12, sg 4 ga), (13, .int .i64 1), (14, pq ga 1), (15, .func (.func 98) #[] #[]), (16, .agg #[.int .u64 s, .int .u64 q, .int .u64 f, .int .i64 m, .int .u64 a, .int .u64 b, .int .u64 c, .int .u64 lf, .int .u64 x, .int .u64 y]), (17, .int .i64 0), (18, .int .i64 0), (19, .bool false), (21, .int .i64 1)] (by kernel_rfl) ?_
      refine gc_no ?_
      refine gc_skip ?_
      refine ge_bn ?_
      refine ge_then ?_
      refine gc_reg ?_
      refine t 21 (.int .i64 2) ?_
      refine t 9 (.int .i64 2) ?_
      refine gl_nil ?_
      refine ge_rd ?_
      refine gc_fr [(1, pg g2), (2, .int .i64 0), (3, sg 4 ga), (4, .int .i64 1), (5, .int .i64 0), (8, .int .i64 4), (9, .int .i64 2), (10, .bool true), (11, .int .i64 1), (12, sg 4 ga), (13, .int .i64 1), (14, pq ga 1), (15, .func (.func 98) #[] #[]), (16, .agg #[.int .u64 s, .int .u64 q, .int .u64 f, .int .i64 m, .int .u64 a, .int .u64 b, .int .u64 c, .int .u64 lf, .int .u64 x, .int .u64 y]), (17, .int .i64 0), (18, .int .i64 0), (19, .bool false), (21, .int .i64 2)] (by kernel_rfl) ?_
      refine gc_seq ?_
      refine gc_reg ?_
      refine t 10 (.bool true) ?_
      refine gl_nil ?_
      refine ge_then ?_
      refine gc_seq ?_
      refine gc_yes ?_
      refine gc_skip ?_
      refine ge_then ?_
      refine gc_seq ?_
      refine gc_block ?_
      refine gc_seq ?_
      refine gc_reg ?_
      refine t 11 (.int .i64 2) ?_
      refine t 4 (.int .i64 2) ?_
      refine gl_nil ?_
      refine ge_then ?_
      refine gc_seq ?_
      replace BB := BB.drew
      replace Xg2 := Xg2.drew
      replace Xa := Xa.drew
      refine gc_draw (fun w' => Blk w' ga [.func (.func 97) #[] #[], .func (.func 98) #[] #[], .func (.func 99) #[] #[], .func (.func 100) #[] #[]] 76 ∧ Blk w' g2 [.int .u64 s, .int .u64 q, .int .u64 f, .int .i64 m, .int .u64 a, .int .u64 b, .int .u64 c, .int .u64 lf, .int .u64 x, .int .u64 y] 78) (fun _ => false) ⟨Xa, Xg2⟩ ?_
      refine z 0 12 (sg 4 ga) ?_
      refine z 1 13 (.int .i64 2) ?_
      refine z 2 14 (pq ga 2) ?_
      refine zl 3 15 (.func (.func 99) #[] #[]) (fun _ h => h.1) 2 ?_
      refine zlr 4 16 [.int .u64 s, .int .u64 q, .int .u64 f, .int .i64 m, .int .u64 a, .int .u64 b, .int .u64 c, .int .u64 lf, .int .u64 x, .int .u64 y] (fun _ h => h.2) 0 ?_
      by_cases c10 : x < f
      · refine zc 5 17 99 #[.agg #[.int .u64 s, .int .u64 q, .int .u64 f, .int .i64 m, .int .u64 a, .int .u64 b, .int .u64 c, .int .u64 lf, .int .u64 x, .int .u64 y]] (fee_covered (r := 182) (if_pos c10)) ?_
        rintro _ v11 ⟨rfl, B⟩
        replace BB := joinB BB B
        replace Xg2 := Xg2.keep B
        replace Xa := Xa.keep B
        clear B
        refine ⟨_, rfl, ⟨Xa, Xg2⟩, ?_⟩
        refine z 6 5 (.int .i64 182) ?_
        refine gz_done ?_
        refine ge_then ?_
        refine gc_seq ?_
        refine gc_reg ?_
        refine t 18 (.int .i64 182) ?_
        refine t 19 (.bool true) ?_
        refine gl_nil ?_
        refine ge_then ?_
        refine gc_fr [(1, pg g2), (2, .int .i64 0), (3, sg 4 ga), (4, .int .i64 2), (5, .int .i64 182), (8, .int .i64 4), (9, .int .i64 2), (10, .bool true), (11, .int .i64 2), (12, sg 4 ga), (13, .int .i64 2), (14, pq ga 2), (15, .func (.func 99) #[] #[]), (16, .agg #[.int .u64 s, .int .u64 q, .int .u64 f, .int .i64 m, .int .u64 a, .int .u64 b, .int .u64 c, .int .u64 lf, .int .u64 x, .int .u64 y]), (17, .int .i64 182), (18, .int .i64 182), (19, .bool true), (21, .int .i64 2)] (by kernel_rfl) ?_
        refine gc_yes ?_
        refine gc_seq ?_
        refine gc_reg ?_
        refine t 20 (.int .i64 182) ?_
        refine t 2 (.int .i64 182) ?_
        refine gl_nil ?_
        refine ge_then ?_
        refine gc_ret ?_
        refine ge_br ?_
        refine ge_tr ?_
        refine ge_tr ?_
        refine ge_br ?_
        refine ge_tr ?_
        refine ge_ret (.int .i64 182) (rs1 2 (by kernel_rfl) (by kernel_rfl)) ?_
        refine ⟨?_, BB⟩
        rw [← hr]
        unfold rfR
        rw [if_neg c4]
        rw [if_neg c7]
        rw [if_pos c10]
      · refine zc 5 17 99 #[.agg #[.int .u64 s, .int .u64 q, .int .u64 f, .int .i64 m, .int .u64 a, .int .u64 b, .int .u64 c, .int .u64 lf, .int .u64 x, .int .u64 y]] (fee_covered (r := 0) (if_neg c10)) ?_
        rintro _ v12 ⟨rfl, B⟩
        replace BB := joinB BB B
        replace Xg2 := Xg2.keep B
        replace Xa := Xa.keep B
        clear B
        refine ⟨_, rfl, ⟨Xa, Xg2⟩, ?_⟩
        refine z 6 5 (.int .i64 0) ?_
        refine gz_done ?_
        refine ge_then ?_
        refine gc_seq ?_
        refine gc_reg ?_
        refine t 18 (.int .i64 0) ?_
        refine t 19 (.bool false) ?_
        refine gl_nil ?_
        refine ge_then ?_
        refine gc_fr [(1, pg g2), (2, .int .i64 0), (3, sg 4 ga), (4, .int .i64 2), (5, .int .i64 0), (8, .int .i64 4), (9, .int .i64 2), (10, .bool true), (11, .int .i64 2), (12, sg 4 ga), (13, .int .i64 2), (14, pq ga 2), (15, .func (.func 99) #[] #[]), (16, .agg #[.int .u64 s, .int .u64 q, .int .u64 f, .int .i64 m, .int .u64 a, .int .u64 b, .int .u64 c, .int .u64 lf, .int .u64 x, .int .u64 y]), (17, .int .i64 0), (18, .int .i64 0), (19, .bool false), (21, .int .i64 2)] (by kernel_rfl) ?_
        refine gc_no ?_
        refine gc_skip ?_
        refine ge_bn ?_
        refine ge_then ?_
        refine gc_reg ?_
        refine t 21 (.int .i64 3) ?_
        refine t 9 (.int .i64 3) ?_
        refine gl_nil ?_
        refine ge_rd ?_
        refine gc_fr [(1, pg g2), (2, .int .i64 0), (3, sg 4 ga), (4, .int .i64 2), (5, .int .i64 0), (8, .int .i64 4), (9, .int .i64 3), (10, .bool true), (11, .int .i64 2), (12, sg 4 ga), (13, .int .i64 2), (14, pq ga 2), (15, .func (.func 99) #[] #[]), (16, .agg #[.int .u64 s, .int .u64 q, .int .u64 f, .int .i64 m, .int .u64 a, .int .u64 b, .int .u64 c, .int .u64 lf, .int .u64 x, .int .u64 y]), (17, .int .i64 0), (18, .int .i64 0), (19, .bool false), (21, .int .i64 3)] (by kernel_rfl) ?_
        refine gc_seq ?_
        refine gc_reg ?_
        refine t 10 (.bool true) ?_
        refine gl_nil ?_
        refine ge_then ?_
        refine gc_seq ?_
        refine gc_yes ?_
        refine gc_skip ?_
        refine ge_then ?_
        refine gc_seq ?_
        refine gc_block ?_
        refine gc_seq ?_
        refine gc_reg ?_
        refine t 11 (.int .i64 3) ?_
        refine t 4 (.int .i64 3) ?_
        refine gl_nil ?_
        refine ge_then ?_
        refine gc_seq ?_
        replace BB := BB.drew
        replace Xg2 := Xg2.drew
        replace Xa := Xa.drew
        refine gc_draw (fun w' => Blk w' ga [.func (.func 97) #[] #[], .func (.func 98) #[] #[], .func (.func 99) #[] #[], .func (.func 100) #[] #[]] 76 ∧ Blk w' g2 [.int .u64 s, .int .u64 q, .int .u64 f, .int .i64 m, .int .u64 a, .int .u64 b, .int .u64 c, .int .u64 lf, .int .u64 x, .int .u64 y] 78) (fun _ => false) ⟨Xa, Xg2⟩ ?_
        refine z 0 12 (sg 4 ga) ?_
        refine z 1 13 (.int .i64 3) ?_
        refine z 2 14 (pq ga 3) ?_
        refine zl 3 15 (.func (.func 100) #[] #[]) (fun _ h => h.1) 3 ?_
        refine zlr 4 16 [.int .u64 s, .int .u64 q, .int .u64 f, .int .i64 m, .int .u64 a, .int .u64 b, .int .u64 c, .int .u64 lf, .int .u64 x, .int .u64 y] (fun _ h => h.2) 0 ?_
        by_cases c13 : ¬ q = y
        · refine zc 5 17 100 #[.agg #[.int .u64 s, .int .u64 q, .int .u64 f, .int .i64 m, .int .u64 a, .int .u64 b, .int .u64 c, .int .u64 lf, .int .u64 x, .int .u64 y]] (in_turn (r := 183) (if_pos c13)) ?_
          rintro _ v14 ⟨rfl, B⟩
          replace BB := joinB BB B
          replace Xg2 := Xg2.keep B
          replace Xa := Xa.keep B
          clear B
          refine ⟨_, rfl, ⟨Xa, Xg2⟩, ?_⟩
          refine z 6 5 (.int .i64 183) ?_
          refine gz_done ?_
          refine ge_then ?_
          refine gc_seq ?_
          refine gc_reg ?_
          refine t 18 (.int .i64 183) ?_
          refine t 19 (.bool true) ?_
          refine gl_nil ?_
          refine ge_then ?_
          refine gc_fr [(1, pg g2), (2, .int .i64 0), (3, sg 4 ga), (4, .int .i64 3), (5, .int .i64 183), (8, .int .i64 4), (9, .int .i64 3), (10, .bool true), (11, .int .i64 3), (12, sg 4 ga), (13, .int .i64 3), (14, pq ga 3), (15, .func (.func 100) #[] #[]), (16, .agg #[.int .u64 s, .int .u64 q, .int .u64 f, .int .i64 m, .int .u64 a, .int .u64 b, .int .u64 c, .int .u64 lf, .int .u64 x, .int .u64 y]), (17, .int .i64 183), (18, .int .i64 183), (19, .bool true), (21, .int .i64 3)] (by kernel_rfl) ?_
          refine gc_yes ?_
          refine gc_seq ?_
          refine gc_reg ?_
          refine t 20 (.int .i64 183) ?_
          refine t 2 (.int .i64 183) ?_
          refine gl_nil ?_
          refine ge_then ?_
          refine gc_ret ?_
          refine ge_br ?_
          refine ge_tr ?_
          refine ge_tr ?_
          refine ge_br ?_
          refine ge_tr ?_
          refine ge_ret (.int .i64 183) (rs1 2 (by kernel_rfl) (by kernel_rfl)) ?_
          refine ⟨?_, BB⟩
          rw [← hr]
          unfold rfR
          rw [if_neg c4]
          rw [if_neg c7]
          rw [if_neg c10]
          rw [if_pos c13]
        · refine zc 5 17 100 #[.agg #[.int .u64 s, .int .u64 q, .int .u64 f, .int .i64 m, .int .u64 a, .int .u64 b, .int .u64 c, .int .u64 lf, .int .u64 x, .int .u64 y]] (in_turn (r := 0) (if_neg c13)) ?_
          rintro _ v15 ⟨rfl, B⟩
          replace BB := joinB BB B
          replace Xg2 := Xg2.keep B
          replace Xa := Xa.keep B
          clear B
          refine ⟨_, rfl, ⟨Xa, Xg2⟩, ?_⟩
          refine z 6 5 (.int .i64 0) ?_
          refine gz_done ?_
          refine ge_then ?_
          refine gc_seq ?_
          refine gc_reg ?_
          refine t 18 (.int .i64 0) ?_
          refine t 19 (.bool false) ?_
          refine gl_nil ?_
          refine ge_then ?_
          refine gc_fr [(1, pg g2), (2, .int .i64 0), (3, sg 4 ga), (4, .int .i64 3), (5, .int .i64 0), (8, .int .i64 4), (9, .int .i64 3), (10, .bool true), (11, .int .i64 3), (12, sg 4 ga), (13, .int .i64 3), (14, pq ga 3), (15, .func (.func 100) #[] #[]), (16, .agg #[.int .u64 s, .int .u64 q, .int .u64 f, .int .i64 m, .int .u64 a, .int .u64 b, .int .u64 c, .int .u64 lf, .int .u64 x, .int .u64 y]), (17, .int .i64 0), (18, .int .i64 0), (19, .bool false), (21, .int .i64 3)] (by kernel_rfl) ?_
          refine gc_no ?_
          refine gc_skip ?_
          refine ge_bn ?_
          refine ge_then ?_
          refine gc_reg ?_
          refine t 21 (.int .i64 4) ?_
          refine t 9 (.int .i64 4) ?_
          refine gl_nil ?_
          refine ge_rd ?_
          refine gc_fr [(1, pg g2), (2, .int .i64 0), (3, sg 4 ga), (4, .int .i64 3), (5, .int .i64 0), (8, .int .i64 4), (9, .int .i64 4), (10, .bool true), (11, .int .i64 3), (12, sg 4 ga), (13, .int .i64 3), (14, pq ga 3), (15, .func (.func 100) #[] #[]), (16, .agg #[.int .u64 s, .int .u64 q, .int .u64 f, .int .i64 m, .int .u64 a, .int .u64 b, .int .u64 c, .int .u64 lf, .int .u64 x, .int .u64 y]), (17, .int .i64 0), (18, .int .i64 0), (19, .bool false), (21, .int .i64 4)] (by kernel_rfl) ?_
          refine gc_seq ?_
          refine gc_reg ?_
          refine t 10 (.bool false) ?_
          refine gl_nil ?_
          refine ge_then ?_
          refine gc_seq ?_
          refine gc_no ?_
          refine gc_exit ?_
          refine ge_tx ?_
          refine ge_tx ?_
          refine ge_bx ?_
          refine ge_then ?_
          refine gc_seq ?_
          refine gc_reg ?_
          refine t 2 (.int .i64 0) ?_
          refine gl_nil ?_
          refine ge_then ?_
          refine gc_ret ?_
          refine ge_ret (.int .i64 0) (rs1 2 (by kernel_rfl) (by kernel_rfl)) ?_
          refine ⟨?_, BB⟩
          rw [← hr]
          unfold rfR
          rw [if_neg c4]
          rw [if_neg c7]
          rw [if_neg c10]
          rw [if_neg c13]
theorem offered_any {B : Nat} {w : World} {K : Nat → Prop} {g : Nat} {E : Ents} {W : List Ents} {n N : Nat} {s q f m a b c : Int} (h : Sx B w K g E W n N) (hs : 0 ≤ s ∧ s < 18446744073709551616) (hn : n + 10 ≤ 4000000000000000000) (hN : N + 10 ≤ 100000000) : Calls Tryz.prog 31 #[pg g, .agg #[.int .u64 s, .int .u64 q, .int .u64 f, .int .i64 m, .int .u64 a, .int .u64 b, .int .u64 c]] w (SxE B w K g E W (n + 2) N (.agg #[.int .u64 s, .int .u64 q, .int .u64 f, .int .i64 m, .int .u64 a, .int .u64 b, .int .u64 c, .int .u64 (fee E), .int .u64 (coin E s), .int .u64 (seqn E s)])) := by
  have A := h.at
  refine gc_enter (n := 14) Tryz.func31 rfl (by kernel_rfl) (by kernel_rfl) ?_
  refine gc_seq ?_
  refine gc_reg ?_
  refine ta 3 [.int .u64 s, .int .u64 q, .int .u64 f, .int .i64 m, .int .u64 a, .int .u64 b, .int .u64 c] 46 (pg) ?_
  intro v1 g2 Xg2 hg2 B
  have zg2 := Nat.le_trans A.size hg2
  have nXg2 := A.new hg2
  replace A := A.keep B
  clear B
  have lXg2 := Xg2.lt
  refine ta 4 [.int .u64 0, .int .u64 0, .int .u64 0, .int .i64 0, .int .u64 0, .int .u64 0, .int .u64 0, .int .u64 0, .int .u64 0, .int .u64 0] 78 (pg) ?_
  intro v3 g4 Xg4 hg4 B
  have zg4 := Nat.le_trans A.size hg4
  have nXg4 := A.new hg4
  replace A := A.keep B
  replace Xg2 := Xg2.keep B
  clear B
  refine gl_nil ?_
  refine ge_then ?_
  refine gc_seq ?_
  replace A := A.drew
  replace Xg2 := Xg2.drew
  replace Xg4 := Xg4.drew
  refine gc_draw (fun w' => Blk w' g2 [.int .u64 s, .int .u64 q, .int .u64 f, .int .i64 m, .int .u64 a, .int .u64 b, .int .u64 c] 46) (fun _ => false) Xg2 ?_
  refine zlr 0 5 [.int .u64 s, .int .u64 q, .int .u64 f, .int .i64 m, .int .u64 a, .int .u64 b, .int .u64 c] (fun _ h => h) 0 ?_
  refine z 1 6 (pg g) ?_
  refine z 4 9 (pg g) ?_
  refine z 5 10 (pg g2) ?_
  refine zl 6 11 (.int .u64 s) (fun _ h => h) 0 ?_
  refine zc 2 7 59 #[pg g] (par_any A.sx (by omega) (by omega)) ?_
  rintro _ v6 ⟨rfl, K5, S, hK, hC⟩
  have mXg2 := not_op Xg2 nXg2 hK
  replace Xg2 := Xg2.chg hC nXg2
  replace nXg2 := mXg2
  clear mXg2
  have mXg4 := not_op Xg4 nXg4 hK
  replace Xg4 := Xg4.chg hC nXg4
  replace nXg4 := mXg4
  clear mXg4
  replace A := A.op S hK hC
  clear S hK hC
  refine ⟨_, rfl, Xg2, ?_⟩
  refine z 3 8 (.int .u64 (pm (got E pk) 8)) ?_
  refine zc 7 12 15 #[pg g, .int .u64 s] (get_any A.sx hs (by omega) (by omega)) ?_
  rintro _ v8 ⟨rfl, K7, S, hK, hC⟩
  have mXg2 := not_op Xg2 nXg2 hK
  replace Xg2 := Xg2.chg hC nXg2
  replace nXg2 := mXg2
  clear mXg2
  have mXg4 := not_op Xg4 nXg4 hK
  replace Xg4 := Xg4.chg hC nXg4
  replace nXg4 := mXg4
  clear mXg4
  replace A := A.op S hK hC
  clear S hK hC
  refine ⟨_, rfl, Xg2, ?_⟩
  refine zr 8 13 (.agg #[.int .u64 s, .int .u64 q, .int .u64 f, .int .i64 m, .int .u64 a, .int .u64 b, .int .u64 c, .int .u64 (pm (got E pk) 8), .int .u64 (coin E s), .int .u64 (seqn E s)]) (by intro _ _; kernel_rfl) ?_
  refine zs 9 Xg4 0 (.agg #[.int .u64 s, .int .u64 q, .int .u64 f, .int .i64 m, .int .u64 a, .int .u64 b, .int .u64 c, .int .u64 (pm (got E pk) 8), .int .u64 (coin E s), .int .u64 (seqn E s)]) [.int .u64 s, .int .u64 q, .int .u64 f, .int .i64 m, .int .u64 a, .int .u64 b, .int .u64 c, .int .u64 (pm (got E pk) 8), .int .u64 (coin E s), .int .u64 (seqn E s)] [.int .u64 s, .int .u64 q, .int .u64 f, .int .i64 m, .int .u64 a, .int .u64 b, .int .u64 c, .int .u64 (pm (got E pk) 8), .int .u64 (coin E s), .int .u64 (seqn E s)] ?_
  intro v9 Y C
  replace A := At.cell A Xg4 C zg4 nXg4 (by decide)
  replace Xg2 := Xg2.chg C (show g2 ≠ g4 by omega)
  clear C Xg4
  have Xg4 := Y
  clear Y
  refine ⟨Xg2, ?_⟩
  refine gz_done ?_
  refine ge_then ?_
  refine gc_fr [(4, pg g4)] (by kernel_rfl) ?_
  refine gc_ret ?_
  refine ge_ret (.agg #[.int .u64 s, .int .u64 q, .int .u64 f, .int .i64 m, .int .u64 a, .int .u64 b, .int .u64 c, .int .u64 (pm (got E pk) 8), .int .u64 (coin E s), .int .u64 (seqn E s)]) (rsc 4 (T := 78) (by kernel_rfl) (by kernel_rfl) (lr Xg4 0)) ?_
  exact ⟨rfl, _, A.sx, A.km, A.cc⟩
theorem adm_any {B : Nat} {w : World} {K : Nat → Prop} {g : Nat} {E : Ents} {W : List Ents} {n N : Nat} {s q f m a b c : Int} (h : Sx B w K g E W n N) (hs : 0 ≤ s ∧ s < 18446744073709551616) (hf : 0 ≤ f ∧ f < 18446744073709551616) (hn : n + 40 ≤ 4000000000000000000) (hN : N + 40 ≤ 100000000) : Calls Tryz.prog 11 #[pg g, .agg #[.int .u64 s, .int .u64 q, .int .u64 f, .int .i64 m, .int .u64 a, .int .u64 b, .int .u64 c]] w (SxG B w K g (admE E s q f) W n N (.int .i64 (admR E s q f))) := by
  have A := h.at
  refine gc_enter (n := 27) Tryz.func11 rfl (by kernel_rfl) (by kernel_rfl) ?_
  refine gc_seq ?_
  refine gc_reg ?_
  refine ta 3 [.int .u64 s, .int .u64 q, .int .u64 f, .int .i64 m, .int .u64 a, .int .u64 b, .int .u64 c] 46 (pg) ?_
  intro v1 g2 Xg2 hg2 B
  have zg2 := Nat.le_trans A.size hg2
  have nXg2 := A.new hg2
  replace A := A.keep B
  clear B
  refine t 4 (.int .i64 0) ?_
  refine gl_nil ?_
  refine ge_then ?_
  refine gc_seq ?_
  refine gc_seq ?_
  refine gc_reg ?_
  refine t 7 (pg g) ?_
  refine tlr 8 [.int .u64 s, .int .u64 q, .int .u64 f, .int .i64 m, .int .u64 a, .int .u64 b, .int .u64 c] Xg2 0 ?_
  refine tc 9 31 #[pg g, .agg #[.int .u64 s, .int .u64 q, .int .u64 f, .int .i64 m, .int .u64 a, .int .u64 b, .int .u64 c]] (offered_any A.sx hs (by omega) (by omega)) ?_
  rintro _ v4 ⟨rfl, K3, S, hK, hC⟩
  refine ⟨_, rfl, ?_⟩
  have mXg2 := not_op Xg2 nXg2 hK
  replace Xg2 := Xg2.chg hC nXg2
  replace nXg2 := mXg2
  clear mXg2
  replace A := A.op S hK hC
  clear S hK hC
  refine tc 10 30 #[.agg #[.int .u64 s, .int .u64 q, .int .u64 f, .int .i64 m, .int .u64 a, .int .u64 b, .int .u64 c, .int .u64 (fee E), .int .u64 (coin E s), .int .u64 (seqn E s)]] (refusal_any rfl) ?_
  rintro _ v5 ⟨rfl, B⟩
  refine ⟨_, rfl, ?_⟩
  replace A := A.keep B
  replace Xg2 := Xg2.keep B
  clear B
  refine t 5 (.int .i64 (rfR s q f (fee E) (coin E s) (seqn E s))) ?_
  refine gl_nil ?_
  refine ge_then ?_
  refine gc_seq ?_
  refine gc_reg ?_
  refine t 11 (.int .i64 (rfR s q f (fee E) (coin E s) (seqn E s))) ?_
  by_cases c6 : (rfR s q f (fee E) (coin E s) (seqn E s) : Int) = 0
  · refine tq 12 (.bool ((rfR s q f (fee E) (coin E s) (seqn E s) : Int) != 0)) (.bool false) (congrArg Value.bool (bne_eq_false_iff_eq.2 c6)) ?_
    refine gl_nil ?_
    refine ge_then ?_
    refine gc_no ?_
    refine gc_skip ?_
    refine ge_then ?_
    refine gc_seq ?_
    refine gc_seq ?_
    refine gc_reg ?_
    refine t 14 (pg g) ?_
    refine t 15 (pg g2) ?_
    refine tl 16 (.int .u64 s) Xg2 0 ?_
    refine t 17 (pq g2 2) ?_
    refine tl 18 (.int .u64 f) Xg2 2 ?_
    refine tc 19 32 #[pg g, .int .u64 s, .int .u64 1, .int .u64 f] (move_any A.sx hs u1 hf (by omega) (by omega)) ?_
    rintro _ v10 ⟨rfl, K7, n8, N9, S, qn8, qN9, hK, hC⟩
    refine ⟨_, rfl, ?_⟩
    have mXg2 := not_op Xg2 nXg2 hK
    replace Xg2 := Xg2.chg hC nXg2
    replace nXg2 := mXg2
    clear mXg2
    replace A := A.op S hK hC
    clear S hK hC
    refine t 6 (.int .i64 (moveR E s 1 f)) ?_
    refine gl_nil ?_
    refine ge_then ?_
    refine gc_fr [(0, pg g), (3, pg g2), (4, .int .i64 0), (6, .int .i64 (moveR E s 1 f))] (by kernel_rfl) ?_
    refine gc_seq ?_
    refine gc_reg ?_
    refine t 20 (.int .i64 (moveR E s 1 f)) ?_
    by_cases c11 : (moveR E s 1 f : Int) = 0
    · refine tq 21 (.bool ((moveR E s 1 f : Int) != 0)) (.bool false) (congrArg Value.bool (bne_eq_false_iff_eq.2 c11)) ?_
      refine gl_nil ?_
      refine ge_then ?_
      refine gc_no ?_
      refine gc_skip ?_
      refine ge_then ?_
      refine gc_seq ?_
      refine gc_reg ?_
      refine t 23 (pg g) ?_
      refine t 24 (pg g2) ?_
      refine tl 25 (.int .u64 s) Xg2 0 ?_
      refine tc 26 33 #[pg g, .int .u64 s] (bump_any A.sx hs (by omega) (by omega)) ?_
      rintro _ v15 ⟨rfl, K12, n13, N14, S, qn13, qN14, hK, hC⟩
      refine ⟨_, rfl, ?_⟩
      have mXg2 := not_op Xg2 nXg2 hK
      replace Xg2 := Xg2.chg hC nXg2
      replace nXg2 := mXg2
      clear mXg2
      replace A := A.op S hK hC
      clear S hK hC
      refine t 4 (.int .i64 (bumpR s)) ?_
      refine gl_nil ?_
      refine ge_then ?_
      refine gc_ret ?_
      refine ge_ret (.int .i64 (bumpR s)) (rs1 4 (by kernel_rfl) (by kernel_rfl)) ?_
      obtain ⟨e1, e2⟩ := adm_mv c6
      rw [show admE E s q f = _ from if_pos (e1.trans c11), e1, c11, show bumpR s = 0 by unfold bumpR isA; rw [if_neg (by simp; omega)]]
      exact ⟨rfl, _, _, _, A.sx, by omega, by omega, A.km, A.cc⟩
    · refine tq 21 (.bool ((moveR E s 1 f : Int) != 0)) (.bool true) (congrArg Value.bool (bne_iff_ne.2 c11)) ?_
      refine gl_nil ?_
      refine ge_then ?_
      refine gc_yes ?_
      refine gc_seq ?_
      refine gc_reg ?_
      refine t 22 (.int .i64 (moveR E s 1 f)) ?_
      refine t 4 (.int .i64 (moveR E s 1 f)) ?_
      refine gl_nil ?_
      refine ge_then ?_
      refine gc_ret ?_
      refine ge_tr ?_
      refine ge_ret (.int .i64 (moveR E s 1 f)) (rs1 4 (by kernel_rfl) (by kernel_rfl)) ?_
      obtain ⟨e1, e2⟩ := adm_mv c6
      rw [adm_no (q := q) (show admR E s q f ≠ 0 by rw [e1]; exact c11), e1]
      rw [move_no c11] at A
      exact ⟨rfl, _, _, _, A.sx, by omega, by omega, A.km, A.cc⟩
  · refine tq 12 (.bool ((rfR s q f (fee E) (coin E s) (seqn E s) : Int) != 0)) (.bool true) (congrArg Value.bool (bne_iff_ne.2 c6)) ?_
    refine gl_nil ?_
    refine ge_then ?_
    refine gc_yes ?_
    refine gc_seq ?_
    refine gc_reg ?_
    refine t 13 (.int .i64 (rfR s q f (fee E) (coin E s) (seqn E s))) ?_
    refine t 4 (.int .i64 (rfR s q f (fee E) (coin E s) (seqn E s))) ?_
    refine gl_nil ?_
    refine ge_then ?_
    refine gc_fr [(0, pg g), (3, pg g2), (4, .int .i64 (rfR s q f (fee E) (coin E s) (seqn E s)))] (by kernel_rfl) ?_
    refine gc_ret ?_
    refine ge_tr ?_
    refine ge_ret (.int .i64 (rfR s q f (fee E) (coin E s) (seqn E s))) (rs1 4 (by kernel_rfl) (by kernel_rfl)) ?_
    rw [adm_no (q := q) (show admR E s q f ≠ 0 by rw [adm_rf c6]; exact c6), adm_rf c6]
    exact ⟨rfl, _, _, _, A.sx, by omega, by omega, A.km, A.cc⟩
end Bk
end Go.Proofs.YtagnmdejdeeenaaGreat

namespace Go.Proofs.YtagnmdejdeeenaaGreat
namespace Bk
open Go.RowKit Go.Lib Pg Lim Gl Kv
attribute [local go_sem] Oper.semAt_some
section
variable {B : Nat} {w : World} {K : Nat → Prop} {g : Nat} {E E' : Ents} {W : List Ents} {n N P : Nat} {args : Array Value} {r r' : Value}
theorem SxG.cast (h : Calls Tryz.prog P args w (SxG B w K g E W n N r)) (hE : E = E') (hr : r = r') : Calls Tryz.prog P args w (SxG B w K g E' W n N r') := by subst hE hr; exact h
end
def kE0 : Ents := put [] pk (ppv 3)
def kE1 : Ents := mintE kE0 16 10
def kE2 : Ents := admE kE1 16 0 3
set_option maxRecDepth 100000
set_option maxHeartbeats 2000000
set_option linter.unusedVariables false
theorem known18 {w : World} : Calls Tryz.prog 5 #[] w fun e w' => e = .returned (.bool true) ∧ Below w.heap.size w w' := by
  refine gc_enter (n := 60) Tryz.func5 rfl (by kernel_rfl) (by kernel_rfl) ?_
  refine gc_seq ?_
  refine gc_reg ?_
  refine t 0 (.bool false) ?_
  refine gl_nil ?_
  refine ge_then ?_
  refine gc_seq ?_
  refine gc_reg ?_
  refine tc 7 6 #[] (snewX) ?_
  rintro _ v1 ⟨g0, K0, rfl, S0, hK0, B0⟩
  refine ⟨_, rfl, ?_⟩
  have A := S0.at
  clear S0
  refine t 1 (pg g0) ?_
  refine gl_nil ?_
  refine ge_then ?_
  refine gc_seq ?_
  refine gc_seq ?_
  refine gc_reg ?_
  refine t 8 (pg g0) ?_
  refine t 9 (.bool false) ?_
  refine gl_nil ?_
  refine ge_then ?_
  refine gc_no ?_
  refine gc_skip ?_
  refine ge_then ?_
  refine gc_seq ?_
  refine gc_reg ?_
  refine t 10 (pg g0) ?_
  refine t 11 (.agg #[.int .u64 0, .int .u64 0, .int .u64 0, .int .u64 0, .int .u64 0, .int .u64 0, .int .u64 0, .int .u64 0, .int .u64 3, .int .u64 0]) ?_
  refine tc 12 7 #[pg g0, .agg #[.int .u64 0, .int .u64 0, .int .u64 0, .int .u64 0, .int .u64 0, .int .u64 0, .int .u64 0, .int .u64 0, .int .u64 3, .int .u64 0]] (setp_any (f := 3) A.sx (by omega) (by omega)) ?_
  rintro _ v3 ⟨rfl, K2, S, hK, hC⟩
  refine ⟨_, rfl, ?_⟩
  replace A := A.op S hK hC
  clear S hK hC
  refine gl_nil ?_
  refine ge_then ?_
  refine gc_seq ?_
  refine gc_reg ?_
  refine t 13 (pg g0) ?_
  refine tc 14 9 #[pg g0, .int .u64 16, .int .u64 10] (SxF.cast (E' := kE1) (r' := .int .i64 0) (mint_any (id := 16) (k := 10) A.sx (by decide) (by decide) (by omega) (by omega)) rfl (by kernel_rfl)) ?_
  rintro _ v7 ⟨rfl, K4, n5, N6, S, qn5, qN6, hK, hC⟩
  refine ⟨_, rfl, ?_⟩
  replace A := A.op S hK hC
  clear S hK hC
  refine gl_nil ?_
  refine ge_then ?_
  refine gc_seq ?_
  refine gc_reg ?_
  refine t 15 (pg g0) ?_
  refine t 16 (.agg #[.int .u64 16, .int .u64 0, .int .u64 3, .int .i64 0, .int .u64 0, .int .u64 0, .int .u64 0]) ?_
  refine tc 17 11 #[pg g0, .agg #[.int .u64 16, .int .u64 0, .int .u64 3, .int .i64 0, .int .u64 0, .int .u64 0, .int .u64 0]] (SxG.cast (E' := kE2) (r' := .int .i64 0) (adm_any (s := 16) (q := 0) (f := 3) A.sx (by decide) (by decide) (by omega) (by omega)) rfl (by kernel_rfl)) ?_
  rintro _ v11 ⟨rfl, K8, n9, N10, S, qn9, qN10, hK, hC⟩
  refine ⟨_, rfl, ?_⟩
  replace A := A.op S hK hC
  clear S hK hC
  refine t 2 (.int .i64 0) ?_
  refine gl_nil ?_
  refine ge_then ?_
  refine gc_fr [(0, .bool false), (1, pg g0), (2, .int .i64 0)] (by kernel_rfl) ?_
  refine gc_seq ?_
  refine gc_reg ?_
  refine t 18 (pg g0) ?_
  refine t 19 (.agg #[.int .u64 16, .int .u64 0, .int .u64 3, .int .i64 0, .int .u64 0, .int .u64 0, .int .u64 0]) ?_
  refine tc 20 11 #[pg g0, .agg #[.int .u64 16, .int .u64 0, .int .u64 3, .int .i64 0, .int .u64 0, .int .u64 0, .int .u64 0]] (SxG.cast (E' := kE2) (r' := .int .i64 183) (adm_any (s := 16) (q := 0) (f := 3) A.sx (by decide) (by decide) (by omega) (by omega)) (by kernel_rfl) (by kernel_rfl)) ?_
  rintro _ v15 ⟨rfl, K12, n13, N14, S, qn13, qN14, hK, hC⟩
  refine ⟨_, rfl, ?_⟩
  replace A := A.op S hK hC
  clear S hK hC
  refine t 3 (.int .i64 183) ?_
  refine gl_nil ?_
  refine ge_then ?_
  refine gc_seq ?_
  refine gc_reg ?_
  refine t 21 (pg g0) ?_
  refine t 22 (.agg #[.int .u64 16, .int .u64 1, .int .u64 2, .int .i64 0, .int .u64 0, .int .u64 0, .int .u64 0]) ?_
  refine tc 23 11 #[pg g0, .agg #[.int .u64 16, .int .u64 1, .int .u64 2, .int .i64 0, .int .u64 0, .int .u64 0, .int .u64 0]] (SxG.cast (E' := kE2) (r' := .int .i64 181) (adm_any (s := 16) (q := 1) (f := 2) A.sx (by decide) (by decide) (by omega) (by omega)) (by kernel_rfl) (by kernel_rfl)) ?_
  rintro _ v19 ⟨rfl, K16, n17, N18, S, qn17, qN18, hK, hC⟩
  refine ⟨_, rfl, ?_⟩
  replace A := A.op S hK hC
  clear S hK hC
  refine t 4 (.int .i64 181) ?_
  refine gl_nil ?_
  refine ge_then ?_
  refine gc_seq ?_
  refine gc_reg ?_
  refine t 24 (pg g0) ?_
  refine t 25 (.agg #[.int .u64 16, .int .u64 1, .int .u64 8, .int .i64 0, .int .u64 0, .int .u64 0, .int .u64 0]) ?_
  refine tc 26 11 #[pg g0, .agg #[.int .u64 16, .int .u64 1, .int .u64 8, .int .i64 0, .int .u64 0, .int .u64 0, .int .u64 0]] (SxG.cast (E' := kE2) (r' := .int .i64 182) (adm_any (s := 16) (q := 1) (f := 8) A.sx (by decide) (by decide) (by omega) (by omega)) (by kernel_rfl) (by kernel_rfl)) ?_
  rintro _ v23 ⟨rfl, K20, n21, N22, S, qn21, qN22, hK, hC⟩
  refine ⟨_, rfl, ?_⟩
  replace A := A.op S hK hC
  clear S hK hC
  refine t 5 (.int .i64 182) ?_
  refine gl_nil ?_
  refine ge_then ?_
  refine gc_fr [(0, .bool false), (1, pg g0), (2, .int .i64 0), (3, .int .i64 183), (4, .int .i64 181), (5, .int .i64 182)] (by kernel_rfl) ?_
  refine gc_seq ?_
  refine gc_reg ?_
  refine t 27 (pg g0) ?_
  refine t 28 (.agg #[.int .u64 4, .int .u64 0, .int .u64 3, .int .i64 0, .int .u64 0, .int .u64 0, .int .u64 0]) ?_
  refine tc 29 11 #[pg g0, .agg #[.int .u64 4, .int .u64 0, .int .u64 3, .int .i64 0, .int .u64 0, .int .u64 0, .int .u64 0]] (SxG.cast (E' := kE2) (r' := .int .i64 180) (adm_any (s := 4) (q := 0) (f := 3) A.sx (by decide) (by decide) (by omega) (by omega)) (by kernel_rfl) (by kernel_rfl)) ?_
  rintro _ v27 ⟨rfl, K24, n25, N26, S, qn25, qN26, hK, hC⟩
  refine ⟨_, rfl, ?_⟩
  replace A := A.op S hK hC
  clear S hK hC
  refine t 6 (.int .i64 180) ?_
  refine gl_nil ?_
  refine ge_then ?_
  refine gc_seq ?_
  refine gc_reg ?_
  refine t 30 (.int .i64 0) ?_
  refine t 31 (.bool true) ?_
  refine t 32 (.bool true) ?_
  refine t 33 (.int .i64 183) ?_
  refine t 34 (.bool true) ?_
  refine t 35 (.bool true) ?_
  refine t 36 (.bool true) ?_
  refine t 37 (.int .i64 181) ?_
  refine t 38 (.bool true) ?_
  refine t 39 (.bool true) ?_
  refine t 40 (.bool true) ?_
  refine t 41 (.int .i64 182) ?_
  refine t 42 (.bool true) ?_
  refine t 43 (.bool true) ?_
  refine t 44 (.bool true) ?_
  refine t 45 (.int .i64 180) ?_
  refine t 46 (.bool true) ?_
  refine t 47 (.bool true) ?_
  refine t 48 (.bool true) ?_
  refine t 49 (pg g0) ?_
  refine tc 50 15 #[pg g0, .int .u64 16] (SxE.cast (r' := .agg #[.int .u64 7, .int .u64 1]) (get_any (id := 16) A.sx (by decide) (by omega) (by omega)) (by kernel_rfl)) ?_
  rintro _ v29 ⟨rfl, K28, S, hK, hC⟩
  refine ⟨_, rfl, ?_⟩
  replace A := A.op S hK hC
  clear S hK hC
  refine t 51 (.agg #[.int .u64 7, .int .u64 1]) ?_
  refine t 52 (.bool true) ?_
  refine t 53 (.bool true) ?_
  refine t 54 (.bool true) ?_
  refine t 55 (pg g0) ?_
  refine tc 56 15 #[pg g0, .int .u64 1] (SxE.cast (r' := .agg #[.int .u64 3, .int .u64 0]) (get_any (id := 1) A.sx (by decide) (by omega) (by omega)) (by kernel_rfl)) ?_
  rintro _ v31 ⟨rfl, K30, S, hK, hC⟩
  refine ⟨_, rfl, ?_⟩
  replace A := A.op S hK hC
  clear S hK hC
  refine t 57 (.int .u64 3) ?_
  refine t 58 (.bool true) ?_
  refine t 59 (.bool true) ?_
  refine t 0 (.bool true) ?_
  refine gl_nil ?_
  refine ge_then ?_
  refine gc_fr [(0, .bool true)] (by kernel_rfl) ?_
  refine gc_ret ?_
  refine ge_ret (.bool true) (rs1 0 (by kernel_rfl) (by kernel_rfl)) ?_
  exact ⟨rfl, ((Chg.of (F := fun _ => False) B0).trans A.cc (fun b hl hk => by have := hK0 b hk; omega)).nothing⟩
theorem snewB {w : World} (Bz : Nat) (hb : Bz = w.heap.size) : Calls Tryz.prog 6 #[] w fun e w' => ∃ g K, e = .returned (pg g) ∧ Sx Bz w' K g [] [] 0 0 ∧ (∀ b, K b → Bz ≤ b) ∧ Below w.heap.size w w' := by
  subst hb
  exact snewX
/-- purses, as an argument lays them -/
structure PrsA (w : World) (ao : Option Addr) (n b o : Nat) (cI cC : Nat → Int) : Prop where
  ptr : 0 < n → ao = some ⟨b, o, none⟩
  cell : ∀ i, i < n → w.cell? ⟨b, o + i * 2, none⟩ = some (.int .u64 (cI i)) ∧ w.cell? ⟨b, o + i * 2 + 1, none⟩ = some (.int .u64 (cC i))
  rng : ∀ i, i < n → U64 (cI i) ∧ U64 (cC i)
/-- transactions, as an argument lays them -/
structure TxsA (w : World) (ao : Option Addr) (n b o : Nat) (xS xQ xF xM xA xB xC : Nat → Int) : Prop where
  ptr : 0 < n → ao = some ⟨b, o, none⟩
  cell : ∀ i, i < n → w.cell? ⟨b, o + i * 7, none⟩ = some (.int .u64 (xS i)) ∧ w.cell? ⟨b, o + i * 7 + 1, none⟩ = some (.int .u64 (xQ i)) ∧ w.cell? ⟨b, o + i * 7 + 2, none⟩ = some (.int .u64 (xF i)) ∧ w.cell? ⟨b, o + i * 7 + 3, none⟩ = some (.int .i64 (xM i)) ∧ w.cell? ⟨b, o + i * 7 + 4, none⟩ = some (.int .u64 (xA i)) ∧ w.cell? ⟨b, o + i * 7 + 5, none⟩ = some (.int .u64 (xB i)) ∧ w.cell? ⟨b, o + i * 7 + 6, none⟩ = some (.int .u64 (xC i))
  rng : ∀ i, i < n → U64 (xS i) ∧ U64 (xQ i) ∧ U64 (xF i)
theorem ld_tx {w : World} {g o : Nat} {v0 v1 v2 v3 v4 v5 v6 : Value} (c0 : w.cell? ⟨g, o, none⟩ = some v0) (c1 : w.cell? ⟨g, o + 1, none⟩ = some v1) (c2 : w.cell? ⟨g, o + 2, none⟩ = some v2) (c3 : w.cell? ⟨g, o + 3, none⟩ = some v3) (c4 : w.cell? ⟨g, o + 4, none⟩ = some v4) (c5 : w.cell? ⟨g, o + 5, none⟩ = some v5) (c6 : w.cell? ⟨g, o + 6, none⟩ = some v6) : (loadVar 46 ⟨g, o, none⟩).run Tryz.prog w = .ok (.agg #[v0, v1, v2, v3, v4, v5, v6]) w := by go_simp
theorem run_ldt {ρ : Operand → Value} {o : Oper} {w W : World} {b off n k : Nat} {ao : Option Addr} {xS xQ xF xM xA xB xC : Nat → Int} (S : TxsA w ao n b off xS xQ xF xM xA xB xC) (hk : k < n) (B : Below w.heap.size w W) (ho : ∃ p, o.op = .load 46 p ∧ ρ p = .pointer (some ⟨b, off + k * 7, none⟩) := by exact ⟨_, rfl, by kernel_rfl⟩) : (execOp ρ o).run Tryz.prog W = .ok (.value (.agg #[.int .u64 (xS k), .int .u64 (xQ k), .int .u64 (xF k), .int .i64 (xM k), .int .u64 (xA k), .int .u64 (xB k), .int .u64 (xC k)])) W := by
  obtain ⟨p, h, hp⟩ := ho
  obtain ⟨c0, c1, c2, c3, c4, c5, c6⟩ := S.cell k hk
  have := ld_tx (cellB B c0) (cellB B c1) (cellB B c2) (cellB B c3) (cellB B c4) (cellB B c5) (cellB B c6)
  simp only [execOp, h, hp]
  simp [Instr.loadAt, Instr.sureAddr, Result.andThen, this]
end Bk
end Go.Proofs.YtagnmdejdeeenaaGreat
