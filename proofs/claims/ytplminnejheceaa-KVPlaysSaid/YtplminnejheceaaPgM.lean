/- Entries and pages in memory. -/
import Derived.Test.YtplminnejheceaaPgT
namespace Go.Proofs.Ytplminnejheceaa
namespace Pg
open Go.RowKit Go.Lib

/-- an entry: its two values, and the bytes that they hold -/
structure En where
  kv : Value
  kl : List Int
  vv : Value
  vl : List Int
structure EnA (w : World) (D : Nat → Prop) (e : En) : Prop where
  k : OB w D e.kv e.kl
  v : OB w D e.vv e.vl
theorem EnA.keep {w w' : World} {D : Nat → Prop} {e : En} (h : EnA w D e) (hb : Below w.heap.size w w') : EnA w' D e := ⟨h.k.keep hb, h.v.keep hb⟩
theorem EnA.mono {w : World} {D D' : Nat → Prop} {e : En} (h : EnA w D e) (hD : ∀ b, b < w.heap.size → D b → D' b) : EnA w D' e := ⟨h.k.mono hD, h.v.mono hD⟩
theorem EnA.same {w w' : World} {D : Nat → Prop} {e : En} (h : EnA w D e) (hD : ∀ b, b < w.heap.size → D b → w'.heap[b]? = w.heap[b]?) : EnA w' D e := ⟨h.k.same hD, h.v.same hD⟩
/-- the cells of entries -/
def flat : List En → List Value
  | [] => []
  | e :: l => e.kv :: e.vv :: flat l
theorem flat_len : ∀ (l : List En), (flat l).length = l.length * 2
  | [] => rfl
  | e :: l => by simp [flat, flat_len l]; omega
theorem flat_append : ∀ (a b : List En), flat (a ++ b) = flat a ++ flat b
  | [], b => rfl
  | e :: a, b => by simp [flat, flat_append a b]
theorem flat_k : ∀ {l : List En} {i : Nat} {e : En}, l[i]? = some e → (flat l)[i * 2]? = some e.kv
  | [], _, _, h => by simp at h
  | x :: l, 0, e, h => by simp at h; subst h; rfl
  | x :: l, i + 1, e, h => by
    rw [show (i + 1) * 2 = i * 2 + 1 + 1 by omega, flat, List.getElem?_cons_succ, List.getElem?_cons_succ]
    exact flat_k (l := l) (by simpa using h)
theorem flat_v : ∀ {l : List En} {i : Nat} {e : En}, l[i]? = some e → (flat l)[i * 2 + 1]? = some e.vv
  | [], _, _, h => by simp at h
  | x :: l, 0, e, h => by simp at h; subst h; rfl
  | x :: l, i + 1, e, h => by
    rw [show (i + 1) * 2 + 1 = i * 2 + 1 + 1 + 1 by omega, flat, List.getElem?_cons_succ, List.getElem?_cons_succ]
    exact flat_v (l := l) (by simpa using h)
theorem flat_take : ∀ (l : List En) (i : Nat), (flat l).take (i * 2) = flat (l.take i)
  | [], i => by simp [flat]
  | x :: l, 0 => by simp [flat]
  | x :: l, i + 1 => by
    rw [show (i + 1) * 2 = i * 2 + 1 + 1 by omega, flat, List.take_succ_cons, List.take_succ_cons, flat_take l i, List.take_succ_cons, flat]
theorem flat_drop : ∀ (l : List En) (i : Nat), (flat l).drop (i * 2) = flat (l.drop i)
  | [], i => by simp [flat]
  | x :: l, 0 => by simp
  | x :: l, i + 1 => by
    rw [show (i + 1) * 2 = i * 2 + 1 + 1 by omega, flat, List.drop_succ_cons, List.drop_succ_cons, flat_drop l i, List.drop_succ_cons]
theorem flat_one {w : World} {D : Nat → Prop} : ∀ {l : List En}, (∀ e ∈ l, EnA w D e) → ∀ v ∈ flat l, v.oneCell' = true
  | [], _, v, h => by simp [flat] at h
  | x :: l, h, v, hv => by
    have hx := h x List.mem_cons_self
    rcases List.mem_cons.1 hv with rfl | hv
    · exact hx.k.one
    · rcases List.mem_cons.1 hv with rfl | hv
      · exact hx.v.one
      · exact flat_one (l := l) (fun e he => h e (List.mem_cons_of_mem _ he)) v hv
theorem flat_set_v : ∀ {l : List En} {i : Nat} {e : En} (u : Value) (ul : List Int), l[i]? = some e → (flat l).set (i * 2 + 1) u = flat (l.set i { e with vv := u, vl := ul })
  | [], _, _, _, _, h => by simp at h
  | x :: l, 0, e, u, ul, h => by simp at h; subst h; simp [flat]
  | x :: l, i + 1, e, u, ul, h => by
    rw [show (i + 1) * 2 + 1 = i * 2 + 1 + 1 + 1 by omega, flat, List.set_cons_succ, List.set_cons_succ, flat_set_v (l := l) u ul (by simpa using h), List.set_cons_succ, flat]
/-- keys -/
def kys (l : List En) : List (List Int) := l.map En.kl

/-- a page: its block, how many entries it has room for, and its entries -/
structure Pg where
  b : Nat
  c : Nat
  es : List En
def Pg.v (p : Pg) : Value := .slice (some ⟨p.b, 0, none⟩) p.es.length p.c
/-- a page in memory -/
structure PgA (w : World) (D : Nat → Prop) (p : Pg) : Prop where
  row : Rw w 90 2 p.b p.es.length p.c (flat p.es)
  ents : ∀ e ∈ p.es, EnA w D e
theorem PgA.keep {w w' : World} {D : Nat → Prop} {p : Pg} (h : PgA w D p) (hb : Below w.heap.size w w') : PgA w' D p := ⟨h.row.keep hb, fun e he => (h.ents e he).keep hb⟩
theorem PgA.one {w : World} {D : Nat → Prop} {p : Pg} (h : PgA w D p) : ∀ v ∈ flat p.es, v.oneCell' = true := flat_one h.ents

set_option maxHeartbeats 1000000 in
set_option maxRecDepth 100000 in
/-- an entry's key held against another -/
theorem cmpE {w : World} {kv vv v : Value} {l l' : List Int} (h : By w kv l) (h' : By w v l') :
    Calls Try.prog 92 #[.agg #[kv, vv], v] w fun e w' => e = .returned (.int .i64 (cmpB l l')) ∧ Below w.heap.size w w' := by
  have hb := below_alloc w (.cells #[kv, vv] 90)
  have tC := compare_any (h.keep hb) (h'.keep hb)
  have B := blk_new w [kv, vv] 90
  have q0 := B.cell (i := 0) rfl
  clear h h' B
  generalize cmpB l l' = x at *
  go_enter Try.func92, Try.ntmps92
  go_wp2_with (go_at_call 90; refine tC.mono ?_; rintro e w1 ⟨rfl, rfl⟩)
  go_ret
  exact ⟨rfl, hb⟩
end Pg
end Go.Proofs.Ytplminnejheceaa
