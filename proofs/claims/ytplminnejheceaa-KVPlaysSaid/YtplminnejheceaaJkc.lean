/- Several texts, joined: KvBa, KvBb, KvBc, KvBh, KvBd, KvBe. -/
import Derived.Test.YtplminnejheceaaJkb
import Derived.Test.YtplminnejheceaaPgWd
import Derived.Test.YtplminnejheceaaPgHl
import Derived.Shelf.Abstract
import Derived.Shelf.RegionOpen
import Derived.OwnWalkIn
import Derived.TacticsInMore
import Derived.LoopNIn
import Derived.LoopIn
namespace Go.Proofs.Ytplminnejheceaa
namespace Kv
open Go.RowKit Go.Lib Pg
attribute [local go_sem] Oper.semAt_some
theorem wli_val {F : Fence} {n : Nat} {ops : Array Oper} {Q : Exit → Act → World → Prop} {rest : List Oper} {o : Oper} {a : Act} {w w' : World} {v : Value} (hg : o.guard = none) (hF : ∀ f, F.fn f) (hs : o.semAt F.round a.eval = execOp a.eval o) (hrun : (execOp a.eval o).run Try.prog w = .ok (.value v) w') (h : wpListIn F n Try.prog ops Q rest (a.put o.dst v) w') : wpListIn F n Try.prog ops Q (o :: rest) a w :=
  wpListIn_plain hg fun K hK => by
    unfold Oper.wpIn
    rw [hs, hrun, Oper.uponIn_value]
    exact ⟨fun f _ => hF f, hK _ _ h⟩
theorem wli_apq {F : Fence} {n x y d : Nat} {ops : Array Oper} {Q : Exit → Act → World → Prop} {rest : List Oper} {pos : String} {after : Array Edge} {a : Act} {w w' : World} {u v r : Value} (hF : ∀ f, F.fn f) (hu : a.eval (.tmp x) = u) (hv : a.eval (.tmp y) = v) (hr : (Builtin.append_ #[28, 28] 28 #[u, v]).run Try.prog w = .ok r w') (h : wpListIn F n Try.prog ops Q rest (a.put (some d) r) w') :
    wpListIn F n Try.prog ops Q ({ dst := some d, op := .call { callee := .builtin .append, args := #[.tmp x, .tmp y], argTypes := #[28, 28] }, type := 28, pos := pos, after := after, guard := none } :: rest) a w :=
  wli_val rfl hF (Oper.semAt_eq _ _ _ (fun c h => by cases h)) (run_ap (x := x) (y := y) rfl rfl hu hv hr) h
/-- the map of a store, to be walked -/
theorem SX.wm {w : World} {K D F V : Nat → Prop} {g m : Nat} {Q : List (List KV)} {jv : Value} {T : List Jr} {oj : Option Nat} {n N : Nat} (h : SX w K D F V g m Q jv T oj n N) (hN : N ≤ 100000000) {X : Nat → Prop} (h1 : ∀ b, X b → ¬ F b) (h2 : ∀ b, X b → ∀ cs, ¬ Blk w b cs 5) (h3 : ∀ b, X b → b < w.heap.size) :
    ∃ L, Wm w X F D m L ∧ ∀ f t, (wlk (ens L) f t).map En.kl2 = Q.flatten.filter (abtw f t) := by
  obtain ⟨L, rfl, A, O, S, k, r⟩ := h.map.ex
  exact ⟨L, ⟨A, O, fun es he => (S.one es he).2, S.few k hN, r, h1, h2, h3⟩, fun f t => abs_walk O f t⟩
theorem abtw_all (x : KV) : abtw [] [] x = true := by
  simp [abtw, Lt]
  cases x.1 <;> simp [cmpB]
def TpD (t : TypeId) : Prop := t = 45
set_option maxHeartbeats 8000000 in
set_option maxRecDepth 100000 in
theorem sdump {w : World} {K D : Nat → Prop} {g n N : Nat} {E : Ents} {W : List Ents} (h : SA w K D g E W n N) (hN : N ≤ 100000000) :
    Calls Try.prog 15 #[.pointer (some ⟨g, 0, none⟩)] w fun e w' => ∃ v es, e = .returned v ∧ PrA w' w.heap.size v es ∧ es.map En.kl2 = E ∧ Below w.heap.size w w' := by
  have hsm := h.small
  have hsz := h.size
  obtain ⟨F, V, m, Q, jv, T, oj, hX, rfl, hB⟩ := h.open
  have b1 := below_alloc w (.cells #[.slice none 0 0] 28)
  have c1 := blk_new w [.slice none 0 0] 28
  have X1 := hX.keep b1
  obtain ⟨L, K2, hwl⟩ := X1.wm hN (X := (· = w.heap.size)) (fun b e hF => by have e' : b = w.heap.size := e; have := hX.map.lt hF; omega) (fun b e cs k => by
    have e' : b = w.heap.size := e
    subst e'
    exact absurd (c1.eq k).2 (by decide)) (fun b e => by have e' : b = w.heap.size := e; simp; omega)
  have hEq : (wlk (ens L) [] []).map En.kl2 = Q.flatten := by rw [hwl, List.filter_eq_self.2 (fun x _ => abtw_all x)]
  have tW := walk_any (Tp := TpD) K2 (By.nil _) (By.nil _) (by decide) (by decide) (by unfold TpD; decide) (by unfold TpD; decide)
  have g0 := X1.blk.cell (i := 0) rfl
  obtain ⟨En0, hE⟩ : ∃ E, Hid (wlk (ens L) [] [] = E) := ⟨_, rfl⟩
  rw [hE.out] at tW hEq
  have hEQ := hid3 hEq
  have hlen : En0.length ≤ N := by have := congrArg List.length hEq; simp only [List.length_map] at this; omega
  have sz1 : (w.alloc (.cells #[.slice none 0 0] 28)).heap.size = w.heap.size + 1 := by simp
  have HB1 := hid3 b1
  have HC1 := hid3 c1
  clear h hX X1 K2 hwl hEq hB
  obtain ⟨Wa, hWa⟩ : ∃ Wa, Hid (w.alloc (.cells #[.slice none 0 0] 28) = Wa) := ⟨_, rfl⟩
  rw [hWa.out] at tW g0 sz1 HB1 HC1
  have c1 := HC1.out
  refine (callsIn_wide (n := 0)).1 ?_
  refine callsIn_of_wp_marks Try.func15 rfl trivial ?_ rfl
  simp only [Try.ntmps15, List.size_toArray, List.length_cons, List.length_nil, Nat.reduceAdd, Nat.reduceSub, Array.replicate_succ, Array.replicate_zero, List.push_toArray, List.append_toArray, List.nil_append, List.cons_append]
  rw [← hWa.out] at g0
  gi_wp2_with (refine ⟨trivial, rfl, ?_⟩; gi_at_call 43; rw [hWa.out]; refine (callsIn_wide.2 tW).mono ?_; rintro e' w1 ⟨bw, rfl, hB1, IT⟩)
  have cb := c1.keep hB1
  clear tW
  have q1 := hB1.size
  refine rf_outer IT (by rfl) (enters_of Try.func73 (by kernel_rfl) rfl) (fun i args n V V' h hc => h.cel hc) (fun i args n V h => by obtain ⟨e, kv, vv, s, _, rfl, _⟩ := h; rfl)
    (fun i V => Gone w1 V w.heap.size En0 i) (fun _ _ _ => False)
    (fun i A B hx hr => hx.rcd hr) (fun _ _ _ _ hx _ => hx)
    (fun i V hv => hv.chg) ⟨Chg.refl _ _, _, [], cb, ⟨.inl ⟨rfl, rfl⟩, fun e he => by cases he⟩, rfl⟩ ?_ ?_ ?_
  · rintro l2 i args V Wv hl hlV hrec hiN hG hb ⟨e0, kv, vv, s0, he0, rfl, hk0, hv0, _⟩
    obtain ⟨ak, nk, hk1⟩ := hk0.shape
    obtain ⟨av, nv, hv1⟩ := hv0.shape
    subst hk1 hv1
    simp
    gi_wp2
    refine ⟨Below.refl _ _, ?_⟩
    intro V2 W2 hG2 hb2 hAr2 hoth hsz3 hV2 r hrec2
    obtain ⟨e1, kv1, vv1, t1, he1, harr, hk2, hv2, ht1⟩ := hAr2
    obtain rfl : e1 = e0 := by rw [he0] at he1; cases he1; rfl
    simp at harr
    obtain ⟨rfl, rfl⟩ := harr
    obtain ⟨ov, es, g1, g2, g3⟩ := hG2.out
    have hlen2 : es.length = i := by have := congrArg List.length g3; simp at this; omega
    obtain ⟨ao0, cc0, rfl⟩ := g2.shape
    have S0 := g1.keep hb2
    have P0 := g2.keep hb2
    have z1 := hG2.chg.size
    have z2 := hb2.size
    have hBa := below_alloc W2 (.cells #[.slice ak e1.kl.length nk, .slice av e1.vl.length nv] 45)
    have N4 := blk_new W2 [.slice ak e1.kl.length nk, .slice av e1.vl.length nv] 45
    have z5 := hBa.size
    have hE4 : EnA (W2.alloc (.cells #[.slice ak e1.kl.length nk, .slice av e1.vl.length nv] 45)) (fun b => w1.heap.size ≤ b) ⟨.slice ak e1.kl.length nk, e1.kl, .slice av e1.vl.length nv, e1.vl⟩ := ⟨(hk2.keep hBa).mono (fun b _ hb => by omega), (hv2.keep hBa).mono (fun b _ hb => by omega)⟩
    obtain ⟨ov5, w5, hr5, P5, hS5⟩ := app_pair (e := ⟨.slice ak e1.kl.length nk, e1.kl, .slice av e1.vl.length nv, e1.vl⟩) (a := ⟨W2.heap.size, 0, none⟩) 28 (P0.keep hBa) (by omega) hE4 (by omega) (N4.cell (i := 0) rfl) (N4.cell (i := 1) rfl)
    have S4 := S0.keep hBa
    have S5 := hS5.blk S4 (by decide)
    have s0c := S0.cell (i := 0) rfl
    obtain ⟨es2, hes2⟩ : ∃ es2, Hid (es ++ [(⟨.slice ak e1.kl.length nk, e1.kl, .slice av e1.vl.length nv, e1.vl⟩ : En)] = es2) := ⟨_, rfl⟩
    have hes4 : Hid (es2.map En.kl2 = (En0.take (i + 1)).map En.kl2) := by
      show _ = _
      rw [← hes2.out, List.map_append, g3, List.take_add_one, he0, List.map_append]
      rfl
    simp only [hes2.out] at P5
    obtain ⟨ao5, cc5, rfl⟩ := P5.shape
    have s5c := S5.cell (i := 0) rfl
    have s5f := S5.free 0
    have HP5 := hid3 P5
    have HS5 := hid3 S5
    have HSp := hid3 hS5
    have HBa := hid3 hBa
    have HG2 := hid3 hG2
    have HB2 := hid3 hb2
    have hsl := S4.cell (i := 0) rfl
    replace hlen2 := hid3 hlen2
    replace hsz3 := hid3 hsz3
    replace hV2 := hid3 hV2
    clear hG hk0 hv0 hb hoth P5 S5 hS5 hBa N4 hE4 P0 S0 g1 g2 g3 hk2 hv2 hb2 hG2 S4
    gi_wp2_with (have gate := hr5; clear gate; refine wli_apq (fun _ => trivial) rfl rfl hr5 ?_; clear hr5)
    have hC6 : Chg (· = w.heap.size) w5 (w5.setCell ⟨w.heap.size, 0, none⟩ (.slice ao5 es2.length cc5)) := (Chg.refl (fun x => x = w.heap.size) w5).cell (.inl (by rfl)) _
    have hboU : ∀ b, b = w.heap.size → ∀ cs, ¬ Blk w5 b cs 5 := fun b hb cs k => by
      subst hb
      have := (k.eq HS5.out).2
      revert this
      decide
    have P6 : PrA (w5.setCell ⟨w.heap.size, 0, none⟩ (.slice ao5 es2.length cc5)) w1.heap.size (.slice ao5 es2.length cc5) es2 := ⟨HP5.out.ex.imp id (fun ⟨b, c, e, hl, hR⟩ => ⟨b, c, e, hl, hR.chg hC6 (by omega)⟩), fun e he => ⟨(HP5.out.ents e he).k.chg hC6 hboU, (HP5.out.ents e he).v.chg hC6 hboU⟩⟩
    refine ⟨((KeepsT.of (Tp := TpD) (B := w1.heap.size) HBa.out).trans (HSp.out.keeps (Tp := TpD) rfl)).trans ⟨hC6.size, fun k o hk h0 _ => (hC6.same k (lt_of_block h0) (by omega)).trans h0⟩, ⟨?_, _, es2, HS5.out.setCell (i := 0) _, P6, hes4.out⟩⟩
    exact (((HG2.out.chg.trans (Chg.of (F := fun _ => False) (joinB HB2.out HBa.out)) (fun _ _ h => h.elim)).trans HSp.out.chg (fun b h1 h2 => by omega))).trans hC6 (fun b _ h => h)
  · rintro D' W' hD hK hG
    obtain ⟨ov, es, g1, g2, g3⟩ := hG.out
    obtain ⟨ao, cc, rfl⟩ := g2.shape
    have g1c := g1.cell (i := 0) rfl
    gi_wp2
    refine ⟨by simp, .inl ⟨_, _, rfl, run_takeDeferred hK, ?_⟩⟩
    refine ⟨_, results_tmp rfl _ _ _, _, es, rfl, (g2.cel (Rec.put hK rfl hD _).cel).low (by omega), ?_, ?_⟩
    · rw [g3, List.take_length]; exact hEQ.out
    · exact gone_below HB1.out hB1 ((hG.rcd (Rec.put hK rfl hD _)).chg) (Nat.le_refl _)
  · rintro D' c i W' hD hK hi hF
    exact hF.elim
end Kv
end Go.Proofs.Ytplminnejheceaa

namespace Go.Proofs.Ytplminnejheceaa
namespace Kv
open Go.RowKit Go.Lib Pg
attribute [local go_sem] Oper.semAt_some
/-- one more operation -/
def tick (g : Nat) (V : World) (x : Nat) : World := V.setCell ⟨g, 2, none⟩ (.int .i64 ((x : Int) + 1))
/-- what an iterator promises that counts, at its start and ahead of each round -/
def ItrC (Tp : TypeId → Prop) (g x0 : Nat) (gf : Nat) (lb : Array Value) (N : Nat) (Ar : Nat → Array Value → Nat → World → Prop) (Rd : World → Prop) : Prop :=
  ∀ (l : Nat) (J0 : World → Prop) (J Jt Jx : Nat → World → Prop) (W : World), St W.heap.size J0 → (∀ i, St W.heap.size (J i)) → (∀ i, St W.heap.size (Jt i)) → (∀ i, St W.heap.size (Jx i)) → g < W.heap.size →
    (∀ V, J0 V → V.cell? ⟨g, 2, none⟩ = some (.int .i64 x0) ∧ V.frozen? ⟨g, 2, none⟩ = false ∧ Rd V ∧ J 0 (tick g V x0)) →
    (∀ i V, J i V → V.cell? ⟨g, 2, none⟩ = some (.int .i64 ((x0 + 1 + i : Nat) : Int)) ∧ V.frozen? ⟨g, 2, none⟩ = false ∧ Rd V ∧ (i < N → Jt i (tick g V (x0 + 1 + i)))) →
    (∀ i args V V', i < N → Jt i V → W.heap.size ≤ V.heap.size → Below V.heap.size V V' → Ar i args V.heap.size V' → YieldAt Fence.wide 0 Try.prog l args V' fun e V'' => KeepsT Tp W.heap.size V' V'' ∧ ((e = .returned (.bool true) ∧ J (i + 1) V'') ∨ (e = .returned (.bool false) ∧ Jx (i + 1) V''))) →
    J0 W →
    Calls Try.prog gf (#[.func (.yield l) #[] #[]] ++ lb) W fun e W' => (∃ v, e = .returned v) ∧ W.heap.size ≤ W'.heap.size ∧ (J N W' ∨ ∃ i, i < N ∧ Jx (i + 1) W')
theorem below_tick {g x : Nat} {V V' : World} (hb : Below V.heap.size V V') : Below (tick g V x).heap.size (tick g V x) (tick g V' x) := by
  unfold tick
  refine ⟨hb.os, hb.tape, hb.output, by simpa [World.setCell] using hb.size, fun k hk => ?_⟩
  have hk' : k < V.heap.size := by simpa [World.setCell] using hk
  by_cases e : k = g
  · subst e
    have h1 := hb.block k hk'
    simp only [World.setCell, Array.getElem?_modify, h1]
  · rw [Below.heap_setCell _ _ _ _ (by exact e), Below.heap_setCell _ _ _ _ (by exact e)]
    exact hb.block k hk'
theorem tick_size (g x : Nat) (V : World) : (tick g V x).heap.size = V.heap.size := by simp [tick, World.setCell]
theorem chg_tick (g x : Nat) (V : World) : Chg (· = g) V (tick g V x) := (Chg.refl (· = g) V).cell (.inl rfl) _
theorem arc_tick {E : List En} {i n g x : Nat} {args : Array Value} {V : World} (h : ArC E i args n V) (hg : ∃ cs, Blk V g cs 67) : ArC E i args n (tick g V x) := by
  obtain ⟨e, kv, vv, s, h1, h2, h3, h4, h5⟩ := h
  have hU : ∀ b, b = g → ∀ cs, ¬ Blk V b cs 5 := fun b hb cs k => by
    subst hb
    obtain ⟨cs', k'⟩ := hg
    exact absurd (k.eq k').2 (by decide)
  exact ⟨e, kv, vv, s, h1, h2, h3.chg (chg_tick g x V) hU, h4.chg (chg_tick g x V) hU, h5⟩
theorem ld_it {w : World} {g o : Nat} {v : Value} (c : w.cell? ⟨g, o, none⟩ = some v) : (loadVar 49 ⟨g, o, none⟩).run Try.prog w = .ok v w := by go_simp
/-- what a counted walk reads -/
def RdC (X : Nat → Prop) (W1 : World) (g bs1 bs2 bw : Nat) (V : World) : Prop := Chg X W1 V ∧ Blk V bs1 [.pointer (some ⟨g, 0, none⟩)] 25 ∧ Blk V bs2 [.func (.func 73) #[] #[.pointer (some ⟨bw, 0, none⟩)]] 49 ∧ ∃ cs, Blk V g cs 67
set_option maxHeartbeats 8000000 in
set_option maxRecDepth 100000 in
theorem counted_itr {Tp : TypeId → Prop} {X : Nat → Prop} {W1 : World} {g bs1 bs2 bw x0 : Nat} {E : List En} (IT : Itr Tp 73 #[.pointer (some ⟨bw, 0, none⟩)] E.length (ArC E) (fun V => Chg X W1 V)) (hT : ¬ Tp 46) (hx : x0 + E.length ≤ 3000000000000000000) :
    ItrC Tp g x0 71 #[.pointer (some ⟨bs1, 0, none⟩), .pointer (some ⟨bs2, 0, none⟩)] E.length (ArC E) (RdC X W1 g bs1 bs2 bw) := by
  intro l J0 J Jt Jx W hS0 hSJ hSt hSx hgW hJ0 hJ hY h0
  have B1 := below_alloc W (.cells #[.func (.yield l) #[] #[]] 46)
  have Y1 := blk_new W [.func (.yield l) #[] #[]] 46
  have J1 := hS0 _ _ h0 (Rec.of B1)
  obtain ⟨q1, q2, ⟨r1, r2, r3, r4⟩, q3⟩ := hJ0 _ J1
  have s1 : (W.alloc (.cells #[.func (.yield l) #[] #[]] 46)).heap.size = W.heap.size + 1 := by simp
  have cs := r2.cell (i := 0) rfl
  have uc := count_raw (g := g) q1 q2 (by omega) (by omega)
  have Yt := Y1.chg (chg_tick g x0 _) (by omega)
  have hst := (hJ 0 _ q3).2.2.1
  have cw := hst.2.2.1.cell (i := 0) rfl
  have HY := hid3 hY
  have HJ := hid3 hJ
  clear hJ0 hJ hY h0 J1 B1 Y1 r1 r2 r3 r4 q1 q2
  obtain ⟨Wa, hWa⟩ : ∃ Wa, Hid (W.alloc (.cells #[.func (.yield l) #[] #[]] 46) = Wa) := ⟨_, rfl⟩
  rw [hWa.out] at q3 s1 uc Yt hst cw
  refine (callsIn_wide (n := 0)).1 ?_
  refine callsIn_of_wp_marks Try.func71 rfl trivial ?_ rfl
  simp only [Try.ntmps71, List.size_toArray, List.length_cons, List.length_nil, Nat.reduceAdd, Nat.reduceSub, Array.replicate_succ, Array.replicate_zero, List.push_toArray, List.append_toArray, List.nil_append, List.cons_append]
  have tsz := tick_size g x0 Wa
  gi_wp2_with (refine ⟨trivial, rfl, ?_⟩; gi_at_call 45; rw [hWa.out]; refine (callsIn_wide.2 uc).mono ?_; rintro e' w0 ⟨rfl, hw0⟩; obtain rfl : w0 = tick g Wa x0 := hw0; clear uc cs)
  generalize tick g Wa x0 = Wt at *
  have sT : Wt.heap.size = W.heap.size + 1 := by omega
  refine rf_outer IT (by rfl) (enters_of Try.func73 (by kernel_rfl) rfl) (fun i args n V V' h hc => h.cel hc) (fun i args n V h => by obtain ⟨e, kv, vv, s, _, rfl, _⟩ := h; rfl)
    (fun i V => J i V ∧ W.heap.size + 1 ≤ V.heap.size ∧ Blk V W.heap.size [.func (.yield l) #[] #[]] 46)
    (fun c i V => c = .ret ∧ Jx i V ∧ W.heap.size + 1 ≤ V.heap.size)
    (fun i A B hx hr => ⟨hSJ i A B hx.1 (hr.mono (by omega)), Nat.le_trans hx.2.1 hr.size, rec_cel hx.2.2 hr⟩)
    (fun c i A B hx hr => ⟨hx.1, hSx i A B hx.2.1 (hr.mono (by omega)), Nat.le_trans hx.2.2 hr.size⟩)
    (fun i V hv => (HJ.out i V hv.1).2.2.1.1) ⟨q3, by omega, Yt⟩ ?_ ?_ ?_
  · rintro l2 i args V Wv hl hlV hrec hiN ⟨hJi, hsz, hY2⟩ hb ⟨e0, kv, vv, s0, he0, rfl, hk0, hv0, _⟩
    obtain ⟨ak, nk, hk1⟩ := hk0.shape
    obtain ⟨av, nv, hv1⟩ := hv0.shape
    subst hk1 hv1
    simp
    gi_wp2
    refine ⟨Below.refl _ _, ?_⟩
    intro V2 W2 hJ2 hsz2 hYb hb2 hAr2 hoth hsz3 hV2 r hrec2
    obtain ⟨p1, p2, ⟨k1, k2, k3, k4⟩, p3⟩ := HJ.out i V2 hJ2
    have glt : g < V2.heap.size := by obtain ⟨cs, k⟩ := k4; exact k.lt
    have c2 : W2.cell? ⟨g, 2, none⟩ = some (.int .i64 ((x0 + 1 + i : Nat) : Int)) := by rw [hb2.cell (p := ⟨g, 2, none⟩) glt]; exact p1
    have k4W : ∃ cs, Blk W2 g cs 67 := by obtain ⟨cs, k⟩ := k4; exact ⟨cs, k.keep hb2⟩
    have f2 : W2.frozen? ⟨g, 2, none⟩ = false := by obtain ⟨cs, k⟩ := k4W; exact k.free 2
    have cs2 := (k2.keep hb2).cell (i := 0) rfl
    have uc2 := count_raw (g := g) c2 f2 (by omega) (by omega)
    have hYW := (hYb.keep hb2).chg (chg_tick g (x0 + 1 + i) W2) (by omega)
    have yb := hYW.cell (i := 0) rfl
    have hA3 := arc_tick (x := x0 + 1 + i) hAr2 k4W
    rw [← tick_size g (x0 + 1 + i) V2] at hA3
    have hYY := HY.out i _ _ _ hiN (p3 hiN) (by rw [tick_size]; omega) (below_tick (x := x0 + 1 + i) hb2) hA3
    obtain ⟨fn, tmps, assign, body, hy, hR⟩ := hYY
    have hR2 : RoundIn (Fence.wide.inRound l2) 0 Try.prog l fn tmps assign body (tick g W2 (x0 + 1 + i)) _ := ⟨hR.1, fun c cs _ => hR.2 c cs (fun _ h => by cases h)⟩
    have hkt : KeepsT Tp Wt.heap.size W2 (tick g W2 (x0 + 1 + i)) := ⟨by rw [tick_size]; exact Nat.le_refl _, fun k o hk h0 _ => ((chg_tick g (x0 + 1 + i) W2).same k (lt_of_block h0) (by omega)).trans h0⟩
    have HK := hid3 hkt
    have HYW := hid3 hYW
    have HR := hid3 hR2
    replace hsz3 := hid3 hsz3
    replace hV2 := hid3 hV2
    have hWs : W.heap.size + 1 ≤ W2.heap.size := Nat.le_trans hsz2 hb2.size
    have tsz2 := hid3 (tick_size g (x0 + 1 + i) W2)
    clear hJi hk0 hv0 hb hoth hAr2 hA3 hR hR2 hkt hYW p1 p2 p3 k1 k2 k3 k4 k4W c2 f2 hYb hb2 hJ2 tsz
    gi_wp2_with (refine ⟨trivial, rfl, ?_⟩; gi_at_call 45; refine (CallsIn.inRound l2 (callsIn_wide.2 uc2)).mono ?_; rintro e' w3 ⟨rfl, hw3⟩; obtain rfl : w3 = tick g W2 (x0 + 1 + i) := hw3; clear uc2 cs2)
    refine ⟨rfl, HR.out.mono ?_⟩
    rintro e' w5 ⟨hk5, h5⟩
    have hY5 := hk5.blk HYW.out (Nat.le_refl _) hT
    have hkk : KeepsT Tp Wt.heap.size W2 w5 := HK.out.trans (hk5.mono (by omega))
    have hsz5 : W.heap.size + 1 ≤ w5.heap.size := Nat.le_trans hWs hkk.size
    rcases h5 with ⟨rfl, hJ5⟩ | ⟨rfl, hJ5⟩
    · gi_wp2
      exact ⟨hkk, hJ5, hsz5, hY5⟩
    · gi_wp2
      exact ⟨hkk, rfl, hJ5, hsz5⟩
  · rintro D' W' hD hK ⟨hJn, hsz, hYb⟩
    gi_wp2
    refine ⟨by simp, .inl ⟨_, _, rfl, run_takeDeferred hK, ?_⟩⟩
    exact ⟨_, results_none rfl _ _ _, ⟨_, rfl⟩, by simp; omega, .inl (hSJ _ _ _ hJn (Rec.put hK rfl (by omega) _))⟩
  · rintro D' c i W' hD hK hiN ⟨rfl, hJx', hsz⟩
    gi_wp2
    refine ⟨by simp, .inl ⟨_, _, rfl, run_takeDeferred hK, ?_⟩⟩
    exact ⟨_, results_none rfl _ _ _, ⟨_, rfl⟩, by simp; omega, .inr ⟨i, hiN, hSx (i + 1) _ _ hJx' (Rec.put hK rfl (by omega) _)⟩⟩
end Kv
end Go.Proofs.Ytplminnejheceaa

namespace Go.Proofs.Ytplminnejheceaa
namespace Kv
open Go.RowKit Go.Lib Pg
attribute [local go_sem] Oper.semAt_some
def zip2 (I It : Nat → World → Prop) (k : Nat) : World → Prop := if k % 2 = 0 then I (k / 2) else It (k / 2)
theorem zip2_odd (I It : Nat → World → Prop) (i : Nat) : zip2 I It (2 * i + 1) = It i := by
  unfold zip2
  rw [if_neg (by omega), show (2 * i + 1) / 2 = i by omega]
theorem zip2_even (I It : Nat → World → Prop) (i : Nat) : zip2 I It (2 * i + 1 + 1) = I (i + 1) := by
  unfold zip2
  rw [if_pos (by omega), show (2 * i + 1 + 1) / 2 = i + 1 by omega]
theorem bpost_zip {Tp : TypeId → Prop} {B : Nat} {I It : Nat → World → Prop} {Ix : Code → Nat → World → Prop} {i : Nat} {W : World} {e : Exit} {a : Act} {W' : World} (h : bpost Tp B I Ix (i + 1) W e a W') : bpost Tp B (zip2 I It) (fun c k => Ix c (k / 2)) (2 * i + 1 + 1) W e a W' := by
  have e2 : (2 * i + 1 + 1) / 2 = i + 1 := by omega
  cases e <;> simp only [bpost] at h ⊢
  · exact ⟨h.1, by rw [zip2_even]; exact h.2⟩
  · exact ⟨h.1, by rw [e2]; exact h.2⟩
  · exact ⟨h.1, by rw [e2]; exact h.2⟩
  · exact ⟨h.1, by rw [e2]; exact h.2⟩
/-- the walk of a round -/
def RoundC (Tp : TypeId → Prop) (w : World) (N n : Nat) (ps : Array Tmp) (assign body : Code) (tmps : Array Value) (Ar : Nat → Array Value → Nat → World → Prop) (It I : Nat → World → Prop) (Ix : Code → Nat → World → Prop) : Prop :=
  ∀ (l i : Nat) (args : Array Value) (V W : World), w.heap.size ≤ l → l < V.heap.size → (∃ r, V.heap[l]? = some (.loop r)) → i < N → It i V → Below V.heap.size V W → Ar i args V.heap.size W →
    assign.wpIn (Fence.wide.inRound l) n Try.prog (Exit.then (fun a1 W1 => Below W.heap.size W W1 ∧ ∀ V2 W2, It i V2 → Below V2.heap.size V2 W2 → Ar i args V2.heap.size W2 → (∀ b, b ≠ l → W2.heap[b]? = W1.heap[b]?) → W2.heap.size = W1.heap.size → V2.heap.size = V.heap.size → (∃ r, W2.heap[l]? = some (.loop r)) → body.wpIn (Fence.wide.inRound l) n Try.prog (bpost Tp w.heap.size I Ix (i + 1) W2) a1 W2) (fun _ _ _ => False)) { tmps := (ps.zip args).foldl (fun t (p, v) => t.setIfInBounds p v) tmps, defers := [] } W
theorem tick_other {g x k : Nat} {V : World} (h : k ≠ g) : (tick g V x).heap[k]? = V.heap[k]? := Below.heap_setCell _ _ _ _ h
theorem rf_outerC {Tp : TypeId → Prop} {gf N n g0 x0 : Nat} {lb : Array Value} {Ar : Nat → Array Value → Nat → World → Prop} {Rd : World → Prop} (IT : ItrC Tp g0 x0 gf lb N Ar Rd) {g : Operand} {ps : Array Tmp} {assign body : Code} {Q : Exit → Act → World → Prop} {a : Act} {w : World}
    (hg : a.eval g = .func (.func gf) #[] lb) (eg : ∀ args w, (callFunc gf args).run Try.prog w = .ok (.enter gf args) w) (hArS : ∀ i args n V W, Ar i args n V → Cel V W → Ar i args n W) (hAn : ∀ i args n V, Ar i args n V → args.size = ps.size)
    (I0 : World → Prop) (I It : Nat → World → Prop) (Ix : Code → Nat → World → Prop) (hI0 : St w.heap.size I0) (hI : ∀ i, St w.heap.size (I i)) (hIt : ∀ i, St w.heap.size (It i)) (hIx : ∀ c i, St w.heap.size (Ix c i)) (hgw : g0 < w.heap.size)
    (hx0 : ∀ V, I0 V → V.cell? ⟨g0, 2, none⟩ = some (.int .i64 x0) ∧ V.frozen? ⟨g0, 2, none⟩ = false ∧ Rd V ∧ I 0 (tick g0 V x0))
    (hx : ∀ i V, I i V → V.cell? ⟨g0, 2, none⟩ = some (.int .i64 ((x0 + 1 + i : Nat) : Int)) ∧ V.frozen? ⟨g0, 2, none⟩ = false ∧ Rd V ∧ (i < N → It i (tick g0 V (x0 + 1 + i)))) (h0 : I0 w)
    (hround : RoundC Tp w N n ps assign body a.tmps Ar It I Ix)
    (hdone : ∀ D W, w.heap.size ≤ D → W.heap[D]? = some (.deferred (some [])) → I N W → Q .normal { a with defers := { target := .collected D, args := #[] } :: a.defers } W)
    (hstop : ∀ D c i W, w.heap.size ≤ D → W.heap[D]? = some (.deferred (some [])) → i < N → Ix c (i + 1) W → c.wpIn Fence.wide n Try.prog Q { a with defers := { target := .collected D, args := #[] } :: a.defers } W) :
    (Code.rangeFunc g ps assign body).wpIn Fence.wide n Try.prog Q a w := by
  refine wpIn_rangeFunc ?_
  intro fn _
  obtain ⟨W1, hW1⟩ : ∃ W1, (w.alloc (.deferred (some []))).alloc (.loop (recd fn a.tmps ps assign body w.heap.size .ready none)) = W1 := ⟨_, rfl⟩
  have hB1 : Below w.heap.size w W1 := by rw [← hW1]; exact joinB (below_alloc w _) (below_alloc _ _)
  have hs1 : W1.heap.size = w.heap.size + 1 + 1 := by rw [← hW1]; simp
  have hL1 : W1.heap[w.heap.size + 1]? = some (.loop (recd fn a.tmps ps assign body w.heap.size .ready none)) := by
    rw [← hW1]; have := World.alloc_heap_new (w.alloc (.deferred (some []))) (.loop (recd fn a.tmps ps assign body w.heap.size .ready none)); rwa [World.size_alloc] at this
  have hK1 : W1.heap[w.heap.size]? = some (.deferred (some [])) := by
    rw [← hW1]; exact (Below.heap_alloc _ _ _ (by simp)).trans (World.alloc_heap_new w _)
  have t1 : ∀ V x, (tick g0 V x).heap[w.heap.size + 1]? = V.heap[w.heap.size + 1]? := fun V x => tick_other (by omega)
  have t2 : ∀ V x, (tick g0 V x).heap[w.heap.size]? = V.heap[w.heap.size]? := fun V x => tick_other (by omega)
  refine ⟨w.heap.size + 1, [{ target := .collected w.heap.size, args := #[] }], W1, { target := .fn (.func gf) lb, args := #[.func (.yield (w.heap.size + 1)) #[] #[]] }, W1, gf,
    #[.func (.yield (w.heap.size + 1)) #[] #[]] ++ lb, W1, ?_, ?_, ?_, ?_, fun h => (by cases h), ?_⟩
  · rw [← hW1]; exact run_enterLoop_outer _ _ _ _ _
  · simp only [resolve, hg]
    simp [go_sem]
  · intro f' _; trivial
  · simp [invoke, go_sem, eg]
  · refine callsIn_wide.2 ?_
    refine (IT (w.heap.size + 1)
      (fun W => I0 W ∧ W.heap[w.heap.size + 1]? = some (.loop (recd fn a.tmps ps assign body w.heap.size .ready none)) ∧ W.heap[w.heap.size]? = some (.deferred (some [])))
      (fun i W => I i W ∧ W.heap[w.heap.size + 1]? = some (.loop (recd fn a.tmps ps assign body w.heap.size .ready none)) ∧ W.heap[w.heap.size]? = some (.deferred (some [])))
      (fun i W => It i W ∧ W.heap[w.heap.size + 1]? = some (.loop (recd fn a.tmps ps assign body w.heap.size .ready none)) ∧ W.heap[w.heap.size]? = some (.deferred (some [])))
      (fun i W => ∃ c, Ix c i W ∧ W.heap[w.heap.size + 1]? = some (.loop (recd fn a.tmps ps assign body w.heap.size .done (some c))) ∧ W.heap[w.heap.size]? = some (.deferred (some [])))
      W1 (fun X Y hx hr => ⟨hI0 X Y hx.1 (hr.mono (by omega)), hr.same _ _ hx.2.1 (.inl (by omega)), hr.same _ _ hx.2.2 (.inl (by omega))⟩)
      (fun i X Y hx hr => ⟨hI i X Y hx.1 (hr.mono (by omega)), hr.same _ _ hx.2.1 (.inl (by omega)), hr.same _ _ hx.2.2 (.inl (by omega))⟩)
      (fun i X Y hx hr => ⟨hIt i X Y hx.1 (hr.mono (by omega)), hr.same _ _ hx.2.1 (.inl (by omega)), hr.same _ _ hx.2.2 (.inl (by omega))⟩)
      (fun i X Y hx hr => by obtain ⟨c, h1, h2, h3⟩ := hx; exact ⟨c, hIx c i X Y h1 (hr.mono (by omega)), hr.same _ _ h2 (.inl (by omega)), hr.same _ _ h3 (.inl (by omega))⟩)
      (by omega)
      (fun V hv => by obtain ⟨q1, q2, q3, q4⟩ := hx0 V hv.1; exact ⟨q1, q2, q3, q4, (t1 V x0).trans hv.2.1, (t2 V x0).trans hv.2.2⟩)
      (fun i V hv => by obtain ⟨q1, q2, q3, q4⟩ := hx i V hv.1; exact ⟨q1, q2, q3, fun hi => ⟨q4 hi, (t1 V _).trans hv.2.1, (t2 V _).trans hv.2.2⟩⟩)
      ?_ ⟨hI0 _ _ h0 (Rec.of hB1), hL1, hK1⟩).mono ?_
    · rintro i args V V' hiN ⟨hi, hl, hk⟩ hsz hb ha
      have hr := hround _ i args V V' (by omega) (lt_of_block hl) ⟨_, hl⟩ hiN hi hb ha
      refine (yield_core (Tp := Tp) (B := w.heap.size) (i := 2 * i + 1) (I := zip2 I It) (Ix := fun c k => Ix c (k / 2)) (Ar := fun k => Ar (k / 2)) (fun j => hArS (j / 2)) (fun j => by unfold zip2; split; exact hI _; exact hIt _) (fun c j => hIx c _) (by omega) hl (by rw [zip2_odd]; exact hi) hb (by rw [show (2 * i + 1) / 2 = i by omega]; exact ha) (hAn _ _ _ _ ha) (wpIn_mono hr ?_)).mono ?_
      · intro e a1 W1 h
        cases e <;> first
          | (refine ⟨h.1, fun V2 W2 q1 q2 q3 q4 q5 q6 q7 => ?_⟩
             rw [zip2_odd] at q1
             rw [show (2 * i + 1) / 2 = i by omega] at q3
             exact wpIn_mono (h.2 V2 W2 q1 q2 q3 q4 q5 q6 q7) (fun e a W h => bpost_zip h))
          | exact h.elim
      · rintro e V'' ⟨hkp, h⟩
        have hk2 := hkp.same _ _ (Nat.le_refl _) (by omega) ((hb.block _ (lt_of_block hk)).trans hk) safe_def
        refine ⟨hkp.from (by omega) (by omega), h.imp (fun h => ⟨h.1, by have := h.2.1; rw [zip2_even] at this; exact this, h.2.2, hk2⟩) (fun h => ?_)⟩
        obtain ⟨h1, c, h2, h3⟩ := h
        rw [show (2 * i + 1 + 1) / 2 = i + 1 by omega] at h2
        exact ⟨h1, c, h2, h3, hk2⟩
    · rintro e W2 ⟨⟨v, rfl⟩, hsz, ⟨hi, hl, hk⟩ | ⟨i, hiN, c, hi, hl, hk⟩⟩
      · exact ⟨none, _, run_endLoop (P := Try.prog) hl (by simp [recd]), hdone _ _ (Nat.le_refl _) ((World.putObj_heap_other (by omega)).trans hk) (hI _ _ _ hi (Rec.put hl rfl (by omega) _))⟩
      · exact ⟨some c, _, run_endLoop (P := Try.prog) hl (by simp [recd]), hstop _ c i _ (Nat.le_refl _) ((World.putObj_heap_other (by omega)).trans hk) hiN (hIx c _ _ _ hi (Rec.put hl rfl (by omega) _))⟩
end Kv
end Go.Proofs.Ytplminnejheceaa

namespace Go.Proofs.Ytplminnejheceaa
namespace Kv
open Go.RowKit Go.Lib Pg
attribute [local go_sem] Oper.semAt_some
/-- one more byte, which lies at p -/
theorem app_at {w : World} {B p : Nat} {v : Value} {l : List Int} {x : Int} (h : OB w (B ≤ ·) v l) (hB : B ≤ w.heap.size) (hl : l.length ≤ 1000000000) (hx : 0 ≤ x ∧ x < 256) (hp : w.cell? ⟨p, 0, none⟩ = some (.int .u8 x)) :
    ∃ v' w', (Builtin.append_ #[32, 32] 32 #[v, .slice (some ⟨p, 0, none⟩) 1 1]).run Try.prog w = .ok v' w' ∧ OB w' (B ≤ ·) v' (l ++ [x]) ∧ Below B w w' := by
  have ho : Oct (l ++ [x]) := fun y hy => by
    rcases List.mem_append.1 hy with hy | hy
    · exact h.oct y hy
    · simp at hy; subst hy; exact hx
  have hnews : ∀ j u, [Value.int .u8 x][j]? = some u → w.cell? ((⟨p, 0, none⟩ : Addr).add j) = some u := fun j u hj => by
    match j with
    | 0 => simp at hj; subst hj; exact hp
    | j + 1 => simp at hj
  rcases h.ex with ⟨rfl, rfl⟩ | ⟨b, c, rfl, hl2, hR⟩
  · obtain ⟨c', w', hr, hR, hw⟩ := app_nil (w := w) KB 32 ⟨p, 0, none⟩ 1 1 [.int .u8 x] rfl hnews (by decide) (by decide) (by decide)
    exact ⟨_, w', hr, ⟨ho, .inr ⟨_, c', rfl, hB, hR⟩⟩, hw.mono hB⟩
  · obtain ⟨b', c', w', hr, hb', hR', hw⟩ := app_row (w := w) KB 32 hR ⟨p, 0, none⟩ 1 1 [.int .u8 x] rfl hnews (by simp [Value.oneCell']) (by omega) (by omega)
    refine ⟨_, w', hr, ⟨ho, .inr ⟨b', c', by simp, ?_, by rw [List.map_append, List.length_append]; exact hR'⟩⟩, hw.below (fun x e => by have e' : x = b := e; omega) hB⟩
    rcases hb' with rfl | rfl
    · exact hl2
    · exact hB
theorem app_byte {w : World} {B : Nat} {v : Value} {l : List Int} {x : Int} (h : OB w (B ≤ ·) v l) (hB : B ≤ w.heap.size) (hl : l.length ≤ 1000000000) (hx : 0 ≤ x ∧ x < 256) :
    ∃ v' w', (Builtin.append_ #[32, 32] 32 #[v, .slice (some ⟨w.heap.size, 0, none⟩) 1 1]).run Try.prog (w.alloc (.cells #[.int .u8 x] 5)) = .ok v' w' ∧ OB w' (B ≤ ·) v' (l ++ [x]) ∧ Below B w w' := by
  have hb := below_alloc w (.cells #[.int .u8 x] 5)
  have hk := blk_new w [.int .u8 x] 5
  have ho : Oct (l ++ [x]) := fun y hy => by
    rcases List.mem_append.1 hy with hy | hy
    · exact h.oct y hy
    · simp at hy; subst hy; exact hx
  have hnews : ∀ j u, [Value.int .u8 x][j]? = some u → (w.alloc (.cells #[.int .u8 x] 5)).cell? ((⟨w.heap.size, 0, none⟩ : Addr).add j) = some u := fun j u hj => by
    match j with
    | 0 => exact hk.cell (i := 0) hj
    | j + 1 => simp at hj
  rcases h.ex with ⟨rfl, rfl⟩ | ⟨b, c, rfl, hl2, hR⟩
  · obtain ⟨c', w', hr, hR, hw⟩ := app_nil (w := w.alloc (.cells #[.int .u8 x] 5)) KB 32 ⟨w.heap.size, 0, none⟩ 1 1 [.int .u8 x] rfl hnews (by decide) (by decide) (by decide)
    exact ⟨_, w', hr, ⟨ho, .inr ⟨_, c', rfl, Nat.le_trans hB hb.size, hR⟩⟩, (hb.mono hB).trans (hw.mono (Nat.le_trans hB hb.size))⟩
  · obtain ⟨b', c', w', hr, hb', hR', hw⟩ := app_row (w := w.alloc (.cells #[.int .u8 x] 5)) KB 32 (hR.keep hb) ⟨w.heap.size, 0, none⟩ 1 1 [.int .u8 x] rfl hnews (by simp [Value.oneCell']) (by omega) (by omega)
    refine ⟨_, w', hr, ⟨ho, .inr ⟨b', c', by simp, ?_, by rw [List.map_append, List.length_append]; exact hR'⟩⟩, (hb.mono hB).trans (hw.below (fun x e => by have e' : x = b := e; omega) (Nat.le_trans hB hb.size))⟩
    rcases hb' with rfl | rfl
    · exact hl2
    · exact Nat.le_trans hB hb.size
theorem OB.sh {w : World} {D : Nat → Prop} {v : Value} {l : List Int} (h : OB w D v l) : ∃ ao c, v = .slice ao l.length c := by
  rcases h.ex with ⟨rfl, rfl⟩ | ⟨b, c, rfl, _⟩
  · exact ⟨none, 0, rfl⟩
  · exact ⟨_, c, rfl⟩
theorem By.lens {w : World} {ao : Option Addr} {n c : Nat} {l : List Int} (h : By w (.slice ao n c) l) : l.length = n ∧ n ≤ c ∧ c ≤ 9223372036854775807 := by
  obtain ⟨ao', c', e, h2, h3, _⟩ := h.ex
  cases e
  exact ⟨rfl, h2, h3⟩
theorem run_app {a : Act} {w w' : World} {o : Oper} {x y : Nat} {T ty : TypeId} {u v r : Value} (hty : o.type = ty) (ho : o.op = .call { callee := .builtin .append, args := #[.tmp x, .tmp y], argTypes := #[T, T] }) (hx : a.eval (.tmp x) = u) (hy : a.eval (.tmp y) = v) (hr : (Builtin.append_ #[T, T] ty #[u, v]).run Try.prog w = .ok r w') :
    (execOp a.eval o).run Try.prog w = .ok (.value r) w' := by
  subst hty
  unfold execOp
  simp only [ho, resolve, invoke, builtin, Sem.run_bind, Sem.run_pure, Result.andThen_ok, List.map_toArray, List.map_cons, List.map_nil, hx, hy, hr]
theorem ob_nil (w : World) (D : Nat → Prop) : OB w D (.slice none 0 0) [] := ⟨fun _ h => by simp at h, .inl ⟨rfl, rfl⟩⟩
def ArBB (Q : List Int) (i : Nat) (args : Array Value) (_ : Nat) (_ : World) : Prop := ∃ p j, j + 1 + i = Q.length ∧ Q[j]? = some p ∧ args = #[.int .i64 (j : Int), .int .u8 p]
set_option maxHeartbeats 4000000 in
set_option maxRecDepth 100000 in
theorem backB_itr {Tp : TypeId → Prop} {bs n c : Nat} {ao : Option Addr} {Q : List Int} {Rd : World → Prop} (hn : Q.length = n) (hbig : n ≤ 1000000000)
    (hb : ∀ V, Rd V → V.cell? ⟨bs, 0, none⟩ = some (.slice ao n c) ∧ ∀ j p, Q[j]? = some p → ∃ b o, ao = some ⟨b, o, none⟩ ∧ V.cell? ⟨b, o + j, none⟩ = some (.int .u8 p)) :
    Itr Tp 88 #[.pointer (some ⟨bs, 0, none⟩)] n (ArBB Q) Rd := by
  intro l J Jx W hJ hJx hRd hY h0
  have cb := (hb W (hRd 0 W h0)).1
  have hb : Hid _ := hb
  have hn : Hid _ := hn
  have w0 : IntKind.i64.wrap ((n : Int) - 1) = (n : Int) - 1 := by rw [IntKind.wrap_i64]; omega
  refine (callsIn_wide (n := 0)).1 ?_
  refine callsIn_of_wp Try.func88 rfl trivial ?_ rfl
  simp only [Try.ntmps88, List.size_toArray, List.length_cons, List.length_nil, Nat.reduceAdd, Nat.reduceSub, Array.replicate_succ, Array.replicate_zero, List.push_toArray, List.append_toArray, List.nil_append, List.cons_append]
  gi_wp2
  gi_loopw [3] (fun ti wr => ∃ i : Nat, i ≤ n ∧ ti = .int .i64 ((n : Int) - 1 - (i : Int)) ∧ W.heap.size ≤ wr.heap.size ∧ J i wr) (fun ti _ => (intOf ti + 1).toNat)
  case atStart => exact ⟨0, Nat.zero_le _, by simp, Nat.le_refl _, h0⟩
  case round =>
    clear cb
    obtain ⟨i, hi, rfl, hsz, hJi⟩ := hrel
    obtain ⟨cb, hat⟩ := hb.out wr (hRd _ _ hJi)
    by_cases hlt : i < n
    · obtain ⟨j, hj⟩ : ∃ j, j + 1 + i = n := ⟨n - 1 - i, by omega⟩
      obtain ⟨p, hp⟩ : ∃ p, Q[j]? = some p := ⟨Q[j]'(by have := hn.out; omega), List.getElem?_eq_getElem _⟩
      obtain ⟨b, o, rfl, cP⟩ := hat j p hp
      have ej : (n : Int) - 1 - (i : Int) = (j : Int) := by omega
      have HI : Hid (j + 1 + i = n) := hj
      have hY1 := hY i _ wr wr hlt hJi hsz (Below.refl _ _) ⟨p, j, by rw [hn.out]; exact hj, hp, rfl⟩
      obtain ⟨fn, tmps, assign, body, hy, hR⟩ := hY1
      rw [ej]
      have w1 : IntKind.i64.wrap ((j : Int) - 1) = (j : Int) - 1 := by rw [IntKind.wrap_i64]; omega
      have z1 : (j : Int) < n := by omega
      clear hat ej hj
      gi_wp2
      refine ⟨rfl, hR.mono ?_⟩
      rintro e' W4 ⟨hk4, ⟨rfl, hJ4⟩ | ⟨rfl, hJ4⟩⟩
      · gi_wp2
        go_roundw
        case rel => exact ⟨i + 1, by omega, by have := HI.out; congr 1; omega, Nat.le_trans hsz hk4.size, hJ4⟩
        case measure => simp [intOf]
      · gi_wp2
        refine bodyPost_ret (results_none rfl _ _ _) rfl ?_
        exact ⟨⟨_, rfl⟩, Nat.le_trans hsz hk4.size, .inr ⟨i, hlt, hJ4⟩⟩
    · have hin : i = n := by omega
      have ej : (n : Int) - 1 - (i : Int) = -1 := by omega
      rw [ej]
      have HJ : Hid (J n wr) := by show J n wr; rw [← hin]; exact hJi
      clear hat ej hin hJi
      gi_wp2
      go_end0
      exact ⟨⟨_, rfl⟩, hsz, .inl HJ.out⟩
set_option maxHeartbeats 1000000 in
set_option maxRecDepth 100000 in
theorem backB_mk {w : World} {ao : Option Addr} {n c : Nat} : Calls Try.prog 72 #[.slice ao n c] w fun e w' => e = .returned (.func (.func 88) #[] #[.pointer (some ⟨w.heap.size, 0, none⟩)]) ∧ Blk w' w.heap.size [.slice ao n c] 32 ∧ Below w.heap.size w w' := by
  go_enter Try.func72, Try.ntmps72
  go_wp2
  go_ret
  exact ⟨rfl, blk_new w _ _, below_alloc w _⟩
/-- the least bytes above all that begin so; none, where there is none -/
def nxt (l : List Int) : List Int := match l.reverse.dropWhile (· == 255) with
  | [] => []
  | x :: t => t.reverse ++ [x + 1]
theorem dw_all : ∀ {l : List Int}, (∀ x ∈ l, x = 255) → l.dropWhile (· == 255) = []
  | [], _ => rfl
  | x :: l, h => by
    have hx := h x List.mem_cons_self
    subst hx
    rw [List.dropWhile_cons_of_pos (by decide)]
    exact dw_all (fun y hy => h y (List.mem_cons_of_mem _ hy))
theorem dw_key (A B : List Int) {x : Int} (hx : x ≠ 255) (h : ∀ b ∈ B, b = 255) : (A ++ x :: B).reverse.dropWhile (· == 255) = x :: A.reverse := by
  rw [List.reverse_append, List.reverse_cons, List.append_assoc, List.dropWhile_append_of_pos (fun a ha => by simp [h a (List.mem_reverse.1 ha)]), List.singleton_append, List.dropWhile_cons_of_neg (by simp [hx])]
theorem nxt_all {l : List Int} (h : ∀ x ∈ l, x = 255) : nxt l = [] := by
  have : l.reverse.dropWhile (· == 255) = [] := by
    exact dw_all (fun x hx => h x (List.mem_reverse.1 hx))
  unfold nxt
  rw [this]
theorem nxt_at {l : List Int} {j : Nat} {x : Int} (hj : l[j]? = some x) (hx : x ≠ 255) (h : ∀ i y, l[i]? = some y → j < i → y = 255) : nxt l = l.take j ++ [x + 1] := by
  have hlt : j < l.length := (List.getElem?_eq_some_iff.1 hj).1
  have e : l = l.take j ++ x :: l.drop (j + 1) := by
    have h1 := (List.take_append_drop j l).symm
    have h2 : l.drop j = x :: l.drop (j + 1) := by
      rw [List.drop_eq_getElem_cons hlt]
      congr 1
      exact (List.getElem?_eq_some_iff.1 hj).2
    rw [h2] at h1
    exact h1
  have h3 : l.reverse.dropWhile (· == 255) = x :: (l.take j).reverse := by
    have h4 := dw_key (l.take j) (l.drop (j + 1)) hx (fun a ha => by
      obtain ⟨i, hi⟩ := List.getElem?_of_mem ha
      rw [List.getElem?_drop] at hi
      exact h (j + 1 + i) a hi (by omega))
    rw [← e] at h4
    exact h4
  unfold nxt
  rw [h3]
  simp
theorem below_rec {B0 B1 : Nat} {w A B : World} (h : Below B0 w A) (hr : Rec B1 A B) (hB : B0 ≤ B1) (hw : B0 ≤ A.heap.size) : Below B0 w B :=
  ⟨hr.os.trans h.os, hr.tape.trans h.tape, hr.output.trans h.output, Nat.le_trans h.size hr.size, fun k hk => by
    obtain ⟨o, ho⟩ : ∃ o, A.heap[k]? = some o := ⟨A.heap[k]'(by omega), Array.getElem?_eq_getElem _⟩
    rw [hr.same k o ho (.inl (by omega)), ← ho]
    exact h.block k hk⟩
theorem hr_blk {B g : Nat} {A A' : World} {cs : List Value} {ty : TypeId} (h : Blk A g cs ty) (hr : Rec B A A') : Blk A' g cs ty := hr.blk h
theorem OB.rcd {B : Nat} {D : Nat → Prop} {A A' : World} {v : Value} {l : List Int} (h : OB A D v l) (hr : Rec B A A') : OB A' D v l := by
  refine ⟨h.oct, h.ex.imp id ?_⟩
  rintro ⟨b, c, e, hd, hR⟩
  obtain ⟨cs, k⟩ := hR.kind
  exact ⟨b, c, e, hd, hR.same ((hr.blk k).blk.trans k.blk.symm)⟩
theorem By.take {w : World} {ao : Option Addr} {n c : Nat} {l : List Int} (h : By w (.slice ao n c) l) (j : Nat) (hj : j ≤ n) : By w (.slice ao j c) (l.take j) := by
  obtain ⟨hl, hc, hm⟩ := By.lens h
  obtain ⟨ao', c', e, h2, h3, h4, h5, h6⟩ := h.ex
  cases e
  have hlen : (l.take j).length = j := by rw [List.length_take]; omega
  refine ⟨ao, c, by rw [hlen], by rw [hlen]; omega, h3, h4, fun x hx => h5 x (List.mem_of_mem_take hx), ?_⟩
  rcases h6 with rfl | ⟨b', o', e, hlt, hcell⟩
  · exact .inl (by simp)
  · exact .inr ⟨b', o', e, hlt, fun i x hi => hcell i x (by
      rw [List.getElem?_take] at hi
      split at hi
      · exact hi
      · cases hi)⟩
theorem ld_sl {w : World} {g o : Nat} {v : Value} (c : w.cell? ⟨g, o, none⟩ = some v) : (loadVar 32 ⟨g, o, none⟩).run Try.prog w = .ok v w := by go_simp
theorem wli_app {F : Fence} {n : Nat} {ops : Array Oper} {Q : Exit → Act → World → Prop} {rest : List Oper} {pos : String} {after : Array Edge} {a : Act} {w w' : World} {u v r : Value} (hF : ∀ f, F.fn f) (hu : a.eval (.tmp 14) = u) (hv : a.eval (.tmp 17) = v) (hr : (Builtin.append_ #[32, 32] 32 #[u, v]).run Try.prog w = .ok r w') (h : wpListIn F n Try.prog ops Q rest (a.put (some 18) r) w') :
    wpListIn F n Try.prog ops Q ({ dst := some 18, op := .call { callee := .builtin .append, args := #[.tmp 14, .tmp 17], argTypes := #[32, 32] }, type := 32, pos := pos, after := after, guard := none } :: rest) a w :=
  wli_val rfl hF (Oper.semAt_eq _ _ _ (fun c h => by cases h)) (run_app (x := 14) (y := 17) rfl rfl hu hv hr) h
set_option maxHeartbeats 4000000 in
set_option maxRecDepth 100000 in
theorem next_any {w : World} {ao : Option Addr} {n c : Nat} {l : List Int} (h : By w (.slice ao n c) l) (hbig : n ≤ 1000000000) :
    Calls Try.prog 54 #[.slice ao n c] w fun e w' => ∃ v, e = .returned v ∧ OB w' (w.heap.size ≤ ·) v (nxt l) ∧ Below w.heap.size w w' := by
  obtain ⟨hl, hnc, hcm⟩ := By.lens h
  have c1 := blk_new w [.slice ao n c] 32
  have b1 := below_alloc w (.cells #[.slice ao n c] 32)
  have s1 : (w.alloc (.cells #[.slice ao n c] 32)).heap.size = w.heap.size + 1 := by simp
  have c2 := blk_new (w.alloc (.cells #[.slice ao n c] 32)) [.slice none 0 0] 32
  have b2 := below_alloc (w.alloc (.cells #[.slice ao n c] 32)) (.cells #[.slice none 0 0] 32)
  have s2 : ((w.alloc (.cells #[.slice ao n c] 32)).alloc (.cells #[.slice none 0 0] 32)).heap.size = w.heap.size + 2 := by simp
  rw [s1] at c2
  have c1' := c1.keep b2
  have b12 := joinB b1 b2
  obtain ⟨Wa, hWa⟩ : ∃ Wa, Hid ((w.alloc (.cells #[.slice ao n c] 32)).alloc (.cells #[.slice none 0 0] 32) = Wa) := ⟨_, rfl⟩
  rw [hWa.out] at c1' c2 s2 b12
  have HB := hid3 h
  clear h c1 b1 b2 s1
  refine (callsIn_wide (n := 0)).1 ?_
  refine callsIn_of_wp_marks Try.func54 rfl trivial ?_ rfl
  simp only [Try.ntmps54, List.size_toArray, List.length_cons, List.length_nil, Nat.reduceAdd, Nat.reduceSub, Array.replicate_succ, Array.replicate_zero, List.push_toArray, List.append_toArray, List.nil_append, List.cons_append]
  gi_wp2_with (refine ⟨trivial, rfl, ?_⟩; gi_at_call 72; rw [hWa.out]; refine (callsIn_wide.2 backB_mk).mono ?_; rintro e' w2 ⟨rfl, hBx, hB2⟩)
  rw [s2] at hBx
  have k1 := c1'.keep hB2
  have k2 := c2.keep hB2
  have B2 := joinB b12 hB2
  have hs2 := hB2.size
  have IT := backB_itr (Tp := fun _ => False) (bs := w.heap.size + 2) (c := c) (ao := ao) (Q := l) (n := n) (Rd := fun V => Below w2.heap.size w2 V) hl hbig (fun V hv => ⟨(hBx.keep hv).cell (i := 0) rfl, fun j p hj => By.at ((HB.out.keep B2).keep hv) hj⟩)
  refine rf_outer IT (by rfl) (enters_of Try.func88 (by kernel_rfl) rfl) (fun i args n V V' h _ => h) (fun i args n V h => by obtain ⟨p, j, _, _, rfl⟩ := h; rfl)
    (fun i V => Below w2.heap.size w2 V ∧ ∀ j x, l[j]? = some x → n ≤ j + i → x = 255)
    (fun c i V => c = .ret ∧ ∃ v, Blk V (w.heap.size + 1) [v] 32 ∧ OB V (w.heap.size ≤ ·) v (nxt l) ∧ Below w.heap.size w V)
    (fun i A B hx hr => ⟨below_rec hx.1 hr (Nat.le_refl _) hx.1.size, hx.2⟩)
    (fun c i A B hx hr => ⟨hx.1, by obtain ⟨v, h1, h2, h3⟩ := hx.2; exact ⟨v, hr.blk h1, OB.rcd h2 hr, below_rec h3 hr B2.size h3.size⟩⟩)
    (fun i V hv => hv.1) ⟨Below.refl _ _, fun j x hj hn => by have := (List.getElem?_eq_some_iff.1 hj).1; omega⟩ ?_ ?_ ?_
  · rintro l2 i args V Wv hl2 hlV hrec hiN ⟨hBV, hall⟩ hb ⟨p, j, hj, hp, rfl⟩
    simp
    gi_wp2
    refine ⟨Below.refl _ _, ?_⟩
    intro V2 W2 hBV2 hall2 hb2 hAr2 hoth hsz3 hV2 r hrec2
    have hBW := hBV2.trans (hb2.mono hBV2.size)
    have kb := (k1.keep hBW).cell (i := 0) rfl
    have kr := k2.keep hBW
    have hpo : 0 ≤ p ∧ p < 256 := HB.out.oct p (List.mem_of_getElem? hp)
    clear hall hb hBV hoth hAr2
    by_cases hp5 : p = 255
    · subst hp5
      gi_wp2
      refine ⟨KeepsT.of (Below.refl _ _), hBW, fun j2 x hx hn => ?_⟩
      by_cases e : j2 = j
      · subst e; rw [hp] at hx; cases hx; rfl
      · exact hall2 j2 x hx (by omega)
    · have hp6 : p < 255 := by omega
      have BY := By.take ((HB.out.keep B2).keep hBW) j (by omega)
      have hjl : (l.take j).length = j := by rw [List.length_take]; omega
      have hjn : (j : Int) ≤ c := by omega
      have w9 : IntKind.u8.wrap (p + 1) = p + 1 := by rw [IntKind.wrap_u8]; omega
      have HKR := hid3 kr
      have HW := hid3 hBW
      have HNX : Hid (nxt l = l.take j ++ [p + 1]) := nxt_at hp hp5 (fun i2 y hy hi => hall2 i2 y hy (by omega))
      clear kr hBW hall2
      gi_wp2_with (first
        | (have gate := hr6; clear gate; refine wli_app (fun _ => trivial) rfl rfl hr6 ?_; clear hr6)
        | (refine ⟨trivial, rfl, ?_⟩; gi_at_call 62; refine (CallsIn.inRound l2 (callsIn_wide.2 (clone_any BY (by omega)))).mono ?_; rintro e' w5 ⟨v5, rfl, O5, b5⟩; obtain ⟨v6, w6, hr6, O6, b6⟩ := app_byte (B := W2.heap.size) (x := p + 1) O5 b5.size (by omega) (by omega); have kr6 := (HKR.out.keep b5).keepB b6 (HKR.out.lt); have kc := kr6.cell (i := 0) rfl; have kfr := kr6.free 0; obtain ⟨a5, c5, rfl⟩ := OB.sh O5; obtain ⟨a6, c6, rfl⟩ := OB.sh O6; rw [hjl] at hr6 ⊢))
      have hlt : w.heap.size + 1 < w2.heap.size := k2.lt
      have hsW := HW.out.size
      have b56 := b5.trans b6
      have O7 : OB w6 (W2.heap.size ≤ ·) (.slice a6 (j + 1) c6) (l.take j ++ [p + 1]) := by
        have h9 := O6
        rw [show (l.take j ++ [p + 1]).length = j + 1 by rw [List.length_append, hjl]; rfl] at h9
        exact h9
      have O8 : OB (w6.setCell ⟨w.heap.size + 1, 0, none⟩ (.slice a6 (j + 1) c6)) (W2.heap.size ≤ ·) (.slice a6 (j + 1) c6) (l.take j ++ [p + 1]) := O7.same (fun b _ hb => Below.heap_setCell w6 _ _ b (by show b ≠ w.heap.size + 1; omega))
      have B6 : Below w.heap.size w w6 := (B2.trans (HW.out.mono B2.size)).trans (b56.mono (Nat.le_trans B2.size hsW))
      refine ⟨(KeepsT.of b56).trans ⟨?_, fun k o hk h0 _ => (Below.heap_setCell w6 _ _ k (by show k ≠ w.heap.size + 1; omega)).trans h0⟩, rfl, _, kr6.setCell (i := 0) _, ?_, B6.setCell (show w.heap.size ≤ w.heap.size + 1 by omega) _⟩
      · exact ((Chg.refl (fun x => x = w.heap.size + 1) w6).cell (g := w.heap.size + 1) (i := 0) (.inl rfl) _).size
      · rw [HNX.out]
        exact O8.mono (fun b _ hb => by have := B2.size; omega)
  · rintro D' W' hD hK ⟨hBW, hall⟩
    have kr := k2.keep hBW
    have kc := kr.cell (i := 0) rfl
    have kf := kr.free 0
    have hlt : w.heap.size + 1 < w2.heap.size := k2.lt
    have hK3 : (W'.setCell ⟨w.heap.size + 1, 0, none⟩ (.slice none 0 0)).heap[D']? = some (.deferred (some [])) := (Below.heap_setCell W' _ _ D' (by show D' ≠ w.heap.size + 1; omega)).trans hK
    gi_wp2
    refine ⟨by simp, .inl ⟨_, _, rfl, run_takeDeferred hK3, ?_⟩⟩
    have R3 := Rec.put (B := w2.heap.size) hK3 rfl hD (.deferred none)
    have k3 := hr_blk (kr.setCell (i := 0) (.slice none 0 0)) R3
    refine ⟨_, kres_cell rfl rfl (ld_sl (k3.cell (i := 0) rfl)), _, rfl, ?_, ?_⟩
    · rw [nxt_all (fun x hx => by
        obtain ⟨j, hj⟩ := List.getElem?_of_mem hx
        exact hall j x hj (by omega))]
      exact ob_nil _ _
    · have h9 : Below w.heap.size w (W'.setCell ⟨w.heap.size + 1, 0, none⟩ (.slice none 0 0)) := (B2.trans (hBW.mono B2.size)).setCell (show w.heap.size ≤ w.heap.size + 1 by omega) _
      exact below_rec h9 R3 B2.size h9.size
  · rintro D' c i W' hD hK hiN ⟨rfl, v, h1, h2, h3⟩
    gi_wp2
    refine ⟨by simp, .inl ⟨_, _, rfl, run_takeDeferred hK, ?_⟩⟩
    have R3 := Rec.put (B := w2.heap.size) hK rfl hD (.deferred none)
    have k3 := hr_blk h1 R3
    exact ⟨_, kres_cell rfl rfl (ld_sl (k3.cell (i := 0) rfl)), _, rfl, OB.rcd h2 R3, below_rec h3 R3 B2.size h3.size⟩
theorem lt_cons {x y : Int} {a b : List Int} : Lt (x :: a) (y :: b) ↔ x < y ∨ (x = y ∧ Lt a b) := by
  unfold Lt
  rw [cmpB]
  by_cases h1 : x < y
  · simp [h1]
  · by_cases h2 : y < x
    · rw [if_neg h1, if_pos h2]
      constructor
      · intro h; exact absurd h (by decide)
      · rintro (h | ⟨h, _⟩) <;> omega
    · rw [if_neg h1, if_neg h2]
      have : x = y := by omega
      simp [this]
theorem lt_nil_cons {y : Int} {b : List Int} : Lt [] (y :: b) := by simp [Lt, cmpB]
theorem not_lt_nil {a : List Int} : ¬ Lt a [] := by cases a <;> simp [Lt, cmpB]
theorem lt_app (s : List Int) {a b : List Int} : Lt (s ++ a) (s ++ b) ↔ Lt a b := by
  induction s with
  | nil => exact Iff.rfl
  | cons x s ih => rw [List.cons_append, List.cons_append, lt_cons, ih]; simp
theorem last255 : ∀ l : List Int, (∀ x ∈ l, x = 255) ∨ ∃ A x B, l = A ++ x :: B ∧ x ≠ 255 ∧ ∀ b ∈ B, b = 255
  | [] => .inl (fun _ h => by simp at h)
  | y :: t => by
    rcases last255 t with h | ⟨A, x, B, rfl, hx, hB⟩
    · by_cases hy : y = 255
      · exact .inl (fun x hx => by
          rcases List.mem_cons.1 hx with rfl | hx
          · exact hy
          · exact h x hx)
      · exact .inr ⟨[], y, t, rfl, hy, h⟩
    · exact .inr ⟨y :: A, x, B, rfl, hx, hB⟩
theorem nxt_eq {A B : List Int} {x : Int} (hx : x ≠ 255) (hB : ∀ b ∈ B, b = 255) : nxt (A ++ x :: B) = A ++ [x + 1] := by
  unfold nxt
  rw [dw_key A B hx hB]
  simp
theorem nxt_nil {l : List Int} (h : nxt l = []) : ∀ x ∈ l, x = 255 := by
  rcases last255 l with h1 | ⟨A, x, B, rfl, hx, hB⟩
  · exact h1
  · rw [nxt_eq hx hB] at h
    simp at h
theorem pre_lt_nxt {l c : List Int} (h : nxt l ≠ []) (hc : l <+: c) : Lt c (nxt l) := by
  rcases last255 l with h1 | ⟨A, x, B, rfl, hx, hB⟩
  · exact absurd (nxt_all h1) h
  · obtain ⟨t, rfl⟩ := hc
    rw [nxt_eq hx hB, List.append_assoc, lt_app, List.cons_append, lt_cons]
    exact .inl (by omega)
theorem all255 : ∀ {B t : List Int}, (∀ b ∈ B, b = 255) → Oct t → Lt t B ∨ B <+: t
  | [], _, _, _ => .inr (List.nil_prefix)
  | b :: B, [], _, _ => .inl lt_nil_cons
  | b :: B, z :: t, hB, ht => by
    have hb := hB b List.mem_cons_self
    have hz := ht z List.mem_cons_self
    subst hb
    by_cases h : z = 255
    · subst h
      rcases all255 (fun b hb => hB b (List.mem_cons_of_mem _ hb)) (fun y hy => ht y (List.mem_cons_of_mem _ hy)) with h1 | h1
      · exact .inl (lt_cons.2 (.inr ⟨rfl, h1⟩))
      · exact .inr (List.cons_prefix_cons.2 ⟨rfl, h1⟩)
    · exact .inl (lt_cons.2 (.inl (by omega)))
theorem below_nxt : ∀ {A B c : List Int} {x : Int}, (∀ b ∈ B, b = 255) → Oct c → Lt c (A ++ [x + 1]) → Lt c (A ++ x :: B) ∨ (A ++ x :: B) <+: c
  | [], B, [], x, _, _, _ => .inl lt_nil_cons
  | [], B, y :: t, x, hB, hc, h => by
    rw [List.nil_append, lt_cons] at h
    rw [List.nil_append]
    rcases h with h | ⟨_, h⟩
    · by_cases e : y = x
      · subst e
        rcases all255 hB (fun z hz => hc z (List.mem_cons_of_mem _ hz)) with h1 | h1
        · exact .inl (lt_cons.2 (.inr ⟨rfl, h1⟩))
        · exact .inr (List.cons_prefix_cons.2 ⟨rfl, h1⟩)
      · exact .inl (lt_cons.2 (.inl (by omega)))
    · exact absurd h not_lt_nil
  | a :: A, B, [], x, _, _, _ => .inl lt_nil_cons
  | a :: A, B, y :: t, x, hB, hc, h => by
    rw [List.cons_append, lt_cons] at h
    rw [List.cons_append]
    rcases h with h | ⟨h1, h2⟩
    · exact .inl (lt_cons.2 (.inl h))
    · subst h1
      rcases below_nxt hB (fun z hz => hc z (List.mem_cons_of_mem _ hz)) h2 with h3 | h3
      · exact .inl (lt_cons.2 (.inr ⟨rfl, h3⟩))
      · exact .inr (List.cons_prefix_cons.2 ⟨rfl, h3⟩)
theorem not_lt_nxt {l c : List Int} (hc : Oct c) (h1 : ¬ l <+: c) (h2 : ¬ Lt c l) : ¬ Lt c (nxt l) := by
  rcases last255 l with h3 | ⟨A, x, B, rfl, hx, hB⟩
  · rw [nxt_all h3]; exact not_lt_nil
  · rw [nxt_eq hx hB]
    intro h
    rcases below_nxt hB hc h with h4 | h4
    · exact h2 h4
    · exact h1 h4
end Kv
end Go.Proofs.Ytplminnejheceaa

namespace Go.Proofs.Ytplminnejheceaa
namespace Kv
open Go.RowKit Go.Lib Pg
attribute [local go_sem] Oper.semAt_some
/-- while a counted walk is gone through -/
structure GoneC (Wb V : World) (bo g : Nat) (mv jv : Value) (x : Nat) (EL : List En) (i : Nat) : Prop where
  chg : Chg (fun b => b = bo ∨ b = g) Wb V
  top : Blk V g [mv, jv, .int .i64 x] 67
  out : ∃ ov es, Blk V bo [ov] 28 ∧ PrA V Wb.heap.size ov es ∧ es.map En.kl2 = (EL.take i).map En.kl2
theorem GoneC.rcd {Wb V V' : World} {bo g : Nat} {mv jv : Value} {x : Nat} {EL : List En} {i : Nat} (h : GoneC Wb V bo g mv jv x EL i) (hr : Rec Wb.heap.size V V') : GoneC Wb V' bo g mv jv x EL i := by
  obtain ⟨ov, es, h1, h2, h3⟩ := h.out
  exact ⟨chg_rcd h.chg hr (Nat.le_refl _), hr.blk h.top, ov, es, rec_cel h1 hr, h2.cel hr.cel, h3⟩
theorem GoneC.tick {Wb V : World} {bo g : Nat} {mv jv : Value} {x : Nat} {EL : List En} {i : Nat} (h : GoneC Wb V bo g mv jv x EL i) : GoneC Wb (tick g V x) bo g mv jv (x + 1) EL i := by
  obtain ⟨ov, es, h1, h2, h3⟩ := h.out
  have hc := chg_tick g x V
  have hne : bo ≠ g := fun e => by subst e; exact absurd (h1.eq h.top).2 (by decide)
  have hU : ∀ b, b = g → ∀ cs, ¬ Blk V b cs 5 := fun b hb cs k => by
    subst hb
    exact absurd (k.eq h.top).2 (by decide)
  refine ⟨h.chg.trans hc (fun b _ e => .inr e), h.top.setCell (i := 2) _, ov, es, h1.chg hc hne, ⟨h2.ex.imp id ?_, fun e he => ⟨(h2.ents e he).k.chg hc hU, (h2.ents e he).v.chg hc hU⟩⟩, h3⟩
  rintro ⟨b, c, e, hl, hR⟩
  exact ⟨b, c, e, hl, hR.chg hc (fun e2 => by
    have e3 : b = g := e2
    subst e3
    obtain ⟨cs, k⟩ := hR.kind
    exact absurd (k.eq h.top).2 (by decide))⟩
theorem gone_belowC {W Wb W' : World} {bo g : Nat} (h1 : Below W.heap.size W Wb) (h3 : Chg (fun b => b = bo ∨ b = g) Wb W') (hb : W.heap.size ≤ bo) : Chg (· = g) W W' :=
  (Chg.of (F := (· = g)) h1).trans h3 (fun b hl e => e.elim (fun e => by omega) id)
set_option maxHeartbeats 16000000 in
set_option maxRecDepth 100000 in
theorem taken_raw {w W1 : World} {g bs1 bs2 bw x0 n : Nat} {mv jv : Value} {EL : List En} (IT : Itr TpW 73 #[.pointer (some ⟨bw, 0, none⟩)] EL.length (ArC EL) (fun V => Chg (· = g) W1 V)) (hRd : RdC (· = g) W1 g bs1 bs2 bw w) (hg : Blk w g [mv, jv, .int .i64 x0] 67) (hn0 : 0 < n) (hn : n ≤ 1073741824) (hx : x0 + EL.length ≤ 3000000000000000000) (hbg : ∀ e ∈ EL, e.kl.length ≤ 1000000000 ∧ e.vl.length ≤ 1000000000) :
    Calls Try.prog 24 #[.func (.func 71) #[] #[.pointer (some ⟨bs1, 0, none⟩), .pointer (some ⟨bs2, 0, none⟩)], .int .i64 n] w fun e w' => ∃ v es, e = .returned v ∧ PrA w' w.heap.size v es ∧ es.map En.kl2 = (EL.take n).map En.kl2 ∧ Blk w' g [mv, jv, .int .i64 ((x0 + 1 + es.length : Nat) : Int)] 67 ∧ Chg (· = g) w w' := by
  have b1 := below_alloc w (.cells #[.int .i64 n] 3)
  have b2 := below_alloc (w.alloc (.cells #[.int .i64 n] 3)) (.cells #[.slice none 0 0] 28)
  have c1 := (blk_new w [.int .i64 n] 3).keep b2
  have c2 := blk_new (w.alloc (.cells #[.int .i64 n] 3)) [.slice none 0 0] 28
  have s1 : (w.alloc (.cells #[.int .i64 n] 3)).heap.size = w.heap.size + 1 := by simp
  have s2 : ((w.alloc (.cells #[.int .i64 n] 3)).alloc (.cells #[.slice none 0 0] 28)).heap.size = w.heap.size + 2 := by simp
  rw [s1] at c2
  have b12 := joinB b1 b2
  have hgb0 : g < w.heap.size := hg.lt
  have hgb : g ≠ w.heap.size + 1 := by omega
  have ITC := counted_itr (g := g) (bs1 := bs1) (bs2 := bs2) (x0 := x0) IT (by unfold TpW; decide) hx
  have gB := hg.keep b12
  have hRb : RdC (· = g) W1 g bs1 bs2 bw ((w.alloc (.cells #[.int .i64 n] 3)).alloc (.cells #[.slice none 0 0] 28)) := ⟨hRd.1.trans (Chg.of (F := fun _ => False) b12) (fun _ _ h => h.elim), hRd.2.1.keep b12, hRd.2.2.1.keep b12, ⟨_, gB⟩⟩
  have hW1 : W1.heap.size ≤ w.heap.size := hRd.1.size
  have hb1 : bs1 < w.heap.size := hRd.2.1.lt
  have hb2 : bs2 < w.heap.size := hRd.2.2.1.lt
  have hbg1 : bs1 ≠ g := fun e => by subst e; exact absurd (hRd.2.1.eq hg).2 (by decide)
  have hbg2 : bs2 ≠ g := fun e => by subst e; exact absurd (hRd.2.2.1.eq hg).2 (by decide)
  have HB12 := hid3 b12
  have hbig := hid3 hbg
  clear b1 b2 s1 hRd hg hbg
  obtain ⟨Wb, hWb⟩ : ∃ Wb, Hid ((w.alloc (.cells #[.int .i64 n] 3)).alloc (.cells #[.slice none 0 0] 28) = Wb) := ⟨_, rfl⟩
  rw [hWb.out] at c1 c2 s2 gB hRb HB12
  have RD : ∀ V x i, GoneC Wb V (w.heap.size + 1) g mv jv x EL i → V.cell? ⟨g, 2, none⟩ = some (.int .i64 x) ∧ V.frozen? ⟨g, 2, none⟩ = false ∧ RdC (· = g) W1 g bs1 bs2 bw V := fun V x i h => by
    refine ⟨h.top.cell (i := 2) rfl, h.top.free 2, hRb.1.trans h.chg (fun b hl e => e.elim (fun e => by omega) id), hRb.2.1.chg h.chg (fun e => e.elim (fun e => by omega) hbg1), hRb.2.2.1.chg h.chg (fun e => e.elim (fun e => by omega) hbg2), ⟨_, h.top⟩⟩
  refine (callsIn_wide (n := 0)).1 ?_
  refine callsIn_of_wp_marks Try.func24 rfl trivial ?_ rfl
  simp only [Try.ntmps24, List.size_toArray, List.length_cons, List.length_nil, Nat.reduceAdd, Nat.reduceSub, Array.replicate_succ, Array.replicate_zero, List.push_toArray, List.append_toArray, List.nil_append, List.cons_append]
  gi_wp2
  rw [hWb.out]
  refine rf_outerC ITC (by rfl) (enters_of Try.func71 (by kernel_rfl) rfl) (fun i args n V V' h hc => h.cel hc) (fun i args n V h => by obtain ⟨e, kv, vv, s, _, rfl, _⟩ := h; rfl)
    (fun V => GoneC Wb V (w.heap.size + 1) g mv jv x0 EL 0)
    (fun i V => i < n ∧ GoneC Wb V (w.heap.size + 1) g mv jv (x0 + 1 + i) EL i)
    (fun i V => i < n ∧ GoneC Wb V (w.heap.size + 1) g mv jv (x0 + 1 + i + 1) EL i)
    (fun c i V => c = .exit 0 ∧ i = n ∧ GoneC Wb V (w.heap.size + 1) g mv jv (x0 + 1 + i) EL i)
    (fun A B hx hr => hx.rcd hr) (fun i A B hx hr => ⟨hx.1, hx.2.rcd hr⟩) (fun i A B hx hr => ⟨hx.1, hx.2.rcd hr⟩) (fun c i A B hx hr => ⟨hx.1, hx.2.1, hx.2.2.rcd hr⟩) (by omega)
    (fun V hv => by obtain ⟨q1, q2, q3⟩ := RD V _ _ hv; exact ⟨q1, q2, q3, hn0, hv.tick⟩)
    (fun i V hv => by obtain ⟨q1, q2, q3⟩ := RD V _ _ hv.2; exact ⟨q1, q2, q3, fun _ => ⟨hv.1, hv.2.tick⟩⟩)
    ⟨Chg.refl _ _, gB, _, [], c2, ⟨.inl ⟨rfl, rfl⟩, fun e he => by cases he⟩, rfl⟩ ?_ ?_ ?_
  · rintro l2 i args V Wv hl hlV hrec hiN ⟨hin, hG⟩ hb ⟨e0, kv, vv, s0, he0, rfl, hk0, hv0, _⟩
    obtain ⟨hkl, hvl⟩ := hbig.out e0 (List.mem_of_getElem? he0)
    obtain ⟨ak, nk, hk1⟩ := hk0.shape
    obtain ⟨av, nv, hv1⟩ := hv0.shape
    subst hk1 hv1
    simp
    gi_wp2
    refine ⟨Below.refl _ _, ?_⟩
    intro V2 W2 hin2 hG2 hb2 hAr2 hoth hsz3 hV2 r hrec2
    obtain ⟨e1, kv1, vv1, t1, he1, harr, hk2, hv2, ht1⟩ := hAr2
    obtain rfl : e1 = e0 := by rw [he0] at he1; cases he1; rfl
    simp at harr
    obtain ⟨rfl, rfl⟩ := harr
    obtain ⟨ov, es, g1, g2, g3⟩ := hG2.out
    have gT := hG2.top
    have hlen : es.length = i := by have := congrArg List.length g3; simp at this; omega
    have hbD := joinB hb2 (belowD W2)
    have S0 := g1.keep hbD
    have P0 := g2.keep hbD
    have G0 := gT.keep hbD
    have hkD := hk2.lt'.keep (belowD W2)
    have hvD := hv2.lt'.keep (belowD W2)
    obtain ⟨ao0, cc0, rfl⟩ := g2.shape
    clear hG hk0 hv0 hb hoth
    gi_wp2
    refine iz_start (z := 8) (S := fun w' => Blk w' (w.heap.size + 1) [.slice ao0 es.length cc0] 28) (by kernel_rfl) ?_
    refine iz_load 0 (some 11) (.slice ao0 es.length cc0) 28 5 (w.heap.size + 1) 0 (by kernel_rfl) (by kernel_rfl) (by kernel_rfl) (by kernel_rfl) (by kernel_rfl) (fun w' h => ld_q h) (fun _ _ _ h => h) S0 ?_
    refine iz_take 1 (some 12) (.slice ak e1.kl.length nk) (by kernel_rfl) (by kernel_rfl) (by kernel_rfl) (fun _ _ => by kernel_rfl) (fun _ _ _ h => h) S0 ?_
    refine iz_take 3 (some 14) (.slice av e1.vl.length nv) (by kernel_rfl) (by kernel_rfl) (by kernel_rfl) (fun _ _ => by kernel_rfl) (fun _ _ _ h => h) S0 ?_
    refine iz_call 2 (some 13) 32 #[.slice ak e1.kl.length nk] (by kernel_rfl) (by kernel_rfl) (by kernel_rfl) (copyBytes_any hkD.by hkl) ?_
    rintro e' w3 ⟨nkv, rfl, hO3, hB3⟩
    refine ⟨_, rfl, S0.keep hB3, ?_⟩
    refine iz_call 4 (some 15) 32 #[.slice av e1.vl.length nv] (by kernel_rfl) (by kernel_rfl) (by kernel_rfl) (copyBytes_any (hvD.keep hB3).by hvl) ?_
    rintro e' w4 ⟨nvv, rfl, hO4, hB4⟩
    have hB34 := joinB hB3 hB4
    have S4 := S0.keep hB34
    refine ⟨_, rfl, S4, ?_⟩
    obtain ⟨bk, ck, hk3⟩ := hO3.shape
    obtain ⟨bv, cv, hv3⟩ := hO4.shape
    subst hk3 hv3
    refine iz_take 5 (some 16) (.agg #[.slice bk e1.kl.length ck, .slice bv e1.vl.length cv]) (by kernel_rfl) (by kernel_rfl) (by kernel_rfl) (fun _ _ => by kernel_rfl) (fun _ _ _ h => h) S4 ?_
    have hBa := below_alloc w4 (.cells #[.slice bk e1.kl.length ck, .slice bv e1.vl.length cv] 45)
    have N4 := blk_new w4 [.slice bk e1.kl.length ck, .slice bv e1.vl.length cv] 45
    refine iz_val 6 (some 17) (.slice (some ⟨w4.heap.size, 0, none⟩) 1 1) (w4.alloc (.cells #[.slice bk e1.kl.length ck, .slice bv e1.vl.length cv] 45)) (by kernel_rfl) (by kernel_rfl) (run_bq (k := 16) (by kernel_rfl) (by kernel_rfl)) (S4.keep hBa) ?_
    obtain ⟨w4a, hw4a⟩ : ∃ w4a, Hid (w4.alloc (.cells #[.slice bk e1.kl.length ck, .slice bv e1.vl.length cv] 45) = w4a) := ⟨_, rfl⟩
    simp only [hw4a.out] at hBa N4 ⊢
    have hBD := joinB hB34 hBa
    have z1 := hG2.chg.size
    have z2 := hb2.size
    have z3 := hB3.size
    have z4 := hB4.size
    have z5 := hBa.size
    have d0 : W2.drew.heap.size = W2.heap.size := rfl
    have hE4 : EnA w4a (fun b => W2.heap.size ≤ b) ⟨.slice bk e1.kl.length ck, e1.kl, .slice bv e1.vl.length cv, e1.vl⟩ := ⟨(hO3.keep hB4).keep hBa, (hO4.keep hBa).mono (fun b _ hb => by omega)⟩
    obtain ⟨ov5, w5, hr5, P5, hS5⟩ := app_pair (e := ⟨.slice bk e1.kl.length ck, e1.kl, .slice bv e1.vl.length cv, e1.vl⟩) (a := ⟨w4.heap.size, 0, none⟩) 28 (P0.keep hBD) (by omega) (hE4.mono (fun b _ hb => by omega)) (by omega) (N4.cell (i := 0) rfl) (N4.cell (i := 1) rfl)
    have hT5 : ∀ e ∈ es ++ [⟨.slice bk e1.kl.length ck, e1.kl, .slice bv e1.vl.length cv, e1.vl⟩], EnA w5 (fun b => Wb.heap.size ≤ b ∧ ¬ (V2.heap.size ≤ b ∧ b < W2.heap.size)) e := fun e he => by
      have h4 : EnA w4a (fun b => Wb.heap.size ≤ b ∧ ¬ (V2.heap.size ≤ b ∧ b < W2.heap.size)) e := by
        rcases List.mem_append.1 he with h | h
        · have hx := g2.ents e h
          have hx2 : EnA V2 (fun b => Wb.heap.size ≤ b ∧ ¬ (V2.heap.size ≤ b ∧ b < W2.heap.size)) e := hx.mono (fun b hb h => ⟨h, by omega⟩)
          exact (hx2.keep hbD).keep hBD
        · simp at h
          rw [h]
          exact hE4.mono (fun b _ hb => by omega)
      exact ⟨hS5.ob h4.k, hS5.ob h4.v⟩
    obtain ⟨es2, hes2⟩ : ∃ es2, Hid (es ++ [(⟨.slice bk e1.kl.length ck, e1.kl, .slice bv e1.vl.length cv, e1.vl⟩ : En)] = es2) := ⟨_, rfl⟩
    have hes3 : es2.length = i + 1 := by rw [← hes2.out, List.length_append, hlen]; rfl
    have hes4 : Hid (es2.map En.kl2 = (EL.take (i + 1)).map En.kl2) := by
      show _ = _
      rw [← hes2.out, List.map_append, g3, List.take_add_one, he0, List.map_append]
      rfl
    simp only [hes2.out] at P5 hT5
    obtain ⟨ao5, cc5, rfl⟩ := P5.shape
    have S5 := hS5.blk (S4.keep hBa) (by decide)
    have G5 := hS5.blk ((G0.keep hB34).keep hBa) (by decide)
    refine iz_val 7 (some 18) (.slice ao5 es2.length cc5) w5 (by kernel_rfl) (by kernel_rfl) (run_ap (x := 11) (y := 17) (T := 28) (ty := 28) (by kernel_rfl) (by kernel_rfl) (by kernel_rfl) (by kernel_rfl) hr5) S5 ?_
    refine iz_last (w5.setCell ⟨w.heap.size + 1, 0, none⟩ (.slice ao5 es2.length cc5)) (by kernel_rfl) (by kernel_rfl) (run_sq 5 18 (by kernel_rfl) (by kernel_rfl) (by kernel_rfl) S5) ?_
    refine iz_done (by kernel_rfl) ?_
    simp only [Act.put, List.setIfInBounds_toArray, List.set_cons_zero, List.set_cons_succ]
    have hC6 : Chg (· = w.heap.size + 1) w5 (w5.setCell ⟨w.heap.size + 1, 0, none⟩ (.slice ao5 es2.length cc5)) := (Chg.refl (fun x => x = w.heap.size + 1) w5).cell (.inl (by rfl)) _
    have S6 := S5.setCell (i := 0) (.slice ao5 es2.length cc5)
    have G6 := G5.off (g' := w.heap.size + 1) (i := 0) hgb (.slice ao5 es2.length cc5)
    obtain ⟨w6, hw6⟩ : ∃ w6, Hid (w5.setCell ⟨w.heap.size + 1, 0, none⟩ (.slice ao5 es2.length cc5) = w6) := ⟨_, rfl⟩
    simp only [hw6.out] at hC6 S6 G6 ⊢
    have hboU : ∀ b, b = w.heap.size + 1 → ∀ cs, ¬ Blk w5 b cs 5 := fun b hb cs k => by
      subst hb
      have := (k.eq S5).2
      revert this
      decide
    have hT6 : ∀ e ∈ es2, EnA w6 (fun b => Wb.heap.size ≤ b ∧ ¬ (V2.heap.size ≤ b ∧ b < W2.heap.size)) e := fun e he => ⟨(hT5 e he).k.chg hC6 hboU, (hT5 e he).v.chg hC6 hboU⟩
    have P6 : PrA w6 Wb.heap.size (.slice ao5 es2.length cc5) es2 := ⟨P5.ex.imp id (fun ⟨b, c, e, hl, hR⟩ => ⟨b, c, e, hl, hR.chg hC6 (by omega)⟩), fun e he => ⟨(hT6 e he).k.mono (fun _ _ h => h.1), (hT6 e he).v.mono (fun _ _ h => h.1)⟩⟩
    have hk6 := (hS5.ob (hkD.keep hBD)).chg hC6 hboU
    have hv6 := (hS5.ob (hvD.keep hBD)).chg hC6 hboU
    have t7 := spoil_any hk6 hkl
    have hKa : KeepsT TpW Wb.heap.size W2 w6 := ((KeepsT.of (joinB (belowD W2) hBD)).trans (hS5.keeps (.inr rfl))).trans ⟨hC6.size, fun k o hk h0 _ => (hC6.same k (lt_of_block h0) (by omega)).trans h0⟩
    have hCa : Chg (fun b => b = w.heap.size + 1 ∨ b = g) Wb w6 := (((hG2.chg.trans (Chg.of (F := fun _ => False) (joinB hbD hBD)) (fun _ _ h => h.elim)).trans hS5.chg (fun b h1 h2 => by omega))).trans hC6 (fun b _ h => .inl h)
    have cn2 := c1
    have HX : Hid _ := hes3
    have HP6 : Hid _ := P6
    have HT6 : Hid _ := hT6
    have HKa : Hid _ := hKa
    have HCa : Hid _ := hCa
    have HS6 : Hid _ := S6
    have HG6 : Hid _ := G6
    have Hv6 : Hid _ := hv6
    clear hes3 P5 hT5 hr5 hS5 S5 hC6 hboU hk6 hBD hBa N4 hB34 S4 hB3 hB4 hO3 hO4 hE4 P0 S0 hkD hvD hbD g1 g2 g3 hk2 hv2 hb2 hG2 P6 hT6 hKa hCa S6 hv6 G6 G5 G0 gT
    gi_wp2_with (refine ⟨trivial, rfl, ?_⟩; gi_at_call 36; refine (CallsIn.inRound l2 (callsIn_wide.2 t7)).mono ?_; rintro e' w7 ⟨rfl, hs7⟩; clear t7)
    have hv7 := hs7.ob Hv6.out (fun b hb hd => by omega)
    have t8 := spoil_any hv7 hvl
    have hT7 : Hid (∀ e ∈ es2, EnA w7 (fun b => Wb.heap.size ≤ b ∧ ¬ (V2.heap.size ≤ b ∧ b < W2.heap.size)) e) := fun e he => ⟨hs7.ob (HT6.out e he).k (fun b hb hd => by omega), hs7.ob (HT6.out e he).v (fun b hb hd => by omega)⟩
    have P7 : Hid (PrA w7 Wb.heap.size (.slice ao5 es2.length cc5) es2) := HP6.out.spd (fun e he => ⟨(HT6.out e he).k.mono (fun b _ h => ⟨h.1, by omega⟩), (HT6.out e he).v.mono (fun b _ h => ⟨h.1, by omega⟩)⟩) hs7
    have S7 : Hid _ := hs7.blk HS6.out (by decide)
    have G7 : Hid _ := hs7.blk HG6.out (by decide)
    have K7 : Hid (KeepsT TpW Wb.heap.size W2 w7) := HKa.out.trans (hs7.keeps (.inl rfl) _)
    have C7 : Hid (Chg (fun b => b = w.heap.size + 1 ∨ b = g) Wb w7) := HCa.out.trans hs7.chg (fun b h1 h2 => by omega)
    clear hs7 hv7
    by_cases hlast : i + 1 = n
    · have hq : (n : Int) ≤ (es2.length : Int) := by have := HX.out; omega
      have HQ : Hid _ := hlast
      clear hlast
      gi_wp2_with (refine ⟨trivial, rfl, ?_⟩; gi_at_call 36; refine (CallsIn.inRound l2 (callsIn_wide.2 t8)).mono ?_; rintro e' w8 ⟨rfl, hs8⟩; clear t8; have S8 := hs8.blk S7.out (by decide); have cO := S8.cell (i := 0) rfl; have C8 := C7.out.trans hs8.chg (fun b h1 h2 => by omega); have cN := (cn2.chg C8 (by omega)).cell (i := 0) rfl)
      have P8 := P7.out.spd (fun e he => ⟨(hT7.out e he).k.mono (fun b _ h => ⟨h.1, by omega⟩), (hT7.out e he).v.mono (fun b _ h => ⟨h.1, by omega⟩)⟩) hs8
      exact ⟨K7.out.trans (hs8.keeps (.inl rfl) _), rfl, HQ.out, C8, (by have h9 := hs8.blk G7.out (by decide); rw [show x0 + 1 + (i + 1) = x0 + 1 + i + 1 by omega]; exact h9), _, es2, S8, P8, hes4.out⟩
    · have hq : ¬ ((n : Int) ≤ (es2.length : Int)) := by have := HX.out; omega
      gi_wp2_with (refine ⟨trivial, rfl, ?_⟩; gi_at_call 36; refine (CallsIn.inRound l2 (callsIn_wide.2 t8)).mono ?_; rintro e' w8 ⟨rfl, hs8⟩; clear t8; have S8 := hs8.blk S7.out (by decide); have cO := S8.cell (i := 0) rfl; have C8 := C7.out.trans hs8.chg (fun b h1 h2 => by omega); have cN := (cn2.chg C8 (by omega)).cell (i := 0) rfl)
      have P8 := P7.out.spd (fun e he => ⟨(hT7.out e he).k.mono (fun b _ h => ⟨h.1, by omega⟩), (hT7.out e he).v.mono (fun b _ h => ⟨h.1, by omega⟩)⟩) hs8
      exact ⟨K7.out.trans (hs8.keeps (.inl rfl) _), by omega, C8, (by have h9 := hs8.blk G7.out (by decide); rw [show x0 + 1 + (i + 1) = x0 + 1 + i + 1 by omega]; exact h9), _, es2, S8, P8, hes4.out⟩
  · rintro D' W' hD hK ⟨hlt, hG⟩
    obtain ⟨ov, es, g1, g2, g3⟩ := hG.out
    obtain ⟨ao, cc, rfl⟩ := g2.shape
    have g1c := g1.cell (i := 0) rfl
    have R3 := Rec.put hK rfl hD (.deferred none)
    have hel : es.length = EL.length := by have := congrArg List.length g3; simp at this; exact this
    have hG3 := hG.rcd R3
    have HEL := hid3 hel
    clear hel
    gi_wp2
    refine ⟨by simp, .inl ⟨_, _, rfl, run_takeDeferred hK, ?_⟩⟩
    refine ⟨_, results_tmp rfl _ _ _, _, es, rfl, (g2.cel R3.cel).low (by omega), ?_, ?_, ?_⟩
    · rw [g3, List.take_length, List.take_of_length_le (by omega)]
    · rw [HEL.out]; exact hG3.top
    · exact gone_belowC HB12.out hG3.chg (by omega)
  · rintro D' c i W' hD hK hiN ⟨rfl, hin, hG⟩
    obtain ⟨ov, es, g1, g2, g3⟩ := hG.out
    obtain ⟨ao, cc, rfl⟩ := g2.shape
    have g1c := g1.cell (i := 0) rfl
    have R3 := Rec.put hK rfl hD (.deferred none)
    have hel : es.length = i + 1 := by have := congrArg List.length g3; simp at this; omega
    have hG3 := hG.rcd R3
    have HEL := hid3 hel
    have HIN := hid3 hin
    clear hel hin
    gi_wp2
    refine ⟨by simp, .inl ⟨_, _, rfl, run_takeDeferred hK, ?_⟩⟩
    refine ⟨_, results_tmp rfl _ _ _, _, es, rfl, (g2.cel R3.cel).low (by omega), ?_, ?_, ?_⟩
    · rw [g3, HIN.out]
    · rw [HEL.out]; exact hG3.top
    · exact gone_belowC HB12.out hG3.chg (by omega)
end Kv
end Go.Proofs.Ytplminnejheceaa

namespace Go.Proofs.Ytplminnejheceaa
namespace Kv
open Go.RowKit Go.Lib Pg
attribute [local go_sem] Oper.semAt_some
/-- a counted walk over these entries -/
structure Iter (w : World) (g : Nat) (EL : List En) (v : Value) : Prop where
  ex : ∃ bs1 bs2 bw W1, v = .func (.func 71) #[] #[.pointer (some ⟨bs1, 0, none⟩), .pointer (some ⟨bs2, 0, none⟩)] ∧ Itr TpW 73 #[.pointer (some ⟨bw, 0, none⟩)] EL.length (ArC EL) (fun V => Chg (· = g) W1 V) ∧ RdC (· = g) W1 g bs1 bs2 bw w
  small : ∀ e ∈ EL, e.kl.length ≤ 1000000000 ∧ e.vl.length ≤ 1000000000
theorem Iter.chg {w w' : World} {g : Nat} {EL : List En} {v : Value} (h : Iter w g EL v) (hc : Chg (· = g) w w') (hg : ∃ cs, Blk w' g cs 67) : Iter w' g EL v := by
  obtain ⟨bs1, bs2, bw, W1, e, IT, r1, r2, r3, cs, r4⟩ := h.ex
  exact ⟨⟨bs1, bs2, bw, W1, e, IT, r1.trans hc (fun _ _ h => h), r2.chg hc (fun e => by have e' : bs1 = g := e; subst e'; exact absurd (r2.eq r4).2 (by decide)), r3.chg hc (fun e => by have e' : bs2 = g := e; subst e'; exact absurd (r3.eq r4).2 (by decide)), hg⟩, h.small⟩
set_option maxHeartbeats 2000000 in
set_option maxRecDepth 100000 in
theorem counted_mk {w : World} {pg : Option Addr} {k : Nat} {lb : Array Value} : Calls Try.prog 53 #[.pointer pg, .func (.func k) #[] lb] w fun e w' => e = .returned (.func (.func 71) #[] #[.pointer (some ⟨w.heap.size, 0, none⟩), .pointer (some ⟨w.heap.size + 1, 0, none⟩)]) ∧ Blk w' w.heap.size [.pointer pg] 25 ∧ Blk w' (w.heap.size + 1) [.func (.func k) #[] lb] 49 ∧ Below w.heap.size w w' := by
  have b1 := below_alloc w (.cells #[.pointer pg] 25)
  have c1 := blk_new w [.pointer pg] 25
  have b2 := below_alloc (w.alloc (.cells #[.pointer pg] 25)) (.cells #[.func (.func k) #[] lb] 49)
  have c2 := blk_new (w.alloc (.cells #[.pointer pg] 25)) [.func (.func k) #[] lb] 49
  have s1 : (w.alloc (.cells #[.pointer pg] 25)).heap.size = w.heap.size + 1 := by simp
  rw [s1] at c2
  go_enter Try.func53, Try.ntmps53
  go_wp2
  go_ret
  exact ⟨rfl, c1.keep b2, c2, joinB b1 b2⟩
theorem xwm {w : World} {K D F V : Nat → Prop} {g m : Nat} {Q : List (List KV)} {jv : Value} {T : List Jr} {oj : Option Nat} {n N : Nat} (h : SX w K D F V g m Q jv T oj n N) (hN : N ≤ 100000000) : ∃ L, Wm w (· = g) F D m L ∧ ∀ f t, (wlk (ens L) f t).map En.kl2 = Q.flatten.filter (abtw f t) :=
  h.wm hN (fun b e hF => by have e' : b = g := e; subst e'; exact h.own.ntop hF) (fun b e cs k => by
    have e' : b = g := e
    subst e'
    exact absurd (h.blk.eq k).2 (by decide)) (fun b e => by have e' : b = g := e; subst e'; exact h.blk.lt)
theorem iter_of {w w1 w2 : World} {F D : Nat → Prop} {g m bw : Nat} {jv : Value} {n : Int} {L : List Pg} {f t : List Int} (hg : Blk w g [.pointer (some ⟨m, 0, none⟩), jv, .int .i64 n] 67) (Km : Wm w (· = g) F D m L) (B1 : Below w.heap.size w w1) (IT : Itr TpW 73 #[.pointer (some ⟨bw, 0, none⟩)] (wlk (ens L) f t).length (ArC (wlk (ens L) f t)) (fun V => Chg (· = g) w1 V))
    (b1 : Blk w2 w1.heap.size [.pointer (some ⟨g, 0, none⟩)] 25) (b2 : Blk w2 (w1.heap.size + 1) [.func (.func 73) #[] #[.pointer (some ⟨bw, 0, none⟩)]] 49) (B2 : Below w1.heap.size w1 w2) :
    Iter w2 g (wlk (ens L) f t) (.func (.func 71) #[] #[.pointer (some ⟨w1.heap.size, 0, none⟩), .pointer (some ⟨w1.heap.size + 1, 0, none⟩)]) :=
  ⟨⟨_, _, bw, w1, rfl, IT, Chg.of B2, b1, b2, ⟨_, (hg.keep B1).keep B2⟩⟩, fun e he => by
    obtain ⟨es, h1, h2⟩ := wlk_mem he
    exact Km.small es h1 e h2⟩
set_option maxHeartbeats 2000000 in
set_option maxRecDepth 100000 in
theorem swalk {w : World} {K D : Nat → Prop} {g n N : Nat} {E : Ents} {W : List Ents} {fv tv : Value} {f t : List Int} (h : SA w K D g E W n N) (hN : N ≤ 100000000) (hf : By w fv f) (ht : By w tv t) (hfl : f.length ≤ 1000000000) (htl : t.length ≤ 1000000000) :
    Calls Try.prog 26 #[.pointer (some ⟨g, 0, none⟩), fv, tv] w fun e w' => ∃ v EL, e = .returned v ∧ Iter w' g EL v ∧ EL.map En.kl2 = E.filter (abtw f t) ∧ Below w.heap.size w w' := by
  obtain ⟨F, V, m, Q, jv, T, oj, hX, rfl, hB⟩ := h.open
  obtain ⟨L, Km, hw⟩ := xwm hX hN
  have tW := walk_any (Tp := TpW) Km hf ht hfl htl (by unfold TpW; decide) (by unfold TpW; decide)
  have c0 := hX.blk.cell (i := 0) rfl
  obtain ⟨fa, fc, rfl, -⟩ := id hf.ex
  obtain ⟨ta, tc, rfl, -⟩ := id ht.ex
  generalize hfn : f.length = fn at *
  generalize htn : t.length = tn at *
  have HX := hid3 hX
  have HK := hid3 Km
  have HW := hid3 hw
  clear hX Km hw h hB hf ht hfn htn
  go_enter Try.func26, Try.ntmps26
  go_wp2_with first
    | (go_at_call 43; go_must (refine tW.mono ?_); rintro e w1 ⟨bw, rfl, B1, IT⟩; clear tW)
    | (go_at_call 53; go_must (refine counted_mk.mono ?_); rintro e w2 ⟨rfl, k1, k2, B2⟩)
  go_ret
  exact ⟨_, _, rfl, iter_of HX.out.blk HK.out B1 IT k1 k2 B2, HW.out f t, joinB B1 B2⟩
theorem SA.oct {w : World} {K D : Nat → Prop} {g n N : Nat} {E : Ents} {W : List Ents} (h : SA w K D g E W n N) : ∀ x ∈ E, Oct x.1 := by
  obtain ⟨F, V, m, Q, jv, T, oj, hX, rfl, hB⟩ := h.open
  obtain ⟨L, rfl, A, O, S, k, r⟩ := hX.map.ex
  intro x hx
  rw [abs_flat] at hx
  obtain ⟨e, he, rfl⟩ := List.mem_map.1 hx
  obtain ⟨es, h1, h2⟩ := List.mem_flatten.1 he
  obtain ⟨p, hp, rfl⟩ := List.mem_map.1 h1
  exact ((A.pages p hp).1.ents e h2).k.oct
theorem pre_not_lt {p k : List Int} (h : p <+: k) : ¬ Lt k p := by
  obtain ⟨t, rfl⟩ := h
  intro h
  have : Lt (p ++ t) (p ++ []) := by simpa using h
  rw [lt_app] at this
  exact not_lt_nil this
theorem abtw_pre {p : List Int} {x : KV} (hx : Oct x.1) : abtw p (nxt p) x = decide (p <+: x.1) := by
  unfold abtw
  by_cases h : p <+: x.1
  · have h1 := pre_not_lt h
    by_cases hn : nxt p = []
    · simp [h, h1, hn]
    · simp [h,h1];exact .inr (pre_lt_nxt hn h)
  · by_cases h1 : Lt x.1 p
    · simp [h, h1]
    · have hn : nxt p ≠ [] := fun e => by
        rcases all255 (nxt_nil e) hx with h2 | h2
        · exact h1 h2
        · exact h h2
      simp [h, h1, hn, not_lt_nxt hx h h1]
set_option maxHeartbeats 4000000 in
set_option maxRecDepth 100000 in
theorem sprefix {w : World} {K D : Nat → Prop} {g n N : Nat} {E : Ents} {W : List Ents} {pv : Value} {p : List Int} (h : SA w K D g E W n N) (hN : N ≤ 100000000) (hp : By w pv p) (hpl : p.length ≤ 1000000) :
    Calls Try.prog 25 #[.pointer (some ⟨g, 0, none⟩), pv] w fun e w' => ∃ v EL, e = .returned v ∧ Iter w' g EL v ∧ EL.map En.kl2 = E.filter (fun x => decide (p <+: x.1)) ∧ Below w.heap.size w w' := by
  have hOct := h.oct
  obtain ⟨F, V, m, Q, jv, T, oj, hX, rfl, hB⟩ := h.open
  obtain ⟨pa, pc, rfl, -⟩ := id hp.ex
  have hbel := next_any hp.drew (by omega)
  have hS := hX.blk.drew
  have HX := hid3 hX
  have HP := hid3 hp
  have HO := hid3 hOct
  have hpl2 := hid3 hpl
  have bD : Below w.heap.size w w.drew := ⟨rfl, rfl, rfl, Nat.le_refl _, fun _ _ => rfl⟩
  clear hX hp h hB hOct hpl
  obtain ⟨pn, hpn⟩ : ∃ pn, Hid (p.length = pn) := ⟨_, rfl⟩
  rw [hpn.out] at HP hbel ⊢
  go_enter Try.func25, Try.ntmps25
  go_wp2_with fail
  refine rg_start (S := fun w' => Blk w' g [.pointer (some ⟨m, 0, none⟩), jv, .int .i64 n] 67) (by kernel_rfl) hS ?_
  refine rg_take 0 (some 5) (.pointer (some ⟨g, 0, none⟩)) (by kernel_rfl) (fun _ _ => by kernel_rfl) (fun _ _ _ h => h) hS ?_
  refine rg_take 1 (some 6) (.pointer (some ⟨g, 0, none⟩)) (by kernel_rfl) (fun _ _ => by kernel_rfl) (fun _ _ _ h => h) hS ?_
  refine rg_take 2 (some 7) (.pointer (some ⟨g, 0, none⟩)) (by kernel_rfl) (fun _ _ => by kernel_rfl) (fun _ _ _ h => h) hS ?_
  refine rg_take 3 (some 8) (.pointer (some ⟨g, 0, none⟩)) (by kernel_rfl) (fun _ _ => by kernel_rfl) (fun _ _ _ h => h) hS ?_
  refine rg_load 4 (some 9) (.pointer (some ⟨m, 0, none⟩)) 58 8 g 0 (by kernel_rfl) (by kernel_rfl) (by kernel_rfl) (fun w' h => ld_mp (h.cell (i := 0) rfl)) (fun _ _ _ h => h) hS ?_
  refine rg_take 5 (some 10) (.slice pa pn pc) (by kernel_rfl) (fun _ _ => by kernel_rfl) (fun _ _ _ h => h) hS ?_
  refine rg_take 6 (some 11) (.slice pa pn pc) (by kernel_rfl) (fun _ _ => by kernel_rfl) (fun _ _ _ h => h) hS ?_
  refine rg_call 7 (some 12) 54 #[.slice pa pn pc] (by kernel_rfl) (by kernel_rfl) hbel ?_
  rintro e' w1 ⟨nv, rfl, O1, B1⟩
  refine ⟨_, rfl, hS.keep B1, ?_⟩
  have B1' := joinB bD B1
  replace hS := hS.keep B1
  have X1 := HX.out.keep B1'
  obtain ⟨L, Km, hw⟩ := xwm X1 hN
  have hnl : (nxt p).length ≤ p.length := by
    rcases last255 p with h1 | ⟨A, x, B, rfl, hx, hB⟩
    · rw [nxt_all h1]; simp
    · rw [nxt_eq hx hB]; simp
  have tW := walk_any (Tp := TpW) Km (HP.out.keep B1') O1.by (by have := hpl2.out; omega) (by have := hpl2.out; omega) (by unfold TpW; decide) (by unfold TpW; decide)
  refine rg_call 8 (some 13) 43 #[.pointer (some ⟨m, 0, none⟩), .slice pa pn pc, nv] (by kernel_rfl) (by kernel_rfl) tW ?_
  rintro e' w2 ⟨bw, rfl, B2, IT⟩
  refine ⟨_, rfl, hS.keep B2, ?_⟩
  replace hS := hS.keep B2
  refine rg_call 9 (some 14) 53 #[.pointer (some ⟨g, 0, none⟩), .func (.func 73) #[] #[.pointer (some ⟨bw, 0, none⟩)]] (by kernel_rfl) (by kernel_rfl) counted_mk ?_
  rintro e' w3 ⟨rfl, k1, k2, B3⟩
  refine ⟨_, rfl, hS.keep B3, ?_⟩
  replace hS := hS.keep B3
  refine rg_take 10 (some 4) (.func (.func 71) #[] #[.pointer (some ⟨w2.heap.size, 0, none⟩), .pointer (some ⟨w2.heap.size + 1, 0, none⟩)]) (by kernel_rfl) (fun _ _ => by kernel_rfl) (fun _ _ _ h => h) hS ?_
  refine rg_done (by kernel_rfl) ?_
  simp only [Act.put, List.setIfInBounds_toArray, List.set_cons_zero, List.set_cons_succ]
  have FI := hid3 (iter_of X1.blk Km B2 IT k1 k2 B3)
  have HW := hid3 (hw p (nxt p))
  have BB := hid3 (joinB (joinB B1' B2) B3)
  clear hS X1 Km hw tW IT k1 k2 B3 B2 B1 B1' O1 bD
  go_wp2
  go_ret
  refine ⟨_, _, rfl, FI.out, ?_, BB.out⟩
  rw [HW.out]
  exact List.filter_congr (fun x hx => abtw_pre (HO.out x hx))
theorem staken {w : World} {K D : Nat → Prop} {g x0 N n : Nat} {E : Ents} {W : List Ents} {v : Value} {EL : List En} (h : SA w K D g E W x0 N) (hI : Iter w g EL v) (hn0 : 0 < n) (hn : n ≤ 1073741824) (hx : x0 + EL.length ≤ 3000000000000000000) :
    Calls Try.prog 24 #[v, .int .i64 n] w fun e w' => ∃ v2 es, e = .returned v2 ∧ PrA w' w.heap.size v2 es ∧ es.map En.kl2 = (EL.map En.kl2).take n ∧ SA w' K D g E W (x0 + 1 + es.length) N ∧ Chg (· = g) w w' := by
  obtain ⟨F, V, m, Q, jv, T, oj, hX, hE, hB⟩ := h.open
  obtain ⟨bs1, bs2, bw, W1, rfl, IT, hRd⟩ := hI.ex
  refine (taken_raw IT hRd hX.blk hn0 hn hx hI.small).mono ?_
  rintro e w' ⟨v2, es, rfl, P, he, hb, hc⟩
  exact ⟨v2, es, rfl, P, by rw [he, List.map_take], (hX.top hc hb).shut hE hB, hc⟩
end Kv
end Go.Proofs.Ytplminnejheceaa
