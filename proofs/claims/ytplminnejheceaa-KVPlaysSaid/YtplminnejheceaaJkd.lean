/- Several texts, joined: KvCa, KvCb, KvLi, KvCc. -/
import Derived.Test.YtplminnejheceaaJkc
import Derived.Test.YtplminnejheceaaPgPa
import Derived.Lib.SlBytesConst
namespace Go.Proofs.Ytplminnejheceaa
namespace Kv
open Go.RowKit Go.Lib Pg
/-- bytes in a block of bytes, however its capacity is marked -/
structure ByU (w : World) (v : Value) (l : List Int) : Prop where
  byt : By w v l
  u8 : ∀ b o n c, v = .slice (some ⟨b, o, none⟩) n c → ∃ cs m, w.heap[b]? = some (.cells cs 5 m)
theorem ByU.chg {w w' : World} {K : Nat → Prop} {v : Value} {l : List Int} (h : ByU w v l) (hc : Chg K w w') (hk : ∀ b, K b → ∃ cs t, Blk w b cs t ∧ t ≠ 5) : ByU w' v l := by
  have hs : ∀ b o n c, v = .slice (some ⟨b, o, none⟩) n c → w'.heap[b]? = w.heap[b]? := fun b o n c e => by
    obtain ⟨cs, m, hb⟩ := h.u8 b o n c e
    refine hc.same b (lt_of_block hb) fun hK => ?_
    obtain ⟨ds, t, hd, ht⟩ := hk b hK
    have := hd.blk.symm.trans hb
    simp at this
    exact ht this.2.1
  refine ⟨?_, fun b o n c e => by rw [hs b o n c e]; exact h.u8 b o n c e⟩
  obtain ⟨ao, c, h1, h2, h3, h4, h5, h6⟩ := h.byt.ex
  refine ⟨ao, c, h1, h2, h3, h4, h5, h6.imp id ?_⟩
  rintro ⟨b, o, rfl, hlt, hcell⟩
  exact ⟨b, o, rfl, Nat.lt_of_lt_of_le hlt hc.size, fun i x hi => by rw [World.cell?_of_block (w := w) (hs b o _ _ h1)]; exact hcell i x hi⟩
theorem ByU.of {w : World} {D : Nat → Prop} {v : Value} {l : List Int} (h : OB w D v l) : ByU w v l := by
  refine ⟨h.by, fun b o n c e => ?_⟩
  rcases h.ex with ⟨rfl, _⟩ | ⟨b', c', rfl, _, hR⟩
  · cases e
  · cases e
    obtain ⟨cs, k⟩ := hR.kind
    exact ⟨_, _, k.blk⟩
theorem SA.kind {w : World} {K D : Nat → Prop} {g n N : Nat} {E : Ents} {W : List Ents} (h : SA w K D g E W n N) : ∀ b, K b → ∃ cs t, Blk w b cs t ∧ t ≠ 5 := by
  obtain ⟨F, V, m, Q, jv, T, oj, _, _, _, _, _, _, _, O⟩ := h.ex
  exact O.kind
structure Sec where
  g : Nat
  E : Ents
  W : List Ents
  n : Nat
  N : Nat
/-- what lies beside the store: bytes, lists of pairs, other stores -/
structure Fm where
  L : List (Value × List Int)
  R : List (Value × Ents)
  O : List Sec
def Rb (f : Fm) (b : Nat) : Prop := ∃ p ∈ f.R, ∃ n c, p.1 = .slice (some ⟨b, 0, none⟩) n c
structure KnK (w0 w : World) (f : Fm) (K : Nat → Prop) (g : Nat) (E : Ents) (W : List Ents) (n N : Nat) : Prop where
  sa : SA w K (w0.heap.size ≤ ·) g E W n N
  kz : ∀ b, K b → w0.heap.size ≤ b ∧ ¬ Rb f b
  bys : ∀ p ∈ f.L, ByU w p.1 p.2
  prs : ∀ p ∈ f.R, ∃ es, PrA w w0.heap.size p.1 es ∧ es.map En.kl2 = p.2
  oth : ∀ s ∈ f.O, ∃ J, SA w J (w0.heap.size ≤ ·) s.g s.E s.W s.n s.N ∧ ∀ b, J b → w0.heap.size ≤ b ∧ ¬ Rb f b ∧ ¬ K b
  bel : Below w0.heap.size w0 w
structure Kn (w0 w : World) (f : Fm) (g : Nat) (E : Ents) (W : List Ents) (n N : Nat) : Prop where
  ex : ∃ K, KnK w0 w f K g E W n N
theorem PrA.blk_lt {w : World} {B : Nat} {v : Value} {es : List En} (h : PrA w B v es) {b n c : Nat} (e : v = .slice (some ⟨b, 0, none⟩) n c) : b < w.heap.size ∧ B ≤ b := by
  rcases h.ex with ⟨rfl, _⟩ | ⟨b', c', rfl, hb, hR⟩
  · cases e
  · cases e; exact ⟨hR.lt, hb⟩
theorem PrA.chg {w w' : World} {K : Nat → Prop} {B : Nat} {v : Value} {es : List En} (h : PrA w B v es) (hc : Chg K w w') (h1 : ∀ b n c, v = .slice (some ⟨b, 0, none⟩) n c → ¬ K b) (h2 : ∀ b, K b → ∀ cs, ¬ Blk w b cs 5) : PrA w' B v es :=
  ⟨h.ex.imp id (fun ⟨b, c, e, hl, hR⟩ => ⟨b, c, e, hl, hR.same (hc.same b hR.lt (h1 b _ _ e))⟩), fun e he => (h.ents e he).off fun b hb hk => hc.same b hb fun hK => by obtain ⟨cs, k⟩ := hk; exact h2 b hK cs k⟩
theorem PrA.low {w : World} {B B' : Nat} {v : Value} {es : List En} (h : PrA w B v es) (hB : B' ≤ B) : PrA w B' v es :=
  ⟨h.ex.imp id (fun ⟨b, c, e, hl, hR⟩ => ⟨b, c, e, Nat.le_trans hB hl, hR⟩), fun e he => (h.ents e he).mono fun _ _ h => Nat.le_trans hB h⟩
theorem KnK.lt {w0 w : World} {f : Fm} {K : Nat → Prop} {g : Nat} {E : Ents} {W : List Ents} {n N : Nat} (h : KnK w0 w f K g E W n N) {b : Nat} (hb : Rb f b) : b < w.heap.size := by
  obtain ⟨p, hp, m, c, e⟩ := hb
  obtain ⟨es, P, _⟩ := h.prs p hp
  exact (PrA.blk_lt P e).1
/-- a step of the store -/
theorem KnK.step {w0 w w' : World} {f : Fm} {K K' D' : Nat → Prop} {g : Nat} {E E' : Ents} {W W' : List Ents} {n N n' N' : Nat} (h : KnK w0 w f K g E W n N) (hs : SA w' K' D' g E' W' n' N') (hD : ∀ b, D' b → w0.heap.size ≤ b ∨ w.heap.size ≤ b) (hK : ∀ b, K' b → K b ∨ w.heap.size ≤ b) (hc : Chg K w w') : KnK w0 w' f K' g E' W' n' N' := by
  have hz := h.bel.size
  have nou : ∀ b, K b → ∀ cs, ¬ Blk w b cs 5 := fun b hb cs => h.sa.noU hb cs
  refine ⟨hs.mono (fun b _ hb => (hD b hb).elim id (Nat.le_trans hz)), fun b hb => ?_, fun p hp => (h.bys p hp).chg hc h.sa.kind, fun p hp => ?_, fun s hs' => ?_, h.bel.trans (hc.below (fun b hb => (h.kz b hb).1) hz)⟩
  · rcases hK b hb with hk | hk
    · exact h.kz b hk
    · exact ⟨Nat.le_trans hz hk, fun hr => by have := h.lt hr; omega⟩
  · obtain ⟨es, P, e⟩ := h.prs p hp
    exact ⟨es, PrA.chg P hc (fun b m c e hk => (h.kz b hk).2 ⟨p, hp, m, c, e⟩) nou, e⟩
  · obtain ⟨J, hJ, hj⟩ := h.oth s hs'
    refine ⟨J, hJ.chg hc (fun b hk hj' => (hj b hj').2.2 hk) nou, fun b hb => ⟨(hj b hb).1, (hj b hb).2.1, fun hk => ?_⟩⟩
    rcases hK b hk with hk | hk
    · exact (hj b hb).2.2 hk
    · have := hJ.lt hb; omega
theorem KnK.keep {w0 w w' : World} {f : Fm} {K : Nat → Prop} {g : Nat} {E : Ents} {W : List Ents} {n N : Nat} (h : KnK w0 w f K g E W n N) (hb : Below w.heap.size w w') : KnK w0 w' f K g E W n N :=
  h.step (h.sa.keep hb) (fun _ h => .inl h) (fun _ h => .inl h) (Chg.of hb)
theorem Kn.keep {w0 w w' : World} {f : Fm} {g : Nat} {E : Ents} {W : List Ents} {n N : Nat} (h : Kn w0 w f g E W n N) (hb : Below w.heap.size w w') : Kn w0 w' f g E W n N := by
  obtain ⟨K, h⟩ := h.ex
  exact ⟨K, h.keep hb⟩
theorem Kn.drew {w0 w : World} {f : Fm} {g : Nat} {E : Ents} {W : List Ents} {n N : Nat} (h : Kn w0 w f g E W n N) : Kn w0 w.drew f g E W n N := h.keep ⟨rfl, rfl, rfl, Nat.le_refl _, fun _ _ => rfl⟩
theorem Kn.below {w0 w : World} {f : Fm} {g : Nat} {E : Ents} {W : List Ents} {n N : Nat} (h : Kn w0 w f g E W n N) : Below w0.heap.size w0 w := by
  obtain ⟨K, h⟩ := h.ex
  exact h.bel
theorem Kn.rise {w0 w : World} {f : Fm} {g : Nat} {E : Ents} {W : List Ents} {n N : Nat} (h : Kn w0 w f g E W n N) : Rise E := by
  obtain ⟨K, h⟩ := h.ex
  exact h.sa.rise
theorem Kn.size {w0 w : World} {f : Fm} {g : Nat} {E : Ents} {W : List Ents} {n N : Nat} (h : Kn w0 w f g E W n N) : E.length ≤ N := by
  obtain ⟨K, h⟩ := h.ex
  exact h.sa.size
theorem Kn.depth {w0 w : World} {f : Fm} {g : Nat} {E : Ents} {W : List Ents} {n N : Nat} (h : Kn w0 w f g E W n N) : W.length ≤ 16 := by
  obtain ⟨K, h⟩ := h.ex
  exact h.sa.depth
theorem Kn.more {w0 w : World} {f : Fm} {g : Nat} {E : Ents} {W : List Ents} {n N N' : Nat} (h : Kn w0 w f g E W n N) (hN : N ≤ N') : Kn w0 w f g E W n N' := by
  obtain ⟨K, h⟩ := h.ex
  exact ⟨K, { h with sa := h.sa.more hN }⟩
/-- bytes at hand -/
def Fr (w0 : World) (f : Fm) (v : Value) (l : List Int) : Prop := By w0 v l ∨ (v, l) ∈ f.L
theorem KnK.bk {w0 w : World} {f : Fm} {K : Nat → Prop} {g : Nat} {E : Ents} {W : List Ents} {n N : Nat} (h : KnK w0 w f K g E W n N) {v : Value} {l : List Int} (hv : Fr w0 f v l) : BK w K v l := fun w' hc => by
  rcases hv with hv | hv
  · exact hv.keep (h.bel.trans (hc.below (fun b hb => (h.kz b hb).1) h.bel.size))
  · exact ((h.bys _ hv).chg hc h.sa.kind).byt
theorem Kn.by {w0 w : World} {f : Fm} {g : Nat} {E : Ents} {W : List Ents} {n N : Nat} (h : Kn w0 w f g E W n N) {v : Value} {l : List Int} (hv : Fr w0 f v l) : By w v l := by
  obtain ⟨K, h⟩ := h.ex
  exact (h.bk hv).by
/-- more bytes -/
def Fm.by (f : Fm) (v : Value) (l : List Int) : Fm := { f with L := (v, l) :: f.L }
def Fm.pr (f : Fm) (v : Value) (E : Ents) : Fm := { f with R := (v, E) :: f.R }
theorem Kn.bytes {w0 w : World} {f : Fm} {g : Nat} {E : Ents} {W : List Ents} {n N : Nat} (h : Kn w0 w f g E W n N) {v : Value} {l : List Int} (hv : ByU w v l) : Kn w0 w (f.by v l) g E W n N := by
  obtain ⟨K, h⟩ := h.ex
  refine ⟨K, { h with bys := fun p hp => ?_ }⟩
  rcases List.mem_cons.1 hp with rfl | hp
  · exact hv
  · exact h.bys p hp
theorem Fr.more {w0 : World} {f : Fm} {v u : Value} {l m : List Int} (h : Fr w0 f v l) : Fr w0 (f.by u m) v l := h.imp id (List.mem_cons_of_mem _)
theorem Fr.new {w0 : World} {f : Fm} {v : Value} {l : List Int} : Fr w0 (f.by v l) v l := .inr List.mem_cons_self
theorem ob_lit (w : World) (x : Int) (hx : 0 ≤ x ∧ x < 256) : OB (w.alloc (.cells #[.int .u8 x] 5)) (w.heap.size ≤ ·) (.slice (some ⟨w.heap.size, 0, none⟩) 1 1) [x] :=
  ⟨fun y hy => by simp at hy; subst hy; exact hx, .inr ⟨_, 1, rfl, Nat.le_refl _, blk_rw (blk_new w [.int .u8 x] _) rfl (show 1 ≤ maxLen by decide)⟩⟩
/-- a map of blocks from B on -/
def Mb (w : World) (B g : Nat) (Q : List (List KV)) (N : Nat) : Prop := ∃ F, Mp w F (B ≤ ·) g Q N ∧ ∀ b, F b → B ≤ b
theorem Kn.lit {w0 w : World} {f : Fm} {g : Nat} {E : Ents} {W : List Ents} {n N : Nat} (h : Kn w0 w f g E W n N) {x : Int} (hx : 0 ≤ x ∧ x < 256) : Kn w0 (w.alloc (.cells #[.int .u8 x] 5)) (f.by (.slice (some ⟨w.heap.size, 0, none⟩) 1 1) [x]) g E W n N :=
  (h.keep (below_alloc w _)).bytes (ByU.of (ob_lit w x hx))
theorem by_const (w : World) (x : Int) (hx : 0 ≤ x ∧ x < 256) : ByU (w.alloc (.cells #[.int .u8 x] 5 (1, 2))) (.slice (some ⟨w.heap.size, 0, none⟩) 1 1) [x] := by
  have hb : (w.alloc (.cells #[.int .u8 x] 5 (1, 2))).heap[w.heap.size]? = some (.cells #[.int .u8 x] 5 (1, 2)) := by
    show (w.heap.push _)[w.heap.size]? = _
    simp
  refine ⟨⟨_, 1, rfl, Nat.le_refl _, by decide, (fun e => by cases e), (fun y hy => by simp at hy; subst hy; exact hx), .inr ⟨_, 0, rfl, lt_of_block hb, fun i y hi => ?_⟩⟩, fun b o n c e => ?_⟩
  · match i with
    | 0 =>
      simp at hi
      subst hi
      simp only [World.cell?, hb]
      rfl
    | k + 1 => simp at hi
  · cases e
    exact ⟨_, _, hb⟩
theorem Kn.const {w0 w : World} {f : Fm} {g : Nat} {E : Ents} {W : List Ents} {n N : Nat} (h : Kn w0 w f g E W n N) {x : Int} (hx : 0 ≤ x ∧ x < 256) : Kn w0 (w.alloc (.cells #[.int .u8 x] 5 (1, 2))) (f.by (.slice (some ⟨w.heap.size, 0, none⟩) 1 1) [x]) g E W n N :=
  (h.keep (below_alloc w _)).bytes (by_const w x hx)
/-- how a step of the store ends -/
structure Fin (w0 : World) (f : Fm) (g : Nat) (E : Ents) (W : List Ents) (n N : Nat) (r : Value) (e : Ending) (w' : World) : Prop where
  ret : e = .returned r
  kn : Kn w0 w' f g E W n N
theorem KnK.ends {w0 w : World} {f : Fm} {K : Nat → Prop} {g : Nat} {E E' : Ents} {W W' : List Ents} {n N n' N' : Nat} {r : Value} {P : Nat} {args : Array Value} (h : KnK w0 w f K g E W n N) (u : Calls Try.prog P args w (Ends w K (w0.heap.size ≤ ·) g E' W' n' N' r)) : Calls Try.prog P args w (Fin w0 f g E' W' n' N' r) := by
  refine u.mono ?_
  rintro e w' ⟨rfl, K', hs, hK, hc⟩
  exact ⟨rfl, K', h.step hs (fun _ h => h) hK hc⟩
theorem kset {w0 w : World} {f : Fm} {g : Nat} {E : Ents} {W : List Ents} {n N : Nat} {kv vv : Value} {k v : List Int} (h : Kn w0 w f g E W n N) (hk : Fr w0 f kv k) (hv : Fr w0 f vv v) (hn : n ≤ 4000000000000000000) (hN : N + 2 ≤ 100000000) :
    Calls Try.prog 18 #[.pointer (some ⟨g, 0, none⟩), kv, vv] w (Fin w0 f g (if setE k v = 0 then put E k v else E) W (n + 1) (N + 2) (.int .i64 (setE k v))) := by
  obtain ⟨K, h⟩ := h.ex
  exact h.ends (sset h.sa (h.bk hk) (h.bk hv) hn hN)
theorem kdel {w0 w : World} {f : Fm} {g : Nat} {E : Ents} {W : List Ents} {n N : Nat} {kv : Value} {k : List Int} (h : Kn w0 w f g E W n N) (hk : Fr w0 f kv k) (hkl : k.length ≤ 1000000000) (hn : n ≤ 4000000000000000000) (hN : N + 2 ≤ 100000000) :
    Calls Try.prog 20 #[.pointer (some ⟨g, 0, none⟩), kv] w (Fin w0 f g (rem E k) W (n + 1) (N + 2) (.bool (look E k).isSome)) := by
  obtain ⟨K, h⟩ := h.ex
  exact h.ends (sdel h.sa (h.bk hk) hkl hn hN)
theorem krollback {w0 w : World} {f : Fm} {g : Nat} {E : Ents} {W : List Ents} {n N : Nat} (h : Kn w0 w f g E W n N) (hN : N ≤ 100000000) :
    Calls Try.prog 22 #[.pointer (some ⟨g, 0, none⟩)] w (Fin w0 f g (W.headD E) W.tail n N (.int .i64 (if W = [] then 62 else 0))) := by
  obtain ⟨K, h⟩ := h.ex
  exact h.ends (srollback h.sa hN)
theorem kcommit {w0 w : World} {f : Fm} {g : Nat} {E : Ents} {W : List Ents} {n N : Nat} (h : Kn w0 w f g E W n N) (hN : N ≤ 100000000) :
    Calls Try.prog 21 #[.pointer (some ⟨g, 0, none⟩)] w (Fin w0 f g E W.tail n N (.int .i64 (if W = [] then 62 else 0))) := by
  obtain ⟨K, h⟩ := h.ex
  exact h.ends (scommit h.sa hN)
theorem kbegin {w0 w : World} {f : Fm} {g : Nat} {E : Ents} {W : List Ents} {n N : Nat} (h : Kn w0 w f g E W n N) :
    Calls Try.prog 19 #[.pointer (some ⟨g, 0, none⟩)] w (Fin w0 f g E (if W.length = 16 then W else E :: W) n N (.int .i64 (if W.length = 16 then 62 else 0))) := by
  obtain ⟨K, h⟩ := h.ex
  exact h.ends (sbegin h.sa)
theorem kdepth {w0 w : World} {f : Fm} {g : Nat} {E : Ents} {W : List Ents} {n N : Nat} (h : Kn w0 w f g E W n N) :
    Calls Try.prog 16 #[.pointer (some ⟨g, 0, none⟩)] w fun e w' => e = .returned (.int .i64 W.length) ∧ w' = w := by
  obtain ⟨K, h⟩ := h.ex
  exact sdepth h.sa
theorem kops {w0 w : World} {f : Fm} {g : Nat} {E : Ents} {W : List Ents} {n N : Nat} (h : Kn w0 w f g E W n N) :
    Calls Try.prog 17 #[.pointer (some ⟨g, 0, none⟩)] w fun e w' => e = .returned (.int .i64 n) ∧ w' = w := by
  obtain ⟨K, h⟩ := h.ex
  exact sops h.sa
structure FinG (w0 : World) (f : Fm) (g : Nat) (E : Ents) (W : List Ents) (n N : Nat) (k : List Int) (e : Ending) (w' : World) : Prop where
  ex : ∃ v, e = .returned (.tuple #[v, .bool (look E k).isSome]) ∧ Kn w0 w' (f.by v ((look E k).getD [])) g E W n N
theorem kget {w0 w : World} {f : Fm} {g : Nat} {E : Ents} {W : List Ents} {n N : Nat} {kv : Value} {k : List Int} (h : Kn w0 w f g E W n N) (hk : Fr w0 f kv k) (hn : n ≤ 4000000000000000000) (hN : N ≤ 100000000) :
    Calls Try.prog 28 #[.pointer (some ⟨g, 0, none⟩), kv] w (FinG w0 f g E W (n + 1) N k) := by
  obtain ⟨K, h⟩ := h.ex
  refine (sget h.sa (h.bk hk) hn hN).mono ?_
  rintro e w' ⟨v, rfl, O, S, c⟩
  exact ⟨v, rfl, Kn.bytes ⟨K, h.step S (fun _ h => .inl h) (fun _ h => .inl h) c⟩ (ByU.of O)⟩
theorem khas {w0 w : World} {f : Fm} {g : Nat} {E : Ents} {W : List Ents} {n N : Nat} {kv : Value} {k : List Int} (h : Kn w0 w f g E W n N) (hk : Fr w0 f kv k) (hn : n ≤ 4000000000000000000) (hN : N ≤ 100000000) :
    Calls Try.prog 29 #[.pointer (some ⟨g, 0, none⟩), kv] w (Fin w0 f g E W (n + 1) N (.bool (look E k).isSome)) := by
  obtain ⟨K, h⟩ := h.ex
  refine (shas h.sa (h.bk hk) hn hN).mono ?_
  rintro e w' ⟨rfl, S, c⟩
  exact ⟨rfl, K, h.step S (fun _ h => .inl h) (fun _ h => .inl h) c⟩
/-- a step of the store that leaves a list of pairs -/
theorem KnK.stepP {w0 w w' : World} {f : Fm} {K K' D' : Nat → Prop} {g : Nat} {E E' F : Ents} {W W' : List Ents} {n N n' N' : Nat} {v : Value} {es : List En} (h : KnK w0 w f K g E W n N) (hs : SA w' K' D' g E' W' n' N') (hD : ∀ b, D' b → w0.heap.size ≤ b ∨ w.heap.size ≤ b) (hK : ∀ b, K' b → K b) (hc : Chg K w w') (P : PrA w' w.heap.size v es) (he : es.map En.kl2 = F) : KnK w0 w' (f.pr v F) K' g E' W' n' N' := by
  have hz := h.bel.size
  have nou : ∀ b, K b → ∀ cs, ¬ Blk w b cs 5 := fun b hb cs => h.sa.noU hb cs
  refine ⟨hs.mono (fun b _ hb => (hD b hb).elim id (Nat.le_trans hz)), fun b hb => ?_, fun p hp => (h.bys p hp).chg hc h.sa.kind, fun p hp => ?_, fun s hs' => ?_, h.bel.trans (hc.below (fun b hb => (h.kz b hb).1) hz)⟩
  · have hk := hK b hb
    refine ⟨(h.kz b hk).1, ?_⟩
    rintro ⟨p, hp, m, c, e⟩
    rcases List.mem_cons.1 hp with rfl | hp
    · have := (PrA.blk_lt P e).2
      have := h.sa.lt hk
      omega
    · exact (h.kz b hk).2 ⟨p, hp, m, c, e⟩
  · rcases List.mem_cons.1 hp with rfl | hp
    · exact ⟨es, PrA.low P hz, he⟩
    · obtain ⟨es, P, e⟩ := h.prs p hp
      exact ⟨es, PrA.chg P hc (fun b m c e hk => (h.kz b hk).2 ⟨p, hp, m, c, e⟩) nou, e⟩
  · obtain ⟨J, hJ, hj⟩ := h.oth s hs'
    refine ⟨J, hJ.chg hc (fun b hk hj' => (hj b hj').2.2 hk) nou, fun b hb => ⟨(hj b hb).1, ?_, fun hk => (hj b hb).2.2 (hK b hk)⟩⟩
    rintro ⟨p, hp, m, c, e⟩
    rcases List.mem_cons.1 hp with rfl | hp
    · have := (PrA.blk_lt P e).2
      have := hJ.lt hb
      omega
    · exact (hj b hb).2.1 ⟨p, hp, m, c, e⟩
structure FinP (w0 : World) (f : Fm) (g : Nat) (E : Ents) (W : List Ents) (n N : Nat) (F : Ents) (e : Ending) (w' : World) : Prop where
  ex : ∃ ao c, e = .returned (.slice ao F.length c) ∧ Kn w0 w' (f.pr (.slice ao F.length c) F) g E W n N
theorem kdump {w0 w : World} {f : Fm} {g : Nat} {E : Ents} {W : List Ents} {n N : Nat} (h : Kn w0 w f g E W n N) (hN : N ≤ 100000000) :
    Calls Try.prog 15 #[.pointer (some ⟨g, 0, none⟩)] w (FinP w0 f g E W n N E) := by
  obtain ⟨K, h⟩ := h.ex
  refine (sdump h.sa hN).mono ?_
  rintro e w' ⟨v, es, rfl, P, he, B⟩
  obtain ⟨ao, c, rfl⟩ := P.shape
  have hl : es.length = E.length := by rw [← he, List.length_map]
  rw [hl] at P ⊢
  exact ⟨ao, c, rfl, K, h.stepP (h.sa.keep B) (fun _ h => .inl h) (fun _ h => h) (Chg.of B) P he⟩
/-- a list that was walked -/
theorem ktaken {w0 w : World} {f : Fm} {g : Nat} {E F : Ents} {W : List Ents} {n N m : Nat} {v : Value} {EL : List En} (h : Kn w0 w f g E W n N) (hI : Iter w g EL v) (hF : EL.map En.kl2 = F) (hm0 : 0 < m) (hm : m ≤ 1073741824) (hx : n + F.length ≤ 3000000000000000000) :
    Calls Try.prog 24 #[v, .int .i64 m] w (FinP w0 f g E W (n + 1 + (F.take m).length) N (F.take m)) := by
  obtain ⟨K, h⟩ := h.ex
  have hl : F.length = EL.length := by rw [← hF, List.length_map]
  refine (staken h.sa hI hm0 hm (by omega)).mono ?_
  rintro e w' ⟨v2, es, rfl, P, he, S, c⟩
  rw [hF] at he
  obtain ⟨ao, d, rfl⟩ := P.shape
  have hl2 : es.length = (F.take m).length := by rw [← he, List.length_map]
  rw [hl2] at P S ⊢
  exact ⟨ao, d, rfl, K, h.stepP S (fun _ h => .inl h) (fun _ h => h) ⟨c.os, c.tape, c.output, c.size, fun b hb hk => c.same b hb (fun e => hk (by rw [e]; exact h.sa.top))⟩ P he⟩
structure FinW (w0 : World) (f : Fm) (g : Nat) (E : Ents) (W : List Ents) (n N : Nat) (F : Ents) (e : Ending) (w' : World) : Prop where
  ex : ∃ v EL, e = .returned v ∧ Iter w' g EL v ∧ EL.map En.kl2 = F ∧ Kn w0 w' f g E W n N
theorem kwalk {w0 w : World} {f : Fm} {g : Nat} {E : Ents} {W : List Ents} {n N : Nat} {fv tv : Value} {a t : List Int} (h : Kn w0 w f g E W n N) (hN : N ≤ 100000000) (hf : Fr w0 f fv a) (ht : Fr w0 f tv t) (hfl : a.length ≤ 1000000000) (htl : t.length ≤ 1000000000) :
    Calls Try.prog 26 #[.pointer (some ⟨g, 0, none⟩), fv, tv] w (FinW w0 f g E W n N (E.filter (abtw a t))) := by
  obtain ⟨K, h⟩ := h.ex
  refine (swalk h.sa hN (h.bk hf).by (h.bk ht).by hfl htl).mono ?_
  rintro e w' ⟨v, EL, rfl, I, hE, B⟩
  exact ⟨v, EL, rfl, I, hE, K, h.keep B⟩
theorem kprefix {w0 w : World} {f : Fm} {g : Nat} {E : Ents} {W : List Ents} {n N : Nat} {pv : Value} {p : List Int} (h : Kn w0 w f g E W n N) (hN : N ≤ 100000000) (hp : Fr w0 f pv p) (hpl : p.length ≤ 1000000) :
    Calls Try.prog 25 #[.pointer (some ⟨g, 0, none⟩), pv] w (FinW w0 f g E W n N (E.filter (fun x => decide (p <+: x.1)))) := by
  obtain ⟨K, h⟩ := h.ex
  refine (sprefix h.sa hN (h.bk hp).by hpl).mono ?_
  rintro e w' ⟨v, EL, rfl, I, hE, B⟩
  exact ⟨v, EL, rfl, I, hE, K, h.keep B⟩
/-- a store is made -/
structure FinN (w0 : World) (e : Ending) (w' : World) : Prop where
  ex : ∃ g, e = .returned (.pointer (some ⟨g, 0, none⟩)) ∧ Kn w0 w' ⟨[], [], []⟩ g [] [] 0 0
theorem knew {w0 w : World} (hb : Below w0.heap.size w0 w) : Calls Try.prog 11 #[] w (FinN w0) := by
  refine snew.mono ?_
  rintro e w' ⟨g, K, rfl, S, hK, B⟩
  exact ⟨g, rfl, K, S.mono (fun _ _ h => h.elim), fun b hb' => ⟨Nat.le_trans hb.size (hK b hb'), fun ⟨p, hp, _⟩ => by cases hp⟩, fun p hp => (by cases hp), fun p hp => (by cases hp), fun p hp => (by cases hp), hb.trans (B.mono hb.size)⟩
/-- a second one, which is now the store -/
def Fm.st (f : Fm) (s : Sec) : Fm := { f with O := [s] }
structure Fin2 (w0 : World) (f : Fm) (s : Sec) (E : Ents) (N : Nat) (e : Ending) (w' : World) : Prop where
  ex : ∃ g, e = .returned (.pointer (some ⟨g, 0, none⟩)) ∧ Kn w0 w' (f.st s) g E [] 0 N
theorem KnK.two {w0 w w' : World} {f : Fm} {K K' D' : Nat → Prop} {g g' : Nat} {E E' : Ents} {W W' : List Ents} {n N n' N' : Nat} (h : KnK w0 w f K g E W n N) (S : SA w' K' D' g' E' W' n' N') (hD : ∀ b, D' b → w0.heap.size ≤ b) (hK : ∀ b, K' b → w.heap.size ≤ b) (B : Below w.heap.size w w') : KnK w0 w' (f.st ⟨g, E, W, n, N⟩) K' g' E' W' n' N' := by
  have h' := h.keep B
  refine ⟨S.mono (fun b _ hb => hD b hb), fun b hb => ⟨Nat.le_trans h.bel.size (hK b hb), fun hr => ?_⟩, h'.bys, h'.prs, fun s hs => ?_, h'.bel⟩
  · have hr' : Rb f b := hr
    have := h.lt hr'
    have := hK b hb
    omega
  · obtain rfl : s = ⟨g, E, W, n, N⟩ := List.mem_singleton.1 hs
    exact ⟨K, h'.sa, fun b hb => ⟨(h.kz b hb).1, (h.kz b hb).2, fun hk => by have := h.sa.lt hb; have := hK b hk; omega⟩⟩
theorem kcopy {w0 w : World} {f : Fm} {g : Nat} {E : Ents} {W : List Ents} {n N : Nat} (h : Kn w0 w f g E W n N) (hN : N ≤ 100000000) :
    Calls Try.prog 12 #[.pointer (some ⟨g, 0, none⟩)] w (Fin2 w0 f ⟨g, E, W, n, N⟩ E N) := by
  obtain ⟨K, h⟩ := h.ex
  refine (scopy h.sa hN).mono ?_
  rintro e w' ⟨g', K', rfl, S, hK, B⟩
  exact ⟨g', rfl, K', h.two S (fun _ h => h) hK B⟩
theorem knew2 {w0 w : World} {f : Fm} {g : Nat} {E : Ents} {W : List Ents} {n N : Nat} (h : Kn w0 w f g E W n N) : Calls Try.prog 11 #[] w (Fin2 w0 f ⟨g, E, W, n, N⟩ [] 0) := by
  obtain ⟨K, h⟩ := h.ex
  refine snew.mono ?_
  rintro e w' ⟨g', K', rfl, S, hK, B⟩
  exact ⟨g', rfl, K', h.two S (fun _ h => h.elim) hK B⟩
/-- the other store's turn -/
theorem Kn.swap {w0 w : World} {f : Fm} {g : Nat} {E : Ents} {W : List Ents} {n N : Nat} {s : Sec} (h : Kn w0 w f g E W n N) (hO : f.O = [s]) : Kn w0 w (f.st ⟨g, E, W, n, N⟩) s.g s.E s.W s.n s.N := by
  obtain ⟨K, h⟩ := h.ex
  obtain ⟨J, hJ, hj⟩ := h.oth s (by rw [hO]; exact List.mem_cons_self)
  refine ⟨J, hJ, fun b hb => ⟨(hj b hb).1, (hj b hb).2.1⟩, h.bys, h.prs, fun t ht => ?_, h.bel⟩
  obtain rfl : t = ⟨g, E, W, n, N⟩ := List.mem_singleton.1 ht
  exact ⟨K, h.sa, fun b hb => ⟨(h.kz b hb).1, (h.kz b hb).2, fun hk => (hj b hk).2.2 hb⟩⟩
/-- lists of pairs held against one another -/
theorem kpairs {w0 w : World} {f : Fm} {g : Nat} {E F : Ents} {W : List Ents} {n N : Nat} {u v : Value} (h : Kn w0 w f g E W n N) (hu : (u, F) ∈ f.R) (hv : (v, F) ∈ f.R) (hF : F.length ≤ 1000000000) (hs : ∀ x ∈ F, x.1.length ≤ 1000000000 ∧ x.2.length ≤ 1000000000) :
    Calls Try.prog 14 #[u, v] w fun e w' => e = .returned (.bool true) ∧ Kn w0 w' f g E W n N := by
  obtain ⟨K, h⟩ := h.ex
  obtain ⟨es, P, e1⟩ := h.prs _ hu
  obtain ⟨es2, P2, e2⟩ := h.prs _ hv
  refine (pairs_same P P2 (e1.trans e2.symm) (fun e he => ?_) ?_).mono ?_
  · exact hs (En.kl2 e) (by rw [← (show es.map En.kl2 = F from e1)]; exact List.mem_map_of_mem he)
  · have := congrArg List.length e1
    simp only [List.length_map] at this
    omega
  · rintro e w' ⟨rfl, B⟩
    exact ⟨rfl, K, h.keep B⟩
theorem kbytes {w0 w : World} {f : Fm} {g : Nat} {E : Ents} {W : List Ents} {n N : Nat} {u v : Value} {a b : List Int} (h : Kn w0 w f g E W n N) (hu : Fr w0 f u a) (hv : Fr w0 f v b) (ha : a.length ≤ 1000000000) (hb : b.length ≤ 1000000000) :
    Calls Try.prog 23 #[u, v] w fun e w' => e = .returned (.bool (decide (a = b))) ∧ Kn w0 w' f g E W n N := by
  obtain ⟨K, h⟩ := h.ex
  refine (bytes_any (h.bk hu).by (h.bk hv).by ha hb).mono ?_
  rintro e w' ⟨rfl, B⟩
  exact ⟨rfl, K, h.keep B⟩
end Kv
end Go.Proofs.Ytplminnejheceaa

namespace Go.Proofs.Ytplminnejheceaa
namespace Kv
open Go.RowKit Go.Lib Pg
attribute [local go_sem] Oper.semAt_some
theorem under_byte : Try.prog.underlying 5 = some (.int .u8) := by kernel_rfl
theorem under_bytes : Try.prog.underlying 32 = some (.slice 5) := by kernel_rfl
theorem size_al (w : World) (o : Obj) : (w.alloc o).heap.size = w.heap.size + 1 := by
  show (w.heap.push o).size = _
  rw [Array.size_push]
theorem conv2 (w : World) (o : Obj) (C : Array Value) (n c : Nat) : (convert 32 32 (.slice (some ⟨w.heap.size + 1, 0, none⟩) n c)).run Try.prog ((w.alloc o).alloc (.cells C 5)) = .ok (.slice (some ⟨w.heap.size + 1, 0, none⟩) n c) ((w.alloc o).alloc (.cells C 5 (C.size, C.size + 1))) := by
  have h := Lib.run_convert_bytes_const (P := Try.prog) (w.alloc o) 32 5 C n c under_bytes under_byte
  rw [size_al] at h
  exact h
theorem Kn.abc {w0 w : World} {f : Fm} {g : Nat} {E : Ents} {W : List Ents} {n N : Nat} (h : Kn w0 w f g E W n N) {x y z : Int} (hx : 0 ≤ x ∧ x < 256) (hy : 0 ≤ y ∧ y < 256) (hz : 0 ≤ z ∧ z < 256) : Kn w0 (((w.alloc (.cells #[.int .u8 x] 5 (1, 2))).alloc (.cells #[.int .u8 y] 5 (1, 2))).alloc (.cells #[.int .u8 z] 5)) (((f.by (.slice (some ⟨w.heap.size, 0, none⟩) 1 1) [x]).by (.slice (some ⟨w.heap.size + 1, 0, none⟩) 1 1) [y]).by (.slice (some ⟨w.heap.size + 1 + 1, 0, none⟩) 1 1) [z]) g E W n N := by
  have h' := ((h.const hx).const hy).lit hz
  simp only [size_al] at h'
  exact h'
theorem kset1 {w0 w : World} {f : Fm} {g : Nat} {E : Ents} {W : List Ents} {n N : Nat} {kv vv : Value} {k v : List Int} {E' : Ents} {r : Int} {n' N' : Nat} (h : Kn w0 w f g E W n N) (hk : Fr w0 f kv k) (hv : Fr w0 f vv v) (hn : n ≤ 4000000000000000000) (hN : N + 2 ≤ 100000000) (hE : (if setE k v = 0 then put E k v else E) = E') (hr : setE k v = r) (e1 : n + 1 = n') (e2 : N + 2 = N') :
    Calls Try.prog 18 #[.pointer (some ⟨g, 0, none⟩), kv, vv] w (Fin w0 f g E' W n' N' (.int .i64 r)) := by
  subst hE hr e1 e2; exact kset h hk hv hn hN
theorem kdel1 {w0 w : World} {f : Fm} {g : Nat} {E : Ents} {W : List Ents} {n N : Nat} {kv : Value} {k : List Int} {E' : Ents} {r : Bool} {n' N' : Nat} (h : Kn w0 w f g E W n N) (hk : Fr w0 f kv k) (hkl : k.length ≤ 1000000000) (hn : n ≤ 4000000000000000000) (hN : N + 2 ≤ 100000000) (hE : rem E k = E') (hr : (look E k).isSome = r) (e1 : n + 1 = n') (e2 : N + 2 = N') :
    Calls Try.prog 20 #[.pointer (some ⟨g, 0, none⟩), kv] w (Fin w0 f g E' W n' N' (.bool r)) := by
  subst hE hr e1 e2; exact kdel h hk hkl hn hN
theorem krb1 {w0 w : World} {f : Fm} {g : Nat} {E : Ents} {W : List Ents} {n N : Nat} {E' : Ents} {W' : List Ents} {r : Int} (h : Kn w0 w f g E W n N) (hN : N ≤ 100000000) (hE : W.headD E = E') (hW : W.tail = W') (hr : (if W = [] then 62 else 0 : Int) = r) :
    Calls Try.prog 22 #[.pointer (some ⟨g, 0, none⟩)] w (Fin w0 f g E' W' n N (.int .i64 r)) := by
  subst hE hW hr; exact krollback h hN
theorem kcm1 {w0 w : World} {f : Fm} {g : Nat} {E : Ents} {W : List Ents} {n N : Nat} {W' : List Ents} {r : Int} (h : Kn w0 w f g E W n N) (hN : N ≤ 100000000) (hW : W.tail = W') (hr : (if W = [] then 62 else 0 : Int) = r) :
    Calls Try.prog 21 #[.pointer (some ⟨g, 0, none⟩)] w (Fin w0 f g E W' n N (.int .i64 r)) := by
  subst hW hr; exact kcommit h hN
theorem kbg1 {w0 w : World} {f : Fm} {g : Nat} {E : Ents} {W : List Ents} {n N : Nat} {W' : List Ents} {r : Int} (h : Kn w0 w f g E W n N) (hW : (if W.length = 16 then W else E :: W) = W') (hr : (if W.length = 16 then 62 else 0 : Int) = r) :
    Calls Try.prog 19 #[.pointer (some ⟨g, 0, none⟩)] w (Fin w0 f g E W' n N (.int .i64 r)) := by
  subst hW hr; exact kbegin h
theorem kdp1 {w0 w : World} {f : Fm} {g : Nat} {E : Ents} {W : List Ents} {n N : Nat} {r : Int} (h : Kn w0 w f g E W n N) (hr : ((W.length : Nat) : Int) = r) :
    Calls Try.prog 16 #[.pointer (some ⟨g, 0, none⟩)] w fun e w' => e = .returned (.int .i64 r) ∧ w' = w := by
  subst hr; exact kdepth h
theorem kop1 {w0 w : World} {f : Fm} {g : Nat} {E : Ents} {W : List Ents} {n N : Nat} {r : Int} (h : Kn w0 w f g E W n N) (hr : ((n : Nat) : Int) = r) :
    Calls Try.prog 17 #[.pointer (some ⟨g, 0, none⟩)] w fun e w' => e = .returned (.int .i64 r) ∧ w' = w := by
  subst hr; exact kops h
structure FinV (w0 : World) (f : Fm) (g : Nat) (E : Ents) (W : List Ents) (n N : Nat) (b : Bool) (l : List Int) (e : Ending) (w' : World) : Prop where
  ex : ∃ v, e = .returned (.tuple #[v, .bool b]) ∧ Kn w0 w' (f.by v l) g E W n N
theorem kgt1 {w0 w : World} {f : Fm} {g : Nat} {E : Ents} {W : List Ents} {n N : Nat} {kv : Value} {k l : List Int} {b : Bool} {n' : Nat} (h : Kn w0 w f g E W n N) (hk : Fr w0 f kv k) (hn : n ≤ 4000000000000000000) (hN : N ≤ 100000000) (hb : (look E k).isSome = b) (hl : (look E k).getD [] = l) (e1 : n + 1 = n') :
    Calls Try.prog 28 #[.pointer (some ⟨g, 0, none⟩), kv] w (FinV w0 f g E W n' N b l) := by
  subst hb hl e1
  refine (kget h hk hn hN).mono ?_
  rintro e w' ⟨v, rfl, h⟩
  exact ⟨v, rfl, h⟩
theorem khs1 {w0 w : World} {f : Fm} {g : Nat} {E : Ents} {W : List Ents} {n N : Nat} {kv : Value} {k : List Int} {b : Bool} {n' : Nat} (h : Kn w0 w f g E W n N) (hk : Fr w0 f kv k) (hn : n ≤ 4000000000000000000) (hN : N ≤ 100000000) (hb : (look E k).isSome = b) (e1 : n + 1 = n') :
    Calls Try.prog 29 #[.pointer (some ⟨g, 0, none⟩), kv] w (Fin w0 f g E W n' N (.bool b)) := by
  subst hb e1; exact khas h hk hn hN
structure FinL (w0 : World) (f : Fm) (g : Nat) (E : Ents) (W : List Ents) (n N m : Nat) (F : Ents) (e : Ending) (w' : World) : Prop where
  ex : ∃ ao c, e = .returned (.slice ao m c) ∧ Kn w0 w' (f.pr (.slice ao m c) F) g E W n N
theorem ktk1 {w0 w : World} {f : Fm} {g : Nat} {E : Ents} {W : List Ents} {n N : Nat} {F F' : Ents} {m n' m' : Nat} {v : Value} {EL : List En} (h : Kn w0 w f g E W n N) (hI : Iter w g EL v) (hF : EL.map En.kl2 = F) (hm0 : 0 < m) (hm : m ≤ 1073741824) (hx : n + F.length ≤ 3000000000000000000) (hF' : F.take m = F') (e1 : n + 1 + F'.length = n') (e2 : F'.length = m') :
    Calls Try.prog 24 #[v, .int .i64 m] w (FinL w0 f g E W n' N m' F') := by
  subst hF' e1 e2
  refine (ktaken h hI hF hm0 hm hx).mono ?_
  rintro e w' ⟨ao, c, rfl, h⟩
  exact ⟨ao, c, rfl, h⟩
theorem kdm1 {w0 w : World} {f : Fm} {g : Nat} {E : Ents} {W : List Ents} {n N : Nat} {m' : Nat} (h : Kn w0 w f g E W n N) (hN : N ≤ 100000000) (e2 : E.length = m') :
    Calls Try.prog 15 #[.pointer (some ⟨g, 0, none⟩)] w (FinL w0 f g E W n N m' E) := by
  subst e2
  refine (kdump h hN).mono ?_
  rintro e w' ⟨ao, c, rfl, h⟩
  exact ⟨ao, c, rfl, h⟩
theorem kpf1 {w0 w : World} {f : Fm} {g : Nat} {E : Ents} {W : List Ents} {n N : Nat} {pv : Value} {p : List Int} {F : Ents} (h : Kn w0 w f g E W n N) (hN : N ≤ 100000000) (hp : Fr w0 f pv p) (hpl : p.length ≤ 1000000) (hF : E.filter (fun x => decide (p <+: x.1)) = F) :
    Calls Try.prog 25 #[.pointer (some ⟨g, 0, none⟩), pv] w (FinW w0 f g E W n N F) := by
  subst hF; exact kprefix h hN hp hpl
theorem kwk1 {w0 w : World} {f : Fm} {g : Nat} {E : Ents} {W : List Ents} {n N : Nat} {F : Ents} (h : Kn w0 w f g E W n N) (hN : N ≤ 100000000) (hF : E.filter (abtw [] []) = F) :
    Calls Try.prog 26 #[.pointer (some ⟨g, 0, none⟩), .slice none 0 0, .slice none 0 0] w (FinW w0 f g E W n N F) := by
  subst hF; exact kwalk h hN (.inl (By.nil _)) (.inl (By.nil _)) (by decide) (by decide)
theorem kby1 {w0 w : World} {f : Fm} {g : Nat} {E : Ents} {W : List Ents} {n N : Nat} {u v : Value} {a b : List Int} {r : Bool} (h : Kn w0 w f g E W n N) (hu : Fr w0 f u a) (hv : Fr w0 f v b) (ha : a.length ≤ 1000000000) (hb : b.length ≤ 1000000000) (hr : decide (a = b) = r) :
    Calls Try.prog 23 #[u, v] w (Fin w0 f g E W n N (.bool r)) := by
  subst hr
  refine (kbytes h hu hv ha hb).mono ?_
  rintro e w' ⟨rfl, h⟩
  exact ⟨rfl, h⟩
set_option maxHeartbeats 4000000 in
set_option maxRecDepth 100000 in
theorem known_any {w : World} : Calls Try.prog 9 #[] w fun e w' => e = .returned (.bool true) ∧ Below w.heap.size w w' := by
  have qc := fun (w : World) (C : Array Value) (n c : Nat) => Lib.run_convert_bytes_const (P := Try.prog) w 32 5 C n c under_bytes under_byte
  have qd := conv2
  go_enter Try.func9, Try.ntmps9
  go_wp2_with first
    | (go_at_call 11; go_must (refine (knew (Below.refl _ _)).mono ?_); rintro e w1 ⟨g, rfl, H1⟩)
    | (go_at_call 18; have gate := H1; clear gate; go_must (refine (kset1 (E' := [([97], [1])]) (r := 0) (n' := 1) (N' := 2) (k := [97]) (v := [1]) (H1.abc (by decide) (by decide) (by decide)) (by first | exact Fr.new | exact Fr.more Fr.new | exact Fr.more (Fr.more Fr.new) | exact Fr.more (Fr.more (Fr.more Fr.new)) | exact Fr.more (Fr.more (Fr.more (Fr.more Fr.new))) | exact Fr.more (Fr.more (Fr.more (Fr.more (Fr.more Fr.new)))) | exact Fr.more (Fr.more (Fr.more (Fr.more (Fr.more (Fr.more Fr.new))))) | exact Fr.more (Fr.more (Fr.more (Fr.more (Fr.more (Fr.more (Fr.more Fr.new)))))) | exact Fr.more (Fr.more (Fr.more (Fr.more (Fr.more (Fr.more (Fr.more (Fr.more Fr.new))))))) | exact .inl (By.nil _)) (by first | exact Fr.new | exact Fr.more Fr.new | exact Fr.more (Fr.more Fr.new) | exact Fr.more (Fr.more (Fr.more Fr.new)) | exact Fr.more (Fr.more (Fr.more (Fr.more Fr.new))) | exact Fr.more (Fr.more (Fr.more (Fr.more (Fr.more Fr.new)))) | exact Fr.more (Fr.more (Fr.more (Fr.more (Fr.more (Fr.more Fr.new))))) | exact Fr.more (Fr.more (Fr.more (Fr.more (Fr.more (Fr.more (Fr.more Fr.new)))))) | exact Fr.more (Fr.more (Fr.more (Fr.more (Fr.more (Fr.more (Fr.more (Fr.more Fr.new))))))) | exact .inl (By.nil _)) (by decide) (by decide) (by decide) (by decide) rfl rfl).mono ?_); rintro e w2 ⟨rfl, H2⟩; clear H1)
    | (go_at_call 19; have gate := H2; clear gate; go_must (refine (kbg1 (W' := [[([97], [1])]]) (r := 0) H2 (by decide) (by decide)).mono ?_); rintro e w3 ⟨rfl, H3⟩; clear H2)
    | (go_at_call 18; have gate := H3; clear gate; go_must (refine (kset1 (E' := [([97], [2])]) (r := 0) (n' := 2) (N' := 4) (k := [97]) (v := [2]) (H3.lit (x := 2) (by decide)) (by first | exact Fr.new | exact Fr.more Fr.new | exact Fr.more (Fr.more Fr.new) | exact Fr.more (Fr.more (Fr.more Fr.new)) | exact Fr.more (Fr.more (Fr.more (Fr.more Fr.new))) | exact Fr.more (Fr.more (Fr.more (Fr.more (Fr.more Fr.new)))) | exact Fr.more (Fr.more (Fr.more (Fr.more (Fr.more (Fr.more Fr.new))))) | exact Fr.more (Fr.more (Fr.more (Fr.more (Fr.more (Fr.more (Fr.more Fr.new)))))) | exact Fr.more (Fr.more (Fr.more (Fr.more (Fr.more (Fr.more (Fr.more (Fr.more Fr.new))))))) | exact .inl (By.nil _)) (by first | exact Fr.new | exact Fr.more Fr.new | exact Fr.more (Fr.more Fr.new) | exact Fr.more (Fr.more (Fr.more Fr.new)) | exact Fr.more (Fr.more (Fr.more (Fr.more Fr.new))) | exact Fr.more (Fr.more (Fr.more (Fr.more (Fr.more Fr.new)))) | exact Fr.more (Fr.more (Fr.more (Fr.more (Fr.more (Fr.more Fr.new))))) | exact Fr.more (Fr.more (Fr.more (Fr.more (Fr.more (Fr.more (Fr.more Fr.new)))))) | exact Fr.more (Fr.more (Fr.more (Fr.more (Fr.more (Fr.more (Fr.more (Fr.more Fr.new))))))) | exact .inl (By.nil _)) (by decide) (by decide) (by decide) (by decide) rfl rfl).mono ?_); rintro e w4 ⟨rfl, H4⟩; clear H3)
    | (go_at_call 19; have gate := H4; clear gate; go_must (refine (kbg1 (W' := [[([97], [2])], [([97], [1])]]) (r := 0) H4 (by decide) (by decide)).mono ?_); rintro e w5 ⟨rfl, H5⟩; clear H4)
    | (go_at_call 20; have gate := H5; clear gate; go_must (refine (kdel1 (E' := []) (r := true) (n' := 3) (N' := 6) (k := [97]) H5 (by first | exact Fr.new | exact Fr.more Fr.new | exact Fr.more (Fr.more Fr.new) | exact Fr.more (Fr.more (Fr.more Fr.new)) | exact Fr.more (Fr.more (Fr.more (Fr.more Fr.new))) | exact Fr.more (Fr.more (Fr.more (Fr.more (Fr.more Fr.new)))) | exact Fr.more (Fr.more (Fr.more (Fr.more (Fr.more (Fr.more Fr.new))))) | exact Fr.more (Fr.more (Fr.more (Fr.more (Fr.more (Fr.more (Fr.more Fr.new)))))) | exact Fr.more (Fr.more (Fr.more (Fr.more (Fr.more (Fr.more (Fr.more (Fr.more Fr.new))))))) | exact .inl (By.nil _)) (by decide) (by decide) (by decide) (by decide) (by decide) rfl rfl).mono ?_); rintro e w6 ⟨rfl, H6⟩; clear H5)
    | (go_at_call 18; have gate := H6; clear gate; go_must (refine (kset1 (E' := [([98], [3])]) (r := 0) (n' := 4) (N' := 8) (k := [98]) (v := [3]) (H6.lit (x := 3) (by decide)) (by first | exact Fr.new | exact Fr.more Fr.new | exact Fr.more (Fr.more Fr.new) | exact Fr.more (Fr.more (Fr.more Fr.new)) | exact Fr.more (Fr.more (Fr.more (Fr.more Fr.new))) | exact Fr.more (Fr.more (Fr.more (Fr.more (Fr.more Fr.new)))) | exact Fr.more (Fr.more (Fr.more (Fr.more (Fr.more (Fr.more Fr.new))))) | exact Fr.more (Fr.more (Fr.more (Fr.more (Fr.more (Fr.more (Fr.more Fr.new)))))) | exact Fr.more (Fr.more (Fr.more (Fr.more (Fr.more (Fr.more (Fr.more (Fr.more Fr.new))))))) | exact .inl (By.nil _)) (by first | exact Fr.new | exact Fr.more Fr.new | exact Fr.more (Fr.more Fr.new) | exact Fr.more (Fr.more (Fr.more Fr.new)) | exact Fr.more (Fr.more (Fr.more (Fr.more Fr.new))) | exact Fr.more (Fr.more (Fr.more (Fr.more (Fr.more Fr.new)))) | exact Fr.more (Fr.more (Fr.more (Fr.more (Fr.more (Fr.more Fr.new))))) | exact Fr.more (Fr.more (Fr.more (Fr.more (Fr.more (Fr.more (Fr.more Fr.new)))))) | exact Fr.more (Fr.more (Fr.more (Fr.more (Fr.more (Fr.more (Fr.more (Fr.more Fr.new))))))) | exact .inl (By.nil _)) (by decide) (by decide) (by decide) (by decide) rfl rfl).mono ?_); rintro e w7 ⟨rfl, H7⟩; clear H6)
    | (go_at_call 16; go_must (refine (kdp1 (r := 2) H7 rfl).mono ?_); rintro e y ⟨rfl, hy⟩; replace hy := hy.symm; subst hy)
    | (go_at_call 22; have gate := H7; clear gate; go_must (refine (krb1 (E' := [([97], [2])]) (W' := [[([97], [1])]]) (r := 0) H7 (by decide) rfl rfl (by decide)).mono ?_); rintro e w8 ⟨rfl, H8⟩; clear H7)
    | (go_at_call 17; have gate := H8; clear gate; go_must (refine (kop1 (r := 4) H8 rfl).mono ?_); rintro e y ⟨rfl, hy⟩; replace hy := hy.symm; subst hy)
    | (go_at_call 28; have gate := H8; clear gate; go_must (refine (kgt1 (k := [97]) (b := true) (l := [2]) (n' := 5) H8 (by first | exact Fr.new | exact Fr.more Fr.new | exact Fr.more (Fr.more Fr.new) | exact Fr.more (Fr.more (Fr.more Fr.new)) | exact Fr.more (Fr.more (Fr.more (Fr.more Fr.new))) | exact Fr.more (Fr.more (Fr.more (Fr.more (Fr.more Fr.new)))) | exact Fr.more (Fr.more (Fr.more (Fr.more (Fr.more (Fr.more Fr.new))))) | exact Fr.more (Fr.more (Fr.more (Fr.more (Fr.more (Fr.more (Fr.more Fr.new)))))) | exact Fr.more (Fr.more (Fr.more (Fr.more (Fr.more (Fr.more (Fr.more (Fr.more Fr.new))))))) | exact .inl (By.nil _)) (by decide) (by decide) (by decide) (by decide) rfl).mono ?_); rintro e w9 ⟨v9, rfl, H9⟩; clear H8)
    | (go_at_call 23; have gate := H9; clear gate; go_must (refine (kby1 (a := [2]) (b := [2]) (r := true) (H9.lit (x := 2) (by decide)) (by first | exact Fr.new | exact Fr.more Fr.new | exact Fr.more (Fr.more Fr.new) | exact Fr.more (Fr.more (Fr.more Fr.new)) | exact Fr.more (Fr.more (Fr.more (Fr.more Fr.new))) | exact Fr.more (Fr.more (Fr.more (Fr.more (Fr.more Fr.new)))) | exact Fr.more (Fr.more (Fr.more (Fr.more (Fr.more (Fr.more Fr.new))))) | exact Fr.more (Fr.more (Fr.more (Fr.more (Fr.more (Fr.more (Fr.more Fr.new)))))) | exact Fr.more (Fr.more (Fr.more (Fr.more (Fr.more (Fr.more (Fr.more (Fr.more Fr.new))))))) | exact .inl (By.nil _)) (by first | exact Fr.new | exact Fr.more Fr.new | exact Fr.more (Fr.more Fr.new) | exact Fr.more (Fr.more (Fr.more Fr.new)) | exact Fr.more (Fr.more (Fr.more (Fr.more Fr.new))) | exact Fr.more (Fr.more (Fr.more (Fr.more (Fr.more Fr.new)))) | exact Fr.more (Fr.more (Fr.more (Fr.more (Fr.more (Fr.more Fr.new))))) | exact Fr.more (Fr.more (Fr.more (Fr.more (Fr.more (Fr.more (Fr.more Fr.new)))))) | exact Fr.more (Fr.more (Fr.more (Fr.more (Fr.more (Fr.more (Fr.more (Fr.more Fr.new))))))) | exact .inl (By.nil _)) (by decide) (by decide) (by decide)).mono ?_); rintro e w10 ⟨rfl, H10⟩; clear H9)
    | (go_at_call 29; have gate := H10; clear gate; go_must (refine (khs1 (k := [98]) (b := false) (n' := 6) H10 (by first | exact Fr.new | exact Fr.more Fr.new | exact Fr.more (Fr.more Fr.new) | exact Fr.more (Fr.more (Fr.more Fr.new)) | exact Fr.more (Fr.more (Fr.more (Fr.more Fr.new))) | exact Fr.more (Fr.more (Fr.more (Fr.more (Fr.more Fr.new)))) | exact Fr.more (Fr.more (Fr.more (Fr.more (Fr.more (Fr.more Fr.new))))) | exact Fr.more (Fr.more (Fr.more (Fr.more (Fr.more (Fr.more (Fr.more Fr.new)))))) | exact Fr.more (Fr.more (Fr.more (Fr.more (Fr.more (Fr.more (Fr.more (Fr.more Fr.new))))))) | exact .inl (By.nil _)) (by decide) (by decide) (by decide) rfl).mono ?_); rintro e w11 ⟨rfl, H11⟩; clear H10)
    | (go_at_call 17; have gate := H11; clear gate; go_must (refine (kop1 (r := 6) H11 rfl).mono ?_); rintro e y ⟨rfl, hy⟩; replace hy := hy.symm; subst hy)
    | (go_at_call 22; have gate := H11; clear gate; go_must (refine (krb1 (E' := [([97], [1])]) (W' := []) (r := 0) H11 (by decide) rfl rfl (by decide)).mono ?_); rintro e w12 ⟨rfl, H12⟩; clear H11)
    | (go_at_call 22; have gate := H12; clear gate; go_must (refine (krb1 (E' := [([97], [1])]) (W' := []) (r := 62) H12 (by decide) rfl rfl (by decide)).mono ?_); rintro e w13 ⟨rfl, H13⟩; clear H12)
    | (go_at_call 21; have gate := H13; clear gate; go_must (refine (kcm1 (W' := []) (r := 62) H13 (by decide) rfl (by decide)).mono ?_); rintro e w14 ⟨rfl, H14⟩; clear H13)
    | (go_at_call 18; have gate := H14; clear gate; go_must (refine (kset1 (E' := [([97], [1])]) (r := 60) (n' := 7) (N' := 10) (k := []) (v := [97]) H14 (by first | exact Fr.new | exact Fr.more Fr.new | exact Fr.more (Fr.more Fr.new) | exact Fr.more (Fr.more (Fr.more Fr.new)) | exact Fr.more (Fr.more (Fr.more (Fr.more Fr.new))) | exact Fr.more (Fr.more (Fr.more (Fr.more (Fr.more Fr.new)))) | exact Fr.more (Fr.more (Fr.more (Fr.more (Fr.more (Fr.more Fr.new))))) | exact Fr.more (Fr.more (Fr.more (Fr.more (Fr.more (Fr.more (Fr.more Fr.new)))))) | exact Fr.more (Fr.more (Fr.more (Fr.more (Fr.more (Fr.more (Fr.more (Fr.more Fr.new))))))) | exact .inl (By.nil _)) (by first | exact Fr.new | exact Fr.more Fr.new | exact Fr.more (Fr.more Fr.new) | exact Fr.more (Fr.more (Fr.more Fr.new)) | exact Fr.more (Fr.more (Fr.more (Fr.more Fr.new))) | exact Fr.more (Fr.more (Fr.more (Fr.more (Fr.more Fr.new)))) | exact Fr.more (Fr.more (Fr.more (Fr.more (Fr.more (Fr.more Fr.new))))) | exact Fr.more (Fr.more (Fr.more (Fr.more (Fr.more (Fr.more (Fr.more Fr.new)))))) | exact Fr.more (Fr.more (Fr.more (Fr.more (Fr.more (Fr.more (Fr.more (Fr.more Fr.new))))))) | exact .inl (By.nil _)) (by decide) (by decide) (by decide) (by decide) rfl rfl).mono ?_); rintro e w15 ⟨rfl, H15⟩; clear H14)
    | (go_at_call 28; have gate := H15; clear gate; go_must (refine (kgt1 (k := [97]) (b := true) (l := [1]) (n' := 8) H15 (by first | exact Fr.new | exact Fr.more Fr.new | exact Fr.more (Fr.more Fr.new) | exact Fr.more (Fr.more (Fr.more Fr.new)) | exact Fr.more (Fr.more (Fr.more (Fr.more Fr.new))) | exact Fr.more (Fr.more (Fr.more (Fr.more (Fr.more Fr.new)))) | exact Fr.more (Fr.more (Fr.more (Fr.more (Fr.more (Fr.more Fr.new))))) | exact Fr.more (Fr.more (Fr.more (Fr.more (Fr.more (Fr.more (Fr.more Fr.new)))))) | exact Fr.more (Fr.more (Fr.more (Fr.more (Fr.more (Fr.more (Fr.more (Fr.more Fr.new))))))) | exact .inl (By.nil _)) (by decide) (by decide) (by decide) (by decide) rfl).mono ?_); rintro e w16 ⟨v16, rfl, H16⟩; clear H15)
    | (go_at_call 25; have gate := H16; clear gate; go_must (refine (kpf1 (p := [97]) (F := [([97], [1])]) H16 (by decide) (by first | exact Fr.new | exact Fr.more Fr.new | exact Fr.more (Fr.more Fr.new) | exact Fr.more (Fr.more (Fr.more Fr.new)) | exact Fr.more (Fr.more (Fr.more (Fr.more Fr.new))) | exact Fr.more (Fr.more (Fr.more (Fr.more (Fr.more Fr.new)))) | exact Fr.more (Fr.more (Fr.more (Fr.more (Fr.more (Fr.more Fr.new))))) | exact Fr.more (Fr.more (Fr.more (Fr.more (Fr.more (Fr.more (Fr.more Fr.new)))))) | exact Fr.more (Fr.more (Fr.more (Fr.more (Fr.more (Fr.more (Fr.more (Fr.more Fr.new))))))) | exact .inl (By.nil _)) (by decide) (by decide)).mono ?_); rintro e w17 ⟨u17, L17, rfl, I17, F17, H17⟩; clear H16)
    | (go_at_call 24; have gate := H17; clear gate; go_must (refine (ktk1 (F' := [([97], [1])]) (n' := 10) (m := 9) (m' := 1) H17 I17 F17 (by decide) (by decide) (by decide) rfl rfl rfl).mono ?_); rintro e w18 ⟨a18, c18, rfl, H18⟩; clear H17; clear I17 F17)
    | (go_at_call 26; have gate := H18; clear gate; go_must (refine (kwk1 (F := [([97], [1])]) H18 (by decide) (by decide)).mono ?_); rintro e w19 ⟨u19, L19, rfl, I19, F19, H19⟩; clear H18)
    | (go_at_call 24; have gate := H19; clear gate; go_must (refine (ktk1 (F' := [([97], [1])]) (n' := 12) (m := 9) (m' := 1) H19 I19 F19 (by decide) (by decide) (by decide) rfl rfl rfl).mono ?_); rintro e w20 ⟨a20, c20, rfl, H20⟩; clear H19; clear I19 F19)
    | (go_at_call 15; have gate := H20; clear gate; go_must (refine (kdm1 (m' := 1) H20 (by decide) rfl).mono ?_); rintro e w21 ⟨a21, c21, rfl, H21⟩; clear H20)
    | (go_at_call 12; have gate := H21; clear gate; go_must (refine (kcopy H21 (by decide)).mono ?_); rintro e w22 ⟨g2, rfl, H22⟩; clear H21)
    | (go_at_call 23; have gate := H22; clear gate; go_must (refine (kby1 (a := [1]) (b := [1]) (r := true) (H22.lit (x := 1) (by decide)) (.inr (by simp [Fm.by, Fm.st, Fm.pr])) (by first | exact Fr.new | exact Fr.more Fr.new | exact Fr.more (Fr.more Fr.new) | exact Fr.more (Fr.more (Fr.more Fr.new)) | exact Fr.more (Fr.more (Fr.more (Fr.more Fr.new))) | exact Fr.more (Fr.more (Fr.more (Fr.more (Fr.more Fr.new)))) | exact Fr.more (Fr.more (Fr.more (Fr.more (Fr.more (Fr.more Fr.new))))) | exact Fr.more (Fr.more (Fr.more (Fr.more (Fr.more (Fr.more (Fr.more Fr.new)))))) | exact Fr.more (Fr.more (Fr.more (Fr.more (Fr.more (Fr.more (Fr.more (Fr.more Fr.new))))))) | exact .inl (By.nil _)) (by decide) (by decide) (by decide)).mono ?_); rintro e w23 ⟨rfl, H23⟩; clear H22)
    | (go_at_call 17; have gate := H23; clear gate; have gate := qd; clear gate; have o1 := H23.swap rfl; go_must (refine (kop1 (r := 12) o1 rfl).mono ?_); rintro e y ⟨rfl, hy⟩; replace hy := hy.symm; subst hy; clear qd o1)
    | (go_at_call 17; have gate := H23; clear gate; go_must (refine (kop1 (r := 0) H23 rfl).mono ?_); rintro e y ⟨rfl, hy⟩; replace hy := hy.symm; subst hy)
    | (go_at_call 29; have gate := H23; clear gate; go_must (refine (khs1 (k := [97]) (b := true) (n' := 1) H23 (.inr (by simp [Fm.by, Fm.st, Fm.pr])) (by decide) (by decide) (by decide) rfl).mono ?_); rintro e w24 ⟨rfl, H24⟩; clear H23)
  go_ret
  exact ⟨rfl, H24.below⟩
end Kv
end Go.Proofs.Ytplminnejheceaa

namespace Go.Proofs.Ytplminnejheceaa
namespace Kv
open Go.RowKit Go.Lib Pg
attribute [local go_sem] Oper.semAt_some
/-- a step of a script: its four cells, and what lies behind its two lists -/
structure Ste where
  what : Int
  num : Int
  ka : Option Addr
  kc : Nat
  kl : List Int
  va : Option Addr
  vc : Nat
  vl : List Int
def Ste.kv (s : Ste) : Value := .slice s.ka s.kl.length s.kc
def Ste.vv (s : Ste) : Value := .slice s.va s.vl.length s.vc
structure SteA (w : World) (s : Ste) : Prop where
  w1 : -9223372036854775808 ≤ s.what
  w2 : s.what ≤ 9223372036854775807
  n1 : -9223372036854775808 ≤ s.num
  n2 : s.num ≤ 9223372036854775807
  k : By w s.kv s.kl
  kb : s.kl.length ≤ 140737488355328
  v : By w s.vv s.vl
  vb : s.vl.length ≤ 140737488355328
theorem SteA.keep {w w' : World} {s : Ste} (h : SteA w s) (hb : Below w.heap.size w w') : SteA w' s := ⟨h.w1, h.w2, h.n1, h.n2, h.k.keep hb, h.kb, h.v.keep hb, h.vb⟩
structure SteC (w : World) (b o : Nat) (s : Ste) : Prop where
  c0 : w.cell? ⟨b, o, none⟩ = some (.int .i64 s.what)
  c1 : w.cell? ⟨b, o + 1, none⟩ = some (.int .i64 s.num)
  c2 : w.cell? ⟨b, o + 2, none⟩ = some s.kv
  c3 : w.cell? ⟨b, o + 3, none⟩ = some s.vv
theorem SteC.keep {w w' : World} {b o : Nat} {s : Ste} (h : SteC w b o s) (hb : Below w.heap.size w w') : SteC w' b o s := by
  have k : ∀ {q : Nat} {v : Value}, w.cell? ⟨b, q, none⟩ = some v → w'.cell? ⟨b, q, none⟩ = some v := fun {q v} hc => by
    have hlt := cell_lt hc
    rw [World.cell?_of_block (w := w) (hb.block b hlt)]
    exact hc
  exact ⟨k h.c0, k h.c1, k h.c2, k h.c3⟩
/-- a script in memory -/
structure StesA (w : World) (ao : Option Addr) (n : Nat) (ss : List Ste) : Prop where
  len : ss.length = n
  le : n ≤ 9223372036854775807
  get : ∀ i s, ss[i]? = some s → ∃ b o, ao = some ⟨b, o, none⟩ ∧ SteC w b (o + i * 4) s ∧ SteA w s
theorem StesA.keep {w w' : World} {ao : Option Addr} {n : Nat} {ss : List Ste} (h : StesA w ao n ss) (hb : Below w.heap.size w w') : StesA w' ao n ss :=
  ⟨h.len, h.le, fun i s hs => by
    obtain ⟨b, o, h1, h2, h3⟩ := h.get i s hs
    exact ⟨b, o, h1, h2.keep hb, h3.keep hb⟩⟩
theorem StesA.at {w : World} {ao : Option Addr} {n : Nat} {ss : List Ste} (h : StesA w ao n ss) {i : Nat} (hi : i < n) : ∃ s b o, ss[i]? = some s ∧ ao = some ⟨b, o, none⟩ ∧ SteC w b (o + i * 4) s ∧ SteA w s := by
  have hl := h.len
  have e : ss[i]? = some ss[i] := List.getElem?_eq_getElem (by omega)
  obtain ⟨b, o, h1, h2, h3⟩ := h.get i _ e
  exact ⟨_, b, o, e, h1, h2, h3⟩
/-- how heavy steps are -/
def hvy : List Ste → Nat
  | [] => 0
  | s :: r => s.kl.length + s.vl.length + hvy r
theorem hvy_snoc (l : List Ste) (s : Ste) : hvy (l ++ [s]) = hvy l + (s.kl.length + s.vl.length) := by
  induction l with
  | nil => simp [hvy]
  | cons x l ih => simp only [List.cons_append, hvy, ih]; omega
theorem hvy_take {l : List Ste} {i : Nat} {s : Ste} (h : l[i]? = some s) : hvy (l.take (i + 1)) = hvy (l.take i) + (s.kl.length + s.vl.length) := by
  rw [List.take_add_one, h]
  simp [hvy_snoc]
theorem hvy_append (l r : List Ste) : hvy (l ++ r) = hvy l + hvy r := by
  induction l with
  | nil => simp [hvy]
  | cons x l ih => simp only [List.cons_append, hvy, ih]; omega
theorem hvy_le (l : List Ste) (k : Nat) : hvy (l.take k) ≤ hvy l := by
  have := hvy_append (l.take k) (l.drop k)
  rw [List.take_append_drop] at this
  omega
theorem hvy_mem {l : List Ste} {i : Nat} {s : Ste} (h : l[i]? = some s) : s.kl.length + s.vl.length ≤ hvy l := by
  have h1 := hvy_take h
  have h2 := hvy_le l (i + 1)
  omega
/-- a script that is looked at -/
def lite (n h : Nat) : Bool := decide (n + h ≤ 8000 ∧ n ≤ 400)
theorem lite_yes {n h : Nat} (e : lite n h = true) : n + h ≤ 8000 ∧ n ≤ 400 := by unfold lite at e; simpa using e
set_option maxHeartbeats 2000000 in
set_option maxRecDepth 100000 in
theorem light_any {w : World} {ao : Option Addr} {n c : Nat} {ss : List Ste} (S : StesA w ao n ss) :
    Calls Try.prog 10 #[.slice ao n c] w fun e w' => e = .returned (.bool (lite n (hvy ss))) ∧ Below w.heap.size w w' := by
  have hle := S.le
  have hle' : (n : Int) ≤ 9223372036854775807 := by omega
  have hl := S.len
  have HS := (show Hid _ from S)
  clear S hle
  go_enter Try.func10, Try.ntmps10
  go_wp2_with fail
  go_loopw [3, 4] (fun tn ti wr => ∃ k N : Nat, k ≤ n ∧ ti = .int .i64 k ∧ tn = .int .i64 N ∧ N = n + hvy (ss.take k) ∧ N ≤ 9223372036854775807 ∧ Below w.heap.size w wr) (fun _ ti _ => n - (intOf ti).toNat)
  case atStart => exact ⟨0, n, Nat.zero_le _, rfl, rfl, by simp [hvy], by omega, Below.refl _ _⟩
  case round =>
    obtain ⟨k, N, hk, rfl, rfl, hN, hN2, hB⟩ := hrel
    have HN := (show Hid _ from hN)
    have HB := (show Hid _ from hB)
    clear hN hB
    by_cases hlt : k < n
    · by_cases hN3 : N ≤ 8000
      · obtain ⟨s, b, o, e1, rfl, C, A⟩ := (HS.out.keep HB.out).at hlt
        have HE := (show Hid _ from e1)
        have h1 := A.kb
        have h2 := A.vb
        have c2 := C.c2
        have c3 := C.c3
        have hlt' : (k : Int) < n := by omega
        have hN3' : (N : Int) ≤ 8000 := by omega
        clear e1 C A hN3
        obtain ⟨what, num, ka, kc, kl, va, vc, vl⟩ := s
        simp only [Ste.kv, Ste.vv] at c2 c3 h1 h2
        have e := hvy_take HE.out
        simp only at e
        have HE2 := (show Hid _ from e)
        clear e HE
        obtain ⟨x, hx⟩ : ∃ x, Hid (kl.length = x) := ⟨_, rfl⟩
        obtain ⟨y, hy⟩ : ∃ y, Hid (vl.length = y) := ⟨_, rfl⟩
        rw [hx.out] at c2 h1
        rw [hy.out] at c3 h2
        go_wp2_with fail
        go_region
        go_wp2
        refine ⟨⟨k + 1, N + x + y, by omega, by go_num, by go_num, ?_, by omega, HB.out.drew⟩, by simp [intOf]; omega⟩
        have e := HE2.out
        rw [hx.out, hy.out] at e
        have := HN.out
        omega
      · have hN3' : (8000 : Int) < N := by omega
        have hlt' : (k : Int) < n := by omega
        have HF : Hid (lite n (hvy ss) = false) := by
          show _ = _
          have h1 := HN.out
          have h2 := hvy_le ss k
          unfold lite
          rw [decide_eq_false]
          omega
        have hq : ((N : Int) ≤ 8000) = False := eq_false (by omega)
        clear hN3
        go_wp2
        go_ret
        rw [HF.out]
        exact ⟨rfl, HB.out⟩
    · obtain rfl : k = n := by omega
      have HF : Hid (lite k (hvy ss) = (decide ((N : Int) ≤ 8000) && decide ((k : Int) ≤ 400))) := by
        show _ = _
        have h1 := HN.out
        rw [List.take_of_length_le (by omega)] at h1
        unfold lite
        rw [← Bool.decide_and, decide_eq_decide]
        omega
      by_cases q1 : (N : Int) ≤ 8000
      · have q2 := HF.out
        rw [decide_eq_true q1, Bool.true_and] at q2
        replace HF := (show Hid _ from q2)
        clear q2
        go_wp2
        go_ret
        rw [HF.out]
        exact ⟨rfl, HB.out⟩
      · have q2 := HF.out
        rw [decide_eq_false q1, Bool.false_and] at q2
        replace HF := (show Hid _ from q2)
        have q3 : ((N : Int) ≤ 8000) = False := eq_false q1
        clear q2
        go_wp2
        go_ret
        rw [HF.out]
        exact ⟨rfl, HB.out⟩
end Kv
end Go.Proofs.Ytplminnejheceaa

namespace Go.Proofs.Ytplminnejheceaa
namespace Kv
open Go.RowKit Go.Lib Pg
attribute [local go_sem] Oper.semAt_some
theorem belowD' (w : World) : Below w.heap.size w w.drew := ⟨rfl, rfl, rfl, Nat.le_refl _, fun _ _ => rfl⟩
theorem pcells2 {B : Nat} {w w' : World} {p i j : Nat} {a b : Value} (h : w.cell? ⟨p, i, none⟩ = some a ∧ w.cell? ⟨p, j, none⟩ = some b) (h1 : p < B) (hb : Below B w w') : w'.cell? ⟨p, i, none⟩ = some a ∧ w'.cell? ⟨p, j, none⟩ = some b := by
  refine ⟨?_, ?_⟩
  · rw [hb.cell (p := ⟨p, i, none⟩) h1]; exact h.1
  · rw [hb.cell (p := ⟨p, j, none⟩) h1]; exact h.2
theorem below_drew0 {B : Nat} {w w' : World} (h : Below B w.drew w') : Below B w w' := ⟨h.os, h.tape, h.output, h.size, h.block⟩
theorem lt_nil (x : List Int) : ¬ Lt x [] := by
  unfold Lt
  cases x <;> simp [cmpB]
theorem filter_all (l : List KV) : l.filter (abtw [] []) = l := by
  rw [List.filter_eq_self]
  intro x _
  simp [abtw, lt_nil]
theorem run_st {a : Act} {w : World} {op : Oper} {x y k n c b o : Nat} (ho : op.op = .indexAddr 22 (.tmp x) (.tmp y)) (hx : a.eval (.tmp x) = .slice (some ⟨b, o, none⟩) n c) {z : Int} (hy : a.eval (.tmp y) = .int .i64 z) (hz : z = (k : Int)) (hk : k < n) : (execOp a.eval op).run Try.prog w = .ok (.value (.pointer (some ⟨b, o + k * 4, none⟩))) w := by
  subst hz
  have h1 : (k : Int) < n := by omega
  have h2 : ¬ ((k : Int) < 0) := by omega
  obtain ⟨i0, hi, hz0, hs0, hb0⟩ := info_parts (P := Try.prog) (show (Try.prog.info? 34).map (fun i => (i.zero, i.size, i.bytes)) = some (some (.agg #[.int .i64 0, .int .i64 0, .slice none 0 0, .slice none 0 0]), 4, 64) by kernel_rfl)
  simp only [execOp, ho, hx, hy]
  go_simp
/-- the store's entries and journals; at most B changes so far -/
structure KB (w0 w : World) (f : Fm) (g : Nat) (E : Ents) (W : List Ents) (B : Nat) : Prop where
  ex : ∃ n N, Kn w0 w f g E W n N ∧ n ≤ 10 * B ∧ N ≤ 2 * B
structure FinB (w0 : World) (f : Fm) (g : Nat) (E : Ents) (W : List Ents) (B : Nat) (r : Value) (e : Ending) (w' : World) : Prop where
  ret : e = .returned r
  kb : KB w0 w' f g E W B
def setd (E : Ents) (k v : List Int) : Ents := if setE k v = 0 then put E k v else E
theorem KB.keep {w0 w : World} {f : Fm} {g : Nat} {E : Ents} {W : List Ents} {B : Nat} (h : KB w0 w f g E W B) {w' : World} (hb : Below w.heap.size w w') : KB w0 w' f g E W B := by
  obtain ⟨n, N, h, h1, h2⟩ := h.ex
  exact ⟨n, N, h.keep hb, h1, h2⟩
theorem KB.drew {w0 w : World} {f : Fm} {g : Nat} {E : Ents} {W : List Ents} {B : Nat} (h : KB w0 w f g E W B) : KB w0 w.drew f g E W B := h.keep (belowD' w)
theorem KB.below {w0 w : World} {f : Fm} {g : Nat} {E : Ents} {W : List Ents} {B : Nat} (h : KB w0 w f g E W B) : Below w0.heap.size w0 w := by
  obtain ⟨n, N, h, h1, h2⟩ := h.ex
  exact h.below
theorem KB.more {w0 w : World} {f : Fm} {g : Nat} {E : Ents} {W : List Ents} {B : Nat} {B' : Nat} (h : KB w0 w f g E W B) (hB : B ≤ B') : KB w0 w f g E W B' := by
  obtain ⟨n, N, h, h1, h2⟩ := h.ex
  exact ⟨n, N, h, by omega, by omega⟩
theorem KB.depth {w0 w : World} {f : Fm} {g : Nat} {E : Ents} {W : List Ents} {B : Nat} (h : KB w0 w f g E W B) : W.length ≤ 16 := by
  obtain ⟨n, N, h, h1, h2⟩ := h.ex
  exact h.depth
theorem KB.rise {w0 w : World} {f : Fm} {g : Nat} {E : Ents} {W : List Ents} {B : Nat} (h : KB w0 w f g E W B) : Rise E := by
  obtain ⟨n, N, h, h1, h2⟩ := h.ex
  exact h.rise
theorem KB.size {w0 w : World} {f : Fm} {g : Nat} {E : Ents} {W : List Ents} {B : Nat} (h : KB w0 w f g E W B) : E.length ≤ 2 * B := by
  obtain ⟨n, N, h, h1, h2⟩ := h.ex
  have := h.size
  omega
theorem KB.small {w0 w : World} {f : Fm} {g : Nat} {E : Ents} {W : List Ents} {B : Nat} (h : KB w0 w f g E W B) : ∀ x ∈ E, x.1.length ≤ 1000000000 ∧ x.2.length ≤ 1000000000 := by
  obtain ⟨n, N, h, h1, h2⟩ := h.ex
  obtain ⟨K, h⟩ := h.ex
  exact h.sa.small
theorem bset {w0 w : World} {f : Fm} {g : Nat} {E : Ents} {W : List Ents} {B : Nat} {kv vv : Value} {k v : List Int} (h : KB w0 w f g E W B) (hk : Fr w0 f kv k) (hv : Fr w0 f vv v) (hB : B ≤ 1000000) :
    Calls Try.prog 18 #[.pointer (some ⟨g, 0, none⟩), kv, vv] w (FinB w0 f g (setd E k v) W (B + 1) (.int .i64 (setE k v))) := by
  obtain ⟨n, N, h, h1, h2⟩ := h.ex
  refine (kset h hk hv (by omega) (by omega)).mono ?_
  rintro e w' ⟨rfl, h⟩
  exact ⟨rfl, _, _, h, by omega, by omega⟩
theorem bdel {w0 w : World} {f : Fm} {g : Nat} {E : Ents} {W : List Ents} {B : Nat} {kv : Value} {k : List Int} (h : KB w0 w f g E W B) (hk : Fr w0 f kv k) (hkl : k.length ≤ 1000000000) (hB : B ≤ 1000000) :
    Calls Try.prog 20 #[.pointer (some ⟨g, 0, none⟩), kv] w (FinB w0 f g (rem E k) W (B + 1) (.bool (look E k).isSome)) := by
  obtain ⟨n, N, h, h1, h2⟩ := h.ex
  refine (kdel h hk hkl (by omega) (by omega)).mono ?_
  rintro e w' ⟨rfl, h⟩
  exact ⟨rfl, _, _, h, by omega, by omega⟩
structure FinQ (w0 : World) (f : Fm) (g : Nat) (E : Ents) (W : List Ents) (B : Nat) (b : Bool) (l : List Int) (e : Ending) (w' : World) : Prop where
  ex : ∃ v, e = .returned (.tuple #[v, .bool b]) ∧ KB w0 w' (f.by v l) g E W B
theorem bget {w0 w : World} {f : Fm} {g : Nat} {E : Ents} {W : List Ents} {B : Nat} {kv : Value} {k : List Int} (h : KB w0 w f g E W B) (hk : Fr w0 f kv k) (hB : B ≤ 1000000) :
    Calls Try.prog 28 #[.pointer (some ⟨g, 0, none⟩), kv] w (FinQ w0 f g E W (B + 1) (look E k).isSome ((look E k).getD [])) := by
  obtain ⟨n, N, h, h1, h2⟩ := h.ex
  refine (kget h hk (by omega) (by omega)).mono ?_
  rintro e w' ⟨v, rfl, h⟩
  exact ⟨v, rfl, _, _, h, by omega, by omega⟩
theorem bhas {w0 w : World} {f : Fm} {g : Nat} {E : Ents} {W : List Ents} {B : Nat} {kv : Value} {k : List Int} (h : KB w0 w f g E W B) (hk : Fr w0 f kv k) (hB : B ≤ 1000000) :
    Calls Try.prog 29 #[.pointer (some ⟨g, 0, none⟩), kv] w (FinB w0 f g E W (B + 1) (.bool (look E k).isSome)) := by
  obtain ⟨n, N, h, h1, h2⟩ := h.ex
  refine (khas h hk (by omega) (by omega)).mono ?_
  rintro e w' ⟨rfl, h⟩
  exact ⟨rfl, _, _, h, by omega, by omega⟩
theorem brollback {w0 w : World} {f : Fm} {g : Nat} {E : Ents} {W : List Ents} {B : Nat} {E' : Ents} {W' : List Ents} (h : KB w0 w f g E W B) (hB : B ≤ 1000000) (hE : W.headD E = E') (hW : W.tail = W') :
    Calls Try.prog 22 #[.pointer (some ⟨g, 0, none⟩)] w (FinB w0 f g E' W' B (.int .i64 (if W = [] then 62 else 0))) := by
  subst hE hW
  obtain ⟨n, N, h, h1, h2⟩ := h.ex
  refine (krollback h (by omega)).mono ?_
  rintro e w' ⟨rfl, h⟩
  exact ⟨rfl, _, _, h, by omega, by omega⟩
theorem bcommit {w0 w : World} {f : Fm} {g : Nat} {E : Ents} {W : List Ents} {B : Nat} {W' : List Ents} (h : KB w0 w f g E W B) (hB : B ≤ 1000000) (hW : W.tail = W') :
    Calls Try.prog 21 #[.pointer (some ⟨g, 0, none⟩)] w (FinB w0 f g E W' B (.int .i64 (if W = [] then 62 else 0))) := by
  subst hW
  obtain ⟨n, N, h, h1, h2⟩ := h.ex
  refine (kcommit h (by omega)).mono ?_
  rintro e w' ⟨rfl, h⟩
  exact ⟨rfl, _, _, h, by omega, by omega⟩
def begun (E : Ents) (W : List Ents) : List Ents := if W.length = 16 then W else E :: W
theorem bbegin {w0 w : World} {f : Fm} {g : Nat} {E : Ents} {W : List Ents} {B : Nat} {W' : List Ents} (h : KB w0 w f g E W B) (hW : begun E W = W') :
    Calls Try.prog 19 #[.pointer (some ⟨g, 0, none⟩)] w (FinB w0 f g E W' B (.int .i64 (if W.length = 16 then 62 else 0))) := by
  subst hW
  obtain ⟨n, N, h, h1, h2⟩ := h.ex
  refine (kbegin h).mono ?_
  rintro e w' ⟨rfl, h⟩
  exact ⟨rfl, _, _, h, by omega, by omega⟩
theorem bdepth {w0 w : World} {f : Fm} {g : Nat} {E : Ents} {W : List Ents} {B : Nat} {r : Int} (h : KB w0 w f g E W B) (hr : ((W.length : Nat) : Int) = r) :
    Calls Try.prog 16 #[.pointer (some ⟨g, 0, none⟩)] w fun e w' => e = .returned (.int .i64 r) ∧ w' = w := by
  obtain ⟨n, N, h, h1, h2⟩ := h.ex
  exact kdp1 h hr
/-- a list of pairs that is at hand -/
structure FinR (w0 : World) (f : Fm) (g : Nat) (E : Ents) (W : List Ents) (B : Nat) (F : Ents) (e : Ending) (w' : World) : Prop where
  ex : ∃ ao n c, e = .returned (.slice ao n c) ∧ KB w0 w' (f.pr (.slice ao n c) F) g E W B
theorem bdump {w0 w : World} {f : Fm} {g : Nat} {E : Ents} {W : List Ents} {B : Nat} (h : KB w0 w f g E W B) (hB : B ≤ 1000000) :
    Calls Try.prog 15 #[.pointer (some ⟨g, 0, none⟩)] w (FinR w0 f g E W B E) := by
  obtain ⟨n, N, h, h1, h2⟩ := h.ex
  refine (kdump h (by omega)).mono ?_
  rintro e w' ⟨ao, c, rfl, h⟩
  exact ⟨ao, _, c, rfl, _, _, h, by omega, by omega⟩
theorem bpairs {w0 w : World} {f : Fm} {g : Nat} {E : Ents} {W : List Ents} {B : Nat} {F F' : Ents} {u v : Value} (h : KB w0 w f g E W B) (hu : (u, F) ∈ f.R) (hv : (v, F') ∈ f.R) (hFF : F = F') (hF : F.length ≤ 1000000000) (hs : ∀ x ∈ F, x.1.length ≤ 1000000000 ∧ x.2.length ≤ 1000000000) :
    Calls Try.prog 14 #[u, v] w (FinB w0 f g E W B (.bool true)) := by
  subst hFF
  obtain ⟨n, N, h, h1, h2⟩ := h.ex
  refine (kpairs h hu hv hF hs).mono ?_
  rintro e w' ⟨rfl, h⟩
  exact ⟨rfl, _, _, h, h1, h2⟩
structure FinC (w0 : World) (e : Ending) (w' : World) : Prop where
  ex : ∃ g, e = .returned (.pointer (some ⟨g, 0, none⟩)) ∧ KB w0 w' ⟨[], [], []⟩ g [] [] 0
theorem bnew {w0 w : World} (hb : Below w0.heap.size w0 w) : Calls Try.prog 11 #[] w (FinC w0) := by
  refine (knew hb).mono ?_
  rintro e w' ⟨g, rfl, h⟩
  exact ⟨g, rfl, _, _, h, by omega, by omega⟩
/-- set or deleted -/
def chgd (E : Ents) (what : Int) (k v : List Int) : Ents := if what.tmod 2 = 0 then setd E k v else rem E k
set_option maxHeartbeats 2000000 in
set_option maxRecDepth 100000 in
theorem change_any {w0 w : World} {f : Fm} {g : Nat} {E : Ents} {W : List Ents} {B : Nat} {ka va : Option Addr} {kn vn kc vc : Nat} {k v : List Int} {what num : Int} (h : KB w0 w f g E W B) (hk : Fr w0 f (.slice ka kn kc) k) (hv : Fr w0 f (.slice va vn vc) v) (hkl : k.length ≤ 1000000000) (hB : B ≤ 1000000) (_hw : -9223372036854775808 ≤ what ∧ what ≤ 9223372036854775807) :
    Calls Try.prog 27 #[.pointer (some ⟨g, 0, none⟩), .agg #[.int .i64 what, .int .i64 num, .slice ka kn kc, .slice va vn vc]] w (FinB w0 f g (chgd E what k v) W (B + 1) (.tuple #[])) := by
  have al := below_alloc w (.cells #[.int .i64 what, .int .i64 num, .slice ka kn kc, .slice va vn vc] 34)
  have b1 := blk_new w [.int .i64 what, .int .i64 num, .slice ka kn kc, .slice va vn vc] 34
  have c0 := b1.cell (i := 0) rfl
  have c2 := b1.cell (i := 2) rfl
  have c3 := b1.cell (i := 3) rfl
  have h' := h.keep al
  have us := bset h' hk hv hB
  have ud := bdel h' hk hkl hB
  by_cases hp : what.tmod 2 = 0
  · have e : chgd E what k v = setd E k v := by unfold chgd; rw [if_pos hp]
    rw [e]
    clear h h' hk hv al b1 ud e
    go_enter Try.func27, Try.ntmps27
    go_wp2_with (go_at_call 18; go_must (refine us.mono ?_); rintro e' w1 ⟨rfl, H1⟩)
    go_end0
    exact ⟨rfl, H1⟩
  · have e : chgd E what k v = rem E k := by unfold chgd; rw [if_neg hp]
    rw [e]
    clear h h' hk hv al b1 us e
    go_enter Try.func27, Try.ntmps27
    go_wp2_with (go_at_call 20; go_must (refine ud.mono ?_); rintro e' w1 ⟨rfl, H1⟩)
    go_end0
    exact ⟨rfl, H1⟩
end Kv
end Go.Proofs.Ytplminnejheceaa
