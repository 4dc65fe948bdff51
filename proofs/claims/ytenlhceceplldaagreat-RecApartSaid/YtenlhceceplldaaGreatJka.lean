/- Several texts, joined: RcT, GlA, GlB, GlC, RcU, RcW, RcV, RcAp. -/
import Derived.Test.YtenlhceceplldaaGreatJef
import Derived.Test.YtenlhceceplldaaGreatJga
import Derived.Test.YtenlhceceplldaaGreatJda
import Derived.Deep.RegionHeld3
import Derived.Deep.RegionWith
import Derived.Deep.WholeRow
import Derived.Deep.MidRow
import Derived.Deep.LoopGhost
import Derived.BigFrame
import Derived.Test.YtenlhceceplldaaGreatJfa
namespace Go.Proofs.YtenlhceceplldaaGreat
namespace Rc
open Go.RowKit Go.Lib Pg Lim
attribute [local go_sem] Oper.semAt_some
theorem mineB_off {w : World} {B g i : Nat} {v : Value} {l : List Int} {cs : List Value} {t : TypeId} (h : MineB w B v l) (k : Blk w g cs t) (ht : t ≠ 5) (u : Value) : MineB (w.setCell ⟨g, i, none⟩ u) B v l := by
  obtain ⟨h1, h2⟩ := h
  refine ⟨h1, ?_⟩
  rcases h2 with h2 | ⟨g', cap, cur, h3, h4, h5, h6⟩
  · exact .inl h2
  · refine .inr ⟨g', cap, cur, h3, h4, ?_, h6⟩
    have hne : g' ≠ g := fun e => by
      subst e
      have := k.blk.symm.trans h5
      simp at this
      exact ht this.2
    rw [Below.heap_setCell w _ u g' hne]
    exact h5
set_option maxHeartbeats 2000000 in
set_option maxRecDepth 100000 in
theorem refDec4 {w : World} {B n c : Nat} {ao : Option Addr} {v : Value} {L : List Int} {V : Int} (hM : MineB w B v L) (hB : B ≤ w.heap.size) (hL : L.length ≤ 1099511627776) (A : NatA w ao n c V) (hn : n ≤ 3000) (hV : (natB V).length < 256) :
    Calls Tryz.prog 140 #[v, .agg #[.slice ao n c]] w fun e w' => ∃ v', e = .returned v' ∧ MineB w' B v' (L ++ cntd 1 (natB V)) ∧ Byt B w w' := by
  have b1 := below_alloc w (.cells #[.slice ao n c] 30)
  have x1 := (blk_new w [.slice ao n c] 30).cell (i := 0) rfl
  have t := refNat4 (mineB_keep hM b1) (Nat.le_trans hB b1.size) hL (A.keep b1) hn
  rw [decide_eq_true hV] at t
  have HB := hid3 b1
  have HV := hid3 hV
  clear b1 hV hM hB A
  generalize L ++ cntd 1 (natB V) = M at *
  go_enter Tryz.func140, Tryz.ntmps140
  go_wp2_with fail
  refine t.mono ?_
  rintro e w1 ⟨v1, rfl, hm, hb⟩
  have HM := hid3 (hm HV.out)
  have HY := hid3 ((Byt.of HB.out).trans hb)
  clear hm hb t
  go_wp2
  go_ret
  exact ⟨_, rfl, HM.out, HY.out⟩
set_option maxHeartbeats 2000000 in
set_option maxRecDepth 100000 in
theorem rd8 {w : World} {B n c : Nat} {ao : Option Addr} {v : Value} {L : List Int} {V : Int} (hM : MineB w B v L) (hB : B ≤ w.heap.size) (hL : L.length ≤ 1099511627776) (A : NatA w ao n c V) (hn : n ≤ 3000) :
    Calls Tryz.prog 69 #[v, .agg #[.slice ao n c]] w fun e w' => ∃ v', e = .returned v' ∧ MineB w' B v' (L ++ cntd 1 (natB (fit V))) ∧ Byt B w w' := by
  have b1 := below_alloc w (.cells #[.slice ao n c] 30)
  have k1 := blk_new w [.slice ao n c] 30
  have x1 := k1.cell (i := 0) rfl
  have hV0 := A.nonneg
  obtain ⟨b, o, l, h1, h2, h3, h4, hv⟩ := (A.keep b1).ex
  have t := refBytes_any ao n c b o l _ h1 (by omega) h3 h4
  rw [hv] at t
  have HA := hid3 (A.keep b1)
  have HM := hid3 (mineB_keep hM b1)
  have HZ := hid3 (Nat.le_trans hB b1.size)
  have HS := hid3 (Nat.lt_of_lt_of_le (Nat.lt_succ_self _) (Nat.le_of_eq (size_al w (.cells #[.slice ao n c] 30)).symm))
  have HK := hid3 k1
  have HB := hid3 b1
  have HV0 := hid3 hV0
  clear b1 k1 hM hB A h1 h2 h3 h4 hv hV0
  go_enter Tryz.func69, Tryz.ntmps69
  go_wp2_with fail
  refine t.mono ?_
  rintro e w1 ⟨v1, r, rfl, hM1, hI, -, hB1⟩
  obtain ⟨r1, c1, rfl⟩ := hM1.shape
  have hr : natB V = r := natB_unique HV0.out hI
  have HR := hid3 hr
  have y1 := (HK.out.keep hB1).cell (i := 0) rfl
  have HK1 := hid3 (HK.out.keep hB1)
  have HB2 := hid3 (joinB HB.out hB1)
  by_cases hlt : r.length < 256
  · have hq : ((255 : Int) < r.length) = False := eq_false (by omega)
    have e1 : fit V = V := by unfold fit; rw [if_pos (by rw [hr]; exact hlt)]
    have t2 := refDec4 (mineB_keep HM.out hB1) (Nat.le_trans HZ.out hB1.size) hL (HA.out.keep hB1) hn (by rw [hr]; exact hlt)
    have E1 := hid3 e1
    obtain ⟨M, hM⟩ : ∃ M, Hid (L ++ cntd 1 (natB V) = M) := ⟨_, rfl⟩
    rw [hM.out] at t2
    generalize r.length = q at *
    clear hM1 hI hB1 hr HR HM HA e1 HK HB t hlt
    go_wp2_with fail
    refine t2.mono ?_
    rintro e w2 ⟨v2, rfl, hm, hb⟩
    have FF := hid3 (show MineB w2 B v2 M ∧ Byt B w w2 from ⟨hm, (Byt.of HB2.out).trans hb⟩)
    clear hm hb t2
    go_wp2
    go_ret
    exact ⟨_, rfl, by rw [E1.out, hM.out]; exact FF.out.1, FF.out.2⟩
  · have hq : ((255 : Int) < r.length) = True := eq_true (by omega)
    have e1 : fit V = 0 := by unfold fit; rw [if_neg (by rw [hr]; exact hlt)]
    have S2 : Below w.heap.size w (w1.setCell ⟨w.heap.size, 0, none⟩ (.slice none 0 0)) := HB2.out.setCell (p := ⟨w.heap.size, 0, none⟩) (Nat.le_refl _) _
    have K2 := HK1.out.setCell (i := 0) (.slice none 0 0)
    have f1 := HK1.out.free 0
    have z1 := K2.cell (i := 0) (v := .slice none 0 0) rfl
    have M2 : MineB (w1.setCell ⟨w.heap.size, 0, none⟩ (.slice none 0 0)) B v L := by
      have u := mineB_keep HM.out hB1
      exact mineB_off u HK1.out (by decide) _
    have t2 := refDec4 M2 (Nat.le_trans HZ.out (Nat.le_trans hB1.size (by rw [size_set]; exact Nat.le_refl _))) hL (natO_nil (w1.setCell ⟨w.heap.size, 0, none⟩ (.slice none 0 0))).a (by omega) (by rw [natB_0]; decide)
    have E1 := hid3 e1
    obtain ⟨M, hM⟩ : ∃ M, Hid (L ++ cntd 1 (natB 0) = M) := ⟨_, rfl⟩
    rw [hM.out] at t2
    generalize r.length = q at *
    have HS2 := hid3 S2
    clear hM1 hI hB1 hr HR HM HA e1 HK HB t hlt S2 K2 M2 HK1
    go_wp2_with fail
    refine t2.mono ?_
    rintro e w2 ⟨v2, rfl, hm, hb⟩
    have FF := hid3 (show MineB w2 B v2 M ∧ Byt B w w2 from ⟨hm, (Byt.of HS2.out).trans hb⟩)
    clear hm hb t2
    go_wp2
    go_ret
    exact ⟨_, rfl, by rw [E1.out, hM.out]; exact FF.out.1, FF.out.2⟩
set_option maxHeartbeats 2000000 in
set_option maxRecDepth 100000 in
theorem rf8 {w : World} {B : Nat} {is : Bool} {v : Value} {L : List Int} (hM : MineB w B v L) (hB : B ≤ w.heap.size) (hL : L.length ≤ 1000000) :
    Calls Tryz.prog 70 #[v, .bool is] w fun e w' => ∃ v', e = .returned v' ∧ MineB w' B v' (L ++ be 1 (if is then 1 else 0)) ∧ Byt B w w' := by
  obtain ⟨i0, hi, hz0, hz1, hz2⟩ := info_parts info_u8
  have HI : Hid (Tryz.prog.info? 5 = some i0 ∧ i0.zero = some (.int .u8 0) ∧ i0.size = 1 ∧ i0.bytes = 1) := ⟨hi, hz0, hz1, hz2⟩
  obtain ⟨az, cz, rfl⟩ := hM.shape
  clear hi hz0 hz1 hz2
  cases is
  · show Calls _ _ _ _ fun e w' => ∃ v', e = .returned v' ∧ MineB w' B v' (L ++ [0]) ∧ Byt B w w'
    have hal := below_alloc w (.cells #[.int .u8 0] 5)
    have hown : (w.alloc (.cells #[.int .u8 0] 5)).ownsRow B 5 1 (.slice az L.length cz) L.length (L.map (Value.int .u8)) := mineB_keep hM hal
    have hL2 := hL
    obtain ⟨q, hq⟩ : ∃ q, L.length = q := ⟨_, rfl⟩
    have HQ := hid3 hq
    rw [hq] at hown hL2 ⊢
    have HB := hid3 (Byt.of (B := B) hal)
    have HSZ := hid3 (Nat.le_trans hB hal.size)
    have hsrc : ∀ q u, [Value.int .u8 0][q]? = some u → (w.alloc (.cells #[.int .u8 0] 5)).cell? ((⟨w.heap.size, 0, none⟩ : Addr).add q) = some u := fun q u hu => by
      match q, hu with
      | 0, hu =>
        cases hu
        have hb := (box_new w [Value.int .u8 0] 5).blk
        simp only [World.cell?, Addr.add, if_true, hb]
        rfl
      | q + 1, hu => simp at hu
    clear hq hal hM hL hB
    go_enter Tryz.func70, Tryz.ntmps70
    go_wp2_with (at_builtin; refine wpList_append_own _ rfl _ _ 49 rfl B 5 i0 (.int .u8 0) 1 1 under_bytes HI.out.1 HI.out.2.1 HI.out.2.2.1 HI.out.2.2.2 rfl (by decide) _ _ _ rfl hown ⟨w.heap.size, 0, none⟩ 1 1 [Value.int .u8 0] rfl rfl ?c1 ?c2 ?c3 ?c4 ?c5 ?_)
    case c1 => exact hsrc
    case c2 => intro u hu; rw [List.mem_singleton] at hu; subst hu; rfl
    case c3 => unfold maxLen; omega
    case c4 => omega
    case c5 => exact HSZ.out
    intro v' w2 hown' hgrow _
    have HY := hid3 (HB.out.trans (Byt.grown hown hgrow))
    have HM2 : Hid (MineB w2 B v' (L ++ [0])) := by
      show w2.ownsRow _ _ _ _ _ _
      rw [List.length_append, HQ.out, List.map_append]
      exact hown'
    clear hown hown' hgrow hsrc
    go_wp2
    go_ret
    exact ⟨_, rfl, HM2.out, HY.out⟩
  · show Calls _ _ _ _ fun e w' => ∃ v', e = .returned v' ∧ MineB w' B v' (L ++ [1]) ∧ Byt B w w'
    have hal := below_alloc w (.cells #[.int .u8 1] 5)
    have hown : (w.alloc (.cells #[.int .u8 1] 5)).ownsRow B 5 1 (.slice az L.length cz) L.length (L.map (Value.int .u8)) := mineB_keep hM hal
    have hL2 := hL
    obtain ⟨q, hq⟩ : ∃ q, L.length = q := ⟨_, rfl⟩
    have HQ := hid3 hq
    rw [hq] at hown hL2 ⊢
    have HB := hid3 (Byt.of (B := B) hal)
    have HSZ := hid3 (Nat.le_trans hB hal.size)
    have hsrc : ∀ q u, [Value.int .u8 1][q]? = some u → (w.alloc (.cells #[.int .u8 1] 5)).cell? ((⟨w.heap.size, 0, none⟩ : Addr).add q) = some u := fun q u hu => by
      match q, hu with
      | 0, hu =>
        cases hu
        have hb := (box_new w [Value.int .u8 1] 5).blk
        simp only [World.cell?, Addr.add, if_true, hb]
        rfl
      | q + 1, hu => simp at hu
    clear hq hal hM hL hB
    go_enter Tryz.func70, Tryz.ntmps70
    go_wp2_with (at_builtin; refine wpList_append_own _ rfl _ _ 49 rfl B 5 i0 (.int .u8 0) 1 1 under_bytes HI.out.1 HI.out.2.1 HI.out.2.2.1 HI.out.2.2.2 rfl (by decide) _ _ _ rfl hown ⟨w.heap.size, 0, none⟩ 1 1 [Value.int .u8 1] rfl rfl ?c1 ?c2 ?c3 ?c4 ?c5 ?_)
    case c1 => exact hsrc
    case c2 => intro u hu; rw [List.mem_singleton] at hu; subst hu; rfl
    case c3 => unfold maxLen; omega
    case c4 => omega
    case c5 => exact HSZ.out
    intro v' w2 hown' hgrow _
    have HY := hid3 (HB.out.trans (Byt.grown hown hgrow))
    have HM2 : Hid (MineB w2 B v' (L ++ [1])) := by
      show w2.ownsRow _ _ _ _ _ _
      rw [List.length_append, HQ.out, List.map_append]
      exact hown'
    clear hown hown' hgrow hsrc
    go_wp2
    go_ret
    exact ⟨_, rfl, HM2.out, HY.out⟩
theorem Blk.byt {B : Nat} {w w' : World} {g : Nat} {cs : List Value} {t : TypeId} (h : Blk w g cs t) (b : Byt B w w') (ht : t ≠ 5) : Blk w' g cs t := ⟨by rw [b.typ g _ t _ h.blk ht]; exact h.blk⟩
set_option maxHeartbeats 2000000 in
set_option maxRecDepth 100000 in
theorem ru8 {w : World} {B lb : Nat} {v : Value} {L xs : List Int} (hM : MineB w B v L) (hB : B ≤ w.heap.size) (hX : Blk w lb (xs.map (Value.int .u64)) 22) (hL : L.length ≤ 1000000) (hx : xs.length ≤ 1000) :
    Calls Tryz.prog 68 #[v, .slice (some ⟨lb, 0, none⟩) xs.length xs.length] w fun e w' => ∃ v', e = .returned v' ∧ MineB w' B v' (L ++ xs.flatMap (be 8)) ∧ Byt B w w' := by
  have HM := hid3 hM
  have HB := hid3 hB
  have HX := hid3 hX
  have hlen : ∀ j, ((xs.take j).flatMap (be 8)).length ≤ 8 * xs.length := fun j => by
    rw [List.length_flatMap]
    have e : ∀ l : List Int, (l.map (fun a => (be 8 a).length)).sum = 8 * l.length := fun l => by
      induction l with
      | nil => rfl
      | cons a l ih => rw [List.map_cons, List.sum_cons, ih, be_length, List.length_cons]; omega
    rw [e, List.length_take]
    omega
  have HL := hid3 hlen
  obtain ⟨n, hn⟩ : ∃ n, xs.length = n := ⟨_, rfl⟩
  have HN := hid3 hn
  rw [hn]
  rw [hn] at hx
  clear hM hB hX hlen hn
  go_enter Tryz.func68, Tryz.ntmps68
  go_wp2_with fail
  go_loopw [0, 5] (fun tv ti wr => ∃ j : Nat, j ≤ n ∧ ti = .int .i64 j ∧ MineB wr B tv (L ++ (xs.take j).flatMap (be 8)) ∧ Byt B w wr) (fun _ ti _ => n - (intOf ti).toNat)
  case atStart => exact ⟨0, Nat.zero_le _, rfl, by rw [List.take_zero, List.flatMap_nil, List.append_nil]; exact HM.out, Byt.of (Below.refl _ _)⟩
  case round =>
    obtain ⟨j, hj, rfl, hMj, hBj⟩ := hrel
    by_cases hlt : j < n
    · have hlt' : (j : Int) < n := by omega
      obtain ⟨x, hxj⟩ : ∃ x, xs[j]? = some x := ⟨_, List.getElem?_eq_getElem (by rw [HN.out]; exact hlt)⟩
      have c1 := (Blk.byt HX.out hBj (by decide)).cell (i := j) (v := .int .u64 x) (by rw [List.getElem?_map, hxj]; rfl)
      have t := put_any (n := 8) (x := x) hMj (Nat.le_trans HB.out hBj.size) (by decide) (by
        have := HL.out j
        rw [List.length_append]
        rw [HN.out] at this
        omega)
      have HD : Hid ((L ++ (xs.take j).flatMap (be 8)) ++ be 8 x = L ++ (xs.take (j + 1)).flatMap (be 8)) := by
        show _ = _
        rw [List.take_add_one, hxj, List.flatMap_append, List.append_assoc]
        simp
      rw [HD.out] at t
      have HBj := hid3 hBj
      obtain ⟨M, hM⟩ : ∃ M, Hid (L ++ (xs.take (j + 1)).flatMap (be 8) = M) := ⟨_, rfl⟩
      rw [hM.out] at t
      clear hMj hBj hxj
      go_wp2_with fail
      refine t.mono ?_
      rintro e w2 ⟨v2, rfl, hm, hb⟩
      have FF := hid3 (show MineB w2 B v2 M ∧ Byt B w w2 from ⟨hm, HBj.out.trans hb⟩)
      clear hm hb t c1 HBj
      go_wp2
      refine ⟨⟨j + 1, by omega, by go_num, ?_, FF.out.2⟩, by simp [intOf]; omega⟩
      rw [hM.out]; exact FF.out.1
    · obtain rfl : j = n := by omega
      rw [← HN.out, List.take_length] at hMj
      have FF := hid3 (And.intro hMj hBj)
      clear hMj hBj
      go_wp2
      go_ret
      exact ⟨_, rfl, FF.out⟩
end Rc
end Go.Proofs.YtenlhceceplldaaGreat

namespace Go.Proofs.YtenlhceceplldaaGreat
namespace Gl
open Go.RowKit Go.Lib Pg
abbrev Fr := List (Nat × Value)
def lk : Fr → Nat → Option Value
  | [], _ => none
  | p :: r, k => bif Nat.beq p.1 k then some p.2 else lk r k
def evL (l : Fr) : Operand → Value
  | .tmp k => (lk l k).getD undef
  | .const v => v
  | .global g => .pointer (some ⟨g, 0, none⟩)
  | .func f => .func (.func f) #[] #[]
def kn (l : Fr) : Operand → Bool
  | .tmp k => (lk l k).isSome
  | _ => true
/-- a frame of n temporaries, of which l tells some -/
structure Rd (n : Nat) (ds : List Deferred) (l : Fr) (a : Act) : Prop where
  size : a.tmps.size = n
  dfs : a.defers = ds
  get : ∀ k v, lk l k = some v → a.tmps[k]? = some v
theorem Rd.ev {n : Nat} {ds : List Deferred} {l : Fr} {a : Act} (h : Rd n ds l a) (x : Operand) (hk : kn l x = true) : a.eval x = evL l x := by
  cases x with
  | tmp k =>
    cases hl : lk l k with
    | none => simp [kn, hl] at hk
    | some v => simp [Act.eval, evL, hl, h.get k v hl]
  | const v => rfl
  | global g => rfl
  | func f => rfl
def pt (l : Fr) : Option Nat → Value → Fr
  | some d, v => (d, v) :: l
  | none, _ => l
theorem Rd.put {n : Nat} {ds : List Deferred} {l : Fr} {a : Act} (h : Rd n ds l a) (d : Option Nat) (v : Value) (hd : ∀ k, d = some k → k < n) : Rd n ds (pt l d v) (a.put d v) := by
  cases d with
  | none => exact h
  | some d =>
    have hd := hd d rfl
    refine ⟨by simpa [Act.put] using h.size, h.dfs, fun k u hu => ?_⟩
    simp only [pt, lk] at hu
    by_cases e : d = k
    · subst e
      simp at hu
      subst hu
      simp [Act.put, h.size, hd]
    · have e' : Nat.beq d k = false := by
        cases hb : Nat.beq d k with
        | false => rfl
        | true => exact absurd (Nat.eq_of_beq_eq_true hb) e
      rw [e'] at hu
      simp only [Act.put, Array.getElem?_setIfInBounds, if_neg e]
      exact h.get k u hu
/-- l' is told by l -/
def sub (l' l : Fr) : Prop := ∀ k v, lk l' k = some v → lk l k = some v
theorem lk_mem {l : Fr} {k : Nat} {v : Value} (h : lk l k = some v) : (k, v) ∈ l := by
  induction l with
  | nil => cases h
  | cons p r ih =>
    simp only [lk] at h
    cases hb : Nat.beq p.1 k with
    | true =>
      rw [hb] at h
      have := Nat.eq_of_beq_eq_true hb
      simp at h
      subst h; subst this
      exact List.mem_cons_self
    | false => rw [hb] at h; exact List.mem_cons_of_mem _ (ih h)
theorem sub_of {l' l : Fr} (h : l'.map (fun p => lk l p.1) = l'.map (fun p => some p.2)) : sub l' l := fun k v hk => by
  have hm := lk_mem hk
  have := List.map_inj_left.1 h (k, v) hm
  exact this
theorem Rd.sub {n : Nat} {ds : List Deferred} {l l' : Fr} {a : Act} (h : Rd n ds l a) (hs : sub l' l) : Rd n ds l' a := ⟨h.size, h.dfs, fun k v hk => h.get k v (hs k v hk)⟩
def opnds : Op → List Operand
  | .call c => (match c.callee with | .value f => [f] | .invoke r _ => [r] | .builtin _ => []) ++ c.args.toList
  | .build _ ps => ps.toList.map (·.2)
  | .buildSlice _ _ ps => ps.toList.map (·.2)
  | o => o.operands.toList
theorem mem_opnds {o : Op} {x : Operand} (h : x ∈ o.operands) : x ∈ opnds o := by
  cases o <;> first
    | (simpa [opnds] using h)
    | (simp only [Op.operands] at h; simpa [opnds] using h)
    | (rename_i c
       simp only [Op.operands, Call.operands] at h
       unfold opnds
       cases hc : c.callee <;> simp [hc] at h ⊢ <;> exact h)
def notSel : Op → Bool
  | .select _ _ => false
  | _ => true
def inB (n : Nat) : Option Nat → Bool
  | none => true
  | some d => Nat.blt d n
/-- the guard: known, and told -/
def gd (ops : Array Oper) (l : Fr) (o : Oper) : Option Bool :=
  match o.guard with
  | none => some true
  | some (j, b) => match (ops[j]?).bind (·.dst) with
    | none => some false
    | some s => match lk l s with
      | none => none
      | some (.bool c) => some (c == b)
      | some _ => some false
def chk (n : Nat) (l : Fr) (o : Oper) (d : Option Nat) : Bool := (opnds o.op).all (kn l) && decide (o.dst = d) && inB n d && notSel o.op
theorem chk_d {n : Nat} {l : Fr} {o : Oper} {d : Option Nat} (h : chk n l o d = true) : o.dst = d ∧ ∀ k, d = some k → k < n := by
  simp only [chk, Bool.and_eq_true, decide_eq_true_eq] at h
  refine ⟨h.1.1.2, fun k e => ?_⟩
  subst e
  have := h.1.2
  simp only [inB, Nat.blt] at this
  exact Nat.le_of_ble_eq_true this
theorem chk_ex {n : Nat} {ds : List Deferred} {l : Fr} {o : Oper} {d : Option Nat} {a : Act} (h : chk n l o d = true) (r : Rd n ds l a) : execOp a.eval o = execOp (evL l) o := by
  simp only [chk, Bool.and_eq_true, List.all_eq_true] at h
  exact execOp_congr o (fun cs b e => by have := h.2; rw [e] at this; cases this) fun x hx => r.ev x (h.1.1.1 x (mem_opnds hx))
theorem gd_want {n : Nat} {ds : List Deferred} {l : Fr} {ops : Array Oper} {o : Oper} {a : Act} {t : Bool} (r : Rd n ds l a) (h : gd ops l o = some t) : Region.wanted o (yielded ops a.tmps) = t := by
  unfold gd at h
  unfold Region.wanted
  cases hg : o.guard with
  | none => rw [hg] at h; simpa using h
  | some p =>
    obtain ⟨j, b⟩ := p
    rw [hg] at h
    simp only at h ⊢
    unfold yielded
    cases hs : (ops[j]?).bind (·.dst) with
    | none => rw [hs] at h; simp at h; subst h; simp
    | some s =>
      rw [hs] at h
      simp only at h
      cases hv : lk l s with
      | none => rw [hv] at h; cases h
      | some v =>
        rw [hv] at h
        have hx := r.get s v hv
        simp only [Option.bind_some, hx]
        cases v <;> simp_all
section
variable {P : Program} {n : Nat} {ds : List Deferred} {ops : Array Oper} {rest : List Oper} {o o1 o2 : Oper} {l : Fr} {w w1 : World} {Q Q' : Exit → Act → World → Prop} {K : Act → World → Prop}
structure GL (P : Program) (n : Nat) (ds : List Deferred) (ops : Array Oper) (Q : Exit → Act → World → Prop) (rest : List Oper) (l : Fr) (w : World) : Prop where
  out : ∀ a, Rd n ds l a → wpList P ops Q rest a w
structure GC (P : Program) (n : Nat) (ds : List Deferred) (c : Code) (Q : Exit → Act → World → Prop) (l : Fr) (w : World) : Prop where
  out : ∀ a, Rd n ds l a → c.wp P Q a w
structure GE (n : Nat) (ds : List Deferred) (Q : Exit → Act → World → Prop) (e : Exit) (l : Fr) (w : World) : Prop where
  out : ∀ a, Rd n ds l a → Q e a w
/-- the frame told anew -/
theorem gl_fr (l' : Fr) (h : l'.map (fun p => lk l p.1) = l'.map (fun p => some p.2)) (k : GL P n ds ops Q rest l' w) : GL P n ds ops Q rest l w := ⟨fun a r => k.out a (r.sub (sub_of h))⟩
theorem gc_fr {c : Code} (l' : Fr) (h : l'.map (fun p => lk l p.1) = l'.map (fun p => some p.2)) (k : GC P n ds c Q l' w) : GC P n ds c Q l w := ⟨fun a r => k.out a (r.sub (sub_of h))⟩
theorem ge_fr {e : Exit} (l' : Fr) (h : l'.map (fun p => lk l p.1) = l'.map (fun p => some p.2)) (k : GE n ds Q e l' w) : GE n ds Q e l w := ⟨fun a r => k.out a (r.sub (sub_of h))⟩
theorem gl_val (d : Option Nat) (v : Value) (hg : gd ops l o = some true) (hc : chk n l o d = true) (hrun : (execOp (evL l) o).run P w = .ok (.value v) w1) (h : GL P n ds ops Q rest (pt l d v) w1) : GL P n ds ops Q (o :: rest) l w := ⟨fun a r =>
  BigFrame.wpList_want (gd_want r hg) fun K hK => by
    unfold Oper.wp
    rw [chk_ex hc r, hrun]
    show K (a.put o.dst v) w1
    rw [(chk_d hc).1]
    exact hK _ _ (h.out _ (r.put d v (chk_d hc).2))⟩
theorem gl_void (hg : gd ops l o = some true) (hc : chk n l o none = true) (hrun : (execOp (evL l) o).run P w = .ok .skip w1) (h : GL P n ds ops Q rest l w1) : GL P n ds ops Q (o :: rest) l w := ⟨fun a r =>
  BigFrame.wpList_want (gd_want r hg) fun K hK => by
    unfold Oper.wp
    rw [chk_ex hc r, hrun]
    show K (a.put o.dst undef) w1
    rw [(chk_d hc).1]
    exact hK _ _ (h.out _ r)⟩
theorem gl_not (d : Option Nat) (hg : gd ops l o = some false) (hd : (decide (o.dst = d) && inB n d) = true) (h : GL P n ds ops Q rest (pt l d undef) w) : GL P n ds ops Q (o :: rest) l w := ⟨fun a r => by
  simp only [Bool.and_eq_true, decide_eq_true_eq] at hd
  refine wpList_skip (gd_want r hg) ?_
  rw [hd.1]
  refine h.out _ (r.put d undef fun k e => ?_)
  subst e
  have := hd.2
  simp only [inB, Nat.blt] at this
  exact Nat.le_of_ble_eq_true this⟩
theorem gl_callx (d : Option Nat) (f : FuncId) (args : Array Value) (hg : gd ops l o = some true) (hc : chk n l o d = true) (hrun : (execOp (evL l) o).run P w = .ok (.enter f args) w) {Qc : Ending → World → Prop} (hcall : Calls P f args w Qc) (h : ∀ e w', Qc e w' → ∃ v, e = .returned v ∧ GL P n ds ops Q rest (pt l d v) w') : GL P n ds ops Q (o :: rest) l w := ⟨fun a r =>
  BigFrame.wpList_want (gd_want r hg) fun K hK => by
    unfold Oper.wp
    rw [chk_ex hc r, hrun, Oper.upon_enter]
    refine hcall.mono ?_
    intro e w' hq
    obtain ⟨v, rfl, hv⟩ := h e w' hq
    show K (a.put o.dst v) w'
    rw [(chk_d hc).1]
    exact hK _ _ (hv.out _ (r.put d v (chk_d hc).2))⟩
theorem gl_nil (h : GE n ds Q .normal l w) : GL P n ds ops Q [] l w := ⟨fun a r => wpList_nil (h.out a r)⟩
-- the same, short
theorem t (d : Nat) (v : Value) (h : GL P n ds ops Q rest ((d, v) :: l) w) (hg : gd ops l o = some true := by kernel_rfl) (hc : chk n l o (some d) = true := by kernel_rfl) (hrun : (execOp (evL l) o).run P w = .ok (.value v) w := by kernel_rfl) : GL P n ds ops Q (o :: rest) l w := gl_val (some d) v hg hc hrun h
theorem tr (d : Nat) (v : Value) (hrun : (execOp (evL l) o).run P w = .ok (.value v) w) (h : GL P n ds ops Q rest ((d, v) :: l) w) (hg : gd ops l o = some true := by kernel_rfl) (hc : chk n l o (some d) = true := by kernel_rfl) : GL P n ds ops Q (o :: rest) l w := gl_val (some d) v hg hc hrun h
theorem tq (d : Nat) (v v' : Value) (hv : v = v') (h : GL P n ds ops Q rest ((d, v') :: l) w) (hg : gd ops l o = some true := by kernel_rfl) (hc : chk n l o (some d) = true := by kernel_rfl) (hrun : (execOp (evL l) o).run P w = .ok (.value v) w := by kernel_rfl) : GL P n ds ops Q (o :: rest) l w := by
  subst hv; exact gl_val (some d) v hg hc hrun h
theorem tw (d : Nat) (v : Value) (w1 : World) (hrun : (execOp (evL l) o).run P w = .ok (.value v) w1) (h : GL P n ds ops Q rest ((d, v) :: l) w1) (hg : gd ops l o = some true := by kernel_rfl) (hc : chk n l o (some d) = true := by kernel_rfl) : GL P n ds ops Q (o :: rest) l w := gl_val (some d) v hg hc hrun h
theorem tv (w1 : World) (hrun : (execOp (evL l) o).run P w = .ok .skip w1) (h : GL P n ds ops Q rest l w1) (hg : gd ops l o = some true := by kernel_rfl) (hc : chk n l o none = true := by kernel_rfl) : GL P n ds ops Q (o :: rest) l w := gl_void hg hc hrun h
theorem tn (d : Nat) (h : GL P n ds ops Q rest ((d, undef) :: l) w) (hg : gd ops l o = some false := by kernel_rfl) (hd : (decide (o.dst = some d) && inB n (some d)) = true := by kernel_rfl) : GL P n ds ops Q (o :: rest) l w := gl_not (some d) hg hd h
theorem tn0 (h : GL P n ds ops Q rest l w) (hg : gd ops l o = some false := by kernel_rfl) (hd : (decide (o.dst = none) && inB n none) = true := by kernel_rfl) : GL P n ds ops Q (o :: rest) l w := gl_not none hg hd h
theorem tc (d : Nat) (f : FuncId) (args : Array Value) {Qc : Ending → World → Prop} (hcall : Calls P f args w Qc) (h : ∀ e w', Qc e w' → ∃ v, e = .returned v ∧ GL P n ds ops Q rest ((d, v) :: l) w') (hg : gd ops l o = some true := by kernel_rfl) (hc : chk n l o (some d) = true := by kernel_rfl) (hrun : (execOp (evL l) o).run P w = .ok (.enter f args) w := by kernel_rfl) : GL P n ds ops Q (o :: rest) l w := gl_callx (some d) f args hg hc hrun hcall h
-- code
theorem gc_seq {x y : Code} (h : GC P n ds x (Exit.then (y.wp P Q) Q) l w) : GC P n ds (x.seq y) Q l w := ⟨fun a r => wp_seq (h.out a r)⟩
theorem gc_reg {id : Nat} {c : List Oper} (h : GL P n ds c.toArray Q c l w) : GC P n ds (Code.region id c.toArray false) Q l w := ⟨fun a r => wp_region_lit (h.out a r)⟩
theorem gc_yes {c : Operand} {x y : Code} (h : GC P n ds x Q l w) (hk : kn l c = true := by kernel_rfl) (hc : evL l c = .bool true := by kernel_rfl) : GC P n ds (Code.cond c x y) Q l w := ⟨fun a r => wp_cond_true ((r.ev c hk).trans hc) (h.out a r)⟩
theorem gc_no {c : Operand} {x y : Code} (h : GC P n ds y Q l w) (hk : kn l c = true := by kernel_rfl) (hc : evL l c = .bool false := by kernel_rfl) : GC P n ds (Code.cond c x y) Q l w := ⟨fun a r => wp_cond_false ((r.ev c hk).trans hc) (h.out a r)⟩
theorem gc_skip (h : GE n ds Q .normal l w) : GC P n ds Code.skip Q l w := ⟨fun a r => wp_skip (h.out a r)⟩
theorem gc_ret (h : GE n ds Q .ret l w) : GC P n ds Code.ret Q l w := ⟨fun a r => wp_ret (h.out a r)⟩
theorem gc_exit {id : Nat} (h : GE n ds Q (.exit id) l w) : GC P n ds (Code.exit id) Q l w := ⟨fun a r => wp_exit (h.out a r)⟩
theorem gc_block {id : Nat} {c : Code} (h : GC P n ds c (Exit.inBlock id Q) l w) : GC P n ds (Code.block id c) Q l w := ⟨fun a r => wp_block (h.out a r)⟩
theorem ge_then {y : Code} (h : GC P n ds y Q l w) : GE n ds (Exit.then (y.wp P Q) Q') .normal l w := ⟨fun a r => h.out a r⟩
theorem ge_tr (h : GE n ds Q' .ret l w) : GE n ds (Exit.then K Q') .ret l w := ⟨fun a r => h.out a r⟩
theorem ge_tx {id : Nat} (h : GE n ds Q' (.exit id) l w) : GE n ds (Exit.then K Q') (.exit id) l w := ⟨fun a r => h.out a r⟩
theorem ge_bn {id : Nat} (h : GE n ds Q .normal l w) : GE n ds (Exit.inBlock id Q) .normal l w := ⟨fun a r => h.out a r⟩
theorem ge_br {id : Nat} (h : GE n ds Q .ret l w) : GE n ds (Exit.inBlock id Q) .ret l w := ⟨fun a r => h.out a r⟩
theorem ge_bx {id : Nat} (h : GE n ds Q .normal l w) : GE n ds (Exit.inBlock id Q) (.exit id) l w := ⟨fun a r => by
  show if id = id then Q .normal a w else Q (.exit id) a w
  rw [if_pos rfl]; exact h.out a r⟩
theorem ge_by {id id' : Nat} (h : GE n ds Q (.exit id') l w) (hne : id' ≠ id := by decide) : GE n ds (Exit.inBlock id Q) (.exit id') l w := ⟨fun a r => by
  show if id' = id then Q .normal a w else Q (.exit id') a w
  rw [if_neg hne]; exact h.out a r⟩
/-- a loop told by a state s -/
theorem gc_loop {σ : Type} {c : Code} (μ : σ → Nat) (fr : σ → Fr) (F : σ → World → Prop) (s : σ) (hF : F s w) (hl : (fr s).map (fun p => lk l p.1) = (fr s).map (fun p => some p.2))
    (round : ∀ s w, F s w → GC P n ds c (Exit.then (fun a' w' => ∃ s', μ s' < μ s ∧ Rd n ds (fr s') a' ∧ F s' w') Q) (fr s) w) : GC P n ds (Code.loop c) Q l w := ⟨fun a r => by
  refine wp_loop_ghost (fun m a w => ∃ s, μ s = m ∧ Rd n ds (fr s) a ∧ F s w) (μ s) ⟨s, rfl, r.sub (sub_of hl), hF⟩ ?_
  rintro m a w ⟨s, rfl, hr, hF⟩
  refine wp_mono ((round s w hF).out a hr) ?_
  intro e a' w' h
  cases e with
  | normal =>
    obtain ⟨s', h1, h2, h3⟩ := h
    exact ⟨μ s', h1, s', rfl, h2, h3⟩
  | _ => exact h⟩
theorem ge_round {σ : Type} {μ : σ → Nat} {fr : σ → Fr} {F : σ → World → Prop} {m : Nat} (s' : σ) (hm : μ s' < m) (hF : F s' w) (hl : (fr s').map (fun p => lk l p.1) = (fr s').map (fun p => some p.2)) : GE n ds (Exit.then (fun a' w' => ∃ s', μ s' < m ∧ Rd n ds (fr s') a' ∧ F s' w') Q) .normal l w := ⟨fun _ r => ⟨s', hm, r.sub (sub_of hl), hF⟩⟩
/-- where ways come together -/
theorem gc_join {σ : Type} {x y : Code} (fr : σ → Fr) (F : σ → World → Prop) (h1 : GC P n ds x (Exit.then (fun a' w' => ∃ s, Rd n ds (fr s) a' ∧ F s w') Q) l w) (h2 : ∀ s w', F s w' → GC P n ds y Q (fr s) w') : GC P n ds (x.seq y) Q l w := ⟨fun a r => wp_seq (wp_mono (h1.out a r) fun e a' w' h => by
  cases e with
  | normal => obtain ⟨s, hr, hF⟩ := h; exact (h2 s w' hF).out a' hr
  | _ => exact h)⟩
theorem ge_join {σ : Type} {fr : σ → Fr} {F : σ → World → Prop} (s : σ) (hF : F s w) (hl : (fr s).map (fun p => lk l p.1) = (fr s).map (fun p => some p.2)) : GE n ds (Exit.then (fun a' w' => ∃ s, Rd n ds (fr s) a' ∧ F s w') Q) .normal l w := ⟨fun _ r => ⟨s, r.sub (sub_of hl), hF⟩⟩
def en : Nat → List Value → Fr
  | _, [] => []
  | i, v :: r => (i, v) :: en (i + 1) r
theorem lk_en : ∀ (vs : List Value) (i k : Nat) (v : Value), lk (en i vs) k = some v → i ≤ k ∧ vs[k - i]? = some v
  | [], _, _, _, h => by cases h
  | u :: r, i, k, v, h => by
    simp only [en, lk] at h
    cases hb : Nat.beq i k with
    | true =>
      rw [hb] at h
      have := Nat.eq_of_beq_eq_true hb
      subst this
      simp at h
      subst h
      exact ⟨Nat.le_refl _, by simp⟩
    | false =>
      rw [hb] at h
      obtain ⟨h1, h2⟩ := lk_en r (i + 1) k v h
      refine ⟨by omega, ?_⟩
      have : k - i = (k - (i + 1)) + 1 := by omega
      rw [this, List.getElem?_cons_succ]
      exact h2
theorem gc_enter {f : FuncId} {fn : Func} {c : Code} {vs : List Value} {R : Ending → World → Prop} (hf : P.funcs[f]? = some fn) (hb : fn.body = some c) (hn : fn.ntmps = n) (hs : Nat.ble vs.length n = true) (h : GC P n [] c (bodyPost P fn R) (en 0 vs) w) : Calls P f vs.toArray w R := by
  have hs := Nat.le_of_ble_eq_true hs
  refine calls_of_wp hf hb (h.out _ ⟨?_, rfl, fun k v hk => ?_⟩)
  · simp
    omega
  · obtain ⟨_, h2⟩ := lk_en vs 0 k v hk
    rw [Nat.sub_zero] at h2
    have hlt := (List.getElem?_eq_some_iff.1 h2).1
    rw [Array.getElem?_append_left (by simpa using hlt)]
    simpa using h2
theorem ge_ret {fn : Func} {R : Ending → World → Prop} (v : Value) (hr : ∀ a, Rd n [] l a → (results fn a.tmps).run P w = .ok v w) (hR : R (.returned v) w) : GE n [] (bodyPost P fn R) .ret l w := ⟨fun a r => bodyPost_ret (hr a r) r.dfs hR⟩
theorem ge_end {fn : Func} {R : Ending → World → Prop} (v : Value) (hr : ∀ a, Rd n [] l a → (results fn a.tmps).run P w = .ok v w) (hR : R (.returned v) w) : GE n [] (bodyPost P fn R) .normal l w := ⟨fun a r => ⟨r.dfs, v, hr a r, hR⟩⟩
theorem Rd.gD {a : Act} (r : Rd n ds l a) {k : Nat} {v : Value} (h : lk l k = some v) : a.tmps.getD k undef = v := by
  rw [Array.getD_eq_getD_getElem?, r.get k v h]; rfl
theorem rs1 {fn : Func} (k : Nat) {v : Value} (h : fn.results = #[.tmp k]) (hv : lk l k = some v) (a : Act) (r : Rd n [] l a) : (results fn a.tmps).run P w = .ok v w := by
  have := r.gD hv
  simp at this
  simp [results, h, this]
theorem rs0 {fn : Func} (h : fn.results = #[]) (a : Act) (_ : Rd n [] l a) : (results fn a.tmps).run P w = .ok (.tuple #[]) w := by
  simp [results, h]
theorem rs2 {fn : Func} (j k : Nat) {u v : Value} (h : fn.results = #[.tmp j, .tmp k]) (hu : lk l j = some u) (hv : lk l k = some v) (a : Act) (r : Rd n [] l a) : (results fn a.tmps).run P w = .ok (.tuple #[u, v]) w := by
  have h1 := r.gD hu
  have h2 := r.gD hv
  simp at h1 h2
  simp [results, h, h1, h2]
theorem rsc {fn : Func} (j : Nat) {T : TypeId} {g : Nat} {u : Value} (h : fn.results = #[.cell j T]) (hu : lk l j = some (.pointer (some ⟨g, 0, none⟩))) (hl : (loadVar T ⟨g, 0, none⟩).run P w = .ok u w) (a : Act) (r : Rd n [] l a) : (results fn a.tmps).run P w = .ok u w := by
  have h1 := r.gD hu
  simp at h1
  simp [results, h, h1, asAddr, hl]
theorem rsct {fn : Func} (j k : Nat) {T : TypeId} {g : Nat} {u v : Value} (h : fn.results = #[.cell j T, .tmp k]) (hu : lk l j = some (.pointer (some ⟨g, 0, none⟩))) (hv : lk l k = some v) (hl : (loadVar T ⟨g, 0, none⟩).run P w = .ok u w) (a : Act) (r : Rd n [] l a) : (results fn a.tmps).run P w = .ok (.tuple #[u, v]) w := by
  have h1 := r.gD hu
  have h2 := r.gD hv
  simp at h1 h2
  simp [results, h, h1, h2, asAddr, hl]
end
end Gl
end Go.Proofs.YtenlhceceplldaaGreat

namespace Go.Proofs.YtenlhceceplldaaGreat
namespace Gl
open Go.RowKit Go.Lib Pg
section
variable {P : Program} {ops : Array Oper} {Q : Exit → Act → World → Prop} {md : Region.Mode} {S : World → Prop} {Z : Nat → Bool}
/-- whatever order is picked, and S holds behind every step that is not late -/
def wpAnyZ (P : Program) (md : Region.Mode) (ops : Array Oper) (Q : Exit → Act → World → Prop) (S : World → Prop) (Z : Nat → Bool) : Nat → Array Bool → Act → World → Prop
  | 0, listed, a, w => Region.ready md ops listed = [] ∧ Q .normal a w
  | fuel + 1, listed, a, w =>
    (Region.ready md ops listed = [] → Q .normal a w) ∧
    ∀ i ∈ Region.ready md ops listed, wpOp P ops Q i (fun a' w' => (Z i = true ∨ S w') ∧ wpAnyZ P md ops Q S Z fuel (listed.setIfInBounds i true) a' w') a w
theorem wpAnyZ_held (fuel : Nat) : ∀ (listed : Array Bool) (a : Act) (w : World), wpAnyZ P md ops Q S Z fuel listed a w → wpAnyH P md ops Q (fun _ => True) fuel listed a w := by
  induction fuel with
  | zero => exact fun _ _ _ h => h
  | succ fuel ih => exact fun _ _ _ h => ⟨h.1, fun i hi => wpOp_mono (fun a' w' h' => ⟨trivial, ih _ a' w' h'.2⟩) (h.2 i hi)⟩
/-- every late operation waits for i -/
def lateWait (ops : Array Oper) (Z : Nat → Bool) (i : Nat) : Bool := (List.range ops.size).all fun z => !Z z || (decide (z ≠ i) && (ops.getD z default).after.any fun e => Region.binds .any e && decide (e.on = i))
theorem wpAnyZ_first {i : Nat} {oi : Oper} {v : Value} (hz : lateWait ops Z i = true) (hi : ops[i]? = some oi) (hsel : ∀ (j : Nat) (o : Oper) cs b, ops[j]? = some o → o.op ≠ .select cs b)
    (hQ : ∀ c a w, Q (.panic c) (a.put oi.dst v) w → Q (.panic c) a w) :
    ∀ (fuel : Nat) (listed : Array Bool) (a : Act) (w : World),
      (∀ j oj, ops[j]? = some oj → j ≠ i → listed.getD j true = false → (∀ e ∈ oj.after, Region.binds .any e = true → e.on ≠ i) → oi.apart ops oj = true) →
      i ∈ Region.ready .any ops listed → YieldsIf P ops S oi v a → S w →
      wpAnyZ P .any ops Q S Z fuel (listed.setIfInBounds i true) (a.put oi.dst v) w → wpAnyZ P .any ops Q S Z (fuel + 1) listed a w := by
  intro fuel
  induction fuel with
  | zero =>
    intro listed a w _ hr hy hS H
    refine ⟨fun h => (by rw [h] at hr; cases hr), fun j hj => ?_⟩
    by_cases hji : j = i
    · subst hji; exact hy.wpOp hi hS ⟨.inr hS, H⟩
    · have := ready_mono hj hji
      rw [H.1] at this
      cases this
  | succ fuel ih =>
    intro listed a w hfree hr hy hS H
    refine ⟨fun h => (by rw [h] at hr; cases hr), fun j hj => ?_⟩
    by_cases hji : j = i
    · subst hji; exact hy.wpOp hi hS ⟨.inr hS, H⟩
    · have h1 := H.2 j (ready_mono hj hji)
      obtain ⟨hjun, oj, hoj, hall⟩ := mem_ready.1 hj
      have hnot : ∀ e ∈ oj.after, Region.binds .any e = true → e.on ≠ i := fun e he hb heq => by
        have h1 := hall e he hb
        have h0 := (mem_ready.1 hr).1
        rw [heq] at h1
        rcases Nat.lt_or_ge i listed.size with h' | h'
        · simp [h'] at h0 h1; rw [h0] at h1; cases h1
        · simp [Array.getElem?_eq_none h'] at h1
      have hjZ : ¬ Z j = true := fun e => by
        have hlt : j < ops.size := (Array.getElem?_eq_some_iff.1 hoj).1
        have h2 := List.all_eq_true.1 hz j (List.mem_range.2 hlt)
        rw [e] at h2
        simp only [Bool.not_true, Bool.false_or, Bool.and_eq_true, decide_eq_true_eq] at h2
        have eo : ops.getD j default = oj := by
          rw [Array.getD_eq_getD_getElem?, hoj]; rfl
        have h3 := h2.2
        rw [eo, Array.any_eq_true] at h3
        obtain ⟨k, hk, h4⟩ := h3
        rw [Bool.and_eq_true, decide_eq_true_eq] at h4
        exact hnot _ (Array.getElem_mem hk) h4.1 h4.2
      have h2 := wpOp_putIf hoj (hfree j oj hoj hji hjun hnot) (fun cs b => hsel i oi cs b hi) (fun cs b => hsel j oj cs b hoj) hQ hy h1
      have hfree' : ∀ k ok, ops[k]? = some ok → k ≠ i → (listed.setIfInBounds j true).getD k true = false →
          (∀ e ∈ ok.after, Region.binds .any e = true → e.on ≠ i) → oi.apart ops ok = true := fun k ok hk hki hun hno => by
        refine hfree k ok hk hki ?_ hno
        by_cases hjk : j = k
        · subst hjk; exact hjun
        · rw [getD_set_ne true hjk] at hun; exact hun
      refine wpOp_mono (fun a' w' h3 => ?_) h2
      have hS' := h3.2.1.resolve_left hjZ
      refine ⟨.inr hS', ih (listed.setIfInBounds j true) a' w' hfree' (ready_mono hr (Ne.symm hji)) h3.1 hS' ?_⟩
      rw [Array.setIfInBounds_comm _ _ hji]
      exact h3.2.2
end
theorem at_getD {ops : Array Oper} {i : Nat} (h : i < ops.size) : ops[i]? = some (ops.getD i default) := by
  simp [Array.getD, h]
/-- the listed ones as a list -/
def hasL : List Nat → Nat → Bool
  | [], _ => false
  | p :: r, k => bif Nat.beq p k then true else hasL r k
def arr (n : Nat) (L : List Nat) : Array Bool := ((List.range n).map (hasL L)).toArray
theorem beq_ne {a b : Nat} (h : a ≠ b) : Nat.beq a b = false := by
  cases hb : Nat.beq a b with
  | false => rfl
  | true => exact absurd (Nat.eq_of_beq_eq_true hb) h
theorem arr_size (n : Nat) (L : List Nat) : (arr n L).size = n := by simp [arr]
theorem arr_get (n : Nat) (L : List Nat) (j : Nat) (d : Bool) : (arr n L).getD j d = if j < n then hasL L j else d := by
  by_cases h : j < n
  · simp [arr, h]
  · simp [arr, h]
theorem arr_nil (n : Nat) : arr n [] = Array.replicate n false := by
  apply Array.ext
  · simp [arr]
  · intro i h1 h2
    simp [arr, hasL]
theorem arr_cons {n i : Nat} (L : List Nat) (_h : i < n) : (arr n L).setIfInBounds i true = arr n (i :: L) := by
  apply Array.ext
  · simp [arr]
  · intro j h1 h2
    have h3 : j < (arr n L).size := by simpa using h1
    rw [Array.getElem_setIfInBounds h3]
    by_cases e : i = j
    · subst e
      simp [arr, hasL]
    · simp [arr, hasL, e, beq_ne e]
def rdyL (ops : Array Oper) (L : List Nat) (i : Nat) : Bool := match ops[i]? with
  | none => false
  | some o => !hasL L i && o.after.toList.all fun e => !Region.binds .any e || (Nat.blt e.on ops.size && hasL L e.on)
theorem rdyL_iff {ops : Array Oper} {L : List Nat} {i : Nat} : rdyL ops L i = true ↔ i ∈ Region.ready .any ops (arr ops.size L) := by
  rw [mem_ready]
  unfold rdyL
  cases ho : ops[i]? with
  | none => simp
  | some o =>
    have hlt : i < ops.size := (Array.getElem?_eq_some_iff.1 ho).1
    simp only [Bool.and_eq_true, Bool.not_eq_true', List.all_eq_true, Bool.or_eq_true, Option.some.injEq, exists_eq_left', arr_get, if_pos hlt]
    constructor
    · rintro ⟨h1, h2⟩
      refine ⟨h1, fun e he hb => ?_⟩
      rcases h2 e (by simpa using he) with h | h
      · rw [hb] at h; cases h
      · have := Nat.le_of_ble_eq_true h.1
        rw [if_pos (by omega)]
        exact h.2
    · rintro ⟨h1, h2⟩
      refine ⟨h1, fun e he => ?_⟩
      cases hb : Region.binds .any e with
      | false => exact .inl rfl
      | true =>
        right
        have h3 := h2 e (by simpa using he) hb
        by_cases h4 : e.on < ops.size
        · rw [if_pos h4] at h3
          exact ⟨by simp only [Nat.blt]; exact Nat.ble_eq_true_of_le h4, h3⟩
        · rw [if_neg h4] at h3; cases h3
def readyL (ops : Array Oper) (L : List Nat) : List Nat := (List.range ops.size).filter (rdyL ops L)
theorem readyL_eq (ops : Array Oper) (L : List Nat) : Region.ready .any ops (arr ops.size L) = readyL ops L := by
  have hm : ∀ j, j ∈ Region.ready .any ops (arr ops.size L) ↔ rdyL ops L j = true := fun j => rdyL_iff.symm
  unfold Region.ready at hm ⊢
  unfold readyL
  refine List.filter_congr fun j hj => ?_
  have := hm j
  rw [List.mem_filter] at this
  simp only [hj, true_and] at this
  exact Bool.eq_iff_iff.2 this
def edge (o : Oper) (i : Nat) : Bool := o.after.toList.any fun e => Region.binds .any e && Nat.beq e.on i
def freeS (ops : Array Oper) (i : Nat) : Bool := match ops[i]? with
  | none => false
  | some oi => (List.range ops.size).all fun j => Nat.beq j i || match ops[j]? with
      | some oj => edge oj i || edge oi j || oi.apart ops oj
      | none => true
def okR (ops : Array Oper) (Z : Nat → Bool) : Bool := Region.noSelect ops && (List.range ops.size).all (freeS ops) && (List.range ops.size).all fun i => Z i || lateWait ops Z i
theorem okR_free {ops : Array Oper} {Z : Nat → Bool} (h : okR ops Z = true) {i : Nat} {L : List Nat} {oi : Oper} (hi : ops[i]? = some oi) (hr : rdyL ops L i = true) (j : Nat) (oj : Oper) (hj : ops[j]? = some oj) (hne : j ≠ i) (hun : (arr ops.size L).getD j true = false) (hno : ∀ e ∈ oj.after, Region.binds .any e = true → e.on ≠ i) : oi.apart ops oj = true := by
  simp only [okR, Bool.and_eq_true, List.all_eq_true, List.mem_range] at h
  have hlt : i < ops.size := (Array.getElem?_eq_some_iff.1 hi).1
  have hjl : j < ops.size := (Array.getElem?_eq_some_iff.1 hj).1
  have h1 := h.1.2 i hlt
  simp only [freeS, hi, List.all_eq_true, List.mem_range] at h1
  have h2 := h1 j hjl
  rw [beq_ne hne, hj] at h2
  simp only [Bool.false_or, Bool.or_eq_true] at h2
  rcases h2 with (h2 | h2) | h2
  · simp only [edge, List.any_eq_true, Bool.and_eq_true] at h2
    obtain ⟨e, he, hb, ho⟩ := h2
    exact absurd (Nat.eq_of_beq_eq_true ho) (hno e (by simpa using he) hb)
  · simp only [edge, List.any_eq_true, Bool.and_eq_true] at h2
    obtain ⟨e, he, hb, ho⟩ := h2
    have e1 := Nat.eq_of_beq_eq_true ho
    obtain ⟨-, o', ho', hall⟩ := mem_ready.1 (rdyL_iff.1 hr)
    rw [hi] at ho'
    cases ho'
    have h3 := hall e (by simpa using he) hb
    rw [e1, arr_get, if_pos hjl] at h3
    rw [arr_get, if_pos hjl] at hun
    rw [h3] at hun
    cases hun
  · exact h2
theorem okR_late {ops : Array Oper} {Z : Nat → Bool} (h : okR ops Z = true) {i : Nat} (hi : i < ops.size) (hz : Z i = false) : lateWait ops Z i = true := by
  simp only [okR, Bool.and_eq_true, List.all_eq_true, List.mem_range] at h
  have := h.2 i hi
  rw [hz] at this
  simpa using this
theorem okR_sel {ops : Array Oper} {Z : Nat → Bool} (h : okR ops Z = true) : Region.noSelect ops = true := by
  simp only [okR, Bool.and_eq_true] at h
  exact h.1.1
def zchk (n : Nat) (l : Fr) (ops : Array Oper) (L : List Nat) (i : Nat) (d : Option Nat) : Bool := rdyL ops L i && Nat.blt i ops.size && chk n l (ops.getD i default) d
def znot (n : Nat) (ops : Array Oper) (L : List Nat) (i : Nat) (d : Option Nat) : Bool := rdyL ops L i && Nat.blt i ops.size && decide ((ops.getD i default).dst = d) && inB n d
theorem blt_lt {a b : Nat} (h : Nat.blt a b = true) : a < b := Nat.le_of_ble_eq_true h
section
variable {P : Program} {n : Nat} {ds : List Deferred} {ops : Array Oper} {Q : Exit → Act → World → Prop} {S : World → Prop} {Z : Nat → Bool} {fuel : Nat} {L : List Nat} {l : Fr} {w : World}
/-- the region goes on, with S -/
structure GZ (P : Program) (n : Nat) (ds : List Deferred) (ops : Array Oper) (Q : Exit → Act → World → Prop) (S : World → Prop) (Z : Nat → Bool) (fuel : Nat) (L : List Nat) (l : Fr) (w : World) : Prop where
  out : okR ops Z = true → S w → ∀ a, Rd n ds l a → wpAnyZ P .any ops Q S Z fuel (arr ops.size L) a w
/-- the region goes on, late -/
structure GY (P : Program) (n : Nat) (ds : List Deferred) (ops : Array Oper) (Q : Exit → Act → World → Prop) (S : World → Prop) (Z : Nat → Bool) (fuel : Nat) (L : List Nat) (l : Fr) (w : World) : Prop where
  out : okR ops Z = true → ∀ a, Rd n ds l a → wpAnyZ P .any ops Q S Z fuel (arr ops.size L) a w
theorem gz_late (h : GY P n ds ops Q S Z fuel L l w) : GZ P n ds ops Q S Z fuel L l w := ⟨fun ok _ => h.out ok⟩
theorem gz_fr (l' : Fr) (h : l'.map (fun p => lk l p.1) = l'.map (fun p => some p.2)) (k : GZ P n ds ops Q S Z fuel L l' w) : GZ P n ds ops Q S Z fuel L l w := ⟨fun ok hS a r => k.out ok hS a (r.sub (sub_of h))⟩
theorem gc_draw {id : Nat} (S : World → Prop) (Z : Nat → Bool) (hS : S w.drew) (h : GZ P n ds ops Q S Z ops.size [] l w.drew) (hm : P.follows .mixedOrders = true := by kernel_rfl) (ok : okR ops Z = true := by kernel_rfl) : GC P n ds (Code.region id ops true) Q l w := ⟨fun a r =>
  wp_region_held_drew (S := fun _ => True) hm trivial fun _ => wpAnyZ_held _ _ _ _ (by have := h.out ok hS a r; rw [arr_nil] at this; exact this)⟩
theorem gz_take (i : Nat) (d : Option Nat) (v : Value) (hy : ∀ w', S w' → (execOp (evL l) (ops.getD i default)).run P w' = .ok (.value v) w') (hz : Z i = false) (hc : zchk n l ops L i d = true) (hg : gd ops l (ops.getD i default) = some true) (hQ : ∀ c a w, Q (.panic c) (a.put d v) w → Q (.panic c) a w)
    (h : GZ P n ds ops Q S Z fuel (i :: L) (pt l d v) w) : GZ P n ds ops Q S Z (fuel + 1) L l w := ⟨fun ok hS a r => by
  simp only [zchk, Bool.and_eq_true] at hc
  obtain ⟨⟨h3, h4⟩, h5⟩ := hc
  have h4 := blt_lt h4
  obtain ⟨h6, h7⟩ := chk_d h5
  refine wpAnyZ_first (v := v) (okR_late ok h4 hz) (at_getD h4) (Region.noSelect_spec (okR_sel ok)) (by rw [h6]; exact hQ) fuel _ a w (okR_free ok (at_getD h4) h3) (rdyL_iff.1 h3) (.inl ⟨gd_want r hg, fun w' hS' => by rw [chk_ex h5 r]; exact hy w' hS'⟩) hS ?_
  rw [h6, arr_cons L h4]
  exact h.out ok hS _ (r.put d v h7)⟩
theorem gz_skip (i : Nat) (d : Option Nat) (hz : Z i = false) (hc : znot n ops L i d = true) (hg : gd ops l (ops.getD i default) = some false) (hQ : ∀ c a w, Q (.panic c) (a.put d undef) w → Q (.panic c) a w)
    (h : GZ P n ds ops Q S Z fuel (i :: L) (pt l d undef) w) : GZ P n ds ops Q S Z (fuel + 1) L l w := ⟨fun ok hS a r => by
  simp only [znot, Bool.and_eq_true, decide_eq_true_eq] at hc
  obtain ⟨⟨⟨h3, h4⟩, h6⟩, h7⟩ := hc
  have h4 := blt_lt h4
  refine wpAnyZ_first (v := undef) (okR_late ok h4 hz) (at_getD h4) (Region.noSelect_spec (okR_sel ok)) (by rw [h6]; exact hQ) fuel _ a w (okR_free ok (at_getD h4) h3) (rdyL_iff.1 h3) (.inr ⟨gd_want r hg, rfl⟩) hS ?_
  rw [h6, arr_cons L h4]
  refine h.out ok hS _ (r.put d undef fun k e => ?_)
  subst e
  simp only [inB, Nat.blt] at h7
  exact Nat.le_of_ble_eq_true h7⟩
theorem gz_done (h : GE n ds Q .normal l w) (hr : readyL ops L = [] := by kernel_rfl) : GZ P n ds ops Q S Z fuel L l w := ⟨fun _ _ a r => by
  have hr := (readyL_eq ops L).trans hr
  cases fuel with
  | zero => exact ⟨hr, h.out a r⟩
  | succ _ => exact ⟨fun _ => h.out a r, by rw [hr]; simp⟩⟩
theorem gy_done (h : GE n ds Q .normal l w) (hr : readyL ops L = [] := by kernel_rfl) : GY P n ds ops Q S Z fuel L l w := ⟨fun _ a r => by
  have hr := (readyL_eq ops L).trans hr
  cases fuel with
  | zero => exact ⟨hr, h.out a r⟩
  | succ _ => exact ⟨fun _ => h.out a r, by rw [hr]; simp⟩⟩
/-- those that may come next -/
structure GA (P : Program) (n : Nat) (ds : List Deferred) (ops : Array Oper) (Q : Exit → Act → World → Prop) (S : World → Prop) (Z : Nat → Bool) (fuel : Nat) (L : List Nat) (l : Fr) (w : World) (rs : List Nat) : Prop where
  out : okR ops Z = true → S w → ∀ a, Rd n ds l a → ∀ i ∈ rs, wpOp P ops Q i (fun a' w' => (Z i = true ∨ S w') ∧ wpAnyZ P .any ops Q S Z fuel ((arr ops.size L).setIfInBounds i true) a' w') a w
theorem gz_ready (rs : List Nat) (h : GA P n ds ops Q S Z fuel L l w rs) (hr : readyL ops L = rs := by kernel_rfl) (hne : rs ≠ [] := by decide) : GZ P n ds ops Q S Z (fuel + 1) L l w := ⟨fun ok hS a r =>
  ⟨fun h0 => absurd (((readyL_eq ops L).trans hr).symm.trans h0) hne, fun i hi => h.out ok hS a r i (by rw [← hr, ← readyL_eq]; exact hi)⟩⟩
theorem ga_nil : GA P n ds ops Q S Z fuel L l w [] := ⟨fun _ _ _ _ _ h => by cases h⟩
def achk (n : Nat) (l : Fr) (ops : Array Oper) (i : Nat) (d : Option Nat) : Bool := Nat.blt i ops.size && chk n l (ops.getD i default) d
theorem ga_cons {rs : List Nat} (i : Nat) (h : okR ops Z = true → S w → ∀ a, Rd n ds l a → wpOp P ops Q i (fun a' w' => (Z i = true ∨ S w') ∧ wpAnyZ P .any ops Q S Z fuel ((arr ops.size L).setIfInBounds i true) a' w') a w) (hs : GA P n ds ops Q S Z fuel L l w rs) : GA P n ds ops Q S Z fuel L l w (i :: rs) := ⟨fun ok hS a r j hj => by
  rcases List.mem_cons.1 hj with rfl | hj
  · exact h ok hS a r
  · exact hs.out ok hS a r j hj⟩
theorem ga_call {rs : List Nat} (i : Nat) (d : Option Nat) (f : FuncId) (args : Array Value) {Qc : Ending → World → Prop} (hcall : Calls P f args w Qc) (hk : ∀ e w', Qc e w' → ∃ v, e = .returned v ∧ S w' ∧ GZ P n ds ops Q S Z fuel (i :: L) (pt l d v) w')
    (hs : GA P n ds ops Q S Z fuel L l w rs) (hc : achk n l ops i d = true := by kernel_rfl) (hg : gd ops l (ops.getD i default) = some true := by kernel_rfl) (hrun : (execOp (evL l) (ops.getD i default)).run P w = .ok (.enter f args) w := by kernel_rfl) : GA P n ds ops Q S Z fuel L l w (i :: rs) := by
  simp only [achk, Bool.and_eq_true] at hc
  obtain ⟨h4, h5⟩ := hc
  have h4 := blt_lt h4
  obtain ⟨h6, h7⟩ := chk_d h5
  refine ga_cons i (fun ok _ a r => wpOp_step (at_getD h4) fun K hK => ?_) hs
  rw [if_pos (gd_want r hg)]
  unfold Oper.wp
  rw [chk_ex h5 r, hrun]
  refine hcall.mono fun e w' he => ?_
  obtain ⟨v, rfl, hS', hw⟩ := hk e w' he
  show K (a.put (ops.getD i default).dst v) w'
  rw [h6]
  refine hK _ _ ⟨.inr hS', ?_⟩
  rw [arr_cons L h4]
  exact hw.out ok hS' _ (r.put d v h7)
theorem ga_val {rs : List Nat} (i : Nat) (d : Option Nat) (v : Value) (w1 : World) (hrun : (execOp (evL l) (ops.getD i default)).run P w = .ok (.value v) w1) (hS1 : S w1) (h : GZ P n ds ops Q S Z fuel (i :: L) (pt l d v) w1)
    (hs : GA P n ds ops Q S Z fuel L l w rs) (hc : achk n l ops i d = true := by kernel_rfl) (hg : gd ops l (ops.getD i default) = some true := by kernel_rfl) : GA P n ds ops Q S Z fuel L l w (i :: rs) := by
  simp only [achk, Bool.and_eq_true] at hc
  obtain ⟨h4, h5⟩ := hc
  have h4 := blt_lt h4
  obtain ⟨h6, h7⟩ := chk_d h5
  refine ga_cons i (fun ok _ a r => wpOp_step (at_getD h4) fun K hK => ?_) hs
  rw [if_pos (gd_want r hg)]
  unfold Oper.wp
  rw [chk_ex h5 r, hrun]
  show K (a.put (ops.getD i default).dst v) w1
  rw [h6]
  refine hK _ _ ⟨.inr hS1, ?_⟩
  rw [arr_cons L h4]
  exact h.out ok hS1 _ (r.put d v h7)
theorem ga_void {rs : List Nat} (i : Nat) (w1 : World) (hrun : (execOp (evL l) (ops.getD i default)).run P w = .ok .skip w1) (hS1 : S w1) (h : GZ P n ds ops Q S Z fuel (i :: L) l w1)
    (hs : GA P n ds ops Q S Z fuel L l w rs) (hc : achk n l ops i none = true := by kernel_rfl) (hg : gd ops l (ops.getD i default) = some true := by kernel_rfl) : GA P n ds ops Q S Z fuel L l w (i :: rs) := by
  simp only [achk, Bool.and_eq_true] at hc
  obtain ⟨h4, h5⟩ := hc
  have h4 := blt_lt h4
  obtain ⟨h6, h7⟩ := chk_d h5
  refine ga_cons i (fun ok _ a r => wpOp_step (at_getD h4) fun K hK => ?_) hs
  rw [if_pos (gd_want r hg)]
  unfold Oper.wp
  rw [chk_ex h5 r, hrun]
  show K (a.put (ops.getD i default).dst undef) w1
  rw [h6]
  refine hK _ _ ⟨.inr hS1, ?_⟩
  rw [arr_cons L h4]
  exact h.out ok hS1 _ r
-- late ones, each alone
theorem yv (i : Nat) (w1 : World) (hrun : (execOp (evL l) (ops.getD i default)).run P w = .ok .skip w1) (h : GY P n ds ops Q S Z fuel (i :: L) l w1) (hr : readyL ops L = [i] := by kernel_rfl) (hc : achk n l ops i none = true := by kernel_rfl) (hg : gd ops l (ops.getD i default) = some true := by kernel_rfl) (hZ : Z i = true := by rfl) : GY P n ds ops Q S Z (fuel + 1) L l w := ⟨fun ok a r => by
  simp only [achk, Bool.and_eq_true] at hc
  obtain ⟨h4, h5⟩ := hc
  have h4 := blt_lt h4
  obtain ⟨h6, h7⟩ := chk_d h5
  have hr := (readyL_eq ops L).trans hr
  refine ⟨fun h0 => (by rw [hr] at h0; cases h0), fun j hj => ?_⟩
  obtain rfl : j = i := by rw [hr] at hj; simpa using hj
  refine wpOp_step (at_getD h4) fun K hK => ?_
  rw [if_pos (gd_want r hg)]
  unfold Oper.wp
  rw [chk_ex h5 r, hrun]
  show K (a.put (ops.getD j default).dst undef) w1
  rw [h6]
  refine hK _ _ ⟨.inl hZ, ?_⟩
  rw [arr_cons L h4]
  exact h.out ok _ r⟩
theorem yt (i d : Nat) (v : Value) (h : GY P n ds ops Q S Z fuel (i :: L) ((d, v) :: l) w) (hr : readyL ops L = [i] := by kernel_rfl) (hc : achk n l ops i (some d) = true := by kernel_rfl) (hg : gd ops l (ops.getD i default) = some true := by kernel_rfl) (hZ : Z i = true := by rfl) (hrun : (execOp (evL l) (ops.getD i default)).run P w = .ok (.value v) w := by kernel_rfl) : GY P n ds ops Q S Z (fuel + 1) L l w := ⟨fun ok a r => by
  simp only [achk, Bool.and_eq_true] at hc
  obtain ⟨h4, h5⟩ := hc
  have h4 := blt_lt h4
  obtain ⟨h6, h7⟩ := chk_d h5
  have hr := (readyL_eq ops L).trans hr
  refine ⟨fun h0 => (by rw [hr] at h0; cases h0), fun j hj => ?_⟩
  obtain rfl : j = i := by rw [hr] at hj; simpa using hj
  refine wpOp_step (at_getD h4) fun K hK => ?_
  rw [if_pos (gd_want r hg)]
  unfold Oper.wp
  rw [chk_ex h5 r, hrun]
  show K (a.put (ops.getD j default).dst v) w
  rw [h6]
  refine hK _ _ ⟨.inl hZ, ?_⟩
  rw [arr_cons L h4]
  exact h.out ok _ (r.put (some d) v h7)⟩
-- the same, short
theorem z (i d : Nat) (v : Value) (h : GZ P n ds ops Q S Z fuel (i :: L) ((d, v) :: l) w) (hz : Z i = false := by rfl) (hc : zchk n l ops L i (some d) = true := by kernel_rfl) (hg : gd ops l (ops.getD i default) = some true := by kernel_rfl) (hQ : ∀ c a w, Q (.panic c) (a.put (some d) v) w → Q (.panic c) a w := by exact fun _ _ _ h => h) (hrun : ∀ w', S w' → (execOp (evL l) (ops.getD i default)).run P w' = .ok (.value v) w' := by exact fun _ _ => by kernel_rfl) : GZ P n ds ops Q S Z (fuel + 1) L l w := gz_take i (some d) v hrun hz hc hg hQ h
theorem zr (i d : Nat) (v : Value) (hrun : ∀ w', S w' → (execOp (evL l) (ops.getD i default)).run P w' = .ok (.value v) w') (h : GZ P n ds ops Q S Z fuel (i :: L) ((d, v) :: l) w) (hz : Z i = false := by rfl) (hc : zchk n l ops L i (some d) = true := by kernel_rfl) (hg : gd ops l (ops.getD i default) = some true := by kernel_rfl) (hQ : ∀ c a w, Q (.panic c) (a.put (some d) v) w → Q (.panic c) a w := by exact fun _ _ _ h => h) : GZ P n ds ops Q S Z (fuel + 1) L l w := gz_take i (some d) v hrun hz hc hg hQ h
theorem zq (i d : Nat) (v v' : Value) (hv : v = v') (h : GZ P n ds ops Q S Z fuel (i :: L) ((d, v') :: l) w) (hz : Z i = false := by rfl) (hc : zchk n l ops L i (some d) = true := by kernel_rfl) (hg : gd ops l (ops.getD i default) = some true := by kernel_rfl) (hQ : ∀ c a w, Q (.panic c) (a.put (some d) v') w → Q (.panic c) a w := by exact fun _ _ _ h => h) (hrun : ∀ w', S w' → (execOp (evL l) (ops.getD i default)).run P w' = .ok (.value v) w' := by exact fun _ _ => by kernel_rfl) : GZ P n ds ops Q S Z (fuel + 1) L l w := by
  subst hv; exact gz_take i (some d) v hrun hz hc hg hQ h
theorem zn (i d : Nat) (h : GZ P n ds ops Q S Z fuel (i :: L) ((d, undef) :: l) w) (hz : Z i = false := by rfl) (hc : znot n ops L i (some d) = true := by kernel_rfl) (hg : gd ops l (ops.getD i default) = some false := by kernel_rfl) (hQ : ∀ c a w, Q (.panic c) (a.put (some d) undef) w → Q (.panic c) a w := by exact fun _ _ _ h => h) : GZ P n ds ops Q S Z (fuel + 1) L l w := gz_skip i (some d) hz hc hg hQ h
theorem zn0 (i : Nat) (h : GZ P n ds ops Q S Z fuel (i :: L) l w) (hz : Z i = false := by rfl) (hc : znot n ops L i none = true := by kernel_rfl) (hg : gd ops l (ops.getD i default) = some false := by kernel_rfl) (hQ : ∀ c a w, Q (.panic c) (a.put none undef) w → Q (.panic c) a w := by exact fun _ _ _ h => h) : GZ P n ds ops Q S Z (fuel + 1) L l w := gz_skip i none hz hc hg hQ h
theorem zc (i d : Nat) (f : FuncId) (args : Array Value) {Qc : Ending → World → Prop} (hcall : Calls P f args w Qc) (hk : ∀ e w', Qc e w' → ∃ v, e = .returned v ∧ S w' ∧ GZ P n ds ops Q S Z fuel (i :: L) ((d, v) :: l) w') (hr : readyL ops L = [i] := by kernel_rfl) (hc : achk n l ops i (some d) = true := by kernel_rfl) (hg : gd ops l (ops.getD i default) = some true := by kernel_rfl) (hrun : (execOp (evL l) (ops.getD i default)).run P w = .ok (.enter f args) w := by kernel_rfl) : GZ P n ds ops Q S Z (fuel + 1) L l w := gz_ready [i] (ga_call i (some d) f args hcall hk ga_nil hc hg hrun) hr (by simp)
theorem zw (i d : Nat) (v : Value) (w1 : World) (hrun : (execOp (evL l) (ops.getD i default)).run P w = .ok (.value v) w1) (hS1 : S w1) (h : GZ P n ds ops Q S Z fuel (i :: L) ((d, v) :: l) w1) (hr : readyL ops L = [i] := by kernel_rfl) (hc : achk n l ops i (some d) = true := by kernel_rfl) (hg : gd ops l (ops.getD i default) = some true := by kernel_rfl) : GZ P n ds ops Q S Z (fuel + 1) L l w := gz_ready [i] (ga_val i (some d) v w1 hrun hS1 h ga_nil hc hg) hr (by simp)
theorem zv (i : Nat) (w1 : World) (hrun : (execOp (evL l) (ops.getD i default)).run P w = .ok .skip w1) (hS1 : S w1) (h : GZ P n ds ops Q S Z fuel (i :: L) l w1) (hr : readyL ops L = [i] := by kernel_rfl) (hc : achk n l ops i none = true := by kernel_rfl) (hg : gd ops l (ops.getD i default) = some true := by kernel_rfl) : GZ P n ds ops Q S Z (fuel + 1) L l w := gz_ready [i] (ga_void i w1 hrun hS1 h ga_nil hc hg) hr (by simp)
end
end Gl
end Go.Proofs.YtenlhceceplldaaGreat

namespace Go.Proofs.YtenlhceceplldaaGreat
namespace Gl
open Go.RowKit Go.Lib Pg
abbrev pg (g : Nat) : Value := .pointer (some ⟨g, 0, none⟩)
abbrev pq (g o : Nat) : Value := .pointer (some ⟨g, o, none⟩)
abbrev sg (n g : Nat) : Value := .slice (some ⟨g, 0, none⟩) n n
def rowT (P : Program) (T : TypeId) (n : Nat) : Bool := (match P.underlying T with | some d => d.isRow | none => false) && ((P.info? T).map (·.size) == some n)
theorem l1 {P : Program} {w : World} {g : Nat} {cs : List Value} {t T : TypeId} {v : Value} (X : Blk w g cs t) (o : Nat) (hv : cs[o]? = some v := by rfl) (ha : ∀ w, (isAgg T).run P w = .ok false w := by exact fun _ => by kernel_rfl) : (loadVar T ⟨g, o, none⟩).run P w = .ok v w := by
  have h := X.cell hv
  simp [loadVar, ha, h]
theorem lr {P : Program} {w : World} {g : Nat} {cs vs : List Value} {t T : TypeId} (X : Blk w g cs t) (o : Nat) (hr : (cs.drop o).take vs.length = vs := by rfl) (hc : rowT P T vs.length = true := by kernel_rfl) : (loadVar T ⟨g, o, none⟩).run P w = .ok (.agg vs.toArray) w := by
  simp only [rowT, Bool.and_eq_true, beq_iff_eq] at hc
  obtain ⟨h1, h2⟩ := hc
  cases hu : P.underlying T with
  | none => rw [hu] at h1; cases h1
  | some d =>
    rw [hu] at h1
    refine run_loadVar_mid w g o T vs d (fun j v hv => ?_) hu h1 h2
    refine X.cell ?_
    rw [← hr] at hv
    rw [List.getElem?_take] at hv
    split at hv
    · rw [List.getElem?_drop] at hv; exact hv
    · cases hv
/-- cells set within a list -/
def spl (cs : List Value) (o : Nat) (vs : List Value) : List Value := cs.take o ++ vs ++ cs.drop (o + vs.length)
theorem setCells_heap (b : Nat) : ∀ (vs : List Value) (o : Nat) (w : World) (k : Nat), k ≠ b → (w.setCells b o vs).heap[k]? = w.heap[k]?
  | [], _, _, _, _ => rfl
  | v :: r, o, w, k, h => by
    rw [World.setCells, setCells_heap b r (o + 1) _ k h, Below.heap_setCell w ⟨b, o, none⟩ v k h]
theorem setCells_size (b : Nat) : ∀ (vs : List Value) (o : Nat) (w : World), (w.setCells b o vs).heap.size = w.heap.size
  | [], _, _ => rfl
  | v :: r, o, w => by rw [World.setCells, setCells_size b r (o + 1)]; simp [World.setCell]
theorem setCells_rest (b : Nat) : ∀ (vs : List Value) (o : Nat) (w : World), (w.setCells b o vs).os = w.os ∧ (w.setCells b o vs).tape = w.tape ∧ (w.setCells b o vs).output = w.output
  | [], _, _ => ⟨rfl, rfl, rfl⟩
  | v :: r, o, w => by rw [World.setCells]; exact setCells_rest b r (o + 1) _
theorem blk_setCells {t : TypeId} {g : Nat} : ∀ (vs : List Value) (o : Nat) (cs : List Value) (w : World), Blk w g cs t → o + vs.length ≤ cs.length → Blk (w.setCells g o vs) g (spl cs o vs) t
  | [], o, cs, w, X, _ => by simpa [World.setCells, spl] using X
  | v :: r, o, cs, w, X, h => by
    rw [World.setCells]
    have h' : o + 1 + r.length ≤ (cs.set o v).length := by simp at h ⊢; omega
    have := blk_setCells r (o + 1) (cs.set o v) _ (X.setCell (i := o) v) h'
    have e : spl (cs.set o v) (o + 1) r = spl cs o (v :: r) := by
      simp only [List.length_cons] at h
      unfold spl
      rw [List.drop_set_of_lt (by omega), List.take_set, List.take_add_one, List.set_append]
      have hl : (cs.take o).length = o := by rw [List.length_take]; omega
      rw [hl, if_neg (by omega), Nat.sub_self]
      obtain ⟨y, hy⟩ : ∃ y, cs[o]? = some y := ⟨_, List.getElem?_eq_getElem (by omega)⟩
      rw [hy]
      simp
      omega
    rw [e] at this
    exact this
theorem run_st {P : Program} {w : World} {g o : Nat} {cs : List Value} {t T : TypeId} {x : Value} {vs : List Value} (X : Blk w g cs t) (hx : x.cells.toList = vs) (hi : ((P.info? T).map (·.size) == some vs.length) = true) (h1 : vs.all (·.oneCell') = true) (hb : o + vs.length ≤ cs.length) : (storeVar T ⟨g, o, none⟩ x).run P w = .ok () (w.setCells g o vs) := by
  have := run_storeCells_cells (P := P) g o vs 0 w (fun j hj => by
      have := X.cell (i := o + j) (List.getElem?_eq_getElem (by omega))
      simpa using (by rw [this]; rfl : (w.cell? ⟨g, o + j, none⟩).isSome = true)) (fun j _ => by simpa using X.free (o + j))
    (fun v hv => List.all_eq_true.1 h1 v hv)
  cases hq : P.info? T with
  | none => rw [hq] at hi; cases hi
  | some i =>
    rw [hq] at hi
    have hs : i.size = vs.length := by simpa using hi
    have hz : x.cells.size = i.size := by rw [hs, ← hx]; simp
    simp only [Nat.add_zero] at this
    simp [storeVar, sizeOf, typeInfo, hq, hz, hx, this]
section
variable {P : Program} {n : Nat} {ds : List Deferred} {ops : Array Oper} {rest : List Oper} {o o1 o2 : Oper} {l : Fr} {w w1 : World} {Q Q' : Exit → Act → World → Prop} {K : Act → World → Prop} {S : World → Prop} {Z : Nat → Bool} {fuel : Nat} {L : List Nat}
theorem run_sto {ρ : Operand → Value} {g off : Nat} {cs vs : List Value} {t : TypeId} {x : Value} (X : Blk w g cs t) (hst : ∃ T p q, o.op = .store T p q ∧ ρ p = .pointer (some ⟨g, off, none⟩) ∧ ρ q = x ∧ ((P.info? T).map (·.size) == some vs.length) = true) (hx : x.cells.toList = vs) (h1 : vs.all (·.oneCell') = true) (hb : Nat.ble (off + vs.length) cs.length = true) : (execOp ρ o).run P w = .ok .skip (w.setCells g off vs) := by
  obtain ⟨T, p, q, h, hp, hq, hi⟩ := hst
  simp only [execOp, h, hp, hq, Instr.storeAt, Instr.sureAddr, Sem.run_bind, Sem.run_pure, Result.andThen_ok, run_st X hx hi h1 (Nat.le_of_ble_eq_true hb)]
theorem chg_setCells (g off : Nat) (vs : List Value) : Chg (· = g) w (w.setCells g off vs) := ⟨(setCells_rest g vs off w).1, (setCells_rest g vs off w).2.1, (setCells_rest g vs off w).2.2, by rw [setCells_size]; exact Nat.le_refl _, fun b _ hb => setCells_heap g vs off w b hb⟩
theorem run_ld1 {ρ : Operand → Value} {g off : Nat} {v : Value} {cs : List Value} {t : TypeId} (X : Blk w g cs t) (hv : cs[off]? = some v) (ho : ∃ T p, o.op = .load T p ∧ ρ p = .pointer (some ⟨g, off, none⟩) ∧ ∀ w, (isAgg T).run P w = .ok false w) : (execOp ρ o).run P w = .ok (.value v) w := by
  obtain ⟨T, p, h, hp, ha⟩ := ho
  have := l1 (P := P) (T := T) X off hv ha
  simp only [execOp, h, hp]
  simp [Instr.loadAt, Instr.sureAddr, Result.andThen, this]
theorem run_ldr {ρ : Operand → Value} {g off : Nat} {cs vs : List Value} {t : TypeId} (X : Blk w g cs t) (hr : (cs.drop off).take vs.length = vs) (ho : ∃ T p, o.op = .load T p ∧ ρ p = .pointer (some ⟨g, off, none⟩) ∧ rowT P T vs.length = true) : (execOp ρ o).run P w = .ok (.value (.agg vs.toArray)) w := by
  obtain ⟨T, p, h, hp, ha⟩ := ho
  have := lr (P := P) (T := T) X off hr ha
  simp only [execOp, h, hp]
  simp [Instr.loadAt, Instr.sureAddr, Result.andThen, this]
theorem tl (d : Nat) (v : Value) {g : Nat} {cs : List Value} {t : TypeId} (X : Blk w g cs t) (off : Nat) (h : GL P n ds ops Q rest ((d, v) :: l) w) (hv : cs[off]? = some v := by rfl) (ho : ∃ T p, o.op = .load T p ∧ evL l p = .pointer (some ⟨g, off, none⟩) ∧ ∀ w, (isAgg T).run P w = .ok false w := by exact ⟨_, _, rfl, by kernel_rfl, fun _ => by kernel_rfl⟩) (hg : gd ops l o = some true := by kernel_rfl) (hc : chk n l o (some d) = true := by kernel_rfl) : GL P n ds ops Q (o :: rest) l w := gl_val (some d) v hg hc (run_ld1 X hv ho) h
theorem tlr (d : Nat) (vs : List Value) {g : Nat} {cs : List Value} {t : TypeId} (X : Blk w g cs t) (off : Nat) (h : GL P n ds ops Q rest ((d, .agg vs.toArray) :: l) w) (hr : (cs.drop off).take vs.length = vs := by rfl) (ho : ∃ T p, o.op = .load T p ∧ evL l p = .pointer (some ⟨g, off, none⟩) ∧ rowT P T vs.length = true := by exact ⟨_, _, rfl, by kernel_rfl, by kernel_rfl⟩) (hg : gd ops l o = some true := by kernel_rfl) (hc : chk n l o (some d) = true := by kernel_rfl) : GL P n ds ops Q (o :: rest) l w := gl_val (some d) _ hg hc (run_ldr X hr ho) h
theorem zl (i d : Nat) (v : Value) {g : Nat} {cs : List Value} {t : TypeId} (X : ∀ w', S w' → Blk w' g cs t) (off : Nat) (h : GZ P n ds ops Q S Z fuel (i :: L) ((d, v) :: l) w) (hv : cs[off]? = some v := by rfl) (ho : ∃ T p, (ops.getD i default).op = .load T p ∧ evL l p = .pointer (some ⟨g, off, none⟩) ∧ ∀ w, (isAgg T).run P w = .ok false w := by exact ⟨_, _, rfl, by kernel_rfl, fun _ => by kernel_rfl⟩) (hz : Z i = false := by rfl) (hc : zchk n l ops L i (some d) = true := by kernel_rfl) (hg : gd ops l (ops.getD i default) = some true := by kernel_rfl) (hQ : ∀ c a w, Q (.panic c) (a.put (some d) v) w → Q (.panic c) a w := by exact fun _ _ _ h => h) : GZ P n ds ops Q S Z (fuel + 1) L l w := gz_take i (some d) v (fun w' hS' => run_ld1 (X w' hS') hv ho) hz hc hg hQ h
theorem zlr (i d : Nat) (vs : List Value) {g : Nat} {cs : List Value} {t : TypeId} (X : ∀ w', S w' → Blk w' g cs t) (off : Nat) (h : GZ P n ds ops Q S Z fuel (i :: L) ((d, .agg vs.toArray) :: l) w) (hr : (cs.drop off).take vs.length = vs := by rfl) (ho : ∃ T p, (ops.getD i default).op = .load T p ∧ evL l p = .pointer (some ⟨g, off, none⟩) ∧ rowT P T vs.length = true := by exact ⟨_, _, rfl, by kernel_rfl, by kernel_rfl⟩) (hz : Z i = false := by rfl) (hc : zchk n l ops L i (some d) = true := by kernel_rfl) (hg : gd ops l (ops.getD i default) = some true := by kernel_rfl) (hQ : ∀ c a w, Q (.panic c) (a.put (some d) (.agg vs.toArray)) w → Q (.panic c) a w := by exact fun _ _ _ h => h) : GZ P n ds ops Q S Z (fuel + 1) L l w := gz_take i (some d) _ (fun w' hS' => run_ldr (X w' hS') hr ho) hz hc hg hQ h
/-- a variable is made -/
theorem ta (d : Nat) (vs : List Value) (T : TypeId) (mk : Nat → Value) (h : ∀ w1 g, Blk w1 g vs T → w.heap.size ≤ g → Below w.heap.size w w1 → GL P n ds ops Q rest ((d, mk g) :: l) w1) (hg : gd ops l o = some true := by kernel_rfl) (hc : chk n l o (some d) = true := by kernel_rfl) (hrun : (execOp (evL l) o).run P w = .ok (.value (mk w.heap.size)) (w.alloc (.cells vs.toArray T)) := by kernel_rfl) : GL P n ds ops Q (o :: rest) l w :=
  gl_val (some d) _ hg hc hrun (h _ _ (blk_new w vs T) (Nat.le_refl _) (below_alloc w _))
/-- cells of a variable are written -/
theorem ts {g : Nat} {cs : List Value} {t : TypeId} (X : Blk w g cs t) (off : Nat) (x : Value) (vs cs' : List Value) (h : ∀ w1, Blk w1 g cs' t → Chg (· = g) w w1 → GL P n ds ops Q rest l w1) (hx : x.cells.toList = vs := by rfl) (h1 : vs.all (·.oneCell') = true := by rfl) (hb : Nat.ble (off + vs.length) cs.length = true := by rfl) (he : spl cs off vs = cs' := by rfl) (hst : ∃ T p q, o.op = .store T p q ∧ evL l p = .pointer (some ⟨g, off, none⟩) ∧ evL l q = x ∧ ((P.info? T).map (·.size) == some vs.length) = true := by exact ⟨_, _, _, rfl, by kernel_rfl, by kernel_rfl, by kernel_rfl⟩) (hg : gd ops l o = some true := by kernel_rfl) (hc : chk n l o none = true := by kernel_rfl) : GL P n ds ops Q (o :: rest) l w := by
  refine gl_void hg hc (run_sto X hst hx h1 hb) (h _ ?_ (chg_setCells g off vs))
  rw [← he]
  exact blk_setCells vs off cs w X (Nat.le_of_ble_eq_true hb)
theorem za (i d : Nat) (vs : List Value) (T : TypeId) (mk : Nat → Value) (h : ∀ w1 g, Blk w1 g vs T → w.heap.size ≤ g → Below w.heap.size w w1 → S w1 ∧ GZ P n ds ops Q S Z fuel (i :: L) ((d, mk g) :: l) w1) (hr : readyL ops L = [i] := by kernel_rfl) (hg : gd ops l (ops.getD i default) = some true := by kernel_rfl) (hc : achk n l ops i (some d) = true := by kernel_rfl) (hrun : (execOp (evL l) (ops.getD i default)).run P w = .ok (.value (mk w.heap.size)) (w.alloc (.cells vs.toArray T)) := by kernel_rfl) : GZ P n ds ops Q S Z (fuel + 1) L l w := by
  have H := h _ _ (blk_new w vs T) (Nat.le_refl _) (below_alloc w _)
  exact zw i d _ _ hrun H.1 H.2 hr hc hg
theorem zaa {rs : List Nat} (i d : Nat) (vs : List Value) (T : TypeId) (mk : Nat → Value) (h : ∀ w1 g, Blk w1 g vs T → w.heap.size ≤ g → Below w.heap.size w w1 → S w1 ∧ GZ P n ds ops Q S Z fuel (i :: L) ((d, mk g) :: l) w1) (hs : GA P n ds ops Q S Z fuel L l w rs) (hg : gd ops l (ops.getD i default) = some true := by kernel_rfl) (hc : achk n l ops i (some d) = true := by kernel_rfl) (hrun : (execOp (evL l) (ops.getD i default)).run P w = .ok (.value (mk w.heap.size)) (w.alloc (.cells vs.toArray T)) := by kernel_rfl) : GA P n ds ops Q S Z fuel L l w (i :: rs) := by
  have H := h _ _ (blk_new w vs T) (Nat.le_refl _) (below_alloc w _)
  exact ga_val i (some d) _ _ hrun H.1 H.2 hs hc hg
theorem zs (i : Nat) {g : Nat} {cs : List Value} {t : TypeId} (X : Blk w g cs t) (off : Nat) (x : Value) (vs cs' : List Value) (h : ∀ w1, Blk w1 g cs' t → Chg (· = g) w w1 → S w1 ∧ GZ P n ds ops Q S Z fuel (i :: L) l w1) (hx : x.cells.toList = vs := by rfl) (h1 : vs.all (·.oneCell') = true := by rfl) (hb : Nat.ble (off + vs.length) cs.length = true := by rfl) (he : spl cs off vs = cs' := by rfl) (hst : ∃ T p q, (ops.getD i default).op = .store T p q ∧ evL l p = .pointer (some ⟨g, off, none⟩) ∧ evL l q = x ∧ ((P.info? T).map (·.size) == some vs.length) = true := by exact ⟨_, _, _, rfl, by kernel_rfl, by kernel_rfl, by kernel_rfl⟩) (hr : readyL ops L = [i] := by kernel_rfl) (hg : gd ops l (ops.getD i default) = some true := by kernel_rfl) (hc : achk n l ops i none = true := by kernel_rfl) : GZ P n ds ops Q S Z (fuel + 1) L l w := by
  have Y := blk_setCells vs off cs w X (Nat.le_of_ble_eq_true hb)
  rw [he] at Y
  have H := h _ Y (chg_setCells g off vs)
  exact zv i _ (run_sto X hst hx h1 hb) H.1 H.2 hr hc hg
theorem ys (i : Nat) {g : Nat} {cs : List Value} {t : TypeId} (X : Blk w g cs t) (off : Nat) (x : Value) (vs cs' : List Value) (h : ∀ w1, Blk w1 g cs' t → Chg (· = g) w w1 → GY P n ds ops Q S Z fuel (i :: L) l w1) (hx : x.cells.toList = vs := by rfl) (h1 : vs.all (·.oneCell') = true := by rfl) (hb : Nat.ble (off + vs.length) cs.length = true := by rfl) (he : spl cs off vs = cs' := by rfl) (hst : ∃ T p q, (ops.getD i default).op = .store T p q ∧ evL l p = .pointer (some ⟨g, off, none⟩) ∧ evL l q = x ∧ ((P.info? T).map (·.size) == some vs.length) = true := by exact ⟨_, _, _, rfl, by kernel_rfl, by kernel_rfl, by kernel_rfl⟩) (hr : readyL ops L = [i] := by kernel_rfl) (hg : gd ops l (ops.getD i default) = some true := by kernel_rfl) (hc : achk n l ops i none = true := by kernel_rfl) (hZ : Z i = true := by rfl) : GY P n ds ops Q S Z (fuel + 1) L l w := by
  have Y := blk_setCells vs off cs w X (Nat.le_of_ble_eq_true hb)
  rw [he] at Y
  exact yv i _ (run_sto X hst hx h1 hb) (h _ Y (chg_setCells g off vs)) hr hc hg hZ
end
theorem wi {z : Int} (h : -9223372036854775808 ≤ z ∧ z < 9223372036854775808) : Value.int .i64 (IntKind.i64.wrap z) = .int .i64 z := by rw [IntKind.wrap_i64]; congr 1; omega
theorem wu {z : Int} (h : 0 ≤ z ∧ z < 18446744073709551616) : Value.int .u64 (IntKind.u64.wrap z) = .int .u64 z := by rw [IntKind.wrap_u64]; congr 1; omega
theorem congr_v {P : Program} {ρ : Operand → Value} {o : Oper} {w : World} {v v' : Value} (e : v = v') (h : (execOp ρ o).run P w = .ok (.value v) w) : (execOp ρ o).run P w = .ok (.value v') w := e ▸ h
def slT (P : Program) (T : TypeId) (sz : Nat) : Bool := match P.underlying T with
  | some (.slice e) => (P.info? e).map (·.size) == some sz
  | _ => false
theorem run_ixs {P : Program} {ρ : Operand → Value} {o : Oper} {w : World} (sz b off n c k : Nat) (hk : k < n) (ho : ∃ T x y, o.op = .indexAddr T x y ∧ slT P T sz = true ∧ ρ x = .slice (some ⟨b, off, none⟩) n c ∧ ρ y = .int .i64 (k : Int) := by exact ⟨_, _, _, rfl, by kernel_rfl, by kernel_rfl, by kernel_rfl⟩) : (execOp ρ o).run P w = .ok (.value (.pointer (some ⟨b, off + k * sz, none⟩))) w := by
  obtain ⟨T, x, y, h1, h2, h5, h6⟩ := ho
  have h7 : (k : Int) < n := by omega
  have h8 : ¬ ((k : Int) < 0) := by omega
  unfold slT at h2
  cases hu : P.underlying T with
  | none => rw [hu] at h2; cases h2
  | some d =>
    rw [hu] at h2
    cases d with
    | slice e =>
      simp only [beq_iff_eq] at h2
      cases hi : P.info? e with
      | none => rw [hi] at h2; cases h2
      | some i =>
        rw [hi] at h2
        simp at h2
        simp only [execOp, h1, h5, h6]
        go_simp
        simp [sizeOf, typeInfo, hi, h2]
    | _ => cases h2
/-- the operations of a region of a code -/
def opsOf (id : Nat) : Code → Option (Array Oper)
  | .region i ops _ => bif Nat.beq i id then some ops else none
  | .seq a b => match opsOf id a with
    | some o => some o
    | none => opsOf id b
  | .cond _ a b => match opsOf id a with
    | some o => some o
    | none => opsOf id b
  | .block _ a => opsOf id a
  | .loop a => opsOf id a
  | _ => none
def ropsOf (fn : Func) (id : Nat) : Array Oper := match fn.body with
  | some c => (opsOf id c).getD #[]
  | none => #[]
theorem gc_ops {P : Program} {n : Nat} {ds : List Deferred} {Q : Exit → Act → World → Prop} {l : Fr} {w : World} {id : Nat} {ops ops' : Array Oper} {b : Bool} (h : GC P n ds (Code.region id ops' b) Q l w) (e : ops = ops' := by kernel_rfl) : GC P n ds (Code.region id ops b) Q l w := by
  subst e; exact h
/-- what a store of a new variable leaves of what was there -/
theorem belowC {w0 w w1 : World} {g : Nat} (B : Below w0.heap.size w0 w) (C : Chg (· = g) w w1) (h : w0.heap.size ≤ g) : Below w0.heap.size w0 w1 := B.trans (C.below (fun b e => by have e' : b = g := e; omega) B.size)
end Gl
end Go.Proofs.YtenlhceceplldaaGreat

namespace Go.Proofs.YtenlhceceplldaaGreat
namespace Rc
open Go.RowKit Go.Lib Pg Lim Gl
theorem mine0 {B : Nat} (w : World) : MineB w B (.slice none 0 0) [] := World.ownsRow_nil _ _ _ _
theorem len_0 : ([] : List Int).length ≤ 0 := Nat.le_refl 0
theorem len_app {L X : List Int} {a b : Nat} (h : L.length ≤ a) (h' : X.length ≤ b) : (L ++ X).length ≤ a + b := by rw [List.length_append]; omega
theorem len_u8 (xs : List Int) : (xs.flatMap (be 8)).length ≤ 8 * xs.length := by
  induction xs with
  | nil => exact Nat.le_refl _
  | cons x r ih => rw [List.flatMap_cons, List.length_append, be_length, List.length_cons]; omega
theorem len_d8 (x : Int) : (cntd 1 (natB (fit x))).length ≤ 256 := by
  have := fit_len x
  rw [cntd_len]; omega
theorem len_f8 (x : Int) : (be 1 x).length ≤ 1 := by rw [be_length]; exact Nat.le_refl _
set_option maxHeartbeats 2000000 in
set_option maxRecDepth 100000 in
theorem rPutParams {w : World} {x0 : Int} {x1 : Int} {x2 : Int} {x3 : Int} {x4 : Int} {x5 : Int} {x6 : Int} {x7 : Int} {x8 : Int} {x9 : Int}  :
    Calls Tryz.prog 19 #[.agg #[.int .u64 x0, .int .u64 x1, .int .u64 x2, .int .u64 x3, .int .u64 x4, .int .u64 x5, .int .u64 x6, .int .u64 x7, .int .u64 x8, .int .u64 x9]] w fun e w' => ∃ v, e = .returned v ∧ MineB w' w.heap.size v (thr (pnx (fun o => ([x0, x1, x2, x3, x4, x5, x6, x7, x8, x9] : List Int).getD o 0)) [(0, 0), (0, 1), (0, 2), (0, 3), (0, 4), (0, 5), (0, 6), (0, 7), (0, 8), (0, 9)] []) ∧ Below w.heap.size w w' := by
  have BB := Below.refl w.heap.size w
  refine gc_enter (n := 25) Tryz.func19 rfl (by kernel_rfl) (by kernel_rfl) ?_
  refine gc_seq ?_
  refine gc_reg ?_
  refine ta 1 [.int .u64 x0, .int .u64 x1, .int .u64 x2, .int .u64 x3, .int .u64 x4, .int .u64 x5, .int .u64 x6, .int .u64 x7, .int .u64 x8, .int .u64 x9] 24 (pg) ?_
  intro v1 g2 Xg2 hg2 B
  replace BB := joinB BB B
  clear B
  refine t 2 (.slice none 0 0) ?_
  refine gl_nil ?_
  refine ge_then ?_
  refine gc_seq ?_
  refine gc_reg ?_
  refine t 3 (pg g2) ?_
  refine tl 4 (.int .u64 x0) Xg2 0 ?_
  refine t 5 (pq g2 1) ?_
  refine tl 6 (.int .u64 x1) Xg2 1 ?_
  refine t 7 (pq g2 2) ?_
  refine tl 8 (.int .u64 x2) Xg2 2 ?_
  refine t 9 (pq g2 3) ?_
  refine tl 10 (.int .u64 x3) Xg2 3 ?_
  refine t 11 (pq g2 4) ?_
  refine tl 12 (.int .u64 x4) Xg2 4 ?_
  refine t 13 (pq g2 5) ?_
  refine tl 14 (.int .u64 x5) Xg2 5 ?_
  refine t 15 (pq g2 6) ?_
  refine tl 16 (.int .u64 x6) Xg2 6 ?_
  refine t 17 (pq g2 7) ?_
  refine tl 18 (.int .u64 x7) Xg2 7 ?_
  refine t 19 (pq g2 8) ?_
  refine tl 20 (.int .u64 x8) Xg2 8 ?_
  refine t 21 (pq g2 9) ?_
  refine tl 22 (.int .u64 x9) Xg2 9 ?_
  refine ta 23 [.int .u64 x0, .int .u64 x1, .int .u64 x2, .int .u64 x3, .int .u64 x4, .int .u64 x5, .int .u64 x6, .int .u64 x7, .int .u64 x8, .int .u64 x9] 22 (sg 10) ?_
  intro v3 g4 Xg4 hg4 B
  replace BB := joinB BB B
  replace Xg2 := Xg2.keep B
  clear B
  refine tc 24 68 #[.slice none 0 0, sg 10 g4] (ru8 (xs := [x0, x1, x2, x3, x4, x5, x6, x7, x8, x9]) (mine0 _) BB.size Xg4 (Nat.le_trans len_0 (Nat.le_of_ble_eq_true rfl)) (Nat.le_of_ble_eq_true rfl)) ?_
  rintro _ v6 ⟨Vm5, rfl, m5, Y⟩
  refine ⟨_, rfl, ?_⟩
  replace BB := Byt.below Y BB (Nat.le_refl _) (Nat.le_refl _)
  replace Xg2 := Blk.byt Xg2 Y (by decide)
  replace Xg4 := Blk.byt Xg4 Y (by decide)
  clear Y
  have bm5 := len_app len_0 (len_u8 [x0, x1, x2, x3, x4, x5, x6, x7, x8, x9])
  refine t 2 (Vm5) ?_
  refine gl_nil ?_
  refine ge_then ?_
  refine gc_fr [(2, Vm5)] (by kernel_rfl) ?_
  refine gc_ret ?_
  refine ge_ret (Vm5) (rs1 2 (by kernel_rfl) (by kernel_rfl)) ?_
  exact ⟨_, rfl, by simpa [thr, pnx, enc1] using m5, BB⟩
set_option maxHeartbeats 2000000 in
set_option maxRecDepth 100000 in
theorem rPutChain {w : World} {x0 : Int} {x1 : Int}  :
    Calls Tryz.prog 20 #[.agg #[.int .u64 x0, .int .u64 x1]] w fun e w' => ∃ v, e = .returned v ∧ MineB w' w.heap.size v (thr (pnx (fun o => ([x0, x1] : List Int).getD o 0)) [(0, 0), (0, 1)] []) ∧ Below w.heap.size w w' := by
  have BB := Below.refl w.heap.size w
  refine gc_enter (n := 9) Tryz.func20 rfl (by kernel_rfl) (by kernel_rfl) ?_
  refine gc_seq ?_
  refine gc_reg ?_
  refine ta 1 [.int .u64 x0, .int .u64 x1] 26 (pg) ?_
  intro v1 g2 Xg2 hg2 B
  replace BB := joinB BB B
  clear B
  refine t 2 (.slice none 0 0) ?_
  refine gl_nil ?_
  refine ge_then ?_
  refine gc_seq ?_
  refine gc_reg ?_
  refine t 3 (pg g2) ?_
  refine tl 4 (.int .u64 x0) Xg2 0 ?_
  refine t 5 (pq g2 1) ?_
  refine tl 6 (.int .u64 x1) Xg2 1 ?_
  refine ta 7 [.int .u64 x0, .int .u64 x1] 22 (sg 2) ?_
  intro v3 g4 Xg4 hg4 B
  replace BB := joinB BB B
  replace Xg2 := Xg2.keep B
  clear B
  refine tc 8 68 #[.slice none 0 0, sg 2 g4] (ru8 (xs := [x0, x1]) (mine0 _) BB.size Xg4 (Nat.le_trans len_0 (Nat.le_of_ble_eq_true rfl)) (Nat.le_of_ble_eq_true rfl)) ?_
  rintro _ v6 ⟨Vm5, rfl, m5, Y⟩
  refine ⟨_, rfl, ?_⟩
  replace BB := Byt.below Y BB (Nat.le_refl _) (Nat.le_refl _)
  replace Xg2 := Blk.byt Xg2 Y (by decide)
  replace Xg4 := Blk.byt Xg4 Y (by decide)
  clear Y
  have bm5 := len_app len_0 (len_u8 [x0, x1])
  refine t 2 (Vm5) ?_
  refine gl_nil ?_
  refine ge_then ?_
  refine gc_ret ?_
  refine ge_ret (Vm5) (rs1 2 (by kernel_rfl) (by kernel_rfl)) ?_
  exact ⟨_, rfl, by simpa [thr, pnx, enc1] using m5, BB⟩
set_option maxHeartbeats 2000000 in
set_option maxRecDepth 100000 in
theorem rPutPool {w : World} {a0 : Option Addr} {n0 c0 : Nat} {x0 : Int} (h0 : NatA w a0 n0 c0 x0) (m0 : n0 ≤ 3000) :
    Calls Tryz.prog 21 #[.agg #[.slice a0 n0 c0]] w fun e w' => ∃ v, e = .returned v ∧ MineB w' w.heap.size v (thr (pnx (fun o => ([x0] : List Int).getD o 0)) [(2, 0)] []) ∧ Below w.heap.size w w' := by
  have BB := Below.refl w.heap.size w
  refine gc_enter (n := 5) Tryz.func21 rfl (by kernel_rfl) (by kernel_rfl) ?_
  refine gc_seq ?_
  refine gc_reg ?_
  refine ta 1 [.slice a0 n0 c0] 30 (pg) ?_
  intro v1 g2 Xg2 hg2 B
  replace BB := joinB BB B
  clear B
  refine t 2 (.slice none 0 0) ?_
  refine gl_nil ?_
  refine ge_then ?_
  refine gc_seq ?_
  refine gc_reg ?_
  refine tlr 3 [.slice a0 n0 c0] Xg2 0 ?_
  refine tc 4 69 #[.slice none 0 0, .agg #[.slice a0 n0 c0]] (rd8 (mine0 _) BB.size (Nat.le_trans len_0 (Nat.le_of_ble_eq_true rfl)) (h0.keep BB) m0) ?_
  rintro _ v4 ⟨Vm3, rfl, m3, Y⟩
  refine ⟨_, rfl, ?_⟩
  replace BB := Byt.below Y BB (Nat.le_refl _) (Nat.le_refl _)
  replace Xg2 := Blk.byt Xg2 Y (by decide)
  clear Y
  have bm3 := len_app len_0 (len_d8 x0)
  refine t 2 (Vm3) ?_
  refine gl_nil ?_
  refine ge_then ?_
  refine gc_ret ?_
  refine ge_ret (Vm3) (rs1 2 (by kernel_rfl) (by kernel_rfl)) ?_
  exact ⟨_, rfl, by simpa [thr, pnx, enc1] using m3, BB⟩
set_option maxHeartbeats 2000000 in
set_option maxRecDepth 100000 in
theorem rPutAccount {w : World} {x0 : Int} {x1 : Int}  :
    Calls Tryz.prog 22 #[.agg #[.int .u64 x0, .int .u64 x1]] w fun e w' => ∃ v, e = .returned v ∧ MineB w' w.heap.size v (thr (pnx (fun o => ([x0, x1] : List Int).getD o 0)) [(0, 0), (0, 1)] []) ∧ Below w.heap.size w w' := by
  have BB := Below.refl w.heap.size w
  refine gc_enter (n := 9) Tryz.func22 rfl (by kernel_rfl) (by kernel_rfl) ?_
  refine gc_seq ?_
  refine gc_reg ?_
  refine ta 1 [.int .u64 x0, .int .u64 x1] 32 (pg) ?_
  intro v1 g2 Xg2 hg2 B
  replace BB := joinB BB B
  clear B
  refine t 2 (.slice none 0 0) ?_
  refine gl_nil ?_
  refine ge_then ?_
  refine gc_seq ?_
  refine gc_reg ?_
  refine t 3 (pg g2) ?_
  refine tl 4 (.int .u64 x0) Xg2 0 ?_
  refine t 5 (pq g2 1) ?_
  refine tl 6 (.int .u64 x1) Xg2 1 ?_
  refine ta 7 [.int .u64 x0, .int .u64 x1] 22 (sg 2) ?_
  intro v3 g4 Xg4 hg4 B
  replace BB := joinB BB B
  replace Xg2 := Xg2.keep B
  clear B
  refine tc 8 68 #[.slice none 0 0, sg 2 g4] (ru8 (xs := [x0, x1]) (mine0 _) BB.size Xg4 (Nat.le_trans len_0 (Nat.le_of_ble_eq_true rfl)) (Nat.le_of_ble_eq_true rfl)) ?_
  rintro _ v6 ⟨Vm5, rfl, m5, Y⟩
  refine ⟨_, rfl, ?_⟩
  replace BB := Byt.below Y BB (Nat.le_refl _) (Nat.le_refl _)
  replace Xg2 := Blk.byt Xg2 Y (by decide)
  replace Xg4 := Blk.byt Xg4 Y (by decide)
  clear Y
  have bm5 := len_app len_0 (len_u8 [x0, x1])
  refine t 2 (Vm5) ?_
  refine gl_nil ?_
  refine ge_then ?_
  refine gc_ret ?_
  refine ge_ret (Vm5) (rs1 2 (by kernel_rfl) (by kernel_rfl)) ?_
  exact ⟨_, rfl, by simpa [thr, pnx, enc1] using m5, BB⟩
set_option maxHeartbeats 2000000 in
set_option maxRecDepth 100000 in
theorem rPutVal {w : World} {x0 : Int} {x1 : Int} {a2 : Option Addr} {n2 c2 : Nat} {x2 : Int} {b3 : Bool} {x4 : Int} {b5 : Bool} {x6 : Int} {a7 : Option Addr} {n7 c7 : Nat} {x7 : Int} {a8 : Option Addr} {n8 c8 : Nat} {x8 : Int} {a9 : Option Addr} {n9 c9 : Nat} {x9 : Int} (h2 : NatA w a2 n2 c2 x2) (m2 : n2 ≤ 3000) (h7 : NatA w a7 n7 c7 x7) (m7 : n7 ≤ 3000) (h8 : NatA w a8 n8 c8 x8) (m8 : n8 ≤ 3000) (h9 : NatA w a9 n9 c9 x9) (m9 : n9 ≤ 3000) :
    Calls Tryz.prog 23 #[.agg #[.int .u64 x0, .int .u64 x1, .slice a2 n2 c2, .bool b3, .int .u64 x4, .bool b5, .int .u64 x6, .slice a7 n7 c7, .slice a8 n8 c8, .slice a9 n9 c9]] w fun e w' => ∃ v, e = .returned v ∧ MineB w' w.heap.size v (thr (pnx (fun o => ([x0, x1, x2, (if b3 then 1 else 0), x4, (if b5 then 1 else 0), x6, x7, x8, x9] : List Int).getD o 0)) [(0, 0), (0, 1), (2, 2), (1, 3), (0, 4), (1, 5), (0, 6), (2, 7), (2, 8), (2, 9)] []) ∧ Below w.heap.size w w' := by
  have BB := Below.refl w.heap.size w
  refine gc_enter (n := 39) Tryz.func23 rfl (by kernel_rfl) (by kernel_rfl) ?_
  refine gc_seq ?_
  refine gc_reg ?_
  refine ta 1 [.int .u64 x0, .int .u64 x1, .slice a2 n2 c2, .bool b3, .int .u64 x4, .bool b5, .int .u64 x6, .slice a7 n7 c7, .slice a8 n8 c8, .slice a9 n9 c9] 34 (pg) ?_
  intro v1 g2 Xg2 hg2 B
  replace BB := joinB BB B
  clear B
  refine t 2 (.slice none 0 0) ?_
  refine gl_nil ?_
  refine ge_then ?_
  refine gc_seq ?_
  replace BB := BB.drew
  replace Xg2 := Xg2.drew
  refine gc_draw (fun w' => Blk w' g2 [.int .u64 x0, .int .u64 x1, .slice a2 n2 c2, .bool b3, .int .u64 x4, .bool b5, .int .u64 x6, .slice a7 n7 c7, .slice a8 n8 c8, .slice a9 n9 c9] 34) (fun _ => false) Xg2 ?_
  refine z 0 4 (pg g2) ?_
  refine zl 1 5 (.int .u64 x0) (fun _ h => h) 0 ?_
  refine z 2 6 (pq g2 1) ?_
  refine zl 3 7 (.int .u64 x1) (fun _ h => h) 1 ?_
  refine z 6 10 (pq g2 2) ?_
  refine zlr 7 11 [.slice a2 n2 c2] (fun _ h => h) 2 ?_
  refine za 4 8 [.int .u64 x0, .int .u64 x1] 22 (sg 2) ?_
  intro v3 g4 Xg4 hg4 B
  replace BB := joinB BB B
  replace Xg2 := Xg2.keep B
  clear B
  refine ⟨Xg2, ?_⟩
  refine zc 5 9 68 #[.slice none 0 0, sg 2 g4] (ru8 (xs := [x0, x1]) (mine0 _) BB.size Xg4 (Nat.le_trans len_0 (Nat.le_of_ble_eq_true rfl)) (Nat.le_of_ble_eq_true rfl)) ?_
  rintro _ v6 ⟨Vm5, rfl, m5, Y⟩
  replace BB := Byt.below Y BB (Nat.le_refl _) (Nat.le_refl _)
  replace Xg2 := Blk.byt Xg2 Y (by decide)
  replace Xg4 := Blk.byt Xg4 Y (by decide)
  clear Y
  have bm5 := len_app len_0 (len_u8 [x0, x1])
  refine ⟨_, rfl, Xg2, ?_⟩
  refine zc 8 12 69 #[Vm5, .agg #[.slice a2 n2 c2]] (rd8 m5 BB.size (Nat.le_trans bm5 (Nat.le_of_ble_eq_true rfl)) (h2.keep BB) m2) ?_
  rintro _ v8 ⟨Vm7, rfl, m7, Y⟩
  replace BB := Byt.below Y BB (Nat.le_refl _) (Nat.le_refl _)
  replace Xg2 := Blk.byt Xg2 Y (by decide)
  replace Xg4 := Blk.byt Xg4 Y (by decide)
  clear m5
  clear Y
  have bm7 := len_app bm5 (len_d8 x2)
  refine ⟨_, rfl, Xg2, ?_⟩
  refine z 9 3 (Vm7) ?_
  refine gz_done ?_
  refine ge_then ?_
  refine gc_seq ?_
  replace BB := BB.drew
  replace Xg2 := Xg2.drew
  replace Xg4 := Xg4.drew
  replace m7 := mineB_keep m7 (Below.refl _ _).drew
  refine gc_draw (fun w' => Blk w' g2 [.int .u64 x0, .int .u64 x1, .slice a2 n2 c2, .bool b3, .int .u64 x4, .bool b5, .int .u64 x6, .slice a7 n7 c7, .slice a8 n8 c8, .slice a9 n9 c9] 34) (fun _ => false) Xg2 ?_
  refine z 0 13 (Vm7) ?_
  refine z 1 14 (pq g2 3) ?_
  refine zl 2 15 (.bool b3) (fun _ h => h) 3 ?_
  refine z 4 17 (pq g2 4) ?_
  refine zl 5 18 (.int .u64 x4) (fun _ h => h) 4 ?_
  refine gz_ready [3, 6] ?_
  refine ga_call 3 (some 16) 70 #[Vm7, .bool b3] (rf8 (is := b3) m7 BB.size (Nat.le_trans bm7 (Nat.le_of_ble_eq_true rfl))) ?_ ?_
  · rintro _ v10 ⟨Vm9, rfl, m9, Y⟩
    replace BB := Byt.below Y BB (Nat.le_refl _) (Nat.le_refl _)
    replace Xg2 := Blk.byt Xg2 Y (by decide)
    replace Xg4 := Blk.byt Xg4 Y (by decide)
    clear m7
    clear Y
    have bm9 := len_app bm7 (len_f8 (if b3 then 1 else 0))
    refine ⟨_, rfl, Xg2, ?_⟩
    refine za 6 19 [.int .u64 x4] 22 (sg 1) ?_
    intro v11 g12 Xg12 hg12 B
    replace BB := joinB BB B
    replace Xg2 := Xg2.keep B
    replace Xg4 := Xg4.keep B
    replace m9 := mineB_keep m9 B
    clear B
    refine ⟨Xg2, ?_⟩
    refine zc 7 20 68 #[Vm9, sg 1 g12] (ru8 (xs := [x4]) m9 BB.size Xg12 (Nat.le_trans bm9 (Nat.le_of_ble_eq_true rfl)) (Nat.le_of_ble_eq_true rfl)) ?_
    rintro _ v14 ⟨Vm13, rfl, m13, Y⟩
    replace BB := Byt.below Y BB (Nat.le_refl _) (Nat.le_refl _)
    replace Xg2 := Blk.byt Xg2 Y (by decide)
    replace Xg4 := Blk.byt Xg4 Y (by decide)
    clear m9
    replace Xg12 := Blk.byt Xg12 Y (by decide)
    clear Y
    have bm13 := len_app bm9 (len_u8 [x4])
    refine ⟨_, rfl, Xg2, ?_⟩
    refine z 8 3 (Vm13) ?_
    refine gz_done ?_
    refine ge_then ?_
    refine gc_fr [(1, pg g2), (2, .slice none 0 0), (3, Vm13)] (by kernel_rfl) ?_
    refine gc_seq ?_
    replace BB := BB.drew
    replace Xg2 := Xg2.drew
    replace Xg4 := Xg4.drew
    replace Xg12 := Xg12.drew
    replace m13 := mineB_keep m13 (Below.refl _ _).drew
    refine gc_draw (fun w' => Blk w' g2 [.int .u64 x0, .int .u64 x1, .slice a2 n2 c2, .bool b3, .int .u64 x4, .bool b5, .int .u64 x6, .slice a7 n7 c7, .slice a8 n8 c8, .slice a9 n9 c9] 34) (fun _ => false) Xg2 ?_
    refine z 0 21 (Vm13) ?_
    refine z 1 22 (pq g2 5) ?_
    refine zl 2 23 (.bool b5) (fun _ h => h) 5 ?_
    refine z 4 25 (pq g2 6) ?_
    refine zl 5 26 (.int .u64 x6) (fun _ h => h) 6 ?_
    refine gz_ready [3, 6] ?_
    refine ga_call 3 (some 24) 70 #[Vm13, .bool b5] (rf8 (is := b5) m13 BB.size (Nat.le_trans bm13 (Nat.le_of_ble_eq_true rfl))) ?_ ?_
    · rintro _ v16 ⟨Vm15, rfl, m15, Y⟩
      replace BB := Byt.below Y BB (Nat.le_refl _) (Nat.le_refl _)
      replace Xg2 := Blk.byt Xg2 Y (by decide)
      replace Xg4 := Blk.byt Xg4 Y (by decide)
      replace Xg12 := Blk.byt Xg12 Y (by decide)
      clear m13
      clear Y
      have bm15 := len_app bm13 (len_f8 (if b5 then 1 else 0))
      refine ⟨_, rfl, Xg2, ?_⟩
      refine za 6 27 [.int .u64 x6] 22 (sg 1) ?_
      intro v17 g18 Xg18 hg18 B
      replace BB := joinB BB B
      replace Xg2 := Xg2.keep B
      replace Xg4 := Xg4.keep B
      replace Xg12 := Xg12.keep B
      replace m15 := mineB_keep m15 B
      clear B
      refine ⟨Xg2, ?_⟩
      refine zc 7 28 68 #[Vm15, sg 1 g18] (ru8 (xs := [x6]) m15 BB.size Xg18 (Nat.le_trans bm15 (Nat.le_of_ble_eq_true rfl)) (Nat.le_of_ble_eq_true rfl)) ?_
      rintro _ v20 ⟨Vm19, rfl, m19, Y⟩
      replace BB := Byt.below Y BB (Nat.le_refl _) (Nat.le_refl _)
      replace Xg2 := Blk.byt Xg2 Y (by decide)
      replace Xg4 := Blk.byt Xg4 Y (by decide)
      replace Xg12 := Blk.byt Xg12 Y (by decide)
      clear m15
      replace Xg18 := Blk.byt Xg18 Y (by decide)
      clear Y
      have bm19 := len_app bm15 (len_u8 [x6])
      refine ⟨_, rfl, Xg2, ?_⟩
      refine z 8 3 (Vm19) ?_
      refine gz_done ?_
      refine ge_then ?_
      refine gc_seq ?_
      replace BB := BB.drew
      replace Xg2 := Xg2.drew
      replace Xg4 := Xg4.drew
      replace Xg12 := Xg12.drew
      replace Xg18 := Xg18.drew
      replace m19 := mineB_keep m19 (Below.refl _ _).drew
      refine gc_draw (fun w' => Blk w' g2 [.int .u64 x0, .int .u64 x1, .slice a2 n2 c2, .bool b3, .int .u64 x4, .bool b5, .int .u64 x6, .slice a7 n7 c7, .slice a8 n8 c8, .slice a9 n9 c9] 34) (fun _ => false) Xg2 ?_
      refine z 0 29 (Vm19) ?_
      refine z 1 30 (pq g2 7) ?_
      refine zlr 2 31 [.slice a7 n7 c7] (fun _ h => h) 7 ?_
      refine z 4 33 (pq g2 8) ?_
      refine zlr 5 34 [.slice a8 n8 c8] (fun _ h => h) 8 ?_
      refine z 7 36 (pq g2 9) ?_
      refine zlr 8 37 [.slice a9 n9 c9] (fun _ h => h) 9 ?_
      refine zc 3 32 69 #[Vm19, .agg #[.slice a7 n7 c7]] (rd8 m19 BB.size (Nat.le_trans bm19 (Nat.le_of_ble_eq_true rfl)) (h7.keep BB) m7) ?_
      rintro _ v22 ⟨Vm21, rfl, m21, Y⟩
      replace BB := Byt.below Y BB (Nat.le_refl _) (Nat.le_refl _)
      replace Xg2 := Blk.byt Xg2 Y (by decide)
      replace Xg4 := Blk.byt Xg4 Y (by decide)
      replace Xg12 := Blk.byt Xg12 Y (by decide)
      replace Xg18 := Blk.byt Xg18 Y (by decide)
      clear m19
      clear Y
      have bm21 := len_app bm19 (len_d8 x7)
      refine ⟨_, rfl, Xg2, ?_⟩
      refine zc 6 35 69 #[Vm21, .agg #[.slice a8 n8 c8]] (rd8 m21 BB.size (Nat.le_trans bm21 (Nat.le_of_ble_eq_true rfl)) (h8.keep BB) m8) ?_
      rintro _ v24 ⟨Vm23, rfl, m23, Y⟩
      replace BB := Byt.below Y BB (Nat.le_refl _) (Nat.le_refl _)
      replace Xg2 := Blk.byt Xg2 Y (by decide)
      replace Xg4 := Blk.byt Xg4 Y (by decide)
      replace Xg12 := Blk.byt Xg12 Y (by decide)
      replace Xg18 := Blk.byt Xg18 Y (by decide)
      clear m21
      clear Y
      have bm23 := len_app bm21 (len_d8 x8)
      refine ⟨_, rfl, Xg2, ?_⟩
      refine zc 9 38 69 #[Vm23, .agg #[.slice a9 n9 c9]] (rd8 m23 BB.size (Nat.le_trans bm23 (Nat.le_of_ble_eq_true rfl)) (h9.keep BB) m9) ?_
      rintro _ v26 ⟨Vm25, rfl, m25, Y⟩
      replace BB := Byt.below Y BB (Nat.le_refl _) (Nat.le_refl _)
      replace Xg2 := Blk.byt Xg2 Y (by decide)
      replace Xg4 := Blk.byt Xg4 Y (by decide)
      replace Xg12 := Blk.byt Xg12 Y (by decide)
      replace Xg18 := Blk.byt Xg18 Y (by decide)
      clear m23
      clear Y
      have bm25 := len_app bm23 (len_d8 x9)
      refine ⟨_, rfl, Xg2, ?_⟩
      refine z 10 2 (Vm25) ?_
      refine gz_done ?_
      refine ge_then ?_
      refine gc_fr [(2, Vm25)] (by kernel_rfl) ?_
      refine gc_ret ?_
      refine ge_ret (Vm25) (rs1 2 (by kernel_rfl) (by kernel_rfl)) ?_
      exact ⟨_, rfl, by simpa [thr, pnx, enc1] using m25, BB⟩
    refine zaa 6 27 [.int .u64 x6] 22 (sg 1) ?_ ?_
    · intro v27 g28 Xg28 hg28 B
      replace BB := joinB BB B
      replace Xg2 := Xg2.keep B
      replace Xg4 := Xg4.keep B
      replace Xg12 := Xg12.keep B
      replace m13 := mineB_keep m13 B
      clear B
      refine ⟨Xg2, ?_⟩
      refine zc 3 24 70 #[Vm13, .bool b5] (rf8 (is := b5) m13 BB.size (Nat.le_trans bm13 (Nat.le_of_ble_eq_true rfl))) ?_
      rintro _ v30 ⟨Vm29, rfl, m29, Y⟩
      replace BB := Byt.below Y BB (Nat.le_refl _) (Nat.le_refl _)
      replace Xg2 := Blk.byt Xg2 Y (by decide)
      replace Xg4 := Blk.byt Xg4 Y (by decide)
      replace Xg12 := Blk.byt Xg12 Y (by decide)
      clear m13
      replace Xg28 := Blk.byt Xg28 Y (by decide)
      clear Y
      have bm29 := len_app bm13 (len_f8 (if b5 then 1 else 0))
      refine ⟨_, rfl, Xg2, ?_⟩
      refine zc 7 28 68 #[Vm29, sg 1 g28] (ru8 (xs := [x6]) m29 BB.size Xg28 (Nat.le_trans bm29 (Nat.le_of_ble_eq_true rfl)) (Nat.le_of_ble_eq_true rfl)) ?_
      rintro _ v32 ⟨Vm31, rfl, m31, Y⟩
      replace BB := Byt.below Y BB (Nat.le_refl _) (Nat.le_refl _)
      replace Xg2 := Blk.byt Xg2 Y (by decide)
      replace Xg4 := Blk.byt Xg4 Y (by decide)
      replace Xg12 := Blk.byt Xg12 Y (by decide)
      replace Xg28 := Blk.byt Xg28 Y (by decide)
      clear m29
      clear Y
      have bm31 := len_app bm29 (len_u8 [x6])
      refine ⟨_, rfl, Xg2, ?_⟩
      refine z 8 3 (Vm31) ?_
      refine gz_done ?_
      refine ge_then ?_
      refine gc_seq ?_
      replace BB := BB.drew
      replace Xg2 := Xg2.drew
      replace Xg4 := Xg4.drew
      replace Xg12 := Xg12.drew
      replace Xg28 := Xg28.drew
      replace m31 := mineB_keep m31 (Below.refl _ _).drew
      refine gc_draw (fun w' => Blk w' g2 [.int .u64 x0, .int .u64 x1, .slice a2 n2 c2, .bool b3, .int .u64 x4, .bool b5, .int .u64 x6, .slice a7 n7 c7, .slice a8 n8 c8, .slice a9 n9 c9] 34) (fun _ => false) Xg2 ?_
      refine z 0 29 (Vm31) ?_
      refine z 1 30 (pq g2 7) ?_
      refine zlr 2 31 [.slice a7 n7 c7] (fun _ h => h) 7 ?_
      refine z 4 33 (pq g2 8) ?_
      refine zlr 5 34 [.slice a8 n8 c8] (fun _ h => h) 8 ?_
      refine z 7 36 (pq g2 9) ?_
      refine zlr 8 37 [.slice a9 n9 c9] (fun _ h => h) 9 ?_
      refine zc 3 32 69 #[Vm31, .agg #[.slice a7 n7 c7]] (rd8 m31 BB.size (Nat.le_trans bm31 (Nat.le_of_ble_eq_true rfl)) (h7.keep BB) m7) ?_
      rintro _ v34 ⟨Vm33, rfl, m33, Y⟩
      replace BB := Byt.below Y BB (Nat.le_refl _) (Nat.le_refl _)
      replace Xg2 := Blk.byt Xg2 Y (by decide)
      replace Xg4 := Blk.byt Xg4 Y (by decide)
      replace Xg12 := Blk.byt Xg12 Y (by decide)
      replace Xg28 := Blk.byt Xg28 Y (by decide)
      clear m31
      clear Y
      have bm33 := len_app bm31 (len_d8 x7)
      refine ⟨_, rfl, Xg2, ?_⟩
      refine zc 6 35 69 #[Vm33, .agg #[.slice a8 n8 c8]] (rd8 m33 BB.size (Nat.le_trans bm33 (Nat.le_of_ble_eq_true rfl)) (h8.keep BB) m8) ?_
      rintro _ v36 ⟨Vm35, rfl, m35, Y⟩
      replace BB := Byt.below Y BB (Nat.le_refl _) (Nat.le_refl _)
      replace Xg2 := Blk.byt Xg2 Y (by decide)
      replace Xg4 := Blk.byt Xg4 Y (by decide)
      replace Xg12 := Blk.byt Xg12 Y (by decide)
      replace Xg28 := Blk.byt Xg28 Y (by decide)
      clear m33
      clear Y
      have bm35 := len_app bm33 (len_d8 x8)
      refine ⟨_, rfl, Xg2, ?_⟩
      refine zc 9 38 69 #[Vm35, .agg #[.slice a9 n9 c9]] (rd8 m35 BB.size (Nat.le_trans bm35 (Nat.le_of_ble_eq_true rfl)) (h9.keep BB) m9) ?_
      rintro _ v38 ⟨Vm37, rfl, m37, Y⟩
      replace BB := Byt.below Y BB (Nat.le_refl _) (Nat.le_refl _)
      replace Xg2 := Blk.byt Xg2 Y (by decide)
      replace Xg4 := Blk.byt Xg4 Y (by decide)
      replace Xg12 := Blk.byt Xg12 Y (by decide)
      replace Xg28 := Blk.byt Xg28 Y (by decide)
      clear m35
      clear Y
      have bm37 := len_app bm35 (len_d8 x9)
      refine ⟨_, rfl, Xg2, ?_⟩
      refine z 10 2 (Vm37) ?_
      refine gz_done ?_
      refine ge_then ?_
      refine gc_fr [(2, Vm37)] (by kernel_rfl) ?_
      refine gc_ret ?_
      refine ge_ret (Vm37) (rs1 2 (by kernel_rfl) (by kernel_rfl)) ?_
      exact ⟨_, rfl, by simpa [thr, pnx, enc1] using m37, BB⟩
    exact ga_nil
  refine zaa 6 19 [.int .u64 x4] 22 (sg 1) ?_ ?_
  · intro v39 g40 Xg40 hg40 B
    replace BB := joinB BB B
    replace Xg2 := Xg2.keep B
    replace Xg4 := Xg4.keep B
    replace m7 := mineB_keep m7 B
    clear B
    refine ⟨Xg2, ?_⟩
    refine zc 3 16 70 #[Vm7, .bool b3] (rf8 (is := b3) m7 BB.size (Nat.le_trans bm7 (Nat.le_of_ble_eq_true rfl))) ?_
    rintro _ v42 ⟨Vm41, rfl, m41, Y⟩
    replace BB := Byt.below Y BB (Nat.le_refl _) (Nat.le_refl _)
    replace Xg2 := Blk.byt Xg2 Y (by decide)
    replace Xg4 := Blk.byt Xg4 Y (by decide)
    clear m7
    replace Xg40 := Blk.byt Xg40 Y (by decide)
    clear Y
    have bm41 := len_app bm7 (len_f8 (if b3 then 1 else 0))
    refine ⟨_, rfl, Xg2, ?_⟩
    refine zc 7 20 68 #[Vm41, sg 1 g40] (ru8 (xs := [x4]) m41 BB.size Xg40 (Nat.le_trans bm41 (Nat.le_of_ble_eq_true rfl)) (Nat.le_of_ble_eq_true rfl)) ?_
    rintro _ v44 ⟨Vm43, rfl, m43, Y⟩
    replace BB := Byt.below Y BB (Nat.le_refl _) (Nat.le_refl _)
    replace Xg2 := Blk.byt Xg2 Y (by decide)
    replace Xg4 := Blk.byt Xg4 Y (by decide)
    replace Xg40 := Blk.byt Xg40 Y (by decide)
    clear m41
    clear Y
    have bm43 := len_app bm41 (len_u8 [x4])
    refine ⟨_, rfl, Xg2, ?_⟩
    refine z 8 3 (Vm43) ?_
    refine gz_done ?_
    refine ge_then ?_
    refine gc_fr [(1, pg g2), (2, .slice none 0 0), (3, Vm43)] (by kernel_rfl) ?_
    refine gc_seq ?_
    replace BB := BB.drew
    replace Xg2 := Xg2.drew
    replace Xg4 := Xg4.drew
    replace Xg40 := Xg40.drew
    replace m43 := mineB_keep m43 (Below.refl _ _).drew
    refine gc_draw (fun w' => Blk w' g2 [.int .u64 x0, .int .u64 x1, .slice a2 n2 c2, .bool b3, .int .u64 x4, .bool b5, .int .u64 x6, .slice a7 n7 c7, .slice a8 n8 c8, .slice a9 n9 c9] 34) (fun _ => false) Xg2 ?_
    refine z 0 21 (Vm43) ?_
    refine z 1 22 (pq g2 5) ?_
    refine zl 2 23 (.bool b5) (fun _ h => h) 5 ?_
    refine z 4 25 (pq g2 6) ?_
    refine zl 5 26 (.int .u64 x6) (fun _ h => h) 6 ?_
    refine gz_ready [3, 6] ?_
    refine ga_call 3 (some 24) 70 #[Vm43, .bool b5] (rf8 (is := b5) m43 BB.size (Nat.le_trans bm43 (Nat.le_of_ble_eq_true rfl))) ?_ ?_
    · rintro _ v46 ⟨Vm45, rfl, m45, Y⟩
      replace BB := Byt.below Y BB (Nat.le_refl _) (Nat.le_refl _)
      replace Xg2 := Blk.byt Xg2 Y (by decide)
      replace Xg4 := Blk.byt Xg4 Y (by decide)
      replace Xg40 := Blk.byt Xg40 Y (by decide)
      clear m43
      clear Y
      have bm45 := len_app bm43 (len_f8 (if b5 then 1 else 0))
      refine ⟨_, rfl, Xg2, ?_⟩
      refine za 6 27 [.int .u64 x6] 22 (sg 1) ?_
      intro v47 g48 Xg48 hg48 B
      replace BB := joinB BB B
      replace Xg2 := Xg2.keep B
      replace Xg4 := Xg4.keep B
      replace Xg40 := Xg40.keep B
      replace m45 := mineB_keep m45 B
      clear B
      refine ⟨Xg2, ?_⟩
      refine zc 7 28 68 #[Vm45, sg 1 g48] (ru8 (xs := [x6]) m45 BB.size Xg48 (Nat.le_trans bm45 (Nat.le_of_ble_eq_true rfl)) (Nat.le_of_ble_eq_true rfl)) ?_
      rintro _ v50 ⟨Vm49, rfl, m49, Y⟩
      replace BB := Byt.below Y BB (Nat.le_refl _) (Nat.le_refl _)
      replace Xg2 := Blk.byt Xg2 Y (by decide)
      replace Xg4 := Blk.byt Xg4 Y (by decide)
      replace Xg40 := Blk.byt Xg40 Y (by decide)
      clear m45
      replace Xg48 := Blk.byt Xg48 Y (by decide)
      clear Y
      have bm49 := len_app bm45 (len_u8 [x6])
      refine ⟨_, rfl, Xg2, ?_⟩
      refine z 8 3 (Vm49) ?_
      refine gz_done ?_
      refine ge_then ?_
      refine gc_seq ?_
      replace BB := BB.drew
      replace Xg2 := Xg2.drew
      replace Xg4 := Xg4.drew
      replace Xg40 := Xg40.drew
      replace Xg48 := Xg48.drew
      replace m49 := mineB_keep m49 (Below.refl _ _).drew
      refine gc_draw (fun w' => Blk w' g2 [.int .u64 x0, .int .u64 x1, .slice a2 n2 c2, .bool b3, .int .u64 x4, .bool b5, .int .u64 x6, .slice a7 n7 c7, .slice a8 n8 c8, .slice a9 n9 c9] 34) (fun _ => false) Xg2 ?_
      refine z 0 29 (Vm49) ?_
      refine z 1 30 (pq g2 7) ?_
      refine zlr 2 31 [.slice a7 n7 c7] (fun _ h => h) 7 ?_
      refine z 4 33 (pq g2 8) ?_
      refine zlr 5 34 [.slice a8 n8 c8] (fun _ h => h) 8 ?_
      refine z 7 36 (pq g2 9) ?_
      refine zlr 8 37 [.slice a9 n9 c9] (fun _ h => h) 9 ?_
      refine zc 3 32 69 #[Vm49, .agg #[.slice a7 n7 c7]] (rd8 m49 BB.size (Nat.le_trans bm49 (Nat.le_of_ble_eq_true rfl)) (h7.keep BB) m7) ?_
      rintro _ v52 ⟨Vm51, rfl, m51, Y⟩
      replace BB := Byt.below Y BB (Nat.le_refl _) (Nat.le_refl _)
      replace Xg2 := Blk.byt Xg2 Y (by decide)
      replace Xg4 := Blk.byt Xg4 Y (by decide)
      replace Xg40 := Blk.byt Xg40 Y (by decide)
      replace Xg48 := Blk.byt Xg48 Y (by decide)
      clear m49
      clear Y
      have bm51 := len_app bm49 (len_d8 x7)
      refine ⟨_, rfl, Xg2, ?_⟩
      refine zc 6 35 69 #[Vm51, .agg #[.slice a8 n8 c8]] (rd8 m51 BB.size (Nat.le_trans bm51 (Nat.le_of_ble_eq_true rfl)) (h8.keep BB) m8) ?_
      rintro _ v54 ⟨Vm53, rfl, m53, Y⟩
      replace BB := Byt.below Y BB (Nat.le_refl _) (Nat.le_refl _)
      replace Xg2 := Blk.byt Xg2 Y (by decide)
      replace Xg4 := Blk.byt Xg4 Y (by decide)
      replace Xg40 := Blk.byt Xg40 Y (by decide)
      replace Xg48 := Blk.byt Xg48 Y (by decide)
      clear m51
      clear Y
      have bm53 := len_app bm51 (len_d8 x8)
      refine ⟨_, rfl, Xg2, ?_⟩
      refine zc 9 38 69 #[Vm53, .agg #[.slice a9 n9 c9]] (rd8 m53 BB.size (Nat.le_trans bm53 (Nat.le_of_ble_eq_true rfl)) (h9.keep BB) m9) ?_
      rintro _ v56 ⟨Vm55, rfl, m55, Y⟩
      replace BB := Byt.below Y BB (Nat.le_refl _) (Nat.le_refl _)
      replace Xg2 := Blk.byt Xg2 Y (by decide)
      replace Xg4 := Blk.byt Xg4 Y (by decide)
      replace Xg40 := Blk.byt Xg40 Y (by decide)
      replace Xg48 := Blk.byt Xg48 Y (by decide)
      clear m53
      clear Y
      have bm55 := len_app bm53 (len_d8 x9)
      refine ⟨_, rfl, Xg2, ?_⟩
      refine z 10 2 (Vm55) ?_
      refine gz_done ?_
      refine ge_then ?_
      refine gc_fr [(2, Vm55)] (by kernel_rfl) ?_
      refine gc_ret ?_
      refine ge_ret (Vm55) (rs1 2 (by kernel_rfl) (by kernel_rfl)) ?_
      exact ⟨_, rfl, by simpa [thr, pnx, enc1] using m55, BB⟩
    refine zaa 6 27 [.int .u64 x6] 22 (sg 1) ?_ ?_
    · intro v57 g58 Xg58 hg58 B
      replace BB := joinB BB B
      replace Xg2 := Xg2.keep B
      replace Xg4 := Xg4.keep B
      replace Xg40 := Xg40.keep B
      replace m43 := mineB_keep m43 B
      clear B
      refine ⟨Xg2, ?_⟩
      refine zc 3 24 70 #[Vm43, .bool b5] (rf8 (is := b5) m43 BB.size (Nat.le_trans bm43 (Nat.le_of_ble_eq_true rfl))) ?_
      rintro _ v60 ⟨Vm59, rfl, m59, Y⟩
      replace BB := Byt.below Y BB (Nat.le_refl _) (Nat.le_refl _)
      replace Xg2 := Blk.byt Xg2 Y (by decide)
      replace Xg4 := Blk.byt Xg4 Y (by decide)
      replace Xg40 := Blk.byt Xg40 Y (by decide)
      clear m43
      replace Xg58 := Blk.byt Xg58 Y (by decide)
      clear Y
      have bm59 := len_app bm43 (len_f8 (if b5 then 1 else 0))
      refine ⟨_, rfl, Xg2, ?_⟩
      refine zc 7 28 68 #[Vm59, sg 1 g58] (ru8 (xs := [x6]) m59 BB.size Xg58 (Nat.le_trans bm59 (Nat.le_of_ble_eq_true rfl)) (Nat.le_of_ble_eq_true rfl)) ?_
      rintro _ v62 ⟨Vm61, rfl, m61, Y⟩
      replace BB := Byt.below Y BB (Nat.le_refl _) (Nat.le_refl _)
      replace Xg2 := Blk.byt Xg2 Y (by decide)
      replace Xg4 := Blk.byt Xg4 Y (by decide)
      replace Xg40 := Blk.byt Xg40 Y (by decide)
      replace Xg58 := Blk.byt Xg58 Y (by decide)
      clear m59
      clear Y
      have bm61 := len_app bm59 (len_u8 [x6])
      refine ⟨_, rfl, Xg2, ?_⟩
      refine z 8 3 (Vm61) ?_
      refine gz_done ?_
      refine ge_then ?_
      refine gc_seq ?_
      replace BB := BB.drew
      replace Xg2 := Xg2.drew
      replace Xg4 := Xg4.drew
      replace Xg40 := Xg40.drew
      replace Xg58 := Xg58.drew
      replace m61 := mineB_keep m61 (Below.refl _ _).drew
      refine gc_draw (fun w' => Blk w' g2 [.int .u64 x0, .int .u64 x1, .slice a2 n2 c2, .bool b3, .int .u64 x4, .bool b5, .int .u64 x6, .slice a7 n7 c7, .slice a8 n8 c8, .slice a9 n9 c9] 34) (fun _ => false) Xg2 ?_
      refine z 0 29 (Vm61) ?_
      refine z 1 30 (pq g2 7) ?_
      refine zlr 2 31 [.slice a7 n7 c7] (fun _ h => h) 7 ?_
      refine z 4 33 (pq g2 8) ?_
      refine zlr 5 34 [.slice a8 n8 c8] (fun _ h => h) 8 ?_
      refine z 7 36 (pq g2 9) ?_
      refine zlr 8 37 [.slice a9 n9 c9] (fun _ h => h) 9 ?_
      refine zc 3 32 69 #[Vm61, .agg #[.slice a7 n7 c7]] (rd8 m61 BB.size (Nat.le_trans bm61 (Nat.le_of_ble_eq_true rfl)) (h7.keep BB) m7) ?_
      rintro _ v64 ⟨Vm63, rfl, m63, Y⟩
      replace BB := Byt.below Y BB (Nat.le_refl _) (Nat.le_refl _)
      replace Xg2 := Blk.byt Xg2 Y (by decide)
      replace Xg4 := Blk.byt Xg4 Y (by decide)
      replace Xg40 := Blk.byt Xg40 Y (by decide)
      replace Xg58 := Blk.byt Xg58 Y (by decide)
      clear m61
      clear Y
      have bm63 := len_app bm61 (len_d8 x7)
      refine ⟨_, rfl, Xg2, ?_⟩
      refine zc 6 35 69 #[Vm63, .agg #[.slice a8 n8 c8]] (rd8 m63 BB.size (Nat.le_trans bm63 (Nat.le_of_ble_eq_true rfl)) (h8.keep BB) m8) ?_
      rintro _ v66 ⟨Vm65, rfl, m65, Y⟩
      replace BB := Byt.below Y BB (Nat.le_refl _) (Nat.le_refl _)
      replace Xg2 := Blk.byt Xg2 Y (by decide)
      replace Xg4 := Blk.byt Xg4 Y (by decide)
      replace Xg40 := Blk.byt Xg40 Y (by decide)
      replace Xg58 := Blk.byt Xg58 Y (by decide)
      clear m63
      clear Y
      have bm65 := len_app bm63 (len_d8 x8)
      refine ⟨_, rfl, Xg2, ?_⟩
      refine zc 9 38 69 #[Vm65, .agg #[.slice a9 n9 c9]] (rd8 m65 BB.size (Nat.le_trans bm65 (Nat.le_of_ble_eq_true rfl)) (h9.keep BB) m9) ?_
      rintro _ v68 ⟨Vm67, rfl, m67, Y⟩
      replace BB := Byt.below Y BB (Nat.le_refl _) (Nat.le_refl _)
      replace Xg2 := Blk.byt Xg2 Y (by decide)
      replace Xg4 := Blk.byt Xg4 Y (by decide)
      replace Xg40 := Blk.byt Xg40 Y (by decide)
      replace Xg58 := Blk.byt Xg58 Y (by decide)
      clear m65
      clear Y
      have bm67 := len_app bm65 (len_d8 x9)
      refine ⟨_, rfl, Xg2, ?_⟩
      refine z 10 2 (Vm67) ?_
      refine gz_done ?_
      refine ge_then ?_
      refine gc_fr [(2, Vm67)] (by kernel_rfl) ?_
      refine gc_ret ?_
      refine ge_ret (Vm67) (rs1 2 (by kernel_rfl) (by kernel_rfl)) ?_
      exact ⟨_, rfl, by simpa [thr, pnx, enc1] using m67, BB⟩
    exact ga_nil
  exact ga_nil
set_option maxHeartbeats 2000000 in
set_option maxRecDepth 100000 in
theorem rPutDelegation {w : World} {a0 : Option Addr} {n0 c0 : Nat} {x0 : Int} {x1 : Int} {a2 : Option Addr} {n2 c2 : Nat} {x2 : Int} (h0 : NatA w a0 n0 c0 x0) (m0 : n0 ≤ 3000) (h2 : NatA w a2 n2 c2 x2) (m2 : n2 ≤ 3000) :
    Calls Tryz.prog 24 #[.agg #[.slice a0 n0 c0, .int .u64 x1, .slice a2 n2 c2]] w fun e w' => ∃ v, e = .returned v ∧ MineB w' w.heap.size v (thr (pnx (fun o => ([x0, x1, x2] : List Int).getD o 0)) [(2, 0), (0, 1), (2, 2)] []) ∧ Below w.heap.size w w' := by
  have BB := Below.refl w.heap.size w
  refine gc_enter (n := 13) Tryz.func24 rfl (by kernel_rfl) (by kernel_rfl) ?_
  refine gc_seq ?_
  refine gc_reg ?_
  refine ta 1 [.slice a0 n0 c0, .int .u64 x1, .slice a2 n2 c2] 36 (pg) ?_
  intro v1 g2 Xg2 hg2 B
  replace BB := joinB BB B
  clear B
  refine t 2 (.slice none 0 0) ?_
  refine gl_nil ?_
  refine ge_then ?_
  refine gc_seq ?_
  replace BB := BB.drew
  replace Xg2 := Xg2.drew
  refine gc_draw (fun w' => Blk w' g2 [.slice a0 n0 c0, .int .u64 x1, .slice a2 n2 c2] 36) (fun _ => false) Xg2 ?_
  refine z 0 3 (pg g2) ?_
  refine zlr 1 4 [.slice a0 n0 c0] (fun _ h => h) 0 ?_
  refine z 3 6 (pq g2 1) ?_
  refine zl 4 7 (.int .u64 x1) (fun _ h => h) 1 ?_
  refine z 7 10 (pq g2 2) ?_
  refine zlr 8 11 [.slice a2 n2 c2] (fun _ h => h) 2 ?_
  refine gz_ready [2, 5] ?_
  refine ga_call 2 (some 5) 69 #[.slice none 0 0, .agg #[.slice a0 n0 c0]] (rd8 (mine0 _) BB.size (Nat.le_trans len_0 (Nat.le_of_ble_eq_true rfl)) (h0.keep BB) m0) ?_ ?_
  · rintro _ v4 ⟨Vm3, rfl, m3, Y⟩
    replace BB := Byt.below Y BB (Nat.le_refl _) (Nat.le_refl _)
    replace Xg2 := Blk.byt Xg2 Y (by decide)
    clear Y
    have bm3 := len_app len_0 (len_d8 x0)
    refine ⟨_, rfl, Xg2, ?_⟩
    refine za 5 8 [.int .u64 x1] 22 (sg 1) ?_
    intro v5 g6 Xg6 hg6 B
    replace BB := joinB BB B
    replace Xg2 := Xg2.keep B
    replace m3 := mineB_keep m3 B
    clear B
    refine ⟨Xg2, ?_⟩
    refine zc 6 9 68 #[Vm3, sg 1 g6] (ru8 (xs := [x1]) m3 BB.size Xg6 (Nat.le_trans bm3 (Nat.le_of_ble_eq_true rfl)) (Nat.le_of_ble_eq_true rfl)) ?_
    rintro _ v8 ⟨Vm7, rfl, m7, Y⟩
    replace BB := Byt.below Y BB (Nat.le_refl _) (Nat.le_refl _)
    replace Xg2 := Blk.byt Xg2 Y (by decide)
    clear m3
    replace Xg6 := Blk.byt Xg6 Y (by decide)
    clear Y
    have bm7 := len_app bm3 (len_u8 [x1])
    refine ⟨_, rfl, Xg2, ?_⟩
    refine zc 9 12 69 #[Vm7, .agg #[.slice a2 n2 c2]] (rd8 m7 BB.size (Nat.le_trans bm7 (Nat.le_of_ble_eq_true rfl)) (h2.keep BB) m2) ?_
    rintro _ v10 ⟨Vm9, rfl, m9, Y⟩
    replace BB := Byt.below Y BB (Nat.le_refl _) (Nat.le_refl _)
    replace Xg2 := Blk.byt Xg2 Y (by decide)
    replace Xg6 := Blk.byt Xg6 Y (by decide)
    clear m7
    clear Y
    have bm9 := len_app bm7 (len_d8 x2)
    refine ⟨_, rfl, Xg2, ?_⟩
    refine z 10 2 (Vm9) ?_
    refine gz_done ?_
    refine ge_then ?_
    refine gc_fr [(2, Vm9)] (by kernel_rfl) ?_
    refine gc_ret ?_
    refine ge_ret (Vm9) (rs1 2 (by kernel_rfl) (by kernel_rfl)) ?_
    exact ⟨_, rfl, by simpa [thr, pnx, enc1] using m9, BB⟩
  refine zaa 5 8 [.int .u64 x1] 22 (sg 1) ?_ ?_
  · intro v11 g12 Xg12 hg12 B
    replace BB := joinB BB B
    replace Xg2 := Xg2.keep B
    clear B
    refine ⟨Xg2, ?_⟩
    refine zc 2 5 69 #[.slice none 0 0, .agg #[.slice a0 n0 c0]] (rd8 (mine0 _) BB.size (Nat.le_trans len_0 (Nat.le_of_ble_eq_true rfl)) (h0.keep BB) m0) ?_
    rintro _ v14 ⟨Vm13, rfl, m13, Y⟩
    replace BB := Byt.below Y BB (Nat.le_refl _) (Nat.le_refl _)
    replace Xg2 := Blk.byt Xg2 Y (by decide)
    replace Xg12 := Blk.byt Xg12 Y (by decide)
    clear Y
    have bm13 := len_app len_0 (len_d8 x0)
    refine ⟨_, rfl, Xg2, ?_⟩
    refine zc 6 9 68 #[Vm13, sg 1 g12] (ru8 (xs := [x1]) m13 BB.size Xg12 (Nat.le_trans bm13 (Nat.le_of_ble_eq_true rfl)) (Nat.le_of_ble_eq_true rfl)) ?_
    rintro _ v16 ⟨Vm15, rfl, m15, Y⟩
    replace BB := Byt.below Y BB (Nat.le_refl _) (Nat.le_refl _)
    replace Xg2 := Blk.byt Xg2 Y (by decide)
    replace Xg12 := Blk.byt Xg12 Y (by decide)
    clear m13
    clear Y
    have bm15 := len_app bm13 (len_u8 [x1])
    refine ⟨_, rfl, Xg2, ?_⟩
    refine zc 9 12 69 #[Vm15, .agg #[.slice a2 n2 c2]] (rd8 m15 BB.size (Nat.le_trans bm15 (Nat.le_of_ble_eq_true rfl)) (h2.keep BB) m2) ?_
    rintro _ v18 ⟨Vm17, rfl, m17, Y⟩
    replace BB := Byt.below Y BB (Nat.le_refl _) (Nat.le_refl _)
    replace Xg2 := Blk.byt Xg2 Y (by decide)
    replace Xg12 := Blk.byt Xg12 Y (by decide)
    clear m15
    clear Y
    have bm17 := len_app bm15 (len_d8 x2)
    refine ⟨_, rfl, Xg2, ?_⟩
    refine z 10 2 (Vm17) ?_
    refine gz_done ?_
    refine ge_then ?_
    refine gc_fr [(2, Vm17)] (by kernel_rfl) ?_
    refine gc_ret ?_
    refine ge_ret (Vm17) (rs1 2 (by kernel_rfl) (by kernel_rfl)) ?_
    exact ⟨_, rfl, by simpa [thr, pnx, enc1] using m17, BB⟩
  exact ga_nil
set_option maxHeartbeats 2000000 in
set_option maxRecDepth 100000 in
theorem rPutHistory {w : World} {a0 : Option Addr} {n0 c0 : Nat} {x0 : Int} {x1 : Int} (h0 : NatA w a0 n0 c0 x0) (m0 : n0 ≤ 3000) :
    Calls Tryz.prog 25 #[.agg #[.slice a0 n0 c0, .int .u64 x1]] w fun e w' => ∃ v, e = .returned v ∧ MineB w' w.heap.size v (thr (pnx (fun o => ([x0, x1] : List Int).getD o 0)) [(2, 0), (0, 1)] []) ∧ Below w.heap.size w w' := by
  have BB := Below.refl w.heap.size w
  refine gc_enter (n := 10) Tryz.func25 rfl (by kernel_rfl) (by kernel_rfl) ?_
  refine gc_seq ?_
  refine gc_reg ?_
  refine ta 1 [.slice a0 n0 c0, .int .u64 x1] 38 (pg) ?_
  intro v1 g2 Xg2 hg2 B
  replace BB := joinB BB B
  clear B
  refine t 2 (.slice none 0 0) ?_
  refine gl_nil ?_
  refine ge_then ?_
  refine gc_seq ?_
  replace BB := BB.drew
  replace Xg2 := Xg2.drew
  refine gc_draw (fun w' => Blk w' g2 [.slice a0 n0 c0, .int .u64 x1] 38) (fun _ => false) Xg2 ?_
  refine z 0 3 (pg g2) ?_
  refine zlr 1 4 [.slice a0 n0 c0] (fun _ h => h) 0 ?_
  refine z 3 6 (pq g2 1) ?_
  refine zl 4 7 (.int .u64 x1) (fun _ h => h) 1 ?_
  refine gz_ready [2, 5] ?_
  refine ga_call 2 (some 5) 69 #[.slice none 0 0, .agg #[.slice a0 n0 c0]] (rd8 (mine0 _) BB.size (Nat.le_trans len_0 (Nat.le_of_ble_eq_true rfl)) (h0.keep BB) m0) ?_ ?_
  · rintro _ v4 ⟨Vm3, rfl, m3, Y⟩
    replace BB := Byt.below Y BB (Nat.le_refl _) (Nat.le_refl _)
    replace Xg2 := Blk.byt Xg2 Y (by decide)
    clear Y
    have bm3 := len_app len_0 (len_d8 x0)
    refine ⟨_, rfl, Xg2, ?_⟩
    refine za 5 8 [.int .u64 x1] 22 (sg 1) ?_
    intro v5 g6 Xg6 hg6 B
    replace BB := joinB BB B
    replace Xg2 := Xg2.keep B
    replace m3 := mineB_keep m3 B
    clear B
    refine ⟨Xg2, ?_⟩
    refine zc 6 9 68 #[Vm3, sg 1 g6] (ru8 (xs := [x1]) m3 BB.size Xg6 (Nat.le_trans bm3 (Nat.le_of_ble_eq_true rfl)) (Nat.le_of_ble_eq_true rfl)) ?_
    rintro _ v8 ⟨Vm7, rfl, m7, Y⟩
    replace BB := Byt.below Y BB (Nat.le_refl _) (Nat.le_refl _)
    replace Xg2 := Blk.byt Xg2 Y (by decide)
    clear m3
    replace Xg6 := Blk.byt Xg6 Y (by decide)
    clear Y
    have bm7 := len_app bm3 (len_u8 [x1])
    refine ⟨_, rfl, Xg2, ?_⟩
    refine z 7 2 (Vm7) ?_
    refine gz_done ?_
    refine ge_then ?_
    refine gc_ret ?_
    refine ge_ret (Vm7) (rs1 2 (by kernel_rfl) (by kernel_rfl)) ?_
    exact ⟨_, rfl, by simpa [thr, pnx, enc1] using m7, BB⟩
  refine zaa 5 8 [.int .u64 x1] 22 (sg 1) ?_ ?_
  · intro v9 g10 Xg10 hg10 B
    replace BB := joinB BB B
    replace Xg2 := Xg2.keep B
    clear B
    refine ⟨Xg2, ?_⟩
    refine zc 2 5 69 #[.slice none 0 0, .agg #[.slice a0 n0 c0]] (rd8 (mine0 _) BB.size (Nat.le_trans len_0 (Nat.le_of_ble_eq_true rfl)) (h0.keep BB) m0) ?_
    rintro _ v12 ⟨Vm11, rfl, m11, Y⟩
    replace BB := Byt.below Y BB (Nat.le_refl _) (Nat.le_refl _)
    replace Xg2 := Blk.byt Xg2 Y (by decide)
    replace Xg10 := Blk.byt Xg10 Y (by decide)
    clear Y
    have bm11 := len_app len_0 (len_d8 x0)
    refine ⟨_, rfl, Xg2, ?_⟩
    refine zc 6 9 68 #[Vm11, sg 1 g10] (ru8 (xs := [x1]) m11 BB.size Xg10 (Nat.le_trans bm11 (Nat.le_of_ble_eq_true rfl)) (Nat.le_of_ble_eq_true rfl)) ?_
    rintro _ v14 ⟨Vm13, rfl, m13, Y⟩
    replace BB := Byt.below Y BB (Nat.le_refl _) (Nat.le_refl _)
    replace Xg2 := Blk.byt Xg2 Y (by decide)
    replace Xg10 := Blk.byt Xg10 Y (by decide)
    clear m11
    clear Y
    have bm13 := len_app bm11 (len_u8 [x1])
    refine ⟨_, rfl, Xg2, ?_⟩
    refine z 7 2 (Vm13) ?_
    refine gz_done ?_
    refine ge_then ?_
    refine gc_ret ?_
    refine ge_ret (Vm13) (rs1 2 (by kernel_rfl) (by kernel_rfl)) ?_
    exact ⟨_, rfl, by simpa [thr, pnx, enc1] using m13, BB⟩
  exact ga_nil
set_option maxHeartbeats 2000000 in
set_option maxRecDepth 100000 in
theorem rPutCut {w : World} {x0 : Int} {x1 : Int}  :
    Calls Tryz.prog 26 #[.agg #[.int .u64 x0, .int .u64 x1]] w fun e w' => ∃ v, e = .returned v ∧ MineB w' w.heap.size v (thr (pnx (fun o => ([x0, x1] : List Int).getD o 0)) [(0, 0), (0, 1)] []) ∧ Below w.heap.size w w' := by
  have BB := Below.refl w.heap.size w
  refine gc_enter (n := 9) Tryz.func26 rfl (by kernel_rfl) (by kernel_rfl) ?_
  refine gc_seq ?_
  refine gc_reg ?_
  refine ta 1 [.int .u64 x0, .int .u64 x1] 40 (pg) ?_
  intro v1 g2 Xg2 hg2 B
  replace BB := joinB BB B
  clear B
  refine t 2 (.slice none 0 0) ?_
  refine gl_nil ?_
  refine ge_then ?_
  refine gc_seq ?_
  refine gc_reg ?_
  refine t 3 (pg g2) ?_
  refine tl 4 (.int .u64 x0) Xg2 0 ?_
  refine t 5 (pq g2 1) ?_
  refine tl 6 (.int .u64 x1) Xg2 1 ?_
  refine ta 7 [.int .u64 x0, .int .u64 x1] 22 (sg 2) ?_
  intro v3 g4 Xg4 hg4 B
  replace BB := joinB BB B
  replace Xg2 := Xg2.keep B
  clear B
  refine tc 8 68 #[.slice none 0 0, sg 2 g4] (ru8 (xs := [x0, x1]) (mine0 _) BB.size Xg4 (Nat.le_trans len_0 (Nat.le_of_ble_eq_true rfl)) (Nat.le_of_ble_eq_true rfl)) ?_
  rintro _ v6 ⟨Vm5, rfl, m5, Y⟩
  refine ⟨_, rfl, ?_⟩
  replace BB := Byt.below Y BB (Nat.le_refl _) (Nat.le_refl _)
  replace Xg2 := Blk.byt Xg2 Y (by decide)
  replace Xg4 := Blk.byt Xg4 Y (by decide)
  clear Y
  have bm5 := len_app len_0 (len_u8 [x0, x1])
  refine t 2 (Vm5) ?_
  refine gl_nil ?_
  refine ge_then ?_
  refine gc_ret ?_
  refine ge_ret (Vm5) (rs1 2 (by kernel_rfl) (by kernel_rfl)) ?_
  exact ⟨_, rfl, by simpa [thr, pnx, enc1] using m5, BB⟩
set_option maxHeartbeats 2000000 in
set_option maxRecDepth 100000 in
theorem rPutUnbonding {w : World} {x0 : Int} {x1 : Int} {x2 : Int} {x3 : Int} {x4 : Int} {x5 : Int}  :
    Calls Tryz.prog 27 #[.agg #[.int .u64 x0, .int .u64 x1, .int .u64 x2, .int .u64 x3, .int .u64 x4, .int .u64 x5]] w fun e w' => ∃ v, e = .returned v ∧ MineB w' w.heap.size v (thr (pnx (fun o => ([x0, x1, x2, x3, x4, x5] : List Int).getD o 0)) [(0, 0), (0, 1), (0, 2), (0, 3), (0, 4), (0, 5)] []) ∧ Below w.heap.size w w' := by
  have BB := Below.refl w.heap.size w
  refine gc_enter (n := 17) Tryz.func27 rfl (by kernel_rfl) (by kernel_rfl) ?_
  refine gc_seq ?_
  refine gc_reg ?_
  refine ta 1 [.int .u64 x0, .int .u64 x1, .int .u64 x2, .int .u64 x3, .int .u64 x4, .int .u64 x5] 42 (pg) ?_
  intro v1 g2 Xg2 hg2 B
  replace BB := joinB BB B
  clear B
  refine t 2 (.slice none 0 0) ?_
  refine gl_nil ?_
  refine ge_then ?_
  refine gc_seq ?_
  refine gc_reg ?_
  refine t 3 (pg g2) ?_
  refine tl 4 (.int .u64 x0) Xg2 0 ?_
  refine t 5 (pq g2 1) ?_
  refine tl 6 (.int .u64 x1) Xg2 1 ?_
  refine t 7 (pq g2 2) ?_
  refine tl 8 (.int .u64 x2) Xg2 2 ?_
  refine t 9 (pq g2 3) ?_
  refine tl 10 (.int .u64 x3) Xg2 3 ?_
  refine t 11 (pq g2 4) ?_
  refine tl 12 (.int .u64 x4) Xg2 4 ?_
  refine t 13 (pq g2 5) ?_
  refine tl 14 (.int .u64 x5) Xg2 5 ?_
  refine ta 15 [.int .u64 x0, .int .u64 x1, .int .u64 x2, .int .u64 x3, .int .u64 x4, .int .u64 x5] 22 (sg 6) ?_
  intro v3 g4 Xg4 hg4 B
  replace BB := joinB BB B
  replace Xg2 := Xg2.keep B
  clear B
  refine tc 16 68 #[.slice none 0 0, sg 6 g4] (ru8 (xs := [x0, x1, x2, x3, x4, x5]) (mine0 _) BB.size Xg4 (Nat.le_trans len_0 (Nat.le_of_ble_eq_true rfl)) (Nat.le_of_ble_eq_true rfl)) ?_
  rintro _ v6 ⟨Vm5, rfl, m5, Y⟩
  refine ⟨_, rfl, ?_⟩
  replace BB := Byt.below Y BB (Nat.le_refl _) (Nat.le_refl _)
  replace Xg2 := Blk.byt Xg2 Y (by decide)
  replace Xg4 := Blk.byt Xg4 Y (by decide)
  clear Y
  have bm5 := len_app len_0 (len_u8 [x0, x1, x2, x3, x4, x5])
  refine t 2 (Vm5) ?_
  refine gl_nil ?_
  refine ge_then ?_
  refine gc_fr [(2, Vm5)] (by kernel_rfl) ?_
  refine gc_ret ?_
  refine ge_ret (Vm5) (rs1 2 (by kernel_rfl) (by kernel_rfl)) ?_
  exact ⟨_, rfl, by simpa [thr, pnx, enc1] using m5, BB⟩
set_option maxHeartbeats 2000000 in
set_option maxRecDepth 100000 in
theorem rPutMove {w : World} {x0 : Int} {x1 : Int} {x2 : Int} {x3 : Int} {x4 : Int} {x5 : Int} {a6 : Option Addr} {n6 c6 : Nat} {x6 : Int} (h6 : NatA w a6 n6 c6 x6) (m6 : n6 ≤ 3000) :
    Calls Tryz.prog 28 #[.agg #[.int .u64 x0, .int .u64 x1, .int .u64 x2, .int .u64 x3, .int .u64 x4, .int .u64 x5, .slice a6 n6 c6]] w fun e w' => ∃ v, e = .returned v ∧ MineB w' w.heap.size v (thr (pnx (fun o => ([x0, x1, x2, x3, x4, x5, x6] : List Int).getD o 0)) [(0, 0), (0, 1), (0, 2), (0, 3), (0, 4), (0, 5), (2, 6)] []) ∧ Below w.heap.size w w' := by
  have BB := Below.refl w.heap.size w
  refine gc_enter (n := 20) Tryz.func28 rfl (by kernel_rfl) (by kernel_rfl) ?_
  refine gc_seq ?_
  refine gc_reg ?_
  refine ta 1 [.int .u64 x0, .int .u64 x1, .int .u64 x2, .int .u64 x3, .int .u64 x4, .int .u64 x5, .slice a6 n6 c6] 44 (pg) ?_
  intro v1 g2 Xg2 hg2 B
  replace BB := joinB BB B
  clear B
  refine t 2 (.slice none 0 0) ?_
  refine gl_nil ?_
  refine ge_then ?_
  refine gc_seq ?_
  replace BB := BB.drew
  replace Xg2 := Xg2.drew
  refine gc_draw (fun w' => Blk w' g2 [.int .u64 x0, .int .u64 x1, .int .u64 x2, .int .u64 x3, .int .u64 x4, .int .u64 x5, .slice a6 n6 c6] 44) (fun _ => false) Xg2 ?_
  refine z 0 3 (pg g2) ?_
  refine zl 1 4 (.int .u64 x0) (fun _ h => h) 0 ?_
  refine z 2 5 (pq g2 1) ?_
  refine zl 3 6 (.int .u64 x1) (fun _ h => h) 1 ?_
  refine z 4 7 (pq g2 2) ?_
  refine zl 5 8 (.int .u64 x2) (fun _ h => h) 2 ?_
  refine z 6 9 (pq g2 3) ?_
  refine zl 7 10 (.int .u64 x3) (fun _ h => h) 3 ?_
  refine z 8 11 (pq g2 4) ?_
  refine zl 9 12 (.int .u64 x4) (fun _ h => h) 4 ?_
  refine z 10 13 (pq g2 5) ?_
  refine zl 11 14 (.int .u64 x5) (fun _ h => h) 5 ?_
  refine z 14 17 (pq g2 6) ?_
  refine zlr 15 18 [.slice a6 n6 c6] (fun _ h => h) 6 ?_
  refine za 12 15 [.int .u64 x0, .int .u64 x1, .int .u64 x2, .int .u64 x3, .int .u64 x4, .int .u64 x5] 22 (sg 6) ?_
  intro v3 g4 Xg4 hg4 B
  replace BB := joinB BB B
  replace Xg2 := Xg2.keep B
  clear B
  refine ⟨Xg2, ?_⟩
  refine zc 13 16 68 #[.slice none 0 0, sg 6 g4] (ru8 (xs := [x0, x1, x2, x3, x4, x5]) (mine0 _) BB.size Xg4 (Nat.le_trans len_0 (Nat.le_of_ble_eq_true rfl)) (Nat.le_of_ble_eq_true rfl)) ?_
  rintro _ v6 ⟨Vm5, rfl, m5, Y⟩
  replace BB := Byt.below Y BB (Nat.le_refl _) (Nat.le_refl _)
  replace Xg2 := Blk.byt Xg2 Y (by decide)
  replace Xg4 := Blk.byt Xg4 Y (by decide)
  clear Y
  have bm5 := len_app len_0 (len_u8 [x0, x1, x2, x3, x4, x5])
  refine ⟨_, rfl, Xg2, ?_⟩
  refine zc 16 19 69 #[Vm5, .agg #[.slice a6 n6 c6]] (rd8 m5 BB.size (Nat.le_trans bm5 (Nat.le_of_ble_eq_true rfl)) (h6.keep BB) m6) ?_
  rintro _ v8 ⟨Vm7, rfl, m7, Y⟩
  replace BB := Byt.below Y BB (Nat.le_refl _) (Nat.le_refl _)
  replace Xg2 := Blk.byt Xg2 Y (by decide)
  replace Xg4 := Blk.byt Xg4 Y (by decide)
  clear m5
  clear Y
  have bm7 := len_app bm5 (len_d8 x6)
  refine ⟨_, rfl, Xg2, ?_⟩
  refine z 17 2 (Vm7) ?_
  refine gz_done ?_
  refine ge_then ?_
  refine gc_fr [(2, Vm7)] (by kernel_rfl) ?_
  refine gc_ret ?_
  refine ge_ret (Vm7) (rs1 2 (by kernel_rfl) (by kernel_rfl)) ?_
  exact ⟨_, rfl, by simpa [thr, pnx, enc1] using m7, BB⟩
set_option maxHeartbeats 2000000 in
set_option maxRecDepth 100000 in
theorem rPutNumber {w : World} {x0 : Int}  :
    Calls Tryz.prog 29 #[.int .u64 x0] w fun e w' => ∃ v, e = .returned v ∧ MineB w' w.heap.size v (thr (pnx (fun o => ([x0] : List Int).getD o 0)) [(0, 0)] []) ∧ Below w.heap.size w w' := by
  have BB := Below.refl w.heap.size w
  refine gc_enter (n := 6) Tryz.func29 rfl (by kernel_rfl) (by kernel_rfl) ?_
  refine gc_seq ?_
  refine gc_reg ?_
  refine t 2 (.slice none 0 0) ?_
  refine gl_nil ?_
  refine ge_then ?_
  refine gc_seq ?_
  refine gc_reg ?_
  refine t 3 (.int .u64 x0) ?_
  refine ta 4 [.int .u64 x0] 22 (sg 1) ?_
  intro v1 g2 Xg2 hg2 B
  replace BB := joinB BB B
  clear B
  refine tc 5 68 #[.slice none 0 0, sg 1 g2] (ru8 (xs := [x0]) (mine0 _) BB.size Xg2 (Nat.le_trans len_0 (Nat.le_of_ble_eq_true rfl)) (Nat.le_of_ble_eq_true rfl)) ?_
  rintro _ v4 ⟨Vm3, rfl, m3, Y⟩
  refine ⟨_, rfl, ?_⟩
  replace BB := Byt.below Y BB (Nat.le_refl _) (Nat.le_refl _)
  replace Xg2 := Blk.byt Xg2 Y (by decide)
  clear Y
  have bm3 := len_app len_0 (len_u8 [x0])
  refine t 2 (Vm3) ?_
  refine gl_nil ?_
  refine ge_then ?_
  refine gc_ret ?_
  refine ge_ret (Vm3) (rs1 2 (by kernel_rfl) (by kernel_rfl)) ?_
  exact ⟨_, rfl, by simpa [thr, pnx, enc1] using m3, BB⟩
end Rc
end Go.Proofs.YtenlhceceplldaaGreat

namespace Go.Proofs.YtenlhceceplldaaGreat
namespace Rc
open Go.RowKit Go.Lib Pg Lim Gl
theorem bytT {w : World} {b0 b1 n0 c0 n1 c1 : Nat} {a0 a1 : Option Addr} {l : List Int} (h0 : ByA w b0 a0 n0 c0 l) (h1 : ByA w b1 a1 n1 c1 l) (hn0 : n0 ≤ 4398046511104) (hn1 : n1 ≤ 4398046511104) :
    Calls Tryz.prog 35 #[.slice a0 n0 c0, .slice a1 n1 c1] w fun e w' => e = .returned (.bool true) ∧ Below w.heap.size w w' := by
  have h := bSame h0 h1 hn0 hn1
  have e : eqB l l = true := by simp [eqB]
  rw [e] at h
  exact h
set_option maxRecDepth 100000 in
theorem items_any {w : World} {g1 g2 m : Nat} {vs us : List Value} (X : Blk w g1 vs 49) (Y : Blk w g2 us 49) (hm : m ≤ 1000) (h : ∀ i, i < m → ∃ b1 a1 n1 c1 b2 a2 n2 c2 l, vs[i]? = some (.slice a1 n1 c1) ∧ us[i]? = some (.slice a2 n2 c2) ∧ ByA w b1 a1 n1 c1 l ∧ ByA w b2 a2 n2 c2 l ∧ n1 ≤ 4398046511104 ∧ n2 ≤ 4398046511104) :
    Calls Tryz.prog 30 #[sg m g1, sg m g2] w fun e w' => e = .returned (.bool true) ∧ Below w.heap.size w w' := by
  have BB := Below.refl w.heap.size w
  have X0 := X
  have Y0 := Y
  refine gc_enter (n := 27) Tryz.func30 rfl (by kernel_rfl) (by kernel_rfl) ?_
  refine gc_seq ?_
  refine gc_reg ?_
  refine t 4 (.bool false) ?_
  refine gl_nil ?_
  refine ge_then ?_
  refine gc_seq ?_
  refine gc_seq ?_
  refine gc_reg ?_
  refine t 6 (sg m g1) ?_
  refine t 7 (.int .i64 ((m : Nat) : Int)) ?_
  refine t 8 (sg m g2) ?_
  refine t 9 (.int .i64 ((m : Nat) : Int)) ?_
  refine tq 10 (.bool (((m : Nat) : Int) != ((m : Nat) : Int))) (.bool false) (congrArg Value.bool (bne_self_eq_false _)) ?_
  refine gl_nil ?_
  refine ge_then ?_
  refine gc_no ?_
  refine gc_skip ?_
  refine ge_then ?_
  refine gc_seq ?_
  refine gc_seq ?_
  refine gc_reg ?_
  refine t 5 (.int .i64 0) ?_
  refine gl_nil ?_
  refine ge_then ?_
  refine gc_block ?_
  refine gc_loop (fun k => m - k) (fun (k : Nat) => [(0, sg m g1), (1, sg m g2), (5, .int .i64 (k : Int))]) (fun k w' => k ≤ m ∧ Below w.heap.size w w') 0 ⟨Nat.zero_le _, BB⟩ (by kernel_rfl) ?_
  clear BB
  clear X
  clear Y
  rintro k v1 ⟨hkm, BB⟩
  have X := X0.keep BB
  have Y := Y0.keep BB
  refine gc_seq ?_
  refine gc_seq ?_
  refine gc_reg ?_
  refine t 11 (.int .i64 (k : Int)) ?_
  refine t 12 (sg m g1) ?_
  refine t 13 (.int .i64 ((m : Nat) : Int)) ?_
  by_cases ck : (k : Int) < ((m : Nat) : Int)
  · have hk : k < m := by omega
    obtain ⟨b1, a1, n1, c1, b2, a2, n2, c2, l, q1, q2, A1, A2, l1, l2⟩ := h k hk
    refine tq 14 (.bool (decide ((k : Int) < ((m : Nat) : Int)))) (.bool true) (congrArg Value.bool (decide_eq_true ck)) ?_
    refine gl_nil ?_
    refine ge_then ?_
    refine gc_yes ?_
    refine gc_skip ?_
    refine ge_then ?_
    refine gc_seq ?_
    refine gc_block ?_
    refine gc_seq ?_
    replace BB := BB.drew
    replace X := X.drew
    replace Y := Y.drew
    refine gc_draw (fun w' => Blk w' g1 vs 49 ∧ Blk w' g2 us 49) (fun _ => false) ⟨X, Y⟩ ?_
    refine z 0 17 (sg m g1) ?_
    refine z 1 18 (.int .i64 (k : Int)) ?_
    refine zr 2 19 (pq g1 k) (fun _ _ => congr_v (by simp) (run_ixs 1 g1 0 m m k hk)) ?_
    refine zl 3 20 (.slice a1 n1 c1) (fun _ h => h.1) k (hv := q1) ?_
    refine z 4 21 (sg m g2) ?_
    refine z 5 22 (.int .i64 (k : Int)) ?_
    refine zr 6 23 (pq g2 k) (fun _ _ => congr_v (by simp) (run_ixs 1 g2 0 m m k hk)) ?_
    refine zl 7 24 (.slice a2 n2 c2) (fun _ h => h.2) k (hv := q2) ?_
    refine zc 8 25 35 #[.slice a1 n1 c1, .slice a2 n2 c2] (bytT (A1.keep BB) (A2.keep BB) l1 l2) ?_
    rintro _ v2 ⟨rfl, B⟩
    replace BB := joinB BB B
    replace X := X.keep B
    replace Y := Y.keep B
    clear B
    refine ⟨_, rfl, ⟨X, Y⟩, ?_⟩
    refine z 9 26 (.bool false) ?_
    refine gz_done ?_
    refine ge_then ?_
    refine gc_fr [(0, sg m g1), (1, sg m g2), (5, .int .i64 (k : Int)), (11, .int .i64 (k : Int)), (12, sg m g1), (13, .int .i64 ((m : Nat) : Int)), (14, .bool true), (17, sg m g1), (18, .int .i64 (k : Int)), (19, pq g1 k), (20, .slice a1 n1 c1), (21, sg m g2), (22, .int .i64 (k : Int)), (23, pq g2 k), (24, .slice a2 n2 c2), (25, .bool true), (26, .bool false)] (by kernel_rfl) ?_
    refine gc_no ?_
    refine gc_skip ?_
    refine ge_bn ?_
    refine ge_then ?_
    refine gc_reg ?_
    refine t 15 (.int .i64 (k : Int)) ?_
    refine tq 16 (.int .i64 (IntKind.i64.wrap ((k : Int) + 1))) (.int .i64 ((k : Int) + 1)) (wi (by omega)) ?_
    refine t 5 (.int .i64 ((k : Int) + 1)) ?_
    refine gl_nil ?_
    exact ge_round (k + 1) (by omega) ⟨by omega, BB⟩ (by kernel_rfl)
  · refine tq 14 (.bool (decide ((k : Int) < ((m : Nat) : Int)))) (.bool false) (congrArg Value.bool (decide_eq_false ck)) ?_
    refine gl_nil ?_
    refine ge_then ?_
    refine gc_no ?_
    refine gc_exit ?_
    refine ge_tx ?_
    refine ge_tx ?_
    refine ge_bx ?_
    refine ge_then ?_
    refine gc_seq ?_
    refine gc_reg ?_
    refine t 4 (.bool true) ?_
    refine gl_nil ?_
    refine ge_then ?_
    refine gc_ret ?_
    refine ge_ret (.bool true) (rs1 4 (by kernel_rfl) (by kernel_rfl)) ?_
    exact ⟨rfl, BB⟩
def recL (xs : Nat → Int) (aa : Nat → Option Addr) (ns cc : Nat → Nat) (ts : Nat → Bool) : List Value := [.int .u64 (xs 0), .int .u64 (xs 1), .int .u64 (xs 2), .int .u64 (xs 3), .int .u64 (xs 4), .int .u64 (xs 5), .int .u64 (xs 6), .int .u64 (xs 7), .int .u64 (xs 8), .int .u64 (xs 9), .int .u64 (xs 10), .int .u64 (xs 11), .slice (aa 12) (ns 12) (cc 12), .int .u64 (xs 13), .int .u64 (xs 14), .int .u64 (xs 15), .int .u64 (xs 16), .slice (aa 17) (ns 17) (cc 17), .bool (ts 18), .int .u64 (xs 19), .bool (ts 20), .int .u64 (xs 21), .slice (aa 22) (ns 22) (cc 22), .slice (aa 23) (ns 23) (cc 23), .slice (aa 24) (ns 24) (cc 24), .slice (aa 25) (ns 25) (cc 25), .int .u64 (xs 26), .slice (aa 27) (ns 27) (cc 27), .slice (aa 28) (ns 28) (cc 28), .int .u64 (xs 29), .int .u64 (xs 30), .int .u64 (xs 31), .int .u64 (xs 32), .int .u64 (xs 33), .int .u64 (xs 34), .int .u64 (xs 35), .int .u64 (xs 36), .int .u64 (xs 37), .int .u64 (xs 38), .int .u64 (xs 39), .int .u64 (xs 40), .int .u64 (xs 41), .int .u64 (xs 42), .int .u64 (xs 43), .slice (aa 44) (ns 44) (cc 44), .int .u64 (xs 45)]
theorem RecA.list {w : World} {cs : List Value} {xs : Nat → Int} {aa : Nat → Option Addr} {ns cc : Nat → Nat} {ts : Nat → Bool} (R : RecA w cs xs aa ns cc ts) : cs = recL xs aa ns cc ts := by
  have hc := R.len
  obtain ⟨q0, r0⟩ := R.u 0 (by decide)
  obtain ⟨q1, r1⟩ := R.u 1 (by decide)
  obtain ⟨q2, r2⟩ := R.u 2 (by decide)
  obtain ⟨q3, r3⟩ := R.u 3 (by decide)
  obtain ⟨q4, r4⟩ := R.u 4 (by decide)
  obtain ⟨q5, r5⟩ := R.u 5 (by decide)
  obtain ⟨q6, r6⟩ := R.u 6 (by decide)
  obtain ⟨q7, r7⟩ := R.u 7 (by decide)
  obtain ⟨q8, r8⟩ := R.u 8 (by decide)
  obtain ⟨q9, r9⟩ := R.u 9 (by decide)
  obtain ⟨q10, r10⟩ := R.u 10 (by decide)
  obtain ⟨q11, r11⟩ := R.u 11 (by decide)
  obtain ⟨q12, h12, m12⟩ := R.d 12 (by decide)
  obtain ⟨q13, r13⟩ := R.u 13 (by decide)
  obtain ⟨q14, r14⟩ := R.u 14 (by decide)
  obtain ⟨q15, r15⟩ := R.u 15 (by decide)
  obtain ⟨q16, r16⟩ := R.u 16 (by decide)
  obtain ⟨q17, h17, m17⟩ := R.d 17 (by decide)
  have q18 := R.b 18 (by decide)
  obtain ⟨q19, r19⟩ := R.u 19 (by decide)
  have q20 := R.b 20 (by decide)
  obtain ⟨q21, r21⟩ := R.u 21 (by decide)
  obtain ⟨q22, h22, m22⟩ := R.d 22 (by decide)
  obtain ⟨q23, h23, m23⟩ := R.d 23 (by decide)
  obtain ⟨q24, h24, m24⟩ := R.d 24 (by decide)
  obtain ⟨q25, h25, m25⟩ := R.d 25 (by decide)
  obtain ⟨q26, r26⟩ := R.u 26 (by decide)
  obtain ⟨q27, h27, m27⟩ := R.d 27 (by decide)
  obtain ⟨q28, h28, m28⟩ := R.d 28 (by decide)
  obtain ⟨q29, r29⟩ := R.u 29 (by decide)
  obtain ⟨q30, r30⟩ := R.u 30 (by decide)
  obtain ⟨q31, r31⟩ := R.u 31 (by decide)
  obtain ⟨q32, r32⟩ := R.u 32 (by decide)
  obtain ⟨q33, r33⟩ := R.u 33 (by decide)
  obtain ⟨q34, r34⟩ := R.u 34 (by decide)
  obtain ⟨q35, r35⟩ := R.u 35 (by decide)
  obtain ⟨q36, r36⟩ := R.u 36 (by decide)
  obtain ⟨q37, r37⟩ := R.u 37 (by decide)
  obtain ⟨q38, r38⟩ := R.u 38 (by decide)
  obtain ⟨q39, r39⟩ := R.u 39 (by decide)
  obtain ⟨q40, r40⟩ := R.u 40 (by decide)
  obtain ⟨q41, r41⟩ := R.u 41 (by decide)
  obtain ⟨q42, r42⟩ := R.u 42 (by decide)
  obtain ⟨q43, r43⟩ := R.u 43 (by decide)
  obtain ⟨q44, h44, m44⟩ := R.d 44 (by decide)
  obtain ⟨q45, r45⟩ := R.u 45 (by decide)
  refine List.ext_getElem? fun i => ?_
  rcases Nat.lt_or_ge i 46 with hi | hi
  · match i, hi with
    | 0, _ => exact q0
    | 1, _ => exact q1
    | 2, _ => exact q2
    | 3, _ => exact q3
    | 4, _ => exact q4
    | 5, _ => exact q5
    | 6, _ => exact q6
    | 7, _ => exact q7
    | 8, _ => exact q8
    | 9, _ => exact q9
    | 10, _ => exact q10
    | 11, _ => exact q11
    | 12, _ => exact q12
    | 13, _ => exact q13
    | 14, _ => exact q14
    | 15, _ => exact q15
    | 16, _ => exact q16
    | 17, _ => exact q17
    | 18, _ => exact q18
    | 19, _ => exact q19
    | 20, _ => exact q20
    | 21, _ => exact q21
    | 22, _ => exact q22
    | 23, _ => exact q23
    | 24, _ => exact q24
    | 25, _ => exact q25
    | 26, _ => exact q26
    | 27, _ => exact q27
    | 28, _ => exact q28
    | 29, _ => exact q29
    | 30, _ => exact q30
    | 31, _ => exact q31
    | 32, _ => exact q32
    | 33, _ => exact q33
    | 34, _ => exact q34
    | 35, _ => exact q35
    | 36, _ => exact q36
    | 37, _ => exact q37
    | 38, _ => exact q38
    | 39, _ => exact q39
    | 40, _ => exact q40
    | 41, _ => exact q41
    | 42, _ => exact q42
    | 43, _ => exact q43
    | 44, _ => exact q44
    | 45, _ => exact q45
    | n + 46, h => exact absurd h (by omega)
  · rw [List.getElem?_eq_none (by omega), List.getElem?_eq_none (show (recL xs aa ns cc ts).length ≤ i from hi)]
end Rc
end Go.Proofs.YtenlhceceplldaaGreat

namespace Go.Proofs.YtenlhceceplldaaGreat
namespace Rc
open Go.RowKit Go.Lib Pg Lim Gl
def lbParams (xs : Nat → Int) (_ts : Nat → Bool) : List Int := thr (pnx (fun o => ([xs 0, xs 1, xs 2, xs 3, xs 4, xs 5, xs 6, xs 7, xs 8, xs 9] : List Int).getD o 0)) [(0, 0), (0, 1), (0, 2), (0, 3), (0, 4), (0, 5), (0, 6), (0, 7), (0, 8), (0, 9)] []
theorem gPutParams {w : World} {xs : Nat → Int} {ts : Nat → Bool}  :
    Calls Tryz.prog 8 #[.agg #[.int .u64 (xs 0), .int .u64 (xs 1), .int .u64 (xs 2), .int .u64 (xs 3), .int .u64 (xs 4), .int .u64 (xs 5), .int .u64 (xs 6), .int .u64 (xs 7), .int .u64 (xs 8), .int .u64 (xs 9)]] w fun e w' => ∃ b, e = .returned (sg (lbParams xs ts).length b) ∧ Box w' b ((lbParams xs ts).map (Value.int .u8)) 5 ∧ w.heap.size ≤ b ∧ Below w.heap.size w w' := by
  refine (PutParams_any (x0 := xs 0) (x1 := xs 1) (x2 := xs 2) (x3 := xs 3) (x4 := xs 4) (x5 := xs 5) (x6 := xs 6) (x7 := xs 7) (x8 := xs 8) (x9 := xs 9)).mono ?_
  rintro e w' ⟨b, n, rfl, rfl, X, h, B'⟩
  exact ⟨b, rfl, X, h, B'⟩
theorem wPutParams {w : World} {xs : Nat → Int} {ts : Nat → Bool}  :
    Calls Tryz.prog 19 #[.agg #[.int .u64 (xs 0), .int .u64 (xs 1), .int .u64 (xs 2), .int .u64 (xs 3), .int .u64 (xs 4), .int .u64 (xs 5), .int .u64 (xs 6), .int .u64 (xs 7), .int .u64 (xs 8), .int .u64 (xs 9)]] w fun e w' => ∃ v, e = .returned v ∧ MineB w' w.heap.size v (lbParams xs ts) ∧ Below w.heap.size w w' := rPutParams (x0 := xs 0) (x1 := xs 1) (x2 := xs 2) (x3 := xs 3) (x4 := xs 4) (x5 := xs 5) (x6 := xs 6) (x7 := xs 7) (x8 := xs 8) (x9 := xs 9)
def lbChain (xs : Nat → Int) (_ts : Nat → Bool) : List Int := thr (pnx (fun o => ([xs 10, xs 11] : List Int).getD o 0)) [(0, 0), (0, 1)] []
theorem gPutChain {w : World} {xs : Nat → Int} {ts : Nat → Bool}  :
    Calls Tryz.prog 9 #[.agg #[.int .u64 (xs 10), .int .u64 (xs 11)]] w fun e w' => ∃ b, e = .returned (sg (lbChain xs ts).length b) ∧ Box w' b ((lbChain xs ts).map (Value.int .u8)) 5 ∧ w.heap.size ≤ b ∧ Below w.heap.size w w' := by
  refine (PutChain_any (x0 := xs 10) (x1 := xs 11)).mono ?_
  rintro e w' ⟨b, n, rfl, rfl, X, h, B'⟩
  exact ⟨b, rfl, X, h, B'⟩
theorem wPutChain {w : World} {xs : Nat → Int} {ts : Nat → Bool}  :
    Calls Tryz.prog 20 #[.agg #[.int .u64 (xs 10), .int .u64 (xs 11)]] w fun e w' => ∃ v, e = .returned v ∧ MineB w' w.heap.size v (lbChain xs ts) ∧ Below w.heap.size w w' := rPutChain (x0 := xs 10) (x1 := xs 11)
def lbPool (xs : Nat → Int) (_ts : Nat → Bool) : List Int := thr (pnx (fun o => ([xs 12] : List Int).getD o 0)) [(2, 0)] []
theorem gPutPool {w0 w : World} {xs : Nat → Int} {ts : Nat → Bool} {aa : Nat → Option Addr} {ns cc : Nat → Nat} (B : Below w0.heap.size w0 w) (h0 : NatA w0 (aa 12) (ns 12) (cc 12) (xs 12)) (m0 : ns 12 ≤ 60) :
    Calls Tryz.prog 10 #[.agg #[.slice (aa 12) (ns 12) (cc 12)]] w fun e w' => ∃ b, e = .returned (sg (lbPool xs ts).length b) ∧ Box w' b ((lbPool xs ts).map (Value.int .u8)) 5 ∧ w.heap.size ≤ b ∧ Below w.heap.size w w' := by
  refine (PutPool_any (h0 := h0.keep B) (m0 := Nat.le_trans m0 (by decide))).mono ?_
  rintro e w' ⟨b, n, rfl, rfl, X, h, B'⟩
  exact ⟨b, rfl, X, h, B'⟩
theorem wPutPool {w0 w : World} {xs : Nat → Int} {ts : Nat → Bool} {aa : Nat → Option Addr} {ns cc : Nat → Nat} (B : Below w0.heap.size w0 w) (h0 : NatA w0 (aa 12) (ns 12) (cc 12) (xs 12)) (m0 : ns 12 ≤ 60) :
    Calls Tryz.prog 21 #[.agg #[.slice (aa 12) (ns 12) (cc 12)]] w fun e w' => ∃ v, e = .returned v ∧ MineB w' w.heap.size v (lbPool xs ts) ∧ Below w.heap.size w w' := rPutPool (h0 := h0.keep B) (m0 := Nat.le_trans m0 (by decide))
def lbAccount (xs : Nat → Int) (_ts : Nat → Bool) : List Int := thr (pnx (fun o => ([xs 13, xs 14] : List Int).getD o 0)) [(0, 0), (0, 1)] []
theorem gPutAccount {w : World} {xs : Nat → Int} {ts : Nat → Bool}  :
    Calls Tryz.prog 11 #[.agg #[.int .u64 (xs 13), .int .u64 (xs 14)]] w fun e w' => ∃ b, e = .returned (sg (lbAccount xs ts).length b) ∧ Box w' b ((lbAccount xs ts).map (Value.int .u8)) 5 ∧ w.heap.size ≤ b ∧ Below w.heap.size w w' := by
  refine (PutAccount_any (x0 := xs 13) (x1 := xs 14)).mono ?_
  rintro e w' ⟨b, n, rfl, rfl, X, h, B'⟩
  exact ⟨b, rfl, X, h, B'⟩
theorem wPutAccount {w : World} {xs : Nat → Int} {ts : Nat → Bool}  :
    Calls Tryz.prog 22 #[.agg #[.int .u64 (xs 13), .int .u64 (xs 14)]] w fun e w' => ∃ v, e = .returned v ∧ MineB w' w.heap.size v (lbAccount xs ts) ∧ Below w.heap.size w w' := rPutAccount (x0 := xs 13) (x1 := xs 14)
def lbVal (xs : Nat → Int) (ts : Nat → Bool) : List Int := thr (pnx (fun o => ([xs 15, xs 16, xs 17, (if ts 18 then 1 else 0), xs 19, (if ts 20 then 1 else 0), xs 21, xs 22, xs 23, xs 24] : List Int).getD o 0)) [(0, 0), (0, 1), (2, 2), (1, 3), (0, 4), (1, 5), (0, 6), (2, 7), (2, 8), (2, 9)] []
theorem gPutVal {w0 w : World} {xs : Nat → Int} {ts : Nat → Bool} {aa : Nat → Option Addr} {ns cc : Nat → Nat} (B : Below w0.heap.size w0 w) (h2 : NatA w0 (aa 17) (ns 17) (cc 17) (xs 17)) (m2 : ns 17 ≤ 60) (h7 : NatA w0 (aa 22) (ns 22) (cc 22) (xs 22)) (m7 : ns 22 ≤ 60) (h8 : NatA w0 (aa 23) (ns 23) (cc 23) (xs 23)) (m8 : ns 23 ≤ 60) (h9 : NatA w0 (aa 24) (ns 24) (cc 24) (xs 24)) (m9 : ns 24 ≤ 60) :
    Calls Tryz.prog 12 #[.agg #[.int .u64 (xs 15), .int .u64 (xs 16), .slice (aa 17) (ns 17) (cc 17), .bool (ts 18), .int .u64 (xs 19), .bool (ts 20), .int .u64 (xs 21), .slice (aa 22) (ns 22) (cc 22), .slice (aa 23) (ns 23) (cc 23), .slice (aa 24) (ns 24) (cc 24)]] w fun e w' => ∃ b, e = .returned (sg (lbVal xs ts).length b) ∧ Box w' b ((lbVal xs ts).map (Value.int .u8)) 5 ∧ w.heap.size ≤ b ∧ Below w.heap.size w w' := by
  refine (PutVal_any (x0 := xs 15) (x1 := xs 16) (h2 := h2.keep B) (m2 := Nat.le_trans m2 (by decide)) (b3 := ts 18) (x4 := xs 19) (b5 := ts 20) (x6 := xs 21) (h7 := h7.keep B) (m7 := Nat.le_trans m7 (by decide)) (h8 := h8.keep B) (m8 := Nat.le_trans m8 (by decide)) (h9 := h9.keep B) (m9 := Nat.le_trans m9 (by decide))).mono ?_
  rintro e w' ⟨b, n, rfl, rfl, X, h, B'⟩
  exact ⟨b, rfl, X, h, B'⟩
theorem wPutVal {w0 w : World} {xs : Nat → Int} {ts : Nat → Bool} {aa : Nat → Option Addr} {ns cc : Nat → Nat} (B : Below w0.heap.size w0 w) (h2 : NatA w0 (aa 17) (ns 17) (cc 17) (xs 17)) (m2 : ns 17 ≤ 60) (h7 : NatA w0 (aa 22) (ns 22) (cc 22) (xs 22)) (m7 : ns 22 ≤ 60) (h8 : NatA w0 (aa 23) (ns 23) (cc 23) (xs 23)) (m8 : ns 23 ≤ 60) (h9 : NatA w0 (aa 24) (ns 24) (cc 24) (xs 24)) (m9 : ns 24 ≤ 60) :
    Calls Tryz.prog 23 #[.agg #[.int .u64 (xs 15), .int .u64 (xs 16), .slice (aa 17) (ns 17) (cc 17), .bool (ts 18), .int .u64 (xs 19), .bool (ts 20), .int .u64 (xs 21), .slice (aa 22) (ns 22) (cc 22), .slice (aa 23) (ns 23) (cc 23), .slice (aa 24) (ns 24) (cc 24)]] w fun e w' => ∃ v, e = .returned v ∧ MineB w' w.heap.size v (lbVal xs ts) ∧ Below w.heap.size w w' := rPutVal (x0 := xs 15) (x1 := xs 16) (h2 := h2.keep B) (m2 := Nat.le_trans m2 (by decide)) (b3 := ts 18) (x4 := xs 19) (b5 := ts 20) (x6 := xs 21) (h7 := h7.keep B) (m7 := Nat.le_trans m7 (by decide)) (h8 := h8.keep B) (m8 := Nat.le_trans m8 (by decide)) (h9 := h9.keep B) (m9 := Nat.le_trans m9 (by decide))
def lbDelegation (xs : Nat → Int) (_ts : Nat → Bool) : List Int := thr (pnx (fun o => ([xs 25, xs 26, xs 27] : List Int).getD o 0)) [(2, 0), (0, 1), (2, 2)] []
theorem gPutDelegation {w0 w : World} {xs : Nat → Int} {ts : Nat → Bool} {aa : Nat → Option Addr} {ns cc : Nat → Nat} (B : Below w0.heap.size w0 w) (h0 : NatA w0 (aa 25) (ns 25) (cc 25) (xs 25)) (m0 : ns 25 ≤ 60) (h2 : NatA w0 (aa 27) (ns 27) (cc 27) (xs 27)) (m2 : ns 27 ≤ 60) :
    Calls Tryz.prog 13 #[.agg #[.slice (aa 25) (ns 25) (cc 25), .int .u64 (xs 26), .slice (aa 27) (ns 27) (cc 27)]] w fun e w' => ∃ b, e = .returned (sg (lbDelegation xs ts).length b) ∧ Box w' b ((lbDelegation xs ts).map (Value.int .u8)) 5 ∧ w.heap.size ≤ b ∧ Below w.heap.size w w' := by
  refine (PutDelegation_any (h0 := h0.keep B) (m0 := Nat.le_trans m0 (by decide)) (x1 := xs 26) (h2 := h2.keep B) (m2 := Nat.le_trans m2 (by decide))).mono ?_
  rintro e w' ⟨b, n, rfl, rfl, X, h, B'⟩
  exact ⟨b, rfl, X, h, B'⟩
theorem wPutDelegation {w0 w : World} {xs : Nat → Int} {ts : Nat → Bool} {aa : Nat → Option Addr} {ns cc : Nat → Nat} (B : Below w0.heap.size w0 w) (h0 : NatA w0 (aa 25) (ns 25) (cc 25) (xs 25)) (m0 : ns 25 ≤ 60) (h2 : NatA w0 (aa 27) (ns 27) (cc 27) (xs 27)) (m2 : ns 27 ≤ 60) :
    Calls Tryz.prog 24 #[.agg #[.slice (aa 25) (ns 25) (cc 25), .int .u64 (xs 26), .slice (aa 27) (ns 27) (cc 27)]] w fun e w' => ∃ v, e = .returned v ∧ MineB w' w.heap.size v (lbDelegation xs ts) ∧ Below w.heap.size w w' := rPutDelegation (h0 := h0.keep B) (m0 := Nat.le_trans m0 (by decide)) (x1 := xs 26) (h2 := h2.keep B) (m2 := Nat.le_trans m2 (by decide))
def lbHistory (xs : Nat → Int) (_ts : Nat → Bool) : List Int := thr (pnx (fun o => ([xs 28, xs 29] : List Int).getD o 0)) [(2, 0), (0, 1)] []
theorem gPutHistory {w0 w : World} {xs : Nat → Int} {ts : Nat → Bool} {aa : Nat → Option Addr} {ns cc : Nat → Nat} (B : Below w0.heap.size w0 w) (h0 : NatA w0 (aa 28) (ns 28) (cc 28) (xs 28)) (m0 : ns 28 ≤ 60) :
    Calls Tryz.prog 14 #[.agg #[.slice (aa 28) (ns 28) (cc 28), .int .u64 (xs 29)]] w fun e w' => ∃ b, e = .returned (sg (lbHistory xs ts).length b) ∧ Box w' b ((lbHistory xs ts).map (Value.int .u8)) 5 ∧ w.heap.size ≤ b ∧ Below w.heap.size w w' := by
  refine (PutHistory_any (h0 := h0.keep B) (m0 := Nat.le_trans m0 (by decide)) (x1 := xs 29)).mono ?_
  rintro e w' ⟨b, n, rfl, rfl, X, h, B'⟩
  exact ⟨b, rfl, X, h, B'⟩
theorem wPutHistory {w0 w : World} {xs : Nat → Int} {ts : Nat → Bool} {aa : Nat → Option Addr} {ns cc : Nat → Nat} (B : Below w0.heap.size w0 w) (h0 : NatA w0 (aa 28) (ns 28) (cc 28) (xs 28)) (m0 : ns 28 ≤ 60) :
    Calls Tryz.prog 25 #[.agg #[.slice (aa 28) (ns 28) (cc 28), .int .u64 (xs 29)]] w fun e w' => ∃ v, e = .returned v ∧ MineB w' w.heap.size v (lbHistory xs ts) ∧ Below w.heap.size w w' := rPutHistory (h0 := h0.keep B) (m0 := Nat.le_trans m0 (by decide)) (x1 := xs 29)
def lbCut (xs : Nat → Int) (_ts : Nat → Bool) : List Int := thr (pnx (fun o => ([xs 30, xs 31] : List Int).getD o 0)) [(0, 0), (0, 1)] []
theorem gPutCut {w : World} {xs : Nat → Int} {ts : Nat → Bool}  :
    Calls Tryz.prog 15 #[.agg #[.int .u64 (xs 30), .int .u64 (xs 31)]] w fun e w' => ∃ b, e = .returned (sg (lbCut xs ts).length b) ∧ Box w' b ((lbCut xs ts).map (Value.int .u8)) 5 ∧ w.heap.size ≤ b ∧ Below w.heap.size w w' := by
  refine (PutCut_any (x0 := xs 30) (x1 := xs 31)).mono ?_
  rintro e w' ⟨b, n, rfl, rfl, X, h, B'⟩
  exact ⟨b, rfl, X, h, B'⟩
theorem wPutCut {w : World} {xs : Nat → Int} {ts : Nat → Bool}  :
    Calls Tryz.prog 26 #[.agg #[.int .u64 (xs 30), .int .u64 (xs 31)]] w fun e w' => ∃ v, e = .returned v ∧ MineB w' w.heap.size v (lbCut xs ts) ∧ Below w.heap.size w w' := rPutCut (x0 := xs 30) (x1 := xs 31)
def lbUnbonding (xs : Nat → Int) (_ts : Nat → Bool) : List Int := thr (pnx (fun o => ([xs 32, xs 33, xs 34, xs 35, xs 36, xs 37] : List Int).getD o 0)) [(0, 0), (0, 1), (0, 2), (0, 3), (0, 4), (0, 5)] []
theorem gPutUnbonding {w : World} {xs : Nat → Int} {ts : Nat → Bool}  :
    Calls Tryz.prog 16 #[.agg #[.int .u64 (xs 32), .int .u64 (xs 33), .int .u64 (xs 34), .int .u64 (xs 35), .int .u64 (xs 36), .int .u64 (xs 37)]] w fun e w' => ∃ b, e = .returned (sg (lbUnbonding xs ts).length b) ∧ Box w' b ((lbUnbonding xs ts).map (Value.int .u8)) 5 ∧ w.heap.size ≤ b ∧ Below w.heap.size w w' := by
  refine (PutUnbonding_any (x0 := xs 32) (x1 := xs 33) (x2 := xs 34) (x3 := xs 35) (x4 := xs 36) (x5 := xs 37)).mono ?_
  rintro e w' ⟨b, n, rfl, rfl, X, h, B'⟩
  exact ⟨b, rfl, X, h, B'⟩
theorem wPutUnbonding {w : World} {xs : Nat → Int} {ts : Nat → Bool}  :
    Calls Tryz.prog 27 #[.agg #[.int .u64 (xs 32), .int .u64 (xs 33), .int .u64 (xs 34), .int .u64 (xs 35), .int .u64 (xs 36), .int .u64 (xs 37)]] w fun e w' => ∃ v, e = .returned v ∧ MineB w' w.heap.size v (lbUnbonding xs ts) ∧ Below w.heap.size w w' := rPutUnbonding (x0 := xs 32) (x1 := xs 33) (x2 := xs 34) (x3 := xs 35) (x4 := xs 36) (x5 := xs 37)
def lbMove (xs : Nat → Int) (_ts : Nat → Bool) : List Int := thr (pnx (fun o => ([xs 38, xs 39, xs 40, xs 41, xs 42, xs 43, xs 44] : List Int).getD o 0)) [(0, 0), (0, 1), (0, 2), (0, 3), (0, 4), (0, 5), (2, 6)] []
theorem gPutMove {w0 w : World} {xs : Nat → Int} {ts : Nat → Bool} {aa : Nat → Option Addr} {ns cc : Nat → Nat} (B : Below w0.heap.size w0 w) (h6 : NatA w0 (aa 44) (ns 44) (cc 44) (xs 44)) (m6 : ns 44 ≤ 60) :
    Calls Tryz.prog 17 #[.agg #[.int .u64 (xs 38), .int .u64 (xs 39), .int .u64 (xs 40), .int .u64 (xs 41), .int .u64 (xs 42), .int .u64 (xs 43), .slice (aa 44) (ns 44) (cc 44)]] w fun e w' => ∃ b, e = .returned (sg (lbMove xs ts).length b) ∧ Box w' b ((lbMove xs ts).map (Value.int .u8)) 5 ∧ w.heap.size ≤ b ∧ Below w.heap.size w w' := by
  refine (PutMove_any (x0 := xs 38) (x1 := xs 39) (x2 := xs 40) (x3 := xs 41) (x4 := xs 42) (x5 := xs 43) (h6 := h6.keep B) (m6 := Nat.le_trans m6 (by decide))).mono ?_
  rintro e w' ⟨b, n, rfl, rfl, X, h, B'⟩
  exact ⟨b, rfl, X, h, B'⟩
theorem wPutMove {w0 w : World} {xs : Nat → Int} {ts : Nat → Bool} {aa : Nat → Option Addr} {ns cc : Nat → Nat} (B : Below w0.heap.size w0 w) (h6 : NatA w0 (aa 44) (ns 44) (cc 44) (xs 44)) (m6 : ns 44 ≤ 60) :
    Calls Tryz.prog 28 #[.agg #[.int .u64 (xs 38), .int .u64 (xs 39), .int .u64 (xs 40), .int .u64 (xs 41), .int .u64 (xs 42), .int .u64 (xs 43), .slice (aa 44) (ns 44) (cc 44)]] w fun e w' => ∃ v, e = .returned v ∧ MineB w' w.heap.size v (lbMove xs ts) ∧ Below w.heap.size w w' := rPutMove (x0 := xs 38) (x1 := xs 39) (x2 := xs 40) (x3 := xs 41) (x4 := xs 42) (x5 := xs 43) (h6 := h6.keep B) (m6 := Nat.le_trans m6 (by decide))
def lbNumber (xs : Nat → Int) (_ts : Nat → Bool) : List Int := thr (pnx (fun o => ([xs 45] : List Int).getD o 0)) [(0, 0)] []
theorem gPutNumber {w : World} {xs : Nat → Int} {ts : Nat → Bool}  :
    Calls Tryz.prog 18 #[.int .u64 (xs 45)] w fun e w' => ∃ b, e = .returned (sg (lbNumber xs ts).length b) ∧ Box w' b ((lbNumber xs ts).map (Value.int .u8)) 5 ∧ w.heap.size ≤ b ∧ Below w.heap.size w w' := by
  refine (PutNumber_any (x0 := xs 45)).mono ?_
  rintro e w' ⟨b, n, rfl, rfl, X, h, B'⟩
  exact ⟨b, rfl, X, h, B'⟩
theorem wPutNumber {w : World} {xs : Nat → Int} {ts : Nat → Bool}  :
    Calls Tryz.prog 29 #[.int .u64 (xs 45)] w fun e w' => ∃ v, e = .returned v ∧ MineB w' w.heap.size v (lbNumber xs ts) ∧ Below w.heap.size w w' := rPutNumber (x0 := xs 45)
theorem lay_fine (xs : Nat → Int) (ks : List (Nat × Nat)) (h : ks.length ≤ 20) : Octets (thr (pnx xs) ks []) ∧ (thr (pnx xs) ks []).length ≤ 1000000 := by
  refine ⟨thr_oct xs ks [] (fun _ h => by cases h), ?_⟩
  have := pnx_len xs ks []
  simp at this
  omega
/-- lists that were laid one after another, each in a block of its own -/
structure Got (w : World) (lo : Nat) (ps : List (Nat × List Int)) : Prop where
  all : ∀ p ∈ ps, Box w p.1 (p.2.map (Value.int .u8)) 5 ∧ lo ≤ p.1 ∧ Octets p.2 ∧ p.2.length ≤ 1000000
  inc : ps.Pairwise (fun p q => p.1 < q.1)
theorem Got.nil (w : World) (lo : Nat) : Got w lo [] := ⟨fun _ h => (by cases h), List.Pairwise.nil⟩
theorem Got.keep {w w' : World} {lo : Nat} {ps : List (Nat × List Int)} (h : Got w lo ps) (B : Below w.heap.size w w') : Got w' lo ps := ⟨fun p hp => ⟨(h.all p hp).1.keep B, (h.all p hp).2⟩, h.inc⟩
theorem Got.drew {w : World} {lo : Nat} {ps : List (Nat × List Int)} (h : Got w lo ps) : Got w.drew lo ps := h.keep (Below.refl _ _).drew
theorem Got.add {w w' : World} {lo b : Nat} {l : List Int} {ps : List (Nat × List Int)} (h : Got w lo ps) (B : Below w.heap.size w w') (hl : lo ≤ w.heap.size) (X : Box w' b (l.map (Value.int .u8)) 5) (hb : w.heap.size ≤ b) (hf : Octets l ∧ l.length ≤ 1000000) : Got w' lo (ps ++ [(b, l)]) := by
  refine ⟨fun p hp => ?_, ?_⟩
  · rcases List.mem_append.1 hp with hp | hp
    · exact (h.keep B).all p hp
    · rw [List.mem_singleton] at hp; subst hp; exact ⟨X, Nat.le_trans hl hb, hf⟩
  · refine List.pairwise_append.2 ⟨h.inc, List.pairwise_singleton _ _, fun p hp q hq => ?_⟩
    rw [List.mem_singleton] at hq
    subst hq
    exact Nat.lt_of_lt_of_le (h.all p hp).1.lt hb
structure Wan (w : World) (qs : List (Value × List Int)) : Prop where
  all : ∀ q ∈ qs, MineB w 0 q.1 q.2
theorem Wan.nil (w : World) : Wan w [] := ⟨fun _ h => by cases h⟩
theorem Wan.keep {w w' : World} {qs : List (Value × List Int)} (h : Wan w qs) (B : Below w.heap.size w w') : Wan w' qs := ⟨fun q hq => mineB_keep (h.all q hq) B⟩
theorem Wan.drew {w : World} {qs : List (Value × List Int)} (h : Wan w qs) : Wan w.drew qs := h.keep (Below.refl _ _).drew
theorem Wan.add {w w' : World} {B : Nat} {v : Value} {l : List Int} {qs : List (Value × List Int)} (h : Wan w qs) (b : Below w.heap.size w w') (M : MineB w' B v l) : Wan w' (qs ++ [(v, l)]) := ⟨fun q hq => by
  rcases List.mem_append.1 hq with hq | hq
  · exact (h.keep b).all q hq
  · rw [List.mem_singleton] at hq; subst hq; exact mineB_mono M (Nat.zero_le _)⟩
theorem items_gw {w : World} {lo m g h : Nat} {ps : List (Nat × List Int)} {qs : List (Value × List Int)} (G : Got w lo ps) (W : Wan w qs) (he : ps.map Prod.snd = qs.map Prod.snd) (hm : ps.length = m) (hm1 : m ≤ 1000) (X : Blk w g (ps.map fun p => sg p.2.length p.1) 49) (Y : Blk w h (qs.map Prod.fst) 49) :
    Calls Tryz.prog 30 #[sg m g, sg m h] w fun e w' => e = .returned (.bool true) ∧ Below w.heap.size w w' := by
  refine items_any X Y hm1 fun i hi => ?_
  have hl : ps.length = qs.length := by have := congrArg List.length he; simpa using this
  obtain ⟨p, hp⟩ : ∃ p, ps[i]? = some p := ⟨_, List.getElem?_eq_getElem (by omega)⟩
  obtain ⟨q, hq⟩ : ∃ q, qs[i]? = some q := ⟨_, List.getElem?_eq_getElem (by omega)⟩
  have e : p.2 = q.2 := by
    have := congrArg (fun l : List (List Int) => l[i]?) he
    simpa [hp, hq] using this
  obtain ⟨B1, _, o1, n1⟩ := G.all p (List.mem_of_getElem? hp)
  have M := W.all q (List.mem_of_getElem? hq)
  rw [← e] at M
  obtain ⟨b2, a2, c2, ev, _, A2⟩ := M.bya o1
  exact ⟨p.1, some ⟨p.1, 0, none⟩, p.2.length, p.2.length, b2, a2, p.2.length, c2, p.2, by rw [List.getElem?_map, hp]; rfl, by rw [List.getElem?_map, hq, ← ev]; rfl, B1.bya o1 (by omega), A2, by omega, by omega⟩
/-- what is left to be spoilt -/
structure Spo (w : World) (lo : Nat) (vs : List Value) (j : Nat) : Prop where
  row : ∀ i, j ≤ i → i < vs.length → ∃ b n, vs[i]? = some (sg n b) ∧ ByR w b n ∧ n ≤ 1099511627776 ∧ lo ≤ b
  dis : ∀ i i' b b' n n' : Nat, i < i' → vs[i]? = some (sg n b) → vs[i']? = some (sg n' b') → b ≠ b'
theorem Got.spo {w : World} {lo : Nat} {ps : List (Nat × List Int)} (G : Got w lo ps) : Spo w lo (ps.map fun p => sg p.2.length p.1) 0 := by
  refine ⟨fun i _ hi => ?_, fun i i' b b' n n' hii h1 h2 => ?_⟩
  · rw [List.length_map] at hi
    obtain ⟨p, hp⟩ : ∃ p, ps[i]? = some p := ⟨_, List.getElem?_eq_getElem hi⟩
    obtain ⟨B1, h1, o1, n1⟩ := G.all p (List.mem_of_getElem? hp)
    exact ⟨p.1, p.2.length, by rw [List.getElem?_map, hp]; rfl, B1.byr, by omega, h1⟩
  · rw [List.getElem?_map] at h1 h2
    cases hp : ps[i]? with
    | none => rw [hp] at h1; cases h1
    | some p =>
      cases hq : ps[i']? with
      | none => rw [hq] at h2; cases h2
      | some q =>
        rw [hp] at h1; rw [hq] at h2
        simp only [Option.map_some, Option.some.injEq, Value.slice.injEq, Addr.mk.injEq] at h1 h2
        have hlt : p.1 < q.1 := by
          obtain ⟨a1, rfl⟩ := List.getElem?_eq_some_iff.1 hp
          obtain ⟨a2, rfl⟩ := List.getElem?_eq_some_iff.1 hq
          exact List.pairwise_iff_getElem.1 G.inc i i' a1 a2 hii
        omega
theorem Spo.drew {w : World} {lo j : Nat} {vs : List Value} (h : Spo w lo vs j) : Spo w.drew lo vs j := ⟨fun i h1 h2 => by
  obtain ⟨b, n, h3, h4, h5⟩ := h.row i h1 h2
  exact ⟨b, n, h3, ⟨h4.ex⟩, h5⟩, h.dis⟩
theorem Spo.next {w w' : World} {lo j b n : Nat} {vs : List Value} (h : Spo w lo vs j) (hb : vs[j]? = some (sg n b)) (B : But b w w') : Spo w' lo vs (j + 1) := ⟨fun i h1 h2 => by
  obtain ⟨b', n', h3, h4, h5⟩ := h.row i (by omega) h2
  obtain ⟨cur, e1, e2⟩ := h4.ex
  exact ⟨b', n', h3, ⟨cur, by rw [B.block b' (lt_of_block e1) (fun e => h.dis j i b b' n n' (by omega) hb h3 e.symm)]; exact e1, e2⟩, h5⟩, h.dis⟩
theorem But.blk {w w' : World} {b g : Nat} {cs : List Value} {t : TypeId} (h : But b w w') (X : Blk w g cs t) (hn : g ≠ b) : Blk w' g cs t := X.same (h.block g X.lt hn)
theorem ByR.ne {w : World} {b n g : Nat} {cs : List Value} {t : TypeId} (h : ByR w b n) (X : Blk w g cs t) (ht : t ≠ 5) : g ≠ b := fun e => by
  subst e
  obtain ⟨cur, e1, _⟩ := h.ex
  have := X.blk.symm.trans e1
  simp at this
  exact ht this.2
end Rc
end Go.Proofs.YtenlhceceplldaaGreat

namespace Go.Proofs.YtenlhceceplldaaGreat
namespace Rc
open Go.RowKit Go.Lib Pg Lim Gl
attribute [local go_sem] Oper.semAt_some
structure Rng (xs : Nat → Int) : Prop where
  u : ∀ i ∈ [0, 1, 2, 3, 4, 5, 6, 7, 8, 9, 10, 11, 13, 14, 15, 16, 19, 21, 26, 29, 30, 31, 32, 33, 34, 35, 36, 37, 38, 39, 40, 41, 42, 43, 45], 0 ≤ xs i ∧ xs i < 18446744073709551616
  d : ∀ i ∈ [12, 17, 22, 23, 24, 25, 27, 28, 44], 0 ≤ xs i
theorem RecA.rng {w : World} {cs : List Value} {xs : Nat → Int} {aa : Nat → Option Addr} {ns cc : Nat → Nat} {ts : Nat → Bool} (R : RecA w cs xs aa ns cc ts) : Rng xs := ⟨fun i hi => (R.u i hi).2, fun i hi => (R.d i hi).2.1.nonneg⟩
theorem ite_bool (a b : Bool) : ((if a then (1 : Int) else 0) = if b then 1 else 0) ↔ a = b := by cases a <;> cases b <;> simp
theorem apParams {xs xsy : Nat → Int} {ts tsy : Nat → Bool} (hx : Rng xs) (hy : Rng xsy) : lbParams xs ts = lbParams xsy tsy ↔ xs 0 = xsy 0 ∧ xs 1 = xsy 1 ∧ xs 2 = xsy 2 ∧ xs 3 = xsy 3 ∧ xs 4 = xsy 4 ∧ xs 5 = xsy 5 ∧ xs 6 = xsy 6 ∧ xs 7 = xsy 7 ∧ xs 8 = xsy 8 ∧ xs 9 = xsy 9 := by
  have hr : ∀ zs : Nat → Int, ∀ us : Nat → Bool, Rng zs → ∀ p ∈ ([(0, 0), (0, 1), (0, 2), (0, 3), (0, 4), (0, 5), (0, 6), (0, 7), (0, 8), (0, 9)] : List (Nat × Nat)), rng p.1 (([zs 0, zs 1, zs 2, zs 3, zs 4, zs 5, zs 6, zs 7, zs 8, zs 9] : List Int).getD p.2 0) := by
    intro zs us hz p hp
    simp only [List.mem_cons, List.not_mem_nil, or_false] at hp
    rcases hp with rfl | rfl | rfl | rfl | rfl | rfl | rfl | rfl | rfl | rfl
    · exact hz.u 0 (by decide)
    · exact hz.u 1 (by decide)
    · exact hz.u 2 (by decide)
    · exact hz.u 3 (by decide)
    · exact hz.u 4 (by decide)
    · exact hz.u 5 (by decide)
    · exact hz.u 6 (by decide)
    · exact hz.u 7 (by decide)
    · exact hz.u 8 (by decide)
    · exact hz.u 9 (by decide)
  unfold lbParams
  rw [thr_inj _ _ _ (by decide) (hr xs ts hx) (hr xsy tsy hy)]
  simp only [List.forall_mem_cons, List.not_mem_nil, false_imp_iff, implies_true, and_true, fitk, List.getD_eq_getElem?_getD, List.getElem?_cons_succ, List.getElem?_cons_zero, Option.getD_some]
theorem apAccount {xs xsy : Nat → Int} {ts tsy : Nat → Bool} (hx : Rng xs) (hy : Rng xsy) : lbAccount xs ts = lbAccount xsy tsy ↔ xs 13 = xsy 13 ∧ xs 14 = xsy 14 := by
  have hr : ∀ zs : Nat → Int, ∀ us : Nat → Bool, Rng zs → ∀ p ∈ ([(0, 0), (0, 1)] : List (Nat × Nat)), rng p.1 (([zs 13, zs 14] : List Int).getD p.2 0) := by
    intro zs us hz p hp
    simp only [List.mem_cons, List.not_mem_nil, or_false] at hp
    rcases hp with rfl | rfl
    · exact hz.u 13 (by decide)
    · exact hz.u 14 (by decide)
  unfold lbAccount
  rw [thr_inj _ _ _ (by decide) (hr xs ts hx) (hr xsy tsy hy)]
  simp only [List.forall_mem_cons, List.not_mem_nil, false_imp_iff, implies_true, and_true, fitk, List.getD_eq_getElem?_getD, List.getElem?_cons_succ, List.getElem?_cons_zero, Option.getD_some]
theorem apUnbonding {xs xsy : Nat → Int} {ts tsy : Nat → Bool} (hx : Rng xs) (hy : Rng xsy) : lbUnbonding xs ts = lbUnbonding xsy tsy ↔ xs 32 = xsy 32 ∧ xs 33 = xsy 33 ∧ xs 34 = xsy 34 ∧ xs 35 = xsy 35 ∧ xs 36 = xsy 36 ∧ xs 37 = xsy 37 := by
  have hr : ∀ zs : Nat → Int, ∀ us : Nat → Bool, Rng zs → ∀ p ∈ ([(0, 0), (0, 1), (0, 2), (0, 3), (0, 4), (0, 5)] : List (Nat × Nat)), rng p.1 (([zs 32, zs 33, zs 34, zs 35, zs 36, zs 37] : List Int).getD p.2 0) := by
    intro zs us hz p hp
    simp only [List.mem_cons, List.not_mem_nil, or_false] at hp
    rcases hp with rfl | rfl | rfl | rfl | rfl | rfl
    · exact hz.u 32 (by decide)
    · exact hz.u 33 (by decide)
    · exact hz.u 34 (by decide)
    · exact hz.u 35 (by decide)
    · exact hz.u 36 (by decide)
    · exact hz.u 37 (by decide)
  unfold lbUnbonding
  rw [thr_inj _ _ _ (by decide) (hr xs ts hx) (hr xsy tsy hy)]
  simp only [List.forall_mem_cons, List.not_mem_nil, false_imp_iff, implies_true, and_true, fitk, List.getD_eq_getElem?_getD, List.getElem?_cons_succ, List.getElem?_cons_zero, Option.getD_some]
theorem apPool {xs xsy : Nat → Int} {ts tsy : Nat → Bool} (hx : Rng xs) (hy : Rng xsy) : lbPool xs ts = lbPool xsy tsy ↔ fit (xs 12) = fit (xsy 12) := by
  have hr : ∀ zs : Nat → Int, ∀ us : Nat → Bool, Rng zs → ∀ p ∈ ([(2, 0)] : List (Nat × Nat)), rng p.1 (([zs 12] : List Int).getD p.2 0) := by
    intro zs us hz p hp
    simp only [List.mem_cons, List.not_mem_nil, or_false] at hp
    rcases hp with rfl
    · exact hz.d 12 (by decide)
  unfold lbPool
  rw [thr_inj _ _ _ (by decide) (hr xs ts hx) (hr xsy tsy hy)]
  simp only [List.forall_mem_cons, List.not_mem_nil, false_imp_iff, implies_true, and_true, fitk, List.getD_eq_getElem?_getD, List.getElem?_cons_zero, Option.getD_some]
theorem apDelegation {xs xsy : Nat → Int} {ts tsy : Nat → Bool} (hx : Rng xs) (hy : Rng xsy) : lbDelegation xs ts = lbDelegation xsy tsy ↔ fit (xs 25) = fit (xsy 25) ∧ xs 26 = xsy 26 ∧ fit (xs 27) = fit (xsy 27) := by
  have hr : ∀ zs : Nat → Int, ∀ us : Nat → Bool, Rng zs → ∀ p ∈ ([(2, 0), (0, 1), (2, 2)] : List (Nat × Nat)), rng p.1 (([zs 25, zs 26, zs 27] : List Int).getD p.2 0) := by
    intro zs us hz p hp
    simp only [List.mem_cons, List.not_mem_nil, or_false] at hp
    rcases hp with rfl | rfl | rfl
    · exact hz.d 25 (by decide)
    · exact hz.u 26 (by decide)
    · exact hz.d 27 (by decide)
  unfold lbDelegation
  rw [thr_inj _ _ _ (by decide) (hr xs ts hx) (hr xsy tsy hy)]
  simp only [List.forall_mem_cons, List.not_mem_nil, false_imp_iff, implies_true, and_true, fitk, List.getD_eq_getElem?_getD, List.getElem?_cons_succ, List.getElem?_cons_zero, Option.getD_some]
theorem apHistory {xs xsy : Nat → Int} {ts tsy : Nat → Bool} (hx : Rng xs) (hy : Rng xsy) : lbHistory xs ts = lbHistory xsy tsy ↔ fit (xs 28) = fit (xsy 28) ∧ xs 29 = xsy 29 := by
  have hr : ∀ zs : Nat → Int, ∀ us : Nat → Bool, Rng zs → ∀ p ∈ ([(2, 0), (0, 1)] : List (Nat × Nat)), rng p.1 (([zs 28, zs 29] : List Int).getD p.2 0) := by
    intro zs us hz p hp
    simp only [List.mem_cons, List.not_mem_nil, or_false] at hp
    rcases hp with rfl | rfl
    · exact hz.d 28 (by decide)
    · exact hz.u 29 (by decide)
  unfold lbHistory
  rw [thr_inj _ _ _ (by decide) (hr xs ts hx) (hr xsy tsy hy)]
  simp only [List.forall_mem_cons, List.not_mem_nil, false_imp_iff, implies_true, and_true, fitk, List.getD_eq_getElem?_getD, List.getElem?_cons_succ, List.getElem?_cons_zero, Option.getD_some]
theorem apVal {xs xsy : Nat → Int} {ts tsy : Nat → Bool} (hx : Rng xs) (hy : Rng xsy) : lbVal xs ts = lbVal xsy tsy ↔ xs 15 = xsy 15 ∧ xs 16 = xsy 16 ∧ fit (xs 17) = fit (xsy 17) ∧ ts 18 = tsy 18 ∧ xs 19 = xsy 19 ∧ ts 20 = tsy 20 ∧ xs 21 = xsy 21 ∧ fit (xs 22) = fit (xsy 22) ∧ fit (xs 23) = fit (xsy 23) ∧ fit (xs 24) = fit (xsy 24) := by
  have hr : ∀ zs : Nat → Int, ∀ us : Nat → Bool, Rng zs → ∀ p ∈ ([(0, 0), (0, 1), (2, 2), (1, 3), (0, 4), (1, 5), (0, 6), (2, 7), (2, 8), (2, 9)] : List (Nat × Nat)), rng p.1 (([zs 15, zs 16, zs 17, (if us 18 then 1 else 0), zs 19, (if us 20 then 1 else 0), zs 21, zs 22, zs 23, zs 24] : List Int).getD p.2 0) := by
    intro zs us hz p hp
    simp only [List.mem_cons, List.not_mem_nil, or_false] at hp
    rcases hp with rfl | rfl | rfl | rfl | rfl | rfl | rfl | rfl | rfl | rfl
    · exact hz.u 15 (by decide)
    · exact hz.u 16 (by decide)
    · exact hz.d 17 (by decide)
    · show _ = _ ∨ _ = _
      simp only [List.getD_eq_getElem?_getD, List.getElem?_cons_succ, List.getElem?_cons_zero, Option.getD_some]
      cases us 18 <;> simp
    · exact hz.u 19 (by decide)
    · show _ = _ ∨ _ = _
      simp only [List.getD_eq_getElem?_getD, List.getElem?_cons_succ, List.getElem?_cons_zero, Option.getD_some]
      cases us 20 <;> simp
    · exact hz.u 21 (by decide)
    · exact hz.d 22 (by decide)
    · exact hz.d 23 (by decide)
    · exact hz.d 24 (by decide)
  unfold lbVal
  rw [thr_inj _ _ _ (by decide) (hr xs ts hx) (hr xsy tsy hy)]
  simp only [List.forall_mem_cons, List.not_mem_nil, false_imp_iff, implies_true, and_true, fitk, List.getD_eq_getElem?_getD, List.getElem?_cons_succ, List.getElem?_cons_zero, Option.getD_some, ite_bool]
theorem srParams {ρ : Operand → Value} {w : World} {o : Oper} {xs xsy : Nat → Int} {ts tsy : Nat → Bool} (hx : Rng xs) (hy : Rng xsy) (ho : ∃ x y, o.op = .binOp .eql 24 x y 24 ∧ ρ x = .agg #[.int .u64 (xs 0), .int .u64 (xs 1), .int .u64 (xs 2), .int .u64 (xs 3), .int .u64 (xs 4), .int .u64 (xs 5), .int .u64 (xs 6), .int .u64 (xs 7), .int .u64 (xs 8), .int .u64 (xs 9)] ∧ ρ y = .agg #[.int .u64 (xsy 0), .int .u64 (xsy 1), .int .u64 (xsy 2), .int .u64 (xsy 3), .int .u64 (xsy 4), .int .u64 (xsy 5), .int .u64 (xsy 6), .int .u64 (xsy 7), .int .u64 (xsy 8), .int .u64 (xsy 9)] := by exact ⟨_, _, rfl, by kernel_rfl, by kernel_rfl⟩) : (execOp ρ o).run Tryz.prog w = .ok (.value (.bool (eqB (lbParams xs ts) (lbParams xsy tsy)))) w := by
  obtain ⟨x, y, h, h1, h2⟩ := ho
  have e : eqB (lbParams xs ts) (lbParams xsy tsy) = decide (xs 0 = xsy 0 ∧ xs 1 = xsy 1 ∧ xs 2 = xsy 2 ∧ xs 3 = xsy 3 ∧ xs 4 = xsy 4 ∧ xs 5 = xsy 5 ∧ xs 6 = xsy 6 ∧ xs 7 = xsy 7 ∧ xs 8 = xsy 8 ∧ xs 9 = xsy 9) := decide_eq_decide.2 (apParams hx hy)
  rw [e]
  simp only [execOp, h, h1, h2]
  go_simp
  repeat' split
  all_goals simp_all
theorem srAccount {ρ : Operand → Value} {w : World} {o : Oper} {xs xsy : Nat → Int} {ts tsy : Nat → Bool} (hx : Rng xs) (hy : Rng xsy) (ho : ∃ x y, o.op = .binOp .eql 32 x y 32 ∧ ρ x = .agg #[.int .u64 (xs 13), .int .u64 (xs 14)] ∧ ρ y = .agg #[.int .u64 (xsy 13), .int .u64 (xsy 14)] := by exact ⟨_, _, rfl, by kernel_rfl, by kernel_rfl⟩) : (execOp ρ o).run Tryz.prog w = .ok (.value (.bool (eqB (lbAccount xs ts) (lbAccount xsy tsy)))) w := by
  obtain ⟨x, y, h, h1, h2⟩ := ho
  have e : eqB (lbAccount xs ts) (lbAccount xsy tsy) = decide (xs 13 = xsy 13 ∧ xs 14 = xsy 14) := decide_eq_decide.2 (apAccount hx hy)
  rw [e]
  simp only [execOp, h, h1, h2]
  go_simp
  repeat' split
  all_goals simp_all
theorem srUnbonding {ρ : Operand → Value} {w : World} {o : Oper} {xs xsy : Nat → Int} {ts tsy : Nat → Bool} (hx : Rng xs) (hy : Rng xsy) (ho : ∃ x y, o.op = .binOp .eql 42 x y 42 ∧ ρ x = .agg #[.int .u64 (xs 32), .int .u64 (xs 33), .int .u64 (xs 34), .int .u64 (xs 35), .int .u64 (xs 36), .int .u64 (xs 37)] ∧ ρ y = .agg #[.int .u64 (xsy 32), .int .u64 (xsy 33), .int .u64 (xsy 34), .int .u64 (xsy 35), .int .u64 (xsy 36), .int .u64 (xsy 37)] := by exact ⟨_, _, rfl, by kernel_rfl, by kernel_rfl⟩) : (execOp ρ o).run Tryz.prog w = .ok (.value (.bool (eqB (lbUnbonding xs ts) (lbUnbonding xsy tsy)))) w := by
  obtain ⟨x, y, h, h1, h2⟩ := ho
  have e : eqB (lbUnbonding xs ts) (lbUnbonding xsy tsy) = decide (xs 32 = xsy 32 ∧ xs 33 = xsy 33 ∧ xs 34 = xsy 34 ∧ xs 35 = xsy 35 ∧ xs 36 = xsy 36 ∧ xs 37 = xsy 37) := decide_eq_decide.2 (apUnbonding hx hy)
  rw [e]
  simp only [execOp, h, h1, h2]
  go_simp
  repeat' split
  all_goals simp_all
end Rc
end Go.Proofs.YtenlhceceplldaaGreat
