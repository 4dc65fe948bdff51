/- gleanhelp.Pairs: two lists of the same pairs are found to be so. -/
import Derived.Test.YtplminnejheceaaPgNt
namespace Go.Proofs.Ytplminnejheceaa
namespace Pg
open Go.RowKit Go.Lib
attribute [local go_sem] Oper.semAt_some
theorem run_iq {a : Act} {w : World} {op : Oper} {x y k n c b : Nat} (ho : op.op = .indexAddr 28 (.tmp x) (.tmp y)) (hx : a.eval (.tmp x) = .slice (some ⟨b, 0, none⟩) n c) {z : Int} (hy : a.eval (.tmp y) = .int .i64 z) (hz : z = (k : Int)) (hk : k < n) : (execOp a.eval op).run Try.prog w = .ok (.value (.pointer (some ⟨b, k * 2, none⟩))) w := by
  subst hz
  have h1 : (k : Int) < n := by omega
  have h2 : ¬ ((k : Int) < 0) := by omega
  obtain ⟨i0, hi, hz0, hs0, hb0⟩ := info_parts (P := Try.prog) KQ.inf
  simp only [execOp, ho, hx, hy]
  go_simp
theorem pcells {w w' : World} {p p2 i j i2 j2 : Nat} {a b c d : Value} (h : w.cell? ⟨p, i, none⟩ = some a ∧ w.cell? ⟨p, j, none⟩ = some b ∧ w.cell? ⟨p2, i2, none⟩ = some c ∧ w.cell? ⟨p2, j2, none⟩ = some d) (h1 : p < w.heap.size) (h2 : p2 < w.heap.size) (hb : Below w.heap.size w w') :
    w'.cell? ⟨p, i, none⟩ = some a ∧ w'.cell? ⟨p, j, none⟩ = some b ∧ w'.cell? ⟨p2, i2, none⟩ = some c ∧ w'.cell? ⟨p2, j2, none⟩ = some d := by
  refine ⟨?_, ?_, ?_, ?_⟩
  · rw [hb.cell (p := ⟨p, i, none⟩) h1]; exact h.1
  · rw [hb.cell (p := ⟨p, j, none⟩) h1]; exact h.2.1
  · rw [hb.cell (p := ⟨p2, i2, none⟩) h2]; exact h.2.2.1
  · rw [hb.cell (p := ⟨p2, j2, none⟩) h2]; exact h.2.2.2
theorem flat_at : ∀ {es : List En} {k : Nat} {e : En}, es[k]? = some e → (flat es)[k * 2]? = some e.kv ∧ (flat es)[k * 2 + 1]? = some e.vv
  | [], k, e, h => by simp at h
  | a :: es, 0, e, h => by simp at h; subst h; exact ⟨rfl, rfl⟩
  | a :: es, k + 1, e, h => by
    have := flat_at (es := es) (k := k) (e := e) (by simpa using h)
    rw [show (k + 1) * 2 = k * 2 + 1 + 1 by omega]
    simpa [flat] using this
theorem PrA.cells {w : World} {B p n c : Nat} {es : List En} (h : PrA w B (.slice (some ⟨p, 0, none⟩) n c) es) {k : Nat} {e : En} (hk : es[k]? = some e) : w.cell? ⟨p, k * 2, none⟩ = some e.kv ∧ w.cell? ⟨p, k * 2 + 1, none⟩ = some e.vv ∧ p < w.heap.size := by
  rcases h.ex with ⟨e1, rfl⟩ | ⟨b, c', e1, hl, hR⟩
  · simp at hk
  · cases e1
    obtain ⟨h1, h2⟩ := flat_at hk
    exact ⟨hR.cell h1, hR.cell h2, hR.lt⟩
set_option maxHeartbeats 2000000 in
set_option maxRecDepth 100000 in
theorem pairs_same {w : World} {B B' : Nat} {u v : Value} {a b : List En} (ha : PrA w B u a) (hb : PrA w B' v b) (hab : a.map En.kl2 = b.map En.kl2) (hbig : ∀ e ∈ a, e.kl.length ≤ 1000000000 ∧ e.vl.length ≤ 1000000000) (hn : a.length ≤ 1000000000) :
    Calls Try.prog 14 #[u, v] w fun e w' => e = .returned (.bool true) ∧ Below w.heap.size w w' := by
  obtain ⟨ao, c, rfl⟩ := ha.shape
  obtain ⟨bo, d, rfl⟩ := hb.shape
  have hl : b.length = a.length := by have := congrArg List.length hab; simpa using this.symm
  rw [hl] at hb ⊢
  obtain ⟨n, hnn⟩ : ∃ n, Hid (a.length = n) := ⟨_, rfl⟩
  rw [hnn.out] at ha hb hn ⊢
  have HA : Hid _ := ha
  have HB : Hid _ := hb
  have HQ : Hid _ := hab
  have HG : Hid _ := hbig
  have HL : Hid (b.length = n) := by show _ = _; rw [hl]; exact hnn.out
  clear ha hb hab hbig hl
  go_enter Try.func14, Try.ntmps14
  go_wp2_with fail
  go_loopw [5] (fun ti wr => ∃ k : Nat, k ≤ n ∧ ti = .int .i64 k ∧ Below w.heap.size w wr) (fun ti _ => n - (intOf ti).toNat)
  case atStart => exact ⟨0, Nat.zero_le _, rfl, Below.refl _ _⟩
  case round =>
    obtain ⟨k, hk, rfl, hbe⟩ := hrel
    by_cases hlt : k < n
    · obtain ⟨x, hx⟩ : ∃ x, a[k]? = some x := ⟨a[k]'(by have := hnn.out; omega), List.getElem?_eq_getElem _⟩
      obtain ⟨y, hy⟩ : ∃ y, b[k]? = some y := ⟨b[k]'(by have := HL.out; omega), List.getElem?_eq_getElem _⟩
      obtain ⟨p, e1⟩ : ∃ p, ao = some ⟨p, 0, none⟩ := by
        rcases HA.out.ex with ⟨_, e⟩ | ⟨p, c', e, _⟩
        · subst e; simp at hx
        · cases e; exact ⟨p, rfl⟩
      obtain ⟨p2, e2⟩ : ∃ p, bo = some ⟨p, 0, none⟩ := by
        rcases HB.out.ex with ⟨_, e⟩ | ⟨p, c', e, _⟩
        · subst e; simp at hy
        · cases e; exact ⟨p, rfl⟩
      subst e1 e2
      have hbD := joinB hbe (belowD wr)
      have PA := HA.out.keep hbD
      have PB := HB.out.keep hbD
      have X := PA.ents x (List.mem_of_getElem? hx)
      have Y := PB.ents y (List.mem_of_getElem? hy)
      obtain ⟨x1, x2, hlp⟩ := PA.cells hx
      obtain ⟨y1, y2, hlp2⟩ := PB.cells hy
      have hxy : x.kl2 = y.kl2 := by
        have e := congrArg (fun l => l[k]?) HQ.out
        simp only [List.getElem?_map, hx, hy] at e
        exact Option.some.inj e
      have hk2 : x.kl = y.kl := congrArg Prod.fst hxy
      have hv2 : x.vl = y.vl := congrArg Prod.snd hxy
      obtain ⟨hxk, hxv⟩ := HG.out x (List.mem_of_getElem? hx)
      have hyk : y.kl.length ≤ 1000000000 := by rw [← hk2]; exact hxk
      have hyv : y.vl.length ≤ 1000000000 := by rw [← hv2]; exact hxv
      have hk0 : (k : Int) < n := by omega
      have HK2 : Hid _ := hk2
      have HV2 : Hid _ := hv2
      have HX : Hid _ := X
      have HY : Hid _ := Y
      have HC : Hid (wr.drew.cell? ⟨p, k * 2, none⟩ = some x.kv ∧ wr.drew.cell? ⟨p, k * 2 + 1, none⟩ = some x.vv ∧ wr.drew.cell? ⟨p2, k * 2, none⟩ = some y.kv ∧ wr.drew.cell? ⟨p2, k * 2 + 1, none⟩ = some y.vv) := ⟨x1, x2, y1, y2⟩
      clear hk2 hv2 X Y PA PB hxy hx hy x1 x2 y1 y2
      go_wp2_with fail
      have X := HX.out
      have Y := HY.out
      have hk2 := HK2.out
      have hv2 := HV2.out
      have hS := HC.out
      refine rg_start (S := fun w' => w'.cell? ⟨p, k * 2, none⟩ = some x.kv ∧ w'.cell? ⟨p, k * 2 + 1, none⟩ = some x.vv ∧ w'.cell? ⟨p2, k * 2, none⟩ = some y.kv ∧ w'.cell? ⟨p2, k * 2 + 1, none⟩ = some y.vv) (by kernel_rfl) hS ?_
      refine rg_take 0 (some 17) (.slice (some ⟨p, 0, none⟩) n c) (by kernel_rfl) (fun _ _ => by kernel_rfl) (fun _ _ _ h => h) hS ?_
      refine rg_take 1 (some 18) (.int .i64 k) (by kernel_rfl) (fun _ _ => by kernel_rfl) (fun _ _ _ h => h) hS ?_
      refine rg_take 2 (some 19) (.pointer (some ⟨p, k * 2, none⟩)) (by kernel_rfl) (fun _ _ => run_iq (x := 17) (y := 18) (k := k) (n := n) (c := c) (by kernel_rfl) (by kernel_rfl) (by kernel_rfl) rfl hlt) (fun _ _ _ h => h) hS ?_
      refine rg_take 3 (some 20) (.pointer (some ⟨p, k * 2, none⟩)) (by kernel_rfl) (fun _ _ => by kernel_rfl) (fun _ _ _ h => h) hS ?_
      refine rg_load 4 (some 21) (x.kv) 32 20 (p) (k * 2) (by kernel_rfl) (by kernel_rfl) (by kernel_rfl) (fun w' h => ld_b h.1) (fun _ _ _ h => h) hS ?_
      refine rg_take 5 (some 22) (.slice (some ⟨p2, 0, none⟩) n d) (by kernel_rfl) (fun _ _ => by kernel_rfl) (fun _ _ _ h => h) hS ?_
      refine rg_take 6 (some 23) (.int .i64 k) (by kernel_rfl) (fun _ _ => by kernel_rfl) (fun _ _ _ h => h) hS ?_
      refine rg_take 7 (some 24) (.pointer (some ⟨p2, k * 2, none⟩)) (by kernel_rfl) (fun _ _ => run_iq (x := 22) (y := 23) (k := k) (n := n) (c := d) (by kernel_rfl) (by kernel_rfl) (by kernel_rfl) rfl hlt) (fun _ _ _ h => h) hS ?_
      refine rg_take 8 (some 25) (.pointer (some ⟨p2, k * 2, none⟩)) (by kernel_rfl) (fun _ _ => by kernel_rfl) (fun _ _ _ h => h) hS ?_
      refine rg_load 9 (some 26) (y.kv) 32 25 (p2) (k * 2) (by kernel_rfl) (by kernel_rfl) (by kernel_rfl) (fun w' h => ld_b h.2.2.1) (fun _ _ _ h => h) hS ?_
      refine rg_call 10 (some 27) 23 #[x.kv, y.kv] (by kernel_rfl) (by kernel_rfl) (bytes_any X.k.by Y.k.by hxk hyk) ?_
      rintro e' w2 ⟨rfl, hB2⟩
      rw [decide_eq_true hk2]
      have hS2 := pcells hS hlp hlp2 hB2
      refine ⟨_, rfl, hS2, ?_⟩
      clear hS
      have hS := hS2
      refine rg_take 11 (some 28) (.bool false) (by kernel_rfl) (fun _ _ => by kernel_rfl) (fun _ _ _ h => h) hS ?_
      refine rg_take 12 (some 29) (.bool false) (by kernel_rfl) (fun _ _ => by kernel_rfl) (fun _ _ _ h => h) hS ?_
      refine rg_take 13 (some 30) (.slice (some ⟨p, 0, none⟩) n c) (by kernel_rfl) (fun _ _ => by kernel_rfl) (fun _ _ _ h => h) hS ?_
      refine rg_take 14 (some 31) (.int .i64 k) (by kernel_rfl) (fun _ _ => by kernel_rfl) (fun _ _ _ h => h) hS ?_
      refine rg_take 15 (some 32) (.pointer (some ⟨p, k * 2, none⟩)) (by kernel_rfl) (fun _ _ => run_iq (x := 30) (y := 31) (k := k) (n := n) (c := c) (by kernel_rfl) (by kernel_rfl) (by kernel_rfl) rfl hlt) (fun _ _ _ h => h) hS ?_
      refine rg_take 16 (some 33) (.pointer (some ⟨p, k * 2 + 1, none⟩)) (by kernel_rfl) (fun _ _ => by kernel_rfl) (fun _ _ _ h => h) hS ?_
      refine rg_load 17 (some 34) (x.vv) 32 33 (p) (k * 2 + 1) (by kernel_rfl) (by kernel_rfl) (by kernel_rfl) (fun w' h => ld_b h.2.1) (fun _ _ _ h => h) hS ?_
      refine rg_take 18 (some 35) (.slice (some ⟨p2, 0, none⟩) n d) (by kernel_rfl) (fun _ _ => by kernel_rfl) (fun _ _ _ h => h) hS ?_
      refine rg_take 19 (some 36) (.int .i64 k) (by kernel_rfl) (fun _ _ => by kernel_rfl) (fun _ _ _ h => h) hS ?_
      refine rg_take 20 (some 37) (.pointer (some ⟨p2, k * 2, none⟩)) (by kernel_rfl) (fun _ _ => run_iq (x := 35) (y := 36) (k := k) (n := n) (c := d) (by kernel_rfl) (by kernel_rfl) (by kernel_rfl) rfl hlt) (fun _ _ _ h => h) hS ?_
      refine rg_take 21 (some 38) (.pointer (some ⟨p2, k * 2 + 1, none⟩)) (by kernel_rfl) (fun _ _ => by kernel_rfl) (fun _ _ _ h => h) hS ?_
      refine rg_load 22 (some 39) (y.vv) 32 38 (p2) (k * 2 + 1) (by kernel_rfl) (by kernel_rfl) (by kernel_rfl) (fun w' h => ld_b h.2.2.2) (fun _ _ _ h => h) hS ?_
      refine rg_call 23 (some 40) 23 #[x.vv, y.vv] (by kernel_rfl) (by kernel_rfl) (bytes_any (X.v.keep hB2).by (Y.v.keep hB2).by hxv hyv) ?_
      rintro e' w3 ⟨rfl, hB3⟩
      rw [decide_eq_true hv2]
      have hS3 := pcells hS (Nat.lt_of_lt_of_le hlp hB2.size) (Nat.lt_of_lt_of_le hlp2 hB2.size) hB3
      refine ⟨_, rfl, hS3, ?_⟩
      clear hS hS2
      have hS := hS3
      refine rg_take 24 (some 41) (.bool false) (by kernel_rfl) (fun _ _ => by kernel_rfl) (fun _ _ _ h => h) hS ?_
      refine rg_take 25 (some 42) (.bool false) (by kernel_rfl) (fun _ _ => by kernel_rfl) (fun _ _ _ h => h) hS ?_
      refine rg_done (by kernel_rfl) ?_
      simp only [Act.put, List.setIfInBounds_toArray, List.set_cons_zero, List.set_cons_succ]
      have HBB : Hid _ := joinB (joinB hbD hB2) hB3
      clear X Y hk2 hv2 hS hS3 hB2 hB3 hbD hbe
      go_wp2
      go_roundw
      case rel => exact ⟨k + 1, by omega, by go_num, HBB.out⟩
      case measure => simp [intOf]; omega
    · have hk0 : ¬ ((k : Int) < n) := by omega
      have HK : Hid _ := hlt
      clear hlt
      go_wp2
      go_ret
      exact ⟨rfl, hbe⟩
end Pg
end Go.Proofs.Ytplminnejheceaa
