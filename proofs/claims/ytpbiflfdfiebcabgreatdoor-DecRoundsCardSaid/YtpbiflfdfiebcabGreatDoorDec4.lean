/- Package dec: the product. -/
import Derived.Test.YtpbiflfdfiebcabGreatDoorMid
namespace Go.Proofs.YtpbiflfdfiebcabGreatDoor
open Go.RowKit Lim

set_option maxHeartbeats 4000000 in
set_option maxRecDepth 100000 in
theorem dMul {w : World} {ao0 : Option Addr} {n0 c0 : Nat} {x0 : Int} {ao1 : Option Addr} {n1 c1 : Nat} {x1 : Int} (h0 : NatA w ao0 n0 c0 x0) (hn0 : n0 ≤ 274877906944) (h1 : NatA w ao1 n1 c1 x1) (hn1 : n1 ≤ 274877906944)  :
    Calls Tryz.prog 45 #[.agg #[.slice ao0 n0 c0], .agg #[.slice ao1 n1 c1]] w fun e w' => ∃ a k d, e = .returned (.agg #[.slice a k d]) ∧ NatO w' a k d (x0 * x1 / U36) ∧ k ≤ n0 + n1 + 2 ∧ Below w.heap.size w w' := by
  have B0 := below3 w (.cells #[.slice ao0 n0 c0] 34) (.cells #[.slice ao1 n1 c1] 34) (.cells #[.slice none 0 0] 34)
  have S0 := slot_last3 w (.cells #[.slice ao0 n0 c0] 34) (.cells #[.slice ao1 n1 c1] 34) (.slice none 0 0) 34
  have P0 := ((slot_new w (.slice ao0 n0 c0) 34).alloc (.cells #[.slice ao1 n1 c1] 34)).alloc (.cells #[.slice none 0 0] 34)
  have q0 := P0.cell
  have h0 := h0.keep B0
  have P1 := (slot_last2 w (.cells #[.slice ao0 n0 c0] 34) (.slice ao1 n1 c1) 34).alloc (.cells #[.slice none 0 0] 34)
  have q1 := P1.cell
  have h1 := h1.keep B0
  go_enter Tryz.func45, Tryz.ntmps45
  go_wp2_with fail
  generalize ((w.alloc (.cells #[.slice ao0 n0 c0] 34)).alloc (.cells #[.slice ao1 n1 c1] 34)).alloc (.cells #[.slice none 0 0] 34) = W at *
  apply mid3 (F := fun g a k d w' => Slot w' g (.slice a k d) 34 ∧ Slot w' (w.heap.size + 1 + 1) (.slice none 0 0) 34 ∧ w.heap.size + 1 + 1 < g ∧ NatO w' a k d (x0 * x1 / U36) ∧ k ≤ n0 + n1 + 2 ∧ Below w.heap.size w w')
  case h1 =>
    go_region_held3 (fun w' => w'.cell? ⟨w.heap.size, 0, none⟩ = some (.slice ao0 n0 c0) ∧ w'.cell? ⟨w.heap.size + 1, 0, none⟩ = some (.slice ao1 n1 c1))
      (first | exact ⟨by assumption, by assumption⟩ | exact ⟨(P0.alloc _).cell, (P1.alloc _).cell⟩ | exact ⟨(P0.alloc _).drew.cell, (P1.alloc _).drew.cell⟩ | exact ⟨(P0.other (by omega) _).cell, (P1.other (by omega) _).cell⟩ | go_keep)
      (first
      | (go_at_call 82; (first | (have S0 := S0.drew; have P0 := P0.drew; have P1 := P1.drew; have h0 := h0.drew; have h1 := h1.drew; have B0 := B0.drew; refine (atW h0 dUnit).mono ?_) | (have Sg := slotA h0 (.slice none 0 0) 34; have hgl := S0.lt; have S0 := S0.keep (below_alloc _ (.cells #[.slice none 0 0] 34)); have P0 := P0.keep (below_alloc _ (.cells #[.slice none 0 0] 34)); have P1 := P1.keep (below_alloc _ (.cells #[.slice none 0 0] 34)); have h0 := h0.keep (below_alloc _ (.cells #[.slice none 0 0] 34)); have h1 := h1.keep (below_alloc _ (.cells #[.slice none 0 0] 34)); have B0 := joinB B0 (below_alloc _ (.cells #[.slice none 0 0] 34)); have S0 := S0.drew; have P0 := P0.drew; have P1 := P1.drew; have h0 := h0.drew; have h1 := h1.drew; have B0 := B0.drew; have Sg := Sg.drew; refine (atW h0 dUnit).mono ?_)); rintro e w1 ⟨au, ku, du, rfl, hU, hku, hB⟩; have S0 := S0.keep hB; have P0 := P0.keep hB; have P1 := P1.keep hB; have h0 := h0.keep hB; have h1 := h1.keep hB; have q0 := P0.cell; have q1 := P1.cell; have B0 := joinB B0 hB; try (have Sg := Sg.keep hB); clear hB)
      | (go_at_call 89; (first | refine (atW h0 (dRounding false)).mono ?_ | (have Sg := slotA h0 (.slice none 0 0) 34; have hgl := S0.lt; have S0 := S0.keep (below_alloc _ (.cells #[.slice none 0 0] 34)); have P0 := P0.keep (below_alloc _ (.cells #[.slice none 0 0] 34)); have P1 := P1.keep (below_alloc _ (.cells #[.slice none 0 0] 34)); have h0 := h0.keep (below_alloc _ (.cells #[.slice none 0 0] 34)); have h1 := h1.keep (below_alloc _ (.cells #[.slice none 0 0] 34)); have hU := hU.keep (below_alloc _ (.cells #[.slice none 0 0] 34)); have B0 := joinB B0 (below_alloc _ (.cells #[.slice none 0 0] 34)); refine (atW h0 (dRounding false)).mono ?_)); rintro e w2 ⟨gc, rfl, S, hB⟩; have S0 := S0.keep hB; have P0 := P0.keep hB; have P1 := P1.keep hB; have h0 := h0.keep hB; have h1 := h1.keep hB; have hU := hU.keep hB; have q0 := P0.cell; have q1 := P1.cell; have B0 := joinB B0 hB; try (have Sg := Sg.keep hB); clear hB)
      | (go_at_call 88; (first | refine (dDivide h0 h1 hU.a S hn0 hn1 (by omega) (by decide)).mono ?_ | (have Sg := slotA h0 (.slice none 0 0) 34; have hgl := S0.lt; have S0 := S0.keep (below_alloc _ (.cells #[.slice none 0 0] 34)); have P0 := P0.keep (below_alloc _ (.cells #[.slice none 0 0] 34)); have P1 := P1.keep (below_alloc _ (.cells #[.slice none 0 0] 34)); have h0 := h0.keep (below_alloc _ (.cells #[.slice none 0 0] 34)); have h1 := h1.keep (below_alloc _ (.cells #[.slice none 0 0] 34)); have hU := hU.keep (below_alloc _ (.cells #[.slice none 0 0] 34)); have S := S.keep (below_alloc _ (.cells #[.slice none 0 0] 34)); have B0 := joinB B0 (below_alloc _ (.cells #[.slice none 0 0] 34)); refine (dDivide h0 h1 hU.a S hn0 hn1 (by omega) (by decide)).mono ?_)); rintro e w3 ⟨a', k', d', rfl, hO', hk', hB⟩; have S0 := S0.keep hB; have P0 := P0.keep hB; have P1 := P1.keep hB; have h0 := h0.keep hB; have h1 := h1.keep hB; have q0 := P0.cell; have q1 := P1.cell; have B0 := joinB B0 hB; try (have Sg := Sg.keep hB); clear hB h0 h1 hU S; have hO' := hO'.eqv (rnd_down _ _); try (have cg := Sg.cell; have fg := Sg.free)))
    all_goals (
      obtain ⟨ad, _⟩ := someAddr
      obtain ⟨nd, _⟩ := someNat
      first
      | (obtain ⟨g, hg, Sh⟩ : ∃ g, g = _ ∧ Slot w3 g (.slice none 0 0) 34 := ⟨_, rfl, Sg⟩
         rw [← hg] at hgl ⊢
         exact ⟨g, au, ku, du, ad, nd, gc, a', k', d', rfl, Sh.put _, S0.other (by omega) _, hgl, hO'.put Sh not_int _, by omega, B0.setCell (p := ⟨g, 0, none⟩) (by show w.heap.size ≤ g; omega) _⟩)
      | (have hgl := S0.lt
         obtain ⟨g, hg⟩ : ∃ g, g = w3.heap.size := ⟨_, rfl⟩
         rw [← hg] at hgl ⊢
         exact ⟨g, au, ku, du, ad, nd, gc, a', k', d', rfl, hg ▸ slot_new w3 _ _, S0.alloc _, hgl, hO'.keep (below_alloc _ _), by omega, joinB B0 (below_alloc _ _)⟩))
  case h2 =>
    intro g a1 k1 d1 a2 k2 d2 a3 k3 d3 w4 hF
    obtain ⟨Sg, S0, hgl, hO, hk, HB⟩ := hF
    have cg := Sg.cell
    have c0 := S0.cell
    have f0 := S0.free
    have S2 := S0.put (.slice a3 k3 d3)
    have hOz := hO.put S0 not_int (.slice a3 k3 d3)
    have HBz := HB.setCell (p := ⟨w.heap.size + 1 + 1, 0, none⟩) (by show w.heap.size ≤ w.heap.size + 1 + 1; omega) (.slice a3 k3 d3)
    go_wp2
    refine bodyPost_ret (ret_dec rfl rfl S2) rfl ?_
    exact ⟨a3, k3, d3, rfl, hOz, hk, HBz⟩
end Go.Proofs.YtpbiflfdfiebcabGreatDoor
