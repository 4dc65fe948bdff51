/- nat.foresee: Lehmer's steps with the highest bits of two numbers. -/
import Derived.Test.YtjihgkanbhccpaaGreatDoorBits
import Derived.Test.YtjihgkanbhccpaaGreatDoorMem
import Derived.Deep.RegionWith
import Derived.BigQuiet
namespace Go.Proofs.YtjihgkanbhccpaaGreatDoor
open Go.RowKit Lim

def sgO (odd : Bool) : Int := if odd then -1 else 1

/-- what several of Euclid's steps with the highest bits have made of x0 and y0 -/
structure Fore (x0 y0 x y px qx py qy : Int) (odd : Bool) : Prop where
  y0' : 0 ≤ y
  yx : y ≤ x
  px0 : 0 ≤ px
  qx0 : 0 ≤ qx
  py0 : 0 ≤ py
  qy1 : 1 ≤ qy
  e1 : x * qy + y * qx = x0
  e2 : x * py + y * px = y0
  det : px * qy - qx * py = sgO odd
  l1 : py ≤ qy
  l2 : px + py ≤ qx + qy
  l3 : qx ≤ qy
  l4 : px ≤ qy
  full : ∀ X Y K a b : Int, X = x0 * K + a → Y = y0 * K + b → 0 ≤ a → a < K → 0 ≤ b → b < K → 0 ≤ sgO odd * (qy * Y - py * X) ∧ sgO odd * (qy * Y - py * X) ≤ Y ∧ Int.gcd (sgO odd * (px * X - qx * Y)) (sgO odd * (qy * Y - py * X)) = Int.gcd X Y ∧ (qx = 0 ∨ (sgO odd * (qy * Y - py * X) < sgO odd * (px * X - qx * Y) ∧ sgO odd * (px * X - qx * Y) ≤ Y))

theorem Fore.start {x0 y0 : Int} (h0 : 0 ≤ y0) (h1 : y0 ≤ x0) : Fore x0 y0 x0 y0 1 0 0 1 false := by
  refine ⟨h0, h1, by decide, by decide, by decide, by decide, by omega, by omega, by decide, by decide, by decide, by decide, by decide, ?_⟩
  intro X Y K a b hX hY a0 a1 b0 b1
  have hK : 0 ≤ y0 * K := Int.mul_nonneg h0 (by omega)
  simp [sgO]
  omega

theorem sgO_cases (odd : Bool) : (sgO odd = 1 ∧ sgO (!odd) = -1) ∨ (sgO odd = -1 ∧ sgO (!odd) = 1) := by
  cases odd <;> decide

theorem Fore.bounds {x0 y0 x y px qx py qy : Int} {odd : Bool} (h : Fore x0 y0 x y px qx py qy odd) (hy : 0 < y) :
    0 ≤ x / y ∧ 1 ≤ x / y ∧ 0 ≤ x % y ∧ x % y < y ∧ 0 ≤ x / y * py ∧ 0 ≤ x / y * qy ∧ px + x / y * py ≤ qx + x / y * qy ∧ qx + x / y * qy ≤ x0 ∧ (qx + x / y * qy ≤ x % y → qx + x / y * qy + qy ≤ x0) ∧ y ≤ x0 ∧ x / y ≤ x0 ∧ x ≤ x0 := by
  have hx := h.yx
  have x1 : x * 1 ≤ x * qy := Int.mul_le_mul_of_nonneg_left h.qy1 (by omega)
  have x2 : 0 ≤ y * qx := Int.mul_nonneg (by omega) h.qx0
  have x3 := h.e1
  have x4 : x / y ≤ x := Int.ediv_le_self y (by omega)
  have t1 : 1 ≤ x / y := by
    rw [Int.le_ediv_iff_mul_le hy]; omega
  have r0 := Int.emod_nonneg x (show y ≠ 0 by omega)
  have r1 := Int.emod_lt_of_pos x hy
  have ex := Int.mul_ediv_add_emod x y
  generalize x / y = t at *
  generalize x % y = r at *
  have p1 := Int.mul_nonneg (show 0 ≤ t by omega) h.py0
  have hq := h.qy1
  have hq0 := h.qx0
  have q1 := Int.mul_nonneg (show 0 ≤ t by omega) (show 0 ≤ qy by omega)
  have d1 : 1 * (qy - py) ≤ t * (qy - py) := Int.mul_le_mul_of_nonneg_right t1 (by have := h.l1; omega)
  rw [Int.mul_sub, Int.mul_sub] at d1
  have l2 := h.l2
  have e1 := h.e1
  have e : y * (qx + t * qy) + r * qy = x0 := by rw [← e1, ← ex]; grind
  have m1 : 1 * (qx + t * qy) ≤ y * (qx + t * qy) := Int.mul_le_mul_of_nonneg_right (by omega) (by omega)
  have m2 : 0 ≤ r * qy := Int.mul_nonneg r0 (by omega)
  have m4 : y * 1 ≤ y * (qx + t * qy) := Int.mul_le_mul_of_nonneg_left (by
    have : 1 * 1 ≤ t * qy := Int.mul_le_mul t1 hq (by decide) (by omega)
    omega) (by omega)
  refine ⟨by omega, t1, r0, r1, p1, q1, by omega, by omega, fun hr => ?_, by omega, by omega, by omega⟩
  have hpos : 1 ≤ qx + t * qy := by
    have : 1 * 1 ≤ t * qy := Int.mul_le_mul t1 hq (by decide) (by omega)
    omega
  have m3 : 1 * qy ≤ r * qy := Int.mul_le_mul_of_nonneg_right (by omega) (by omega)
  omega

theorem Fore.step {x0 y0 x y px qx py qy : Int} {odd : Bool} (h : Fore x0 y0 x y px qx py qy odd) (hy : 0 < y) (c1 : qx + x / y * qy ≤ x % y) (c2 : qx + x / y * qy + qy ≤ y - x % y) :
    Fore x0 y0 y (x % y) py qy (px + x / y * py) (qx + x / y * qy) (!odd) := by
  obtain ⟨t0, t1, r0, r1, p1, q1, pq, -, -, -, -⟩ := h.bounds hy
  have ex := Int.mul_ediv_add_emod x y
  generalize x / y = t at *
  generalize x % y = r at *
  obtain ⟨hy0, hyx, hpx, hqx, hpy, hqy, e1, e2, det, l1, l2, l3, l4, full⟩ := h
  have tq : 1 * qy ≤ t * qy := Int.mul_le_mul_of_nonneg_right t1 (by omega)
  refine ⟨r0, by omega, hpy, by omega, by omega, ?_, ?_, ?_, ?_, pq, by omega, by omega, by omega, ?_⟩
  · have : 1 * 1 ≤ t * qy := Int.mul_le_mul t1 hqy (by decide) (by omega)
    omega
  · rw [← e1, ← ex]; grind
  · rw [← e2, ← ex]; grind
  · rcases sgO_cases odd with ⟨s1, s2⟩ | ⟨s1, s2⟩ <;> rw [s1] at det <;> rw [s2] <;> grind
  · intro X Y K a b hX hY a0 a1 b0 b1
    obtain ⟨f1, f2, f3, f4⟩ := full X Y K a b hX hY a0 a1 b0 b1
    have E1 : sgO (!odd) * (py * X - qy * Y) = sgO odd * (qy * Y - py * X) := by
      rcases sgO_cases odd with ⟨s1, s2⟩ | ⟨s1, s2⟩ <;> rw [s1, s2] <;> grind
    have E2 : sgO (!odd) * ((qx + t * qy) * Y - (px + t * py) * X) = sgO odd * (px * X - qx * Y) - t * (sgO odd * (qy * Y - py * X)) := by
      rcases sgO_cases odd with ⟨s1, s2⟩ | ⟨s1, s2⟩ <;> rw [s1, s2] <;> grind
    have F1 : sgO odd * (px * X - qx * Y) = x * K + sgO odd * (px * a - qx * b) := by
      rcases sgO_cases odd with ⟨s1, s2⟩ | ⟨s1, s2⟩ <;> rw [s1] at det <;> rw [s1, hX, hY, ← e1, ← e2] <;> grind
    have F2 : sgO odd * (qy * Y - py * X) = y * K + sgO odd * (qy * b - py * a) := by
      rcases sgO_cases odd with ⟨s1, s2⟩ | ⟨s1, s2⟩ <;> rw [s1] at det <;> rw [s1, hX, hY, ← e1, ← e2] <;> grind
    have G : sgO odd * (px * X - qx * Y) - t * (sgO odd * (qy * Y - py * X)) = r * K + sgO odd * ((px + t * py) * a - (qx + t * qy) * b) := by
      rw [F1, F2, ← ex]; grind
    rw [E1, E2]
    have hq' : 0 ≤ qx + t * qy := by omega
    have hp' : 0 ≤ px + t * py := by omega
    generalize hP : px + t * py = p at *
    generalize hQ : qx + t * qy = q at *
    have k1 : q * b ≤ q * K := Int.mul_le_mul_of_nonneg_left (by omega) hq'
    have k2 : p * a ≤ p * K := Int.mul_le_mul_of_nonneg_left (by omega) hp'
    have k3 : p * K ≤ q * K := Int.mul_le_mul_of_nonneg_right pq (by omega)
    have k4 : q * K ≤ r * K := Int.mul_le_mul_of_nonneg_right c1 (by omega)
    have k5 : 0 ≤ p * a := Int.mul_nonneg hp' a0
    have k6 : 0 ≤ q * b := Int.mul_nonneg hq' b0
    have j1 : (q + qy) * K ≤ (y - r) * K := Int.mul_le_mul_of_nonneg_right c2 (by omega)
    have j2 : (q + qy) * b + 1 ≤ (q + qy) * K := by
      have : (q + qy) * (b + 1) ≤ (q + qy) * K := Int.mul_le_mul_of_nonneg_left (by omega) (by omega)
      rw [Int.mul_add] at this; omega
    have j3 : (p + py) * a ≤ (q + qy) * a := Int.mul_le_mul_of_nonneg_right (by omega) a0
    have j4 : (q + qy) * a + 1 ≤ (q + qy) * K := by
      have : (q + qy) * (a + 1) ≤ (q + qy) * K := Int.mul_le_mul_of_nonneg_left (by omega) (by omega)
      rw [Int.mul_add] at this; omega
    have j5 : 0 ≤ (q + qy) * b := Int.mul_nonneg (by omega) b0
    have j6 : 0 ≤ (p + py) * a := Int.mul_nonneg (by omega) a0
    have hgcd : Int.gcd (sgO odd * (qy * Y - py * X)) (sgO odd * (px * X - qx * Y) - t * (sgO odd * (qy * Y - py * X))) = Int.gcd X Y := by
      rw [Int.gcd_sub_mul_right_right, Int.gcd_comm]; exact f3
    have key : 0 ≤ sgO odd * (px * X - qx * Y) - t * (sgO odd * (qy * Y - py * X)) ∧ sgO odd * (px * X - qx * Y) - t * (sgO odd * (qy * Y - py * X)) < sgO odd * (qy * Y - py * X) := by
      rw [G, F2]
      rw [Int.sub_mul] at j1
      rcases sgO_cases odd with ⟨s1, s2⟩ | ⟨s1, s2⟩ <;> rw [s1]
      · have d1 : y * K + 1 * (qy * b - py * a) - (r * K + 1 * (p * a - q * b)) = y * K - r * K + (q + qy) * b - (p + py) * a := by grind
        constructor <;> omega
      · have d1 : y * K + -1 * (qy * b - py * a) - (r * K + -1 * (p * a - q * b)) = y * K - r * K + (p + py) * a - (q + qy) * b := by grind
        constructor <;> omega
    exact ⟨key.1, by omega, hgcd, .inr ⟨key.2, f2⟩⟩

theorem Fore.small {x0 y0 x y px qx py qy : Int} {odd : Bool} (h : Fore x0 y0 x y px qx py qy odd) (h0 : 0 < x0) : px ≤ x0 ∧ qx ≤ x0 ∧ py ≤ x0 ∧ qy ≤ x0 := by
  have e := h.e1
  have k1 := h.y0'
  have k2 := h.yx
  have k3 := h.qx0
  have k4 := h.qy1
  have k5 := h.l1
  have k6 := h.l3
  have k7 := h.l4
  have hx : 1 ≤ x := by
    by_cases c : 1 ≤ x
    · exact c
    · have : x = 0 := by omega
      have : y = 0 := by omega
      subst_vars
      simp at h0
  have m1 : 1 * qy ≤ x * qy := Int.mul_le_mul_of_nonneg_right hx (by omega)
  have m2 := Int.mul_nonneg k1 k3
  omega
theorem Fore.odd_out {x0 y0 x y px qx py qy X Y K a b : Int} (h : Fore x0 y0 x y px qx py qy true) (hX : X = x0 * K + a) (hY : Y = y0 * K + b) (a0 : 0 ≤ a) (a1 : a < K) (b0 : 0 ≤ b) (b1 : b < K) (hq : qx ≠ 0) :
    X * px ≤ Y * qx ∧ Y * qy ≤ X * py ∧ Int.gcd (Y * qx - X * px) (X * py - Y * qy) = Int.gcd X Y ∧ X * py - Y * qy < Y * qx - X * px ∧ Y * qx - X * px ≤ Y := by
  obtain ⟨f1, f2, f3, f4⟩ := h.full X Y K a b hX hY a0 a1 b0 b1
  rw [show sgO true * (qy * Y - py * X) = X * py - Y * qy by simp only [sgO]; grind] at f1 f2 f3 f4
  rw [show sgO true * (px * X - qx * Y) = Y * qx - X * px by simp only [sgO]; grind] at f3 f4
  rcases f4 with e | ⟨f4, f5⟩
  · exact absurd e hq
  · exact ⟨by omega, by omega, f3, f4, f5⟩
theorem Fore.even_out {x0 y0 x y px qx py qy X Y K a b : Int} (h : Fore x0 y0 x y px qx py qy false) (hX : X = x0 * K + a) (hY : Y = y0 * K + b) (a0 : 0 ≤ a) (a1 : a < K) (b0 : 0 ≤ b) (b1 : b < K) (hq : qx ≠ 0) :
    Y * qx ≤ X * px ∧ X * py ≤ Y * qy ∧ Int.gcd (X * px - Y * qx) (Y * qy - X * py) = Int.gcd X Y ∧ Y * qy - X * py < X * px - Y * qx ∧ X * px - Y * qx ≤ Y := by
  obtain ⟨f1, f2, f3, f4⟩ := h.full X Y K a b hX hY a0 a1 b0 b1
  rw [show sgO false * (qy * Y - py * X) = Y * qy - X * py by simp only [sgO]; grind] at f1 f2 f3 f4
  rw [show sgO false * (px * X - qx * Y) = X * px - Y * qx by simp only [sgO]; grind] at f3 f4
  rcases f4 with e | ⟨f4, f5⟩
  · exact absurd e hq
  · exact ⟨by omega, by omega, f3, f4, f5⟩
theorem info_steps : (Tryz.prog.info? 158).map (·.size) = some 5 := by kernel_rfl
theorem under_steps : ∃ f, Tryz.prog.underlying 158 = some (.struct f) := by
  cases h : Tryz.prog.underlying 158 with
  | none => exact absurd h (by have : (Tryz.prog.underlying 158).isSome = true := by kernel_rfl
                               intro e; rw [e] at this; simp at this)
  | some d =>
    have : (match Tryz.prog.underlying 158 with | some (.struct _) => true | _ => false) = true := by kernel_rfl
    rw [h] at this
    cases d <;> first | exact ⟨_, rfl⟩ | simp at this
/-- a struct that lies in a block of its own, as a function's one result -/
theorem ret_row {fn : Func} {p : Tmp} {t : TypeId} {cs : Array Value} (h : fn.results = #[.cell p t]) {tmps : Array Value} {w : World} {g : Nat} (hp : tmps.getD p undef = .pointer (some ⟨g, 0, none⟩)) (hb : w.heap[g]? = some (.cells cs t (0, 0)))
    (hu : ∃ f, Tryz.prog.underlying t = some (.struct f)) (hi : (Tryz.prog.info? t).map (·.size) = some cs.size) : (results fn tmps).run Tryz.prog w = .ok (.agg cs) w := by
  have hp' : tmps[p]?.getD undef = .pointer (some ⟨g, 0, none⟩) := by simpa using hp
  obtain ⟨f, hu⟩ := hu
  have hl := run_loadVar_row (P := Tryz.prog) w g t t cs (0, 0) _ hb hu rfl hi
  simp [results, h, hp', asAddr, hl]
theorem heap_alloc2 (w : World) (o o' : Obj) : ((w.alloc o).alloc o').heap[w.heap.size]? = some o := by
  show ((w.heap.push o).push o')[w.heap.size]? = some o
  rw [Array.getElem?_push, if_neg (by simp), Array.getElem?_push_size]
theorem below_two {w W : World} (h : Below w.heap.size w W) (o o' : Obj) : Below w.heap.size w ((W.alloc o).alloc o') :=
  (h.alloc h.size o).alloc (Nat.le_trans h.size (by simp)) o'
theorem drew_more {w W : World} (h : Hid (∃ n, W = w.drewN n)) (k : Nat) : Hid (∃ n, W.drewN k = w.drewN n) := by
  obtain ⟨n, rfl⟩ := h.out
  exact ⟨n + k, World.drewN_drewN _ _ _⟩
theorem drewN_out (W : World) (A C : Obj) (k : Nat) : ((W.alloc A).alloc C).drewN k = ((W.drewN k).alloc A).alloc C := rfl

structure ForeEnd (x0 y0 : Int) (w : World) (e : Ending) (w' : World) : Prop where
  ex : ∃ (x y px qx py qy : Int) (odd : Bool), e = .returned (.agg #[.int .u64 px, .int .u64 qx, .int .u64 py, .int .u64 qy, .bool odd]) ∧ Fore x0 y0 x y px qx py qy odd ∧ Below w.heap.size w w'
structure ForeIn (x0 y0 : Int) (w : World) (tx ty : Value) (wr : World) : Prop where
  ex : ∃ (x y px qx py qy : Int) (odd : Bool) (n : Nat), tx = .int .u64 x ∧ ty = .int .u64 y ∧ Fore x0 y0 x y px qx py qy odd ∧ wr = ((w.drewN n).alloc (.cells #[.int .u64 0, .int .u64 0, .int .u64 0, .int .u64 0, .bool false] 158)).alloc (.cells #[.int .u64 px, .int .u64 qx, .int .u64 py, .int .u64 qy, .bool odd] 158)
set_option maxHeartbeats 2000000 in
set_option maxRecDepth 100000 in
theorem foresee_any (x0 y0 : Int) (w : World) (hy : 0 ≤ y0) (hyx : y0 ≤ x0) (hx : x0 < 18446744073709551616) :
    Calls Tryz.prog 163 #[.int .u64 x0, .int .u64 y0] w (ForeEnd x0 y0 w) := by
  go_enter Tryz.func163, Tryz.ntmps163
  go_wp2
  go_loopw [0, 1] (fun tx ty wr => ForeIn x0 y0 w tx ty wr) (fun _ ty _ => (intOf ty).toNat)
  case atStart => exact ⟨x0, y0, 1, 0, 0, 1, false, 0, rfl, rfl, Fore.start hy hyx, rfl⟩
  case round =>
    obtain ⟨x, y, px, qx, py, qy, odd, n, rfl, rfl, hF, rfl⟩ := hrel.ex
    have hWs : w.heap.size = (w.drewN n).heap.size := rfl
    rw [hWs]
    have hWb : Below w.heap.size w (w.drewN n) := below_drewN (Below.refl _ _) n
    have hWe : Hid (∃ n', w.drewN n = w.drewN n') := ⟨n, rfl⟩
    generalize w.drewN n = W at *
    have hWh : Hid (w.heap.size = W.heap.size) := hWs
    clear hWs
    have hy0 := hF.y0'
    by_cases hb : y = 0
    · subst hb
      go_wp2
      refine bodyPost_ret (ret_row rfl rfl (heap_alloc2 _ _ _) under_steps info_steps) rfl ?_
      exact ⟨x, 0, px, qx, py, qy, odd, rfl, hF, below_two hWb _ _⟩
    · have hb' : (y != 0) = true := by rw [bne_iff_ne]; exact hb
      have hb2 : (y == 0) = false := beq_eq_false_iff_ne.2 hb
      obtain ⟨t0, t1, r0, r1, p1, q1, pq, qb, qqb, yb, tb, xb⟩ := hF.bounds (by omega)
      have hST := fun c1 c2 => hF.step (by omega) c1 c2
      have hpx := hF.px0
      have hqx := hF.qx0
      have hqy := hF.qy1
      have hpy := hF.py0
      have hyx2 := hF.yx
      have hx0' : 0 ≤ x := by omega
      obtain ⟨t, ht⟩ : ∃ t, x / y = t := ⟨_, rfl⟩
      obtain ⟨r, hr⟩ : ∃ r, x % y = r := ⟨_, rfl⟩
      simp only [ht, hr] at t0 t1 r0 r1 p1 q1 pq qb qqb tb hST
      go_wp2_with fail
      go_quiet (fail)
      rw [ht, hr, drewN_out, show W.heap.size = (W.drewN nq).heap.size from rfl]
      replace hWb := below_drewN hWb nq
      replace hWe := drew_more hWe nq
      generalize W.drewN nq = W1 at *
      have hbp : 0 ≤ t * py ∧ t * py < 18446744073709551616 := by omega
      have hbq : 0 ≤ t * qy ∧ t * qy < 18446744073709551616 := by omega
      have hbp2 : 0 ≤ px + t * py ∧ px + t * py < 18446744073709551616 := by omega
      have hbq2 : 0 ≤ qx + t * qy ∧ qx + t * qy < 18446744073709551616 := by omega
      go_wp2_with fail
      go_quiet (fail)
      rw [drewN_out, show W1.heap.size = (W1.drewN nq).heap.size from rfl]
      replace hWb := below_drewN hWb nq
      replace hWe := drew_more hWe nq
      have hk2 : w.heap.size ≤ w.heap.size := Nat.le_refl _
      generalize hW2 : W1.drewN nq = W2 at *
      obtain ⟨p, hp⟩ : ∃ p, px + t * py = p := ⟨_, rfl⟩
      obtain ⟨q, hq⟩ : ∃ q, qx + t * qy = q := ⟨_, rfl⟩
      rw [hp, hq]
      simp only [hp, hq] at hST pq qb qqb hbp2 hbq2
      clear hp hq ht hr hW2 hbp hbq hk2
      by_cases c1 : r < q
      · have c1' : decide (r < q) = true := decide_eq_true c1
        go_wp2
        refine bodyPost_ret (ret_row rfl rfl (heap_alloc2 _ _ _) under_steps info_steps) rfl ?_
        exact ⟨x, y, px, qx, py, qy, odd, rfl, hF, below_two hWb _ _⟩
      · have c1' : decide (r < q) = false := decide_eq_false c1
        have hqq := qqb (by omega)
        have hs1 : 0 ≤ y - r ∧ y - r < 18446744073709551616 := by omega
        have hs2 : 0 ≤ q + qy ∧ q + qy < 18446744073709551616 := by omega
        by_cases c2 : y - r < q + qy
        · have c2' : decide (y - r < q + qy) = true := decide_eq_true c2
          go_wp2
          refine bodyPost_ret (ret_row rfl rfl (heap_alloc2 _ _ _) under_steps info_steps) rfl ?_
          exact ⟨x, y, px, qx, py, qy, odd, rfl, hF, below_two hWb _ _⟩
        · have c2' : decide (y - r < q + qy) = false := decide_eq_false c2
          go_wp2
          obtain ⟨n', rfl⟩ := hWe.out
          exact ⟨⟨_, _, ⟨y, r, py, qy, p, q, !odd, n', rfl, rfl, hST (by omega) (by omega), rfl⟩, rfl, rfl, hWh.out⟩, by simp [intOf]; omega⟩
end Go.Proofs.YtjihgkanbhccpaaGreatDoor
