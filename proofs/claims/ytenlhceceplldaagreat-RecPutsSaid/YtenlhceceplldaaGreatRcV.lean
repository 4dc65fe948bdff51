/- What rec and the document lay of a Records value. -/
import Derived.Test.YtenlhceceplldaaGreatJha
import Derived.Test.YtenlhceceplldaaGreatJga
namespace Go.Proofs.YtenlhceceplldaaGreat
namespace Rc
open Go.RowKit Go.Lib Pg Lim Gl
def lbParams (xs : Nat → Int) (_ts : Nat → Bool) : List Int := thr (pnx (fun o => ([xs 0, xs 1, xs 2, xs 3, xs 4, xs 5, xs 6, xs 7, xs 8, xs 9] : List Int).getD o 0)) [(0, 0), (0, 1), (0, 2), (0, 3), (0, 4), (0, 5), (0, 6), (0, 7), (0, 8), (0, 9)] []
theorem gPutParams {w : World} {xs : Nat → Int} {ts : Nat → Bool}  :
    Calls Tryz.prog 8 #[.agg #[.int .u64 (xs 0), .int .u64 (xs 1), .int .u64 (xs 2), .int .u64 (xs 3), .int .u64 (xs 4), .int .u64 (xs 5), .int .u64 (xs 6), .int .u64 (xs 7), .int .u64 (xs 8), .int .u64 (xs 9)]] w fun e w' => ∃ b, e = .returned (sg (lbParams xs ts).length b) ∧ Box w' b ((lbParams xs ts).map (Value.int .u8)) 5 ∧ w.heap.size ≤ b ∧ Below w.heap.size w w' := by
  refine (PutParams_any (x0 := xs 0) (x1 := xs 1) (x2 := xs 2) (x3 := xs 3) (x4 := xs 4) (x5 := xs 5) (x6 := xs 6) (x7 := xs 7) (x8 := xs 8) (x9 := xs 9)).mono ?_
  rintro e w' ⟨b, n, rfl, rfl, X, h, B'⟩
  exact ⟨b, rfl, X, h, B'⟩
theorem wPutParams {w : World} {xs : Nat → Int} {ts : Nat → Bool}  :
    Calls Tryz.prog 19 #[.agg #[.int .u64 (xs 0), .int .u64 (xs 1), .int .u64 (xs 2), .int .u64 (xs 3), .int .u64 (xs 4), .int .u64 (xs 5), .int .u64 (xs 6), .int .u64 (xs 7), .int .u64 (xs 8), .int .u64 (xs 9)]] w fun e w' => ∃ v, e = .returned v ∧ MineB w' w.heap.size v (lbParams xs ts) ∧ Below w.heap.size w w' := rPutParams (x0 := xs 0) (x1 := xs 1) (x2 := xs 2) (x3 := xs 3) (x4 := xs 4) (x5 := xs 5) (x6 := xs 6) (x7 := xs 7) (x8 := xs 8) (x9 := xs 9)
def lbChain (xs : Nat → Int) (_ts : Nat → Bool) : List Int := thr (pnx (fun o => ([xs 10, xs 11] : List Int).getD o 0)) [(0, 0), (0, 1)] []
theorem gPutChain {w : World} {xs : Nat → Int} {ts : Nat → Bool}  :
    Calls Tryz.prog 9 #[.agg #[.int .u64 (xs 10), .int .u64 (xs 11)]] w fun e w' => ∃ b, e = .returned (sg (lbChain xs ts).length b) ∧ Box w' b ((lbChain xs ts).map (Value.int .u8)) 5 ∧ w.heap.size ≤ b ∧ Below w.heap.size w w' := by
  refine (PutChain_any (x0 := xs 10) (x1 := xs 11)).mono ?_
  rintro e w' ⟨b, n, rfl, rfl, X, h, B'⟩
  exact ⟨b, rfl, X, h, B'⟩
theorem wPutChain {w : World} {xs : Nat → Int} {ts : Nat → Bool}  :
    Calls Tryz.prog 20 #[.agg #[.int .u64 (xs 10), .int .u64 (xs 11)]] w fun e w' => ∃ v, e = .returned v ∧ MineB w' w.heap.size v (lbChain xs ts) ∧ Below w.heap.size w w' := rPutChain (x0 := xs 10) (x1 := xs 11)
def lbPool (xs : Nat → Int) (_ts : Nat → Bool) : List Int := thr (pnx (fun o => ([xs 12] : List Int).getD o 0)) [(2, 0)] []
theorem gPutPool {w0 w : World} {xs : Nat → Int} {ts : Nat → Bool} {aa : Nat → Option Addr} {ns cc : Nat → Nat} (B : Below w0.heap.size w0 w) (h0 : NatA w0 (aa 12) (ns 12) (cc 12) (xs 12)) (m0 : ns 12 ≤ 60) :
    Calls Tryz.prog 10 #[.agg #[.slice (aa 12) (ns 12) (cc 12)]] w fun e w' => ∃ b, e = .returned (sg (lbPool xs ts).length b) ∧ Box w' b ((lbPool xs ts).map (Value.int .u8)) 5 ∧ w.heap.size ≤ b ∧ Below w.heap.size w w' := by
  refine (PutPool_any (h0 := h0.keep B) (m0 := Nat.le_trans m0 (by decide))).mono ?_
  rintro e w' ⟨b, n, rfl, rfl, X, h, B'⟩
  exact ⟨b, rfl, X, h, B'⟩
theorem wPutPool {w0 w : World} {xs : Nat → Int} {ts : Nat → Bool} {aa : Nat → Option Addr} {ns cc : Nat → Nat} (B : Below w0.heap.size w0 w) (h0 : NatA w0 (aa 12) (ns 12) (cc 12) (xs 12)) (m0 : ns 12 ≤ 60) :
    Calls Tryz.prog 21 #[.agg #[.slice (aa 12) (ns 12) (cc 12)]] w fun e w' => ∃ v, e = .returned v ∧ MineB w' w.heap.size v (lbPool xs ts) ∧ Below w.heap.size w w' := rPutPool (h0 := h0.keep B) (m0 := Nat.le_trans m0 (by decide))
def lbAccount (xs : Nat → Int) (_ts : Nat → Bool) : List Int := thr (pnx (fun o => ([xs 13, xs 14] : List Int).getD o 0)) [(0, 0), (0, 1)] []
theorem gPutAccount {w : World} {xs : Nat → Int} {ts : Nat → Bool}  :
    Calls Tryz.prog 11 #[.agg #[.int .u64 (xs 13), .int .u64 (xs 14)]] w fun e w' => ∃ b, e = .returned (sg (lbAccount xs ts).length b) ∧ Box w' b ((lbAccount xs ts).map (Value.int .u8)) 5 ∧ w.heap.size ≤ b ∧ Below w.heap.size w w' := by
  refine (PutAccount_any (x0 := xs 13) (x1 := xs 14)).mono ?_
  rintro e w' ⟨b, n, rfl, rfl, X, h, B'⟩
  exact ⟨b, rfl, X, h, B'⟩
theorem wPutAccount {w : World} {xs : Nat → Int} {ts : Nat → Bool}  :
    Calls Tryz.prog 22 #[.agg #[.int .u64 (xs 13), .int .u64 (xs 14)]] w fun e w' => ∃ v, e = .returned v ∧ MineB w' w.heap.size v (lbAccount xs ts) ∧ Below w.heap.size w w' := rPutAccount (x0 := xs 13) (x1 := xs 14)
def lbVal (xs : Nat → Int) (ts : Nat → Bool) : List Int := thr (pnx (fun o => ([xs 15, xs 16, xs 17, (if ts 18 then 1 else 0), xs 19, (if ts 20 then 1 else 0), xs 21, xs 22, xs 23, xs 24] : List Int).getD o 0)) [(0, 0), (0, 1), (2, 2), (1, 3), (0, 4), (1, 5), (0, 6), (2, 7), (2, 8), (2, 9)] []
theorem gPutVal {w0 w : World} {xs : Nat → Int} {ts : Nat → Bool} {aa : Nat → Option Addr} {ns cc : Nat → Nat} (B : Below w0.heap.size w0 w) (h2 : NatA w0 (aa 17) (ns 17) (cc 17) (xs 17)) (m2 : ns 17 ≤ 60) (h7 : NatA w0 (aa 22) (ns 22) (cc 22) (xs 22)) (m7 : ns 22 ≤ 60) (h8 : NatA w0 (aa 23) (ns 23) (cc 23) (xs 23)) (m8 : ns 23 ≤ 60) (h9 : NatA w0 (aa 24) (ns 24) (cc 24) (xs 24)) (m9 : ns 24 ≤ 60) :
    Calls Tryz.prog 12 #[.agg #[.int .u64 (xs 15), .int .u64 (xs 16), .slice (aa 17) (ns 17) (cc 17), .bool (ts 18), .int .u64 (xs 19), .bool (ts 20), .int .u64 (xs 21), .slice (aa 22) (ns 22) (cc 22), .slice (aa 23) (ns 23) (cc 23), .slice (aa 24) (ns 24) (cc 24)]] w fun e w' => ∃ b, e = .returned (sg (lbVal xs ts).length b) ∧ Box w' b ((lbVal xs ts).map (Value.int .u8)) 5 ∧ w.heap.size ≤ b ∧ Below w.heap.size w w' := by
  refine (PutVal_any (x0 := xs 15) (x1 := xs 16) (h2 := h2.keep B) (m2 := Nat.le_trans m2 (by decide)) (b3 := ts 18) (x4 := xs 19) (b5 := ts 20) (x6 := xs 21) (h7 := h7.keep B) (m7 := Nat.le_trans m7 (by decide)) (h8 := h8.keep B) (m8 := Nat.le_trans m8 (by decide)) (h9 := h9.keep B) (m9 := Nat.le_trans m9 (by decide))).mono ?_
  rintro e w' ⟨b, n, rfl, rfl, X, h, B'⟩
  exact ⟨b, rfl, X, h, B'⟩
theorem wPutVal {w0 w : World} {xs : Nat → Int} {ts : Nat → Bool} {aa : Nat → Option Addr} {ns cc : Nat → Nat} (B : Below w0.heap.size w0 w) (h2 : NatA w0 (aa 17) (ns 17) (cc 17) (xs 17)) (m2 : ns 17 ≤ 60) (h7 : NatA w0 (aa 22) (ns 22) (cc 22) (xs 22)) (m7 : ns 22 ≤ 60) (h8 : NatA w0 (aa 23) (ns 23) (cc 23) (xs 23)) (m8 : ns 23 ≤ 60) (h9 : NatA w0 (aa 24) (ns 24) (cc 24) (xs 24)) (m9 : ns 24 ≤ 60) :
    Calls Tryz.prog 23 #[.agg #[.int .u64 (xs 15), .int .u64 (xs 16), .slice (aa 17) (ns 17) (cc 17), .bool (ts 18), .int .u64 (xs 19), .bool (ts 20), .int .u64 (xs 21), .slice (aa 22) (ns 22) (cc 22), .slice (aa 23) (ns 23) (cc 23), .slice (aa 24) (ns 24) (cc 24)]] w fun e w' => ∃ v, e = .returned v ∧ MineB w' w.heap.size v (lbVal xs ts) ∧ Below w.heap.size w w' := rPutVal (x0 := xs 15) (x1 := xs 16) (h2 := h2.keep B) (m2 := Nat.le_trans m2 (by decide)) (b3 := ts 18) (x4 := xs 19) (b5 := ts 20) (x6 := xs 21) (h7 := h7.keep B) (m7 := Nat.le_trans m7 (by decide)) (h8 := h8.keep B) (m8 := Nat.le_trans m8 (by decide)) (h9 := h9.keep B) (m9 := Nat.le_trans m9 (by decide))
def lbDelegation (xs : Nat → Int) (_ts : Nat → Bool) : List Int := thr (pnx (fun o => ([xs 25, xs 26, xs 27] : List Int).getD o 0)) [(2, 0), (0, 1), (2, 2)] []
theorem gPutDelegation {w0 w : World} {xs : Nat → Int} {ts : Nat → Bool} {aa : Nat → Option Addr} {ns cc : Nat → Nat} (B : Below w0.heap.size w0 w) (h0 : NatA w0 (aa 25) (ns 25) (cc 25) (xs 25)) (m0 : ns 25 ≤ 60) (h2 : NatA w0 (aa 27) (ns 27) (cc 27) (xs 27)) (m2 : ns 27 ≤ 60) :
    Calls Tryz.prog 13 #[.agg #[.slice (aa 25) (ns 25) (cc 25), .int .u64 (xs 26), .slice (aa 27) (ns 27) (cc 27)]] w fun e w' => ∃ b, e = .returned (sg (lbDelegation xs ts).length b) ∧ Box w' b ((lbDelegation xs ts).map (Value.int .u8)) 5 ∧ w.heap.size ≤ b ∧ Below w.heap.size w w' := by
  refine (PutDelegation_any (h0 := h0.keep B) (m0 := Nat.le_trans m0 (by decide)) (x1 := xs 26) (h2 := h2.keep B) (m2 := Nat.le_trans m2 (by decide))).mono ?_
  rintro e w' ⟨b, n, rfl, rfl, X, h, B'⟩
  exact ⟨b, rfl, X, h, B'⟩
theorem wPutDelegation {w0 w : World} {xs : Nat → Int} {ts : Nat → Bool} {aa : Nat → Option Addr} {ns cc : Nat → Nat} (B : Below w0.heap.size w0 w) (h0 : NatA w0 (aa 25) (ns 25) (cc 25) (xs 25)) (m0 : ns 25 ≤ 60) (h2 : NatA w0 (aa 27) (ns 27) (cc 27) (xs 27)) (m2 : ns 27 ≤ 60) :
    Calls Tryz.prog 24 #[.agg #[.slice (aa 25) (ns 25) (cc 25), .int .u64 (xs 26), .slice (aa 27) (ns 27) (cc 27)]] w fun e w' => ∃ v, e = .returned v ∧ MineB w' w.heap.size v (lbDelegation xs ts) ∧ Below w.heap.size w w' := rPutDelegation (h0 := h0.keep B) (m0 := Nat.le_trans m0 (by decide)) (x1 := xs 26) (h2 := h2.keep B) (m2 := Nat.le_trans m2 (by decide))
def lbHistory (xs : Nat → Int) (_ts : Nat → Bool) : List Int := thr (pnx (fun o => ([xs 28, xs 29] : List Int).getD o 0)) [(2, 0), (0, 1)] []
theorem gPutHistory {w0 w : World} {xs : Nat → Int} {ts : Nat → Bool} {aa : Nat → Option Addr} {ns cc : Nat → Nat} (B : Below w0.heap.size w0 w) (h0 : NatA w0 (aa 28) (ns 28) (cc 28) (xs 28)) (m0 : ns 28 ≤ 60) :
    Calls Tryz.prog 14 #[.agg #[.slice (aa 28) (ns 28) (cc 28), .int .u64 (xs 29)]] w fun e w' => ∃ b, e = .returned (sg (lbHistory xs ts).length b) ∧ Box w' b ((lbHistory xs ts).map (Value.int .u8)) 5 ∧ w.heap.size ≤ b ∧ Below w.heap.size w w' := by
  refine (PutHistory_any (h0 := h0.keep B) (m0 := Nat.le_trans m0 (by decide)) (x1 := xs 29)).mono ?_
  rintro e w' ⟨b, n, rfl, rfl, X, h, B'⟩
  exact ⟨b, rfl, X, h, B'⟩
theorem wPutHistory {w0 w : World} {xs : Nat → Int} {ts : Nat → Bool} {aa : Nat → Option Addr} {ns cc : Nat → Nat} (B : Below w0.heap.size w0 w) (h0 : NatA w0 (aa 28) (ns 28) (cc 28) (xs 28)) (m0 : ns 28 ≤ 60) :
    Calls Tryz.prog 25 #[.agg #[.slice (aa 28) (ns 28) (cc 28), .int .u64 (xs 29)]] w fun e w' => ∃ v, e = .returned v ∧ MineB w' w.heap.size v (lbHistory xs ts) ∧ Below w.heap.size w w' := rPutHistory (h0 := h0.keep B) (m0 := Nat.le_trans m0 (by decide)) (x1 := xs 29)
def lbCut (xs : Nat → Int) (_ts : Nat → Bool) : List Int := thr (pnx (fun o => ([xs 30, xs 31] : List Int).getD o 0)) [(0, 0), (0, 1)] []
theorem gPutCut {w : World} {xs : Nat → Int} {ts : Nat → Bool}  :
    Calls Tryz.prog 15 #[.agg #[.int .u64 (xs 30), .int .u64 (xs 31)]] w fun e w' => ∃ b, e = .returned (sg (lbCut xs ts).length b) ∧ Box w' b ((lbCut xs ts).map (Value.int .u8)) 5 ∧ w.heap.size ≤ b ∧ Below w.heap.size w w' := by
  refine (PutCut_any (x0 := xs 30) (x1 := xs 31)).mono ?_
  rintro e w' ⟨b, n, rfl, rfl, X, h, B'⟩
  exact ⟨b, rfl, X, h, B'⟩
theorem wPutCut {w : World} {xs : Nat → Int} {ts : Nat → Bool}  :
    Calls Tryz.prog 26 #[.agg #[.int .u64 (xs 30), .int .u64 (xs 31)]] w fun e w' => ∃ v, e = .returned v ∧ MineB w' w.heap.size v (lbCut xs ts) ∧ Below w.heap.size w w' := rPutCut (x0 := xs 30) (x1 := xs 31)
def lbUnbonding (xs : Nat → Int) (_ts : Nat → Bool) : List Int := thr (pnx (fun o => ([xs 32, xs 33, xs 34, xs 35, xs 36, xs 37] : List Int).getD o 0)) [(0, 0), (0, 1), (0, 2), (0, 3), (0, 4), (0, 5)] []
theorem gPutUnbonding {w : World} {xs : Nat → Int} {ts : Nat → Bool}  :
    Calls Tryz.prog 16 #[.agg #[.int .u64 (xs 32), .int .u64 (xs 33), .int .u64 (xs 34), .int .u64 (xs 35), .int .u64 (xs 36), .int .u64 (xs 37)]] w fun e w' => ∃ b, e = .returned (sg (lbUnbonding xs ts).length b) ∧ Box w' b ((lbUnbonding xs ts).map (Value.int .u8)) 5 ∧ w.heap.size ≤ b ∧ Below w.heap.size w w' := by
  refine (PutUnbonding_any (x0 := xs 32) (x1 := xs 33) (x2 := xs 34) (x3 := xs 35) (x4 := xs 36) (x5 := xs 37)).mono ?_
  rintro e w' ⟨b, n, rfl, rfl, X, h, B'⟩
  exact ⟨b, rfl, X, h, B'⟩
theorem wPutUnbonding {w : World} {xs : Nat → Int} {ts : Nat → Bool}  :
    Calls Tryz.prog 27 #[.agg #[.int .u64 (xs 32), .int .u64 (xs 33), .int .u64 (xs 34), .int .u64 (xs 35), .int .u64 (xs 36), .int .u64 (xs 37)]] w fun e w' => ∃ v, e = .returned v ∧ MineB w' w.heap.size v (lbUnbonding xs ts) ∧ Below w.heap.size w w' := rPutUnbonding (x0 := xs 32) (x1 := xs 33) (x2 := xs 34) (x3 := xs 35) (x4 := xs 36) (x5 := xs 37)
def lbMove (xs : Nat → Int) (_ts : Nat → Bool) : List Int := thr (pnx (fun o => ([xs 38, xs 39, xs 40, xs 41, xs 42, xs 43, xs 44] : List Int).getD o 0)) [(0, 0), (0, 1), (0, 2), (0, 3), (0, 4), (0, 5), (2, 6)] []
theorem gPutMove {w0 w : World} {xs : Nat → Int} {ts : Nat → Bool} {aa : Nat → Option Addr} {ns cc : Nat → Nat} (B : Below w0.heap.size w0 w) (h6 : NatA w0 (aa 44) (ns 44) (cc 44) (xs 44)) (m6 : ns 44 ≤ 60) :
    Calls Tryz.prog 17 #[.agg #[.int .u64 (xs 38), .int .u64 (xs 39), .int .u64 (xs 40), .int .u64 (xs 41), .int .u64 (xs 42), .int .u64 (xs 43), .slice (aa 44) (ns 44) (cc 44)]] w fun e w' => ∃ b, e = .returned (sg (lbMove xs ts).length b) ∧ Box w' b ((lbMove xs ts).map (Value.int .u8)) 5 ∧ w.heap.size ≤ b ∧ Below w.heap.size w w' := by
  refine (PutMove_any (x0 := xs 38) (x1 := xs 39) (x2 := xs 40) (x3 := xs 41) (x4 := xs 42) (x5 := xs 43) (h6 := h6.keep B) (m6 := Nat.le_trans m6 (by decide))).mono ?_
  rintro e w' ⟨b, n, rfl, rfl, X, h, B'⟩
  exact ⟨b, rfl, X, h, B'⟩
theorem wPutMove {w0 w : World} {xs : Nat → Int} {ts : Nat → Bool} {aa : Nat → Option Addr} {ns cc : Nat → Nat} (B : Below w0.heap.size w0 w) (h6 : NatA w0 (aa 44) (ns 44) (cc 44) (xs 44)) (m6 : ns 44 ≤ 60) :
    Calls Tryz.prog 28 #[.agg #[.int .u64 (xs 38), .int .u64 (xs 39), .int .u64 (xs 40), .int .u64 (xs 41), .int .u64 (xs 42), .int .u64 (xs 43), .slice (aa 44) (ns 44) (cc 44)]] w fun e w' => ∃ v, e = .returned v ∧ MineB w' w.heap.size v (lbMove xs ts) ∧ Below w.heap.size w w' := rPutMove (x0 := xs 38) (x1 := xs 39) (x2 := xs 40) (x3 := xs 41) (x4 := xs 42) (x5 := xs 43) (h6 := h6.keep B) (m6 := Nat.le_trans m6 (by decide))
def lbNumber (xs : Nat → Int) (_ts : Nat → Bool) : List Int := thr (pnx (fun o => ([xs 45] : List Int).getD o 0)) [(0, 0)] []
theorem gPutNumber {w : World} {xs : Nat → Int} {ts : Nat → Bool}  :
    Calls Tryz.prog 18 #[.int .u64 (xs 45)] w fun e w' => ∃ b, e = .returned (sg (lbNumber xs ts).length b) ∧ Box w' b ((lbNumber xs ts).map (Value.int .u8)) 5 ∧ w.heap.size ≤ b ∧ Below w.heap.size w w' := by
  refine (PutNumber_any (x0 := xs 45)).mono ?_
  rintro e w' ⟨b, n, rfl, rfl, X, h, B'⟩
  exact ⟨b, rfl, X, h, B'⟩
theorem wPutNumber {w : World} {xs : Nat → Int} {ts : Nat → Bool}  :
    Calls Tryz.prog 29 #[.int .u64 (xs 45)] w fun e w' => ∃ v, e = .returned v ∧ MineB w' w.heap.size v (lbNumber xs ts) ∧ Below w.heap.size w w' := rPutNumber (x0 := xs 45)
theorem lay_fine (xs : Nat → Int) (ks : List (Nat × Nat)) (h : ks.length ≤ 20) : Octets (thr (pnx xs) ks []) ∧ (thr (pnx xs) ks []).length ≤ 1000000 := by
  refine ⟨thr_oct xs ks [] (fun _ h => by cases h), ?_⟩
  have := pnx_len xs ks []
  simp at this
  omega
/-- lists that were laid one after another, each in a block of its own -/
structure Got (w : World) (lo : Nat) (ps : List (Nat × List Int)) : Prop where
  all : ∀ p ∈ ps, Box w p.1 (p.2.map (Value.int .u8)) 5 ∧ lo ≤ p.1 ∧ Octets p.2 ∧ p.2.length ≤ 1000000
  inc : ps.Pairwise (fun p q => p.1 < q.1)
theorem Got.nil (w : World) (lo : Nat) : Got w lo [] := ⟨fun _ h => (by cases h), List.Pairwise.nil⟩
theorem Got.keep {w w' : World} {lo : Nat} {ps : List (Nat × List Int)} (h : Got w lo ps) (B : Below w.heap.size w w') : Got w' lo ps := ⟨fun p hp => ⟨(h.all p hp).1.keep B, (h.all p hp).2⟩, h.inc⟩
theorem Got.drew {w : World} {lo : Nat} {ps : List (Nat × List Int)} (h : Got w lo ps) : Got w.drew lo ps := h.keep (Below.refl _ _).drew
theorem Got.add {w w' : World} {lo b : Nat} {l : List Int} {ps : List (Nat × List Int)} (h : Got w lo ps) (B : Below w.heap.size w w') (hl : lo ≤ w.heap.size) (X : Box w' b (l.map (Value.int .u8)) 5) (hb : w.heap.size ≤ b) (hf : Octets l ∧ l.length ≤ 1000000) : Got w' lo (ps ++ [(b, l)]) := by
  refine ⟨fun p hp => ?_, ?_⟩
  · rcases List.mem_append.1 hp with hp | hp
    · exact (h.keep B).all p hp
    · rw [List.mem_singleton] at hp; subst hp; exact ⟨X, Nat.le_trans hl hb, hf⟩
  · refine List.pairwise_append.2 ⟨h.inc, List.pairwise_singleton _ _, fun p hp q hq => ?_⟩
    rw [List.mem_singleton] at hq
    subst hq
    exact Nat.lt_of_lt_of_le (h.all p hp).1.lt hb
structure Wan (w : World) (qs : List (Value × List Int)) : Prop where
  all : ∀ q ∈ qs, MineB w 0 q.1 q.2
theorem Wan.nil (w : World) : Wan w [] := ⟨fun _ h => by cases h⟩
theorem Wan.keep {w w' : World} {qs : List (Value × List Int)} (h : Wan w qs) (B : Below w.heap.size w w') : Wan w' qs := ⟨fun q hq => mineB_keep (h.all q hq) B⟩
theorem Wan.drew {w : World} {qs : List (Value × List Int)} (h : Wan w qs) : Wan w.drew qs := h.keep (Below.refl _ _).drew
theorem Wan.add {w w' : World} {B : Nat} {v : Value} {l : List Int} {qs : List (Value × List Int)} (h : Wan w qs) (b : Below w.heap.size w w') (M : MineB w' B v l) : Wan w' (qs ++ [(v, l)]) := ⟨fun q hq => by
  rcases List.mem_append.1 hq with hq | hq
  · exact (h.keep b).all q hq
  · rw [List.mem_singleton] at hq; subst hq; exact mineB_mono M (Nat.zero_le _)⟩
theorem items_gw {w : World} {lo m g h : Nat} {ps : List (Nat × List Int)} {qs : List (Value × List Int)} (G : Got w lo ps) (W : Wan w qs) (he : ps.map Prod.snd = qs.map Prod.snd) (hm : ps.length = m) (hm1 : m ≤ 1000) (X : Blk w g (ps.map fun p => sg p.2.length p.1) 49) (Y : Blk w h (qs.map Prod.fst) 49) :
    Calls Tryz.prog 30 #[sg m g, sg m h] w fun e w' => e = .returned (.bool true) ∧ Below w.heap.size w w' := by
  refine items_any X Y hm1 fun i hi => ?_
  have hl : ps.length = qs.length := by have := congrArg List.length he; simpa using this
  obtain ⟨p, hp⟩ : ∃ p, ps[i]? = some p := ⟨_, List.getElem?_eq_getElem (by omega)⟩
  obtain ⟨q, hq⟩ : ∃ q, qs[i]? = some q := ⟨_, List.getElem?_eq_getElem (by omega)⟩
  have e : p.2 = q.2 := by
    have := congrArg (fun l : List (List Int) => l[i]?) he
    simpa [hp, hq] using this
  obtain ⟨B1, _, o1, n1⟩ := G.all p (List.mem_of_getElem? hp)
  have M := W.all q (List.mem_of_getElem? hq)
  rw [← e] at M
  obtain ⟨b2, a2, c2, ev, _, A2⟩ := M.bya o1
  exact ⟨p.1, some ⟨p.1, 0, none⟩, p.2.length, p.2.length, b2, a2, p.2.length, c2, p.2, by rw [List.getElem?_map, hp]; rfl, by rw [List.getElem?_map, hq, ← ev]; rfl, B1.bya o1 (by omega), A2, by omega, by omega⟩
/-- what is left to be spoilt -/
structure Spo (w : World) (lo : Nat) (vs : List Value) (j : Nat) : Prop where
  row : ∀ i, j ≤ i → i < vs.length → ∃ b n, vs[i]? = some (sg n b) ∧ ByR w b n ∧ n ≤ 1099511627776 ∧ lo ≤ b
  dis : ∀ i i' b b' n n' : Nat, i < i' → vs[i]? = some (sg n b) → vs[i']? = some (sg n' b') → b ≠ b'
theorem Got.spo {w : World} {lo : Nat} {ps : List (Nat × List Int)} (G : Got w lo ps) : Spo w lo (ps.map fun p => sg p.2.length p.1) 0 := by
  refine ⟨fun i _ hi => ?_, fun i i' b b' n n' hii h1 h2 => ?_⟩
  · rw [List.length_map] at hi
    obtain ⟨p, hp⟩ : ∃ p, ps[i]? = some p := ⟨_, List.getElem?_eq_getElem hi⟩
    obtain ⟨B1, h1, o1, n1⟩ := G.all p (List.mem_of_getElem? hp)
    exact ⟨p.1, p.2.length, by rw [List.getElem?_map, hp]; rfl, B1.byr, by omega, h1⟩
  · rw [List.getElem?_map] at h1 h2
    cases hp : ps[i]? with
    | none => rw [hp] at h1; cases h1
    | some p =>
      cases hq : ps[i']? with
      | none => rw [hq] at h2; cases h2
      | some q =>
        rw [hp] at h1; rw [hq] at h2
        simp only [Option.map_some, Option.some.injEq, Value.slice.injEq, Addr.mk.injEq] at h1 h2
        have hlt : p.1 < q.1 := by
          obtain ⟨a1, rfl⟩ := List.getElem?_eq_some_iff.1 hp
          obtain ⟨a2, rfl⟩ := List.getElem?_eq_some_iff.1 hq
          exact List.pairwise_iff_getElem.1 G.inc i i' a1 a2 hii
        omega
theorem Spo.drew {w : World} {lo j : Nat} {vs : List Value} (h : Spo w lo vs j) : Spo w.drew lo vs j := ⟨fun i h1 h2 => by
  obtain ⟨b, n, h3, h4, h5⟩ := h.row i h1 h2
  exact ⟨b, n, h3, ⟨h4.ex⟩, h5⟩, h.dis⟩
theorem Spo.next {w w' : World} {lo j b n : Nat} {vs : List Value} (h : Spo w lo vs j) (hb : vs[j]? = some (sg n b)) (B : But b w w') : Spo w' lo vs (j + 1) := ⟨fun i h1 h2 => by
  obtain ⟨b', n', h3, h4, h5⟩ := h.row i (by omega) h2
  obtain ⟨cur, e1, e2⟩ := h4.ex
  exact ⟨b', n', h3, ⟨cur, by rw [B.block b' (lt_of_block e1) (fun e => h.dis j i b b' n n' (by omega) hb h3 e.symm)]; exact e1, e2⟩, h5⟩, h.dis⟩
theorem But.blk {w w' : World} {b g : Nat} {cs : List Value} {t : TypeId} (h : But b w w') (X : Blk w g cs t) (hn : g ≠ b) : Blk w' g cs t := X.same (h.block g X.lt hn)
theorem ByR.ne {w : World} {b n g : Nat} {cs : List Value} {t : TypeId} (h : ByR w b n) (X : Blk w g cs t) (ht : t ≠ 5) : g ≠ b := fun e => by
  subst e
  obtain ⟨cur, e1, _⟩ := h.ex
  have := X.blk.symm.trans e1
  simp at this
  exact ht this.2
end Rc
end Go.Proofs.YtenlhceceplldaaGreat
