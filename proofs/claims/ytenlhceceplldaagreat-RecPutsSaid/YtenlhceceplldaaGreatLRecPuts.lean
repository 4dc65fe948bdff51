/- gleanlaw8.RecPuts. -/
import Derived.Test.YtenlhceceplldaaGreatRcV
namespace Go.Proofs.YtenlhceceplldaaGreat
namespace Rc
open Go.RowKit Go.Lib Pg Lim Gl
set_option maxHeartbeats 8000000 in
set_option maxRecDepth 100000 in
theorem recPuts_walk {w : World} {cs : List Value} {xs : Nat → Int} {aa : Nat → Option Addr} {ns cc : Nat → Nat} {ts : Nat → Bool} (R : RecA w cs xs aa ns cc ts) :
    Calls Tryz.prog 3 #[.agg cs.toArray] w fun e w' => e = .returned (.bool true) ∧ Below w.heap.size w w' := by
  have hcs := R.list
  have RR := R
  obtain ⟨-, h12, -⟩ := R.d 12 (by decide)
  obtain ⟨-, h17, -⟩ := R.d 17 (by decide)
  obtain ⟨-, h22, -⟩ := R.d 22 (by decide)
  obtain ⟨-, h23, -⟩ := R.d 23 (by decide)
  obtain ⟨-, h24, -⟩ := R.d 24 (by decide)
  obtain ⟨-, h25, -⟩ := R.d 25 (by decide)
  obtain ⟨-, h27, -⟩ := R.d 27 (by decide)
  obtain ⟨-, h28, -⟩ := R.d 28 (by decide)
  obtain ⟨-, h44, -⟩ := R.d 44 (by decide)
  clear R
  subst hcs
  have BB := Below.refl w.heap.size w
  refine gc_enter (n := 99) Tryz.func3 rfl (by kernel_rfl) (by kernel_rfl) ?_
  refine gc_seq ?_
  refine gc_reg ?_
  refine ta 1 (recL xs aa ns cc ts) 46 (pg) ?_
  intro v1 g2 Xg2 hg2 B
  replace BB := joinB BB B
  clear B
  refine t 2 (.bool false) ?_
  refine gl_nil ?_
  refine ge_then ?_
  refine gc_seq ?_
  refine gc_seq ?_
  refine gc_reg ?_
  refine tc 7 6 #[] (known8 _) ?_
  rintro _ v3 ⟨rfl, B⟩
  refine ⟨_, rfl, ?_⟩
  replace BB := joinB BB B
  replace Xg2 := Xg2.keep B
  clear B
  refine t 8 (.bool false) ?_
  refine gl_nil ?_
  refine ge_then ?_
  refine gc_no ?_
  refine gc_skip ?_
  refine ge_then ?_
  refine gc_seq ?_
  refine gc_seq ?_
  refine gc_reg ?_
  refine tlr 9 (recL xs aa ns cc ts) Xg2 0 ?_
  refine tc 10 7 #[.agg (recL xs aa ns cc ts).toArray] (light_any (RR.keep BB)) ?_
  rintro _ v4 ⟨bl, rfl, hl, B⟩
  refine ⟨_, rfl, ?_⟩
  replace BB := joinB BB B
  replace Xg2 := Xg2.keep B
  clear B
  cases bl
  · skip
    refine t 11 (.bool true) ?_
    refine gl_nil ?_
    refine ge_then ?_
    refine gc_yes ?_
    refine gc_seq ?_
    refine gc_reg ?_
    refine t 2 (.bool true) ?_
    refine gl_nil ?_
    refine ge_then ?_
    refine gc_ret ?_
    refine ge_tr ?_
    refine ge_ret (.bool true) (rs1 2 (by kernel_rfl) (by kernel_rfl)) ?_
    exact ⟨rfl, BB⟩
  · replace hl := hl rfl
    have z12 := hl 12 (by decide)
    have z17 := hl 17 (by decide)
    have z22 := hl 22 (by decide)
    have z23 := hl 23 (by decide)
    have z24 := hl 24 (by decide)
    have z25 := hl 25 (by decide)
    have z27 := hl 27 (by decide)
    have z28 := hl 28 (by decide)
    have z44 := hl 44 (by decide)
    clear hl RR
    refine t 11 (.bool false) ?_
    refine gl_nil ?_
    refine ge_then ?_
    refine gc_no ?_
    refine gc_skip ?_
    refine ge_then ?_
    refine gc_seq ?_
    refine gc_seq ?_
    refine gc_reg ?_
    refine t 3 (.int .i64 0) ?_
    refine gl_nil ?_
    refine ge_then ?_
    refine gc_block ?_
    refine gc_loop (fun k => 2 - k) (fun (k : Nat) => [(1, pg g2), (3, .int .i64 (k : Int))]) (fun k w' => k ≤ 2 ∧ Blk w' g2 (recL xs aa ns cc ts) 46 ∧ Below w.heap.size w w') 0 ⟨Nat.zero_le _, Xg2, BB⟩ (by kernel_rfl) ?_
    clear BB
    clear Xg2
    rintro k v5 ⟨hk2, XB, BB⟩
    have GT := Got.nil v5 w.heap.size
    have WN := Wan.nil v5
    have LO := BB.size
    refine gc_seq ?_
    refine gc_seq ?_
    refine gc_reg ?_
    refine t 12 (.int .i64 (k : Int)) ?_
    by_cases c6 : (k : Int) < 2
    · refine tq 13 (.bool (decide ((k : Int) < 2))) (.bool true) (congrArg Value.bool (decide_eq_true c6)) ?_
      refine gl_nil ?_
      refine ge_then ?_
      refine gc_yes ?_
      refine gc_skip ?_
      refine ge_then ?_
      refine gc_seq ?_
      refine gc_block ?_
      refine gc_seq ?_
      replace BB := BB.drew
      replace XB := XB.drew
      replace GT := GT.drew
      replace WN := WN.drew
      replace LO := LO
      refine gc_draw (fun w' => Blk w' g2 (recL xs aa ns cc ts) 46) (fun _ => false) XB ?_
      refine z 0 16 (pg g2) ?_
      refine zlr 1 17 [.int .u64 (xs 0), .int .u64 (xs 1), .int .u64 (xs 2), .int .u64 (xs 3), .int .u64 (xs 4), .int .u64 (xs 5), .int .u64 (xs 6), .int .u64 (xs 7), .int .u64 (xs 8), .int .u64 (xs 9)] (fun _ h => h) 0 ?_
      refine z 3 19 (pq g2 10) ?_
      refine zlr 4 20 [.int .u64 (xs 10), .int .u64 (xs 11)] (fun _ h => h) 10 ?_
      refine z 6 22 (pq g2 12) ?_
      refine zlr 7 23 [.slice (aa 12) (ns 12) (cc 12)] (fun _ h => h) 12 ?_
      refine z 9 25 (pq g2 13) ?_
      refine zlr 10 26 [.int .u64 (xs 13), .int .u64 (xs 14)] (fun _ h => h) 13 ?_
      refine z 12 28 (pq g2 15) ?_
      refine zlr 13 29 [.int .u64 (xs 15), .int .u64 (xs 16), .slice (aa 17) (ns 17) (cc 17), .bool (ts 18), .int .u64 (xs 19), .bool (ts 20), .int .u64 (xs 21), .slice (aa 22) (ns 22) (cc 22), .slice (aa 23) (ns 23) (cc 23), .slice (aa 24) (ns 24) (cc 24)] (fun _ h => h) 15 ?_
      refine z 15 31 (pq g2 25) ?_
      refine zlr 16 32 [.slice (aa 25) (ns 25) (cc 25), .int .u64 (xs 26), .slice (aa 27) (ns 27) (cc 27)] (fun _ h => h) 25 ?_
      refine z 18 34 (pq g2 28) ?_
      refine zlr 19 35 [.slice (aa 28) (ns 28) (cc 28), .int .u64 (xs 29)] (fun _ h => h) 28 ?_
      refine z 21 37 (pq g2 30) ?_
      refine zlr 22 38 [.int .u64 (xs 30), .int .u64 (xs 31)] (fun _ h => h) 30 ?_
      refine z 24 40 (pq g2 32) ?_
      refine zlr 25 41 [.int .u64 (xs 32), .int .u64 (xs 33), .int .u64 (xs 34), .int .u64 (xs 35), .int .u64 (xs 36), .int .u64 (xs 37)] (fun _ h => h) 32 ?_
      refine z 27 43 (pq g2 38) ?_
      refine zlr 28 44 [.int .u64 (xs 38), .int .u64 (xs 39), .int .u64 (xs 40), .int .u64 (xs 41), .int .u64 (xs 42), .int .u64 (xs 43), .slice (aa 44) (ns 44) (cc 44)] (fun _ h => h) 38 ?_
      refine z 30 46 (pq g2 45) ?_
      refine zl 31 47 (.int .u64 (xs 45)) (fun _ h => h) 45 ?_
      refine zc 2 18 8 #[.agg #[.int .u64 (xs 0), .int .u64 (xs 1), .int .u64 (xs 2), .int .u64 (xs 3), .int .u64 (xs 4), .int .u64 (xs 5), .int .u64 (xs 6), .int .u64 (xs 7), .int .u64 (xs 8), .int .u64 (xs 9)]] (gPutParams (xs := xs) (ts := ts) ) ?_
      rintro _ v7 ⟨bParams, rfl, XParams, hbParams, B⟩
      replace BB := joinB BB B
      replace XB := XB.keep B
      replace WN := WN.keep B
      replace GT := GT.add B LO XParams hbParams (lay_fine _ _ (by decide))
      replace LO := Nat.le_trans LO B.size
      clear B XParams hbParams
      refine ⟨_, rfl, XB, ?_⟩
      refine zc 5 21 9 #[.agg #[.int .u64 (xs 10), .int .u64 (xs 11)]] (gPutChain (xs := xs) (ts := ts) ) ?_
      rintro _ v8 ⟨bChain, rfl, XChain, hbChain, B⟩
      replace BB := joinB BB B
      replace XB := XB.keep B
      replace WN := WN.keep B
      replace GT := GT.add B LO XChain hbChain (lay_fine _ _ (by decide))
      replace LO := Nat.le_trans LO B.size
      clear B XChain hbChain
      refine ⟨_, rfl, XB, ?_⟩
      refine zc 8 24 10 #[.agg #[.slice (aa 12) (ns 12) (cc 12)]] (gPutPool (xs := xs) (ts := ts) BB h12 z12) ?_
      rintro _ v9 ⟨bPool, rfl, XPool, hbPool, B⟩
      replace BB := joinB BB B
      replace XB := XB.keep B
      replace WN := WN.keep B
      replace GT := GT.add B LO XPool hbPool (lay_fine _ _ (by decide))
      replace LO := Nat.le_trans LO B.size
      clear B XPool hbPool
      refine ⟨_, rfl, XB, ?_⟩
      refine zc 11 27 11 #[.agg #[.int .u64 (xs 13), .int .u64 (xs 14)]] (gPutAccount (xs := xs) (ts := ts) ) ?_
      rintro _ v10 ⟨bAccount, rfl, XAccount, hbAccount, B⟩
      replace BB := joinB BB B
      replace XB := XB.keep B
      replace WN := WN.keep B
      replace GT := GT.add B LO XAccount hbAccount (lay_fine _ _ (by decide))
      replace LO := Nat.le_trans LO B.size
      clear B XAccount hbAccount
      refine ⟨_, rfl, XB, ?_⟩
      refine zc 14 30 12 #[.agg #[.int .u64 (xs 15), .int .u64 (xs 16), .slice (aa 17) (ns 17) (cc 17), .bool (ts 18), .int .u64 (xs 19), .bool (ts 20), .int .u64 (xs 21), .slice (aa 22) (ns 22) (cc 22), .slice (aa 23) (ns 23) (cc 23), .slice (aa 24) (ns 24) (cc 24)]] (gPutVal (xs := xs) (ts := ts) BB h17 z17 h22 z22 h23 z23 h24 z24) ?_
      rintro _ v11 ⟨bVal, rfl, XVal, hbVal, B⟩
      replace BB := joinB BB B
      replace XB := XB.keep B
      replace WN := WN.keep B
      replace GT := GT.add B LO XVal hbVal (lay_fine _ _ (by decide))
      replace LO := Nat.le_trans LO B.size
      clear B XVal hbVal
      refine ⟨_, rfl, XB, ?_⟩
      refine zc 17 33 13 #[.agg #[.slice (aa 25) (ns 25) (cc 25), .int .u64 (xs 26), .slice (aa 27) (ns 27) (cc 27)]] (gPutDelegation (xs := xs) (ts := ts) BB h25 z25 h27 z27) ?_
      rintro _ v12 ⟨bDelegation, rfl, XDelegation, hbDelegation, B⟩
      replace BB := joinB BB B
      replace XB := XB.keep B
      replace WN := WN.keep B
      replace GT := GT.add B LO XDelegation hbDelegation (lay_fine _ _ (by decide))
      replace LO := Nat.le_trans LO B.size
      clear B XDelegation hbDelegation
      refine ⟨_, rfl, XB, ?_⟩
      refine zc 20 36 14 #[.agg #[.slice (aa 28) (ns 28) (cc 28), .int .u64 (xs 29)]] (gPutHistory (xs := xs) (ts := ts) BB h28 z28) ?_
      rintro _ v13 ⟨bHistory, rfl, XHistory, hbHistory, B⟩
      replace BB := joinB BB B
      replace XB := XB.keep B
      replace WN := WN.keep B
      replace GT := GT.add B LO XHistory hbHistory (lay_fine _ _ (by decide))
      replace LO := Nat.le_trans LO B.size
      clear B XHistory hbHistory
      refine ⟨_, rfl, XB, ?_⟩
      refine zc 23 39 15 #[.agg #[.int .u64 (xs 30), .int .u64 (xs 31)]] (gPutCut (xs := xs) (ts := ts) ) ?_
      rintro _ v14 ⟨bCut, rfl, XCut, hbCut, B⟩
      replace BB := joinB BB B
      replace XB := XB.keep B
      replace WN := WN.keep B
      replace GT := GT.add B LO XCut hbCut (lay_fine _ _ (by decide))
      replace LO := Nat.le_trans LO B.size
      clear B XCut hbCut
      refine ⟨_, rfl, XB, ?_⟩
      refine zc 26 42 16 #[.agg #[.int .u64 (xs 32), .int .u64 (xs 33), .int .u64 (xs 34), .int .u64 (xs 35), .int .u64 (xs 36), .int .u64 (xs 37)]] (gPutUnbonding (xs := xs) (ts := ts) ) ?_
      rintro _ v15 ⟨bUnbonding, rfl, XUnbonding, hbUnbonding, B⟩
      replace BB := joinB BB B
      replace XB := XB.keep B
      replace WN := WN.keep B
      replace GT := GT.add B LO XUnbonding hbUnbonding (lay_fine _ _ (by decide))
      replace LO := Nat.le_trans LO B.size
      clear B XUnbonding hbUnbonding
      refine ⟨_, rfl, XB, ?_⟩
      refine zc 29 45 17 #[.agg #[.int .u64 (xs 38), .int .u64 (xs 39), .int .u64 (xs 40), .int .u64 (xs 41), .int .u64 (xs 42), .int .u64 (xs 43), .slice (aa 44) (ns 44) (cc 44)]] (gPutMove (xs := xs) (ts := ts) BB h44 z44) ?_
      rintro _ v16 ⟨bMove, rfl, XMove, hbMove, B⟩
      replace BB := joinB BB B
      replace XB := XB.keep B
      replace WN := WN.keep B
      replace GT := GT.add B LO XMove hbMove (lay_fine _ _ (by decide))
      replace LO := Nat.le_trans LO B.size
      clear B XMove hbMove
      refine ⟨_, rfl, XB, ?_⟩
      refine zc 32 48 18 #[.int .u64 (xs 45)] (gPutNumber (xs := xs) (ts := ts) ) ?_
      rintro _ v17 ⟨bNumber, rfl, XNumber, hbNumber, B⟩
      replace BB := joinB BB B
      replace XB := XB.keep B
      replace WN := WN.keep B
      replace GT := GT.add B LO XNumber hbNumber (lay_fine _ _ (by decide))
      replace LO := Nat.le_trans LO B.size
      clear B XNumber hbNumber
      refine ⟨_, rfl, XB, ?_⟩
      refine za 33 49 [sg (lbParams xs ts).length bParams, sg (lbChain xs ts).length bChain, sg (lbPool xs ts).length bPool, sg (lbAccount xs ts).length bAccount, sg (lbVal xs ts).length bVal, sg (lbDelegation xs ts).length bDelegation, sg (lbHistory xs ts).length bHistory, sg (lbCut xs ts).length bCut, sg (lbUnbonding xs ts).length bUnbonding, sg (lbMove xs ts).length bMove, sg (lbNumber xs ts).length bNumber] 49 (sg 11) ?_
      intro v18 g19 Xg19 hg19 B
      replace BB := joinB BB B
      replace XB := XB.keep B
      replace GT := GT.keep B
      replace WN := WN.keep B
      replace LO := Nat.le_trans LO B.size
      clear B
      refine ⟨XB, ?_⟩
      refine z 34 4 (sg 11 g19) ?_
      refine gz_done ?_
      refine ge_then ?_
      refine gc_fr [(1, pg g2), (3, .int .i64 (k : Int)), (4, sg 11 g19), (12, .int .i64 (k : Int)), (13, .bool true), (16, pg g2), (17, .agg #[.int .u64 (xs 0), .int .u64 (xs 1), .int .u64 (xs 2), .int .u64 (xs 3), .int .u64 (xs 4), .int .u64 (xs 5), .int .u64 (xs 6), .int .u64 (xs 7), .int .u64 (xs 8), .int .u64 (xs 9)]), (18, sg (lbParams xs ts).length bParams), (19, pq g2 10), (20, .agg #[.int .u64 (xs 10), .int .u64 (xs 11)]), (21, sg (lbChain xs ts).length bChain), (22, pq g2 12), (23, .agg #[.slice (aa 12) (ns 12) (cc 12)]), (24, sg (lbPool xs ts).length bPool), (25, pq g2 13), (26, .agg #[.int .u64 (xs 13), .int .u64 (xs 14)]), (27, sg (lbAccount xs ts).length bAccount), (28, pq g2 15), (29, .agg #[.int .u64 (xs 15), .int .u64 (xs 16), .slice (aa 17) (ns 17) (cc 17), .bool (ts 18), .int .u64 (xs 19), .bool (ts 20), .int .u64 (xs 21), .slice (aa 22) (ns 22) (cc 22), .slice (aa 23) (ns 23) (cc 23), .slice (aa 24) (ns 24) (cc 24)]), (30, sg (lbVal xs ts).length bVal), (31, pq g2 25), (32, .agg #[.slice (aa 25) (ns 25) (cc 25), .int .u64 (xs 26), .slice (aa 27) (ns 27) (cc 27)]), (33, sg (lbDelegation xs ts).length bDelegation), (34, pq g2 28), (35, .agg #[.slice (aa 28) (ns 28) (cc 28), .int .u64 (xs 29)]), (36, sg (lbHistory xs ts).length bHistory), (37, pq g2 30), (38, .agg #[.int .u64 (xs 30), .int .u64 (xs 31)]), (39, sg (lbCut xs ts).length bCut), (40, pq g2 32), (41, .agg #[.int .u64 (xs 32), .int .u64 (xs 33), .int .u64 (xs 34), .int .u64 (xs 35), .int .u64 (xs 36), .int .u64 (xs 37)]), (42, sg (lbUnbonding xs ts).length bUnbonding), (43, pq g2 38), (44, .agg #[.int .u64 (xs 38), .int .u64 (xs 39), .int .u64 (xs 40), .int .u64 (xs 41), .int .u64 (xs 42), .int .u64 (xs 43), .slice (aa 44) (ns 44) (cc 44)]), (45, sg (lbMove xs ts).length bMove), (46, pq g2 45), (47, .int .u64 (xs 45)), (48, sg (lbNumber xs ts).length bNumber), (49, sg 11 g19)] (by kernel_rfl) ?_
      refine gc_seq ?_
      replace BB := BB.drew
      replace XB := XB.drew
      replace GT := GT.drew
      replace WN := WN.drew
      replace LO := LO
      replace Xg19 := Xg19.drew
      refine gc_draw (fun w' => Blk w' g2 (recL xs aa ns cc ts) 46) (fun _ => false) XB ?_
      refine z 0 50 (pg g2) ?_
      refine zlr 1 51 [.int .u64 (xs 0), .int .u64 (xs 1), .int .u64 (xs 2), .int .u64 (xs 3), .int .u64 (xs 4), .int .u64 (xs 5), .int .u64 (xs 6), .int .u64 (xs 7), .int .u64 (xs 8), .int .u64 (xs 9)] (fun _ h => h) 0 ?_
      refine z 3 53 (pq g2 10) ?_
      refine zlr 4 54 [.int .u64 (xs 10), .int .u64 (xs 11)] (fun _ h => h) 10 ?_
      refine z 6 56 (pq g2 12) ?_
      refine zlr 7 57 [.slice (aa 12) (ns 12) (cc 12)] (fun _ h => h) 12 ?_
      refine z 9 59 (pq g2 13) ?_
      refine zlr 10 60 [.int .u64 (xs 13), .int .u64 (xs 14)] (fun _ h => h) 13 ?_
      refine z 12 62 (pq g2 15) ?_
      refine zlr 13 63 [.int .u64 (xs 15), .int .u64 (xs 16), .slice (aa 17) (ns 17) (cc 17), .bool (ts 18), .int .u64 (xs 19), .bool (ts 20), .int .u64 (xs 21), .slice (aa 22) (ns 22) (cc 22), .slice (aa 23) (ns 23) (cc 23), .slice (aa 24) (ns 24) (cc 24)] (fun _ h => h) 15 ?_
      refine z 15 65 (pq g2 25) ?_
      refine zlr 16 66 [.slice (aa 25) (ns 25) (cc 25), .int .u64 (xs 26), .slice (aa 27) (ns 27) (cc 27)] (fun _ h => h) 25 ?_
      refine z 18 68 (pq g2 28) ?_
      refine zlr 19 69 [.slice (aa 28) (ns 28) (cc 28), .int .u64 (xs 29)] (fun _ h => h) 28 ?_
      refine z 21 71 (pq g2 30) ?_
      refine zlr 22 72 [.int .u64 (xs 30), .int .u64 (xs 31)] (fun _ h => h) 30 ?_
      refine z 24 74 (pq g2 32) ?_
      refine zlr 25 75 [.int .u64 (xs 32), .int .u64 (xs 33), .int .u64 (xs 34), .int .u64 (xs 35), .int .u64 (xs 36), .int .u64 (xs 37)] (fun _ h => h) 32 ?_
      refine z 27 77 (pq g2 38) ?_
      refine zlr 28 78 [.int .u64 (xs 38), .int .u64 (xs 39), .int .u64 (xs 40), .int .u64 (xs 41), .int .u64 (xs 42), .int .u64 (xs 43), .slice (aa 44) (ns 44) (cc 44)] (fun _ h => h) 38 ?_
      refine z 30 80 (pq g2 45) ?_
      refine zl 31 81 (.int .u64 (xs 45)) (fun _ h => h) 45 ?_
      refine zc 2 52 19 #[.agg #[.int .u64 (xs 0), .int .u64 (xs 1), .int .u64 (xs 2), .int .u64 (xs 3), .int .u64 (xs 4), .int .u64 (xs 5), .int .u64 (xs 6), .int .u64 (xs 7), .int .u64 (xs 8), .int .u64 (xs 9)]] (wPutParams (xs := xs) (ts := ts) ) ?_
      rintro _ v20 ⟨VParams, rfl, MParams, B⟩
      obtain ⟨AParams, CParams, rfl⟩ := MParams.shape
      replace BB := joinB BB B
      replace XB := XB.keep B
      replace GT := GT.keep B
      replace LO := Nat.le_trans LO B.size
      replace Xg19 := Xg19.keep B
      replace WN := WN.add B MParams
      clear B MParams
      refine ⟨_, rfl, XB, ?_⟩
      refine zc 5 55 20 #[.agg #[.int .u64 (xs 10), .int .u64 (xs 11)]] (wPutChain (xs := xs) (ts := ts) ) ?_
      rintro _ v21 ⟨VChain, rfl, MChain, B⟩
      obtain ⟨AChain, CChain, rfl⟩ := MChain.shape
      replace BB := joinB BB B
      replace XB := XB.keep B
      replace GT := GT.keep B
      replace LO := Nat.le_trans LO B.size
      replace Xg19 := Xg19.keep B
      replace WN := WN.add B MChain
      clear B MChain
      refine ⟨_, rfl, XB, ?_⟩
      refine zc 8 58 21 #[.agg #[.slice (aa 12) (ns 12) (cc 12)]] (wPutPool (xs := xs) (ts := ts) BB h12 z12) ?_
      rintro _ v22 ⟨VPool, rfl, MPool, B⟩
      obtain ⟨APool, CPool, rfl⟩ := MPool.shape
      replace BB := joinB BB B
      replace XB := XB.keep B
      replace GT := GT.keep B
      replace LO := Nat.le_trans LO B.size
      replace Xg19 := Xg19.keep B
      replace WN := WN.add B MPool
      clear B MPool
      refine ⟨_, rfl, XB, ?_⟩
      refine zc 11 61 22 #[.agg #[.int .u64 (xs 13), .int .u64 (xs 14)]] (wPutAccount (xs := xs) (ts := ts) ) ?_
      rintro _ v23 ⟨VAccount, rfl, MAccount, B⟩
      obtain ⟨AAccount, CAccount, rfl⟩ := MAccount.shape
      replace BB := joinB BB B
      replace XB := XB.keep B
      replace GT := GT.keep B
      replace LO := Nat.le_trans LO B.size
      replace Xg19 := Xg19.keep B
      replace WN := WN.add B MAccount
      clear B MAccount
      refine ⟨_, rfl, XB, ?_⟩
      refine zc 14 64 23 #[.agg #[.int .u64 (xs 15), .int .u64 (xs 16), .slice (aa 17) (ns 17) (cc 17), .bool (ts 18), .int .u64 (xs 19), .bool (ts 20), .int .u64 (xs 21), .slice (aa 22) (ns 22) (cc 22), .slice (aa 23) (ns 23) (cc 23), .slice (aa 24) (ns 24) (cc 24)]] (wPutVal (xs := xs) (ts := ts) BB h17 z17 h22 z22 h23 z23 h24 z24) ?_
      rintro _ v24 ⟨VVal, rfl, MVal, B⟩
      obtain ⟨AVal, CVal, rfl⟩ := MVal.shape
      replace BB := joinB BB B
      replace XB := XB.keep B
      replace GT := GT.keep B
      replace LO := Nat.le_trans LO B.size
      replace Xg19 := Xg19.keep B
      replace WN := WN.add B MVal
      clear B MVal
      refine ⟨_, rfl, XB, ?_⟩
      refine zc 17 67 24 #[.agg #[.slice (aa 25) (ns 25) (cc 25), .int .u64 (xs 26), .slice (aa 27) (ns 27) (cc 27)]] (wPutDelegation (xs := xs) (ts := ts) BB h25 z25 h27 z27) ?_
      rintro _ v25 ⟨VDelegation, rfl, MDelegation, B⟩
      obtain ⟨ADelegation, CDelegation, rfl⟩ := MDelegation.shape
      replace BB := joinB BB B
      replace XB := XB.keep B
      replace GT := GT.keep B
      replace LO := Nat.le_trans LO B.size
      replace Xg19 := Xg19.keep B
      replace WN := WN.add B MDelegation
      clear B MDelegation
      refine ⟨_, rfl, XB, ?_⟩
      refine zc 20 70 25 #[.agg #[.slice (aa 28) (ns 28) (cc 28), .int .u64 (xs 29)]] (wPutHistory (xs := xs) (ts := ts) BB h28 z28) ?_
      rintro _ v26 ⟨VHistory, rfl, MHistory, B⟩
      obtain ⟨AHistory, CHistory, rfl⟩ := MHistory.shape
      replace BB := joinB BB B
      replace XB := XB.keep B
      replace GT := GT.keep B
      replace LO := Nat.le_trans LO B.size
      replace Xg19 := Xg19.keep B
      replace WN := WN.add B MHistory
      clear B MHistory
      refine ⟨_, rfl, XB, ?_⟩
      refine zc 23 73 26 #[.agg #[.int .u64 (xs 30), .int .u64 (xs 31)]] (wPutCut (xs := xs) (ts := ts) ) ?_
      rintro _ v27 ⟨VCut, rfl, MCut, B⟩
      obtain ⟨ACut, CCut, rfl⟩ := MCut.shape
      replace BB := joinB BB B
      replace XB := XB.keep B
      replace GT := GT.keep B
      replace LO := Nat.le_trans LO B.size
      replace Xg19 := Xg19.keep B
      replace WN := WN.add B MCut
      clear B MCut
      refine ⟨_, rfl, XB, ?_⟩
      refine zc 26 76 27 #[.agg #[.int .u64 (xs 32), .int .u64 (xs 33), .int .u64 (xs 34), .int .u64 (xs 35), .int .u64 (xs 36), .int .u64 (xs 37)]] (wPutUnbonding (xs := xs) (ts := ts) ) ?_
      rintro _ v28 ⟨VUnbonding, rfl, MUnbonding, B⟩
      obtain ⟨AUnbonding, CUnbonding, rfl⟩ := MUnbonding.shape
      replace BB := joinB BB B
      replace XB := XB.keep B
      replace GT := GT.keep B
      replace LO := Nat.le_trans LO B.size
      replace Xg19 := Xg19.keep B
      replace WN := WN.add B MUnbonding
      clear B MUnbonding
      refine ⟨_, rfl, XB, ?_⟩
      refine zc 29 79 28 #[.agg #[.int .u64 (xs 38), .int .u64 (xs 39), .int .u64 (xs 40), .int .u64 (xs 41), .int .u64 (xs 42), .int .u64 (xs 43), .slice (aa 44) (ns 44) (cc 44)]] (wPutMove (xs := xs) (ts := ts) BB h44 z44) ?_
      rintro _ v29 ⟨VMove, rfl, MMove, B⟩
      obtain ⟨AMove, CMove, rfl⟩ := MMove.shape
      replace BB := joinB BB B
      replace XB := XB.keep B
      replace GT := GT.keep B
      replace LO := Nat.le_trans LO B.size
      replace Xg19 := Xg19.keep B
      replace WN := WN.add B MMove
      clear B MMove
      refine ⟨_, rfl, XB, ?_⟩
      refine zc 32 82 29 #[.int .u64 (xs 45)] (wPutNumber (xs := xs) (ts := ts) ) ?_
      rintro _ v30 ⟨VNumber, rfl, MNumber, B⟩
      obtain ⟨ANumber, CNumber, rfl⟩ := MNumber.shape
      replace BB := joinB BB B
      replace XB := XB.keep B
      replace GT := GT.keep B
      replace LO := Nat.le_trans LO B.size
      replace Xg19 := Xg19.keep B
      replace WN := WN.add B MNumber
      clear B MNumber
      refine ⟨_, rfl, XB, ?_⟩
      refine za 33 83 [.slice AParams (lbParams xs ts).length CParams, .slice AChain (lbChain xs ts).length CChain, .slice APool (lbPool xs ts).length CPool, .slice AAccount (lbAccount xs ts).length CAccount, .slice AVal (lbVal xs ts).length CVal, .slice ADelegation (lbDelegation xs ts).length CDelegation, .slice AHistory (lbHistory xs ts).length CHistory, .slice ACut (lbCut xs ts).length CCut, .slice AUnbonding (lbUnbonding xs ts).length CUnbonding, .slice AMove (lbMove xs ts).length CMove, .slice ANumber (lbNumber xs ts).length CNumber] 49 (sg 11) ?_
      intro v31 g32 Xg32 hg32 B
      replace BB := joinB BB B
      replace XB := XB.keep B
      replace GT := GT.keep B
      replace WN := WN.keep B
      replace LO := Nat.le_trans LO B.size
      replace Xg19 := Xg19.keep B
      clear B
      refine ⟨XB, ?_⟩
      refine z 34 5 (sg 11 g32) ?_
      refine gz_done ?_
      refine ge_then ?_
      refine gc_fr [(1, pg g2), (3, .int .i64 (k : Int)), (4, sg 11 g19), (5, sg 11 g32), (12, .int .i64 (k : Int)), (13, .bool true), (16, pg g2), (17, .agg #[.int .u64 (xs 0), .int .u64 (xs 1), .int .u64 (xs 2), .int .u64 (xs 3), .int .u64 (xs 4), .int .u64 (xs 5), .int .u64 (xs 6), .int .u64 (xs 7), .int .u64 (xs 8), .int .u64 (xs 9)]), (18, sg (lbParams xs ts).length bParams), (19, pq g2 10), (20, .agg #[.int .u64 (xs 10), .int .u64 (xs 11)]), (21, sg (lbChain xs ts).length bChain), (22, pq g2 12), (23, .agg #[.slice (aa 12) (ns 12) (cc 12)]), (24, sg (lbPool xs ts).length bPool), (25, pq g2 13), (26, .agg #[.int .u64 (xs 13), .int .u64 (xs 14)]), (27, sg (lbAccount xs ts).length bAccount), (28, pq g2 15), (29, .agg #[.int .u64 (xs 15), .int .u64 (xs 16), .slice (aa 17) (ns 17) (cc 17), .bool (ts 18), .int .u64 (xs 19), .bool (ts 20), .int .u64 (xs 21), .slice (aa 22) (ns 22) (cc 22), .slice (aa 23) (ns 23) (cc 23), .slice (aa 24) (ns 24) (cc 24)]), (30, sg (lbVal xs ts).length bVal), (31, pq g2 25), (32, .agg #[.slice (aa 25) (ns 25) (cc 25), .int .u64 (xs 26), .slice (aa 27) (ns 27) (cc 27)]), (33, sg (lbDelegation xs ts).length bDelegation), (34, pq g2 28), (35, .agg #[.slice (aa 28) (ns 28) (cc 28), .int .u64 (xs 29)]), (36, sg (lbHistory xs ts).length bHistory), (37, pq g2 30), (38, .agg #[.int .u64 (xs 30), .int .u64 (xs 31)]), (39, sg (lbCut xs ts).length bCut), (40, pq g2 32), (41, .agg #[.int .u64 (xs 32), .int .u64 (xs 33), .int .u64 (xs 34), .int .u64 (xs 35), .int .u64 (xs 36), .int .u64 (xs 37)]), (42, sg (lbUnbonding xs ts).length bUnbonding), (43, pq g2 38), (44, .agg #[.int .u64 (xs 38), .int .u64 (xs 39), .int .u64 (xs 40), .int .u64 (xs 41), .int .u64 (xs 42), .int .u64 (xs 43), .slice (aa 44) (ns 44) (cc 44)]), (45, sg (lbMove xs ts).length bMove), (46, pq g2 45), (47, .int .u64 (xs 45)), (48, sg (lbNumber xs ts).length bNumber), (49, sg 11 g19), (50, pg g2), (51, .agg #[.int .u64 (xs 0), .int .u64 (xs 1), .int .u64 (xs 2), .int .u64 (xs 3), .int .u64 (xs 4), .int .u64 (xs 5), .int .u64 (xs 6), .int .u64 (xs 7), .int .u64 (xs 8), .int .u64 (xs 9)]), (52, .slice AParams (lbParams xs ts).length CParams), (53, pq g2 10), (54, .agg #[.int .u64 (xs 10), .int .u64 (xs 11)]), (55, .slice AChain (lbChain xs ts).length CChain), (56, pq g2 12), (57, .agg #[.slice (aa 12) (ns 12) (cc 12)]), (58, .slice APool (lbPool xs ts).length CPool), (59, pq g2 13), (60, .agg #[.int .u64 (xs 13), .int .u64 (xs 14)]), (61, .slice AAccount (lbAccount xs ts).length CAccount), (62, pq g2 15), (63, .agg #[.int .u64 (xs 15), .int .u64 (xs 16), .slice (aa 17) (ns 17) (cc 17), .bool (ts 18), .int .u64 (xs 19), .bool (ts 20), .int .u64 (xs 21), .slice (aa 22) (ns 22) (cc 22), .slice (aa 23) (ns 23) (cc 23), .slice (aa 24) (ns 24) (cc 24)]), (64, .slice AVal (lbVal xs ts).length CVal), (65, pq g2 25), (66, .agg #[.slice (aa 25) (ns 25) (cc 25), .int .u64 (xs 26), .slice (aa 27) (ns 27) (cc 27)]), (67, .slice ADelegation (lbDelegation xs ts).length CDelegation), (68, pq g2 28), (69, .agg #[.slice (aa 28) (ns 28) (cc 28), .int .u64 (xs 29)]), (70, .slice AHistory (lbHistory xs ts).length CHistory), (71, pq g2 30), (72, .agg #[.int .u64 (xs 30), .int .u64 (xs 31)]), (73, .slice ACut (lbCut xs ts).length CCut), (74, pq g2 32), (75, .agg #[.int .u64 (xs 32), .int .u64 (xs 33), .int .u64 (xs 34), .int .u64 (xs 35), .int .u64 (xs 36), .int .u64 (xs 37)]), (76, .slice AUnbonding (lbUnbonding xs ts).length CUnbonding), (77, pq g2 38), (78, .agg #[.int .u64 (xs 38), .int .u64 (xs 39), .int .u64 (xs 40), .int .u64 (xs 41), .int .u64 (xs 42), .int .u64 (xs 43), .slice (aa 44) (ns 44) (cc 44)]), (79, .slice AMove (lbMove xs ts).length CMove), (80, pq g2 45), (81, .int .u64 (xs 45)), (82, .slice ANumber (lbNumber xs ts).length CNumber), (83, sg 11 g32)] (by kernel_rfl) ?_
      refine gc_seq ?_
      refine gc_seq ?_
      refine gc_reg ?_
      refine t 84 (sg 11 g19) ?_
      refine t 85 (sg 11 g32) ?_
      refine tc 86 30 #[sg 11 g19, sg 11 g32] (items_gw GT WN rfl rfl (by decide) Xg19 Xg32) ?_
      rintro _ v33 ⟨rfl, B⟩
      refine ⟨_, rfl, ?_⟩
      replace BB := joinB BB B
      replace XB := XB.keep B
      replace GT := GT.keep B
      replace WN := WN.keep B
      replace LO := Nat.le_trans LO B.size
      replace Xg19 := Xg19.keep B
      replace Xg32 := Xg32.keep B
      clear B
      refine t 87 (.bool false) ?_
      refine gl_nil ?_
      refine ge_then ?_
      refine gc_no ?_
      refine gc_skip ?_
      refine ge_then ?_
      refine gc_seq ?_
      refine gc_reg ?_
      refine t 6 (.int .i64 0) ?_
      refine gl_nil ?_
      refine ge_then ?_
      refine gc_block ?_
      refine gc_loop (fun j => 11 - j) (fun (j : Nat) => [(1, pg g2), (3, .int .i64 (k : Int)), (4, sg 11 g19), (6, .int .i64 (j : Int))]) (fun j w' => j ≤ 11 ∧ Blk w' g2 (recL xs aa ns cc ts) 46 ∧ Blk w' g19 [sg (lbParams xs ts).length bParams, sg (lbChain xs ts).length bChain, sg (lbPool xs ts).length bPool, sg (lbAccount xs ts).length bAccount, sg (lbVal xs ts).length bVal, sg (lbDelegation xs ts).length bDelegation, sg (lbHistory xs ts).length bHistory, sg (lbCut xs ts).length bCut, sg (lbUnbonding xs ts).length bUnbonding, sg (lbMove xs ts).length bMove, sg (lbNumber xs ts).length bNumber] 49 ∧ Spo w' w.heap.size [sg (lbParams xs ts).length bParams, sg (lbChain xs ts).length bChain, sg (lbPool xs ts).length bPool, sg (lbAccount xs ts).length bAccount, sg (lbVal xs ts).length bVal, sg (lbDelegation xs ts).length bDelegation, sg (lbHistory xs ts).length bHistory, sg (lbCut xs ts).length bCut, sg (lbUnbonding xs ts).length bUnbonding, sg (lbMove xs ts).length bMove, sg (lbNumber xs ts).length bNumber] j ∧ Below w.heap.size w w') 0 ⟨Nat.zero_le _, XB, Xg19, GT.spo, BB⟩ (by kernel_rfl) ?_
      clear BB
      clear XB
      clear GT
      clear WN
      clear LO
      clear Xg19
      clear Xg32
      rintro j v34 ⟨hj, XB, XG, SP, BB⟩
      refine gc_seq ?_
      refine gc_seq ?_
      refine gc_reg ?_
      refine t 88 (.int .i64 (j : Int)) ?_
      refine t 89 (sg 11 g19) ?_
      refine t 90 (.int .i64 11) ?_
      by_cases cj : (j : Int) < 11
      · have hk : j < 11 := by omega
        obtain ⟨bj, nj, hq, hR, hnj, hlo⟩ := SP.row j (Nat.le_refl _) hk
        refine tq 91 (.bool (decide ((j : Int) < 11))) (.bool true) (congrArg Value.bool (decide_eq_true cj)) ?_
        refine gl_nil ?_
        refine ge_then ?_
        refine gc_yes ?_
        refine gc_skip ?_
        refine ge_then ?_
        refine gc_seq ?_
        refine gc_block ?_
        refine gc_reg ?_
        refine t 94 (sg 11 g19) ?_
        refine t 95 (.int .i64 (j : Int)) ?_
        refine tr 96 (pq g19 j) (congr_v (by simp) (run_ixs 1 g19 0 11 11 j hk)) ?_
        refine tl 97 (sg nj bj) XG j (hv := hq) ?_
        refine tc 98 31 #[sg nj bj] (spoilB (n := nj) (c := nj) hR hnj) ?_
        rintro _ v35 ⟨rfl, U⟩
        refine ⟨_, rfl, ?_⟩
        have ne1 := ByR.ne hR XB (by decide)
        have ne2 := ByR.ne hR XG (by decide)
        replace XB := But.blk U XB ne1
        replace XG := But.blk U XG ne2
        replace SP := SP.next hq U
        replace BB := But.below U BB hlo (Nat.le_refl _)
        clear U
        refine gl_nil ?_
        refine ge_bn ?_
        refine ge_then ?_
        refine gc_reg ?_
        refine t 92 (.int .i64 (j : Int)) ?_
        refine tq 93 (.int .i64 (IntKind.i64.wrap ((j : Int) + 1))) (.int .i64 ((j : Int) + 1)) (wi (by omega)) ?_
        refine t 6 (.int .i64 ((j : Int) + 1)) ?_
        refine gl_nil ?_
        exact ge_round (j + 1) (by omega) ⟨by omega, XB, XG, SP, BB⟩ (by kernel_rfl)
      · refine tq 91 (.bool (decide ((j : Int) < 11))) (.bool false) (congrArg Value.bool (decide_eq_false cj)) ?_
        refine gl_nil ?_
        refine ge_then ?_
        refine gc_no ?_
        refine gc_exit ?_
        refine ge_tx ?_
        refine ge_tx ?_
        refine ge_bx ?_
        refine ge_bn ?_
        refine ge_then ?_
        refine gc_reg ?_
        refine t 14 (.int .i64 (k : Int)) ?_
        refine tq 15 (.int .i64 (IntKind.i64.wrap ((k : Int) + 1))) (.int .i64 ((k : Int) + 1)) (wi (by omega)) ?_
        refine t 3 (.int .i64 ((k : Int) + 1)) ?_
        refine gl_nil ?_
        exact ge_round (k + 1) (by omega) ⟨by omega, XB, BB⟩ (by kernel_rfl)
    · refine tq 13 (.bool (decide ((k : Int) < 2))) (.bool false) (congrArg Value.bool (decide_eq_false c6)) ?_
      refine gl_nil ?_
      refine ge_then ?_
      refine gc_no ?_
      refine gc_exit ?_
      refine ge_tx ?_
      refine ge_tx ?_
      refine ge_bx ?_
      refine ge_then ?_
      refine gc_seq ?_
      refine gc_reg ?_
      refine t 2 (.bool true) ?_
      refine gl_nil ?_
      refine ge_then ?_
      refine gc_ret ?_
      refine ge_ret (.bool true) (rs1 2 (by kernel_rfl) (by kernel_rfl)) ?_
      exact ⟨rfl, BB⟩
end Rc
end Go.Proofs.YtenlhceceplldaaGreat
