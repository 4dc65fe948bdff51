/- gleanlaw8.RecApart. -/
import Derived.Test.YtenlhceceplldaaGreatJka
namespace Go.Proofs.YtenlhceceplldaaGreat
namespace Rc
open Go.RowKit Go.Lib Pg Lim Gl
set_option maxHeartbeats 8000000 in
set_option maxRecDepth 100000 in
theorem reg9 {w v57 : World} {xs xsy : Nat → Int} {aa aay : Nat → Option Addr} {ns cc nsy ccy : Nat → Nat} {ts tsy : Nat → Bool} {g2 g4 : Nat} {gd gh : Bool} (HX : Rng xs) (HY : Rng xsy) (h17 : NatA w (aa 17) (ns 17) (cc 17) (xs 17)) (z17 : ns 17 ≤ 60) (h22 : NatA w (aa 22) (ns 22) (cc 22) (xs 22)) (z22 : ns 22 ≤ 60) (h23 : NatA w (aa 23) (ns 23) (cc 23) (xs 23)) (z23 : ns 23 ≤ 60) (h24 : NatA w (aa 24) (ns 24) (cc 24) (xs 24)) (z24 : ns 24 ≤ 60) (hy17 : NatA w (aay 17) (nsy 17) (ccy 17) (xsy 17)) (zy17 : nsy 17 ≤ 60) (hy22 : NatA w (aay 22) (nsy 22) (ccy 22) (xsy 22)) (zy22 : nsy 22 ≤ 60) (hy23 : NatA w (aay 23) (nsy 23) (ccy 23) (xsy 23)) (zy23 : nsy 23 ≤ 60) (hy24 : NatA w (aay 24) (nsy 24) (ccy 24) (xsy 24)) (zy24 : nsy 24 ≤ 60) (Xg2 : Blk v57 g2 (recL xs aa ns cc ts) 46) (Xg4 : Blk v57 g4 (recL xsy aay nsy ccy tsy) 46) (BB : Below w.heap.size w v57) :
    GC Tryz.prog 252 [] (Code.region 9 (ropsOf Tryz.f5 9) true) (Exit.then (fun a' w' => ∃ s, Rd 252 [] ((fun (gv : Bool) => [(2, pg g2), (3, pg g4), (5, .bool gd), (6, .bool gh), (7, .bool gv)]) s) a' ∧ (fun gv w' => gv = eqB (lbVal xs ts) (lbVal xsy tsy) ∧ Blk w' g2 (recL xs aa ns cc ts) 46 ∧ Blk w' g4 (recL xsy aay nsy ccy tsy) 46 ∧ Below w.heap.size w w') s w') (bodyPost Tryz.prog Tryz.f5 (fun e w' => e = .returned (.bool true) ∧ Below w.heap.size w w'))) [(2, pg g2), (3, pg g4), (5, .bool gd), (6, .bool gh)] v57 := by
  replace BB := BB.drew
  replace Xg2 := Xg2.drew
  replace Xg4 := Xg4.drew
  refine gc_draw (fun w' => Blk w' g2 (recL xs aa ns cc ts) 46 ∧ Blk w' g4 (recL xsy aay nsy ccy tsy) 46) (fun _ => false) ⟨Xg2, Xg4⟩ ?_
  refine z 0 125 (pq g2 15) ?_
  refine z 1 126 (pq g2 15) ?_
  refine zl 2 127 (.int .u64 (xs 15)) (fun _ h => h.1) 15 ?_
  refine z 3 128 (pq g4 15) ?_
  refine z 4 129 (pq g4 15) ?_
  refine zl 5 130 (.int .u64 (xsy 15)) (fun _ h => h.2) 15 ?_
  by_cases c58 : xs 15 = xsy 15
  · refine zq 6 131 (.bool ((xs 15 : Int) == xsy 15)) (.bool true) (congrArg Value.bool (beq_iff_eq.2 c58)) ?_
    refine z 7 132 (.bool true) ?_
    refine z 8 133 (pq g2 15) ?_
    refine z 9 134 (pq g2 16) ?_
    refine zl 10 135 (.int .u64 (xs 16)) (fun _ h => h.1) 16 ?_
    refine z 11 136 (pq g4 15) ?_
    refine z 12 137 (pq g4 16) ?_
    refine zl 13 138 (.int .u64 (xsy 16)) (fun _ h => h.2) 16 ?_
    by_cases c59 : xs 16 = xsy 16
    · refine zq 14 139 (.bool ((xs 16 : Int) == xsy 16)) (.bool true) (congrArg Value.bool (beq_iff_eq.2 c59)) ?_
      refine z 15 140 (.bool true) ?_
      refine z 16 141 (.bool true) ?_
      refine z 17 142 (pq g2 15) ?_
      refine z 18 143 (pq g2 18) ?_
      refine zl 19 144 (.bool (ts 18)) (fun _ h => h.1) 18 ?_
      refine z 20 145 (pq g4 15) ?_
      refine z 21 146 (pq g4 18) ?_
      refine zl 22 147 (.bool (tsy 18)) (fun _ h => h.2) 18 ?_
      by_cases c60 : ts 18 = tsy 18
      · refine zq 23 148 (.bool (ts 18 == tsy 18)) (.bool true) (congrArg Value.bool (beq_iff_eq.2 c60)) ?_
        refine z 24 149 (.bool true) ?_
        refine z 25 150 (.bool true) ?_
        refine z 26 151 (pq g2 15) ?_
        refine z 27 152 (pq g2 19) ?_
        refine zl 28 153 (.int .u64 (xs 19)) (fun _ h => h.1) 19 ?_
        refine z 29 154 (pq g4 15) ?_
        refine z 30 155 (pq g4 19) ?_
        refine zl 31 156 (.int .u64 (xsy 19)) (fun _ h => h.2) 19 ?_
        by_cases c61 : xs 19 = xsy 19
        · refine zq 32 157 (.bool ((xs 19 : Int) == xsy 19)) (.bool true) (congrArg Value.bool (beq_iff_eq.2 c61)) ?_
          refine z 33 158 (.bool true) ?_
          refine z 34 159 (.bool true) ?_
          refine z 35 160 (pq g2 15) ?_
          refine z 36 161 (pq g2 20) ?_
          refine zl 37 162 (.bool (ts 20)) (fun _ h => h.1) 20 ?_
          refine z 38 163 (pq g4 15) ?_
          refine z 39 164 (pq g4 20) ?_
          refine zl 40 165 (.bool (tsy 20)) (fun _ h => h.2) 20 ?_
          by_cases c62 : ts 20 = tsy 20
          · refine zq 41 166 (.bool (ts 20 == tsy 20)) (.bool true) (congrArg Value.bool (beq_iff_eq.2 c62)) ?_
            refine z 42 167 (.bool true) ?_
            refine z 43 168 (.bool true) ?_
            refine z 44 169 (pq g2 15) ?_
            refine z 45 170 (pq g2 21) ?_
            refine zl 46 171 (.int .u64 (xs 21)) (fun _ h => h.1) 21 ?_
            refine z 47 172 (pq g4 15) ?_
            refine z 48 173 (pq g4 21) ?_
            refine zl 49 174 (.int .u64 (xsy 21)) (fun _ h => h.2) 21 ?_
            by_cases c63 : xs 21 = xsy 21
            · refine zq 50 175 (.bool ((xs 21 : Int) == xsy 21)) (.bool true) (congrArg Value.bool (beq_iff_eq.2 c63)) ?_
              refine z 51 176 (.bool true) ?_
              refine z 52 177 (.bool true) ?_
              refine z 53 178 (pq g2 15) ?_
              refine z 54 179 (pq g2 17) ?_
              refine zlr 55 180 [.slice (aa 17) (ns 17) (cc 17)] (fun _ h => h.1) 17 ?_
              refine z 57 182 (pq g4 15) ?_
              refine z 58 183 (pq g4 17) ?_
              refine zlr 59 184 [.slice (aay 17) (nsy 17) (ccy 17)] (fun _ h => h.2) 17 ?_
              refine zc 56 181 37 #[.agg #[.slice (aa 17) (ns 17) (cc 17)]] (norm_any (h17.keep BB) (Nat.le_trans z17 (by decide))) ?_
              rintro _ v65 ⟨aq64, nq64, cq64, rfl, Qq64, Lq64, B⟩
              replace Qq64 := Qq64.o
              replace BB := joinB BB B
              replace Xg2 := Xg2.keep B
              replace Xg4 := Xg4.keep B
              clear B
              refine ⟨_, rfl, ⟨Xg2, Xg4⟩, ?_⟩
              refine zc 60 185 37 #[.agg #[.slice (aay 17) (nsy 17) (ccy 17)]] (norm_any (hy17.keep BB) (Nat.le_trans zy17 (by decide))) ?_
              rintro _ v67 ⟨aq66, nq66, cq66, rfl, Qq66, Lq66, B⟩
              replace Qq66 := Qq66.o
              replace BB := joinB BB B
              replace Xg2 := Xg2.keep B
              replace Xg4 := Xg4.keep B
              replace Qq64 := Qq64.keep B
              clear B
              refine ⟨_, rfl, ⟨Xg2, Xg4⟩, ?_⟩
              by_cases c68 : fit (xs 17) = fit (xsy 17)
              · refine zc 61 186 36 #[.agg #[.slice aq64 nq64 cq64], .agg #[.slice aq66 nq66 cq66]] (decAny Qq64 Qq66 Lq64 Lq66 true (decide_eq_true c68)) ?_
                rintro _ v69 ⟨rfl, B⟩
                replace BB := joinB BB B
                replace Xg2 := Xg2.keep B
                replace Xg4 := Xg4.keep B
                replace Qq64 := Qq64.keep B
                replace Qq66 := Qq66.keep B
                clear B
                clear Qq64
                clear Qq66
                refine ⟨_, rfl, ⟨Xg2, Xg4⟩, ?_⟩
                refine z 62 187 (.bool true) ?_
                refine z 63 188 (.bool true) ?_
                refine z 64 189 (pq g2 15) ?_
                refine z 65 190 (pq g2 22) ?_
                refine zlr 66 191 [.slice (aa 22) (ns 22) (cc 22)] (fun _ h => h.1) 22 ?_
                refine z 68 193 (pq g4 15) ?_
                refine z 69 194 (pq g4 22) ?_
                refine zlr 70 195 [.slice (aay 22) (nsy 22) (ccy 22)] (fun _ h => h.2) 22 ?_
                refine zc 67 192 37 #[.agg #[.slice (aa 22) (ns 22) (cc 22)]] (norm_any (h22.keep BB) (Nat.le_trans z22 (by decide))) ?_
                rintro _ v71 ⟨aq70, nq70, cq70, rfl, Qq70, Lq70, B⟩
                replace Qq70 := Qq70.o
                replace BB := joinB BB B
                replace Xg2 := Xg2.keep B
                replace Xg4 := Xg4.keep B
                clear B
                refine ⟨_, rfl, ⟨Xg2, Xg4⟩, ?_⟩
                refine zc 71 196 37 #[.agg #[.slice (aay 22) (nsy 22) (ccy 22)]] (norm_any (hy22.keep BB) (Nat.le_trans zy22 (by decide))) ?_
                rintro _ v73 ⟨aq72, nq72, cq72, rfl, Qq72, Lq72, B⟩
                replace Qq72 := Qq72.o
                replace BB := joinB BB B
                replace Xg2 := Xg2.keep B
                replace Xg4 := Xg4.keep B
                replace Qq70 := Qq70.keep B
                clear B
                refine ⟨_, rfl, ⟨Xg2, Xg4⟩, ?_⟩
                by_cases c74 : fit (xs 22) = fit (xsy 22)
                · refine zc 72 197 36 #[.agg #[.slice aq70 nq70 cq70], .agg #[.slice aq72 nq72 cq72]] (decAny Qq70 Qq72 Lq70 Lq72 true (decide_eq_true c74)) ?_
                  rintro _ v75 ⟨rfl, B⟩
                  replace BB := joinB BB B
                  replace Xg2 := Xg2.keep B
                  replace Xg4 := Xg4.keep B
                  replace Qq70 := Qq70.keep B
                  replace Qq72 := Qq72.keep B
                  clear B
                  clear Qq70
                  clear Qq72
                  refine ⟨_, rfl, ⟨Xg2, Xg4⟩, ?_⟩
                  refine z 73 198 (.bool true) ?_
                  refine z 74 199 (.bool true) ?_
                  refine z 75 200 (pq g2 15) ?_
                  refine z 76 201 (pq g2 23) ?_
                  refine zlr 77 202 [.slice (aa 23) (ns 23) (cc 23)] (fun _ h => h.1) 23 ?_
                  refine z 79 204 (pq g4 15) ?_
                  refine z 80 205 (pq g4 23) ?_
                  refine zlr 81 206 [.slice (aay 23) (nsy 23) (ccy 23)] (fun _ h => h.2) 23 ?_
                  refine zc 78 203 37 #[.agg #[.slice (aa 23) (ns 23) (cc 23)]] (norm_any (h23.keep BB) (Nat.le_trans z23 (by decide))) ?_
                  rintro _ v77 ⟨aq76, nq76, cq76, rfl, Qq76, Lq76, B⟩
                  replace Qq76 := Qq76.o
                  replace BB := joinB BB B
                  replace Xg2 := Xg2.keep B
                  replace Xg4 := Xg4.keep B
                  clear B
                  refine ⟨_, rfl, ⟨Xg2, Xg4⟩, ?_⟩
                  refine zc 82 207 37 #[.agg #[.slice (aay 23) (nsy 23) (ccy 23)]] (norm_any (hy23.keep BB) (Nat.le_trans zy23 (by decide))) ?_
                  rintro _ v79 ⟨aq78, nq78, cq78, rfl, Qq78, Lq78, B⟩
                  replace Qq78 := Qq78.o
                  replace BB := joinB BB B
                  replace Xg2 := Xg2.keep B
                  replace Xg4 := Xg4.keep B
                  replace Qq76 := Qq76.keep B
                  clear B
                  refine ⟨_, rfl, ⟨Xg2, Xg4⟩, ?_⟩
                  by_cases c80 : fit (xs 23) = fit (xsy 23)
                  · refine zc 83 208 36 #[.agg #[.slice aq76 nq76 cq76], .agg #[.slice aq78 nq78 cq78]] (decAny Qq76 Qq78 Lq76 Lq78 true (decide_eq_true c80)) ?_
                    rintro _ v81 ⟨rfl, B⟩
                    replace BB := joinB BB B
                    replace Xg2 := Xg2.keep B
                    replace Xg4 := Xg4.keep B
                    replace Qq76 := Qq76.keep B
                    replace Qq78 := Qq78.keep B
                    clear B
                    clear Qq76
                    clear Qq78
                    refine ⟨_, rfl, ⟨Xg2, Xg4⟩, ?_⟩
                    refine z 84 209 (.bool true) ?_
                    refine z 85 210 (.bool true) ?_
                    refine z 86 211 (pq g2 15) ?_
                    refine z 87 212 (pq g2 24) ?_
                    refine zlr 88 213 [.slice (aa 24) (ns 24) (cc 24)] (fun _ h => h.1) 24 ?_
                    refine z 90 215 (pq g4 15) ?_
                    refine z 91 216 (pq g4 24) ?_
                    refine zlr 92 217 [.slice (aay 24) (nsy 24) (ccy 24)] (fun _ h => h.2) 24 ?_
                    refine zc 89 214 37 #[.agg #[.slice (aa 24) (ns 24) (cc 24)]] (norm_any (h24.keep BB) (Nat.le_trans z24 (by decide))) ?_
                    rintro _ v83 ⟨aq82, nq82, cq82, rfl, Qq82, Lq82, B⟩
                    replace Qq82 := Qq82.o
                    replace BB := joinB BB B
                    replace Xg2 := Xg2.keep B
                    replace Xg4 := Xg4.keep B
                    clear B
                    refine ⟨_, rfl, ⟨Xg2, Xg4⟩, ?_⟩
                    refine zc 93 218 37 #[.agg #[.slice (aay 24) (nsy 24) (ccy 24)]] (norm_any (hy24.keep BB) (Nat.le_trans zy24 (by decide))) ?_
                    rintro _ v85 ⟨aq84, nq84, cq84, rfl, Qq84, Lq84, B⟩
                    replace Qq84 := Qq84.o
                    replace BB := joinB BB B
                    replace Xg2 := Xg2.keep B
                    replace Xg4 := Xg4.keep B
                    replace Qq82 := Qq82.keep B
                    clear B
                    refine ⟨_, rfl, ⟨Xg2, Xg4⟩, ?_⟩
                    by_cases c86 : fit (xs 24) = fit (xsy 24)
                    · refine zc 94 219 36 #[.agg #[.slice aq82 nq82 cq82], .agg #[.slice aq84 nq84 cq84]] (decAny Qq82 Qq84 Lq82 Lq84 true (decide_eq_true c86)) ?_
                      rintro _ v87 ⟨rfl, B⟩
                      replace BB := joinB BB B
                      replace Xg2 := Xg2.keep B
                      replace Xg4 := Xg4.keep B
                      replace Qq82 := Qq82.keep B
                      replace Qq84 := Qq84.keep B
                      clear B
                      clear Qq82
                      clear Qq84
                      refine ⟨_, rfl, ⟨Xg2, Xg4⟩, ?_⟩
                      refine z 95 220 (.bool true) ?_
                      refine z 96 7 (.bool true) ?_
                      refine gz_done ?_
                      exact ge_join true ⟨(eqB_true ((apVal HX HY).2 ⟨c58, c59, c68, c60, c61, c62, c63, c74, c80, c86⟩)).symm, Xg2, Xg4, BB⟩ (by kernel_rfl)
                    · refine zc 94 219 36 #[.agg #[.slice aq82 nq82 cq82], .agg #[.slice aq84 nq84 cq84]] (decAny Qq82 Qq84 Lq82 Lq84 false (decide_eq_false c86)) ?_
                      rintro _ v88 ⟨rfl, B⟩
                      replace BB := joinB BB B
                      replace Xg2 := Xg2.keep B
                      replace Xg4 := Xg4.keep B
                      replace Qq82 := Qq82.keep B
                      replace Qq84 := Qq84.keep B
                      clear B
                      clear Qq82
                      clear Qq84
                      refine ⟨_, rfl, ⟨Xg2, Xg4⟩, ?_⟩
                      refine z 95 220 (.bool false) ?_
                      refine z 96 7 (.bool false) ?_
                      refine gz_done ?_
                      exact ge_join false ⟨(eqB_false fun ee => c86 ((apVal HX HY).1 ee).2.2.2.2.2.2.2.2.2).symm, Xg2, Xg4, BB⟩ (by kernel_rfl)
                  · refine zc 83 208 36 #[.agg #[.slice aq76 nq76 cq76], .agg #[.slice aq78 nq78 cq78]] (decAny Qq76 Qq78 Lq76 Lq78 false (decide_eq_false c80)) ?_
                    rintro _ v89 ⟨rfl, B⟩
                    replace BB := joinB BB B
                    replace Xg2 := Xg2.keep B
                    replace Xg4 := Xg4.keep B
                    replace Qq76 := Qq76.keep B
                    replace Qq78 := Qq78.keep B
                    clear B
                    clear Qq76
                    clear Qq78
                    refine ⟨_, rfl, ⟨Xg2, Xg4⟩, ?_⟩
                    refine z 84 209 (.bool false) ?_
                    refine z 85 210 (.bool false) ?_
                    refine zn 86 211 ?_
                    refine zn 87 212 ?_
                    refine zn 88 213 ?_
                    refine zn 89 214 ?_
                    refine zn 90 215 ?_
                    refine zn 91 216 ?_
                    refine zn 92 217 ?_
                    refine zn 93 218 ?_
                    refine zn 94 219 ?_
                    refine z 95 220 (.bool false) ?_
                    refine z 96 7 (.bool false) ?_
                    refine gz_done ?_
                    exact ge_join false ⟨(eqB_false fun ee => c80 ((apVal HX HY).1 ee).2.2.2.2.2.2.2.2.1).symm, Xg2, Xg4, BB⟩ (by kernel_rfl)
                · refine zc 72 197 36 #[.agg #[.slice aq70 nq70 cq70], .agg #[.slice aq72 nq72 cq72]] (decAny Qq70 Qq72 Lq70 Lq72 false (decide_eq_false c74)) ?_
                  rintro _ v90 ⟨rfl, B⟩
                  replace BB := joinB BB B
                  replace Xg2 := Xg2.keep B
                  replace Xg4 := Xg4.keep B
                  replace Qq70 := Qq70.keep B
                  replace Qq72 := Qq72.keep B
                  clear B
                  clear Qq70
                  clear Qq72
                  refine ⟨_, rfl, ⟨Xg2, Xg4⟩, ?_⟩
                  refine z 73 198 (.bool false) ?_
                  refine z 74 199 (.bool false) ?_
                  refine zn 75 200 ?_
                  refine zn 76 201 ?_
                  refine zn 77 202 ?_
                  refine zn 78 203 ?_
                  refine zn 79 204 ?_
                  refine zn 80 205 ?_
                  refine zn 81 206 ?_
                  refine zn 82 207 ?_
                  refine zn 83 208 ?_
                  refine z 84 209 (.bool false) ?_
                  refine z 85 210 (.bool false) ?_
                  refine zn 86 211 ?_
                  refine zn 87 212 ?_
                  refine zn 88 213 ?_
                  refine zn 89 214 ?_
                  refine zn 90 215 ?_
                  refine zn 91 216 ?_
                  refine zn 92 217 ?_
                  refine zn 93 218 ?_
                  refine zn 94 219 ?_
                  refine z 95 220 (.bool false) ?_
                  refine z 96 7 (.bool false) ?_
                  refine gz_done ?_
                  exact ge_join false ⟨(eqB_false fun ee => c74 ((apVal HX HY).1 ee).2.2.2.2.2.2.2.1).symm, Xg2, Xg4, BB⟩ (by kernel_rfl)
              · refine zc 61 186 36 #[.agg #[.slice aq64 nq64 cq64], .agg #[.slice aq66 nq66 cq66]] (decAny Qq64 Qq66 Lq64 Lq66 false (decide_eq_false c68)) ?_
                rintro _ v91 ⟨rfl, B⟩
                replace BB := joinB BB B
                replace Xg2 := Xg2.keep B
                replace Xg4 := Xg4.keep B
                replace Qq64 := Qq64.keep B
                replace Qq66 := Qq66.keep B
                clear B
                clear Qq64
                clear Qq66
                refine ⟨_, rfl, ⟨Xg2, Xg4⟩, ?_⟩
                refine z 62 187 (.bool false) ?_
                refine z 63 188 (.bool false) ?_
                refine zn 64 189 ?_
                refine zn 65 190 ?_
                refine zn 66 191 ?_
                refine zn 67 192 ?_
                refine zn 68 193 ?_
                refine zn 69 194 ?_
                refine zn 70 195 ?_
                refine zn 71 196 ?_
                refine zn 72 197 ?_
                refine z 73 198 (.bool false) ?_
                refine z 74 199 (.bool false) ?_
                refine zn 75 200 ?_
                refine zn 76 201 ?_
                refine zn 77 202 ?_
                refine zn 78 203 ?_
                refine zn 79 204 ?_
                refine zn 80 205 ?_
                refine zn 81 206 ?_
                refine zn 82 207 ?_
                refine zn 83 208 ?_
                refine z 84 209 (.bool false) ?_
                refine z 85 210 (.bool false) ?_
                refine zn 86 211 ?_
                refine zn 87 212 ?_
                refine zn 88 213 ?_
                refine zn 89 214 ?_
                refine zn 90 215 ?_
                refine zn 91 216 ?_
                refine zn 92 217 ?_
                refine zn 93 218 ?_
                refine zn 94 219 ?_
                refine z 95 220 (.bool false) ?_
                refine z 96 7 (.bool false) ?_
                refine gz_done ?_
                exact ge_join false ⟨(eqB_false fun ee => c68 ((apVal HX HY).1 ee).2.2.1).symm, Xg2, Xg4, BB⟩ (by kernel_rfl)
            · refine zq 50 175 (.bool ((xs 21 : Int) == xsy 21)) (.bool false) (congrArg Value.bool (beq_eq_false_iff_ne.2 c63)) ?_
              refine z 51 176 (.bool false) ?_
              refine z 52 177 (.bool false) ?_
              refine zn 53 178 ?_
              refine zn 54 179 ?_
              refine zn 55 180 ?_
              refine zn 56 181 ?_
              refine zn 57 182 ?_
              refine zn 58 183 ?_
              refine zn 59 184 ?_
              refine zn 60 185 ?_
              refine zn 61 186 ?_
              refine z 62 187 (.bool false) ?_
              refine z 63 188 (.bool false) ?_
              refine zn 64 189 ?_
              refine zn 65 190 ?_
              refine zn 66 191 ?_
              refine zn 67 192 ?_
              refine zn 68 193 ?_
              refine zn 69 194 ?_
              refine zn 70 195 ?_
              refine zn 71 196 ?_
              refine zn 72 197 ?_
              refine z 73 198 (.bool false) ?_
              refine z 74 199 (.bool false) ?_
              refine zn 75 200 ?_
              refine zn 76 201 ?_
              refine zn 77 202 ?_
              refine zn 78 203 ?_
              refine zn 79 204 ?_
              refine zn 80 205 ?_
              refine zn 81 206 ?_
              refine zn 82 207 ?_
              refine zn 83 208 ?_
              refine z 84 209 (.bool false) ?_
              refine z 85 210 (.bool false) ?_
              refine zn 86 211 ?_
              refine zn 87 212 ?_
              refine zn 88 213 ?_
              refine zn 89 214 ?_
              refine zn 90 215 ?_
              refine zn 91 216 ?_
              refine zn 92 217 ?_
              refine zn 93 218 ?_
              refine zn 94 219 ?_
              refine z 95 220 (.bool false) ?_
              refine z 96 7 (.bool false) ?_
              refine gz_done ?_
              exact ge_join false ⟨(eqB_false fun ee => c63 ((apVal HX HY).1 ee).2.2.2.2.2.2.1).symm, Xg2, Xg4, BB⟩ (by kernel_rfl)
          · refine zq 41 166 (.bool (ts 20 == tsy 20)) (.bool false) (congrArg Value.bool (beq_eq_false_iff_ne.2 c62)) ?_
            refine z 42 167 (.bool false) ?_
            refine z 43 168 (.bool false) ?_
            refine zn 44 169 ?_
            refine zn 45 170 ?_
            refine zn 46 171 ?_
            refine zn 47 172 ?_
            refine zn 48 173 ?_
            refine zn 49 174 ?_
            refine zn 50 175 ?_
            refine z 51 176 (.bool false) ?_
            refine z 52 177 (.bool false) ?_
            refine zn 53 178 ?_
            refine zn 54 179 ?_
            refine zn 55 180 ?_
            refine zn 56 181 ?_
            refine zn 57 182 ?_
            refine zn 58 183 ?_
            refine zn 59 184 ?_
            refine zn 60 185 ?_
            refine zn 61 186 ?_
            refine z 62 187 (.bool false) ?_
            refine z 63 188 (.bool false) ?_
            refine zn 64 189 ?_
            refine zn 65 190 ?_
            refine zn 66 191 ?_
            refine zn 67 192 ?_
            refine zn 68 193 ?_
            refine zn 69 194 ?_
            refine zn 70 195 ?_
            refine zn 71 196 ?_
            refine zn 72 197 ?_
            refine z 73 198 (.bool false) ?_
            refine z 74 199 (.bool false) ?_
            refine zn 75 200 ?_
            refine zn 76 201 ?_
            refine zn 77 202 ?_
            refine zn 78 203 ?_
            refine zn 79 204 ?_
            refine zn 80 205 ?_
            refine zn 81 206 ?_
            refine zn 82 207 ?_
            refine zn 83 208 ?_
            refine z 84 209 (.bool false) ?_
            refine z 85 210 (.bool false) ?_
            refine zn 86 211 ?_
            refine zn 87 212 ?_
            refine zn 88 213 ?_
            refine zn 89 214 ?_
            refine zn 90 215 ?_
            refine zn 91 216 ?_
            refine zn 92 217 ?_
            refine zn 93 218 ?_
            refine zn 94 219 ?_
            refine z 95 220 (.bool false) ?_
            refine z 96 7 (.bool false) ?_
            refine gz_done ?_
            exact ge_join false ⟨(eqB_false fun ee => c62 ((apVal HX HY).1 ee).2.2.2.2.2.1).symm, Xg2, Xg4, BB⟩ (by kernel_rfl)
        · refine zq 32 157 (.bool ((xs 19 : Int) == xsy 19)) (.bool false) (congrArg Value.bool (beq_eq_false_iff_ne.2 c61)) ?_
          refine z 33 158 (.bool false) ?_
          refine z 34 159 (.bool false) ?_
          refine zn 35 160 ?_
          refine zn 36 161 ?_
          refine zn 37 162 ?_
          refine zn 38 163 ?_
          refine zn 39 164 ?_
          refine zn 40 165 ?_
          refine zn 41 166 ?_
          refine z 42 167 (.bool false) ?_
          refine z 43 168 (.bool false) ?_
          refine zn 44 169 ?_
          refine zn 45 170 ?_
          refine zn 46 171 ?_
          refine zn 47 172 ?_
          refine zn 48 173 ?_
          refine zn 49 174 ?_
          refine zn 50 175 ?_
          refine z 51 176 (.bool false) ?_
          refine z 52 177 (.bool false) ?_
          refine zn 53 178 ?_
          refine zn 54 179 ?_
          refine zn 55 180 ?_
          refine zn 56 181 ?_
          refine zn 57 182 ?_
          refine zn 58 183 ?_
          refine zn 59 184 ?_
          refine zn 60 185 ?_
          refine zn 61 186 ?_
          refine z 62 187 (.bool false) ?_
          refine z 63 188 (.bool false) ?_
          refine zn 64 189 ?_
          refine zn 65 190 ?_
          refine zn 66 191 ?_
          refine zn 67 192 ?_
          refine zn 68 193 ?_
          refine zn 69 194 ?_
          refine zn 70 195 ?_
          refine zn 71 196 ?_
          refine zn 72 197 ?_
          refine z 73 198 (.bool false) ?_
          refine z 74 199 (.bool false) ?_
          refine zn 75 200 ?_
          refine zn 76 201 ?_
          refine zn 77 202 ?_
          refine zn 78 203 ?_
          refine zn 79 204 ?_
          refine zn 80 205 ?_
          refine zn 81 206 ?_
          refine zn 82 207 ?_
          refine zn 83 208 ?_
          refine z 84 209 (.bool false) ?_
          refine z 85 210 (.bool false) ?_
          refine zn 86 211 ?_
          refine zn 87 212 ?_
          refine zn 88 213 ?_
          refine zn 89 214 ?_
          refine zn 90 215 ?_
          refine zn 91 216 ?_
          refine zn 92 217 ?_
          refine zn 93 218 ?_
          refine zn 94 219 ?_
          refine z 95 220 (.bool false) ?_
          refine z 96 7 (.bool false) ?_
          refine gz_done ?_
          exact ge_join false ⟨(eqB_false fun ee => c61 ((apVal HX HY).1 ee).2.2.2.2.1).symm, Xg2, Xg4, BB⟩ (by kernel_rfl)
      · refine zq 23 148 (.bool (ts 18 == tsy 18)) (.bool false) (congrArg Value.bool (beq_eq_false_iff_ne.2 c60)) ?_
        refine z 24 149 (.bool false) ?_
        refine z 25 150 (.bool false) ?_
        refine zn 26 151 ?_
        refine zn 27 152 ?_
        refine zn 28 153 ?_
        refine zn 29 154 ?_
        refine zn 30 155 ?_
        refine zn 31 156 ?_
        refine zn 32 157 ?_
        refine z 33 158 (.bool false) ?_
        refine z 34 159 (.bool false) ?_
        refine zn 35 160 ?_
        refine zn 36 161 ?_
        refine zn 37 162 ?_
        refine zn 38 163 ?_
        refine zn 39 164 ?_
        refine zn 40 165 ?_
        refine zn 41 166 ?_
        refine z 42 167 (.bool false) ?_
        refine z 43 168 (.bool false) ?_
        refine zn 44 169 ?_
        refine zn 45 170 ?_
        refine zn 46 171 ?_
        refine zn 47 172 ?_
        refine zn 48 173 ?_
        refine zn 49 174 ?_
        refine zn 50 175 ?_
        refine z 51 176 (.bool false) ?_
        refine z 52 177 (.bool false) ?_
        refine zn 53 178 ?_
        refine zn 54 179 ?_
        refine zn 55 180 ?_
        refine zn 56 181 ?_
        refine zn 57 182 ?_
        refine zn 58 183 ?_
        refine zn 59 184 ?_
        refine zn 60 185 ?_
        refine zn 61 186 ?_
        refine z 62 187 (.bool false) ?_
        refine z 63 188 (.bool false) ?_
        refine zn 64 189 ?_
        refine zn 65 190 ?_
        refine zn 66 191 ?_
        refine zn 67 192 ?_
        refine zn 68 193 ?_
        refine zn 69 194 ?_
        refine zn 70 195 ?_
        refine zn 71 196 ?_
        refine zn 72 197 ?_
        refine z 73 198 (.bool false) ?_
        refine z 74 199 (.bool false) ?_
        refine zn 75 200 ?_
        refine zn 76 201 ?_
        refine zn 77 202 ?_
        refine zn 78 203 ?_
        refine zn 79 204 ?_
        refine zn 80 205 ?_
        refine zn 81 206 ?_
        refine zn 82 207 ?_
        refine zn 83 208 ?_
        refine z 84 209 (.bool false) ?_
        refine z 85 210 (.bool false) ?_
        refine zn 86 211 ?_
        refine zn 87 212 ?_
        refine zn 88 213 ?_
        refine zn 89 214 ?_
        refine zn 90 215 ?_
        refine zn 91 216 ?_
        refine zn 92 217 ?_
        refine zn 93 218 ?_
        refine zn 94 219 ?_
        refine z 95 220 (.bool false) ?_
        refine z 96 7 (.bool false) ?_
        refine gz_done ?_
        exact ge_join false ⟨(eqB_false fun ee => c60 ((apVal HX HY).1 ee).2.2.2.1).symm, Xg2, Xg4, BB⟩ (by kernel_rfl)
    · refine zq 14 139 (.bool ((xs 16 : Int) == xsy 16)) (.bool false) (congrArg Value.bool (beq_eq_false_iff_ne.2 c59)) ?_
      refine z 15 140 (.bool false) ?_
      refine z 16 141 (.bool false) ?_
      refine zn 17 142 ?_
      refine zn 18 143 ?_
      refine zn 19 144 ?_
      refine zn 20 145 ?_
      refine zn 21 146 ?_
      refine zn 22 147 ?_
      refine zn 23 148 ?_
      refine z 24 149 (.bool false) ?_
      refine z 25 150 (.bool false) ?_
      refine zn 26 151 ?_
      refine zn 27 152 ?_
      refine zn 28 153 ?_
      refine zn 29 154 ?_
      refine zn 30 155 ?_
      refine zn 31 156 ?_
      refine zn 32 157 ?_
      refine z 33 158 (.bool false) ?_
      refine z 34 159 (.bool false) ?_
      refine zn 35 160 ?_
      refine zn 36 161 ?_
      refine zn 37 162 ?_
      refine zn 38 163 ?_
      refine zn 39 164 ?_
      refine zn 40 165 ?_
      refine zn 41 166 ?_
      refine z 42 167 (.bool false) ?_
      refine z 43 168 (.bool false) ?_
      refine zn 44 169 ?_
      refine zn 45 170 ?_
      refine zn 46 171 ?_
      refine zn 47 172 ?_
      refine zn 48 173 ?_
      refine zn 49 174 ?_
      refine zn 50 175 ?_
      refine z 51 176 (.bool false) ?_
      refine z 52 177 (.bool false) ?_
      refine zn 53 178 ?_
      refine zn 54 179 ?_
      refine zn 55 180 ?_
      refine zn 56 181 ?_
      refine zn 57 182 ?_
      refine zn 58 183 ?_
      refine zn 59 184 ?_
      refine zn 60 185 ?_
      refine zn 61 186 ?_
      refine z 62 187 (.bool false) ?_
      refine z 63 188 (.bool false) ?_
      refine zn 64 189 ?_
      refine zn 65 190 ?_
      refine zn 66 191 ?_
      refine zn 67 192 ?_
      refine zn 68 193 ?_
      refine zn 69 194 ?_
      refine zn 70 195 ?_
      refine zn 71 196 ?_
      refine zn 72 197 ?_
      refine z 73 198 (.bool false) ?_
      refine z 74 199 (.bool false) ?_
      refine zn 75 200 ?_
      refine zn 76 201 ?_
      refine zn 77 202 ?_
      refine zn 78 203 ?_
      refine zn 79 204 ?_
      refine zn 80 205 ?_
      refine zn 81 206 ?_
      refine zn 82 207 ?_
      refine zn 83 208 ?_
      refine z 84 209 (.bool false) ?_
      refine z 85 210 (.bool false) ?_
      refine zn 86 211 ?_
      refine zn 87 212 ?_
      refine zn 88 213 ?_
      refine zn 89 214 ?_
      refine zn 90 215 ?_
      refine zn 91 216 ?_
      refine zn 92 217 ?_
      refine zn 93 218 ?_
      refine zn 94 219 ?_
      refine z 95 220 (.bool false) ?_
      refine z 96 7 (.bool false) ?_
      refine gz_done ?_
      exact ge_join false ⟨(eqB_false fun ee => c59 ((apVal HX HY).1 ee).2.1).symm, Xg2, Xg4, BB⟩ (by kernel_rfl)
  · refine zq 6 131 (.bool ((xs 15 : Int) == xsy 15)) (.bool false) (congrArg Value.bool (beq_eq_false_iff_ne.2 c58)) ?_
    refine z 7 132 (.bool false) ?_
    refine zn 8 133 ?_
    refine zn 9 134 ?_
    refine zn 10 135 ?_
    refine zn 11 136 ?_
    refine zn 12 137 ?_
    refine zn 13 138 ?_
    refine zn 14 139 ?_
    refine z 15 140 (.bool false) ?_
    refine z 16 141 (.bool false) ?_
    refine zn 17 142 ?_
    refine zn 18 143 ?_
    refine zn 19 144 ?_
    refine zn 20 145 ?_
    refine zn 21 146 ?_
    refine zn 22 147 ?_
    refine zn 23 148 ?_
    refine z 24 149 (.bool false) ?_
    refine z 25 150 (.bool false) ?_
    refine zn 26 151 ?_
    refine zn 27 152 ?_
    refine zn 28 153 ?_
    refine zn 29 154 ?_
    refine zn 30 155 ?_
    refine zn 31 156 ?_
    refine zn 32 157 ?_
    refine z 33 158 (.bool false) ?_
    refine z 34 159 (.bool false) ?_
    refine zn 35 160 ?_
    refine zn 36 161 ?_
    refine zn 37 162 ?_
    refine zn 38 163 ?_
    refine zn 39 164 ?_
    refine zn 40 165 ?_
    refine zn 41 166 ?_
    refine z 42 167 (.bool false) ?_
    refine z 43 168 (.bool false) ?_
    refine zn 44 169 ?_
    refine zn 45 170 ?_
    refine zn 46 171 ?_
    refine zn 47 172 ?_
    refine zn 48 173 ?_
    refine zn 49 174 ?_
    refine zn 50 175 ?_
    refine z 51 176 (.bool false) ?_
    refine z 52 177 (.bool false) ?_
    refine zn 53 178 ?_
    refine zn 54 179 ?_
    refine zn 55 180 ?_
    refine zn 56 181 ?_
    refine zn 57 182 ?_
    refine zn 58 183 ?_
    refine zn 59 184 ?_
    refine zn 60 185 ?_
    refine zn 61 186 ?_
    refine z 62 187 (.bool false) ?_
    refine z 63 188 (.bool false) ?_
    refine zn 64 189 ?_
    refine zn 65 190 ?_
    refine zn 66 191 ?_
    refine zn 67 192 ?_
    refine zn 68 193 ?_
    refine zn 69 194 ?_
    refine zn 70 195 ?_
    refine zn 71 196 ?_
    refine zn 72 197 ?_
    refine z 73 198 (.bool false) ?_
    refine z 74 199 (.bool false) ?_
    refine zn 75 200 ?_
    refine zn 76 201 ?_
    refine zn 77 202 ?_
    refine zn 78 203 ?_
    refine zn 79 204 ?_
    refine zn 80 205 ?_
    refine zn 81 206 ?_
    refine zn 82 207 ?_
    refine zn 83 208 ?_
    refine z 84 209 (.bool false) ?_
    refine z 85 210 (.bool false) ?_
    refine zn 86 211 ?_
    refine zn 87 212 ?_
    refine zn 88 213 ?_
    refine zn 89 214 ?_
    refine zn 90 215 ?_
    refine zn 91 216 ?_
    refine zn 92 217 ?_
    refine zn 93 218 ?_
    refine zn 94 219 ?_
    refine z 95 220 (.bool false) ?_
    refine z 96 7 (.bool false) ?_
    refine gz_done ?_
    exact ge_join false ⟨(eqB_false fun ee => c58 ((apVal HX HY).1 ee).1).symm, Xg2, Xg4, BB⟩ (by kernel_rfl)
set_option maxHeartbeats 8000000 in
set_option maxRecDepth 100000 in
theorem recApart_walk {w : World} {cs : List Value} {xs : Nat → Int} {aa : Nat → Option Addr} {ns cc : Nat → Nat} {ts : Nat → Bool} (R : RecA w cs xs aa ns cc ts) {csy : List Value} {xsy : Nat → Int} {aay : Nat → Option Addr} {nsy ccy : Nat → Nat} {tsy : Nat → Bool} (Ry : RecA w csy xsy aay nsy ccy tsy) :
    Calls Tryz.prog 5 #[.agg cs.toArray, .agg csy.toArray] w fun e w' => e = .returned (.bool true) ∧ Below w.heap.size w w' := by
  have RR := R
  have RRy := Ry
  have HX := R.rng
  have HY := Ry.rng
  have hcs := R.list
  have hcsy := Ry.list
  obtain ⟨-, h12, -⟩ := R.d 12 (by decide)
  obtain ⟨-, h17, -⟩ := R.d 17 (by decide)
  obtain ⟨-, h22, -⟩ := R.d 22 (by decide)
  obtain ⟨-, h23, -⟩ := R.d 23 (by decide)
  obtain ⟨-, h24, -⟩ := R.d 24 (by decide)
  obtain ⟨-, h25, -⟩ := R.d 25 (by decide)
  obtain ⟨-, h27, -⟩ := R.d 27 (by decide)
  obtain ⟨-, h28, -⟩ := R.d 28 (by decide)
  obtain ⟨-, h44, -⟩ := R.d 44 (by decide)
  obtain ⟨-, hy12, -⟩ := Ry.d 12 (by decide)
  obtain ⟨-, hy17, -⟩ := Ry.d 17 (by decide)
  obtain ⟨-, hy22, -⟩ := Ry.d 22 (by decide)
  obtain ⟨-, hy23, -⟩ := Ry.d 23 (by decide)
  obtain ⟨-, hy24, -⟩ := Ry.d 24 (by decide)
  obtain ⟨-, hy25, -⟩ := Ry.d 25 (by decide)
  obtain ⟨-, hy27, -⟩ := Ry.d 27 (by decide)
  obtain ⟨-, hy28, -⟩ := Ry.d 28 (by decide)
  obtain ⟨-, hy44, -⟩ := Ry.d 44 (by decide)
  clear R Ry
  subst hcs hcsy
  have BB := Below.refl w.heap.size w
  refine gc_enter (n := 252) Tryz.func5 rfl (by kernel_rfl) (by kernel_rfl) ?_
  refine gc_seq ?_
  refine gc_reg ?_
  refine ta 2 (recL xs aa ns cc ts) 46 (pg) ?_
  intro v1 g2 Xg2 hg2 B
  replace BB := joinB BB B
  clear B
  refine ta 3 (recL xsy aay nsy ccy tsy) 46 (pg) ?_
  intro v3 g4 Xg4 hg4 B
  replace BB := joinB BB B
  replace Xg2 := Xg2.keep B
  clear B
  refine t 4 (.bool false) ?_
  refine gl_nil ?_
  refine ge_then ?_
  refine gc_seq ?_
  refine gc_seq ?_
  refine gc_reg ?_
  refine tc 8 6 #[] (known8 _) ?_
  rintro _ v5 ⟨rfl, B⟩
  refine ⟨_, rfl, ?_⟩
  replace BB := joinB BB B
  replace Xg2 := Xg2.keep B
  replace Xg4 := Xg4.keep B
  clear B
  refine t 9 (.bool false) ?_
  refine gl_nil ?_
  refine ge_then ?_
  refine gc_no ?_
  refine gc_skip ?_
  refine ge_then ?_
  refine gc_seq ?_
  refine gc_seq ?_
  refine gc_reg ?_
  refine tlr 10 (recL xs aa ns cc ts) Xg2 0 ?_
  refine tc 11 7 #[.agg (recL xs aa ns cc ts).toArray] (light_any (RR.keep BB)) ?_
  rintro _ v6 ⟨bl, rfl, hl, B⟩
  refine ⟨_, rfl, ?_⟩
  replace BB := joinB BB B
  replace Xg2 := Xg2.keep B
  replace Xg4 := Xg4.keep B
  clear B
  cases bl
  · skip
    refine t 12 (.bool true) ?_
    refine t 13 (.bool true) ?_
    refine tn 14 ?_
    refine tn 15 ?_
    refine tn 16 ?_
    refine t 17 (.bool true) ?_
    refine gl_nil ?_
    refine ge_then ?_
    refine gc_fr [(2, pg g2), (3, pg g4), (4, .bool false), (17, .bool true)] (by kernel_rfl) ?_
    refine gc_yes ?_
    refine gc_seq ?_
    refine gc_reg ?_
    refine t 4 (.bool true) ?_
    refine gl_nil ?_
    refine ge_then ?_
    refine gc_ret ?_
    refine ge_tr ?_
    refine ge_ret (.bool true) (rs1 4 (by kernel_rfl) (by kernel_rfl)) ?_
    exact ⟨rfl, BB⟩
  · replace hl := hl rfl
    have z12 := hl 12 (by decide)
    have z17 := hl 17 (by decide)
    have z22 := hl 22 (by decide)
    have z23 := hl 23 (by decide)
    have z24 := hl 24 (by decide)
    have z25 := hl 25 (by decide)
    have z27 := hl 27 (by decide)
    have z28 := hl 28 (by decide)
    have z44 := hl 44 (by decide)
    clear hl RR
    refine t 12 (.bool false) ?_
    refine t 13 (.bool false) ?_
    refine tlr 14 (recL xsy aay nsy ccy tsy) Xg4 0 ?_
    refine tc 15 7 #[.agg (recL xsy aay nsy ccy tsy).toArray] (light_any (RRy.keep BB)) ?_
    rintro _ v7 ⟨bl, rfl, hl, B⟩
    refine ⟨_, rfl, ?_⟩
    replace BB := joinB BB B
    replace Xg2 := Xg2.keep B
    replace Xg4 := Xg4.keep B
    clear B
    cases bl
    · skip
      refine t 16 (.bool true) ?_
      refine t 17 (.bool true) ?_
      refine gl_nil ?_
      refine ge_then ?_
      refine gc_fr [(2, pg g2), (3, pg g4), (4, .bool false), (17, .bool true)] (by kernel_rfl) ?_
      refine gc_yes ?_
      refine gc_seq ?_
      refine gc_reg ?_
      refine t 4 (.bool true) ?_
      refine gl_nil ?_
      refine ge_then ?_
      refine gc_ret ?_
      refine ge_tr ?_
      refine ge_ret (.bool true) (rs1 4 (by kernel_rfl) (by kernel_rfl)) ?_
      exact ⟨rfl, BB⟩
    · replace hl := hl rfl
      have zy12 := hl 12 (by decide)
      have zy17 := hl 17 (by decide)
      have zy22 := hl 22 (by decide)
      have zy23 := hl 23 (by decide)
      have zy24 := hl 24 (by decide)
      have zy25 := hl 25 (by decide)
      have zy27 := hl 27 (by decide)
      have zy28 := hl 28 (by decide)
      have zy44 := hl 44 (by decide)
      clear hl RRy
      refine t 16 (.bool false) ?_
      refine t 17 (.bool false) ?_
      refine gl_nil ?_
      refine ge_then ?_
      refine gc_fr [(2, pg g2), (3, pg g4), (4, .bool false), (17, .bool false)] (by kernel_rfl) ?_
      refine gc_no ?_
      refine gc_skip ?_
      refine ge_then ?_
      refine gc_seq ?_
      refine gc_seq ?_
      replace BB := BB.drew
      replace Xg2 := Xg2.drew
      replace Xg4 := Xg4.drew
      refine gc_draw (fun w' => Blk w' g2 (recL xs aa ns cc ts) 46 ∧ Blk w' g4 (recL xsy aay nsy ccy tsy) 46) (fun _ => false) ⟨Xg2, Xg4⟩ ?_
      refine z 0 18 (pg g2) ?_
      refine zlr 1 19 [.int .u64 (xs 0), .int .u64 (xs 1), .int .u64 (xs 2), .int .u64 (xs 3), .int .u64 (xs 4), .int .u64 (xs 5), .int .u64 (xs 6), .int .u64 (xs 7), .int .u64 (xs 8), .int .u64 (xs 9)] (fun _ h => h.1) 0 ?_
      refine z 3 21 (pg g4) ?_
      refine zlr 4 22 [.int .u64 (xsy 0), .int .u64 (xsy 1), .int .u64 (xsy 2), .int .u64 (xsy 3), .int .u64 (xsy 4), .int .u64 (xsy 5), .int .u64 (xsy 6), .int .u64 (xsy 7), .int .u64 (xsy 8), .int .u64 (xsy 9)] (fun _ h => h.2) 0 ?_
      refine z 7 25 (pg g2) ?_
      refine zlr 8 26 [.int .u64 (xs 0), .int .u64 (xs 1), .int .u64 (xs 2), .int .u64 (xs 3), .int .u64 (xs 4), .int .u64 (xs 5), .int .u64 (xs 6), .int .u64 (xs 7), .int .u64 (xs 8), .int .u64 (xs 9)] (fun _ h => h.1) 0 ?_
      refine z 9 27 (pg g4) ?_
      refine zlr 10 28 [.int .u64 (xsy 0), .int .u64 (xsy 1), .int .u64 (xsy 2), .int .u64 (xsy 3), .int .u64 (xsy 4), .int .u64 (xsy 5), .int .u64 (xsy 6), .int .u64 (xsy 7), .int .u64 (xsy 8), .int .u64 (xsy 9)] (fun _ h => h.2) 0 ?_
      refine zr 11 29 (.bool (eqB (lbParams xs ts) (lbParams xsy tsy))) (fun _ _ => srParams HX HY) ?_
      refine zc 2 20 8 #[.agg #[.int .u64 (xs 0), .int .u64 (xs 1), .int .u64 (xs 2), .int .u64 (xs 3), .int .u64 (xs 4), .int .u64 (xs 5), .int .u64 (xs 6), .int .u64 (xs 7), .int .u64 (xs 8), .int .u64 (xs 9)]] (gPutParams (xs := xs) (ts := ts) ) ?_
      rintro _ v9 ⟨bq8, rfl, Xq8, -, B⟩
      replace BB := joinB BB B
      replace Xg2 := Xg2.keep B
      replace Xg4 := Xg4.keep B
      clear B
      refine ⟨_, rfl, ⟨Xg2, Xg4⟩, ?_⟩
      refine zc 5 23 8 #[.agg #[.int .u64 (xsy 0), .int .u64 (xsy 1), .int .u64 (xsy 2), .int .u64 (xsy 3), .int .u64 (xsy 4), .int .u64 (xsy 5), .int .u64 (xsy 6), .int .u64 (xsy 7), .int .u64 (xsy 8), .int .u64 (xsy 9)]] (gPutParams (xs := xsy) (ts := tsy) ) ?_
      rintro _ v11 ⟨bq10, rfl, Xq10, -, B⟩
      replace BB := joinB BB B
      replace Xg2 := Xg2.keep B
      replace Xg4 := Xg4.keep B
      replace Xq8 := Xq8.keep B
      clear B
      refine ⟨_, rfl, ⟨Xg2, Xg4⟩, ?_⟩
      refine zc 6 24 35 #[sg (lbParams xs ts).length bq8, sg (lbParams xsy tsy).length bq10] (bSame (Box.bya Xq8 (lay_fine _ _ (by decide)).1 (Nat.le_trans (lay_fine _ _ (by decide)).2 (by decide))) (Box.bya Xq10 (lay_fine _ _ (by decide)).1 (Nat.le_trans (lay_fine _ _ (by decide)).2 (by decide))) (Nat.le_trans (lay_fine _ _ (by decide)).2 (by decide)) (Nat.le_trans (lay_fine _ _ (by decide)).2 (by decide))) ?_
      rintro _ v12 ⟨rfl, B⟩
      replace BB := joinB BB B
      replace Xg2 := Xg2.keep B
      replace Xg4 := Xg4.keep B
      replace Xq8 := Xq8.keep B
      replace Xq10 := Xq10.keep B
      clear B
      clear Xq8
      clear Xq10
      refine ⟨_, rfl, ⟨Xg2, Xg4⟩, ?_⟩
      refine zq 12 30 (.bool ((eqB (lbParams xs ts) (lbParams xsy tsy)) != (eqB (lbParams xs ts) (lbParams xsy tsy)))) (.bool false) (congrArg Value.bool (bne_self_eq_false _)) ?_
      refine z 13 31 (.bool false) ?_
      refine z 14 32 (pq g2 13) ?_
      refine zlr 15 33 [.int .u64 (xs 13), .int .u64 (xs 14)] (fun _ h => h.1) 13 ?_
      refine z 17 35 (pq g4 13) ?_
      refine zlr 18 36 [.int .u64 (xsy 13), .int .u64 (xsy 14)] (fun _ h => h.2) 13 ?_
      refine z 21 39 (pq g2 13) ?_
      refine zlr 22 40 [.int .u64 (xs 13), .int .u64 (xs 14)] (fun _ h => h.1) 13 ?_
      refine z 23 41 (pq g4 13) ?_
      refine zlr 24 42 [.int .u64 (xsy 13), .int .u64 (xsy 14)] (fun _ h => h.2) 13 ?_
      refine zr 25 43 (.bool (eqB (lbAccount xs ts) (lbAccount xsy tsy))) (fun _ _ => srAccount HX HY) ?_
      refine zc 16 34 11 #[.agg #[.int .u64 (xs 13), .int .u64 (xs 14)]] (gPutAccount (xs := xs) (ts := ts) ) ?_
      rintro _ v14 ⟨bq13, rfl, Xq13, -, B⟩
      replace BB := joinB BB B
      replace Xg2 := Xg2.keep B
      replace Xg4 := Xg4.keep B
      clear B
      refine ⟨_, rfl, ⟨Xg2, Xg4⟩, ?_⟩
      refine zc 19 37 11 #[.agg #[.int .u64 (xsy 13), .int .u64 (xsy 14)]] (gPutAccount (xs := xsy) (ts := tsy) ) ?_
      rintro _ v16 ⟨bq15, rfl, Xq15, -, B⟩
      replace BB := joinB BB B
      replace Xg2 := Xg2.keep B
      replace Xg4 := Xg4.keep B
      replace Xq13 := Xq13.keep B
      clear B
      refine ⟨_, rfl, ⟨Xg2, Xg4⟩, ?_⟩
      refine zc 20 38 35 #[sg (lbAccount xs ts).length bq13, sg (lbAccount xsy tsy).length bq15] (bSame (Box.bya Xq13 (lay_fine _ _ (by decide)).1 (Nat.le_trans (lay_fine _ _ (by decide)).2 (by decide))) (Box.bya Xq15 (lay_fine _ _ (by decide)).1 (Nat.le_trans (lay_fine _ _ (by decide)).2 (by decide))) (Nat.le_trans (lay_fine _ _ (by decide)).2 (by decide)) (Nat.le_trans (lay_fine _ _ (by decide)).2 (by decide))) ?_
      rintro _ v17 ⟨rfl, B⟩
      replace BB := joinB BB B
      replace Xg2 := Xg2.keep B
      replace Xg4 := Xg4.keep B
      replace Xq13 := Xq13.keep B
      replace Xq15 := Xq15.keep B
      clear B
      clear Xq13
      clear Xq15
      refine ⟨_, rfl, ⟨Xg2, Xg4⟩, ?_⟩
      refine zq 26 44 (.bool ((eqB (lbAccount xs ts) (lbAccount xsy tsy)) != (eqB (lbAccount xs ts) (lbAccount xsy tsy)))) (.bool false) (congrArg Value.bool (bne_self_eq_false _)) ?_
      refine z 27 45 (.bool false) ?_
      refine z 28 46 (.bool false) ?_
      refine z 29 47 (pq g2 32) ?_
      refine zlr 30 48 [.int .u64 (xs 32), .int .u64 (xs 33), .int .u64 (xs 34), .int .u64 (xs 35), .int .u64 (xs 36), .int .u64 (xs 37)] (fun _ h => h.1) 32 ?_
      refine z 32 50 (pq g4 32) ?_
      refine zlr 33 51 [.int .u64 (xsy 32), .int .u64 (xsy 33), .int .u64 (xsy 34), .int .u64 (xsy 35), .int .u64 (xsy 36), .int .u64 (xsy 37)] (fun _ h => h.2) 32 ?_
      refine z 36 54 (pq g2 32) ?_
      refine zlr 37 55 [.int .u64 (xs 32), .int .u64 (xs 33), .int .u64 (xs 34), .int .u64 (xs 35), .int .u64 (xs 36), .int .u64 (xs 37)] (fun _ h => h.1) 32 ?_
      refine z 38 56 (pq g4 32) ?_
      refine zlr 39 57 [.int .u64 (xsy 32), .int .u64 (xsy 33), .int .u64 (xsy 34), .int .u64 (xsy 35), .int .u64 (xsy 36), .int .u64 (xsy 37)] (fun _ h => h.2) 32 ?_
      refine zr 40 58 (.bool (eqB (lbUnbonding xs ts) (lbUnbonding xsy tsy))) (fun _ _ => srUnbonding HX HY) ?_
      refine zc 31 49 16 #[.agg #[.int .u64 (xs 32), .int .u64 (xs 33), .int .u64 (xs 34), .int .u64 (xs 35), .int .u64 (xs 36), .int .u64 (xs 37)]] (gPutUnbonding (xs := xs) (ts := ts) ) ?_
      rintro _ v19 ⟨bq18, rfl, Xq18, -, B⟩
      replace BB := joinB BB B
      replace Xg2 := Xg2.keep B
      replace Xg4 := Xg4.keep B
      clear B
      refine ⟨_, rfl, ⟨Xg2, Xg4⟩, ?_⟩
      refine zc 34 52 16 #[.agg #[.int .u64 (xsy 32), .int .u64 (xsy 33), .int .u64 (xsy 34), .int .u64 (xsy 35), .int .u64 (xsy 36), .int .u64 (xsy 37)]] (gPutUnbonding (xs := xsy) (ts := tsy) ) ?_
      rintro _ v21 ⟨bq20, rfl, Xq20, -, B⟩
      replace BB := joinB BB B
      replace Xg2 := Xg2.keep B
      replace Xg4 := Xg4.keep B
      replace Xq18 := Xq18.keep B
      clear B
      refine ⟨_, rfl, ⟨Xg2, Xg4⟩, ?_⟩
      refine zc 35 53 35 #[sg (lbUnbonding xs ts).length bq18, sg (lbUnbonding xsy tsy).length bq20] (bSame (Box.bya Xq18 (lay_fine _ _ (by decide)).1 (Nat.le_trans (lay_fine _ _ (by decide)).2 (by decide))) (Box.bya Xq20 (lay_fine _ _ (by decide)).1 (Nat.le_trans (lay_fine _ _ (by decide)).2 (by decide))) (Nat.le_trans (lay_fine _ _ (by decide)).2 (by decide)) (Nat.le_trans (lay_fine _ _ (by decide)).2 (by decide))) ?_
      rintro _ v22 ⟨rfl, B⟩
      replace BB := joinB BB B
      replace Xg2 := Xg2.keep B
      replace Xg4 := Xg4.keep B
      replace Xq18 := Xq18.keep B
      replace Xq20 := Xq20.keep B
      clear B
      clear Xq18
      clear Xq20
      refine ⟨_, rfl, ⟨Xg2, Xg4⟩, ?_⟩
      refine zq 41 59 (.bool ((eqB (lbUnbonding xs ts) (lbUnbonding xsy tsy)) != (eqB (lbUnbonding xs ts) (lbUnbonding xsy tsy)))) (.bool false) (congrArg Value.bool (bne_self_eq_false _)) ?_
      refine z 42 60 (.bool false) ?_
      refine z 43 61 (.bool false) ?_
      refine z 44 62 (pq g2 12) ?_
      refine zlr 45 63 [.slice (aa 12) (ns 12) (cc 12)] (fun _ h => h.1) 12 ?_
      refine z 47 65 (pq g4 12) ?_
      refine zlr 48 66 [.slice (aay 12) (nsy 12) (ccy 12)] (fun _ h => h.2) 12 ?_
      refine z 51 69 (pq g2 12) ?_
      refine zlr 52 70 [.slice (aa 12) (ns 12) (cc 12)] (fun _ h => h.1) 12 ?_
      refine z 54 72 (pq g4 12) ?_
      refine zlr 55 73 [.slice (aay 12) (nsy 12) (ccy 12)] (fun _ h => h.2) 12 ?_
      refine zc 46 64 10 #[.agg #[.slice (aa 12) (ns 12) (cc 12)]] (gPutPool (xs := xs) (ts := ts) BB h12 z12) ?_
      rintro _ v24 ⟨bq23, rfl, Xq23, -, B⟩
      replace BB := joinB BB B
      replace Xg2 := Xg2.keep B
      replace Xg4 := Xg4.keep B
      clear B
      refine ⟨_, rfl, ⟨Xg2, Xg4⟩, ?_⟩
      refine zc 49 67 10 #[.agg #[.slice (aay 12) (nsy 12) (ccy 12)]] (gPutPool (xs := xsy) (ts := tsy) BB hy12 zy12) ?_
      rintro _ v26 ⟨bq25, rfl, Xq25, -, B⟩
      replace BB := joinB BB B
      replace Xg2 := Xg2.keep B
      replace Xg4 := Xg4.keep B
      replace Xq23 := Xq23.keep B
      clear B
      refine ⟨_, rfl, ⟨Xg2, Xg4⟩, ?_⟩
      refine zc 50 68 35 #[sg (lbPool xs ts).length bq23, sg (lbPool xsy tsy).length bq25] (bSame (Box.bya Xq23 (lay_fine _ _ (by decide)).1 (Nat.le_trans (lay_fine _ _ (by decide)).2 (by decide))) (Box.bya Xq25 (lay_fine _ _ (by decide)).1 (Nat.le_trans (lay_fine _ _ (by decide)).2 (by decide))) (Nat.le_trans (lay_fine _ _ (by decide)).2 (by decide)) (Nat.le_trans (lay_fine _ _ (by decide)).2 (by decide))) ?_
      rintro _ v27 ⟨rfl, B⟩
      replace BB := joinB BB B
      replace Xg2 := Xg2.keep B
      replace Xg4 := Xg4.keep B
      replace Xq23 := Xq23.keep B
      replace Xq25 := Xq25.keep B
      clear B
      clear Xq23
      clear Xq25
      refine ⟨_, rfl, ⟨Xg2, Xg4⟩, ?_⟩
      refine zc 53 71 37 #[.agg #[.slice (aa 12) (ns 12) (cc 12)]] (norm_any (h12.keep BB) (Nat.le_trans z12 (by decide))) ?_
      rintro _ v29 ⟨aq28, nq28, cq28, rfl, Qq28, Lq28, B⟩
      replace Qq28 := Qq28.o
      replace BB := joinB BB B
      replace Xg2 := Xg2.keep B
      replace Xg4 := Xg4.keep B
      clear B
      refine ⟨_, rfl, ⟨Xg2, Xg4⟩, ?_⟩
      refine zc 56 74 37 #[.agg #[.slice (aay 12) (nsy 12) (ccy 12)]] (norm_any (hy12.keep BB) (Nat.le_trans zy12 (by decide))) ?_
      rintro _ v31 ⟨aq30, nq30, cq30, rfl, Qq30, Lq30, B⟩
      replace Qq30 := Qq30.o
      replace BB := joinB BB B
      replace Xg2 := Xg2.keep B
      replace Xg4 := Xg4.keep B
      replace Qq28 := Qq28.keep B
      clear B
      refine ⟨_, rfl, ⟨Xg2, Xg4⟩, ?_⟩
      refine zc 57 75 36 #[.agg #[.slice aq28 nq28 cq28], .agg #[.slice aq30 nq30 cq30]] (decAny Qq28 Qq30 Lq28 Lq30 _ (show decide (fit (xs 12) = fit (xsy 12)) = eqB (lbPool xs ts) (lbPool xsy tsy) from (decide_eq_decide.2 (apPool HX HY)).symm)) ?_
      rintro _ v32 ⟨rfl, B⟩
      replace BB := joinB BB B
      replace Xg2 := Xg2.keep B
      replace Xg4 := Xg4.keep B
      replace Qq28 := Qq28.keep B
      replace Qq30 := Qq30.keep B
      clear B
      clear Qq28
      clear Qq30
      refine ⟨_, rfl, ⟨Xg2, Xg4⟩, ?_⟩
      refine zq 58 76 (.bool ((eqB (lbPool xs ts) (lbPool xsy tsy)) != (eqB (lbPool xs ts) (lbPool xsy tsy)))) (.bool false) (congrArg Value.bool (bne_self_eq_false _)) ?_
      refine z 59 77 (.bool false) ?_
      refine gz_done ?_
      refine ge_then ?_
      refine gc_fr [(2, pg g2), (3, pg g4), (4, .bool false), (77, .bool false)] (by kernel_rfl) ?_
      refine gc_no ?_
      refine gc_skip ?_
      refine ge_then ?_
      refine gc_join (fun (gd : Bool) => [(2, pg g2), (3, pg g4), (5, .bool gd)]) (fun gd w' => gd = eqB (lbDelegation xs ts) (lbDelegation xsy tsy) ∧ Blk w' g2 (recL xs aa ns cc ts) 46 ∧ Blk w' g4 (recL xsy aay nsy ccy tsy) 46 ∧ Below w.heap.size w w') ?_ ?_
      · replace BB := BB.drew
        replace Xg2 := Xg2.drew
        replace Xg4 := Xg4.drew
        refine gc_draw (fun w' => Blk w' g2 (recL xs aa ns cc ts) 46 ∧ Blk w' g4 (recL xsy aay nsy ccy tsy) 46) (fun _ => false) ⟨Xg2, Xg4⟩ ?_
        refine z 0 78 (pq g2 25) ?_
        refine z 1 79 (pq g2 25) ?_
        refine zlr 2 80 [.slice (aa 25) (ns 25) (cc 25)] (fun _ h => h.1) 25 ?_
        refine z 4 82 (pq g4 25) ?_
        refine z 5 83 (pq g4 25) ?_
        refine zlr 6 84 [.slice (aay 25) (nsy 25) (ccy 25)] (fun _ h => h.2) 25 ?_
        refine zc 3 81 37 #[.agg #[.slice (aa 25) (ns 25) (cc 25)]] (norm_any (h25.keep BB) (Nat.le_trans z25 (by decide))) ?_
        rintro _ v34 ⟨aq33, nq33, cq33, rfl, Qq33, Lq33, B⟩
        replace Qq33 := Qq33.o
        replace BB := joinB BB B
        replace Xg2 := Xg2.keep B
        replace Xg4 := Xg4.keep B
        clear B
        refine ⟨_, rfl, ⟨Xg2, Xg4⟩, ?_⟩
        refine zc 7 85 37 #[.agg #[.slice (aay 25) (nsy 25) (ccy 25)]] (norm_any (hy25.keep BB) (Nat.le_trans zy25 (by decide))) ?_
        rintro _ v36 ⟨aq35, nq35, cq35, rfl, Qq35, Lq35, B⟩
        replace Qq35 := Qq35.o
        replace BB := joinB BB B
        replace Xg2 := Xg2.keep B
        replace Xg4 := Xg4.keep B
        replace Qq33 := Qq33.keep B
        clear B
        refine ⟨_, rfl, ⟨Xg2, Xg4⟩, ?_⟩
        by_cases c37 : fit (xs 25) = fit (xsy 25)
        · refine zc 8 86 36 #[.agg #[.slice aq33 nq33 cq33], .agg #[.slice aq35 nq35 cq35]] (decAny Qq33 Qq35 Lq33 Lq35 true (decide_eq_true c37)) ?_
          rintro _ v38 ⟨rfl, B⟩
          replace BB := joinB BB B
          replace Xg2 := Xg2.keep B
          replace Xg4 := Xg4.keep B
          replace Qq33 := Qq33.keep B
          replace Qq35 := Qq35.keep B
          clear B
          clear Qq33
          clear Qq35
          refine ⟨_, rfl, ⟨Xg2, Xg4⟩, ?_⟩
          refine z 9 87 (.bool true) ?_
          refine z 10 88 (pq g2 25) ?_
          refine z 11 89 (pq g2 26) ?_
          refine zl 12 90 (.int .u64 (xs 26)) (fun _ h => h.1) 26 ?_
          refine z 13 91 (pq g4 25) ?_
          refine z 14 92 (pq g4 26) ?_
          refine zl 15 93 (.int .u64 (xsy 26)) (fun _ h => h.2) 26 ?_
          by_cases c39 : xs 26 = xsy 26
          · refine zq 16 94 (.bool ((xs 26 : Int) == xsy 26)) (.bool true) (congrArg Value.bool (beq_iff_eq.2 c39)) ?_
            refine z 17 95 (.bool true) ?_
            refine z 18 96 (.bool true) ?_
            refine z 19 97 (pq g2 25) ?_
            refine z 20 98 (pq g2 27) ?_
            refine zlr 21 99 [.slice (aa 27) (ns 27) (cc 27)] (fun _ h => h.1) 27 ?_
            refine z 23 101 (pq g4 25) ?_
            refine z 24 102 (pq g4 27) ?_
            refine zlr 25 103 [.slice (aay 27) (nsy 27) (ccy 27)] (fun _ h => h.2) 27 ?_
            refine zc 22 100 37 #[.agg #[.slice (aa 27) (ns 27) (cc 27)]] (norm_any (h27.keep BB) (Nat.le_trans z27 (by decide))) ?_
            rintro _ v41 ⟨aq40, nq40, cq40, rfl, Qq40, Lq40, B⟩
            replace Qq40 := Qq40.o
            replace BB := joinB BB B
            replace Xg2 := Xg2.keep B
            replace Xg4 := Xg4.keep B
            clear B
            refine ⟨_, rfl, ⟨Xg2, Xg4⟩, ?_⟩
            refine zc 26 104 37 #[.agg #[.slice (aay 27) (nsy 27) (ccy 27)]] (norm_any (hy27.keep BB) (Nat.le_trans zy27 (by decide))) ?_
            rintro _ v43 ⟨aq42, nq42, cq42, rfl, Qq42, Lq42, B⟩
            replace Qq42 := Qq42.o
            replace BB := joinB BB B
            replace Xg2 := Xg2.keep B
            replace Xg4 := Xg4.keep B
            replace Qq40 := Qq40.keep B
            clear B
            refine ⟨_, rfl, ⟨Xg2, Xg4⟩, ?_⟩
            by_cases c44 : fit (xs 27) = fit (xsy 27)
            · refine zc 27 105 36 #[.agg #[.slice aq40 nq40 cq40], .agg #[.slice aq42 nq42 cq42]] (decAny Qq40 Qq42 Lq40 Lq42 true (decide_eq_true c44)) ?_
              rintro _ v45 ⟨rfl, B⟩
              replace BB := joinB BB B
              replace Xg2 := Xg2.keep B
              replace Xg4 := Xg4.keep B
              replace Qq40 := Qq40.keep B
              replace Qq42 := Qq42.keep B
              clear B
              clear Qq40
              clear Qq42
              refine ⟨_, rfl, ⟨Xg2, Xg4⟩, ?_⟩
              refine z 28 106 (.bool true) ?_
              refine z 29 5 (.bool true) ?_
              refine gz_done ?_
              exact ge_join true ⟨(eqB_true ((apDelegation HX HY).2 ⟨c37, c39, c44⟩)).symm, Xg2, Xg4, BB⟩ (by kernel_rfl)
            · refine zc 27 105 36 #[.agg #[.slice aq40 nq40 cq40], .agg #[.slice aq42 nq42 cq42]] (decAny Qq40 Qq42 Lq40 Lq42 false (decide_eq_false c44)) ?_
              rintro _ v46 ⟨rfl, B⟩
              replace BB := joinB BB B
              replace Xg2 := Xg2.keep B
              replace Xg4 := Xg4.keep B
              replace Qq40 := Qq40.keep B
              replace Qq42 := Qq42.keep B
              clear B
              clear Qq40
              clear Qq42
              refine ⟨_, rfl, ⟨Xg2, Xg4⟩, ?_⟩
              refine z 28 106 (.bool false) ?_
              refine z 29 5 (.bool false) ?_
              refine gz_done ?_
              exact ge_join false ⟨(eqB_false fun ee => c44 ((apDelegation HX HY).1 ee).2.2).symm, Xg2, Xg4, BB⟩ (by kernel_rfl)
          · refine zq 16 94 (.bool ((xs 26 : Int) == xsy 26)) (.bool false) (congrArg Value.bool (beq_eq_false_iff_ne.2 c39)) ?_
            refine z 17 95 (.bool false) ?_
            refine z 18 96 (.bool false) ?_
            refine zn 19 97 ?_
            refine zn 20 98 ?_
            refine zn 21 99 ?_
            refine zn 22 100 ?_
            refine zn 23 101 ?_
            refine zn 24 102 ?_
            refine zn 25 103 ?_
            refine zn 26 104 ?_
            refine zn 27 105 ?_
            refine z 28 106 (.bool false) ?_
            refine z 29 5 (.bool false) ?_
            refine gz_done ?_
            exact ge_join false ⟨(eqB_false fun ee => c39 ((apDelegation HX HY).1 ee).2.1).symm, Xg2, Xg4, BB⟩ (by kernel_rfl)
        · refine zc 8 86 36 #[.agg #[.slice aq33 nq33 cq33], .agg #[.slice aq35 nq35 cq35]] (decAny Qq33 Qq35 Lq33 Lq35 false (decide_eq_false c37)) ?_
          rintro _ v47 ⟨rfl, B⟩
          replace BB := joinB BB B
          replace Xg2 := Xg2.keep B
          replace Xg4 := Xg4.keep B
          replace Qq33 := Qq33.keep B
          replace Qq35 := Qq35.keep B
          clear B
          clear Qq33
          clear Qq35
          refine ⟨_, rfl, ⟨Xg2, Xg4⟩, ?_⟩
          refine z 9 87 (.bool false) ?_
          refine zn 10 88 ?_
          refine zn 11 89 ?_
          refine zn 12 90 ?_
          refine zn 13 91 ?_
          refine zn 14 92 ?_
          refine zn 15 93 ?_
          refine zn 16 94 ?_
          refine z 17 95 (.bool false) ?_
          refine z 18 96 (.bool false) ?_
          refine zn 19 97 ?_
          refine zn 20 98 ?_
          refine zn 21 99 ?_
          refine zn 22 100 ?_
          refine zn 23 101 ?_
          refine zn 24 102 ?_
          refine zn 25 103 ?_
          refine zn 26 104 ?_
          refine zn 27 105 ?_
          refine z 28 106 (.bool false) ?_
          refine z 29 5 (.bool false) ?_
          refine gz_done ?_
          exact ge_join false ⟨(eqB_false fun ee => c37 ((apDelegation HX HY).1 ee).1).symm, Xg2, Xg4, BB⟩ (by kernel_rfl)
      clear BB Xg2 Xg4
      rintro gd v48 ⟨hgd, Xg2, Xg4, BB⟩
      refine gc_join (fun (gh : Bool) => [(2, pg g2), (3, pg g4), (5, .bool gd), (6, .bool gh)]) (fun gh w' => gh = eqB (lbHistory xs ts) (lbHistory xsy tsy) ∧ Blk w' g2 (recL xs aa ns cc ts) 46 ∧ Blk w' g4 (recL xsy aay nsy ccy tsy) 46 ∧ Below w.heap.size w w') ?_ ?_
      · replace BB := BB.drew
        replace Xg2 := Xg2.drew
        replace Xg4 := Xg4.drew
        refine gc_draw (fun w' => Blk w' g2 (recL xs aa ns cc ts) 46 ∧ Blk w' g4 (recL xsy aay nsy ccy tsy) 46) (fun _ => false) ⟨Xg2, Xg4⟩ ?_
        refine z 0 107 (pq g2 28) ?_
        refine z 1 108 (pq g2 28) ?_
        refine zlr 2 109 [.slice (aa 28) (ns 28) (cc 28)] (fun _ h => h.1) 28 ?_
        refine z 4 111 (pq g4 28) ?_
        refine z 5 112 (pq g4 28) ?_
        refine zlr 6 113 [.slice (aay 28) (nsy 28) (ccy 28)] (fun _ h => h.2) 28 ?_
        refine zc 3 110 37 #[.agg #[.slice (aa 28) (ns 28) (cc 28)]] (norm_any (h28.keep BB) (Nat.le_trans z28 (by decide))) ?_
        rintro _ v50 ⟨aq49, nq49, cq49, rfl, Qq49, Lq49, B⟩
        replace Qq49 := Qq49.o
        replace BB := joinB BB B
        replace Xg2 := Xg2.keep B
        replace Xg4 := Xg4.keep B
        clear B
        refine ⟨_, rfl, ⟨Xg2, Xg4⟩, ?_⟩
        refine zc 7 114 37 #[.agg #[.slice (aay 28) (nsy 28) (ccy 28)]] (norm_any (hy28.keep BB) (Nat.le_trans zy28 (by decide))) ?_
        rintro _ v52 ⟨aq51, nq51, cq51, rfl, Qq51, Lq51, B⟩
        replace Qq51 := Qq51.o
        replace BB := joinB BB B
        replace Xg2 := Xg2.keep B
        replace Xg4 := Xg4.keep B
        replace Qq49 := Qq49.keep B
        clear B
        refine ⟨_, rfl, ⟨Xg2, Xg4⟩, ?_⟩
        by_cases c53 : fit (xs 28) = fit (xsy 28)
        · refine zc 8 115 36 #[.agg #[.slice aq49 nq49 cq49], .agg #[.slice aq51 nq51 cq51]] (decAny Qq49 Qq51 Lq49 Lq51 true (decide_eq_true c53)) ?_
          rintro _ v54 ⟨rfl, B⟩
          replace BB := joinB BB B
          replace Xg2 := Xg2.keep B
          replace Xg4 := Xg4.keep B
          replace Qq49 := Qq49.keep B
          replace Qq51 := Qq51.keep B
          clear B
          clear Qq49
          clear Qq51
          refine ⟨_, rfl, ⟨Xg2, Xg4⟩, ?_⟩
          refine z 9 116 (.bool true) ?_
          refine z 10 117 (pq g2 28) ?_
          refine z 11 118 (pq g2 29) ?_
          refine zl 12 119 (.int .u64 (xs 29)) (fun _ h => h.1) 29 ?_
          refine z 13 120 (pq g4 28) ?_
          refine z 14 121 (pq g4 29) ?_
          refine zl 15 122 (.int .u64 (xsy 29)) (fun _ h => h.2) 29 ?_
          by_cases c55 : xs 29 = xsy 29
          · refine zq 16 123 (.bool ((xs 29 : Int) == xsy 29)) (.bool true) (congrArg Value.bool (beq_iff_eq.2 c55)) ?_
            refine z 17 124 (.bool true) ?_
            refine z 18 6 (.bool true) ?_
            refine gz_done ?_
            exact ge_join true ⟨(eqB_true ((apHistory HX HY).2 ⟨c53, c55⟩)).symm, Xg2, Xg4, BB⟩ (by kernel_rfl)
          · refine zq 16 123 (.bool ((xs 29 : Int) == xsy 29)) (.bool false) (congrArg Value.bool (beq_eq_false_iff_ne.2 c55)) ?_
            refine z 17 124 (.bool false) ?_
            refine z 18 6 (.bool false) ?_
            refine gz_done ?_
            exact ge_join false ⟨(eqB_false fun ee => c55 ((apHistory HX HY).1 ee).2).symm, Xg2, Xg4, BB⟩ (by kernel_rfl)
        · refine zc 8 115 36 #[.agg #[.slice aq49 nq49 cq49], .agg #[.slice aq51 nq51 cq51]] (decAny Qq49 Qq51 Lq49 Lq51 false (decide_eq_false c53)) ?_
          rintro _ v56 ⟨rfl, B⟩
          replace BB := joinB BB B
          replace Xg2 := Xg2.keep B
          replace Xg4 := Xg4.keep B
          replace Qq49 := Qq49.keep B
          replace Qq51 := Qq51.keep B
          clear B
          clear Qq49
          clear Qq51
          refine ⟨_, rfl, ⟨Xg2, Xg4⟩, ?_⟩
          refine z 9 116 (.bool false) ?_
          refine zn 10 117 ?_
          refine zn 11 118 ?_
          refine zn 12 119 ?_
          refine zn 13 120 ?_
          refine zn 14 121 ?_
          refine zn 15 122 ?_
          refine zn 16 123 ?_
          refine z 17 124 (.bool false) ?_
          refine z 18 6 (.bool false) ?_
          refine gz_done ?_
          exact ge_join false ⟨(eqB_false fun ee => c53 ((apHistory HX HY).1 ee).1).symm, Xg2, Xg4, BB⟩ (by kernel_rfl)
      clear BB Xg2 Xg4
      rintro gh v57 ⟨hgh, Xg2, Xg4, BB⟩
      refine gc_join (fun (gv : Bool) => [(2, pg g2), (3, pg g4), (5, .bool gd), (6, .bool gh), (7, .bool gv)]) (fun gv w' => gv = eqB (lbVal xs ts) (lbVal xsy tsy) ∧ Blk w' g2 (recL xs aa ns cc ts) 46 ∧ Blk w' g4 (recL xsy aay nsy ccy tsy) 46 ∧ Below w.heap.size w w') ?_ ?_
      · refine gc_fr [(2, pg g2), (3, pg g4), (5, .bool gd), (6, .bool gh)] (by kernel_rfl) ?_
        refine gc_ops (ops' := ropsOf Tryz.f5 9) ?_
        exact reg9 HX HY h17 z17 h22 z22 h23 z23 h24 z24 hy17 zy17 hy22 zy22 hy23 zy23 hy24 zy24 Xg2 Xg4 BB
      clear BB Xg2 Xg4
      rintro gv v92 ⟨hgv, Xg2, Xg4, BB⟩
      refine gc_seq ?_
      replace BB := BB.drew
      replace Xg2 := Xg2.drew
      replace Xg4 := Xg4.drew
      refine gc_draw (fun w' => Blk w' g2 (recL xs aa ns cc ts) 46 ∧ Blk w' g4 (recL xsy aay nsy ccy tsy) 46) (fun _ => false) ⟨Xg2, Xg4⟩ ?_
      refine z 0 221 (pq g2 25) ?_
      refine zlr 1 222 [.slice (aa 25) (ns 25) (cc 25), .int .u64 (xs 26), .slice (aa 27) (ns 27) (cc 27)] (fun _ h => h.1) 25 ?_
      refine z 3 224 (pq g4 25) ?_
      refine zlr 4 225 [.slice (aay 25) (nsy 25) (ccy 25), .int .u64 (xsy 26), .slice (aay 27) (nsy 27) (ccy 27)] (fun _ h => h.2) 25 ?_
      refine z 7 228 (.bool gd) ?_
      refine zc 2 223 13 #[.agg #[.slice (aa 25) (ns 25) (cc 25), .int .u64 (xs 26), .slice (aa 27) (ns 27) (cc 27)]] (gPutDelegation (xs := xs) (ts := ts) BB h25 z25 h27 z27) ?_
      rintro _ v94 ⟨bq93, rfl, Xq93, -, B⟩
      replace BB := joinB BB B
      replace Xg2 := Xg2.keep B
      replace Xg4 := Xg4.keep B
      clear B
      refine ⟨_, rfl, ⟨Xg2, Xg4⟩, ?_⟩
      refine zc 5 226 13 #[.agg #[.slice (aay 25) (nsy 25) (ccy 25), .int .u64 (xsy 26), .slice (aay 27) (nsy 27) (ccy 27)]] (gPutDelegation (xs := xsy) (ts := tsy) BB hy25 zy25 hy27 zy27) ?_
      rintro _ v96 ⟨bq95, rfl, Xq95, -, B⟩
      replace BB := joinB BB B
      replace Xg2 := Xg2.keep B
      replace Xg4 := Xg4.keep B
      replace Xq93 := Xq93.keep B
      clear B
      refine ⟨_, rfl, ⟨Xg2, Xg4⟩, ?_⟩
      refine zc 6 227 35 #[sg (lbDelegation xs ts).length bq93, sg (lbDelegation xsy tsy).length bq95] (bSame (Box.bya Xq93 (lay_fine _ _ (by decide)).1 (Nat.le_trans (lay_fine _ _ (by decide)).2 (by decide))) (Box.bya Xq95 (lay_fine _ _ (by decide)).1 (Nat.le_trans (lay_fine _ _ (by decide)).2 (by decide))) (Nat.le_trans (lay_fine _ _ (by decide)).2 (by decide)) (Nat.le_trans (lay_fine _ _ (by decide)).2 (by decide))) ?_
      rintro _ v97 ⟨rfl, B⟩
      replace BB := joinB BB B
      replace Xg2 := Xg2.keep B
      replace Xg4 := Xg4.keep B
      replace Xq93 := Xq93.keep B
      replace Xq95 := Xq95.keep B
      clear B
      clear Xq93
      clear Xq95
      refine ⟨_, rfl, ⟨Xg2, Xg4⟩, ?_⟩
      refine zq 8 229 (.bool ((eqB (lbDelegation xs ts) (lbDelegation xsy tsy)) == gd)) (.bool true) (congrArg Value.bool (beq_iff_eq.2 hgd.symm)) ?_
      refine z 9 230 (.bool true) ?_
      refine z 10 231 (pq g2 28) ?_
      refine zlr 11 232 [.slice (aa 28) (ns 28) (cc 28), .int .u64 (xs 29)] (fun _ h => h.1) 28 ?_
      refine z 13 234 (pq g4 28) ?_
      refine zlr 14 235 [.slice (aay 28) (nsy 28) (ccy 28), .int .u64 (xsy 29)] (fun _ h => h.2) 28 ?_
      refine z 17 238 (.bool gh) ?_
      refine zc 12 233 14 #[.agg #[.slice (aa 28) (ns 28) (cc 28), .int .u64 (xs 29)]] (gPutHistory (xs := xs) (ts := ts) BB h28 z28) ?_
      rintro _ v99 ⟨bq98, rfl, Xq98, -, B⟩
      replace BB := joinB BB B
      replace Xg2 := Xg2.keep B
      replace Xg4 := Xg4.keep B
      clear B
      refine ⟨_, rfl, ⟨Xg2, Xg4⟩, ?_⟩
      refine zc 15 236 14 #[.agg #[.slice (aay 28) (nsy 28) (ccy 28), .int .u64 (xsy 29)]] (gPutHistory (xs := xsy) (ts := tsy) BB hy28 zy28) ?_
      rintro _ v101 ⟨bq100, rfl, Xq100, -, B⟩
      replace BB := joinB BB B
      replace Xg2 := Xg2.keep B
      replace Xg4 := Xg4.keep B
      replace Xq98 := Xq98.keep B
      clear B
      refine ⟨_, rfl, ⟨Xg2, Xg4⟩, ?_⟩
      refine zc 16 237 35 #[sg (lbHistory xs ts).length bq98, sg (lbHistory xsy tsy).length bq100] (bSame (Box.bya Xq98 (lay_fine _ _ (by decide)).1 (Nat.le_trans (lay_fine _ _ (by decide)).2 (by decide))) (Box.bya Xq100 (lay_fine _ _ (by decide)).1 (Nat.le_trans (lay_fine _ _ (by decide)).2 (by decide))) (Nat.le_trans (lay_fine _ _ (by decide)).2 (by decide)) (Nat.le_trans (lay_fine _ _ (by decide)).2 (by decide))) ?_
      rintro _ v102 ⟨rfl, B⟩
      replace BB := joinB BB B
      replace Xg2 := Xg2.keep B
      replace Xg4 := Xg4.keep B
      replace Xq98 := Xq98.keep B
      replace Xq100 := Xq100.keep B
      clear B
      clear Xq98
      clear Xq100
      refine ⟨_, rfl, ⟨Xg2, Xg4⟩, ?_⟩
      refine zq 18 239 (.bool ((eqB (lbHistory xs ts) (lbHistory xsy tsy)) == gh)) (.bool true) (congrArg Value.bool (beq_iff_eq.2 hgh.symm)) ?_
      refine z 19 240 (.bool true) ?_
      refine z 20 241 (.bool true) ?_
      refine z 21 242 (pq g2 15) ?_
      refine zlr 22 243 [.int .u64 (xs 15), .int .u64 (xs 16), .slice (aa 17) (ns 17) (cc 17), .bool (ts 18), .int .u64 (xs 19), .bool (ts 20), .int .u64 (xs 21), .slice (aa 22) (ns 22) (cc 22), .slice (aa 23) (ns 23) (cc 23), .slice (aa 24) (ns 24) (cc 24)] (fun _ h => h.1) 15 ?_
      refine z 24 245 (pq g4 15) ?_
      refine zlr 25 246 [.int .u64 (xsy 15), .int .u64 (xsy 16), .slice (aay 17) (nsy 17) (ccy 17), .bool (tsy 18), .int .u64 (xsy 19), .bool (tsy 20), .int .u64 (xsy 21), .slice (aay 22) (nsy 22) (ccy 22), .slice (aay 23) (nsy 23) (ccy 23), .slice (aay 24) (nsy 24) (ccy 24)] (fun _ h => h.2) 15 ?_
      refine z 28 249 (.bool gv) ?_
      refine zc 23 244 12 #[.agg #[.int .u64 (xs 15), .int .u64 (xs 16), .slice (aa 17) (ns 17) (cc 17), .bool (ts 18), .int .u64 (xs 19), .bool (ts 20), .int .u64 (xs 21), .slice (aa 22) (ns 22) (cc 22), .slice (aa 23) (ns 23) (cc 23), .slice (aa 24) (ns 24) (cc 24)]] (gPutVal (xs := xs) (ts := ts) BB h17 z17 h22 z22 h23 z23 h24 z24) ?_
      rintro _ v104 ⟨bq103, rfl, Xq103, -, B⟩
      replace BB := joinB BB B
      replace Xg2 := Xg2.keep B
      replace Xg4 := Xg4.keep B
      clear B
      refine ⟨_, rfl, ⟨Xg2, Xg4⟩, ?_⟩
      refine zc 26 247 12 #[.agg #[.int .u64 (xsy 15), .int .u64 (xsy 16), .slice (aay 17) (nsy 17) (ccy 17), .bool (tsy 18), .int .u64 (xsy 19), .bool (tsy 20), .int .u64 (xsy 21), .slice (aay 22) (nsy 22) (ccy 22), .slice (aay 23) (nsy 23) (ccy 23), .slice (aay 24) (nsy 24) (ccy 24)]] (gPutVal (xs := xsy) (ts := tsy) BB hy17 zy17 hy22 zy22 hy23 zy23 hy24 zy24) ?_
      rintro _ v106 ⟨bq105, rfl, Xq105, -, B⟩
      replace BB := joinB BB B
      replace Xg2 := Xg2.keep B
      replace Xg4 := Xg4.keep B
      replace Xq103 := Xq103.keep B
      clear B
      refine ⟨_, rfl, ⟨Xg2, Xg4⟩, ?_⟩
      refine zc 27 248 35 #[sg (lbVal xs ts).length bq103, sg (lbVal xsy tsy).length bq105] (bSame (Box.bya Xq103 (lay_fine _ _ (by decide)).1 (Nat.le_trans (lay_fine _ _ (by decide)).2 (by decide))) (Box.bya Xq105 (lay_fine _ _ (by decide)).1 (Nat.le_trans (lay_fine _ _ (by decide)).2 (by decide))) (Nat.le_trans (lay_fine _ _ (by decide)).2 (by decide)) (Nat.le_trans (lay_fine _ _ (by decide)).2 (by decide))) ?_
      rintro _ v107 ⟨rfl, B⟩
      replace BB := joinB BB B
      replace Xg2 := Xg2.keep B
      replace Xg4 := Xg4.keep B
      replace Xq103 := Xq103.keep B
      replace Xq105 := Xq105.keep B
      clear B
      clear Xq103
      clear Xq105
      refine ⟨_, rfl, ⟨Xg2, Xg4⟩, ?_⟩
      refine zq 29 250 (.bool ((eqB (lbVal xs ts) (lbVal xsy tsy)) == gv)) (.bool true) (congrArg Value.bool (beq_iff_eq.2 hgv.symm)) ?_
      refine z 30 251 (.bool true) ?_
      refine z 31 4 (.bool true) ?_
      refine gz_done ?_
      refine ge_then ?_
      refine gc_fr [(4, .bool true)] (by kernel_rfl) ?_
      refine gc_ret ?_
      refine ge_ret (.bool true) (rs1 4 (by kernel_rfl) (by kernel_rfl)) ?_
      exact ⟨rfl, BB⟩
end Rc
end Go.Proofs.YtenlhceceplldaaGreat
