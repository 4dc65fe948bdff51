/- Several texts, joined: Rat0, Rat1, Rat2, RatM, Rat3, Rat7, RatN. -/
import Derived.Test.YtlbndpkdkdgggaaGreatDoorJrb
import Derived.Test.YtlbndpkdkdgggaaGreatDoorJrc
import Derived.Test.YtlbndpkdkdgggaaGreatDoorJnb
set_option maxRecDepth 100000
set_option maxHeartbeats 8000000
namespace Go.Proofs.YtlbndpkdkdgggaaGreatDoor
section
open Go.RowKit Lim
theorem info_rat:(Tryz.prog.info? 40).map (·.size)=some 2:=by kernel_rfl
theorem under_rat : ∃ f, Tryz.prog.underlying 40 = some (.struct f) := by
  cases h : Tryz.prog.underlying 40 with
  | none => exact absurd h (by have : (Tryz.prog.underlying 40).isSome = true := by kernel_rfl
                               intro e; rw [e] at this; simp at this)
  | some d =>
    have : (match Tryz.prog.underlying 40 with | some (.struct _) => true | _ => false) = true := by kernel_rfl
    rw [h] at this
    cases d <;> first | exact ⟨_, rfl⟩ | simp at this
theorem load_rat {w:World} {g:Nat} {u v:Value} {t:TypeId} (s:Box w g [u,v] t):(loadVar 40 ⟨g,0,none⟩).run Tryz.prog w=.ok (.agg #[u,v]) w:=by
 obtain ⟨f,hu⟩:=under_rat
 exact run_loadVar_row w g t 40 #[u,v] (0,0) _ s.blk hu rfl info_rat
theorem Box.cells2 {w:World} {g:Nat} {u v:Value} {t:TypeId} (h:Box w g [u,v] t):w.cell? ⟨g,0,none⟩=some u/\w.cell? ⟨g,1,none⟩=some v/\w.frozen? ⟨g,0,none⟩=false/\w.frozen? ⟨g,1,none⟩=false:=by
 have:=h.blk
 simp [World.cell?,World.frozen?,this]
theorem ret_rat {fn:Func} {p:Tmp} (h:fn.results=#[.cell p 40]) {tmps:Array Value} {w:World} {g:Nat} {u v:Value} {t:TypeId} (hp:tmps.getD p undef=.pointer (some ⟨g,0,none⟩)) (s:Box w g [u,v] t) :
  (results fn tmps).run Tryz.prog w=.ok (.agg #[u,v]) w:=by
 have hp':tmps[p]?.getD undef=.pointer (some ⟨g,0,none⟩):=by simpa using hp
 simp [results,h,hp',asAddr,load_rat s]
theorem ret_rat_tmp {fn:Func} {p q:Tmp} (h:fn.results=#[.cell p 40,.tmp q]) {tmps:Array Value} {w:World} {g:Nat} {u v x:Value} {t:TypeId} (hp:tmps.getD p undef=.pointer (some ⟨g,0,none⟩)) (hu:tmps.getD q undef=x) (s:Box w g [u,v] t) :
  (results fn tmps).run Tryz.prog w=.ok (.tuple #[.agg #[u,v],x]) w:=by
 have hp':tmps[p]?.getD undef=.pointer (some ⟨g,0,none⟩):=by simpa using hp
 have hu':tmps[q]?.getD undef=x:=by simpa using hu
 simp [results,h,hp',hu',asAddr,load_rat s]
theorem field_dec (v:Value) (w:World):(Instr.field 35 (.agg #[v]) 0).run Tryz.prog w=.ok v w:=by kernel_rfl
theorem qQuot {w:World} {ao ao':Option Addr} {n c n' c':Nat} {x y:Int} (h:NatA w ao n c x) (h':NatA w ao' n' c' y) (hn:n<=1099511627776) (hn':n'<=1099511627776) (hne:y≠0) :
  Calls Tryz.prog 110 #[.slice ao n c,.slice ao' n' c'] w fun e w'=>∃ a k d,e=.returned (.slice a k d)/\NatO w' a k d (x / y)/\k<=n/\Below w.heap.size w w':=by
 go_enter Tryz.func110,Tryz.ntmps110
 go_wp2_with fail
 refine (nDiv h h' hn hn' hne).mono ?_
 rintro e w1 ⟨a,k,d,a',k',d',rfl,O1,O2,hk,hk',hB⟩
 go_wp2
 go_ret
 exact ⟨a,k,d,rfl,O1,hk,hB⟩
theorem qUnit {w:World}:Calls Tryz.prog 79 #[] w fun e w'=>∃ a k d,e=.returned (.slice a k d)/\NatO w' a k d U36/\k<=39/\Below w.heap.size w w':=by
 go_enter Tryz.func79,Tryz.ntmps79
 go_wp2_with fail
 refine (dOf (x:=1) (by decide) (by decide)).mono ?_
 rintro e w1 ⟨a,k,d,rfl,O1,hk,hB⟩
 replace O1:=O1.eqv (Int.one_mul _)
 have hfld:=fun w=>field_dec (.slice a k d) w
 go_wp2
 go_ret
 exact ⟨a,k,d,rfl,O1,hk,hB⟩
theorem qOfNat {w:World} {ao:Option Addr} {n c:Nat} {x:Int} (h:NatA w ao n c x) (hn:n<=1099511627776) :
  Calls Tryz.prog 37 #[.slice ao n c] w fun e w'=>∃ a k d a' k' d',e=.returned (.agg #[.slice a k d,.slice a' k' d'])/\NatO w' a k d x/\NatO w' a' k' d' 1/\k<=n/\k'<=1/\Below w.heap.size w w':=by
 have B0:=below_alloc w (.cells #[.slice none 0 0,.slice none 0 0] 40)
 have S0:=box_new w [.slice none 0 0,.slice none 0 0] 40
 have h:=h.keep B0
 go_enter Tryz.func37,Tryz.ntmps37
 go_wp2_with fail
 refine (nNorm h hn).mono ?_
 rintro e w1 ⟨a,k,d,rfl,O1,hk,hB⟩
 replace S0:=S0.keep hB
 replace B0:=joinB B0 hB
 clear hB
 go_wp2_with fail
 refine (nOf (x:=1) (by decide) (by decide)).mono ?_
 rintro e w2 ⟨a',k',d',rfl,O2,hk',hB⟩
 replace O1:=O1.keep hB
 replace S0:=S0.keep hB
 replace B0:=joinB B0 hB
 obtain ⟨c1,c2,f1,f2⟩:=S0.cells2
 have S2:=S0.put2 (.slice a k d) (.slice a' k' d')
 have P1:=O1.put2 S0 (.slice a k d) (.slice a' k' d')
 have P2:=O2.put2 S0 (.slice a k d) (.slice a' k' d')
 have HB:=below_put2 B0 (Nat.le_refl _) (.slice a k d) (.slice a' k' d')
 clear hB h O1 O2 S0 B0
 go_wp2
 refine bodyPost_ret (ret_rat rfl rfl S2) rfl ?_
 exact ⟨a,k,d,a',k',d',rfl,P1,P2,hk,hk',HB⟩
theorem qReduced {w:World} {ao ao':Option Addr} {n c n' c':Nat} {x y:Int} (h:NatA w ao n c x) (h':NatA w ao' n' c' y) (hn:n<=274877906944) (hn':n'<=274877906944) (hne:y≠0) :
  Calls Tryz.prog 78 #[.slice ao n c,.slice ao' n' c'] w fun e w'=>∃ a k d a' k' d',e=.returned (.agg #[.slice a k d,.slice a' k' d'])/\NatO w' a k d (x / (Int.gcd x y:Nat))/\NatO w' a' k' d' (y / (Int.gcd x y:Nat))/\k<=n/\k'<=n'/\Below w.heap.size w w':=by
 have hg:((Int.gcd x y:Nat):Int)≠0:=fun e=>hne (Int.gcd_eq_zero_iff (a:=x) (b:=y) |>.1 (by omega)).2
 have HG:=(show Hid _ from hg)
 clear hg
 have B0:=below_alloc w (.cells #[.slice none 0 0,.slice none 0 0] 40)
 have S0:=box_new w [.slice none 0 0,.slice none 0 0] 40
 replace h:=h.keep B0
 replace h':=h'.keep B0
 go_enter Tryz.func78,Tryz.ntmps78
 go_wp2_with fail
 refine (nGcd h h' hn hn').mono ?_
 rintro e w1 ⟨ag,kg,dg,rfl,OG,hkg,hB⟩
 replace h:=h.keep hB
 replace h':=h'.keep hB
 replace S0:=S0.keep hB
 replace B0:=joinB B0 hB
 clear hB
 go_wp2_with fail
 refine (qQuot h OG.a (by omega) (by omega) HG.out).mono ?_
 rintro e w2 ⟨a,k,d,rfl,O1,hk,hB⟩
 replace h':=h'.keep hB
 replace OG:=OG.keep hB
 replace S0:=S0.keep hB
 replace B0:=joinB B0 hB
 clear hB
 go_wp2_with fail
 refine (qQuot h' OG.a (by omega) (by omega) HG.out).mono ?_
 rintro e w3 ⟨a',k',d',rfl,O2,hk',hB⟩
 replace O1:=O1.keep hB
 replace S0:=S0.keep hB
 replace B0:=joinB B0 hB
 obtain ⟨c1,c2,f1,f2⟩:=S0.cells2
 have S2:=S0.put2 (.slice a k d) (.slice a' k' d')
 have P1:=O1.put2 S0 (.slice a k d) (.slice a' k' d')
 have P2:=O2.put2 S0 (.slice a k d) (.slice a' k' d')
 have HB:=below_put2 B0 (Nat.le_refl _) (.slice a k d) (.slice a' k' d')
 clear hB h h' O1 O2 OG S0 B0
 go_wp2
 refine bodyPost_ret (ret_rat rfl rfl S2) rfl ?_
 exact ⟨a,k,d,a',k',d',rfl,P1,P2,hk,hk',HB⟩
def cn (x y:Int):Int:=if y=0 then 0 else x
def cd (y:Int):Int:=if y=0 then 1 else y
theorem cd_ne (y:Int):cd y≠0:=by unfold cd; split<;>omega
theorem qCounted {w:World} {ao ao':Option Addr} {n c n' c':Nat} {x y:Int} (h:NatA w ao n c x) (h':NatA w ao' n' c' y) (hn:n<=274877906944) (hn':n'<=274877906944) :
  Calls Tryz.prog 82 #[.agg #[.slice ao n c,.slice ao' n' c']] w fun e w'=>∃ a k d a' k' d',e=.returned (.agg #[.slice a k d,.slice a' k' d'])/\NatA w' a k d (cn x y)/\NatA w' a' k' d' (cd y)/\k<=n/\k'<=n' + 1/\Below w.heap.size w w':=by
 unfold cn cd
 have hbz:=bitLen_zero y h'.nonneg
 have B0:=below2 w (.cells #[.slice ao n c,.slice ao' n' c'] 40) (.cells #[.slice none 0 0,.slice none 0 0] 40)
 have BA:=below_alloc w (.cells #[.slice ao n c,.slice ao' n' c'] 40)
 have SP:=(box_new w [.slice ao n c,.slice ao' n' c'] 40).keep (below_alloc _ (.cells #[.slice none 0 0,.slice none 0 0] 40))
 have S0:=box_new (w.alloc (.cells #[.slice ao n c,.slice ao' n' c'] 40)) [.slice none 0 0,.slice none 0 0] 40
 rw [show (w.alloc (.cells #[.slice ao n c,.slice ao' n' c'] 40)).heap.size=w.heap.size + 1 by simp] at S0
 replace h:=h.keep B0
 replace h':=h'.keep B0
 obtain ⟨p1,p2,p3,p4⟩:=SP.cells2
 have t:=nBits h' (by omega)
 by_cases hy:y=0
 ·rw [hbz.2 hy] at t
  rw [if_pos hy,if_pos hy]
  clear hbz hy BA
  go_enter Tryz.func82,Tryz.ntmps82
  go_wp2_with fail
  refine t.mono ?_
  rintro e w1 ⟨rfl,hB⟩
  replace S0:=S0.keep hB
  replace B0:=joinB B0 hB
  clear hB t
  go_wp2_with fail
  refine (qOfNat (natO_nil w1).a (by omega)).mono ?_
  rintro e w2 ⟨a,k,d,a',k',d',rfl,O1,O2,hk,hk',hB⟩
  replace S0:=S0.keep hB
  replace B0:=joinB B0 hB
  obtain ⟨c1,c2,f1,f2⟩:=S0.cells2
  have S2:=S0.put2 (.slice a k d) (.slice a' k' d')
  have P1:=O1.put2 S0 (.slice a k d) (.slice a' k' d')
  have P2:=O2.put2 S0 (.slice a k d) (.slice a' k' d')
  have HB:=below_put2 B0 (g:=w.heap.size + 1) (by omega) (.slice a k d) (.slice a' k' d')
  clear hB h h' O1 O2 S0 B0
  go_wp2
  refine bodyPost_ret (ret_rat rfl rfl S2) rfl ?_
  exact ⟨a,k,d,a',k',d',rfl,P1.a,P2.a,by omega,by omega,HB⟩
 ·have hm:bitLen y.toNat≠0:=fun e=>hy (hbz.1 e)
  rw [if_neg hy,if_neg hy]
  generalize bitLen y.toNat=m at *
  obtain ⟨j,rfl⟩:∃ j,m=j + 1:=⟨m - 1,by omega⟩
  clear hm hy hbz BA
  go_enter Tryz.func82,Tryz.ntmps82
  go_wp2_with fail
  refine t.mono ?_
  rintro e w1 ⟨rfl,hB⟩
  replace S0:=S0.keep hB
  replace SP:=SP.keep hB
  replace h:=h.keep hB
  replace h':=h'.keep hB
  replace B0:=joinB B0 hB
  obtain ⟨p1,p2,p3,p4⟩:=SP.cells2
  obtain ⟨c1,c2,f1,f2⟩:=S0.cells2
  have S2:=S0.put2 (.slice ao n c) (.slice ao' n' c')
  have P1:=h.put2 S0 (.slice ao n c) (.slice ao' n' c')
  have P2:=h'.put2 S0 (.slice ao n c) (.slice ao' n' c')
  have HB:=below_put2 B0 (g:=w.heap.size + 1) (by omega) (.slice ao n c) (.slice ao' n' c')
  clear hB h h' S0 B0 SP t
  go_wp2
  refine bodyPost_ret (ret_rat rfl rfl S2) rfl ?_
  exact ⟨ao,n,c,ao',n',c',rfl,P1,P2,by omega,by omega,HB⟩
end
section
open Go.RowKit Lim
theorem load_at {w:World} {g o:Nat} {ao:Option Addr} {n c:Nat} (hc:w.cell? ⟨g,o,none⟩=some (.slice ao n c)):(loadVar 33 ⟨g,o,none⟩).run Tryz.prog w=.ok (.slice ao n c) w:=by
 go_simp
theorem qCmp {w:World} {a0 b0:Option Addr} {n0 c0 m0 d0:Nat} {x0 y0:Int} {a1 b1:Option Addr} {n1 c1 m1 d1:Nat} {x1 y1:Int} (h0:NatA w a0 n0 c0 x0) (e0:NatA w b0 m0 d0 y0) (hn0:n0<=34359738368) (hm0:m0<=34359738368) (h1:NatA w a1 n1 c1 x1) (e1:NatA w b1 m1 d1 y1) (hn1:n1<=34359738368) (hm1:m1<=34359738368) :
  Calls Tryz.prog 47 #[.agg #[.slice a0 n0 c0,.slice b0 m0 d0],.agg #[.slice a1 n1 c1,.slice b1 m1 d1]] w fun e w'=>e=.returned (.int .i64 (sgn ((cn x0 y0) * (cd y1)) ((cn x1 y1) * (cd y0))))/\Below w.heap.size w w':=by
 have HB:=below2 w (.cells #[.slice a0 n0 c0,.slice b0 m0 d0] 40) (.cells #[.slice a1 n1 c1,.slice b1 m1 d1] 40)
 have P0:=(box_new w [.slice a0 n0 c0,.slice b0 m0 d0] 40).keep (below_alloc _ (.cells #[.slice a1 n1 c1,.slice b1 m1 d1] 40))
 have P1:=box_new (w.alloc (.cells #[.slice a0 n0 c0,.slice b0 m0 d0] 40)) [.slice a1 n1 c1,.slice b1 m1 d1] 40
 rw [show (w.alloc (.cells #[.slice a0 n0 c0,.slice b0 m0 d0] 40)).heap.size=w.heap.size + 1 by simp] at P1
 replace h0:=h0.keep HB
 replace e0:=e0.keep HB
 replace h1:=h1.keep HB
 replace e1:=e1.keep HB
 go_enter Tryz.func47,Tryz.ntmps47
 go_wp2_with fail
 generalize (w.alloc (.cells #[.slice a0 n0 c0,.slice b0 m0 d0] 40)).alloc (.cells #[.slice a1 n1 c1,.slice b1 m1 d1] 40)=u0 at *
 refine rg_mid (X:=Nat × Nat × Option Addr × Nat × Nat × Option Addr × Nat × Nat × Option Addr × Nat × Nat × Option Addr × Nat × Nat) (fun ⟨g5,g6,A0,K0,D0,B0,L0,M0,A1,K1,D1,B1,L1,M1⟩=>[(some 7,.agg #[.slice a0 n0 c0,.slice b0 m0 d0]),(some 8,.agg #[.slice A0 K0 D0,.slice B0 L0 M0]),(some 9,.agg #[.slice a1 n1 c1,.slice b1 m1 d1]),(some 10,.agg #[.slice A1 K1 D1,.slice B1 L1 M1]),(some 5,.pointer (some ⟨g5,0,none⟩)),(some 6,.pointer (some ⟨g6,0,none⟩))]) (fun ⟨g5,g6,A0,K0,D0,B0,L0,M0,A1,K1,D1,B1,L1,M1⟩ w'=>Box w' g5 [.slice A0 K0 D0,.slice B0 L0 M0] 40/\Box w' g6 [.slice A1 K1 D1,.slice B1 L1 M1] 40/\NatA w' A0 K0 D0 (cn x0 y0)/\NatA w' B0 L0 M0 (cd y0)/\NatA w' A1 K1 D1 (cn x1 y1)/\NatA w' B1 L1 M1 (cd y1)/\K0<=n0/\L0<=m0 + 1/\K1<=n1/\L1<=m1 + 1/\Below w.heap.size w w') (fun w'=>Below u0.drew.heap.size u0.drew w') (by kernel_rfl) (Below.refl _ _) ?_ ?_
 ·replace HB:=HB.drew
  have UP0:=P0.drew
  have UP1:=P1.drew
  replace h0:=h0.drew
  replace e0:=e0.drew
  replace h1:=h1.drew
  replace e1:=e1.drew
  have hBu:=HB.size
  have hS:=Below.refl u0.drew.heap.size u0.drew
  clear P0 P1
  refine rg_load 0 (some 7) (.agg #[.slice a0 n0 c0,.slice b0 m0 d0]) 40 2 (w.heap.size) 0 (by kernel_rfl) (by kernel_rfl) (by kernel_rfl) (fun _ hb=>load_rat (UP0.keep hb)) i3 hS ?_
  refine rg_load 2 (some 9) (.agg #[.slice a1 n1 c1,.slice b1 m1 d1]) 40 3 (w.heap.size + 1) 0 (by kernel_rfl) (by kernel_rfl) (by kernel_rfl) (fun _ hb=>load_rat (UP1.keep hb)) i3 hS ?_
  refine rg_ready [1,4,5] (by kernel_rfl) (by simp) ?_
  refine ar_call 1 (some 8) 82 #[.agg #[.slice a0 n0 c0,.slice b0 m0 d0]] (by kernel_rfl) (by kernel_rfl) (qCounted h0 e0 (by omega) (by omega)) ?_ ?_
  ·rintro e v1 ⟨A0,K0,D0,B0,L0,M0,rfl,C0,E0,hK0,hL0,hB⟩
   refine ⟨_,rfl,joinB hS hB,?_⟩
   replace hS:=joinB hS hB
   replace HB:=joinB HB hB
   replace h0:=h0.keep hB
   replace e0:=e0.keep hB
   replace h1:=h1.keep hB
   replace e1:=e1.keep hB
   clear hB
   refine rg_ready [3,4,5] (by kernel_rfl) (by simp) ?_
   refine ar_call 3 (some 10) 82 #[.agg #[.slice a1 n1 c1,.slice b1 m1 d1]] (by kernel_rfl) (by kernel_rfl) (qCounted h1 e1 (by omega) (by omega)) ?_ ?_
   ·rintro e v2 ⟨A1,K1,D1,B1,L1,M1,rfl,C1,E1,hK1,hL1,hB⟩
    refine ⟨_,rfl,joinB hS hB,?_⟩
    replace hS:=joinB hS hB
    replace HB:=joinB HB hB
    replace h0:=h0.keep hB
    replace e0:=e0.keep hB
    replace h1:=h1.keep hB
    replace e1:=e1.keep hB
    replace C0:=C0.keep hB
    replace E0:=E0.keep hB
    clear hB
    refine rg_ready [4,5] (by kernel_rfl) (by simp) ?_
    refine ar_alloc 4 (some 5) 40 [.slice none 0 0,.slice none 0 0] (by kernel_rfl) (by kernel_rfl) ?_ ?_
    ·intro v3 X5 hB
     refine ⟨joinB hS hB,?_⟩
     have hX5:=hS.size
     replace hS:=joinB hS hB
     replace HB:=joinB HB hB
     replace h0:=h0.keep hB
     replace e0:=e0.keep hB
     replace h1:=h1.keep hB
     replace e1:=e1.keep hB
     replace C0:=C0.keep hB
     replace E0:=E0.keep hB
     replace C1:=C1.keep hB
     replace E1:=E1.keep hB
     clear hB
     refine rg_ready [5] (by kernel_rfl) (by simp) ?_
     refine ar_alloc 5 (some 6) 40 [.slice none 0 0,.slice none 0 0] (by kernel_rfl) (by kernel_rfl) ?_ ?_
     ·intro v4 X6 hB
      refine ⟨joinB hS hB,?_⟩
      have hX6:=hS.size
      replace hS:=joinB hS hB
      replace HB:=joinB HB hB
      have nX5X6:=Nat.ne_of_lt X5.lt
      replace h0:=h0.keep hB
      replace e0:=e0.keep hB
      replace h1:=h1.keep hB
      replace e1:=e1.keep hB
      replace C0:=C0.keep hB
      replace E0:=E0.keep hB
      replace C1:=C1.keep hB
      replace E1:=E1.keep hB
      replace X5:=X5.keep hB
      clear hB
      refine rg_ready [6] (by kernel_rfl) (by simp) ?_
      refine ar_store 6 40 40 5 8 (v2.heap.size) [.slice none 0 0,.slice none 0 0] [.slice A0 K0 D0,.slice B0 L0 M0] (by kernel_rfl) (by kernel_rfl) (by kernel_rfl) (by kernel_rfl) X5 (by kernel_rfl) rfl (by kernel_rfl) ?_ ?_
      ·intro v5 Y hw hB
       refine ⟨hS.trans (hB.mono hX5),?_⟩
       replace HB:=HB.trans (hB.mono (Nat.le_trans hBu hX5))
       replace hS:=hS.trans (hB.mono hX5)
       replace h0:=h0.blk X5 (no_ints2 _ _ _ _ _ _) hw
       replace e0:=e0.blk X5 (no_ints2 _ _ _ _ _ _) hw
       replace h1:=h1.blk X5 (no_ints2 _ _ _ _ _ _) hw
       replace e1:=e1.blk X5 (no_ints2 _ _ _ _ _ _) hw
       replace C0:=C0.blk X5 (no_ints2 _ _ _ _ _ _) hw
       replace E0:=E0.blk X5 (no_ints2 _ _ _ _ _ _) hw
       replace C1:=C1.blk X5 (no_ints2 _ _ _ _ _ _) hw
       replace E1:=E1.blk X5 (no_ints2 _ _ _ _ _ _) hw
       replace X6:=X6.off (Ne.symm nX5X6) hw
       replace X5:=Y
       clear hB hw
       refine rg_ready [7] (by kernel_rfl) (by simp) ?_
       refine ar_store 7 40 40 6 10 (v3.heap.size) [.slice none 0 0,.slice none 0 0] [.slice A1 K1 D1,.slice B1 L1 M1] (by kernel_rfl) (by kernel_rfl) (by kernel_rfl) (by kernel_rfl) X6 (by kernel_rfl) rfl (by kernel_rfl) ?_ ?_
       ·intro v6 Y hw hB
        refine ⟨hS.trans (hB.mono hX6),?_⟩
        replace HB:=HB.trans (hB.mono (Nat.le_trans hBu hX6))
        replace hS:=hS.trans (hB.mono hX6)
        replace h0:=h0.blk X6 (no_ints2 _ _ _ _ _ _) hw
        replace e0:=e0.blk X6 (no_ints2 _ _ _ _ _ _) hw
        replace h1:=h1.blk X6 (no_ints2 _ _ _ _ _ _) hw
        replace e1:=e1.blk X6 (no_ints2 _ _ _ _ _ _) hw
        replace C0:=C0.blk X6 (no_ints2 _ _ _ _ _ _) hw
        replace E0:=E0.blk X6 (no_ints2 _ _ _ _ _ _) hw
        replace C1:=C1.blk X6 (no_ints2 _ _ _ _ _ _) hw
        replace E1:=E1.blk X6 (no_ints2 _ _ _ _ _ _) hw
        replace X5:=X5.off nX5X6 hw
        replace X6:=Y
        clear hB hw
        refine rg_done (by kernel_rfl) ?_
        exact ⟨(v2.heap.size,v3.heap.size,A0,K0,D0,B0,L0,M0,A1,K1,D1,B1,L1,M1),by kernel_rfl,X5,X6,C0,E0,C1,E1,hK0,hL0,hK1,hL1,HB⟩
       exact ar_nil
      exact ar_nil
     exact ar_nil
    refine ar_alloc 5 (some 6) 40 [.slice none 0 0,.slice none 0 0] (by kernel_rfl) (by kernel_rfl) ?_ ?_
    ·intro v7 X6 hB
     refine ⟨joinB hS hB,?_⟩
     have hX6:=hS.size
     replace hS:=joinB hS hB
     replace HB:=joinB HB hB
     replace h0:=h0.keep hB
     replace e0:=e0.keep hB
     replace h1:=h1.keep hB
     replace e1:=e1.keep hB
     replace C0:=C0.keep hB
     replace E0:=E0.keep hB
     replace C1:=C1.keep hB
     replace E1:=E1.keep hB
     clear hB
     refine rg_ready [4] (by kernel_rfl) (by simp) ?_
     refine ar_alloc 4 (some 5) 40 [.slice none 0 0,.slice none 0 0] (by kernel_rfl) (by kernel_rfl) ?_ ?_
     ·intro v8 X5 hB
      refine ⟨joinB hS hB,?_⟩
      have hX5:=hS.size
      replace hS:=joinB hS hB
      replace HB:=joinB HB hB
      have nX6X5:=Nat.ne_of_lt X6.lt
      replace h0:=h0.keep hB
      replace e0:=e0.keep hB
      replace h1:=h1.keep hB
      replace e1:=e1.keep hB
      replace C0:=C0.keep hB
      replace E0:=E0.keep hB
      replace C1:=C1.keep hB
      replace E1:=E1.keep hB
      replace X6:=X6.keep hB
      clear hB
      refine rg_ready [6] (by kernel_rfl) (by simp) ?_
      refine ar_store 6 40 40 5 8 (v7.heap.size) [.slice none 0 0,.slice none 0 0] [.slice A0 K0 D0,.slice B0 L0 M0] (by kernel_rfl) (by kernel_rfl) (by kernel_rfl) (by kernel_rfl) X5 (by kernel_rfl) rfl (by kernel_rfl) ?_ ?_
      ·intro v9 Y hw hB
       refine ⟨hS.trans (hB.mono hX5),?_⟩
       replace HB:=HB.trans (hB.mono (Nat.le_trans hBu hX5))
       replace hS:=hS.trans (hB.mono hX5)
       replace h0:=h0.blk X5 (no_ints2 _ _ _ _ _ _) hw
       replace e0:=e0.blk X5 (no_ints2 _ _ _ _ _ _) hw
       replace h1:=h1.blk X5 (no_ints2 _ _ _ _ _ _) hw
       replace e1:=e1.blk X5 (no_ints2 _ _ _ _ _ _) hw
       replace C0:=C0.blk X5 (no_ints2 _ _ _ _ _ _) hw
       replace E0:=E0.blk X5 (no_ints2 _ _ _ _ _ _) hw
       replace C1:=C1.blk X5 (no_ints2 _ _ _ _ _ _) hw
       replace E1:=E1.blk X5 (no_ints2 _ _ _ _ _ _) hw
       replace X6:=X6.off nX6X5 hw
       replace X5:=Y
       clear hB hw
       refine rg_ready [7] (by kernel_rfl) (by simp) ?_
       refine ar_store 7 40 40 6 10 (v2.heap.size) [.slice none 0 0,.slice none 0 0] [.slice A1 K1 D1,.slice B1 L1 M1] (by kernel_rfl) (by kernel_rfl) (by kernel_rfl) (by kernel_rfl) X6 (by kernel_rfl) rfl (by kernel_rfl) ?_ ?_
       ·intro v10 Y hw hB
        refine ⟨hS.trans (hB.mono hX6),?_⟩
        replace HB:=HB.trans (hB.mono (Nat.le_trans hBu hX6))
        replace hS:=hS.trans (hB.mono hX6)
        replace h0:=h0.blk X6 (no_ints2 _ _ _ _ _ _) hw
        replace e0:=e0.blk X6 (no_ints2 _ _ _ _ _ _) hw
        replace h1:=h1.blk X6 (no_ints2 _ _ _ _ _ _) hw
        replace e1:=e1.blk X6 (no_ints2 _ _ _ _ _ _) hw
        replace C0:=C0.blk X6 (no_ints2 _ _ _ _ _ _) hw
        replace E0:=E0.blk X6 (no_ints2 _ _ _ _ _ _) hw
        replace C1:=C1.blk X6 (no_ints2 _ _ _ _ _ _) hw
        replace E1:=E1.blk X6 (no_ints2 _ _ _ _ _ _) hw
        replace X5:=X5.off (Ne.symm nX6X5) hw
        replace X6:=Y
        clear hB hw
        refine rg_done (by kernel_rfl) ?_
        exact ⟨(v7.heap.size,v2.heap.size,A0,K0,D0,B0,L0,M0,A1,K1,D1,B1,L1,M1),by kernel_rfl,X5,X6,C0,E0,C1,E1,hK0,hL0,hK1,hL1,HB⟩
       exact ar_nil
      exact ar_nil
     exact ar_nil
    exact ar_nil
   refine ar_alloc 4 (some 5) 40 [.slice none 0 0,.slice none 0 0] (by kernel_rfl) (by kernel_rfl) ?_ ?_
   ·intro v11 X5 hB
    refine ⟨joinB hS hB,?_⟩
    have hX5:=hS.size
    replace hS:=joinB hS hB
    replace HB:=joinB HB hB
    replace h0:=h0.keep hB
    replace e0:=e0.keep hB
    replace h1:=h1.keep hB
    replace e1:=e1.keep hB
    replace C0:=C0.keep hB
    replace E0:=E0.keep hB
    clear hB
    refine rg_ready [3,5] (by kernel_rfl) (by simp) ?_
    refine ar_call 3 (some 10) 82 #[.agg #[.slice a1 n1 c1,.slice b1 m1 d1]] (by kernel_rfl) (by kernel_rfl) (qCounted h1 e1 (by omega) (by omega)) ?_ ?_
    ·rintro e v12 ⟨A1,K1,D1,B1,L1,M1,rfl,C1,E1,hK1,hL1,hB⟩
     refine ⟨_,rfl,joinB hS hB,?_⟩
     replace hS:=joinB hS hB
     replace HB:=joinB HB hB
     replace h0:=h0.keep hB
     replace e0:=e0.keep hB
     replace h1:=h1.keep hB
     replace e1:=e1.keep hB
     replace C0:=C0.keep hB
     replace E0:=E0.keep hB
     replace X5:=X5.keep hB
     clear hB
     refine rg_ready [5] (by kernel_rfl) (by simp) ?_
     refine ar_alloc 5 (some 6) 40 [.slice none 0 0,.slice none 0 0] (by kernel_rfl) (by kernel_rfl) ?_ ?_
     ·intro v13 X6 hB
      refine ⟨joinB hS hB,?_⟩
      have hX6:=hS.size
      replace hS:=joinB hS hB
      replace HB:=joinB HB hB
      have nX5X6:=Nat.ne_of_lt X5.lt
      replace h0:=h0.keep hB
      replace e0:=e0.keep hB
      replace h1:=h1.keep hB
      replace e1:=e1.keep hB
      replace C0:=C0.keep hB
      replace E0:=E0.keep hB
      replace C1:=C1.keep hB
      replace E1:=E1.keep hB
      replace X5:=X5.keep hB
      clear hB
      refine rg_ready [6] (by kernel_rfl) (by simp) ?_
      refine ar_store 6 40 40 5 8 (v1.heap.size) [.slice none 0 0,.slice none 0 0] [.slice A0 K0 D0,.slice B0 L0 M0] (by kernel_rfl) (by kernel_rfl) (by kernel_rfl) (by kernel_rfl) X5 (by kernel_rfl) rfl (by kernel_rfl) ?_ ?_
      ·intro v14 Y hw hB
       refine ⟨hS.trans (hB.mono hX5),?_⟩
       replace HB:=HB.trans (hB.mono (Nat.le_trans hBu hX5))
       replace hS:=hS.trans (hB.mono hX5)
       replace h0:=h0.blk X5 (no_ints2 _ _ _ _ _ _) hw
       replace e0:=e0.blk X5 (no_ints2 _ _ _ _ _ _) hw
       replace h1:=h1.blk X5 (no_ints2 _ _ _ _ _ _) hw
       replace e1:=e1.blk X5 (no_ints2 _ _ _ _ _ _) hw
       replace C0:=C0.blk X5 (no_ints2 _ _ _ _ _ _) hw
       replace E0:=E0.blk X5 (no_ints2 _ _ _ _ _ _) hw
       replace C1:=C1.blk X5 (no_ints2 _ _ _ _ _ _) hw
       replace E1:=E1.blk X5 (no_ints2 _ _ _ _ _ _) hw
       replace X6:=X6.off (Ne.symm nX5X6) hw
       replace X5:=Y
       clear hB hw
       refine rg_ready [7] (by kernel_rfl) (by simp) ?_
       refine ar_store 7 40 40 6 10 (v12.heap.size) [.slice none 0 0,.slice none 0 0] [.slice A1 K1 D1,.slice B1 L1 M1] (by kernel_rfl) (by kernel_rfl) (by kernel_rfl) (by kernel_rfl) X6 (by kernel_rfl) rfl (by kernel_rfl) ?_ ?_
       ·intro v15 Y hw hB
        refine ⟨hS.trans (hB.mono hX6),?_⟩
        replace HB:=HB.trans (hB.mono (Nat.le_trans hBu hX6))
        replace hS:=hS.trans (hB.mono hX6)
        replace h0:=h0.blk X6 (no_ints2 _ _ _ _ _ _) hw
        replace e0:=e0.blk X6 (no_ints2 _ _ _ _ _ _) hw
        replace h1:=h1.blk X6 (no_ints2 _ _ _ _ _ _) hw
        replace e1:=e1.blk X6 (no_ints2 _ _ _ _ _ _) hw
        replace C0:=C0.blk X6 (no_ints2 _ _ _ _ _ _) hw
        replace E0:=E0.blk X6 (no_ints2 _ _ _ _ _ _) hw
        replace C1:=C1.blk X6 (no_ints2 _ _ _ _ _ _) hw
        replace E1:=E1.blk X6 (no_ints2 _ _ _ _ _ _) hw
        replace X5:=X5.off nX5X6 hw
        replace X6:=Y
        clear hB hw
        refine rg_done (by kernel_rfl) ?_
        exact ⟨(v1.heap.size,v12.heap.size,A0,K0,D0,B0,L0,M0,A1,K1,D1,B1,L1,M1),by kernel_rfl,X5,X6,C0,E0,C1,E1,hK0,hL0,hK1,hL1,HB⟩
       exact ar_nil
      exact ar_nil
     exact ar_nil
    refine ar_alloc 5 (some 6) 40 [.slice none 0 0,.slice none 0 0] (by kernel_rfl) (by kernel_rfl) ?_ ?_
    ·intro v16 X6 hB
     refine ⟨joinB hS hB,?_⟩
     have hX6:=hS.size
     replace hS:=joinB hS hB
     replace HB:=joinB HB hB
     have nX5X6:=Nat.ne_of_lt X5.lt
     replace h0:=h0.keep hB
     replace e0:=e0.keep hB
     replace h1:=h1.keep hB
     replace e1:=e1.keep hB
     replace C0:=C0.keep hB
     replace E0:=E0.keep hB
     replace X5:=X5.keep hB
     clear hB
     refine rg_ready [3] (by kernel_rfl) (by simp) ?_
     refine ar_call 3 (some 10) 82 #[.agg #[.slice a1 n1 c1,.slice b1 m1 d1]] (by kernel_rfl) (by kernel_rfl) (qCounted h1 e1 (by omega) (by omega)) ?_ ?_
     ·rintro e v17 ⟨A1,K1,D1,B1,L1,M1,rfl,C1,E1,hK1,hL1,hB⟩
      refine ⟨_,rfl,joinB hS hB,?_⟩
      replace hS:=joinB hS hB
      replace HB:=joinB HB hB
      replace h0:=h0.keep hB
      replace e0:=e0.keep hB
      replace h1:=h1.keep hB
      replace e1:=e1.keep hB
      replace C0:=C0.keep hB
      replace E0:=E0.keep hB
      replace X5:=X5.keep hB
      replace X6:=X6.keep hB
      clear hB
      refine rg_ready [6] (by kernel_rfl) (by simp) ?_
      refine ar_store 6 40 40 5 8 (v1.heap.size) [.slice none 0 0,.slice none 0 0] [.slice A0 K0 D0,.slice B0 L0 M0] (by kernel_rfl) (by kernel_rfl) (by kernel_rfl) (by kernel_rfl) X5 (by kernel_rfl) rfl (by kernel_rfl) ?_ ?_
      ·intro v18 Y hw hB
       refine ⟨hS.trans (hB.mono hX5),?_⟩
       replace HB:=HB.trans (hB.mono (Nat.le_trans hBu hX5))
       replace hS:=hS.trans (hB.mono hX5)
       replace h0:=h0.blk X5 (no_ints2 _ _ _ _ _ _) hw
       replace e0:=e0.blk X5 (no_ints2 _ _ _ _ _ _) hw
       replace h1:=h1.blk X5 (no_ints2 _ _ _ _ _ _) hw
       replace e1:=e1.blk X5 (no_ints2 _ _ _ _ _ _) hw
       replace C0:=C0.blk X5 (no_ints2 _ _ _ _ _ _) hw
       replace E0:=E0.blk X5 (no_ints2 _ _ _ _ _ _) hw
       replace C1:=C1.blk X5 (no_ints2 _ _ _ _ _ _) hw
       replace E1:=E1.blk X5 (no_ints2 _ _ _ _ _ _) hw
       replace X6:=X6.off (Ne.symm nX5X6) hw
       replace X5:=Y
       clear hB hw
       refine rg_ready [7] (by kernel_rfl) (by simp) ?_
       refine ar_store 7 40 40 6 10 (v11.heap.size) [.slice none 0 0,.slice none 0 0] [.slice A1 K1 D1,.slice B1 L1 M1] (by kernel_rfl) (by kernel_rfl) (by kernel_rfl) (by kernel_rfl) X6 (by kernel_rfl) rfl (by kernel_rfl) ?_ ?_
       ·intro v19 Y hw hB
        refine ⟨hS.trans (hB.mono hX6),?_⟩
        replace HB:=HB.trans (hB.mono (Nat.le_trans hBu hX6))
        replace hS:=hS.trans (hB.mono hX6)
        replace h0:=h0.blk X6 (no_ints2 _ _ _ _ _ _) hw
        replace e0:=e0.blk X6 (no_ints2 _ _ _ _ _ _) hw
        replace h1:=h1.blk X6 (no_ints2 _ _ _ _ _ _) hw
        replace e1:=e1.blk X6 (no_ints2 _ _ _ _ _ _) hw
        replace C0:=C0.blk X6 (no_ints2 _ _ _ _ _ _) hw
        replace E0:=E0.blk X6 (no_ints2 _ _ _ _ _ _) hw
        replace C1:=C1.blk X6 (no_ints2 _ _ _ _ _ _) hw
        replace E1:=E1.blk X6 (no_ints2 _ _ _ _ _ _) hw
        replace X5:=X5.off nX5X6 hw
        replace X6:=Y
        clear hB hw
        refine rg_done (by kernel_rfl) ?_
        exact ⟨(v1.heap.size,v11.heap.size,A0,K0,D0,B0,L0,M0,A1,K1,D1,B1,L1,M1),by kernel_rfl,X5,X6,C0,E0,C1,E1,hK0,hL0,hK1,hL1,HB⟩
       exact ar_nil
      exact ar_nil
     exact ar_nil
    exact ar_nil
   refine ar_alloc 5 (some 6) 40 [.slice none 0 0,.slice none 0 0] (by kernel_rfl) (by kernel_rfl) ?_ ?_
   ·intro v20 X6 hB
    refine ⟨joinB hS hB,?_⟩
    have hX6:=hS.size
    replace hS:=joinB hS hB
    replace HB:=joinB HB hB
    replace h0:=h0.keep hB
    replace e0:=e0.keep hB
    replace h1:=h1.keep hB
    replace e1:=e1.keep hB
    replace C0:=C0.keep hB
    replace E0:=E0.keep hB
    clear hB
    refine rg_ready [3,4] (by kernel_rfl) (by simp) ?_
    refine ar_call 3 (some 10) 82 #[.agg #[.slice a1 n1 c1,.slice b1 m1 d1]] (by kernel_rfl) (by kernel_rfl) (qCounted h1 e1 (by omega) (by omega)) ?_ ?_
    ·rintro e v21 ⟨A1,K1,D1,B1,L1,M1,rfl,C1,E1,hK1,hL1,hB⟩
     refine ⟨_,rfl,joinB hS hB,?_⟩
     replace hS:=joinB hS hB
     replace HB:=joinB HB hB
     replace h0:=h0.keep hB
     replace e0:=e0.keep hB
     replace h1:=h1.keep hB
     replace e1:=e1.keep hB
     replace C0:=C0.keep hB
     replace E0:=E0.keep hB
     replace X6:=X6.keep hB
     clear hB
     refine rg_ready [4] (by kernel_rfl) (by simp) ?_
     refine ar_alloc 4 (some 5) 40 [.slice none 0 0,.slice none 0 0] (by kernel_rfl) (by kernel_rfl) ?_ ?_
     ·intro v22 X5 hB
      refine ⟨joinB hS hB,?_⟩
      have hX5:=hS.size
      replace hS:=joinB hS hB
      replace HB:=joinB HB hB
      have nX6X5:=Nat.ne_of_lt X6.lt
      replace h0:=h0.keep hB
      replace e0:=e0.keep hB
      replace h1:=h1.keep hB
      replace e1:=e1.keep hB
      replace C0:=C0.keep hB
      replace E0:=E0.keep hB
      replace C1:=C1.keep hB
      replace E1:=E1.keep hB
      replace X6:=X6.keep hB
      clear hB
      refine rg_ready [6] (by kernel_rfl) (by simp) ?_
      refine ar_store 6 40 40 5 8 (v21.heap.size) [.slice none 0 0,.slice none 0 0] [.slice A0 K0 D0,.slice B0 L0 M0] (by kernel_rfl) (by kernel_rfl) (by kernel_rfl) (by kernel_rfl) X5 (by kernel_rfl) rfl (by kernel_rfl) ?_ ?_
      ·intro v23 Y hw hB
       refine ⟨hS.trans (hB.mono hX5),?_⟩
       replace HB:=HB.trans (hB.mono (Nat.le_trans hBu hX5))
       replace hS:=hS.trans (hB.mono hX5)
       replace h0:=h0.blk X5 (no_ints2 _ _ _ _ _ _) hw
       replace e0:=e0.blk X5 (no_ints2 _ _ _ _ _ _) hw
       replace h1:=h1.blk X5 (no_ints2 _ _ _ _ _ _) hw
       replace e1:=e1.blk X5 (no_ints2 _ _ _ _ _ _) hw
       replace C0:=C0.blk X5 (no_ints2 _ _ _ _ _ _) hw
       replace E0:=E0.blk X5 (no_ints2 _ _ _ _ _ _) hw
       replace C1:=C1.blk X5 (no_ints2 _ _ _ _ _ _) hw
       replace E1:=E1.blk X5 (no_ints2 _ _ _ _ _ _) hw
       replace X6:=X6.off nX6X5 hw
       replace X5:=Y
       clear hB hw
       refine rg_ready [7] (by kernel_rfl) (by simp) ?_
       refine ar_store 7 40 40 6 10 (v1.heap.size) [.slice none 0 0,.slice none 0 0] [.slice A1 K1 D1,.slice B1 L1 M1] (by kernel_rfl) (by kernel_rfl) (by kernel_rfl) (by kernel_rfl) X6 (by kernel_rfl) rfl (by kernel_rfl) ?_ ?_
       ·intro v24 Y hw hB
        refine ⟨hS.trans (hB.mono hX6),?_⟩
        replace HB:=HB.trans (hB.mono (Nat.le_trans hBu hX6))
        replace hS:=hS.trans (hB.mono hX6)
        replace h0:=h0.blk X6 (no_ints2 _ _ _ _ _ _) hw
        replace e0:=e0.blk X6 (no_ints2 _ _ _ _ _ _) hw
        replace h1:=h1.blk X6 (no_ints2 _ _ _ _ _ _) hw
        replace e1:=e1.blk X6 (no_ints2 _ _ _ _ _ _) hw
        replace C0:=C0.blk X6 (no_ints2 _ _ _ _ _ _) hw
        replace E0:=E0.blk X6 (no_ints2 _ _ _ _ _ _) hw
        replace C1:=C1.blk X6 (no_ints2 _ _ _ _ _ _) hw
        replace E1:=E1.blk X6 (no_ints2 _ _ _ _ _ _) hw
        replace X5:=X5.off (Ne.symm nX6X5) hw
        replace X6:=Y
        clear hB hw
        refine rg_done (by kernel_rfl) ?_
        exact ⟨(v21.heap.size,v1.heap.size,A0,K0,D0,B0,L0,M0,A1,K1,D1,B1,L1,M1),by kernel_rfl,X5,X6,C0,E0,C1,E1,hK0,hL0,hK1,hL1,HB⟩
       exact ar_nil
      exact ar_nil
     exact ar_nil
    refine ar_alloc 4 (some 5) 40 [.slice none 0 0,.slice none 0 0] (by kernel_rfl) (by kernel_rfl) ?_ ?_
    ·intro v25 X5 hB
     refine ⟨joinB hS hB,?_⟩
     have hX5:=hS.size
     replace hS:=joinB hS hB
     replace HB:=joinB HB hB
     have nX6X5:=Nat.ne_of_lt X6.lt
     replace h0:=h0.keep hB
     replace e0:=e0.keep hB
     replace h1:=h1.keep hB
     replace e1:=e1.keep hB
     replace C0:=C0.keep hB
     replace E0:=E0.keep hB
     replace X6:=X6.keep hB
     clear hB
     refine rg_ready [3] (by kernel_rfl) (by simp) ?_
     refine ar_call 3 (some 10) 82 #[.agg #[.slice a1 n1 c1,.slice b1 m1 d1]] (by kernel_rfl) (by kernel_rfl) (qCounted h1 e1 (by omega) (by omega)) ?_ ?_
     ·rintro e v26 ⟨A1,K1,D1,B1,L1,M1,rfl,C1,E1,hK1,hL1,hB⟩
      refine ⟨_,rfl,joinB hS hB,?_⟩
      replace hS:=joinB hS hB
      replace HB:=joinB HB hB
      replace h0:=h0.keep hB
      replace e0:=e0.keep hB
      replace h1:=h1.keep hB
      replace e1:=e1.keep hB
      replace C0:=C0.keep hB
      replace E0:=E0.keep hB
      replace X6:=X6.keep hB
      replace X5:=X5.keep hB
      clear hB
      refine rg_ready [6] (by kernel_rfl) (by simp) ?_
      refine ar_store 6 40 40 5 8 (v20.heap.size) [.slice none 0 0,.slice none 0 0] [.slice A0 K0 D0,.slice B0 L0 M0] (by kernel_rfl) (by kernel_rfl) (by kernel_rfl) (by kernel_rfl) X5 (by kernel_rfl) rfl (by kernel_rfl) ?_ ?_
      ·intro v27 Y hw hB
       refine ⟨hS.trans (hB.mono hX5),?_⟩
       replace HB:=HB.trans (hB.mono (Nat.le_trans hBu hX5))
       replace hS:=hS.trans (hB.mono hX5)
       replace h0:=h0.blk X5 (no_ints2 _ _ _ _ _ _) hw
       replace e0:=e0.blk X5 (no_ints2 _ _ _ _ _ _) hw
       replace h1:=h1.blk X5 (no_ints2 _ _ _ _ _ _) hw
       replace e1:=e1.blk X5 (no_ints2 _ _ _ _ _ _) hw
       replace C0:=C0.blk X5 (no_ints2 _ _ _ _ _ _) hw
       replace E0:=E0.blk X5 (no_ints2 _ _ _ _ _ _) hw
       replace C1:=C1.blk X5 (no_ints2 _ _ _ _ _ _) hw
       replace E1:=E1.blk X5 (no_ints2 _ _ _ _ _ _) hw
       replace X6:=X6.off nX6X5 hw
       replace X5:=Y
       clear hB hw
       refine rg_ready [7] (by kernel_rfl) (by simp) ?_
       refine ar_store 7 40 40 6 10 (v1.heap.size) [.slice none 0 0,.slice none 0 0] [.slice A1 K1 D1,.slice B1 L1 M1] (by kernel_rfl) (by kernel_rfl) (by kernel_rfl) (by kernel_rfl) X6 (by kernel_rfl) rfl (by kernel_rfl) ?_ ?_
       ·intro v28 Y hw hB
        refine ⟨hS.trans (hB.mono hX6),?_⟩
        replace HB:=HB.trans (hB.mono (Nat.le_trans hBu hX6))
        replace hS:=hS.trans (hB.mono hX6)
        replace h0:=h0.blk X6 (no_ints2 _ _ _ _ _ _) hw
        replace e0:=e0.blk X6 (no_ints2 _ _ _ _ _ _) hw
        replace h1:=h1.blk X6 (no_ints2 _ _ _ _ _ _) hw
        replace e1:=e1.blk X6 (no_ints2 _ _ _ _ _ _) hw
        replace C0:=C0.blk X6 (no_ints2 _ _ _ _ _ _) hw
        replace E0:=E0.blk X6 (no_ints2 _ _ _ _ _ _) hw
        replace C1:=C1.blk X6 (no_ints2 _ _ _ _ _ _) hw
        replace E1:=E1.blk X6 (no_ints2 _ _ _ _ _ _) hw
        replace X5:=X5.off (Ne.symm nX6X5) hw
        replace X6:=Y
        clear hB hw
        refine rg_done (by kernel_rfl) ?_
        exact ⟨(v20.heap.size,v1.heap.size,A0,K0,D0,B0,L0,M0,A1,K1,D1,B1,L1,M1),by kernel_rfl,X5,X6,C0,E0,C1,E1,hK0,hL0,hK1,hL1,HB⟩
       exact ar_nil
      exact ar_nil
     exact ar_nil
    exact ar_nil
   exact ar_nil
  refine ar_alloc 4 (some 5) 40 [.slice none 0 0,.slice none 0 0] (by kernel_rfl) (by kernel_rfl) ?_ ?_
  ·intro v29 X5 hB
   refine ⟨joinB hS hB,?_⟩
   have hX5:=hS.size
   replace hS:=joinB hS hB
   replace HB:=joinB HB hB
   replace h0:=h0.keep hB
   replace e0:=e0.keep hB
   replace h1:=h1.keep hB
   replace e1:=e1.keep hB
   clear hB
   refine rg_ready [1,5] (by kernel_rfl) (by simp) ?_
   refine ar_call 1 (some 8) 82 #[.agg #[.slice a0 n0 c0,.slice b0 m0 d0]] (by kernel_rfl) (by kernel_rfl) (qCounted h0 e0 (by omega) (by omega)) ?_ ?_
   ·rintro e v30 ⟨A0,K0,D0,B0,L0,M0,rfl,C0,E0,hK0,hL0,hB⟩
    refine ⟨_,rfl,joinB hS hB,?_⟩
    replace hS:=joinB hS hB
    replace HB:=joinB HB hB
    replace h0:=h0.keep hB
    replace e0:=e0.keep hB
    replace h1:=h1.keep hB
    replace e1:=e1.keep hB
    replace X5:=X5.keep hB
    clear hB
    refine rg_ready [3,5] (by kernel_rfl) (by simp) ?_
    refine ar_call 3 (some 10) 82 #[.agg #[.slice a1 n1 c1,.slice b1 m1 d1]] (by kernel_rfl) (by kernel_rfl) (qCounted h1 e1 (by omega) (by omega)) ?_ ?_
    ·rintro e v31 ⟨A1,K1,D1,B1,L1,M1,rfl,C1,E1,hK1,hL1,hB⟩
     refine ⟨_,rfl,joinB hS hB,?_⟩
     replace hS:=joinB hS hB
     replace HB:=joinB HB hB
     replace h0:=h0.keep hB
     replace e0:=e0.keep hB
     replace h1:=h1.keep hB
     replace e1:=e1.keep hB
     replace C0:=C0.keep hB
     replace E0:=E0.keep hB
     replace X5:=X5.keep hB
     clear hB
     refine rg_ready [5] (by kernel_rfl) (by simp) ?_
     refine ar_alloc 5 (some 6) 40 [.slice none 0 0,.slice none 0 0] (by kernel_rfl) (by kernel_rfl) ?_ ?_
     ·intro v32 X6 hB
      refine ⟨joinB hS hB,?_⟩
      have hX6:=hS.size
      replace hS:=joinB hS hB
      replace HB:=joinB HB hB
      have nX5X6:=Nat.ne_of_lt X5.lt
      replace h0:=h0.keep hB
      replace e0:=e0.keep hB
      replace h1:=h1.keep hB
      replace e1:=e1.keep hB
      replace C0:=C0.keep hB
      replace E0:=E0.keep hB
      replace C1:=C1.keep hB
      replace E1:=E1.keep hB
      replace X5:=X5.keep hB
      clear hB
      refine rg_ready [6] (by kernel_rfl) (by simp) ?_
      refine ar_store 6 40 40 5 8 (u0.drew.heap.size) [.slice none 0 0,.slice none 0 0] [.slice A0 K0 D0,.slice B0 L0 M0] (by kernel_rfl) (by kernel_rfl) (by kernel_rfl) (by kernel_rfl) X5 (by kernel_rfl) rfl (by kernel_rfl) ?_ ?_
      ·intro v33 Y hw hB
       refine ⟨hS.trans (hB.mono hX5),?_⟩
       replace HB:=HB.trans (hB.mono (Nat.le_trans hBu hX5))
       replace hS:=hS.trans (hB.mono hX5)
       replace h0:=h0.blk X5 (no_ints2 _ _ _ _ _ _) hw
       replace e0:=e0.blk X5 (no_ints2 _ _ _ _ _ _) hw
       replace h1:=h1.blk X5 (no_ints2 _ _ _ _ _ _) hw
       replace e1:=e1.blk X5 (no_ints2 _ _ _ _ _ _) hw
       replace C0:=C0.blk X5 (no_ints2 _ _ _ _ _ _) hw
       replace E0:=E0.blk X5 (no_ints2 _ _ _ _ _ _) hw
       replace C1:=C1.blk X5 (no_ints2 _ _ _ _ _ _) hw
       replace E1:=E1.blk X5 (no_ints2 _ _ _ _ _ _) hw
       replace X6:=X6.off (Ne.symm nX5X6) hw
       replace X5:=Y
       clear hB hw
       refine rg_ready [7] (by kernel_rfl) (by simp) ?_
       refine ar_store 7 40 40 6 10 (v31.heap.size) [.slice none 0 0,.slice none 0 0] [.slice A1 K1 D1,.slice B1 L1 M1] (by kernel_rfl) (by kernel_rfl) (by kernel_rfl) (by kernel_rfl) X6 (by kernel_rfl) rfl (by kernel_rfl) ?_ ?_
       ·intro v34 Y hw hB
        refine ⟨hS.trans (hB.mono hX6),?_⟩
        replace HB:=HB.trans (hB.mono (Nat.le_trans hBu hX6))
        replace hS:=hS.trans (hB.mono hX6)
        replace h0:=h0.blk X6 (no_ints2 _ _ _ _ _ _) hw
        replace e0:=e0.blk X6 (no_ints2 _ _ _ _ _ _) hw
        replace h1:=h1.blk X6 (no_ints2 _ _ _ _ _ _) hw
        replace e1:=e1.blk X6 (no_ints2 _ _ _ _ _ _) hw
        replace C0:=C0.blk X6 (no_ints2 _ _ _ _ _ _) hw
        replace E0:=E0.blk X6 (no_ints2 _ _ _ _ _ _) hw
        replace C1:=C1.blk X6 (no_ints2 _ _ _ _ _ _) hw
        replace E1:=E1.blk X6 (no_ints2 _ _ _ _ _ _) hw
        replace X5:=X5.off nX5X6 hw
        replace X6:=Y
        clear hB hw
        refine rg_done (by kernel_rfl) ?_
        exact ⟨(u0.drew.heap.size,v31.heap.size,A0,K0,D0,B0,L0,M0,A1,K1,D1,B1,L1,M1),by kernel_rfl,X5,X6,C0,E0,C1,E1,hK0,hL0,hK1,hL1,HB⟩
       exact ar_nil
      exact ar_nil
     exact ar_nil
    refine ar_alloc 5 (some 6) 40 [.slice none 0 0,.slice none 0 0] (by kernel_rfl) (by kernel_rfl) ?_ ?_
    ·intro v35 X6 hB
     refine ⟨joinB hS hB,?_⟩
     have hX6:=hS.size
     replace hS:=joinB hS hB
     replace HB:=joinB HB hB
     have nX5X6:=Nat.ne_of_lt X5.lt
     replace h0:=h0.keep hB
     replace e0:=e0.keep hB
     replace h1:=h1.keep hB
     replace e1:=e1.keep hB
     replace C0:=C0.keep hB
     replace E0:=E0.keep hB
     replace X5:=X5.keep hB
     clear hB
     refine rg_ready [3] (by kernel_rfl) (by simp) ?_
     refine ar_call 3 (some 10) 82 #[.agg #[.slice a1 n1 c1,.slice b1 m1 d1]] (by kernel_rfl) (by kernel_rfl) (qCounted h1 e1 (by omega) (by omega)) ?_ ?_
     ·rintro e v36 ⟨A1,K1,D1,B1,L1,M1,rfl,C1,E1,hK1,hL1,hB⟩
      refine ⟨_,rfl,joinB hS hB,?_⟩
      replace hS:=joinB hS hB
      replace HB:=joinB HB hB
      replace h0:=h0.keep hB
      replace e0:=e0.keep hB
      replace h1:=h1.keep hB
      replace e1:=e1.keep hB
      replace C0:=C0.keep hB
      replace E0:=E0.keep hB
      replace X5:=X5.keep hB
      replace X6:=X6.keep hB
      clear hB
      refine rg_ready [6] (by kernel_rfl) (by simp) ?_
      refine ar_store 6 40 40 5 8 (u0.drew.heap.size) [.slice none 0 0,.slice none 0 0] [.slice A0 K0 D0,.slice B0 L0 M0] (by kernel_rfl) (by kernel_rfl) (by kernel_rfl) (by kernel_rfl) X5 (by kernel_rfl) rfl (by kernel_rfl) ?_ ?_
      ·intro v37 Y hw hB
       refine ⟨hS.trans (hB.mono hX5),?_⟩
       replace HB:=HB.trans (hB.mono (Nat.le_trans hBu hX5))
       replace hS:=hS.trans (hB.mono hX5)
       replace h0:=h0.blk X5 (no_ints2 _ _ _ _ _ _) hw
       replace e0:=e0.blk X5 (no_ints2 _ _ _ _ _ _) hw
       replace h1:=h1.blk X5 (no_ints2 _ _ _ _ _ _) hw
       replace e1:=e1.blk X5 (no_ints2 _ _ _ _ _ _) hw
       replace C0:=C0.blk X5 (no_ints2 _ _ _ _ _ _) hw
       replace E0:=E0.blk X5 (no_ints2 _ _ _ _ _ _) hw
       replace C1:=C1.blk X5 (no_ints2 _ _ _ _ _ _) hw
       replace E1:=E1.blk X5 (no_ints2 _ _ _ _ _ _) hw
       replace X6:=X6.off (Ne.symm nX5X6) hw
       replace X5:=Y
       clear hB hw
       refine rg_ready [7] (by kernel_rfl) (by simp) ?_
       refine ar_store 7 40 40 6 10 (v30.heap.size) [.slice none 0 0,.slice none 0 0] [.slice A1 K1 D1,.slice B1 L1 M1] (by kernel_rfl) (by kernel_rfl) (by kernel_rfl) (by kernel_rfl) X6 (by kernel_rfl) rfl (by kernel_rfl) ?_ ?_
       ·intro v38 Y hw hB
        refine ⟨hS.trans (hB.mono hX6),?_⟩
        replace HB:=HB.trans (hB.mono (Nat.le_trans hBu hX6))
        replace hS:=hS.trans (hB.mono hX6)
        replace h0:=h0.blk X6 (no_ints2 _ _ _ _ _ _) hw
        replace e0:=e0.blk X6 (no_ints2 _ _ _ _ _ _) hw
        replace h1:=h1.blk X6 (no_ints2 _ _ _ _ _ _) hw
        replace e1:=e1.blk X6 (no_ints2 _ _ _ _ _ _) hw
        replace C0:=C0.blk X6 (no_ints2 _ _ _ _ _ _) hw
        replace E0:=E0.blk X6 (no_ints2 _ _ _ _ _ _) hw
        replace C1:=C1.blk X6 (no_ints2 _ _ _ _ _ _) hw
        replace E1:=E1.blk X6 (no_ints2 _ _ _ _ _ _) hw
        replace X5:=X5.off nX5X6 hw
        replace X6:=Y
        clear hB hw
        refine rg_done (by kernel_rfl) ?_
        exact ⟨(u0.drew.heap.size,v30.heap.size,A0,K0,D0,B0,L0,M0,A1,K1,D1,B1,L1,M1),by kernel_rfl,X5,X6,C0,E0,C1,E1,hK0,hL0,hK1,hL1,HB⟩
       exact ar_nil
      exact ar_nil
     exact ar_nil
    exact ar_nil
   refine ar_alloc 5 (some 6) 40 [.slice none 0 0,.slice none 0 0] (by kernel_rfl) (by kernel_rfl) ?_ ?_
   ·intro v39 X6 hB
    refine ⟨joinB hS hB,?_⟩
    have hX6:=hS.size
    replace hS:=joinB hS hB
    replace HB:=joinB HB hB
    have nX5X6:=Nat.ne_of_lt X5.lt
    replace h0:=h0.keep hB
    replace e0:=e0.keep hB
    replace h1:=h1.keep hB
    replace e1:=e1.keep hB
    replace X5:=X5.keep hB
    clear hB
    refine rg_ready [1] (by kernel_rfl) (by simp) ?_
    refine ar_call 1 (some 8) 82 #[.agg #[.slice a0 n0 c0,.slice b0 m0 d0]] (by kernel_rfl) (by kernel_rfl) (qCounted h0 e0 (by omega) (by omega)) ?_ ?_
    ·rintro e v40 ⟨A0,K0,D0,B0,L0,M0,rfl,C0,E0,hK0,hL0,hB⟩
     refine ⟨_,rfl,joinB hS hB,?_⟩
     replace hS:=joinB hS hB
     replace HB:=joinB HB hB
     replace h0:=h0.keep hB
     replace e0:=e0.keep hB
     replace h1:=h1.keep hB
     replace e1:=e1.keep hB
     replace X5:=X5.keep hB
     replace X6:=X6.keep hB
     clear hB
     refine rg_ready [3] (by kernel_rfl) (by simp) ?_
     refine ar_call 3 (some 10) 82 #[.agg #[.slice a1 n1 c1,.slice b1 m1 d1]] (by kernel_rfl) (by kernel_rfl) (qCounted h1 e1 (by omega) (by omega)) ?_ ?_
     ·rintro e v41 ⟨A1,K1,D1,B1,L1,M1,rfl,C1,E1,hK1,hL1,hB⟩
      refine ⟨_,rfl,joinB hS hB,?_⟩
      replace hS:=joinB hS hB
      replace HB:=joinB HB hB
      replace h0:=h0.keep hB
      replace e0:=e0.keep hB
      replace h1:=h1.keep hB
      replace e1:=e1.keep hB
      replace C0:=C0.keep hB
      replace E0:=E0.keep hB
      replace X5:=X5.keep hB
      replace X6:=X6.keep hB
      clear hB
      refine rg_ready [6] (by kernel_rfl) (by simp) ?_
      refine ar_store 6 40 40 5 8 (u0.drew.heap.size) [.slice none 0 0,.slice none 0 0] [.slice A0 K0 D0,.slice B0 L0 M0] (by kernel_rfl) (by kernel_rfl) (by kernel_rfl) (by kernel_rfl) X5 (by kernel_rfl) rfl (by kernel_rfl) ?_ ?_
      ·intro v42 Y hw hB
       refine ⟨hS.trans (hB.mono hX5),?_⟩
       replace HB:=HB.trans (hB.mono (Nat.le_trans hBu hX5))
       replace hS:=hS.trans (hB.mono hX5)
       replace h0:=h0.blk X5 (no_ints2 _ _ _ _ _ _) hw
       replace e0:=e0.blk X5 (no_ints2 _ _ _ _ _ _) hw
       replace h1:=h1.blk X5 (no_ints2 _ _ _ _ _ _) hw
       replace e1:=e1.blk X5 (no_ints2 _ _ _ _ _ _) hw
       replace C0:=C0.blk X5 (no_ints2 _ _ _ _ _ _) hw
       replace E0:=E0.blk X5 (no_ints2 _ _ _ _ _ _) hw
       replace C1:=C1.blk X5 (no_ints2 _ _ _ _ _ _) hw
       replace E1:=E1.blk X5 (no_ints2 _ _ _ _ _ _) hw
       replace X6:=X6.off (Ne.symm nX5X6) hw
       replace X5:=Y
       clear hB hw
       refine rg_ready [7] (by kernel_rfl) (by simp) ?_
       refine ar_store 7 40 40 6 10 (v29.heap.size) [.slice none 0 0,.slice none 0 0] [.slice A1 K1 D1,.slice B1 L1 M1] (by kernel_rfl) (by kernel_rfl) (by kernel_rfl) (by kernel_rfl) X6 (by kernel_rfl) rfl (by kernel_rfl) ?_ ?_
       ·intro v43 Y hw hB
        refine ⟨hS.trans (hB.mono hX6),?_⟩
        replace HB:=HB.trans (hB.mono (Nat.le_trans hBu hX6))
        replace hS:=hS.trans (hB.mono hX6)
        replace h0:=h0.blk X6 (no_ints2 _ _ _ _ _ _) hw
        replace e0:=e0.blk X6 (no_ints2 _ _ _ _ _ _) hw
        replace h1:=h1.blk X6 (no_ints2 _ _ _ _ _ _) hw
        replace e1:=e1.blk X6 (no_ints2 _ _ _ _ _ _) hw
        replace C0:=C0.blk X6 (no_ints2 _ _ _ _ _ _) hw
        replace E0:=E0.blk X6 (no_ints2 _ _ _ _ _ _) hw
        replace C1:=C1.blk X6 (no_ints2 _ _ _ _ _ _) hw
        replace E1:=E1.blk X6 (no_ints2 _ _ _ _ _ _) hw
        replace X5:=X5.off nX5X6 hw
        replace X6:=Y
        clear hB hw
        refine rg_done (by kernel_rfl) ?_
        exact ⟨(u0.drew.heap.size,v29.heap.size,A0,K0,D0,B0,L0,M0,A1,K1,D1,B1,L1,M1),by kernel_rfl,X5,X6,C0,E0,C1,E1,hK0,hL0,hK1,hL1,HB⟩
       exact ar_nil
      exact ar_nil
     exact ar_nil
    exact ar_nil
   exact ar_nil
  refine ar_alloc 5 (some 6) 40 [.slice none 0 0,.slice none 0 0] (by kernel_rfl) (by kernel_rfl) ?_ ?_
  ·intro v44 X6 hB
   refine ⟨joinB hS hB,?_⟩
   have hX6:=hS.size
   replace hS:=joinB hS hB
   replace HB:=joinB HB hB
   replace h0:=h0.keep hB
   replace e0:=e0.keep hB
   replace h1:=h1.keep hB
   replace e1:=e1.keep hB
   clear hB
   refine rg_ready [1,4] (by kernel_rfl) (by simp) ?_
   refine ar_call 1 (some 8) 82 #[.agg #[.slice a0 n0 c0,.slice b0 m0 d0]] (by kernel_rfl) (by kernel_rfl) (qCounted h0 e0 (by omega) (by omega)) ?_ ?_
   ·rintro e v45 ⟨A0,K0,D0,B0,L0,M0,rfl,C0,E0,hK0,hL0,hB⟩
    refine ⟨_,rfl,joinB hS hB,?_⟩
    replace hS:=joinB hS hB
    replace HB:=joinB HB hB
    replace h0:=h0.keep hB
    replace e0:=e0.keep hB
    replace h1:=h1.keep hB
    replace e1:=e1.keep hB
    replace X6:=X6.keep hB
    clear hB
    refine rg_ready [3,4] (by kernel_rfl) (by simp) ?_
    refine ar_call 3 (some 10) 82 #[.agg #[.slice a1 n1 c1,.slice b1 m1 d1]] (by kernel_rfl) (by kernel_rfl) (qCounted h1 e1 (by omega) (by omega)) ?_ ?_
    ·rintro e v46 ⟨A1,K1,D1,B1,L1,M1,rfl,C1,E1,hK1,hL1,hB⟩
     refine ⟨_,rfl,joinB hS hB,?_⟩
     replace hS:=joinB hS hB
     replace HB:=joinB HB hB
     replace h0:=h0.keep hB
     replace e0:=e0.keep hB
     replace h1:=h1.keep hB
     replace e1:=e1.keep hB
     replace C0:=C0.keep hB
     replace E0:=E0.keep hB
     replace X6:=X6.keep hB
     clear hB
     refine rg_ready [4] (by kernel_rfl) (by simp) ?_
     refine ar_alloc 4 (some 5) 40 [.slice none 0 0,.slice none 0 0] (by kernel_rfl) (by kernel_rfl) ?_ ?_
     ·intro v47 X5 hB
      refine ⟨joinB hS hB,?_⟩
      have hX5:=hS.size
      replace hS:=joinB hS hB
      replace HB:=joinB HB hB
      have nX6X5:=Nat.ne_of_lt X6.lt
      replace h0:=h0.keep hB
      replace e0:=e0.keep hB
      replace h1:=h1.keep hB
      replace e1:=e1.keep hB
      replace C0:=C0.keep hB
      replace E0:=E0.keep hB
      replace C1:=C1.keep hB
      replace E1:=E1.keep hB
      replace X6:=X6.keep hB
      clear hB
      refine rg_ready [6] (by kernel_rfl) (by simp) ?_
      refine ar_store 6 40 40 5 8 (v46.heap.size) [.slice none 0 0,.slice none 0 0] [.slice A0 K0 D0,.slice B0 L0 M0] (by kernel_rfl) (by kernel_rfl) (by kernel_rfl) (by kernel_rfl) X5 (by kernel_rfl) rfl (by kernel_rfl) ?_ ?_
      ·intro v48 Y hw hB
       refine ⟨hS.trans (hB.mono hX5),?_⟩
       replace HB:=HB.trans (hB.mono (Nat.le_trans hBu hX5))
       replace hS:=hS.trans (hB.mono hX5)
       replace h0:=h0.blk X5 (no_ints2 _ _ _ _ _ _) hw
       replace e0:=e0.blk X5 (no_ints2 _ _ _ _ _ _) hw
       replace h1:=h1.blk X5 (no_ints2 _ _ _ _ _ _) hw
       replace e1:=e1.blk X5 (no_ints2 _ _ _ _ _ _) hw
       replace C0:=C0.blk X5 (no_ints2 _ _ _ _ _ _) hw
       replace E0:=E0.blk X5 (no_ints2 _ _ _ _ _ _) hw
       replace C1:=C1.blk X5 (no_ints2 _ _ _ _ _ _) hw
       replace E1:=E1.blk X5 (no_ints2 _ _ _ _ _ _) hw
       replace X6:=X6.off nX6X5 hw
       replace X5:=Y
       clear hB hw
       refine rg_ready [7] (by kernel_rfl) (by simp) ?_
       refine ar_store 7 40 40 6 10 (u0.drew.heap.size) [.slice none 0 0,.slice none 0 0] [.slice A1 K1 D1,.slice B1 L1 M1] (by kernel_rfl) (by kernel_rfl) (by kernel_rfl) (by kernel_rfl) X6 (by kernel_rfl) rfl (by kernel_rfl) ?_ ?_
       ·intro v49 Y hw hB
        refine ⟨hS.trans (hB.mono hX6),?_⟩
        replace HB:=HB.trans (hB.mono (Nat.le_trans hBu hX6))
        replace hS:=hS.trans (hB.mono hX6)
        replace h0:=h0.blk X6 (no_ints2 _ _ _ _ _ _) hw
        replace e0:=e0.blk X6 (no_ints2 _ _ _ _ _ _) hw
        replace h1:=h1.blk X6 (no_ints2 _ _ _ _ _ _) hw
        replace e1:=e1.blk X6 (no_ints2 _ _ _ _ _ _) hw
        replace C0:=C0.blk X6 (no_ints2 _ _ _ _ _ _) hw
        replace E0:=E0.blk X6 (no_ints2 _ _ _ _ _ _) hw
        replace C1:=C1.blk X6 (no_ints2 _ _ _ _ _ _) hw
        replace E1:=E1.blk X6 (no_ints2 _ _ _ _ _ _) hw
        replace X5:=X5.off (Ne.symm nX6X5) hw
        replace X6:=Y
        clear hB hw
        refine rg_done (by kernel_rfl) ?_
        exact ⟨(v46.heap.size,u0.drew.heap.size,A0,K0,D0,B0,L0,M0,A1,K1,D1,B1,L1,M1),by kernel_rfl,X5,X6,C0,E0,C1,E1,hK0,hL0,hK1,hL1,HB⟩
       exact ar_nil
      exact ar_nil
     exact ar_nil
    refine ar_alloc 4 (some 5) 40 [.slice none 0 0,.slice none 0 0] (by kernel_rfl) (by kernel_rfl) ?_ ?_
    ·intro v50 X5 hB
     refine ⟨joinB hS hB,?_⟩
     have hX5:=hS.size
     replace hS:=joinB hS hB
     replace HB:=joinB HB hB
     have nX6X5:=Nat.ne_of_lt X6.lt
     replace h0:=h0.keep hB
     replace e0:=e0.keep hB
     replace h1:=h1.keep hB
     replace e1:=e1.keep hB
     replace C0:=C0.keep hB
     replace E0:=E0.keep hB
     replace X6:=X6.keep hB
     clear hB
     refine rg_ready [3] (by kernel_rfl) (by simp) ?_
     refine ar_call 3 (some 10) 82 #[.agg #[.slice a1 n1 c1,.slice b1 m1 d1]] (by kernel_rfl) (by kernel_rfl) (qCounted h1 e1 (by omega) (by omega)) ?_ ?_
     ·rintro e v51 ⟨A1,K1,D1,B1,L1,M1,rfl,C1,E1,hK1,hL1,hB⟩
      refine ⟨_,rfl,joinB hS hB,?_⟩
      replace hS:=joinB hS hB
      replace HB:=joinB HB hB
      replace h0:=h0.keep hB
      replace e0:=e0.keep hB
      replace h1:=h1.keep hB
      replace e1:=e1.keep hB
      replace C0:=C0.keep hB
      replace E0:=E0.keep hB
      replace X6:=X6.keep hB
      replace X5:=X5.keep hB
      clear hB
      refine rg_ready [6] (by kernel_rfl) (by simp) ?_
      refine ar_store 6 40 40 5 8 (v45.heap.size) [.slice none 0 0,.slice none 0 0] [.slice A0 K0 D0,.slice B0 L0 M0] (by kernel_rfl) (by kernel_rfl) (by kernel_rfl) (by kernel_rfl) X5 (by kernel_rfl) rfl (by kernel_rfl) ?_ ?_
      ·intro v52 Y hw hB
       refine ⟨hS.trans (hB.mono hX5),?_⟩
       replace HB:=HB.trans (hB.mono (Nat.le_trans hBu hX5))
       replace hS:=hS.trans (hB.mono hX5)
       replace h0:=h0.blk X5 (no_ints2 _ _ _ _ _ _) hw
       replace e0:=e0.blk X5 (no_ints2 _ _ _ _ _ _) hw
       replace h1:=h1.blk X5 (no_ints2 _ _ _ _ _ _) hw
       replace e1:=e1.blk X5 (no_ints2 _ _ _ _ _ _) hw
       replace C0:=C0.blk X5 (no_ints2 _ _ _ _ _ _) hw
       replace E0:=E0.blk X5 (no_ints2 _ _ _ _ _ _) hw
       replace C1:=C1.blk X5 (no_ints2 _ _ _ _ _ _) hw
       replace E1:=E1.blk X5 (no_ints2 _ _ _ _ _ _) hw
       replace X6:=X6.off nX6X5 hw
       replace X5:=Y
       clear hB hw
       refine rg_ready [7] (by kernel_rfl) (by simp) ?_
       refine ar_store 7 40 40 6 10 (u0.drew.heap.size) [.slice none 0 0,.slice none 0 0] [.slice A1 K1 D1,.slice B1 L1 M1] (by kernel_rfl) (by kernel_rfl) (by kernel_rfl) (by kernel_rfl) X6 (by kernel_rfl) rfl (by kernel_rfl) ?_ ?_
       ·intro v53 Y hw hB
        refine ⟨hS.trans (hB.mono hX6),?_⟩
        replace HB:=HB.trans (hB.mono (Nat.le_trans hBu hX6))
        replace hS:=hS.trans (hB.mono hX6)
        replace h0:=h0.blk X6 (no_ints2 _ _ _ _ _ _) hw
        replace e0:=e0.blk X6 (no_ints2 _ _ _ _ _ _) hw
        replace h1:=h1.blk X6 (no_ints2 _ _ _ _ _ _) hw
        replace e1:=e1.blk X6 (no_ints2 _ _ _ _ _ _) hw
        replace C0:=C0.blk X6 (no_ints2 _ _ _ _ _ _) hw
        replace E0:=E0.blk X6 (no_ints2 _ _ _ _ _ _) hw
        replace C1:=C1.blk X6 (no_ints2 _ _ _ _ _ _) hw
        replace E1:=E1.blk X6 (no_ints2 _ _ _ _ _ _) hw
        replace X5:=X5.off (Ne.symm nX6X5) hw
        replace X6:=Y
        clear hB hw
        refine rg_done (by kernel_rfl) ?_
        exact ⟨(v45.heap.size,u0.drew.heap.size,A0,K0,D0,B0,L0,M0,A1,K1,D1,B1,L1,M1),by kernel_rfl,X5,X6,C0,E0,C1,E1,hK0,hL0,hK1,hL1,HB⟩
       exact ar_nil
      exact ar_nil
     exact ar_nil
    exact ar_nil
   refine ar_alloc 4 (some 5) 40 [.slice none 0 0,.slice none 0 0] (by kernel_rfl) (by kernel_rfl) ?_ ?_
   ·intro v54 X5 hB
    refine ⟨joinB hS hB,?_⟩
    have hX5:=hS.size
    replace hS:=joinB hS hB
    replace HB:=joinB HB hB
    have nX6X5:=Nat.ne_of_lt X6.lt
    replace h0:=h0.keep hB
    replace e0:=e0.keep hB
    replace h1:=h1.keep hB
    replace e1:=e1.keep hB
    replace X6:=X6.keep hB
    clear hB
    refine rg_ready [1] (by kernel_rfl) (by simp) ?_
    refine ar_call 1 (some 8) 82 #[.agg #[.slice a0 n0 c0,.slice b0 m0 d0]] (by kernel_rfl) (by kernel_rfl) (qCounted h0 e0 (by omega) (by omega)) ?_ ?_
    ·rintro e v55 ⟨A0,K0,D0,B0,L0,M0,rfl,C0,E0,hK0,hL0,hB⟩
     refine ⟨_,rfl,joinB hS hB,?_⟩
     replace hS:=joinB hS hB
     replace HB:=joinB HB hB
     replace h0:=h0.keep hB
     replace e0:=e0.keep hB
     replace h1:=h1.keep hB
     replace e1:=e1.keep hB
     replace X6:=X6.keep hB
     replace X5:=X5.keep hB
     clear hB
     refine rg_ready [3] (by kernel_rfl) (by simp) ?_
     refine ar_call 3 (some 10) 82 #[.agg #[.slice a1 n1 c1,.slice b1 m1 d1]] (by kernel_rfl) (by kernel_rfl) (qCounted h1 e1 (by omega) (by omega)) ?_ ?_
     ·rintro e v56 ⟨A1,K1,D1,B1,L1,M1,rfl,C1,E1,hK1,hL1,hB⟩
      refine ⟨_,rfl,joinB hS hB,?_⟩
      replace hS:=joinB hS hB
      replace HB:=joinB HB hB
      replace h0:=h0.keep hB
      replace e0:=e0.keep hB
      replace h1:=h1.keep hB
      replace e1:=e1.keep hB
      replace C0:=C0.keep hB
      replace E0:=E0.keep hB
      replace X6:=X6.keep hB
      replace X5:=X5.keep hB
      clear hB
      refine rg_ready [6] (by kernel_rfl) (by simp) ?_
      refine ar_store 6 40 40 5 8 (v44.heap.size) [.slice none 0 0,.slice none 0 0] [.slice A0 K0 D0,.slice B0 L0 M0] (by kernel_rfl) (by kernel_rfl) (by kernel_rfl) (by kernel_rfl) X5 (by kernel_rfl) rfl (by kernel_rfl) ?_ ?_
      ·intro v57 Y hw hB
       refine ⟨hS.trans (hB.mono hX5),?_⟩
       replace HB:=HB.trans (hB.mono (Nat.le_trans hBu hX5))
       replace hS:=hS.trans (hB.mono hX5)
       replace h0:=h0.blk X5 (no_ints2 _ _ _ _ _ _) hw
       replace e0:=e0.blk X5 (no_ints2 _ _ _ _ _ _) hw
       replace h1:=h1.blk X5 (no_ints2 _ _ _ _ _ _) hw
       replace e1:=e1.blk X5 (no_ints2 _ _ _ _ _ _) hw
       replace C0:=C0.blk X5 (no_ints2 _ _ _ _ _ _) hw
       replace E0:=E0.blk X5 (no_ints2 _ _ _ _ _ _) hw
       replace C1:=C1.blk X5 (no_ints2 _ _ _ _ _ _) hw
       replace E1:=E1.blk X5 (no_ints2 _ _ _ _ _ _) hw
       replace X6:=X6.off nX6X5 hw
       replace X5:=Y
       clear hB hw
       refine rg_ready [7] (by kernel_rfl) (by simp) ?_
       refine ar_store 7 40 40 6 10 (u0.drew.heap.size) [.slice none 0 0,.slice none 0 0] [.slice A1 K1 D1,.slice B1 L1 M1] (by kernel_rfl) (by kernel_rfl) (by kernel_rfl) (by kernel_rfl) X6 (by kernel_rfl) rfl (by kernel_rfl) ?_ ?_
       ·intro v58 Y hw hB
        refine ⟨hS.trans (hB.mono hX6),?_⟩
        replace HB:=HB.trans (hB.mono (Nat.le_trans hBu hX6))
        replace hS:=hS.trans (hB.mono hX6)
        replace h0:=h0.blk X6 (no_ints2 _ _ _ _ _ _) hw
        replace e0:=e0.blk X6 (no_ints2 _ _ _ _ _ _) hw
        replace h1:=h1.blk X6 (no_ints2 _ _ _ _ _ _) hw
        replace e1:=e1.blk X6 (no_ints2 _ _ _ _ _ _) hw
        replace C0:=C0.blk X6 (no_ints2 _ _ _ _ _ _) hw
        replace E0:=E0.blk X6 (no_ints2 _ _ _ _ _ _) hw
        replace C1:=C1.blk X6 (no_ints2 _ _ _ _ _ _) hw
        replace E1:=E1.blk X6 (no_ints2 _ _ _ _ _ _) hw
        replace X5:=X5.off (Ne.symm nX6X5) hw
        replace X6:=Y
        clear hB hw
        refine rg_done (by kernel_rfl) ?_
        exact ⟨(v44.heap.size,u0.drew.heap.size,A0,K0,D0,B0,L0,M0,A1,K1,D1,B1,L1,M1),by kernel_rfl,X5,X6,C0,E0,C1,E1,hK0,hL0,hK1,hL1,HB⟩
       exact ar_nil
      exact ar_nil
     exact ar_nil
    exact ar_nil
   exact ar_nil
  exact ar_nil
 ·rintro ⟨g5,g6,A0,K0,D0,B0,L0,M0,A1,K1,D1,B1,L1,M1⟩ u1 ⟨X5,X6,C0,E0,C1,E1,hK0,hL0,hK1,hL1,HBn⟩
  replace HB:=HBn
  clear HBn h0 e0 h1 e1 P0 P1
  try simp only [putAll,Act.put,List.setIfInBounds_toArray,List.set_cons_zero,List.set_cons_succ]
  go_wp2_with fail
  refine rg_start (S:=fun w'=>Below u1.drew.heap.size u1.drew w') (by kernel_rfl) (Below.refl _ _) ?_
  replace C0:=C0.drew
  replace E0:=E0.drew
  replace C1:=C1.drew
  replace E1:=E1.drew
  replace HB:=HB.drew
  have UX5:=X5.drew
  have UX6:=X6.drew
  have hS:=Below.refl u1.drew.heap.size u1.drew
  refine rg_n 0 11 (.pointer (some ⟨g5,0,none⟩)) (by kernel_rfl) (fun _ _=>by kernel_rfl) i3 hS ?_
  refine rg_load 1 (some 12) (.slice A0 K0 D0) 33 11 (g5) 0 (by kernel_rfl) (by kernel_rfl) (by kernel_rfl) (fun _ hb=>load_at ((UX5.keep hb).cells2.1)) i3 hS ?_
  refine rg_n 2 13 (.pointer (some ⟨g6,1,none⟩)) (by kernel_rfl) (fun _ _=>by kernel_rfl) i3 hS ?_
  refine rg_load 3 (some 14) (.slice B1 L1 M1) 33 13 (g6) 1 (by kernel_rfl) (by kernel_rfl) (by kernel_rfl) (fun _ hb=>load_at ((UX6.keep hb).cells2.2.1)) i3 hS ?_
  refine rg_n 5 16 (.pointer (some ⟨g6,0,none⟩)) (by kernel_rfl) (fun _ _=>by kernel_rfl) i3 hS ?_
  refine rg_load 6 (some 17) (.slice A1 K1 D1) 33 16 (g6) 0 (by kernel_rfl) (by kernel_rfl) (by kernel_rfl) (fun _ hb=>load_at ((UX6.keep hb).cells2.1)) i3 hS ?_
  refine rg_n 7 18 (.pointer (some ⟨g5,1,none⟩)) (by kernel_rfl) (fun _ _=>by kernel_rfl) i3 hS ?_
  refine rg_load 8 (some 19) (.slice B0 L0 M0) 33 18 (g5) 1 (by kernel_rfl) (by kernel_rfl) (by kernel_rfl) (fun _ hb=>load_at ((UX5.keep hb).cells2.2.1)) i3 hS ?_
  refine rg_call 4 (some 15) 83 #[.slice A0 K0 D0,.slice B1 L1 M1] (by kernel_rfl) (by kernel_rfl) (nMul C0 E1 (by omega) (by omega)) ?_
  rintro e z1 ⟨Ap,Kp,Dp,rfl,Op1,hkp,hB⟩
  refine ⟨_,rfl,joinB hS hB,?_⟩
  replace hS:=joinB hS hB
  replace C0:=C0.keep hB
  replace E0:=E0.keep hB
  replace C1:=C1.keep hB
  replace E1:=E1.keep hB
  replace HB:=joinB HB hB
  clear hB
  refine rg_call 9 (some 20) 83 #[.slice A1 K1 D1,.slice B0 L0 M0] (by kernel_rfl) (by kernel_rfl) (nMul C1 E0 (by omega) (by omega)) ?_
  rintro e z2 ⟨Aq,Kq,Dq,rfl,Op2,hkq,hB⟩
  refine ⟨_,rfl,joinB hS hB,?_⟩
  replace hS:=joinB hS hB
  replace C0:=C0.keep hB
  replace E0:=E0.keep hB
  replace C1:=C1.keep hB
  replace E1:=E1.keep hB
  replace Op1:=Op1.keep hB
  replace HB:=joinB HB hB
  clear hB
  refine rg_call 10 (some 21) 89 #[.slice Ap Kp Dp,.slice Aq Kq Dq] (by kernel_rfl) (by kernel_rfl) (nCmp Op1.a Op2.a (by omega) (by omega)) ?_
  rintro e z3 ⟨rfl,hB⟩
  refine ⟨_,rfl,joinB hS hB,?_⟩
  replace hS:=joinB hS hB
  replace C0:=C0.keep hB
  replace E0:=E0.keep hB
  replace C1:=C1.keep hB
  replace E1:=E1.keep hB
  replace Op1:=Op1.keep hB
  replace Op2:=Op2.keep hB
  replace HB:=joinB HB hB
  clear hB
  refine rg_n 11 4 (.int .i64 (sgn ((cn x0 y0) * (cd y1)) ((cn x1 y1) * (cd y0)))) (by kernel_rfl) (fun _ _=>by kernel_rfl) i3 hS ?_
  refine rg_done (by kernel_rfl) ?_
  try simp only [Act.put,List.setIfInBounds_toArray,List.set_cons_zero,List.set_cons_succ]
  go_wp2
  go_ret
  exact ⟨rfl,HB⟩
theorem qMul {w:World} {a0 b0:Option Addr} {n0 c0 m0 d0:Nat} {x0 y0:Int} {a1 b1:Option Addr} {n1 c1 m1 d1:Nat} {x1 y1:Int} (h0:NatA w a0 n0 c0 x0) (e0:NatA w b0 m0 d0 y0) (hn0:n0<=34359738368) (hm0:m0<=34359738368) (h1:NatA w a1 n1 c1 x1) (e1:NatA w b1 m1 d1 y1) (hn1:n1<=34359738368) (hm1:m1<=34359738368) :
  Calls Tryz.prog 39 #[.agg #[.slice a0 n0 c0,.slice b0 m0 d0],.agg #[.slice a1 n1 c1,.slice b1 m1 d1]] w fun e w'=>∃ a k d a' k' d',e=.returned (.agg #[.slice a k d,.slice a' k' d'])/\NatO w' a k d (((cn x0 y0) * (cn x1 y1)) / (Int.gcd ((cn x0 y0) * (cn x1 y1)) ((cd y0) * (cd y1)):Nat))/\NatO w' a' k' d' (((cd y0) * (cd y1)) / (Int.gcd ((cn x0 y0) * (cn x1 y1)) ((cd y0) * (cd y1)):Nat))/\k<=n0 + n1/\k'<=m0 + m1 + 2/\Below w.heap.size w w':=by
 have HB:=below3 w (.cells #[.slice a0 n0 c0,.slice b0 m0 d0] 40) (.cells #[.slice a1 n1 c1,.slice b1 m1 d1] 40) (.cells #[.slice none 0 0,.slice none 0 0] 40)
 have P0:=((box_new w [.slice a0 n0 c0,.slice b0 m0 d0] 40).keep (below_alloc _ (.cells #[.slice a1 n1 c1,.slice b1 m1 d1] 40))).keep (below_alloc _ (.cells #[.slice none 0 0,.slice none 0 0] 40))
 have P1:=(box_new (w.alloc (.cells #[.slice a0 n0 c0,.slice b0 m0 d0] 40)) [.slice a1 n1 c1,.slice b1 m1 d1] 40).keep (below_alloc _ (.cells #[.slice none 0 0,.slice none 0 0] 40))
 have X4:=box_new ((w.alloc (.cells #[.slice a0 n0 c0,.slice b0 m0 d0] 40)).alloc (.cells #[.slice a1 n1 c1,.slice b1 m1 d1] 40)) [.slice none 0 0,.slice none 0 0] 40
 rw [show (w.alloc (.cells #[.slice a0 n0 c0,.slice b0 m0 d0] 40)).heap.size=w.heap.size + 1 by simp] at P1
 rw [show ((w.alloc (.cells #[.slice a0 n0 c0,.slice b0 m0 d0] 40)).alloc (.cells #[.slice a1 n1 c1,.slice b1 m1 d1] 40)).heap.size=w.heap.size + 1 + 1 by simp] at X4
 replace h0:=h0.keep HB
 replace e0:=e0.keep HB
 replace h1:=h1.keep HB
 replace e1:=e1.keep HB
 go_enter Tryz.func39,Tryz.ntmps39
 go_wp2_with fail
 generalize ((w.alloc (.cells #[.slice a0 n0 c0,.slice b0 m0 d0] 40)).alloc (.cells #[.slice a1 n1 c1,.slice b1 m1 d1] 40)).alloc (.cells #[.slice none 0 0,.slice none 0 0] 40)=u0 at *
 refine rg_mid (X:=Nat × Nat × Option Addr × Nat × Nat × Option Addr × Nat × Nat × Option Addr × Nat × Nat × Option Addr × Nat × Nat) (fun ⟨g5,g6,A0,K0,D0,B0,L0,M0,A1,K1,D1,B1,L1,M1⟩=>[(some 7,.agg #[.slice a0 n0 c0,.slice b0 m0 d0]),(some 8,.agg #[.slice A0 K0 D0,.slice B0 L0 M0]),(some 9,.agg #[.slice a1 n1 c1,.slice b1 m1 d1]),(some 10,.agg #[.slice A1 K1 D1,.slice B1 L1 M1]),(some 5,.pointer (some ⟨g5,0,none⟩)),(some 6,.pointer (some ⟨g6,0,none⟩))]) (fun ⟨g5,g6,A0,K0,D0,B0,L0,M0,A1,K1,D1,B1,L1,M1⟩ w'=>Box w' g5 [.slice A0 K0 D0,.slice B0 L0 M0] 40/\Box w' g6 [.slice A1 K1 D1,.slice B1 L1 M1] 40/\NatA w' A0 K0 D0 (cn x0 y0)/\NatA w' B0 L0 M0 (cd y0)/\NatA w' A1 K1 D1 (cn x1 y1)/\NatA w' B1 L1 M1 (cd y1)/\K0<=n0/\L0<=m0 + 1/\K1<=n1/\L1<=m1 + 1/\Box w' (w.heap.size + 1 + 1) [.slice none 0 0,.slice none 0 0] 40/\w.heap.size + 1 + 1 < g5/\w.heap.size + 1 + 1 < g6/\Below w.heap.size w w') (fun w'=>Below u0.drew.heap.size u0.drew w') (by kernel_rfl) (Below.refl _ _) ?_ ?_
 ·replace HB:=HB.drew
  have UP0:=P0.drew
  have UP1:=P1.drew
  replace h0:=h0.drew
  replace e0:=e0.drew
  replace h1:=h1.drew
  replace e1:=e1.drew
  have hBu:=HB.size
  have hS:=Below.refl u0.drew.heap.size u0.drew
  have UX4:=X4.drew
  have hX4u:=UX4.lt
  clear P0 P1 X4
  refine rg_load 0 (some 7) (.agg #[.slice a0 n0 c0,.slice b0 m0 d0]) 40 2 (w.heap.size) 0 (by kernel_rfl) (by kernel_rfl) (by kernel_rfl) (fun _ hb=>load_rat (UP0.keep hb)) i3 hS ?_
  refine rg_load 2 (some 9) (.agg #[.slice a1 n1 c1,.slice b1 m1 d1]) 40 3 (w.heap.size + 1) 0 (by kernel_rfl) (by kernel_rfl) (by kernel_rfl) (fun _ hb=>load_rat (UP1.keep hb)) i3 hS ?_
  refine rg_ready [1,4,5] (by kernel_rfl) (by simp) ?_
  refine ar_call 1 (some 8) 82 #[.agg #[.slice a0 n0 c0,.slice b0 m0 d0]] (by kernel_rfl) (by kernel_rfl) (qCounted h0 e0 (by omega) (by omega)) ?_ ?_
  ·rintro e v59 ⟨A0,K0,D0,B0,L0,M0,rfl,C0,E0,hK0,hL0,hB⟩
   refine ⟨_,rfl,joinB hS hB,?_⟩
   replace hS:=joinB hS hB
   replace HB:=joinB HB hB
   replace h0:=h0.keep hB
   replace e0:=e0.keep hB
   replace h1:=h1.keep hB
   replace e1:=e1.keep hB
   clear hB
   refine rg_ready [3,4,5] (by kernel_rfl) (by simp) ?_
   refine ar_call 3 (some 10) 82 #[.agg #[.slice a1 n1 c1,.slice b1 m1 d1]] (by kernel_rfl) (by kernel_rfl) (qCounted h1 e1 (by omega) (by omega)) ?_ ?_
   ·rintro e v60 ⟨A1,K1,D1,B1,L1,M1,rfl,C1,E1,hK1,hL1,hB⟩
    refine ⟨_,rfl,joinB hS hB,?_⟩
    replace hS:=joinB hS hB
    replace HB:=joinB HB hB
    replace h0:=h0.keep hB
    replace e0:=e0.keep hB
    replace h1:=h1.keep hB
    replace e1:=e1.keep hB
    replace C0:=C0.keep hB
    replace E0:=E0.keep hB
    clear hB
    refine rg_ready [4,5] (by kernel_rfl) (by simp) ?_
    refine ar_alloc 4 (some 5) 40 [.slice none 0 0,.slice none 0 0] (by kernel_rfl) (by kernel_rfl) ?_ ?_
    ·intro v61 X5 hB
     refine ⟨joinB hS hB,?_⟩
     have hX5:=hS.size
     replace hS:=joinB hS hB
     replace HB:=joinB HB hB
     replace h0:=h0.keep hB
     replace e0:=e0.keep hB
     replace h1:=h1.keep hB
     replace e1:=e1.keep hB
     replace C0:=C0.keep hB
     replace E0:=E0.keep hB
     replace C1:=C1.keep hB
     replace E1:=E1.keep hB
     clear hB
     refine rg_ready [5] (by kernel_rfl) (by simp) ?_
     refine ar_alloc 5 (some 6) 40 [.slice none 0 0,.slice none 0 0] (by kernel_rfl) (by kernel_rfl) ?_ ?_
     ·intro v62 X6 hB
      refine ⟨joinB hS hB,?_⟩
      have hX6:=hS.size
      replace hS:=joinB hS hB
      replace HB:=joinB HB hB
      have nX5X6:=Nat.ne_of_lt X5.lt
      replace h0:=h0.keep hB
      replace e0:=e0.keep hB
      replace h1:=h1.keep hB
      replace e1:=e1.keep hB
      replace C0:=C0.keep hB
      replace E0:=E0.keep hB
      replace C1:=C1.keep hB
      replace E1:=E1.keep hB
      replace X5:=X5.keep hB
      clear hB
      refine rg_ready [6] (by kernel_rfl) (by simp) ?_
      refine ar_store 6 40 40 5 8 (v60.heap.size) [.slice none 0 0,.slice none 0 0] [.slice A0 K0 D0,.slice B0 L0 M0] (by kernel_rfl) (by kernel_rfl) (by kernel_rfl) (by kernel_rfl) X5 (by kernel_rfl) rfl (by kernel_rfl) ?_ ?_
      ·intro v63 Y hw hB
       refine ⟨hS.trans (hB.mono hX5),?_⟩
       replace HB:=HB.trans (hB.mono (Nat.le_trans hBu hX5))
       replace hS:=hS.trans (hB.mono hX5)
       replace h0:=h0.blk X5 (no_ints2 _ _ _ _ _ _) hw
       replace e0:=e0.blk X5 (no_ints2 _ _ _ _ _ _) hw
       replace h1:=h1.blk X5 (no_ints2 _ _ _ _ _ _) hw
       replace e1:=e1.blk X5 (no_ints2 _ _ _ _ _ _) hw
       replace C0:=C0.blk X5 (no_ints2 _ _ _ _ _ _) hw
       replace E0:=E0.blk X5 (no_ints2 _ _ _ _ _ _) hw
       replace C1:=C1.blk X5 (no_ints2 _ _ _ _ _ _) hw
       replace E1:=E1.blk X5 (no_ints2 _ _ _ _ _ _) hw
       replace X6:=X6.off (Ne.symm nX5X6) hw
       replace X5:=Y
       clear hB hw
       refine rg_ready [7] (by kernel_rfl) (by simp) ?_
       refine ar_store 7 40 40 6 10 (v61.heap.size) [.slice none 0 0,.slice none 0 0] [.slice A1 K1 D1,.slice B1 L1 M1] (by kernel_rfl) (by kernel_rfl) (by kernel_rfl) (by kernel_rfl) X6 (by kernel_rfl) rfl (by kernel_rfl) ?_ ?_
       ·intro v64 Y hw hB
        refine ⟨hS.trans (hB.mono hX6),?_⟩
        replace HB:=HB.trans (hB.mono (Nat.le_trans hBu hX6))
        replace hS:=hS.trans (hB.mono hX6)
        replace h0:=h0.blk X6 (no_ints2 _ _ _ _ _ _) hw
        replace e0:=e0.blk X6 (no_ints2 _ _ _ _ _ _) hw
        replace h1:=h1.blk X6 (no_ints2 _ _ _ _ _ _) hw
        replace e1:=e1.blk X6 (no_ints2 _ _ _ _ _ _) hw
        replace C0:=C0.blk X6 (no_ints2 _ _ _ _ _ _) hw
        replace E0:=E0.blk X6 (no_ints2 _ _ _ _ _ _) hw
        replace C1:=C1.blk X6 (no_ints2 _ _ _ _ _ _) hw
        replace E1:=E1.blk X6 (no_ints2 _ _ _ _ _ _) hw
        replace X5:=X5.off nX5X6 hw
        replace X6:=Y
        clear hB hw
        refine rg_done (by kernel_rfl) ?_
        exact ⟨(v60.heap.size,v61.heap.size,A0,K0,D0,B0,L0,M0,A1,K1,D1,B1,L1,M1),by kernel_rfl,X5,X6,C0,E0,C1,E1,hK0,hL0,hK1,hL1,UX4.keep hS,Nat.lt_of_lt_of_le hX4u hX5,Nat.lt_of_lt_of_le hX4u hX6,HB⟩
       exact ar_nil
      exact ar_nil
     exact ar_nil
    refine ar_alloc 5 (some 6) 40 [.slice none 0 0,.slice none 0 0] (by kernel_rfl) (by kernel_rfl) ?_ ?_
    ·intro v65 X6 hB
     refine ⟨joinB hS hB,?_⟩
     have hX6:=hS.size
     replace hS:=joinB hS hB
     replace HB:=joinB HB hB
     replace h0:=h0.keep hB
     replace e0:=e0.keep hB
     replace h1:=h1.keep hB
     replace e1:=e1.keep hB
     replace C0:=C0.keep hB
     replace E0:=E0.keep hB
     replace C1:=C1.keep hB
     replace E1:=E1.keep hB
     clear hB
     refine rg_ready [4] (by kernel_rfl) (by simp) ?_
     refine ar_alloc 4 (some 5) 40 [.slice none 0 0,.slice none 0 0] (by kernel_rfl) (by kernel_rfl) ?_ ?_
     ·intro v66 X5 hB
      refine ⟨joinB hS hB,?_⟩
      have hX5:=hS.size
      replace hS:=joinB hS hB
      replace HB:=joinB HB hB
      have nX6X5:=Nat.ne_of_lt X6.lt
      replace h0:=h0.keep hB
      replace e0:=e0.keep hB
      replace h1:=h1.keep hB
      replace e1:=e1.keep hB
      replace C0:=C0.keep hB
      replace E0:=E0.keep hB
      replace C1:=C1.keep hB
      replace E1:=E1.keep hB
      replace X6:=X6.keep hB
      clear hB
      refine rg_ready [6] (by kernel_rfl) (by simp) ?_
      refine ar_store 6 40 40 5 8 (v65.heap.size) [.slice none 0 0,.slice none 0 0] [.slice A0 K0 D0,.slice B0 L0 M0] (by kernel_rfl) (by kernel_rfl) (by kernel_rfl) (by kernel_rfl) X5 (by kernel_rfl) rfl (by kernel_rfl) ?_ ?_
      ·intro v67 Y hw hB
       refine ⟨hS.trans (hB.mono hX5),?_⟩
       replace HB:=HB.trans (hB.mono (Nat.le_trans hBu hX5))
       replace hS:=hS.trans (hB.mono hX5)
       replace h0:=h0.blk X5 (no_ints2 _ _ _ _ _ _) hw
       replace e0:=e0.blk X5 (no_ints2 _ _ _ _ _ _) hw
       replace h1:=h1.blk X5 (no_ints2 _ _ _ _ _ _) hw
       replace e1:=e1.blk X5 (no_ints2 _ _ _ _ _ _) hw
       replace C0:=C0.blk X5 (no_ints2 _ _ _ _ _ _) hw
       replace E0:=E0.blk X5 (no_ints2 _ _ _ _ _ _) hw
       replace C1:=C1.blk X5 (no_ints2 _ _ _ _ _ _) hw
       replace E1:=E1.blk X5 (no_ints2 _ _ _ _ _ _) hw
       replace X6:=X6.off nX6X5 hw
       replace X5:=Y
       clear hB hw
       refine rg_ready [7] (by kernel_rfl) (by simp) ?_
       refine ar_store 7 40 40 6 10 (v60.heap.size) [.slice none 0 0,.slice none 0 0] [.slice A1 K1 D1,.slice B1 L1 M1] (by kernel_rfl) (by kernel_rfl) (by kernel_rfl) (by kernel_rfl) X6 (by kernel_rfl) rfl (by kernel_rfl) ?_ ?_
       ·intro v68 Y hw hB
        refine ⟨hS.trans (hB.mono hX6),?_⟩
        replace HB:=HB.trans (hB.mono (Nat.le_trans hBu hX6))
        replace hS:=hS.trans (hB.mono hX6)
        replace h0:=h0.blk X6 (no_ints2 _ _ _ _ _ _) hw
        replace e0:=e0.blk X6 (no_ints2 _ _ _ _ _ _) hw
        replace h1:=h1.blk X6 (no_ints2 _ _ _ _ _ _) hw
        replace e1:=e1.blk X6 (no_ints2 _ _ _ _ _ _) hw
        replace C0:=C0.blk X6 (no_ints2 _ _ _ _ _ _) hw
        replace E0:=E0.blk X6 (no_ints2 _ _ _ _ _ _) hw
        replace C1:=C1.blk X6 (no_ints2 _ _ _ _ _ _) hw
        replace E1:=E1.blk X6 (no_ints2 _ _ _ _ _ _) hw
        replace X5:=X5.off (Ne.symm nX6X5) hw
        replace X6:=Y
        clear hB hw
        refine rg_done (by kernel_rfl) ?_
        exact ⟨(v65.heap.size,v60.heap.size,A0,K0,D0,B0,L0,M0,A1,K1,D1,B1,L1,M1),by kernel_rfl,X5,X6,C0,E0,C1,E1,hK0,hL0,hK1,hL1,UX4.keep hS,Nat.lt_of_lt_of_le hX4u hX5,Nat.lt_of_lt_of_le hX4u hX6,HB⟩
       exact ar_nil
      exact ar_nil
     exact ar_nil
    exact ar_nil
   refine ar_alloc 4 (some 5) 40 [.slice none 0 0,.slice none 0 0] (by kernel_rfl) (by kernel_rfl) ?_ ?_
   ·intro v69 X5 hB
    refine ⟨joinB hS hB,?_⟩
    have hX5:=hS.size
    replace hS:=joinB hS hB
    replace HB:=joinB HB hB
    replace h0:=h0.keep hB
    replace e0:=e0.keep hB
    replace h1:=h1.keep hB
    replace e1:=e1.keep hB
    replace C0:=C0.keep hB
    replace E0:=E0.keep hB
    clear hB
    refine rg_ready [3,5] (by kernel_rfl) (by simp) ?_
    refine ar_call 3 (some 10) 82 #[.agg #[.slice a1 n1 c1,.slice b1 m1 d1]] (by kernel_rfl) (by kernel_rfl) (qCounted h1 e1 (by omega) (by omega)) ?_ ?_
    ·rintro e v70 ⟨A1,K1,D1,B1,L1,M1,rfl,C1,E1,hK1,hL1,hB⟩
     refine ⟨_,rfl,joinB hS hB,?_⟩
     replace hS:=joinB hS hB
     replace HB:=joinB HB hB
     replace h0:=h0.keep hB
     replace e0:=e0.keep hB
     replace h1:=h1.keep hB
     replace e1:=e1.keep hB
     replace C0:=C0.keep hB
     replace E0:=E0.keep hB
     replace X5:=X5.keep hB
     clear hB
     refine rg_ready [5] (by kernel_rfl) (by simp) ?_
     refine ar_alloc 5 (some 6) 40 [.slice none 0 0,.slice none 0 0] (by kernel_rfl) (by kernel_rfl) ?_ ?_
     ·intro v71 X6 hB
      refine ⟨joinB hS hB,?_⟩
      have hX6:=hS.size
      replace hS:=joinB hS hB
      replace HB:=joinB HB hB
      have nX5X6:=Nat.ne_of_lt X5.lt
      replace h0:=h0.keep hB
      replace e0:=e0.keep hB
      replace h1:=h1.keep hB
      replace e1:=e1.keep hB
      replace C0:=C0.keep hB
      replace E0:=E0.keep hB
      replace C1:=C1.keep hB
      replace E1:=E1.keep hB
      replace X5:=X5.keep hB
      clear hB
      refine rg_ready [6] (by kernel_rfl) (by simp) ?_
      refine ar_store 6 40 40 5 8 (v59.heap.size) [.slice none 0 0,.slice none 0 0] [.slice A0 K0 D0,.slice B0 L0 M0] (by kernel_rfl) (by kernel_rfl) (by kernel_rfl) (by kernel_rfl) X5 (by kernel_rfl) rfl (by kernel_rfl) ?_ ?_
      ·intro v72 Y hw hB
       refine ⟨hS.trans (hB.mono hX5),?_⟩
       replace HB:=HB.trans (hB.mono (Nat.le_trans hBu hX5))
       replace hS:=hS.trans (hB.mono hX5)
       replace h0:=h0.blk X5 (no_ints2 _ _ _ _ _ _) hw
       replace e0:=e0.blk X5 (no_ints2 _ _ _ _ _ _) hw
       replace h1:=h1.blk X5 (no_ints2 _ _ _ _ _ _) hw
       replace e1:=e1.blk X5 (no_ints2 _ _ _ _ _ _) hw
       replace C0:=C0.blk X5 (no_ints2 _ _ _ _ _ _) hw
       replace E0:=E0.blk X5 (no_ints2 _ _ _ _ _ _) hw
       replace C1:=C1.blk X5 (no_ints2 _ _ _ _ _ _) hw
       replace E1:=E1.blk X5 (no_ints2 _ _ _ _ _ _) hw
       replace X6:=X6.off (Ne.symm nX5X6) hw
       replace X5:=Y
       clear hB hw
       refine rg_ready [7] (by kernel_rfl) (by simp) ?_
       refine ar_store 7 40 40 6 10 (v70.heap.size) [.slice none 0 0,.slice none 0 0] [.slice A1 K1 D1,.slice B1 L1 M1] (by kernel_rfl) (by kernel_rfl) (by kernel_rfl) (by kernel_rfl) X6 (by kernel_rfl) rfl (by kernel_rfl) ?_ ?_
       ·intro v73 Y hw hB
        refine ⟨hS.trans (hB.mono hX6),?_⟩
        replace HB:=HB.trans (hB.mono (Nat.le_trans hBu hX6))
        replace hS:=hS.trans (hB.mono hX6)
        replace h0:=h0.blk X6 (no_ints2 _ _ _ _ _ _) hw
        replace e0:=e0.blk X6 (no_ints2 _ _ _ _ _ _) hw
        replace h1:=h1.blk X6 (no_ints2 _ _ _ _ _ _) hw
        replace e1:=e1.blk X6 (no_ints2 _ _ _ _ _ _) hw
        replace C0:=C0.blk X6 (no_ints2 _ _ _ _ _ _) hw
        replace E0:=E0.blk X6 (no_ints2 _ _ _ _ _ _) hw
        replace C1:=C1.blk X6 (no_ints2 _ _ _ _ _ _) hw
        replace E1:=E1.blk X6 (no_ints2 _ _ _ _ _ _) hw
        replace X5:=X5.off nX5X6 hw
        replace X6:=Y
        clear hB hw
        refine rg_done (by kernel_rfl) ?_
        exact ⟨(v59.heap.size,v70.heap.size,A0,K0,D0,B0,L0,M0,A1,K1,D1,B1,L1,M1),by kernel_rfl,X5,X6,C0,E0,C1,E1,hK0,hL0,hK1,hL1,UX4.keep hS,Nat.lt_of_lt_of_le hX4u hX5,Nat.lt_of_lt_of_le hX4u hX6,HB⟩
       exact ar_nil
      exact ar_nil
     exact ar_nil
    refine ar_alloc 5 (some 6) 40 [.slice none 0 0,.slice none 0 0] (by kernel_rfl) (by kernel_rfl) ?_ ?_
    ·intro v74 X6 hB
     refine ⟨joinB hS hB,?_⟩
     have hX6:=hS.size
     replace hS:=joinB hS hB
     replace HB:=joinB HB hB
     have nX5X6:=Nat.ne_of_lt X5.lt
     replace h0:=h0.keep hB
     replace e0:=e0.keep hB
     replace h1:=h1.keep hB
     replace e1:=e1.keep hB
     replace C0:=C0.keep hB
     replace E0:=E0.keep hB
     replace X5:=X5.keep hB
     clear hB
     refine rg_ready [3] (by kernel_rfl) (by simp) ?_
     refine ar_call 3 (some 10) 82 #[.agg #[.slice a1 n1 c1,.slice b1 m1 d1]] (by kernel_rfl) (by kernel_rfl) (qCounted h1 e1 (by omega) (by omega)) ?_ ?_
     ·rintro e v75 ⟨A1,K1,D1,B1,L1,M1,rfl,C1,E1,hK1,hL1,hB⟩
      refine ⟨_,rfl,joinB hS hB,?_⟩
      replace hS:=joinB hS hB
      replace HB:=joinB HB hB
      replace h0:=h0.keep hB
      replace e0:=e0.keep hB
      replace h1:=h1.keep hB
      replace e1:=e1.keep hB
      replace C0:=C0.keep hB
      replace E0:=E0.keep hB
      replace X5:=X5.keep hB
      replace X6:=X6.keep hB
      clear hB
      refine rg_ready [6] (by kernel_rfl) (by simp) ?_
      refine ar_store 6 40 40 5 8 (v59.heap.size) [.slice none 0 0,.slice none 0 0] [.slice A0 K0 D0,.slice B0 L0 M0] (by kernel_rfl) (by kernel_rfl) (by kernel_rfl) (by kernel_rfl) X5 (by kernel_rfl) rfl (by kernel_rfl) ?_ ?_
      ·intro v76 Y hw hB
       refine ⟨hS.trans (hB.mono hX5),?_⟩
       replace HB:=HB.trans (hB.mono (Nat.le_trans hBu hX5))
       replace hS:=hS.trans (hB.mono hX5)
       replace h0:=h0.blk X5 (no_ints2 _ _ _ _ _ _) hw
       replace e0:=e0.blk X5 (no_ints2 _ _ _ _ _ _) hw
       replace h1:=h1.blk X5 (no_ints2 _ _ _ _ _ _) hw
       replace e1:=e1.blk X5 (no_ints2 _ _ _ _ _ _) hw
       replace C0:=C0.blk X5 (no_ints2 _ _ _ _ _ _) hw
       replace E0:=E0.blk X5 (no_ints2 _ _ _ _ _ _) hw
       replace C1:=C1.blk X5 (no_ints2 _ _ _ _ _ _) hw
       replace E1:=E1.blk X5 (no_ints2 _ _ _ _ _ _) hw
       replace X6:=X6.off (Ne.symm nX5X6) hw
       replace X5:=Y
       clear hB hw
       refine rg_ready [7] (by kernel_rfl) (by simp) ?_
       refine ar_store 7 40 40 6 10 (v69.heap.size) [.slice none 0 0,.slice none 0 0] [.slice A1 K1 D1,.slice B1 L1 M1] (by kernel_rfl) (by kernel_rfl) (by kernel_rfl) (by kernel_rfl) X6 (by kernel_rfl) rfl (by kernel_rfl) ?_ ?_
       ·intro v77 Y hw hB
        refine ⟨hS.trans (hB.mono hX6),?_⟩
        replace HB:=HB.trans (hB.mono (Nat.le_trans hBu hX6))
        replace hS:=hS.trans (hB.mono hX6)
        replace h0:=h0.blk X6 (no_ints2 _ _ _ _ _ _) hw
        replace e0:=e0.blk X6 (no_ints2 _ _ _ _ _ _) hw
        replace h1:=h1.blk X6 (no_ints2 _ _ _ _ _ _) hw
        replace e1:=e1.blk X6 (no_ints2 _ _ _ _ _ _) hw
        replace C0:=C0.blk X6 (no_ints2 _ _ _ _ _ _) hw
        replace E0:=E0.blk X6 (no_ints2 _ _ _ _ _ _) hw
        replace C1:=C1.blk X6 (no_ints2 _ _ _ _ _ _) hw
        replace E1:=E1.blk X6 (no_ints2 _ _ _ _ _ _) hw
        replace X5:=X5.off nX5X6 hw
        replace X6:=Y
        clear hB hw
        refine rg_done (by kernel_rfl) ?_
        exact ⟨(v59.heap.size,v69.heap.size,A0,K0,D0,B0,L0,M0,A1,K1,D1,B1,L1,M1),by kernel_rfl,X5,X6,C0,E0,C1,E1,hK0,hL0,hK1,hL1,UX4.keep hS,Nat.lt_of_lt_of_le hX4u hX5,Nat.lt_of_lt_of_le hX4u hX6,HB⟩
       exact ar_nil
      exact ar_nil
     exact ar_nil
    exact ar_nil
   refine ar_alloc 5 (some 6) 40 [.slice none 0 0,.slice none 0 0] (by kernel_rfl) (by kernel_rfl) ?_ ?_
   ·intro v78 X6 hB
    refine ⟨joinB hS hB,?_⟩
    have hX6:=hS.size
    replace hS:=joinB hS hB
    replace HB:=joinB HB hB
    replace h0:=h0.keep hB
    replace e0:=e0.keep hB
    replace h1:=h1.keep hB
    replace e1:=e1.keep hB
    replace C0:=C0.keep hB
    replace E0:=E0.keep hB
    clear hB
    refine rg_ready [3,4] (by kernel_rfl) (by simp) ?_
    refine ar_call 3 (some 10) 82 #[.agg #[.slice a1 n1 c1,.slice b1 m1 d1]] (by kernel_rfl) (by kernel_rfl) (qCounted h1 e1 (by omega) (by omega)) ?_ ?_
    ·rintro e v79 ⟨A1,K1,D1,B1,L1,M1,rfl,C1,E1,hK1,hL1,hB⟩
     refine ⟨_,rfl,joinB hS hB,?_⟩
     replace hS:=joinB hS hB
     replace HB:=joinB HB hB
     replace h0:=h0.keep hB
     replace e0:=e0.keep hB
     replace h1:=h1.keep hB
     replace e1:=e1.keep hB
     replace C0:=C0.keep hB
     replace E0:=E0.keep hB
     replace X6:=X6.keep hB
     clear hB
     refine rg_ready [4] (by kernel_rfl) (by simp) ?_
     refine ar_alloc 4 (some 5) 40 [.slice none 0 0,.slice none 0 0] (by kernel_rfl) (by kernel_rfl) ?_ ?_
     ·intro v80 X5 hB
      refine ⟨joinB hS hB,?_⟩
      have hX5:=hS.size
      replace hS:=joinB hS hB
      replace HB:=joinB HB hB
      have nX6X5:=Nat.ne_of_lt X6.lt
      replace h0:=h0.keep hB
      replace e0:=e0.keep hB
      replace h1:=h1.keep hB
      replace e1:=e1.keep hB
      replace C0:=C0.keep hB
      replace E0:=E0.keep hB
      replace C1:=C1.keep hB
      replace E1:=E1.keep hB
      replace X6:=X6.keep hB
      clear hB
      refine rg_ready [6] (by kernel_rfl) (by simp) ?_
      refine ar_store 6 40 40 5 8 (v79.heap.size) [.slice none 0 0,.slice none 0 0] [.slice A0 K0 D0,.slice B0 L0 M0] (by kernel_rfl) (by kernel_rfl) (by kernel_rfl) (by kernel_rfl) X5 (by kernel_rfl) rfl (by kernel_rfl) ?_ ?_
      ·intro v81 Y hw hB
       refine ⟨hS.trans (hB.mono hX5),?_⟩
       replace HB:=HB.trans (hB.mono (Nat.le_trans hBu hX5))
       replace hS:=hS.trans (hB.mono hX5)
       replace h0:=h0.blk X5 (no_ints2 _ _ _ _ _ _) hw
       replace e0:=e0.blk X5 (no_ints2 _ _ _ _ _ _) hw
       replace h1:=h1.blk X5 (no_ints2 _ _ _ _ _ _) hw
       replace e1:=e1.blk X5 (no_ints2 _ _ _ _ _ _) hw
       replace C0:=C0.blk X5 (no_ints2 _ _ _ _ _ _) hw
       replace E0:=E0.blk X5 (no_ints2 _ _ _ _ _ _) hw
       replace C1:=C1.blk X5 (no_ints2 _ _ _ _ _ _) hw
       replace E1:=E1.blk X5 (no_ints2 _ _ _ _ _ _) hw
       replace X6:=X6.off nX6X5 hw
       replace X5:=Y
       clear hB hw
       refine rg_ready [7] (by kernel_rfl) (by simp) ?_
       refine ar_store 7 40 40 6 10 (v59.heap.size) [.slice none 0 0,.slice none 0 0] [.slice A1 K1 D1,.slice B1 L1 M1] (by kernel_rfl) (by kernel_rfl) (by kernel_rfl) (by kernel_rfl) X6 (by kernel_rfl) rfl (by kernel_rfl) ?_ ?_
       ·intro v82 Y hw hB
        refine ⟨hS.trans (hB.mono hX6),?_⟩
        replace HB:=HB.trans (hB.mono (Nat.le_trans hBu hX6))
        replace hS:=hS.trans (hB.mono hX6)
        replace h0:=h0.blk X6 (no_ints2 _ _ _ _ _ _) hw
        replace e0:=e0.blk X6 (no_ints2 _ _ _ _ _ _) hw
        replace h1:=h1.blk X6 (no_ints2 _ _ _ _ _ _) hw
        replace e1:=e1.blk X6 (no_ints2 _ _ _ _ _ _) hw
        replace C0:=C0.blk X6 (no_ints2 _ _ _ _ _ _) hw
        replace E0:=E0.blk X6 (no_ints2 _ _ _ _ _ _) hw
        replace C1:=C1.blk X6 (no_ints2 _ _ _ _ _ _) hw
        replace E1:=E1.blk X6 (no_ints2 _ _ _ _ _ _) hw
        replace X5:=X5.off (Ne.symm nX6X5) hw
        replace X6:=Y
        clear hB hw
        refine rg_done (by kernel_rfl) ?_
        exact ⟨(v79.heap.size,v59.heap.size,A0,K0,D0,B0,L0,M0,A1,K1,D1,B1,L1,M1),by kernel_rfl,X5,X6,C0,E0,C1,E1,hK0,hL0,hK1,hL1,UX4.keep hS,Nat.lt_of_lt_of_le hX4u hX5,Nat.lt_of_lt_of_le hX4u hX6,HB⟩
       exact ar_nil
      exact ar_nil
     exact ar_nil
    refine ar_alloc 4 (some 5) 40 [.slice none 0 0,.slice none 0 0] (by kernel_rfl) (by kernel_rfl) ?_ ?_
    ·intro v83 X5 hB
     refine ⟨joinB hS hB,?_⟩
     have hX5:=hS.size
     replace hS:=joinB hS hB
     replace HB:=joinB HB hB
     have nX6X5:=Nat.ne_of_lt X6.lt
     replace h0:=h0.keep hB
     replace e0:=e0.keep hB
     replace h1:=h1.keep hB
     replace e1:=e1.keep hB
     replace C0:=C0.keep hB
     replace E0:=E0.keep hB
     replace X6:=X6.keep hB
     clear hB
     refine rg_ready [3] (by kernel_rfl) (by simp) ?_
     refine ar_call 3 (some 10) 82 #[.agg #[.slice a1 n1 c1,.slice b1 m1 d1]] (by kernel_rfl) (by kernel_rfl) (qCounted h1 e1 (by omega) (by omega)) ?_ ?_
     ·rintro e v84 ⟨A1,K1,D1,B1,L1,M1,rfl,C1,E1,hK1,hL1,hB⟩
      refine ⟨_,rfl,joinB hS hB,?_⟩
      replace hS:=joinB hS hB
      replace HB:=joinB HB hB
      replace h0:=h0.keep hB
      replace e0:=e0.keep hB
      replace h1:=h1.keep hB
      replace e1:=e1.keep hB
      replace C0:=C0.keep hB
      replace E0:=E0.keep hB
      replace X6:=X6.keep hB
      replace X5:=X5.keep hB
      clear hB
      refine rg_ready [6] (by kernel_rfl) (by simp) ?_
      refine ar_store 6 40 40 5 8 (v78.heap.size) [.slice none 0 0,.slice none 0 0] [.slice A0 K0 D0,.slice B0 L0 M0] (by kernel_rfl) (by kernel_rfl) (by kernel_rfl) (by kernel_rfl) X5 (by kernel_rfl) rfl (by kernel_rfl) ?_ ?_
      ·intro v85 Y hw hB
       refine ⟨hS.trans (hB.mono hX5),?_⟩
       replace HB:=HB.trans (hB.mono (Nat.le_trans hBu hX5))
       replace hS:=hS.trans (hB.mono hX5)
       replace h0:=h0.blk X5 (no_ints2 _ _ _ _ _ _) hw
       replace e0:=e0.blk X5 (no_ints2 _ _ _ _ _ _) hw
       replace h1:=h1.blk X5 (no_ints2 _ _ _ _ _ _) hw
       replace e1:=e1.blk X5 (no_ints2 _ _ _ _ _ _) hw
       replace C0:=C0.blk X5 (no_ints2 _ _ _ _ _ _) hw
       replace E0:=E0.blk X5 (no_ints2 _ _ _ _ _ _) hw
       replace C1:=C1.blk X5 (no_ints2 _ _ _ _ _ _) hw
       replace E1:=E1.blk X5 (no_ints2 _ _ _ _ _ _) hw
       replace X6:=X6.off nX6X5 hw
       replace X5:=Y
       clear hB hw
       refine rg_ready [7] (by kernel_rfl) (by simp) ?_
       refine ar_store 7 40 40 6 10 (v59.heap.size) [.slice none 0 0,.slice none 0 0] [.slice A1 K1 D1,.slice B1 L1 M1] (by kernel_rfl) (by kernel_rfl) (by kernel_rfl) (by kernel_rfl) X6 (by kernel_rfl) rfl (by kernel_rfl) ?_ ?_
       ·intro v86 Y hw hB
        refine ⟨hS.trans (hB.mono hX6),?_⟩
        replace HB:=HB.trans (hB.mono (Nat.le_trans hBu hX6))
        replace hS:=hS.trans (hB.mono hX6)
        replace h0:=h0.blk X6 (no_ints2 _ _ _ _ _ _) hw
        replace e0:=e0.blk X6 (no_ints2 _ _ _ _ _ _) hw
        replace h1:=h1.blk X6 (no_ints2 _ _ _ _ _ _) hw
        replace e1:=e1.blk X6 (no_ints2 _ _ _ _ _ _) hw
        replace C0:=C0.blk X6 (no_ints2 _ _ _ _ _ _) hw
        replace E0:=E0.blk X6 (no_ints2 _ _ _ _ _ _) hw
        replace C1:=C1.blk X6 (no_ints2 _ _ _ _ _ _) hw
        replace E1:=E1.blk X6 (no_ints2 _ _ _ _ _ _) hw
        replace X5:=X5.off (Ne.symm nX6X5) hw
        replace X6:=Y
        clear hB hw
        refine rg_done (by kernel_rfl) ?_
        exact ⟨(v78.heap.size,v59.heap.size,A0,K0,D0,B0,L0,M0,A1,K1,D1,B1,L1,M1),by kernel_rfl,X5,X6,C0,E0,C1,E1,hK0,hL0,hK1,hL1,UX4.keep hS,Nat.lt_of_lt_of_le hX4u hX5,Nat.lt_of_lt_of_le hX4u hX6,HB⟩
       exact ar_nil
      exact ar_nil
     exact ar_nil
    exact ar_nil
   exact ar_nil
  refine ar_alloc 4 (some 5) 40 [.slice none 0 0,.slice none 0 0] (by kernel_rfl) (by kernel_rfl) ?_ ?_
  ·intro v87 X5 hB
   refine ⟨joinB hS hB,?_⟩
   have hX5:=hS.size
   replace hS:=joinB hS hB
   replace HB:=joinB HB hB
   replace h0:=h0.keep hB
   replace e0:=e0.keep hB
   replace h1:=h1.keep hB
   replace e1:=e1.keep hB
   clear hB
   refine rg_ready [1,5] (by kernel_rfl) (by simp) ?_
   refine ar_call 1 (some 8) 82 #[.agg #[.slice a0 n0 c0,.slice b0 m0 d0]] (by kernel_rfl) (by kernel_rfl) (qCounted h0 e0 (by omega) (by omega)) ?_ ?_
   ·rintro e v88 ⟨A0,K0,D0,B0,L0,M0,rfl,C0,E0,hK0,hL0,hB⟩
    refine ⟨_,rfl,joinB hS hB,?_⟩
    replace hS:=joinB hS hB
    replace HB:=joinB HB hB
    replace h0:=h0.keep hB
    replace e0:=e0.keep hB
    replace h1:=h1.keep hB
    replace e1:=e1.keep hB
    replace X5:=X5.keep hB
    clear hB
    refine rg_ready [3,5] (by kernel_rfl) (by simp) ?_
    refine ar_call 3 (some 10) 82 #[.agg #[.slice a1 n1 c1,.slice b1 m1 d1]] (by kernel_rfl) (by kernel_rfl) (qCounted h1 e1 (by omega) (by omega)) ?_ ?_
    ·rintro e v89 ⟨A1,K1,D1,B1,L1,M1,rfl,C1,E1,hK1,hL1,hB⟩
     refine ⟨_,rfl,joinB hS hB,?_⟩
     replace hS:=joinB hS hB
     replace HB:=joinB HB hB
     replace h0:=h0.keep hB
     replace e0:=e0.keep hB
     replace h1:=h1.keep hB
     replace e1:=e1.keep hB
     replace C0:=C0.keep hB
     replace E0:=E0.keep hB
     replace X5:=X5.keep hB
     clear hB
     refine rg_ready [5] (by kernel_rfl) (by simp) ?_
     refine ar_alloc 5 (some 6) 40 [.slice none 0 0,.slice none 0 0] (by kernel_rfl) (by kernel_rfl) ?_ ?_
     ·intro v90 X6 hB
      refine ⟨joinB hS hB,?_⟩
      have hX6:=hS.size
      replace hS:=joinB hS hB
      replace HB:=joinB HB hB
      have nX5X6:=Nat.ne_of_lt X5.lt
      replace h0:=h0.keep hB
      replace e0:=e0.keep hB
      replace h1:=h1.keep hB
      replace e1:=e1.keep hB
      replace C0:=C0.keep hB
      replace E0:=E0.keep hB
      replace C1:=C1.keep hB
      replace E1:=E1.keep hB
      replace X5:=X5.keep hB
      clear hB
      refine rg_ready [6] (by kernel_rfl) (by simp) ?_
      refine ar_store 6 40 40 5 8 (u0.drew.heap.size) [.slice none 0 0,.slice none 0 0] [.slice A0 K0 D0,.slice B0 L0 M0] (by kernel_rfl) (by kernel_rfl) (by kernel_rfl) (by kernel_rfl) X5 (by kernel_rfl) rfl (by kernel_rfl) ?_ ?_
      ·intro v91 Y hw hB
       refine ⟨hS.trans (hB.mono hX5),?_⟩
       replace HB:=HB.trans (hB.mono (Nat.le_trans hBu hX5))
       replace hS:=hS.trans (hB.mono hX5)
       replace h0:=h0.blk X5 (no_ints2 _ _ _ _ _ _) hw
       replace e0:=e0.blk X5 (no_ints2 _ _ _ _ _ _) hw
       replace h1:=h1.blk X5 (no_ints2 _ _ _ _ _ _) hw
       replace e1:=e1.blk X5 (no_ints2 _ _ _ _ _ _) hw
       replace C0:=C0.blk X5 (no_ints2 _ _ _ _ _ _) hw
       replace E0:=E0.blk X5 (no_ints2 _ _ _ _ _ _) hw
       replace C1:=C1.blk X5 (no_ints2 _ _ _ _ _ _) hw
       replace E1:=E1.blk X5 (no_ints2 _ _ _ _ _ _) hw
       replace X6:=X6.off (Ne.symm nX5X6) hw
       replace X5:=Y
       clear hB hw
       refine rg_ready [7] (by kernel_rfl) (by simp) ?_
       refine ar_store 7 40 40 6 10 (v89.heap.size) [.slice none 0 0,.slice none 0 0] [.slice A1 K1 D1,.slice B1 L1 M1] (by kernel_rfl) (by kernel_rfl) (by kernel_rfl) (by kernel_rfl) X6 (by kernel_rfl) rfl (by kernel_rfl) ?_ ?_
       ·intro v92 Y hw hB
        refine ⟨hS.trans (hB.mono hX6),?_⟩
        replace HB:=HB.trans (hB.mono (Nat.le_trans hBu hX6))
        replace hS:=hS.trans (hB.mono hX6)
        replace h0:=h0.blk X6 (no_ints2 _ _ _ _ _ _) hw
        replace e0:=e0.blk X6 (no_ints2 _ _ _ _ _ _) hw
        replace h1:=h1.blk X6 (no_ints2 _ _ _ _ _ _) hw
        replace e1:=e1.blk X6 (no_ints2 _ _ _ _ _ _) hw
        replace C0:=C0.blk X6 (no_ints2 _ _ _ _ _ _) hw
        replace E0:=E0.blk X6 (no_ints2 _ _ _ _ _ _) hw
        replace C1:=C1.blk X6 (no_ints2 _ _ _ _ _ _) hw
        replace E1:=E1.blk X6 (no_ints2 _ _ _ _ _ _) hw
        replace X5:=X5.off nX5X6 hw
        replace X6:=Y
        clear hB hw
        refine rg_done (by kernel_rfl) ?_
        exact ⟨(u0.drew.heap.size,v89.heap.size,A0,K0,D0,B0,L0,M0,A1,K1,D1,B1,L1,M1),by kernel_rfl,X5,X6,C0,E0,C1,E1,hK0,hL0,hK1,hL1,UX4.keep hS,Nat.lt_of_lt_of_le hX4u hX5,Nat.lt_of_lt_of_le hX4u hX6,HB⟩
       exact ar_nil
      exact ar_nil
     exact ar_nil
    refine ar_alloc 5 (some 6) 40 [.slice none 0 0,.slice none 0 0] (by kernel_rfl) (by kernel_rfl) ?_ ?_
    ·intro v93 X6 hB
     refine ⟨joinB hS hB,?_⟩
     have hX6:=hS.size
     replace hS:=joinB hS hB
     replace HB:=joinB HB hB
     have nX5X6:=Nat.ne_of_lt X5.lt
     replace h0:=h0.keep hB
     replace e0:=e0.keep hB
     replace h1:=h1.keep hB
     replace e1:=e1.keep hB
     replace C0:=C0.keep hB
     replace E0:=E0.keep hB
     replace X5:=X5.keep hB
     clear hB
     refine rg_ready [3] (by kernel_rfl) (by simp) ?_
     refine ar_call 3 (some 10) 82 #[.agg #[.slice a1 n1 c1,.slice b1 m1 d1]] (by kernel_rfl) (by kernel_rfl) (qCounted h1 e1 (by omega) (by omega)) ?_ ?_
     ·rintro e v94 ⟨A1,K1,D1,B1,L1,M1,rfl,C1,E1,hK1,hL1,hB⟩
      refine ⟨_,rfl,joinB hS hB,?_⟩
      replace hS:=joinB hS hB
      replace HB:=joinB HB hB
      replace h0:=h0.keep hB
      replace e0:=e0.keep hB
      replace h1:=h1.keep hB
      replace e1:=e1.keep hB
      replace C0:=C0.keep hB
      replace E0:=E0.keep hB
      replace X5:=X5.keep hB
      replace X6:=X6.keep hB
      clear hB
      refine rg_ready [6] (by kernel_rfl) (by simp) ?_
      refine ar_store 6 40 40 5 8 (u0.drew.heap.size) [.slice none 0 0,.slice none 0 0] [.slice A0 K0 D0,.slice B0 L0 M0] (by kernel_rfl) (by kernel_rfl) (by kernel_rfl) (by kernel_rfl) X5 (by kernel_rfl) rfl (by kernel_rfl) ?_ ?_
      ·intro v95 Y hw hB
       refine ⟨hS.trans (hB.mono hX5),?_⟩
       replace HB:=HB.trans (hB.mono (Nat.le_trans hBu hX5))
       replace hS:=hS.trans (hB.mono hX5)
       replace h0:=h0.blk X5 (no_ints2 _ _ _ _ _ _) hw
       replace e0:=e0.blk X5 (no_ints2 _ _ _ _ _ _) hw
       replace h1:=h1.blk X5 (no_ints2 _ _ _ _ _ _) hw
       replace e1:=e1.blk X5 (no_ints2 _ _ _ _ _ _) hw
       replace C0:=C0.blk X5 (no_ints2 _ _ _ _ _ _) hw
       replace E0:=E0.blk X5 (no_ints2 _ _ _ _ _ _) hw
       replace C1:=C1.blk X5 (no_ints2 _ _ _ _ _ _) hw
       replace E1:=E1.blk X5 (no_ints2 _ _ _ _ _ _) hw
       replace X6:=X6.off (Ne.symm nX5X6) hw
       replace X5:=Y
       clear hB hw
       refine rg_ready [7] (by kernel_rfl) (by simp) ?_
       refine ar_store 7 40 40 6 10 (v88.heap.size) [.slice none 0 0,.slice none 0 0] [.slice A1 K1 D1,.slice B1 L1 M1] (by kernel_rfl) (by kernel_rfl) (by kernel_rfl) (by kernel_rfl) X6 (by kernel_rfl) rfl (by kernel_rfl) ?_ ?_
       ·intro v96 Y hw hB
        refine ⟨hS.trans (hB.mono hX6),?_⟩
        replace HB:=HB.trans (hB.mono (Nat.le_trans hBu hX6))
        replace hS:=hS.trans (hB.mono hX6)
        replace h0:=h0.blk X6 (no_ints2 _ _ _ _ _ _) hw
        replace e0:=e0.blk X6 (no_ints2 _ _ _ _ _ _) hw
        replace h1:=h1.blk X6 (no_ints2 _ _ _ _ _ _) hw
        replace e1:=e1.blk X6 (no_ints2 _ _ _ _ _ _) hw
        replace C0:=C0.blk X6 (no_ints2 _ _ _ _ _ _) hw
        replace E0:=E0.blk X6 (no_ints2 _ _ _ _ _ _) hw
        replace C1:=C1.blk X6 (no_ints2 _ _ _ _ _ _) hw
        replace E1:=E1.blk X6 (no_ints2 _ _ _ _ _ _) hw
        replace X5:=X5.off nX5X6 hw
        replace X6:=Y
        clear hB hw
        refine rg_done (by kernel_rfl) ?_
        exact ⟨(u0.drew.heap.size,v88.heap.size,A0,K0,D0,B0,L0,M0,A1,K1,D1,B1,L1,M1),by kernel_rfl,X5,X6,C0,E0,C1,E1,hK0,hL0,hK1,hL1,UX4.keep hS,Nat.lt_of_lt_of_le hX4u hX5,Nat.lt_of_lt_of_le hX4u hX6,HB⟩
       exact ar_nil
      exact ar_nil
     exact ar_nil
    exact ar_nil
   refine ar_alloc 5 (some 6) 40 [.slice none 0 0,.slice none 0 0] (by kernel_rfl) (by kernel_rfl) ?_ ?_
   ·intro v97 X6 hB
    refine ⟨joinB hS hB,?_⟩
    have hX6:=hS.size
    replace hS:=joinB hS hB
    replace HB:=joinB HB hB
    have nX5X6:=Nat.ne_of_lt X5.lt
    replace h0:=h0.keep hB
    replace e0:=e0.keep hB
    replace h1:=h1.keep hB
    replace e1:=e1.keep hB
    replace X5:=X5.keep hB
    clear hB
    refine rg_ready [1] (by kernel_rfl) (by simp) ?_
    refine ar_call 1 (some 8) 82 #[.agg #[.slice a0 n0 c0,.slice b0 m0 d0]] (by kernel_rfl) (by kernel_rfl) (qCounted h0 e0 (by omega) (by omega)) ?_ ?_
    ·rintro e v98 ⟨A0,K0,D0,B0,L0,M0,rfl,C0,E0,hK0,hL0,hB⟩
     refine ⟨_,rfl,joinB hS hB,?_⟩
     replace hS:=joinB hS hB
     replace HB:=joinB HB hB
     replace h0:=h0.keep hB
     replace e0:=e0.keep hB
     replace h1:=h1.keep hB
     replace e1:=e1.keep hB
     replace X5:=X5.keep hB
     replace X6:=X6.keep hB
     clear hB
     refine rg_ready [3] (by kernel_rfl) (by simp) ?_
     refine ar_call 3 (some 10) 82 #[.agg #[.slice a1 n1 c1,.slice b1 m1 d1]] (by kernel_rfl) (by kernel_rfl) (qCounted h1 e1 (by omega) (by omega)) ?_ ?_
     ·rintro e v99 ⟨A1,K1,D1,B1,L1,M1,rfl,C1,E1,hK1,hL1,hB⟩
      refine ⟨_,rfl,joinB hS hB,?_⟩
      replace hS:=joinB hS hB
      replace HB:=joinB HB hB
      replace h0:=h0.keep hB
      replace e0:=e0.keep hB
      replace h1:=h1.keep hB
      replace e1:=e1.keep hB
      replace C0:=C0.keep hB
      replace E0:=E0.keep hB
      replace X5:=X5.keep hB
      replace X6:=X6.keep hB
      clear hB
      refine rg_ready [6] (by kernel_rfl) (by simp) ?_
      refine ar_store 6 40 40 5 8 (u0.drew.heap.size) [.slice none 0 0,.slice none 0 0] [.slice A0 K0 D0,.slice B0 L0 M0] (by kernel_rfl) (by kernel_rfl) (by kernel_rfl) (by kernel_rfl) X5 (by kernel_rfl) rfl (by kernel_rfl) ?_ ?_
      ·intro v100 Y hw hB
       refine ⟨hS.trans (hB.mono hX5),?_⟩
       replace HB:=HB.trans (hB.mono (Nat.le_trans hBu hX5))
       replace hS:=hS.trans (hB.mono hX5)
       replace h0:=h0.blk X5 (no_ints2 _ _ _ _ _ _) hw
       replace e0:=e0.blk X5 (no_ints2 _ _ _ _ _ _) hw
       replace h1:=h1.blk X5 (no_ints2 _ _ _ _ _ _) hw
       replace e1:=e1.blk X5 (no_ints2 _ _ _ _ _ _) hw
       replace C0:=C0.blk X5 (no_ints2 _ _ _ _ _ _) hw
       replace E0:=E0.blk X5 (no_ints2 _ _ _ _ _ _) hw
       replace C1:=C1.blk X5 (no_ints2 _ _ _ _ _ _) hw
       replace E1:=E1.blk X5 (no_ints2 _ _ _ _ _ _) hw
       replace X6:=X6.off (Ne.symm nX5X6) hw
       replace X5:=Y
       clear hB hw
       refine rg_ready [7] (by kernel_rfl) (by simp) ?_
       refine ar_store 7 40 40 6 10 (v87.heap.size) [.slice none 0 0,.slice none 0 0] [.slice A1 K1 D1,.slice B1 L1 M1] (by kernel_rfl) (by kernel_rfl) (by kernel_rfl) (by kernel_rfl) X6 (by kernel_rfl) rfl (by kernel_rfl) ?_ ?_
       ·intro v101 Y hw hB
        refine ⟨hS.trans (hB.mono hX6),?_⟩
        replace HB:=HB.trans (hB.mono (Nat.le_trans hBu hX6))
        replace hS:=hS.trans (hB.mono hX6)
        replace h0:=h0.blk X6 (no_ints2 _ _ _ _ _ _) hw
        replace e0:=e0.blk X6 (no_ints2 _ _ _ _ _ _) hw
        replace h1:=h1.blk X6 (no_ints2 _ _ _ _ _ _) hw
        replace e1:=e1.blk X6 (no_ints2 _ _ _ _ _ _) hw
        replace C0:=C0.blk X6 (no_ints2 _ _ _ _ _ _) hw
        replace E0:=E0.blk X6 (no_ints2 _ _ _ _ _ _) hw
        replace C1:=C1.blk X6 (no_ints2 _ _ _ _ _ _) hw
        replace E1:=E1.blk X6 (no_ints2 _ _ _ _ _ _) hw
        replace X5:=X5.off nX5X6 hw
        replace X6:=Y
        clear hB hw
        refine rg_done (by kernel_rfl) ?_
        exact ⟨(u0.drew.heap.size,v87.heap.size,A0,K0,D0,B0,L0,M0,A1,K1,D1,B1,L1,M1),by kernel_rfl,X5,X6,C0,E0,C1,E1,hK0,hL0,hK1,hL1,UX4.keep hS,Nat.lt_of_lt_of_le hX4u hX5,Nat.lt_of_lt_of_le hX4u hX6,HB⟩
       exact ar_nil
      exact ar_nil
     exact ar_nil
    exact ar_nil
   exact ar_nil
  refine ar_alloc 5 (some 6) 40 [.slice none 0 0,.slice none 0 0] (by kernel_rfl) (by kernel_rfl) ?_ ?_
  ·intro v102 X6 hB
   refine ⟨joinB hS hB,?_⟩
   have hX6:=hS.size
   replace hS:=joinB hS hB
   replace HB:=joinB HB hB
   replace h0:=h0.keep hB
   replace e0:=e0.keep hB
   replace h1:=h1.keep hB
   replace e1:=e1.keep hB
   clear hB
   refine rg_ready [1,4] (by kernel_rfl) (by simp) ?_
   refine ar_call 1 (some 8) 82 #[.agg #[.slice a0 n0 c0,.slice b0 m0 d0]] (by kernel_rfl) (by kernel_rfl) (qCounted h0 e0 (by omega) (by omega)) ?_ ?_
   ·rintro e v103 ⟨A0,K0,D0,B0,L0,M0,rfl,C0,E0,hK0,hL0,hB⟩
    refine ⟨_,rfl,joinB hS hB,?_⟩
    replace hS:=joinB hS hB
    replace HB:=joinB HB hB
    replace h0:=h0.keep hB
    replace e0:=e0.keep hB
    replace h1:=h1.keep hB
    replace e1:=e1.keep hB
    replace X6:=X6.keep hB
    clear hB
    refine rg_ready [3,4] (by kernel_rfl) (by simp) ?_
    refine ar_call 3 (some 10) 82 #[.agg #[.slice a1 n1 c1,.slice b1 m1 d1]] (by kernel_rfl) (by kernel_rfl) (qCounted h1 e1 (by omega) (by omega)) ?_ ?_
    ·rintro e v104 ⟨A1,K1,D1,B1,L1,M1,rfl,C1,E1,hK1,hL1,hB⟩
     refine ⟨_,rfl,joinB hS hB,?_⟩
     replace hS:=joinB hS hB
     replace HB:=joinB HB hB
     replace h0:=h0.keep hB
     replace e0:=e0.keep hB
     replace h1:=h1.keep hB
     replace e1:=e1.keep hB
     replace C0:=C0.keep hB
     replace E0:=E0.keep hB
     replace X6:=X6.keep hB
     clear hB
     refine rg_ready [4] (by kernel_rfl) (by simp) ?_
     refine ar_alloc 4 (some 5) 40 [.slice none 0 0,.slice none 0 0] (by kernel_rfl) (by kernel_rfl) ?_ ?_
     ·intro v105 X5 hB
      refine ⟨joinB hS hB,?_⟩
      have hX5:=hS.size
      replace hS:=joinB hS hB
      replace HB:=joinB HB hB
      have nX6X5:=Nat.ne_of_lt X6.lt
      replace h0:=h0.keep hB
      replace e0:=e0.keep hB
      replace h1:=h1.keep hB
      replace e1:=e1.keep hB
      replace C0:=C0.keep hB
      replace E0:=E0.keep hB
      replace C1:=C1.keep hB
      replace E1:=E1.keep hB
      replace X6:=X6.keep hB
      clear hB
      refine rg_ready [6] (by kernel_rfl) (by simp) ?_
      refine ar_store 6 40 40 5 8 (v104.heap.size) [.slice none 0 0,.slice none 0 0] [.slice A0 K0 D0,.slice B0 L0 M0] (by kernel_rfl) (by kernel_rfl) (by kernel_rfl) (by kernel_rfl) X5 (by kernel_rfl) rfl (by kernel_rfl) ?_ ?_
      ·intro v106 Y hw hB
       refine ⟨hS.trans (hB.mono hX5),?_⟩
       replace HB:=HB.trans (hB.mono (Nat.le_trans hBu hX5))
       replace hS:=hS.trans (hB.mono hX5)
       replace h0:=h0.blk X5 (no_ints2 _ _ _ _ _ _) hw
       replace e0:=e0.blk X5 (no_ints2 _ _ _ _ _ _) hw
       replace h1:=h1.blk X5 (no_ints2 _ _ _ _ _ _) hw
       replace e1:=e1.blk X5 (no_ints2 _ _ _ _ _ _) hw
       replace C0:=C0.blk X5 (no_ints2 _ _ _ _ _ _) hw
       replace E0:=E0.blk X5 (no_ints2 _ _ _ _ _ _) hw
       replace C1:=C1.blk X5 (no_ints2 _ _ _ _ _ _) hw
       replace E1:=E1.blk X5 (no_ints2 _ _ _ _ _ _) hw
       replace X6:=X6.off nX6X5 hw
       replace X5:=Y
       clear hB hw
       refine rg_ready [7] (by kernel_rfl) (by simp) ?_
       refine ar_store 7 40 40 6 10 (u0.drew.heap.size) [.slice none 0 0,.slice none 0 0] [.slice A1 K1 D1,.slice B1 L1 M1] (by kernel_rfl) (by kernel_rfl) (by kernel_rfl) (by kernel_rfl) X6 (by kernel_rfl) rfl (by kernel_rfl) ?_ ?_
       ·intro v107 Y hw hB
        refine ⟨hS.trans (hB.mono hX6),?_⟩
        replace HB:=HB.trans (hB.mono (Nat.le_trans hBu hX6))
        replace hS:=hS.trans (hB.mono hX6)
        replace h0:=h0.blk X6 (no_ints2 _ _ _ _ _ _) hw
        replace e0:=e0.blk X6 (no_ints2 _ _ _ _ _ _) hw
        replace h1:=h1.blk X6 (no_ints2 _ _ _ _ _ _) hw
        replace e1:=e1.blk X6 (no_ints2 _ _ _ _ _ _) hw
        replace C0:=C0.blk X6 (no_ints2 _ _ _ _ _ _) hw
        replace E0:=E0.blk X6 (no_ints2 _ _ _ _ _ _) hw
        replace C1:=C1.blk X6 (no_ints2 _ _ _ _ _ _) hw
        replace E1:=E1.blk X6 (no_ints2 _ _ _ _ _ _) hw
        replace X5:=X5.off (Ne.symm nX6X5) hw
        replace X6:=Y
        clear hB hw
        refine rg_done (by kernel_rfl) ?_
        exact ⟨(v104.heap.size,u0.drew.heap.size,A0,K0,D0,B0,L0,M0,A1,K1,D1,B1,L1,M1),by kernel_rfl,X5,X6,C0,E0,C1,E1,hK0,hL0,hK1,hL1,UX4.keep hS,Nat.lt_of_lt_of_le hX4u hX5,Nat.lt_of_lt_of_le hX4u hX6,HB⟩
       exact ar_nil
      exact ar_nil
     exact ar_nil
    refine ar_alloc 4 (some 5) 40 [.slice none 0 0,.slice none 0 0] (by kernel_rfl) (by kernel_rfl) ?_ ?_
    ·intro v108 X5 hB
     refine ⟨joinB hS hB,?_⟩
     have hX5:=hS.size
     replace hS:=joinB hS hB
     replace HB:=joinB HB hB
     have nX6X5:=Nat.ne_of_lt X6.lt
     replace h0:=h0.keep hB
     replace e0:=e0.keep hB
     replace h1:=h1.keep hB
     replace e1:=e1.keep hB
     replace C0:=C0.keep hB
     replace E0:=E0.keep hB
     replace X6:=X6.keep hB
     clear hB
     refine rg_ready [3] (by kernel_rfl) (by simp) ?_
     refine ar_call 3 (some 10) 82 #[.agg #[.slice a1 n1 c1,.slice b1 m1 d1]] (by kernel_rfl) (by kernel_rfl) (qCounted h1 e1 (by omega) (by omega)) ?_ ?_
     ·rintro e v109 ⟨A1,K1,D1,B1,L1,M1,rfl,C1,E1,hK1,hL1,hB⟩
      refine ⟨_,rfl,joinB hS hB,?_⟩
      replace hS:=joinB hS hB
      replace HB:=joinB HB hB
      replace h0:=h0.keep hB
      replace e0:=e0.keep hB
      replace h1:=h1.keep hB
      replace e1:=e1.keep hB
      replace C0:=C0.keep hB
      replace E0:=E0.keep hB
      replace X6:=X6.keep hB
      replace X5:=X5.keep hB
      clear hB
      refine rg_ready [6] (by kernel_rfl) (by simp) ?_
      refine ar_store 6 40 40 5 8 (v103.heap.size) [.slice none 0 0,.slice none 0 0] [.slice A0 K0 D0,.slice B0 L0 M0] (by kernel_rfl) (by kernel_rfl) (by kernel_rfl) (by kernel_rfl) X5 (by kernel_rfl) rfl (by kernel_rfl) ?_ ?_
      ·intro v110 Y hw hB
       refine ⟨hS.trans (hB.mono hX5),?_⟩
       replace HB:=HB.trans (hB.mono (Nat.le_trans hBu hX5))
       replace hS:=hS.trans (hB.mono hX5)
       replace h0:=h0.blk X5 (no_ints2 _ _ _ _ _ _) hw
       replace e0:=e0.blk X5 (no_ints2 _ _ _ _ _ _) hw
       replace h1:=h1.blk X5 (no_ints2 _ _ _ _ _ _) hw
       replace e1:=e1.blk X5 (no_ints2 _ _ _ _ _ _) hw
       replace C0:=C0.blk X5 (no_ints2 _ _ _ _ _ _) hw
       replace E0:=E0.blk X5 (no_ints2 _ _ _ _ _ _) hw
       replace C1:=C1.blk X5 (no_ints2 _ _ _ _ _ _) hw
       replace E1:=E1.blk X5 (no_ints2 _ _ _ _ _ _) hw
       replace X6:=X6.off nX6X5 hw
       replace X5:=Y
       clear hB hw
       refine rg_ready [7] (by kernel_rfl) (by simp) ?_
       refine ar_store 7 40 40 6 10 (u0.drew.heap.size) [.slice none 0 0,.slice none 0 0] [.slice A1 K1 D1,.slice B1 L1 M1] (by kernel_rfl) (by kernel_rfl) (by kernel_rfl) (by kernel_rfl) X6 (by kernel_rfl) rfl (by kernel_rfl) ?_ ?_
       ·intro v111 Y hw hB
        refine ⟨hS.trans (hB.mono hX6),?_⟩
        replace HB:=HB.trans (hB.mono (Nat.le_trans hBu hX6))
        replace hS:=hS.trans (hB.mono hX6)
        replace h0:=h0.blk X6 (no_ints2 _ _ _ _ _ _) hw
        replace e0:=e0.blk X6 (no_ints2 _ _ _ _ _ _) hw
        replace h1:=h1.blk X6 (no_ints2 _ _ _ _ _ _) hw
        replace e1:=e1.blk X6 (no_ints2 _ _ _ _ _ _) hw
        replace C0:=C0.blk X6 (no_ints2 _ _ _ _ _ _) hw
        replace E0:=E0.blk X6 (no_ints2 _ _ _ _ _ _) hw
        replace C1:=C1.blk X6 (no_ints2 _ _ _ _ _ _) hw
        replace E1:=E1.blk X6 (no_ints2 _ _ _ _ _ _) hw
        replace X5:=X5.off (Ne.symm nX6X5) hw
        replace X6:=Y
        clear hB hw
        refine rg_done (by kernel_rfl) ?_
        exact ⟨(v103.heap.size,u0.drew.heap.size,A0,K0,D0,B0,L0,M0,A1,K1,D1,B1,L1,M1),by kernel_rfl,X5,X6,C0,E0,C1,E1,hK0,hL0,hK1,hL1,UX4.keep hS,Nat.lt_of_lt_of_le hX4u hX5,Nat.lt_of_lt_of_le hX4u hX6,HB⟩
       exact ar_nil
      exact ar_nil
     exact ar_nil
    exact ar_nil
   refine ar_alloc 4 (some 5) 40 [.slice none 0 0,.slice none 0 0] (by kernel_rfl) (by kernel_rfl) ?_ ?_
   ·intro v112 X5 hB
    refine ⟨joinB hS hB,?_⟩
    have hX5:=hS.size
    replace hS:=joinB hS hB
    replace HB:=joinB HB hB
    have nX6X5:=Nat.ne_of_lt X6.lt
    replace h0:=h0.keep hB
    replace e0:=e0.keep hB
    replace h1:=h1.keep hB
    replace e1:=e1.keep hB
    replace X6:=X6.keep hB
    clear hB
    refine rg_ready [1] (by kernel_rfl) (by simp) ?_
    refine ar_call 1 (some 8) 82 #[.agg #[.slice a0 n0 c0,.slice b0 m0 d0]] (by kernel_rfl) (by kernel_rfl) (qCounted h0 e0 (by omega) (by omega)) ?_ ?_
    ·rintro e v113 ⟨A0,K0,D0,B0,L0,M0,rfl,C0,E0,hK0,hL0,hB⟩
     refine ⟨_,rfl,joinB hS hB,?_⟩
     replace hS:=joinB hS hB
     replace HB:=joinB HB hB
     replace h0:=h0.keep hB
     replace e0:=e0.keep hB
     replace h1:=h1.keep hB
     replace e1:=e1.keep hB
     replace X6:=X6.keep hB
     replace X5:=X5.keep hB
     clear hB
     refine rg_ready [3] (by kernel_rfl) (by simp) ?_
     refine ar_call 3 (some 10) 82 #[.agg #[.slice a1 n1 c1,.slice b1 m1 d1]] (by kernel_rfl) (by kernel_rfl) (qCounted h1 e1 (by omega) (by omega)) ?_ ?_
     ·rintro e v114 ⟨A1,K1,D1,B1,L1,M1,rfl,C1,E1,hK1,hL1,hB⟩
      refine ⟨_,rfl,joinB hS hB,?_⟩
      replace hS:=joinB hS hB
      replace HB:=joinB HB hB
      replace h0:=h0.keep hB
      replace e0:=e0.keep hB
      replace h1:=h1.keep hB
      replace e1:=e1.keep hB
      replace C0:=C0.keep hB
      replace E0:=E0.keep hB
      replace X6:=X6.keep hB
      replace X5:=X5.keep hB
      clear hB
      refine rg_ready [6] (by kernel_rfl) (by simp) ?_
      refine ar_store 6 40 40 5 8 (v102.heap.size) [.slice none 0 0,.slice none 0 0] [.slice A0 K0 D0,.slice B0 L0 M0] (by kernel_rfl) (by kernel_rfl) (by kernel_rfl) (by kernel_rfl) X5 (by kernel_rfl) rfl (by kernel_rfl) ?_ ?_
      ·intro v115 Y hw hB
       refine ⟨hS.trans (hB.mono hX5),?_⟩
       replace HB:=HB.trans (hB.mono (Nat.le_trans hBu hX5))
       replace hS:=hS.trans (hB.mono hX5)
       replace h0:=h0.blk X5 (no_ints2 _ _ _ _ _ _) hw
       replace e0:=e0.blk X5 (no_ints2 _ _ _ _ _ _) hw
       replace h1:=h1.blk X5 (no_ints2 _ _ _ _ _ _) hw
       replace e1:=e1.blk X5 (no_ints2 _ _ _ _ _ _) hw
       replace C0:=C0.blk X5 (no_ints2 _ _ _ _ _ _) hw
       replace E0:=E0.blk X5 (no_ints2 _ _ _ _ _ _) hw
       replace C1:=C1.blk X5 (no_ints2 _ _ _ _ _ _) hw
       replace E1:=E1.blk X5 (no_ints2 _ _ _ _ _ _) hw
       replace X6:=X6.off nX6X5 hw
       replace X5:=Y
       clear hB hw
       refine rg_ready [7] (by kernel_rfl) (by simp) ?_
       refine ar_store 7 40 40 6 10 (u0.drew.heap.size) [.slice none 0 0,.slice none 0 0] [.slice A1 K1 D1,.slice B1 L1 M1] (by kernel_rfl) (by kernel_rfl) (by kernel_rfl) (by kernel_rfl) X6 (by kernel_rfl) rfl (by kernel_rfl) ?_ ?_
       ·intro v116 Y hw hB
        refine ⟨hS.trans (hB.mono hX6),?_⟩
        replace HB:=HB.trans (hB.mono (Nat.le_trans hBu hX6))
        replace hS:=hS.trans (hB.mono hX6)
        replace h0:=h0.blk X6 (no_ints2 _ _ _ _ _ _) hw
        replace e0:=e0.blk X6 (no_ints2 _ _ _ _ _ _) hw
        replace h1:=h1.blk X6 (no_ints2 _ _ _ _ _ _) hw
        replace e1:=e1.blk X6 (no_ints2 _ _ _ _ _ _) hw
        replace C0:=C0.blk X6 (no_ints2 _ _ _ _ _ _) hw
        replace E0:=E0.blk X6 (no_ints2 _ _ _ _ _ _) hw
        replace C1:=C1.blk X6 (no_ints2 _ _ _ _ _ _) hw
        replace E1:=E1.blk X6 (no_ints2 _ _ _ _ _ _) hw
        replace X5:=X5.off (Ne.symm nX6X5) hw
        replace X6:=Y
        clear hB hw
        refine rg_done (by kernel_rfl) ?_
        exact ⟨(v102.heap.size,u0.drew.heap.size,A0,K0,D0,B0,L0,M0,A1,K1,D1,B1,L1,M1),by kernel_rfl,X5,X6,C0,E0,C1,E1,hK0,hL0,hK1,hL1,UX4.keep hS,Nat.lt_of_lt_of_le hX4u hX5,Nat.lt_of_lt_of_le hX4u hX6,HB⟩
       exact ar_nil
      exact ar_nil
     exact ar_nil
    exact ar_nil
   exact ar_nil
  exact ar_nil
 ·rintro ⟨g5,g6,A0,K0,D0,B0,L0,M0,A1,K1,D1,B1,L1,M1⟩ u1 ⟨X5,X6,C0,E0,C1,E1,hK0,hL0,hK1,hL1,X4n,hg5,hg6,HBn⟩
  replace HB:=HBn
  clear HBn h0 e0 h1 e1 P0 P1 X4
  try simp only [putAll,Act.put,List.setIfInBounds_toArray,List.set_cons_zero,List.set_cons_succ]
  go_wp2_with fail
  refine rg_start (S:=fun w'=>Box w' g5 [.slice A0 K0 D0,.slice B0 L0 M0] 40/\Box w' g6 [.slice A1 K1 D1,.slice B1 L1 M1] 40) (by kernel_rfl) ⟨X5.drew,X6.drew⟩ ?_
  replace C0:=C0.drew
  replace E0:=E0.drew
  replace C1:=C1.drew
  replace E1:=E1.drew
  replace X4n:=X4n.drew
  replace HB:=HB.drew
  have hS:=(show _/\_ from ⟨X5.drew,X6.drew⟩)
  have X4:=X4n
  clear X4n X5 X6
  refine rg_n 0 11 (.pointer (some ⟨g5,0,none⟩)) (by kernel_rfl) (fun _ _=>by kernel_rfl) i3 hS ?_
  refine rg_load 1 (some 12) (.slice A0 K0 D0) 33 11 (g5) 0 (by kernel_rfl) (by kernel_rfl) (by kernel_rfl) (fun _ hs=>load_at (hs.1.cells2.1)) i3 hS ?_
  refine rg_n 2 13 (.pointer (some ⟨g6,0,none⟩)) (by kernel_rfl) (fun _ _=>by kernel_rfl) i3 hS ?_
  refine rg_load 3 (some 14) (.slice A1 K1 D1) 33 13 (g6) 0 (by kernel_rfl) (by kernel_rfl) (by kernel_rfl) (fun _ hs=>load_at (hs.2.cells2.1)) i3 hS ?_
  refine rg_n 5 16 (.pointer (some ⟨g5,1,none⟩)) (by kernel_rfl) (fun _ _=>by kernel_rfl) i3 hS ?_
  refine rg_load 6 (some 17) (.slice B0 L0 M0) 33 16 (g5) 1 (by kernel_rfl) (by kernel_rfl) (by kernel_rfl) (fun _ hs=>load_at (hs.1.cells2.2.1)) i3 hS ?_
  refine rg_n 7 18 (.pointer (some ⟨g6,1,none⟩)) (by kernel_rfl) (fun _ _=>by kernel_rfl) i3 hS ?_
  refine rg_load 8 (some 19) (.slice B1 L1 M1) 33 18 (g6) 1 (by kernel_rfl) (by kernel_rfl) (by kernel_rfl) (fun _ hs=>load_at (hs.2.cells2.2.1)) i3 hS ?_
  refine rg_call 4 (some 15) 83 #[.slice A0 K0 D0,.slice A1 K1 D1] (by kernel_rfl) (by kernel_rfl) (nMul C0 C1 (by omega) (by omega)) ?_
  rintro e z1 ⟨Ap,Kp,Dp,rfl,Op1,hkp,hB⟩
  refine ⟨_,rfl,⟨hS.1.keep hB,hS.2.keep hB⟩,?_⟩
  replace hS:=(show _/\_ from ⟨hS.1.keep hB,hS.2.keep hB⟩)
  replace C0:=C0.keep hB
  replace E0:=E0.keep hB
  replace C1:=C1.keep hB
  replace E1:=E1.keep hB
  replace X4:=X4.keep hB
  replace HB:=joinB HB hB
  clear hB
  refine rg_call 9 (some 20) 83 #[.slice B0 L0 M0,.slice B1 L1 M1] (by kernel_rfl) (by kernel_rfl) (nMul E0 E1 (by omega) (by omega)) ?_
  rintro e z2 ⟨Aq,Kq,Dq,rfl,Op2,hkq,hB⟩
  refine ⟨_,rfl,⟨hS.1.keep hB,hS.2.keep hB⟩,?_⟩
  replace hS:=(show _/\_ from ⟨hS.1.keep hB,hS.2.keep hB⟩)
  replace C0:=C0.keep hB
  replace E0:=E0.keep hB
  replace C1:=C1.keep hB
  replace E1:=E1.keep hB
  replace X4:=X4.keep hB
  replace Op1:=Op1.keep hB
  replace HB:=joinB HB hB
  clear hB
  refine rg_call 10 (some 21) 78 #[.slice Ap Kp Dp,.slice Aq Kq Dq] (by kernel_rfl) (by kernel_rfl) (qReduced Op1.a Op2.a (by omega) (by omega) (Int.mul_ne_zero (cd_ne _) (cd_ne _))) ?_
  rintro e z3 ⟨Ar,Kr,Dr,As',Ks,Ds,rfl,Or1,Or2,hkr,hks,hB⟩
  refine ⟨_,rfl,⟨hS.1.keep hB,hS.2.keep hB⟩,?_⟩
  replace hS:=(show _/\_ from ⟨hS.1.keep hB,hS.2.keep hB⟩)
  replace C0:=C0.keep hB
  replace E0:=E0.keep hB
  replace C1:=C1.keep hB
  replace E1:=E1.keep hB
  replace X4:=X4.keep hB
  replace Op1:=Op1.keep hB
  replace Op2:=Op2.keep hB
  replace HB:=joinB HB hB
  clear hB
  refine rg_ready [11] (by kernel_rfl) (by simp) ?_
  refine ar_store 11 40 40 4 21 (w.heap.size + 1 + 1) [.slice none 0 0,.slice none 0 0] [.slice Ar Kr Dr,.slice As' Ks Ds] (by kernel_rfl) (by kernel_rfl) (by kernel_rfl) (by kernel_rfl) X4 (by kernel_rfl) rfl (by kernel_rfl) ?_ ar_nil
  intro z4 Y hw hB
  refine ⟨⟨hS.1.off (by omega) hw,hS.2.off (by omega) hw⟩,?_⟩
  replace hS:=(show _/\_ from ⟨hS.1.off (by omega) hw,hS.2.off (by omega) hw⟩)
  replace HB:=HB.trans (hB.mono (by omega))
  replace C0:=C0.blk X4 (no_ints2 _ _ _ _ _ _) hw
  replace E0:=E0.blk X4 (no_ints2 _ _ _ _ _ _) hw
  replace C1:=C1.blk X4 (no_ints2 _ _ _ _ _ _) hw
  replace E1:=E1.blk X4 (no_ints2 _ _ _ _ _ _) hw
  skip
  replace Op1:=Op1.blk X4 (no_ints2 _ _ _ _ _ _) hw
  replace Op2:=Op2.blk X4 (no_ints2 _ _ _ _ _ _) hw
  replace Or1:=Or1.blk X4 (no_ints2 _ _ _ _ _ _) hw
  replace Or2:=Or2.blk X4 (no_ints2 _ _ _ _ _ _) hw
  replace X4:=Y
  clear hB hw
  refine rg_done (by kernel_rfl) ?_
  try simp only [Act.put,List.setIfInBounds_toArray,List.set_cons_zero,List.set_cons_succ]
  go_wp2
  refine bodyPost_ret (ret_rat rfl rfl X4) rfl ?_
  exact ⟨_,_,_,_,_,_,rfl,Or1,Or2,by omega,by omega,HB⟩
end
section
open Go.RowKit Lim
def rn (x y:Int):Int:=x / (Int.gcd x y:Nat)
def rd (x y:Int):Int:=y / (Int.gcd x y:Nat)
theorem qPlus {w:World} {ao ao':Option Addr} {n c n' c':Nat} {x y:Int} (h:NatA w ao n c x) (h':NatA w ao' n' c' y) (hn:n<=1099511627776) (hn':n'<=1099511627776) :
  Calls Tryz.prog 98 #[.slice ao n c,.slice ao' n' c'] w fun e w'=>∃ a k d,e=.returned (.tuple #[.slice a k d,.int .i64 0])/\NatO w' a k d (x + y)/\k<=n + n' + 1/\Below w.heap.size w w':=by
 go_enter Tryz.func98,Tryz.ntmps98
 go_wp2_with fail
 refine (nAdd h h' hn hn').mono ?_
 rintro e w1 ⟨a,k,d,rfl,O1,hk,hB⟩
 go_wp2
 go_ret2
 exact ⟨a,k,d,rfl,O1,hk,hB⟩
theorem qLowest {w:World} {a0 b0:Option Addr} {n0 c0 m0 d0:Nat} {x0 y0:Int} (h0:NatA w a0 n0 c0 x0) (e0:NatA w b0 m0 d0 y0) (hn0:n0<=34359738368) (hm0:m0<=34359738368) :
  Calls Tryz.prog 85 #[.agg #[.slice a0 n0 c0,.slice b0 m0 d0]] w fun e w'=>∃ a k d a' k' d',e=.returned (.agg #[.slice a k d,.slice a' k' d'])/\NatO w' a k d (rn (cn x0 y0) (cd y0))/\NatO w' a' k' d' (rd (cn x0 y0) (cd y0))/\k<=n0/\k'<=m0 + 1/\Below w.heap.size w w':=by
 have B0:=below2 w (.cells #[.slice a0 n0 c0,.slice b0 m0 d0] 40) (.cells #[.slice none 0 0,.slice none 0 0] 40)
 have SP:=(box_new w [.slice a0 n0 c0,.slice b0 m0 d0] 40).keep (below_alloc _ (.cells #[.slice none 0 0,.slice none 0 0] 40))
 have S0:=box_new (w.alloc (.cells #[.slice a0 n0 c0,.slice b0 m0 d0] 40)) [.slice none 0 0,.slice none 0 0] 40
 rw [show (w.alloc (.cells #[.slice a0 n0 c0,.slice b0 m0 d0] 40)).heap.size=w.heap.size + 1 by simp] at S0
 replace h0:=h0.keep B0
 replace e0:=e0.keep B0
 obtain ⟨p1,p2,p3,p4⟩:=SP.cells2
 have hld:=load_rat SP
 go_enter Tryz.func85,Tryz.ntmps85
 go_wp2_with fail
 refine (qCounted h0 e0 (by omega) (by omega)).mono ?_
 rintro e w1 ⟨A0,K0,D0,B0',L0,M0,rfl,C0,E0,hK0,hL0,hB⟩
 replace S0:=S0.keep hB
 replace B0:=joinB B0 hB
 clear hB p1 p2 p3 p4 hld SP h0 e0
 have BA:=below_alloc w1 (.cells #[.slice A0 K0 D0,.slice B0' L0 M0] 40)
 have SX:=box_new w1 [.slice A0 K0 D0,.slice B0' L0 M0] 40
 replace S0:=S0.keep BA
 replace C0:=C0.keep BA
 replace E0:=E0.keep BA
 replace B0:=joinB B0 BA
 obtain ⟨p1,p2,p3,p4⟩:=SX.cells2
 go_wp2_with fail
 refine (qReduced C0 E0 (by omega) (by omega) (cd_ne _)).mono ?_
 rintro e w2 ⟨a,k,d,a',k',d',rfl,O1,O2,hk,hk',hB⟩
 replace S0:=S0.keep hB
 replace B0:=joinB B0 hB
 obtain ⟨c1,c2,f1,f2⟩:=S0.cells2
 have S2:=S0.put2 (.slice a k d) (.slice a' k' d')
 have P1:=O1.put2 S0 (.slice a k d) (.slice a' k' d')
 have P2:=O2.put2 S0 (.slice a k d) (.slice a' k' d')
 have HB:=below_put2 B0 (g:=w.heap.size + 1) (by omega) (.slice a k d) (.slice a' k' d')
 clear hB O1 O2 S0 B0 SX C0 E0 BA p1 p2 p3 p4
 go_wp2
 refine bodyPost_ret (ret_rat rfl rfl S2) rfl ?_
 exact ⟨a,k,d,a',k',d',rfl,P1,P2,by omega,by omega,HB⟩
theorem qOf {w:World} {ao ao':Option Addr} {n c n' c':Nat} {x y:Int} (h:NatA w ao n c x) (h':NatA w ao' n' c' y) (hn:n<=274877906944) (hn':n'<=274877906944) (hne:y≠0) :
  Calls Tryz.prog 41 #[.slice ao n c,.slice ao' n' c'] w fun e w'=>∃ a k d a' k' d',e=.returned (.tuple #[.agg #[.slice a k d,.slice a' k' d'],.int .i64 0])/\NatO w' a k d (rn x y)/\NatO w' a' k' d' (rd x y)/\k<=n/\k'<=n'/\Below w.heap.size w w':=by
 have hm:bitLen y.toNat≠0:=fun e=>hne ((bitLen_zero y h'.nonneg).1 e)
 have HNE:=(show Hid _ from hne)
 clear hne
 have B0:=below_alloc w (.cells #[.slice none 0 0,.slice none 0 0] 40)
 have S0:=box_new w [.slice none 0 0,.slice none 0 0] 40
 replace h:=h.keep B0
 replace h':=h'.keep B0
 have t:=nBits h' (by omega)
 generalize bitLen y.toNat=m at *
 obtain ⟨j,rfl⟩:∃ j,m=j + 1:=⟨m - 1,by omega⟩
 clear hm
 go_enter Tryz.func41,Tryz.ntmps41
 go_wp2_with fail
 refine t.mono ?_
 rintro e w1 ⟨rfl,hB⟩
 replace h:=h.keep hB
 replace h':=h'.keep hB
 replace S0:=S0.keep hB
 replace B0:=joinB B0 hB
 clear hB t
 go_wp2_with fail
 refine (qReduced h h' (by omega) (by omega) HNE.out).mono ?_
 rintro e w2 ⟨a,k,d,a',k',d',rfl,O1,O2,hk,hk',hB⟩
 replace S0:=S0.keep hB
 replace B0:=joinB B0 hB
 obtain ⟨c1,c2,f1,f2⟩:=S0.cells2
 have S2:=S0.put2 (.slice a k d) (.slice a' k' d')
 have P1:=O1.put2 S0 (.slice a k d) (.slice a' k' d')
 have P2:=O2.put2 S0 (.slice a k d) (.slice a' k' d')
 have HB:=below_put2 B0 (g:=w.heap.size) (by omega) (.slice a k d) (.slice a' k' d')
 clear hB O1 O2 S0 B0 h h'
 go_wp2
 refine bodyPost_ret (ret_rat_tmp rfl rfl rfl S2) rfl ?_
 exact ⟨a,k,d,a',k',d',rfl,P1,P2,by omega,by omega,HB⟩
end
section
open Go.RowKit Lim
structure Red (N D p q:Int):Prop where
 n0:0<=N
 d0:0 < D
 co:Int.gcd N D=1
 eq:N * q=p * D
theorem red_unique_nat {a b c d:Nat} (h:a.Coprime b) (k:c.Coprime d) (e:a * d=c * b):a=c/\b=d:=by
 have h1:b ∣ d:=h.symm.dvd_of_dvd_mul_left (by rw [e]; exact Nat.dvd_mul_left _ _)
 have h2:d ∣ b:=k.symm.dvd_of_dvd_mul_left (by rw [<- e]; exact Nat.dvd_mul_left _ _)
 have h3:=Nat.dvd_antisymm h1 h2
 have h4:a ∣ c:=h.dvd_of_dvd_mul_right (by rw [<- e]; exact Nat.dvd_mul_right _ _)
 have h5:c ∣ a:=k.dvd_of_dvd_mul_right (by rw [e]; exact Nat.dvd_mul_right _ _)
 exact ⟨Nat.dvd_antisymm h4 h5,h3⟩
theorem Red.unique {N D p q N' D' p' q':Int} (h:Red N D p q) (k:Red N' D' p' q') (hq:0 < q) (hq':0 < q') (e:p * q'=p' * q):N=N'/\D=D':=by
 have h0:=h.n0
 have h1:=h.d0
 have k0:=k.n0
 have k1:=k.d0
 obtain ⟨a,rfl⟩:∃ a:Nat,N=a:=⟨N.toNat,by omega⟩
 obtain ⟨b,rfl⟩:∃ b:Nat,D=b:=⟨D.toNat,by omega⟩
 obtain ⟨c,rfl⟩:∃ c:Nat,N'=c:=⟨N'.toNat,by omega⟩
 obtain ⟨d,rfl⟩:∃ d:Nat,D'=d:=⟨D'.toNat,by omega⟩
 have e1:(a:Int) * d=c * b:=by
  have hh:=h.eq
  have kk:=k.eq
  have hqq:q * q'≠0:=Int.mul_ne_zero (by omega) (by omega)
  apply Int.eq_of_mul_eq_mul_right hqq
  have s1:(a:Int) * d * (q * q')=(a * q) * (d * q'):=by grind
  have s2:(c:Int) * b * (q * q')=(c * q') * (b * q):=by grind
  rw [s1,s2,hh,kk]
  have s3:p * ↑b * (↑d * q')=(p * q') * (b * d):=by grind
  have s4:p' * ↑d * (↑b * q)=(p' * q) * (b * d):=by grind
  rw [s3,s4,e]
 have e2:a * d=c * b:=by
  have:((a * d:Nat):Int)=((c * b:Nat):Int):=by rw [Int.natCast_mul,Int.natCast_mul]; exact e1
  exact Int.ofNat.inj this
 have hc:a.Coprime b:=h.co
 have kc:c.Coprime d:=k.co
 obtain ⟨r1,r2⟩:=red_unique_nat hc kc e2
 exact ⟨by rw [r1],by rw [r2]⟩
theorem red_of {x y:Int} (hx:0<=x) (hy:0 < y):Red (rn x y) (rd x y) x y:=by
 obtain ⟨a,rfl⟩:∃ a:Nat,x=a:=⟨x.toNat,by omega⟩
 obtain ⟨b,rfl⟩:∃ b:Nat,y=b:=⟨y.toNat,by omega⟩
 have hb:0 < b:=by omega
 have hg:0 < a.gcd b:=Nat.gcd_pos_of_pos_right _ hb
 have e1:rn a b=((a / a.gcd b:Nat):Int):=by unfold rn; rw [Int.natCast_ediv]; rfl
 have e2:rd a b=((b / a.gcd b:Nat):Int):=by unfold rd; rw [Int.natCast_ediv]; rfl
 rw [e1,e2]
 refine ⟨Int.natCast_nonneg _,?_,Nat.coprime_div_gcd_div_gcd hg,?_⟩
 ·have:0 < b / a.gcd b:=Nat.div_pos (Nat.gcd_le_right _ hb) hg
  exact Int.natCast_pos.2 this
 ·have h1:a / a.gcd b * a.gcd b=a:=Nat.div_mul_cancel (Nat.gcd_dvd_left _ _)
  have h2:b / a.gcd b * a.gcd b=b:=Nat.div_mul_cancel (Nat.gcd_dvd_right _ _)
  have h3:a / a.gcd b * b=a * (b / a.gcd b):=by
   conv=>lhs; rw [<- h2]
   conv=>rhs; rw [<- h1]
   grind
  rw [<- Int.natCast_mul,<- Int.natCast_mul,h3]
theorem tog_nat {p0 p1 q0 q1 num:Nat} (h0:p0.Coprime q0) (h1:p1.Coprime q1) (hq0:0 < q0) (hq1:0 < q1)
  (hn:num=p0 * (q1 / q0.gcd q1) + p1 * (q0 / q0.gcd q1)\/num + p1 * (q0 / q0.gcd q1)=p0 * (q1 / q0.gcd q1)) :
  (num / num.gcd (q0.gcd q1)).Coprime (q0 / q0.gcd q1 * (q1 / num.gcd (q0.gcd q1))):=by
 have hg:0 < q0.gcd q1:=Nat.gcd_pos_of_pos_left _ hq0
 obtain ⟨l,hl⟩:∃ l,q0 / q0.gcd q1=l:=⟨_,rfl⟩
 obtain ⟨r,hr⟩:∃ r,q1 / q0.gcd q1=r:=⟨_,rfl⟩
 have cl:l.Coprime r:=by rw [<- hl,<- hr]; exact Nat.coprime_div_gcd_div_gcd hg
 have el:l * q0.gcd q1=q0:=by rw [<- hl]; exact Nat.div_mul_cancel (Nat.gcd_dvd_left _ _)
 have er:r * q0.gcd q1=q1:=by rw [<- hr]; exact Nat.div_mul_cancel (Nat.gcd_dvd_right _ _)
 rw [hl,hr] at hn
 rw [hl]
 have d1:num.gcd (q0.gcd q1) ∣ q1:=Nat.dvd_trans (Nat.gcd_dvd_right _ _) (Nat.gcd_dvd_right _ _)
 generalize hG:q0.gcd q1=g at *
 have c0l:p0.Coprime l:=Nat.Coprime.coprime_mul_right_right (k:=g) (by rw [el]; exact h0)
 have c1r:p1.Coprime r:=Nat.Coprime.coprime_mul_right_right (k:=g) (by rw [er]; exact h1)
 have nl:l.Coprime num:=by
  have a1:(p0 * r).gcd l=1:=Nat.Coprime.mul_left c0l cl.symm
  rcases hn with e | e
  ·have:num.gcd l=1:=by rw [e,Nat.gcd_add_mul_right_left]; exact a1
   exact Nat.Coprime.symm this
  ·have:num.gcd l=1:=by rw [<- Nat.gcd_add_mul_right_left l num p1,e]; exact a1
   exact Nat.Coprime.symm this
 have nr:r.Coprime num:=by
  have a1:(p1 * l).gcd r=1:=Nat.Coprime.mul_left c1r cl
  rcases hn with e | e
  ·have:num.gcd r=1:=by rw [e,Nat.add_comm,Nat.gcd_add_mul_right_left]; exact a1
   exact Nat.Coprime.symm this
  ·have h2:(num + p1 * l).gcd r=r:=by rw [e]; exact Nat.gcd_eq_right (Nat.dvd_mul_left _ _)
   have h3:num.gcd r ∣ p1 * l:=by
    have s1:num.gcd r ∣ num + p1 * l:=Nat.dvd_trans (Nat.gcd_dvd_right _ _) (by rw [e]; exact Nat.dvd_mul_left _ _)
    exact (Nat.dvd_add_right (Nat.gcd_dvd_left _ _)).1 s1
   have h4:num.gcd r ∣ (p1 * l).gcd r:=Nat.dvd_gcd h3 (Nat.gcd_dvd_right _ _)
   rw [a1] at h4
   exact Nat.Coprime.symm (Nat.dvd_one.1 h4)
 have e1:num.gcd (l * q1)=num.gcd g:=by
  rw [Nat.Coprime.gcd_mul_left_cancel_right q1 nl,<- er,Nat.Coprime.gcd_mul_left_cancel_right g nr]
 have e2:l * (q1 / num.gcd g)=l * q1 / num.gcd g:=(Nat.mul_div_assoc l d1).symm
 rw [e2,<- e1]
 have hlp:0 < l:=by
  rcases Nat.eq_zero_or_pos l with e | e
  ·subst e; simp at el; omega
  ·exact e
 exact Nat.coprime_div_gcd_div_gcd (Nat.gcd_pos_of_pos_right _ (Nat.mul_pos hlp hq1))
end
section
open Go.RowKit Lim
theorem qTogP {w:World} {a0 b0:Option Addr} {n0 c0 m0 d0:Nat} {x0 y0:Int} {a1 b1:Option Addr} {n1 c1 m1 d1:Nat} {x1 y1:Int} (h0:NatA w a0 n0 c0 x0) (e0:NatA w b0 m0 d0 y0) (hn0:n0<=17179869184) (hm0:m0<=17179869184) (hy0:y0≠0) (h1:NatA w a1 n1 c1 x1) (e1:NatA w b1 m1 d1 y1) (hn1:n1<=17179869184) (hm1:m1<=17179869184) (hy1:y1≠0) :
  Calls Tryz.prog 84 #[.agg #[.slice a0 n0 c0,.slice b0 m0 d0],.agg #[.slice a1 n1 c1,.slice b1 m1 d1],.func (.func 98) #[] #[]] w fun e w'=>∃ a k d a' k' d',e=.returned (.tuple #[.agg #[.slice a k d,.slice a' k' d'],.int .i64 0])/\NatO w' a k d ((x0 * (y1 / (Int.gcd y0 y1:Nat)) + x1 * (y0 / (Int.gcd y0 y1:Nat))) / (Int.gcd (x0 * (y1 / (Int.gcd y0 y1:Nat)) + x1 * (y0 / (Int.gcd y0 y1:Nat))) (Int.gcd y0 y1:Nat):Nat))/\NatO w' a' k' d' (y0 / (Int.gcd y0 y1:Nat) * (y1 / (Int.gcd (x0 * (y1 / (Int.gcd y0 y1:Nat)) + x1 * (y0 / (Int.gcd y0 y1:Nat))) (Int.gcd y0 y1:Nat):Nat)))/\k<=n0 + n1 + m0 + m1 + 1/\k'<=m0 + m1/\Below w.heap.size w w':=by
 have hg:((Int.gcd y0 y1:Nat):Int)≠0:=fun e=>hy0 (Int.gcd_eq_zero_iff (a:=y0) (b:=y1) |>.1 (by omega)).1
 have HG:=(show Hid _ from hg)
 have HY0:=(show Hid _ from hy0)
 have HY1:=(show Hid _ from hy1)
 clear hg hy0 hy1
 have HB:=below3 w (.cells #[.slice a0 n0 c0,.slice b0 m0 d0] 40) (.cells #[.slice a1 n1 c1,.slice b1 m1 d1] 40) (.cells #[.slice none 0 0,.slice none 0 0] 40)
 have P0:=((box_new w [.slice a0 n0 c0,.slice b0 m0 d0] 40).keep (below_alloc _ (.cells #[.slice a1 n1 c1,.slice b1 m1 d1] 40))).keep (below_alloc _ (.cells #[.slice none 0 0,.slice none 0 0] 40))
 have P1:=(box_new (w.alloc (.cells #[.slice a0 n0 c0,.slice b0 m0 d0] 40)) [.slice a1 n1 c1,.slice b1 m1 d1] 40).keep (below_alloc _ (.cells #[.slice none 0 0,.slice none 0 0] 40))
 have X6:=box_new ((w.alloc (.cells #[.slice a0 n0 c0,.slice b0 m0 d0] 40)).alloc (.cells #[.slice a1 n1 c1,.slice b1 m1 d1] 40)) [.slice none 0 0,.slice none 0 0] 40
 rw [show (w.alloc (.cells #[.slice a0 n0 c0,.slice b0 m0 d0] 40)).heap.size=w.heap.size + 1 by simp] at P1
 rw [show ((w.alloc (.cells #[.slice a0 n0 c0,.slice b0 m0 d0] 40)).alloc (.cells #[.slice a1 n1 c1,.slice b1 m1 d1] 40)).heap.size=w.heap.size + 1 + 1 by simp] at X6
 replace h0:=h0.keep HB
 replace e0:=e0.keep HB
 replace h1:=h1.keep HB
 replace e1:=e1.keep HB
 obtain ⟨p1,p2,p3,p4⟩:=P0.cells2
 obtain ⟨q1,q2,q3,q4⟩:=P1.cells2
 go_enter Tryz.func84,Tryz.ntmps84
 go_wp2_with fail
 generalize ((w.alloc (.cells #[.slice a0 n0 c0,.slice b0 m0 d0] 40)).alloc (.cells #[.slice a1 n1 c1,.slice b1 m1 d1] 40)).alloc (.cells #[.slice none 0 0,.slice none 0 0] 40)=u0 at *
 refine (nGcd e0 e1 (by omega) (by omega)).mono ?_
 rintro e u1 ⟨Ag,Kg,Dg,rfl,OG,hkg,hB⟩
 clear p1 p2 p3 p4 q1 q2 q3 q4
 replace h0:=h0.keep hB
 replace e0:=e0.keep hB
 replace h1:=h1.keep hB
 replace e1:=e1.keep hB
 replace P0:=P0.keep hB
 replace P1:=P1.keep hB
 replace X6:=X6.keep hB
 replace HB:=joinB HB hB
 clear hB
 go_wp2_with fail
 refine rg_start (S:=fun w'=>Box w' w.heap.size [.slice a0 n0 c0,.slice b0 m0 d0] 40/\Box w' (w.heap.size + 1) [.slice a1 n1 c1,.slice b1 m1 d1] 40) (by kernel_rfl) ⟨P0.drew,P1.drew⟩ ?_
 replace h0:=h0.drew
 replace e0:=e0.drew
 replace h1:=h1.drew
 replace e1:=e1.drew
 replace P0:=P0.drew
 replace P1:=P1.drew
 replace X6:=X6.drew
 replace OG:=OG.drew
 replace HB:=HB.drew
 have hS:=(show _/\_ from ⟨P0,P1⟩)
 refine rg_n 0 19 (.pointer (some ⟨w.heap.size,1,none⟩)) (by kernel_rfl) (fun _ _=>by kernel_rfl) i3 hS ?_
 refine rg_load 1 (some 20) (.slice b0 m0 d0) 33 19 (w.heap.size) 1 (by kernel_rfl) (by kernel_rfl) (by kernel_rfl) (fun _ hs=>load_at (hs.1.cells2.2.1)) i3 hS ?_
 refine rg_n 2 21 (.slice Ag Kg Dg) (by kernel_rfl) (fun _ _=>by kernel_rfl) i3 hS ?_
 refine rg_n 4 23 (.pointer (some ⟨w.heap.size + 1,1,none⟩)) (by kernel_rfl) (fun _ _=>by kernel_rfl) i3 hS ?_
 refine rg_load 5 (some 24) (.slice b1 m1 d1) 33 23 (w.heap.size + 1) 1 (by kernel_rfl) (by kernel_rfl) (by kernel_rfl) (fun _ hs=>load_at (hs.2.cells2.2.1)) i3 hS ?_
 refine rg_n 6 25 (.slice Ag Kg Dg) (by kernel_rfl) (fun _ _=>by kernel_rfl) i3 hS ?_
 refine rg_call 3 (some 22) 110 #[.slice b0 m0 d0,.slice Ag Kg Dg] (by kernel_rfl) (by kernel_rfl) (qQuot e0 OG.a (by omega) (by omega) HG.out) ?_
 rintro e r2x1 ⟨Al,Kl,Dl,rfl,OL,hkl,hB⟩
 refine ⟨_,rfl,⟨hS.1.keep hB,hS.2.keep hB⟩,?_⟩
 replace hS:=(show _/\_ from ⟨hS.1.keep hB,hS.2.keep hB⟩)
 replace h0:=h0.keep hB
 replace e0:=e0.keep hB
 replace h1:=h1.keep hB
 replace e1:=e1.keep hB
 replace P0:=P0.keep hB
 replace P1:=P1.keep hB
 replace X6:=X6.keep hB
 replace OG:=OG.keep hB
 replace HB:=joinB HB hB
 clear hB
 refine rg_call 7 (some 26) 110 #[.slice b1 m1 d1,.slice Ag Kg Dg] (by kernel_rfl) (by kernel_rfl) (qQuot e1 OG.a (by omega) (by omega) HG.out) ?_
 rintro e r2x2 ⟨Ar,Kr,Dr,rfl,OR,hkr,hB⟩
 refine ⟨_,rfl,⟨hS.1.keep hB,hS.2.keep hB⟩,?_⟩
 replace hS:=(show _/\_ from ⟨hS.1.keep hB,hS.2.keep hB⟩)
 replace h0:=h0.keep hB
 replace e0:=e0.keep hB
 replace h1:=h1.keep hB
 replace e1:=e1.keep hB
 replace P0:=P0.keep hB
 replace P1:=P1.keep hB
 replace X6:=X6.keep hB
 replace OG:=OG.keep hB
 replace OL:=OL.keep hB
 replace HB:=joinB HB hB
 clear hB
 refine rg_n 8 9 (.slice Al Kl Dl) (by kernel_rfl) (fun _ _=>by kernel_rfl) i3 hS ?_
 refine rg_n 9 10 (.slice Ar Kr Dr) (by kernel_rfl) (fun _ _=>by kernel_rfl) i3 hS ?_
 refine rg_done (by kernel_rfl) ?_
 clear hS
 try simp only [Act.put,List.setIfInBounds_toArray,List.set_cons_zero,List.set_cons_succ]
 go_wp2_with fail
 refine rg_start (S:=fun w'=>Box w' w.heap.size [.slice a0 n0 c0,.slice b0 m0 d0] 40/\Box w' (w.heap.size + 1) [.slice a1 n1 c1,.slice b1 m1 d1] 40) (by kernel_rfl) ⟨P0.drew,P1.drew⟩ ?_
 replace h0:=h0.drew
 replace e0:=e0.drew
 replace h1:=h1.drew
 replace e1:=e1.drew
 replace P0:=P0.drew
 replace P1:=P1.drew
 replace X6:=X6.drew
 replace OG:=OG.drew
 replace OL:=OL.drew
 replace OR:=OR.drew
 replace HB:=HB.drew
 have hS:=(show _/\_ from ⟨P0,P1⟩)
 refine rg_n 0 28 (.func (.func 98) #[] #[]) (by kernel_rfl) (fun _ _=>by kernel_rfl) i3 hS ?_
 refine rg_n 1 29 (.pointer (some ⟨w.heap.size,0,none⟩)) (by kernel_rfl) (fun _ _=>by kernel_rfl) i3 hS ?_
 refine rg_load 2 (some 30) (.slice a0 n0 c0) 33 29 (w.heap.size) 0 (by kernel_rfl) (by kernel_rfl) (by kernel_rfl) (fun _ hs=>load_at (hs.1.cells2.1)) i3 hS ?_
 refine rg_n 3 31 (.slice Ar Kr Dr) (by kernel_rfl) (fun _ _=>by kernel_rfl) i3 hS ?_
 refine rg_n 5 33 (.pointer (some ⟨w.heap.size + 1,0,none⟩)) (by kernel_rfl) (fun _ _=>by kernel_rfl) i3 hS ?_
 refine rg_load 6 (some 34) (.slice a1 n1 c1) 33 33 (w.heap.size + 1) 0 (by kernel_rfl) (by kernel_rfl) (by kernel_rfl) (fun _ hs=>load_at (hs.2.cells2.1)) i3 hS ?_
 refine rg_n 7 35 (.slice Al Kl Dl) (by kernel_rfl) (fun _ _=>by kernel_rfl) i3 hS ?_
 refine rg_call 4 (some 32) 83 #[.slice a0 n0 c0,.slice Ar Kr Dr] (by kernel_rfl) (by kernel_rfl) (nMul h0 OR.a (by omega) (by omega)) ?_
 rintro e r3x1 ⟨Ap,Kp,Dp,rfl,Op1,hkp,hB⟩
 refine ⟨_,rfl,⟨hS.1.keep hB,hS.2.keep hB⟩,?_⟩
 replace hS:=(show _/\_ from ⟨hS.1.keep hB,hS.2.keep hB⟩)
 replace h0:=h0.keep hB
 replace e0:=e0.keep hB
 replace h1:=h1.keep hB
 replace e1:=e1.keep hB
 replace P0:=P0.keep hB
 replace P1:=P1.keep hB
 replace X6:=X6.keep hB
 replace OG:=OG.keep hB
 replace OL:=OL.keep hB
 replace OR:=OR.keep hB
 replace HB:=joinB HB hB
 clear hB
 refine rg_call 8 (some 36) 83 #[.slice a1 n1 c1,.slice Al Kl Dl] (by kernel_rfl) (by kernel_rfl) (nMul h1 OL.a (by omega) (by omega)) ?_
 rintro e r3x2 ⟨Aq,Kq,Dq,rfl,Op2,hkq,hB⟩
 refine ⟨_,rfl,⟨hS.1.keep hB,hS.2.keep hB⟩,?_⟩
 replace hS:=(show _/\_ from ⟨hS.1.keep hB,hS.2.keep hB⟩)
 replace h0:=h0.keep hB
 replace e0:=e0.keep hB
 replace h1:=h1.keep hB
 replace e1:=e1.keep hB
 replace P0:=P0.keep hB
 replace P1:=P1.keep hB
 replace X6:=X6.keep hB
 replace OG:=OG.keep hB
 replace OL:=OL.keep hB
 replace OR:=OR.keep hB
 replace Op1:=Op1.keep hB
 replace HB:=joinB HB hB
 clear hB
 refine rg_call 9 (some 37) 98 #[.slice Ap Kp Dp,.slice Aq Kq Dq] (by kernel_rfl) (by kernel_rfl) (qPlus Op1.a Op2.a (by omega) (by omega)) ?_
 rintro e r3x3 ⟨An,Kn,Dn,rfl,ON,hkn,hB⟩
 refine ⟨_,rfl,⟨hS.1.keep hB,hS.2.keep hB⟩,?_⟩
 replace hS:=(show _/\_ from ⟨hS.1.keep hB,hS.2.keep hB⟩)
 replace h0:=h0.keep hB
 replace e0:=e0.keep hB
 replace h1:=h1.keep hB
 replace e1:=e1.keep hB
 replace P0:=P0.keep hB
 replace P1:=P1.keep hB
 replace X6:=X6.keep hB
 replace OG:=OG.keep hB
 replace OL:=OL.keep hB
 replace OR:=OR.keep hB
 replace Op1:=Op1.keep hB
 replace Op2:=Op2.keep hB
 replace HB:=joinB HB hB
 clear hB
 refine rg_n 10 27 (.tuple #[.slice An Kn Dn,.int .i64 0]) (by kernel_rfl) (fun _ _=>by kernel_rfl) i3 hS ?_
 refine rg_n 11 38 (.slice An Kn Dn) (by kernel_rfl) (fun _ _=>by kernel_rfl) i3 hS ?_
 refine rg_n 12 39 (.int .i64 0) (by kernel_rfl) (fun _ _=>by kernel_rfl) i3 hS ?_
 refine rg_n 13 11 (.slice An Kn Dn) (by kernel_rfl) (fun _ _=>by kernel_rfl) i3 hS ?_
 refine rg_n 14 12 (.int .i64 0) (by kernel_rfl) (fun _ _=>by kernel_rfl) i3 hS ?_
 refine rg_done (by kernel_rfl) ?_
 clear hS
 try simp only [Act.put,List.setIfInBounds_toArray,List.set_cons_zero,List.set_cons_succ]
 go_wp2_with fail
 refine (nGcd ON.a OG.a (by omega) (by omega)).mono ?_
 rintro e u4 ⟨At,Kt,Dt,rfl,OT,hkt,hB⟩
 replace h0:=h0.keep hB
 replace e0:=e0.keep hB
 replace h1:=h1.keep hB
 replace e1:=e1.keep hB
 replace P0:=P0.keep hB
 replace P1:=P1.keep hB
 replace X6:=X6.keep hB
 replace OG:=OG.keep hB
 replace OL:=OL.keep hB
 replace OR:=OR.keep hB
 replace Op1:=Op1.keep hB
 replace Op2:=Op2.keep hB
 replace ON:=ON.keep hB
 replace HB:=joinB HB hB
 clear hB
 have hgt:((Int.gcd (x0 * (y1 / (Int.gcd y0 y1:Nat)) + x1 * (y0 / (Int.gcd y0 y1:Nat))) (Int.gcd y0 y1:Nat):Nat):Int)≠0:=fun e=>HG.out (Int.gcd_eq_zero_iff (a:=(x0 * (y1 / (Int.gcd y0 y1:Nat)) + x1 * (y0 / (Int.gcd y0 y1:Nat)))) (b:=(Int.gcd y0 y1:Nat)) |>.1 (by omega)).2
 have HGT:=(show Hid _ from hgt)
 clear hgt
 go_wp2_with fail
 refine rg_start (S:=fun w'=>Box w' w.heap.size [.slice a0 n0 c0,.slice b0 m0 d0] 40/\Box w' (w.heap.size + 1) [.slice a1 n1 c1,.slice b1 m1 d1] 40) (by kernel_rfl) ⟨P0.drew,P1.drew⟩ ?_
 replace h0:=h0.drew
 replace e0:=e0.drew
 replace h1:=h1.drew
 replace e1:=e1.drew
 replace P0:=P0.drew
 replace P1:=P1.drew
 replace X6:=X6.drew
 replace OG:=OG.drew
 replace OL:=OL.drew
 replace OR:=OR.drew
 replace Op1:=Op1.drew
 replace Op2:=Op2.drew
 replace ON:=ON.drew
 replace OT:=OT.drew
 replace HB:=HB.drew
 have hS:=(show _/\_ from ⟨P0,P1⟩)
 refine rg_n 0 47 (.slice An Kn Dn) (by kernel_rfl) (fun _ _=>by kernel_rfl) i3 hS ?_
 refine rg_n 1 48 (.slice At Kt Dt) (by kernel_rfl) (fun _ _=>by kernel_rfl) i3 hS ?_
 refine rg_n 3 50 (.slice Al Kl Dl) (by kernel_rfl) (fun _ _=>by kernel_rfl) i3 hS ?_
 refine rg_n 4 51 (.pointer (some ⟨w.heap.size + 1,1,none⟩)) (by kernel_rfl) (fun _ _=>by kernel_rfl) i3 hS ?_
 refine rg_load 5 (some 52) (.slice b1 m1 d1) 33 51 (w.heap.size + 1) 1 (by kernel_rfl) (by kernel_rfl) (by kernel_rfl) (fun _ hs=>load_at (hs.2.cells2.2.1)) i3 hS ?_
 refine rg_n 6 53 (.slice At Kt Dt) (by kernel_rfl) (fun _ _=>by kernel_rfl) i3 hS ?_
 refine rg_call 2 (some 49) 110 #[.slice An Kn Dn,.slice At Kt Dt] (by kernel_rfl) (by kernel_rfl) (qQuot ON.a OT.a (by omega) (by omega) HGT.out) ?_
 rintro e r7x1 ⟨Au,Ku,Du,rfl,OU,hku,hB⟩
 refine ⟨_,rfl,⟨hS.1.keep hB,hS.2.keep hB⟩,?_⟩
 replace hS:=(show _/\_ from ⟨hS.1.keep hB,hS.2.keep hB⟩)
 replace h0:=h0.keep hB
 replace e0:=e0.keep hB
 replace h1:=h1.keep hB
 replace e1:=e1.keep hB
 replace P0:=P0.keep hB
 replace P1:=P1.keep hB
 replace X6:=X6.keep hB
 replace OG:=OG.keep hB
 replace OL:=OL.keep hB
 replace OR:=OR.keep hB
 replace Op1:=Op1.keep hB
 replace Op2:=Op2.keep hB
 replace ON:=ON.keep hB
 replace OT:=OT.keep hB
 replace HB:=joinB HB hB
 clear hB
 refine rg_call 7 (some 54) 110 #[.slice b1 m1 d1,.slice At Kt Dt] (by kernel_rfl) (by kernel_rfl) (qQuot e1 OT.a (by omega) (by omega) HGT.out) ?_
 rintro e r7x2 ⟨Av,Kv,Dv,rfl,OV,hkv,hB⟩
 refine ⟨_,rfl,⟨hS.1.keep hB,hS.2.keep hB⟩,?_⟩
 replace hS:=(show _/\_ from ⟨hS.1.keep hB,hS.2.keep hB⟩)
 replace h0:=h0.keep hB
 replace e0:=e0.keep hB
 replace h1:=h1.keep hB
 replace e1:=e1.keep hB
 replace P0:=P0.keep hB
 replace P1:=P1.keep hB
 replace X6:=X6.keep hB
 replace OG:=OG.keep hB
 replace OL:=OL.keep hB
 replace OR:=OR.keep hB
 replace Op1:=Op1.keep hB
 replace Op2:=Op2.keep hB
 replace ON:=ON.keep hB
 replace OT:=OT.keep hB
 replace OU:=OU.keep hB
 replace HB:=joinB HB hB
 clear hB
 refine rg_call 8 (some 55) 83 #[.slice Al Kl Dl,.slice Av Kv Dv] (by kernel_rfl) (by kernel_rfl) (nMul OL.a OV.a (by omega) (by omega)) ?_
 rintro e r7x3 ⟨Aw,Kw,Dw,rfl,OW,hkw,hB⟩
 refine ⟨_,rfl,⟨hS.1.keep hB,hS.2.keep hB⟩,?_⟩
 replace hS:=(show _/\_ from ⟨hS.1.keep hB,hS.2.keep hB⟩)
 replace h0:=h0.keep hB
 replace e0:=e0.keep hB
 replace h1:=h1.keep hB
 replace e1:=e1.keep hB
 replace P0:=P0.keep hB
 replace P1:=P1.keep hB
 replace X6:=X6.keep hB
 replace OG:=OG.keep hB
 replace OL:=OL.keep hB
 replace OR:=OR.keep hB
 replace Op1:=Op1.keep hB
 replace Op2:=Op2.keep hB
 replace ON:=ON.keep hB
 replace OT:=OT.keep hB
 replace OU:=OU.keep hB
 replace OV:=OV.keep hB
 replace HB:=joinB HB hB
 clear hB
 refine rg_n 9 56 (.agg #[.slice Au Ku Du,.slice Aw Kw Dw]) (by kernel_rfl) (fun _ _=>by kernel_rfl) i3 hS ?_
 refine rg_ready [10] (by kernel_rfl) (by simp) ?_
 refine ar_store 10 40 40 6 56 (w.heap.size + 1 + 1) [.slice none 0 0,.slice none 0 0] [.slice Au Ku Du,.slice Aw Kw Dw] (by kernel_rfl) (by kernel_rfl) (by kernel_rfl) (by kernel_rfl) X6 (by kernel_rfl) rfl (by kernel_rfl) ?_ ar_nil
 intro r7x4 Y hw hB
 refine ⟨⟨hS.1.off (by omega) hw,hS.2.off (by omega) hw⟩,?_⟩
 replace hS:=(show _/\_ from ⟨hS.1.off (by omega) hw,hS.2.off (by omega) hw⟩)
 replace HB:=HB.trans (hB.mono (by omega))
 replace h0:=h0.blk X6 (no_ints2 _ _ _ _ _ _) hw
 replace e0:=e0.blk X6 (no_ints2 _ _ _ _ _ _) hw
 replace h1:=h1.blk X6 (no_ints2 _ _ _ _ _ _) hw
 replace e1:=e1.blk X6 (no_ints2 _ _ _ _ _ _) hw
 replace P0:=P0.off (by omega) hw
 replace P1:=P1.off (by omega) hw
 skip
 replace OG:=OG.blk X6 (no_ints2 _ _ _ _ _ _) hw
 replace OL:=OL.blk X6 (no_ints2 _ _ _ _ _ _) hw
 replace OR:=OR.blk X6 (no_ints2 _ _ _ _ _ _) hw
 replace Op1:=Op1.blk X6 (no_ints2 _ _ _ _ _ _) hw
 replace Op2:=Op2.blk X6 (no_ints2 _ _ _ _ _ _) hw
 replace ON:=ON.blk X6 (no_ints2 _ _ _ _ _ _) hw
 replace OT:=OT.blk X6 (no_ints2 _ _ _ _ _ _) hw
 replace OU:=OU.blk X6 (no_ints2 _ _ _ _ _ _) hw
 replace OV:=OV.blk X6 (no_ints2 _ _ _ _ _ _) hw
 replace OW:=OW.blk X6 (no_ints2 _ _ _ _ _ _) hw
 replace X6:=Y
 clear hB hw
 refine rg_n 11 7 (.int .i64 0) (by kernel_rfl) (fun _ _=>by kernel_rfl) i3 hS ?_
 refine rg_done (by kernel_rfl) ?_
 clear hS
 try simp only [Act.put,List.setIfInBounds_toArray,List.set_cons_zero,List.set_cons_succ]
 go_wp2
 refine bodyPost_ret (ret_rat_tmp rfl rfl rfl X6) rfl ?_
 exact ⟨_,_,_,_,_,_,rfl,OU,OW,by omega,by omega,HB⟩
end
section
open Go.RowKit Lim
theorem rd_ne (x y:Int) (h:y≠0):rd x y≠0:=fun e=>by
 unfold rd at e
 have h1:=Int.ediv_mul_cancel (Int.gcd_dvd_right x y)
 rw [e,Int.zero_mul] at h1
 exact h h1.symm
theorem qStep {w:World} {a0 b0:Option Addr} {n0 c0 m0 d0:Nat} {x0 y0:Int} {a1 b1:Option Addr} {n1 c1 m1 d1:Nat} {x1 y1:Int} (h0:NatA w a0 n0 c0 x0) (e0:NatA w b0 m0 d0 y0) (hn0:n0<=8589934592) (hm0:m0<=8589934592) (h1:NatA w a1 n1 c1 x1) (e1:NatA w b1 m1 d1 y1) (hn1:n1<=8589934592) (hm1:m1<=8589934592) (hy0:y0≠0) :
  Calls Tryz.prog 97 #[.agg #[.slice a0 n0 c0,.slice b0 m0 d0],.agg #[.slice a1 n1 c1,.slice b1 m1 d1]] w fun e w'=>∃ a k d a' k' d',e=.returned (.agg #[.slice a k d,.slice a' k' d'])/\NatO w' a k d (((x0) * ((rd (cn x1 y1) (cd y1)) / (Int.gcd (y0) (rd (cn x1 y1) (cd y1)):Nat)) + (rn (cn x1 y1) (cd y1)) * ((y0) / (Int.gcd (y0) (rd (cn x1 y1) (cd y1)):Nat))) / (Int.gcd ((x0) * ((rd (cn x1 y1) (cd y1)) / (Int.gcd (y0) (rd (cn x1 y1) (cd y1)):Nat)) + (rn (cn x1 y1) (cd y1)) * ((y0) / (Int.gcd (y0) (rd (cn x1 y1) (cd y1)):Nat))) (Int.gcd (y0) (rd (cn x1 y1) (cd y1)):Nat):Nat))/\NatO w' a' k' d' ((y0) / (Int.gcd (y0) (rd (cn x1 y1) (cd y1)):Nat) * ((rd (cn x1 y1) (cd y1)) / (Int.gcd ((x0) * ((rd (cn x1 y1) (cd y1)) / (Int.gcd (y0) (rd (cn x1 y1) (cd y1)):Nat)) + (rn (cn x1 y1) (cd y1)) * ((y0) / (Int.gcd (y0) (rd (cn x1 y1) (cd y1)):Nat))) (Int.gcd (y0) (rd (cn x1 y1) (cd y1)):Nat):Nat)))/\k<=n0 + n1 + m0 + m1 + 3/\k'<=m0 + m1 + 2/\Below w.heap.size w w':=by
 have HY0:=(show Hid _ from hy0)
 clear hy0
 have HB:=below3 w (.cells #[.slice a0 n0 c0,.slice b0 m0 d0] 40) (.cells #[.slice a1 n1 c1,.slice b1 m1 d1] 40) (.cells #[.slice none 0 0,.slice none 0 0] 40)
 have P0:=((box_new w [.slice a0 n0 c0,.slice b0 m0 d0] 40).keep (below_alloc _ (.cells #[.slice a1 n1 c1,.slice b1 m1 d1] 40))).keep (below_alloc _ (.cells #[.slice none 0 0,.slice none 0 0] 40))
 have P1:=(box_new (w.alloc (.cells #[.slice a0 n0 c0,.slice b0 m0 d0] 40)) [.slice a1 n1 c1,.slice b1 m1 d1] 40).keep (below_alloc _ (.cells #[.slice none 0 0,.slice none 0 0] 40))
 have X4:=box_new ((w.alloc (.cells #[.slice a0 n0 c0,.slice b0 m0 d0] 40)).alloc (.cells #[.slice a1 n1 c1,.slice b1 m1 d1] 40)) [.slice none 0 0,.slice none 0 0] 40
 rw [show (w.alloc (.cells #[.slice a0 n0 c0,.slice b0 m0 d0] 40)).heap.size=w.heap.size + 1 by simp] at P1
 rw [show ((w.alloc (.cells #[.slice a0 n0 c0,.slice b0 m0 d0] 40)).alloc (.cells #[.slice a1 n1 c1,.slice b1 m1 d1] 40)).heap.size=w.heap.size + 1 + 1 by simp] at X4
 replace h0:=h0.keep HB
 replace e0:=e0.keep HB
 replace h1:=h1.keep HB
 replace e1:=e1.keep HB
 go_enter Tryz.func97,Tryz.ntmps97
 go_wp2_with fail
 generalize ((w.alloc (.cells #[.slice a0 n0 c0,.slice b0 m0 d0] 40)).alloc (.cells #[.slice a1 n1 c1,.slice b1 m1 d1] 40)).alloc (.cells #[.slice none 0 0,.slice none 0 0] 40)=u0 at *
 refine rg_start (S:=fun w'=>Below u0.drew.heap.size u0.drew w') (by kernel_rfl) (Below.refl _ _) ?_
 replace HB:=HB.drew
 have UP0:=P0.drew
 have UP1:=P1.drew
 replace h0:=h0.drew
 replace e0:=e0.drew
 replace h1:=h1.drew
 replace e1:=e1.drew
 replace X4:=X4.drew
 have hX4u:=X4.lt
 have hBu:=HB.size
 have hS:=Below.refl u0.drew.heap.size u0.drew
 clear P0 P1
 refine rg_load 0 (some 8) (.agg #[.slice a0 n0 c0,.slice b0 m0 d0]) 40 2 (w.heap.size) 0 (by kernel_rfl) (by kernel_rfl) (by kernel_rfl) (fun _ hb=>load_rat (UP0.keep hb)) i3 hS ?_
 refine rg_load 1 (some 9) (.agg #[.slice a1 n1 c1,.slice b1 m1 d1]) 40 3 (w.heap.size + 1) 0 (by kernel_rfl) (by kernel_rfl) (by kernel_rfl) (fun _ hb=>load_rat (UP1.keep hb)) i3 hS ?_
 refine rg_ready [2,7] (by kernel_rfl) (by simp) ?_
 refine ar_call 2 (some 10) 85 #[.agg #[.slice a1 n1 c1,.slice b1 m1 d1]] (by kernel_rfl) (by kernel_rfl) (qLowest h1 e1 (by omega) (by omega)) ?_ ?_
 ·rintro e v35 ⟨A1,K1,D1,B1,L1,M1,rfl,C1,E1,hK1,hL1,hB⟩
  refine ⟨_,rfl,joinB hS hB,?_⟩
  replace hS:=joinB hS hB
  replace HB:=joinB HB hB
  replace h0:=h0.keep hB
  replace e0:=e0.keep hB
  replace h1:=h1.keep hB
  replace e1:=e1.keep hB
  replace X4:=X4.keep hB
  clear hB
  refine rg_ready [3,7] (by kernel_rfl) (by simp) ?_
  refine ar_call 3 (some 11) 84 #[.agg #[.slice a0 n0 c0,.slice b0 m0 d0],.agg #[.slice A1 K1 D1,.slice B1 L1 M1],.func (.func 98) #[] #[]] (by kernel_rfl) (by kernel_rfl) (qTogP h0 e0 (by omega) (by omega) HY0.out C1.a E1.a (by omega) (by omega) (rd_ne _ _ (cd_ne _))) ?_ ?_
  ·rintro e v36 ⟨Ar,Kr,Dr,As',Ks,Ds,rfl,Or1,Or2,hkr,hks,hB⟩
   refine ⟨_,rfl,joinB hS hB,?_⟩
   replace hS:=joinB hS hB
   replace HB:=joinB HB hB
   replace h0:=h0.keep hB
   replace e0:=e0.keep hB
   replace h1:=h1.keep hB
   replace e1:=e1.keep hB
   replace C1:=C1.keep hB
   replace E1:=E1.keep hB
   replace X4:=X4.keep hB
   clear hB
   refine rg_n 4 7 (.tuple #[.agg #[.slice Ar Kr Dr,.slice As' Ks Ds],.int .i64 0]) (by kernel_rfl) (fun _ _=>by kernel_rfl) i3 hS ?_
   refine rg_n 5 12 (.agg #[.slice Ar Kr Dr,.slice As' Ks Ds]) (by kernel_rfl) (fun _ _=>by kernel_rfl) i3 hS ?_
   refine rg_n 6 13 (.int .i64 0) (by kernel_rfl) (fun _ _=>by kernel_rfl) i3 hS ?_
   refine rg_ready [7] (by kernel_rfl) (by simp) ?_
   refine ar_alloc 7 (some 5) 40 [.slice none 0 0,.slice none 0 0] (by kernel_rfl) (by kernel_rfl) ?_ ?_
   ·intro v37 X5 hB
    refine ⟨joinB hS hB,?_⟩
    have hX5:=hS.size
    replace hS:=joinB hS hB
    replace HB:=joinB HB hB
    replace h0:=h0.keep hB
    replace e0:=e0.keep hB
    replace h1:=h1.keep hB
    replace e1:=e1.keep hB
    replace C1:=C1.keep hB
    replace E1:=E1.keep hB
    replace Or1:=Or1.keep hB
    replace Or2:=Or2.keep hB
    replace X4:=X4.keep hB
    clear hB
    refine rg_ready [8] (by kernel_rfl) (by simp) ?_
    refine ar_store 8 40 40 5 12 (v36.heap.size) [.slice none 0 0,.slice none 0 0] [.slice Ar Kr Dr,.slice As' Ks Ds] (by kernel_rfl) (by kernel_rfl) (by kernel_rfl) (by kernel_rfl) X5 (by kernel_rfl) rfl (by kernel_rfl) ?_ ?_
    ·intro v38 Y hw hB
     refine ⟨hS.trans (hB.mono hX5),?_⟩
     replace HB:=HB.trans (hB.mono (Nat.le_trans hBu hX5))
     replace hS:=hS.trans (hB.mono hX5)
     replace h0:=h0.blk X5 (no_ints2 _ _ _ _ _ _) hw
     replace e0:=e0.blk X5 (no_ints2 _ _ _ _ _ _) hw
     replace h1:=h1.blk X5 (no_ints2 _ _ _ _ _ _) hw
     replace e1:=e1.blk X5 (no_ints2 _ _ _ _ _ _) hw
     replace C1:=C1.blk X5 (no_ints2 _ _ _ _ _ _) hw
     replace E1:=E1.blk X5 (no_ints2 _ _ _ _ _ _) hw
     replace Or1:=Or1.blk X5 (no_ints2 _ _ _ _ _ _) hw
     replace Or2:=Or2.blk X5 (no_ints2 _ _ _ _ _ _) hw
     replace X4:=X4.off (by omega) hw
     replace X5:=Y
     clear hB hw
     refine rg_n 9 6 (.int .i64 0) (by kernel_rfl) (fun _ _=>by kernel_rfl) i3 hS ?_
     refine rg_done (by kernel_rfl) ?_
     try simp only [Act.put,List.setIfInBounds_toArray,List.set_cons_zero,List.set_cons_succ]
     obtain ⟨j1,j2,j3,j4⟩:=X5.cells2
     obtain ⟨k1,k2,k3,k4⟩:=X4.cells2
     have S2:=X4.put2 (.slice Ar Kr Dr) (.slice As' Ks Ds)
     have Q1:=Or1.put2 X4 (.slice Ar Kr Dr) (.slice As' Ks Ds)
     have Q2:=Or2.put2 X4 (.slice Ar Kr Dr) (.slice As' Ks Ds)
     have HB2:=below_put2 HB (g:=w.heap.size + 1 + 1) (by omega) (.slice Ar Kr Dr) (.slice As' Ks Ds)
     clear h0 e0 h1 e1 X5 X4 HB hS C1 E1 Or1 Or2
     go_wp2
     refine bodyPost_ret (ret_rat rfl rfl S2) rfl ?_
     exact ⟨_,_,_,_,_,_,rfl,Q1,Q2,by omega,by omega,HB2⟩
    exact ar_nil
   exact ar_nil
  refine ar_alloc 7 (some 5) 40 [.slice none 0 0,.slice none 0 0] (by kernel_rfl) (by kernel_rfl) ?_ ?_
  ·intro v39 X5 hB
   refine ⟨joinB hS hB,?_⟩
   have hX5:=hS.size
   replace hS:=joinB hS hB
   replace HB:=joinB HB hB
   replace h0:=h0.keep hB
   replace e0:=e0.keep hB
   replace h1:=h1.keep hB
   replace e1:=e1.keep hB
   replace C1:=C1.keep hB
   replace E1:=E1.keep hB
   replace X4:=X4.keep hB
   clear hB
   refine rg_ready [3] (by kernel_rfl) (by simp) ?_
   refine ar_call 3 (some 11) 84 #[.agg #[.slice a0 n0 c0,.slice b0 m0 d0],.agg #[.slice A1 K1 D1,.slice B1 L1 M1],.func (.func 98) #[] #[]] (by kernel_rfl) (by kernel_rfl) (qTogP h0 e0 (by omega) (by omega) HY0.out C1.a E1.a (by omega) (by omega) (rd_ne _ _ (cd_ne _))) ?_ ?_
   ·rintro e v40 ⟨Ar,Kr,Dr,As',Ks,Ds,rfl,Or1,Or2,hkr,hks,hB⟩
    refine ⟨_,rfl,joinB hS hB,?_⟩
    replace hS:=joinB hS hB
    replace HB:=joinB HB hB
    replace h0:=h0.keep hB
    replace e0:=e0.keep hB
    replace h1:=h1.keep hB
    replace e1:=e1.keep hB
    replace C1:=C1.keep hB
    replace E1:=E1.keep hB
    replace X4:=X4.keep hB
    replace X5:=X5.keep hB
    clear hB
    refine rg_n 4 7 (.tuple #[.agg #[.slice Ar Kr Dr,.slice As' Ks Ds],.int .i64 0]) (by kernel_rfl) (fun _ _=>by kernel_rfl) i3 hS ?_
    refine rg_n 5 12 (.agg #[.slice Ar Kr Dr,.slice As' Ks Ds]) (by kernel_rfl) (fun _ _=>by kernel_rfl) i3 hS ?_
    refine rg_n 6 13 (.int .i64 0) (by kernel_rfl) (fun _ _=>by kernel_rfl) i3 hS ?_
    refine rg_ready [8] (by kernel_rfl) (by simp) ?_
    refine ar_store 8 40 40 5 12 (v35.heap.size) [.slice none 0 0,.slice none 0 0] [.slice Ar Kr Dr,.slice As' Ks Ds] (by kernel_rfl) (by kernel_rfl) (by kernel_rfl) (by kernel_rfl) X5 (by kernel_rfl) rfl (by kernel_rfl) ?_ ?_
    ·intro v41 Y hw hB
     refine ⟨hS.trans (hB.mono hX5),?_⟩
     replace HB:=HB.trans (hB.mono (Nat.le_trans hBu hX5))
     replace hS:=hS.trans (hB.mono hX5)
     replace h0:=h0.blk X5 (no_ints2 _ _ _ _ _ _) hw
     replace e0:=e0.blk X5 (no_ints2 _ _ _ _ _ _) hw
     replace h1:=h1.blk X5 (no_ints2 _ _ _ _ _ _) hw
     replace e1:=e1.blk X5 (no_ints2 _ _ _ _ _ _) hw
     replace C1:=C1.blk X5 (no_ints2 _ _ _ _ _ _) hw
     replace E1:=E1.blk X5 (no_ints2 _ _ _ _ _ _) hw
     replace Or1:=Or1.blk X5 (no_ints2 _ _ _ _ _ _) hw
     replace Or2:=Or2.blk X5 (no_ints2 _ _ _ _ _ _) hw
     replace X4:=X4.off (by omega) hw
     replace X5:=Y
     clear hB hw
     refine rg_n 9 6 (.int .i64 0) (by kernel_rfl) (fun _ _=>by kernel_rfl) i3 hS ?_
     refine rg_done (by kernel_rfl) ?_
     try simp only [Act.put,List.setIfInBounds_toArray,List.set_cons_zero,List.set_cons_succ]
     obtain ⟨j1,j2,j3,j4⟩:=X5.cells2
     obtain ⟨k1,k2,k3,k4⟩:=X4.cells2
     have S2:=X4.put2 (.slice Ar Kr Dr) (.slice As' Ks Ds)
     have Q1:=Or1.put2 X4 (.slice Ar Kr Dr) (.slice As' Ks Ds)
     have Q2:=Or2.put2 X4 (.slice Ar Kr Dr) (.slice As' Ks Ds)
     have HB2:=below_put2 HB (g:=w.heap.size + 1 + 1) (by omega) (.slice Ar Kr Dr) (.slice As' Ks Ds)
     clear h0 e0 h1 e1 X5 X4 HB hS C1 E1 Or1 Or2
     go_wp2
     refine bodyPost_ret (ret_rat rfl rfl S2) rfl ?_
     exact ⟨_,_,_,_,_,_,rfl,Q1,Q2,by omega,by omega,HB2⟩
    exact ar_nil
   exact ar_nil
  exact ar_nil
 refine ar_alloc 7 (some 5) 40 [.slice none 0 0,.slice none 0 0] (by kernel_rfl) (by kernel_rfl) ?_ ?_
 ·intro v42 X5 hB
  refine ⟨joinB hS hB,?_⟩
  have hX5:=hS.size
  replace hS:=joinB hS hB
  replace HB:=joinB HB hB
  replace h0:=h0.keep hB
  replace e0:=e0.keep hB
  replace h1:=h1.keep hB
  replace e1:=e1.keep hB
  replace X4:=X4.keep hB
  clear hB
  refine rg_ready [2] (by kernel_rfl) (by simp) ?_
  refine ar_call 2 (some 10) 85 #[.agg #[.slice a1 n1 c1,.slice b1 m1 d1]] (by kernel_rfl) (by kernel_rfl) (qLowest h1 e1 (by omega) (by omega)) ?_ ?_
  ·rintro e v43 ⟨A1,K1,D1,B1,L1,M1,rfl,C1,E1,hK1,hL1,hB⟩
   refine ⟨_,rfl,joinB hS hB,?_⟩
   replace hS:=joinB hS hB
   replace HB:=joinB HB hB
   replace h0:=h0.keep hB
   replace e0:=e0.keep hB
   replace h1:=h1.keep hB
   replace e1:=e1.keep hB
   replace X4:=X4.keep hB
   replace X5:=X5.keep hB
   clear hB
   refine rg_ready [3] (by kernel_rfl) (by simp) ?_
   refine ar_call 3 (some 11) 84 #[.agg #[.slice a0 n0 c0,.slice b0 m0 d0],.agg #[.slice A1 K1 D1,.slice B1 L1 M1],.func (.func 98) #[] #[]] (by kernel_rfl) (by kernel_rfl) (qTogP h0 e0 (by omega) (by omega) HY0.out C1.a E1.a (by omega) (by omega) (rd_ne _ _ (cd_ne _))) ?_ ?_
   ·rintro e v44 ⟨Ar,Kr,Dr,As',Ks,Ds,rfl,Or1,Or2,hkr,hks,hB⟩
    refine ⟨_,rfl,joinB hS hB,?_⟩
    replace hS:=joinB hS hB
    replace HB:=joinB HB hB
    replace h0:=h0.keep hB
    replace e0:=e0.keep hB
    replace h1:=h1.keep hB
    replace e1:=e1.keep hB
    replace C1:=C1.keep hB
    replace E1:=E1.keep hB
    replace X4:=X4.keep hB
    replace X5:=X5.keep hB
    clear hB
    refine rg_n 4 7 (.tuple #[.agg #[.slice Ar Kr Dr,.slice As' Ks Ds],.int .i64 0]) (by kernel_rfl) (fun _ _=>by kernel_rfl) i3 hS ?_
    refine rg_n 5 12 (.agg #[.slice Ar Kr Dr,.slice As' Ks Ds]) (by kernel_rfl) (fun _ _=>by kernel_rfl) i3 hS ?_
    refine rg_n 6 13 (.int .i64 0) (by kernel_rfl) (fun _ _=>by kernel_rfl) i3 hS ?_
    refine rg_ready [8] (by kernel_rfl) (by simp) ?_
    refine ar_store 8 40 40 5 12 (u0.drew.heap.size) [.slice none 0 0,.slice none 0 0] [.slice Ar Kr Dr,.slice As' Ks Ds] (by kernel_rfl) (by kernel_rfl) (by kernel_rfl) (by kernel_rfl) X5 (by kernel_rfl) rfl (by kernel_rfl) ?_ ?_
    ·intro v45 Y hw hB
     refine ⟨hS.trans (hB.mono hX5),?_⟩
     replace HB:=HB.trans (hB.mono (Nat.le_trans hBu hX5))
     replace hS:=hS.trans (hB.mono hX5)
     replace h0:=h0.blk X5 (no_ints2 _ _ _ _ _ _) hw
     replace e0:=e0.blk X5 (no_ints2 _ _ _ _ _ _) hw
     replace h1:=h1.blk X5 (no_ints2 _ _ _ _ _ _) hw
     replace e1:=e1.blk X5 (no_ints2 _ _ _ _ _ _) hw
     replace C1:=C1.blk X5 (no_ints2 _ _ _ _ _ _) hw
     replace E1:=E1.blk X5 (no_ints2 _ _ _ _ _ _) hw
     replace Or1:=Or1.blk X5 (no_ints2 _ _ _ _ _ _) hw
     replace Or2:=Or2.blk X5 (no_ints2 _ _ _ _ _ _) hw
     replace X4:=X4.off (by omega) hw
     replace X5:=Y
     clear hB hw
     refine rg_n 9 6 (.int .i64 0) (by kernel_rfl) (fun _ _=>by kernel_rfl) i3 hS ?_
     refine rg_done (by kernel_rfl) ?_
     generalize u0.drew.heap.size=gg at *
     try simp only [Act.put,List.setIfInBounds_toArray,List.set_cons_zero,List.set_cons_succ]
     obtain ⟨j1,j2,j3,j4⟩:=X5.cells2
     obtain ⟨k1,k2,k3,k4⟩:=X4.cells2
     have S2:=X4.put2 (.slice Ar Kr Dr) (.slice As' Ks Ds)
     have Q1:=Or1.put2 X4 (.slice Ar Kr Dr) (.slice As' Ks Ds)
     have Q2:=Or2.put2 X4 (.slice Ar Kr Dr) (.slice As' Ks Ds)
     have HB2:=below_put2 HB (g:=w.heap.size + 1 + 1) (by omega) (.slice Ar Kr Dr) (.slice As' Ks Ds)
     clear h0 e0 h1 e1 X5 X4 HB hS C1 E1 Or1 Or2
     go_wp2
     refine bodyPost_ret (ret_rat rfl rfl S2) rfl ?_
     exact ⟨_,_,_,_,_,_,rfl,Q1,Q2,by omega,by omega,HB2⟩
    exact ar_nil
   exact ar_nil
  exact ar_nil
 exact ar_nil
end
section
open Go.RowKit Lim
theorem Red.cross {N D p q x y : Int} (h : Red N D p q) (hq : 0 < q) (e : p * y = x * q) : Red N D x y := by
  refine ⟨h.n0, h.d0, h.co, ?_⟩
  have h1 := h.eq
  refine Int.eq_of_mul_eq_mul_right (a := q) (by omega) ?_
  calc N * y * q = N * q * y := by grind
    _ = p * D * y := by rw [h1]
    _ = p * y * D := by grind
    _ = x * q * D := by rw [e]
    _ = x * D * q := by grind
theorem cd_pos {y:Int} (h:0<=y):0 < cd y:=by unfold cd; split<;>omega
theorem cn_nonneg {x:Int} (y:Int) (h:0<=x):0<=cn x y:=by unfold cn; split<;>omega
theorem tog_red {p0 q0 p1 q1 V:Int} (h0:0<=p0) (hq0:0 < q0) (c0:Int.gcd p0 q0=1) (h1:0<=p1) (hq1:0 < q1) (c1:Int.gcd p1 q1=1)
  (hV:0<=V) (hn:V=p0 * (q1 / (Int.gcd q0 q1:Nat)) + p1 * (q0 / (Int.gcd q0 q1:Nat))\/V=p0 * (q1 / (Int.gcd q0 q1:Nat)) - p1 * (q0 / (Int.gcd q0 q1:Nat))) :
  Int.gcd (V / (Int.gcd V (Int.gcd q0 q1:Nat):Nat)) (q0 / (Int.gcd q0 q1:Nat) * (q1 / (Int.gcd V (Int.gcd q0 q1:Nat):Nat)))=1 /\
  0<=V / (Int.gcd V (Int.gcd q0 q1:Nat):Nat)/\0 < q0 / (Int.gcd q0 q1:Nat) * (q1 / (Int.gcd V (Int.gcd q0 q1:Nat):Nat)) /\
  V / (Int.gcd V (Int.gcd q0 q1:Nat):Nat) * (q0 * q1)=V * (Int.gcd q0 q1:Nat) * (q0 / (Int.gcd q0 q1:Nat) * (q1 / (Int.gcd V (Int.gcd q0 q1:Nat):Nat))):=by
 obtain ⟨p0,rfl⟩:∃ a:Nat,p0=a:=⟨p0.toNat,by omega⟩
 obtain ⟨q0,rfl⟩:∃ a:Nat,q0=a:=⟨q0.toNat,by omega⟩
 obtain ⟨p1,rfl⟩:∃ a:Nat,p1=a:=⟨p1.toNat,by omega⟩
 obtain ⟨q1,rfl⟩:∃ a:Nat,q1=a:=⟨q1.toNat,by omega⟩
 obtain ⟨v,rfl⟩:∃ a:Nat,V=a:=⟨V.toNat,by omega⟩
 have g1:Int.gcd (q0:Int) q1=q0.gcd q1:=rfl
 rw [g1] at hn ⊢
 have g2:Int.gcd (v:Int) ((q0.gcd q1:Nat):Int)=v.gcd (q0.gcd q1):=rfl
 rw [g2]
 have hq0':0 < q0:=by omega
 have hq1':0 < q1:=by omega
 have hg:0 < q0.gcd q1:=Nat.gcd_pos_of_pos_left _ hq0'
 have hh:0 < v.gcd (q0.gcd q1):=Nat.gcd_pos_of_pos_right _ hg
 have hn':v=p0 * (q1 / q0.gcd q1) + p1 * (q0 / q0.gcd q1)\/v + p1 * (q0 / q0.gcd q1)=p0 * (q1 / q0.gcd q1):=by
  rw [<- Int.natCast_ediv,<- Int.natCast_ediv,<- Int.natCast_mul,<- Int.natCast_mul] at hn
  rcases hn with e | e
  ·left; omega
  ·right; omega
 have co:=tog_nat (num:=v) (p0:=p0) (p1:=p1) (q0:=q0) (q1:=q1) c0 c1 hq0' hq1' hn'
 rw [<- Int.natCast_ediv,<- Int.natCast_ediv,<- Int.natCast_ediv,<- Int.natCast_mul,<- Int.natCast_mul,<- Int.natCast_mul,<- Int.natCast_mul,<- Int.natCast_mul]
 have dv:v / v.gcd (q0.gcd q1) * v.gcd (q0.gcd q1)=v:=Nat.div_mul_cancel (Nat.gcd_dvd_left _ _)
 have d0:q0 / q0.gcd q1 * q0.gcd q1=q0:=Nat.div_mul_cancel (Nat.gcd_dvd_left _ _)
 have d1:q1 / v.gcd (q0.gcd q1) * v.gcd (q0.gcd q1)=q1:=Nat.div_mul_cancel (Nat.dvd_trans (Nat.gcd_dvd_right _ _) (Nat.gcd_dvd_right _ _))
 have l1:q0.gcd q1<=q0:=Nat.gcd_le_left _ hq0'
 have l2:v.gcd (q0.gcd q1)<=q1:=Nat.le_trans (Nat.gcd_le_right _ hg) (Nat.gcd_le_right _ hq1')
 refine ⟨co,Int.natCast_nonneg _,Int.natCast_pos.2 (Nat.mul_pos (Nat.div_pos l1 hg) (Nat.div_pos l2 hh)),?_⟩
 congr 1
 generalize q0 / q0.gcd q1=a at *
 generalize q1 / v.gcd (q0.gcd q1)=b at *
 generalize v / v.gcd (q0.gcd q1)=c at *
 generalize v.gcd (q0.gcd q1)=h at *
 generalize q0.gcd q1=g at *
 subst d1 dv d0
 grind
def rstep (s v:Int × Int):Int × Int:=(s.1 * cd v.2 + cn v.1 v.2 * s.2,s.2 * cd v.2)
def rsum (l:List (Int × Int)):Int × Int:=l.foldl rstep (0,1)
theorem rsum_step (l:List (Int × Int)) (k:Nat) (h:k < l.length):rsum (l.take (k + 1))=rstep (rsum (l.take k)) l[k]:=by
 unfold rsum
 rw [List.take_succ_eq_append_getElem h,List.foldl_append]
 rfl
end
end Go.Proofs.YtlbndpkdkdgggaaGreatDoor
