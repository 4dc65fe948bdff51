/- Several texts, joined: Ref3. -/
import Derived.Test.YtlbndpkdkdgggaaGreatDoorJrf
import Derived.Test.YtlbndpkdkdgggaaGreatDoorJne
import Derived.Test.YtlbndpkdkdgggaaGreatDoorJnc
set_option maxRecDepth 100000
set_option maxHeartbeats 8000000
namespace Go.Proofs.YtlbndpkdkdgggaaGreatDoor
open Go.RowKit Lim
theorem natO_zero {w:World} {ao:Option Addr} {n c:Nat} (h:NatO w ao n c 0):n=0:=by
 obtain ⟨b,o,l,h1,h2,h3,h4⟩:=h.ex
 have:l=[]:=isN_unique h3 isN_nil
 subst this
 exact h1.symm
theorem tMade {w:World} {ao ao':Option Addr} {n c n' c':Nat} {x y:Int} (h:NatA w ao n c x) (h':NatA w ao' n' c' y) (hn:n<=17179869184) (hn':n'<=17179869184) (hne:y≠0) :
  Calls Tryz.prog 94 #[.slice ao n c,.slice ao' n' c'] w fun e w'=>∃ a k d a' k' d',e=.returned (.agg #[.slice a k d,.slice a' k' d'])/\NatO w' a k d (rn x y)/\NatO w' a' k' d' (rd x y)/\k<=2 * n/\k'<=2 * n'/\Below w.heap.size w w':=by
 have hg:((Int.gcd x y:Nat):Int)≠0:=fun e=>hne (Int.gcd_eq_zero_iff (a:=x) (b:=y) |>.1 (by omega)).2
 have HG:=(show Hid _ from hg)
 clear hg hne
 have B0:=below_alloc w (.cells #[.slice none 0 0,.slice none 0 0] 40)
 have S0:=box_new w [.slice none 0 0,.slice none 0 0] 40
 replace h:=h.keep B0
 replace h':=h'.keep B0
 go_enter Tryz.func94,Tryz.ntmps94
 go_wp2_with fail
 refine (rGcd h h' (by omega) (by omega)).mono ?_
 rintro e w1 ⟨ag,kg,dg,rfl,OG,hkg,hB⟩
 replace h:=h.keep hB
 replace h':=h'.keep hB
 replace S0:=S0.keep hB
 replace B0:=joinB B0 hB
 clear hB
 go_wp2_with fail
 refine (rDiv h OG.a (by omega) (by omega) HG.out).mono ?_
 rintro e w2 ⟨a,k,d,a2,k2,d2,rfl,O1,O1',hk,hk1,hB⟩
 replace h':=h'.keep hB
 replace OG:=OG.keep hB
 replace S0:=S0.keep hB
 replace B0:=joinB B0 hB
 clear hB O1'
 go_wp2_with fail
 refine (rDiv h' OG.a (by omega) (by omega) HG.out).mono ?_
 rintro e w3 ⟨a',k',d',a3,k3,d3,rfl,O2,O2',hk',hk3,hB⟩
 replace O1:=O1.keep hB
 replace S0:=S0.keep hB
 replace B0:=joinB B0 hB
 obtain ⟨c1,c2,f1,f2⟩:=S0.cells2
 have S2:=S0.put2 (.slice a k d) (.slice a' k' d')
 have P1:=O1.put2 S0 (.slice a k d) (.slice a' k' d')
 have P2:=O2.put2 S0 (.slice a k d) (.slice a' k' d')
 have HB:=below_put2 B0 (Nat.le_refl _) (.slice a k d) (.slice a' k' d')
 clear hB h h' O1 O2 O2' OG S0 B0
 go_wp2
 refine bodyPost_ret (ret_rat rfl rfl S2) rfl ?_
 exact ⟨a,k,d,a',k',d',rfl,P1,P2,hk,hk',HB⟩
theorem tRight {w:World} {ao ao':Option Addr} {n c n' c':Nat} {x y:Int} (h:NatA w ao n c x) (h':NatA w ao' n' c' y) (hn:n<=17179869184) (hn':n'<=17179869184) :
  Calls Tryz.prog 93 #[.agg #[.slice ao n c,.slice ao' n' c']] w fun e w'=>∃ a k d a' k' d',e=.returned (.agg #[.slice a k d,.slice a' k' d'])/\NatA w' a k d (cn x y)/\NatA w' a' k' d' (cd y)/\k<=n/\k'<=n' + 2/\Below w.heap.size w w':=by
 unfold cn cd
 have B0:=below2 w (.cells #[.slice ao n c,.slice ao' n' c'] 40) (.cells #[.slice none 0 0,.slice none 0 0] 40)
 have SP:=(box_new w [.slice ao n c,.slice ao' n' c'] 40).keep (below_alloc _ (.cells #[.slice none 0 0,.slice none 0 0] 40))
 have S0:=box_new (w.alloc (.cells #[.slice ao n c,.slice ao' n' c'] 40)) [.slice none 0 0,.slice none 0 0] 40
 rw [show (w.alloc (.cells #[.slice ao n c,.slice ao' n' c'] 40)).heap.size=w.heap.size + 1 by simp] at S0
 replace h:=h.keep B0
 replace h':=h'.keep B0
 obtain ⟨p1,p2,p3,p4⟩:=SP.cells2
 by_cases hy:y=0
 ·rw [if_pos hy,if_pos hy]
  subst hy
  go_enter Tryz.func93,Tryz.ntmps93
  go_wp2_with fail
  refine (rNorm h' (by omega)).mono ?_
  rintro e w1 ⟨a1,k1,d1,rfl,O1,hk1,hB⟩
  obtain rfl:=natO_zero O1
  replace S0:=S0.keep hB
  replace B0:=joinB B0 hB
  clear hB O1
  go_wp2_with fail
  refine (rOf (x:=1) (by decide) (by decide)).mono ?_
  rintro e w2 ⟨a',k',d',rfl,O2,hk',hB⟩
  replace S0:=S0.keep hB
  replace B0:=joinB B0 hB
  obtain ⟨c1,c2,f1,f2⟩:=S0.cells2
  have S2:=S0.put2 (.slice none 0 0) (.slice a' k' d')
  have P2:=O2.put2 S0 (.slice none 0 0) (.slice a' k' d')
  have HB:=below_put2 B0 (g:=w.heap.size + 1) (by omega) (.slice none 0 0) (.slice a' k' d')
  clear hB h h' O2 S0 B0 SP p1 p2 p3 p4
  go_wp2
  refine bodyPost_ret (ret_rat rfl rfl S2) rfl ?_
  exact ⟨none,0,0,a',k',d',rfl,(natO_nil _).a,P2.a,by omega,by omega,HB⟩
 ·rw [if_neg hy,if_neg hy]
  have HY:=(show Hid _ from hy)
  clear hy
  go_enter Tryz.func93,Tryz.ntmps93
  go_wp2_with fail
  refine (rNorm h' (by omega)).mono ?_
  rintro e w1 ⟨a1,k1,d1,rfl,O1,hk1,hB⟩
  have hp:=natO_pos O1 HY.out
  obtain ⟨j,rfl⟩:∃ j,k1=j + 1:=⟨k1 - 1,by omega⟩
  replace S0:=S0.keep hB
  replace SP:=SP.keep hB
  replace h:=h.keep hB
  replace h':=h'.keep hB
  replace B0:=joinB B0 hB
  clear hB O1 p1 p2 p3 p4 hp
  obtain ⟨p1,p2,p3,p4⟩:=SP.cells2
  obtain ⟨c1,c2,f1,f2⟩:=S0.cells2
  have S2:=S0.put2 (.slice ao n c) (.slice ao' n' c')
  have P1:=h.put2 S0 (.slice ao n c) (.slice ao' n' c')
  have P2:=h'.put2 S0 (.slice ao n c) (.slice ao' n' c')
  have HB:=below_put2 B0 (g:=w.heap.size + 1) (by omega) (.slice ao n c) (.slice ao' n' c')
  clear h h' S0 B0 SP
  go_wp2
  refine bodyPost_ret (ret_rat rfl rfl S2) rfl ?_
  exact ⟨ao,n,c,ao',n',c',rfl,P1,P2,by omega,by omega,HB⟩
end Go.Proofs.YtlbndpkdkdgggaaGreatDoor
