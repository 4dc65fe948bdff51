/- Several texts, joined: LgE, LgFi, LgF. -/
import Derived.Test.YtlbndpkdkdgggaaGreatDoorJrp
set_option maxRecDepth 100000
set_option maxHeartbeats 8000000
namespace Go.Proofs.YtlbndpkdkdgggaaGreatDoor
section
namespace Lg
open Go.RowKit Go.Lib Lim Pg Gl
set_option linter.unusedVariables false
theorem qv1 {r:Rat} {n:Int} (hz:n≠0):r / ((n:Int):Rat)=r * qv 1 n:=by
 unfold qv
 rw [if_neg hz,show ((1:Int):Rat)=1 by decide +kernel]
 grind
theorem qvz {r:Rat} {n:Int} (hz:n=0):(0:Rat)=r * qv 1 n:=by
 unfold qv
 rw [if_pos hz]
 grind
theorem qv_one {a b:Int}:(a:Rat) * qv 1 b=qv a b:=by
 unfold qv
 split
 ·grind
 ·rw [show ((1:Int):Rat)=1 by decide +kernel]; grind
theorem qv_z {x t y:Int} (h:y=0):(0:Rat)=qv (x * t) y:=by unfold qv; rw [if_pos h]
theorem qv_q {x y:Int} (h:y≠0):((x:Int):Rat) / ((U36:Int):Rat) / (((y:Int):Rat) / ((U36:Int):Rat))=qv x y:=by
 unfold qv
 rw [if_neg h]
 have h1:((U36:Int):Rat)≠0:=by decide +kernel
 have h2:(y:Rat)≠0:=fun k=>h (Rat.intCast_eq_zero_iff.1 k)
 grind
theorem ft_n {n:Int} (hn:0<=n/\n < 18446744073709551616):Ft ((n:Int):Rat) 64:=by
 rw [show ((n:Int):Rat)=(n:Rat) / ((1:Int):Rat) by rw [show ((1:Int):Rat)=1 by decide +kernel]; grind]
 exact ft_of (by decide) hn.1 rfl (by omega) (by decide)
theorem per_z {w:World} {a0 b0:Option Addr} {n0 c0 m0 d0:Nat} {r:Rat} {n:Int} (Q:RQ w a0 n0 c0 b0 m0 d0 r) (f:Ft r (64 * 200000)) (hn:0<=n/\n < 18446744073709551616) (hz:n=0):Calls Tryz.prog 49 #[.agg #[.slice a0 n0 c0,.slice b0 m0 d0],.int .u64 n] w fun e w'=>∃ a k d_ a' k' d',e=.returned (.agg #[.slice a k d_,.slice a' k' d'])/\RZ w' a k d_ a' k' d' (r * qv 1 n)/\Below w.heap.size w w':=by
 have yz:((n:Int):Rat)=0:=by rw [hz]; decide +kernel
 have BB:=Below.refl w.heap.size w
 refine gc_enter (n:=16) Tryz.func49 rfl ?_
 refine gc_seq (gc_reg (ta 2 [.slice a0 n0 c0,.slice b0 m0 d0] 40 (pg) ?_))
 intro v1 g2 Xg2 hg2 B
 replace Q:=Q.keep B
 replace BB:=joinB BB B
 have lXg2:=Xg2.lt
 refine ta 4 [zS,zS] 40 (pg) ?_
 intro v3 g4 Xg4 hg4 B
 replace Q:=Q.keep B
 replace BB:=joinB BB B
 replace Xg2:=Xg2.keep B
 refine gl_nil (ge_then (gc_seq ?_))
 replace Q:=Q.drew
 replace BB:=BB.drew
 replace Xg2:=Xg2.drew
 replace Xg4:=Xg4.drew
 refine gc_draw (fun w'=>Blk w' g2 [.slice a0 n0 c0,.slice b0 m0 d0] 40) (fun _=>false) Xg2 ?_
 refine zlr 0 8 [.slice a0 n0 c0,.slice b0 m0 d0] (fun _ h=>h) 0 (z 1 9 (iU n) (gz_ready [2,8] ?_))
 refine ga_call 2 (some 10) 38 #[iU n] (nOf (x:=n) (hn).1 (hn).2) ?_ ?_
 ·rintro _ v6 ⟨an5,kn5,dn5,rfl,Nn5,ln5,B⟩
  replace Q:=Q.keep B
  replace BB:=joinB BB B
  replace Xg2:=Xg2.keep B
  replace Xg4:=Xg4.keep B
  refine ⟨_,rfl,Xg2,?_⟩
  refine gz_ready [3,8] ?_
  refine ga_call 3 (some 11) 37 #[.slice an5 kn5 dn5] (pOfNat (B:=200000) Nn5.a (by omega) (by omega) (by omega)) ?_ ?_
  ·rintro _ v8 ⟨aq7,kq7,dq7,bq7,lq7,eq7,rfl,Qq7,B⟩
   replace Q:=Q.keep B
   replace BB:=joinB BB B
   replace Xg2:=Xg2.keep B
   replace Xg4:=Xg4.keep B
   replace Nn5:=Nn5.keep B
   refine ⟨_,rfl,Xg2,?_⟩
   refine gz_ready [4,8] ?_
   refine ga_call 4 (some 12) 35 #[.agg #[.slice a0 n0 c0,.slice b0 m0 d0],.agg #[.slice aq7 kq7 dq7,.slice bq7 lq7 eq7]] (pQuoZ (B:=200000) rfl (Qq7.v (ft_up (ft_n hn) (by decide))) (by decide) yz) ?_ ?_
   ·rintro _ v9 ⟨rfl,B⟩
    replace Q:=Q.keep B
    replace BB:=joinB BB B
    replace Xg2:=Xg2.keep B
    replace Xg4:=Xg4.keep B
    replace Nn5:=Nn5.keep B
    replace Qq7:=Qq7.keep B
    refine ⟨_,rfl,Xg2,?_⟩
    refine z 5 7 (.tuple #[.agg #[zS,zS],iI 30]) (z 6 13 (.agg #[zS,zS]) (z 7 14 (iI 30) ?_))
    have lXg2:=Xg2.lt
    have lXg4:=Xg4.lt
    refine za 8 5 [zS,zS] 40 (pg) ?_
    intro v10 g11 Xg11 hg11 B
    replace Q:=Q.keep B
    replace BB:=joinB BB B
    replace Xg2:=Xg2.keep B
    replace Xg4:=Xg4.keep B
    replace Nn5:=Nn5.keep B
    replace Qq7:=Qq7.keep B
    refine ⟨Xg2,?_⟩
    refine zs 9 Xg11 0 (.agg #[zS,zS]) [zS,zS] [zS,zS] ?_
    intro v12 Y C
    replace Q:=Q.cg Xg11 C (by rfl)
    replace BB:=belowC BB C (by omega)
    replace Xg2:=Xg2.chg C (show g2≠g11 by omega)
    replace Xg4:=Xg4.chg C (show g4≠g11 by omega)
    replace Nn5:=NatO.cg Nn5 Xg11 C (by rfl)
    replace Qq7:=Qq7.cg Xg11 C (by rfl)
    have Xg11:=Y
    refine ⟨Xg2,?_⟩
    refine z 10 6 (iI 30) (gz_done (ge_then (gc_fr [(4,pg g4),(5,pg g11)] (gc_seq (gc_reg (tlr 15 [zS,zS] Xg11 0 (ts Xg4 0 (.agg #[zS,zS]) [zS,zS] [zS,zS] ?_)))))))
    intro v13 Y C
    replace Q:=Q.cg Xg4 C (by rfl)
    replace BB:=belowC BB C (by omega)
    replace Xg2:=Xg2.chg C (show g2≠g4 by omega)
    replace Nn5:=NatO.cg Nn5 Xg4 C (by rfl)
    replace Qq7:=Qq7.cg Xg4 C (by rfl)
    replace Xg11:=Xg11.chg C (show g11≠g4 by omega)
    have Xg4:=Y
    refine gl_nil (ge_then (gc_ret (ge_ret (.agg #[zS,zS]) (rsc 4 (T:=40) (by kernel_rfl) (by kernel_rfl) (lr Xg4 0)) ?_)))
    exact ⟨none,0,0,none,0,0,rfl,rz_nil.is (qvz hz),BB⟩
   have lXg2:=Xg2.lt
   have lXg4:=Xg4.lt
   refine zaa 8 5 [zS,zS] 40 (pg) ?_ ?_
   ·intro v14 g15 Xg15 hg15 B
    replace Q:=Q.keep B
    replace BB:=joinB BB B
    replace Xg2:=Xg2.keep B
    replace Xg4:=Xg4.keep B
    replace Nn5:=Nn5.keep B
    replace Qq7:=Qq7.keep B
    refine ⟨Xg2,?_⟩
    refine zc 4 12 35 #[.agg #[.slice a0 n0 c0,.slice b0 m0 d0],.agg #[.slice aq7 kq7 dq7,.slice bq7 lq7 eq7]] (pQuoZ (B:=200000) rfl (Qq7.v (ft_up (ft_n hn) (by decide))) (by decide) yz) ?_
    rintro _ v16 ⟨rfl,B⟩
    replace Q:=Q.keep B
    replace BB:=joinB BB B
    replace Xg2:=Xg2.keep B
    replace Xg4:=Xg4.keep B
    replace Nn5:=Nn5.keep B
    replace Qq7:=Qq7.keep B
    replace Xg15:=Xg15.keep B
    refine ⟨_,rfl,Xg2,?_⟩
    refine z 5 7 (.tuple #[.agg #[zS,zS],iI 30]) (z 6 13 (.agg #[zS,zS]) (z 7 14 (iI 30) (zs 9 Xg15 0 (.agg #[zS,zS]) [zS,zS] [zS,zS] ?_)))
    intro v17 Y C
    replace Q:=Q.cg Xg15 C (by rfl)
    replace BB:=belowC BB C (by omega)
    replace Xg2:=Xg2.chg C (show g2≠g15 by omega)
    replace Xg4:=Xg4.chg C (show g4≠g15 by omega)
    replace Nn5:=NatO.cg Nn5 Xg15 C (by rfl)
    replace Qq7:=Qq7.cg Xg15 C (by rfl)
    have Xg15:=Y
    refine ⟨Xg2,?_⟩
    refine z 10 6 (iI 30) (gz_done (ge_then (gc_fr [(4,pg g4),(5,pg g15)] (gc_seq (gc_reg (tlr 15 [zS,zS] Xg15 0 (ts Xg4 0 (.agg #[zS,zS]) [zS,zS] [zS,zS] ?_)))))))
    intro v18 Y C
    replace Q:=Q.cg Xg4 C (by rfl)
    replace BB:=belowC BB C (by omega)
    replace Xg2:=Xg2.chg C (show g2≠g4 by omega)
    replace Nn5:=NatO.cg Nn5 Xg4 C (by rfl)
    replace Qq7:=Qq7.cg Xg4 C (by rfl)
    replace Xg15:=Xg15.chg C (show g15≠g4 by omega)
    have Xg4:=Y
    refine gl_nil (ge_then (gc_ret (ge_ret (.agg #[zS,zS]) (rsc 4 (T:=40) (by kernel_rfl) (by kernel_rfl) (lr Xg4 0)) ?_)))
    exact ⟨none,0,0,none,0,0,rfl,rz_nil.is (qvz hz),BB⟩
   exact ga_nil
  have lXg2:=Xg2.lt
  have lXg4:=Xg4.lt
  refine zaa 8 5 [zS,zS] 40 (pg) ?_ ?_
  ·intro v19 g20 Xg20 hg20 B
   replace Q:=Q.keep B
   replace BB:=joinB BB B
   replace Xg2:=Xg2.keep B
   replace Xg4:=Xg4.keep B
   replace Nn5:=Nn5.keep B
   refine ⟨Xg2,?_⟩
   refine zc 3 11 37 #[.slice an5 kn5 dn5] (pOfNat (B:=200000) Nn5.a (by omega) (by omega) (by omega)) ?_
   rintro _ v22 ⟨aq21,kq21,dq21,bq21,lq21,eq21,rfl,Qq21,B⟩
   replace Q:=Q.keep B
   replace BB:=joinB BB B
   replace Xg2:=Xg2.keep B
   replace Xg4:=Xg4.keep B
   replace Nn5:=Nn5.keep B
   replace Xg20:=Xg20.keep B
   refine ⟨_,rfl,Xg2,?_⟩
   refine zc 4 12 35 #[.agg #[.slice a0 n0 c0,.slice b0 m0 d0],.agg #[.slice aq21 kq21 dq21,.slice bq21 lq21 eq21]] (pQuoZ (B:=200000) rfl (Qq21.v (ft_up (ft_n hn) (by decide))) (by decide) yz) ?_
   rintro _ v23 ⟨rfl,B⟩
   replace Q:=Q.keep B
   replace BB:=joinB BB B
   replace Xg2:=Xg2.keep B
   replace Xg4:=Xg4.keep B
   replace Nn5:=Nn5.keep B
   replace Xg20:=Xg20.keep B
   replace Qq21:=Qq21.keep B
   refine ⟨_,rfl,Xg2,?_⟩
   refine z 5 7 (.tuple #[.agg #[zS,zS],iI 30]) (z 6 13 (.agg #[zS,zS]) (z 7 14 (iI 30) (zs 9 Xg20 0 (.agg #[zS,zS]) [zS,zS] [zS,zS] ?_)))
   intro v24 Y C
   replace Q:=Q.cg Xg20 C (by rfl)
   replace BB:=belowC BB C (by omega)
   replace Xg2:=Xg2.chg C (show g2≠g20 by omega)
   replace Xg4:=Xg4.chg C (show g4≠g20 by omega)
   replace Nn5:=NatO.cg Nn5 Xg20 C (by rfl)
   replace Qq21:=Qq21.cg Xg20 C (by rfl)
   have Xg20:=Y
   refine ⟨Xg2,?_⟩
   refine z 10 6 (iI 30) (gz_done (ge_then (gc_fr [(4,pg g4),(5,pg g20)] (gc_seq (gc_reg (tlr 15 [zS,zS] Xg20 0 (ts Xg4 0 (.agg #[zS,zS]) [zS,zS] [zS,zS] ?_)))))))
   intro v25 Y C
   replace Q:=Q.cg Xg4 C (by rfl)
   replace BB:=belowC BB C (by omega)
   replace Xg2:=Xg2.chg C (show g2≠g4 by omega)
   replace Nn5:=NatO.cg Nn5 Xg4 C (by rfl)
   replace Xg20:=Xg20.chg C (show g20≠g4 by omega)
   replace Qq21:=Qq21.cg Xg4 C (by rfl)
   have Xg4:=Y
   refine gl_nil (ge_then (gc_ret (ge_ret (.agg #[zS,zS]) (rsc 4 (T:=40) (by kernel_rfl) (by kernel_rfl) (lr Xg4 0)) ?_)))
   exact ⟨none,0,0,none,0,0,rfl,rz_nil.is (qvz hz),BB⟩
  exact ga_nil
 have lXg2:=Xg2.lt
 have lXg4:=Xg4.lt
 refine zaa 8 5 [zS,zS] 40 (pg) ?_ ?_
 ·intro v26 g27 Xg27 hg27 B
  replace Q:=Q.keep B
  replace BB:=joinB BB B
  replace Xg2:=Xg2.keep B
  replace Xg4:=Xg4.keep B
  refine ⟨Xg2,?_⟩
  refine zc 2 10 38 #[iU n] (nOf (x:=n) (hn).1 (hn).2) ?_
  rintro _ v29 ⟨an28,kn28,dn28,rfl,Nn28,ln28,B⟩
  replace Q:=Q.keep B
  replace BB:=joinB BB B
  replace Xg2:=Xg2.keep B
  replace Xg4:=Xg4.keep B
  replace Xg27:=Xg27.keep B
  refine ⟨_,rfl,Xg2,?_⟩
  refine zc 3 11 37 #[.slice an28 kn28 dn28] (pOfNat (B:=200000) Nn28.a (by omega) (by omega) (by omega)) ?_
  rintro _ v31 ⟨aq30,kq30,dq30,bq30,lq30,eq30,rfl,Qq30,B⟩
  replace Q:=Q.keep B
  replace BB:=joinB BB B
  replace Xg2:=Xg2.keep B
  replace Xg4:=Xg4.keep B
  replace Xg27:=Xg27.keep B
  replace Nn28:=Nn28.keep B
  refine ⟨_,rfl,Xg2,?_⟩
  refine zc 4 12 35 #[.agg #[.slice a0 n0 c0,.slice b0 m0 d0],.agg #[.slice aq30 kq30 dq30,.slice bq30 lq30 eq30]] (pQuoZ (B:=200000) rfl (Qq30.v (ft_up (ft_n hn) (by decide))) (by decide) yz) ?_
  rintro _ v32 ⟨rfl,B⟩
  replace Q:=Q.keep B
  replace BB:=joinB BB B
  replace Xg2:=Xg2.keep B
  replace Xg4:=Xg4.keep B
  replace Xg27:=Xg27.keep B
  replace Nn28:=Nn28.keep B
  replace Qq30:=Qq30.keep B
  refine ⟨_,rfl,Xg2,?_⟩
  refine z 5 7 (.tuple #[.agg #[zS,zS],iI 30]) (z 6 13 (.agg #[zS,zS]) (z 7 14 (iI 30) (zs 9 Xg27 0 (.agg #[zS,zS]) [zS,zS] [zS,zS] ?_)))
  intro v33 Y C
  replace Q:=Q.cg Xg27 C (by rfl)
  replace BB:=belowC BB C (by omega)
  replace Xg2:=Xg2.chg C (show g2≠g27 by omega)
  replace Xg4:=Xg4.chg C (show g4≠g27 by omega)
  replace Nn28:=NatO.cg Nn28 Xg27 C (by rfl)
  replace Qq30:=Qq30.cg Xg27 C (by rfl)
  have Xg27:=Y
  refine ⟨Xg2,?_⟩
  refine z 10 6 (iI 30) (gz_done (ge_then (gc_fr [(4,pg g4),(5,pg g27)] (gc_seq (gc_reg (tlr 15 [zS,zS] Xg27 0 (ts Xg4 0 (.agg #[zS,zS]) [zS,zS] [zS,zS] ?_)))))))
  intro v34 Y C
  replace Q:=Q.cg Xg4 C (by rfl)
  replace BB:=belowC BB C (by omega)
  replace Xg2:=Xg2.chg C (show g2≠g4 by omega)
  replace Xg27:=Xg27.chg C (show g27≠g4 by omega)
  replace Nn28:=NatO.cg Nn28 Xg4 C (by rfl)
  replace Qq30:=Qq30.cg Xg4 C (by rfl)
  have Xg4:=Y
  refine gl_nil (ge_then (gc_ret (ge_ret (.agg #[zS,zS]) (rsc 4 (T:=40) (by kernel_rfl) (by kernel_rfl) (lr Xg4 0)) ?_)))
  exact ⟨none,0,0,none,0,0,rfl,rz_nil.is (qvz hz),BB⟩
 exact ga_nil
theorem per_n {w:World} {a0 b0:Option Addr} {n0 c0 m0 d0:Nat} {r:Rat} {n:Int} (Q:RQ w a0 n0 c0 b0 m0 d0 r) (f:Ft r (64 * 200000)) (hn:0<=n/\n < 18446744073709551616) (hz:n≠0):Calls Tryz.prog 49 #[.agg #[.slice a0 n0 c0,.slice b0 m0 d0],.int .u64 n] w fun e w'=>∃ a k d_ a' k' d',e=.returned (.agg #[.slice a k d_,.slice a' k' d'])/\RZ w' a k d_ a' k' d' (r * qv 1 n)/\Below w.heap.size w w':=by
 have yz:((n:Int):Rat)≠0:=fun k=>hz (Rat.intCast_eq_zero_iff.1 k)
 have BB:=Below.refl w.heap.size w
 refine gc_enter (n:=16) Tryz.func49 rfl ?_
 refine gc_seq (gc_reg (ta 2 [.slice a0 n0 c0,.slice b0 m0 d0] 40 (pg) ?_))
 intro v1 g2 Xg2 hg2 B
 replace Q:=Q.keep B
 replace BB:=joinB BB B
 have lXg2:=Xg2.lt
 refine ta 4 [zS,zS] 40 (pg) ?_
 intro v3 g4 Xg4 hg4 B
 replace Q:=Q.keep B
 replace BB:=joinB BB B
 replace Xg2:=Xg2.keep B
 refine gl_nil (ge_then (gc_seq ?_))
 replace Q:=Q.drew
 replace BB:=BB.drew
 replace Xg2:=Xg2.drew
 replace Xg4:=Xg4.drew
 refine gc_draw (fun w'=>Blk w' g2 [.slice a0 n0 c0,.slice b0 m0 d0] 40) (fun _=>false) Xg2 ?_
 refine zlr 0 8 [.slice a0 n0 c0,.slice b0 m0 d0] (fun _ h=>h) 0 (z 1 9 (iU n) (gz_ready [2,8] ?_))
 refine ga_call 2 (some 10) 38 #[iU n] (nOf (x:=n) (hn).1 (hn).2) ?_ ?_
 ·rintro _ v6 ⟨an5,kn5,dn5,rfl,Nn5,ln5,B⟩
  replace Q:=Q.keep B
  replace BB:=joinB BB B
  replace Xg2:=Xg2.keep B
  replace Xg4:=Xg4.keep B
  refine ⟨_,rfl,Xg2,?_⟩
  refine gz_ready [3,8] ?_
  refine ga_call 3 (some 11) 37 #[.slice an5 kn5 dn5] (pOfNat (B:=200000) Nn5.a (by omega) (by omega) (by omega)) ?_ ?_
  ·rintro _ v8 ⟨aq7,kq7,dq7,bq7,lq7,eq7,rfl,Qq7,B⟩
   replace Q:=Q.keep B
   replace BB:=joinB BB B
   replace Xg2:=Xg2.keep B
   replace Xg4:=Xg4.keep B
   replace Nn5:=Nn5.keep B
   refine ⟨_,rfl,Xg2,?_⟩
   refine gz_ready [4,8] ?_
   refine ga_call 4 (some 12) 35 #[.agg #[.slice a0 n0 c0,.slice b0 m0 d0],.agg #[.slice aq7 kq7 dq7,.slice bq7 lq7 eq7]] (pQuo (B:=200000) (Q.v f) (Qq7.v (ft_up (ft_n hn) (by decide))) (by decide) yz) ?_ ?_
   ·rintro _ v10 ⟨aq9,kq9,dq9,bq9,lq9,eq9,rfl,Qq9,B⟩
    replace Q:=Q.keep B
    replace BB:=joinB BB B
    replace Xg2:=Xg2.keep B
    replace Xg4:=Xg4.keep B
    replace Nn5:=Nn5.keep B
    replace Qq7:=Qq7.keep B
    refine ⟨_,rfl,Xg2,?_⟩
    refine z 5 7 (.tuple #[.agg #[.slice aq9 kq9 dq9,.slice bq9 lq9 eq9],iI 0]) (z 6 13 (.agg #[.slice aq9 kq9 dq9,.slice bq9 lq9 eq9]) (z 7 14 (iI 0) ?_))
    have lXg2:=Xg2.lt
    have lXg4:=Xg4.lt
    refine za 8 5 [zS,zS] 40 (pg) ?_
    intro v11 g12 Xg12 hg12 B
    replace Q:=Q.keep B
    replace BB:=joinB BB B
    replace Xg2:=Xg2.keep B
    replace Xg4:=Xg4.keep B
    replace Nn5:=Nn5.keep B
    replace Qq7:=Qq7.keep B
    replace Qq9:=Qq9.keep B
    refine ⟨Xg2,?_⟩
    refine zs 9 Xg12 0 (.agg #[.slice aq9 kq9 dq9,.slice bq9 lq9 eq9]) [.slice aq9 kq9 dq9,.slice bq9 lq9 eq9] [.slice aq9 kq9 dq9,.slice bq9 lq9 eq9] ?_
    intro v13 Y C
    replace Q:=Q.cg Xg12 C (by rfl)
    replace BB:=belowC BB C (by omega)
    replace Xg2:=Xg2.chg C (show g2≠g12 by omega)
    replace Xg4:=Xg4.chg C (show g4≠g12 by omega)
    replace Nn5:=NatO.cg Nn5 Xg12 C (by rfl)
    replace Qq7:=Qq7.cg Xg12 C (by rfl)
    replace Qq9:=Qq9.cg Xg12 C (by rfl)
    have Xg12:=Y
    refine ⟨Xg2,?_⟩
    refine z 10 6 (iI 0) (gz_done (ge_then (gc_fr [(4,pg g4),(5,pg g12)] (gc_seq (gc_reg (tlr 15 [.slice aq9 kq9 dq9,.slice bq9 lq9 eq9] Xg12 0 (ts Xg4 0 (.agg #[.slice aq9 kq9 dq9,.slice bq9 lq9 eq9]) [.slice aq9 kq9 dq9,.slice bq9 lq9 eq9] [.slice aq9 kq9 dq9,.slice bq9 lq9 eq9] ?_)))))))
    intro v14 Y C
    replace Q:=Q.cg Xg4 C (by rfl)
    replace BB:=belowC BB C (by omega)
    replace Xg2:=Xg2.chg C (show g2≠g4 by omega)
    replace Nn5:=NatO.cg Nn5 Xg4 C (by rfl)
    replace Qq7:=Qq7.cg Xg4 C (by rfl)
    replace Qq9:=Qq9.cg Xg4 C (by rfl)
    replace Xg12:=Xg12.chg C (show g12≠g4 by omega)
    have Xg4:=Y
    refine gl_nil (ge_then (gc_ret (ge_ret (.agg #[.slice aq9 kq9 dq9,.slice bq9 lq9 eq9]) (rsc 4 (T:=40) (by kernel_rfl) (by kernel_rfl) (lr Xg4 0)) ?_)))
    exact ⟨aq9,kq9,dq9,bq9,lq9,eq9,rfl,Qq9.z.is (qv1 hz),BB⟩
   have lXg2:=Xg2.lt
   have lXg4:=Xg4.lt
   refine zaa 8 5 [zS,zS] 40 (pg) ?_ ?_
   ·intro v15 g16 Xg16 hg16 B
    replace Q:=Q.keep B
    replace BB:=joinB BB B
    replace Xg2:=Xg2.keep B
    replace Xg4:=Xg4.keep B
    replace Nn5:=Nn5.keep B
    replace Qq7:=Qq7.keep B
    refine ⟨Xg2,?_⟩
    refine zc 4 12 35 #[.agg #[.slice a0 n0 c0,.slice b0 m0 d0],.agg #[.slice aq7 kq7 dq7,.slice bq7 lq7 eq7]] (pQuo (B:=200000) (Q.v f) (Qq7.v (ft_up (ft_n hn) (by decide))) (by decide) yz) ?_
    rintro _ v18 ⟨aq17,kq17,dq17,bq17,lq17,eq17,rfl,Qq17,B⟩
    replace Q:=Q.keep B
    replace BB:=joinB BB B
    replace Xg2:=Xg2.keep B
    replace Xg4:=Xg4.keep B
    replace Nn5:=Nn5.keep B
    replace Qq7:=Qq7.keep B
    replace Xg16:=Xg16.keep B
    refine ⟨_,rfl,Xg2,?_⟩
    refine z 5 7 (.tuple #[.agg #[.slice aq17 kq17 dq17,.slice bq17 lq17 eq17],iI 0]) (z 6 13 (.agg #[.slice aq17 kq17 dq17,.slice bq17 lq17 eq17]) (z 7 14 (iI 0) (zs 9 Xg16 0 (.agg #[.slice aq17 kq17 dq17,.slice bq17 lq17 eq17]) [.slice aq17 kq17 dq17,.slice bq17 lq17 eq17] [.slice aq17 kq17 dq17,.slice bq17 lq17 eq17] ?_)))
    intro v19 Y C
    replace Q:=Q.cg Xg16 C (by rfl)
    replace BB:=belowC BB C (by omega)
    replace Xg2:=Xg2.chg C (show g2≠g16 by omega)
    replace Xg4:=Xg4.chg C (show g4≠g16 by omega)
    replace Nn5:=NatO.cg Nn5 Xg16 C (by rfl)
    replace Qq7:=Qq7.cg Xg16 C (by rfl)
    replace Qq17:=Qq17.cg Xg16 C (by rfl)
    have Xg16:=Y
    refine ⟨Xg2,?_⟩
    refine z 10 6 (iI 0) (gz_done (ge_then (gc_fr [(4,pg g4),(5,pg g16)] (gc_seq (gc_reg (tlr 15 [.slice aq17 kq17 dq17,.slice bq17 lq17 eq17] Xg16 0 (ts Xg4 0 (.agg #[.slice aq17 kq17 dq17,.slice bq17 lq17 eq17]) [.slice aq17 kq17 dq17,.slice bq17 lq17 eq17] [.slice aq17 kq17 dq17,.slice bq17 lq17 eq17] ?_)))))))
    intro v20 Y C
    replace Q:=Q.cg Xg4 C (by rfl)
    replace BB:=belowC BB C (by omega)
    replace Xg2:=Xg2.chg C (show g2≠g4 by omega)
    replace Nn5:=NatO.cg Nn5 Xg4 C (by rfl)
    replace Qq7:=Qq7.cg Xg4 C (by rfl)
    replace Xg16:=Xg16.chg C (show g16≠g4 by omega)
    replace Qq17:=Qq17.cg Xg4 C (by rfl)
    have Xg4:=Y
    refine gl_nil (ge_then (gc_ret (ge_ret (.agg #[.slice aq17 kq17 dq17,.slice bq17 lq17 eq17]) (rsc 4 (T:=40) (by kernel_rfl) (by kernel_rfl) (lr Xg4 0)) ?_)))
    exact ⟨aq17,kq17,dq17,bq17,lq17,eq17,rfl,Qq17.z.is (qv1 hz),BB⟩
   exact ga_nil
  have lXg2:=Xg2.lt
  have lXg4:=Xg4.lt
  refine zaa 8 5 [zS,zS] 40 (pg) ?_ ?_
  ·intro v21 g22 Xg22 hg22 B
   replace Q:=Q.keep B
   replace BB:=joinB BB B
   replace Xg2:=Xg2.keep B
   replace Xg4:=Xg4.keep B
   replace Nn5:=Nn5.keep B
   refine ⟨Xg2,?_⟩
   refine zc 3 11 37 #[.slice an5 kn5 dn5] (pOfNat (B:=200000) Nn5.a (by omega) (by omega) (by omega)) ?_
   rintro _ v24 ⟨aq23,kq23,dq23,bq23,lq23,eq23,rfl,Qq23,B⟩
   replace Q:=Q.keep B
   replace BB:=joinB BB B
   replace Xg2:=Xg2.keep B
   replace Xg4:=Xg4.keep B
   replace Nn5:=Nn5.keep B
   replace Xg22:=Xg22.keep B
   refine ⟨_,rfl,Xg2,?_⟩
   refine zc 4 12 35 #[.agg #[.slice a0 n0 c0,.slice b0 m0 d0],.agg #[.slice aq23 kq23 dq23,.slice bq23 lq23 eq23]] (pQuo (B:=200000) (Q.v f) (Qq23.v (ft_up (ft_n hn) (by decide))) (by decide) yz) ?_
   rintro _ v26 ⟨aq25,kq25,dq25,bq25,lq25,eq25,rfl,Qq25,B⟩
   replace Q:=Q.keep B
   replace BB:=joinB BB B
   replace Xg2:=Xg2.keep B
   replace Xg4:=Xg4.keep B
   replace Nn5:=Nn5.keep B
   replace Xg22:=Xg22.keep B
   replace Qq23:=Qq23.keep B
   refine ⟨_,rfl,Xg2,?_⟩
   refine z 5 7 (.tuple #[.agg #[.slice aq25 kq25 dq25,.slice bq25 lq25 eq25],iI 0]) (z 6 13 (.agg #[.slice aq25 kq25 dq25,.slice bq25 lq25 eq25]) (z 7 14 (iI 0) (zs 9 Xg22 0 (.agg #[.slice aq25 kq25 dq25,.slice bq25 lq25 eq25]) [.slice aq25 kq25 dq25,.slice bq25 lq25 eq25] [.slice aq25 kq25 dq25,.slice bq25 lq25 eq25] ?_)))
   intro v27 Y C
   replace Q:=Q.cg Xg22 C (by rfl)
   replace BB:=belowC BB C (by omega)
   replace Xg2:=Xg2.chg C (show g2≠g22 by omega)
   replace Xg4:=Xg4.chg C (show g4≠g22 by omega)
   replace Nn5:=NatO.cg Nn5 Xg22 C (by rfl)
   replace Qq23:=Qq23.cg Xg22 C (by rfl)
   replace Qq25:=Qq25.cg Xg22 C (by rfl)
   have Xg22:=Y
   refine ⟨Xg2,?_⟩
   refine z 10 6 (iI 0) (gz_done (ge_then (gc_fr [(4,pg g4),(5,pg g22)] (gc_seq (gc_reg (tlr 15 [.slice aq25 kq25 dq25,.slice bq25 lq25 eq25] Xg22 0 (ts Xg4 0 (.agg #[.slice aq25 kq25 dq25,.slice bq25 lq25 eq25]) [.slice aq25 kq25 dq25,.slice bq25 lq25 eq25] [.slice aq25 kq25 dq25,.slice bq25 lq25 eq25] ?_)))))))
   intro v28 Y C
   replace Q:=Q.cg Xg4 C (by rfl)
   replace BB:=belowC BB C (by omega)
   replace Xg2:=Xg2.chg C (show g2≠g4 by omega)
   replace Nn5:=NatO.cg Nn5 Xg4 C (by rfl)
   replace Xg22:=Xg22.chg C (show g22≠g4 by omega)
   replace Qq23:=Qq23.cg Xg4 C (by rfl)
   replace Qq25:=Qq25.cg Xg4 C (by rfl)
   have Xg4:=Y
   refine gl_nil (ge_then (gc_ret (ge_ret (.agg #[.slice aq25 kq25 dq25,.slice bq25 lq25 eq25]) (rsc 4 (T:=40) (by kernel_rfl) (by kernel_rfl) (lr Xg4 0)) ?_)))
   exact ⟨aq25,kq25,dq25,bq25,lq25,eq25,rfl,Qq25.z.is (qv1 hz),BB⟩
  exact ga_nil
 have lXg2:=Xg2.lt
 have lXg4:=Xg4.lt
 refine zaa 8 5 [zS,zS] 40 (pg) ?_ ?_
 ·intro v29 g30 Xg30 hg30 B
  replace Q:=Q.keep B
  replace BB:=joinB BB B
  replace Xg2:=Xg2.keep B
  replace Xg4:=Xg4.keep B
  refine ⟨Xg2,?_⟩
  refine zc 2 10 38 #[iU n] (nOf (x:=n) (hn).1 (hn).2) ?_
  rintro _ v32 ⟨an31,kn31,dn31,rfl,Nn31,ln31,B⟩
  replace Q:=Q.keep B
  replace BB:=joinB BB B
  replace Xg2:=Xg2.keep B
  replace Xg4:=Xg4.keep B
  replace Xg30:=Xg30.keep B
  refine ⟨_,rfl,Xg2,?_⟩
  refine zc 3 11 37 #[.slice an31 kn31 dn31] (pOfNat (B:=200000) Nn31.a (by omega) (by omega) (by omega)) ?_
  rintro _ v34 ⟨aq33,kq33,dq33,bq33,lq33,eq33,rfl,Qq33,B⟩
  replace Q:=Q.keep B
  replace BB:=joinB BB B
  replace Xg2:=Xg2.keep B
  replace Xg4:=Xg4.keep B
  replace Xg30:=Xg30.keep B
  replace Nn31:=Nn31.keep B
  refine ⟨_,rfl,Xg2,?_⟩
  refine zc 4 12 35 #[.agg #[.slice a0 n0 c0,.slice b0 m0 d0],.agg #[.slice aq33 kq33 dq33,.slice bq33 lq33 eq33]] (pQuo (B:=200000) (Q.v f) (Qq33.v (ft_up (ft_n hn) (by decide))) (by decide) yz) ?_
  rintro _ v36 ⟨aq35,kq35,dq35,bq35,lq35,eq35,rfl,Qq35,B⟩
  replace Q:=Q.keep B
  replace BB:=joinB BB B
  replace Xg2:=Xg2.keep B
  replace Xg4:=Xg4.keep B
  replace Xg30:=Xg30.keep B
  replace Nn31:=Nn31.keep B
  replace Qq33:=Qq33.keep B
  refine ⟨_,rfl,Xg2,?_⟩
  refine z 5 7 (.tuple #[.agg #[.slice aq35 kq35 dq35,.slice bq35 lq35 eq35],iI 0]) (z 6 13 (.agg #[.slice aq35 kq35 dq35,.slice bq35 lq35 eq35]) (z 7 14 (iI 0) (zs 9 Xg30 0 (.agg #[.slice aq35 kq35 dq35,.slice bq35 lq35 eq35]) [.slice aq35 kq35 dq35,.slice bq35 lq35 eq35] [.slice aq35 kq35 dq35,.slice bq35 lq35 eq35] ?_)))
  intro v37 Y C
  replace Q:=Q.cg Xg30 C (by rfl)
  replace BB:=belowC BB C (by omega)
  replace Xg2:=Xg2.chg C (show g2≠g30 by omega)
  replace Xg4:=Xg4.chg C (show g4≠g30 by omega)
  replace Nn31:=NatO.cg Nn31 Xg30 C (by rfl)
  replace Qq33:=Qq33.cg Xg30 C (by rfl)
  replace Qq35:=Qq35.cg Xg30 C (by rfl)
  have Xg30:=Y
  refine ⟨Xg2,?_⟩
  refine z 10 6 (iI 0) (gz_done (ge_then (gc_fr [(4,pg g4),(5,pg g30)] (gc_seq (gc_reg (tlr 15 [.slice aq35 kq35 dq35,.slice bq35 lq35 eq35] Xg30 0 (ts Xg4 0 (.agg #[.slice aq35 kq35 dq35,.slice bq35 lq35 eq35]) [.slice aq35 kq35 dq35,.slice bq35 lq35 eq35] [.slice aq35 kq35 dq35,.slice bq35 lq35 eq35] ?_)))))))
  intro v38 Y C
  replace Q:=Q.cg Xg4 C (by rfl)
  replace BB:=belowC BB C (by omega)
  replace Xg2:=Xg2.chg C (show g2≠g4 by omega)
  replace Xg30:=Xg30.chg C (show g30≠g4 by omega)
  replace Nn31:=NatO.cg Nn31 Xg4 C (by rfl)
  replace Qq33:=Qq33.cg Xg4 C (by rfl)
  replace Qq35:=Qq35.cg Xg4 C (by rfl)
  have Xg4:=Y
  refine gl_nil (ge_then (gc_ret (ge_ret (.agg #[.slice aq35 kq35 dq35,.slice bq35 lq35 eq35]) (rsc 4 (T:=40) (by kernel_rfl) (by kernel_rfl) (lr Xg4 0)) ?_)))
  exact ⟨aq35,kq35,dq35,bq35,lq35,eq35,rfl,Qq35.z.is (qv1 hz),BB⟩
 exact ga_nil
theorem per_any {w:World} {a0 b0:Option Addr} {n0 c0 m0 d0:Nat} {r:Rat} {n:Int} (Q:RQ w a0 n0 c0 b0 m0 d0 r) (f:Ft r (64 * 200000)) (hn:0<=n/\n < 18446744073709551616):Calls Tryz.prog 49 #[.agg #[.slice a0 n0 c0,.slice b0 m0 d0],.int .u64 n] w fun e w'=>∃ a k d_ a' k' d',e=.returned (.agg #[.slice a k d_,.slice a' k' d'])/\RZ w' a k d_ a' k' d' (r * qv 1 n)/\Below w.heap.size w w':=by
 by_cases hz:n=0
 ·exact per_z Q f hn hz
 ·exact per_n Q f hn hz
theorem worth_z {w:World} {ax:Option Addr} {nx cx:Nat} {x:Int} (Nx:NatA w ax nx cx x) (lx:nx<=100) {ay:Option Addr} {ny cy:Nat} {y:Int} (Ny:NatA w ay ny cy y) (ly:ny<=100) {t_:Int} (ht:0<=t_/\t_ < 18446744073709551616) (hz:y=0):Calls Tryz.prog 63 #[.agg #[.slice ax nx cx],.agg #[.slice ay ny cy],.int .u64 t_] w fun e w'=>∃ a k d_ a' k' d',e=.returned (.agg #[.slice a k d_,.slice a' k' d'])/\RZ w' a k d_ a' k' d' (qv (x * t_) y)/\Below w.heap.size w w':=by
 have hx0:=Nx.nonneg
 have hx1:=nat_lt Nx lx
 have hy0:=Ny.nonneg
 have hy1:=nat_lt Ny ly
 have hxt:x * t_ < 2 ^ (64 * 100 + 64):=pw_lt hx0 hx1 (by omega)
 have fx:Ft (((x * t_:Int):Rat) / ((U36:Int):Rat)) 6600:=ft_of (by decide) (Int.mul_nonneg hx0 ht.1) rfl (Int.lt_of_lt_of_le hxt (by decide +kernel)) (by decide +kernel)
 have fy:Ft (((y:Int):Rat) / ((U36:Int):Rat)) 6500:=ft_of (by decide) hy0 rfl (Int.lt_of_lt_of_le hy1 (by decide +kernel)) (by decide +kernel)
 have yz:((y:Int):Rat) / ((U36:Int):Rat)=0:=by rw [hz]; decide +kernel
 have BB:=Below.refl w.heap.size w
 refine gc_enter (n:=20) Tryz.func63 rfl ?_
 refine gc_seq (gc_reg (ta 3 [.slice ax nx cx] 35 (pg) ?_))
 intro v1 g2 Xg2 hg2 B
 replace Nx:=Nx.keep B
 replace Ny:=Ny.keep B
 replace BB:=joinB BB B
 have lXg2:=Xg2.lt
 refine ta 4 [.slice ay ny cy] 35 (pg) ?_
 intro v3 g4 Xg4 hg4 B
 replace Nx:=Nx.keep B
 replace Ny:=Ny.keep B
 replace BB:=joinB BB B
 replace Xg2:=Xg2.keep B
 have lXg2:=Xg2.lt
 have lXg4:=Xg4.lt
 refine ta 6 [zS,zS] 40 (pg) ?_
 intro v5 g6 Xg6 hg6 B
 replace Nx:=Nx.keep B
 replace Ny:=Ny.keep B
 replace BB:=joinB BB B
 replace Xg2:=Xg2.keep B
 replace Xg4:=Xg4.keep B
 refine gl_nil (ge_then (gc_seq ?_))
 replace Nx:=Nx.keep (Below.refl _ _).drew
 replace Ny:=Ny.keep (Below.refl _ _).drew
 replace BB:=BB.drew
 replace Xg2:=Xg2.drew
 replace Xg4:=Xg4.drew
 replace Xg6:=Xg6.drew
 refine gc_draw (fun w'=>Blk w' g2 [.slice ax nx cx] 35/\Blk w' g4 [.slice ay ny cy] 35) (fun _=>false) ⟨Xg2,Xg4⟩ ?_
 refine zlr 0 10 [.slice ax nx cx] (fun _ h=>h.1) 0 (z 1 11 (iU t_) (zlr 4 14 [.slice ay ny cy] (fun _ h=>h.2) 0 (gz_ready [2,10] ?_)))
 refine ga_call 2 (some 12) 100 #[.agg #[.slice ax nx cx],iU t_] (dTimes (y:=t_) Nx (by omega) (ht).1 (ht).2) ?_ ?_
 ·rintro _ v8 ⟨an7,kn7,dn7,rfl,Nn7,ln7,B⟩
  replace Nx:=Nx.keep B
  replace Ny:=Ny.keep B
  replace BB:=joinB BB B
  replace Xg2:=Xg2.keep B
  replace Xg4:=Xg4.keep B
  replace Xg6:=Xg6.keep B
  refine ⟨_,rfl,⟨Xg2,Xg4⟩,?_⟩
  refine gz_ready [3,10] ?_
  refine ga_call 3 (some 13) 36 #[.agg #[.slice an7 kn7 dn7]] (pOfDec (B:=200000) Nn7.a (by omega) (by omega) (by omega)) ?_ ?_
  ·rintro _ v10 ⟨aq9,kq9,dq9,bq9,lq9,eq9,rfl,Qq9,B⟩
   replace Nx:=Nx.keep B
   replace Ny:=Ny.keep B
   replace BB:=joinB BB B
   replace Xg2:=Xg2.keep B
   replace Xg4:=Xg4.keep B
   replace Xg6:=Xg6.keep B
   replace Nn7:=Nn7.keep B
   refine ⟨_,rfl,⟨Xg2,Xg4⟩,?_⟩
   refine gz_ready [5,10] ?_
   refine ga_call 5 (some 15) 36 #[.agg #[.slice ay ny cy]] (pOfDec (B:=200000) Ny (by omega) (by omega) (by omega)) ?_ ?_
   ·rintro _ v12 ⟨aq11,kq11,dq11,bq11,lq11,eq11,rfl,Qq11,B⟩
    replace Nx:=Nx.keep B
    replace Ny:=Ny.keep B
    replace BB:=joinB BB B
    replace Xg2:=Xg2.keep B
    replace Xg4:=Xg4.keep B
    replace Xg6:=Xg6.keep B
    replace Nn7:=Nn7.keep B
    replace Qq9:=Qq9.keep B
    refine ⟨_,rfl,⟨Xg2,Xg4⟩,?_⟩
    refine gz_ready [6,10] ?_
    refine ga_call 6 (some 16) 35 #[.agg #[.slice aq9 kq9 dq9,.slice bq9 lq9 eq9],.agg #[.slice aq11 kq11 dq11,.slice bq11 lq11 eq11]] (pQuoZ (B:=200000) rfl (Qq11.v (ft_up fy (by decide))) (by decide) yz) ?_ ?_
    ·rintro _ v13 ⟨rfl,B⟩
     replace Nx:=Nx.keep B
     replace Ny:=Ny.keep B
     replace BB:=joinB BB B
     replace Xg2:=Xg2.keep B
     replace Xg4:=Xg4.keep B
     replace Xg6:=Xg6.keep B
     replace Nn7:=Nn7.keep B
     replace Qq9:=Qq9.keep B
     replace Qq11:=Qq11.keep B
     refine ⟨_,rfl,⟨Xg2,Xg4⟩,?_⟩
     refine z 7 9 (.tuple #[.agg #[zS,zS],iI 30]) (z 8 17 (.agg #[zS,zS]) (z 9 18 (iI 30) ?_))
     have lXg2:=Xg2.lt
     have lXg4:=Xg4.lt
     have lXg6:=Xg6.lt
     refine za 10 7 [zS,zS] 40 (pg) ?_
     intro v14 g15 Xg15 hg15 B
     replace Nx:=Nx.keep B
     replace Ny:=Ny.keep B
     replace BB:=joinB BB B
     replace Xg2:=Xg2.keep B
     replace Xg4:=Xg4.keep B
     replace Xg6:=Xg6.keep B
     replace Nn7:=Nn7.keep B
     replace Qq9:=Qq9.keep B
     replace Qq11:=Qq11.keep B
     refine ⟨⟨Xg2,Xg4⟩,?_⟩
     refine zs 11 Xg15 0 (.agg #[zS,zS]) [zS,zS] [zS,zS] ?_
     intro v16 Y C
     replace Nx:=NatA.cg Nx Xg15 C (by rfl)
     replace Ny:=NatA.cg Ny Xg15 C (by rfl)
     replace BB:=belowC BB C (by omega)
     replace Xg2:=Xg2.chg C (show g2≠g15 by omega)
     replace Xg4:=Xg4.chg C (show g4≠g15 by omega)
     replace Xg6:=Xg6.chg C (show g6≠g15 by omega)
     replace Nn7:=NatO.cg Nn7 Xg15 C (by rfl)
     replace Qq9:=Qq9.cg Xg15 C (by rfl)
     replace Qq11:=Qq11.cg Xg15 C (by rfl)
     have Xg15:=Y
     refine ⟨⟨Xg2,Xg4⟩,?_⟩
     refine z 12 8 (iI 30) (gz_done (ge_then (gc_fr [(6,pg g6),(7,pg g15)] (gc_seq (gc_reg (tlr 19 [zS,zS] Xg15 0 (ts Xg6 0 (.agg #[zS,zS]) [zS,zS] [zS,zS] ?_)))))))
     intro v17 Y C
     replace Nx:=NatA.cg Nx Xg6 C (by rfl)
     replace Ny:=NatA.cg Ny Xg6 C (by rfl)
     replace BB:=belowC BB C (by omega)
     replace Xg2:=Xg2.chg C (show g2≠g6 by omega)
     replace Xg4:=Xg4.chg C (show g4≠g6 by omega)
     replace Nn7:=NatO.cg Nn7 Xg6 C (by rfl)
     replace Qq9:=Qq9.cg Xg6 C (by rfl)
     replace Qq11:=Qq11.cg Xg6 C (by rfl)
     replace Xg15:=Xg15.chg C (show g15≠g6 by omega)
     have Xg6:=Y
     refine gl_nil (ge_then (gc_ret (ge_ret (.agg #[zS,zS]) (rsc 6 (T:=40) (by kernel_rfl) (by kernel_rfl) (lr Xg6 0)) ?_)))
     exact ⟨none,0,0,none,0,0,rfl,rz_nil.is (qv_z hz),BB⟩
    have lXg2:=Xg2.lt
    have lXg4:=Xg4.lt
    have lXg6:=Xg6.lt
    refine zaa 10 7 [zS,zS] 40 (pg) ?_ ?_
    ·intro v18 g19 Xg19 hg19 B
     replace Nx:=Nx.keep B
     replace Ny:=Ny.keep B
     replace BB:=joinB BB B
     replace Xg2:=Xg2.keep B
     replace Xg4:=Xg4.keep B
     replace Xg6:=Xg6.keep B
     replace Nn7:=Nn7.keep B
     replace Qq9:=Qq9.keep B
     replace Qq11:=Qq11.keep B
     refine ⟨⟨Xg2,Xg4⟩,?_⟩
     refine zc 6 16 35 #[.agg #[.slice aq9 kq9 dq9,.slice bq9 lq9 eq9],.agg #[.slice aq11 kq11 dq11,.slice bq11 lq11 eq11]] (pQuoZ (B:=200000) rfl (Qq11.v (ft_up fy (by decide))) (by decide) yz) ?_
     rintro _ v20 ⟨rfl,B⟩
     replace Nx:=Nx.keep B
     replace Ny:=Ny.keep B
     replace BB:=joinB BB B
     replace Xg2:=Xg2.keep B
     replace Xg4:=Xg4.keep B
     replace Xg6:=Xg6.keep B
     replace Nn7:=Nn7.keep B
     replace Qq9:=Qq9.keep B
     replace Qq11:=Qq11.keep B
     replace Xg19:=Xg19.keep B
     refine ⟨_,rfl,⟨Xg2,Xg4⟩,?_⟩
     refine z 7 9 (.tuple #[.agg #[zS,zS],iI 30]) (z 8 17 (.agg #[zS,zS]) (z 9 18 (iI 30) (zs 11 Xg19 0 (.agg #[zS,zS]) [zS,zS] [zS,zS] ?_)))
     intro v21 Y C
     replace Nx:=NatA.cg Nx Xg19 C (by rfl)
     replace Ny:=NatA.cg Ny Xg19 C (by rfl)
     replace BB:=belowC BB C (by omega)
     replace Xg2:=Xg2.chg C (show g2≠g19 by omega)
     replace Xg4:=Xg4.chg C (show g4≠g19 by omega)
     replace Xg6:=Xg6.chg C (show g6≠g19 by omega)
     replace Nn7:=NatO.cg Nn7 Xg19 C (by rfl)
     replace Qq9:=Qq9.cg Xg19 C (by rfl)
     replace Qq11:=Qq11.cg Xg19 C (by rfl)
     have Xg19:=Y
     refine ⟨⟨Xg2,Xg4⟩,?_⟩
     refine z 12 8 (iI 30) (gz_done (ge_then (gc_fr [(6,pg g6),(7,pg g19)] (gc_seq (gc_reg (tlr 19 [zS,zS] Xg19 0 (ts Xg6 0 (.agg #[zS,zS]) [zS,zS] [zS,zS] ?_)))))))
     intro v22 Y C
     replace Nx:=NatA.cg Nx Xg6 C (by rfl)
     replace Ny:=NatA.cg Ny Xg6 C (by rfl)
     replace BB:=belowC BB C (by omega)
     replace Xg2:=Xg2.chg C (show g2≠g6 by omega)
     replace Xg4:=Xg4.chg C (show g4≠g6 by omega)
     replace Nn7:=NatO.cg Nn7 Xg6 C (by rfl)
     replace Qq9:=Qq9.cg Xg6 C (by rfl)
     replace Qq11:=Qq11.cg Xg6 C (by rfl)
     replace Xg19:=Xg19.chg C (show g19≠g6 by omega)
     have Xg6:=Y
     refine gl_nil (ge_then (gc_ret (ge_ret (.agg #[zS,zS]) (rsc 6 (T:=40) (by kernel_rfl) (by kernel_rfl) (lr Xg6 0)) ?_)))
     exact ⟨none,0,0,none,0,0,rfl,rz_nil.is (qv_z hz),BB⟩
    exact ga_nil
   have lXg2:=Xg2.lt
   have lXg4:=Xg4.lt
   have lXg6:=Xg6.lt
   refine zaa 10 7 [zS,zS] 40 (pg) ?_ ?_
   ·intro v23 g24 Xg24 hg24 B
    replace Nx:=Nx.keep B
    replace Ny:=Ny.keep B
    replace BB:=joinB BB B
    replace Xg2:=Xg2.keep B
    replace Xg4:=Xg4.keep B
    replace Xg6:=Xg6.keep B
    replace Nn7:=Nn7.keep B
    replace Qq9:=Qq9.keep B
    refine ⟨⟨Xg2,Xg4⟩,?_⟩
    refine zc 5 15 36 #[.agg #[.slice ay ny cy]] (pOfDec (B:=200000) Ny (by omega) (by omega) (by omega)) ?_
    rintro _ v26 ⟨aq25,kq25,dq25,bq25,lq25,eq25,rfl,Qq25,B⟩
    replace Nx:=Nx.keep B
    replace Ny:=Ny.keep B
    replace BB:=joinB BB B
    replace Xg2:=Xg2.keep B
    replace Xg4:=Xg4.keep B
    replace Xg6:=Xg6.keep B
    replace Nn7:=Nn7.keep B
    replace Qq9:=Qq9.keep B
    replace Xg24:=Xg24.keep B
    refine ⟨_,rfl,⟨Xg2,Xg4⟩,?_⟩
    refine zc 6 16 35 #[.agg #[.slice aq9 kq9 dq9,.slice bq9 lq9 eq9],.agg #[.slice aq25 kq25 dq25,.slice bq25 lq25 eq25]] (pQuoZ (B:=200000) rfl (Qq25.v (ft_up fy (by decide))) (by decide) yz) ?_
    rintro _ v27 ⟨rfl,B⟩
    replace Nx:=Nx.keep B
    replace Ny:=Ny.keep B
    replace BB:=joinB BB B
    replace Xg2:=Xg2.keep B
    replace Xg4:=Xg4.keep B
    replace Xg6:=Xg6.keep B
    replace Nn7:=Nn7.keep B
    replace Qq9:=Qq9.keep B
    replace Xg24:=Xg24.keep B
    replace Qq25:=Qq25.keep B
    refine ⟨_,rfl,⟨Xg2,Xg4⟩,?_⟩
    refine z 7 9 (.tuple #[.agg #[zS,zS],iI 30]) (z 8 17 (.agg #[zS,zS]) (z 9 18 (iI 30) (zs 11 Xg24 0 (.agg #[zS,zS]) [zS,zS] [zS,zS] ?_)))
    intro v28 Y C
    replace Nx:=NatA.cg Nx Xg24 C (by rfl)
    replace Ny:=NatA.cg Ny Xg24 C (by rfl)
    replace BB:=belowC BB C (by omega)
    replace Xg2:=Xg2.chg C (show g2≠g24 by omega)
    replace Xg4:=Xg4.chg C (show g4≠g24 by omega)
    replace Xg6:=Xg6.chg C (show g6≠g24 by omega)
    replace Nn7:=NatO.cg Nn7 Xg24 C (by rfl)
    replace Qq9:=Qq9.cg Xg24 C (by rfl)
    replace Qq25:=Qq25.cg Xg24 C (by rfl)
    have Xg24:=Y
    refine ⟨⟨Xg2,Xg4⟩,?_⟩
    refine z 12 8 (iI 30) (gz_done (ge_then (gc_fr [(6,pg g6),(7,pg g24)] (gc_seq (gc_reg (tlr 19 [zS,zS] Xg24 0 (ts Xg6 0 (.agg #[zS,zS]) [zS,zS] [zS,zS] ?_)))))))
    intro v29 Y C
    replace Nx:=NatA.cg Nx Xg6 C (by rfl)
    replace Ny:=NatA.cg Ny Xg6 C (by rfl)
    replace BB:=belowC BB C (by omega)
    replace Xg2:=Xg2.chg C (show g2≠g6 by omega)
    replace Xg4:=Xg4.chg C (show g4≠g6 by omega)
    replace Nn7:=NatO.cg Nn7 Xg6 C (by rfl)
    replace Qq9:=Qq9.cg Xg6 C (by rfl)
    replace Xg24:=Xg24.chg C (show g24≠g6 by omega)
    replace Qq25:=Qq25.cg Xg6 C (by rfl)
    have Xg6:=Y
    refine gl_nil (ge_then (gc_ret (ge_ret (.agg #[zS,zS]) (rsc 6 (T:=40) (by kernel_rfl) (by kernel_rfl) (lr Xg6 0)) ?_)))
    exact ⟨none,0,0,none,0,0,rfl,rz_nil.is (qv_z hz),BB⟩
   exact ga_nil
  have lXg2:=Xg2.lt
  have lXg4:=Xg4.lt
  have lXg6:=Xg6.lt
  refine zaa 10 7 [zS,zS] 40 (pg) ?_ ?_
  ·intro v30 g31 Xg31 hg31 B
   replace Nx:=Nx.keep B
   replace Ny:=Ny.keep B
   replace BB:=joinB BB B
   replace Xg2:=Xg2.keep B
   replace Xg4:=Xg4.keep B
   replace Xg6:=Xg6.keep B
   replace Nn7:=Nn7.keep B
   refine ⟨⟨Xg2,Xg4⟩,?_⟩
   refine zc 3 13 36 #[.agg #[.slice an7 kn7 dn7]] (pOfDec (B:=200000) Nn7.a (by omega) (by omega) (by omega)) ?_
   rintro _ v33 ⟨aq32,kq32,dq32,bq32,lq32,eq32,rfl,Qq32,B⟩
   replace Nx:=Nx.keep B
   replace Ny:=Ny.keep B
   replace BB:=joinB BB B
   replace Xg2:=Xg2.keep B
   replace Xg4:=Xg4.keep B
   replace Xg6:=Xg6.keep B
   replace Nn7:=Nn7.keep B
   replace Xg31:=Xg31.keep B
   refine ⟨_,rfl,⟨Xg2,Xg4⟩,?_⟩
   refine zc 5 15 36 #[.agg #[.slice ay ny cy]] (pOfDec (B:=200000) Ny (by omega) (by omega) (by omega)) ?_
   rintro _ v35 ⟨aq34,kq34,dq34,bq34,lq34,eq34,rfl,Qq34,B⟩
   replace Nx:=Nx.keep B
   replace Ny:=Ny.keep B
   replace BB:=joinB BB B
   replace Xg2:=Xg2.keep B
   replace Xg4:=Xg4.keep B
   replace Xg6:=Xg6.keep B
   replace Nn7:=Nn7.keep B
   replace Xg31:=Xg31.keep B
   replace Qq32:=Qq32.keep B
   refine ⟨_,rfl,⟨Xg2,Xg4⟩,?_⟩
   refine zc 6 16 35 #[.agg #[.slice aq32 kq32 dq32,.slice bq32 lq32 eq32],.agg #[.slice aq34 kq34 dq34,.slice bq34 lq34 eq34]] (pQuoZ (B:=200000) rfl (Qq34.v (ft_up fy (by decide))) (by decide) yz) ?_
   rintro _ v36 ⟨rfl,B⟩
   replace Nx:=Nx.keep B
   replace Ny:=Ny.keep B
   replace BB:=joinB BB B
   replace Xg2:=Xg2.keep B
   replace Xg4:=Xg4.keep B
   replace Xg6:=Xg6.keep B
   replace Nn7:=Nn7.keep B
   replace Xg31:=Xg31.keep B
   replace Qq32:=Qq32.keep B
   replace Qq34:=Qq34.keep B
   refine ⟨_,rfl,⟨Xg2,Xg4⟩,?_⟩
   refine z 7 9 (.tuple #[.agg #[zS,zS],iI 30]) (z 8 17 (.agg #[zS,zS]) (z 9 18 (iI 30) (zs 11 Xg31 0 (.agg #[zS,zS]) [zS,zS] [zS,zS] ?_)))
   intro v37 Y C
   replace Nx:=NatA.cg Nx Xg31 C (by rfl)
   replace Ny:=NatA.cg Ny Xg31 C (by rfl)
   replace BB:=belowC BB C (by omega)
   replace Xg2:=Xg2.chg C (show g2≠g31 by omega)
   replace Xg4:=Xg4.chg C (show g4≠g31 by omega)
   replace Xg6:=Xg6.chg C (show g6≠g31 by omega)
   replace Nn7:=NatO.cg Nn7 Xg31 C (by rfl)
   replace Qq32:=Qq32.cg Xg31 C (by rfl)
   replace Qq34:=Qq34.cg Xg31 C (by rfl)
   have Xg31:=Y
   refine ⟨⟨Xg2,Xg4⟩,?_⟩
   refine z 12 8 (iI 30) (gz_done (ge_then (gc_fr [(6,pg g6),(7,pg g31)] (gc_seq (gc_reg (tlr 19 [zS,zS] Xg31 0 (ts Xg6 0 (.agg #[zS,zS]) [zS,zS] [zS,zS] ?_)))))))
   intro v38 Y C
   replace Nx:=NatA.cg Nx Xg6 C (by rfl)
   replace Ny:=NatA.cg Ny Xg6 C (by rfl)
   replace BB:=belowC BB C (by omega)
   replace Xg2:=Xg2.chg C (show g2≠g6 by omega)
   replace Xg4:=Xg4.chg C (show g4≠g6 by omega)
   replace Nn7:=NatO.cg Nn7 Xg6 C (by rfl)
   replace Xg31:=Xg31.chg C (show g31≠g6 by omega)
   replace Qq32:=Qq32.cg Xg6 C (by rfl)
   replace Qq34:=Qq34.cg Xg6 C (by rfl)
   have Xg6:=Y
   refine gl_nil (ge_then (gc_ret (ge_ret (.agg #[zS,zS]) (rsc 6 (T:=40) (by kernel_rfl) (by kernel_rfl) (lr Xg6 0)) ?_)))
   exact ⟨none,0,0,none,0,0,rfl,rz_nil.is (qv_z hz),BB⟩
  exact ga_nil
 have lXg2:=Xg2.lt
 have lXg4:=Xg4.lt
 have lXg6:=Xg6.lt
 refine zaa 10 7 [zS,zS] 40 (pg) ?_ ?_
 ·intro v39 g40 Xg40 hg40 B
  replace Nx:=Nx.keep B
  replace Ny:=Ny.keep B
  replace BB:=joinB BB B
  replace Xg2:=Xg2.keep B
  replace Xg4:=Xg4.keep B
  replace Xg6:=Xg6.keep B
  refine ⟨⟨Xg2,Xg4⟩,?_⟩
  refine zc 2 12 100 #[.agg #[.slice ax nx cx],iU t_] (dTimes (y:=t_) Nx (by omega) (ht).1 (ht).2) ?_
  rintro _ v42 ⟨an41,kn41,dn41,rfl,Nn41,ln41,B⟩
  replace Nx:=Nx.keep B
  replace Ny:=Ny.keep B
  replace BB:=joinB BB B
  replace Xg2:=Xg2.keep B
  replace Xg4:=Xg4.keep B
  replace Xg6:=Xg6.keep B
  replace Xg40:=Xg40.keep B
  refine ⟨_,rfl,⟨Xg2,Xg4⟩,?_⟩
  refine zc 3 13 36 #[.agg #[.slice an41 kn41 dn41]] (pOfDec (B:=200000) Nn41.a (by omega) (by omega) (by omega)) ?_
  rintro _ v44 ⟨aq43,kq43,dq43,bq43,lq43,eq43,rfl,Qq43,B⟩
  replace Nx:=Nx.keep B
  replace Ny:=Ny.keep B
  replace BB:=joinB BB B
  replace Xg2:=Xg2.keep B
  replace Xg4:=Xg4.keep B
  replace Xg6:=Xg6.keep B
  replace Xg40:=Xg40.keep B
  replace Nn41:=Nn41.keep B
  refine ⟨_,rfl,⟨Xg2,Xg4⟩,?_⟩
  refine zc 5 15 36 #[.agg #[.slice ay ny cy]] (pOfDec (B:=200000) Ny (by omega) (by omega) (by omega)) ?_
  rintro _ v46 ⟨aq45,kq45,dq45,bq45,lq45,eq45,rfl,Qq45,B⟩
  replace Nx:=Nx.keep B
  replace Ny:=Ny.keep B
  replace BB:=joinB BB B
  replace Xg2:=Xg2.keep B
  replace Xg4:=Xg4.keep B
  replace Xg6:=Xg6.keep B
  replace Xg40:=Xg40.keep B
  replace Nn41:=Nn41.keep B
  replace Qq43:=Qq43.keep B
  refine ⟨_,rfl,⟨Xg2,Xg4⟩,?_⟩
  refine zc 6 16 35 #[.agg #[.slice aq43 kq43 dq43,.slice bq43 lq43 eq43],.agg #[.slice aq45 kq45 dq45,.slice bq45 lq45 eq45]] (pQuoZ (B:=200000) rfl (Qq45.v (ft_up fy (by decide))) (by decide) yz) ?_
  rintro _ v47 ⟨rfl,B⟩
  replace Nx:=Nx.keep B
  replace Ny:=Ny.keep B
  replace BB:=joinB BB B
  replace Xg2:=Xg2.keep B
  replace Xg4:=Xg4.keep B
  replace Xg6:=Xg6.keep B
  replace Xg40:=Xg40.keep B
  replace Nn41:=Nn41.keep B
  replace Qq43:=Qq43.keep B
  replace Qq45:=Qq45.keep B
  refine ⟨_,rfl,⟨Xg2,Xg4⟩,?_⟩
  refine z 7 9 (.tuple #[.agg #[zS,zS],iI 30]) (z 8 17 (.agg #[zS,zS]) (z 9 18 (iI 30) (zs 11 Xg40 0 (.agg #[zS,zS]) [zS,zS] [zS,zS] ?_)))
  intro v48 Y C
  replace Nx:=NatA.cg Nx Xg40 C (by rfl)
  replace Ny:=NatA.cg Ny Xg40 C (by rfl)
  replace BB:=belowC BB C (by omega)
  replace Xg2:=Xg2.chg C (show g2≠g40 by omega)
  replace Xg4:=Xg4.chg C (show g4≠g40 by omega)
  replace Xg6:=Xg6.chg C (show g6≠g40 by omega)
  replace Nn41:=NatO.cg Nn41 Xg40 C (by rfl)
  replace Qq43:=Qq43.cg Xg40 C (by rfl)
  replace Qq45:=Qq45.cg Xg40 C (by rfl)
  have Xg40:=Y
  refine ⟨⟨Xg2,Xg4⟩,?_⟩
  refine z 12 8 (iI 30) (gz_done (ge_then (gc_fr [(6,pg g6),(7,pg g40)] (gc_seq (gc_reg (tlr 19 [zS,zS] Xg40 0 (ts Xg6 0 (.agg #[zS,zS]) [zS,zS] [zS,zS] ?_)))))))
  intro v49 Y C
  replace Nx:=NatA.cg Nx Xg6 C (by rfl)
  replace Ny:=NatA.cg Ny Xg6 C (by rfl)
  replace BB:=belowC BB C (by omega)
  replace Xg2:=Xg2.chg C (show g2≠g6 by omega)
  replace Xg4:=Xg4.chg C (show g4≠g6 by omega)
  replace Xg40:=Xg40.chg C (show g40≠g6 by omega)
  replace Nn41:=NatO.cg Nn41 Xg6 C (by rfl)
  replace Qq43:=Qq43.cg Xg6 C (by rfl)
  replace Qq45:=Qq45.cg Xg6 C (by rfl)
  have Xg6:=Y
  refine gl_nil (ge_then (gc_ret (ge_ret (.agg #[zS,zS]) (rsc 6 (T:=40) (by kernel_rfl) (by kernel_rfl) (lr Xg6 0)) ?_)))
  exact ⟨none,0,0,none,0,0,rfl,rz_nil.is (qv_z hz),BB⟩
 exact ga_nil
theorem worth_n {w:World} {ax:Option Addr} {nx cx:Nat} {x:Int} (Nx:NatA w ax nx cx x) (lx:nx<=100) {ay:Option Addr} {ny cy:Nat} {y:Int} (Ny:NatA w ay ny cy y) (ly:ny<=100) {t_:Int} (ht:0<=t_/\t_ < 18446744073709551616) (hz:y≠0):Calls Tryz.prog 63 #[.agg #[.slice ax nx cx],.agg #[.slice ay ny cy],.int .u64 t_] w fun e w'=>∃ a k d_ a' k' d',e=.returned (.agg #[.slice a k d_,.slice a' k' d'])/\RZ w' a k d_ a' k' d' (qv (x * t_) y)/\Below w.heap.size w w':=by
 have hx0:=Nx.nonneg
 have hx1:=nat_lt Nx lx
 have hy0:=Ny.nonneg
 have hy1:=nat_lt Ny ly
 have hxt:x * t_ < 2 ^ (64 * 100 + 64):=pw_lt hx0 hx1 (by omega)
 have fx:Ft (((x * t_:Int):Rat) / ((U36:Int):Rat)) 6600:=ft_of (by decide) (Int.mul_nonneg hx0 ht.1) rfl (Int.lt_of_lt_of_le hxt (by decide +kernel)) (by decide +kernel)
 have fy:Ft (((y:Int):Rat) / ((U36:Int):Rat)) 6500:=ft_of (by decide) hy0 rfl (Int.lt_of_lt_of_le hy1 (by decide +kernel)) (by decide +kernel)
 have yz:((y:Int):Rat) / ((U36:Int):Rat)≠0:=by
  intro k
  have h1:((U36:Int):Rat)≠0:=by decide +kernel
  have h2:(y:Rat)=0:=by grind
  exact hz (Rat.intCast_eq_zero_iff.1 h2)
 have BB:=Below.refl w.heap.size w
 refine gc_enter (n:=20) Tryz.func63 rfl ?_
 refine gc_seq (gc_reg (ta 3 [.slice ax nx cx] 35 (pg) ?_))
 intro v1 g2 Xg2 hg2 B
 replace Nx:=Nx.keep B
 replace Ny:=Ny.keep B
 replace BB:=joinB BB B
 have lXg2:=Xg2.lt
 refine ta 4 [.slice ay ny cy] 35 (pg) ?_
 intro v3 g4 Xg4 hg4 B
 replace Nx:=Nx.keep B
 replace Ny:=Ny.keep B
 replace BB:=joinB BB B
 replace Xg2:=Xg2.keep B
 have lXg2:=Xg2.lt
 have lXg4:=Xg4.lt
 refine ta 6 [zS,zS] 40 (pg) ?_
 intro v5 g6 Xg6 hg6 B
 replace Nx:=Nx.keep B
 replace Ny:=Ny.keep B
 replace BB:=joinB BB B
 replace Xg2:=Xg2.keep B
 replace Xg4:=Xg4.keep B
 refine gl_nil (ge_then (gc_seq ?_))
 replace Nx:=Nx.keep (Below.refl _ _).drew
 replace Ny:=Ny.keep (Below.refl _ _).drew
 replace BB:=BB.drew
 replace Xg2:=Xg2.drew
 replace Xg4:=Xg4.drew
 replace Xg6:=Xg6.drew
 refine gc_draw (fun w'=>Blk w' g2 [.slice ax nx cx] 35/\Blk w' g4 [.slice ay ny cy] 35) (fun _=>false) ⟨Xg2,Xg4⟩ ?_
 refine zlr 0 10 [.slice ax nx cx] (fun _ h=>h.1) 0 (z 1 11 (iU t_) (zlr 4 14 [.slice ay ny cy] (fun _ h=>h.2) 0 (gz_ready [2,10] ?_)))
 refine ga_call 2 (some 12) 100 #[.agg #[.slice ax nx cx],iU t_] (dTimes (y:=t_) Nx (by omega) (ht).1 (ht).2) ?_ ?_
 ·rintro _ v8 ⟨an7,kn7,dn7,rfl,Nn7,ln7,B⟩
  replace Nx:=Nx.keep B
  replace Ny:=Ny.keep B
  replace BB:=joinB BB B
  replace Xg2:=Xg2.keep B
  replace Xg4:=Xg4.keep B
  replace Xg6:=Xg6.keep B
  refine ⟨_,rfl,⟨Xg2,Xg4⟩,?_⟩
  refine gz_ready [3,10] ?_
  refine ga_call 3 (some 13) 36 #[.agg #[.slice an7 kn7 dn7]] (pOfDec (B:=200000) Nn7.a (by omega) (by omega) (by omega)) ?_ ?_
  ·rintro _ v10 ⟨aq9,kq9,dq9,bq9,lq9,eq9,rfl,Qq9,B⟩
   replace Nx:=Nx.keep B
   replace Ny:=Ny.keep B
   replace BB:=joinB BB B
   replace Xg2:=Xg2.keep B
   replace Xg4:=Xg4.keep B
   replace Xg6:=Xg6.keep B
   replace Nn7:=Nn7.keep B
   refine ⟨_,rfl,⟨Xg2,Xg4⟩,?_⟩
   refine gz_ready [5,10] ?_
   refine ga_call 5 (some 15) 36 #[.agg #[.slice ay ny cy]] (pOfDec (B:=200000) Ny (by omega) (by omega) (by omega)) ?_ ?_
   ·rintro _ v12 ⟨aq11,kq11,dq11,bq11,lq11,eq11,rfl,Qq11,B⟩
    replace Nx:=Nx.keep B
    replace Ny:=Ny.keep B
    replace BB:=joinB BB B
    replace Xg2:=Xg2.keep B
    replace Xg4:=Xg4.keep B
    replace Xg6:=Xg6.keep B
    replace Nn7:=Nn7.keep B
    replace Qq9:=Qq9.keep B
    refine ⟨_,rfl,⟨Xg2,Xg4⟩,?_⟩
    refine gz_ready [6,10] ?_
    refine ga_call 6 (some 16) 35 #[.agg #[.slice aq9 kq9 dq9,.slice bq9 lq9 eq9],.agg #[.slice aq11 kq11 dq11,.slice bq11 lq11 eq11]] (pQuo (B:=200000) (Qq9.v (ft_up fx (by decide))) (Qq11.v (ft_up fy (by decide))) (by decide) yz) ?_ ?_
    ·rintro _ v14 ⟨aq13,kq13,dq13,bq13,lq13,eq13,rfl,Qq13,B⟩
     replace Nx:=Nx.keep B
     replace Ny:=Ny.keep B
     replace BB:=joinB BB B
     replace Xg2:=Xg2.keep B
     replace Xg4:=Xg4.keep B
     replace Xg6:=Xg6.keep B
     replace Nn7:=Nn7.keep B
     replace Qq9:=Qq9.keep B
     replace Qq11:=Qq11.keep B
     refine ⟨_,rfl,⟨Xg2,Xg4⟩,?_⟩
     refine z 7 9 (.tuple #[.agg #[.slice aq13 kq13 dq13,.slice bq13 lq13 eq13],iI 0]) (z 8 17 (.agg #[.slice aq13 kq13 dq13,.slice bq13 lq13 eq13]) (z 9 18 (iI 0) ?_))
     have lXg2:=Xg2.lt
     have lXg4:=Xg4.lt
     have lXg6:=Xg6.lt
     refine za 10 7 [zS,zS] 40 (pg) ?_
     intro v15 g16 Xg16 hg16 B
     replace Nx:=Nx.keep B
     replace Ny:=Ny.keep B
     replace BB:=joinB BB B
     replace Xg2:=Xg2.keep B
     replace Xg4:=Xg4.keep B
     replace Xg6:=Xg6.keep B
     replace Nn7:=Nn7.keep B
     replace Qq9:=Qq9.keep B
     replace Qq11:=Qq11.keep B
     replace Qq13:=Qq13.keep B
     refine ⟨⟨Xg2,Xg4⟩,?_⟩
     refine zs 11 Xg16 0 (.agg #[.slice aq13 kq13 dq13,.slice bq13 lq13 eq13]) [.slice aq13 kq13 dq13,.slice bq13 lq13 eq13] [.slice aq13 kq13 dq13,.slice bq13 lq13 eq13] ?_
     intro v17 Y C
     replace Nx:=NatA.cg Nx Xg16 C (by rfl)
     replace Ny:=NatA.cg Ny Xg16 C (by rfl)
     replace BB:=belowC BB C (by omega)
     replace Xg2:=Xg2.chg C (show g2≠g16 by omega)
     replace Xg4:=Xg4.chg C (show g4≠g16 by omega)
     replace Xg6:=Xg6.chg C (show g6≠g16 by omega)
     replace Nn7:=NatO.cg Nn7 Xg16 C (by rfl)
     replace Qq9:=Qq9.cg Xg16 C (by rfl)
     replace Qq11:=Qq11.cg Xg16 C (by rfl)
     replace Qq13:=Qq13.cg Xg16 C (by rfl)
     have Xg16:=Y
     refine ⟨⟨Xg2,Xg4⟩,?_⟩
     refine z 12 8 (iI 0) (gz_done (ge_then (gc_fr [(6,pg g6),(7,pg g16)] (gc_seq (gc_reg (tlr 19 [.slice aq13 kq13 dq13,.slice bq13 lq13 eq13] Xg16 0 (ts Xg6 0 (.agg #[.slice aq13 kq13 dq13,.slice bq13 lq13 eq13]) [.slice aq13 kq13 dq13,.slice bq13 lq13 eq13] [.slice aq13 kq13 dq13,.slice bq13 lq13 eq13] ?_)))))))
     intro v18 Y C
     replace Nx:=NatA.cg Nx Xg6 C (by rfl)
     replace Ny:=NatA.cg Ny Xg6 C (by rfl)
     replace BB:=belowC BB C (by omega)
     replace Xg2:=Xg2.chg C (show g2≠g6 by omega)
     replace Xg4:=Xg4.chg C (show g4≠g6 by omega)
     replace Nn7:=NatO.cg Nn7 Xg6 C (by rfl)
     replace Qq9:=Qq9.cg Xg6 C (by rfl)
     replace Qq11:=Qq11.cg Xg6 C (by rfl)
     replace Qq13:=Qq13.cg Xg6 C (by rfl)
     replace Xg16:=Xg16.chg C (show g16≠g6 by omega)
     have Xg6:=Y
     refine gl_nil (ge_then (gc_ret (ge_ret (.agg #[.slice aq13 kq13 dq13,.slice bq13 lq13 eq13]) (rsc 6 (T:=40) (by kernel_rfl) (by kernel_rfl) (lr Xg6 0)) ?_)))
     exact ⟨aq13,kq13,dq13,bq13,lq13,eq13,rfl,Qq13.z.is (qv_q hz),BB⟩
    have lXg2:=Xg2.lt
    have lXg4:=Xg4.lt
    have lXg6:=Xg6.lt
    refine zaa 10 7 [zS,zS] 40 (pg) ?_ ?_
    ·intro v19 g20 Xg20 hg20 B
     replace Nx:=Nx.keep B
     replace Ny:=Ny.keep B
     replace BB:=joinB BB B
     replace Xg2:=Xg2.keep B
     replace Xg4:=Xg4.keep B
     replace Xg6:=Xg6.keep B
     replace Nn7:=Nn7.keep B
     replace Qq9:=Qq9.keep B
     replace Qq11:=Qq11.keep B
     refine ⟨⟨Xg2,Xg4⟩,?_⟩
     refine zc 6 16 35 #[.agg #[.slice aq9 kq9 dq9,.slice bq9 lq9 eq9],.agg #[.slice aq11 kq11 dq11,.slice bq11 lq11 eq11]] (pQuo (B:=200000) (Qq9.v (ft_up fx (by decide))) (Qq11.v (ft_up fy (by decide))) (by decide) yz) ?_
     rintro _ v22 ⟨aq21,kq21,dq21,bq21,lq21,eq21,rfl,Qq21,B⟩
     replace Nx:=Nx.keep B
     replace Ny:=Ny.keep B
     replace BB:=joinB BB B
     replace Xg2:=Xg2.keep B
     replace Xg4:=Xg4.keep B
     replace Xg6:=Xg6.keep B
     replace Nn7:=Nn7.keep B
     replace Qq9:=Qq9.keep B
     replace Qq11:=Qq11.keep B
     replace Xg20:=Xg20.keep B
     refine ⟨_,rfl,⟨Xg2,Xg4⟩,?_⟩
     refine z 7 9 (.tuple #[.agg #[.slice aq21 kq21 dq21,.slice bq21 lq21 eq21],iI 0]) (z 8 17 (.agg #[.slice aq21 kq21 dq21,.slice bq21 lq21 eq21]) (z 9 18 (iI 0) (zs 11 Xg20 0 (.agg #[.slice aq21 kq21 dq21,.slice bq21 lq21 eq21]) [.slice aq21 kq21 dq21,.slice bq21 lq21 eq21] [.slice aq21 kq21 dq21,.slice bq21 lq21 eq21] ?_)))
     intro v23 Y C
     replace Nx:=NatA.cg Nx Xg20 C (by rfl)
     replace Ny:=NatA.cg Ny Xg20 C (by rfl)
     replace BB:=belowC BB C (by omega)
     replace Xg2:=Xg2.chg C (show g2≠g20 by omega)
     replace Xg4:=Xg4.chg C (show g4≠g20 by omega)
     replace Xg6:=Xg6.chg C (show g6≠g20 by omega)
     replace Nn7:=NatO.cg Nn7 Xg20 C (by rfl)
     replace Qq9:=Qq9.cg Xg20 C (by rfl)
     replace Qq11:=Qq11.cg Xg20 C (by rfl)
     replace Qq21:=Qq21.cg Xg20 C (by rfl)
     have Xg20:=Y
     refine ⟨⟨Xg2,Xg4⟩,?_⟩
     refine z 12 8 (iI 0) (gz_done (ge_then (gc_fr [(6,pg g6),(7,pg g20)] (gc_seq (gc_reg (tlr 19 [.slice aq21 kq21 dq21,.slice bq21 lq21 eq21] Xg20 0 (ts Xg6 0 (.agg #[.slice aq21 kq21 dq21,.slice bq21 lq21 eq21]) [.slice aq21 kq21 dq21,.slice bq21 lq21 eq21] [.slice aq21 kq21 dq21,.slice bq21 lq21 eq21] ?_)))))))
     intro v24 Y C
     replace Nx:=NatA.cg Nx Xg6 C (by rfl)
     replace Ny:=NatA.cg Ny Xg6 C (by rfl)
     replace BB:=belowC BB C (by omega)
     replace Xg2:=Xg2.chg C (show g2≠g6 by omega)
     replace Xg4:=Xg4.chg C (show g4≠g6 by omega)
     replace Nn7:=NatO.cg Nn7 Xg6 C (by rfl)
     replace Qq9:=Qq9.cg Xg6 C (by rfl)
     replace Qq11:=Qq11.cg Xg6 C (by rfl)
     replace Xg20:=Xg20.chg C (show g20≠g6 by omega)
     replace Qq21:=Qq21.cg Xg6 C (by rfl)
     have Xg6:=Y
     refine gl_nil (ge_then (gc_ret (ge_ret (.agg #[.slice aq21 kq21 dq21,.slice bq21 lq21 eq21]) (rsc 6 (T:=40) (by kernel_rfl) (by kernel_rfl) (lr Xg6 0)) ?_)))
     exact ⟨aq21,kq21,dq21,bq21,lq21,eq21,rfl,Qq21.z.is (qv_q hz),BB⟩
    exact ga_nil
   have lXg2:=Xg2.lt
   have lXg4:=Xg4.lt
   have lXg6:=Xg6.lt
   refine zaa 10 7 [zS,zS] 40 (pg) ?_ ?_
   ·intro v25 g26 Xg26 hg26 B
    replace Nx:=Nx.keep B
    replace Ny:=Ny.keep B
    replace BB:=joinB BB B
    replace Xg2:=Xg2.keep B
    replace Xg4:=Xg4.keep B
    replace Xg6:=Xg6.keep B
    replace Nn7:=Nn7.keep B
    replace Qq9:=Qq9.keep B
    refine ⟨⟨Xg2,Xg4⟩,?_⟩
    refine zc 5 15 36 #[.agg #[.slice ay ny cy]] (pOfDec (B:=200000) Ny (by omega) (by omega) (by omega)) ?_
    rintro _ v28 ⟨aq27,kq27,dq27,bq27,lq27,eq27,rfl,Qq27,B⟩
    replace Nx:=Nx.keep B
    replace Ny:=Ny.keep B
    replace BB:=joinB BB B
    replace Xg2:=Xg2.keep B
    replace Xg4:=Xg4.keep B
    replace Xg6:=Xg6.keep B
    replace Nn7:=Nn7.keep B
    replace Qq9:=Qq9.keep B
    replace Xg26:=Xg26.keep B
    refine ⟨_,rfl,⟨Xg2,Xg4⟩,?_⟩
    refine zc 6 16 35 #[.agg #[.slice aq9 kq9 dq9,.slice bq9 lq9 eq9],.agg #[.slice aq27 kq27 dq27,.slice bq27 lq27 eq27]] (pQuo (B:=200000) (Qq9.v (ft_up fx (by decide))) (Qq27.v (ft_up fy (by decide))) (by decide) yz) ?_
    rintro _ v30 ⟨aq29,kq29,dq29,bq29,lq29,eq29,rfl,Qq29,B⟩
    replace Nx:=Nx.keep B
    replace Ny:=Ny.keep B
    replace BB:=joinB BB B
    replace Xg2:=Xg2.keep B
    replace Xg4:=Xg4.keep B
    replace Xg6:=Xg6.keep B
    replace Nn7:=Nn7.keep B
    replace Qq9:=Qq9.keep B
    replace Xg26:=Xg26.keep B
    replace Qq27:=Qq27.keep B
    refine ⟨_,rfl,⟨Xg2,Xg4⟩,?_⟩
    refine z 7 9 (.tuple #[.agg #[.slice aq29 kq29 dq29,.slice bq29 lq29 eq29],iI 0]) (z 8 17 (.agg #[.slice aq29 kq29 dq29,.slice bq29 lq29 eq29]) (z 9 18 (iI 0) (zs 11 Xg26 0 (.agg #[.slice aq29 kq29 dq29,.slice bq29 lq29 eq29]) [.slice aq29 kq29 dq29,.slice bq29 lq29 eq29] [.slice aq29 kq29 dq29,.slice bq29 lq29 eq29] ?_)))
    intro v31 Y C
    replace Nx:=NatA.cg Nx Xg26 C (by rfl)
    replace Ny:=NatA.cg Ny Xg26 C (by rfl)
    replace BB:=belowC BB C (by omega)
    replace Xg2:=Xg2.chg C (show g2≠g26 by omega)
    replace Xg4:=Xg4.chg C (show g4≠g26 by omega)
    replace Xg6:=Xg6.chg C (show g6≠g26 by omega)
    replace Nn7:=NatO.cg Nn7 Xg26 C (by rfl)
    replace Qq9:=Qq9.cg Xg26 C (by rfl)
    replace Qq27:=Qq27.cg Xg26 C (by rfl)
    replace Qq29:=Qq29.cg Xg26 C (by rfl)
    have Xg26:=Y
    refine ⟨⟨Xg2,Xg4⟩,?_⟩
    refine z 12 8 (iI 0) (gz_done (ge_then (gc_fr [(6,pg g6),(7,pg g26)] (gc_seq (gc_reg (tlr 19 [.slice aq29 kq29 dq29,.slice bq29 lq29 eq29] Xg26 0 (ts Xg6 0 (.agg #[.slice aq29 kq29 dq29,.slice bq29 lq29 eq29]) [.slice aq29 kq29 dq29,.slice bq29 lq29 eq29] [.slice aq29 kq29 dq29,.slice bq29 lq29 eq29] ?_)))))))
    intro v32 Y C
    replace Nx:=NatA.cg Nx Xg6 C (by rfl)
    replace Ny:=NatA.cg Ny Xg6 C (by rfl)
    replace BB:=belowC BB C (by omega)
    replace Xg2:=Xg2.chg C (show g2≠g6 by omega)
    replace Xg4:=Xg4.chg C (show g4≠g6 by omega)
    replace Nn7:=NatO.cg Nn7 Xg6 C (by rfl)
    replace Qq9:=Qq9.cg Xg6 C (by rfl)
    replace Xg26:=Xg26.chg C (show g26≠g6 by omega)
    replace Qq27:=Qq27.cg Xg6 C (by rfl)
    replace Qq29:=Qq29.cg Xg6 C (by rfl)
    have Xg6:=Y
    refine gl_nil (ge_then (gc_ret (ge_ret (.agg #[.slice aq29 kq29 dq29,.slice bq29 lq29 eq29]) (rsc 6 (T:=40) (by kernel_rfl) (by kernel_rfl) (lr Xg6 0)) ?_)))
    exact ⟨aq29,kq29,dq29,bq29,lq29,eq29,rfl,Qq29.z.is (qv_q hz),BB⟩
   exact ga_nil
  have lXg2:=Xg2.lt
  have lXg4:=Xg4.lt
  have lXg6:=Xg6.lt
  refine zaa 10 7 [zS,zS] 40 (pg) ?_ ?_
  ·intro v33 g34 Xg34 hg34 B
   replace Nx:=Nx.keep B
   replace Ny:=Ny.keep B
   replace BB:=joinB BB B
   replace Xg2:=Xg2.keep B
   replace Xg4:=Xg4.keep B
   replace Xg6:=Xg6.keep B
   replace Nn7:=Nn7.keep B
   refine ⟨⟨Xg2,Xg4⟩,?_⟩
   refine zc 3 13 36 #[.agg #[.slice an7 kn7 dn7]] (pOfDec (B:=200000) Nn7.a (by omega) (by omega) (by omega)) ?_
   rintro _ v36 ⟨aq35,kq35,dq35,bq35,lq35,eq35,rfl,Qq35,B⟩
   replace Nx:=Nx.keep B
   replace Ny:=Ny.keep B
   replace BB:=joinB BB B
   replace Xg2:=Xg2.keep B
   replace Xg4:=Xg4.keep B
   replace Xg6:=Xg6.keep B
   replace Nn7:=Nn7.keep B
   replace Xg34:=Xg34.keep B
   refine ⟨_,rfl,⟨Xg2,Xg4⟩,?_⟩
   refine zc 5 15 36 #[.agg #[.slice ay ny cy]] (pOfDec (B:=200000) Ny (by omega) (by omega) (by omega)) ?_
   rintro _ v38 ⟨aq37,kq37,dq37,bq37,lq37,eq37,rfl,Qq37,B⟩
   replace Nx:=Nx.keep B
   replace Ny:=Ny.keep B
   replace BB:=joinB BB B
   replace Xg2:=Xg2.keep B
   replace Xg4:=Xg4.keep B
   replace Xg6:=Xg6.keep B
   replace Nn7:=Nn7.keep B
   replace Xg34:=Xg34.keep B
   replace Qq35:=Qq35.keep B
   refine ⟨_,rfl,⟨Xg2,Xg4⟩,?_⟩
   refine zc 6 16 35 #[.agg #[.slice aq35 kq35 dq35,.slice bq35 lq35 eq35],.agg #[.slice aq37 kq37 dq37,.slice bq37 lq37 eq37]] (pQuo (B:=200000) (Qq35.v (ft_up fx (by decide))) (Qq37.v (ft_up fy (by decide))) (by decide) yz) ?_
   rintro _ v40 ⟨aq39,kq39,dq39,bq39,lq39,eq39,rfl,Qq39,B⟩
   replace Nx:=Nx.keep B
   replace Ny:=Ny.keep B
   replace BB:=joinB BB B
   replace Xg2:=Xg2.keep B
   replace Xg4:=Xg4.keep B
   replace Xg6:=Xg6.keep B
   replace Nn7:=Nn7.keep B
   replace Xg34:=Xg34.keep B
   replace Qq35:=Qq35.keep B
   replace Qq37:=Qq37.keep B
   refine ⟨_,rfl,⟨Xg2,Xg4⟩,?_⟩
   refine z 7 9 (.tuple #[.agg #[.slice aq39 kq39 dq39,.slice bq39 lq39 eq39],iI 0]) (z 8 17 (.agg #[.slice aq39 kq39 dq39,.slice bq39 lq39 eq39]) (z 9 18 (iI 0) (zs 11 Xg34 0 (.agg #[.slice aq39 kq39 dq39,.slice bq39 lq39 eq39]) [.slice aq39 kq39 dq39,.slice bq39 lq39 eq39] [.slice aq39 kq39 dq39,.slice bq39 lq39 eq39] ?_)))
   intro v41 Y C
   replace Nx:=NatA.cg Nx Xg34 C (by rfl)
   replace Ny:=NatA.cg Ny Xg34 C (by rfl)
   replace BB:=belowC BB C (by omega)
   replace Xg2:=Xg2.chg C (show g2≠g34 by omega)
   replace Xg4:=Xg4.chg C (show g4≠g34 by omega)
   replace Xg6:=Xg6.chg C (show g6≠g34 by omega)
   replace Nn7:=NatO.cg Nn7 Xg34 C (by rfl)
   replace Qq35:=Qq35.cg Xg34 C (by rfl)
   replace Qq37:=Qq37.cg Xg34 C (by rfl)
   replace Qq39:=Qq39.cg Xg34 C (by rfl)
   have Xg34:=Y
   refine ⟨⟨Xg2,Xg4⟩,?_⟩
   refine z 12 8 (iI 0) (gz_done (ge_then (gc_fr [(6,pg g6),(7,pg g34)] (gc_seq (gc_reg (tlr 19 [.slice aq39 kq39 dq39,.slice bq39 lq39 eq39] Xg34 0 (ts Xg6 0 (.agg #[.slice aq39 kq39 dq39,.slice bq39 lq39 eq39]) [.slice aq39 kq39 dq39,.slice bq39 lq39 eq39] [.slice aq39 kq39 dq39,.slice bq39 lq39 eq39] ?_)))))))
   intro v42 Y C
   replace Nx:=NatA.cg Nx Xg6 C (by rfl)
   replace Ny:=NatA.cg Ny Xg6 C (by rfl)
   replace BB:=belowC BB C (by omega)
   replace Xg2:=Xg2.chg C (show g2≠g6 by omega)
   replace Xg4:=Xg4.chg C (show g4≠g6 by omega)
   replace Nn7:=NatO.cg Nn7 Xg6 C (by rfl)
   replace Xg34:=Xg34.chg C (show g34≠g6 by omega)
   replace Qq35:=Qq35.cg Xg6 C (by rfl)
   replace Qq37:=Qq37.cg Xg6 C (by rfl)
   replace Qq39:=Qq39.cg Xg6 C (by rfl)
   have Xg6:=Y
   refine gl_nil (ge_then (gc_ret (ge_ret (.agg #[.slice aq39 kq39 dq39,.slice bq39 lq39 eq39]) (rsc 6 (T:=40) (by kernel_rfl) (by kernel_rfl) (lr Xg6 0)) ?_)))
   exact ⟨aq39,kq39,dq39,bq39,lq39,eq39,rfl,Qq39.z.is (qv_q hz),BB⟩
  exact ga_nil
 have lXg2:=Xg2.lt
 have lXg4:=Xg4.lt
 have lXg6:=Xg6.lt
 refine zaa 10 7 [zS,zS] 40 (pg) ?_ ?_
 ·intro v43 g44 Xg44 hg44 B
  replace Nx:=Nx.keep B
  replace Ny:=Ny.keep B
  replace BB:=joinB BB B
  replace Xg2:=Xg2.keep B
  replace Xg4:=Xg4.keep B
  replace Xg6:=Xg6.keep B
  refine ⟨⟨Xg2,Xg4⟩,?_⟩
  refine zc 2 12 100 #[.agg #[.slice ax nx cx],iU t_] (dTimes (y:=t_) Nx (by omega) (ht).1 (ht).2) ?_
  rintro _ v46 ⟨an45,kn45,dn45,rfl,Nn45,ln45,B⟩
  replace Nx:=Nx.keep B
  replace Ny:=Ny.keep B
  replace BB:=joinB BB B
  replace Xg2:=Xg2.keep B
  replace Xg4:=Xg4.keep B
  replace Xg6:=Xg6.keep B
  replace Xg44:=Xg44.keep B
  refine ⟨_,rfl,⟨Xg2,Xg4⟩,?_⟩
  refine zc 3 13 36 #[.agg #[.slice an45 kn45 dn45]] (pOfDec (B:=200000) Nn45.a (by omega) (by omega) (by omega)) ?_
  rintro _ v48 ⟨aq47,kq47,dq47,bq47,lq47,eq47,rfl,Qq47,B⟩
  replace Nx:=Nx.keep B
  replace Ny:=Ny.keep B
  replace BB:=joinB BB B
  replace Xg2:=Xg2.keep B
  replace Xg4:=Xg4.keep B
  replace Xg6:=Xg6.keep B
  replace Xg44:=Xg44.keep B
  replace Nn45:=Nn45.keep B
  refine ⟨_,rfl,⟨Xg2,Xg4⟩,?_⟩
  refine zc 5 15 36 #[.agg #[.slice ay ny cy]] (pOfDec (B:=200000) Ny (by omega) (by omega) (by omega)) ?_
  rintro _ v50 ⟨aq49,kq49,dq49,bq49,lq49,eq49,rfl,Qq49,B⟩
  replace Nx:=Nx.keep B
  replace Ny:=Ny.keep B
  replace BB:=joinB BB B
  replace Xg2:=Xg2.keep B
  replace Xg4:=Xg4.keep B
  replace Xg6:=Xg6.keep B
  replace Xg44:=Xg44.keep B
  replace Nn45:=Nn45.keep B
  replace Qq47:=Qq47.keep B
  refine ⟨_,rfl,⟨Xg2,Xg4⟩,?_⟩
  refine zc 6 16 35 #[.agg #[.slice aq47 kq47 dq47,.slice bq47 lq47 eq47],.agg #[.slice aq49 kq49 dq49,.slice bq49 lq49 eq49]] (pQuo (B:=200000) (Qq47.v (ft_up fx (by decide))) (Qq49.v (ft_up fy (by decide))) (by decide) yz) ?_
  rintro _ v52 ⟨aq51,kq51,dq51,bq51,lq51,eq51,rfl,Qq51,B⟩
  replace Nx:=Nx.keep B
  replace Ny:=Ny.keep B
  replace BB:=joinB BB B
  replace Xg2:=Xg2.keep B
  replace Xg4:=Xg4.keep B
  replace Xg6:=Xg6.keep B
  replace Xg44:=Xg44.keep B
  replace Nn45:=Nn45.keep B
  replace Qq47:=Qq47.keep B
  replace Qq49:=Qq49.keep B
  refine ⟨_,rfl,⟨Xg2,Xg4⟩,?_⟩
  refine z 7 9 (.tuple #[.agg #[.slice aq51 kq51 dq51,.slice bq51 lq51 eq51],iI 0]) (z 8 17 (.agg #[.slice aq51 kq51 dq51,.slice bq51 lq51 eq51]) (z 9 18 (iI 0) (zs 11 Xg44 0 (.agg #[.slice aq51 kq51 dq51,.slice bq51 lq51 eq51]) [.slice aq51 kq51 dq51,.slice bq51 lq51 eq51] [.slice aq51 kq51 dq51,.slice bq51 lq51 eq51] ?_)))
  intro v53 Y C
  replace Nx:=NatA.cg Nx Xg44 C (by rfl)
  replace Ny:=NatA.cg Ny Xg44 C (by rfl)
  replace BB:=belowC BB C (by omega)
  replace Xg2:=Xg2.chg C (show g2≠g44 by omega)
  replace Xg4:=Xg4.chg C (show g4≠g44 by omega)
  replace Xg6:=Xg6.chg C (show g6≠g44 by omega)
  replace Nn45:=NatO.cg Nn45 Xg44 C (by rfl)
  replace Qq47:=Qq47.cg Xg44 C (by rfl)
  replace Qq49:=Qq49.cg Xg44 C (by rfl)
  replace Qq51:=Qq51.cg Xg44 C (by rfl)
  have Xg44:=Y
  refine ⟨⟨Xg2,Xg4⟩,?_⟩
  refine z 12 8 (iI 0) (gz_done (ge_then (gc_fr [(6,pg g6),(7,pg g44)] (gc_seq (gc_reg (tlr 19 [.slice aq51 kq51 dq51,.slice bq51 lq51 eq51] Xg44 0 (ts Xg6 0 (.agg #[.slice aq51 kq51 dq51,.slice bq51 lq51 eq51]) [.slice aq51 kq51 dq51,.slice bq51 lq51 eq51] [.slice aq51 kq51 dq51,.slice bq51 lq51 eq51] ?_)))))))
  intro v54 Y C
  replace Nx:=NatA.cg Nx Xg6 C (by rfl)
  replace Ny:=NatA.cg Ny Xg6 C (by rfl)
  replace BB:=belowC BB C (by omega)
  replace Xg2:=Xg2.chg C (show g2≠g6 by omega)
  replace Xg4:=Xg4.chg C (show g4≠g6 by omega)
  replace Xg44:=Xg44.chg C (show g44≠g6 by omega)
  replace Nn45:=NatO.cg Nn45 Xg6 C (by rfl)
  replace Qq47:=Qq47.cg Xg6 C (by rfl)
  replace Qq49:=Qq49.cg Xg6 C (by rfl)
  replace Qq51:=Qq51.cg Xg6 C (by rfl)
  have Xg6:=Y
  refine gl_nil (ge_then (gc_ret (ge_ret (.agg #[.slice aq51 kq51 dq51,.slice bq51 lq51 eq51]) (rsc 6 (T:=40) (by kernel_rfl) (by kernel_rfl) (lr Xg6 0)) ?_)))
  exact ⟨aq51,kq51,dq51,bq51,lq51,eq51,rfl,Qq51.z.is (qv_q hz),BB⟩
 exact ga_nil
theorem worth_any {w:World} {ax:Option Addr} {nx cx:Nat} {x:Int} (Nx:NatA w ax nx cx x) (lx:nx<=100) {ay:Option Addr} {ny cy:Nat} {y:Int} (Ny:NatA w ay ny cy y) (ly:ny<=100) {t_:Int} (ht:0<=t_/\t_ < 18446744073709551616):Calls Tryz.prog 63 #[.agg #[.slice ax nx cx],.agg #[.slice ay ny cy],.int .u64 t_] w fun e w'=>∃ a k d_ a' k' d',e=.returned (.agg #[.slice a k d_,.slice a' k' d'])/\RZ w' a k d_ a' k' d' (qv (x * t_) y)/\Below w.heap.size w w':=by
 by_cases hz:y=0
 ·exact worth_z Nx lx Ny ly ht hz
 ·exact worth_n Nx lx Ny ly ht hz
theorem fStakes {w:World} {g:Nat} {wa wb oa ob:Option Addr} {wn wc wm wd on oc om od:Nat} {p k:Int} (X:Blk w g [.slice wa wn wc,.slice wb wm wd,.slice oa on oc,.slice ob om od,.int .i64 p,.int .i64 k] 79):Calls Tryz.prog 69 #[pg g] w fun e w'=>e=.returned (.agg #[.slice wa wn wc,.slice wb wm wd])/\Below w.heap.size w w':=by
 have hgl:=X.lt
 have BB:=Below.refl w.heap.size w
 refine gc_enter (n:=7) Tryz.func69 rfl ?_
 refine gc_seq (gc_reg ?_)
 have lX:=X.lt
 refine ta 2 [zS,zS] 40 (pg) ?_
 intro v1 g2 Xg2 hg2 B
 replace X:=X.keep B
 replace BB:=joinB BB B
 refine gl_nil (ge_then (gc_seq (gc_reg (t 3 (pg g) (t 4 (pg g) (t 5 (pg g) (tlr 6 [.slice wa wn wc,.slice wb wm wd] X 0 (ts Xg2 0 (.agg #[.slice wa wn wc,.slice wb wm wd]) [.slice wa wn wc,.slice wb wm wd] [.slice wa wn wc,.slice wb wm wd] ?_))))))))
 intro v3 Y C
 replace X:=X.chg C (show g≠g2 by omega)
 replace BB:=belowC BB C (by omega)
 have Xg2:=Y
 refine gl_nil (ge_then (gc_ret (ge_ret (.agg #[.slice wa wn wc,.slice wb wm wd]) (rsc 2 (T:=40) (by kernel_rfl) (by kernel_rfl) (lr Xg2 0)) ?_)))
 exact ⟨rfl,BB⟩
theorem fOwes {w:World} {g:Nat} {wa wb oa ob:Option Addr} {wn wc wm wd on oc om od:Nat} {p k:Int} (X:Blk w g [.slice wa wn wc,.slice wb wm wd,.slice oa on oc,.slice ob om od,.int .i64 p,.int .i64 k] 79):Calls Tryz.prog 70 #[pg g] w fun e w'=>e=.returned (.agg #[.slice oa on oc,.slice ob om od])/\Below w.heap.size w w':=by
 have hgl:=X.lt
 have BB:=Below.refl w.heap.size w
 refine gc_enter (n:=7) Tryz.func70 rfl ?_
 refine gc_seq (gc_reg ?_)
 have lX:=X.lt
 refine ta 2 [zS,zS] 40 (pg) ?_
 intro v1 g2 Xg2 hg2 B
 replace X:=X.keep B
 replace BB:=joinB BB B
 refine gl_nil (ge_then (gc_seq (gc_reg (t 3 (pg g) (t 4 (pg g) (t 5 (pq g 2) (tlr 6 [.slice oa on oc,.slice ob om od] X 2 (ts Xg2 0 (.agg #[.slice oa on oc,.slice ob om od]) [.slice oa on oc,.slice ob om od] [.slice oa on oc,.slice ob om od] ?_))))))))
 intro v3 Y C
 replace X:=X.chg C (show g≠g2 by omega)
 replace BB:=belowC BB C (by omega)
 have Xg2:=Y
 refine gl_nil (ge_then (gc_ret (ge_ret (.agg #[.slice oa on oc,.slice ob om od]) (rsc 2 (T:=40) (by kernel_rfl) (by kernel_rfl) (lr Xg2 0)) ?_)))
 exact ⟨rfl,BB⟩
theorem cPartStakes {w:World} {g:Nat} {wa wb oa ob:Option Addr} {wn wc wm wd on oc om od:Nat} {r o:Rat} {p k:Int} {c c2 B n cc:Nat} {ao:Option Addr} {l:List (RV × Rat)} (X:Blk w g [.slice wa wn wc,.slice wb wm wd,.slice oa on oc,.slice ob om od,.int .i64 p,.int .i64 k] 79) (YL:Blk w c [.slice ao n cc] 61) (Z:Blk w c2 [.func (.func 69) #[] #[]] 96) (hc:c≠c2) (PT:Pts w B ao n cc l) (hB:B<=w.heap.size) (hn:n<=1000000):Calls Tryz.prog 104 #[pg g,pg c,pg c2] w fun e w'=>∃ ao' c',e=.returned (.tuple #[])/\Blk w' c [.slice ao' (n + 1) c'] 61/\Pts w' B ao' (n + 1) c' (l ++ [((wa,wn,wc,wb,wm,wd),r)])/\Chg (PF c B ao) w w':=by
 have BB:=Chg.refl (PF c B ao) w
 have hgl:=X.lt
 have hcl:=YL.lt
 have hzl:=Z.lt
 refine gc_enter (n:=10) Tryz.func104 rfl ?_
 replace X:=X.drew
 replace YL:=YL.drew
 replace Z:=Z.drew
 replace BB:=BB.trans (Chg.of (F:=fun _=>False) (Below.refl _ _).drew) (fun _ _ k=>k.elim)
 replace PT:=PT.keep (Below.refl _ _).drew
 refine gc_draw (fun w'=>Blk w' c [.slice ao n cc] 61/\Blk w' c2 [.func (.func 69) #[] #[]] 96) (fun i=>decide (6<=i)) ⟨YL,Z⟩ ?_
 refine zl 0 4 (.slice ao n cc) (fun _ h=>h.1) 0 (zl 1 5 (.func (.func 69) #[] #[]) (fun _ h=>h.2) 0 (zp 2 6 (pg g) (zc 3 7 69 #[pg g] (fStakes X) ?_)))
 rintro _ v1 ⟨rfl,B⟩
 replace X:=X.keep B
 replace YL:=YL.keep B
 replace Z:=Z.keep B
 replace BB:=BB.trans (Chg.of (F:=fun _=>False) B) (fun _ _ k=>k.elim)
 replace PT:=PT.keep B
 clear B
 refine ⟨_,rfl,⟨YL,Z⟩,?_⟩
 have lX:=X.lt
 have lYL:=YL.lt
 have lZ:=Z.lt
 refine za 4 8 [.slice wa wn wc,.slice wb wm wd] 40 (sg 1) ?_
 intro v2 g3 Xg3 hg3 B
 replace X:=X.keep B
 replace YL:=YL.keep B
 replace Z:=Z.keep B
 replace BB:=BB.trans (Chg.of (F:=fun _=>False) B) (fun _ _ k=>k.elim)
 replace PT:=PT.keep B
 clear B
 refine ⟨⟨YL,Z⟩,?_⟩
 obtain ⟨ao2,c3,w5,hr5,PT2,C5⟩:=PT.app (ty:=61) (cc:=1) (Nat.le_trans hB BB.size) hn (v:=(wa,wn,wc,wb,wm,wd)) (r:=r) Xg3
 replace YL:=YL.chg C5 (PT.ne YL (by decide))
 replace Z:=Z.chg C5 (PT.ne Z (by decide))
 replace BB:=BB.trans C5 (fun _ _ h=>.inr h)
 clear PT C5
 have PT:=PT2
 clear PT2
 clear Xg3
 clear X
 refine zw 5 9 (.slice ao2 (n + 1) c3) _ (run_apR hr5) ⟨YL,Z⟩ ?_
 refine gz_late (ys 6 YL 0 (.slice ao2 (n + 1) c3) [.slice ao2 (n + 1) c3] [.slice ao2 (n + 1) c3] ?_)
 intro v4 Y C
 replace Z:=Z.chg C (show c2≠c by omega)
 replace BB:=BB.trans C (fun _ _ h=>.inl h)
 replace PT:=PT.chg YL (by decide) C
 clear C YL
 have YL:=Y
 clear Y
 refine gy_done (ge_end (.tuple #[]) (rs0 (by kernel_rfl)) ?_)
 exact ⟨ao2,c3,rfl,YL,PT,BB⟩
theorem cPartOwes {w:World} {g:Nat} {wa wb oa ob:Option Addr} {wn wc wm wd on oc om od:Nat} {r o:Rat} {p k:Int} {c c2 B n cc:Nat} {ao:Option Addr} {l:List (RV × Rat)} (X:Blk w g [.slice wa wn wc,.slice wb wm wd,.slice oa on oc,.slice ob om od,.int .i64 p,.int .i64 k] 79) (YL:Blk w c [.slice ao n cc] 61) (Z:Blk w c2 [.func (.func 70) #[] #[]] 96) (hc:c≠c2) (PT:Pts w B ao n cc l) (hB:B<=w.heap.size) (hn:n<=1000000):Calls Tryz.prog 104 #[pg g,pg c,pg c2] w fun e w'=>∃ ao' c',e=.returned (.tuple #[])/\Blk w' c [.slice ao' (n + 1) c'] 61/\Pts w' B ao' (n + 1) c' (l ++ [((oa,on,oc,ob,om,od),o)])/\Chg (PF c B ao) w w':=by
 have BB:=Chg.refl (PF c B ao) w
 have hgl:=X.lt
 have hcl:=YL.lt
 have hzl:=Z.lt
 refine gc_enter (n:=10) Tryz.func104 rfl ?_
 replace X:=X.drew
 replace YL:=YL.drew
 replace Z:=Z.drew
 replace BB:=BB.trans (Chg.of (F:=fun _=>False) (Below.refl _ _).drew) (fun _ _ k=>k.elim)
 replace PT:=PT.keep (Below.refl _ _).drew
 refine gc_draw (fun w'=>Blk w' c [.slice ao n cc] 61/\Blk w' c2 [.func (.func 70) #[] #[]] 96) (fun i=>decide (6<=i)) ⟨YL,Z⟩ ?_
 refine zl 0 4 (.slice ao n cc) (fun _ h=>h.1) 0 (zl 1 5 (.func (.func 70) #[] #[]) (fun _ h=>h.2) 0 (zp 2 6 (pg g) (zc 3 7 70 #[pg g] (fOwes X) ?_)))
 rintro _ v1 ⟨rfl,B⟩
 replace X:=X.keep B
 replace YL:=YL.keep B
 replace Z:=Z.keep B
 replace BB:=BB.trans (Chg.of (F:=fun _=>False) B) (fun _ _ k=>k.elim)
 replace PT:=PT.keep B
 clear B
 refine ⟨_,rfl,⟨YL,Z⟩,?_⟩
 have lX:=X.lt
 have lYL:=YL.lt
 have lZ:=Z.lt
 refine za 4 8 [.slice oa on oc,.slice ob om od] 40 (sg 1) ?_
 intro v2 g3 Xg3 hg3 B
 replace X:=X.keep B
 replace YL:=YL.keep B
 replace Z:=Z.keep B
 replace BB:=BB.trans (Chg.of (F:=fun _=>False) B) (fun _ _ k=>k.elim)
 replace PT:=PT.keep B
 clear B
 refine ⟨⟨YL,Z⟩,?_⟩
 obtain ⟨ao2,c3,w5,hr5,PT2,C5⟩:=PT.app (ty:=61) (cc:=1) (Nat.le_trans hB BB.size) hn (v:=(oa,on,oc,ob,om,od)) (r:=o) Xg3
 replace YL:=YL.chg C5 (PT.ne YL (by decide))
 replace Z:=Z.chg C5 (PT.ne Z (by decide))
 replace BB:=BB.trans C5 (fun _ _ h=>.inr h)
 clear PT C5
 have PT:=PT2
 clear PT2
 clear Xg3
 clear X
 refine zw 5 9 (.slice ao2 (n + 1) c3) _ (run_apR hr5) ⟨YL,Z⟩ ?_
 refine gz_late (ys 6 YL 0 (.slice ao2 (n + 1) c3) [.slice ao2 (n + 1) c3] [.slice ao2 (n + 1) c3] ?_)
 intro v4 Y C
 replace Z:=Z.chg C (show c2≠c by omega)
 replace BB:=BB.trans C (fun _ _ h=>.inl h)
 replace PT:=PT.chg YL (by decide) C
 clear C YL
 have YL:=Y
 clear Y
 refine gy_done (ge_end (.tuple #[]) (rs0 (by kernel_rfl)) ?_)
 exact ⟨ao2,c3,rfl,YL,PT,BB⟩
theorem cGive {w:World} {g:Nat} {wa wb oa ob:Option Addr} {wn wc wm wd on oc om od:Nat} {r o:Rat} {p k:Int} {xa xb:Option Addr} {xn xc xm xd:Nat} {x:Rat} (X:Blk w g [.slice wa wn wc,.slice wb wm wd,.slice oa on oc,.slice ob om od,.int .i64 p,.int .i64 k] 79) (Qr:RZ w wa wn wc wb wm wd r) (Qo:RZ w oa on oc ob om od o) {c1:Nat} (Y1:Blk w c1 [.slice xa xn xc,.slice xb xm xd] 40) (Qx:RZ w xa xn xc xb xm xd x) (hc1:c1≠g) (fr:Ft r 640000) (fo:Ft o 640000) (r0:0<=r) (fx:Ft x 6600) (x0:0<=x):Calls Tryz.prog 51 #[pg g,pg c1] w fun e w'=>∃ a_ k_ d_ a' k' d',e=.returned (.tuple #[])/\Blk w' g [.slice wa wn wc,.slice wb wm wd,.slice a_ k_ d_,.slice a' k' d',.int .i64 p,.int .i64 k] 79/\RZ w' wa wn wc wb wm wd r/\RZ w' a_ k_ d_ a' k' d' ((o) + ((x) * (r)))/\Chg (· = g) w w'/\Lp w w':=by
 have hgl:=X.lt
 have BB:=Below.refl w.heap.size w
 refine gc_enter (n:=17) Tryz.func51 rfl ?_
 clear BB
 have BB:=Chg.refl (· = g) w
 have LP:=Lp.refl w
 replace X:=X.drew
 replace Y1:=Y1.drew
 replace Qr:=Qr.drew
 replace Qo:=Qo.drew
 replace Qx:=Qx.drew
 replace BB:=BB.trans (Chg.of (F:=fun _=>False) (Below.refl _ _).drew) (fun _ _ k=>k.elim)
 replace LP:=LP.trans (Lp.of (Below.refl _ _).drew)
 refine gc_draw (fun w'=>Blk w' g [.slice wa wn wc,.slice wb wm wd,.slice oa on oc,.slice ob om od,.int .i64 p,.int .i64 k] 79/\Blk w' c1 [.slice xa xn xc,.slice xb xm xd] 40) (fun i=>decide (14<=i)) ⟨X,Y1⟩ ?_
 refine zp 0 3 (pg g) (zp 1 4 (pg g) (zp 2 5 (pg g) (zp 3 6 (pq g 2) (zlr 4 7 [.slice oa on oc,.slice ob om od] (fun _ h=>h.1) 2 (zlr 5 8 [.slice xa xn xc,.slice xb xm xd] (fun _ h=>h.2) 0 (zp 6 9 (pg g) (zp 7 10 (pg g) (zp 8 11 (pg g) (zlr 9 12 [.slice wa wn wc,.slice wb wm wd] (fun _ h=>h.1) 0 (zc 10 13 39 #[.agg #[.slice xa xn xc,.slice xb xm xd],.agg #[.slice wa wn wc,.slice wb wm wd]] (pMul (B:=2000000) (Qx.v (ft_up fx (by decide))) (Qr.v (ft_up fr (by decide))) (by omega)) ?_))))))))))
 rintro _ v2 ⟨aq1,kq1,dq1,bq1,lq1,eq1,rfl,Qq1,B⟩
 replace X:=X.keep B
 replace Y1:=Y1.keep B
 replace Qr:=Qr.keep B
 replace Qo:=Qo.keep B
 replace Qx:=Qx.keep B
 replace BB:=BB.trans (Chg.of (F:=fun _=>False) B) (fun _ _ k=>k.elim)
 replace LP:=LP.trans (Lp.of B)
 clear B
 refine ⟨_,rfl,⟨X,Y1⟩,?_⟩
 refine zc 11 14 52 #[.agg #[.slice oa on oc,.slice ob om od],.agg #[.slice aq1 kq1 dq1,.slice bq1 lq1 eq1]] (pAdd (B:=2000000) (Qo.v (ft_up fo (by decide))) (Qq1.v (ft_up (ft_mul fx fr x0 r0) (by decide))) (by omega)) ?_
 rintro _ v4 ⟨aq3,kq3,dq3,bq3,lq3,eq3,rfl,Qq3,B⟩
 replace X:=X.keep B
 replace Y1:=Y1.keep B
 replace Qr:=Qr.keep B
 replace Qo:=Qo.keep B
 replace Qx:=Qx.keep B
 replace BB:=BB.trans (Chg.of (F:=fun _=>False) B) (fun _ _ k=>k.elim)
 replace LP:=LP.trans (Lp.of B)
 replace Qq1:=Qq1.keep B
 clear B
 refine ⟨_,rfl,⟨X,Y1⟩,?_⟩
 refine zp 12 15 (pg g) (zp 13 16 (pq g 2) (gz_late (ys 14 X 2 (.agg #[.slice aq3 kq3 dq3,.slice bq3 lq3 eq3]) [.slice aq3 kq3 dq3,.slice bq3 lq3 eq3] [.slice wa wn wc,.slice wb wm wd,.slice aq3 kq3 dq3,.slice bq3 lq3 eq3,.int .i64 p,.int .i64 k] ?_)))
 intro v5 Y C
 replace Y1:=Y1.chg C (show c1≠g by omega)
 replace Qr:=Qr.cg X C (by rfl)
 replace Qo:=Qo.cg X C (by rfl)
 replace Qx:=Qx.cg X C (by rfl)
 replace BB:=BB.trans C (fun _ _ h=>h)
 replace LP:=LP.trans (Lp.cg X C (by rfl))
 replace Qq1:=Qq1.cg X C (by rfl)
 replace Qq3:=Qq3.cg X C (by rfl)
 clear C X
 have X:=Y
 clear Y
 refine gy_done (ge_end (.tuple #[]) (rs0 (by kernel_rfl)) ?_)
 exact ⟨aq3,kq3,dq3,bq3,lq3,eq3,rfl,X,Qr,Qq3.z,BB,LP⟩
theorem cCut {w:World} {g:Nat} {wa wb oa ob:Option Addr} {wn wc wm wd on oc om od:Nat} {r o:Rat} {p k:Int} {xa xb:Option Addr} {xn xc xm xd:Nat} {x:Rat} (X:Blk w g [.slice wa wn wc,.slice wb wm wd,.slice oa on oc,.slice ob om od,.int .i64 p,.int .i64 k] 79) (Qr:RZ w wa wn wc wb wm wd r) (Qo:RZ w oa on oc ob om od o) {c1:Nat} (Y1:Blk w c1 [.slice xa xn xc,.slice xb xm xd] 40) (Qx:RZ w xa xn xc xb xm xd x) (hc1:c1≠g) (fr:Ft r 640000) (fo:Ft o 640000) (r0:0<=r) (fx:Ft x 6600) (x0:0<=x) (hp:0<=p/\p < 1000000) (hk:0<=k/\k < 1000000):Calls Tryz.prog 67 #[pg g,pg c1] w fun e w'=>∃ a_ k_ d_ a' k' d',e=.returned (.tuple #[])/\Blk w' g [.slice a_ k_ d_,.slice a' k' d',.slice oa on oc,.slice ob om od,.int .i64 (p + 1),.int .i64 (k + 1)] 79/\RZ w' a_ k_ d_ a' k' d' ((r) * (x))/\RZ w' oa on oc ob om od o/\Chg (· = g) w w'/\Lp w w':=by
 have hgl:=X.lt
 have BB:=Below.refl w.heap.size w
 refine gc_enter (n:=26) Tryz.func67 rfl ?_
 clear BB
 have BB:=Chg.refl (· = g) w
 have LP:=Lp.refl w
 refine gc_seq ?_
 replace X:=X.drew
 replace Y1:=Y1.drew
 replace Qr:=Qr.drew
 replace Qo:=Qo.drew
 replace Qx:=Qx.drew
 replace BB:=BB.trans (Chg.of (F:=fun _=>False) (Below.refl _ _).drew) (fun _ _ k=>k.elim)
 replace LP:=LP.trans (Lp.of (Below.refl _ _).drew)
 refine gc_draw (fun w'=>Blk w' g [.slice wa wn wc,.slice wb wm wd,.slice oa on oc,.slice ob om od,iI p,iI k] 79/\Blk w' c1 [.slice xa xn xc,.slice xb xm xd] 40) (fun i=>decide (9<=i)) ⟨X,Y1⟩ ?_
 refine zp 0 3 (pg g) (zp 1 4 (pg g) (zp 2 5 (pg g) (zp 3 6 (pg g) (zlr 4 7 [.slice wa wn wc,.slice wb wm wd] (fun _ h=>h.1) 0 (zlr 5 8 [.slice xa xn xc,.slice xb xm xd] (fun _ h=>h.2) 0 (zc 6 9 39 #[.agg #[.slice wa wn wc,.slice wb wm wd],.agg #[.slice xa xn xc,.slice xb xm xd]] (pMul (B:=2000000) (Qr.v (ft_up fr (by decide))) (Qx.v (ft_up fx (by decide))) (by omega)) ?_))))))
 rintro _ v2 ⟨aq1,kq1,dq1,bq1,lq1,eq1,rfl,Qq1,B⟩
 replace X:=X.keep B
 replace Y1:=Y1.keep B
 replace Qr:=Qr.keep B
 replace Qo:=Qo.keep B
 replace Qx:=Qx.keep B
 replace BB:=BB.trans (Chg.of (F:=fun _=>False) B) (fun _ _ k=>k.elim)
 replace LP:=LP.trans (Lp.of B)
 refine ⟨_,rfl,⟨X,Y1⟩,?_⟩
 refine zp 7 10 (pg g) (zp 8 11 (pg g) (gz_late (ys 9 X 0 (.agg #[.slice aq1 kq1 dq1,.slice bq1 lq1 eq1]) [.slice aq1 kq1 dq1,.slice bq1 lq1 eq1] [.slice aq1 kq1 dq1,.slice bq1 lq1 eq1,.slice oa on oc,.slice ob om od,iI p,iI k] ?_)))
 intro v3 Y C
 replace Y1:=Y1.chg C (show c1≠g by omega)
 replace Qr:=Qr.cg X C (by rfl)
 replace Qo:=Qo.cg X C (by rfl)
 replace Qx:=Qx.cg X C (by rfl)
 replace BB:=BB.trans C (fun _ _ h=>h)
 replace LP:=LP.trans (Lp.cg X C (by rfl))
 replace Qq1:=Qq1.cg X C (by rfl)
 have X:=Y
 refine gy_done (ge_then (gc_seq (gc_reg (t 12 (pg g) (t 13 (pg g) (t 14 (pq g 4) (tl 15 (iI p) X 4 (tq 16 (iI (IntKind.i64.wrap (p + 1))) (iI (p + 1)) (wi (by omega)) (t 17 (pg g) (t 18 (pq g 4) (ts X 4 (iI (p + 1)) [iI (p + 1)] [.slice aq1 kq1 dq1,.slice bq1 lq1 eq1,.slice oa on oc,.slice ob om od,iI (p + 1),iI k] ?_)))))))))))
 intro v4 Y C
 replace Y1:=Y1.chg C (show c1≠g by omega)
 replace Qr:=Qr.cg X C (by rfl)
 replace Qo:=Qo.cg X C (by rfl)
 replace Qx:=Qx.cg X C (by rfl)
 replace BB:=BB.trans C (fun _ _ h=>h)
 replace LP:=LP.trans (Lp.cg X C (by rfl))
 replace Qq1:=Qq1.cg X C (by rfl)
 have X:=Y
 refine gl_nil (ge_then (gc_fr [(0,pg g)] (gc_reg (t 19 (pg g) (t 20 (pg g) (t 21 (pq g 5) (tl 22 (iI k) X 5 (tq 23 (iI (IntKind.i64.wrap (k + 1))) (iI (k + 1)) (wi (by omega)) (t 24 (pg g) (t 25 (pq g 5) (ts X 5 (iI (k + 1)) [iI (k + 1)] [.slice aq1 kq1 dq1,.slice bq1 lq1 eq1,.slice oa on oc,.slice ob om od,iI (p + 1),iI (k + 1)] ?_)))))))))))
 intro v5 Y C
 replace Y1:=Y1.chg C (show c1≠g by omega)
 replace Qr:=Qr.cg X C (by rfl)
 replace Qo:=Qo.cg X C (by rfl)
 replace Qx:=Qx.cg X C (by rfl)
 replace BB:=BB.trans C (fun _ _ h=>h)
 replace LP:=LP.trans (Lp.cg X C (by rfl))
 replace Qq1:=Qq1.cg X C (by rfl)
 have X:=Y
 refine gl_nil (ge_end (.tuple #[]) (rs0 (by kernel_rfl)) ?_)
 exact ⟨aq1,kq1,dq1,bq1,lq1,eq1,rfl,X,Qq1.z,Qo,BB,LP⟩
theorem cSettle {w:World} {g:Nat} {wa wb oa ob:Option Addr} {wn wc wm wd on oc om od:Nat} {r o:Rat} {p k:Int} (X:Blk w g [.slice wa wn wc,.slice wb wm wd,.slice oa on oc,.slice ob om od,.int .i64 p,.int .i64 k] 79) (Qr:RZ w wa wn wc wb wm wd r) (Qo:RZ w oa on oc ob om od o) (hp:0<=p/\p < 1000000):Calls Tryz.prog 57 #[pg g] w fun e w'=>e=.returned (.tuple #[])/\Blk w' g [.slice wa wn wc,.slice wb wm wd,.slice oa on oc,.slice ob om od,.int .i64 (p + 1),.int .i64 k] 79/\RZ w' wa wn wc wb wm wd r/\RZ w' oa on oc ob om od o/\Chg (· = g) w w'/\Lp w w':=by
 have hgl:=X.lt
 have BB:=Below.refl w.heap.size w
 refine gc_enter (n:=9) Tryz.func57 rfl ?_
 clear BB
 have BB:=Chg.refl (· = g) w
 have LP:=Lp.refl w
 refine gc_reg (t 2 (pg g) (t 3 (pg g) (t 4 (pq g 4) (tl 5 (iI p) X 4 (tq 6 (iI (IntKind.i64.wrap (p + 1))) (iI (p + 1)) (wi (by omega)) (t 7 (pg g) (t 8 (pq g 4) (ts X 4 (iI (p + 1)) [iI (p + 1)] [.slice wa wn wc,.slice wb wm wd,.slice oa on oc,.slice ob om od,iI (p + 1),iI k] ?_))))))))
 intro v1 Y C
 replace Qr:=Qr.cg X C (by rfl)
 replace Qo:=Qo.cg X C (by rfl)
 replace BB:=BB.trans C (fun _ _ h=>h)
 replace LP:=LP.trans (Lp.cg X C (by rfl))
 have X:=Y
 refine gl_nil (ge_end (.tuple #[]) (rs0 (by kernel_rfl)) ?_)
 exact ⟨rfl,X,Qr,Qo,BB,LP⟩
end Lg
end
section
namespace Lg
open Go.RowKit Go.Lib Lim Pg Gl
set_option linter.unusedVariables false
theorem pd_eq {u x:Int}:((u:Int):Rat) + ((x:Int):Rat) / ((U36:Int):Rat)=paid u x:=by
 have h1:((U36:Int):Rat)≠0:=by decide +kernel
 show _=((u * U36 + x:Int):Rat) / ((U36:Int):Rat)
 rw [Rat.intCast_add,Rat.intCast_mul]
 grind
theorem rm_eq {p k:Int}:((pos p * (pos k + 3):Int):Rat) * qv 1 1000000000000000000=room p k:=by
 rw [qv_one]
 unfold qv
 rw [if_neg (by decide)]
 show _=((pos p * (pos k + 3):Int):Rat) / ((10 ^ 18:Int):Rat)
 rw [show (10:Int) ^ 18=1000000000000000000 by decide]
theorem fit_a {r:Rat} {u x p k:Int} (h:¬ sgr (paid u x) r<=(0:Int)):fitV r u x p k=false:=fit_n (by omega)
theorem fit_b {r:Rat} {u x p k:Int} (h:sgr (paid u x) r<=(0:Int)) (h':sgr r (paid u x + room p k)<=(0:Int)):fitV r u x p k=true:=fit_y (by omega) h'
theorem count_any {w:World} {p:Int} (hp:p<=9223372036854775807):Calls Tryz.prog 105 #[.int .i64 p] w fun e w'=>e=.returned (.int .u64 (pos p))/\Below w.heap.size w w':=by
 have hpp:=pos_rng hp
 have BB:=Below.refl w.heap.size w
 refine gc_enter (n:=6) Tryz.func105 rfl ?_
 refine gc_seq (gc_reg (t 2 (iU 0) (gl_nil (ge_then (gc_seq (gc_reg (t 3 (iI p) (tr 4 (iI (pos p)) (run_pos) (tr 5 (iU (pos p)) (run_iu (hpp)) (t 2 (iU (pos p)) (gl_nil (ge_then (gc_ret (ge_ret (iU (pos p)) (rs1 2 (by kernel_rfl) (by kernel_rfl)) ?_))))))))))))))
 exact ⟨rfl,BB⟩
theorem bound_any {w:World} {p k:Int} (hp:p<=9223372036854775807) (hk:k<=9223372036854775807):Calls Tryz.prog 71 #[.int .i64 p,.int .i64 k] w fun e w'=>∃ a k_ d_ a' k' d',e=.returned (.agg #[.slice a k_ d_,.slice a' k' d'])/\RZ w' a k_ d_ a' k' d' (room p k)/\Below w.heap.size w w':=by
 have hpp:=pos_rng hp
 have hkk:=pos_rng hk
 have eP:=pw_lt hpp.1 (show pos p < 2 ^ 64 by omega) (show pos k + 3 < 2 ^ 65 by omega)
 have fP:Ft ((pos p * (pos k + 3):Int):Rat) 130:=by
  rw [show ((pos p * (pos k + 3):Int):Rat)=((pos p * (pos k + 3):Int):Rat) / ((1:Int):Rat) by rw [show ((1:Int):Rat)=1 by decide +kernel]; grind]
  exact ft_of (by decide) (Int.mul_nonneg hpp.1 (by omega)) rfl (by omega) (by decide)
 have BB:=Below.refl w.heap.size w
 refine gc_enter (n:=18) Tryz.func71 rfl ?_
 refine gc_seq (gc_reg (ta 4 [zS,zS] 40 (pg) ?_))
 intro v1 g2 Xg2 hg2 B
 replace BB:=joinB BB B
 refine gl_nil (ge_then (gc_seq (gc_reg (t 6 (iI k) (tc 7 105 #[iI k] (count_any hk) ?_)))))
 rintro _ v3 ⟨rfl,B⟩
 refine ⟨_,rfl,?_⟩
 replace BB:=joinB BB B
 replace Xg2:=Xg2.keep B
 refine tc 8 38 #[iU (pos k)] (nOf (x:=(pos k)) (hkk).1 (hkk).2) ?_
 rintro _ v5 ⟨an4,kn4,dn4,rfl,Nn4,ln4,B⟩
 refine ⟨_,rfl,?_⟩
 replace BB:=joinB BB B
 replace Xg2:=Xg2.keep B
 refine tc 9 38 #[iU 3] (nOf (x:=3) (by decide) (by decide)) ?_
 rintro _ v7 ⟨an6,kn6,dn6,rfl,Nn6,ln6,B⟩
 refine ⟨_,rfl,?_⟩
 replace BB:=joinB BB B
 replace Xg2:=Xg2.keep B
 replace Nn4:=Nn4.keep B
 refine tc 10 87 #[.slice an4 kn4 dn4,.slice an6 kn6 dn6] (nAdd Nn4.a Nn6.a (by omega) (by omega)) ?_
 rintro _ v9 ⟨an8,kn8,dn8,rfl,Nn8,ln8,B⟩
 refine ⟨_,rfl,?_⟩
 replace BB:=joinB BB B
 replace Xg2:=Xg2.keep B
 replace Nn4:=Nn4.keep B
 replace Nn6:=Nn6.keep B
 refine t 5 (.slice an8 kn8 dn8) (gl_nil (ge_then (gc_seq (gc_reg (t 11 (iI p) (tc 12 105 #[iI p] (count_any hp) ?_))))))
 rintro _ v10 ⟨rfl,B⟩
 refine ⟨_,rfl,?_⟩
 replace BB:=joinB BB B
 replace Xg2:=Xg2.keep B
 replace Nn4:=Nn4.keep B
 replace Nn6:=Nn6.keep B
 replace Nn8:=Nn8.keep B
 refine tc 13 38 #[iU (pos p)] (nOf (x:=(pos p)) (hpp).1 (hpp).2) ?_
 rintro _ v12 ⟨an11,kn11,dn11,rfl,Nn11,ln11,B⟩
 refine ⟨_,rfl,?_⟩
 replace BB:=joinB BB B
 replace Xg2:=Xg2.keep B
 replace Nn4:=Nn4.keep B
 replace Nn6:=Nn6.keep B
 replace Nn8:=Nn8.keep B
 refine t 14 (.slice an8 kn8 dn8) (tc 15 83 #[.slice an11 kn11 dn11,.slice an8 kn8 dn8] (nMul Nn11.a Nn8.a (by omega) (by omega)) ?_)
 rintro _ v14 ⟨an13,kn13,dn13,rfl,Nn13,ln13,B⟩
 refine ⟨_,rfl,?_⟩
 replace BB:=joinB BB B
 replace Xg2:=Xg2.keep B
 replace Nn4:=Nn4.keep B
 replace Nn6:=Nn6.keep B
 replace Nn8:=Nn8.keep B
 replace Nn11:=Nn11.keep B
 refine tc 16 37 #[.slice an13 kn13 dn13] (pOfNat (B:=40) Nn13.a (by omega) (by omega) (by omega)) ?_
 rintro _ v16 ⟨aq15,kq15,dq15,bq15,lq15,eq15,rfl,Qq15,B⟩
 refine ⟨_,rfl,?_⟩
 replace BB:=joinB BB B
 replace Xg2:=Xg2.keep B
 replace Nn4:=Nn4.keep B
 replace Nn6:=Nn6.keep B
 replace Nn8:=Nn8.keep B
 replace Nn11:=Nn11.keep B
 replace Nn13:=Nn13.keep B
 refine tc 17 49 #[.agg #[.slice aq15 kq15 dq15,.slice bq15 lq15 eq15],iU 1000000000000000000] (per_any (n:=1000000000000000000) Qq15 (ft_up fP (by decide)) ⟨by decide,by decide⟩) ?_
 rintro _ v18 ⟨aq17,kq17,dq17,bq17,lq17,eq17,rfl,Qq17,B⟩
 refine ⟨_,rfl,?_⟩
 replace BB:=joinB BB B
 replace Xg2:=Xg2.keep B
 replace Nn4:=Nn4.keep B
 replace Nn6:=Nn6.keep B
 replace Nn8:=Nn8.keep B
 replace Nn11:=Nn11.keep B
 replace Nn13:=Nn13.keep B
 replace Qq15:=Qq15.keep B
 replace Qq17:=Qq17.is rm_eq
 refine ts Xg2 0 (.agg #[.slice aq17 kq17 dq17,.slice bq17 lq17 eq17]) [.slice aq17 kq17 dq17,.slice bq17 lq17 eq17] [.slice aq17 kq17 dq17,.slice bq17 lq17 eq17] ?_
 intro v19 Y C
 replace BB:=belowC BB C (by omega)
 replace Nn4:=NatO.cg Nn4 Xg2 C (by rfl)
 replace Nn6:=NatO.cg Nn6 Xg2 C (by rfl)
 replace Nn8:=NatO.cg Nn8 Xg2 C (by rfl)
 replace Nn11:=NatO.cg Nn11 Xg2 C (by rfl)
 replace Nn13:=NatO.cg Nn13 Xg2 C (by rfl)
 replace Qq15:=Qq15.cg Xg2 C (by rfl)
 replace Qq17:=Qq17.cg Xg2 C (by rfl)
 have Xg2:=Y
 refine gl_nil (ge_then (gc_fr [(4,pg g2)] (gc_ret (ge_ret (.agg #[.slice aq17 kq17 dq17,.slice bq17 lq17 eq17]) (rsc 4 (T:=40) (by kernel_rfl) (by kernel_rfl) (lr Xg2 0)) ?_))))
 exact ⟨aq17,kq17,dq17,bq17,lq17,eq17,rfl,Qq17,BB⟩
theorem pFits {w:World} {a0 b0 aq:Option Addr} {n0 c0 m0 d0 nq cq:Nat} {r:Rat} {u x p k:Int} (E:VQ w a0 n0 c0 b0 m0 d0 r 320) (hu:0<=u/\u < 18446744073709551616) (X:NatA w aq nq cq x) (hq:nq<=60) (hp:p<=9223372036854775807) (hk:k<=9223372036854775807) :
  Calls Tryz.prog 31 #[.agg #[.slice a0 n0 c0,.slice b0 m0 d0],.int .u64 u,.agg #[.slice aq nq cq],.int .i64 p,.int .i64 k] w fun e w'=>e=.returned (.bool (fitV r u x p k))/\Below w.heap.size w w':=by
 have fp:=ft_paid hu.1 hu.2 X.nonneg (nat_lt X hq)
 have fr:=ft_room hp hk
 have hp0:=paid_nn hu.1 X.nonneg
 have hr0:=room_nn hp hk
 have fx:Ft (((x:Int):Rat) / ((U36:Int):Rat)) (64 * 60):=ft_of (by decide) X.nonneg rfl (nat_lt X hq) (by decide +kernel)
 have BB:=Below.refl w.heap.size w
 refine gc_enter (n:=32) Tryz.func31 rfl ?_
 refine gc_seq (gc_reg (ta 5 [.slice a0 n0 c0,.slice b0 m0 d0] 40 (pg) ?_))
 intro v1 g2 Xg2 hg2 B
 replace E:=E.keep B
 replace X:=X.keep B
 replace BB:=joinB BB B
 have lXg2:=Xg2.lt
 refine ta 7 [.slice aq nq cq] 35 (pg) ?_
 intro v3 g4 Xg4 hg4 B
 replace E:=E.keep B
 replace X:=X.keep B
 replace BB:=joinB BB B
 replace Xg2:=Xg2.keep B
 refine t 10 (bF) (gl_nil (ge_then (gc_seq ?_)))
 replace E:=E.drew
 replace X:=X.keep (Below.refl _ _).drew
 replace BB:=BB.drew
 replace Xg2:=Xg2.drew
 replace Xg4:=Xg4.drew
 refine gc_draw (fun w'=>Blk w' g4 [.slice aq nq cq] 35) (fun _=>false) Xg4 ?_
 refine z 0 12 (iU u) (zlr 3 15 [.slice aq nq cq] (fun _ h=>h) 0 (gz_ready [1,6] ?_))
 refine ga_call 1 (some 13) 38 #[iU u] (nOf (x:=u) (hu).1 (hu).2) ?_ ?_
 ·rintro _ v6 ⟨an5,kn5,dn5,rfl,Nn5,ln5,B⟩
  replace E:=E.keep B
  replace X:=X.keep B
  replace BB:=joinB BB B
  replace Xg2:=Xg2.keep B
  replace Xg4:=Xg4.keep B
  refine ⟨_,rfl,Xg4,?_⟩
  refine gz_ready [2,6] ?_
  refine ga_call 2 (some 14) 37 #[.slice an5 kn5 dn5] (pOfNat (B:=320) Nn5.a (by omega) (by omega) (by omega)) ?_ ?_
  ·rintro _ v8 ⟨aq7,kq7,dq7,bq7,lq7,eq7,rfl,Qq7,B⟩
   replace E:=E.keep B
   replace X:=X.keep B
   replace BB:=joinB BB B
   replace Xg2:=Xg2.keep B
   replace Xg4:=Xg4.keep B
   replace Nn5:=Nn5.keep B
   refine ⟨_,rfl,Xg4,?_⟩
   refine gz_ready [4,6] ?_
   refine ga_call 4 (some 16) 36 #[.agg #[.slice aq nq cq]] (pOfDec (B:=320) X (by omega) (by omega) (by omega)) ?_ ?_
   ·rintro _ v10 ⟨aq9,kq9,dq9,bq9,lq9,eq9,rfl,Qq9,B⟩
    replace E:=E.keep B
    replace X:=X.keep B
    replace BB:=joinB BB B
    replace Xg2:=Xg2.keep B
    replace Xg4:=Xg4.keep B
    replace Nn5:=Nn5.keep B
    replace Qq7:=Qq7.keep B
    refine ⟨_,rfl,Xg4,?_⟩
    refine gz_ready [5,6] ?_
    refine ga_call 5 (some 17) 52 #[.agg #[.slice aq7 kq7 dq7,.slice bq7 lq7 eq7],.agg #[.slice aq9 kq9 dq9,.slice bq9 lq9 eq9]] (pAdd (B:=320) (Qq7.v (ft_up (ft_n hu) (by decide))) (Qq9.v (ft_up fx (by decide))) (by omega)) ?_ ?_
    ·rintro _ v12 ⟨aq11,kq11,dq11,bq11,lq11,eq11,rfl,Qq11,B⟩
     replace E:=E.keep B
     replace X:=X.keep B
     replace BB:=joinB BB B
     replace Xg2:=Xg2.keep B
     replace Xg4:=Xg4.keep B
     replace Nn5:=Nn5.keep B
     replace Qq7:=Qq7.keep B
     replace Qq9:=Qq9.keep B
     replace Qq11:=Qq11.is pd_eq
     refine ⟨_,rfl,Xg4,?_⟩
     have lXg2:=Xg2.lt
     have lXg4:=Xg4.lt
     refine za 6 11 [zS,zS] 40 (pg) ?_
     intro v13 g14 Xg14 hg14 B
     replace E:=E.keep B
     replace X:=X.keep B
     replace BB:=joinB BB B
     replace Xg2:=Xg2.keep B
     replace Xg4:=Xg4.keep B
     replace Nn5:=Nn5.keep B
     replace Qq7:=Qq7.keep B
     replace Qq9:=Qq9.keep B
     replace Qq11:=Qq11.keep B
     refine ⟨Xg4,?_⟩
     refine zs 7 Xg14 0 (.agg #[.slice aq11 kq11 dq11,.slice bq11 lq11 eq11]) [.slice aq11 kq11 dq11,.slice bq11 lq11 eq11] [.slice aq11 kq11 dq11,.slice bq11 lq11 eq11] ?_
     intro v15 Y C
     replace E:=E.cg Xg14 C (by rfl)
     replace X:=NatA.cg X Xg14 C (by rfl)
     replace BB:=belowC BB C (by omega)
     replace Xg2:=Xg2.chg C (show g2≠g14 by omega)
     replace Xg4:=Xg4.chg C (show g4≠g14 by omega)
     replace Nn5:=NatO.cg Nn5 Xg14 C (by rfl)
     replace Qq7:=Qq7.cg Xg14 C (by rfl)
     replace Qq9:=Qq9.cg Xg14 C (by rfl)
     replace Qq11:=Qq11.cg Xg14 C (by rfl)
     have Xg14:=Y
     refine ⟨Xg4,?_⟩
     refine gz_done (ge_then (gc_fr [(3,iI p),(4,iI k),(5,pg g2),(10,bF),(11,pg g14)] (gc_seq ?_)))
     replace E:=E.drew
     replace X:=X.keep (Below.refl _ _).drew
     replace BB:=BB.drew
     replace Xg2:=Xg2.drew
     replace Xg4:=Xg4.drew
     replace Nn5:=Nn5.keep (Below.refl _ _).drew
     replace Qq7:=Qq7.drew
     replace Qq9:=Qq9.drew
     replace Qq11:=Qq11.drew
     replace Xg14:=Xg14.drew
     refine gc_draw (fun w'=>Blk w' g14 [.slice aq11 kq11 dq11,.slice bq11 lq11 eq11] 40/\Blk w' g2 [.slice a0 n0 c0,.slice b0 m0 d0] 40) (fun _=>false) ⟨Xg14,Xg2⟩ ?_
     refine zlr 0 18 [.slice aq11 kq11 dq11,.slice bq11 lq11 eq11] (fun _ h=>h.1) 0 (zlr 1 19 [.slice a0 n0 c0,.slice b0 m0 d0] (fun _ h=>h.2) 0 (zc 2 20 47 #[.agg #[.slice aq11 kq11 dq11,.slice bq11 lq11 eq11],.agg #[.slice a0 n0 c0,.slice b0 m0 d0]] (pCmp (B:=320) (Qq11.v (ft_up fp (by decide))) E (by omega)) ?_))
     rintro _ v16 ⟨rfl,B⟩
     replace E:=E.keep B
     replace X:=X.keep B
     replace BB:=joinB BB B
     replace Xg2:=Xg2.keep B
     replace Xg4:=Xg4.keep B
     replace Nn5:=Nn5.keep B
     replace Qq7:=Qq7.keep B
     replace Qq9:=Qq9.keep B
     replace Qq11:=Qq11.keep B
     replace Xg14:=Xg14.keep B
     refine ⟨_,rfl,⟨Xg14,Xg2⟩,?_⟩
     by_cases c17:(sgr (paid u x) (r):Int)<=0
     ·refine zq 3 21 (.bool (decide ((sgr (paid u x) (r):Int)<=0))) (bT) (congrArg Value.bool (decide_eq_true c17)) (z 4 22 (bT) (zlr 5 23 [.slice a0 n0 c0,.slice b0 m0 d0] (fun _ h=>h.2) 0 (zlr 6 24 [.slice aq11 kq11 dq11,.slice bq11 lq11 eq11] (fun _ h=>h.1) 0 (z 7 25 (iI p) (z 8 26 (iI k) (zc 9 27 71 #[iI p,iI k] (bound_any hp hk) ?_))))))
      rintro _ v19 ⟨aq18,kq18,dq18,bq18,lq18,eq18,rfl,Qq18,B⟩
      replace E:=E.keep B
      replace X:=X.keep B
      replace BB:=joinB BB B
      replace Xg2:=Xg2.keep B
      replace Xg4:=Xg4.keep B
      replace Nn5:=Nn5.keep B
      replace Qq7:=Qq7.keep B
      replace Qq9:=Qq9.keep B
      replace Qq11:=Qq11.keep B
      replace Xg14:=Xg14.keep B
      refine ⟨_,rfl,⟨Xg14,Xg2⟩,?_⟩
      refine zc 10 28 52 #[.agg #[.slice aq11 kq11 dq11,.slice bq11 lq11 eq11],.agg #[.slice aq18 kq18 dq18,.slice bq18 lq18 eq18]] (pAdd (B:=320) (Qq11.v (ft_up fp (by decide))) (Qq18.v (ft_up fr (by decide))) (by omega)) ?_
      rintro _ v21 ⟨aq20,kq20,dq20,bq20,lq20,eq20,rfl,Qq20,B⟩
      replace E:=E.keep B
      replace X:=X.keep B
      replace BB:=joinB BB B
      replace Xg2:=Xg2.keep B
      replace Xg4:=Xg4.keep B
      replace Nn5:=Nn5.keep B
      replace Qq7:=Qq7.keep B
      replace Qq9:=Qq9.keep B
      replace Qq11:=Qq11.keep B
      replace Xg14:=Xg14.keep B
      replace Qq18:=Qq18.keep B
      refine ⟨_,rfl,⟨Xg14,Xg2⟩,?_⟩
      refine zc 11 29 47 #[.agg #[.slice a0 n0 c0,.slice b0 m0 d0],.agg #[.slice aq20 kq20 dq20,.slice bq20 lq20 eq20]] (pCmp (B:=320) E (Qq20.v (ft_up (ft_add fp fr hp0 hr0) (by decide))) (by omega)) ?_
      rintro _ v22 ⟨rfl,B⟩
      replace E:=E.keep B
      replace X:=X.keep B
      replace BB:=joinB BB B
      replace Xg2:=Xg2.keep B
      replace Xg4:=Xg4.keep B
      replace Nn5:=Nn5.keep B
      replace Qq7:=Qq7.keep B
      replace Qq9:=Qq9.keep B
      replace Qq11:=Qq11.keep B
      replace Xg14:=Xg14.keep B
      replace Qq18:=Qq18.keep B
      replace Qq20:=Qq20.keep B
      refine ⟨_,rfl,⟨Xg14,Xg2⟩,?_⟩
      by_cases c23:(sgr (r) ((paid u x) + (room p k)):Int)<=0
      ·refine zq 12 30 (.bool (decide ((sgr (r) ((paid u x) + (room p k)):Int)<=0))) (bT) (congrArg Value.bool (decide_eq_true c23)) (z 13 31 (bT) (z 14 10 (bT) (gz_done (ge_then (gc_fr [(10,bT)] (gc_ret (ge_ret (bT) (rs1 10 (by kernel_rfl) (by kernel_rfl)) ?_)))))))
       exact ⟨congrArg (fun b=>Ending.returned (.bool b)) (fit_b c17 c23).symm,BB⟩
      ·refine zq 12 30 (.bool (decide ((sgr (r) ((paid u x) + (room p k)):Int)<=0))) (bF) (congrArg Value.bool (decide_eq_false c23)) (z 13 31 (bF) (z 14 10 (bF) (gz_done (ge_then (gc_fr [(10,bF)] (gc_ret (ge_ret (bF) (rs1 10 (by kernel_rfl) (by kernel_rfl)) ?_)))))))
       exact ⟨congrArg (fun b=>Ending.returned (.bool b)) (fit_z c23).symm,BB⟩
     ·refine zq 3 21 (.bool (decide ((sgr (paid u x) (r):Int)<=0))) (bF) (congrArg Value.bool (decide_eq_false c17)) (z 4 22 (bF) (zn 5 23 (zn 6 24 (zn 7 25 (zn 8 26 (zn 9 27 (zn 10 28 (zn 11 29 (zn 12 30 (z 13 31 (bF) (z 14 10 (bF) (gz_done (ge_then (gc_fr [(10,bF)] (gc_ret (ge_ret (bF) (rs1 10 (by kernel_rfl) (by kernel_rfl)) ?_))))))))))))))))
      exact ⟨congrArg (fun b=>Ending.returned (.bool b)) (fit_a c17).symm,BB⟩
    have lXg2:=Xg2.lt
    have lXg4:=Xg4.lt
    refine zaa 6 11 [zS,zS] 40 (pg) ?_ ?_
    ·intro v24 g25 Xg25 hg25 B
     replace E:=E.keep B
     replace X:=X.keep B
     replace BB:=joinB BB B
     replace Xg2:=Xg2.keep B
     replace Xg4:=Xg4.keep B
     replace Nn5:=Nn5.keep B
     replace Qq7:=Qq7.keep B
     replace Qq9:=Qq9.keep B
     refine ⟨Xg4,?_⟩
     refine zc 5 17 52 #[.agg #[.slice aq7 kq7 dq7,.slice bq7 lq7 eq7],.agg #[.slice aq9 kq9 dq9,.slice bq9 lq9 eq9]] (pAdd (B:=320) (Qq7.v (ft_up (ft_n hu) (by decide))) (Qq9.v (ft_up fx (by decide))) (by omega)) ?_
     rintro _ v27 ⟨aq26,kq26,dq26,bq26,lq26,eq26,rfl,Qq26,B⟩
     replace E:=E.keep B
     replace X:=X.keep B
     replace BB:=joinB BB B
     replace Xg2:=Xg2.keep B
     replace Xg4:=Xg4.keep B
     replace Nn5:=Nn5.keep B
     replace Qq7:=Qq7.keep B
     replace Qq9:=Qq9.keep B
     replace Xg25:=Xg25.keep B
     replace Qq26:=Qq26.is pd_eq
     refine ⟨_,rfl,Xg4,?_⟩
     refine zs 7 Xg25 0 (.agg #[.slice aq26 kq26 dq26,.slice bq26 lq26 eq26]) [.slice aq26 kq26 dq26,.slice bq26 lq26 eq26] [.slice aq26 kq26 dq26,.slice bq26 lq26 eq26] ?_
     intro v28 Y C
     replace E:=E.cg Xg25 C (by rfl)
     replace X:=NatA.cg X Xg25 C (by rfl)
     replace BB:=belowC BB C (by omega)
     replace Xg2:=Xg2.chg C (show g2≠g25 by omega)
     replace Xg4:=Xg4.chg C (show g4≠g25 by omega)
     replace Nn5:=NatO.cg Nn5 Xg25 C (by rfl)
     replace Qq7:=Qq7.cg Xg25 C (by rfl)
     replace Qq9:=Qq9.cg Xg25 C (by rfl)
     replace Qq26:=Qq26.cg Xg25 C (by rfl)
     have Xg25:=Y
     refine ⟨Xg4,?_⟩
     refine gz_done (ge_then (gc_fr [(3,iI p),(4,iI k),(5,pg g2),(10,bF),(11,pg g25)] (gc_seq ?_)))
     replace E:=E.drew
     replace X:=X.keep (Below.refl _ _).drew
     replace BB:=BB.drew
     replace Xg2:=Xg2.drew
     replace Xg4:=Xg4.drew
     replace Nn5:=Nn5.keep (Below.refl _ _).drew
     replace Qq7:=Qq7.drew
     replace Qq9:=Qq9.drew
     replace Xg25:=Xg25.drew
     replace Qq26:=Qq26.drew
     refine gc_draw (fun w'=>Blk w' g25 [.slice aq26 kq26 dq26,.slice bq26 lq26 eq26] 40/\Blk w' g2 [.slice a0 n0 c0,.slice b0 m0 d0] 40) (fun _=>false) ⟨Xg25,Xg2⟩ ?_
     refine zlr 0 18 [.slice aq26 kq26 dq26,.slice bq26 lq26 eq26] (fun _ h=>h.1) 0 (zlr 1 19 [.slice a0 n0 c0,.slice b0 m0 d0] (fun _ h=>h.2) 0 (zc 2 20 47 #[.agg #[.slice aq26 kq26 dq26,.slice bq26 lq26 eq26],.agg #[.slice a0 n0 c0,.slice b0 m0 d0]] (pCmp (B:=320) (Qq26.v (ft_up fp (by decide))) E (by omega)) ?_))
     rintro _ v29 ⟨rfl,B⟩
     replace E:=E.keep B
     replace X:=X.keep B
     replace BB:=joinB BB B
     replace Xg2:=Xg2.keep B
     replace Xg4:=Xg4.keep B
     replace Nn5:=Nn5.keep B
     replace Qq7:=Qq7.keep B
     replace Qq9:=Qq9.keep B
     replace Xg25:=Xg25.keep B
     replace Qq26:=Qq26.keep B
     refine ⟨_,rfl,⟨Xg25,Xg2⟩,?_⟩
     by_cases c30:(sgr (paid u x) (r):Int)<=0
     ·refine zq 3 21 (.bool (decide ((sgr (paid u x) (r):Int)<=0))) (bT) (congrArg Value.bool (decide_eq_true c30)) (z 4 22 (bT) (zlr 5 23 [.slice a0 n0 c0,.slice b0 m0 d0] (fun _ h=>h.2) 0 (zlr 6 24 [.slice aq26 kq26 dq26,.slice bq26 lq26 eq26] (fun _ h=>h.1) 0 (z 7 25 (iI p) (z 8 26 (iI k) (zc 9 27 71 #[iI p,iI k] (bound_any hp hk) ?_))))))
      rintro _ v32 ⟨aq31,kq31,dq31,bq31,lq31,eq31,rfl,Qq31,B⟩
      replace E:=E.keep B
      replace X:=X.keep B
      replace BB:=joinB BB B
      replace Xg2:=Xg2.keep B
      replace Xg4:=Xg4.keep B
      replace Nn5:=Nn5.keep B
      replace Qq7:=Qq7.keep B
      replace Qq9:=Qq9.keep B
      replace Xg25:=Xg25.keep B
      replace Qq26:=Qq26.keep B
      refine ⟨_,rfl,⟨Xg25,Xg2⟩,?_⟩
      refine zc 10 28 52 #[.agg #[.slice aq26 kq26 dq26,.slice bq26 lq26 eq26],.agg #[.slice aq31 kq31 dq31,.slice bq31 lq31 eq31]] (pAdd (B:=320) (Qq26.v (ft_up fp (by decide))) (Qq31.v (ft_up fr (by decide))) (by omega)) ?_
      rintro _ v34 ⟨aq33,kq33,dq33,bq33,lq33,eq33,rfl,Qq33,B⟩
      replace E:=E.keep B
      replace X:=X.keep B
      replace BB:=joinB BB B
      replace Xg2:=Xg2.keep B
      replace Xg4:=Xg4.keep B
      replace Nn5:=Nn5.keep B
      replace Qq7:=Qq7.keep B
      replace Qq9:=Qq9.keep B
      replace Xg25:=Xg25.keep B
      replace Qq26:=Qq26.keep B
      replace Qq31:=Qq31.keep B
      refine ⟨_,rfl,⟨Xg25,Xg2⟩,?_⟩
      refine zc 11 29 47 #[.agg #[.slice a0 n0 c0,.slice b0 m0 d0],.agg #[.slice aq33 kq33 dq33,.slice bq33 lq33 eq33]] (pCmp (B:=320) E (Qq33.v (ft_up (ft_add fp fr hp0 hr0) (by decide))) (by omega)) ?_
      rintro _ v35 ⟨rfl,B⟩
      replace E:=E.keep B
      replace X:=X.keep B
      replace BB:=joinB BB B
      replace Xg2:=Xg2.keep B
      replace Xg4:=Xg4.keep B
      replace Nn5:=Nn5.keep B
      replace Qq7:=Qq7.keep B
      replace Qq9:=Qq9.keep B
      replace Xg25:=Xg25.keep B
      replace Qq26:=Qq26.keep B
      replace Qq31:=Qq31.keep B
      replace Qq33:=Qq33.keep B
      refine ⟨_,rfl,⟨Xg25,Xg2⟩,?_⟩
      by_cases c36:(sgr (r) ((paid u x) + (room p k)):Int)<=0
      ·refine zq 12 30 (.bool (decide ((sgr (r) ((paid u x) + (room p k)):Int)<=0))) (bT) (congrArg Value.bool (decide_eq_true c36)) (z 13 31 (bT) (z 14 10 (bT) (gz_done (ge_then (gc_fr [(10,bT)] (gc_ret (ge_ret (bT) (rs1 10 (by kernel_rfl) (by kernel_rfl)) ?_)))))))
       exact ⟨congrArg (fun b=>Ending.returned (.bool b)) (fit_b c30 c36).symm,BB⟩
      ·refine zq 12 30 (.bool (decide ((sgr (r) ((paid u x) + (room p k)):Int)<=0))) (bF) (congrArg Value.bool (decide_eq_false c36)) (z 13 31 (bF) (z 14 10 (bF) (gz_done (ge_then (gc_fr [(10,bF)] (gc_ret (ge_ret (bF) (rs1 10 (by kernel_rfl) (by kernel_rfl)) ?_)))))))
       exact ⟨congrArg (fun b=>Ending.returned (.bool b)) (fit_z c36).symm,BB⟩
     ·refine zq 3 21 (.bool (decide ((sgr (paid u x) (r):Int)<=0))) (bF) (congrArg Value.bool (decide_eq_false c30)) (z 4 22 (bF) (zn 5 23 (zn 6 24 (zn 7 25 (zn 8 26 (zn 9 27 (zn 10 28 (zn 11 29 (zn 12 30 (z 13 31 (bF) (z 14 10 (bF) (gz_done (ge_then (gc_fr [(10,bF)] (gc_ret (ge_ret (bF) (rs1 10 (by kernel_rfl) (by kernel_rfl)) ?_))))))))))))))))
      exact ⟨congrArg (fun b=>Ending.returned (.bool b)) (fit_a c30).symm,BB⟩
    exact ga_nil
   have lXg2:=Xg2.lt
   have lXg4:=Xg4.lt
   refine zaa 6 11 [zS,zS] 40 (pg) ?_ ?_
   ·intro v37 g38 Xg38 hg38 B
    replace E:=E.keep B
    replace X:=X.keep B
    replace BB:=joinB BB B
    replace Xg2:=Xg2.keep B
    replace Xg4:=Xg4.keep B
    replace Nn5:=Nn5.keep B
    replace Qq7:=Qq7.keep B
    refine ⟨Xg4,?_⟩
    refine zc 4 16 36 #[.agg #[.slice aq nq cq]] (pOfDec (B:=320) X (by omega) (by omega) (by omega)) ?_
    rintro _ v40 ⟨aq39,kq39,dq39,bq39,lq39,eq39,rfl,Qq39,B⟩
    replace E:=E.keep B
    replace X:=X.keep B
    replace BB:=joinB BB B
    replace Xg2:=Xg2.keep B
    replace Xg4:=Xg4.keep B
    replace Nn5:=Nn5.keep B
    replace Qq7:=Qq7.keep B
    replace Xg38:=Xg38.keep B
    refine ⟨_,rfl,Xg4,?_⟩
    refine zc 5 17 52 #[.agg #[.slice aq7 kq7 dq7,.slice bq7 lq7 eq7],.agg #[.slice aq39 kq39 dq39,.slice bq39 lq39 eq39]] (pAdd (B:=320) (Qq7.v (ft_up (ft_n hu) (by decide))) (Qq39.v (ft_up fx (by decide))) (by omega)) ?_
    rintro _ v42 ⟨aq41,kq41,dq41,bq41,lq41,eq41,rfl,Qq41,B⟩
    replace E:=E.keep B
    replace X:=X.keep B
    replace BB:=joinB BB B
    replace Xg2:=Xg2.keep B
    replace Xg4:=Xg4.keep B
    replace Nn5:=Nn5.keep B
    replace Qq7:=Qq7.keep B
    replace Xg38:=Xg38.keep B
    replace Qq39:=Qq39.keep B
    replace Qq41:=Qq41.is pd_eq
    refine ⟨_,rfl,Xg4,?_⟩
    refine zs 7 Xg38 0 (.agg #[.slice aq41 kq41 dq41,.slice bq41 lq41 eq41]) [.slice aq41 kq41 dq41,.slice bq41 lq41 eq41] [.slice aq41 kq41 dq41,.slice bq41 lq41 eq41] ?_
    intro v43 Y C
    replace E:=E.cg Xg38 C (by rfl)
    replace X:=NatA.cg X Xg38 C (by rfl)
    replace BB:=belowC BB C (by omega)
    replace Xg2:=Xg2.chg C (show g2≠g38 by omega)
    replace Xg4:=Xg4.chg C (show g4≠g38 by omega)
    replace Nn5:=NatO.cg Nn5 Xg38 C (by rfl)
    replace Qq7:=Qq7.cg Xg38 C (by rfl)
    replace Qq39:=Qq39.cg Xg38 C (by rfl)
    replace Qq41:=Qq41.cg Xg38 C (by rfl)
    have Xg38:=Y
    refine ⟨Xg4,?_⟩
    refine gz_done (ge_then (gc_fr [(3,iI p),(4,iI k),(5,pg g2),(10,bF),(11,pg g38)] (gc_seq ?_)))
    replace E:=E.drew
    replace X:=X.keep (Below.refl _ _).drew
    replace BB:=BB.drew
    replace Xg2:=Xg2.drew
    replace Xg4:=Xg4.drew
    replace Nn5:=Nn5.keep (Below.refl _ _).drew
    replace Qq7:=Qq7.drew
    replace Xg38:=Xg38.drew
    replace Qq39:=Qq39.drew
    replace Qq41:=Qq41.drew
    refine gc_draw (fun w'=>Blk w' g38 [.slice aq41 kq41 dq41,.slice bq41 lq41 eq41] 40/\Blk w' g2 [.slice a0 n0 c0,.slice b0 m0 d0] 40) (fun _=>false) ⟨Xg38,Xg2⟩ ?_
    refine zlr 0 18 [.slice aq41 kq41 dq41,.slice bq41 lq41 eq41] (fun _ h=>h.1) 0 (zlr 1 19 [.slice a0 n0 c0,.slice b0 m0 d0] (fun _ h=>h.2) 0 (zc 2 20 47 #[.agg #[.slice aq41 kq41 dq41,.slice bq41 lq41 eq41],.agg #[.slice a0 n0 c0,.slice b0 m0 d0]] (pCmp (B:=320) (Qq41.v (ft_up fp (by decide))) E (by omega)) ?_))
    rintro _ v44 ⟨rfl,B⟩
    replace E:=E.keep B
    replace X:=X.keep B
    replace BB:=joinB BB B
    replace Xg2:=Xg2.keep B
    replace Xg4:=Xg4.keep B
    replace Nn5:=Nn5.keep B
    replace Qq7:=Qq7.keep B
    replace Xg38:=Xg38.keep B
    replace Qq39:=Qq39.keep B
    replace Qq41:=Qq41.keep B
    refine ⟨_,rfl,⟨Xg38,Xg2⟩,?_⟩
    by_cases c45:(sgr (paid u x) (r):Int)<=0
    ·refine zq 3 21 (.bool (decide ((sgr (paid u x) (r):Int)<=0))) (bT) (congrArg Value.bool (decide_eq_true c45)) (z 4 22 (bT) (zlr 5 23 [.slice a0 n0 c0,.slice b0 m0 d0] (fun _ h=>h.2) 0 (zlr 6 24 [.slice aq41 kq41 dq41,.slice bq41 lq41 eq41] (fun _ h=>h.1) 0 (z 7 25 (iI p) (z 8 26 (iI k) (zc 9 27 71 #[iI p,iI k] (bound_any hp hk) ?_))))))
     rintro _ v47 ⟨aq46,kq46,dq46,bq46,lq46,eq46,rfl,Qq46,B⟩
     replace E:=E.keep B
     replace X:=X.keep B
     replace BB:=joinB BB B
     replace Xg2:=Xg2.keep B
     replace Xg4:=Xg4.keep B
     replace Nn5:=Nn5.keep B
     replace Qq7:=Qq7.keep B
     replace Xg38:=Xg38.keep B
     replace Qq39:=Qq39.keep B
     replace Qq41:=Qq41.keep B
     refine ⟨_,rfl,⟨Xg38,Xg2⟩,?_⟩
     refine zc 10 28 52 #[.agg #[.slice aq41 kq41 dq41,.slice bq41 lq41 eq41],.agg #[.slice aq46 kq46 dq46,.slice bq46 lq46 eq46]] (pAdd (B:=320) (Qq41.v (ft_up fp (by decide))) (Qq46.v (ft_up fr (by decide))) (by omega)) ?_
     rintro _ v49 ⟨aq48,kq48,dq48,bq48,lq48,eq48,rfl,Qq48,B⟩
     replace E:=E.keep B
     replace X:=X.keep B
     replace BB:=joinB BB B
     replace Xg2:=Xg2.keep B
     replace Xg4:=Xg4.keep B
     replace Nn5:=Nn5.keep B
     replace Qq7:=Qq7.keep B
     replace Xg38:=Xg38.keep B
     replace Qq39:=Qq39.keep B
     replace Qq41:=Qq41.keep B
     replace Qq46:=Qq46.keep B
     refine ⟨_,rfl,⟨Xg38,Xg2⟩,?_⟩
     refine zc 11 29 47 #[.agg #[.slice a0 n0 c0,.slice b0 m0 d0],.agg #[.slice aq48 kq48 dq48,.slice bq48 lq48 eq48]] (pCmp (B:=320) E (Qq48.v (ft_up (ft_add fp fr hp0 hr0) (by decide))) (by omega)) ?_
     rintro _ v50 ⟨rfl,B⟩
     replace E:=E.keep B
     replace X:=X.keep B
     replace BB:=joinB BB B
     replace Xg2:=Xg2.keep B
     replace Xg4:=Xg4.keep B
     replace Nn5:=Nn5.keep B
     replace Qq7:=Qq7.keep B
     replace Xg38:=Xg38.keep B
     replace Qq39:=Qq39.keep B
     replace Qq41:=Qq41.keep B
     replace Qq46:=Qq46.keep B
     replace Qq48:=Qq48.keep B
     refine ⟨_,rfl,⟨Xg38,Xg2⟩,?_⟩
     by_cases c51:(sgr (r) ((paid u x) + (room p k)):Int)<=0
     ·refine zq 12 30 (.bool (decide ((sgr (r) ((paid u x) + (room p k)):Int)<=0))) (bT) (congrArg Value.bool (decide_eq_true c51)) (z 13 31 (bT) (z 14 10 (bT) (gz_done (ge_then (gc_fr [(10,bT)] (gc_ret (ge_ret (bT) (rs1 10 (by kernel_rfl) (by kernel_rfl)) ?_)))))))
      exact ⟨congrArg (fun b=>Ending.returned (.bool b)) (fit_b c45 c51).symm,BB⟩
     ·refine zq 12 30 (.bool (decide ((sgr (r) ((paid u x) + (room p k)):Int)<=0))) (bF) (congrArg Value.bool (decide_eq_false c51)) (z 13 31 (bF) (z 14 10 (bF) (gz_done (ge_then (gc_fr [(10,bF)] (gc_ret (ge_ret (bF) (rs1 10 (by kernel_rfl) (by kernel_rfl)) ?_)))))))
      exact ⟨congrArg (fun b=>Ending.returned (.bool b)) (fit_z c51).symm,BB⟩
    ·refine zq 3 21 (.bool (decide ((sgr (paid u x) (r):Int)<=0))) (bF) (congrArg Value.bool (decide_eq_false c45)) (z 4 22 (bF) (zn 5 23 (zn 6 24 (zn 7 25 (zn 8 26 (zn 9 27 (zn 10 28 (zn 11 29 (zn 12 30 (z 13 31 (bF) (z 14 10 (bF) (gz_done (ge_then (gc_fr [(10,bF)] (gc_ret (ge_ret (bF) (rs1 10 (by kernel_rfl) (by kernel_rfl)) ?_))))))))))))))))
     exact ⟨congrArg (fun b=>Ending.returned (.bool b)) (fit_a c45).symm,BB⟩
   exact ga_nil
  have lXg2:=Xg2.lt
  have lXg4:=Xg4.lt
  refine zaa 6 11 [zS,zS] 40 (pg) ?_ ?_
  ·intro v52 g53 Xg53 hg53 B
   replace E:=E.keep B
   replace X:=X.keep B
   replace BB:=joinB BB B
   replace Xg2:=Xg2.keep B
   replace Xg4:=Xg4.keep B
   replace Nn5:=Nn5.keep B
   refine ⟨Xg4,?_⟩
   refine zc 2 14 37 #[.slice an5 kn5 dn5] (pOfNat (B:=320) Nn5.a (by omega) (by omega) (by omega)) ?_
   rintro _ v55 ⟨aq54,kq54,dq54,bq54,lq54,eq54,rfl,Qq54,B⟩
   replace E:=E.keep B
   replace X:=X.keep B
   replace BB:=joinB BB B
   replace Xg2:=Xg2.keep B
   replace Xg4:=Xg4.keep B
   replace Nn5:=Nn5.keep B
   replace Xg53:=Xg53.keep B
   refine ⟨_,rfl,Xg4,?_⟩
   refine zc 4 16 36 #[.agg #[.slice aq nq cq]] (pOfDec (B:=320) X (by omega) (by omega) (by omega)) ?_
   rintro _ v57 ⟨aq56,kq56,dq56,bq56,lq56,eq56,rfl,Qq56,B⟩
   replace E:=E.keep B
   replace X:=X.keep B
   replace BB:=joinB BB B
   replace Xg2:=Xg2.keep B
   replace Xg4:=Xg4.keep B
   replace Nn5:=Nn5.keep B
   replace Xg53:=Xg53.keep B
   replace Qq54:=Qq54.keep B
   refine ⟨_,rfl,Xg4,?_⟩
   refine zc 5 17 52 #[.agg #[.slice aq54 kq54 dq54,.slice bq54 lq54 eq54],.agg #[.slice aq56 kq56 dq56,.slice bq56 lq56 eq56]] (pAdd (B:=320) (Qq54.v (ft_up (ft_n hu) (by decide))) (Qq56.v (ft_up fx (by decide))) (by omega)) ?_
   rintro _ v59 ⟨aq58,kq58,dq58,bq58,lq58,eq58,rfl,Qq58,B⟩
   replace E:=E.keep B
   replace X:=X.keep B
   replace BB:=joinB BB B
   replace Xg2:=Xg2.keep B
   replace Xg4:=Xg4.keep B
   replace Nn5:=Nn5.keep B
   replace Xg53:=Xg53.keep B
   replace Qq54:=Qq54.keep B
   replace Qq56:=Qq56.keep B
   replace Qq58:=Qq58.is pd_eq
   refine ⟨_,rfl,Xg4,?_⟩
   refine zs 7 Xg53 0 (.agg #[.slice aq58 kq58 dq58,.slice bq58 lq58 eq58]) [.slice aq58 kq58 dq58,.slice bq58 lq58 eq58] [.slice aq58 kq58 dq58,.slice bq58 lq58 eq58] ?_
   intro v60 Y C
   replace E:=E.cg Xg53 C (by rfl)
   replace X:=NatA.cg X Xg53 C (by rfl)
   replace BB:=belowC BB C (by omega)
   replace Xg2:=Xg2.chg C (show g2≠g53 by omega)
   replace Xg4:=Xg4.chg C (show g4≠g53 by omega)
   replace Nn5:=NatO.cg Nn5 Xg53 C (by rfl)
   replace Qq54:=Qq54.cg Xg53 C (by rfl)
   replace Qq56:=Qq56.cg Xg53 C (by rfl)
   replace Qq58:=Qq58.cg Xg53 C (by rfl)
   have Xg53:=Y
   refine ⟨Xg4,?_⟩
   refine gz_done (ge_then (gc_fr [(3,iI p),(4,iI k),(5,pg g2),(10,bF),(11,pg g53)] (gc_seq ?_)))
   replace E:=E.drew
   replace X:=X.keep (Below.refl _ _).drew
   replace BB:=BB.drew
   replace Xg2:=Xg2.drew
   replace Xg4:=Xg4.drew
   replace Nn5:=Nn5.keep (Below.refl _ _).drew
   replace Xg53:=Xg53.drew
   replace Qq54:=Qq54.drew
   replace Qq56:=Qq56.drew
   replace Qq58:=Qq58.drew
   refine gc_draw (fun w'=>Blk w' g53 [.slice aq58 kq58 dq58,.slice bq58 lq58 eq58] 40/\Blk w' g2 [.slice a0 n0 c0,.slice b0 m0 d0] 40) (fun _=>false) ⟨Xg53,Xg2⟩ ?_
   refine zlr 0 18 [.slice aq58 kq58 dq58,.slice bq58 lq58 eq58] (fun _ h=>h.1) 0 (zlr 1 19 [.slice a0 n0 c0,.slice b0 m0 d0] (fun _ h=>h.2) 0 (zc 2 20 47 #[.agg #[.slice aq58 kq58 dq58,.slice bq58 lq58 eq58],.agg #[.slice a0 n0 c0,.slice b0 m0 d0]] (pCmp (B:=320) (Qq58.v (ft_up fp (by decide))) E (by omega)) ?_))
   rintro _ v61 ⟨rfl,B⟩
   replace E:=E.keep B
   replace X:=X.keep B
   replace BB:=joinB BB B
   replace Xg2:=Xg2.keep B
   replace Xg4:=Xg4.keep B
   replace Nn5:=Nn5.keep B
   replace Xg53:=Xg53.keep B
   replace Qq54:=Qq54.keep B
   replace Qq56:=Qq56.keep B
   replace Qq58:=Qq58.keep B
   refine ⟨_,rfl,⟨Xg53,Xg2⟩,?_⟩
   by_cases c62:(sgr (paid u x) (r):Int)<=0
   ·refine zq 3 21 (.bool (decide ((sgr (paid u x) (r):Int)<=0))) (bT) (congrArg Value.bool (decide_eq_true c62)) (z 4 22 (bT) (zlr 5 23 [.slice a0 n0 c0,.slice b0 m0 d0] (fun _ h=>h.2) 0 (zlr 6 24 [.slice aq58 kq58 dq58,.slice bq58 lq58 eq58] (fun _ h=>h.1) 0 (z 7 25 (iI p) (z 8 26 (iI k) (zc 9 27 71 #[iI p,iI k] (bound_any hp hk) ?_))))))
    rintro _ v64 ⟨aq63,kq63,dq63,bq63,lq63,eq63,rfl,Qq63,B⟩
    replace E:=E.keep B
    replace X:=X.keep B
    replace BB:=joinB BB B
    replace Xg2:=Xg2.keep B
    replace Xg4:=Xg4.keep B
    replace Nn5:=Nn5.keep B
    replace Xg53:=Xg53.keep B
    replace Qq54:=Qq54.keep B
    replace Qq56:=Qq56.keep B
    replace Qq58:=Qq58.keep B
    refine ⟨_,rfl,⟨Xg53,Xg2⟩,?_⟩
    refine zc 10 28 52 #[.agg #[.slice aq58 kq58 dq58,.slice bq58 lq58 eq58],.agg #[.slice aq63 kq63 dq63,.slice bq63 lq63 eq63]] (pAdd (B:=320) (Qq58.v (ft_up fp (by decide))) (Qq63.v (ft_up fr (by decide))) (by omega)) ?_
    rintro _ v66 ⟨aq65,kq65,dq65,bq65,lq65,eq65,rfl,Qq65,B⟩
    replace E:=E.keep B
    replace X:=X.keep B
    replace BB:=joinB BB B
    replace Xg2:=Xg2.keep B
    replace Xg4:=Xg4.keep B
    replace Nn5:=Nn5.keep B
    replace Xg53:=Xg53.keep B
    replace Qq54:=Qq54.keep B
    replace Qq56:=Qq56.keep B
    replace Qq58:=Qq58.keep B
    replace Qq63:=Qq63.keep B
    refine ⟨_,rfl,⟨Xg53,Xg2⟩,?_⟩
    refine zc 11 29 47 #[.agg #[.slice a0 n0 c0,.slice b0 m0 d0],.agg #[.slice aq65 kq65 dq65,.slice bq65 lq65 eq65]] (pCmp (B:=320) E (Qq65.v (ft_up (ft_add fp fr hp0 hr0) (by decide))) (by omega)) ?_
    rintro _ v67 ⟨rfl,B⟩
    replace E:=E.keep B
    replace X:=X.keep B
    replace BB:=joinB BB B
    replace Xg2:=Xg2.keep B
    replace Xg4:=Xg4.keep B
    replace Nn5:=Nn5.keep B
    replace Xg53:=Xg53.keep B
    replace Qq54:=Qq54.keep B
    replace Qq56:=Qq56.keep B
    replace Qq58:=Qq58.keep B
    replace Qq63:=Qq63.keep B
    replace Qq65:=Qq65.keep B
    refine ⟨_,rfl,⟨Xg53,Xg2⟩,?_⟩
    by_cases c68:(sgr (r) ((paid u x) + (room p k)):Int)<=0
    ·refine zq 12 30 (.bool (decide ((sgr (r) ((paid u x) + (room p k)):Int)<=0))) (bT) (congrArg Value.bool (decide_eq_true c68)) (z 13 31 (bT) (z 14 10 (bT) (gz_done (ge_then (gc_fr [(10,bT)] (gc_ret (ge_ret (bT) (rs1 10 (by kernel_rfl) (by kernel_rfl)) ?_)))))))
     exact ⟨congrArg (fun b=>Ending.returned (.bool b)) (fit_b c62 c68).symm,BB⟩
    ·refine zq 12 30 (.bool (decide ((sgr (r) ((paid u x) + (room p k)):Int)<=0))) (bF) (congrArg Value.bool (decide_eq_false c68)) (z 13 31 (bF) (z 14 10 (bF) (gz_done (ge_then (gc_fr [(10,bF)] (gc_ret (ge_ret (bF) (rs1 10 (by kernel_rfl) (by kernel_rfl)) ?_)))))))
     exact ⟨congrArg (fun b=>Ending.returned (.bool b)) (fit_z c68).symm,BB⟩
   ·refine zq 3 21 (.bool (decide ((sgr (paid u x) (r):Int)<=0))) (bF) (congrArg Value.bool (decide_eq_false c62)) (z 4 22 (bF) (zn 5 23 (zn 6 24 (zn 7 25 (zn 8 26 (zn 9 27 (zn 10 28 (zn 11 29 (zn 12 30 (z 13 31 (bF) (z 14 10 (bF) (gz_done (ge_then (gc_fr [(10,bF)] (gc_ret (ge_ret (bF) (rs1 10 (by kernel_rfl) (by kernel_rfl)) ?_))))))))))))))))
    exact ⟨congrArg (fun b=>Ending.returned (.bool b)) (fit_a c62).symm,BB⟩
  exact ga_nil
 have lXg2:=Xg2.lt
 have lXg4:=Xg4.lt
 refine zaa 6 11 [zS,zS] 40 (pg) ?_ ?_
 ·intro v69 g70 Xg70 hg70 B
  replace E:=E.keep B
  replace X:=X.keep B
  replace BB:=joinB BB B
  replace Xg2:=Xg2.keep B
  replace Xg4:=Xg4.keep B
  refine ⟨Xg4,?_⟩
  refine zc 1 13 38 #[iU u] (nOf (x:=u) (hu).1 (hu).2) ?_
  rintro _ v72 ⟨an71,kn71,dn71,rfl,Nn71,ln71,B⟩
  replace E:=E.keep B
  replace X:=X.keep B
  replace BB:=joinB BB B
  replace Xg2:=Xg2.keep B
  replace Xg4:=Xg4.keep B
  replace Xg70:=Xg70.keep B
  refine ⟨_,rfl,Xg4,?_⟩
  refine zc 2 14 37 #[.slice an71 kn71 dn71] (pOfNat (B:=320) Nn71.a (by omega) (by omega) (by omega)) ?_
  rintro _ v74 ⟨aq73,kq73,dq73,bq73,lq73,eq73,rfl,Qq73,B⟩
  replace E:=E.keep B
  replace X:=X.keep B
  replace BB:=joinB BB B
  replace Xg2:=Xg2.keep B
  replace Xg4:=Xg4.keep B
  replace Xg70:=Xg70.keep B
  replace Nn71:=Nn71.keep B
  refine ⟨_,rfl,Xg4,?_⟩
  refine zc 4 16 36 #[.agg #[.slice aq nq cq]] (pOfDec (B:=320) X (by omega) (by omega) (by omega)) ?_
  rintro _ v76 ⟨aq75,kq75,dq75,bq75,lq75,eq75,rfl,Qq75,B⟩
  replace E:=E.keep B
  replace X:=X.keep B
  replace BB:=joinB BB B
  replace Xg2:=Xg2.keep B
  replace Xg4:=Xg4.keep B
  replace Xg70:=Xg70.keep B
  replace Nn71:=Nn71.keep B
  replace Qq73:=Qq73.keep B
  refine ⟨_,rfl,Xg4,?_⟩
  refine zc 5 17 52 #[.agg #[.slice aq73 kq73 dq73,.slice bq73 lq73 eq73],.agg #[.slice aq75 kq75 dq75,.slice bq75 lq75 eq75]] (pAdd (B:=320) (Qq73.v (ft_up (ft_n hu) (by decide))) (Qq75.v (ft_up fx (by decide))) (by omega)) ?_
  rintro _ v78 ⟨aq77,kq77,dq77,bq77,lq77,eq77,rfl,Qq77,B⟩
  replace E:=E.keep B
  replace X:=X.keep B
  replace BB:=joinB BB B
  replace Xg2:=Xg2.keep B
  replace Xg4:=Xg4.keep B
  replace Xg70:=Xg70.keep B
  replace Nn71:=Nn71.keep B
  replace Qq73:=Qq73.keep B
  replace Qq75:=Qq75.keep B
  replace Qq77:=Qq77.is pd_eq
  refine ⟨_,rfl,Xg4,?_⟩
  refine zs 7 Xg70 0 (.agg #[.slice aq77 kq77 dq77,.slice bq77 lq77 eq77]) [.slice aq77 kq77 dq77,.slice bq77 lq77 eq77] [.slice aq77 kq77 dq77,.slice bq77 lq77 eq77] ?_
  intro v79 Y C
  replace E:=E.cg Xg70 C (by rfl)
  replace X:=NatA.cg X Xg70 C (by rfl)
  replace BB:=belowC BB C (by omega)
  replace Xg2:=Xg2.chg C (show g2≠g70 by omega)
  replace Xg4:=Xg4.chg C (show g4≠g70 by omega)
  replace Nn71:=NatO.cg Nn71 Xg70 C (by rfl)
  replace Qq73:=Qq73.cg Xg70 C (by rfl)
  replace Qq75:=Qq75.cg Xg70 C (by rfl)
  replace Qq77:=Qq77.cg Xg70 C (by rfl)
  have Xg70:=Y
  refine ⟨Xg4,?_⟩
  refine gz_done (ge_then (gc_fr [(3,iI p),(4,iI k),(5,pg g2),(10,bF),(11,pg g70)] (gc_seq ?_)))
  replace E:=E.drew
  replace X:=X.keep (Below.refl _ _).drew
  replace BB:=BB.drew
  replace Xg2:=Xg2.drew
  replace Xg4:=Xg4.drew
  replace Xg70:=Xg70.drew
  replace Nn71:=Nn71.keep (Below.refl _ _).drew
  replace Qq73:=Qq73.drew
  replace Qq75:=Qq75.drew
  replace Qq77:=Qq77.drew
  refine gc_draw (fun w'=>Blk w' g70 [.slice aq77 kq77 dq77,.slice bq77 lq77 eq77] 40/\Blk w' g2 [.slice a0 n0 c0,.slice b0 m0 d0] 40) (fun _=>false) ⟨Xg70,Xg2⟩ ?_
  refine zlr 0 18 [.slice aq77 kq77 dq77,.slice bq77 lq77 eq77] (fun _ h=>h.1) 0 (zlr 1 19 [.slice a0 n0 c0,.slice b0 m0 d0] (fun _ h=>h.2) 0 (zc 2 20 47 #[.agg #[.slice aq77 kq77 dq77,.slice bq77 lq77 eq77],.agg #[.slice a0 n0 c0,.slice b0 m0 d0]] (pCmp (B:=320) (Qq77.v (ft_up fp (by decide))) E (by omega)) ?_))
  rintro _ v80 ⟨rfl,B⟩
  replace E:=E.keep B
  replace X:=X.keep B
  replace BB:=joinB BB B
  replace Xg2:=Xg2.keep B
  replace Xg4:=Xg4.keep B
  replace Xg70:=Xg70.keep B
  replace Nn71:=Nn71.keep B
  replace Qq73:=Qq73.keep B
  replace Qq75:=Qq75.keep B
  replace Qq77:=Qq77.keep B
  refine ⟨_,rfl,⟨Xg70,Xg2⟩,?_⟩
  by_cases c81:(sgr (paid u x) (r):Int)<=0
  ·refine zq 3 21 (.bool (decide ((sgr (paid u x) (r):Int)<=0))) (bT) (congrArg Value.bool (decide_eq_true c81)) (z 4 22 (bT) (zlr 5 23 [.slice a0 n0 c0,.slice b0 m0 d0] (fun _ h=>h.2) 0 (zlr 6 24 [.slice aq77 kq77 dq77,.slice bq77 lq77 eq77] (fun _ h=>h.1) 0 (z 7 25 (iI p) (z 8 26 (iI k) (zc 9 27 71 #[iI p,iI k] (bound_any hp hk) ?_))))))
   rintro _ v83 ⟨aq82,kq82,dq82,bq82,lq82,eq82,rfl,Qq82,B⟩
   replace E:=E.keep B
   replace X:=X.keep B
   replace BB:=joinB BB B
   replace Xg2:=Xg2.keep B
   replace Xg4:=Xg4.keep B
   replace Xg70:=Xg70.keep B
   replace Nn71:=Nn71.keep B
   replace Qq73:=Qq73.keep B
   replace Qq75:=Qq75.keep B
   replace Qq77:=Qq77.keep B
   refine ⟨_,rfl,⟨Xg70,Xg2⟩,?_⟩
   refine zc 10 28 52 #[.agg #[.slice aq77 kq77 dq77,.slice bq77 lq77 eq77],.agg #[.slice aq82 kq82 dq82,.slice bq82 lq82 eq82]] (pAdd (B:=320) (Qq77.v (ft_up fp (by decide))) (Qq82.v (ft_up fr (by decide))) (by omega)) ?_
   rintro _ v85 ⟨aq84,kq84,dq84,bq84,lq84,eq84,rfl,Qq84,B⟩
   replace E:=E.keep B
   replace X:=X.keep B
   replace BB:=joinB BB B
   replace Xg2:=Xg2.keep B
   replace Xg4:=Xg4.keep B
   replace Xg70:=Xg70.keep B
   replace Nn71:=Nn71.keep B
   replace Qq73:=Qq73.keep B
   replace Qq75:=Qq75.keep B
   replace Qq77:=Qq77.keep B
   replace Qq82:=Qq82.keep B
   refine ⟨_,rfl,⟨Xg70,Xg2⟩,?_⟩
   refine zc 11 29 47 #[.agg #[.slice a0 n0 c0,.slice b0 m0 d0],.agg #[.slice aq84 kq84 dq84,.slice bq84 lq84 eq84]] (pCmp (B:=320) E (Qq84.v (ft_up (ft_add fp fr hp0 hr0) (by decide))) (by omega)) ?_
   rintro _ v86 ⟨rfl,B⟩
   replace E:=E.keep B
   replace X:=X.keep B
   replace BB:=joinB BB B
   replace Xg2:=Xg2.keep B
   replace Xg4:=Xg4.keep B
   replace Xg70:=Xg70.keep B
   replace Nn71:=Nn71.keep B
   replace Qq73:=Qq73.keep B
   replace Qq75:=Qq75.keep B
   replace Qq77:=Qq77.keep B
   replace Qq82:=Qq82.keep B
   replace Qq84:=Qq84.keep B
   refine ⟨_,rfl,⟨Xg70,Xg2⟩,?_⟩
   by_cases c87:(sgr (r) ((paid u x) + (room p k)):Int)<=0
   ·refine zq 12 30 (.bool (decide ((sgr (r) ((paid u x) + (room p k)):Int)<=0))) (bT) (congrArg Value.bool (decide_eq_true c87)) (z 13 31 (bT) (z 14 10 (bT) (gz_done (ge_then (gc_fr [(10,bT)] (gc_ret (ge_ret (bT) (rs1 10 (by kernel_rfl) (by kernel_rfl)) ?_)))))))
    exact ⟨congrArg (fun b=>Ending.returned (.bool b)) (fit_b c81 c87).symm,BB⟩
   ·refine zq 12 30 (.bool (decide ((sgr (r) ((paid u x) + (room p k)):Int)<=0))) (bF) (congrArg Value.bool (decide_eq_false c87)) (z 13 31 (bF) (z 14 10 (bF) (gz_done (ge_then (gc_fr [(10,bF)] (gc_ret (ge_ret (bF) (rs1 10 (by kernel_rfl) (by kernel_rfl)) ?_)))))))
    exact ⟨congrArg (fun b=>Ending.returned (.bool b)) (fit_z c87).symm,BB⟩
  ·refine zq 3 21 (.bool (decide ((sgr (paid u x) (r):Int)<=0))) (bF) (congrArg Value.bool (decide_eq_false c81)) (z 4 22 (bF) (zn 5 23 (zn 6 24 (zn 7 25 (zn 8 26 (zn 9 27 (zn 10 28 (zn 11 29 (zn 12 30 (z 13 31 (bF) (z 14 10 (bF) (gz_done (ge_then (gc_fr [(10,bF)] (gc_ret (ge_ret (bF) (rs1 10 (by kernel_rfl) (by kernel_rfl)) ?_))))))))))))))))
   exact ⟨congrArg (fun b=>Ending.returned (.bool b)) (fit_a c81).symm,BB⟩
 exact ga_nil
end Lg
end
section
namespace Lg
open Go.RowKit Go.Lib Lim Pg Gl
theorem left_all {L:List Ms}:([]:List (RV × Rat)).length + (leftOf (mes (L.map Ms.n)) #[]).size<=L.length:=by
 have:(leftOf (mes (L.map Ms.n)) #[]).size<=(mes (L.map Ms.n)).size:=Array.size_filter_le ..
 simpa using this
theorem eStakes {w:World} {g bm clock c c2:Nat} {L:List Ms} {v:Int} (X:Blk w g [.map (some bm)] 74) (M:MapL w bm clock L) (Y:Blk w c [.slice none 0 0] 61) (Z:Blk w c2 [.func (.func 69) #[] #[]] 96) (hcc:c≠c2) (hF0:∀ m∈L,Ft m.r (64 * 10000)) (hlen:L.length<=1000000) (hgc:g≠c):Calls Tryz.prog 50 #[pg g,.int .u64 v,.func (.func 104) #[] #[pg c,pg c2]] w fun e w'=>∃ ao n cc l,e=.returned (.tuple #[])/\Blk w' c [.slice ao n cc] 61/\Pts w' w.heap.size ao n cc l/\RZs w' (64 * 10000) l/\tot l=sStakes (L.map Ms.s) v/\n<=L.length/\Chg (· = c) w w':=by
 have PT:Pts w w.heap.size none 0 0 []:=Pts.nil
 have M0:=M
 have Y0:=Y
 have hYM:=M0.ne Y (by decide)
 have hbm:=lt_of_block M.ob
 have hml:∀ m∈L,m.g < w.heap.size:=fun m hm=>(M.blk m hm).lt
 have hcl:=Y.lt
 have hgl:=X.lt
 have hzl:=Z.lt
 have BB:=Below.refl w.heap.size w
 refine gc_enter (n:=25) Tryz.func50 rfl ?_
 clear BB
 have BB:=Chg.refl (· = c) w
 have LP:=Lp.refl w
 refine gc_seq (gc_reg (t 8 (pg g) (t 9 (pg g) (t 10 (pg g) (tl 11 (.map (some bm)) X 0 (trg 12 M.ob ?_))))))
 intro v1 r hI hr B
 have I:ObW _ r _:=⟨hI⟩
 have hwr:w.heap.size<=r:=Nat.le_trans BB.size hr
 clear hI
 replace X:=X.keep B
 replace Y:=Y.keep B
 replace Z:=Z.keep B
 replace BB:=BB.trans (Chg.of (F:=fun _=>False) B) (fun _ _ k=>k.elim)
 replace LP:=LP.trans (Lp.of B)
 replace M:=M.keep B
 replace PT:=PT.keep B
 refine gl_nil (ge_then (gc_block (gc_loop (fun s=>(leftOf (mes (L.map Ms.n)) s.1).size) (fun (s:Array Nat × (Option Addr × Nat × Nat) × List (RV × Rat))=>[(1,iU v),(2,.func (.func 104) #[] #[pg c,pg c2]),(12,pg r)]) (fun (s:Array Nat × (Option Addr × Nat × Nat) × List (RV × Rat)) w'=>Chg (· = c) w w'/\Lp w w'/\Blk w' g [.map (some bm)] 74/\MapL w' bm clock L/\ObW w' r (.mapIter (some bm) clock s.1 clock)/\Blk w' c [.slice s.2.1.1 s.2.1.2.1 s.2.1.2.2] 61/\Blk w' c2 [.func (.func 69) #[] #[]] 96/\Pts w' w.heap.size s.2.1.1 s.2.1.2.1 s.2.1.2.2 s.2.2/\RZs w (64 * 10000) s.2.2/\tot s.2.2=sm (fun m=>m.r) s.1 v L/\s.2.2.length + (leftOf (mes (L.map Ms.n)) s.1).size<=L.length) ((#[],(none,0,0),[]):Array Nat × (Option Addr × Nat × Nat) × List (RV × Rat)) ⟨BB,LP,X,M,I,Y,Z,PT,fun _ h=>absurd h (by simp),sm_zero.symm,left_all⟩ (by kernel_rfl) ?_)))
 clear BB LP X M I Y Z PT
 rintro ⟨sn,⟨ao,n,cc⟩,l⟩ v2 ⟨BB,LP,X,M,I,Y,Z,PT,hZ,hT,hS⟩
 dsimp only at I Y PT hZ hT hS
 refine gc_seq (gc_reg ?_)
 refine tnx 13 I.ob M.ob M.hold (Nat.le_refl _) ?_ ?_
 ·intro h0
  refine t 14 (bF) (gl_nil (ge_then (gc_seq (gc_no (gc_exit (ge_tx (ge_tx (ge_bx (ge_end (.tuple #[]) (rs0 (by kernel_rfl)) ?_)))))))))
  exact ⟨ao,n,cc,l,rfl,Y,PT,fun p hp=>⟨(hZ p hp).1.lp LP,(hZ p hp).2⟩,hT.trans (sm_stakes (left_no h0)).1,by have:=PT.len; omega,BB⟩
 ·intro e he v3 hI C
  have hin:=mem_left he
  have hsh:=left_shrinks _ sn e he
  obtain ⟨A,m,Bq,hL,rfl,hsn⟩:=left_at he
  have P:=Lp.ob I (fun _ _ _ h=>by cases h) C
  replace X:=X.chg C (show g≠r by omega)
  replace Y:=Y.chg C (show c≠r by omega)
  replace Z:=Z.chg C (show c2≠r by omega)
  replace BB:=BB.trans C (fun b hb k=>absurd hb (Nat.not_lt.2 ((show b=r from k)▸hwr)))
  replace LP:=LP.trans P
  replace M:=M.off C P (fun e=>absurd hbm (Nat.not_lt.2 ((show bm=r from e)▸hwr))) (fun m hm e=>absurd (hml m hm) (Nat.not_lt.2 ((show m.g=r from e)▸hwr)))
  replace PT:=PT.it I.ob (fun _ _ _ h=>by cases h) C
  clear I
  have I:ObW _ r _:=⟨hI⟩
  clear hI C P
  obtain ⟨mv,md,mg,mb,⟨wa,wn,wc,wb,wm,wd⟩,⟨oa,on,oc,ob,om,od⟩,mr,mo,mp,mk⟩:=m
  dsimp only at hL hsn hsh hin I
  refine t 14 (bT) (gl_nil (ge_then (gc_seq (gc_yes (gc_skip (ge_then (gc_block (gc_seq (gc_reg (tr 15 (.tuple #[.agg #[iU mv,iU md],pg mg]) (run_en (Mn.e ⟨mv,md,mg,mb⟩) I.ob M.ob hin.1 M.nds) (t 16 (.agg #[iU mv,iU md]) (t 17 (pg mg) ?_))))))))))))
  have lX:=X.lt
  have lY:=Y.lt
  have lZ:=Z.lt
  have lI:=I.lt
  refine ta 6 [iU 0,iU 0] 85 (pg) ?_
  intro v4 g5 Xg5 hg5 B
  have hbg5:=Nat.le_trans BB.size hg5
  replace X:=X.keep B
  replace Y:=Y.keep B
  replace Z:=Z.keep B
  replace BB:=BB.trans (Chg.of (F:=fun _=>False) B) (fun _ _ k=>k.elim)
  replace LP:=LP.trans (Lp.of B)
  replace M:=M.keep B
  replace PT:=PT.keep B
  replace I:=I.keep B
  refine ts Xg5 0 (.agg #[iU mv,iU md]) [iU mv,iU md] [iU mv,iU md] ?_
  intro v6 Y' C
  have P:=Lp.z0 Xg5 C (by rfl)
  replace X:=X.chg C (show g≠g5 by omega)
  replace Y:=Y.chg C (show c≠g5 by omega)
  replace Z:=Z.chg C (show c2≠g5 by omega)
  replace BB:=BB.trans C (fun b hb k=>absurd hb (Nat.not_lt.2 ((show b=g5 from k)▸hbg5)))
  replace LP:=LP.trans P
  replace M:=M.off C P (fun e=>absurd hbm (Nat.not_lt.2 ((show bm=g5 from e)▸hbg5))) (fun m hm e=>absurd (hml m hm) (Nat.not_lt.2 ((show m.g=g5 from e)▸hbg5)))
  replace PT:=PT.chg Xg5 (by decide) C
  replace I:=I.off C (show r≠g5 by omega)
  clear C P Xg5
  have Xg5:=Y'
  clear Y'
  refine t 7 (pg mg) (gl_nil (ge_then (gc_seq (gc_reg (t 18 (pg g5) (tl 19 (iU mv) Xg5 0 (t 20 (iU v) ?_)))))))
  by_cases c7:(mv:Int)=v
  ·refine tq 21 (.bool ((mv:Int) == v)) (bT) (congrArg Value.bool (beq_iff_eq.2 c7)) (gl_nil (ge_then (gc_yes (gc_reg (t 22 (.func (.func 104) #[] #[pg c,pg c2]) (t 23 (pg mg) ?_))))))
   have hmem:(⟨mv,md,mg,mb,⟨wa,wn,wc,wb,wm,wd⟩,⟨oa,on,oc,ob,om,od⟩,mr,mo,mp,mk⟩:Ms)∈L:=by rw [hL]; simp
   have hk0:=(M0.q _ hmem).1
   have hk1:Ft mr (64 * 10000):=(hF0 _ hmem)
   have hn1:n<=1000000:=by have:=PT.len; omega
   have hwB:=BB.size
   refine tc 24 104 #[pg mg,pg c,pg c2] (cPartStakes (r:=mr) (o:=mo) (M.blk _ hmem) Y Z hcc PT hwB hn1) ?_
   rintro _ v8 ⟨ao2,c3,rfl,Y2,PT2,C⟩
   refine ⟨_,rfl,?_⟩
   replace X:=X.chg C (fun k=>k.elim (fun k=>hgc k) (PT.ne X (by decide)))
   replace I:=I.off C (fun k=>k.elim (fun k=>absurd (show r=c from k) (by omega)) (PT.nob I.ob (fun _ _ _ h=>by cases h)))
   replace Z:=Z.chg C (fun k=>k.elim (fun k=>hcc k.symm) (PT.ne Z (by decide)))
   replace BB:=BB.trans C (fun b hb k=>k.elim id (fun k=>absurd hb (Nat.not_lt.2 k.1)))
   replace LP:=Lp.cg Y0 BB (by rfl)
   clear M
   have M:=M0.off BB LP hYM.1 hYM.2
   clear C Y PT
   have Y:=Y2
   have PT:=PT2
   clear Y2 PT2
   exact gl_nil (ge_bn (ge_round ((sn.push mb,(ao2,n + 1,c3),l ++ [((wa,wn,wc,wb,wm,wd),mr)]):Array Nat × (Option Addr × Nat × Nat) × List (RV × Rat)) hsh ⟨BB,LP,X,M,I,Y,Z,PT,hZ.snoc hk0 hk1,by subst hL; rw [tot_app,hT,sm_push M.nd hsn,if_pos c7]; simp only [tot]; grind,by simp only [List.length_append,List.length_singleton]; omega⟩ (by kernel_rfl)))
  ·exact tq 21 (.bool ((mv:Int) == v)) (bF) (congrArg Value.bool (beq_eq_false_iff_ne.2 c7)) (gl_nil (ge_then (gc_no (gc_skip (ge_bn (ge_round ((sn.push mb,(ao,n,cc),l):Array Nat × (Option Addr × Nat × Nat) × List (RV × Rat)) hsh ⟨BB,LP,X,M,I,Y,Z,PT,hZ,by subst hL; rw [hT,sm_push M.nd hsn,if_neg c7]; grind,by simp only; omega⟩ (by kernel_rfl)))))))
theorem eOwes {w:World} {g bm clock c c2:Nat} {L:List Ms} {v:Int} (X:Blk w g [.map (some bm)] 74) (M:MapL w bm clock L) (Y:Blk w c [.slice none 0 0] 61) (Z:Blk w c2 [.func (.func 70) #[] #[]] 96) (hcc:c≠c2) (hF0:∀ m∈L,Ft m.o (64 * 10000)) (hlen:L.length<=1000000) (hgc:g≠c):Calls Tryz.prog 50 #[pg g,.int .u64 v,.func (.func 104) #[] #[pg c,pg c2]] w fun e w'=>∃ ao n cc l,e=.returned (.tuple #[])/\Blk w' c [.slice ao n cc] 61/\Pts w' w.heap.size ao n cc l/\RZs w' (64 * 10000) l/\tot l=sOwes (L.map Ms.s) v/\n<=L.length/\Chg (· = c) w w':=by
 have PT:Pts w w.heap.size none 0 0 []:=Pts.nil
 have M0:=M
 have Y0:=Y
 have hYM:=M0.ne Y (by decide)
 have hbm:=lt_of_block M.ob
 have hml:∀ m∈L,m.g < w.heap.size:=fun m hm=>(M.blk m hm).lt
 have hcl:=Y.lt
 have hgl:=X.lt
 have hzl:=Z.lt
 have BB:=Below.refl w.heap.size w
 refine gc_enter (n:=25) Tryz.func50 rfl ?_
 clear BB
 have BB:=Chg.refl (· = c) w
 have LP:=Lp.refl w
 refine gc_seq (gc_reg (t 8 (pg g) (t 9 (pg g) (t 10 (pg g) (tl 11 (.map (some bm)) X 0 (trg 12 M.ob ?_))))))
 intro v1 r hI hr B
 have I:ObW _ r _:=⟨hI⟩
 have hwr:w.heap.size<=r:=Nat.le_trans BB.size hr
 clear hI
 replace X:=X.keep B
 replace Y:=Y.keep B
 replace Z:=Z.keep B
 replace BB:=BB.trans (Chg.of (F:=fun _=>False) B) (fun _ _ k=>k.elim)
 replace LP:=LP.trans (Lp.of B)
 replace M:=M.keep B
 replace PT:=PT.keep B
 refine gl_nil (ge_then (gc_block (gc_loop (fun s=>(leftOf (mes (L.map Ms.n)) s.1).size) (fun (s:Array Nat × (Option Addr × Nat × Nat) × List (RV × Rat))=>[(1,iU v),(2,.func (.func 104) #[] #[pg c,pg c2]),(12,pg r)]) (fun (s:Array Nat × (Option Addr × Nat × Nat) × List (RV × Rat)) w'=>Chg (· = c) w w'/\Lp w w'/\Blk w' g [.map (some bm)] 74/\MapL w' bm clock L/\ObW w' r (.mapIter (some bm) clock s.1 clock)/\Blk w' c [.slice s.2.1.1 s.2.1.2.1 s.2.1.2.2] 61/\Blk w' c2 [.func (.func 70) #[] #[]] 96/\Pts w' w.heap.size s.2.1.1 s.2.1.2.1 s.2.1.2.2 s.2.2/\RZs w (64 * 10000) s.2.2/\tot s.2.2=sm (fun m=>m.o) s.1 v L/\s.2.2.length + (leftOf (mes (L.map Ms.n)) s.1).size<=L.length) ((#[],(none,0,0),[]):Array Nat × (Option Addr × Nat × Nat) × List (RV × Rat)) ⟨BB,LP,X,M,I,Y,Z,PT,fun _ h=>absurd h (by simp),sm_zero.symm,left_all⟩ (by kernel_rfl) ?_)))
 clear BB LP X M I Y Z PT
 rintro ⟨sn,⟨ao,n,cc⟩,l⟩ v2 ⟨BB,LP,X,M,I,Y,Z,PT,hZ,hT,hS⟩
 dsimp only at I Y PT hZ hT hS
 refine gc_seq (gc_reg ?_)
 refine tnx 13 I.ob M.ob M.hold (Nat.le_refl _) ?_ ?_
 ·intro h0
  refine t 14 (bF) (gl_nil (ge_then (gc_seq (gc_no (gc_exit (ge_tx (ge_tx (ge_bx (ge_end (.tuple #[]) (rs0 (by kernel_rfl)) ?_)))))))))
  exact ⟨ao,n,cc,l,rfl,Y,PT,fun p hp=>⟨(hZ p hp).1.lp LP,(hZ p hp).2⟩,hT.trans (sm_stakes (left_no h0)).2,by have:=PT.len; omega,BB⟩
 ·intro e he v3 hI C
  have hin:=mem_left he
  have hsh:=left_shrinks _ sn e he
  obtain ⟨A,m,Bq,hL,rfl,hsn⟩:=left_at he
  have P:=Lp.ob I (fun _ _ _ h=>by cases h) C
  replace X:=X.chg C (show g≠r by omega)
  replace Y:=Y.chg C (show c≠r by omega)
  replace Z:=Z.chg C (show c2≠r by omega)
  replace BB:=BB.trans C (fun b hb k=>absurd hb (Nat.not_lt.2 ((show b=r from k)▸hwr)))
  replace LP:=LP.trans P
  replace M:=M.off C P (fun e=>absurd hbm (Nat.not_lt.2 ((show bm=r from e)▸hwr))) (fun m hm e=>absurd (hml m hm) (Nat.not_lt.2 ((show m.g=r from e)▸hwr)))
  replace PT:=PT.it I.ob (fun _ _ _ h=>by cases h) C
  clear I
  have I:ObW _ r _:=⟨hI⟩
  clear hI C P
  obtain ⟨mv,md,mg,mb,⟨wa,wn,wc,wb,wm,wd⟩,⟨oa,on,oc,ob,om,od⟩,mr,mo,mp,mk⟩:=m
  dsimp only at hL hsn hsh hin I
  refine t 14 (bT) (gl_nil (ge_then (gc_seq (gc_yes (gc_skip (ge_then (gc_block (gc_seq (gc_reg (tr 15 (.tuple #[.agg #[iU mv,iU md],pg mg]) (run_en (Mn.e ⟨mv,md,mg,mb⟩) I.ob M.ob hin.1 M.nds) (t 16 (.agg #[iU mv,iU md]) (t 17 (pg mg) ?_))))))))))))
  have lX:=X.lt
  have lY:=Y.lt
  have lZ:=Z.lt
  have lI:=I.lt
  refine ta 6 [iU 0,iU 0] 85 (pg) ?_
  intro v4 g5 Xg5 hg5 B
  have hbg5:=Nat.le_trans BB.size hg5
  replace X:=X.keep B
  replace Y:=Y.keep B
  replace Z:=Z.keep B
  replace BB:=BB.trans (Chg.of (F:=fun _=>False) B) (fun _ _ k=>k.elim)
  replace LP:=LP.trans (Lp.of B)
  replace M:=M.keep B
  replace PT:=PT.keep B
  replace I:=I.keep B
  refine ts Xg5 0 (.agg #[iU mv,iU md]) [iU mv,iU md] [iU mv,iU md] ?_
  intro v6 Y' C
  have P:=Lp.z0 Xg5 C (by rfl)
  replace X:=X.chg C (show g≠g5 by omega)
  replace Y:=Y.chg C (show c≠g5 by omega)
  replace Z:=Z.chg C (show c2≠g5 by omega)
  replace BB:=BB.trans C (fun b hb k=>absurd hb (Nat.not_lt.2 ((show b=g5 from k)▸hbg5)))
  replace LP:=LP.trans P
  replace M:=M.off C P (fun e=>absurd hbm (Nat.not_lt.2 ((show bm=g5 from e)▸hbg5))) (fun m hm e=>absurd (hml m hm) (Nat.not_lt.2 ((show m.g=g5 from e)▸hbg5)))
  replace PT:=PT.chg Xg5 (by decide) C
  replace I:=I.off C (show r≠g5 by omega)
  clear C P Xg5
  have Xg5:=Y'
  clear Y'
  refine t 7 (pg mg) (gl_nil (ge_then (gc_seq (gc_reg (t 18 (pg g5) (tl 19 (iU mv) Xg5 0 (t 20 (iU v) ?_)))))))
  by_cases c7:(mv:Int)=v
  ·refine tq 21 (.bool ((mv:Int) == v)) (bT) (congrArg Value.bool (beq_iff_eq.2 c7)) (gl_nil (ge_then (gc_yes (gc_reg (t 22 (.func (.func 104) #[] #[pg c,pg c2]) (t 23 (pg mg) ?_))))))
   have hmem:(⟨mv,md,mg,mb,⟨wa,wn,wc,wb,wm,wd⟩,⟨oa,on,oc,ob,om,od⟩,mr,mo,mp,mk⟩:Ms)∈L:=by rw [hL]; simp
   have hk0:=(M0.q _ hmem).2
   have hk1:Ft mo (64 * 10000):=(hF0 _ hmem)
   have hn1:n<=1000000:=by have:=PT.len; omega
   have hwB:=BB.size
   refine tc 24 104 #[pg mg,pg c,pg c2] (cPartOwes (r:=mr) (o:=mo) (M.blk _ hmem) Y Z hcc PT hwB hn1) ?_
   rintro _ v8 ⟨ao2,c3,rfl,Y2,PT2,C⟩
   refine ⟨_,rfl,?_⟩
   replace X:=X.chg C (fun k=>k.elim (fun k=>hgc k) (PT.ne X (by decide)))
   replace I:=I.off C (fun k=>k.elim (fun k=>absurd (show r=c from k) (by omega)) (PT.nob I.ob (fun _ _ _ h=>by cases h)))
   replace Z:=Z.chg C (fun k=>k.elim (fun k=>hcc k.symm) (PT.ne Z (by decide)))
   replace BB:=BB.trans C (fun b hb k=>k.elim id (fun k=>absurd hb (Nat.not_lt.2 k.1)))
   replace LP:=Lp.cg Y0 BB (by rfl)
   clear M
   have M:=M0.off BB LP hYM.1 hYM.2
   clear C Y PT
   have Y:=Y2
   have PT:=PT2
   clear Y2 PT2
   exact gl_nil (ge_bn (ge_round ((sn.push mb,(ao2,n + 1,c3),l ++ [((oa,on,oc,ob,om,od),mo)]):Array Nat × (Option Addr × Nat × Nat) × List (RV × Rat)) hsh ⟨BB,LP,X,M,I,Y,Z,PT,hZ.snoc hk0 hk1,by subst hL; rw [tot_app,hT,sm_push M.nd hsn,if_pos c7]; simp only [tot]; grind,by simp only [List.length_append,List.length_singleton]; omega⟩ (by kernel_rfl)))
  ·exact tq 21 (.bool ((mv:Int) == v)) (bF) (congrArg Value.bool (beq_eq_false_iff_ne.2 c7)) (gl_nil (ge_then (gc_no (gc_skip (ge_bn (ge_round ((sn.push mb,(ao,n,cc),l):Array Nat × (Option Addr × Nat × Nat) × List (RV × Rat)) hsh ⟨BB,LP,X,M,I,Y,Z,PT,hZ,by subst hL; rw [hT,sm_push M.nd hsn,if_neg c7]; grind,by simp only; omega⟩ (by kernel_rfl)))))))
theorem all_nil {w:World} {g:Nat} {v:Int} {f_:Value} (X:Blk w g [.map none] 74):Calls Tryz.prog 50 #[pg g,.int .u64 v,f_] w fun e w'=>e=.returned (.tuple #[])/\Below w.heap.size w w':=by
 have BB:=Below.refl w.heap.size w
 refine gc_enter (n:=25) Tryz.func50 rfl ?_
 refine gc_seq (gc_reg (t 8 (pg g) (t 9 (pg g) (t 10 (pg g) (tl 11 (.map none) X 0 (trg0 12 ?_))))))
 intro v1 r hI hr B
 have I:ObW _ r _:=⟨hI⟩
 clear hI
 replace X:=X.keep B
 replace BB:=joinB BB B
 refine gl_nil (ge_then (gc_block (gc_loop (fun _=>0) (fun (_:Unit)=>[(1,iU v),(2,f_),(12,pg r)]) (fun (_:Unit) w'=>Below w.heap.size w w'/\Blk w' g [.map none] 74/\ObW w' r (.mapIter none 0 #[] 0)) () ⟨BB,X,I⟩ (by kernel_rfl) ?_)))
 clear BB X I
 rintro _ v2 ⟨BB,X,I⟩
 refine gc_seq (gc_reg (tnx0 13 I.ob ?_))
 refine t 14 (bF) (gl_nil (ge_then (gc_seq (gc_no (gc_exit (ge_tx (ge_tx (ge_bx (ge_end (.tuple #[]) (rs0 (by kernel_rfl)) ?_)))))))))
 exact ⟨rfl,BB⟩
theorem eGive {w:World} {g bm clock:Nat} {L:List Ms} {v:Int} {c1:Nat} {x:Rat} {xa xb:Option Addr} {xn xc xm xd:Nat} (X:Blk w g [.map (some bm)] 74) (M:MapL w bm clock L) (Y1:Blk w c1 [.slice xa xn xc,.slice xb xm xd] 40) (Qx:RZ w xa xn xc xb xm xd x) (fx:Ft x 6600) (x0:0<=x) {f:Stk->Stk} (hf:f=fun s=>(s.1,s.2.1 + x * s.1,s.2.2)) (hF:∀ m∈L,Gt m.t):Calls Tryz.prog 50 #[pg g,.int .u64 v,.func (.func 51) #[] #[pg c1]] w fun e w'=>∃ L',e=.returned (.tuple #[])/\Blk w' g [.map (some bm)] 74/\MapL w' bm clock L'/\L'.map Ms.s=sOn (L.map Ms.s) v f/\L'.map Ms.n=L.map Ms.n/\Chg (LG L) w w'/\Lp w w':=by
 have hbm:=lt_of_block M.ob
 have hml0:∀ m∈L,m.g < w.heap.size:=fun m hm=>(M.blk m hm).lt
 have hml:=hml0
 have hgl:=X.lt
 have hlY1:=Y1.lt
 have BB:=Below.refl w.heap.size w
 refine gc_enter (n:=25) Tryz.func50 rfl ?_
 clear BB
 have BB:=Chg.refl (LG L) w
 have LP:=Lp.refl w
 refine gc_seq (gc_reg (t 8 (pg g) (t 9 (pg g) (t 10 (pg g) (tl 11 (.map (some bm)) X 0 (trg 12 M.ob ?_))))))
 intro v1 r hI hr B
 have I:ObW _ r _:=⟨hI⟩
 have hwr:w.heap.size<=r:=Nat.le_trans BB.size hr
 clear hI
 replace X:=X.keep B
 replace Y1:=Y1.keep B
 replace BB:=BB.trans (Chg.of (F:=fun _=>False) B) (fun _ _ k=>k.elim)
 replace LP:=LP.trans (Lp.of B)
 replace M:=M.keep B
 replace Qx:=Qx.keep B
 refine gl_nil (ge_then (gc_block (gc_loop (fun s=>(leftOf (mes (L.map Ms.n)) s.1).size) (fun (s:Array Nat × List Ms)=>[(1,iU v),(2,.func (.func 51) #[] #[pg c1]),(12,pg r)]) (fun (s:Array Nat × List Ms) w'=>Chg (LG L) w w'/\Lp w w'/\Blk w' g [.map (some bm)] 74/\MapL w' bm clock s.2/\Up L s.2 s.1 v f/\ObW w' r (.mapIter (some bm) clock s.1 clock)/\Blk w' c1 [.slice xa xn xc,.slice xb xm xd] 40/\RZ w' xa xn xc xb xm xd x) ((#[],L):Array Nat × List Ms) ⟨BB,LP,X,M,Up.zero,I,Y1,Qx⟩ (by kernel_rfl) ?_)))
 clear BB LP X M I Y1 Qx
 rintro ⟨sn,Lc⟩ v2 ⟨BB,LP,X,M,U,I,Y1,Qx⟩
 dsimp only at M U I
 have hml:=U.gs (P:=fun g=>g < w.heap.size) hml0
 have hnn:=U.nn
 refine gc_seq (gc_reg ?_)
 refine tnx 13 I.ob M.ob M.hold (Nat.le_refl _) ?_ ?_
 ·intro h0
  refine t 14 (bF) (gl_nil (ge_then (gc_seq (gc_no (gc_exit (ge_tx (ge_tx (ge_bx (ge_end (.tuple #[]) (rs0 (by kernel_rfl)) ?_)))))))))
  exact ⟨Lc,rfl,X,M,U.done (by have:=left_no h0; exact fun m hm=>(List.mem_map.1 (show m.n∈Lc.map Ms.n by rw [hnn]; exact List.mem_map.2 ⟨m,hm,rfl⟩)).elim fun y hy=>by have e:=congrArg Mn.b hy.2; exact (show y.b=m.b from e)▸this y hy.1),hnn,BB,LP⟩
 ·intro e he v3 hI C
  have hin:=mem_left he
  have hsh:=left_shrinks _ sn e he
  obtain ⟨A,m,Bq,hL,rfl,hsn⟩:=left_at he
  have P:=Lp.ob I (fun _ _ _ h=>by cases h) C
  replace X:=X.chg C (show g≠r by omega)
  replace Y1:=Y1.chg C (show c1≠r by omega)
  replace BB:=BB.trans C (fun b hb k=>absurd hb (Nat.not_lt.2 ((show b=r from k)▸hwr)))
  replace LP:=LP.trans P
  replace M:=M.off C P (fun e=>absurd hbm (Nat.not_lt.2 ((show bm=r from e)▸hwr))) (fun m hm e=>absurd (hml m hm) (Nat.not_lt.2 ((show m.g=r from e)▸hwr)))
  replace Qx:=Qx.lp P
  clear I
  have I:ObW _ r _:=⟨hI⟩
  clear hI C P
  obtain ⟨mv,md,mg,mb,⟨wa,wn,wc,wb,wm,wd⟩,⟨oa,on,oc,ob,om,od⟩,mr,mo,mp,mk⟩:=m
  dsimp only at hL hsn hsh hin I
  refine t 14 (bT) (gl_nil (ge_then (gc_seq (gc_yes (gc_skip (ge_then (gc_block (gc_seq (gc_reg (tr 15 (.tuple #[.agg #[iU mv,iU md],pg mg]) (run_en (Mn.e ⟨mv,md,mg,mb⟩) I.ob M.ob hin.1 M.nds) (t 16 (.agg #[iU mv,iU md]) (t 17 (pg mg) ?_))))))))))))
  have lX:=X.lt
  have lY1:=Y1.lt
  have lI:=I.lt
  refine ta 6 [iU 0,iU 0] 85 (pg) ?_
  intro v4 g5 Xg5 hg5 B
  have hbg5:=Nat.le_trans BB.size hg5
  replace X:=X.keep B
  replace Y1:=Y1.keep B
  replace BB:=BB.trans (Chg.of (F:=fun _=>False) B) (fun _ _ k=>k.elim)
  replace LP:=LP.trans (Lp.of B)
  replace M:=M.keep B
  replace Qx:=Qx.keep B
  replace I:=I.keep B
  refine ts Xg5 0 (.agg #[iU mv,iU md]) [iU mv,iU md] [iU mv,iU md] ?_
  intro v6 Y' C
  have P:=Lp.z0 Xg5 C (by rfl)
  replace X:=X.chg C (show g≠g5 by omega)
  replace Y1:=Y1.chg C (show c1≠g5 by omega)
  replace BB:=BB.trans C (fun b hb k=>absurd hb (Nat.not_lt.2 ((show b=g5 from k)▸hbg5)))
  replace LP:=LP.trans P
  replace M:=M.off C P (fun e=>absurd hbm (Nat.not_lt.2 ((show bm=g5 from e)▸hbg5))) (fun m hm e=>absurd (hml m hm) (Nat.not_lt.2 ((show m.g=g5 from e)▸hbg5)))
  replace Qx:=Qx.lp P
  replace I:=I.off C (show r≠g5 by omega)
  clear C P Xg5
  have Xg5:=Y'
  clear Y'
  refine t 7 (pg mg) (gl_nil (ge_then (gc_seq (gc_reg (t 18 (pg g5) (tl 19 (iU mv) Xg5 0 (t 20 (iU v) ?_)))))))
  by_cases c7:(mv:Int)=v
  ·refine tq 21 (.bool ((mv:Int) == v)) (bT) (congrArg Value.bool (beq_iff_eq.2 c7)) (gl_nil (ge_then (gc_yes (gc_reg (t 22 (.func (.func 51) #[] #[pg c1]) (t 23 (pg mg) ?_))))))
   have hmem:(⟨mv,md,mg,mb,⟨wa,wn,wc,wb,wm,wd⟩,⟨oa,on,oc,ob,om,od⟩,mr,mo,mp,mk⟩:Ms)∈Lc:=by rw [hL]; simp
   obtain ⟨m0,hm0,e0,et⟩:=(hL▸U).old hsn
   have hk0:=hF m0 hm0
   rw [<- et] at hk0
   have hg0:mg=m0.g:=congrArg Mn.g e0
   have hnY1:=((M.ne Y1 (by decide)).2 _ hmem).symm
   refine tc 24 51 #[pg mg,pg c1] (cGive (M.blk _ hmem) (M.q _ hmem).1 (M.q _ hmem).2 Y1 Qx hnY1 hk0.1.2 hk0.2.1 hk0.1.1 fx x0) ?_
   rintro _ v8 ⟨ya,yn,yc,yb,ym,yd,rfl,X2,Q1,Q2,C,P⟩
   refine ⟨_,rfl,?_⟩
   have M2:=MapL.st (m:=⟨mv,md,mg,mb,⟨wa,wn,wc,wb,wm,wd⟩,⟨oa,on,oc,ob,om,od⟩,mr,mo,mp,mk⟩) (A:=A) (B:=Bq) (hL▸M) ⟨mv,md,mg,mb,(wa,wn,wc,wb,wm,wd),(ya,yn,yc,yb,ym,yd),mr,mo + x * mr,mp,mk⟩ rfl X2 C P Q1 Q2
   have U2:=(hL▸U).step (m2:=⟨mv,md,mg,mb,(wa,wn,wc,wb,wm,wd),(ya,yn,yc,yb,ym,yd),mr,mo + x * mr,mp,mk⟩) (hL▸M.nd) hsn rfl (by rw [if_pos (show (⟨mv,md,mg,mb,⟨wa,wn,wc,wb,wm,wd⟩,⟨oa,on,oc,ob,om,od⟩,mr,mo,mp,mk⟩:Ms).v=v from c7),hf])
   replace I:=I.off C (show r≠mg by have:=hml _ hmem; dsimp only at this; omega)
   replace X:=X.chg C ((M.ne X (by decide)).2 _ hmem).symm
   replace BB:=BB.trans C (fun b _ k=>⟨m0,hm0,(show b=mg from k).trans hg0⟩)
   replace LP:=LP.trans P
   replace Y1:=Y1.chg C hnY1
   replace Qx:=Qx.lp P
   exact gl_nil (ge_bn (ge_round ((sn.push mb,A ++ (⟨mv,md,mg,mb,(wa,wn,wc,wb,wm,wd),(ya,yn,yc,yb,ym,yd),mr,mo + x * mr,mp,mk⟩:Ms) :: Bq):Array Nat × List Ms) (by show (leftOf (mes (L.map Ms.n)) (sn.push mb)).size < (leftOf (mes (L.map Ms.n)) sn).size; rw [<- hnn]; exact hsh) ⟨BB,LP,X,M2,U2,I,Y1,Qx⟩ (by kernel_rfl)))
  ·refine tq 21 (.bool ((mv:Int) == v)) (bF) (congrArg Value.bool (beq_eq_false_iff_ne.2 c7)) (gl_nil (ge_then (gc_no (gc_skip (ge_bn ?_)))))
   have U2:=(hL▸U).step (m2:=⟨mv,md,mg,mb,⟨wa,wn,wc,wb,wm,wd⟩,⟨oa,on,oc,ob,om,od⟩,mr,mo,mp,mk⟩) (hL▸M.nd) hsn rfl (if_neg c7).symm
   rw [<- hL] at U2
   exact ge_round ((sn.push mb,Lc):Array Nat × List Ms) (by show (leftOf (mes (L.map Ms.n)) (sn.push mb)).size < (leftOf (mes (L.map Ms.n)) sn).size; rw [<- hnn]; exact hsh) ⟨BB,LP,X,M,U2,I,Y1,Qx⟩ (by kernel_rfl)
theorem eCut {w:World} {g bm clock:Nat} {L:List Ms} {v:Int} {c1:Nat} {x:Rat} {xa xb:Option Addr} {xn xc xm xd:Nat} (X:Blk w g [.map (some bm)] 74) (M:MapL w bm clock L) (Y1:Blk w c1 [.slice xa xn xc,.slice xb xm xd] 40) (Qx:RZ w xa xn xc xb xm xd x) (fx:Ft x 6600) (x0:0<=x) {f:Stk->Stk} (hf:f=fun s=>(s.1 * x,s.2.1,s.2.2.1 + 1,s.2.2.2 + 1)) (hF:∀ m∈L,Gt m.t):Calls Tryz.prog 50 #[pg g,.int .u64 v,.func (.func 67) #[] #[pg c1]] w fun e w'=>∃ L',e=.returned (.tuple #[])/\Blk w' g [.map (some bm)] 74/\MapL w' bm clock L'/\L'.map Ms.s=sOn (L.map Ms.s) v f/\L'.map Ms.n=L.map Ms.n/\Chg (LG L) w w'/\Lp w w':=by
 have hbm:=lt_of_block M.ob
 have hml0:∀ m∈L,m.g < w.heap.size:=fun m hm=>(M.blk m hm).lt
 have hml:=hml0
 have hgl:=X.lt
 have hlY1:=Y1.lt
 have BB:=Below.refl w.heap.size w
 refine gc_enter (n:=25) Tryz.func50 rfl ?_
 clear BB
 have BB:=Chg.refl (LG L) w
 have LP:=Lp.refl w
 refine gc_seq (gc_reg (t 8 (pg g) (t 9 (pg g) (t 10 (pg g) (tl 11 (.map (some bm)) X 0 (trg 12 M.ob ?_))))))
 intro v1 r hI hr B
 have I:ObW _ r _:=⟨hI⟩
 have hwr:w.heap.size<=r:=Nat.le_trans BB.size hr
 clear hI
 replace X:=X.keep B
 replace Y1:=Y1.keep B
 replace BB:=BB.trans (Chg.of (F:=fun _=>False) B) (fun _ _ k=>k.elim)
 replace LP:=LP.trans (Lp.of B)
 replace M:=M.keep B
 replace Qx:=Qx.keep B
 refine gl_nil (ge_then (gc_block (gc_loop (fun s=>(leftOf (mes (L.map Ms.n)) s.1).size) (fun (s:Array Nat × List Ms)=>[(1,iU v),(2,.func (.func 67) #[] #[pg c1]),(12,pg r)]) (fun (s:Array Nat × List Ms) w'=>Chg (LG L) w w'/\Lp w w'/\Blk w' g [.map (some bm)] 74/\MapL w' bm clock s.2/\Up L s.2 s.1 v f/\ObW w' r (.mapIter (some bm) clock s.1 clock)/\Blk w' c1 [.slice xa xn xc,.slice xb xm xd] 40/\RZ w' xa xn xc xb xm xd x) ((#[],L):Array Nat × List Ms) ⟨BB,LP,X,M,Up.zero,I,Y1,Qx⟩ (by kernel_rfl) ?_)))
 clear BB LP X M I Y1 Qx
 rintro ⟨sn,Lc⟩ v2 ⟨BB,LP,X,M,U,I,Y1,Qx⟩
 dsimp only at M U I
 have hml:=U.gs (P:=fun g=>g < w.heap.size) hml0
 have hnn:=U.nn
 refine gc_seq (gc_reg ?_)
 refine tnx 13 I.ob M.ob M.hold (Nat.le_refl _) ?_ ?_
 ·intro h0
  refine t 14 (bF) (gl_nil (ge_then (gc_seq (gc_no (gc_exit (ge_tx (ge_tx (ge_bx (ge_end (.tuple #[]) (rs0 (by kernel_rfl)) ?_)))))))))
  exact ⟨Lc,rfl,X,M,U.done (by have:=left_no h0; exact fun m hm=>(List.mem_map.1 (show m.n∈Lc.map Ms.n by rw [hnn]; exact List.mem_map.2 ⟨m,hm,rfl⟩)).elim fun y hy=>by have e:=congrArg Mn.b hy.2; exact (show y.b=m.b from e)▸this y hy.1),hnn,BB,LP⟩
 ·intro e he v3 hI C
  have hin:=mem_left he
  have hsh:=left_shrinks _ sn e he
  obtain ⟨A,m,Bq,hL,rfl,hsn⟩:=left_at he
  have P:=Lp.ob I (fun _ _ _ h=>by cases h) C
  replace X:=X.chg C (show g≠r by omega)
  replace Y1:=Y1.chg C (show c1≠r by omega)
  replace BB:=BB.trans C (fun b hb k=>absurd hb (Nat.not_lt.2 ((show b=r from k)▸hwr)))
  replace LP:=LP.trans P
  replace M:=M.off C P (fun e=>absurd hbm (Nat.not_lt.2 ((show bm=r from e)▸hwr))) (fun m hm e=>absurd (hml m hm) (Nat.not_lt.2 ((show m.g=r from e)▸hwr)))
  replace Qx:=Qx.lp P
  clear I
  have I:ObW _ r _:=⟨hI⟩
  clear hI C P
  obtain ⟨mv,md,mg,mb,⟨wa,wn,wc,wb,wm,wd⟩,⟨oa,on,oc,ob,om,od⟩,mr,mo,mp,mk⟩:=m
  dsimp only at hL hsn hsh hin I
  refine t 14 (bT) (gl_nil (ge_then (gc_seq (gc_yes (gc_skip (ge_then (gc_block (gc_seq (gc_reg (tr 15 (.tuple #[.agg #[iU mv,iU md],pg mg]) (run_en (Mn.e ⟨mv,md,mg,mb⟩) I.ob M.ob hin.1 M.nds) (t 16 (.agg #[iU mv,iU md]) (t 17 (pg mg) ?_))))))))))))
  have lX:=X.lt
  have lY1:=Y1.lt
  have lI:=I.lt
  refine ta 6 [iU 0,iU 0] 85 (pg) ?_
  intro v4 g5 Xg5 hg5 B
  have hbg5:=Nat.le_trans BB.size hg5
  replace X:=X.keep B
  replace Y1:=Y1.keep B
  replace BB:=BB.trans (Chg.of (F:=fun _=>False) B) (fun _ _ k=>k.elim)
  replace LP:=LP.trans (Lp.of B)
  replace M:=M.keep B
  replace Qx:=Qx.keep B
  replace I:=I.keep B
  refine ts Xg5 0 (.agg #[iU mv,iU md]) [iU mv,iU md] [iU mv,iU md] ?_
  intro v6 Y' C
  have P:=Lp.z0 Xg5 C (by rfl)
  replace X:=X.chg C (show g≠g5 by omega)
  replace Y1:=Y1.chg C (show c1≠g5 by omega)
  replace BB:=BB.trans C (fun b hb k=>absurd hb (Nat.not_lt.2 ((show b=g5 from k)▸hbg5)))
  replace LP:=LP.trans P
  replace M:=M.off C P (fun e=>absurd hbm (Nat.not_lt.2 ((show bm=g5 from e)▸hbg5))) (fun m hm e=>absurd (hml m hm) (Nat.not_lt.2 ((show m.g=g5 from e)▸hbg5)))
  replace Qx:=Qx.lp P
  replace I:=I.off C (show r≠g5 by omega)
  clear C P Xg5
  have Xg5:=Y'
  clear Y'
  refine t 7 (pg mg) (gl_nil (ge_then (gc_seq (gc_reg (t 18 (pg g5) (tl 19 (iU mv) Xg5 0 (t 20 (iU v) ?_)))))))
  by_cases c7:(mv:Int)=v
  ·refine tq 21 (.bool ((mv:Int) == v)) (bT) (congrArg Value.bool (beq_iff_eq.2 c7)) (gl_nil (ge_then (gc_yes (gc_reg (t 22 (.func (.func 67) #[] #[pg c1]) (t 23 (pg mg) ?_))))))
   have hmem:(⟨mv,md,mg,mb,⟨wa,wn,wc,wb,wm,wd⟩,⟨oa,on,oc,ob,om,od⟩,mr,mo,mp,mk⟩:Ms)∈Lc:=by rw [hL]; simp
   obtain ⟨m0,hm0,e0,et⟩:=(hL▸U).old hsn
   have hk0:=hF m0 hm0
   rw [<- et] at hk0
   have hg0:mg=m0.g:=congrArg Mn.g e0
   have hnY1:=((M.ne Y1 (by decide)).2 _ hmem).symm
   refine tc 24 67 #[pg mg,pg c1] (cCut (M.blk _ hmem) (M.q _ hmem).1 (M.q _ hmem).2 Y1 Qx hnY1 hk0.1.2 hk0.2.1 hk0.1.1 fx x0 hk0.2.2.1 hk0.2.2.2) ?_
   rintro _ v8 ⟨ya,yn,yc,yb,ym,yd,rfl,X2,Q1,Q2,C,P⟩
   refine ⟨_,rfl,?_⟩
   have M2:=MapL.st (m:=⟨mv,md,mg,mb,⟨wa,wn,wc,wb,wm,wd⟩,⟨oa,on,oc,ob,om,od⟩,mr,mo,mp,mk⟩) (A:=A) (B:=Bq) (hL▸M) ⟨mv,md,mg,mb,(ya,yn,yc,yb,ym,yd),(oa,on,oc,ob,om,od),mr * x,mo,mp + 1,mk + 1⟩ rfl X2 C P Q1 Q2
   have U2:=(hL▸U).step (m2:=⟨mv,md,mg,mb,(ya,yn,yc,yb,ym,yd),(oa,on,oc,ob,om,od),mr * x,mo,mp + 1,mk + 1⟩) (hL▸M.nd) hsn rfl (by rw [if_pos (show (⟨mv,md,mg,mb,⟨wa,wn,wc,wb,wm,wd⟩,⟨oa,on,oc,ob,om,od⟩,mr,mo,mp,mk⟩:Ms).v=v from c7),hf])
   replace I:=I.off C (show r≠mg by have:=hml _ hmem; dsimp only at this; omega)
   replace X:=X.chg C ((M.ne X (by decide)).2 _ hmem).symm
   replace BB:=BB.trans C (fun b _ k=>⟨m0,hm0,(show b=mg from k).trans hg0⟩)
   replace LP:=LP.trans P
   replace Y1:=Y1.chg C hnY1
   replace Qx:=Qx.lp P
   exact gl_nil (ge_bn (ge_round ((sn.push mb,A ++ (⟨mv,md,mg,mb,(ya,yn,yc,yb,ym,yd),(oa,on,oc,ob,om,od),mr * x,mo,mp + 1,mk + 1⟩:Ms) :: Bq):Array Nat × List Ms) (by show (leftOf (mes (L.map Ms.n)) (sn.push mb)).size < (leftOf (mes (L.map Ms.n)) sn).size; rw [<- hnn]; exact hsh) ⟨BB,LP,X,M2,U2,I,Y1,Qx⟩ (by kernel_rfl)))
  ·refine tq 21 (.bool ((mv:Int) == v)) (bF) (congrArg Value.bool (beq_eq_false_iff_ne.2 c7)) (gl_nil (ge_then (gc_no (gc_skip (ge_bn ?_)))))
   have U2:=(hL▸U).step (m2:=⟨mv,md,mg,mb,⟨wa,wn,wc,wb,wm,wd⟩,⟨oa,on,oc,ob,om,od⟩,mr,mo,mp,mk⟩) (hL▸M.nd) hsn rfl (if_neg c7).symm
   rw [<- hL] at U2
   exact ge_round ((sn.push mb,Lc):Array Nat × List Ms) (by show (leftOf (mes (L.map Ms.n)) (sn.push mb)).size < (leftOf (mes (L.map Ms.n)) sn).size; rw [<- hnn]; exact hsh) ⟨BB,LP,X,M,U2,I,Y1,Qx⟩ (by kernel_rfl)
theorem eTick {w:World} {g bm clock:Nat} {L:List Ms} {v:Int}  (X:Blk w g [.map (some bm)] 74) (M:MapL w bm clock L)   {f:Stk->Stk} (hf:f=fun s=>(s.1,s.2.1,s.2.2.1 + 1,s.2.2.2)) (hF:∀ m∈L,Gt m.t):Calls Tryz.prog 50 #[pg g,.int .u64 v,.func (.func 57) #[] #[]] w fun e w'=>∃ L',e=.returned (.tuple #[])/\Blk w' g [.map (some bm)] 74/\MapL w' bm clock L'/\L'.map Ms.s=sOn (L.map Ms.s) v f/\L'.map Ms.n=L.map Ms.n/\Chg (LG L) w w'/\Lp w w':=by
 have hbm:=lt_of_block M.ob
 have hml0:∀ m∈L,m.g < w.heap.size:=fun m hm=>(M.blk m hm).lt
 have hml:=hml0
 have hgl:=X.lt
 have BB:=Below.refl w.heap.size w
 refine gc_enter (n:=25) Tryz.func50 rfl ?_
 clear BB
 have BB:=Chg.refl (LG L) w
 have LP:=Lp.refl w
 refine gc_seq (gc_reg (t 8 (pg g) (t 9 (pg g) (t 10 (pg g) (tl 11 (.map (some bm)) X 0 (trg 12 M.ob ?_))))))
 intro v1 r hI hr B
 have I:ObW _ r _:=⟨hI⟩
 have hwr:w.heap.size<=r:=Nat.le_trans BB.size hr
 clear hI
 replace X:=X.keep B
 replace BB:=BB.trans (Chg.of (F:=fun _=>False) B) (fun _ _ k=>k.elim)
 replace LP:=LP.trans (Lp.of B)
 replace M:=M.keep B
 refine gl_nil (ge_then (gc_block (gc_loop (fun s=>(leftOf (mes (L.map Ms.n)) s.1).size) (fun (s:Array Nat × List Ms)=>[(1,iU v),(2,.func (.func 57) #[] #[]),(12,pg r)]) (fun (s:Array Nat × List Ms) w'=>Chg (LG L) w w'/\Lp w w'/\Blk w' g [.map (some bm)] 74/\MapL w' bm clock s.2/\Up L s.2 s.1 v f/\ObW w' r (.mapIter (some bm) clock s.1 clock)) ((#[],L):Array Nat × List Ms) ⟨BB,LP,X,M,Up.zero,I⟩ (by kernel_rfl) ?_)))
 clear BB LP X M I
 rintro ⟨sn,Lc⟩ v2 ⟨BB,LP,X,M,U,I⟩
 dsimp only at M U I
 have hml:=U.gs (P:=fun g=>g < w.heap.size) hml0
 have hnn:=U.nn
 refine gc_seq (gc_reg ?_)
 refine tnx 13 I.ob M.ob M.hold (Nat.le_refl _) ?_ ?_
 ·intro h0
  refine t 14 (bF) (gl_nil (ge_then (gc_seq (gc_no (gc_exit (ge_tx (ge_tx (ge_bx (ge_end (.tuple #[]) (rs0 (by kernel_rfl)) ?_)))))))))
  exact ⟨Lc,rfl,X,M,U.done (by have:=left_no h0; exact fun m hm=>(List.mem_map.1 (show m.n∈Lc.map Ms.n by rw [hnn]; exact List.mem_map.2 ⟨m,hm,rfl⟩)).elim fun y hy=>by have e:=congrArg Mn.b hy.2; exact (show y.b=m.b from e)▸this y hy.1),hnn,BB,LP⟩
 ·intro e he v3 hI C
  have hin:=mem_left he
  have hsh:=left_shrinks _ sn e he
  obtain ⟨A,m,Bq,hL,rfl,hsn⟩:=left_at he
  have P:=Lp.ob I (fun _ _ _ h=>by cases h) C
  replace X:=X.chg C (show g≠r by omega)
  replace BB:=BB.trans C (fun b hb k=>absurd hb (Nat.not_lt.2 ((show b=r from k)▸hwr)))
  replace LP:=LP.trans P
  replace M:=M.off C P (fun e=>absurd hbm (Nat.not_lt.2 ((show bm=r from e)▸hwr))) (fun m hm e=>absurd (hml m hm) (Nat.not_lt.2 ((show m.g=r from e)▸hwr)))
  clear I
  have I:ObW _ r _:=⟨hI⟩
  clear hI C P
  obtain ⟨mv,md,mg,mb,⟨wa,wn,wc,wb,wm,wd⟩,⟨oa,on,oc,ob,om,od⟩,mr,mo,mp,mk⟩:=m
  dsimp only at hL hsn hsh hin I
  refine t 14 (bT) (gl_nil (ge_then (gc_seq (gc_yes (gc_skip (ge_then (gc_block (gc_seq (gc_reg (tr 15 (.tuple #[.agg #[iU mv,iU md],pg mg]) (run_en (Mn.e ⟨mv,md,mg,mb⟩) I.ob M.ob hin.1 M.nds) (t 16 (.agg #[iU mv,iU md]) (t 17 (pg mg) ?_))))))))))))
  have lX:=X.lt
  have lI:=I.lt
  refine ta 6 [iU 0,iU 0] 85 (pg) ?_
  intro v4 g5 Xg5 hg5 B
  have hbg5:=Nat.le_trans BB.size hg5
  replace X:=X.keep B
  replace BB:=BB.trans (Chg.of (F:=fun _=>False) B) (fun _ _ k=>k.elim)
  replace LP:=LP.trans (Lp.of B)
  replace M:=M.keep B
  replace I:=I.keep B
  refine ts Xg5 0 (.agg #[iU mv,iU md]) [iU mv,iU md] [iU mv,iU md] ?_
  intro v6 Y' C
  have P:=Lp.z0 Xg5 C (by rfl)
  replace X:=X.chg C (show g≠g5 by omega)
  replace BB:=BB.trans C (fun b hb k=>absurd hb (Nat.not_lt.2 ((show b=g5 from k)▸hbg5)))
  replace LP:=LP.trans P
  replace M:=M.off C P (fun e=>absurd hbm (Nat.not_lt.2 ((show bm=g5 from e)▸hbg5))) (fun m hm e=>absurd (hml m hm) (Nat.not_lt.2 ((show m.g=g5 from e)▸hbg5)))
  replace I:=I.off C (show r≠g5 by omega)
  clear C P Xg5
  have Xg5:=Y'
  clear Y'
  refine t 7 (pg mg) (gl_nil (ge_then (gc_seq (gc_reg (t 18 (pg g5) (tl 19 (iU mv) Xg5 0 (t 20 (iU v) ?_)))))))
  by_cases c7:(mv:Int)=v
  ·refine tq 21 (.bool ((mv:Int) == v)) (bT) (congrArg Value.bool (beq_iff_eq.2 c7)) (gl_nil (ge_then (gc_yes (gc_reg (t 22 (.func (.func 57) #[] #[]) (t 23 (pg mg) ?_))))))
   have hmem:(⟨mv,md,mg,mb,⟨wa,wn,wc,wb,wm,wd⟩,⟨oa,on,oc,ob,om,od⟩,mr,mo,mp,mk⟩:Ms)∈Lc:=by rw [hL]; simp
   obtain ⟨m0,hm0,e0,et⟩:=(hL▸U).old hsn
   have hk0:=hF m0 hm0
   rw [<- et] at hk0
   have hg0:mg=m0.g:=congrArg Mn.g e0
   refine tc 24 57 #[pg mg] (cSettle (M.blk _ hmem) (M.q _ hmem).1 (M.q _ hmem).2 hk0.2.2.1) ?_
   rintro _ v8 ⟨rfl,X2,Q1,Q2,C,P⟩
   refine ⟨_,rfl,?_⟩
   have M2:=MapL.st (m:=⟨mv,md,mg,mb,⟨wa,wn,wc,wb,wm,wd⟩,⟨oa,on,oc,ob,om,od⟩,mr,mo,mp,mk⟩) (A:=A) (B:=Bq) (hL▸M) ⟨mv,md,mg,mb,(wa,wn,wc,wb,wm,wd),(oa,on,oc,ob,om,od),mr,mo,mp + 1,mk⟩ rfl X2 C P Q1 Q2
   have U2:=(hL▸U).step (m2:=⟨mv,md,mg,mb,(wa,wn,wc,wb,wm,wd),(oa,on,oc,ob,om,od),mr,mo,mp + 1,mk⟩) (hL▸M.nd) hsn rfl (by rw [if_pos (show (⟨mv,md,mg,mb,⟨wa,wn,wc,wb,wm,wd⟩,⟨oa,on,oc,ob,om,od⟩,mr,mo,mp,mk⟩:Ms).v=v from c7),hf])
   replace I:=I.off C (show r≠mg by have:=hml _ hmem; dsimp only at this; omega)
   replace X:=X.chg C ((M.ne X (by decide)).2 _ hmem).symm
   replace BB:=BB.trans C (fun b _ k=>⟨m0,hm0,(show b=mg from k).trans hg0⟩)
   replace LP:=LP.trans P
   exact gl_nil (ge_bn (ge_round ((sn.push mb,A ++ (⟨mv,md,mg,mb,(wa,wn,wc,wb,wm,wd),(oa,on,oc,ob,om,od),mr,mo,mp + 1,mk⟩:Ms) :: Bq):Array Nat × List Ms) (by show (leftOf (mes (L.map Ms.n)) (sn.push mb)).size < (leftOf (mes (L.map Ms.n)) sn).size; rw [<- hnn]; exact hsh) ⟨BB,LP,X,M2,U2,I⟩ (by kernel_rfl)))
  ·refine tq 21 (.bool ((mv:Int) == v)) (bF) (congrArg Value.bool (beq_eq_false_iff_ne.2 c7)) (gl_nil (ge_then (gc_no (gc_skip (ge_bn ?_)))))
   have U2:=(hL▸U).step (m2:=⟨mv,md,mg,mb,⟨wa,wn,wc,wb,wm,wd⟩,⟨oa,on,oc,ob,om,od⟩,mr,mo,mp,mk⟩) (hL▸M.nd) hsn rfl (if_neg c7).symm
   rw [<- hL] at U2
   exact ge_round ((sn.push mb,Lc):Array Nat × List Ms) (by show (leftOf (mes (L.map Ms.n)) (sn.push mb)).size < (leftOf (mes (L.map Ms.n)) sn).size; rw [<- hnn]; exact hsh) ⟨BB,LP,X,M,U2,I⟩ (by kernel_rfl)
end Lg
end
end Go.Proofs.YtlbndpkdkdgggaaGreatDoor
