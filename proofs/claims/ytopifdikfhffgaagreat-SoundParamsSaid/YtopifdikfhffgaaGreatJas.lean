/- Several texts, joined: FoA. -/
import Derived.Test.YtopifdikfhffgaaGreatJar
import Derived.Test.YtopifdikfhffgaaGreatJam
set_option maxRecDepth 100000
set_option maxHeartbeats 8000000
namespace Go.Proofs.YtopifdikfhffgaaGreat
namespace Fo
open Go.RowKit Go.Lib Pg Lim Gl
set_option linter.unusedVariables false
structure Nf (w:World) (z:Nat) (ao:Option Addr) (n c:Nat) (x:Int):Prop where
 lt:n=0\/z < w.heap.size
 to:∀ w':World,(n≠0->w'.heap[z]? = w.heap[z]?)->NatO w' ao n c x
section
variable {w w':World} {z n c:Nat} {ao:Option Addr} {x y:Int}
theorem Nf.o (h:Nf w z ao n c x):NatO w ao n c x:=h.to w (fun _=>rfl)
theorem Nf.nat (h:Nf w z ao n c x):NatA w ao n c x:=h.o.a
theorem Nf.keep (h:Nf w z ao n c x) (hb:Below w.heap.size w w'):Nf w' z ao n c x :=
 ⟨h.lt.imp_right fun h=>Nat.lt_of_lt_of_le h hb.size,fun w2 h2=>h.to w2 fun hn=>(h2 hn).trans (hb.block z (h.lt.resolve_left hn))⟩
theorem Nf.cell {g:Nat} (h:Nf w z ao n c x) (hc:Chg (· = g) w w') (hne:n=0\/z≠g):Nf w' z ao n c x :=
 ⟨h.lt.imp_right fun h=>Nat.lt_of_lt_of_le h hc.size,fun w2 h2=>h.to w2 fun hn=>(h2 hn).trans (hc.same z (h.lt.resolve_left hn) (hne.resolve_left hn))⟩
theorem nf_of {B T:Nat} (h:NatN w B T ao n c x):∃ z,Nf w z ao n c x/\(n=0\/B<=z):=by
 obtain ⟨b,o,l,h1,h2,h3,h4,h5,h6⟩:=h.ex
 refine ⟨b,⟨?_,fun w2 hw=>⟨b,o,l,h1,h2,h3,⟨h4.loc,fun i hi => ?_⟩⟩⟩,?_⟩
 ·rcases h4.lt with e | e
  ·exact .inl (by rw [<- h1,e]; rfl)
  ·exact .inr e
 ·rw [World.cell?_of_block (w:=w) (hw (by omega))]
  exact h4.cell i hi
 ·rcases h6 with e | e
  ·exact .inl (by rw [<- h1,e]; rfl)
  ·exact .inr e.1
end
structure NsE (w:World) (P:Nat->Prop) (V:Int) (e:Ending) (w':World):Prop where
 ex:∃ a k d z,e=.returned (.slice a k d)/\Nf w' z a k d V/\(k=0\/w.heap.size<=z)/\P k/\Below w.heap.size w w'
structure NdE (w:World) (P:Nat->Prop) (V:Int) (e:Ending) (w':World):Prop where
 ex:∃ a k d z,e=.returned (.agg #[.slice a k d])/\Nf w' z a k d V/\(k=0\/w.heap.size<=z)/\P k/\Below w.heap.size w w'
section
variable {w:World} {a0 a1 a2:Option Addr} {n0 c0 n1 c1 n2 c2:Nat} {x0 x1 x2:Int}
theorem nfAdd (h:NatA w a0 n0 c0 x0) (h':NatA w a1 n1 c1 x1) (hn:n0<=1099511627776) (hn':n1<=1099511627776):Calls Tryz.prog 182 #[.slice a0 n0 c0,.slice a1 n1 c1] w (NsE w (· <= n0 + n1 + 1) (x0 + x1)):=by
 refine (fAdd h h' (by omega) (by omega)).mono ?_
 rintro e w' ⟨a,k,d,rfl,N,hk,B⟩
 obtain ⟨z,M,hz⟩:=nf_of N
 exact ⟨a,k,d,z,rfl,M,hz,hk,B⟩
theorem nfMul (h:NatA w a0 n0 c0 x0) (h':NatA w a1 n1 c1 x1) (hn:n0<=274877906944) (hn':n1<=274877906944):Calls Tryz.prog 258 #[.slice a0 n0 c0,.slice a1 n1 c1] w (NsE w (· <= n0 + n1) (x0 * x1)):=by
 refine (fMul h h' (by omega) (by omega)).mono ?_
 rintro e w' ⟨a,k,d,rfl,N,hk,B⟩
 obtain ⟨z,M,hz⟩:=nf_of N
 exact ⟨a,k,d,z,rfl,M,hz,hk,B⟩
theorem nfOf {x:Int} (h0:0<=x) (h1:x < 18446744073709551616):Calls Tryz.prog 80 #[.int .u64 x] w (NsE w (· <= 1) x):=by
 refine (of_any x w h0 h1).mono ?_
 rintro e w' ⟨v,r,rfl,hnw,hI,hlen,hB⟩
 obtain ⟨a,c,rfl,N⟩:=newV_n hnw hI
 obtain ⟨z,M,hz⟩:=nf_of N
 exact ⟨a,_,c,z,rfl,M,hz,hlen,hB⟩
end
theorem eAdd {w:World} {a0:Option Addr} {n0 c0:Nat} {x0:Int} {a1:Option Addr} {n1 c1:Nat} {x1:Int} (h0:NatA w a0 n0 c0 x0) (k0:n0<=1000000000000) (h1:NatA w a1 n1 c1 x1) (k1:n1<=1000000000000):Calls Tryz.prog 96 #[.agg #[.slice a0 n0 c0],.agg #[.slice a1 n1 c1]] w (NdE w (· <= n0 + n1 + 1) (x0 + x1)):=by
 have BB:=Below.refl w.heap.size w
 refine gc_enter (n:=11) Tryz.func96 rfl ?_
 refine gc_seq (gc_reg (ta 2 [.slice a0 n0 c0] 107 (pg) ?_))
 intro v1 g2 Xg2 hg2 B
 replace BB:=joinB BB B
 have lXg2:=Xg2.lt
 refine ta 3 [.slice a1 n1 c1] 107 (pg) ?_
 intro v3 g4 Xg4 hg4 B
 replace BB:=joinB BB B
 replace Xg2:=Xg2.keep B
 have lXg2:=Xg2.lt
 have lXg4:=Xg4.lt
 refine ta 4 [.slice none 0 0] 107 (pg) ?_
 intro v5 g6 Xg6 hg6 B
 replace BB:=joinB BB B
 replace Xg2:=Xg2.keep B
 replace Xg4:=Xg4.keep B
 refine gl_nil (ge_then (gc_seq (gc_reg (t 5 (pg g2) (tl 6 (.slice a0 n0 c0) Xg2 0 (t 7 (pg g4) (tl 8 (.slice a1 n1 c1) Xg4 0 ?_)))))))
 have lXg2:=Xg2.lt
 have lXg4:=Xg4.lt
 have lXg6:=Xg6.lt
 refine tc 9 182 #[.slice a0 n0 c0,.slice a1 n1 c1] (nfAdd (h0.keep BB) (h1.keep BB) (by omega) (by omega)) ?_
 rintro _ v8 ⟨aq7,nq7,cq7,zq7,rfl,Nq7,hq7,mq7,B⟩
 refine ⟨_,rfl,?_⟩
 replace BB:=joinB BB B
 replace Xg2:=Xg2.keep B
 replace Xg4:=Xg4.keep B
 replace Xg6:=Xg6.keep B
 refine t 10 (.agg #[.slice aq7 nq7 cq7]) (ts Xg6 0 (.agg #[.slice aq7 nq7 cq7]) [.slice aq7 nq7 cq7] [.slice aq7 nq7 cq7] ?_)
 intro v9 Y C
 replace BB:=belowC BB C (by omega)
 replace Xg2:=Xg2.chg C (show g2≠g6 by omega)
 replace Xg4:=Xg4.chg C (show g4≠g6 by omega)
 replace Nq7:=Nq7.cell C (show nq7=0\/zq7≠g6 by omega)
 have Xg6:=Y
 refine gl_nil (ge_then (gc_ret (ge_ret (.agg #[.slice aq7 nq7 cq7]) (rsc 4 (T:=107) (by kernel_rfl) (by kernel_rfl) (lr Xg6 0)) ?_)))
 exact ⟨_,_,_,_,rfl,Nq7,by omega,by omega,BB⟩
theorem eOfNat {w:World} {a0:Option Addr} {n0 c0:Nat} {x0:Int} (h0:NatA w a0 n0 c0 x0) (k0:n0<=100000000000):Calls Tryz.prog 183 #[.slice a0 n0 c0] w (NdE w (· <= n0 + 38) (x0 * U36)):=by
 have BB:=Below.refl w.heap.size w
 refine gc_enter (n:=7) Tryz.func183 rfl ?_
 refine gc_seq (gc_reg (ta 2 [.slice none 0 0] 107 (pg) ?_))
 intro v1 g2 Xg2 hg2 B
 replace BB:=joinB BB B
 refine gl_nil (ge_then (gc_seq (gc_reg (t 3 (.slice a0 n0 c0) ?_))))
 have lXg2:=Xg2.lt
 refine tc 4 264 #[] (dUnit) ?_
 rintro _ v4 ⟨aq3,nq3,cq3,rfl,Nq3,mq3,B⟩
 refine ⟨_,rfl,?_⟩
 replace BB:=joinB BB B
 replace Xg2:=Xg2.keep B
 have lXg2:=Xg2.lt
 refine tc 5 258 #[.slice a0 n0 c0,.slice aq3 nq3 cq3] (nfMul (h0.keep BB) Nq3.a (by omega) (by omega)) ?_
 rintro _ v6 ⟨aq5,nq5,cq5,zq5,rfl,Nq5,hq5,mq5,B⟩
 refine ⟨_,rfl,?_⟩
 replace BB:=joinB BB B
 replace Xg2:=Xg2.keep B
 replace Nq3:=Nq3.keep B
 refine t 6 (.agg #[.slice aq5 nq5 cq5]) (ts Xg2 0 (.agg #[.slice aq5 nq5 cq5]) [.slice aq5 nq5 cq5] [.slice aq5 nq5 cq5] ?_)
 intro v7 Y C
 replace BB:=belowC BB C (by omega)
 clear Nq3
 replace Nq5:=Nq5.cell C (show nq5=0\/zq5≠g2 by omega)
 have Xg2:=Y
 refine gl_nil (ge_then (gc_ret (ge_ret (.agg #[.slice aq5 nq5 cq5]) (rsc 2 (T:=107) (by kernel_rfl) (by kernel_rfl) (lr Xg2 0)) ?_)))
 exact ⟨_,_,_,_,rfl,Nq5,by omega,by omega,BB⟩
theorem eOf {w:World} {y:Int} (hy:0<=y/\y < 18446744073709551616):Calls Tryz.prog 98 #[.int .u64 y] w (NdE w (· <= 40) (y * U36)):=by
 have BB:=Below.refl w.heap.size w
 refine gc_enter (n:=6) Tryz.func98 rfl ?_
 refine gc_seq (gc_reg (ta 2 [.slice none 0 0] 107 (pg) ?_))
 intro v1 g2 Xg2 hg2 B
 replace BB:=joinB BB B
 refine gl_nil (ge_then (gc_seq (gc_reg (t 3 (iU y) ?_))))
 have lXg2:=Xg2.lt
 refine tc 4 80 #[iU y] (nfOf (x:=y) hy.1 hy.2) ?_
 rintro _ v4 ⟨aq3,nq3,cq3,zq3,rfl,Nq3,hq3,mq3,B⟩
 refine ⟨_,rfl,?_⟩
 replace BB:=joinB BB B
 replace Xg2:=Xg2.keep B
 have lXg2:=Xg2.lt
 refine tc 5 183 #[.slice aq3 nq3 cq3] (eOfNat Nq3.nat (by omega)) ?_
 rintro _ v6 ⟨aq5,nq5,cq5,zq5,rfl,Nq5,hq5,mq5,B⟩
 refine ⟨_,rfl,?_⟩
 replace BB:=joinB BB B
 replace Xg2:=Xg2.keep B
 replace Nq3:=Nq3.keep B
 refine ts Xg2 0 (.agg #[.slice aq5 nq5 cq5]) [.slice aq5 nq5 cq5] [.slice aq5 nq5 cq5] ?_
 intro v7 Y C
 replace BB:=belowC BB C (by omega)
 replace Nq3:=Nq3.cell C (show nq3=0\/zq3≠g2 by omega)
 replace Nq5:=Nq5.cell C (show nq5=0\/zq5≠g2 by omega)
 have Xg2:=Y
 refine gl_nil (ge_then (gc_ret (ge_ret (.agg #[.slice aq5 nq5 cq5]) (rsc 2 (T:=107) (by kernel_rfl) (by kernel_rfl) (lr Xg2 0)) ?_)))
 exact ⟨_,_,_,_,rfl,Nq5,by omega,by omega,BB⟩
end Fo
end Go.Proofs.YtopifdikfhffgaaGreat
