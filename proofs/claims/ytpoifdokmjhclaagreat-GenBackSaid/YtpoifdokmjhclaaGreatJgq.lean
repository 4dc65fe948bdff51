import Derived.Test.YtpoifdokmjhclaaGreatJgp
set_option maxRecDepth 100000
set_option maxHeartbeats 8000000
namespace Go.Proofs.YtpoifdokmjhclaaGreat
section
namespace Pw
open Go.RowKit Go.Lib Pg Lim Gl Kv Bk
attribute [local go_sem] Oper.semAt_some
set_option linter.unusedVariables false
section
variable {w:World}{k a b v tk:Int}{B g n N:Nat}{K:Nat->Prop}{E:aA}{W:List aA}{kv:Value}
theorem qf(d:0<=a/\a < 18446744073709551616)(c:Ky.mkE k a b=false):Calls Tryz.prog 72 #[.agg #[.int .i64 k,.int .u64 a,.int .u64 b]] w fun e w'=>∃ v,e=.returned (.tuple #[v,.int .i64 0])/\ByU w' v (Ky.mk k a b)/\Below w.heap.size w w':=by
 refine(Ks.mk_g d c).mono ?_
 rintro e w' ⟨v,rfl,O,B⟩;exact⟨v,rfl,ByU.of O,B⟩
theorem vL(w:World):ByU w (.slice none 0 0) []:=⟨⟨none,0,rfl,Nat.le_refl _,by decide,fun _=>rfl,fun x h=>by simp at h,.inl rfl⟩,fun b o n c e=>by cases e⟩
theorem mk_pos(_hE:Ky.mkE k a b=false):0 < (Ky.mk k a b).length:=by
 rw[Ky.mk_eq (k:=k) (n:=(Ky.frm k).1) (m0:=(Ky.frm k).2.1) (m1:=(Ky.frm k).2.2) rfl];simp
theorem set_mk(hE:Ky.mkE k a b=false):gK (Ky.mk k a b) []=0:=by
 have h1:=mk_pos hE;have h2:=Ky.nh k a b;unfold gK;rw[if_neg (by omega),if_neg (by simp)]
theorem Cw(h:Sx B w K g E W n N)(hk:ByU w kv (Ky.mk k a b))(c:Ky.mkE k a b=false)(hn:n<=4000000000000000000)(d:N+2<=100000000) :
  Calls Tryz.prog 86 #[pg g,kv,.slice none 0 0] w (SxE B w K g (put E (Ky.mk k a b) []) W (n+1) (N+2) (.int .i64 0)):=by
 have u:=xset h hk (vL w) hn d;rw[set_mk c,if_pos rfl] at u;exact u
theorem vh(h:Sx B w K g E W n N)(p:0<=a/\a < 18446744073709551616)(m:Ky.mkE k a b=false)(hn:n+5<=4000000000000000000)(t:N+5<=100000000):Calls Tryz.prog 197 #[pg g,.agg #[.int .i64 k,.int .u64 a,.int .u64 b],.bool true] w (SxE B w K g (put E (Ky.mk k a b) []) W (n+1) (N+2) (.tuple #[])):=by
 have A:=h.at
 refine af (n:=21) Tryz.func197 rfl ?_
 refine sr<|ta 4 [iI k,iU a,iU b] 103 (pg) ?_
 intro v1 q c j B;obtain⟨o,d,A⟩:=A.al j B;refine nx<|tlr 9 [iI k,iU a,iU b] c 0<|tc 10 72 #[.agg #[iI k,iU a,iU b]] (qf p m) ?_
 rintro _ u ⟨e,rfl,f,B⟩;refine⟨_,rfl,?_⟩;replace A:=A.keep B;replace c:=c.keep B;refine tz 5<|nt<|ag<|sr<|tz 2<|nt<|ay [(0,pg g),(6,e),(14,bF)]<|nk<|aN<|tz 2<|tc 20 86 #[pg g,e,zS] (Cw A.sx f m (by omega) (by omega)) ?_
 rintro _ s ⟨rfl,r,S,l,i⟩;refine⟨_,rfl,?_⟩;obtain⟨c,d⟩:=fT c d l i;replace f:=A.byu f i;replace A:=A.op S l i;clear f;refine aO<|aV (.tuple #[]) (rs0) ?_
 exact⟨rfl,_,A.sx,A.km,A.cc⟩
theorem xo:cB 289 #[.int .u64 v,.int .u64 tk] w (.agg #[.int .i64 10,.int .u64 tk,.int .u64 v]):=by
 have b:=Below.refl w.heap.size w;refine af (n:=8) Tryz.func289 rfl ?_
 refine sr<|ta 4 [.int .i64 0,.int .u64 0,.int .u64 0] 103 (pg) ?_
 intro v1 e a c B;replace b:=ae b B;clear B;refine nx<|tz 3<|tsw a [.int .i64 10,.int .u64 tk,.int .u64 v] ?_
 intro d Y C;replace b:=aM b C (by omega);clear C a;have a:=Y;clear Y;refine nr<|ah (.agg #[.int .i64 10,.int .u64 tk,.int .u64 v]) (rsc (T:=103) 4 (lr a 0)) ?_
 exact⟨rfl,b⟩
theorem mkE10(tk v:Int):Ky.mkE 10 tk v=false:=by
 unfold Ky.mkE;rw[show (Ky.frm 10).1=17 from rfl];simp
theorem mkE11(v:Int):Ky.mkE 11 v 0=false:=by
 unfold Ky.mkE;rw[show (Ky.frm 11).1=9 from rfl];simp
theorem Dy(h:Sx B w K g E W n N)(a:0<=tk/\tk < 18446744073709551616)(hn:n+5<=4000000000000000000)(f:N+5<=100000000):Calls Tryz.prog 235 #[pg g,.int .u64 v,.int .u64 tk] w (SxE B w K g (put E (Ky.mk 10 tk v) []) W (n+1) (N+2) (.tuple #[])):=by
 have A:=h.at
 refine af (n:=11) Tryz.func235 rfl ?_
 refine aN<|tz 3<|tc 9 289 #[.int .u64 v,.int .u64 tk] (xo) ?_
 rintro _ v1 ⟨rfl,B⟩;refine⟨_,rfl,?_⟩;replace A:=A.keep B;clear B;refine tc 10 197 #[pg g,.agg #[.int .i64 10,.int .u64 tk,.int .u64 v],.bool true] (vh A.sx a (mkE10 tk v) (by omega) (by omega)) ?_
 rintro _ d ⟨rfl,e,S,c,b⟩;refine⟨_,rfl,?_⟩;replace A:=A.op S c b;clear S c b;refine aO<|aV (.tuple #[]) (rs0) ?_
 exact⟨rfl,_,A.sx,A.km,A.cc⟩
theorem Da(h:Sx B w K g E W n N)(hv:0<=v/\v < 18446744073709551616)(hn:n+5<=4000000000000000000)(d:N+5<=100000000):Calls Tryz.prog 148 #[pg g,.int .u64 v,.bool true] w (SxE B w K g (put E (Ky.mk 11 v 0) []) W (n+1) (N+2) (.tuple #[])):=by
 have A:=h.at
 refine af (n:=11) Tryz.func148 rfl ?_
 refine aN<|tz 4<|tc 10 197 #[pg g,.agg #[.int .i64 11,.int .u64 v,.int .u64 0],.bool true] (vh A.sx hv (mkE11 v) (by omega) (by omega)) ?_
 rintro _ v2 ⟨rfl,c,S,b,a⟩;refine⟨_,rfl,?_⟩;replace A:=A.op S b a;clear S b a;refine aO<|aV (.tuple #[]) (rs0) ?_
 exact⟨rfl,_,A.sx,A.km,A.cc⟩
end
end Pw
end
section
namespace Pw
open Go.RowKit Go.Lib Pg Kv Bk
attribute [local go_sem] Oper.semAt_some
section
variable {w W0:World}{p:Option Addr}{r:Nat}{Wn:List aA}
def TpU(t:TypeId):Prop:=t=22
def pks(r:Nat)(m0:Int)(E:aA):List (Int × Int):=(E.filter (fun x=>decide ([m0] <+: x.1))).map (fun x=>(Ky.rdA r x.1,Ky.rdB x.1))
def ArP(r:Nat)(ps:List (Int × Int))(i:Nat)(args:Array Value)(_:Nat)(_:World):Prop:=∃ c,ps[i]?=some c/\args=#[.agg #[.int .i64 (r:Int),.int .u64 c.1,.int .u64 c.2]]
theorem of10(w:World):Calls Tryz.prog 194 #[.int .i64 (10:Nat)] w fun e w'=>∃ v,e=.returned (.tuple #[v,.int .i64 0])/\OB w' (w.heap.size <= ·) v [105]/\Below w.heap.size w w':=Ky.mF (k:=10)
theorem of11(w:World):Calls Tryz.prog 194 #[.int .i64 (11:Nat)] w fun e w'=>∃ v,e=.returned (.tuple #[v,.int .i64 0])/\OB w' (w.heap.size <= ·) v [98]/\Below w.heap.size w w':=Ky.mF (k:=11)
theorem oa:Calls Tryz.prog 147 #[.pointer p,.int .i64 r] w fun e w'=>∃ bs bk,e=.returned (.func (.func 193) #[] #[.pointer (some ⟨bk,0,none⟩),.pointer (some ⟨bs,0,none⟩)])/\w.heap.size<=bs/\w.heap.size<=bk/\Blk w' bs [.pointer p] 46/\Blk w' bk [.int .i64 r] 3/\Below w.heap.size w w':=by
 have b1:=aa w (.cells #[.pointer p] 46);have c1:=aj w [.pointer p] 46;have b:=aa (w.alloc (.cells #[.pointer p] 46)) (.cells #[.int .i64 r] 3);have c2:=aj (w.alloc (.cells #[.pointer p] 46)) [.int .i64 r] 3;go_enter Tryz.func147,Tryz.ntmps147;go_wp2;go_ret;exact⟨_,_,rfl,Nat.le_refl _,by simp,c1.keep b,by simpa using c2,ae b1 b⟩
theorem tK{K D X:Nat→Prop}{g bk bs x0 N:Nat}{m0:Int}{E:aA}(hS:SA W0 K D g E Wn x0 N)(hbs:Blk W0 bs [.pointer (some ⟨g,0,none⟩)] 46)(hXb:¬ X bs)(hbk:Blk W0 bk [.int .i64 r] 3)(hXk:¬ X bk)(hr:r < 18)(hr0:0 < r)(hOf:∀ w,Calls Tryz.prog 194 #[.int .i64 r] w fun e w'=>∃ v,e=.returned (.tuple #[v,.int .i64 0])∧OB w' (w.heap.size≤·) v [m0]∧Below w.heap.size w w')(hRk:∀ x ∈ E,[m0] <+: x.1→Ky.frm r=Ky.fIn x.1)(hX1:∀ b,X b→b=g∨¬ K b)(hXl:∀ b,X b→b < W0.heap.size)(hN:N≤100000000)(hx:x0+N≤2000000000000000000) :
    ItrE W0 TpU g x0 193 #[.pointer (some ⟨bk,0,none⟩),.pointer (some ⟨bs,0,none⟩)] (pks r m0 E).length (ArP r (pks r m0 E)) (RdS W0 X K D g E Wn N):=by
  intro l J0 J Jt Jx W hNB hW0 hS0 hSJ hSt hSx hgW I hJ hY h0;obtain⟨_,_,⟨c0,u0,xx,s0⟩,_⟩:= I _ h0;have B1:=aa W (.cells #[.func (.yield l) #[] #[]] 288);have Y1:=aj W [.func (.yield l) #[] #[]] 288
  have s1:(W.alloc (.cells #[.func (.yield l) #[] #[]] 288)).heap.size=W.heap.size+1:=by simp
  obtain⟨Wa,L⟩:∃ Wa,Hid (W.alloc (.cells #[.func (.yield l) #[] #[]] 288)=Wa):=⟨_,rfl⟩;rw[L.out] at B1 Y1 s1;have ac:=hbs.chg c0 hXb
  have cK:(W.alloc (.cells #[.func (.yield l) #[] #[]] 288)).cell? ⟨bk,0,none⟩=some (.int .i64 r):=by rw[L.out];exact((hbk.chg c0 hXk).keep B1).cell (i:=0) rfl
  have hK0:∀ b,K b→b < W0.heap.size:=fun b hb=>hS.lt hb
  have HX':Hid (∀ b,(X b∨(W0.heap.size≤b∧b < W.heap.size))→b=g∨¬ K b):=ax (fun b hb=>hb.elim (hX1 b) (fun h=>.inr (fun hk=>by have:=hK0 b hk;omega)))
  have Y:Hid (∀ b,(X b∨(W0.heap.size≤b∧b < W.heap.size))→b < W.heap.size):=ax (fun b hb=>hb.elim (fun h=>Nat.lt_of_lt_of_le (hXl b h) hW0) (fun h=>h.2))
  have HXU:Hid (∀ b,(X b∨(W0.heap.size≤b∧b < W.heap.size))→∀ cs,¬ Blk W b cs 5):=ax (fun b hb=>hb.elim (u0 b) (fun h=>hNB b h.1));have HY:=ax hY;have HJ:=ax hJ;have HJ0:=ax I;have H0:=ax h0;have HS:=ax s0;have q:=ax c0;have j:=ax B1;have HY1:=ax Y1;have HBS:=ax ac;clear I hJ hY h0 s0 c0 B1 Y1 ac hNB u0;refine(callsIn_wide (n:=0)).1 ?_
  refine callsIn_of_wp_marks Tryz.func193 rfl trivial ?_ rfl;simp only[Tryz.ntmps193,List.size_toArray,List.length_cons,List.length_nil,Nat.reduceAdd,Nat.reduceSub,Array.replicate_succ,Array.replicate_zero,List.push_toArray,List.append_toArray,List.nil_append,List.cons_append];gi_wp2_with first
    | (refine⟨trivial,rfl,?_⟩;gi_at_call 194;rw[L.out];refine(callsIn_wide.2 (hOf _)).mono ?_;rintro e' w1 ⟨v1,rfl,O1,z⟩;have cB:=(HBS.out.keep (ae j.out z)).cell (i:=0) rfl;have tP:=sy (Tp:=TpU) (X:=fun b=>X b∨(W0.heap.size≤b∧b < W.heap.size)) (HS.out.keep (ae j.out z)) hN O1.by (by simp) HX'.out (fun b hb cs k=>HXU.out b hb cs ⟨by rw[← (ae j.out z).block b (Y.out b hb)];exact k.blk⟩) (fun b hb=>Nat.lt_of_lt_of_le (Y.out b hb) (ae j.out z).size) (by unfold TpU;decide) (by unfold TpU;decide);obtain⟨pa,pc,rfl⟩:= O1.shape)
    | (refine⟨trivial,rfl,?_⟩;gi_at_call 195;refine(callsIn_wide.2 tP).mono ?_;rintro e' d ⟨v2,EL,rfl,IG,u,t⟩;obtain⟨bs1,bs2,bw,W1,rfl,IT,ab,hb1,o⟩:= IG.ex;have Q:=IG.small;clear tP IG)
  have M:=ae (ae j.out z) t
  have hw1:W.heap.size+1≤w1.heap.size:=by have:=z.size;omega
  have hw2:W.heap.size+1≤d.heap.size:=Nat.le_trans hw1 t.size;have YB:=(HY1.out.keep z).keep t
  have hlen:(pks r m0 E).length=EL.length:=by simp[pks,← u]
  have hle:EL.length≤N:=by
    have h1:=HS.out.size
    have h2:(EL.map En.kl2).length≤E.length:=by rw[u];exact List.length_filter_le _ _
    rw[List.length_map] at h2;omega
  have ITC:=la (g:=g) (bs1:=bs1) (bs2:=bs2) (x0:=x0) IT (by unfold TpU;decide) (by omega);have J2:=hS0 _ _ H0.out (Rec.of M)
  have E2:Ext W.heap.size d d:=⟨fun _ _ _=>rfl,Nat.le_refl _⟩
  have RDC : Hid (∀ V, RdS W0 X K D g E Wn N V → Ext W.heap.size d V → RdC (fun b => X b ∨ (W0.heap.size ≤ b ∧ b < W.heap.size)) W1 g bs1 bs2 bw V) := ax (fun V hR O => by
    obtain⟨c1,_,x,s1⟩:= hR;obtain⟨r1,r2,r3,_⟩:= ab;refine⟨⟨?_,?_,?_,Nat.le_trans r1.size O.2,fun b hb hn=>?_⟩,O.blk r2 (by omega),O.blk r3 (by omega),s1.kv⟩
    · rw[c1.os,← q.out.os,← M.os,r1.os]
    · rw[c1.tape,← q.out.tape,← M.tape,r1.tape]
    · rw[c1.output,← q.out.output,← M.output,r1.output]
    · rw[← r1.same b hb hn]
      rw[not_or] at hn;rcases Nat.lt_or_ge b W0.heap.size with h1 | h1
      · rw[c1.same b h1 hn.1,M.block b (by omega),q.out.same b h1 hn.1]
      · exact O.1 b (by omega) (Nat.lt_of_lt_of_le hb r1.size))
  have S:=ax u;have HSM:=ax Q;have HYB:=ax YB;clear u Q YB z t ab O1 cB IT M j HY1;refine oh ITC (by rfl) (enters_of Tryz.func303 (by kernel_rfl) rfl) (fun i args n V V' h hc=>h.cel hc) (fun i args n V h=>by obtain⟨e,kv,vv,s,_,rfl,_⟩:= h;rfl)
    (fun V=>J0 V∧Ext W.heap.size d V)
    (fun i V=>J d i V∧Ext W.heap.size d V)
    (fun i V=>Jt d i V∧Ext W.heap.size d V)
    (fun c i V=>c=.ret∧Jx d i V∧d.heap.size≤V.heap.size)
    (fun A B hx hr=>⟨hS0 A B hx.1 (hr.mono (by omega)),hx.2.rcd hr⟩)
    (fun i A B hx hr=>⟨hSJ d i A B hx.1 (hr.mono (by omega)),hx.2.rcd hr⟩)
    (fun i A B hx hr=>⟨hSt d i A B hx.1 (hr.mono (by omega)),hx.2.rcd hr⟩)
    (fun c i A B hx hr=>⟨hx.1,hSx d i A B hx.2.1 (hr.mono (by omega)),Nat.le_trans hx.2.2 hr.size⟩)
    (by omega)
    (fun V hv=>by obtain⟨q1,q2,q3,q4⟩:= HJ0.out V hv.1;exact⟨q1,q2,RDC.out V q3 hv.2,q4 d (by omega) (fy.of hv.2),hv.2.tick hgW⟩)
    (fun i V hv=>by obtain⟨q1,q2,q3,q5,q4⟩:= HJ.out d i V hv.1;exact⟨q1,q2,RDC.out V q3 hv.2,fun hi=>⟨q4 (by omega),hv.2.tick hgW⟩⟩)
    ⟨J2,E2⟩ ?_ ?_ ?_
  · rintro l2 i args V Wv hl hlV hrec hiN ⟨hJi,P⟩ hb ⟨e0,kv,vv,s0,m,rfl,hk0,hv0,_⟩
    obtain⟨ak0,nk,hk1⟩:= hk0.shape;obtain⟨av,nv,hv1⟩:= hv0.shape;subst hk1 hv1;simp;gi_wp2;refine⟨Below.refl _ _,?_⟩;intro V2 W2 hJ2 f o U hoth hsz3 hV2 rl hrec2;obtain⟨e1,kv1,vv1,t1,C,y,p,hv2,ht1⟩:= U;obtain rfl:e1=e0:=by rw[m] at C;cases C;rfl
    simp at y;obtain⟨rfl,rfl⟩:= y
    have G:e1.kl2 ∈ E.filter (fun x=>decide ([m0] <+: x.1)):=by rw[← S.out];exact List.mem_map.2 ⟨e1,List.mem_of_getElem? m,rfl⟩
    have Z:=hRk _ (List.mem_filter.1 G).1 (of_decide_eq_true (List.mem_filter.1 G).2);have tA:=Ky.Cd p.by (HSM.out e1 (List.mem_of_getElem? m)).1 hr hr0 Z
    have T:(pks r m0 E)[i]?=some (Ky.rdA r e1.kl,Ky.rdB e1.kl):=by simp[pks,← S.out,m,En.kl2]
    have yB:=f.blk HYB.out (Nat.le_refl _);have HE2:=ax f;have HYY:=ax (HY.out d i #[.agg #[.int .i64 (r:Int),.int .u64 (Ky.rdA r e1.kl),.int .u64 (Ky.rdB e1.kl)]] V2);have HJT:=ax hJ2;have F:=ax o
    have hs2:d.heap.size≤V2.heap.size:=f.2
    have hs3:V2.heap.size≤W2.heap.size:=o.size;have HYV:=ax (yB.keep o);have R:=ax T;clear G Z hJi P hb hk0 hv0 p hv2 hoth f hJ2 o yB C m ht1 T;obtain⟨cc,hcc⟩:∃ cc,Hid (Ky.rdA r e1.kl=cc):=⟨_,rfl⟩;obtain⟨ss,hss⟩:∃ ss,Hid (Ky.rdB e1.kl=ss):=⟨_,rfl⟩;simp only[hcc.out,hss.out] at tA HYY R;gi_wp2_with (refine⟨trivial,rfl,?_⟩;gi_at_call 196;refine(CallsIn.inRound l2 (callsIn_wide.2 tA)).mono ?_;rintro e' w3 ⟨rfl,t⟩;clear tA;have B4:=aa w3 (.cells #[.int .i64 (r:Int),.int .u64 cc,.int .u64 ss] 103);have yC:=(HYV.out.keep (ae t B4)).cell (i:=0) rfl;have hYY:=HYY.out _ (by omega) (by omega) HJT.out (by omega) (ae F.out (ae t B4)) ⟨_,R.out,rfl⟩;obtain⟨fn,tmps,assign,body,hy,hR⟩:= hYY;have hR2:RoundIn (Fence.wide.inRound l2) 0 Tryz.prog l fn tmps assign body (w3.alloc (.cells #[.int .i64 (r:Int),.int .u64 cc,.int .u64 ss] 103)) _:=⟨hR.1,fun c cs _=>hR.2 c cs (fun _ h=>by cases h)⟩;have HR:=ax hR2;have HK:=ax (ae t B4);clear hR hR2 t B4);refine⟨rfl,HR.out.mono ?_⟩;rintro e' w5 ⟨hk5,h5⟩
    have H:aZ TpU W.heap.size W2 w5:=(aZ.of HK.out).trans hk5
    have p:aZ TpU d.heap.size W2 w5:=H.mono (by omega);rcases h5 with⟨rfl,hJ5⟩ | ⟨rfl,hJ5⟩
    · gi_wp2
      exact⟨p,hJ5,Ext.mix (HE2.out.keep F.out) H (HJ.out d (i+1) w5 hJ5).2.2.2.1⟩
    · gi_wp2
      exact⟨p,rfl,hJ5,Nat.le_trans (HE2.out.keep F.out).2 H.size⟩
  · rintro D' W' hD hK ⟨hJn,O⟩
    gi_wp2;refine⟨by simp,.inl ⟨_,_,rfl,run_takeDeferred hK,?_⟩⟩;have:=O.2;exact⟨_,results_none rfl _ _ _,⟨_,rfl⟩,by simp;omega,d,by omega,.inl (by rw[hlen];exact hSJ d _ _ _ hJn (Rec.put hK rfl (by omega) _))⟩
  · rintro D' c i W' hD hK hiN ⟨rfl,hJx',hsz⟩
    gi_wp2;refine⟨by simp,.inl ⟨_,_,rfl,run_takeDeferred hK,?_⟩⟩;exact⟨_,results_none rfl _ _ _,⟨_,rfl⟩,by simp;omega,d,by omega,.inr ⟨i,by omega,hSx d (i+1) _ _ hJx' (Rec.put hK rfl (by omega) _)⟩⟩
end
end Pw
end
section
open Pg (aD aQ cn bj bU aG cU)
namespace Ky
open Go.RowKit Go.Lib Pg
attribute [local go_sem] Oper.semAt_some nT
theorem wK {w:World} {ao:Option Addr} {n c:Nat} {l:List Int} (h:By w (.slice ao n c) l) (N:n<=1000000000) {r:Nat} (hr:r < 18) (V:0 < r) (E:frm r=fIn l) (h8:8 < n) (h16:¬ 16 < n) :
  Calls Tryz.prog 196 #[.slice ao n c] w fun e w'=>e=.returned (.tuple #[.agg #[.int .i64 (r:Int),.int .u64 (rdA r l),.int .u64 (rdB l)],.int .i64 0])/\Below w.heap.size w w':=by
 obtain⟨hl,W,hcm⟩:=By.lens h;have R:=fun w' (hB:Below w.heap.size w w')=>mQ (h.keep hB) hl N
 have F:=wC r hr V;obtain⟨⟨f0,f1,f2⟩,hf⟩:∃ f,Hid (fIn l=f):=⟨_,rfl⟩
 have Y:f0=(n:Int):=by have:=hf.out;rw[fIn,hl] at this;cases this;rfl
 subst Y;rw[hf.out] at R E;rw[E] at F;simp only[fv] at R F;have u2:=fun w'=>mf (w:=w') hr E
 obtain⟨x0,K⟩:∃ x,l[0]?=some x:=⟨l[0]'(by omega),List.getElem?_eq_getElem _⟩
 obtain⟨b,o,rfl,_⟩:=By.at h K;have HB:=aS h
 have nr:¬ ((r:Int)=0):=by omega
 clear h E K
 have g8:((8:Int) < n):=by omega
 have vA:=fun w=>et (w:=w) (n:=n) (x:=f1) (y:=f2)
 rw[decide_eq_true g8] at vA
 have U:¬ ((16:Int) < n):=by omega
 have vB:=fun w=>fS (w:=w) (n:=n) (x:=f1) (y:=f2)
 rw[decide_eq_false U] at vB
 have mA:True:=trivial
 have mB:True:=trivial
 have Z:Hid (rdA r l=tn r (bv ((l.drop 1).take 8))):=by show _=_;rw[rdA,if_pos (by omega)]
 have Q:Hid (rdB l=0):=by show _=_;rw[rdB,if_neg (by omega)]
 rw[Z.out,Q.out];go_enter Tryz.func196,Tryz.ntmps196;go_wp2_with first
  | (go_at_call 246;refine(R _ (aa _ _)).mono ?_;rintro e O ⟨rfl,b1⟩)
  | (go_at_call 247;refine(u2 _).mono ?_;rintro e v ⟨rfl,P⟩;have al:=aa v (.cells #[.int .i64 (r:Int),.int .u64 0,.int .u64 0] 103);have T:=ae (aa O (.cells #[.int .i64 (n:Int),.int .u8 f1,.int .u8 f2] 204)) P;have q:=(((aj w [.int .i64 0,.int .u64 0,.int .u64 0] 103).keep b1).keep T).keep al;have A:=((aj O [.int .i64 (n:Int),.int .u8 f1,.int .u8 f2] 204).keep P).keep al;have j:=aj v [.int .i64 (r:Int),.int .u64 0,.int .u64 0] 103;have H:=ae (ae (ae (aa w (.cells #[.int .i64 0,.int .u64 0,.int .u64 0] 103)) b1) T) al;have lt1:w.heap.size < O.heap.size:=Nat.lt_of_lt_of_le (by simp) b1.size;have lt2:O.heap.size < v.heap.size:=Nat.lt_of_lt_of_le (by simp) P.size;have p0_2:=j.cell (i:=0) rfl;have p1_2:=j.cell (i:=1) rfl;have p2_2:=j.cell (i:=2) rfl;have g0_2:=A.cell (i:=0) rfl;have g1_2:=A.cell (i:=1) rfl;have g2_2:=A.cell (i:=2) rfl;have q0_2:=q.cell (i:=0) rfl;have q1_2:=q.cell (i:=1) rfl;have q2_2:=q.cell (i:=2) rfl;have y0_2:=q.free 0;have ac:=q.free 1;have y2_2:=q.free 2;have x0_2:=j.free 0;have x1_2:=j.free 1;have x2_2:=j.free 2;replace j:=aS j;replace A:=aS A;replace q:=aS q;replace H:=aS H;clear b1 P T al)
  | (go_at_call 106;have gate:=mA;clear gate;go_must (refine(vA _).mono ?_);clear mA;rintro e L ⟨rfl,J⟩;have d:=j.out.keep J;have B:=A.out.keep J;have m:=q.out.keep J;have D:=ae H.out J;have ab:=d.cell (i:=0) rfl;have p1_3:=d.cell (i:=1) rfl;have p2_3:=d.cell (i:=2) rfl;have g0_3:=B.cell (i:=0) rfl;have g1_3:=B.cell (i:=1) rfl;have g2_3:=B.cell (i:=2) rfl;have q0_3:=m.cell (i:=0) rfl;have q1_3:=m.cell (i:=1) rfl;have q2_3:=m.cell (i:=2) rfl;have y0_3:=m.free 0;have y1_3:=m.free 1;have y2_3:=m.free 2;have ad:=d.free 0;have x1_3:=d.free 1;have x2_3:=d.free 2;replace d:=aS d;replace B:=aS B;replace m:=aS m;replace D:=aS D;clear J)
 have hS:L.drew.cell? ⟨v.heap.size,0,none⟩=some (.int .i64 (r:Int)):=d.out.drew.cell rfl;have BY:=(HB.out.keep D.out).drew;have bb:=gW 8 ((l.drop 1).take 8) (fun y hy=>HB.out.oct y (List.mem_of_mem_drop (List.mem_of_mem_take hy))) (by rw[List.length_take,List.length_drop];omega);rw[show (256:Int) ^ 8=18446744073709551616 by decide] at bb;refine bU (S:=fun w'=>w'.cell? ⟨v.heap.size,0,none⟩=some (.int .i64 (r:Int))) (by kernel_rfl) hS ?_
 refine aD 0 17 (.pointer (some ⟨v.heap.size,0,none⟩)) hS ?_
 refine aQ 1 (some 18) (.int .i64 (r:Int)) 3 17 v.heap.size 0 (fun w' h=>gH h) hS ?_
 refine aD 2 19 (.slice (some ⟨b,o,none⟩) n c) hS ?_
 refine aD 3 20 (.slice (some ⟨b,o+1,none⟩) (n - 1) (c - 1)) hS ?_ (hy:=fun _ _=>kz (x:=19) (by kernel_rfl) (by kernel_rfl) (by omega) (by omega) W);refine cn 4 (some 21) 248 #[.slice (some ⟨b,o+1,none⟩) (n - 1) (c - 1)] (eW (By.drop BY 1 (by omega)) (by rw[List.length_drop];omega) (by omega) (by omega)) ?_
 rintro e' w4 ⟨rfl,rfl⟩;refine⟨_,rfl,hS,cn 5 (some 22) 109 #[.int .i64 (r:Int),.int .u64 (bv ((l.drop 1).take 8))] (gN bb.1 bb.2) ?_⟩;rintro e' w5 ⟨rfl,rfl⟩;refine⟨.int .u64 (tn r (bv ((l.drop 1).take 8))),rfl,hS,aD 6 23 (.pointer (some ⟨v.heap.size,1,none⟩)) hS ?_⟩;refine aG [7] (cU 7 (L.drew.setCell ⟨v.heap.size,1,none⟩ (.int .u64 (tn r (bv ((l.drop 1).take 8))))) (l4 23 22 (by kernel_rfl) (by kernel_rfl) (by kernel_rfl) (d.out.drew.cell (i:=1) rfl) (d.out.drew.free 1)) ((d.out.drew.setCell (i:=1) _).cell (i:=0) rfl) ?_ aW);refine bj ?_
 simp only[Act.put,List.setIfInBounds_toArray,List.set_cons_zero,List.set_cons_succ]
 have t:Blk (L.drew.setCell ⟨v.heap.size,1,none⟩ (.int .u64 (tn r (bv ((l.drop 1).take 8))))) v.heap.size [.int .i64 (r:Int),.int .u64 (tn r (bv ((l.drop 1).take 8))),.int .u64 0] 103:=d.out.drew.setCell (i:=1) _;have z:=B.out.drew.off (g':=v.heap.size) (by omega) (i:=1) (.int .u64 (tn r (bv ((l.drop 1).take 8))));have g:=m.out.drew.off (g':=v.heap.size) (by omega) (i:=1) (.int .u64 (tn r (bv ((l.drop 1).take 8))));have I:=(ae D.out (cJ L)).setCell (p:=⟨v.heap.size,1,none⟩) (show w.heap.size<=v.heap.size by omega) (.int .u64 (tn r (bv ((l.drop 1).take 8))));generalize hX5:L.drew.setCell ⟨v.heap.size,1,none⟩ (.int .u64 (tn r (bv ((l.drop 1).take 8))))=X5 at *;clear hX5;generalize hAV:tn r (bv ((l.drop 1).take 8))=AV at *;have X:=aS hAV;clear hAV;have p0_5:=t.cell (i:=0) rfl;have p1_5:=t.cell (i:=1) rfl;have p2_5:=t.cell (i:=2) rfl;have g0_5:=z.cell (i:=0) rfl;have g1_5:=z.cell (i:=1) rfl;have g2_5:=z.cell (i:=2) rfl;have q0_5:=g.cell (i:=0) rfl;have q1_5:=g.cell (i:=1) rfl;have q2_5:=g.cell (i:=2) rfl;have y0_5:=g.free 0;have y1_5:=g.free 1;have y2_5:=g.free 2;have x0_5:=t.free 0;have x1_5:=t.free 1;have x2_5:=t.free 2;replace t:=aS t;replace z:=aS z;replace g:=aS g;replace I:=aS I;clear BY bb hS;go_wp2_with (go_at_call 107;have gate:=mB;clear gate;go_must (refine(vB _).mono ?_);clear mB;rintro e w6 ⟨rfl,M⟩;have u:=t.out.keep M;have C:=z.out.keep M;have s:=g.out.keep M;have G:=ae I.out M;have p0_6:=u.cell (i:=0) rfl;have p1_6:=u.cell (i:=1) rfl;have p2_6:=u.cell (i:=2) rfl;have g0_6:=C.cell (i:=0) rfl;have g1_6:=C.cell (i:=1) rfl;have g2_6:=C.cell (i:=2) rfl;have q0_6:=s.cell (i:=0) rfl;have q1_6:=s.cell (i:=1) rfl;have q2_6:=s.cell (i:=2) rfl;have y0_6:=s.free 0;have y1_6:=s.free 1;have y2_6:=s.free 2;have x0_6:=u.free 0;have x1_6:=u.free 1;have x2_6:=u.free 2;replace u:=aS u;replace C:=aS C;replace s:=aS s;replace G:=aS G;clear M);refine bodyPost_ret (fa rfl rfl rfl (pG (sN s.out _ _ _))) rfl ?_
 refine⟨?_,ja G.out _ _ _⟩
 show Ending.returned (.tuple #[.agg #[.int .i64 (r:Int),.int .u64 AV,.int .u64 0],.int .i64 0])=_
 rw[<- X.out]
end Ky
end
section
namespace Pw
open Go.RowKit Go.Lib Pg Kv Bk
attribute [local go_sem] Oper.semAt_some
section
variable {W0:World}{Wn:List aA}
theorem rE{K D X:Nat→Prop}{g bk bs x0 N r:Nat}{m0:Int}{E:aA}(hS:SA W0 K D g E Wn x0 N)(hbs:Blk W0 bs [.pointer (some ⟨g,0,none⟩)] 46)(hXb:¬ X bs)(hbk:Blk W0 bk [.int .i64 r] 3)(hXk:¬ X bk)(hr:r < 18)(hr0:0 < r)(h9:(Ky.frm r).1=9)(hOf:∀ w,Calls Tryz.prog 194 #[.int .i64 r] w fun e w'=>∃ v,e=.returned (.tuple #[v,.int .i64 0])∧OB w' (w.heap.size≤·) v [m0]∧Below w.heap.size w w')(hRk:∀ x ∈ E,[m0] <+: x.1→Ky.frm r=Ky.fIn x.1)(hX1:∀ b,X b→b=g∨¬ K b)(hXl:∀ b,X b→b < W0.heap.size)(hN:N≤100000000)(hx:x0+N≤2000000000000000000) :
    ItrE W0 TpU g x0 193 #[.pointer (some ⟨bk,0,none⟩),.pointer (some ⟨bs,0,none⟩)] (pks r m0 E).length (ArP r (pks r m0 E)) (RdS W0 X K D g E Wn N):=by
  intro l J0 J Jt Jx W hNB hW0 hS0 hSJ hSt hSx hgW L hJ hY h0;obtain⟨_,_,⟨c0,u0,xx,s0⟩,_⟩:= L _ h0;have B1:=aa W (.cells #[.func (.yield l) #[] #[]] 288);have Y1:=aj W [.func (.yield l) #[] #[]] 288
  have s1:(W.alloc (.cells #[.func (.yield l) #[] #[]] 288)).heap.size=W.heap.size+1:=by simp
  obtain⟨Wa,M⟩:∃ Wa,Hid (W.alloc (.cells #[.func (.yield l) #[] #[]] 288)=Wa):=⟨_,rfl⟩;rw[M.out] at B1 Y1 s1;have ac:=hbs.chg c0 hXb
  have cK:(W.alloc (.cells #[.func (.yield l) #[] #[]] 288)).cell? ⟨bk,0,none⟩=some (.int .i64 r):=by rw[M.out];exact((hbk.chg c0 hXk).keep B1).cell (i:=0) rfl
  have hK0:∀ b,K b→b < W0.heap.size:=fun b hb=>hS.lt hb
  have HX':Hid (∀ b,(X b∨(W0.heap.size≤b∧b < W.heap.size))→b=g∨¬ K b):=ax (fun b hb=>hb.elim (hX1 b) (fun h=>.inr (fun hk=>by have:=hK0 b hk;omega)))
  have Z:Hid (∀ b,(X b∨(W0.heap.size≤b∧b < W.heap.size))→b < W.heap.size):=ax (fun b hb=>hb.elim (fun h=>Nat.lt_of_lt_of_le (hXl b h) hW0) (fun h=>h.2))
  have HXU:Hid (∀ b,(X b∨(W0.heap.size≤b∧b < W.heap.size))→∀ cs,¬ Blk W b cs 5):=ax (fun b hb=>hb.elim (u0 b) (fun h=>hNB b h.1));have HY:=ax hY;have HJ:=ax hJ;have HJ0:=ax L;have H0:=ax h0;have HS:=ax s0;have q:=ax c0;have m:=ax B1;have HY1:=ax Y1;have HBS:=ax ac;clear L hJ hY h0 s0 c0 B1 Y1 ac hNB u0;refine(callsIn_wide (n:=0)).1 ?_
  refine callsIn_of_wp_marks Tryz.func193 rfl trivial ?_ rfl;simp only[Tryz.ntmps193,List.size_toArray,List.length_cons,List.length_nil,Nat.reduceAdd,Nat.reduceSub,Array.replicate_succ,Array.replicate_zero,List.push_toArray,List.append_toArray,List.nil_append,List.cons_append];gi_wp2_with first
    | (refine⟨trivial,rfl,?_⟩;gi_at_call 194;rw[M.out];refine(callsIn_wide.2 (hOf _)).mono ?_;rintro e' w1 ⟨v1,rfl,O1,z⟩;have cB:=(HBS.out.keep (ae m.out z)).cell (i:=0) rfl;have tP:=sy (Tp:=TpU) (X:=fun b=>X b∨(W0.heap.size≤b∧b < W.heap.size)) (HS.out.keep (ae m.out z)) hN O1.by (by simp) HX'.out (fun b hb cs k=>HXU.out b hb cs ⟨by rw[← (ae m.out z).block b (Z.out b hb)];exact k.blk⟩) (fun b hb=>Nat.lt_of_lt_of_le (Z.out b hb) (ae m.out z).size) (by unfold TpU;decide) (by unfold TpU;decide);obtain⟨pa,pc,rfl⟩:= O1.shape)
    | (refine⟨trivial,rfl,?_⟩;gi_at_call 195;refine(callsIn_wide.2 tP).mono ?_;rintro e' d ⟨v2,EL,rfl,IG,u,t⟩;obtain⟨bs1,bs2,bw,W1,rfl,IT,ab,hb1,p⟩:= IG.ex;have R:=IG.small;clear tP IG)
  have O:=ae (ae m.out z) t
  have hw1:W.heap.size+1≤w1.heap.size:=by have:=z.size;omega
  have hw2:W.heap.size+1≤d.heap.size:=Nat.le_trans hw1 t.size;have YB:=(HY1.out.keep z).keep t
  have hlen:(pks r m0 E).length=EL.length:=by simp[pks,← u]
  have hle:EL.length≤N:=by
    have h1:=HS.out.size
    have h2:(EL.map En.kl2).length≤E.length:=by rw[u];exact List.length_filter_le _ _
    rw[List.length_map] at h2;omega
  have ITC:=la (g:=g) (bs1:=bs1) (bs2:=bs2) (x0:=x0) IT (by unfold TpU;decide) (by omega);have J2:=hS0 _ _ H0.out (Rec.of O)
  have E2:Ext W.heap.size d d:=⟨fun _ _ _=>rfl,Nat.le_refl _⟩
  have RDC : Hid (∀ V, RdS W0 X K D g E Wn N V → Ext W.heap.size d V → RdC (fun b => X b ∨ (W0.heap.size ≤ b ∧ b < W.heap.size)) W1 g bs1 bs2 bw V) := ax (fun V hR P => by
    obtain⟨c1,_,x,s1⟩:= hR;obtain⟨r1,r2,r3,_⟩:= ab;refine⟨⟨?_,?_,?_,Nat.le_trans r1.size P.2,fun b hb hn=>?_⟩,P.blk r2 (by omega),P.blk r3 (by omega),s1.kv⟩
    · rw[c1.os,← q.out.os,← O.os,r1.os]
    · rw[c1.tape,← q.out.tape,← O.tape,r1.tape]
    · rw[c1.output,← q.out.output,← O.output,r1.output]
    · rw[← r1.same b hb hn]
      rw[not_or] at hn;rcases Nat.lt_or_ge b W0.heap.size with h1 | h1
      · rw[c1.same b h1 hn.1,O.block b (by omega),q.out.same b h1 hn.1]
      · exact P.1 b (by omega) (Nat.lt_of_lt_of_le hb r1.size))
  have T:=ax u;have HSM:=ax R;have HYB:=ax YB;clear u R YB z t ab O1 cB IT O m HY1;refine oh ITC (by rfl) (enters_of Tryz.func303 (by kernel_rfl) rfl) (fun i args n V V' h hc=>h.cel hc) (fun i args n V h=>by obtain⟨e,kv,vv,s,_,rfl,_⟩:= h;rfl)
    (fun V=>J0 V∧Ext W.heap.size d V)
    (fun i V=>J d i V∧Ext W.heap.size d V)
    (fun i V=>Jt d i V∧Ext W.heap.size d V)
    (fun c i V=>c=.ret∧Jx d i V∧d.heap.size≤V.heap.size)
    (fun A B hx hr=>⟨hS0 A B hx.1 (hr.mono (by omega)),hx.2.rcd hr⟩)
    (fun i A B hx hr=>⟨hSJ d i A B hx.1 (hr.mono (by omega)),hx.2.rcd hr⟩)
    (fun i A B hx hr=>⟨hSt d i A B hx.1 (hr.mono (by omega)),hx.2.rcd hr⟩)
    (fun c i A B hx hr=>⟨hx.1,hSx d i A B hx.2.1 (hr.mono (by omega)),Nat.le_trans hx.2.2 hr.size⟩)
    (by omega)
    (fun V hv=>by obtain⟨q1,q2,q3,q4⟩:= HJ0.out V hv.1;exact⟨q1,q2,RDC.out V q3 hv.2,q4 d (by omega) (fy.of hv.2),hv.2.tick hgW⟩)
    (fun i V hv=>by obtain⟨q1,q2,q3,q5,q4⟩:= HJ.out d i V hv.1;exact⟨q1,q2,RDC.out V q3 hv.2,fun hi=>⟨q4 (by omega),hv.2.tick hgW⟩⟩)
    ⟨J2,E2⟩ ?_ ?_ ?_
  · rintro l2 i args V Wv hl hlV hrec hiN ⟨hJi,Q⟩ hb ⟨e0,kv,vv,s0,o,rfl,hk0,hv0,_⟩
    obtain⟨ak0,nk,hk1⟩:= hk0.shape;obtain⟨av,nv,hv1⟩:= hv0.shape;subst hk1 hv1;simp;gi_wp2;refine⟨Below.refl _ _,?_⟩;intro V2 W2 hJ2 f p Y hoth hsz3 hV2 rl hrec2;obtain⟨e1,kv1,vv1,t1,C,y,j,hv2,ht1⟩:= Y;obtain rfl:e1=e0:=by rw[o] at C;cases C;rfl
    simp at y;obtain⟨rfl,rfl⟩:= y
    have G:e1.kl2 ∈ E.filter (fun x=>decide ([m0] <+: x.1)):=by rw[← T.out];exact List.mem_map.2 ⟨e1,List.mem_of_getElem? o,rfl⟩
    have H:=hRk _ (List.mem_filter.1 G).1 (of_decide_eq_true (List.mem_filter.1 G).2);have hn9:=(Ky.By.lens j.by).1
    have h9':((e1.kl.length:Nat):Int)=9:=by have h:=h9;rw[H] at h;exact h
    have tA:=Ky.wK j.by (HSM.out e1 (List.mem_of_getElem? o)).1 hr hr0 H (by omega) (by omega)
    clear hn9 h9'
    have U:(pks r m0 E)[i]?=some (Ky.rdA r e1.kl,Ky.rdB e1.kl):=by simp[pks,← T.out,o,En.kl2]
    have yB:=f.blk HYB.out (Nat.le_refl _);have HE2:=ax f;have HYY:=ax (HY.out d i #[.agg #[.int .i64 (r:Int),.int .u64 (Ky.rdA r e1.kl),.int .u64 (Ky.rdB e1.kl)]] V2);have HJT:=ax hJ2;have F:=ax p
    have hs2:d.heap.size≤V2.heap.size:=f.2
    have hs3:V2.heap.size≤W2.heap.size:=p.size;have HYV:=ax (yB.keep p);have S:=ax U;clear G H hJi Q hb hk0 hv0 j hv2 hoth f hJ2 p yB C o ht1 U;obtain⟨cc,hcc⟩:∃ cc,Hid (Ky.rdA r e1.kl=cc):=⟨_,rfl⟩;obtain⟨ss,hss⟩:∃ ss,Hid (Ky.rdB e1.kl=ss):=⟨_,rfl⟩;simp only[hcc.out,hss.out] at tA HYY S;gi_wp2_with (refine⟨trivial,rfl,?_⟩;gi_at_call 196;refine(CallsIn.inRound l2 (callsIn_wide.2 tA)).mono ?_;rintro e' w3 ⟨rfl,t⟩;clear tA;have B4:=aa w3 (.cells #[.int .i64 (r:Int),.int .u64 cc,.int .u64 ss] 103);have yC:=(HYV.out.keep (ae t B4)).cell (i:=0) rfl;have hYY:=HYY.out _ (by omega) (by omega) HJT.out (by omega) (ae F.out (ae t B4)) ⟨_,S.out,rfl⟩;obtain⟨fn,tmps,assign,body,hy,hR⟩:= hYY;have hR2:RoundIn (Fence.wide.inRound l2) 0 Tryz.prog l fn tmps assign body (w3.alloc (.cells #[.int .i64 (r:Int),.int .u64 cc,.int .u64 ss] 103)) _:=⟨hR.1,fun c cs _=>hR.2 c cs (fun _ h=>by cases h)⟩;have HR:=ax hR2;have HK:=ax (ae t B4);clear hR hR2 t B4);refine⟨rfl,HR.out.mono ?_⟩;rintro e' w5 ⟨hk5,h5⟩
    have I:aZ TpU W.heap.size W2 w5:=(aZ.of HK.out).trans hk5
    have j:aZ TpU d.heap.size W2 w5:=I.mono (by omega);rcases h5 with⟨rfl,hJ5⟩ | ⟨rfl,hJ5⟩
    · gi_wp2
      exact⟨j,hJ5,Ext.mix (HE2.out.keep F.out) I (HJ.out d (i+1) w5 hJ5).2.2.2.1⟩
    · gi_wp2
      exact⟨j,rfl,hJ5,Nat.le_trans (HE2.out.keep F.out).2 I.size⟩
  · rintro D' W' hD hK ⟨hJn,P⟩
    gi_wp2;refine⟨by simp,.inl ⟨_,_,rfl,run_takeDeferred hK,?_⟩⟩;have:=P.2;exact⟨_,results_none rfl _ _ _,⟨_,rfl⟩,by simp;omega,d,by omega,.inl (by rw[hlen];exact hSJ d _ _ _ hJn (Rec.put hK rfl (by omega) _))⟩
  · rintro D' c i W' hD hK hiN ⟨rfl,hJx',hsz⟩
    gi_wp2;refine⟨by simp,.inl ⟨_,_,rfl,run_takeDeferred hK,?_⟩⟩;exact⟨_,results_none rfl _ _ _,⟨_,rfl⟩,by simp;omega,d,by omega,.inr ⟨i,by omega,hSx d (i+1) _ _ hJx' (Rec.put hK rfl (by omega) _)⟩⟩
end
end Pw
end
end Go.Proofs.YtpoifdokmjhclaaGreat
