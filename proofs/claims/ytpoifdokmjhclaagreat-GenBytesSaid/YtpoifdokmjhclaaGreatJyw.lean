import Derived.Test.YtpoifdokmjhclaaGreatJyv
set_option maxRecDepth 100000
set_option maxHeartbeats 8000000
namespace Go.Proofs.YtpoifdokmjhclaaGreat
section
namespace Pw
open Go.RowKit Go.Lib Pg Lim Gl Kv Bk
attribute [local go_sem] Oper.semAt_some
set_option linter.unusedVariables false
section
variable {w:World}{k a b v tk:Int}{B g n N:Nat}{K:Nat->Prop}{E:aD}{W:List aD}{kv:Value}
theorem qG(d:0<=a/\a < 18446744073709551616)(c:Ky.mkE k a b=false):CP 72 #[.agg #[.int .i64 k,.int .u64 a,.int .u64 b]] w λe w'=>∃ v,e=.returned (.tuple #[v,.int .i64 0])/\ByU w' v (Ky.mk k a b)/\BW w w':=by
 refine(Ks.mk_g d c).mono ?_
 rintro e w' ⟨v,rfl,O,B⟩;exact⟨v,rfl,ByU.of O,B⟩
theorem wM(w:World):ByU w (.slice none 0 0) []:=⟨⟨none,0,rfl,Nat.le_refl _,by decide,λ_=>rfl,λx h=>by simp at h,.inl rfl⟩,λb o n c e=>by cases e⟩
theorem mk_pos(_hE:Ky.mkE k a b=false):0 < (Ky.mk k a b).length:=by
 rw[Ky.mk_eq (k:=k) (n:=(Ky.frm k).1) (m0:=(Ky.frm k).2.1) (m1:=(Ky.frm k).2.2) rfl];simp
theorem set_mk(hE:Ky.mkE k a b=false):gV (Ky.mk k a b) []=0:=by
 have h1:=mk_pos hE;have h2:=Ky.nV k a b;unfold gV;rw[if_neg (by omega),if_neg (by simp)]
theorem Dw(h:Sx B w K g E W n N)(hk:ByU w kv (Ky.mk k a b))(c:Ky.mkE k a b=false)(hn:n<=4000000000000000000)(d:N+2<=100000000) :
  CP 86 #[pg g,kv,.slice none 0 0] w (SxE B w K g (put E (Ky.mk k a b) []) W (n+1) (N+2) (.int .i64 0)):=by
 have u:=xset h hk (wM w) hn d;rw[set_mk c,if_pos rfl] at u;exact u
theorem vX(h:Sx B w K g E W n N)(p:0<=a/\a < 18446744073709551616)(m:Ky.mkE k a b=false)(hn:n+5<=4000000000000000000:=by omega)(t:N+5<=100000000:=by omega):CP 197 #[pg g,.agg #[iI k,iU a,iU b],bT] w (SxE B w K g (put E (Ky.mk k a b) []) W (n+1) (N+2) (.tuple #[])):=by
 have A:=h.at
 refine af (n:=21) Tryz.func197 rfl ?_
 refine sr<|ta 4 [iI k,iU a,iU b] 103 (pg) ?_
 intro v1 q c i B;obtain⟨o,d,A⟩:=A.al i B;refine nx<|tlr 9 [iI k,iU a,iU b] c 0<|tc 10 72 #[.agg #[iI k,iU a,iU b]] (qG p m) ?_
 rintro _ u ⟨e,rfl,j,B⟩;have A:=A.keep B;have c:=c.keep B;refine⟨_,rfl,tz 5<|nt<|ag<|sr<|tz 2<|nt<|aA [(0,pg g),(6,e),(14,bF)]<|nk<|aN<|tz 2<|tc 20 86 #[pg g,e,zS] (Dw A.sx j m (by omega) (by omega)) ?_⟩;rintro _ s ⟨rfl,r,S,l,f⟩;obtain⟨c,d⟩:=gm c d l f;have j:=A.byu j f;have A:=A.op S l f;refine⟨_,rfl,aO<|bh (.tuple #[]) (rs0) ?_⟩;exact⟨rfl,_,A.sx,A.km,A.cc⟩
theorem xY:cB 289 #[iU v,iU tk] w (.agg #[iI 10,iU tk,iU v]):=by
 have b:=Below.refl w.heap.size w;refine af (n:=8) Tryz.func289 rfl ?_
 refine sr<|ta 4 [.int .i64 0,.int .u64 0,.int .u64 0] 103 (pg) ?_
 intro v1 e a c B;have b:=ae b B;refine nx<|tz 3<|tsw a [.int .i64 10,.int .u64 tk,.int .u64 v] ?_
 intro d Y C;have b:=aF b C;have a:=Y;refine nr<|ah (.agg #[.int .i64 10,.int .u64 tk,.int .u64 v]) (rsc (T:=103) 4 (lr a 0)) ?_
 exact⟨rfl,b⟩
theorem mkE10(tk v:Int):Ky.mkE 10 tk v=false:=by
 unfold Ky.mkE;rw[show (Ky.frm 10).1=17 from rfl];simp
theorem mkE11(v:Int):Ky.mkE 11 v 0=false:=by
 unfold Ky.mkE;rw[show (Ky.frm 11).1=9 from rfl];simp
theorem j9(h:Sx B w K g E W n N)(a:0<=tk/\tk < 18446744073709551616)(hn:n+5<=4000000000000000000)(f:N+5<=100000000):CP 235 #[pg g,iU v,iU tk] w (SxE B w K g (put E (Ky.mk 10 tk v) []) W (n+1) (N+2) (.tuple #[])):=by
 have A:=h.at
 refine af (n:=11) Tryz.func235 rfl ?_
 refine aN<|tz 3<|tc 9 289 #[.int .u64 v,.int .u64 tk] (xY) ?_
 rintro _ v1 ⟨rfl,B⟩;have A:=A.keep B;refine⟨_,rfl,tc 10 197 #[pg g,.agg #[.int .i64 10,.int .u64 tk,.int .u64 v],.bool true] (vX A.sx a (mkE10 tk v)) ?_⟩;rintro _ d ⟨rfl,e,S,c,b⟩;have A:=A.op S c b;refine⟨_,rfl,aO<|bh (.tuple #[]) (rs0) ?_⟩;exact⟨rfl,_,A.sx,A.km,A.cc⟩
theorem Ea(h:Sx B w K g E W n N)(hv:0<=v/\v < 18446744073709551616)(hn:n+5<=4000000000000000000)(c:N+5<=100000000):CP 148 #[pg g,iU v,bT] w (SxE B w K g (put E (Ky.mk 11 v 0) []) W (n+1) (N+2) (.tuple #[])):=by
 have A:=h.at
 refine af (n:=11) Tryz.func148 rfl ?_
 refine aN<|tz 4<|tc 10 197 #[pg g,.agg #[.int .i64 11,.int .u64 v,.int .u64 0],.bool true] (vX A.sx hv (mkE11 v)) ?_
 rintro _ v2 ⟨rfl,d,S,b,a⟩;have A:=A.op S b a;refine⟨_,rfl,aO<|bh (.tuple #[]) (rs0) ?_⟩;exact⟨rfl,_,A.sx,A.km,A.cc⟩
end
end Pw
end
section
namespace Pw
open Go.RowKit Go.Lib Pg Kv Bk
attribute [local go_sem] Oper.semAt_some
section
variable {w W0:World}{p:Option Addr}{r:Nat}{Wn:List aD}
def TpU(t:TypeId):Prop:=t=22
def pks(r:Nat)(m0:Int)(E:aD):List (Int × Int):=(E.filter (λx=>decide ([m0] <+: x.1))).map (λx=>(Ky.rdA r x.1,Ky.rdB x.1))
def ArP(r:Nat)(ps:List (Int × Int))(i:Nat)(args:Array Value)(_:Nat)(_:World):Prop:=∃ c,ps[i]?=some c/\args=#[.agg #[.int .i64 (r:Int),.int .u64 c.1,.int .u64 c.2]]
theorem of10(w:World):CP 194 #[.int .i64 (10:Nat)] w λe w'=>∃ v,e=.returned (.tuple #[v,.int .i64 0])/\OB w' (w.heap.size <= ·) v [105]/\BW w w':=Ky.np (k:=10)
theorem of11(w:World):CP 194 #[.int .i64 (11:Nat)] w λe w'=>∃ v,e=.returned (.tuple #[v,.int .i64 0])/\OB w' (w.heap.size <= ·) v [98]/\BW w w':=Ky.np (k:=11)
theorem oN:Calls Tryz.prog 147 #[.pointer p,.int .i64 r] w λe w'=>∃ bs bk,e=.returned (.func (.func 193) #[] #[.pointer (some ⟨bk,0,none⟩),.pointer (some ⟨bs,0,none⟩)])/\w.heap.size<=bs/\w.heap.size<=bk/\Blk w' bs [.pointer p] 46/\Blk w' bk [.int .i64 r] 3/\BW w w':=by
 have b1:=aa w (.cells #[.pointer p] 46);have c1:=ay w [.pointer p] 46;have b:=aa (w.alloc (.cells #[.pointer p] 46)) (.cells #[.int .i64 r] 3);have c2:=ay (w.alloc (.cells #[.pointer p] 46)) [.int .i64 r] 3;go_enter Tryz.func147,Tryz.ntmps147;go_wp2;go_ret;exact⟨_,_,rfl,Nat.le_refl _,by simp,c1.keep b,by simpa using c2,ae b1 b⟩
theorem nE{K D X:Nat→Prop}{g bk bs x0 N:Nat}{m0:Int}{E:aD}(hS:SA W0 K D g E Wn x0 N)(hbs:Blk W0 bs [.pointer (some ⟨g,0,none⟩)] 46)(hXb:¬ X bs)(hbk:Blk W0 bk [.int .i64 r] 3)(hXk:¬ X bk)(hOf:∀ w,Calls Tryz.prog 194 #[.int .i64 r] w λe w'=>∃ v,e=.returned (.tuple #[v,.int .i64 0])∧OB w' (w.heap.size≤·) v [m0]∧BW w w')(hRk:∀ x ∈ E,[m0] <+: x.1→Ky.frm r=Ky.fIn x.1)(hX1:∀ b,X b→b=g∨¬ K b)(hXl:∀ b,X b→b < W0.heap.size)(hN:N≤100000000)(hx:x0+N≤2000000000000000000)(hr:r < 18:=by decide)(hr0:0 < r:=by decide) :
    ItrE W0 TpU g x0 193 #[.pointer (some ⟨bk,0,none⟩),.pointer (some ⟨bs,0,none⟩)] (pks r m0 E).length (ArP r (pks r m0 E)) (RdS W0 X K D g E Wn N):=by
  intro l J0 J Jt Jx W hNB hW0 hS0 hSJ hSt hSx hgW I hJ hY h0;obtain⟨_,_,⟨c0,u0,xx,s0⟩,_⟩:= I _ h0;have B1:=aa W (.cells #[.func (.yield l) #[] #[]] 288);have Y1:=ay W [.func (.yield l) #[] #[]] 288
  have s1:(W.alloc (.cells #[.func (.yield l) #[] #[]] 288)).heap.size=W.heap.size+1:=by simp
  obtain⟨Wa,L⟩:∃ Wa,Hid (W.alloc (.cells #[.func (.yield l) #[] #[]] 288)=Wa):=⟨_,rfl⟩;rw[L.out] at B1 Y1 s1;have ab:=hbs.chg c0 hXb
  have cK:(W.alloc (.cells #[.func (.yield l) #[] #[]] 288)).cell? ⟨bk,0,none⟩=some (.int .i64 r):=by rw[L.out];exact((hbk.chg c0 hXk).keep B1).cell (i:=0) rfl
  have hK0:∀ b,K b→b < W0.heap.size:=λb hb=>hS.lt hb
  have HX':Hid (∀ b,(X b∨(W0.heap.size≤b∧b < W.heap.size))→b=g∨¬ K b):=aG (λb hb=>hb.elim (hX1 b) (λh=>.inr (λhk=>by have:=hK0 b hk;omega)))
  have U:Hid (∀ b,(X b∨(W0.heap.size≤b∧b < W.heap.size))→b < W.heap.size):=aG (λb hb=>hb.elim (λh=>Nat.lt_of_lt_of_le (hXl b h) hW0) (λh=>h.2))
  have HXU:Hid (∀ b,(X b∨(W0.heap.size≤b∧b < W.heap.size))→∀ cs,¬ Blk W b cs 5):=aG (λb hb=>hb.elim (u0 b) (λh=>hNB b h.1));have HY:=aG hY;have HJ:=aG hJ;have HJ0:=aG I;have H0:=aG h0;have HS:=aG s0;have q:=aG c0;have j:=aG B1;have HY1:=aG Y1;have HBS:=aG ab;clear I hJ hY h0 s0 c0 B1 Y1 ab hNB u0;refine(callsIn_wide (n:=0)).1 ?_
  refine callsIn_of_wp_marks Tryz.func193 rfl trivial ?_ rfl;simp only[Tryz.ntmps193,List.size_toArray,List.length_cons,List.length_nil,Nat.reduceAdd,Nat.reduceSub,Array.replicate_succ,Array.replicate_zero,List.push_toArray,List.append_toArray,List.nil_append,List.cons_append];gi_wp2_with first
    | (refine⟨trivial,rfl,?_⟩;gi_at_call 194;rw[L.out];refine(callsIn_wide.2 (hOf _)).mono ?_;rintro e' w1 ⟨v1,rfl,O1,z⟩;have cB:=(HBS.out.keep (ae j.out z)).cell (i:=0) rfl;have tP:=Dn (Tp:=TpU) (X:=λb=>X b∨(W0.heap.size≤b∧b < W.heap.size)) (HS.out.keep (ae j.out z)) hN O1.by (by simp) HX'.out (λb hb cs k=>HXU.out b hb cs ⟨by rw[← (ae j.out z).block b (U.out b hb)];exact k.blk⟩) (λb hb=>Nat.lt_of_lt_of_le (U.out b hb) (ae j.out z).size) (by unfold TpU;decide) (by unfold TpU;decide);obtain⟨pa,pc,rfl⟩:= O1.shape)
    | (refine⟨trivial,rfl,?_⟩;gi_at_call 195;refine(callsIn_wide.2 tP).mono ?_;rintro e' d ⟨v2,EL,rfl,IG,u,t⟩;obtain⟨bs1,bs2,bw,W1,rfl,IT,Z,hb1,o⟩:= IG.ex;have P:=IG.small;clear tP IG)
  have BW:=ae (ae j.out z) t
  have hw1:W.heap.size+1≤w1.heap.size:=by have:=z.size;omega
  have hw2:W.heap.size+1≤d.heap.size:=Nat.le_trans hw1 t.size;have YB:=(HY1.out.keep z).keep t
  have hlen:(pks r m0 E).length=EL.length:=by simp[pks,← u]
  have hle:EL.length≤N:=by
    have h1:=HS.out.size
    have h2:(EL.map En.kl2).length≤E.length:=by rw[u];exact List.length_filter_le _ _
    rw[List.length_map] at h2;omega
  have ITC:=sc (g:=g) (bs1:=bs1) (bs2:=bs2) (x0:=x0) IT (by unfold TpU;decide) (by omega);have J2:=hS0 _ _ H0.out (Rec.of BW)
  have E2:Ext W.heap.size d d:=⟨λ_ _ _=>rfl,Nat.le_refl _⟩
  have RDC : Hid (∀ V, RdS W0 X K D g E Wn N V → Ext W.heap.size d V → RdC (λb => X b ∨ (W0.heap.size ≤ b ∧ b < W.heap.size)) W1 g bs1 bs2 bw V) := aG (λV hR M => by
    obtain⟨c1,_,x,s1⟩:= hR;obtain⟨r1,r2,r3,_⟩:= Z;refine⟨⟨?_,?_,?_,Nat.le_trans r1.size M.2,λb hb hn=>?_⟩,M.blk r2 (by omega),M.blk r3 (by omega),s1.kv⟩
    · rw[c1.os,← q.out.os,← BW.os,r1.os]
    · rw[c1.tape,← q.out.tape,← BW.tape,r1.tape]
    · rw[c1.output,← q.out.output,← BW.output,r1.output]
    · rw[← r1.same b hb hn]
      rw[not_or] at hn;rcases Nat.lt_or_ge b W0.heap.size with h1 | h1
      · rw[c1.same b h1 hn.1,BW.block b (by omega),q.out.same b h1 hn.1]
      · exact M.1 b (by omega) (Nat.lt_of_lt_of_le hb r1.size))
  have R:=aG u;have HSM:=aG P;have HYB:=aG YB;clear u P YB z t Z O1 cB IT BW j HY1;refine xw ITC (by rfl) (enters_of Tryz.func303 (by kernel_rfl) rfl) (λi args n V V' h hc=>h.cel hc) (λi args n V h=>by obtain⟨e,kv,vv,s,_,rfl,_⟩:= h;rfl)
    (λV=>J0 V∧Ext W.heap.size d V)
    (λi V=>J d i V∧Ext W.heap.size d V)
    (λi V=>Jt d i V∧Ext W.heap.size d V)
    (λc i V=>c=.ret∧Jx d i V∧d.heap.size≤V.heap.size)
    (λA B hx hr=>⟨hS0 A B hx.1 (hr.mono (by omega)),hx.2.rcd hr⟩)
    (λi A B hx hr=>⟨hSJ d i A B hx.1 (hr.mono (by omega)),hx.2.rcd hr⟩)
    (λi A B hx hr=>⟨hSt d i A B hx.1 (hr.mono (by omega)),hx.2.rcd hr⟩)
    (λc i A B hx hr=>⟨hx.1,hSx d i A B hx.2.1 (hr.mono (by omega)),Nat.le_trans hx.2.2 hr.size⟩)
    (by omega)
    (λV hv=>by obtain⟨q1,q2,q3,q4⟩:= HJ0.out V hv.1;exact⟨q1,q2,RDC.out V q3 hv.2,q4 d (by omega) (fQ.of hv.2),hv.2.tick hgW⟩)
    (λi V hv=>by obtain⟨q1,q2,q3,q5,q4⟩:= HJ.out d i V hv.1;exact⟨q1,q2,RDC.out V q3 hv.2,λhi=>⟨q4 (by omega),hv.2.tick hgW⟩⟩)
    ⟨J2,E2⟩ ?_ ?_ ?_
  · rintro l2 i args V Wv hl hlV hrec hiN ⟨hJi,O⟩ hb ⟨e0,kv,vv,s0,m,rfl,hk0,hv0,_⟩
    obtain⟨ak0,nk,hk1⟩:= hk0.shape;obtain⟨av,nv,hv1⟩:= hv0.shape;subst hk1 hv1;simp;gi_wp2;refine⟨Below.refl _ _,?_⟩;intro V2 W2 hJ2 f o T hoth hsz3 hV2 rl hrec2;obtain⟨e1,kv1,vv1,t1,C,y,p,hv2,ht1⟩:= T;obtain rfl:e1=e0:=by rw[m] at C;cases C;rfl
    simp at y;obtain⟨rfl,rfl⟩:= y
    have G:e1.kl2 ∈ E.filter (λx=>decide ([m0] <+: x.1)):=by rw[← R.out];exact List.mem_map.2 ⟨e1,List.mem_of_getElem? m,rfl⟩
    have Y:=hRk _ (List.mem_filter.1 G).1 (of_decide_eq_true (List.mem_filter.1 G).2);have tA:=Ky.CZ p.by (HSM.out e1 (List.mem_of_getElem? m)).1 hr hr0 Y
    have S:(pks r m0 E)[i]?=some (Ky.rdA r e1.kl,Ky.rdB e1.kl):=by simp[pks,← R.out,m,En.kl2]
    have yB:=f.blk HYB.out (Nat.le_refl _);have HE2:=aG f;have HYY:=aG (HY.out d i #[.agg #[.int .i64 (r:Int),.int .u64 (Ky.rdA r e1.kl),.int .u64 (Ky.rdB e1.kl)]] V2);have HJT:=aG hJ2;have F:=aG o
    have hs2:d.heap.size≤V2.heap.size:=f.2
    have hs3:V2.heap.size≤W2.heap.size:=o.size;have HYV:=aG (yB.keep o);have Q:=aG S;clear G Y hJi O hb hk0 hv0 p hv2 hoth f hJ2 o yB C m ht1 S;obtain⟨cc,hcc⟩:∃ cc,Hid (Ky.rdA r e1.kl=cc):=⟨_,rfl⟩;obtain⟨ss,hss⟩:∃ ss,Hid (Ky.rdB e1.kl=ss):=⟨_,rfl⟩;simp only[hcc.out,hss.out] at tA HYY Q;gi_wp2_with (refine⟨trivial,rfl,?_⟩;gi_at_call 196;refine(CallsIn.inRound l2 (callsIn_wide.2 tA)).mono ?_;rintro e' w3 ⟨rfl,t⟩;clear tA;have B4:=aa w3 (.cells #[.int .i64 (r:Int),.int .u64 cc,.int .u64 ss] 103);have yC:=(HYV.out.keep (ae t B4)).cell (i:=0) rfl;have hYY:=HYY.out _ (by omega) (by omega) HJT.out (by omega) (ae F.out (ae t B4)) ⟨_,Q.out,rfl⟩;obtain⟨fn,tmps,assign,body,hy,hR⟩:= hYY;have hR2:RoundIn (Fence.wide.inRound l2) 0 Tryz.prog l fn tmps assign body (w3.alloc (.cells #[.int .i64 (r:Int),.int .u64 cc,.int .u64 ss] 103)) _:=⟨hR.1,λc cs _=>hR.2 c cs (λ_ h=>by cases h)⟩;have HR:=aG hR2;have HK:=aG (ae t B4);clear hR hR2 t B4);refine⟨rfl,HR.out.mono ?_⟩;rintro e' w5 ⟨hk5,h5⟩
    have H:bM TpU W.heap.size W2 w5:=(bM.of HK.out).trans hk5
    have p:bM TpU d.heap.size W2 w5:=H.mono (by omega);rcases h5 with⟨rfl,hJ5⟩ | ⟨rfl,hJ5⟩
    · gi_wp2
      exact⟨p,hJ5,Ext.mix (HE2.out.keep F.out) H (HJ.out d (i+1) w5 hJ5).2.2.2.1⟩
    · gi_wp2
      exact⟨p,rfl,hJ5,Nat.le_trans (HE2.out.keep F.out).2 H.size⟩
  · rintro D' W' hD hK ⟨hJn,M⟩
    gi_wp2;refine⟨by simp,.inl ⟨_,_,rfl,run_takeDeferred hK,?_⟩⟩;have:=M.2;exact⟨_,results_none rfl _ _ _,⟨_,rfl⟩,by simp;omega,d,by omega,.inl (by rw[hlen];exact hSJ d _ _ _ hJn (Rec.put hK rfl (by omega) _))⟩
  · rintro D' c i W' hD hK hiN ⟨rfl,hJx',hsz⟩
    gi_wp2;refine⟨by simp,.inl ⟨_,_,rfl,run_takeDeferred hK,?_⟩⟩;exact⟨_,results_none rfl _ _ _,⟨_,rfl⟩,by simp;omega,d,by omega,.inr ⟨i,by omega,hSx d (i+1) _ _ hJx' (Rec.put hK rfl (by omega) _)⟩⟩
end
end Pw
end
end Go.Proofs.YtpoifdokmjhclaaGreat
