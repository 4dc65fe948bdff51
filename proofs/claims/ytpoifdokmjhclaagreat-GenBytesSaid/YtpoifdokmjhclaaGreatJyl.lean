import Derived.Test.YtpoifdokmjhclaaGreatJyk
set_option maxRecDepth 100000
set_option maxHeartbeats 8000000
namespace Go.Proofs.YtpoifdokmjhclaaGreat
section
open Go.RowKit Lim
theorem Gs {w:World} {x:Addr} {b o:Nat} {l:List Int} (h:AtB w (some x) b o l):∀ j u,(l.map (Value.int .u8))[j]?=some u->w.cell? (x.add j)=some u:=by
 intro j u hu;rw[List.getElem?_map] at hu;rcases Nat.lt_or_ge j l.length with a | a
 ·rw[List.getElem?_eq_getElem a] at hu;simp at hu;subst hu
  have hx:x=⟨b,o,none⟩:=by
   rcases h.loc with e | e
   ·subst e;simp at a
   simpa using e
  subst hx;have:=h.cell j a;rw[cF a] at this;rw[bZ];exact this
 rw[List.getElem?_eq_none a] at hu;simp at hu
theorem xL {w:World} {B n:Nat} {v:Value} {L l:List Int} (h:w.ownsRow B 5 1 v n (L.map (Value.int .u8) ++ l.map (Value.int .u8))) (hn:n=L.length+l.length):cy w B v (L ++ l):=by
 unfold cy;rw[List.length_append,List.map_append,<- hn];exact h
end
section
namespace Rc
open Go.RowKit Go.Lib Pg Lim
attribute [local go_sem] Oper.semAt_some
theorem Blk.byt {B:Nat} {w w':World} {g:Nat} {cs:List Value} {t:TypeId} (h:Blk w g cs t) (b:Byt B w w') (ht:t≠5):Blk w' g cs t:=⟨by rw[b.typ g _ t _ h.blk ht];exact h.blk⟩
theorem ru8 {w:World} {B r:Nat} {v:Value} {L xs:List Int} (f:cy w B v L) (u:B<=w.heap.size) (hX:Blk w r (xs.map (Value.int .u64)) 22) (hL:L.length<=1000000) (hx:xs.length<=1000) :
  Calls Tryz.prog 55 #[v,.slice (some ⟨r,0,none⟩) xs.length xs.length] w λe w'=>∃ v',e=.returned v'/\cy w' B v' (L ++ xs.flatMap (be 8))/\Byt B w w':=by
 have z:=aG f;have C:=aG u;have E:=aG hX
 have hlen:∀ j,((xs.take j).flatMap (be 8)).length<=8 * xs.length:=λj=>by
  rw[List.length_flatMap]
  have e:∀ l:List Int,(l.map (λa=>(be 8 a).length)).sum=8 * l.length:=λl=>by
   induction l with
   | nil=>rfl
   | cons a l ih=>rw[List.map_cons,List.sum_cons,ih,ax,List.length_cons];omega
  rw[e,List.length_take];omega
 have A:=aG hlen;obtain⟨n,hn⟩:∃ n,xs.length=n:=⟨_,rfl⟩
 have o:=aG hn;rw[hn];rw[hn] at hx;clear f u hX hlen hn;go_enter Tryz.func55,Tryz.ntmps55;go_wp2_with fail;go_loopw [0,5] (λtv q wr=>∃ j:Nat,j<=n/\q=.int .i64 j/\cy wr B tv (L ++ (xs.take j).flatMap (be 8))/\Byt B w wr) (λ_ q _=>n - (intOf q).toNat)
 case atStart=>exact⟨0,Nat.zero_le _,rfl,by rw[List.take_zero,List.flatMap_nil,List.append_nil];exact z.out,Byt.of (Below.refl _ _)⟩
 case round =>
  obtain⟨j,F,rfl,c,b⟩:=hrel;by_cases p:j < n
  ·have s:(j:Int) < n:=by omega
   obtain⟨x,d⟩:∃ x,xs[j]?=some x:=⟨_,List.getElem?_eq_getElem (by rw[o.out];exact p)⟩
   have c1:=(Blk.byt E.out b (by decide)).cell (i:=j) (v:=.int .u64 x) (by rw[List.getElem?_map,d];rfl)
   have t:=j9 (n:=8) (x:=x) c (Nat.le_trans C.out b.size) (by decide) (by
    have:=A.out j;rw[List.length_append];rw[o.out] at this
    omega)
   have D:Hid ((L ++ (xs.take j).flatMap (be 8)) ++ be 8 x=L ++ (xs.take (j+1)).flatMap (be 8)):=by
    show _=_
    rw[List.take_add_one,d,List.flatMap_append,List.append_assoc];simp
   rw[D.out] at t;have g:=aG b;obtain⟨M,f⟩:∃ M,Hid (L ++ (xs.take (j+1)).flatMap (be 8)=M):=⟨_,rfl⟩
   rw[f.out] at t;clear c b d;go_wp2_with fail;refine t.mono ?_
   rintro e y ⟨v2,rfl,hm,hb⟩;have m:=aG (show cy y B v2 M/\Byt B w y from⟨hm,g.out.trans hb⟩);clear hm hb t c1 g;go_wp2;refine⟨⟨j+1,by omega,by go_num,?_,m.out.2⟩,by simp[intOf];omega⟩;rw[f.out];exact m.out.1
  obtain rfl:j=n:=by omega
  rw[<- o.out,List.take_length] at c;have m:=aG (And.intro c b);clear c b;go_wp2;go_ret;exact⟨_,rfl,m.out⟩
end Rc
end
section
namespace Rc
open Go.RowKit Go.Lib Pg Lim Gl
section
variable {xs:Nat->Int}{w w':World}{b g bb n c:Nat}{cs:List Value}{l:List Int}{e:Ending}{ao:Option Addr}
def dU(s:RSt):Int:=if bS s.1 s.2.1=0 then 0 else 80
def aP(s:RSt):Nat->Int:=if bS s.1 s.2.1=0 then s.2.2 else λ_=>0
theorem EI{s:RSt}(h:dU s=0):aP s=s.2.2:=by
 unfold dU at h;unfold aP;split at h
 ·rename_i h';rw[if_pos h']
 cases h
theorem D7{s:RSt}(h:¬ dU s=0):aP s=λ_=>0:=by
 unfold dU at h;unfold aP;split at h
 ·exact absurd rfl h
 rename_i h';rw[if_neg h']
theorem lE{s:RSt}{r:Int}(h1:bS s.1 s.2.1=0->r=0/\xs=s.2.2)(a:bS s.1 s.2.1≠0->r=80/\xs=λ_=>0):xs=aP s/\r=dU s:=by
 unfold aP dU;by_cases h:bS s.1 s.2.1=0
 ·rw[if_pos h,if_pos h];exact⟨(h1 h).2,(h1 h).1⟩
 rw[if_neg h,if_neg h];exact⟨(a h).2,(a h).1⟩
theorem But.blk{t:TypeId}(h:But b w w')(X:Blk w g cs t)(hn:g≠b):Blk w' g cs t:=X.same (h.block g X.lt hn)
theorem aU(h:Chg (·=g) w w'):But g w w':=⟨h.os,h.tape,h.output,h.size,λb hb hne=>h.same b hb hne⟩
def u8V:Value->Bool
 | .int .u8 _=>true
 | _=>false
theorem RfA.dc{g':Nat}{err:Int}{t:TypeId}(h:RfA w g b err l)(X:Blk w g' cs t)(a:cs.any u8V=false)(d:g≠g')(f:But g' w w'):RfA w' g b err l:=by
 obtain⟨i,n,c,Y,A⟩:=h.ex
 exact⟨i,n,c,⟨by rw[f.block g Y.lt d]; exact Y.blk⟩,A.but ⟨X.blk⟩ (λv hv x e=>by
  have:=List.any_eq_false.1 a v hv;rw[e] at this
  exact this rfl) f⟩
theorem jU{s:RSt}(o:Nat)(h:RfA w g b s.1 s.2.1):CP 25 #[pg g,.int .i64 8] w λe w'=>∃ s',s'=rnx 0 o s/\e=.returned (.int .u64 (s'.2.2 o))/\RfA w' g b s'.1 s'.2.1/\But g w w':=by
 refine(rfU (m:=8) h).mono ?_
 rintro e w' ⟨rfl,R,U⟩;refine⟨_,rfl,?_,R,U⟩;simp[rnx,p1]
theorem jends{s:RSt}(h:RfA w g b s.1 s.2.1):CP 51 #[pg g] w λe w'=>e=.returned (iI (dU s))/\But g w w':=by
 refine af (n:=6) Tryz.func51 rfl ?_
 refine sr<|tz 1<|nt<|ag<|sr<|tz 1<|tc 4 27 #[pg g] (GF h) ?_
 rintro _ v1 ⟨rfl,-,U⟩;refine⟨_,rfl,?_⟩;by_cases c2:(bS s.1 s.2.1:Int)=0
 ·refine tq 5 (.bool ((bS s.1 s.2.1:Int) != 0)) (bF) (congrArg Value.bool (bne_eq_false_iff_eq.2 c2))<|nt<|nk<|sr<|tz 1<|nr<|ah (iI 0) (rs1 2) ?_
  exact⟨by unfold dU;rw[if_pos c2],U⟩
 refine tq 5 (.bool ((bS s.1 s.2.1:Int) != 0)) (bT) (congrArg Value.bool (bne_iff_ne.2 c2))<|nt<|aL<|sr<|tz 1<|nr<|bE<|ah (iI 80) (rs1 2) ?_
 exact⟨by unfold dU;rw[if_neg c2],U⟩
def aM(l:List Int):RSt:=thr rnx [(0,0),(0,1),(0,2),(0,3),(0,4),(0,5),(0,6),(0,7),(0,8),(0,9)] (0,l,λ_=>0)
theorem outParams{s:RSt}(h:iQ w eH 10 mkA s e w'):e=.returned (.tuple #[.agg #[.int .u64 (aP s 0),.int .u64 (aP s 1),.int .u64 (aP s 2),.int .u64 (aP s 3),.int .u64 (aP s 4),.int .u64 (aP s 5),.int .u64 (aP s 6),.int .u64 (aP s 7),.int .u64 (aP s 8),.int .u64 (aP s 9)],.int .i64 (dU s)])/\BW w w':=by
 obtain⟨⟨cs,xs,r,rfl,q,a,m,g⟩,B⟩:=h;obtain⟨e1,e2⟩:=lE m g;subst e1 e2;have q0:=(a 0).1 rfl;have q1:=(a 1).1 rfl;have p:=(a 2).1 rfl;have j:=(a 3).1 rfl;have l:=(a 4).1 rfl;have k:=(a 5).1 rfl;have f:=(a 6).1 rfl;have d:=(a 7).1 rfl;have o:=(a 8).1 rfl;have c:=(a 9).1 rfl
 have b:cs=[.int .u64 (aP s 0),.int .u64 (aP s 1),.int .u64 (aP s 2),.int .u64 (aP s 3),.int .u64 (aP s 4),.int .u64 (aP s 5),.int .u64 (aP s 6),.int .u64 (aP s 7),.int .u64 (aP s 8),.int .u64 (aP s 9)]:=by
  refine List.ext_getElem? λi=>?_
  rcases Nat.lt_or_ge i 10 with hi | hi
  ·match i,hi with
   | 0,_=>exact q0
   | 1,_=>exact q1
   | 2,_=>exact p
   | 3,_=>exact j
   | 4,_=>exact l
   | 5,_=>exact k
   | 6,_=>exact f
   | 7,_=>exact d
   | 8,_=>exact o
   | 9,_=>exact c
   | n+10,h=>exact absurd h (by omega)
  rw[List.getElem?_eq_none (by omega),List.getElem?_eq_none hi]
 subst b;exact⟨rfl,B⟩
theorem E8(A:ByA w bb ao n c l)(hn:n<=1000000000):CP 145 #[.slice ao n c] w λe w'=>e=.returned (.tuple #[.agg #[.int .u64 (aP (aM l) 0),.int .u64 (aP (aM l) 1),.int .u64 (aP (aM l) 2),.int .u64 (aP (aM l) 3),.int .u64 (aP (aM l) 4),.int .u64 (aP (aM l) 5),.int .u64 (aP (aM l) 6),.int .u64 (aP (aM l) 7),.int .u64 (aP (aM l) 8),.int .u64 (aP (aM l) 9)],.int .i64 (dU (aM l))])/\BW w w':=by
 refine(vr A hn (by obtain⟨o,a,_⟩:=A.ex;exact a)).mono ?_
 intro e w' h;exact outParams h
theorem qW(A:ByA w bb ao n c l) :
  cB 26 #[.slice ao n c] w (.tuple #[.agg #[iU (aP (aM l) 0),iU (aP (aM l) 1),iU (aP (aM l) 2),iU (aP (aM l) 3),iU (aP (aM l) 4),iU (aP (aM l) 5),iU (aP (aM l) 6),iU (aP (aM l) 7),iU (aP (aM l) 8),iU (aP (aM l) 9)],iI (dU (aM l))]):=by
 have d:=Below.refl w.heap.size w;obtain⟨t,q⟩:∃ s:RSt,(0,l,λ_=>0)=s:=⟨_,rfl⟩
 refine af (n:=47) Tryz.func26 rfl ?_
 refine sr<|ta 2 cl1 24 (pg) ?_
 intro v1 E b z B;have zg2:=Nat.le_trans d.size z;have d:=ae d B;refine tz 1<|nx<|tz 2 ?_
 have r:=b.lt;refine ta 9 [.slice ao n c,iI 0] 70 (pg) ?_
 intro O h x y B;have zg4:=Nat.le_trans d.size y;have d:=ae d B;have b:=b.keep B
 have e:RfA O h bb t.1 t.2.1:=by subst q;exact⟨ao,n,c,⟨x.blk⟩,A.keep d⟩
 have v:=e.lt;refine tz 1<|nx ?_
 have r:=b.lt;have v:=e.lt;refine ta 5 cl1 24 (pg) ?_
 intro v5 D a u B;have zg6:=Nat.le_trans d.size u;have d:=ae d B;have b:=b.keep B;have e:=e.keep B;refine nx<|tz 1<|tc 11 25 #[pg h,iI 8] (jU 0 (s:=t) e) ?_
 rintro _ v7 ⟨s1,e1,rfl,g,U⟩;have d:=But.below U d (by omega) (Nat.le_refl _);have b:=But.blk U b (by omega);have a:=But.blk U a (by omega);have e:=g;refine⟨_,rfl,tz 1<|ts a 0 (iU (s1.2.2 0)) [iU (s1.2.2 0)] [iU (s1.2.2 0),iU 0,iU 0,iU 0,iU 0,iU 0,iU 0,iU 0,iU 0,iU 0] ?_⟩;intro v8 Y C;have d:=aF d C;have b:=b.chg C (by omega);have e:=RfA.dc e a rfl (by omega) (aU C);have a:=Y;refine nx<|tz 1<|tc 14 25 #[pg h,iI 8] (jU 1 (s:=s1) e) ?_
 rintro _ v9 ⟨s2,e2,rfl,g,U⟩;have d:=But.below U d (by omega) (Nat.le_refl _);have b:=But.blk U b (by omega);have a:=But.blk U a (by omega);have e:=g;refine⟨_,rfl,tz 1<|ts a 1 (iU (s2.2.2 1)) [iU (s2.2.2 1)] [iU (s1.2.2 0),iU (s2.2.2 1),iU 0,iU 0,iU 0,iU 0,iU 0,iU 0,iU 0,iU 0] ?_⟩;intro v10 Y C;have d:=aF d C;have b:=b.chg C (by omega);have e:=RfA.dc e a rfl (by omega) (aU C);have a:=Y;refine nx<|tz 1<|tc 17 25 #[pg h,iI 8] (jU 2 (s:=s2) e) ?_
 rintro _ v11 ⟨s3,e3,rfl,g,U⟩;have d:=But.below U d (by omega) (Nat.le_refl _);have b:=But.blk U b (by omega);have a:=But.blk U a (by omega);have e:=g;refine⟨_,rfl,tz 1<|ts a 2 (iU (s3.2.2 2)) [iU (s3.2.2 2)] [iU (s1.2.2 0),iU (s2.2.2 1),iU (s3.2.2 2),iU 0,iU 0,iU 0,iU 0,iU 0,iU 0,iU 0] ?_⟩;intro v12 Y C;have d:=aF d C;have b:=b.chg C (by omega);have e:=RfA.dc e a rfl (by omega) (aU C);have a:=Y;refine nt<|aA [(2,pg E),(3,iI 0),(4,pg h),(5,pg D)]<|sr<|tz 1<|tc 20 25 #[pg h,iI 8] (jU 3 (s:=s3) e) ?_
 rintro _ F ⟨s4,e4,rfl,g,U⟩;have d:=But.below U d (by omega) (Nat.le_refl _);have b:=But.blk U b (by omega);have a:=But.blk U a (by omega);have e:=g;refine⟨_,rfl,tz 1<|ts a 3 (iU (s4.2.2 3)) [iU (s4.2.2 3)] [iU (s1.2.2 0),iU (s2.2.2 1),iU (s3.2.2 2),iU (s4.2.2 3),iU 0,iU 0,iU 0,iU 0,iU 0,iU 0] ?_⟩;intro aa Y C;have d:=aF d C;have b:=b.chg C (by omega);have e:=RfA.dc e a rfl (by omega) (aU C);have a:=Y;refine nx<|tz 1<|tc 23 25 #[pg h,iI 8] (jU 4 (s:=s4) e) ?_
 rintro _ H ⟨i,e5,rfl,g,U⟩;have d:=But.below U d (by omega) (Nat.le_refl _);have b:=But.blk U b (by omega);have a:=But.blk U a (by omega);have e:=g;refine⟨_,rfl,tz 1<|ts a 4 (iU (i.2.2 4)) [iU (i.2.2 4)] [iU (s1.2.2 0),iU (s2.2.2 1),iU (s3.2.2 2),iU (s4.2.2 3),iU (i.2.2 4),iU 0,iU 0,iU 0,iU 0,iU 0] ?_⟩;intro J Y C;have d:=aF d C;have b:=b.chg C (by omega);have e:=RfA.dc e a rfl (by omega) (aU C);have a:=Y;refine nx<|tz 1<|tc 26 25 #[pg h,iI 8] (jU 5 (s:=i) e) ?_
 rintro _ X ⟨j,e6,rfl,g,U⟩;have d:=But.below U d (by omega) (Nat.le_refl _);have b:=But.blk U b (by omega);have a:=But.blk U a (by omega);have e:=g;refine⟨_,rfl,tz 1<|ts a 5 (iU (j.2.2 5)) [iU (j.2.2 5)] [iU (s1.2.2 0),iU (s2.2.2 1),iU (s3.2.2 2),iU (s4.2.2 3),iU (i.2.2 4),iU (j.2.2 5),iU 0,iU 0,iU 0,iU 0] ?_⟩;intro v18 Y C;have d:=aF d C;have b:=b.chg C (by omega);have e:=RfA.dc e a rfl (by omega) (aU C);have a:=Y;refine nx<|tz 1<|tc 29 25 #[pg h,iI 8] (jU 6 (s:=j) e) ?_
 rintro _ S ⟨k,e7,rfl,g,U⟩;have d:=But.below U d (by omega) (Nat.le_refl _);have b:=But.blk U b (by omega);have a:=But.blk U a (by omega);have e:=g;refine⟨_,rfl,tz 1<|ts a 6 (iU (k.2.2 6)) [iU (k.2.2 6)] [iU (s1.2.2 0),iU (s2.2.2 1),iU (s3.2.2 2),iU (s4.2.2 3),iU (i.2.2 4),iU (j.2.2 5),iU (k.2.2 6),iU 0,iU 0,iU 0] ?_⟩;intro v20 Y C;have d:=aF d C;have b:=b.chg C (by omega);have e:=RfA.dc e a rfl (by omega) (aU C);have a:=Y;refine nx<|tz 1<|tc 32 25 #[pg h,iI 8] (jU 7 (s:=k) e) ?_
 rintro _ G ⟨o,e8,rfl,g,U⟩;have d:=But.below U d (by omega) (Nat.le_refl _);have b:=But.blk U b (by omega);have a:=But.blk U a (by omega);have e:=g;refine⟨_,rfl,tz 1<|ts a 7 (iU (o.2.2 7)) [iU (o.2.2 7)] [iU (s1.2.2 0),iU (s2.2.2 1),iU (s3.2.2 2),iU (s4.2.2 3),iU (i.2.2 4),iU (j.2.2 5),iU (k.2.2 6),iU (o.2.2 7),iU 0,iU 0] ?_⟩;intro v22 Y C;have d:=aF d C;have b:=b.chg C (by omega);have e:=RfA.dc e a rfl (by omega) (aU C);have a:=Y;refine nx<|tz 1<|tc 35 25 #[pg h,iI 8] (jU 8 (s:=o) e) ?_
 rintro _ v23 ⟨p,e9,rfl,g,U⟩;have d:=But.below U d (by omega) (Nat.le_refl _);have b:=But.blk U b (by omega);have a:=But.blk U a (by omega);have e:=g;refine⟨_,rfl,tz 1<|ts a 8 (iU (p.2.2 8)) [iU (p.2.2 8)] [iU (s1.2.2 0),iU (s2.2.2 1),iU (s3.2.2 2),iU (s4.2.2 3),iU (i.2.2 4),iU (j.2.2 5),iU (k.2.2 6),iU (o.2.2 7),iU (p.2.2 8),iU 0] ?_⟩;intro I Y C;have d:=aF d C;have b:=b.chg C (by omega);have e:=RfA.dc e a rfl (by omega) (aU C);have a:=Y;refine nt<|aA [(2,pg E),(3,iI 0),(4,pg h),(5,pg D)]<|sr<|tz 1<|tc 38 25 #[pg h,iI 8] (jU 9 (s:=p) e) ?_
 rintro _ v25 ⟨f,e10,rfl,g,U⟩;have d:=But.below U d (by omega) (Nat.le_refl _);have b:=But.blk U b (by omega);have a:=But.blk U a (by omega);have e:=g;refine⟨_,rfl,tz 1<|ts a 9 (iU (f.2.2 9)) [iU (f.2.2 9)] [iU (s1.2.2 0),iU (s2.2.2 1),iU (s3.2.2 2),iU (s4.2.2 3),iU (i.2.2 4),iU (j.2.2 5),iU (k.2.2 6),iU (o.2.2 7),iU (p.2.2 8),iU (f.2.2 9)] ?_⟩;intro v26 Y C;have d:=aF d C;have b:=b.chg C (by omega);have e:=RfA.dc e a rfl (by omega) (aU C);have a:=Y;refine nx<|tz 1<|tc 41 51 #[pg h] (jends e) ?_
 rintro _ R ⟨rfl,U⟩;have d:=But.below U d (by omega) (Nat.le_refl _);have b:=But.blk U b (by omega);have a:=But.blk U a (by omega);refine⟨_,rfl,tz 1<|nt<|ag<|sr<|tz 1 ?_⟩;by_cases m:(dU f:Int)=0
 ·refine tq 43 (.bool ((dU f:Int) != 0)) (bF) (congrArg Value.bool (bne_eq_false_iff_eq.2 m))<|nt<|nk<|sr<|tlr 46 [iU (s1.2.2 0),iU (s2.2.2 1),iU (s3.2.2 2),iU (s4.2.2 3),iU (i.2.2 4),iU (j.2.2 5),iU (k.2.2 6),iU (o.2.2 7),iU (p.2.2 8),iU (f.2.2 9)] a 0<|tsw b [iU (s1.2.2 0),iU (s2.2.2 1),iU (s3.2.2 2),iU (s4.2.2 3),iU (i.2.2 4),iU (j.2.2 5),iU (k.2.2 6),iU (o.2.2 7),iU (p.2.2 8),iU (f.2.2 9)] ?_
  intro V Y C;have d:=aF d C;have a:=a.chg C (by omega);have b:=Y;refine tz 1<|nr<|ah (.tuple #[.agg #[iU (s1.2.2 0),iU (s2.2.2 1),iU (s3.2.2 2),iU (s4.2.2 3),iU (i.2.2 4),iU (j.2.2 5),iU (k.2.2 6),iU (o.2.2 7),iU (p.2.2 8),iU (f.2.2 9)],iI 0]) (dk (T:=24) 2 3 (lr b 0)) ?_
  have es:f=(aM l):=by rw[e10,e9,e8,e7,e6,e5,e4,e3,e2,e1,<- q];rfl
  have h0:dU (aM l)=0:=by rw[<- es];exact m
  have ex:aP (aM l)=f.2.2:=by rw[<- es];exact EI m
  have N:s1.2.2 0=aP (aM l) 0:=by rw[ex,e10,e9,e8,e7,e6,e5,e4,e3,e2];rfl
  have x1:s2.2.2 1=aP (aM l) 1:=by rw[ex,e10,e9,e8,e7,e6,e5,e4,e3];rfl
  have L:s3.2.2 2=aP (aM l) 2:=by rw[ex,e10,e9,e8,e7,e6,e5,e4];rfl
  have Z:s4.2.2 3=aP (aM l) 3:=by rw[ex,e10,e9,e8,e7,e6,e5];rfl
  have P:i.2.2 4=aP (aM l) 4:=by rw[ex,e10,e9,e8,e7,e6];rfl
  have W:j.2.2 5=aP (aM l) 5:=by rw[ex,e10,e9,e8,e7];rfl
  have x6:k.2.2 6=aP (aM l) 6:=by rw[ex,e10,e9,e8];rfl
  have Q:o.2.2 7=aP (aM l) 7:=by rw[ex,e10,e9];rfl
  have M:p.2.2 8=aP (aM l) 8:=by rw[ex,e10];rfl
  have K:f.2.2 9=aP (aM l) 9:=by rw[ex]
  exact⟨by rw[h0,N,x1,L,Z,P,W,x6,Q,M,K],d⟩
 refine tq 43 (.bool ((dU f:Int) != 0)) (bT) (congrArg Value.bool (bne_iff_ne.2 m))<|nt<|aL<|sr<|tz 2<|tsw b cl1 ?_
 intro v30 Y C;have d:=aF d C;have a:=a.chg C (by omega);have b:=Y;refine tz 1<|nr<|bE<|ah (.tuple #[.agg #[iU 0,iU 0,iU 0,iU 0,iU 0,iU 0,iU 0,iU 0,iU 0,iU 0],iI (dU f)]) (dk (T:=24) 2 3 (lr b 0)) ?_
 have es:f=(aM l):=by rw[e10,e9,e8,e7,e6,e5,e4,e3,e2,e1,<- q];rfl
 have ex:aP (aM l)=λ_=>0:=by rw[<- es];exact D7 m
 rw[es];exact⟨by rw[ex],d⟩
theorem outChain{s:RSt}(h:iQ w iv 2 mkA s e w'):e=.returned (.tuple #[.agg #[.int .u64 (aP s 0),.int .u64 (aP s 1)],.int .i64 (dU s)])/\BW w w':=by
 obtain⟨⟨cs,xs,r,rfl,f,b,d,c⟩,B⟩:=h;obtain⟨e1,e2⟩:=lE d c;subst e1 e2;have q0:=(b 0).1 rfl;have q1:=(b 1).1 rfl
 have a:cs=[.int .u64 (aP s 0),.int .u64 (aP s 1)]:=by
  refine List.ext_getElem? λi=>?_
  rcases Nat.lt_or_ge i 2 with hi | hi
  ·match i,hi with
   | 0,_=>exact q0
   | 1,_=>exact q1
   | n+2,h=>exact absurd h (by omega)
  rw[List.getElem?_eq_none (by omega),List.getElem?_eq_none hi]
 subst a;exact⟨rfl,B⟩
def mI(l:List Int):RSt:=thr rnx [(2,0)] (0,l,λ_=>0)
theorem Fg{s:RSt}(h:iQ w gW 1 mkA s e w'):∃ a0 n0 c0,e=.returned (.tuple #[.agg #[.slice a0 n0 c0],.int .i64 (dU s)])/\(dD w' w.heap.size a0 n0 c0 (aP s 0)/\n0<=510)/\BW w w':=by
 obtain⟨⟨cs,xs,r,rfl,g,b,d,c⟩,B⟩:=h;obtain⟨e1,e2⟩:=lE d c;subst e1 e2;obtain⟨a0,n0,c0,q0,f,z0⟩:=(b 0).2.2 rfl
 have a:cs=[.slice a0 n0 c0]:=by
  refine List.ext_getElem? λi=>?_
  rcases Nat.lt_or_ge i 1 with hi | hi
  ·match i,hi with
   | 0,_=>exact q0
   | n+1,h=>exact absurd h (by omega)
  rw[List.getElem?_eq_none (by omega),List.getElem?_eq_none hi]
 subst a;exact⟨a0,n0,c0,rfl,⟨f,by omega⟩,B⟩
theorem oPool(A:ByA w bb ao n c l)(hn:n<=1000000000):CP 339 #[.slice ao n c] w λe w'=>∃ a0 n0 c0,e=.returned (.tuple #[.agg #[.slice a0 n0 c0],.int .i64 (dU (mI l))])/\(dD w' w.heap.size a0 n0 c0 (aP (mI l) 0)/\n0<=510)/\BW w w':=by
 refine(Ca A hn (by obtain⟨o,a,_⟩:=A.ex;exact a)).mono ?_
 intro e w' h;exact Fg h
def eI(l:List Int):RSt:=thr rnx [(0,0),(0,1)] (0,l,λ_=>0)
theorem uC{s:RSt}(h:iQ w ea 2 mkA s e w'):e=.returned (.tuple #[.agg #[.int .u64 (aP s 0),.int .u64 (aP s 1)],.int .i64 (dU s)])/\BW w w':=by
 obtain⟨⟨cs,xs,r,rfl,f,b,d,c⟩,B⟩:=h;obtain⟨e1,e2⟩:=lE d c;subst e1 e2;have q0:=(b 0).1 rfl;have q1:=(b 1).1 rfl
 have a:cs=[.int .u64 (aP s 0),.int .u64 (aP s 1)]:=by
  refine List.ext_getElem? λi=>?_
  rcases Nat.lt_or_ge i 2 with hi | hi
  ·match i,hi with
   | 0,_=>exact q0
   | 1,_=>exact q1
   | n+2,h=>exact absurd h (by omega)
  rw[List.getElem?_eq_none (by omega),List.getElem?_eq_none hi]
 subst a;exact⟨rfl,B⟩
theorem zt(A:ByA w bb ao n c l)(hn:n<=1000000000):CP 41 #[.slice ao n c] w λe w'=>e=.returned (.tuple #[.agg #[.int .u64 (aP (eI l) 0),.int .u64 (aP (eI l) 1)],.int .i64 (dU (eI l))])/\BW w w':=by
 refine(rP A hn (by obtain⟨o,a,_⟩:=A.ex;exact a)).mono ?_
 intro e w' h;exact uC h
def dH(l:List Int):RSt:=thr rnx [(0,0),(0,1),(2,2),(1,3),(0,4),(1,5),(0,6),(2,7),(2,8),(2,9)] (0,l,λ_=>0)
theorem outVal{s:RSt}(h:iQ w jd 10 mkA s e w'):∃ a2 n2 c2 a7 n7 c7 a8 n8 c8 a9 n9 c9,e=.returned (.tuple #[.agg #[.int .u64 (aP s 0),.int .u64 (aP s 1),.slice a2 n2 c2,.bool (aP s 3 == 1),.int .u64 (aP s 4),.bool (aP s 5 == 1),.int .u64 (aP s 6),.slice a7 n7 c7,.slice a8 n8 c8,.slice a9 n9 c9],.int .i64 (dU s)])/\(dD w' w.heap.size a2 n2 c2 (aP s 2)/\n2<=510)/\(dD w' w.heap.size a7 n7 c7 (aP s 7)/\n7<=510)/\(dD w' w.heap.size a8 n8 c8 (aP s 8)/\n8<=510)/\(dD w' w.heap.size a9 n9 c9 (aP s 9)/\n9<=510)/\BW w w':=by
 obtain⟨⟨cs,xs,r,rfl,C,a,o,l⟩,B⟩:=h;obtain⟨e1,e2⟩:=lE o l;subst e1 e2;have q0:=(a 0).1 rfl;have q1:=(a 1).1 rfl;obtain⟨a2,n2,c2,t,y,z2⟩:=(a 2).2.2 rfl;obtain⟨t3,f,b⟩:=(a 3).2.1 rfl
 have b:(aP s 3 == 1)=t3:=by rw[b];cases t3<;>rfl
 rw[<- b] at f;have x:=(a 4).1 rfl;obtain⟨t5,g,d⟩:=(a 5).2.1 rfl
 have d:(aP s 5 == 1)=t5:=by rw[d];cases t5<;>rfl
 rw[<- d] at g;have v:=(a 6).1 rfl;obtain⟨a7,n7,c7,u,j,A⟩:=(a 7).2.2 rfl;obtain⟨a8,n8,c8,q,m,D⟩:=(a 8).2.2 rfl;obtain⟨a9,n9,c9,k,p,z⟩:=(a 9).2.2 rfl
 have c:cs=[.int .u64 (aP s 0),.int .u64 (aP s 1),.slice a2 n2 c2,.bool (aP s 3 == 1),.int .u64 (aP s 4),.bool (aP s 5 == 1),.int .u64 (aP s 6),.slice a7 n7 c7,.slice a8 n8 c8,.slice a9 n9 c9]:=by
  refine List.ext_getElem? λi=>?_
  rcases Nat.lt_or_ge i 10 with hi | hi
  ·match i,hi with
   | 0,_=>exact q0
   | 1,_=>exact q1
   | 2,_=>exact t
   | 3,_=>exact f
   | 4,_=>exact x
   | 5,_=>exact g
   | 6,_=>exact v
   | 7,_=>exact u
   | 8,_=>exact q
   | 9,_=>exact k
   | n+10,h=>exact absurd h (by omega)
  rw[List.getElem?_eq_none (by omega),List.getElem?_eq_none hi]
 subst c;exact⟨a2,n2,c2,a7,n7,c7,a8,n8,c8,a9,n9,c9,rfl,⟨y,by omega⟩,⟨j,by omega⟩,⟨m,by omega⟩,⟨p,by omega⟩,B⟩
theorem oVal(A:ByA w bb ao n c l)(hn:n<=1000000000):CP 43 #[.slice ao n c] w λe w'=>∃ a2 n2 c2 a7 n7 c7 a8 n8 c8 a9 n9 c9,e=.returned (.tuple #[.agg #[.int .u64 (aP (dH l) 0),.int .u64 (aP (dH l) 1),.slice a2 n2 c2,.bool (aP (dH l) 3 == 1),.int .u64 (aP (dH l) 4),.bool (aP (dH l) 5 == 1),.int .u64 (aP (dH l) 6),.slice a7 n7 c7,.slice a8 n8 c8,.slice a9 n9 c9],.int .i64 (dU (dH l))])/\(dD w' w.heap.size a2 n2 c2 (aP (dH l) 2)/\n2<=510)/\(dD w' w.heap.size a7 n7 c7 (aP (dH l) 7)/\n7<=510)/\(dD w' w.heap.size a8 n8 c8 (aP (dH l) 8)/\n8<=510)/\(dD w' w.heap.size a9 n9 c9 (aP (dH l) 9)/\n9<=510)/\BW w w':=by
 refine(F5 A hn (by obtain⟨o,a,_⟩:=A.ex;exact a)).mono ?_
 intro e w' h;exact outVal h
def gq(l:List Int):RSt:=thr rnx [(2,0),(0,1)] (0,l,λ_=>0)
theorem uL{s:RSt}(h:iQ w ec 2 mkA s e w'):∃ a0 n0 c0,e=.returned (.tuple #[.agg #[.slice a0 n0 c0,.int .u64 (aP s 1)],.int .i64 (dU s)])/\(dD w' w.heap.size a0 n0 c0 (aP s 0)/\n0<=510)/\BW w w':=by
 obtain⟨⟨cs,xs,r,rfl,g,b,d,c⟩,B⟩:=h;obtain⟨e1,e2⟩:=lE d c;subst e1 e2;obtain⟨a0,n0,c0,q0,f,z0⟩:=(b 0).2.2 rfl;have q1:=(b 1).1 rfl
 have a:cs=[.slice a0 n0 c0,.int .u64 (aP s 1)]:=by
  refine List.ext_getElem? λi=>?_
  rcases Nat.lt_or_ge i 2 with hi | hi
  ·match i,hi with
   | 0,_=>exact q0
   | 1,_=>exact q1
   | n+2,h=>exact absurd h (by omega)
  rw[List.getElem?_eq_none (by omega),List.getElem?_eq_none hi]
 subst a;exact⟨a0,n0,c0,rfl,⟨f,by omega⟩,B⟩
theorem Db(A:ByA w bb ao n c l)(hn:n<=1000000000):CP 220 #[.slice ao n c] w λe w'=>∃ a0 n0 c0,e=.returned (.tuple #[.agg #[.slice a0 n0 c0,.int .u64 (aP (gq l) 1)],.int .i64 (dU (gq l))])/\(dD w' w.heap.size a0 n0 c0 (aP (gq l) 0)/\n0<=510)/\BW w w':=by
 refine(sD A hn (by obtain⟨o,a,_⟩:=A.ex;exact a)).mono ?_
 intro e w' h;exact uL h
end
end Rc
end
end Go.Proofs.YtpoifdokmjhclaaGreat
