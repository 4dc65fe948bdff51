import Derived.Test.YthfepflplbahkaaGreatDoorJav
import Derived.Test.YthfepflplbahkaaGreatDoorJaw
set_option maxRecDepth 100000
set_option maxHeartbeats 8000000
namespace Go.Proofs.YthfepflplbahkaaGreatDoor
section
namespace Fo
open Go.RowKit Go.Lib Pg Lim Gl Kv Bk Pw
set_option linter.unusedVariables false
set_option linter.unusedSimpArgs false
section
variable {x r k a b:Int}
abbrev Uq(x:Int):Prop:=0<=x/\x < 18446744073709551616
def LIM:Int:=2 ^ 2000
theorem CH(c:0<=x)(h:x < LIM):Rc.fit x=x:=by
 unfold Rc.fit;refine if_pos ?_
 unfold dU;rw[aN]
 have a:x.toNat < 2 ^ 2000:=by
  have e:((2 ^ 2000:Nat):Int)=LIM:=by unfold LIM;exact Int.natCast_pow 2 2000
  omega
 have b:bitLen x.toNat<=2000:=by
  unfold bitLen;split
  ·omega
  ·rename_i hn;have:=(Nat.log2_lt hn).2 a;omega
 omega
theorem pA(hx:0<=x/\x < LIM)(c:Uq r):hX (hv x r) 0=x/\hX (hv x r) 1=r:=by
 obtain⟨ys,b,a⟩:=Rc.rI (fun o=>([x,r]:List Int).getD o 0) [(2,0),(0,1)] [] (fun _=>0) (by decide) (List.forall_mem_cons.2 ⟨hx.1,List.forall_mem_cons.2 ⟨c,fun _ h=>by cases h⟩⟩);rw[List.append_nil] at b
 have e:Rc.cU (hv x r)=(0,[],ys):=b;unfold hX;rw[e];exact⟨(a.1 (2,0) (by simp)).trans (CH hx.1 hx.2),a.1 (0,1) (by simp)⟩
theorem uL(hx:Uq x)(c:Uq r):cX (cv x r) 0=x/\cX (cv x r) 1=r:=by
 obtain⟨ys,b,a⟩:=Rc.rI (fun o=>([x,r]:List Int).getD o 0) [(0,0),(0,1)] [] (fun _=>0) (by decide) (List.forall_mem_cons.2 ⟨hx,List.forall_mem_cons.2 ⟨c,fun _ h=>by cases h⟩⟩);rw[List.append_nil] at b
 have e:Rc.kO (cv x r)=(0,[],ys):=b;unfold cX;rw[e];exact⟨a.1 (0,0) (by simp),a.1 (0,1) (by simp)⟩
theorem yT:hX [] 0=0/\hX [] 1=0:=by decide +kernel
theorem yg(a b:Int):Ky.mk 7 a b=118 :: (Ky.be 8 a ++ 104 :: Ky.be 8 b):=by
 rw[Ky.mk_eq (k:=7) (n:=18) (m0:=118) (m1:=104) rfl]
 show [118] ++ (if (8:Int) < 18 then Ky.be 8 a else []) ++ (if (104:Int)=0 then [] else [104]) ++ (if (16:Int) < 18 then Ky.be 8 b else [])=_
 simp
theorem qn(a b:Int):Ky.mk 8 a b=118 :: (Ky.be 8 a ++ 115 :: Ky.be 8 b):=by
 rw[Ky.mk_eq (k:=8) (n:=18) (m0:=118) (m1:=115) rfl]
 show [118] ++ (if (8:Int) < 18 then Ky.be 8 a else []) ++ (if (115:Int)=0 then [] else [115]) ++ (if (16:Int) < 18 then Ky.be 8 b else [])=_
 simp
theorem CP(h:k=7\/k=8):Oct (Ky.mk k a b):=by
 rcases h with rfl | rfl
 ·rw[yg];intro x hx;simp at hx;rcases hx with rfl | hx | rfl | hx
  ·decide
  ·exact Ky.eX _ _ x hx
  ·decide
  ·exact Ky.eX _ _ x hx
 ·rw[qn];intro x hx;simp at hx;rcases hx with rfl | hx | rfl | hx
  ·decide
  ·exact Ky.eX _ _ x hx
  ·decide
  ·exact Ky.eX _ _ x hx
theorem gE{g f:Int}(d:Uq a)(i:k=7\/k=8)(h:g=7\/g=8)(hb:Uq b)(c:Uq f)(e:Ky.mk k a b=Ky.mk g a f):k=g/\b=f:=by
 rcases i with rfl | rfl<;>rcases h with rfl | rfl
 ·exact⟨rfl,(Ky.mk_inj (k:=7) (o:=7) (by decide) (by decide) (by decide) (by decide) d hb d c (Ad a b) (Ad a f) e).2.2⟩
 ·exact absurd (Ky.mk_inj (k:=7) (o:=8) (by decide) (by decide) (by decide) (by decide) d hb d c (Ad a b) (mm a f) e).1 (by decide)
 ·exact absurd (Ky.mk_inj (k:=8) (o:=7) (by decide) (by decide) (by decide) (by decide) d hb d c (mm a b) (Ad a f) e).1 (by decide)
 ·exact⟨rfl,(Ky.mk_inj (k:=8) (o:=8) (by decide) (by decide) (by decide) (by decide) d hb d c (mm a b) (mm a f) e).2.2⟩
structure Hs(E:aD)(id:Int)(F D:Int->Option (List Int)):Prop where
 gm:eJ E
 hid:Uq id
 keys:∀ x∈E,∃ k b,(k=7\/k=8)/\Uq b/\x.1=Ky.mk k id b
 h7:∀ p,Uq p->Kv.look E (Ky.mk 7 id p)=F p
 h8:∀ p,Uq p->Kv.look E (Ky.mk 8 id p)=D p
end
section
variable {E:aD} {id p:Int} {F D F' D':Int->Option (List Int)} {v:List Int}
theorem rL {k v:List Int} {x:KV} (h:x∈put E k v):x∈E\/x=(k,v):=by
 unfold put at h;rcases List.mem_append.1 h with h | h
 ·exact .inl (List.mem_filter.1 h).1
 ·rcases List.mem_cons.1 h with h | h
  ·exact .inr h
  ·exact .inl (List.mem_filter.1 h).1
theorem hs_nil (h:Uq id):Hs [] id (fun _=>none) (fun _=>none):=⟨List.Pairwise.nil,h,(fun _ h=>by cases h),fun _ _=>rfl,fun _ _=>rfl⟩
theorem Hs.congr (h:Hs E id F D) (h1:∀ p,Uq p->F p=F' p) (h2:∀ p,Uq p->D p=D' p):Hs E id F' D':=⟨h.gm,h.hid,h.keys,fun p hp=>(h.h7 p hp).trans (h1 p hp),fun p hp=>(h.h8 p hp).trans (h2 p hp)⟩
theorem Hs.yD (h:Hs E id F D) (b:Uq p):Hs (put E (Ky.mk 7 id p) v) id (fun q=>if p=q then some v else F q) D:=by
 refine⟨h.gm.put _ _,h.hid,fun x hx=>(rL hx).elim (h.keys x) (fun e=>⟨7,p,.inl rfl,b,by rw[e]⟩),fun q a=>?_,fun q a=>?_⟩
 ·rw[jg h.gm];by_cases c:p=q
  ·rw[if_pos (by rw[c]),if_pos c]
  ·rw[if_neg (fun e=>c (gE h.hid (.inl rfl) (.inl rfl) b a e).2),if_neg c,h.h7 q a]
 ·rw[jg h.gm,if_neg (fun e=>absurd (gE h.hid (.inl rfl) (.inr rfl) b a e).1 (by decide)),h.h8 q a]
theorem Hs.put8 (h:Hs E id F D) (b:Uq p):Hs (put E (Ky.mk 8 id p) v) id F (fun q=>if p=q then some v else D q):=by
 refine⟨h.gm.put _ _,h.hid,fun x hx=>(rL hx).elim (h.keys x) (fun e=>⟨8,p,.inr rfl,b,by rw[e]⟩),fun q a=>?_,fun q a=>?_⟩
 ·rw[jg h.gm,if_neg (fun e=>absurd (gE h.hid (.inr rfl) (.inl rfl) b a e).1 (by decide)),h.h7 q a]
 ·rw[jg h.gm];by_cases c:p=q
  ·rw[if_pos (by rw[c]),if_pos c]
  ·rw[if_neg (fun e=>c (gE h.hid (.inr rfl) (.inr rfl) b a e).2),if_neg c,h.h8 q a]
theorem Hs.rem7 (h:Hs E id F D) (b:Uq p):Hs (rem E (Ky.mk 7 id p)) id (fun q=>if p=q then none else F q) D:=by
 refine⟨h.gm.rem _,h.hid,fun x hx=>h.keys x (List.mem_filter.1 hx).1,fun q a=>?_,fun q a=>?_⟩
 ·rw[qV h.gm];by_cases c:p=q
  ·rw[if_pos (by rw[c]),if_pos c]
  ·rw[if_neg (fun e=>c (gE h.hid (.inl rfl) (.inl rfl) b a e).2),if_neg c,h.h7 q a]
 ·rw[qV h.gm,if_neg (fun e=>absurd (gE h.hid (.inl rfl) (.inr rfl) b a e).1 (by decide)),h.h8 q a]
end
def rf (L:List Int) (C:List (Int × Int × Int)) (la p:Int):Nat:=L.count p+(if p=la then 1 else 0)+(C.map (·.1)).count p
def fF (R:Int->Int) (L:List Int) (C:List (Int × Int × Int)) (la p:Int):Option (List Int):=if rf L C la p=0 then none else some (hv (R p) ((rf L C la p:Nat):Int))
def fD (C:List (Int × Int × Int)) (p:Int):Option (List Int):=(C.find? (fun c=>c.1 == p)).map (fun c=>cv c.2.1 c.2.2)
def upd (R:Int->Int) (p x q:Int):Int:=if q=p then x else R q
structure Fs (E:aD) (id la:Int) (R:Int->Int) (L:List Int) (C:List (Int × Int × Int)):Prop where
 hs:Hs E id (fF R L C la) (fD C)
 ul:Uq la
 rng:∀ p,0<=R p/\R p < LIM
 hL:∀ p∈L,Uq p/\p<=la
 hC:∀ c∈C,(Uq c.1/\c.1<=la)/\Uq c.2.1/\Uq c.2.2
 up:C.Pairwise (fun x y=>x.1 < y.1)
 few:L.length+C.length<=1000000
section
variable {E:aD} {id la p:Int} {R:Int->Int} {L:List Int} {C:List (Int × Int × Int)}
section
variable {L':List Int}{R:Int->Int}
theorem u5:rf L C la p<=L.length+1+C.length:=by
 unfold rf
 have a:L.count p<=L.length:=List.count_le_length
 have b:(C.map (·.1)).count p<=C.length:=by
  have:(C.map (·.1)).count p<=(C.map (·.1)).length:=List.count_le_length;rwa [List.length_map] at this
 split<;>omega
theorem rz:0 < rf L C la la:=by unfold rf;rw[if_pos rfl];omega
theorem rf_mem(h:p∈L):0 < rf L C la p:=by
 have:=List.count_pos_iff.2 h;unfold rf;omega
theorem rf_cut{c:Int × Int × Int}(h:c∈C):0 < rf L C la c.1:=by
 have:=List.count_pos_iff.2 (List.mem_map_of_mem (f:=(·.1)) h);unfold rf;omega
theorem Fs.uq(h:Fs E id la R L C)(p:Int):Uq ((rf L C la p:Nat):Int):=by
 have h1:=u5 (L:=L) (C:=C) (la:=la) (p:=p);have h2:=h.few;exact⟨by omega,by omega⟩
theorem Fs.at(h:Fs E id la R L C)(a:Uq p)(b:0 < rf L C la p):Kv.look E (Ky.mk 7 id p)=some (hv (R p) ((rf L C la p:Nat):Int))/\hX (got E (Ky.mk 7 id p)) 0=R p/\hX (got E (Ky.mk 7 id p)) 1=((rf L C la p:Nat):Int):=by
 have e:Kv.look E (Ky.mk 7 id p)=some (hv (R p) ((rf L C la p:Nat):Int)):=by
  rw[h.hs.h7 p a];exact if_neg (by omega)
 refine⟨e,?_⟩;unfold got;rw[e];exact pA (h.rng p) (h.uq p)
theorem AD(hi:Uq id):Fs (aZ [] id 0) id 0 (fun _=>0) [] []:=by
 have e:aZ [] id 0=put [] (Ky.mk 7 id 0) (hv 0 1):=by
  unfold aZ ll got;rw[show Kv.look ([]:aD) (Ky.mk 7 id 0)=none from rfl];simp only[Option.getD_none,yT.1,yT.2];rfl
 refine⟨?_,by decide,fun _=>⟨Int.le_refl _,by unfold LIM;exact Int.pow_pos (by decide)⟩,(fun _ h=>by cases h),(fun _ h=>by cases h),List.Pairwise.nil,by decide⟩;rw[e];refine((hs_nil hi).yD (p:=0) (v:=hv 0 1) (by decide)).congr (fun p _=>?_) (fun p _=>rfl);by_cases c:0=p
 ·subst c;rfl
 ·have e2:rf [] [] 0 p=0:=by unfold rf; rw[if_neg (fun q=>c q.symm)]; rfl
  rw[if_neg c];exact(if_pos e2).symm
theorem Fs.hold(h:Fs E id la R L C)(hf:L.length+C.length+1<=1000000):Fs (aZ E id la) id la R (la :: L) C:=by
 obtain⟨b,e1,e2⟩:=h.at h.ul rz;have u:=h.uq la;have a:=u5 (L:=L) (C:=C) (la:=la) (p:=la)
 have e:aZ E id la=put E (Ky.mk 7 id la) (hv (R la) ((rf (la :: L) C la la:Nat):Int)):=by
  unfold aZ ll;rw[e1,e2,if_neg (by omega)];congr 2
  unfold rf at a ⊢;rw[List.count_cons_self];omega
 refine⟨?_,h.ul,h.rng,List.forall_mem_cons.2 ⟨⟨h.ul,Int.le_refl _⟩,h.hL⟩,h.hC,h.up,by simp only[List.length_cons];omega⟩;rw[e];refine(h.hs.yD h.ul).congr (fun p _=>?_) (fun p _=>rfl);by_cases c:la=p
 ·subst c;rw[if_pos rfl];exact(if_neg (by have:=rz (L:=la :: L) (C:=C) (la:=la);omega)).symm
 ·rw[if_neg c];unfold fF rf;rw[List.count_cons_of_ne (by simpa using c)]
theorem Fs.less{C':List (Int × Int × Int)}{la':Int}{E:aD}(hs:Hs E id (fun q=>if p=q/\rf L' C' la' q+1≠0 then some (hv (R q) ((rf L' C' la' q+1:Nat):Int)) else fF R L' C' la' q) (fD C'))(a:Uq p)(f:0<=R p/\R p < LIM)(hu:rf L' C' la' p<=2000000):Hs (letE E id p) id (fF R L' C' la') (fD C'):=by
 have b:Kv.look E (Ky.mk 7 id p)=some (hv (R p) ((rf L' C' la' p+1:Nat):Int)):=by
  rw[hs.h7 p a];exact if_pos ⟨rfl,by omega⟩
 obtain⟨b1,b2⟩:=pA f (r:=((rf L' C' la' p+1:Nat):Int)) ⟨by omega,by omega⟩
 have e:letE E id p=ll E id p (R p) ((rf L' C' la' p:Nat):Int):=by
  unfold letE got;rw[b];simp only[Option.isSome_some,if_true,Option.getD_some,b1,b2];congr 1
  omega
 rw[e];unfold ll;split
 ·rename_i c;refine(hs.rem7 a).congr (fun q _=>?_) (fun q _=>rfl);by_cases d:p=q
  ·subst d;rw[if_pos rfl];exact(if_pos (by omega)).symm
  ·rw[if_neg d,if_neg (fun x=>d x.1)]
 ·rename_i c;refine(hs.yD a).congr (fun q _=>?_) (fun q _=>rfl);by_cases d:p=q
  ·subst d;rw[if_pos rfl];exact(if_neg (by omega)).symm
  ·rw[if_neg d,if_neg (fun x=>d x.1)]
theorem Fs.close(h:Fs E id la R L C){tk cur:Int}(f:la+1 < 18446744073709551616)(j:0<=cur / tk)(i:R la+cur / tk < LIM):Fs (dQ E id (la+1) tk cur) id (la+1) (upd R (la+1) (R la+cur / tk)) L C:=by
 obtain⟨k,e1,e2⟩:=h.at h.ul rz;have g:=h.ul
 have hm:(la+1 - 1) % 18446744073709551616=la:=by omega
 have hf:=h.few;have l:=u5 (L:=L) (C:=C) (la:=la+1) (p:=la)
 have c1:L.count (la+1)=0:=List.count_eq_zero.2 fun q=>by have:=(h.hL _ q).2;omega
 have c2:(C.map (·.1)).count (la + 1)=0:=List.count_eq_zero.2 fun q=>by
  obtain⟨c,hc,e⟩:=List.mem_map.1 q;have:=(h.hC c hc).1.2;omega
 have b:∀ q,0<=upd R (la + 1) (R la + cur / tk) q/\upd R (la + 1) (R la + cur / tk) q < LIM:=fun q=>by
  unfold upd;split
  ·exact⟨by have:=(h.rng la).1;omega,i⟩
  ·exact h.rng q
 refine⟨?_,⟨by omega,f⟩,b,fun q a=>⟨(h.hL q a).1,by have:=(h.hL q a).2;omega⟩,fun c hc=>⟨⟨(h.hC c hc).1.1,by have:=(h.hC c hc).1.2;omega⟩,(h.hC c hc).2⟩,h.up,hf⟩;unfold dQ;rw[hm,e1];refine Fs.less (L':=L) (C':=C) (la':=la+1) ?_ g (b la) (by omega);unfold ll;rw[if_neg (by decide)];refine(h.hs.yD (p:=la+1) ⟨by omega,f⟩).congr (fun q _=>?_) (fun q _=>rfl);by_cases c:la+1=q
 ·subst c;rw[if_pos rfl,if_neg (by omega)];unfold fF
  have e:rf L C (la+1) (la+1)=1:=by unfold rf;rw[c1,c2,if_pos rfl]
  rw[e,if_neg (by decide)];unfold upd;rw[if_pos rfl];rfl
 ·rw[if_neg c];by_cases d:la=q
  ·subst d;rw[if_pos ⟨rfl,by omega⟩]
   have e:rf L C la la=rf L C (la+1) la+1:=by unfold rf;rw[if_pos rfl,if_neg (by omega)];omega
   unfold fF upd;rw[if_neg (by omega),e,if_neg (by omega)]
  ·rw[if_neg (fun x=>d x.1)]
   have e:rf L C la q=rf L C (la+1) q:=by unfold rf;rw[if_neg (fun x=>d x.symm),if_neg (fun x=>c x.symm)]
   have e2:upd R (la+1) (R la+cur / tk) q=R q:=if_neg (fun x=>c x.symm);unfold fF;rw[e,e2]
theorem Fs.cut(h:Fs E id la R L C){b a:Int}(hb:Uq b)(f:Uq a)(hn:∀ c∈C,c.1 < la)(hf:L.length+C.length+1<=1000000):Fs (nP E id la b a) id la R L (C ++ [(la,b,a)]):=by
 have d:Hs (put E (Ky.mk 8 id la) (cv b a)) id (fF R L C la) (fD (C ++ [(la,b,a)])):=by
  refine(h.hs.put8 h.ul).congr (fun q _=>rfl) (fun q _=>?_);unfold fD;rw[List.find?_append];by_cases c:la=q
  ·subst c
   have e:C.find? (fun c=>c.1 == la)=none:=List.find?_eq_none.2 fun c hc=>by have:=hn c hc;simp;omega
   rw[if_pos rfl,e];simp
  ·rw[if_neg c];simp[c]
 have i:=u5 (L:=L) (C:=C) (la:=la) (p:=la)
 have g:Kv.look (put E (Ky.mk 8 id la) (cv b a)) (Ky.mk 7 id la)=some (hv (R la) ((rf L C la la:Nat):Int)):=by
  rw[d.h7 la h.ul];exact if_neg (by have:=rz (L:=L) (C:=C) (la:=la);omega)
 obtain⟨b1,b2⟩:=pA (h.rng la) (h.uq la)
 have e3:rf L (C ++ [(la,b,a)]) la la=rf L C la la+1:=by
  unfold rf;rw[List.map_append,List.count_append];simp only[List.map_cons,List.map_nil,List.count_cons_self,List.count_nil];omega
 have e:nP E id la b a=put (put E (Ky.mk 8 id la) (cv b a)) (Ky.mk 7 id la) (hv (R la) ((rf L (C ++ [(la,b,a)]) la la:Nat):Int)):=by
  unfold nP aZ got ll;rw[g];simp only[Option.getD_some,b1,b2];rw[if_neg (by omega),e3];congr 2
  omega
 refine⟨?_,h.ul,h.rng,h.hL,fun c hc=>?_,?_,by simp only[List.length_append,List.length_cons,List.length_nil];omega⟩
 ·rw[e];refine(d.yD h.ul).congr (fun q _=>?_) (fun q _=>rfl);by_cases c:la=q
  ·subst c;rw[if_pos rfl];exact(if_neg (by omega)).symm
  ·rw[if_neg c];unfold fF rf;rw[List.map_append,List.count_append];have:List.count q (List.map (fun x=>x.1) [(la,b,a)])=0:=List.count_eq_zero.2 (by simpa using fun x=>c x.symm);rw[this,Nat.add_zero]
 ·rcases List.mem_append.1 hc with hc | hc
  ·exact h.hC c hc
  ·simp at hc;subst hc;exact⟨⟨h.ul,Int.le_refl _⟩,hb,f⟩
 ·refine List.pairwise_append.2 ⟨h.up,by simp,fun x hx y hy=>?_⟩;simp at hy;subst hy;exact hn x hx
end
end
end Fo
end
section
namespace Fo
open Go.RowKit Go.Lib Pg Lim Gl Kv Bk Pw
set_option linter.unusedVariables false
set_option linter.unusedSimpArgs false
section
variable {id b fr:Int}{v:List Int}
theorem lt_nx{l c:List Int}(hc:Oct c)(hn:Ky.nxt l≠[]):Lt c (Ky.nxt l)<->Lt c l\/l <+: c:=by
 constructor
 ·intro h;by_cases c1:Lt c l
  ·exact .inl c1
  by_cases c2:l <+: c
  ·exact .inr c2
  exact absurd h (Ky.iW hc c2 c1)
 ·rintro(h | h)
  ·exact h.trans (Ky.xw hn)
  ·exact Ky.je hn h
theorem nxt8(id p:Int):Ky.nxt (Ky.mk 8 id p)≠[]:=by
 intro e;have:=Ky.o4 e 118 (by rw[qn];simp);omega
theorem vu(a b:Int):(Ky.mk 8 a b).length=18:=by
 rw[qn];simp only[List.length_cons,List.length_append,Ky.aN]
theorem lt78(id b fr:Int):Lt (Ky.mk 7 id b) (Ky.mk 8 id fr):=by
 rw[yg,qn,Ky.bG];refine .inr ⟨rfl,?_⟩;rw[Ky.fx,Ky.bG];exact .inl (by decide)
theorem lt88(hi:Uq id)(hb:Uq b)(hf:Uq fr):Lt (Ky.mk 8 id b) (Ky.nxt (Ky.mk 8 id fr))<->b<=fr:=by
 have a:=Ky.DR (k:=8) (by decide) (by decide) hi hb hi hf (mm id b) (mm id fr);rw[lt_nx (CP (.inr rfl)) (nxt8 id fr)];constructor
 ·rintro(h | h)
  ·have:=a.1 h;rw[if_neg (by decide)] at this;omega
  ·have e:=h.eq_of_length (by rw[vu,vu]);have:=(gE hi (.inr rfl) (.inr rfl) hf hb e).2;omega
 ·intro h;by_cases c:b=fr
  ·subst c;exact .inr (List.prefix_refl _)
  ·exact .inl (a.2 (.inr ⟨rfl,by omega⟩))
theorem rdB8(hi:Uq id)(hb:Uq b):Ky.rdB (Ky.mk 8 id b)=b:=(Ky.lA (k:=8) (by decide) (by decide) hi hb (mm id b)).2.2
theorem lt8{d:Int}(hi:Uq id)(hb:Uq b)(a:Uq d)(h:Lt (Ky.mk 8 id b) (Ky.mk 8 id d)):b < d:=by
 have c:=(Ky.DR (k:=8) (by decide) (by decide) hi hb hi a (mm id b) (mm id d)).1 h;rw[if_neg (by decide)] at c;omega
theorem lt78n:Lt (Ky.mk 7 id b) (Ky.nxt (Ky.mk 8 id fr)):=(lt78 id b fr).trans (Ky.xw (nxt8 id fr))
theorem key8{la k:Int}(hi:Uq id)(e:k=7\/k=8)(hb:Uq b)(hf:Uq fr)(c:Uq la):lX (Ky.nxt (Ky.mk 8 id fr)) (Ky.nxt (Ky.mk 8 id la)) (Ky.mk k id b,v)=true<->k=8/\fr < b/\b<=la:=by
 unfold lX;simp only[Bool.and_eq_true,Bool.not_eq_true',Bool.or_eq_true,decide_eq_true_eq,decide_eq_false_iff_not];rcases e with rfl | rfl
 ·constructor
  ·rintro⟨h,_⟩;exact absurd lt78n h
  ·rintro⟨h,_⟩;exact absurd h (by decide)
 ·rw[lt88 hi hb hf,lt88 hi hb c];constructor
  ·rintro⟨d,a⟩;exact⟨rfl,by omega,a.resolve_left (nxt8 id la)⟩
  ·rintro⟨_,d,a⟩;exact⟨by omega,.inr a⟩
theorem yM{E:aD}(h:eJ E){k:List Int}:(k,v)∈E<->Kv.look E k=some v:=by
 constructor
 ·intro hm;have:∀ F:aD,eJ F->(k,v)∈F->Kv.look F k=some v:=by
   intro F hF hm
   induction F with
   | nil=>cases hm
   | cons x F ih =>
    have b:=List.pairwise_cons.1 hF;unfold Kv.look;rcases List.mem_cons.1 hm with e | hm
    ·subst e;rw[List.find?_cons_of_pos (by simp)];rfl
    ·have a:=b.1 _ hm;rw[List.find?_cons_of_neg]
     ·exact ih b.2 hm
     ·intro q;have c:=of_decide_eq_true q;rw[c] at a;exact lt_irrefl _ a
  exact this E h hm
 ·exact Kv.jG
theorem zd:∀ {A B:List (Int × Int × Int)},A.Pairwise (fun x y=>x.1 < y.1)→B.Pairwise (fun x y=>x.1 < y.1)→(∀ x,x ∈ A ↔ x ∈ B)→A=B
  | [],[],_,_,_=>rfl
  | [],b :: B,_,_,h=>absurd ((h b).2 List.mem_cons_self) (by simp)
  | a :: A,[],_,_,h=>absurd ((h a).1 List.mem_cons_self) (by simp)
  | a :: A, b :: B, h1, h2, h => by
    have p1:=List.pairwise_cons.1 h1;have c:=List.pairwise_cons.1 h2
    have e:a=b:=by
      rcases List.mem_cons.1 ((h a).1 List.mem_cons_self) with q | q
      · exact q
      rcases List.mem_cons.1 ((h b).2 List.mem_cons_self) with r | r
      · exact r.symm
      have:=p1.1 b r;have:=c.1 a q;omega
    subst e;refine congrArg _ (zd p1.2 c.2 fun x=>⟨fun hx=>?_,fun hx=>?_⟩)
    · rcases List.mem_cons.1 ((h x).1 (List.mem_cons_of_mem _ hx)) with q | q
      · have:=p1.1 x hx
        rw[q] at this;omega
      · exact q
    · rcases List.mem_cons.1 ((h x).2 (List.mem_cons_of_mem _ hx)) with q | q
      · have:=c.1 x hx
        rw[q] at this;omega
      · exact q
end
section
variable {E:aD} {id la fr l':Int} {R:Int->Int} {L:List Int} {C:List (Int × Int × Int)}
theorem Fs.find (h:Fs E id la R L C) {c:Int × Int × Int} (hc:c∈C):C.find? (fun d=>d.1 == c.1)=some c:=by
 have up:=h.up;clear h
 induction C with
 | nil=>cases hc
 | cons d C ih =>
  have p:=List.pairwise_cons.1 up;rcases List.mem_cons.1 hc with q | q
  ·subst q;simp
  ·have:=p.1 c q;rw[List.find?_cons_of_neg (by simp;omega)];exact ih q p.2
theorem Fs.inC (h:Fs E id la R L C) {x:KV} (g:Uq l') (hf:Uq fr) (hx:x∈oN E id fr l'):∃ c∈C,fr < c.1/\c.1<=l'/\x.1=Ky.mk 8 id c.1/\(Ky.rdB x.1,cX x.2 0,cX x.2 1)=c:=by
 obtain⟨hm,i⟩:=List.mem_filter.1 hx;obtain⟨k,b,l,hb,e⟩:=h.hs.keys x hm;obtain⟨n,f⟩:=x;simp only at e;subst e;obtain⟨rfl,m,o⟩:=(key8 h.hs.hid l hb hf g).1 i;have e1:=(yM h.hs.gm).1 hm;rw[h.hs.h8 b hb] at e1;unfold fD at e1;obtain⟨c,hc,hv⟩:=Option.map_eq_some_iff.1 e1;have a:=List.mem_of_find?_eq_some hc
 have d:c.1=b:=by simpa using List.find?_some hc
 obtain⟨q1,j⟩:=uL (h.hC c a).2.1 (h.hC c a).2.2;refine⟨c,a,by omega,by omega,by rw[d],?_⟩
 show (Ky.rdB (Ky.mk 8 id b),cX f 0,cX f 1)=c
 rw[<- hv,q1,j,rdB8 h.hs.hid hb,<- d]
theorem Fs.cuts (h:Fs E id la R L C) (hf:Uq fr) (g:Uq l'):dk E id fr l'=C.filter (fun c=>decide (fr < c.1/\c.1<=l')):=by
 refine zd ?_ (h.up.filter _) fun c=>⟨fun hc=>?_,fun hc=>?_⟩
 ·unfold dk;refine List.pairwise_map.2 (List.Pairwise.imp_of_mem (fun {x y} hx hy f=>?_) (List.Pairwise.filter _ h.hs.gm));obtain⟨c,hc,_,_,e1,e2⟩:=h.inC g hf hx;obtain⟨d,m,_,_,f1,f2⟩:=h.inC g hf hy;rw[e1,f1] at f;have b:=lt8 h.hs.hid (h.hC c hc).1.1 (h.hC d m).1.1 f
  show (Ky.rdB x.1,cX x.2 0,cX x.2 1).1 < (Ky.rdB y.1,cX y.2 0,cX y.2 1).1
  rw[e2,f2];exact b
 ·obtain⟨x,hx,rfl⟩:=List.mem_map.1 hc;obtain⟨c,a,j,n,_,e⟩:=h.inC g hf hx;rw[e];exact List.mem_filter.2 ⟨a,by simpa using ⟨j,n⟩⟩
 ·obtain⟨a,l⟩:=List.mem_filter.1 hc
  have i:fr < c.1/\c.1<=l':=by simpa using l
  have u:=(h.hC c a).1.1
  have e:Kv.look E (Ky.mk 8 id c.1)=some (cv c.2.1 c.2.2):=by
   rw[h.hs.h8 c.1 u];unfold fD;rw[h.find a];rfl
  obtain⟨q1,k⟩:=uL (h.hC c a).2.1 (h.hC c a).2.2;refine List.mem_map.2 ⟨(Ky.mk 8 id c.1,cv c.2.1 c.2.2),List.mem_filter.2 ⟨jG e,(key8 h.hs.hid (.inr rfl) u hf g).2 ⟨rfl,i⟩⟩,?_⟩
  show (Ky.rdB (Ky.mk 8 id c.1),cX (cv c.2.1 c.2.2) 0,cX (cv c.2.1 c.2.2) 1)=c
  rw[q1,k,rdB8 h.hs.hid u]
theorem Fs.frm8 (h:Fs E id la R L C) (hf:Uq fr) (a:Uq l'):∀ x∈oN E id fr l',Ky.frm (8:Nat)=Ky.fIn x.1:=fun x hx=>by
 obtain⟨c,hc,_,_,e,_⟩:=h.inC a hf hx;rw[e];exact(Ky.lA (k:=8) (by decide) (by decide) h.hs.hid (h.hC c hc).1.1 (mm id c.1)).1
def cmS (R:Int->Int) (s:Int × Int × Int) (c:Int × Int × Int):Int × Int × Int:=(s.1+s.2.1 * fW (R c.1) s.2.2 / U36,s.2.1 * (c.2.2 * U36) / (c.2.1 * U36),R c.1)
def cmV (R:Int->Int) (C:List (Int × Int × Int)) (fr la x:Int):Int:=(C.foldl (cmS R) (0,x,R fr)).1+(C.foldl (cmS R) (0,x,R fr)).2.1 * fW (R la) (C.foldl (cmS R) (0,x,R fr)).2.2 / U36
def aft (C:List (Int × Int × Int)) (fr:Int):List (Int × Int × Int):=C.filter (fun c=>decide (fr < c.1))
theorem Fs.D0 (h:Fs E id la R L C) (hf:Uq fr):dk E id fr la=aft C fr:=by
 rw[h.cuts hf h.ul];refine List.filter_congr fun c hc=>?_
 have:=(h.hC c hc).1.2;exact decide_eq_decide.2 ⟨fun q=>q.1,fun q=>⟨q,this⟩⟩
theorem Fs.claim (h:Fs E id la R L C) {x:Int} (hf:fr∈L):clV E id fr la x=cmV R (aft C fr) fr la x:=by
 have hu:=(h.hL fr hf).1
 have st:j0 E id fr la x (dk E id fr la).length=(aft C fr).foldl (cmS R) (0,x,R fr):=by
  unfold j0;rw[List.take_length,h.D0 hu,(h.at hu (rf_mem hf)).2.1];have:∀ (D:List (Int × Int × Int)) (s:Int × Int × Int),(∀ c∈D,c∈C)->D.foldl (qi E id) s=D.foldl (cmS R) s:=by
   intro D
   induction D with
   | nil=>intro s _;rfl
   | cons c D ih =>
    intro s a;have hc:=a c List.mem_cons_self;rw[List.foldl_cons,List.foldl_cons,ih _ (fun d b=>a d (List.mem_cons_of_mem _ b))];congr 1
    unfold qi cmS;rw[(h.at (h.hC c hc).1.1 (rf_cut hc)).2.1]
  exact this _ _ fun c hc=>(List.mem_filter.1 hc).1
 unfold clV cmV;rw[st,(h.at h.ul rz).2.1]
end
end Fo
end
section
namespace Fo
open Go.RowKit Go.Lib Pg Lim Gl Kv Bk Pw
set_option linter.unusedVariables false
set_option linter.unusedSimpArgs false
def sT (x:Nat->Int):Nat->Int
 | 0=>0
 | i+1=>sT x i+x i
def sQ (n:Int) (x:Nat->Int):Nat->Int
 | 0=>0
 | i+1=>sQ n x i+x i / n
theorem De {R:Int->Int} {fr la x:Int} (h:R fr<=R la):cmV R [] fr la x=x * (R la - R fr) / U36:=by
 show 0+x * fW (R la) (R fr) / U36=_
 unfold fW;rw[if_pos h];omega
theorem Ci (fr:Int):aft [] fr=[]:=rfl
end Fo
end
end Go.Proofs.YthfepflplbahkaaGreatDoor
