import Derived.Test.YtjejmkcjflhoiaaGreatDoorJav
import Derived.Test.YtjejmkcjflhoiaaGreatDoorJaw
set_option maxRecDepth 100000
set_option maxHeartbeats 8000000
namespace Go.Proofs.YtjejmkcjflhoiaaGreatDoor
section
namespace Fo
open Go.RowKit Go.Lib Pg Lim Gl Kv Bk Pw
set_option linter.unusedVariables false
set_option linter.unusedSimpArgs false
section
variable {x r k a b:Int}
abbrev Uq(x:Int):Prop:=0<=x/\x < 18446744073709551616
def LIM:Int:=2 ^ 2000
theorem C8(h0:0<=x)(h:x < LIM):Rc.fit x=x:=by
 unfold Rc.fit;refine if_pos ?_
 unfold eA;rw[aT]
 have a:x.toNat < 2 ^ 2000:=by
  have e:((2 ^ 2000:Nat):Int)=LIM:=by unfold LIM;exact Int.natCast_pow 2 2000
  omega
 have b:bitLen x.toNat<=2000:=by
  unfold bitLen;split
  ·omega
  ·rename_i hn;have:=(Nat.log2_lt hn).2 a;omega
 omega
theorem qO(hx:0<=x/\x < LIM)(c:Uq r):hX (hv x r) 0=x/\hX (hv x r) 1=r:=by
 obtain⟨ys,b,a⟩:=Rc.rE (fun o=>([x,r]:List Int).getD o 0) [(2,0),(0,1)] [] (fun _=>0) (by decide) (List.forall_mem_cons.2 ⟨hx.1,List.forall_mem_cons.2 ⟨c,fun _ h=>by cases h⟩⟩);rw[List.append_nil] at b
 have e:Rc.dn (hv x r)=(0,[],ys):=b;unfold hX;rw[e];exact⟨(a.1 (2,0) (by simp)).trans (C8 hx.1 hx.2),a.1 (0,1) (by simp)⟩
theorem wJ(hx:Uq x)(c:Uq r):cX (cv x r) 0=x/\cX (cv x r) 1=r:=by
 obtain⟨ys,b,a⟩:=Rc.rE (fun o=>([x,r]:List Int).getD o 0) [(0,0),(0,1)] [] (fun _=>0) (by decide) (List.forall_mem_cons.2 ⟨hx,List.forall_mem_cons.2 ⟨c,fun _ h=>by cases h⟩⟩);rw[List.append_nil] at b
 have e:Rc.lN (cv x r)=(0,[],ys):=b;unfold cX;rw[e];exact⟨a.1 (0,0) (by simp),a.1 (0,1) (by simp)⟩
theorem CM:hX [] 0=0/\hX [] 1=0:=by decide +kernel
theorem Bv(a b:Int):Ky.mk 7 a b=118 :: (Ky.be 8 a ++ 104 :: Ky.be 8 b):=by
 rw[Ky.mk_eq (k:=7) (n:=18) (m0:=118) (m1:=104) rfl]
 show [118] ++ (if (8:Int) < 18 then Ky.be 8 a else []) ++ (if (104:Int)=0 then [] else [104]) ++ (if (16:Int) < 18 then Ky.be 8 b else [])=_
 simp
theorem qD(a b:Int):Ky.mk 8 a b=118 :: (Ky.be 8 a ++ 115 :: Ky.be 8 b):=by
 rw[Ky.mk_eq (k:=8) (n:=18) (m0:=118) (m1:=115) rfl]
 show [118] ++ (if (8:Int) < 18 then Ky.be 8 a else []) ++ (if (115:Int)=0 then [] else [115]) ++ (if (16:Int) < 18 then Ky.be 8 b else [])=_
 simp
theorem DH(h:k=7\/k=8):Oct (Ky.mk k a b):=by
 rcases h with rfl | rfl
 ·rw[Bv];intro x hx;simp at hx;rcases hx with rfl | hx | rfl | hx
  ·decide
  ·exact Ky.fw _ _ x hx
  ·decide
  ·exact Ky.fw _ _ x hx
 ·rw[qD];intro x hx;simp at hx;rcases hx with rfl | hx | rfl | hx
  ·decide
  ·exact Ky.fw _ _ x hx
  ·decide
  ·exact Ky.fw _ _ x hx
theorem hH{g f:Int}(d:Uq a)(i:k=7\/k=8)(h:g=7\/g=8)(hb:Uq b)(c:Uq f)(e:Ky.mk k a b=Ky.mk g a f):k=g/\b=f:=by
 rcases i with rfl | rfl<;>rcases h with rfl | rfl
 ·exact⟨rfl,(Ky.mk_inj (k:=7) (o:=7) (by decide) (by decide) (by decide) (by decide) d hb d c (zK a b) (zK a f) e).2.2⟩
 ·exact absurd (Ky.mk_inj (k:=7) (o:=8) (by decide) (by decide) (by decide) (by decide) d hb d c (zK a b) (nO a f) e).1 (by decide)
 ·exact absurd (Ky.mk_inj (k:=8) (o:=7) (by decide) (by decide) (by decide) (by decide) d hb d c (nO a b) (zK a f) e).1 (by decide)
 ·exact⟨rfl,(Ky.mk_inj (k:=8) (o:=8) (by decide) (by decide) (by decide) (by decide) d hb d c (nO a b) (nO a f) e).2.2⟩
structure Hs(E:aI)(id:Int)(F D:Int->Option (List Int)):Prop where
 gZ:ff E
 hid:Uq id
 keys:∀ x∈E,∃ k b,(k=7\/k=8)/\Uq b/\x.1=Ky.mk k id b
 h7:∀ p,Uq p->Kv.look E (Ky.mk 7 id p)=F p
 h8:∀ p,Uq p->Kv.look E (Ky.mk 8 id p)=D p
end
section
variable {E:aI} {id p:Int} {F D F' D':Int->Option (List Int)} {v:List Int}
theorem r7 {k v:List Int} {x:KV} (h:x∈put E k v):x∈E\/x=(k,v):=by
 unfold put at h;rcases List.mem_append.1 h with h | h
 ·exact .inl (List.mem_filter.1 h).1
 ·rcases List.mem_cons.1 h with h | h
  ·exact .inr h
  ·exact .inl (List.mem_filter.1 h).1
theorem hs_nil (h:Uq id):Hs [] id (fun _=>none) (fun _=>none):=⟨List.Pairwise.nil,h,(fun _ h=>by cases h),fun _ _=>rfl,fun _ _=>rfl⟩
theorem Hs.congr (h:Hs E id F D) (h1:∀ p,Uq p->F p=F' p) (h2:∀ p,Uq p->D p=D' p):Hs E id F' D':=⟨h.gZ,h.hid,h.keys,fun p hp=>(h.h7 p hp).trans (h1 p hp),fun p hp=>(h.h8 p hp).trans (h2 p hp)⟩
theorem Hs.zP (h:Hs E id F D) (b:Uq p):Hs (put E (Ky.mk 7 id p) v) id (fun q=>if p=q then some v else F q) D:=by
 refine⟨h.gZ.put _ _,h.hid,fun x hx=>(r7 hx).elim (h.keys x) (fun e=>⟨7,p,.inl rfl,b,by rw[e]⟩),fun q a=>?_,fun q a=>?_⟩
 ·rw[kE h.gZ];by_cases c:p=q
  ·rw[if_pos (by rw[c]),if_pos c]
  ·rw[if_neg (fun e=>c (hH h.hid (.inl rfl) (.inl rfl) b a e).2),if_neg c,h.h7 q a]
 ·rw[kE h.gZ,if_neg (fun e=>absurd (hH h.hid (.inl rfl) (.inr rfl) b a e).1 (by decide)),h.h8 q a]
theorem Hs.put8 (h:Hs E id F D) (b:Uq p):Hs (put E (Ky.mk 8 id p) v) id F (fun q=>if p=q then some v else D q):=by
 refine⟨h.gZ.put _ _,h.hid,fun x hx=>(r7 hx).elim (h.keys x) (fun e=>⟨8,p,.inr rfl,b,by rw[e]⟩),fun q a=>?_,fun q a=>?_⟩
 ·rw[kE h.gZ,if_neg (fun e=>absurd (hH h.hid (.inr rfl) (.inl rfl) b a e).1 (by decide)),h.h7 q a]
 ·rw[kE h.gZ];by_cases c:p=q
  ·rw[if_pos (by rw[c]),if_pos c]
  ·rw[if_neg (fun e=>c (hH h.hid (.inr rfl) (.inr rfl) b a e).2),if_neg c,h.h8 q a]
theorem Hs.rem7 (h:Hs E id F D) (b:Uq p):Hs (rem E (Ky.mk 7 id p)) id (fun q=>if p=q then none else F q) D:=by
 refine⟨h.gZ.rem _,h.hid,fun x hx=>h.keys x (List.mem_filter.1 hx).1,fun q a=>?_,fun q a=>?_⟩
 ·rw[rS h.gZ];by_cases c:p=q
  ·rw[if_pos (by rw[c]),if_pos c]
  ·rw[if_neg (fun e=>c (hH h.hid (.inl rfl) (.inl rfl) b a e).2),if_neg c,h.h7 q a]
 ·rw[rS h.gZ,if_neg (fun e=>absurd (hH h.hid (.inl rfl) (.inr rfl) b a e).1 (by decide)),h.h8 q a]
end
def rf (L:List Int) (C:List (Int × Int × Int)) (la p:Int):Nat:=L.count p+(if p=la then 1 else 0)+(C.map (·.1)).count p
def fF (R:Int->Int) (L:List Int) (C:List (Int × Int × Int)) (la p:Int):Option (List Int):=if rf L C la p=0 then none else some (hv (R p) ((rf L C la p:Nat):Int))
def fD (C:List (Int × Int × Int)) (p:Int):Option (List Int):=(C.find? (fun c=>c.1 == p)).map (fun c=>cv c.2.1 c.2.2)
def upd (R:Int->Int) (p x q:Int):Int:=if q=p then x else R q
structure Fs (E:aI) (id la:Int) (R:Int->Int) (L:List Int) (C:List (Int × Int × Int)):Prop where
 hs:Hs E id (fF R L C la) (fD C)
 ul:Uq la
 rng:∀ p,0<=R p/\R p < LIM
 hL:∀ p∈L,Uq p/\p<=la
 hC:∀ c∈C,(Uq c.1/\c.1<=la)/\Uq c.2.1/\Uq c.2.2
 up:C.Pairwise (fun x y=>x.1 < y.1)
 few:L.length+C.length<=1000000
section
variable {E:aI} {id la p:Int} {R:Int->Int} {L:List Int} {C:List (Int × Int × Int)}
section
variable {L':List Int}{R:Int->Int}
theorem rX:rf L C la p<=L.length+1+C.length:=by
 unfold rf
 have b:L.count p<=L.length:=List.count_le_length
 have a:(C.map (·.1)).count p<=C.length:=by
  have:(C.map (·.1)).count p<=(C.map (·.1)).length:=List.count_le_length;rwa [List.length_map] at this
 split<;>omega
theorem sG:0 < rf L C la la:=by unfold rf;rw[if_pos rfl];omega
theorem rf_mem(h:p∈L):0 < rf L C la p:=by
 have:=List.count_pos_iff.2 h;unfold rf;omega
theorem rf_cut{c:Int × Int × Int}(h:c∈C):0 < rf L C la c.1:=by
 have:=List.count_pos_iff.2 (List.mem_map_of_mem (f:=(·.1)) h);unfold rf;omega
theorem Fs.uq(h:Fs E id la R L C)(p:Int):Uq ((rf L C la p:Nat):Int):=by
 have h1:=rX (L:=L) (C:=C) (la:=la) (p:=p);have h2:=h.few;exact⟨by omega,by omega⟩
theorem Fs.at(h:Fs E id la R L C)(a:Uq p)(h0:0 < rf L C la p):Kv.look E (Ky.mk 7 id p)=some (hv (R p) ((rf L C la p:Nat):Int))/\hX (got E (Ky.mk 7 id p)) 0=R p/\hX (got E (Ky.mk 7 id p)) 1=((rf L C la p:Nat):Int):=by
 have e:Kv.look E (Ky.mk 7 id p)=some (hv (R p) ((rf L C la p:Nat):Int)):=by
  rw[h.hs.h7 p a];exact if_neg (by omega)
 refine⟨e,?_⟩;unfold got;rw[e];exact qO (h.rng p) (h.uq p)
theorem zg(hi:Uq id):Fs (ec [] id 0) id 0 (fun _=>0) [] []:=by
 have e:ec [] id 0=put [] (Ky.mk 7 id 0) (hv 0 1):=by
  unfold ec lY got;rw[show Kv.look ([]:aI) (Ky.mk 7 id 0)=none from rfl];simp only[Option.getD_none,CM.1,CM.2];rfl
 refine⟨?_,by decide,fun _=>⟨Int.le_refl _,by unfold LIM;exact Int.pow_pos (by decide)⟩,(fun _ h=>by cases h),(fun _ h=>by cases h),List.Pairwise.nil,by decide⟩;rw[e];refine((hs_nil hi).zP (p:=0) (v:=hv 0 1) (by decide)).congr (fun p _=>?_) (fun p _=>rfl);by_cases c:0=p
 ·subst c;rfl
 ·have e2:rf [] [] 0 p=0:=by unfold rf; rw[if_neg (fun q=>c q.symm)]; rfl
  rw[if_neg c];exact(if_pos e2).symm
theorem Fs.hold(h:Fs E id la R L C)(hf:L.length+C.length+1<=1000000):Fs (ec E id la) id la R (la :: L) C:=by
 obtain⟨b,e1,e2⟩:=h.at h.ul sG;have u:=h.uq la;have a:=rX (L:=L) (C:=C) (la:=la) (p:=la)
 have e:ec E id la=put E (Ky.mk 7 id la) (hv (R la) ((rf (la :: L) C la la:Nat):Int)):=by
  unfold ec lY;rw[e1,e2,if_neg (by omega)];congr 2
  unfold rf at a ⊢;rw[List.count_cons_self];omega
 refine⟨?_,h.ul,h.rng,List.forall_mem_cons.2 ⟨⟨h.ul,Int.le_refl _⟩,h.hL⟩,h.hC,h.up,by simp only[List.length_cons];omega⟩;rw[e];refine(h.hs.zP h.ul).congr (fun p _=>?_) (fun p _=>rfl);by_cases c:la=p
 ·subst c;rw[if_pos rfl];exact(if_neg (by have:=sG (L:=la :: L) (C:=C) (la:=la);omega)).symm
 ·rw[if_neg c];unfold fF rf;rw[List.count_cons_of_ne (by simpa using c)]
theorem Fs.less{C':List (Int × Int × Int)}{la':Int}{E:aI}(hs:Hs E id (fun q=>if p=q/\rf L' C' la' q+1≠0 then some (hv (R q) ((rf L' C' la' q+1:Nat):Int)) else fF R L' C' la' q) (fD C'))(a:Uq p)(g:0<=R p/\R p < LIM)(hu:rf L' C' la' p<=2000000):Hs (letE E id p) id (fF R L' C' la') (fD C'):=by
 have b:Kv.look E (Ky.mk 7 id p)=some (hv (R p) ((rf L' C' la' p+1:Nat):Int)):=by
  rw[hs.h7 p a];exact if_pos ⟨rfl,by omega⟩
 obtain⟨f,h⟩:=qO g (r:=((rf L' C' la' p+1:Nat):Int)) ⟨by omega,by omega⟩
 have e:letE E id p=lY E id p (R p) ((rf L' C' la' p:Nat):Int):=by
  unfold letE got;rw[b];simp only[Option.isSome_some,if_true,Option.getD_some,f,h];congr 1
  omega
 rw[e];unfold lY;split
 ·rename_i c;refine(hs.rem7 a).congr (fun q _=>?_) (fun q _=>rfl);by_cases d:p=q
  ·subst d;rw[if_pos rfl];exact(if_pos (by omega)).symm
  ·rw[if_neg d,if_neg (fun x=>d x.1)]
 ·rename_i c;refine(hs.zP a).congr (fun q _=>?_) (fun q _=>rfl);by_cases d:p=q
  ·subst d;rw[if_pos rfl];exact(if_neg (by omega)).symm
  ·rw[if_neg d,if_neg (fun x=>d x.1)]
theorem Fs.free(h:Fs E id la R L C)(a:p∈L):Fs (letE E id p) id la R (L.erase p) C:=by
 have hc:L.count p=(L.erase p).count p+1:=by
  have:=List.count_pos_iff.2 a;rw[List.count_erase_self];omega
 have d:=List.length_erase_of_mem a;have hf:=h.few;have f:=rX (L:=L.erase p) (C:=C) (la:=la) (p:=p);refine⟨Fs.less (h.hs.congr (fun q _=>?_) (fun q _=>rfl)) (h.hL p a).1 (h.rng p) (by omega),h.ul,h.rng,fun q b=>h.hL q (List.mem_of_mem_erase b),h.hC,h.up,by omega⟩;by_cases c:p=q
 ·subst c;rw[if_pos ⟨rfl,by omega⟩]
  have e:rf L C la p=rf (L.erase p) C la p+1:=by unfold rf;rw[hc];omega
  unfold fF;rw[if_neg (by omega),e]
 ·rw[if_neg (fun x=>c x.1)];unfold fF rf;rw[List.count_erase_of_ne (by simpa using fun x=>c x.symm)]
theorem Fs.close(h:Fs E id la R L C){tk cur:Int}(b:la+1 < 18446744073709551616)(k:0<=cur / tk)(i:R la+cur / tk < LIM):Fs (ea E id (la+1) tk cur) id (la+1) (upd R (la+1) (R la+cur / tk)) L C:=by
 obtain⟨j,e1,e2⟩:=h.at h.ul sG;have g:=h.ul
 have hm:(la+1 - 1) % 18446744073709551616=la:=by omega
 have hf:=h.few;have l:=rX (L:=L) (C:=C) (la:=la+1) (p:=la)
 have c1:L.count (la+1)=0:=List.count_eq_zero.2 fun q=>by have:=(h.hL _ q).2;omega
 have c2:(C.map (·.1)).count (la + 1)=0:=List.count_eq_zero.2 fun q=>by
  obtain⟨c,hc,e⟩:=List.mem_map.1 q;have:=(h.hC c hc).1.2;omega
 have f:∀ q,0<=upd R (la + 1) (R la + cur / tk) q/\upd R (la + 1) (R la + cur / tk) q < LIM:=fun q=>by
  unfold upd;split
  ·exact⟨by have:=(h.rng la).1;omega,i⟩
  ·exact h.rng q
 refine⟨?_,⟨by omega,b⟩,f,fun q a=>⟨(h.hL q a).1,by have:=(h.hL q a).2;omega⟩,fun c hc=>⟨⟨(h.hC c hc).1.1,by have:=(h.hC c hc).1.2;omega⟩,(h.hC c hc).2⟩,h.up,hf⟩;unfold ea;rw[hm,e1];refine Fs.less (L':=L) (C':=C) (la':=la+1) ?_ g (f la) (by omega);unfold lY;rw[if_neg (by decide)];refine(h.hs.zP (p:=la+1) ⟨by omega,b⟩).congr (fun q _=>?_) (fun q _=>rfl);by_cases c:la+1=q
 ·subst c;rw[if_pos rfl,if_neg (by omega)];unfold fF
  have e:rf L C (la+1) (la+1)=1:=by unfold rf;rw[c1,c2,if_pos rfl]
  rw[e,if_neg (by decide)];unfold upd;rw[if_pos rfl];rfl
 ·rw[if_neg c];by_cases d:la=q
  ·subst d;rw[if_pos ⟨rfl,by omega⟩]
   have e:rf L C la la=rf L C (la+1) la+1:=by unfold rf;rw[if_pos rfl,if_neg (by omega)];omega
   unfold fF upd;rw[if_neg (by omega),e,if_neg (by omega)]
  ·rw[if_neg (fun x=>d x.1)]
   have e:rf L C la q=rf L C (la+1) q:=by unfold rf;rw[if_neg (fun x=>d x.symm),if_neg (fun x=>c x.symm)]
   have e2:upd R (la+1) (R la+cur / tk) q=R q:=if_neg (fun x=>c x.symm);unfold fF;rw[e,e2]
theorem Fs.cut(h:Fs E id la R L C){b a:Int}(hb:Uq b)(g:Uq a)(hn:∀ c∈C,c.1 < la)(hf:L.length+C.length+1<=1000000):Fs (sk E id la b a) id la R L (C ++ [(la,b,a)]):=by
 have d:Hs (put E (Ky.mk 8 id la) (cv b a)) id (fF R L C la) (fD (C ++ [(la,b,a)])):=by
  refine(h.hs.put8 h.ul).congr (fun q _=>rfl) (fun q _=>?_);unfold fD;rw[List.find?_append];by_cases c:la=q
  ·subst c
   have e:C.find? (fun c=>c.1 == la)=none:=List.find?_eq_none.2 fun c hc=>by have:=hn c hc;simp;omega
   rw[if_pos rfl,e];simp
  ·rw[if_neg c];simp[c]
 have k:=rX (L:=L) (C:=C) (la:=la) (p:=la)
 have f:Kv.look (put E (Ky.mk 8 id la) (cv b a)) (Ky.mk 7 id la)=some (hv (R la) ((rf L C la la:Nat):Int)):=by
  rw[d.h7 la h.ul];exact if_neg (by have:=sG (L:=L) (C:=C) (la:=la);omega)
 obtain⟨i,j⟩:=qO (h.rng la) (h.uq la)
 have e3:rf L (C ++ [(la,b,a)]) la la=rf L C la la+1:=by
  unfold rf;rw[List.map_append,List.count_append];simp only[List.map_cons,List.map_nil,List.count_cons_self,List.count_nil];omega
 have e:sk E id la b a=put (put E (Ky.mk 8 id la) (cv b a)) (Ky.mk 7 id la) (hv (R la) ((rf L (C ++ [(la,b,a)]) la la:Nat):Int)):=by
  unfold sk ec got lY;rw[f];simp only[Option.getD_some,i,j];rw[if_neg (by omega),e3];congr 2
  omega
 refine⟨?_,h.ul,h.rng,h.hL,fun c hc=>?_,?_,by simp only[List.length_append,List.length_cons,List.length_nil];omega⟩
 ·rw[e];refine(d.zP h.ul).congr (fun q _=>?_) (fun q _=>rfl);by_cases c:la=q
  ·subst c;rw[if_pos rfl];exact(if_neg (by omega)).symm
  ·rw[if_neg c];unfold fF rf;rw[List.map_append,List.count_append];have:List.count q (List.map (fun x=>x.1) [(la,b,a)])=0:=List.count_eq_zero.2 (by simpa using fun x=>c x.symm);rw[this,Nat.add_zero]
 ·rcases List.mem_append.1 hc with hc | hc
  ·exact h.hC c hc
  ·simp at hc;subst hc;exact⟨⟨h.ul,Int.le_refl _⟩,hb,g⟩
 ·refine List.pairwise_append.2 ⟨h.up,by simp,fun x hx y hy=>?_⟩;simp at hy;subst hy;exact hn x hx
end
end
end Fo
end
section
namespace Fo
open Go.RowKit Go.Lib Pg Lim Gl Kv Bk Pw
set_option linter.unusedVariables false
set_option linter.unusedSimpArgs false
section
variable {id b fr:Int}{v:List Int}
theorem lt_nx{l c:List Int}(hc:Oct c)(hn:Kv.nxt l≠[]):Lt c (Kv.nxt l)<->Lt c l\/l <+: c:=by
 constructor
 ·intro h;by_cases c1:Lt c l
  ·exact .inl c1
  by_cases c2:l <+: c
  ·exact .inr c2
  exact absurd h (Kv.oy hc c2 c1)
 ·rintro(h | h)
  ·exact h.trans (Ky.Cu hn)
  ·exact Kv.og hn h
theorem nxt8(id p:Int):Kv.nxt (Ky.mk 8 id p)≠[]:=by
 intro e;have:=Kv.wC e 118 (by rw[qD];simp);omega
theorem vR(a b:Int):(Ky.mk 8 a b).length=18:=by
 rw[qD];simp only[List.length_cons,List.length_append,Ky.aT]
theorem lt78(id b fr:Int):Lt (Ky.mk 7 id b) (Ky.mk 8 id fr):=by
 rw[Bv,qD,Kv.de];refine .inr ⟨rfl,?_⟩;rw[Kv.fS,Kv.de];exact .inl (by decide)
theorem lt88(hi:Uq id)(hb:Uq b)(hf:Uq fr):Lt (Ky.mk 8 id b) (Kv.nxt (Ky.mk 8 id fr))<->b<=fr:=by
 have a:=Ky.Fa (k:=8) (by decide) (by decide) hi hb hi hf (nO id b) (nO id fr);rw[lt_nx (DH (.inr rfl)) (nxt8 id fr)];constructor
 ·rintro(h | h)
  ·have:=a.1 h;rw[if_neg (by decide)] at this;omega
  ·have e:=h.eq_of_length (by rw[vR,vR]);have:=(hH hi (.inr rfl) (.inr rfl) hf hb e).2;omega
 ·intro h;by_cases c:b=fr
  ·subst c;exact .inr (List.prefix_refl _)
  ·exact .inl (a.2 (.inr ⟨rfl,by omega⟩))
theorem rdB8(hi:Uq id)(hb:Uq b):Ky.rdB (Ky.mk 8 id b)=b:=(Ky.mn (k:=8) (by decide) (by decide) hi hb (nO id b)).2.2
theorem lt8{d:Int}(hi:Uq id)(hb:Uq b)(hd:Uq d)(h:Lt (Ky.mk 8 id b) (Ky.mk 8 id d)):b < d:=by
 have a:=(Ky.Fa (k:=8) (by decide) (by decide) hi hb hi hd (nO id b) (nO id d)).1 h;rw[if_neg (by decide)] at a;omega
theorem lt78n:Lt (Ky.mk 7 id b) (Kv.nxt (Ky.mk 8 id fr)):=(lt78 id b fr).trans (Ky.Cu (nxt8 id fr))
theorem key8{la k:Int}(hi:Uq id)(c:k=7\/k=8)(hb:Uq b)(hf:Uq fr)(e:Uq la):mM (Kv.nxt (Ky.mk 8 id fr)) (Kv.nxt (Ky.mk 8 id la)) (Ky.mk k id b,v)=true<->k=8/\fr < b/\b<=la:=by
 unfold mM;simp only[Bool.and_eq_true,Bool.not_eq_true',Bool.or_eq_true,decide_eq_true_eq,decide_eq_false_iff_not];rcases c with rfl | rfl
 ·constructor
  ·rintro⟨h,_⟩;exact absurd lt78n h
  ·rintro⟨h,_⟩;exact absurd h (by decide)
 ·rw[lt88 hi hb hf,lt88 hi hb e];constructor
  ·rintro⟨d,a⟩;exact⟨rfl,by omega,a.resolve_left (nxt8 id la)⟩
  ·rintro⟨_,d,a⟩;exact⟨by omega,.inr a⟩
theorem BR{E:aI}(h:ff E){k:List Int}:(k,v)∈E<->Kv.look E k=some v:=by
 constructor
 ·intro hm;have:∀ F:aI,ff F->(k,v)∈F->Kv.look F k=some v:=by
   intro F hF hm
   induction F with
   | nil=>cases hm
   | cons x F ih =>
    have a:=List.pairwise_cons.1 hF;unfold Kv.look;rcases List.mem_cons.1 hm with e | hm
    ·subst e;rw[List.find?_cons_of_pos (by simp)];rfl
    ·have b:=a.1 _ hm;rw[List.find?_cons_of_neg]
     ·exact ih a.2 hm
     ·intro q;have c:=of_decide_eq_true q;rw[c] at b;exact lt_irrefl _ b
  exact this E h hm
 ·exact Kv.jQ
theorem Av:∀ {A B:List (Int × Int × Int)},A.Pairwise (fun x y=>x.1 < y.1)→B.Pairwise (fun x y=>x.1 < y.1)→(∀ x,x ∈ A ↔ x ∈ B)→A=B
  | [],[],_,_,_=>rfl
  | [],b :: B,_,_,h=>absurd ((h b).2 List.mem_cons_self) (by simp)
  | a :: A,[],_,_,h=>absurd ((h a).1 List.mem_cons_self) (by simp)
  | a :: A, b :: B, h1, h2, h => by
    have p1:=List.pairwise_cons.1 h1;have c:=List.pairwise_cons.1 h2
    have e:a=b:=by
      rcases List.mem_cons.1 ((h a).1 List.mem_cons_self) with q | q
      · exact q
      rcases List.mem_cons.1 ((h b).2 List.mem_cons_self) with r | r
      · exact r.symm
      have:=p1.1 b r;have:=c.1 a q;omega
    subst e;refine congrArg _ (Av p1.2 c.2 fun x=>⟨fun hx=>?_,fun hx=>?_⟩)
    · rcases List.mem_cons.1 ((h x).1 (List.mem_cons_of_mem _ hx)) with q | q
      · have:=p1.1 x hx
        rw[q] at this;omega
      · exact q
    · rcases List.mem_cons.1 ((h x).2 (List.mem_cons_of_mem _ hx)) with q | q
      · have:=c.1 x hx
        rw[q] at this;omega
      · exact q
end
section
variable {E:aI} {id la fr l':Int} {R:Int->Int} {L:List Int} {C:List (Int × Int × Int)}
theorem Fs.find (h:Fs E id la R L C) {c:Int × Int × Int} (hc:c∈C):C.find? (fun d=>d.1 == c.1)=some c:=by
 have up:=h.up;clear h
 induction C with
 | nil=>cases hc
 | cons d C ih =>
  have p:=List.pairwise_cons.1 up;rcases List.mem_cons.1 hc with q | q
  ·subst q;simp
  ·have:=p.1 c q;rw[List.find?_cons_of_neg (by simp;omega)];exact ih q p.2
theorem Fs.inC (h:Fs E id la R L C) {x:KV} (j:Uq l') (hf:Uq fr) (hx:x∈oZ E id fr l'):∃ c∈C,fr < c.1/\c.1<=l'/\x.1=Ky.mk 8 id c.1/\(Ky.rdB x.1,cX x.2 0,cX x.2 1)=c:=by
 obtain⟨hm,i⟩:=List.mem_filter.1 hx;obtain⟨k,b,g,hb,e⟩:=h.hs.keys x hm;obtain⟨o,f⟩:=x;simp only at e;subst e;obtain⟨rfl,n,m⟩:=(key8 h.hs.hid g hb hf j).1 i;have e1:=(BR h.hs.gZ).1 hm;rw[h.hs.h8 b hb] at e1;unfold fD at e1;obtain⟨c,hc,hv⟩:=Option.map_eq_some_iff.1 e1;have a:=List.mem_of_find?_eq_some hc
 have d:c.1=b:=by simpa using List.find?_some hc
 obtain⟨q1,l⟩:=wJ (h.hC c a).2.1 (h.hC c a).2.2;refine⟨c,a,by omega,by omega,by rw[d],?_⟩
 show (Ky.rdB (Ky.mk 8 id b),cX f 0,cX f 1)=c
 rw[<- hv,q1,l,rdB8 h.hs.hid hb,<- d]
theorem Fs.il (h:Fs E id la R L C) (hf:Uq fr) (g:Uq l'):dB E id fr l'=C.filter (fun c=>decide (fr < c.1/\c.1<=l')):=by
 refine Av ?_ (h.up.filter _) fun c=>⟨fun hc=>?_,fun hc=>?_⟩
 ·unfold dB;refine List.pairwise_map.2 (List.Pairwise.imp_of_mem (fun {x y} hx hy b=>?_) (List.Pairwise.filter _ h.hs.gZ));obtain⟨c,hc,_,_,e1,e2⟩:=h.inC g hf hx;obtain⟨d,hd,_,_,f1,f2⟩:=h.inC g hf hy;rw[e1,f1] at b;have f:=lt8 h.hs.hid (h.hC c hc).1.1 (h.hC d hd).1.1 b
  show (Ky.rdB x.1,cX x.2 0,cX x.2 1).1 < (Ky.rdB y.1,cX y.2 0,cX y.2 1).1
  rw[e2,f2];exact f
 ·obtain⟨x,hx,rfl⟩:=List.mem_map.1 hc;obtain⟨c,a,k,j,_,e⟩:=h.inC g hf hx;rw[e];exact List.mem_filter.2 ⟨a,by simpa using ⟨k,j⟩⟩
 ·obtain⟨a,l⟩:=List.mem_filter.1 hc
  have i:fr < c.1/\c.1<=l':=by simpa using l
  have u:=(h.hC c a).1.1
  have e:Kv.look E (Ky.mk 8 id c.1)=some (cv c.2.1 c.2.2):=by
   rw[h.hs.h8 c.1 u];unfold fD;rw[h.find a];rfl
  obtain⟨q1,m⟩:=wJ (h.hC c a).2.1 (h.hC c a).2.2;refine List.mem_map.2 ⟨(Ky.mk 8 id c.1,cv c.2.1 c.2.2),List.mem_filter.2 ⟨jQ e,(key8 h.hs.hid (.inr rfl) u hf g).2 ⟨rfl,i⟩⟩,?_⟩
  show (Ky.rdB (Ky.mk 8 id c.1),cX (cv c.2.1 c.2.2) 0,cX (cv c.2.1 c.2.2) 1)=c
  rw[q1,m,rdB8 h.hs.hid u]
theorem Fs.frm8 (h:Fs E id la R L C) (hf:Uq fr) (a:Uq l'):∀ x∈oZ E id fr l',Ky.frm (8:Nat)=Ky.fIn x.1:=fun x hx=>by
 obtain⟨c,hc,_,_,e,_⟩:=h.inC a hf hx;rw[e];exact(Ky.mn (k:=8) (by decide) (by decide) h.hs.hid (h.hC c hc).1.1 (nO id c.1)).1
def cmS (R:Int->Int) (s:Int × Int × Int) (c:Int × Int × Int):Int × Int × Int:=(s.1+s.2.1 * iC (R c.1) s.2.2 / U36,s.2.1 * (c.2.2 * U36) / (c.2.1 * U36),R c.1)
def cmV (R:Int->Int) (C:List (Int × Int × Int)) (fr la x:Int):Int:=(C.foldl (cmS R) (0,x,R fr)).1+(C.foldl (cmS R) (0,x,R fr)).2.1 * iC (R la) (C.foldl (cmS R) (0,x,R fr)).2.2 / U36
def aft (C:List (Int × Int × Int)) (fr:Int):List (Int × Int × Int):=C.filter (fun c=>decide (fr < c.1))
theorem Fs.E8 (h:Fs E id la R L C) (hf:Uq fr):dB E id fr la=aft C fr:=by
 rw[h.il hf h.ul];refine List.filter_congr fun c hc=>?_
 have:=(h.hC c hc).1.2;exact decide_eq_decide.2 ⟨fun q=>q.1,fun q=>⟨q,this⟩⟩
theorem Fs.wZ (h:Fs E id la R L C) {x:Int} (hf:fr∈L):clV E id fr la x=cmV R (aft C fr) fr la x:=by
 have hu:=(h.hL fr hf).1
 have st:kU E id fr la x (dB E id fr la).length=(aft C fr).foldl (cmS R) (0,x,R fr):=by
  unfold kU;rw[List.take_length,h.E8 hu,(h.at hu (rf_mem hf)).2.1];have:∀ (D:List (Int × Int × Int)) (s:Int × Int × Int),(∀ c∈D,c∈C)->D.foldl (pX E id) s=D.foldl (cmS R) s:=by
   intro D
   induction D with
   | nil=>intro s _;rfl
   | cons c D ih =>
    intro s a;have hc:=a c List.mem_cons_self;rw[List.foldl_cons,List.foldl_cons,ih _ (fun d hd=>a d (List.mem_cons_of_mem _ hd))];congr 1
    unfold pX cmS;rw[(h.at (h.hC c hc).1.1 (rf_cut hc)).2.1]
  exact this _ _ fun c hc=>(List.mem_filter.1 hc).1
 unfold clV cmV;rw[st,(h.at h.ul sG).2.1]
end
end Fo
end
section
namespace Fo
open Go.RowKit Go.Lib Pg Lim Gl Kv Bk Pw
set_option linter.unusedVariables false
set_option linter.unusedSimpArgs false
end Fo
end
end Go.Proofs.YtjejmkcjflhoiaaGreatDoor
