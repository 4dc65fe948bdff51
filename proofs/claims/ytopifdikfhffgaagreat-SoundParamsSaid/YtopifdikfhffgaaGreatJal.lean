/- Several texts, joined: EncI, RcJ, RcK, RcL, EncJ, EncK, RefB2, EncL, EncP, EncQ, EncR, EncS, RcO, RcM, RcN, EncM, RcT. -/
import Derived.Test.YtopifdikfhffgaaGreatJak
import Derived.Test.YtopifdikfhffgaaGreatJaj
import Derived.Test.YtopifdikfhffgaaGreatJab
set_option maxRecDepth 100000
set_option maxHeartbeats 8000000
namespace Go.Proofs.YtopifdikfhffgaaGreat
section
open Go.RowKit Lim
theorem be_bval {l:List Int} (h:Octets l):be l.length (bval l)=l:=by
 refine bval_inj (be_oct _ _) h (be_length _ _) ?_
 have hb:=bval_bound h
 rw [be_val _ hb.1,Int.emod_eq_of_lt hb.1 hb.2]
theorem be_take {l:List Int} (h:Octets l) {m:Nat} (hm:m<=l.length):be m (bval (l.take m))=l.take m:=by
 have:=be_bval (l:=l.take m) (fun x hx=>h x (List.mem_of_mem_take hx))
 rwa [List.length_take,Nat.min_eq_left hm] at this
def One (err':Int) (L L':List Int) (laid:List Int->Prop):Prop:=(err'≠0/\L'=L)\/(err'=0/\∃ k,k<=L.length/\laid (L.take k)/\L'=L.drop k)
theorem one_fix {L:List Int} (h:Octets L) (m:Nat):One (rdE (pFix m L) 0) L (rdL (pFix m L) 0 L) (fun t=>be m (rdV 0 (pFix m L) 0)=t):=by
 by_cases hm:m<=L.length
 ·have e:pFix m L=.inr (bval (L.take m),m):=by unfold pFix; rw [if_pos hm]
  rw [e]
  exact .inr ⟨rfl,m,hm,be_take h hm,rfl⟩
 ·have e:pFix m L=.inl 40:=by unfold pFix; rw [if_neg hm]
  rw [e]
  exact .inl ⟨by decide,rfl⟩
theorem one_bool {L:List Int} (h:Octets L):One (rdE (pBool L) 0) L (rdL (pBool L) 0 L) (fun t=>be 1 (if rdV false (pBool L) 0 then 1 else 0)=t):=by
 by_cases hm:1<=L.length
 ·by_cases hx:1 < bval (L.take 1)
  ·have e:pBool L=.inl 41:=by unfold pBool; rw [if_pos hm,if_pos hx]
   rw [e]
   exact .inl ⟨by decide,rfl⟩
  ·have e:pBool L=.inr (bval (L.take 1) == 1,1):=by unfold pBool; rw [if_pos hm,if_neg hx]
   rw [e]
   refine .inr ⟨rfl,1,hm,?_,rfl⟩
   have hbt:=be_take h hm
   have h0:=(bval_bound (l:=L.take 1) (fun x hx=>h x (List.mem_of_mem_take hx))).1
   show be 1 (if (bval (L.take 1) == 1)=true then 1 else 0)=L.take 1
   generalize L.take 1=M at *
   by_cases h1:bval M=1
   ·rw [h1] at hbt ⊢
    exact hbt
   ·rw [show bval M=0 by omega] at hbt ⊢
    exact hbt
 ·have e:pBool L=.inl 40:=by unfold pBool; rw [if_neg hm]
  rw [e]
  exact .inl ⟨by decide,rfl⟩
theorem cntOf_nn {m:Nat} {L:List Int} (h:Octets L):((cntOf m L:Nat):Int)=bval (L.take m):=by
 unfold cntOf
 rw [Int.toNat_of_nonneg (bval_bound (fun x hx=>h x (List.mem_of_mem_take hx))).1]
theorem cnt_lay {m:Nat} {L:List Int} (h:Octets L) (hm:m<=L.length) (hc:m + cntOf m L<=L.length):cntd m ((L.drop m).take (cntOf m L))=L.take (m + cntOf m L):=by
 unfold cntd
 have e:(((L.drop m).take (cntOf m L)).length:Int)=bval (L.take m):=by
  rw [List.length_take,List.length_drop,Nat.min_eq_left (by omega)]
  exact cntOf_nn h
 rw [e,be_take h hm,List.take_add]
theorem one_nat {L:List Int} (h:Octets L):One (rdE (pNat L) 0) L (rdL (pNat L) 0 L) (fun t=>natE (rdV 0 (pNat L) 0) 0=0/\∀ K,natL (rdV 0 (pNat L) 0) 0 K=K ++ t):=by
 by_cases hm:1<=L.length
 ·by_cases hc:1 + cntOf 1 L<=L.length
  ·by_cases hz:0 < cntOf 1 L/\nth (L.drop 1) 0=0
   ·have e:pNat L=.inl 41:=by unfold pNat; rw [if_pos hm,if_pos hc,if_pos hz]
    rw [e]
    exact .inl ⟨by decide,rfl⟩
   ·have e:pNat L=.inr (bval ((L.drop 1).take (cntOf 1 L)),1 + cntOf 1 L):=by unfold pNat; rw [if_pos hm,if_pos hc,if_neg hz]
    have hcl:=cnt_lay h hm hc
    have hlt:((cntOf 1 L:Nat):Int) < 256:=by
     have:=(bval_bound (l:=L.take 1) (fun x hx=>h x (List.mem_of_mem_take hx))).2
     rw [List.length_take,Nat.min_eq_left hm] at this
     rw [cntOf_nn h]
     simpa using this
    have hoct:Octets ((L.drop 1).take (cntOf 1 L)):=fun x hx=>h x (List.mem_of_mem_drop (List.mem_of_mem_take hx))
    have hlen:((L.drop 1).take (cntOf 1 L)).length=cntOf 1 L:=by rw [List.length_take,List.length_drop]; omega
    have hB:natB (bval ((L.drop 1).take (cntOf 1 L)))=(L.drop 1).take (cntOf 1 L):=natB_unique (bval_bound hoct).1 ⟨hoct,fun hne=>by
     have hpos:0 < cntOf 1 L:=by
      rcases Nat.eq_zero_or_pos (cntOf 1 L) with h0 | h0
      ·exact absurd (by rw [h0]; simp) hne
      ·exact h0
     rw [nth_take hpos]
     exact fun h0=>hz ⟨hpos,h0⟩,rfl⟩
    rw [e]
    refine .inr ⟨rfl,_,hc,?_,rfl⟩
    show natE (bval ((L.drop 1).take (cntOf 1 L))) 0=0/\∀ K,natL (bval ((L.drop 1).take (cntOf 1 L))) 0 K=K ++ L.take (1 + cntOf 1 L)
    unfold natE natL
    rw [hB,if_pos (by omega)]
    refine ⟨rfl,fun K => ?_⟩
    rw [if_pos (by omega),hcl]
    rfl
  ·have e:pNat L=.inl 40:=by unfold pNat; rw [if_pos hm,if_neg hc]
   rw [e]
   exact .inl ⟨by decide,rfl⟩
 ·have e:pNat L=.inl 40:=by unfold pNat; rw [if_neg hm]
  rw [e]
  exact .inl ⟨by decide,rfl⟩
end
section
namespace Rc
open Go.RowKit Go.Lib Pg Lim
theorem cntd_len (m:Nat) (l:List Int):(cntd m l).length=m + l.length:=by
 unfold cntd
 rw [List.length_append,be_length]
theorem take_app {l r:List Int} {m:Nat} (h:l.length=m):(l ++ r).take m=l/\(l ++ r).drop m=r:=by
 subst h
 exact ⟨List.take_left,List.drop_left⟩
theorem back_fix (m:Nat) {x:Int} (hx:0<=x) (r:List Int):pFix m (be m x ++ r)=.inr (x % 256 ^ m,m)/\(be m x ++ r).drop m=r:=by
 have h:=take_app (r:=r) (be_length m x)
 refine ⟨?_,h.2⟩
 unfold pFix
 rw [if_pos (by rw [List.length_append,be_length]; omega),h.1,be_val m hx]
theorem cnt_app {m:Nat} {l r:List Int} (hl:(l.length:Int) < 256 ^ m):cntOf m (cntd m l ++ r)=l.length:=by
 unfold cntOf cntd
 rw [List.append_assoc,(take_app (be_length m _)).1,be_val m (by omega),Int.emod_eq_of_lt (by omega) hl]
 rfl
theorem cnt_drop (m:Nat) (l r:List Int):(cntd m l ++ r).drop m=l ++ r:=by
 unfold cntd
 rw [List.append_assoc,(take_app (be_length m _)).2]
theorem back_nat {V:Int} (hV:0<=V) (hl:(natB V).length < 256) (r:List Int):pNat (cntd 1 (natB V) ++ r)=.inr (V,1 + (natB V).length)/\(cntd 1 (natB V) ++ r).drop (1 + (natB V).length)=r:=by
 have hc:cntOf 1 (cntd 1 (natB V) ++ r)=(natB V).length:=cnt_app (by simpa using (by omega:((natB V).length:Int) < 256))
 have hd:=cnt_drop 1 (natB V) r
 have hB:=natB_is hV
 refine ⟨?_,?_⟩
 ·unfold pNat
  rw [if_pos (by rw [List.length_append,cntd_len]; omega),hc,if_pos (by rw [List.length_append,cntd_len]; omega),hd,if_neg,(take_app rfl).1,hB.2.2]
  rintro ⟨h0,h1⟩
  have hne:natB V≠[]:=fun e=>by rw [e] at h0; simp at h0
  refine hB.2.1 hne ?_
  rw [<- h1]
  cases hh:natB V with
  | nil=>exact absurd hh hne
  | cons x t=>rfl
 ·rw [<- List.drop_drop,hd,(take_app rfl).2]
theorem back_bool (x:Bool) (r:List Int):pBool (be 1 (if x then 1 else 0) ++ r)=.inr (x,1)/\(be 1 (if x then 1 else 0) ++ r).drop 1=r:=by
 cases x
 ·exact ⟨rfl,rfl⟩
 ·exact ⟨rfl,rfl⟩
theorem one1 {l:List Int} (h:Octets l) (k:Nat) (he:rdE (p1 k l) 0=0):enc1 k (rdV 0 (p1 k l) 0) ++ rdL (p1 k l) 0 l=l/\∃ m,rdL (p1 k l) 0 l=l.drop m:=by
 match k with
 | 0 =>
  rcases one_fix h 8 with ⟨h1,_⟩ | ⟨_,m,h2,h3,h4⟩
  ·exact absurd he h1
  ·show be 8 (rdV 0 (pFix 8 l) 0) ++ rdL (pFix 8 l) 0 l=l/\∃ m,rdL (pFix 8 l) 0 l=l.drop m
   rw [h3,h4]
   exact ⟨List.take_append_drop m l,m,rfl⟩
 | 1 =>
  have he':rdE (pBool l) 0=0:=by rw [<- pBoolI_E]; exact he
  rcases one_bool h with ⟨h1,_⟩ | ⟨_,m,h2,h3,h4⟩
  ·exact absurd he' h1
  ·show be 1 (rdV 0 (pBoolI l) 0) ++ rdL (pBoolI l) 0 l=l/\∃ m,rdL (pBoolI l) 0 l=l.drop m
   rw [pBoolI_V,pBoolI_L,h3,h4]
   exact ⟨List.take_append_drop m l,m,rfl⟩
 | k + 2 =>
  rcases one_nat h with ⟨h1,_⟩ | ⟨_,m,h2,⟨h3,h5⟩,h4⟩
  ·exact absurd he h1
  ·show cntd 1 (natB (fit (rdV 0 (pNat l) 0))) ++ rdL (pNat l) 0 l=l/\∃ m,rdL (pNat l) 0 l=l.drop m
   have hf:(natB (rdV 0 (pNat l) 0)).length < 256:=by
    unfold natE at h3
    split at h3
    ·assumption
    ·exact absurd h3 (by decide)
   have e:=h5 []
   unfold natL wrote at e
   rw [if_pos hf,if_pos rfl] at e
   unfold fit
   rw [if_pos hf]
   simp only [List.nil_append] at e
   rw [e,h4]
   exact ⟨List.take_append_drop m l,m,rfl⟩
theorem thr_cons {σ:Type} (nx:Nat->Nat->σ->σ) (p:Nat × Nat) (ks:List (Nat × Nat)) (s:σ):thr nx (p :: ks) s=thr nx ks (nx p.1 p.2 s):=rfl
theorem thr_bad (ks:List (Nat × Nat)):∀ s:RSt,s.1≠0->(thr rnx ks s).1=s.1:=by
 induction ks with
 | nil=>intro s _; rfl
 | cons p ks ih =>
  intro s hs
  have e:(rnx p.1 p.2 s).1=s.1:=rdE_bad hs
  rw [thr_cons,ih _ (by rw [e]; exact hs),e]
theorem thr_place (ks:List (Nat × Nat)) (o:Nat):∀ s:RSt,o ∉ ks.map Prod.snd->(thr rnx ks s).2.2 o=s.2.2 o:=by
 induction ks with
 | nil=>intro s _; rfl
 | cons p ks ih =>
  intro s ho
  rw [List.map_cons,List.mem_cons,not_or] at ho
  rw [thr_cons,ih _ ho.2]
  show (if o=p.2 then _ else _)=_
  rw [if_neg ho.1]
theorem octets_drop {l:List Int} (h:Octets l) (m:Nat):Octets (l.drop m):=fun x hx=>h x (List.mem_of_mem_drop hx)
theorem thr_one (ks:List (Nat × Nat)):∀ (l:List Int) (xs:Nat->Int),Octets l->(ks.map Prod.snd).Nodup->(thr rnx ks (0,l,xs)).1=0->∀ L,thr (pnx (thr rnx ks (0,l,xs)).2.2) ks L ++ (thr rnx ks (0,l,xs)).2.1=L ++ l:=by
 induction ks with
 | nil=>intro l xs _ _ _ L; rfl
 | cons p ks ih =>
  intro l xs ho hnd he L
  rw [List.map_cons,List.nodup_cons] at hnd
  rw [thr_cons] at he
  have e1:rdE (p1 p.1 l) 0=0:=by
   by_cases hz:rdE (p1 p.1 l) 0=0
   ·exact hz
   ·exact absurd ((thr_bad ks (rnx p.1 p.2 (0,l,xs)) hz).symm.trans he) hz
  obtain ⟨h1,m,h2⟩:=one1 ho p.1 e1
  have es:rnx p.1 p.2 (0,l,xs)=(0,rdL (p1 p.1 l) 0 l,fun i=>if i=p.2 then rdV 0 (p1 p.1 l) 0 else xs i):=by
   show (rdE (p1 p.1 l) 0,_,_)=_
   rw [e1]
  have e0:thr rnx (p :: ks) (0,l,xs)=thr rnx ks (0,rdL (p1 p.1 l) 0 l,fun i=>if i=p.2 then rdV 0 (p1 p.1 l) 0 else xs i):=by rw [thr_cons,es]
  rw [es] at he
  rw [e0]
  have ih':=ih _ _ (by rw [h2]; exact octets_drop ho m) hnd.2 he
  rw [thr_cons,ih']
  have ev:(thr rnx ks (0,rdL (p1 p.1 l) 0 l,fun i=>if i=p.2 then rdV 0 (p1 p.1 l) 0 else xs i)).2.2 p.2=rdV 0 (p1 p.1 l) 0:=by
   rw [thr_place ks p.2 _ hnd.1]
   show (if p.2=p.2 then _ else _)=_
   rw [if_pos rfl]
  show (L ++ enc1 p.1 _) ++ _=L ++ l
  rw [ev,List.append_assoc,h1]
def rng:Nat->Int->Prop
 | 0,x=>0<=x/\x < 18446744073709551616
 | 1,x=>x=0\/x=1
 | _,x=>0<=x
def fitk:Nat->Int->Int
 | 0,x=>x
 | 1,x=>x
 | _,x=>fit x
theorem back1 (k:Nat) {x:Int} (hx:rng k x) (r:List Int):∃ m,p1 k (enc1 k x ++ r)=.inr (fitk k x,m)/\(enc1 k x ++ r).drop m=r:=by
 match k,hx with
 | 0,hx =>
  obtain ⟨h1,h2⟩:=back_fix 8 hx.1 r
  refine ⟨8,?_,h2⟩
  show pFix 8 (be 8 x ++ r)=_
  rw [h1,Int.emod_eq_of_lt hx.1 (by have:=hx.2; simpa using this)]
  rfl
 | 1,hx =>
  have key:∀ t:Bool,∃ m,pBoolI (be 1 (if t then 1 else 0) ++ r)=.inr ((if t then 1 else 0),m)/\(be 1 (if t then 1 else 0) ++ r).drop m=r:=fun t=>by
   obtain ⟨h1,h2⟩:=back_bool t r
   refine ⟨1,?_,h2⟩
   unfold pBoolI
   rw [h1]
  rcases hx with rfl | rfl
  ·exact key false
  ·exact key true
 | k + 2,hx =>
  have hV:0<=fit x:=by
   unfold fit
   split
   ·exact hx
   ·decide
  obtain ⟨h1,h2⟩:=back_nat hV (fit_len x) r
  exact ⟨_,h1,h2⟩
theorem thr_back (xv:Nat->Int) (ks:List (Nat × Nat)):∀ (r:List Int) (xs:Nat->Int),(ks.map Prod.snd).Nodup->(∀ p∈ks,rng p.1 (xv p.2))->∃ ys,thr rnx ks (0,thr (pnx xv) ks [] ++ r,xs)=(0,r,ys)/\(∀ p∈ks,ys p.2=fitk p.1 (xv p.2))/\∀ o,o ∉ ks.map Prod.snd->ys o=xs o:=by
 have hL:∀ (ks:List (Nat × Nat)) (L:List Int),thr (pnx xv) ks L=L ++ thr (pnx xv) ks []:=by
  intro ks
  induction ks with
  | nil=>intro L; simp [thr]
  | cons p ks ih =>
   intro L
   rw [thr_cons,thr_cons,ih (pnx xv p.1 p.2 L),ih (pnx xv p.1 p.2 [])]
   simp [pnx,List.append_assoc]
 induction ks with
 | nil=>exact fun r xs _ _=>⟨xs,rfl,(fun p hp=>by cases hp),fun _ _=>rfl⟩
 | cons p ks ih =>
  intro r xs hnd hr
  rw [List.map_cons,List.nodup_cons] at hnd
  obtain ⟨m,h1,h2⟩:=back1 p.1 (hr p List.mem_cons_self) (thr (pnx xv) ks [] ++ r)
  have el:thr (pnx xv) (p :: ks) [] ++ r=enc1 p.1 (xv p.2) ++ (thr (pnx xv) ks [] ++ r):=by
   rw [thr_cons,hL]
   simp [pnx,List.append_assoc]
  rw [el,thr_cons]
  have es:rnx p.1 p.2 (0,enc1 p.1 (xv p.2) ++ (thr (pnx xv) ks [] ++ r),xs)=(0,thr (pnx xv) ks [] ++ r,fun i=>if i=p.2 then fitk p.1 (xv p.2) else xs i):=by
   show (rdE (p1 p.1 _) 0,rdL (p1 p.1 _) 0 _,fun i=>if i=p.2 then rdV 0 (p1 p.1 _) 0 else xs i)=_
   rw [h1]
   show (_,List.drop m _,_)=_
   rw [h2]
   rfl
  rw [es]
  obtain ⟨ys,e1,e2,e3⟩:=ih r _ hnd.2 (fun q hq=>hr q (List.mem_cons_of_mem _ hq))
  refine ⟨ys,e1,fun q hq => ?_,fun o ho => ?_⟩
  ·rcases List.mem_cons.1 hq with rfl | hq
   ·rw [e3 _ hnd.1]
    show (if q.2=q.2 then _ else _)=_
    rw [if_pos rfl]
   ·exact e2 q hq
  ·rw [List.map_cons,List.mem_cons,not_or] at ho
   rw [e3 o ho.2]
   show (if o=p.2 then _ else _)=_
   rw [if_neg ho.1]
end Rc
end
section
namespace Rc
open Go.RowKit Go.Lib Pg
attribute [local go_sem] Oper.semAt_some
theorem enc1_oct (k:Nat) (x:Int):Octets (enc1 k x):=by
 unfold enc1
 split
 ·exact be_oct _ _
 ·exact be_oct _ _
 ·intro y hy
  rcases List.mem_append.1 hy with h | h
  ·exact be_oct _ _ y h
  ·exact natB_oct _ y h
theorem thr_oct (xs:Nat->Int) (ks:List (Nat × Nat)):∀ L,Octets L->Octets (thr (pnx xs) ks L):=by
 induction ks with
 | nil=>exact fun _ h=>h
 | cons p ks ih =>
  intro L h
  rw [thr_cons]
  refine ih _ ?_
  intro y hy
  rcases List.mem_append.1 hy with h1 | h1
  ·exact h y h1
  ·exact enc1_oct _ _ y h1
end Rc
end
section
namespace Rc
open Go.RowKit Go.Lib Pg
attribute [local go_sem] Oper.semAt_some
end Rc
end
section
open Go.RowKit Lim
def stB (s:Stp):Option (List Int) :=
 if s.what=0 then some (be 1 (s.num % 256))
 else if s.what=1 then some (be 4 (s.num % 4294967296))
 else if s.what=2 then some (be 8 s.num)
 else if s.what=3 then some (be 1 (if s.num % 2 == 1 then 1 else 0))
 else if s.what=4\/s.what=5 then (if (natB s.V).length < 256 then some (cntd 1 (natB s.V)) else none)
 else if s.what=6 then some (cntd 4 s.bl)
 else some []
def stO (s:Stp) (o:Option (List Int)):Option (List Int):=o.bind fun L=>(stB s).map (L ++ ·)
def laid (ss:List Stp):Option (List Int):=ss.foldl (fun o s=>stO s o) (some [])
end
section
open Go.RowKit Lim
end
section
open Go.RowKit Lim
end
section
open Go.RowKit Lim
end
section
open Go.RowKit Lim
end
section
open Go.RowKit Lim
end
section
open Go.RowKit Lim
end
section
open Go.RowKit Lim
end
section
namespace Rc
open Go.RowKit Go.Lib Pg Lim
attribute [local go_sem] Oper.semAt_some
end Rc
end
section
namespace Rc
open Go.RowKit Go.Lib Pg Lim
attribute [local go_sem] Oper.semAt_some
end Rc
end
section
namespace Rc
open Go.RowKit Go.Lib Pg Lim
theorem endE_zero {err:Int} {l:List Int} (h:endE err l=0):err=0/\l=[]:=by
 unfold endE at h
 split at h
 ·rename_i he
  split at h
  ·rename_i hl
   exact ⟨he,List.eq_nil_of_length_eq_zero hl⟩
  ·exact absurd h (by decide)
 ·exact absurd h (by assumption)
theorem ones (ks:List (Nat × Nat)) (l:List Int) (ho:Octets l) (hnd:(ks.map Prod.snd).Nodup) (h:endE (thr rnx ks (0,l,fun _=>0)).1 (thr rnx ks (0,l,fun _=>0)).2.1=0):thr (pnx (thr rnx ks (0,l,fun _=>0)).2.2) ks []=l:=by
 obtain ⟨h1,h2⟩:=endE_zero h
 have:=thr_one ks l (fun _=>0) ho hnd h1 []
 rw [h2,List.append_nil,List.nil_append] at this
 exact this
end Rc
end
section
open Go.RowKit Lim
end
section
namespace Rc
open Go.RowKit Go.Lib Pg Lim
attribute [local go_sem] Oper.semAt_some
end Rc
end
end Go.Proofs.YtopifdikfhffgaaGreat
