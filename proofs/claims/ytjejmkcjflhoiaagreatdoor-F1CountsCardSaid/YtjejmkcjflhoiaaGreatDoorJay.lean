import Derived.Test.YtjejmkcjflhoiaaGreatDoorJax
import Derived.Test.YtjejmkcjflhoiaaGreatDoorJav
set_option maxRecDepth 100000
set_option maxHeartbeats 8000000
namespace Go.Proofs.YtjejmkcjflhoiaaGreatDoor
namespace Fo
open Go.RowKit Go.Lib Pg Lim Gl Kv Bk Pw
set_option linter.unusedVariables false
set_option linter.unusedSimpArgs false
theorem FM (id:Int):Ky.mkb (Ky.frm 7) (Ky.tn 7 id)=118 :: (Ky.be 8 id ++ [104]):=by
 show [118] ++ (if (8:Int) < 18 then Ky.be 8 id else []) ++ (if (104:Int)=0 then [] else [104])=_
 simp
theorem Fq (id:Int):Ky.mkb (Ky.frm 8) (Ky.tn 8 id)=118 :: (Ky.be 8 id ++ [115]):=by
 show [118] ++ (if (8:Int) < 18 then Ky.be 8 id else []) ++ (if (115:Int)=0 then [] else [115])=_
 simp
theorem Ft (id b:Int):Ky.mkb (Ky.frm 7) (Ky.tn 7 id) <+: Ky.mk 7 id b:=by
 rw[FM,rn];exact⟨Ky.be 8 b,by simp⟩
theorem Fv (id b:Int):Ky.mkb (Ky.frm 8) (Ky.tn 8 id) <+: Ky.mk 8 id b:=by
 rw[Fq,ly];exact⟨Ky.be 8 b,by simp⟩
theorem pre78 (id b:Int):¬ Ky.mkb (Ky.frm 7) (Ky.tn 7 id) <+: Ky.mk 8 id b:=by
 rw[FM,ly];intro h;simp at h
theorem pre87 (id b:Int):¬ Ky.mkb (Ky.frm 8) (Ky.tn 8 id) <+: Ky.mk 7 id b:=by
 rw[Fq,rn];intro h;simp at h
theorem wA:∀ {A M:List Int},A.Nodup->(∀ x∈A,x∈M)->A.length<=M.length
 | [],_,_,_=>Nat.zero_le _
 | a :: A,M,h,hs=>by
  have hn:=List.nodup_cons.1 h;have c:=hs a List.mem_cons_self;have:=wA (A:=A) (M:=M.erase a) hn.2 fun x hx=>by
   have b:x≠a:=fun e=>by rw[e] at hx;exact hn.1 hx
   exact(List.mem_erase_of_ne b).2 (hs x (List.mem_cons_of_mem _ hx))
  rw[List.length_erase_of_mem c] at this;have:=List.length_pos_of_mem c;simp only[List.length_cons];omega
theorem rdB7 {id b:Int} (hi:Uq id) (hb:Uq b):Ky.rdB (Ky.mk 7 id b)=b:=(Ky.kA (k:=7) (by decide) (by decide) hi hb (yf id b)).2.2
section
variable {E:aI} {id la:Int} {R:Int->Int} {L:List Int} {C:List (Int × Int × Int)}
section
variable {x:KV}
theorem Fs.in7(h:Fs E id la R L C)(hx:x∈E)(a:Ky.mkb (Ky.frm 7) (Ky.tn 7 id) <+: x.1):∃ b,Uq b/\x.1=Ky.mk 7 id b/\0 < rf L C la b:=by
 obtain⟨k,b,c,hb,e⟩:=h.hs.keys x hx;obtain⟨f,d⟩:=x;simp only at e a;subst e;rcases c with rfl | rfl
 ·refine⟨b,hb,rfl,?_⟩;have e1:=(oF h.hs.gv).1 hx;rw[h.hs.h7 b hb] at e1;unfold fF at e1;split at e1
  ·cases e1
  ·omega
 ·exact absurd a (pre78 id b)
theorem Fs.FQ(h:Fs E id la R L C)(k:Int)(n:k=7\/k=8)(P:KV->Bool)(m:∀ x∈E,P x=true->∃ b,Uq b/\x.1=Ky.mk k id b):((E.filter P).map (fun x=>Ky.rdB x.1)).Nodup:=by
 refine List.pairwise_map.2 (List.Pairwise.imp_of_mem (fun {x y} hx hy a e=>?_) (List.Pairwise.filter _ h.hs.gv));obtain⟨i,d⟩:=List.mem_filter.1 hx;obtain⟨f,g⟩:=List.mem_filter.1 hy;obtain⟨b,hb,l⟩:=m x i d;obtain⟨c,hc,j⟩:=m y f g
 have o:b=c:=by
  rw[l,j] at e;rcases n with rfl | rfl
  ·rwa [rdB7 h.hs.hid hb,rdB7 h.hs.hid hc] at e
  ·rwa [xN h.hs.hid hb,xN h.hs.hid hc] at e
 rw[l,j,o] at a;exact lt_irrefl _ a
theorem rf_in{p:Int}(h:0 < rf L C la p):p∈la :: (L ++ C.map (·.1)):=by
 unfold rf at h;by_cases c:p=la
 ·rw[c];exact List.mem_cons_self
 ·rw[if_neg c] at h;refine List.mem_cons_of_mem _ (List.mem_append.2 ?_);by_cases d:0 < L.count p
  ·exact .inl (List.count_pos_iff.1 d)
  ·exact .inr (List.count_pos_iff.1 (by omega))
theorem Fs.num7(h:Fs E id la R L C):1<=gq E 7 id/\gq E 7 id<=1+L.length+C.length:=by
 have g:∀ x∈E,decide (Ky.mkb (Ky.frm 7) (Ky.tn 7 id) <+: x.1)=true->∃ b,Uq b/\x.1=Ky.mk 7 id b:=fun x hx d=>by
  obtain⟨b,hb,e,_⟩:=h.in7 hx (of_decide_eq_true d);exact⟨b,hb,e⟩
 constructor
 ·have e:=(h.at h.ul pS).1;have hm:=gO e;exact List.length_pos_of_mem (List.mem_filter.2 ⟨hm,decide_eq_true (Ft id la)⟩)
 ·have f:=h.FQ 7 (.inl rfl) _ g;have:=wA (M:=la :: (L ++ C.map (·.1))) f fun p d=>by
   obtain⟨x,hx,rfl⟩:=List.mem_map.1 d;obtain⟨c,a⟩:=List.mem_filter.1 hx;obtain⟨b,hb,e,h0⟩:=h.in7 c (of_decide_eq_true a);rw[e,rdB7 h.hs.hid hb];exact rf_in h0
  unfold gq;simp only[List.length_map,List.length_cons,List.length_append] at this;omega
theorem Fs.in8(h:Fs E id la R L C)(hx:x∈E)(d:Ky.mkb (Ky.frm 8) (Ky.tn 8 id) <+: x.1):∃ c∈C,x.1=Ky.mk 8 id c.1:=by
 obtain⟨k,b,f,hb,e⟩:=h.hs.keys x hx;obtain⟨i,g⟩:=x;simp only at e d;subst e;rcases f with rfl | rfl
 ·exact absurd d (pre87 id b)
 ·have e1:=(oF h.hs.gv).1 hx;rw[h.hs.h8 b hb] at e1;unfold fD at e1;obtain⟨c,hc,_⟩:=Option.map_eq_some_iff.1 e1
  have a:c.1=b:=by simpa using List.find?_some hc
  exact⟨c,List.mem_of_find?_eq_some hc,by rw[a]⟩
theorem Fs.num8(h:Fs E id la R L C):gq E 8 id=C.length:=by
 have l:∀ x∈E,decide (Ky.mkb (Ky.frm 8) (Ky.tn 8 id) <+: x.1)=true->∃ b,Uq b/\x.1=Ky.mk 8 id b:=fun x hx a=>by
  obtain⟨c,hc,e⟩:=h.in8 hx (of_decide_eq_true a);exact⟨c.1,(h.hC c hc).1.1,e⟩
 have j:=h.FQ 8 (.inr rfl) _ l;have k:=wA (M:=C.map (·.1)) j fun p a=>by
  obtain⟨x,hx,rfl⟩:=List.mem_map.1 a;obtain⟨g,d⟩:=List.mem_filter.1 hx;obtain⟨c,hc,e⟩:=h.in8 g (of_decide_eq_true d);rw[e,xN h.hs.hid (h.hC c hc).1.1];exact List.mem_map_of_mem (f:=(·.1)) hc
 have nc:(C.map (·.1)).Nodup:=List.pairwise_map.2 (h.up.imp fun {x y} q e=>by omega);have i:=wA (A:=C.map (·.1)) (M:=(E.filter (fun x=>decide (Ky.mkb (Ky.frm 8) (Ky.tn 8 id) <+: x.1))).map (fun x=>Ky.rdB x.1)) nc fun p a=>by
  obtain⟨c,hc,rfl⟩:=List.mem_map.1 a;have u:=(h.hC c hc).1.1
  have e:Kv.look E (Ky.mk 8 id c.1)=some (cv c.2.1 c.2.2):=by
   rw[h.hs.h8 c.1 u];unfold fD;rw[h.find hc];rfl
  exact List.mem_map.2 ⟨_,List.mem_filter.2 ⟨gO e,decide_eq_true (Fv id c.1)⟩,xN h.hs.hid u⟩
 unfold gq;simp only[List.length_map] at k i;omega
theorem Fs.gone(h:Fs E id la R L C):ml (ml E 7 id) 8 id=[]:=by
 have mem:∀ (a:List (List Int)) (F:aI) (x:KV),x∈a.foldl Kv.rem F->x∈F/\∀ k∈a,x.1≠k:=by
  intro a
  induction a with
  | nil=>intro F x hx;exact⟨hx,fun _ h=>by cases h⟩
  | cons k a ih =>
   intro F x hx;obtain⟨c,g⟩:=ih _ x hx;obtain⟨d,i⟩:=List.mem_filter.1 c;exact⟨d,List.forall_mem_cons.2 ⟨of_decide_eq_true i,g⟩⟩
 refine List.eq_nil_iff_forall_not_mem.2 fun x hx=>?_
 obtain⟨c,g⟩:=mem _ _ x hx;obtain⟨d,i⟩:=mem _ _ x c;obtain⟨k,b,j,hb,e⟩:=h.hs.keys x d;rcases j with rfl | rfl
 ·exact i x.1 (List.mem_map_of_mem (f:=(·.1)) (List.mem_filter.2 ⟨d,decide_eq_true (by rw[e];exact Ft id b)⟩)) rfl
 ·exact g x.1 (List.mem_map_of_mem (f:=(·.1)) (List.mem_filter.2 ⟨c,decide_eq_true (by rw[e];exact Fv id b)⟩)) rfl
end
end
end Fo
end Go.Proofs.YtjejmkcjflhoiaaGreatDoor
