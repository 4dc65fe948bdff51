import Derived.Test.YthfepflplbahkaaGreatDoorJaj
import Derived.Shelf.Abstract
import Derived.Shelf.RegionOpen
import Derived.OwnWalkIn
import Derived.TacticsInMore
import Derived.LoopNIn
import Derived.LoopIn
set_option maxRecDepth 100000
set_option maxHeartbeats 8000000
namespace Go.Proofs.YthfepflplbahkaaGreatDoor
section
namespace Ky
open Go.RowKit Go.Lib Pg
attribute [local go_sem] Oper.semAt_some
section
variable {n c:Nat}{ao:Option Addr}{Q:List Int}{Rd:World->Prop}{w:World}
def ArBB(Q:List Int)(i:Nat)(args:Array Value)(_:Nat)(_:World):Prop:=∃ p j,j + 1 + i=Q.length/\Q[j]? = some p/\args=#[.int .i64 (j:Int),.int .u8 p]
theorem ky{Tp:TypeId->Prop}{bs:Nat}(hn:Q.length=n)(A:n<=1000000000)(hb:∀ V,Rd V->V.cell? ⟨bs,0,none⟩=some (.slice ao n c)/\∀ j p,Q[j]? = some p->∃ b o,ao=some ⟨b,o,none⟩/\V.cell? ⟨b,o + j,none⟩=some (.int .u8 p)) :
  Itr Tp 176 #[.pointer (some ⟨bs,0,none⟩)] n (ArBB Q) Rd:=by
 intro l J N W L E u F B;have z:=(hb W (u 0 W B)).1
 have hb:Hid _:=hb
 have hn:Hid _:=hn
 have P:IntKind.i64.wrap ((n:Int) - 1)=(n:Int) - 1:=by rw[IntKind.wrap_i64]; omega
 refine(callsIn_wide (n:=0)).1 ?_
 refine callsIn_of_wp Tryz.func176 rfl trivial ?_ rfl;simp only[Tryz.ntmps176,List.size_toArray,List.length_cons,List.length_nil,Nat.reduceAdd,Nat.reduceSub,Array.replicate_succ,Array.replicate_zero,List.push_toArray,List.append_toArray,List.nil_append,List.cons_append];gi_wp2;gi_loopw [3] (fun x wr=>∃ i:Nat,i<=n/\x=.int .i64 ((n:Int) - 1 - (i:Int))/\W.heap.size<=wr.heap.size/\J i wr) (fun x _=>(intOf x + 1).toNat)
 case atStart=>exact⟨0,Nat.zero_le _,by simp,Nat.le_refl _,B⟩
 case round =>
  clear z;obtain⟨i,hi,rfl,f,d⟩:=hrel;obtain⟨z,m⟩:=hb.out wr (u _ _ d);by_cases s:i < n
  ·obtain⟨j,v⟩:∃ j,j + 1 + i=n:=⟨n - 1 - i,by omega⟩
   obtain⟨p,C⟩:∃ p,Q[j]? = some p:=⟨Q[j]'(by have:=hn.out; omega),List.getElem?_eq_getElem _⟩
   obtain⟨b,o,rfl,M⟩:=m j p C
   have r:(n:Int) - 1 - (i:Int)=(j:Int):=by omega
   have H:Hid (j + 1 + i=n):=v;have y:=F i _ wr wr s d f (Below.refl _ _) ⟨p,j,by rw[hn.out]; exact v,C,rfl⟩;obtain⟨fn,tmps,assign,body,hy,D⟩:=y;rw[r]
   have O:IntKind.i64.wrap ((j:Int) - 1)=(j:Int) - 1:=by rw[IntKind.wrap_i64]; omega
   have z1:(j:Int) < n:=by omega
   clear m r v;gi_wp2;refine⟨rfl,D.mono ?_⟩;rintro I K ⟨t,⟨rfl,g⟩ | ⟨rfl,g⟩⟩
   ·gi_wp2;go_roundw
    case rel=>exact⟨i + 1,by omega,by have:=H.out; congr 1; omega,Nat.le_trans f t.size,g⟩
    case measure=>simp[intOf]
   ·gi_wp2;refine bodyPost_ret (results_none rfl _ _ _) rfl ?_
    exact⟨⟨_,rfl⟩,Nat.le_trans f t.size,.inr ⟨i,s,g⟩⟩
  ·have q:i=n:=by omega
   have r:(n:Int) - 1 - (i:Int) = -1:=by omega
   rw[r]
   have G:Hid (J n wr):=by show J n wr; rw[<- q]; exact d
   clear m r q d;gi_wp2;go_end0;exact⟨⟨_,rfl⟩,f,.inl G.out⟩
theorem mm:Calls Tryz.prog 131 #[.slice ao n c] w fun e w'=>e=.returned (.func (.func 176) #[] #[.pointer (some ⟨w.heap.size,0,none⟩)])/\Blk w' w.heap.size [.slice ao n c] 96/\Below w.heap.size w w':=by
 go_enter Tryz.func131,Tryz.ntmps131;go_wp2;go_ret;exact⟨rfl,aC w _ _,ae w _⟩
end
end Ky
end
section
namespace Ky
open Go.RowKit Go.Lib Pg
attribute [local go_sem] Oper.semAt_some
section
variable {x:Int}{l:List Int}{w A A' w':World}{B g n c:Nat}{cs:List Value}{D:Nat->Prop}{v:Value}{ao:Option Addr}{ops:Array Oper}{rest:List Oper}{a:Act}{pos:String}
def nxt(l:List Int):List Int:=match l.reverse.dropWhile (· == 255) with
 | []=>[]
 | x :: t=>t.reverse ++ [x + 1]
theorem lI:∀ {l:List Int},(∀ x∈l,x=255)->l.dropWhile (· == 255)=[]
 | [],_=>rfl
 | x :: l,h=>by
  have hx:=h x List.mem_cons_self;subst hx;rw[List.dropWhile_cons_of_pos (by decide)];exact lI (fun y hy=>h y (List.mem_cons_of_mem _ hy))
theorem lJ(A B:List Int)(hx:x≠255)(h:∀ b∈B,b=255):(A ++ x :: B).reverse.dropWhile (· == 255)=x :: A.reverse:=by
 rw[List.reverse_append,List.reverse_cons,List.append_assoc,List.dropWhile_append_of_pos (fun a c=>by simp[h a (List.mem_reverse.1 c)]),List.singleton_append,List.dropWhile_cons_of_neg (by simp[hx])]
theorem fj(h:∀ x∈l,x=255):nxt l=[]:=by
 have:l.reverse.dropWhile (· == 255)=[]:=by
  exact lI (fun x hx=>h x (List.mem_reverse.1 hx))
 unfold nxt;rw[this]
theorem uf{j:Nat}(c:l[j]? = some x)(hx:x≠255)(h:∀ i y,l[i]? = some y->j < i->y=255):nxt l=l.take j ++ [x + 1]:=by
 have b:j < l.length:=(List.getElem?_eq_some_iff.1 c).1
 have e:l=l.take j ++ x :: l.drop (j + 1):=by
  have d:=(List.take_append_drop j l).symm
  have g:l.drop j=x :: l.drop (j + 1):=by
   rw[List.drop_eq_getElem_cons b];congr 1
   exact(List.getElem?_eq_some_iff.1 c).2
  rw[g] at d;exact d
 have m:l.reverse.dropWhile (· == 255)=x :: (l.take j).reverse:=by
  have f:=lJ (l.take j) (l.drop (j + 1)) hx (fun a k=>by
   obtain⟨i,hi⟩:=List.getElem?_of_mem k;rw[List.getElem?_drop] at hi
   exact h (j + 1 + i) a hi (by omega))
  rw[<- e] at f;exact f
 unfold nxt;rw[m];simp
theorem dK{b c:Nat}{B:World}(h:Below b w A)(a:Rec c A B)(f:b<=c)(hw:b<=A.heap.size):Below b w B :=
 ⟨a.os.trans h.os,a.tape.trans h.tape,a.output.trans h.output,Nat.le_trans h.size a.size,fun k e=>by
  obtain⟨o,d⟩:∃ o,A.heap[k]? = some o:=⟨A.heap[k]'(by omega),Array.getElem?_eq_getElem _⟩
  rw[a.same k o d (.inl (by omega)),<- d]
  exact h.block k e⟩
theorem mO{ty:TypeId}(h:Blk A g cs ty)(hr:Rec B A A'):Blk A' g cs ty:=hr.blk h
theorem OB.rcd(h:OB A D v l)(hr:Rec B A A'):OB A' D v l:=by
 refine⟨h.oct,h.ex.imp id ?_⟩;rintro⟨b,c,e,hd,hR⟩;obtain⟨cs,k⟩:=hR.kind;exact⟨b,c,e,hd,hR.same ((hr.blk k).blk.trans k.blk.symm)⟩
theorem By.take(h:By w (.slice ao n c) l)(j:Nat)(s:j<=n):By w (.slice ao j c) (l.take j):=by
 obtain⟨q,hc,hm⟩:=By.lens h;obtain⟨k,t,e,r,p,m,d,o⟩:=h.ex
 cases e
 have hlen:(l.take j).length=j:=by rw[List.length_take]; omega
 refine⟨ao,c,by rw[hlen],by rw[hlen]; omega,p,m,fun x hx=>d x (List.mem_of_mem_take hx),?_⟩;rcases o with rfl | ⟨f,g,e,b,a⟩
 ·exact .inl (by simp)
 ·exact .inr ⟨f,g,e,b,fun i x hi=>a i x (by
   rw[List.getElem?_take] at hi;split at hi
   ·exact hi
   ·cases hi)⟩
theorem ox{o:Nat}(c:w.cell? ⟨g,o,none⟩=some v):(loadVar 96 ⟨g,o,none⟩).run Tryz.prog w=.ok v w:=by go_simp
theorem jN{F:Fence}{Q:Exit->Act->World->Prop}{o:Oper}(c:o.guard=none)(hF:∀ f,F.fn f)(hs:o.semAt F.round a.eval=execOp a.eval o)(b:(execOp a.eval o).run Tryz.prog w=.ok (.value v) w')(h:wpListIn F n Tryz.prog ops Q rest (a.put o.dst v) w'):wpListIn F n Tryz.prog ops Q (o :: rest) a w :=
 wpListIn_plain c fun K d=>by
  unfold Oper.wpIn;rw[hs,b,Oper.uponIn_value];exact⟨fun f _=>hF f,d _ _ h⟩
theorem oV{F:Fence}{Q:Exit->Act->World->Prop}{after:Array Edge}{u r:Value}(hF:∀ f,F.fn f)(hu:a.eval (.tmp 14)=u)(hv:a.eval (.tmp 17)=v)(b:(Builtin.append_ #[96,96] 96 #[u,v]).run Tryz.prog w=.ok r w')(h:wpListIn F n Tryz.prog ops Q rest (a.put (some 18) r) w') :
  wpListIn F n Tryz.prog ops Q ({ dst:=some 18,op:=.call { callee:=.builtin .append,args:=#[.tmp 14,.tmp 17],argTypes:=#[96,96] },type:=96,pos:=pos,after:=after,guard:=none } :: rest) a w :=
 jN rfl hF (Oper.semAt_eq _ _ _ (fun c h=>by cases h)) (iq (x:=14) (y:=17) rfl rfl hu hv b) h
theorem mD(h : By w (.slice ao n c) l)(S : n ≤ 1000000000) :
    Calls Tryz.prog 82 #[.slice ao n c] w fun e w' => ∃ v, e = .returned v ∧ OB w' (w.heap.size ≤ ·) v (nxt l) ∧ Below w.heap.size w w' := by
  obtain⟨hl, hnc, hcm⟩:= By.lens h;have c1 := aC w [.slice ao n c] 96;have b1 := ae w (.cells #[.slice ao n c] 96)
  have s1 : (w.alloc (.cells #[.slice ao n c] 96)).heap.size = w.heap.size + 1 := by simp
  have c2 := aC (w.alloc (.cells #[.slice ao n c] 96)) [.slice none 0 0] 96;have b2 := ae (w.alloc (.cells #[.slice ao n c] 96)) (.cells #[.slice none 0 0] 96)
  have s2 : ((w.alloc (.cells #[.slice ao n c] 96)).alloc (.cells #[.slice none 0 0] 96)).heap.size = w.heap.size + 2 := by simp
  rw[s1] at c2
  have L := c1.keep b2;have R := aj b1 b2;obtain⟨Wa, I⟩ : ∃ Wa, Hid ((w.alloc (.cells #[.slice ao n c] 96)).alloc (.cells #[.slice none 0 0] 96) = Wa) := ⟨_, rfl⟩;rw[I.out] at L c2 s2 R;have HB := aW h;clear h c1 b1 b2 s1;refine(callsIn_wide (n := 0)).1 ?_
  refine callsIn_of_wp_marks Tryz.func82 rfl trivial ?_ rfl;simp only[Tryz.ntmps82, List.size_toArray, List.length_cons, List.length_nil, Nat.reduceAdd, Nat.reduceSub, Array.replicate_succ, Array.replicate_zero, List.push_toArray, List.append_toArray, List.nil_append, List.cons_append];gi_wp2_with (refine⟨trivial, rfl, ?_⟩; gi_at_call 131; rw[I.out]; refine(callsIn_wide.2 mm).mono ?_; rintro e' z ⟨rfl, T, s⟩);rw[s2] at T;have k1 := L.keep s;have k2 := c2.keep s;have m := aj R s;have hs2 := s.size;have IT := ky (Tp := fun _ => False) (bs := w.heap.size + 2) (c := c) (ao := ao) (Q := l) (n := n) (Rd := fun V => Below z.heap.size z V) hl S (fun V hv => ⟨(T.keep hv).cell (i := 0) rfl, fun j p F => By.at ((HB.out.keep m).keep hv) F⟩);refine gS IT (by rfl) (enters_of Tryz.func176 (by kernel_rfl) rfl) (fun i args n V V' h _ => h) (fun i args n V h => by obtain⟨p, j, _, _, rfl⟩:= h; rfl)
    (fun i V => Below z.heap.size z V ∧ ∀ j x, l[j]? = some x → n ≤ j + i → x = 255)
    (fun c i V => c = .ret ∧ ∃ v, Blk V (w.heap.size + 1) [v] 96 ∧ OB V (w.heap.size ≤ ·) v (nxt l) ∧ Below w.heap.size w V)
    (fun i A B hx O => ⟨dK hx.1 O (Nat.le_refl _) hx.1.size, hx.2⟩)
    (fun c i A B hx O => ⟨hx.1, by obtain⟨v, h1, h2, P⟩:= hx.2; exact⟨v, O.blk h1, OB.rcd h2 O, dK P O m.size P.size⟩⟩)
    (fun i V hv => hv.1) ⟨Below.refl _ _, fun j x F hn => by have := (List.getElem?_eq_some_iff.1 F).1; omega⟩ ?_ ?_ ?_
  · rintro l2 i args V Wv hl2 hlV hrec hiN ⟨hBV, q⟩ hb ⟨p, j, F, hp, rfl⟩
    simp;gi_wp2;refine⟨Below.refl _ _, ?_⟩;intro V2 W2 u f hb2 N W hsz3 hV2 r hrec2;have d := u.trans (hb2.mono u.size);have kb := (k1.keep d).cell (i := 0) rfl;have G := k2.keep d
    have hpo : 0 ≤ p ∧ p < 256 := HB.out.oct p (List.mem_of_getElem? hp);clear q hb hBV W N;by_cases X : p = 255
    · subst X
      gi_wp2;refine⟨bp.of (Below.refl _ _), d, fun j2 x hx hn => ?_⟩;by_cases e : j2 = j
      · subst e; rw[hp] at hx; cases hx; rfl
      · exact f j2 x hx (by omega)
    · have hp6 : p < 255 := by omega
      have BY := By.take ((HB.out.keep m).keep d) j (by omega)
      have J : (l.take j).length = j := by rw[List.length_take]; omega
      have hjn : (j : Int) ≤ c := by omega
      have w9 : IntKind.u8.wrap (p + 1) = p + 1 := by rw[IntKind.wrap_u8]; omega
      have K := aW G;have HW := aW d
      have HNX : Hid (nxt l = l.take j ++ [p + 1]) := uf hp X (fun i2 y hy hi => f i2 y hy (by omega));clear G d f
      gi_wp2_with (first
        | (have gate := t; clear gate; refine oV (fun _ => trivial) rfl rfl t ?_; clear t)
        | (refine⟨trivial, rfl, ?_⟩; gi_at_call 78; refine(CallsIn.inRound l2 (callsIn_wide.2 (cE BY (by omega)))).mono ?_; rintro e' w5 ⟨v5, rfl, O5, b5⟩; obtain⟨v6, E, t, O6, b6⟩:= eJ (B := W2.heap.size) (x := p + 1) O5 b5.size (by omega) (by omega); have C := (K.out.keep b5).kJ b6 (K.out.lt); have kc := C.cell (i := 0) rfl; have kfr := C.free 0; obtain⟨a5, c5, rfl⟩:= OB.sh O5; obtain⟨a6, c6, rfl⟩:= OB.sh O6; rw[J] at t ⊢))
      have hlt : w.heap.size + 1 < z.heap.size := k2.lt;have hsW := HW.out.size;have M := b5.trans b6
      have O7 : OB E (W2.heap.size ≤ ·) (.slice a6 (j + 1) c6) (l.take j ++ [p + 1]) := by
        have H := O6;rw[show (l.take j ++ [p + 1]).length = j + 1 by rw[List.length_append, J]; rfl] at H;exact H
      have O8 : OB (E.setCell ⟨w.heap.size + 1, 0, none⟩ (.slice a6 (j + 1) c6)) (W2.heap.size ≤ ·) (.slice a6 (j + 1) c6) (l.take j ++ [p + 1]) := O7.same (fun b _ hb => Below.heap_setCell E _ _ b (by show b ≠ w.heap.size + 1; omega))
      have B6 : Below w.heap.size w E := (m.trans (HW.out.mono m.size)).trans (M.mono (Nat.le_trans m.size hsW));refine⟨(bp.of M).trans ⟨?_, fun k o hk h0 _ => (Below.heap_setCell E _ _ k (by show k ≠ w.heap.size + 1; omega)).trans h0⟩, rfl, _, C.setCell (i := 0) _, ?_, B6.setCell (show w.heap.size ≤ w.heap.size + 1 by omega) _⟩
      · exact((Chg.refl (fun x => x = w.heap.size + 1) E).cell (g := w.heap.size + 1) (i := 0) (.inl rfl) _).size
      · rw[HNX.out]
        exact O8.mono (fun b _ hb => by have := m.size; omega)
  · rintro Y Z hD hK ⟨d, q⟩
    have G := k2.keep d;have kc := G.cell (i := 0) rfl;have kf := G.free 0
    have hlt : w.heap.size + 1 < z.heap.size := k2.lt
    have U : (Z.setCell ⟨w.heap.size + 1, 0, none⟩ (.slice none 0 0)).heap[Y]? = some (.deferred (some [])) := (Below.heap_setCell Z _ _ Y (by show Y ≠ w.heap.size + 1; omega)).trans hK;gi_wp2;refine⟨by simp, .inl ⟨_, _, rfl, run_takeDeferred U, ?_⟩⟩;have D := Rec.put (B := z.heap.size) U rfl hD (.deferred none);have k3 := mO (G.setCell (i := 0) (.slice none 0 0)) D;refine⟨_, ef rfl rfl (ox (k3.cell (i := 0) rfl)), _, rfl, ?_, ?_⟩
    · rw[fj (fun x hx => by
        obtain⟨j, F⟩:= List.getElem?_of_mem hx
        exact q j x F (by omega))]
      exact oX _ _
    · have H : Below w.heap.size w (Z.setCell ⟨w.heap.size + 1, 0, none⟩ (.slice none 0 0)) := (m.trans (d.mono m.size)).setCell (show w.heap.size ≤ w.heap.size + 1 by omega) _
      exact dK H D m.size H.size
  · rintro Y c i Z hD hK hiN ⟨rfl, v, h1, h2, P⟩
    gi_wp2;refine⟨by simp, .inl ⟨_, _, rfl, run_takeDeferred hK, ?_⟩⟩;have D := Rec.put (B := z.heap.size) hK rfl hD (.deferred none);have k3 := mO h1 D;exact⟨_, ef rfl rfl (ox (k3.cell (i := 0) rfl)), _, rfl, OB.rcd h2 D, dK P D m.size P.size⟩
end
end Ky
end
section
namespace Ky
open Go.RowKit Go.Lib Pg
attribute [local go_sem] Oper.semAt_some
end Ky
end
section
namespace Ky
open Go.RowKit Go.Lib Pg
section
variable {x y:Int}{a b l c:List Int}
theorem bG:Lt (x :: a) (y :: b)<->x < y\/(x=y/\Lt a b):=by
 unfold Lt;rw[cZ];by_cases c:x < y
 ·simp[c]
 ·by_cases d:y < x
  ·rw[if_neg c,if_pos d];constructor
   ·intro h; exact absurd h (by decide)
   ·rintro(h | ⟨h,_⟩)<;>omega
  ·rw[if_neg c,if_neg d];have:x=y:=by omega
   simp[this]
theorem dI:Lt [] (y :: b):=by simp[Lt,cZ]
theorem not_lt_nil:¬ Lt a []:=by cases a<;>simp[Lt,cZ]
theorem fL(s:List Int):Lt (s ++ a) (s ++ b)<->Lt a b:=by
 induction s with
 | nil=>exact Iff.rfl
 | cons x s ih=>rw[List.cons_append,List.cons_append,bG,ih]; simp
theorem fw:∀ {x y s t:List Int},x.length=y.length->(Lt (x ++ s) (y ++ t)<->Lt x y\/(x=y/\Lt s t))
 | [],[],s,t,_=>by simp[lt_irrefl]
 | [],_ :: _,_,_,h=>by simp at h
 | _ :: _,[],_,_,h=>by simp at h
 | a :: x,b :: y,s,t,h=>by
  rw[List.cons_append,List.cons_append,bG,bG,fw (by simpa using h)];constructor
  ·rintro(h1 | ⟨h1,h2 | ⟨h2,h3⟩⟩)
   ·exact .inl (.inl h1)
   ·exact .inl (.inr ⟨h1,h2⟩)
   ·exact .inr ⟨by rw[h1,h2],h3⟩
  ·rintro((h1 | ⟨h1,h2⟩) | ⟨h1,h2⟩)
   ·exact .inl h1
   ·exact .inr ⟨h1,.inl h2⟩
   ·cases h1; exact .inr ⟨rfl,.inr ⟨rfl,h2⟩⟩
theorem et:∀ l:List Int,(∀ x∈l,x=255)\/∃ A x B,l=A ++ x :: B/\x≠255/\∀ b∈B,b=255
 | []=>.inl (fun _ h=>by simp at h)
 | y :: t=>by
  rcases et t with h | ⟨A,x,B,rfl,hx,hB⟩
  ·by_cases hy:y=255
   ·exact .inl (fun x hx=>by
     rcases List.mem_cons.1 hx with rfl | hx
     ·exact hy
     ·exact h x hx)
   ·exact .inr ⟨[],y,t,rfl,hy,h⟩
  ·exact .inr ⟨y :: A,x,B,rfl,hx,hB⟩
theorem gj{A B:List Int}(hx:x≠255)(hB:∀ b∈B,b=255):nxt (A ++ x :: B)=A ++ [x + 1]:=by
 unfold nxt;rw[lJ A B hx hB];simp
theorem pP(h:nxt l=[]):∀ x∈l,x=255:=by
 rcases et l with h1 | ⟨A,x,B,rfl,hx,hB⟩
 ·exact h1
 ·rw[gj hx hB] at h;simp at h
theorem xn(h:nxt l≠[]):Lt l (nxt l):=by
 rcases et l with h1 | ⟨A,x,B,rfl,hx,hB⟩
 ·exact absurd (fj h1) h
 ·rw[gj hx hB,fL,bG];exact .inl (by omega)
theorem iP(h:nxt l≠[])(hc:l <+: c):Lt c (nxt l):=by
 rcases et l with b | ⟨A,x,B,rfl,hx,a⟩
 ·exact absurd (fj b) h
 ·obtain⟨t,rfl⟩:=hc;rw[gj hx a,List.append_assoc,fL,List.cons_append,bG];exact .inl (by omega)
theorem j9:∀ {B t:List Int},(∀ b∈B,b=255)->Oct t->Lt t B\/B <+: t
 | [],_,_,_=>.inr (List.nil_prefix)
 | b :: B,[],_,_=>.inl dI
 | b :: B,z :: t,hB,ht=>by
  have hb:=hB b List.mem_cons_self;have c:=ht z List.mem_cons_self;subst hb;by_cases h:z=255
  ·subst h;rcases j9 (fun b hb=>hB b (List.mem_cons_of_mem _ hb)) (fun y hy=>ht y (List.mem_cons_of_mem _ hy)) with a | a
   ·exact .inl (bG.2 (.inr ⟨rfl,a⟩))
   ·exact .inr (List.cons_prefix_cons.2 ⟨rfl,a⟩)
  ·exact .inl (bG.2 (.inl (by omega)))
theorem fY:∀ {A B c:List Int} {x:Int},(∀ b∈B,b=255)->Oct c->Lt c (A ++ [x + 1])->Lt c (A ++ x :: B)\/(A ++ x :: B) <+: c
 | [],B,[],x,_,_,_=>.inl dI
 | [],B,y :: t,x,hB,hc,h=>by
  rw[List.nil_append,bG] at h;rw[List.nil_append];rcases h with h | ⟨_,h⟩
  ·by_cases e:y=x
   ·subst e;rcases j9 hB (fun z hz=>hc z (List.mem_cons_of_mem _ hz)) with h1 | h1
    ·exact .inl (bG.2 (.inr ⟨rfl,h1⟩))
    ·exact .inr (List.cons_prefix_cons.2 ⟨rfl,h1⟩)
   ·exact .inl (bG.2 (.inl (by omega)))
  ·exact absurd h not_lt_nil
 | a :: A,B,[],x,_,_,_=>.inl dI
 | a :: A,B,y :: t,x,hB,hc,h=>by
  rw[List.cons_append,bG] at h;rw[List.cons_append];rcases h with h | ⟨h1,h2⟩
  ·exact .inl (bG.2 (.inl h))
  ·subst h1;rcases fY hB (fun z hz=>hc z (List.mem_cons_of_mem _ hz)) h2 with h3 | h3
   ·exact .inl (bG.2 (.inr ⟨rfl,h3⟩))
   ·exact .inr (List.cons_prefix_cons.2 ⟨rfl,h3⟩)
theorem jd(hc:Oct c)(e:¬ l <+: c)(d:¬ Lt c l):¬ Lt c (nxt l):=by
 rcases et l with f | ⟨A,x,B,rfl,hx,b⟩
 ·rw[fj f]; exact not_lt_nil
 ·rw[gj hx b];intro h;rcases fY b hc h with a | a
  ·exact d a
  ·exact e a
theorem kX:∀ (n:Nat) (a:Int),be (n + 1) a=be n (a / 256) ++ [a % 256]
 | 0,a=>by simp[be]
 | n + 1,a=>by
  rw[be,kX n a,be,List.cons_append];congr 2
  rw[Int.ediv_ediv_of_nonneg (by decide),Int.pow_succ,Int.mul_comm]
theorem y9(n:Nat):(256:Int) ^ (n + 1)=256 ^ n * 256:=Int.pow_succ 256 n
theorem rH:∀ (n:Nat) {a b:Int},0<=a->a < 256 ^ n->0<=b->b < 256 ^ n->(Lt (be n a) (be n b)<->a < b)
 | 0,a,b,h1,h2,h3,h4=>by
  simp at h2 h4;constructor
  ·intro h; exact absurd h (lt_irrefl _)
  ·intro h; omega
 | n + 1,a,b,h1,h2,h3,h4=>by
  rw[y9] at h2 h4;have ih:=rH n (a:=a / 256) (b:=b / 256) (by omega) (by omega) (by omega) (by omega);rw[kX,kX,fw (by rw[aN,aN]),ih];constructor
  ·rintro(h | ⟨h,f⟩)
   ·omega
   ·have he:a / 256=b / 256:=by
     rcases Int.lt_trichotomy (a / 256) (b / 256) with c | c | c
     ·have:=ih.2 c; rw[h] at this; exact absurd this (lt_irrefl _)
     ·exact c
     ·have d:=rH n (a:=b / 256) (b:=a / 256) (by omega) (by omega) (by omega) (by omega);have:=d.2 c; rw[h] at this; exact absurd this (lt_irrefl _)
    have g:a % 256 < b % 256:=by
     rcases bG.1 f with h7 | ⟨_,h7⟩
     ·exact h7
     ·exact absurd h7 not_lt_nil
    omega
  ·intro h;by_cases he:a / 256 < b / 256
   ·exact .inl he
   ·have e:a / 256=b / 256:=by omega
    exact .inr ⟨by rw[e],bG.2 (.inl (by omega))⟩
theorem be_inj{n:Nat}{a b:Int}(f:0<=a)(d:a < 256 ^ n)(g:0<=b)(e:b < 256 ^ n)(h:be n a=be n b):a=b:=by
 rcases Int.lt_trichotomy a b with c | c | c
 ·have:=(rH n f d g e).2 c; rw[h] at this; exact absurd this (lt_irrefl _)
 ·exact c
 ·have:=(rH n g e f d).2 c; rw[h] at this; exact absurd this (lt_irrefl _)
theorem yc:∀ (n:Nat) {a:Int},0<=a->a < 256 ^ n->bv (be n a)=a
 | 0,a,h1,h2=>by simp at h2; simp[be,bv]; omega
 | n + 1,a,h1,h2=>by
  rw[y9] at h2;rw[kX,oO,yc n (by omega) (by omega)];omega
end
end Ky
end
section
namespace Ky
open Go.RowKit Go.Lib Pg
attribute [local go_sem] Oper.semAt_some o5
end Ky
end
section
namespace Ky
open Go.RowKit Go.Lib Pg
attribute [local go_sem] Oper.semAt_some o5
end Ky
end
section
namespace Ky
open Go.RowKit Go.Lib Pg
attribute [local go_sem] Oper.semAt_some o5
end Ky
end
section
namespace Ky
open Go.RowKit Go.Lib Pg
attribute [local go_sem] Oper.semAt_some o5
end Ky
end
end Go.Proofs.YthfepflplbahkaaGreatDoor
