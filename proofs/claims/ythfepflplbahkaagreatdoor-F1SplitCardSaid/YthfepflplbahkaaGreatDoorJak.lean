import Derived.Test.YthfepflplbahkaaGreatDoorJaj
import Derived.Shelf.Abstract
import Derived.Shelf.RegionOpen
import Derived.OwnWalkIn
import Derived.TacticsInMore
import Derived.LoopNIn
import Derived.LoopIn
set_option maxRecDepth 100000
set_option maxHeartbeats 8000000
namespace Go.Proofs.YthfepflplbahkaaGreatDoor
section
namespace Ky
open Go.RowKit Go.Lib Pg
section
variable {n c:Nat}{ao:Option Addr}{Q:List Int}{Rd:World->Prop}{w:World}
attribute [local go_sem] Oper.semAt_some
def ArBB(Q:List Int)(i:Nat)(args:Array Value)(_:Nat)(_:World):Prop:=∃ p j,j + 1 + i=Q.length/\Q[j]? = some p/\args=#[.int .i64 (j:Int),.int .u8 p]
theorem jY{Tp:TypeId->Prop}{bs:Nat}(hn:Q.length=n)(z:n<=1000000000)(hb:∀ V,Rd V->V.cell? ⟨bs,0,none⟩=some (.slice ao n c)/\∀ j p,Q[j]? = some p->∃ b o,ao=some ⟨b,o,none⟩/\V.cell? ⟨b,o + j,none⟩=some (.int .u8 p)) :
  Itr Tp 176 #[.pointer (some ⟨bs,0,none⟩)] n (ArBB Q) Rd:=by
 intro l J L W O D f G B;have A:=(hb W (f 0 W B)).1
 have hb:Hid _:=hb
 have hn:Hid _:=hn
 have M:IntKind.i64.wrap ((n:Int) - 1)=(n:Int) - 1:=by rw[IntKind.wrap_i64]; omega
 refine(callsIn_wide (n:=0)).1 ?_
 refine callsIn_of_wp Tryz.func176 rfl trivial ?_ rfl;simp only[Tryz.ntmps176,List.size_toArray,List.length_cons,List.length_nil,Nat.reduceAdd,Nat.reduceSub,Array.replicate_succ,Array.replicate_zero,List.push_toArray,List.append_toArray,List.nil_append,List.cons_append];gi_wp2;gi_loopw [3] (fun v wr=>∃ i:Nat,i<=n/\v=.int .i64 ((n:Int) - 1 - (i:Int))/\W.heap.size<=wr.heap.size/\J i wr) (fun v _=>(intOf v + 1).toNat)
 case atStart=>exact⟨0,Nat.zero_le _,by simp,Nat.le_refl _,B⟩
 case round =>
  clear A;obtain⟨i,hi,rfl,s,r⟩:=hrel;obtain⟨A,u⟩:=hb.out wr (f _ _ r);by_cases d:i < n
  ·obtain⟨j,x⟩:∃ j,j + 1 + i=n:=⟨n - 1 - i,by omega⟩
   obtain⟨p,y⟩:∃ p,Q[j]? = some p:=⟨Q[j]'(by have:=hn.out; omega),List.getElem?_eq_getElem _⟩
   obtain⟨b,o,rfl,H⟩:=u j p y
   have m:(n:Int) - 1 - (i:Int)=(j:Int):=by omega
   have E:Hid (j + 1 + i=n):=x;have t:=G i _ wr wr d r s (Below.refl _ _) ⟨p,j,by rw[hn.out]; exact x,y,rfl⟩;obtain⟨fn,tmps,assign,body,hy,F⟩:=t;rw[m]
   have I:IntKind.i64.wrap ((j:Int) - 1)=(j:Int) - 1:=by rw[IntKind.wrap_i64]; omega
   have z1:(j:Int) < n:=by omega
   clear u m x;gi_wp2;refine⟨rfl,F.mono ?_⟩;rintro K N ⟨g,⟨rfl,ac⟩ | ⟨rfl,ac⟩⟩
   ·gi_wp2;go_roundw
    case rel=>exact⟨i + 1,by omega,by have:=E.out; congr 1; omega,Nat.le_trans s g.size,ac⟩
    case measure=>simp[intOf]
   ·gi_wp2;refine bodyPost_ret (results_none rfl _ _ _) rfl ?_
    exact⟨⟨_,rfl⟩,Nat.le_trans s g.size,.inr ⟨i,d,ac⟩⟩
  ·have q:i=n:=by omega
   have m:(n:Int) - 1 - (i:Int) = -1:=by omega
   rw[m]
   have C:Hid (J n wr):=by show J n wr; rw[<- q]; exact r
   clear u m q r;gi_wp2;go_end0;exact⟨⟨_,rfl⟩,s,.inl C.out⟩
theorem ni:Calls Tryz.prog 131 #[.slice ao n c] w fun e w'=>e=.returned (.func (.func 176) #[] #[.pointer (some ⟨w.heap.size,0,none⟩)])/\Blk w' w.heap.size [.slice ao n c] 96/\Below w.heap.size w w':=by
 go_enter Tryz.func131,Tryz.ntmps131;go_wp2;go_ret;exact⟨rfl,aC w _ _,ae w _⟩
end
end Ky
end
section
namespace Ky
open Go.RowKit Go.Lib Pg
section
variable {x:Int}{l:List Int}{w A A' w':World}{B g n c:Nat}{cs:List Value}{D:Nat->Prop}{v:Value}{ao:Option Addr}{ops:Array Oper}{rest:List Oper}{a:Act}{pos:String}
attribute [local go_sem] Oper.semAt_some
def nxt(l:List Int):List Int:=match l.reverse.dropWhile (· == 255) with
 | []=>[]
 | x :: t=>t.reverse ++ [x + 1]
theorem lV:∀ {l:List Int},(∀ x∈l,x=255)->l.dropWhile (· == 255)=[]
 | [],_=>rfl
 | x :: l,h=>by
  have hx:=h x List.mem_cons_self;subst hx;rw[List.dropWhile_cons_of_pos (by decide)];exact lV (fun y hy=>h y (List.mem_cons_of_mem _ hy))
theorem mI(A B:List Int)(hx:x≠255)(h:∀ b∈B,b=255):(A ++ x :: B).reverse.dropWhile (· == 255)=x :: A.reverse:=by
 rw[List.reverse_append,List.reverse_cons,List.append_assoc,List.dropWhile_append_of_pos (fun a c=>by simp[h a (List.mem_reverse.1 c)]),List.singleton_append,List.dropWhile_cons_of_neg (by simp[hx])]
theorem eX(h:∀ x∈l,x=255):nxt l=[]:=by
 have:l.reverse.dropWhile (· == 255)=[]:=by
  exact lV (fun x hx=>h x (List.mem_reverse.1 hx))
 unfold nxt;rw[this]
theorem uk{j:Nat}(c:l[j]? = some x)(hx:x≠255)(h:∀ i y,l[i]? = some y->j < i->y=255):nxt l=l.take j ++ [x + 1]:=by
 have b:j < l.length:=(List.getElem?_eq_some_iff.1 c).1
 have e:l=l.take j ++ x :: l.drop (j + 1):=by
  have d:=(List.take_append_drop j l).symm
  have g:l.drop j=x :: l.drop (j + 1):=by
   rw[List.drop_eq_getElem_cons b];congr 1
   exact(List.getElem?_eq_some_iff.1 c).2
  rw[g] at d;exact d
 have k:l.reverse.dropWhile (· == 255)=x :: (l.take j).reverse:=by
  have f:=mI (l.take j) (l.drop (j + 1)) hx (fun a m=>by
   obtain⟨i,hi⟩:=List.getElem?_of_mem m;rw[List.getElem?_drop] at hi
   exact h (j + 1 + i) a hi (by omega))
  rw[<- e] at f;exact f
 unfold nxt;rw[k];simp
theorem dI{b c:Nat}{B:World}(h:Below b w A)(a:Rec c A B)(f:b<=c)(hw:b<=A.heap.size):Below b w B :=
 ⟨a.os.trans h.os,a.tape.trans h.tape,a.output.trans h.output,Nat.le_trans h.size a.size,fun k e=>by
  obtain⟨o,d⟩:∃ o,A.heap[k]? = some o:=⟨A.heap[k]'(by omega),Array.getElem?_eq_getElem _⟩
  rw[a.same k o d (.inl (by omega)),<- d]
  exact h.block k e⟩
theorem nh{ty:TypeId}(h:Blk A g cs ty)(hr:Rec B A A'):Blk A' g cs ty:=hr.blk h
theorem OB.rcd(h:OB A D v l)(hr:Rec B A A'):OB A' D v l:=by
 refine⟨h.oct,h.ex.imp id ?_⟩;rintro⟨b,c,e,hd,hR⟩;obtain⟨cs,k⟩:=hR.kind;exact⟨b,c,e,hd,hR.same ((hr.blk k).blk.trans k.blk.symm)⟩
theorem By.take(h:By w (.slice ao n c) l)(j:Nat)(r:j<=n):By w (.slice ao j c) (l.take j):=by
 obtain⟨t,hc,hm⟩:=By.lens h;obtain⟨d,s,e,q,k,m,p,g⟩:=h.ex
 cases e
 have hlen:(l.take j).length=j:=by rw[List.length_take]; omega
 refine⟨ao,c,by rw[hlen],by rw[hlen]; omega,k,m,fun x hx=>p x (List.mem_of_mem_take hx),?_⟩;rcases g with rfl | ⟨o,f,e,b,a⟩
 ·exact .inl (by simp)
 ·exact .inr ⟨o,f,e,b,fun i x hi=>a i x (by
   rw[List.getElem?_take] at hi;split at hi
   ·exact hi
   ·cases hi)⟩
theorem oK{o:Nat}(c:w.cell? ⟨g,o,none⟩=some v):(loadVar 96 ⟨g,o,none⟩).run Tryz.prog w=.ok v w:=by go_simp
theorem jM{F:Fence}{Q:Exit->Act->World->Prop}{o:Oper}(d:o.guard=none)(hF:∀ f,F.fn f)(hs:o.semAt F.round a.eval=execOp a.eval o)(b:(execOp a.eval o).run Tryz.prog w=.ok (.value v) w')(h:wpListIn F n Tryz.prog ops Q rest (a.put o.dst v) w'):wpListIn F n Tryz.prog ops Q (o :: rest) a w :=
 wpListIn_plain d fun K c=>by
  unfold Oper.wpIn;rw[hs,b,Oper.uponIn_value];exact⟨fun f _=>hF f,c _ _ h⟩
theorem p5{F:Fence}{Q:Exit->Act->World->Prop}{after:Array Edge}{u r:Value}(hF:∀ f,F.fn f)(hu:a.eval (.tmp 14)=u)(hv:a.eval (.tmp 17)=v)(b:(Builtin.append_ #[96,96] 96 #[u,v]).run Tryz.prog w=.ok r w')(h:wpListIn F n Tryz.prog ops Q rest (a.put (some 18) r) w') :
  wpListIn F n Tryz.prog ops Q ({ dst:=some 18,op:=.call { callee:=.builtin .append,args:=#[.tmp 14,.tmp 17],argTypes:=#[96,96] },type:=96,pos:=pos,after:=after,guard:=none } :: rest) a w :=
 jM rfl hF (Oper.semAt_eq _ _ _ (fun c h=>by cases h)) (ik (x:=14) (y:=17) rfl rfl hu hv b) h
theorem mG(h : By w (.slice ao n c) l)(P : n ≤ 1000000000) :
    Calls Tryz.prog 82 #[.slice ao n c] w fun e w' => ∃ v, e = .returned v ∧ OB w' (w.heap.size ≤ ·) v (nxt l) ∧ Below w.heap.size w w' := by
  obtain⟨hl, hnc, hcm⟩:= By.lens h;have c1 := aC w [.slice ao n c] 96;have b1 := ae w (.cells #[.slice ao n c] 96)
  have s1 : (w.alloc (.cells #[.slice ao n c] 96)).heap.size = w.heap.size + 1 := by simp
  have c2 := aC (w.alloc (.cells #[.slice ao n c] 96)) [.slice none 0 0] 96;have b2 := ae (w.alloc (.cells #[.slice ao n c] 96)) (.cells #[.slice none 0 0] 96)
  have s2 : ((w.alloc (.cells #[.slice ao n c] 96)).alloc (.cells #[.slice none 0 0] 96)).heap.size = w.heap.size + 2 := by simp
  rw[s1] at c2
  have M := c1.keep b2;have I := aj b1 b2;obtain⟨Wa, J⟩ : ∃ Wa, Hid ((w.alloc (.cells #[.slice ao n c] 96)).alloc (.cells #[.slice none 0 0] 96) = Wa) := ⟨_, rfl⟩;rw[J.out] at M c2 s2 I;have HB := aX h;clear h c1 b1 b2 s1;refine(callsIn_wide (n := 0)).1 ?_
  refine callsIn_of_wp_marks Tryz.func82 rfl trivial ?_ rfl;simp only[Tryz.ntmps82, List.size_toArray, List.length_cons, List.length_nil, Nat.reduceAdd, Nat.reduceSub, Array.replicate_succ, Array.replicate_zero, List.push_toArray, List.append_toArray, List.nil_append, List.cons_append];gi_wp2_with (refine⟨trivial, rfl, ?_⟩; gi_at_call 131; rw[J.out]; refine(callsIn_wide.2 ni).mono ?_; rintro e' t ⟨rfl, N, m⟩);rw[s2] at N;have k1 := M.keep m;have k2 := c2.keep m;have d := aj I m;have hs2 := m.size;have IT := jY (Tp := fun _ => False) (bs := w.heap.size + 2) (c := c) (ao := ao) (Q := l) (n := n) (Rd := fun V => Below t.heap.size t V) hl P (fun V hv => ⟨(N.keep hv).cell (i := 0) rfl, fun j p C => By.at ((HB.out.keep d).keep hv) C⟩);refine gN IT (by rfl) (enters_of Tryz.func176 (by kernel_rfl) rfl) (fun i args n V V' h _ => h) (fun i args n V h => by obtain⟨p, j, _, _, rfl⟩:= h; rfl)
    (fun i V => Below t.heap.size t V ∧ ∀ j x, l[j]? = some x → n ≤ j + i → x = 255)
    (fun c i V => c = .ret ∧ ∃ v, Blk V (w.heap.size + 1) [v] 96 ∧ OB V (w.heap.size ≤ ·) v (nxt l) ∧ Below w.heap.size w V)
    (fun i A B hx L => ⟨dI hx.1 L (Nat.le_refl _) hx.1.size, hx.2⟩)
    (fun c i A B hx L => ⟨hx.1, by obtain⟨v, h1, h2, T⟩:= hx.2; exact⟨v, L.blk h1, OB.rcd h2 L, dI T L d.size T.size⟩⟩)
    (fun i V hv => hv.1) ⟨Below.refl _ _, fun j x C hn => by have := (List.getElem?_eq_some_iff.1 C).1; omega⟩ ?_ ?_ ?_
  · rintro l2 i args V Wv hl2 hlV hrec aa ⟨hBV, f⟩ hb ⟨p, j, C, hp, rfl⟩
    simp;gi_wp2;refine⟨Below.refl _ _, ?_⟩;intro V2 W2 u ab hb2 R U hsz3 hV2 r hrec2;have q := u.trans (hb2.mono u.size);have kb := (k1.keep q).cell (i := 0) rfl;have E := k2.keep q
    have hpo : 0 ≤ p ∧ p < 256 := HB.out.oct p (List.mem_of_getElem? hp);clear f hb hBV U R;by_cases H : p = 255
    · subst H
      gi_wp2;refine⟨bj.of (Below.refl _ _), q, fun j2 x hx hn => ?_⟩;by_cases e : j2 = j
      · subst e; rw[hp] at hx; cases hx; rfl
      · exact ab j2 x hx (by omega)
    · have hp6 : p < 255 := by omega
      have BY := By.take ((HB.out.keep d).keep q) j (by omega)
      have G : (l.take j).length = j := by rw[List.length_take]; omega
      have hjn : (j : Int) ≤ c := by omega
      have w9 : IntKind.u8.wrap (p + 1) = p + 1 := by rw[IntKind.wrap_u8]; omega
      have K := aX E;have HW := aX q
      have HNX : Hid (nxt l = l.take j ++ [p + 1]) := uk hp H (fun i2 y hy hi => ab i2 y hy (by omega));clear E q ab
      gi_wp2_with (first
        | (have gate := s; clear gate; refine p5 (fun _ => trivial) rfl rfl s ?_; clear s)
        | (refine⟨trivial, rfl, ?_⟩; gi_at_call 78; refine(CallsIn.inRound l2 (callsIn_wide.2 (cC BY (by omega)))).mono ?_; rintro e' w5 ⟨v5, rfl, O5, b5⟩; obtain⟨v6, F, s, O6, b6⟩:= eO (B := W2.heap.size) (x := p + 1) O5 b5.size (by omega) (by omega); have z := (K.out.keep b5).kR b6 (K.out.lt); have kc := z.cell (i := 0) rfl; have kfr := z.free 0; obtain⟨a5, c5, rfl⟩:= OB.sh O5; obtain⟨a6, c6, rfl⟩:= OB.sh O6; rw[G] at s ⊢))
      have hlt : w.heap.size + 1 < t.heap.size := k2.lt;have hsW := HW.out.size;have S := b5.trans b6
      have O7 : OB F (W2.heap.size ≤ ·) (.slice a6 (j + 1) c6) (l.take j ++ [p + 1]) := by
        have W := O6;rw[show (l.take j ++ [p + 1]).length = j + 1 by rw[List.length_append, G]; rfl] at W;exact W
      have O8 : OB (F.setCell ⟨w.heap.size + 1, 0, none⟩ (.slice a6 (j + 1) c6)) (W2.heap.size ≤ ·) (.slice a6 (j + 1) c6) (l.take j ++ [p + 1]) := O7.same (fun b _ hb => Below.heap_setCell F _ _ b (by show b ≠ w.heap.size + 1; omega))
      have B6 : Below w.heap.size w F := (d.trans (HW.out.mono d.size)).trans (S.mono (Nat.le_trans d.size hsW));refine⟨(bj.of S).trans ⟨?_, fun k o hk h0 _ => (Below.heap_setCell F _ _ k (by show k ≠ w.heap.size + 1; omega)).trans h0⟩, rfl, _, z.setCell (i := 0) _, ?_, B6.setCell (show w.heap.size ≤ w.heap.size + 1 by omega) _⟩
      · exact((Chg.refl (fun x => x = w.heap.size + 1) F).cell (g := w.heap.size + 1) (i := 0) (.inl rfl) _).size
      · rw[HNX.out]
        exact O8.mono (fun b _ hb => by have := d.size; omega)
  · rintro Y Z hD X ⟨q, f⟩
    have E := k2.keep q;have kc := E.cell (i := 0) rfl;have kf := E.free 0
    have hlt : w.heap.size + 1 < t.heap.size := k2.lt
    have O : (Z.setCell ⟨w.heap.size + 1, 0, none⟩ (.slice none 0 0)).heap[Y]? = some (.deferred (some [])) := (Below.heap_setCell Z _ _ Y (by show Y ≠ w.heap.size + 1; omega)).trans X;gi_wp2;refine⟨by simp, .inl ⟨_, _, rfl, run_takeDeferred O, ?_⟩⟩;have D := Rec.put (B := t.heap.size) O rfl hD (.deferred none);have k3 := nh (E.setCell (i := 0) (.slice none 0 0)) D;refine⟨_, ee rfl rfl (oK (k3.cell (i := 0) rfl)), _, rfl, ?_, ?_⟩
    · rw[eX (fun x hx => by
        obtain⟨j, C⟩:= List.getElem?_of_mem hx
        exact f j x C (by omega))]
      exact oN _ _
    · have W : Below w.heap.size w (Z.setCell ⟨w.heap.size + 1, 0, none⟩ (.slice none 0 0)) := (d.trans (q.mono d.size)).setCell (show w.heap.size ≤ w.heap.size + 1 by omega) _
      exact dI W D d.size W.size
  · rintro Y c i Z hD X aa ⟨rfl, v, h1, h2, T⟩
    gi_wp2;refine⟨by simp, .inl ⟨_, _, rfl, run_takeDeferred X, ?_⟩⟩;have D := Rec.put (B := t.heap.size) X rfl hD (.deferred none);have k3 := nh h1 D;exact⟨_, ee rfl rfl (oK (k3.cell (i := 0) rfl)), _, rfl, OB.rcd h2 D, dI T D d.size T.size⟩
end
end Ky
end
section
namespace Ky
open Go.RowKit Go.Lib Pg
attribute [local go_sem] Oper.semAt_some
end Ky
end
section
namespace Ky
open Go.RowKit Go.Lib Pg
section
variable {x y:Int}{a b l c:List Int}
theorem bG:Lt (x :: a) (y :: b)<->x < y\/(x=y/\Lt a b):=by
 unfold Lt;rw[cY];by_cases c:x < y
 ·simp[c]
 ·by_cases d:y < x
  ·rw[if_neg c,if_pos d];constructor
   ·intro h; exact absurd h (by decide)
   ·rintro(h | ⟨h,_⟩)<;>omega
  ·rw[if_neg c,if_neg d];have:x=y:=by omega
   simp[this]
theorem dD:Lt [] (y :: b):=by simp[Lt,cY]
theorem not_lt_nil:¬ Lt a []:=by cases a<;>simp[Lt,cY]
theorem fC(s:List Int):Lt (s ++ a) (s ++ b)<->Lt a b:=by
 induction s with
 | nil=>exact Iff.rfl
 | cons x s ih=>rw[List.cons_append,List.cons_append,bG,ih]; simp
theorem fy:∀ {x y s t:List Int},x.length=y.length->(Lt (x ++ s) (y ++ t)<->Lt x y\/(x=y/\Lt s t))
 | [],[],s,t,_=>by simp[lt_irrefl]
 | [],_ :: _,_,_,h=>by simp at h
 | _ :: _,[],_,_,h=>by simp at h
 | a :: x,b :: y,s,t,h=>by
  rw[List.cons_append,List.cons_append,bG,bG,fy (by simpa using h)];constructor
  ·rintro(h1 | ⟨h1,h2 | ⟨h2,h3⟩⟩)
   ·exact .inl (.inl h1)
   ·exact .inl (.inr ⟨h1,h2⟩)
   ·exact .inr ⟨by rw[h1,h2],h3⟩
  ·rintro((h1 | ⟨h1,h2⟩) | ⟨h1,h2⟩)
   ·exact .inl h1
   ·exact .inr ⟨h1,.inl h2⟩
   ·cases h1; exact .inr ⟨rfl,.inr ⟨rfl,h2⟩⟩
theorem ed:∀ l:List Int,(∀ x∈l,x=255)\/∃ A x B,l=A ++ x :: B/\x≠255/\∀ b∈B,b=255
 | []=>.inl (fun _ h=>by simp at h)
 | y :: t=>by
  rcases ed t with h | ⟨A,x,B,rfl,hx,hB⟩
  ·by_cases hy:y=255
   ·exact .inl (fun x hx=>by
     rcases List.mem_cons.1 hx with rfl | hx
     ·exact hy
     ·exact h x hx)
   ·exact .inr ⟨[],y,t,rfl,hy,h⟩
  ·exact .inr ⟨y :: A,x,B,rfl,hx,hB⟩
theorem gB{A B:List Int}(hx:x≠255)(hB:∀ b∈B,b=255):nxt (A ++ x :: B)=A ++ [x + 1]:=by
 unfold nxt;rw[mI A B hx hB];simp
theorem pr(h:nxt l=[]):∀ x∈l,x=255:=by
 rcases ed l with h1 | ⟨A,x,B,rfl,hx,hB⟩
 ·exact h1
 ·rw[gB hx hB] at h;simp at h
theorem xJ(h:nxt l≠[]):Lt l (nxt l):=by
 rcases ed l with h1 | ⟨A,x,B,rfl,hx,hB⟩
 ·exact absurd (eX h1) h
 ·rw[gB hx hB,fC,bG];exact .inl (by omega)
theorem iT(h:nxt l≠[])(hc:l <+: c):Lt c (nxt l):=by
 rcases ed l with a | ⟨A,x,B,rfl,hx,b⟩
 ·exact absurd (eX a) h
 ·obtain⟨t,rfl⟩:=hc;rw[gB hx b,List.append_assoc,fC,List.cons_append,bG];exact .inl (by omega)
theorem jW:∀ {B t:List Int},(∀ b∈B,b=255)->Oct t->Lt t B\/B <+: t
 | [],_,_,_=>.inr (List.nil_prefix)
 | b :: B,[],_,_=>.inl dD
 | b :: B,z :: t,hB,ht=>by
  have hb:=hB b List.mem_cons_self;have c:=ht z List.mem_cons_self;subst hb;by_cases h:z=255
  ·subst h;rcases jW (fun b hb=>hB b (List.mem_cons_of_mem _ hb)) (fun y hy=>ht y (List.mem_cons_of_mem _ hy)) with a | a
   ·exact .inl (bG.2 (.inr ⟨rfl,a⟩))
   ·exact .inr (List.cons_prefix_cons.2 ⟨rfl,a⟩)
  ·exact .inl (bG.2 (.inl (by omega)))
theorem fZ:∀ {A B c:List Int} {x:Int},(∀ b∈B,b=255)->Oct c->Lt c (A ++ [x + 1])->Lt c (A ++ x :: B)\/(A ++ x :: B) <+: c
 | [],B,[],x,_,_,_=>.inl dD
 | [],B,y :: t,x,hB,hc,h=>by
  rw[List.nil_append,bG] at h;rw[List.nil_append];rcases h with h | ⟨_,h⟩
  ·by_cases e:y=x
   ·subst e;rcases jW hB (fun z hz=>hc z (List.mem_cons_of_mem _ hz)) with h1 | h1
    ·exact .inl (bG.2 (.inr ⟨rfl,h1⟩))
    ·exact .inr (List.cons_prefix_cons.2 ⟨rfl,h1⟩)
   ·exact .inl (bG.2 (.inl (by omega)))
  ·exact absurd h not_lt_nil
 | a :: A,B,[],x,_,_,_=>.inl dD
 | a :: A,B,y :: t,x,hB,hc,h=>by
  rw[List.cons_append,bG] at h;rw[List.cons_append];rcases h with h | ⟨h1,h2⟩
  ·exact .inl (bG.2 (.inl h))
  ·subst h1;rcases fZ hB (fun z hz=>hc z (List.mem_cons_of_mem _ hz)) h2 with h3 | h3
   ·exact .inl (bG.2 (.inr ⟨rfl,h3⟩))
   ·exact .inr (List.cons_prefix_cons.2 ⟨rfl,h3⟩)
theorem iO(hc:Oct c)(e:¬ l <+: c)(f:¬ Lt c l):¬ Lt c (nxt l):=by
 rcases ed l with d | ⟨A,x,B,rfl,hx,b⟩
 ·rw[eX d]; exact not_lt_nil
 ·rw[gB hx b];intro h;rcases fZ b hc h with a | a
  ·exact f a
  ·exact e a
theorem lh:∀ (n:Nat) (a:Int),be (n + 1) a=be n (a / 256) ++ [a % 256]
 | 0,a=>by simp[be]
 | n + 1,a=>by
  rw[be,lh n a,be,List.cons_append];congr 2
  rw[Int.ediv_ediv_of_nonneg (by decide),Int.pow_succ,Int.mul_comm]
theorem yJ(n:Nat):(256:Int) ^ (n + 1)=256 ^ n * 256:=Int.pow_succ 256 n
theorem q8:∀ (n:Nat) {a b:Int},0<=a->a < 256 ^ n->0<=b->b < 256 ^ n->(Lt (be n a) (be n b)<->a < b)
 | 0,a,b,h1,h2,h3,h4=>by
  simp at h2 h4;constructor
  ·intro h; exact absurd h (lt_irrefl _)
  ·intro h; omega
 | n + 1,a,b,h1,h2,h3,h4=>by
  rw[yJ] at h2 h4;have ih:=q8 n (a:=a / 256) (b:=b / 256) (by omega) (by omega) (by omega) (by omega);rw[lh,lh,fy (by rw[aN,aN]),ih];constructor
  ·rintro(h | ⟨h,f⟩)
   ·omega
   ·have he:a / 256=b / 256:=by
     rcases Int.lt_trichotomy (a / 256) (b / 256) with c | c | c
     ·have:=ih.2 c; rw[h] at this; exact absurd this (lt_irrefl _)
     ·exact c
     ·have e:=q8 n (a:=b / 256) (b:=a / 256) (by omega) (by omega) (by omega) (by omega);have:=e.2 c; rw[h] at this; exact absurd this (lt_irrefl _)
    have g:a % 256 < b % 256:=by
     rcases bG.1 f with h7 | ⟨_,h7⟩
     ·exact h7
     ·exact absurd h7 not_lt_nil
    omega
  ·intro h;by_cases he:a / 256 < b / 256
   ·exact .inl he
   ·have d:a / 256=b / 256:=by omega
    exact .inr ⟨by rw[d],bG.2 (.inl (by omega))⟩
theorem be_inj{n:Nat}{a b:Int}(e:0<=a)(g:a < 256 ^ n)(d:0<=b)(f:b < 256 ^ n)(h:be n a=be n b):a=b:=by
 rcases Int.lt_trichotomy a b with c | c | c
 ·have:=(q8 n e g d f).2 c; rw[h] at this; exact absurd this (lt_irrefl _)
 ·exact c
 ·have:=(q8 n d f e g).2 c; rw[h] at this; exact absurd this (lt_irrefl _)
theorem zZ:∀ (n:Nat) {a:Int},0<=a->a < 256 ^ n->bv (be n a)=a
 | 0,a,h1,h2=>by simp at h2; simp[be,bv]; omega
 | n + 1,a,h1,h2=>by
  rw[yJ] at h2;rw[lh,pY,zZ n (by omega) (by omega)];omega
end
end Ky
end
section
namespace Ky
open Go.RowKit Go.Lib Pg
attribute [local go_sem] Oper.semAt_some o7
end Ky
end
section
namespace Ky
open Go.RowKit Go.Lib Pg
attribute [local go_sem] Oper.semAt_some o7
end Ky
end
section
namespace Ky
open Go.RowKit Go.Lib Pg
attribute [local go_sem] Oper.semAt_some o7
instance (l:List Int):Decidable (Oct l):=inferInstanceAs (Decidable (∀ x∈l,0<=x/\x < 256))
end Ky
end
section
namespace Ky
open Go.RowKit Go.Lib Pg
attribute [local go_sem] Oper.semAt_some o7
end Ky
end
end Go.Proofs.YthfepflplbahkaaGreatDoor
