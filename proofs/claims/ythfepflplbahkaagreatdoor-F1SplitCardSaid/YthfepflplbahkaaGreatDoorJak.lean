import Derived.Test.YthfepflplbahkaaGreatDoorJaj
import Derived.Shelf.Abstract
import Derived.Shelf.RegionOpen
import Derived.OwnWalkIn
import Derived.TacticsInMore
import Derived.LoopNIn
import Derived.LoopIn
set_option maxRecDepth 100000
set_option maxHeartbeats 8000000
namespace Go.Proofs.YthfepflplbahkaaGreatDoor
section
namespace Ky
open Go.RowKit Go.Lib Pg
attribute [local go_sem] Oper.semAt_some
section
variable {n c:Nat}{ao:Option Addr}{Q:List Int}{Rd:World->Prop}{w:World}
def ArBB(Q:List Int)(i:Nat)(args:Array Value)(_:Nat)(_:World):Prop:=∃ p j,j + 1 + i=Q.length/\Q[j]? = some p/\args=#[.int .i64 (j:Int),.int .u8 p]
theorem j0{Tp:TypeId->Prop}{bs:Nat}(hn:Q.length=n)(B:n<=1000000000)(hb:∀ V,Rd V->V.cell? ⟨bs,0,none⟩=some (.slice ao n c)/\∀ j p,Q[j]? = some p->∃ b o,ao=some ⟨b,o,none⟩/\V.cell? ⟨b,o + j,none⟩=some (.int .u8 p)) :
  Itr Tp 176 #[.pointer (some ⟨bs,0,none⟩)] n (ArBB Q) Rd:=by
 intro l J L W M E q F C;have z:=(hb W (q 0 W C)).1
 have hb:Hid _:=hb
 have hn:Hid _:=hn
 have I:IntKind.i64.wrap ((n:Int) - 1)=(n:Int) - 1:=by rw[IntKind.wrap_i64]; omega
 refine(callsIn_wide (n:=0)).1 ?_
 refine callsIn_of_wp Tryz.func176 rfl trivial ?_ rfl;simp only[Tryz.ntmps176,List.size_toArray,List.length_cons,List.length_nil,Nat.reduceAdd,Nat.reduceSub,Array.replicate_succ,Array.replicate_zero,List.push_toArray,List.append_toArray,List.nil_append,List.cons_append];gi_wp2;gi_loopw [3] (fun v wr=>∃ i:Nat,i<=n/\v=.int .i64 ((n:Int) - 1 - (i:Int))/\W.heap.size<=wr.heap.size/\J i wr) (fun v _=>(intOf v + 1).toNat)
 case atStart=>exact⟨0,Nat.zero_le _,by simp,Nat.le_refl _,C⟩
 case round =>
  clear z;obtain⟨i,hi,rfl,f,d⟩:=hrel;obtain⟨z,g⟩:=hb.out wr (q _ _ d);by_cases s:i < n
  ·obtain⟨j,y⟩:∃ j,j + 1 + i=n:=⟨n - 1 - i,by omega⟩
   obtain⟨p,A⟩:∃ p,Q[j]? = some p:=⟨Q[j]'(by have:=hn.out; omega),List.getElem?_eq_getElem _⟩
   obtain⟨b,o,rfl,O⟩:=g j p A
   have t:(n:Int) - 1 - (i:Int)=(j:Int):=by omega
   have D:Hid (j + 1 + i=n):=y;have x:=F i _ wr wr s d f (Below.refl _ _) ⟨p,j,by rw[hn.out]; exact y,A,rfl⟩;obtain⟨fn,tmps,assign,body,hy,H⟩:=x;rw[t]
   have P:IntKind.i64.wrap ((j:Int) - 1)=(j:Int) - 1:=by rw[IntKind.wrap_i64]; omega
   have z1:(j:Int) < n:=by omega
   clear g t y;gi_wp2;refine⟨rfl,H.mono ?_⟩;rintro K N ⟨u,⟨rfl,m⟩ | ⟨rfl,m⟩⟩
   ·gi_wp2;go_roundw
    case rel=>exact⟨i + 1,by omega,by have:=D.out; congr 1; omega,Nat.le_trans f u.size,m⟩
    case measure=>simp[intOf]
   ·gi_wp2;refine bodyPost_ret (results_none rfl _ _ _) rfl ?_
    exact⟨⟨_,rfl⟩,Nat.le_trans f u.size,.inr ⟨i,s,m⟩⟩
  ·have r:i=n:=by omega
   have t:(n:Int) - 1 - (i:Int) = -1:=by omega
   rw[t]
   have G:Hid (J n wr):=by show J n wr; rw[<- r]; exact d
   clear g t r d;gi_wp2;go_end0;exact⟨⟨_,rfl⟩,f,.inl G.out⟩
theorem lX:Calls Tryz.prog 131 #[.slice ao n c] w fun e w'=>e=.returned (.func (.func 176) #[] #[.pointer (some ⟨w.heap.size,0,none⟩)])/\Blk w' w.heap.size [.slice ao n c] 96/\Below w.heap.size w w':=by
 go_enter Tryz.func131,Tryz.ntmps131;go_wp2;go_ret;exact⟨rfl,aC w _ _,ae w _⟩
end
end Ky
end
section
namespace Ky
open Go.RowKit Go.Lib Pg
attribute [local go_sem] Oper.semAt_some
section
variable {x:Int}{l:List Int}{w A A' w':World}{B g n c:Nat}{cs:List Value}{D:Nat->Prop}{v:Value}{ao:Option Addr}{ops:Array Oper}{rest:List Oper}{a:Act}{pos:String}
def nxt(l:List Int):List Int:=match l.reverse.dropWhile (· == 255) with
 | []=>[]
 | x :: t=>t.reverse ++ [x + 1]
theorem nm:∀ {l:List Int},(∀ x∈l,x=255)->l.dropWhile (· == 255)=[]
 | [],_=>rfl
 | x :: l,h=>by
  have hx:=h x List.mem_cons_self;subst hx;rw[List.dropWhile_cons_of_pos (by decide)];exact nm (fun y hy=>h y (List.mem_cons_of_mem _ hy))
theorem l8(A B:List Int)(hx:x≠255)(h:∀ b∈B,b=255):(A ++ x :: B).reverse.dropWhile (· == 255)=x :: A.reverse:=by
 rw[List.reverse_append,List.reverse_cons,List.append_assoc,List.dropWhile_append_of_pos (fun a c=>by simp[h a (List.mem_reverse.1 c)]),List.singleton_append,List.dropWhile_cons_of_neg (by simp[hx])]
theorem fe(h:∀ x∈l,x=255):nxt l=[]:=by
 have:l.reverse.dropWhile (· == 255)=[]:=by
  exact nm (fun x hx=>h x (List.mem_reverse.1 hx))
 unfold nxt;rw[this]
theorem sl{j:Nat}(f:l[j]? = some x)(hx:x≠255)(h:∀ i y,l[i]? = some y->j < i->y=255):nxt l=l.take j ++ [x + 1]:=by
 have b:j < l.length:=(List.getElem?_eq_some_iff.1 f).1
 have e:l=l.take j ++ x :: l.drop (j + 1):=by
  have c:=(List.take_append_drop j l).symm
  have k:l.drop j=x :: l.drop (j + 1):=by
   rw[List.drop_eq_getElem_cons b];congr 1
   exact(List.getElem?_eq_some_iff.1 f).2
  rw[k] at c;exact c
 have g:l.reverse.dropWhile (· == 255)=x :: (l.take j).reverse:=by
  have d:=l8 (l.take j) (l.drop (j + 1)) hx (fun a m=>by
   obtain⟨i,hi⟩:=List.getElem?_of_mem m;rw[List.getElem?_drop] at hi
   exact h (j + 1 + i) a hi (by omega))
  rw[<- e] at d;exact d
 unfold nxt;rw[g];simp
theorem dI{b c:Nat}{B:World}(h:Below b w A)(a:Rec c A B)(f:b<=c)(hw:b<=A.heap.size):Below b w B :=
 ⟨a.os.trans h.os,a.tape.trans h.tape,a.output.trans h.output,Nat.le_trans h.size a.size,fun k e=>by
  obtain⟨o,d⟩:∃ o,A.heap[k]? = some o:=⟨A.heap[k]'(by omega),Array.getElem?_eq_getElem _⟩
  rw[a.same k o d (.inl (by omega)),<- d]
  exact h.block k e⟩
theorem lW{ty:TypeId}(h:Blk A g cs ty)(hr:Rec B A A'):Blk A' g cs ty:=hr.blk h
theorem OB.rcd(h:OB A D v l)(hr:Rec B A A'):OB A' D v l:=by
 refine⟨h.oct,h.ex.imp id ?_⟩;rintro⟨b,c,e,hd,hR⟩;obtain⟨cs,k⟩:=hR.kind;exact⟨b,c,e,hd,hR.same ((hr.blk k).blk.trans k.blk.symm)⟩
theorem By.take(h:By w (.slice ao n c) l)(j:Nat)(t:j<=n):By w (.slice ao j c) (l.take j):=by
 obtain⟨r,hc,hm⟩:=By.lens h;obtain⟨g,s,e,q,f,k,p,d⟩:=h.ex
 cases e
 have hlen:(l.take j).length=j:=by rw[List.length_take]; omega
 refine⟨ao,c,by rw[hlen],by rw[hlen]; omega,f,k,fun x hx=>p x (List.mem_of_mem_take hx),?_⟩;rcases d with rfl | ⟨m,o,e,b,a⟩
 ·exact .inl (by simp)
 ·exact .inr ⟨m,o,e,b,fun i x hi=>a i x (by
   rw[List.getElem?_take] at hi;split at hi
   ·exact hi
   ·cases hi)⟩
theorem nX{o:Nat}(c:w.cell? ⟨g,o,none⟩=some v):(loadVar 96 ⟨g,o,none⟩).run Tryz.prog w=.ok v w:=by go_simp
theorem jD{F:Fence}{Q:Exit->Act->World->Prop}{o:Oper}(c:o.guard=none)(hF:∀ f,F.fn f)(hs:o.semAt F.round a.eval=execOp a.eval o)(b:(execOp a.eval o).run Tryz.prog w=.ok (.value v) w')(h:wpListIn F n Tryz.prog ops Q rest (a.put o.dst v) w'):wpListIn F n Tryz.prog ops Q (o :: rest) a w :=
 wpListIn_plain c fun K d=>by
  unfold Oper.wpIn;rw[hs,b,Oper.uponIn_value];exact⟨fun f _=>hF f,d _ _ h⟩
theorem oT{F:Fence}{Q:Exit->Act->World->Prop}{after:Array Edge}{u r:Value}(hF:∀ f,F.fn f)(hu:a.eval (.tmp 14)=u)(hv:a.eval (.tmp 17)=v)(b:(Builtin.append_ #[96,96] 96 #[u,v]).run Tryz.prog w=.ok r w')(h:wpListIn F n Tryz.prog ops Q rest (a.put (some 18) r) w') :
  wpListIn F n Tryz.prog ops Q ({ dst:=some 18,op:=.call { callee:=.builtin .append,args:=#[.tmp 14,.tmp 17],argTypes:=#[96,96] },type:=96,pos:=pos,after:=after,guard:=none } :: rest) a w :=
 jD rfl hF (Oper.semAt_eq _ _ _ (fun c h=>by cases h)) (iC (x:=14) (y:=17) rfl rfl hu hv b) h
theorem mn(h : By w (.slice ao n c) l)(J : n ≤ 1000000000) :
    Calls Tryz.prog 82 #[.slice ao n c] w fun e w' => ∃ v, e = .returned v ∧ OB w' (w.heap.size ≤ ·) v (nxt l) ∧ Below w.heap.size w w' := by
  obtain⟨hl, hnc, hcm⟩:= By.lens h;have c1 := aC w [.slice ao n c] 96;have b1 := ae w (.cells #[.slice ao n c] 96)
  have s1 : (w.alloc (.cells #[.slice ao n c] 96)).heap.size = w.heap.size + 1 := by simp
  have c2 := aC (w.alloc (.cells #[.slice ao n c] 96)) [.slice none 0 0] 96;have b2 := ae (w.alloc (.cells #[.slice ao n c] 96)) (.cells #[.slice none 0 0] 96)
  have s2 : ((w.alloc (.cells #[.slice ao n c] 96)).alloc (.cells #[.slice none 0 0] 96)).heap.size = w.heap.size + 2 := by simp
  rw[s1] at c2
  have P := c1.keep b2;have L := aj b1 b2;obtain⟨Wa, R⟩ : ∃ Wa, Hid ((w.alloc (.cells #[.slice ao n c] 96)).alloc (.cells #[.slice none 0 0] 96) = Wa) := ⟨_, rfl⟩;rw[R.out] at P c2 s2 L;have HB := aX h;clear h c1 b1 b2 s1;refine(callsIn_wide (n := 0)).1 ?_
  refine callsIn_of_wp_marks Tryz.func82 rfl trivial ?_ rfl;simp only[Tryz.ntmps82, List.size_toArray, List.length_cons, List.length_nil, Nat.reduceAdd, Nat.reduceSub, Array.replicate_succ, Array.replicate_zero, List.push_toArray, List.append_toArray, List.nil_append, List.cons_append];gi_wp2_with (refine⟨trivial, rfl, ?_⟩; gi_at_call 131; rw[R.out]; refine(callsIn_wide.2 lX).mono ?_; rintro e' u ⟨rfl, I, s⟩);rw[s2] at I;have k1 := P.keep s;have k2 := c2.keep s;have q := aj L s;have hs2 := s.size;have IT := j0 (Tp := fun _ => False) (bs := w.heap.size + 2) (c := c) (ao := ao) (Q := l) (n := n) (Rd := fun V => Below u.heap.size u V) hl J (fun V hv => ⟨(I.keep hv).cell (i := 0) rfl, fun j p D => By.at ((HB.out.keep q).keep hv) D⟩);refine hH IT (by rfl) (enters_of Tryz.func176 (by kernel_rfl) rfl) (fun i args n V V' h _ => h) (fun i args n V h => by obtain⟨p, j, _, _, rfl⟩:= h; rfl)
    (fun i V => Below u.heap.size u V ∧ ∀ j x, l[j]? = some x → n ≤ j + i → x = 255)
    (fun c i V => c = .ret ∧ ∃ v, Blk V (w.heap.size + 1) [v] 96 ∧ OB V (w.heap.size ≤ ·) v (nxt l) ∧ Below w.heap.size w V)
    (fun i A B hx U => ⟨dI hx.1 U (Nat.le_refl _) hx.1.size, hx.2⟩)
    (fun c i A B hx U => ⟨hx.1, by obtain⟨v, h1, h2, M⟩:= hx.2; exact⟨v, U.blk h1, OB.rcd h2 U, dI M U q.size M.size⟩⟩)
    (fun i V hv => hv.1) ⟨Below.refl _ _, fun j x D hn => by have := (List.getElem?_eq_some_iff.1 D).1; omega⟩ ?_ ?_ ?_
  · rintro l2 i args V Wv hl2 hlV hrec hiN ⟨hBV, m⟩ hb ⟨p, j, D, hp, rfl⟩
    simp;gi_wp2;refine⟨Below.refl _ _, ?_⟩;intro V2 W2 z f hb2 H N hsz3 hV2 r hrec2;have d := z.trans (hb2.mono z.size);have kb := (k1.keep d).cell (i := 0) rfl;have F := k2.keep d
    have hpo : 0 ≤ p ∧ p < 256 := HB.out.oct p (List.mem_of_getElem? hp);clear m hb hBV N H;by_cases W : p = 255
    · subst W
      gi_wp2;refine⟨bh.of (Below.refl _ _), d, fun j2 x hx hn => ?_⟩;by_cases e : j2 = j
      · subst e; rw[hp] at hx; cases hx; rfl
      · exact f j2 x hx (by omega)
    · have hp6 : p < 255 := by omega
      have BY := By.take ((HB.out.keep q).keep d) j (by omega)
      have X : (l.take j).length = j := by rw[List.length_take]; omega
      have hjn : (j : Int) ≤ c := by omega
      have w9 : IntKind.u8.wrap (p + 1) = p + 1 := by rw[IntKind.wrap_u8]; omega
      have K := aX F;have HW := aX d
      have HNX : Hid (nxt l = l.take j ++ [p + 1]) := sl hp W (fun i2 y hy hi => f i2 y hy (by omega));clear F d f
      gi_wp2_with (first
        | (have gate := t; clear gate; refine oT (fun _ => trivial) rfl rfl t ?_; clear t)
        | (refine⟨trivial, rfl, ?_⟩; gi_at_call 78; refine(CallsIn.inRound l2 (callsIn_wide.2 (cC BY (by omega)))).mono ?_; rintro e' w5 ⟨v5, rfl, O5, b5⟩; obtain⟨v6, E, t, O6, b6⟩:= eI (B := W2.heap.size) (x := p + 1) O5 b5.size (by omega) (by omega); have C := (K.out.keep b5).kJ b6 (K.out.lt); have kc := C.cell (i := 0) rfl; have kfr := C.free 0; obtain⟨a5, c5, rfl⟩:= OB.sh O5; obtain⟨a6, c6, rfl⟩:= OB.sh O6; rw[X] at t ⊢))
      have hlt : w.heap.size + 1 < u.heap.size := k2.lt;have hsW := HW.out.size;have T := b5.trans b6
      have O7 : OB E (W2.heap.size ≤ ·) (.slice a6 (j + 1) c6) (l.take j ++ [p + 1]) := by
        have S := O6;rw[show (l.take j ++ [p + 1]).length = j + 1 by rw[List.length_append, X]; rfl] at S;exact S
      have O8 : OB (E.setCell ⟨w.heap.size + 1, 0, none⟩ (.slice a6 (j + 1) c6)) (W2.heap.size ≤ ·) (.slice a6 (j + 1) c6) (l.take j ++ [p + 1]) := O7.same (fun b _ hb => Below.heap_setCell E _ _ b (by show b ≠ w.heap.size + 1; omega))
      have B6 : Below w.heap.size w E := (q.trans (HW.out.mono q.size)).trans (T.mono (Nat.le_trans q.size hsW));refine⟨(bh.of T).trans ⟨?_, fun k o hk h0 _ => (Below.heap_setCell E _ _ k (by show k ≠ w.heap.size + 1; omega)).trans h0⟩, rfl, _, C.setCell (i := 0) _, ?_, B6.setCell (show w.heap.size ≤ w.heap.size + 1 by omega) _⟩
      · exact((Chg.refl (fun x => x = w.heap.size + 1) E).cell (g := w.heap.size + 1) (i := 0) (.inl rfl) _).size
      · rw[HNX.out]
        exact O8.mono (fun b _ hb => by have := q.size; omega)
  · rintro D' Z hD Y ⟨d, m⟩
    have F := k2.keep d;have kc := F.cell (i := 0) rfl;have kf := F.free 0
    have hlt : w.heap.size + 1 < u.heap.size := k2.lt
    have O : (Z.setCell ⟨w.heap.size + 1, 0, none⟩ (.slice none 0 0)).heap[D']? = some (.deferred (some [])) := (Below.heap_setCell Z _ _ D' (by show D' ≠ w.heap.size + 1; omega)).trans Y;gi_wp2;refine⟨by simp, .inl ⟨_, _, rfl, run_takeDeferred O, ?_⟩⟩;have G := Rec.put (B := u.heap.size) O rfl hD (.deferred none);have k3 := lW (F.setCell (i := 0) (.slice none 0 0)) G;refine⟨_, ed rfl rfl (nX (k3.cell (i := 0) rfl)), _, rfl, ?_, ?_⟩
    · rw[fe (fun x hx => by
        obtain⟨j, D⟩:= List.getElem?_of_mem hx
        exact m j x D (by omega))]
      exact qt _ _
    · have S : Below w.heap.size w (Z.setCell ⟨w.heap.size + 1, 0, none⟩ (.slice none 0 0)) := (q.trans (d.mono q.size)).setCell (show w.heap.size ≤ w.heap.size + 1 by omega) _
      exact dI S G q.size S.size
  · rintro D' c i Z hD Y hiN ⟨rfl, v, h1, h2, M⟩
    gi_wp2;refine⟨by simp, .inl ⟨_, _, rfl, run_takeDeferred Y, ?_⟩⟩;have G := Rec.put (B := u.heap.size) Y rfl hD (.deferred none);have k3 := lW h1 G;exact⟨_, ed rfl rfl (nX (k3.cell (i := 0) rfl)), _, rfl, OB.rcd h2 G, dI M G q.size M.size⟩
end
end Ky
end
section
namespace Ky
open Go.RowKit Go.Lib Pg
attribute [local go_sem] Oper.semAt_some
end Ky
end
section
namespace Ky
open Go.RowKit Go.Lib Pg
section
variable {x y:Int}{a b l c:List Int}
theorem bF:Lt (x :: a) (y :: b)<->x < y\/(x=y/\Lt a b):=by
 unfold Lt;rw[cY];by_cases c:x < y
 ·simp[c]
 ·by_cases d:y < x
  ·rw[if_neg c,if_pos d];constructor
   ·intro h; exact absurd h (by decide)
   ·rintro(h | ⟨h,_⟩)<;>omega
  ·rw[if_neg c,if_neg d];have:x=y:=by omega
   simp[this]
theorem dG:Lt [] (y :: b):=by simp[Lt,cY]
theorem not_lt_nil:¬ Lt a []:=by cases a<;>simp[Lt,cY]
theorem fq(s:List Int):Lt (s ++ a) (s ++ b)<->Lt a b:=by
 induction s with
 | nil=>exact Iff.rfl
 | cons x s ih=>rw[List.cons_append,List.cons_append,bF,ih]; simp
theorem fJ:∀ {x y s t:List Int},x.length=y.length->(Lt (x ++ s) (y ++ t)<->Lt x y\/(x=y/\Lt s t))
 | [],[],s,t,_=>by simp[lt_irrefl]
 | [],_ :: _,_,_,h=>by simp at h
 | _ :: _,[],_,_,h=>by simp at h
 | a :: x,b :: y,s,t,h=>by
  rw[List.cons_append,List.cons_append,bF,bF,fJ (by simpa using h)];constructor
  ·rintro(h1 | ⟨h1,h2 | ⟨h2,h3⟩⟩)
   ·exact .inl (.inl h1)
   ·exact .inl (.inr ⟨h1,h2⟩)
   ·exact .inr ⟨by rw[h1,h2],h3⟩
  ·rintro((h1 | ⟨h1,h2⟩) | ⟨h1,h2⟩)
   ·exact .inl h1
   ·exact .inr ⟨h1,.inl h2⟩
   ·cases h1; exact .inr ⟨rfl,.inr ⟨rfl,h2⟩⟩
theorem ee:∀ l:List Int,(∀ x∈l,x=255)\/∃ A x B,l=A ++ x :: B/\x≠255/\∀ b∈B,b=255
 | []=>.inl (fun _ h=>by simp at h)
 | y :: t=>by
  rcases ee t with h | ⟨A,x,B,rfl,hx,hB⟩
  ·by_cases hy:y=255
   ·exact .inl (fun x hx=>by
     rcases List.mem_cons.1 hx with rfl | hx
     ·exact hy
     ·exact h x hx)
   ·exact .inr ⟨[],y,t,rfl,hy,h⟩
  ·exact .inr ⟨y :: A,x,B,rfl,hx,hB⟩
theorem gz{A B:List Int}(hx:x≠255)(hB:∀ b∈B,b=255):nxt (A ++ x :: B)=A ++ [x + 1]:=by
 unfold nxt;rw[l8 A B hx hB];simp
theorem qj(h:nxt l=[]):∀ x∈l,x=255:=by
 rcases ee l with h1 | ⟨A,x,B,rfl,hx,hB⟩
 ·exact h1
 ·rw[gz hx hB] at h;simp at h
theorem Aw(h:nxt l≠[]):Lt l (nxt l):=by
 rcases ee l with h1 | ⟨A,x,B,rfl,hx,hB⟩
 ·exact absurd (fe h1) h
 ·rw[gz hx hB,fq,bF];exact .inl (by omega)
theorem ja(h:nxt l≠[])(hc:l <+: c):Lt c (nxt l):=by
 rcases ee l with a | ⟨A,x,B,rfl,hx,b⟩
 ·exact absurd (fe a) h
 ·obtain⟨t,rfl⟩:=hc;rw[gz hx b,List.append_assoc,fq,List.cons_append,bF];exact .inl (by omega)
theorem kB:∀ {B t:List Int},(∀ b∈B,b=255)->Oct t->Lt t B\/B <+: t
 | [],_,_,_=>.inr (List.nil_prefix)
 | b :: B,[],_,_=>.inl dG
 | b :: B,z :: t,hB,ht=>by
  have hb:=hB b List.mem_cons_self;have c:=ht z List.mem_cons_self;subst hb;by_cases h:z=255
  ·subst h;rcases kB (fun b hb=>hB b (List.mem_cons_of_mem _ hb)) (fun y hy=>ht y (List.mem_cons_of_mem _ hy)) with a | a
   ·exact .inl (bF.2 (.inr ⟨rfl,a⟩))
   ·exact .inr (List.cons_prefix_cons.2 ⟨rfl,a⟩)
  ·exact .inl (bF.2 (.inl (by omega)))
theorem gg:∀ {A B c:List Int} {x:Int},(∀ b∈B,b=255)->Oct c->Lt c (A ++ [x + 1])->Lt c (A ++ x :: B)\/(A ++ x :: B) <+: c
 | [],B,[],x,_,_,_=>.inl dG
 | [],B,y :: t,x,hB,hc,h=>by
  rw[List.nil_append,bF] at h;rw[List.nil_append];rcases h with h | ⟨_,h⟩
  ·by_cases e:y=x
   ·subst e;rcases kB hB (fun z hz=>hc z (List.mem_cons_of_mem _ hz)) with h1 | h1
    ·exact .inl (bF.2 (.inr ⟨rfl,h1⟩))
    ·exact .inr (List.cons_prefix_cons.2 ⟨rfl,h1⟩)
   ·exact .inl (bF.2 (.inl (by omega)))
  ·exact absurd h not_lt_nil
 | a :: A,B,[],x,_,_,_=>.inl dG
 | a :: A,B,y :: t,x,hB,hc,h=>by
  rw[List.cons_append,bF] at h;rw[List.cons_append];rcases h with h | ⟨h1,h2⟩
  ·exact .inl (bF.2 (.inl h))
  ·subst h1;rcases gg hB (fun z hz=>hc z (List.mem_cons_of_mem _ hz)) h2 with h3 | h3
   ·exact .inl (bF.2 (.inr ⟨rfl,h3⟩))
   ·exact .inr (List.cons_prefix_cons.2 ⟨rfl,h3⟩)
theorem jd(hc:Oct c)(d:¬ l <+: c)(f:¬ Lt c l):¬ Lt c (nxt l):=by
 rcases ee l with e | ⟨A,x,B,rfl,hx,b⟩
 ·rw[fe e]; exact not_lt_nil
 ·rw[gz hx b];intro h;rcases gg b hc h with a | a
  ·exact f a
  ·exact d a
theorem lD:∀ (n:Nat) (a:Int),be (n + 1) a=be n (a / 256) ++ [a % 256]
 | 0,a=>by simp[be]
 | n + 1,a=>by
  rw[be,lD n a,be,List.cons_append];congr 2
  rw[Int.ediv_ediv_of_nonneg (by decide),Int.pow_succ,Int.mul_comm]
theorem xG(n:Nat):(256:Int) ^ (n + 1)=256 ^ n * 256:=Int.pow_succ 256 n
theorem rC:∀ (n:Nat) {a b:Int},0<=a->a < 256 ^ n->0<=b->b < 256 ^ n->(Lt (be n a) (be n b)<->a < b)
 | 0,a,b,h1,h2,h3,h4=>by
  simp at h2 h4;constructor
  ·intro h; exact absurd h (lt_irrefl _)
  ·intro h; omega
 | n + 1,a,b,h1,h2,h3,h4=>by
  rw[xG] at h2 h4;have ih:=rC n (a:=a / 256) (b:=b / 256) (by omega) (by omega) (by omega) (by omega);rw[lD,lD,fJ (by rw[aN,aN]),ih];constructor
  ·rintro(h | ⟨h,f⟩)
   ·omega
   ·have he:a / 256=b / 256:=by
     rcases Int.lt_trichotomy (a / 256) (b / 256) with c | c | c
     ·have:=ih.2 c; rw[h] at this; exact absurd this (lt_irrefl _)
     ·exact c
     ·have d:=rC n (a:=b / 256) (b:=a / 256) (by omega) (by omega) (by omega) (by omega);have:=d.2 c; rw[h] at this; exact absurd this (lt_irrefl _)
    have g:a % 256 < b % 256:=by
     rcases bF.1 f with h7 | ⟨_,h7⟩
     ·exact h7
     ·exact absurd h7 not_lt_nil
    omega
  ·intro h;by_cases he:a / 256 < b / 256
   ·exact .inl he
   ·have e:a / 256=b / 256:=by omega
    exact .inr ⟨by rw[e],bF.2 (.inl (by omega))⟩
theorem be_inj{n:Nat}{a b:Int}(d:0<=a)(g:a < 256 ^ n)(e:0<=b)(f:b < 256 ^ n)(h:be n a=be n b):a=b:=by
 rcases Int.lt_trichotomy a b with c | c | c
 ·have:=(rC n d g e f).2 c; rw[h] at this; exact absurd this (lt_irrefl _)
 ·exact c
 ·have:=(rC n e f d g).2 c; rw[h] at this; exact absurd this (lt_irrefl _)
theorem xn:∀ (n:Nat) {a:Int},0<=a->a < 256 ^ n->bv (be n a)=a
 | 0,a,h1,h2=>by simp at h2; simp[be,bv]; omega
 | n + 1,a,h1,h2=>by
  rw[xG] at h2;rw[lD,qv,xn n (by omega) (by omega)];omega
end
end Ky
end
section
namespace Ky
open Go.RowKit Go.Lib Pg
attribute [local go_sem] Oper.semAt_some pB
end Ky
end
section
namespace Ky
open Go.RowKit Go.Lib Pg
attribute [local go_sem] Oper.semAt_some pB
end Ky
end
section
namespace Ky
open Go.RowKit Go.Lib Pg
attribute [local go_sem] Oper.semAt_some pB
end Ky
end
section
namespace Ky
open Go.RowKit Go.Lib Pg
attribute [local go_sem] Oper.semAt_some pB
end Ky
end
end Go.Proofs.YthfepflplbahkaaGreatDoor
