/- Several texts, joined: KyO, KyP, KyQ, KyR, KyS, KyU, KyV, KyW. -/
import Derived.Test.YthfepflplbahkaaGreatDoorJaj
import Derived.Shelf.Abstract
import Derived.Shelf.RegionOpen
import Derived.OwnWalkIn
import Derived.TacticsInMore
import Derived.LoopNIn
import Derived.LoopIn
set_option maxRecDepth 100000
set_option maxHeartbeats 8000000
namespace Go.Proofs.YthfepflplbahkaaGreatDoor
section
namespace Ky
open Go.RowKit Go.Lib Pg
section
variable {n c:Nat}{ao:Option Addr}{Q:List Int}{Rd:World->Prop}{w:World}
attribute [local go_sem] Oper.semAt_some
def ArBB(Q:List Int)(i:Nat)(args:Array Value)(_:Nat)(_:World):Prop:=∃ p j,j + 1 + i=Q.length/\Q[j]? = some p/\args=#[.int .i64 (j:Int),.int .u8 p]
theorem mD{Tp:TypeId->Prop}{bs:Nat}(hn:Q.length=n)(hbig:n<=1000000000)(hb:∀ V,Rd V->V.cell? ⟨bs,0,none⟩=some (.slice ao n c)/\∀ j p,Q[j]? = some p->∃ b o,ao=some ⟨b,o,none⟩/\V.cell? ⟨b,o + j,none⟩=some (.int .u8 p)) :
  Itr Tp 176 #[.pointer (some ⟨bs,0,none⟩)] n (ArBB Q) Rd:=by
 intro l J Jx W hJ hJx af hY h0;have cb:=(hb W (af 0 W h0)).1
 have hb:Hid _:=hb
 have hn:Hid _:=hn
 have w0:IntKind.i64.wrap ((n:Int) - 1)=(n:Int) - 1:=by rw[IntKind.wrap_i64]; omega
 refine(callsIn_wide (n:=0)).1 ?_
 refine callsIn_of_wp Tryz.func176 rfl trivial ?_ rfl;simp only[Tryz.ntmps176,List.size_toArray,List.length_cons,List.length_nil,Nat.reduceAdd,Nat.reduceSub,Array.replicate_succ,Array.replicate_zero,List.push_toArray,List.append_toArray,List.nil_append,List.cons_append];gi_wp2;gi_loopw [3] (fun ti wr=>∃ i:Nat,i<=n/\ti=.int .i64 ((n:Int) - 1 - (i:Int))/\W.heap.size<=wr.heap.size/\J i wr) (fun ti _=>(intOf ti + 1).toNat)
 case atStart=>exact⟨0,Nat.zero_le _,by simp,Nat.le_refl _,h0⟩
 case round =>
  clear cb;obtain⟨i,hi,rfl,aa,ab⟩:=hrel;obtain⟨cb,ad⟩:=hb.out wr (af _ _ ab);by_cases ag:i < n
  ·obtain⟨j,hj⟩:∃ j,j + 1 + i=n:=⟨n - 1 - i,by omega⟩
   obtain⟨p,hp⟩:∃ p,Q[j]? = some p:=⟨Q[j]'(by have:=hn.out; omega),List.getElem?_eq_getElem _⟩
   obtain⟨b,o,rfl,cP⟩:=ad j p hp
   have ej:(n:Int) - 1 - (i:Int)=(j:Int):=by omega
   have HI:Hid (j + 1 + i=n):=hj;have hY1:=hY i _ wr wr ag ab aa (Below.refl _ _) ⟨p,j,by rw[hn.out]; exact hj,hp,rfl⟩;obtain⟨fn,tmps,assign,body,hy,hR⟩:=hY1;rw[ej]
   have w1:IntKind.i64.wrap ((j:Int) - 1)=(j:Int) - 1:=by rw[IntKind.wrap_i64]; omega
   have z1:(j:Int) < n:=by omega
   clear ad ej hj;gi_wp2;refine⟨rfl,hR.mono ?_⟩;rintro e' W4 ⟨hk4,⟨rfl,ac⟩ | ⟨rfl,ac⟩⟩
   ·gi_wp2;go_roundw
    case rel=>exact⟨i + 1,by omega,by have:=HI.out; congr 1; omega,Nat.le_trans aa hk4.size,ac⟩
    case measure=>simp[intOf]
   ·gi_wp2;refine bodyPost_ret (results_none rfl _ _ _) rfl ?_
    exact⟨⟨_,rfl⟩,Nat.le_trans aa hk4.size,.inr ⟨i,ag,ac⟩⟩
  ·have ae:i=n:=by omega
   have ej:(n:Int) - 1 - (i:Int) = -1:=by omega
   rw[ej]
   have HJ:Hid (J n wr):=by show J n wr; rw[<- ae]; exact ab
   clear ad ej ae ab;gi_wp2;go_end0;exact⟨⟨_,rfl⟩,aa,.inl HJ.out⟩
theorem qj:Calls Tryz.prog 131 #[.slice ao n c] w fun e w'=>e=.returned (.func (.func 176) #[] #[.pointer (some ⟨w.heap.size,0,none⟩)])/\Blk w' w.heap.size [.slice ao n c] 96/\Below w.heap.size w w':=by
 go_enter Tryz.func131,Tryz.ntmps131;go_wp2;go_ret;exact⟨rfl,aC w _ _,ae w _⟩
end
end Ky
end
section
namespace Ky
open Go.RowKit Go.Lib Pg
section
variable {x:Int}{l:List Int}{w A A' w':World}{B g n c:Nat}{cs:List Value}{D:Nat->Prop}{v:Value}{ao:Option Addr}{ops:Array Oper}{rest:List Oper}{a:Act}{pos:String}
attribute [local go_sem] Oper.semAt_some
def nxt(l:List Int):List Int:=match l.reverse.dropWhile (· == 255) with
 | []=>[]
 | x :: t=>t.reverse ++ [x + 1]
theorem qe:∀ {l:List Int},(∀ x∈l,x=255)->l.dropWhile (· == 255)=[]
 | [],_=>rfl
 | x :: l,h=>by
  have hx:=h x List.mem_cons_self;subst hx;rw[List.dropWhile_cons_of_pos (by decide)];exact qe (fun y hy=>h y (List.mem_cons_of_mem _ hy))
theorem pI(A B:List Int)(hx:x≠255)(h:∀ b∈B,b=255):(A ++ x :: B).reverse.dropWhile (· == 255)=x :: A.reverse:=by
 rw[List.reverse_append,List.reverse_cons,List.append_assoc,List.dropWhile_append_of_pos (fun a c=>by simp[h a (List.mem_reverse.1 c)]),List.singleton_append,List.dropWhile_cons_of_neg (by simp[hx])]
theorem fk(h:∀ x∈l,x=255):nxt l=[]:=by
 have:l.reverse.dropWhile (· == 255)=[]:=by
  exact qe (fun x hx=>h x (List.mem_reverse.1 hx))
 unfold nxt;rw[this]
theorem xE{j:Nat}(d:l[j]? = some x)(hx:x≠255)(h:∀ i y,l[i]? = some y->j < i->y=255):nxt l=l.take j ++ [x + 1]:=by
 have b:j < l.length:=(List.getElem?_eq_some_iff.1 d).1
 have e:l=l.take j ++ x :: l.drop (j + 1):=by
  have f:=(List.take_append_drop j l).symm
  have g:l.drop j=x :: l.drop (j + 1):=by
   rw[List.drop_eq_getElem_cons b];congr 1
   exact(List.getElem?_eq_some_iff.1 d).2
  rw[g] at f;exact f
 have m:l.reverse.dropWhile (· == 255)=x :: (l.take j).reverse:=by
  have c:=pI (l.take j) (l.drop (j + 1)) hx (fun a k=>by
   obtain⟨i,hi⟩:=List.getElem?_of_mem k;rw[List.getElem?_drop] at hi
   exact h (j + 1 + i) a hi (by omega))
  rw[<- e] at c;exact c
 unfold nxt;rw[m];simp
theorem eE{b d:Nat}{B:World}(h:Below b w A)(a:Rec d A B)(f:b<=d)(hw:b<=A.heap.size):Below b w B :=
 ⟨a.os.trans h.os,a.tape.trans h.tape,a.output.trans h.output,Nat.le_trans h.size a.size,fun k e=>by
  obtain⟨o,c⟩:∃ o,A.heap[k]? = some o:=⟨A.heap[k]'(by omega),Array.getElem?_eq_getElem _⟩
  rw[a.same k o c (.inl (by omega)),<- c]
  exact h.block k e⟩
theorem pZ{ty:TypeId}(h:Blk A g cs ty)(hr:Rec B A A'):Blk A' g cs ty:=hr.blk h
theorem OB.rcd(h:OB A D v l)(hr:Rec B A A'):OB A' D v l:=by
 refine⟨h.oct,h.ex.imp id ?_⟩;rintro⟨b,c,e,hd,hR⟩;obtain⟨cs,k⟩:=hR.kind;exact⟨b,c,e,hd,hR.same ((hr.blk k).blk.trans k.blk.symm)⟩
theorem By.take(h:By w (.slice ao n c) l)(j:Nat)(s:j<=n):By w (.slice ao j c) (l.take j):=by
 obtain⟨r,hc,hm⟩:=By.lens h;obtain⟨m,t,e,q,p,k,o,f⟩:=h.ex
 cases e
 have hlen:(l.take j).length=j:=by rw[List.length_take]; omega
 refine⟨ao,c,by rw[hlen],by rw[hlen]; omega,p,k,fun x hx=>o x (List.mem_of_mem_take hx),?_⟩;rcases f with rfl | ⟨g,d,e,b,a⟩
 ·exact .inl (by simp)
 ·exact .inr ⟨g,d,e,b,fun i x hi=>a i x (by
   rw[List.getElem?_take] at hi;split at hi
   ·exact hi
   ·cases hi)⟩
theorem qG{o:Nat}(c:w.cell? ⟨g,o,none⟩=some v):(loadVar 96 ⟨g,o,none⟩).run Tryz.prog w=.ok v w:=by go_simp
theorem lK{F:Fence}{Q:Exit->Act->World->Prop}{o:Oper}(c:o.guard=none)(hF:∀ f,F.fn f)(hs:o.semAt F.round a.eval=execOp a.eval o)(b:(execOp a.eval o).run Tryz.prog w=.ok (.value v) w')(h:wpListIn F n Tryz.prog ops Q rest (a.put o.dst v) w'):wpListIn F n Tryz.prog ops Q (o :: rest) a w :=
 wpListIn_plain c fun K d=>by
  unfold Oper.wpIn;rw[hs,b,Oper.uponIn_value];exact⟨fun f _=>hF f,d _ _ h⟩
theorem sD{F:Fence}{Q:Exit->Act->World->Prop}{after:Array Edge}{u r:Value}(hF:∀ f,F.fn f)(hu:a.eval (.tmp 14)=u)(hv:a.eval (.tmp 17)=v)(b:(Builtin.append_ #[96,96] 96 #[u,v]).run Tryz.prog w=.ok r w')(h:wpListIn F n Tryz.prog ops Q rest (a.put (some 18) r) w') :
  wpListIn F n Tryz.prog ops Q ({ dst:=some 18,op:=.call { callee:=.builtin .append,args:=#[.tmp 14,.tmp 17],argTypes:=#[96,96] },type:=96,pos:=pos,after:=after,guard:=none } :: rest) a w :=
 lK rfl hF (Oper.semAt_eq _ _ _ (fun c h=>by cases h)) (j4 (x:=14) (y:=17) rfl rfl hu hv b) h
theorem jN(h : By w (.slice ao n c) l)(hbig : n ≤ 1000000000) :
    Calls Tryz.prog 82 #[.slice ao n c] w fun e w' => ∃ v, e = .returned v ∧ OB w' (w.heap.size ≤ ·) v (nxt l) ∧ Below w.heap.size w w' := by
  obtain⟨hl, hnc, hcm⟩:= By.lens h;have c1 := aC w [.slice ao n c] 96;have b1 := ae w (.cells #[.slice ao n c] 96)
  have s1 : (w.alloc (.cells #[.slice ao n c] 96)).heap.size = w.heap.size + 1 := by simp
  have c2 := aC (w.alloc (.cells #[.slice ao n c] 96)) [.slice none 0 0] 96;have b2 := ae (w.alloc (.cells #[.slice ao n c] 96)) (.cells #[.slice none 0 0] 96)
  have s2 : ((w.alloc (.cells #[.slice ao n c] 96)).alloc (.cells #[.slice none 0 0] 96)).heap.size = w.heap.size + 2 := by simp
  rw[s1] at c2
  have c1' := c1.keep b2;have b12 := ai b1 b2;obtain⟨Wa, hWa⟩ : ∃ Wa, Hid ((w.alloc (.cells #[.slice ao n c] 96)).alloc (.cells #[.slice none 0 0] 96) = Wa) := ⟨_, rfl⟩;rw[hWa.out] at c1' c2 s2 b12;have HB := aI h;clear h c1 b1 b2 s1;refine(callsIn_wide (n := 0)).1 ?_
  refine callsIn_of_wp_marks Tryz.func82 rfl trivial ?_ rfl;simp only[Tryz.ntmps82, List.size_toArray, List.length_cons, List.length_nil, Nat.reduceAdd, Nat.reduceSub, Array.replicate_succ, Array.replicate_zero, List.push_toArray, List.append_toArray, List.nil_append, List.cons_append];gi_wp2_with (refine⟨trivial, rfl, ?_⟩; gi_at_call 131; rw[hWa.out]; refine(callsIn_wide.2 qj).mono ?_; rintro e' w2 ⟨rfl, hBx, hB2⟩);rw[s2] at hBx;have k1 := c1'.keep hB2;have k2 := c2.keep hB2;have B2 := ai b12 hB2;have hs2 := hB2.size;have IT := mD (Tp := fun _ => False) (bs := w.heap.size + 2) (c := c) (ao := ao) (Q := l) (n := n) (Rd := fun V => Below w2.heap.size w2 V) hl hbig (fun V hv => ⟨(hBx.keep hv).cell (i := 0) rfl, fun j p hj => By.at ((HB.out.keep B2).keep hv) hj⟩);refine ix IT (by rfl) (enters_of Tryz.func176 (by kernel_rfl) rfl) (fun i args n V V' h _ => h) (fun i args n V h => by obtain⟨p, j, _, _, rfl⟩:= h; rfl)
    (fun i V => Below w2.heap.size w2 V ∧ ∀ j x, l[j]? = some x → n ≤ j + i → x = 255)
    (fun c i V => c = .ret ∧ ∃ v, Blk V (w.heap.size + 1) [v] 96 ∧ OB V (w.heap.size ≤ ·) v (nxt l) ∧ Below w.heap.size w V)
    (fun i A B hx hr => ⟨eE hx.1 hr (Nat.le_refl _) hx.1.size, hx.2⟩)
    (fun c i A B hx hr => ⟨hx.1, by obtain⟨v, h1, h2, h3⟩:= hx.2; exact⟨v, hr.blk h1, OB.rcd h2 hr, eE h3 hr B2.size h3.size⟩⟩)
    (fun i V hv => hv.1) ⟨Below.refl _ _, fun j x hj hn => by have := (List.getElem?_eq_some_iff.1 hj).1; omega⟩ ?_ ?_ ?_
  · rintro l2 i args V Wv hl2 hlV hrec hiN ⟨hBV, ac⟩ hb ⟨p, j, hj, hp, rfl⟩
    simp;gi_wp2;refine⟨Below.refl _ _, ?_⟩;intro V2 W2 hBV2 ab hb2 hAr2 hoth hsz3 hV2 r hrec2;have aa := hBV2.trans (hb2.mono hBV2.size);have kb := (k1.keep aa).cell (i := 0) rfl;have kr := k2.keep aa
    have hpo : 0 ≤ p ∧ p < 256 := HB.out.oct p (List.mem_of_getElem? hp);clear ac hb hBV hoth hAr2;by_cases hp5 : p = 255
    · subst hp5
      gi_wp2;refine⟨bC.of (Below.refl _ _), aa, fun j2 x hx hn => ?_⟩;by_cases e : j2 = j
      · subst e; rw[hp] at hx; cases hx; rfl
      · exact ab j2 x hx (by omega)
    · have hp6 : p < 255 := by omega
      have BY := By.take ((HB.out.keep B2).keep aa) j (by omega)
      have hjl : (l.take j).length = j := by rw[List.length_take]; omega
      have hjn : (j : Int) ≤ c := by omega
      have w9 : IntKind.u8.wrap (p + 1) = p + 1 := by rw[IntKind.wrap_u8]; omega
      have HKR := aI kr;have HW := aI aa
      have HNX : Hid (nxt l = l.take j ++ [p + 1]) := xE hp hp5 (fun i2 y hy hi => ab i2 y hy (by omega));clear kr aa ab
      gi_wp2_with (first
        | (have gate := hr6; clear gate; refine sD (fun _ => trivial) rfl rfl hr6 ?_; clear hr6)
        | (refine⟨trivial, rfl, ?_⟩; gi_at_call 78; refine(CallsIn.inRound l2 (callsIn_wide.2 (dm BY (by omega)))).mono ?_; rintro e' w5 ⟨v5, rfl, O5, b5⟩; obtain⟨v6, w6, hr6, O6, b6⟩:= fQ (B := W2.heap.size) (x := p + 1) O5 b5.size (by omega) (by omega); have kr6 := (HKR.out.keep b5).nP b6 (HKR.out.lt); have kc := kr6.cell (i := 0) rfl; have kfr := kr6.free 0; obtain⟨a5, c5, rfl⟩:= OB.sh O5; obtain⟨a6, c6, rfl⟩:= OB.sh O6; rw[hjl] at hr6 ⊢))
      have hlt : w.heap.size + 1 < w2.heap.size := k2.lt;have hsW := HW.out.size;have b56 := b5.trans b6
      have O7 : OB w6 (W2.heap.size ≤ ·) (.slice a6 (j + 1) c6) (l.take j ++ [p + 1]) := by
        have h9 := O6;rw[show (l.take j ++ [p + 1]).length = j + 1 by rw[List.length_append, hjl]; rfl] at h9;exact h9
      have O8 : OB (w6.setCell ⟨w.heap.size + 1, 0, none⟩ (.slice a6 (j + 1) c6)) (W2.heap.size ≤ ·) (.slice a6 (j + 1) c6) (l.take j ++ [p + 1]) := O7.same (fun b _ hb => Below.heap_setCell w6 _ _ b (by show b ≠ w.heap.size + 1; omega))
      have B6 : Below w.heap.size w w6 := (B2.trans (HW.out.mono B2.size)).trans (b56.mono (Nat.le_trans B2.size hsW));refine⟨(bC.of b56).trans ⟨?_, fun k o hk h0 _ => (Below.heap_setCell w6 _ _ k (by show k ≠ w.heap.size + 1; omega)).trans h0⟩, rfl, _, kr6.setCell (i := 0) _, ?_, B6.setCell (show w.heap.size ≤ w.heap.size + 1 by omega) _⟩
      · exact((Chg.refl (fun x => x = w.heap.size + 1) w6).cell (g := w.heap.size + 1) (i := 0) (.inl rfl) _).size
      · rw[HNX.out]
        exact O8.mono (fun b _ hb => by have := B2.size; omega)
  · rintro D' W' hD hK ⟨aa, ac⟩
    have kr := k2.keep aa;have kc := kr.cell (i := 0) rfl;have kf := kr.free 0
    have hlt : w.heap.size + 1 < w2.heap.size := k2.lt
    have hK3 : (W'.setCell ⟨w.heap.size + 1, 0, none⟩ (.slice none 0 0)).heap[D']? = some (.deferred (some [])) := (Below.heap_setCell W' _ _ D' (by show D' ≠ w.heap.size + 1; omega)).trans hK;gi_wp2;refine⟨by simp, .inl ⟨_, _, rfl, run_takeDeferred hK3, ?_⟩⟩;have R3 := Rec.put (B := w2.heap.size) hK3 rfl hD (.deferred none);have k3 := pZ (kr.setCell (i := 0) (.slice none 0 0)) R3;refine⟨_, fp rfl rfl (qG (k3.cell (i := 0) rfl)), _, rfl, ?_, ?_⟩
    · rw[fk (fun x hx => by
        obtain⟨j, hj⟩:= List.getElem?_of_mem hx
        exact ac j x hj (by omega))]
      exact rB _ _
    · have h9 : Below w.heap.size w (W'.setCell ⟨w.heap.size + 1, 0, none⟩ (.slice none 0 0)) := (B2.trans (aa.mono B2.size)).setCell (show w.heap.size ≤ w.heap.size + 1 by omega) _
      exact eE h9 R3 B2.size h9.size
  · rintro D' c i W' hD hK hiN ⟨rfl, v, h1, h2, h3⟩
    gi_wp2;refine⟨by simp, .inl ⟨_, _, rfl, run_takeDeferred hK, ?_⟩⟩;have R3 := Rec.put (B := w2.heap.size) hK rfl hD (.deferred none);have k3 := pZ h1 R3;exact⟨_, fp rfl rfl (qG (k3.cell (i := 0) rfl)), _, rfl, OB.rcd h2 R3, eE h3 R3 B2.size h3.size⟩
end
end Ky
end
section
namespace Ky
open Go.RowKit Go.Lib Pg
attribute [local go_sem] Oper.semAt_some
end Ky
end
section
namespace Ky
open Go.RowKit Go.Lib Pg
section
variable {x y:Int}{a b l c:List Int}
theorem bR:Lt (x :: a) (y :: b)<->x < y\/(x=y/\Lt a b):=by
 unfold Lt;rw[cY];by_cases c:x < y
 ·simp[c]
 ·by_cases d:y < x
  ·rw[if_neg c,if_pos d];constructor
   ·intro h; exact absurd h (by decide)
   ·rintro(h | ⟨h,_⟩)<;>omega
  ·rw[if_neg c,if_neg d];have:x=y:=by omega
   simp[this]
theorem ez:Lt [] (y :: b):=by simp[Lt,cY]
theorem not_lt_nil:¬ Lt a []:=by cases a<;>simp[Lt,cY]
theorem hH(s:List Int):Lt (s ++ a) (s ++ b)<->Lt a b:=by
 induction s with
 | nil=>exact Iff.rfl
 | cons x s ih=>rw[List.cons_append,List.cons_append,bR,ih]; simp
theorem ia:∀ {x y s t:List Int},x.length=y.length->(Lt (x ++ s) (y ++ t)<->Lt x y\/(x=y/\Lt s t))
 | [],[],s,t,_=>by simp[lt_irrefl]
 | [],_ :: _,_,_,h=>by simp at h
 | _ :: _,[],_,_,h=>by simp at h
 | a :: x,b :: y,s,t,h=>by
  rw[List.cons_append,List.cons_append,bR,bR,ia (by simpa using h)];constructor
  ·rintro(h1 | ⟨h1,h2 | ⟨h2,h3⟩⟩)
   ·exact .inl (.inl h1)
   ·exact .inl (.inr ⟨h1,h2⟩)
   ·exact .inr ⟨by rw[h1,h2],h3⟩
  ·rintro((h1 | ⟨h1,h2⟩) | ⟨h1,h2⟩)
   ·exact .inl h1
   ·exact .inr ⟨h1,.inl h2⟩
   ·cases h1; exact .inr ⟨rfl,.inr ⟨rfl,h2⟩⟩
theorem eD:∀ l:List Int,(∀ x∈l,x=255)\/∃ A x B,l=A ++ x :: B/\x≠255/\∀ b∈B,b=255
 | []=>.inl (fun _ h=>by simp at h)
 | y :: t=>by
  rcases eD t with h | ⟨A,x,B,rfl,hx,hB⟩
  ·by_cases hy:y=255
   ·exact .inl (fun x hx=>by
     rcases List.mem_cons.1 hx with rfl | hx
     ·exact hy
     ·exact h x hx)
   ·exact .inr ⟨[],y,t,rfl,hy,h⟩
  ·exact .inr ⟨y :: A,x,B,rfl,hx,hB⟩
theorem gM{A B:List Int}(hx:x≠255)(hB:∀ b∈B,b=255):nxt (A ++ x :: B)=A ++ [x + 1]:=by
 unfold nxt;rw[pI A B hx hB];simp
theorem rA(h:nxt l=[]):∀ x∈l,x=255:=by
 rcases eD l with h1 | ⟨A,x,B,rfl,hx,hB⟩
 ·exact h1
 ·rw[gM hx hB] at h;simp at h
theorem CW(h:nxt l≠[]):Lt l (nxt l):=by
 rcases eD l with h1 | ⟨A,x,B,rfl,hx,hB⟩
 ·exact absurd (fk h1) h
 ·rw[gM hx hB,hH,bR];exact .inl (by omega)
theorem Ih(h:nxt l≠[]):¬ l <+: nxt l:=by
 rcases eD l with h1 | ⟨A,x,B,rfl,hx,hB⟩
 ·exact absurd (fk h1) h
 ·rw[gM hx hB,List.prefix_append_right_inj,List.cons_prefix_cons];rintro⟨h2,_⟩;omega
theorem kG(h:nxt l≠[])(hc:l <+: c):Lt c (nxt l):=by
 rcases eD l with a | ⟨A,x,B,rfl,hx,b⟩
 ·exact absurd (fk a) h
 ·obtain⟨t,rfl⟩:=hc;rw[gM hx b,List.append_assoc,hH,List.cons_append,bR];exact .inl (by omega)
theorem mK:∀ {B t:List Int},(∀ b∈B,b=255)->Oct t->Lt t B\/B <+: t
 | [],_,_,_=>.inr (List.nil_prefix)
 | b :: B,[],_,_=>.inl ez
 | b :: B,z :: t,hB,ht=>by
  have hb:=hB b List.mem_cons_self;have c:=ht z List.mem_cons_self;subst hb;by_cases h:z=255
  ·subst h;rcases mK (fun b hb=>hB b (List.mem_cons_of_mem _ hb)) (fun y hy=>ht y (List.mem_cons_of_mem _ hy)) with a | a
   ·exact .inl (bR.2 (.inr ⟨rfl,a⟩))
   ·exact .inr (List.cons_prefix_cons.2 ⟨rfl,a⟩)
  ·exact .inl (bR.2 (.inl (by omega)))
theorem iG:∀ {A B c:List Int} {x:Int},(∀ b∈B,b=255)->Oct c->Lt c (A ++ [x + 1])->Lt c (A ++ x :: B)\/(A ++ x :: B) <+: c
 | [],B,[],x,_,_,_=>.inl ez
 | [],B,y :: t,x,hB,hc,h=>by
  rw[List.nil_append,bR] at h;rw[List.nil_append];rcases h with h | ⟨_,h⟩
  ·by_cases e:y=x
   ·subst e;rcases mK hB (fun z hz=>hc z (List.mem_cons_of_mem _ hz)) with h1 | h1
    ·exact .inl (bR.2 (.inr ⟨rfl,h1⟩))
    ·exact .inr (List.cons_prefix_cons.2 ⟨rfl,h1⟩)
   ·exact .inl (bR.2 (.inl (by omega)))
  ·exact absurd h not_lt_nil
 | a :: A,B,[],x,_,_,_=>.inl ez
 | a :: A,B,y :: t,x,hB,hc,h=>by
  rw[List.cons_append,bR] at h;rw[List.cons_append];rcases h with h | ⟨h1,h2⟩
  ·exact .inl (bR.2 (.inl h))
  ·subst h1;rcases iG hB (fun z hz=>hc z (List.mem_cons_of_mem _ hz)) h2 with h3 | h3
   ·exact .inl (bR.2 (.inr ⟨rfl,h3⟩))
   ·exact .inr (List.cons_prefix_cons.2 ⟨rfl,h3⟩)
theorem kQ(hc:Oct c)(f:¬ l <+: c)(d:¬ Lt c l):¬ Lt c (nxt l):=by
 rcases eD l with e | ⟨A,x,B,rfl,hx,b⟩
 ·rw[fk e]; exact not_lt_nil
 ·rw[gM hx b];intro h;rcases iG b hc h with a | a
  ·exact d a
  ·exact f a
theorem oE:∀ (n:Nat) (a:Int),be (n + 1) a=be n (a / 256) ++ [a % 256]
 | 0,a=>by simp[be]
 | n + 1,a=>by
  rw[be,oE n a,be,List.cons_append];congr 2
  rw[Int.ediv_ediv_of_nonneg (by decide),Int.pow_succ,Int.mul_comm]
theorem Cj(n:Nat):(256:Int) ^ (n + 1)=256 ^ n * 256:=Int.pow_succ 256 n
theorem uY:∀ (n:Nat) {a b:Int},0<=a->a < 256 ^ n->0<=b->b < 256 ^ n->(Lt (be n a) (be n b)<->a < b)
 | 0,a,b,h1,h2,h3,h4=>by
  simp at h2 h4;constructor
  ·intro h; exact absurd h (lt_irrefl _)
  ·intro h; omega
 | n + 1,a,b,h1,h2,h3,h4=>by
  rw[Cj] at h2 h4;have ih:=uY n (a:=a / 256) (b:=b / 256) (by omega) (by omega) (by omega) (by omega);rw[oE,oE,ia (by rw[aP,aP]),ih];constructor
  ·rintro(h | ⟨h,f⟩)
   ·omega
   ·have he:a / 256=b / 256:=by
     rcases Int.lt_trichotomy (a / 256) (b / 256) with c | c | c
     ·have:=ih.2 c; rw[h] at this; exact absurd this (lt_irrefl _)
     ·exact c
     ·have d:=uY n (a:=b / 256) (b:=a / 256) (by omega) (by omega) (by omega) (by omega);have:=d.2 c; rw[h] at this; exact absurd this (lt_irrefl _)
    have g:a % 256 < b % 256:=by
     rcases bR.1 f with h7 | ⟨_,h7⟩
     ·exact h7
     ·exact absurd h7 not_lt_nil
    omega
  ·intro h;by_cases he:a / 256 < b / 256
   ·exact .inl he
   ·have e:a / 256=b / 256:=by omega
    exact .inr ⟨by rw[e],bR.2 (.inl (by omega))⟩
theorem be_inj{n:Nat}{a b:Int}(g:0<=a)(d:a < 256 ^ n)(f:0<=b)(e:b < 256 ^ n)(h:be n a=be n b):a=b:=by
 rcases Int.lt_trichotomy a b with c | c | c
 ·have:=(uY n g d f e).2 c; rw[h] at this; exact absurd this (lt_irrefl _)
 ·exact c
 ·have:=(uY n f e g d).2 c; rw[h] at this; exact absurd this (lt_irrefl _)
theorem BR:∀ (n:Nat) {a:Int},0<=a->a < 256 ^ n->bv (be n a)=a
 | 0,a,h1,h2=>by simp at h2; simp[be,bv]; omega
 | n + 1,a,h1,h2=>by
  rw[Cj] at h2;rw[oE,rE,BR n (by omega) (by omega)];omega
end
end Ky
end
section
namespace Ky
open Go.RowKit Go.Lib Pg
attribute [local go_sem] Oper.semAt_some rK
theorem frm_none {k:Int} (h:k≠1/\k≠2/\k≠3/\k≠4/\k≠5/\k≠6/\k≠7/\k≠8/\k≠9/\k≠10/\k≠11/\k≠12/\k≠13/\k≠14/\k≠15/\k≠16/\k≠17):frm k=(0,0,0):=by
 by_cases a:0<=k/\k < 18
 ·have:k=0:=by omega
  subst this;rfl
 ·exact if_neg a
end Ky
end
section
namespace Ky
open Go.RowKit Go.Lib Pg
attribute [local go_sem] Oper.semAt_some rK
theorem frm_doc (k:Int):∃ (n N:Nat) (m0 m1:Int),frm k=((n:Int),m0,m1)/\(n:Int) / 8=(N:Int)/\N<=2/\(n<=8<->N=0)/\(n<=16<->N<=1)/\(m0=0<->n=0)/\(0<=m0/\m0 < 256)/\(0<=m1/\m1 < 256)/\(N=0->m1=0)/\(k=10->N=2/\m1=0):=by
 by_cases h:0<=k/\k < 18
 ·obtain⟨j,rfl⟩:=Int.eq_ofNat_of_zero_le h.1
  have a:j < 18:=by omega
  match j,a with
  | 0,_=>exact⟨0,0,0,0,rfl,by decide,by decide,by decide,by decide,by decide,by decide,by decide,by decide,by decide⟩
  | 1,_=>exact⟨1,0,112,0,rfl,by decide,by decide,by decide,by decide,by decide,by decide,by decide,by decide,by decide⟩
  | 2,_=>exact⟨1,0,99,0,rfl,by decide,by decide,by decide,by decide,by decide,by decide,by decide,by decide,by decide⟩
  | 3,_=>exact⟨1,0,109,0,rfl,by decide,by decide,by decide,by decide,by decide,by decide,by decide,by decide,by decide⟩
  | 4,_=>exact⟨9,1,97,0,rfl,by decide,by decide,by decide,by decide,by decide,by decide,by decide,by decide,by decide⟩
  | 5,_=>exact⟨10,1,118,48,rfl,by decide,by decide,by decide,by decide,by decide,by decide,by decide,by decide,by decide⟩
  | 6,_=>exact⟨18,2,118,100,rfl,by decide,by decide,by decide,by decide,by decide,by decide,by decide,by decide,by decide⟩
  | 7,_=>exact⟨18,2,118,104,rfl,by decide,by decide,by decide,by decide,by decide,by decide,by decide,by decide,by decide⟩
  | 8,_=>exact⟨18,2,118,115,rfl,by decide,by decide,by decide,by decide,by decide,by decide,by decide,by decide,by decide⟩
  | 9,_=>exact⟨9,1,116,0,rfl,by decide,by decide,by decide,by decide,by decide,by decide,by decide,by decide,by decide⟩
  | 10,_=>exact⟨17,2,105,0,rfl,by decide,by decide,by decide,by decide,by decide,by decide,by decide,by decide,by decide⟩
  | 11,_=>exact⟨9,1,98,0,rfl,by decide,by decide,by decide,by decide,by decide,by decide,by decide,by decide,by decide⟩
  | 12,_=>exact⟨9,1,117,0,rfl,by decide,by decide,by decide,by decide,by decide,by decide,by decide,by decide,by decide⟩
  | 13,_=>exact⟨9,1,114,0,rfl,by decide,by decide,by decide,by decide,by decide,by decide,by decide,by decide,by decide⟩
  | 14,_=>exact⟨17,2,113,0,rfl,by decide,by decide,by decide,by decide,by decide,by decide,by decide,by decide,by decide⟩
  | 15,_=>exact⟨17,2,101,0,rfl,by decide,by decide,by decide,by decide,by decide,by decide,by decide,by decide,by decide⟩
  | 16,_=>exact⟨17,2,110,0,rfl,by decide,by decide,by decide,by decide,by decide,by decide,by decide,by decide,by decide⟩
  | 17,_=>exact⟨17,2,107,0,rfl,by decide,by decide,by decide,by decide,by decide,by decide,by decide,by decide,by decide⟩
  | j + 18,h=>omega
 ·exact⟨0,0,0,0,if_neg h,by decide,by decide,by decide,by decide,by decide,by decide,by decide,by decide,fun b=>by omega⟩
end Ky
end
section
namespace Ky
open Go.RowKit Go.Lib Pg
section
variable {w:World}{l:List Int}{ao:Option Addr}{c:Nat}
attribute [local go_sem] Oper.semAt_some rK
instance (l:List Int):Decidable (Oct l):=inferInstanceAs (Decidable (∀ x∈l,0<=x/\x < 256))
theorem app_grow{a a2:Addr}{n m c2:Nat}{d:List Int}(h:By w (.slice (some a) n n) l)(g:By w (.slice (some a2) m c2) d)(hm:0 < m)(t:n + m<=1000000000) :
  ∃ c' w',(Builtin.append_ #[96,96] 96 #[.slice (some a) n n,.slice (some a2) m c2]).run Tryz.prog w=.ok (.slice (some ⟨w.heap.size,0,none⟩) (n + m) c') w'/\OB w' (w.heap.size <= ·) (.slice (some ⟨w.heap.size,0,none⟩) (n + m) c') (l ++ d)/\Below w.heap.size w w':=by
 obtain⟨i,hi,r,hs,hb⟩:=info_parts KB.inf;obtain⟨l1,-,-⟩:=By.lens h;obtain⟨f,-,-⟩:=By.lens g;have q:=h.oct;have s:=g.oct
 have c1:∀ j u,(l.map (Value.int .u8))[j]? = some u->w.cell? (a.add j)=some u:=fun j u c=>by
  rw[List.getElem?_map] at c;obtain⟨x,hx,rfl⟩:=Option.map_eq_some_iff.1 c;obtain⟨b,o,e,hc⟩:=By.at h hx
  cases e;rw[Addr.add_lit]; exact hc
 have c3:∀ j u,(d.map (Value.int .u8))[j]? = some u->w.cell? (a2.add j)=some u:=fun j u c=>by
  rw[List.getElem?_map] at c;obtain⟨x,hx,rfl⟩:=Option.map_eq_some_iff.1 c;obtain⟨b,o,e,hc⟩:=By.at g hx
  cases e;rw[Addr.add_lit]; exact hc
 have p:=run_append_grow (P:=Tryz.prog) w 96 96 5 i (.int .u8 0) KB.und hi r a n n (l.map (Value.int .u8)) (by rw[hs,List.length_map,l1]; omega) c1 a2 m c2 (d.map (Value.int .u8)) (by rw[hs,List.length_map,f]; omega) c3 (by omega) (by omega) (growslice_fits (by omega) (by rw[hb]; omega));have k:=mg w 5 (Value.int .u8 0).cells 1 (n + m) (grownCap w (n + m) n 5) (l.map (Value.int .u8) ++ d.map (Value.int .u8)) (by simp[Value.cells]) (by rw[List.length_append,List.length_map,List.length_map,l1,f]; omega) (grownCap_ge w _ _ _) (grownCap_le_maxLen w _ _ _ (by simp only[maxLen]; omega));refine⟨_,_,p,⟨fun x hx=>(List.mem_append.1 hx).elim (q x) (s x),.inr ⟨w.heap.size,_,by rw[List.length_append,l1,f],Nat.le_refl _,?_⟩⟩,?_⟩
 ·rw[List.length_append,l1,f,List.map_append];simpa using k
 ·exact⟨rfl,rfl,rfl,by simp,fun b hb=>(ae w.drew _).block b hb⟩
theorem Et{g:Nat}(h:Blk w g (l.map (Value.int .u8)) 5)(a:Oct l)(b:l.length<=1000):OB w (· = g) (.slice (some ⟨g,0,none⟩) l.length l.length) l :=
 ⟨a,.inr ⟨g,l.length,rfl,rfl,kS h (by simp) (by simp only[maxLen]; omega)⟩⟩
def kb1:List Int:=[118,0,0,0,0,0,0,0,16,104,0,0,0,0,0,0,0,2]
def kb2:List Int:=[118,0,0,0,0,0,0,0,16,115]
theorem kmake1:Calls Tryz.prog 98 #[.agg #[.int .i64 7,.int .u64 16,.int .u64 2]] w fun e w'=>∃ ao c,e=.returned (.tuple #[.slice ao 18 c,.int .i64 0])/\OB w' (w.heap.size <= ·) (.slice ao 18 c) kb1/\Below w.heap.size w w':=by
 refine(o8 (w:=w) (k:=7) (a:=16) (b:=2) (by decide) (by decide)).mono ?_
 rw[show mkE 7 16 2=false from by decide +kernel,show mk 7 16 2=kb1 from by decide +kernel];rintro e w' ⟨v,rfl,O,b⟩;obtain⟨ao,c,rfl⟩:=OB.sh O;exact⟨ao,c,rfl,O,b⟩
theorem kunder1:Calls Tryz.prog 120 #[.int .i64 8,.int .u64 16] w fun e w'=>∃ ao c,e=.returned (.tuple #[.slice ao 10 c,.int .i64 0])/\OB w' (w.heap.size <= ·) (.slice ao 10 c) kb2/\Below w.heap.size w w':=by
 refine(ri (w:=w) (k:=8) (a:=16) (by decide) (by decide)).mono ?_
 rw[if_pos (show 16 < (frm 8).1 from by decide +kernel),if_pos (show 16 < (frm 8).1 from by decide +kernel),show mkb (frm 8) (tn 8 16)=kb2 from by decide +kernel];rintro e w' ⟨v,rfl,O,b⟩;obtain⟨ao,c,rfl⟩:=OB.sh O;exact⟨ao,c,rfl,O,b⟩
theorem kmake2:Calls Tryz.prog 98 #[.agg #[.int .i64 3,.int .u64 1,.int .u64 0]] w fun e w'=>∃ ao c,e=.returned (.tuple #[.slice ao 0 c,.int .i64 70])/\Below w.heap.size w w':=by
 refine(o8 (w:=w) (k:=3) (a:=1) (b:=0) (by decide) (by decide)).mono ?_
 rw[show mkE 3 1 0=true from by decide +kernel];rintro e w' ⟨v,rfl,O,b⟩;obtain⟨ao,c,rfl⟩:=OB.sh O;exact⟨ao,c,rfl,b⟩
theorem kread1(h:By w (.slice ao 18 c) kb1):Calls Tryz.prog 84 #[.slice ao 18 c] w fun e w'=>e=.returned (.tuple #[.agg #[.int .i64 7,.int .u64 16,.int .u64 2],.int .i64 0])/\Below w.heap.size w w':=by
 refine(oG h (by decide) (r:=7) (by decide) (by decide) (by decide +kernel)).mono ?_
 rw[show rdA 7 kb1=16 from by decide +kernel,show rdB kb1=2 from by decide +kernel];exact fun e w' h=>h
theorem knext1(h:By w (.slice ao 3 c) [112,255,255]):Calls Tryz.prog 82 #[.slice ao 3 c] w fun e w'=>∃ a2 c2,e=.returned (.slice a2 1 c2)/\By w' (.slice a2 1 c2) [113]/\Below w.heap.size w w':=by
 refine(jN h (by decide)).mono ?_
 rw[show nxt [112,255,255]=[113] from by decide +kernel];rintro e w' ⟨v,rfl,O,b⟩;obtain⟨ao,c,rfl⟩:=OB.sh O;exact⟨ao,c,rfl,O.by,b⟩
end
end Ky
end
section
namespace Ky
open Go.RowKit Go.Lib Pg
attribute [local go_sem] Oper.semAt_some rK
theorem win9 {w:World} {g:Nat} (h:By w (.slice (some ⟨g,0,none⟩) 18 18) kb1):By w (.slice (some ⟨g,0,none⟩) 9 9) (kb1.take 9):=by
 obtain⟨k,c,e,j,m,l,d,f⟩:=h.ex
 cases e;refine⟨_,9,rfl,by decide,by decide,(fun e=>by cases e),fun x hx=>d x (List.mem_of_mem_take hx),.inr ?_⟩;obtain⟨b,o,e,a,hc⟩:=f.resolve_left (by decide)
 cases e;refine⟨_,_,rfl,a,fun i x hi=>hc i x ?_⟩;rw[List.getElem?_take] at hi;split at hi
 ·exact hi
 ·cases hi
end Ky
end
end Go.Proofs.YthfepflplbahkaaGreatDoor
