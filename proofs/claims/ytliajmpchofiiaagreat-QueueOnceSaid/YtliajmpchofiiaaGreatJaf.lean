/- Several texts, joined: KyO, KyP, KyQ, KyR, KyS, KyU, KyV, KyW. -/
import Derived.Test.YtliajmpchofiiaaGreatJae
import Derived.Shelf.Abstract
import Derived.Shelf.RegionOpen
import Derived.OwnWalkIn
import Derived.TacticsInMore
import Derived.LoopNIn
import Derived.LoopIn
set_option maxRecDepth 100000
set_option maxHeartbeats 8000000
namespace Go.Proofs.YtliajmpchofiiaaGreat
section
namespace Ky
open Go.RowKit Go.Lib Pg
section
variable {n c:Nat}{ao:Option Addr}{Q:List Int}{Rd:World->Prop}{w:World}
attribute [local go_sem] Oper.semAt_some
def ArBB(Q:List Int)(i:Nat)(args:Array Value)(_:Nat)(_:World):Prop:=∃ p j,j + 1 + i=Q.length/\Q[j]? = some p/\args=#[.int .i64 (j:Int),.int .u8 p]
theorem ju{Tp:TypeId->Prop}{bs:Nat}(hn:Q.length=n)(hbig:n<=1000000000)(hb:∀ V,Rd V->V.cell? ⟨bs,0,none⟩=some (.slice ao n c)/\∀ j p,Q[j]? = some p->∃ b o,ao=some ⟨b,o,none⟩/\V.cell? ⟨b,o + j,none⟩=some (.int .u8 p)) :
  Itr Tp 193 #[.pointer (some ⟨bs,0,none⟩)] n (ArBB Q) Rd:=by
 intro l J Jx W hJ hJx hRd hY h0;have cb:=(hb W (hRd 0 W h0)).1
 have hb:Hid _:=hb
 have hn:Hid _:=hn
 have w0:IntKind.i64.wrap ((n:Int) - 1)=(n:Int) - 1:=by rw[IntKind.wrap_i64]; omega
 refine(callsIn_wide (n:=0)).1 ?_
 refine callsIn_of_wp Tryz.func193 rfl trivial ?_ rfl;simp only[Tryz.ntmps193,List.size_toArray,List.length_cons,List.length_nil,Nat.reduceAdd,Nat.reduceSub,Array.replicate_succ,Array.replicate_zero,List.push_toArray,List.append_toArray,List.nil_append,List.cons_append];gi_wp2;gi_loopw [3] (fun ti wr=>∃ i:Nat,i<=n/\ti=.int .i64 ((n:Int) - 1 - (i:Int))/\W.heap.size<=wr.heap.size/\J i wr) (fun ti _=>(intOf ti + 1).toNat)
 case atStart=>exact⟨0,Nat.zero_le _,by simp,Nat.le_refl _,h0⟩
 case round =>
  clear cb;obtain⟨i,hi,rfl,hsz,hJi⟩:=hrel;obtain⟨cb,hat⟩:=hb.out wr (hRd _ _ hJi);by_cases hlt:i < n
  ·obtain⟨j,hj⟩:∃ j,j + 1 + i=n:=⟨n - 1 - i,by omega⟩
   obtain⟨p,hp⟩:∃ p,Q[j]? = some p:=⟨Q[j]'(by have:=hn.out; omega),List.getElem?_eq_getElem _⟩
   obtain⟨b,o,rfl,cP⟩:=hat j p hp
   have ej:(n:Int) - 1 - (i:Int)=(j:Int):=by omega
   have HI:Hid (j + 1 + i=n):=hj;have hY1:=hY i _ wr wr hlt hJi hsz (Below.refl _ _) ⟨p,j,by rw[hn.out]; exact hj,hp,rfl⟩;obtain⟨fn,tmps,assign,body,hy,hR⟩:=hY1;rw[ej]
   have w1:IntKind.i64.wrap ((j:Int) - 1)=(j:Int) - 1:=by rw[IntKind.wrap_i64]; omega
   have z1:(j:Int) < n:=by omega
   clear hat ej hj;gi_wp2;refine⟨rfl,hR.mono ?_⟩;rintro e' W4 ⟨hk4,⟨rfl,hJ4⟩ | ⟨rfl,hJ4⟩⟩
   ·gi_wp2;go_roundw
    case rel=>exact⟨i + 1,by omega,by have:=HI.out; congr 1; omega,Nat.le_trans hsz hk4.size,hJ4⟩
    case measure=>simp[intOf]
   ·gi_wp2;refine bodyPost_ret (results_none rfl _ _ _) rfl ?_
    exact⟨⟨_,rfl⟩,Nat.le_trans hsz hk4.size,.inr ⟨i,hlt,hJ4⟩⟩
  ·have hin:i=n:=by omega
   have ej:(n:Int) - 1 - (i:Int) = -1:=by omega
   rw[ej]
   have HJ:Hid (J n wr):=by show J n wr; rw[<- hin]; exact hJi
   clear hat ej hin hJi;gi_wp2;go_end0;exact⟨⟨_,rfl⟩,hsz,.inl HJ.out⟩
theorem kN:Calls Tryz.prog 142 #[.slice ao n c] w fun e w'=>e=.returned (.func (.func 193) #[] #[.pointer (some ⟨w.heap.size,0,none⟩)])/\Blk w' w.heap.size [.slice ao n c] 40/\Below w.heap.size w w':=by
 go_enter Tryz.func142,Tryz.ntmps142;go_wp2;go_ret;exact⟨rfl,au w _ _,aa w _⟩
end
end Ky
end
section
namespace Ky
open Go.RowKit Go.Lib Pg
section
variable {x:Int}{l:List Int}{w A A' w':World}{B g n c:Nat}{cs:List Value}{D:Nat->Prop}{v:Value}{ao:Option Addr}{ops:Array Oper}{rest:List Oper}{a:Act}{pos:String}
attribute [local go_sem] Oper.semAt_some
def nxt(l:List Int):List Int:=match l.reverse.dropWhile (· == 255) with
 | []=>[]
 | x :: t=>t.reverse ++ [x + 1]
theorem lN:∀ {l:List Int},(∀ x∈l,x=255)->l.dropWhile (· == 255)=[]
 | [],_=>rfl
 | x :: l,h=>by
  have hx:=h x List.mem_cons_self;subst hx;rw[List.dropWhile_cons_of_pos (by decide)];exact lN (fun y hy=>h y (List.mem_cons_of_mem _ hy))
theorem lI(A B:List Int)(hx:x≠255)(h:∀ b∈B,b=255):(A ++ x :: B).reverse.dropWhile (· == 255)=x :: A.reverse:=by
 rw[List.reverse_append,List.reverse_cons,List.append_assoc,List.dropWhile_append_of_pos (fun a ha=>by simp[h a (List.mem_reverse.1 ha)]),List.singleton_append,List.dropWhile_cons_of_neg (by simp[hx])]
theorem dV(h:∀ x∈l,x=255):nxt l=[]:=by
 have:l.reverse.dropWhile (· == 255)=[]:=by
  exact lN (fun x hx=>h x (List.mem_reverse.1 hx))
 unfold nxt;rw[this]
theorem rj{j:Nat}(hj:l[j]? = some x)(hx:x≠255)(h:∀ i y,l[i]? = some y->j < i->y=255):nxt l=l.take j ++ [x + 1]:=by
 have hlt:j < l.length:=(List.getElem?_eq_some_iff.1 hj).1
 have e:l=l.take j ++ x :: l.drop (j + 1):=by
  have h1:=(List.take_append_drop j l).symm
  have h2:l.drop j=x :: l.drop (j + 1):=by
   rw[List.drop_eq_getElem_cons hlt];congr 1
   exact(List.getElem?_eq_some_iff.1 hj).2
  rw[h2] at h1;exact h1
 have h3:l.reverse.dropWhile (· == 255)=x :: (l.take j).reverse:=by
  have h4:=lI (l.take j) (l.drop (j + 1)) hx (fun a ha=>by
   obtain⟨i,hi⟩:=List.getElem?_of_mem ha;rw[List.getElem?_drop] at hi;exact h (j + 1 + i) a hi (by omega))
  rw[<- e] at h4;exact h4
 unfold nxt;rw[h3];simp
theorem cW{B0 B1:Nat}{B:World}(h:Below B0 w A)(hr:Rec B1 A B)(hB:B0<=B1)(hw:B0<=A.heap.size):Below B0 w B :=
 ⟨hr.os.trans h.os,hr.tape.trans h.tape,hr.output.trans h.output,Nat.le_trans h.size hr.size,fun k hk=>by
  obtain⟨o,ho⟩:∃ o,A.heap[k]? = some o:=⟨A.heap[k]'(by omega),Array.getElem?_eq_getElem _⟩
  rw[hr.same k o ho (.inl (by omega)),<- ho];exact h.block k hk⟩
theorem lA{ty:TypeId}(h:Blk A g cs ty)(hr:Rec B A A'):Blk A' g cs ty:=hr.blk h
theorem OB.rcd(h:OB A D v l)(hr:Rec B A A'):OB A' D v l:=by
 refine⟨h.oct,h.ex.imp id ?_⟩;rintro⟨b,c,e,hd,hR⟩;obtain⟨cs,k⟩:=hR.kind;exact⟨b,c,e,hd,hR.same ((hr.blk k).blk.trans k.blk.symm)⟩
theorem By.take(h:By w (.slice ao n c) l)(j:Nat)(hj:j<=n):By w (.slice ao j c) (l.take j):=by
 obtain⟨hl,hc,hm⟩:=By.lens h;obtain⟨ao',c',e,h2,h3,h4,h5,h6⟩:=h.ex
 cases e
 have hlen:(l.take j).length=j:=by rw[List.length_take]; omega
 refine⟨ao,c,by rw[hlen],by rw[hlen]; omega,h3,h4,fun x hx=>h5 x (List.mem_of_mem_take hx),?_⟩;rcases h6 with rfl | ⟨b',o',e,hlt,hcell⟩
 ·exact .inl (by simp)
 ·exact .inr ⟨b',o',e,hlt,fun i x hi=>hcell i x (by
   rw[List.getElem?_take] at hi;split at hi
   ·exact hi
   ·cases hi)⟩
theorem pA{o:Nat}(c:w.cell? ⟨g,o,none⟩=some v):(loadVar 40 ⟨g,o,none⟩).run Tryz.prog w=.ok v w:=by go_simp
theorem iE{F:Fence}{Q:Exit->Act->World->Prop}{o:Oper}(hg:o.guard=none)(hF:∀ f,F.fn f)(hs:o.semAt F.round a.eval=execOp a.eval o)(hrun:(execOp a.eval o).run Tryz.prog w=.ok (.value v) w')(h:wpListIn F n Tryz.prog ops Q rest (a.put o.dst v) w'):wpListIn F n Tryz.prog ops Q (o :: rest) a w :=
 wpListIn_plain hg fun K hK=>by
  unfold Oper.wpIn;rw[hs,hrun,Oper.uponIn_value];exact⟨fun f _=>hF f,hK _ _ h⟩
theorem nD{F:Fence}{Q:Exit->Act->World->Prop}{after:Array Edge}{u r:Value}(hF:∀ f,F.fn f)(hu:a.eval (.tmp 14)=u)(hv:a.eval (.tmp 17)=v)(hr:(Builtin.append_ #[40,40] 40 #[u,v]).run Tryz.prog w=.ok r w')(h:wpListIn F n Tryz.prog ops Q rest (a.put (some 18) r) w') :
  wpListIn F n Tryz.prog ops Q ({ dst:=some 18,op:=.call { callee:=.builtin .append,args:=#[.tmp 14,.tmp 17],argTypes:=#[40,40] },type:=40,pos:=pos,after:=after,guard:=none } :: rest) a w :=
 iE rfl hF (Oper.semAt_eq _ _ _ (fun c h=>by cases h)) (gE (x:=14) (y:=17) rfl rfl hu hv hr) h
theorem ld(h : By w (.slice ao n c) l)(hbig : n ≤ 1000000000) :
    Calls Tryz.prog 85 #[.slice ao n c] w fun e w' => ∃ v, e = .returned v ∧ OB w' (w.heap.size ≤ ·) v (nxt l) ∧ Below w.heap.size w w' := by
  obtain⟨hl, hnc, hcm⟩:= By.lens h;have c1 := au w [.slice ao n c] 40;have b1 := aa w (.cells #[.slice ao n c] 40)
  have s1 : (w.alloc (.cells #[.slice ao n c] 40)).heap.size = w.heap.size + 1 := by simp
  have c2 := au (w.alloc (.cells #[.slice ao n c] 40)) [.slice none 0 0] 40;have b2 := aa (w.alloc (.cells #[.slice ao n c] 40)) (.cells #[.slice none 0 0] 40)
  have s2 : ((w.alloc (.cells #[.slice ao n c] 40)).alloc (.cells #[.slice none 0 0] 40)).heap.size = w.heap.size + 2 := by simp
  rw[s1] at c2
  have c1' := c1.keep b2;have b12 := ai b1 b2;obtain⟨Wa, hWa⟩ : ∃ Wa, Hid ((w.alloc (.cells #[.slice ao n c] 40)).alloc (.cells #[.slice none 0 0] 40) = Wa) := ⟨_, rfl⟩;rw[hWa.out] at c1' c2 s2 b12;have HB := ax h;clear h c1 b1 b2 s1;refine(callsIn_wide (n := 0)).1 ?_
  refine callsIn_of_wp_marks Tryz.func85 rfl trivial ?_ rfl;simp only[Tryz.ntmps85, List.size_toArray, List.length_cons, List.length_nil, Nat.reduceAdd, Nat.reduceSub, Array.replicate_succ, Array.replicate_zero, List.push_toArray, List.append_toArray, List.nil_append, List.cons_append];gi_wp2_with (refine⟨trivial, rfl, ?_⟩; gi_at_call 142; rw[hWa.out]; refine(callsIn_wide.2 kN).mono ?_; rintro e' w2 ⟨rfl, hBx, hB2⟩);rw[s2] at hBx;have k1 := c1'.keep hB2;have k2 := c2.keep hB2;have B2 := ai b12 hB2;have hs2 := hB2.size;have IT := ju (Tp := fun _ => False) (bs := w.heap.size + 2) (c := c) (ao := ao) (Q := l) (n := n) (Rd := fun V => Below w2.heap.size w2 V) hl hbig (fun V hv => ⟨(hBx.keep hv).cell (i := 0) rfl, fun j p hj => By.at ((HB.out.keep B2).keep hv) hj⟩);refine gk IT (by rfl) (enters_of Tryz.func193 (by kernel_rfl) rfl) (fun i args n V V' h _ => h) (fun i args n V h => by obtain⟨p, j, _, _, rfl⟩:= h; rfl)
    (fun i V => Below w2.heap.size w2 V ∧ ∀ j x, l[j]? = some x → n ≤ j + i → x = 255)
    (fun c i V => c = .ret ∧ ∃ v, Blk V (w.heap.size + 1) [v] 40 ∧ OB V (w.heap.size ≤ ·) v (nxt l) ∧ Below w.heap.size w V)
    (fun i A B hx hr => ⟨cW hx.1 hr (Nat.le_refl _) hx.1.size, hx.2⟩)
    (fun c i A B hx hr => ⟨hx.1, by obtain⟨v, h1, h2, h3⟩:= hx.2; exact⟨v, hr.blk h1, OB.rcd h2 hr, cW h3 hr B2.size h3.size⟩⟩)
    (fun i V hv => hv.1) ⟨Below.refl _ _, fun j x hj hn => by have := (List.getElem?_eq_some_iff.1 hj).1; omega⟩ ?_ ?_ ?_
  · rintro l2 i args V Wv hl2 hlV hrec hiN ⟨hBV, hall⟩ hb ⟨p, j, hj, hp, rfl⟩
    simp;gi_wp2;refine⟨Below.refl _ _, ?_⟩;intro V2 W2 hBV2 hall2 hb2 hAr2 hoth hsz3 hV2 r hrec2;have hBW := hBV2.trans (hb2.mono hBV2.size);have kb := (k1.keep hBW).cell (i := 0) rfl;have kr := k2.keep hBW
    have hpo : 0 ≤ p ∧ p < 256 := HB.out.oct p (List.mem_of_getElem? hp);clear hall hb hBV hoth hAr2;by_cases hp5 : p = 255
    · subst hp5
      gi_wp2;refine⟨aX.of (Below.refl _ _), hBW, fun j2 x hx hn => ?_⟩;by_cases e : j2 = j
      · subst e; rw[hp] at hx; cases hx; rfl
      · exact hall2 j2 x hx (by omega)
    · have hp6 : p < 255 := by omega
      have BY := By.take ((HB.out.keep B2).keep hBW) j (by omega)
      have hjl : (l.take j).length = j := by rw[List.length_take]; omega
      have hjn : (j : Int) ≤ c := by omega
      have w9 : IntKind.u8.wrap (p + 1) = p + 1 := by rw[IntKind.wrap_u8]; omega
      have HKR := ax kr;have HW := ax hBW
      have HNX : Hid (nxt l = l.take j ++ [p + 1]) := rj hp hp5 (fun i2 y hy hi => hall2 i2 y hy (by omega));clear kr hBW hall2;gi_wp2_with (first
        | (have gate := hr6; clear gate; refine nD (fun _ => trivial) rfl rfl hr6 ?_; clear hr6)
        | (refine⟨trivial, rfl, ?_⟩; gi_at_call 137; refine(CallsIn.inRound l2 (callsIn_wide.2 (bZ BY (by omega)))).mono ?_; rintro e' w5 ⟨v5, rfl, O5, b5⟩; obtain⟨v6, w6, hr6, O6, b6⟩:= ec (B := W2.heap.size) (x := p + 1) O5 b5.size (by omega) (by omega); have kr6 := (HKR.out.keep b5).jM b6 (HKR.out.lt); have kc := kr6.cell (i := 0) rfl; have kfr := kr6.free 0; obtain⟨a5, c5, rfl⟩:= OB.sh O5; obtain⟨a6, c6, rfl⟩:= OB.sh O6; rw[hjl] at hr6 ⊢))
      have hlt : w.heap.size + 1 < w2.heap.size := k2.lt;have hsW := HW.out.size;have b56 := b5.trans b6
      have O7 : OB w6 (W2.heap.size ≤ ·) (.slice a6 (j + 1) c6) (l.take j ++ [p + 1]) := by
        have h9 := O6;rw[show (l.take j ++ [p + 1]).length = j + 1 by rw[List.length_append, hjl]; rfl] at h9;exact h9
      have O8 : OB (w6.setCell ⟨w.heap.size + 1, 0, none⟩ (.slice a6 (j + 1) c6)) (W2.heap.size ≤ ·) (.slice a6 (j + 1) c6) (l.take j ++ [p + 1]) := O7.same (fun b _ hb => Below.heap_setCell w6 _ _ b (by show b ≠ w.heap.size + 1; omega))
      have B6 : Below w.heap.size w w6 := (B2.trans (HW.out.mono B2.size)).trans (b56.mono (Nat.le_trans B2.size hsW));refine⟨(aX.of b56).trans ⟨?_, fun k o hk h0 _ => (Below.heap_setCell w6 _ _ k (by show k ≠ w.heap.size + 1; omega)).trans h0⟩, rfl, _, kr6.setCell (i := 0) _, ?_, B6.setCell (show w.heap.size ≤ w.heap.size + 1 by omega) _⟩
      · exact((Chg.refl (fun x => x = w.heap.size + 1) w6).cell (g := w.heap.size + 1) (i := 0) (.inl rfl) _).size
      · rw[HNX.out]
        exact O8.mono (fun b _ hb => by have := B2.size; omega)
  · rintro D' W' hD hK ⟨hBW, hall⟩
    have kr := k2.keep hBW;have kc := kr.cell (i := 0) rfl;have kf := kr.free 0
    have hlt : w.heap.size + 1 < w2.heap.size := k2.lt
    have hK3 : (W'.setCell ⟨w.heap.size + 1, 0, none⟩ (.slice none 0 0)).heap[D']? = some (.deferred (some [])) := (Below.heap_setCell W' _ _ D' (by show D' ≠ w.heap.size + 1; omega)).trans hK;gi_wp2;refine⟨by simp, .inl ⟨_, _, rfl, run_takeDeferred hK3, ?_⟩⟩;have R3 := Rec.put (B := w2.heap.size) hK3 rfl hD (.deferred none);have k3 := lA (kr.setCell (i := 0) (.slice none 0 0)) R3;refine⟨_, dL rfl rfl (pA (k3.cell (i := 0) rfl)), _, rfl, ?_, ?_⟩
    · rw[dV (fun x hx => by
        obtain⟨j, hj⟩:= List.getElem?_of_mem hx;exact hall j x hj (by omega))]
      exact lq _ _
    · have h9 : Below w.heap.size w (W'.setCell ⟨w.heap.size + 1, 0, none⟩ (.slice none 0 0)) := (B2.trans (hBW.mono B2.size)).setCell (show w.heap.size ≤ w.heap.size + 1 by omega) _
      exact cW h9 R3 B2.size h9.size
  · rintro D' c i W' hD hK hiN ⟨rfl, v, h1, h2, h3⟩
    gi_wp2;refine⟨by simp, .inl ⟨_, _, rfl, run_takeDeferred hK, ?_⟩⟩;have R3 := Rec.put (B := w2.heap.size) hK rfl hD (.deferred none);have k3 := lA h1 R3;exact⟨_, dL rfl rfl (pA (k3.cell (i := 0) rfl)), _, rfl, OB.rcd h2 R3, cW h3 R3 B2.size h3.size⟩
end
end Ky
end
section
namespace Ky
open Go.RowKit Go.Lib Pg
attribute [local go_sem] Oper.semAt_some
end Ky
end
section
namespace Ky
open Go.RowKit Go.Lib Pg
section
variable {x y:Int}{a b l c:List Int}
theorem aV:Lt (x :: a) (y :: b)<->x < y\/(x=y/\Lt a b):=by
 unfold Lt;rw[cA];by_cases h1:x < y
 ·simp[h1]
 ·by_cases h2:y < x
  ·rw[if_neg h1,if_pos h2];constructor
   ·intro h; exact absurd h (by decide)
   ·rintro(h | ⟨h,_⟩)<;>omega
  ·rw[if_neg h1,if_neg h2];have:x=y:=by omega
   simp[this]
theorem cT:Lt [] (y :: b):=by simp[Lt,cA]
theorem not_lt_nil:¬ Lt a []:=by cases a<;>simp[Lt,cA]
theorem kH(s:List Int):Lt (s ++ a) (s ++ b)<->Lt a b:=by
 induction s with
 | nil=>exact Iff.rfl
 | cons x s ih=>rw[List.cons_append,List.cons_append,aV,ih]; simp
theorem iv:∀ {x y s t:List Int},x.length=y.length->(Lt (x ++ s) (y ++ t)<->Lt x y\/(x=y/\Lt s t))
 | [],[],s,t,_=>by simp[lt_irrefl]
 | [],_ :: _,_,_,h=>by simp at h
 | _ :: _,[],_,_,h=>by simp at h
 | a :: x,b :: y,s,t,h=>by
  rw[List.cons_append,List.cons_append,aV,aV,iv (by simpa using h)];constructor
  ·rintro(h1 | ⟨h1,h2 | ⟨h2,h3⟩⟩)
   ·exact .inl (.inl h1)
   ·exact .inl (.inr ⟨h1,h2⟩)
   ·exact .inr ⟨by rw[h1,h2],h3⟩
  ·rintro((h1 | ⟨h1,h2⟩) | ⟨h1,h2⟩)
   ·exact .inl h1
   ·exact .inr ⟨h1,.inl h2⟩
   ·cases h1; exact .inr ⟨rfl,.inr ⟨rfl,h2⟩⟩
theorem di:∀ l:List Int,(∀ x∈l,x=255)\/∃ A x B,l=A ++ x :: B/\x≠255/\∀ b∈B,b=255
 | []=>.inl (fun _ h=>by simp at h)
 | y :: t=>by
  rcases di t with h | ⟨A,x,B,rfl,hx,hB⟩
  ·by_cases hy:y=255
   ·exact .inl (fun x hx=>by
     rcases List.mem_cons.1 hx with rfl | hx
     ·exact hy
     ·exact h x hx)
   ·exact .inr ⟨[],y,t,rfl,hy,h⟩
  ·exact .inr ⟨y :: A,x,B,rfl,hx,hB⟩
theorem eX{A B:List Int}(hx:x≠255)(hB:∀ b∈B,b=255):nxt (A ++ x :: B)=A ++ [x + 1]:=by
 unfold nxt;rw[lI A B hx hB];simp
theorem oR(h:nxt l=[]):∀ x∈l,x=255:=by
 rcases di l with h1 | ⟨A,x,B,rfl,hx,hB⟩
 ·exact h1
 ·rw[eX hx hB] at h;simp at h
theorem lt_nxt(h:nxt l≠[]):Lt l (nxt l):=by
 rcases di l with h1 | ⟨A,x,B,rfl,hx,hB⟩
 ·exact absurd (dV h1) h
 ·rw[eX hx hB,kH,aV];exact .inl (by omega)
theorem iu(h:nxt l≠[])(hc:l <+: c):Lt c (nxt l):=by
 rcases di l with h1 | ⟨A,x,B,rfl,hx,hB⟩
 ·exact absurd (dV h1) h
 ·obtain⟨t,rfl⟩:=hc;rw[eX hx hB,List.append_assoc,kH,List.cons_append,aV];exact .inl (by omega)
theorem jz:∀ {B t:List Int},(∀ b∈B,b=255)->Oct t->Lt t B\/B <+: t
 | [],_,_,_=>.inr (List.nil_prefix)
 | b :: B,[],_,_=>.inl cT
 | b :: B,z :: t,hB,ht=>by
  have hb:=hB b List.mem_cons_self;have hz:=ht z List.mem_cons_self;subst hb;by_cases h:z=255
  ·subst h;rcases jz (fun b hb=>hB b (List.mem_cons_of_mem _ hb)) (fun y hy=>ht y (List.mem_cons_of_mem _ hy)) with h1 | h1
   ·exact .inl (aV.2 (.inr ⟨rfl,h1⟩))
   ·exact .inr (List.cons_prefix_cons.2 ⟨rfl,h1⟩)
  ·exact .inl (aV.2 (.inl (by omega)))
theorem ff:∀ {A B c:List Int} {x:Int},(∀ b∈B,b=255)->Oct c->Lt c (A ++ [x + 1])->Lt c (A ++ x :: B)\/(A ++ x :: B) <+: c
 | [],B,[],x,_,_,_=>.inl cT
 | [],B,y :: t,x,hB,hc,h=>by
  rw[List.nil_append,aV] at h;rw[List.nil_append];rcases h with h | ⟨_,h⟩
  ·by_cases e:y=x
   ·subst e;rcases jz hB (fun z hz=>hc z (List.mem_cons_of_mem _ hz)) with h1 | h1
    ·exact .inl (aV.2 (.inr ⟨rfl,h1⟩))
    ·exact .inr (List.cons_prefix_cons.2 ⟨rfl,h1⟩)
   ·exact .inl (aV.2 (.inl (by omega)))
  ·exact absurd h not_lt_nil
 | a :: A,B,[],x,_,_,_=>.inl cT
 | a :: A,B,y :: t,x,hB,hc,h=>by
  rw[List.cons_append,aV] at h;rw[List.cons_append];rcases h with h | ⟨h1,h2⟩
  ·exact .inl (aV.2 (.inl h))
  ·subst h1;rcases ff hB (fun z hz=>hc z (List.mem_cons_of_mem _ hz)) h2 with h3 | h3
   ·exact .inl (aV.2 (.inr ⟨rfl,h3⟩))
   ·exact .inr (List.cons_prefix_cons.2 ⟨rfl,h3⟩)
theorem ft(hc:Oct c)(h1:¬ l <+: c)(h2:¬ Lt c l):¬ Lt c (nxt l):=by
 rcases di l with h3 | ⟨A,x,B,rfl,hx,hB⟩
 ·rw[dV h3]; exact not_lt_nil
 ·rw[eX hx hB];intro h;rcases ff hB hc h with h4 | h4
  ·exact h2 h4
  ·exact h1 h4
theorem ko:∀ (n:Nat) (a:Int),be (n + 1) a=be n (a / 256) ++ [a % 256]
 | 0,a=>by simp[be]
 | n + 1,a=>by
  rw[be,ko n a,be,List.cons_append];congr 2
  rw[Int.ediv_ediv_of_nonneg (by decide),Int.pow_succ,Int.mul_comm]
theorem ya(n:Nat):(256:Int) ^ (n + 1)=256 ^ n * 256:=Int.pow_succ 256 n
theorem qd:∀ (n:Nat) {a b:Int},0<=a->a < 256 ^ n->0<=b->b < 256 ^ n->(Lt (be n a) (be n b)<->a < b)
 | 0,a,b,h1,h2,h3,h4=>by
  simp at h2 h4;constructor
  ·intro h; exact absurd h (lt_irrefl _)
  ·intro h; omega
 | n + 1,a,b,h1,h2,h3,h4=>by
  rw[ya] at h2 h4;have ih:=qd n (a:=a / 256) (b:=b / 256) (by omega) (by omega) (by omega) (by omega);rw[ko,ko,iv (by rw[aJ,aJ]),ih];constructor
  ·rintro(h | ⟨h,h'⟩)
   ·omega
   ·have he:a / 256=b / 256:=by
     rcases Int.lt_trichotomy (a / 256) (b / 256) with h5 | h5 | h5
     ·have:=ih.2 h5; rw[h] at this; exact absurd this (lt_irrefl _)
     ·exact h5
     ·have ih2:=qd n (a:=b / 256) (b:=a / 256) (by omega) (by omega) (by omega) (by omega);have:=ih2.2 h5; rw[h] at this; exact absurd this (lt_irrefl _)
    have h6:a % 256 < b % 256:=by
     rcases aV.1 h' with h7 | ⟨_,h7⟩
     ·exact h7
     ·exact absurd h7 not_lt_nil
    omega
  ·intro h;by_cases he:a / 256 < b / 256
   ·exact .inl he
   ·have he2:a / 256=b / 256:=by omega
    exact .inr ⟨by rw[he2],aV.2 (.inl (by omega))⟩
theorem be_inj{n:Nat}{a b:Int}(h1:0<=a)(h2:a < 256 ^ n)(h3:0<=b)(h4:b < 256 ^ n)(h:be n a=be n b):a=b:=by
 rcases Int.lt_trichotomy a b with h5 | h5 | h5
 ·have:=(qd n h1 h2 h3 h4).2 h5; rw[h] at this; exact absurd this (lt_irrefl _)
 ·exact h5
 ·have:=(qd n h3 h4 h1 h2).2 h5; rw[h] at this; exact absurd this (lt_irrefl _)
theorem xI:∀ (n:Nat) {a:Int},0<=a->a < 256 ^ n->bv (be n a)=a
 | 0,a,h1,h2=>by simp at h2; simp[be,bv]; omega
 | n + 1,a,h1,h2=>by
  rw[ya] at h2;rw[ko,oA,xI n (by omega) (by omega)];omega
end
end Ky
end
section
namespace Ky
open Go.RowKit Go.Lib Pg
attribute [local go_sem] Oper.semAt_some jS
end Ky
end
section
namespace Ky
open Go.RowKit Go.Lib Pg
attribute [local go_sem] Oper.semAt_some jS
end Ky
end
section
namespace Ky
open Go.RowKit Go.Lib Pg
attribute [local go_sem] Oper.semAt_some jS
end Ky
end
section
namespace Ky
open Go.RowKit Go.Lib Pg
attribute [local go_sem] Oper.semAt_some jS
end Ky
end
end Go.Proofs.YtliajmpchofiiaaGreat
