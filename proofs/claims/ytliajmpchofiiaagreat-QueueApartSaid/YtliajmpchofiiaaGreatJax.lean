/- Several texts, joined: QuAp. -/
import Derived.Test.YtliajmpchofiiaaGreatJaw
set_option maxRecDepth 100000
set_option maxHeartbeats 8000000
namespace Go.Proofs.YtliajmpchofiiaaGreat
namespace Qu
open Go.RowKit Go.Lib Pg Lim Gl Kv Bk Pw
set_option linter.unusedVariables false
set_option linter.unusedSimpArgs false
theorem yq {cs:Array Value} (h:cs.size=1):∃ c,cs=#[c]:=by
 match cs,h with
 | ⟨[c]⟩,_=>exact⟨c,rfl⟩
section
variable {E:ay} {nx:Int} {A:List Qe}
section
variable {e:Qe}{k id y i:Int}
theorem qP(hp:A.Pairwise (fun x y=>x.id≠y.id))(he:e∈A):(bG A e.id).length + 1=A.length:=by
 induction A with
 | nil=>cases he
 | cons x A ih =>
  rw[List.pairwise_cons] at hp;rcases List.mem_cons.1 he with rfl | he
  ·have h1:bG (e :: A) e.id=A:=by
    unfold bG;rw[List.filter_cons_of_neg (by simp),List.filter_eq_self.2];intro y hy;have:=hp.1 y hy;simp;exact fun q=>this q.symm
   rw[h1,List.length_cons]
  ·have h1:bG (x :: A) e.id=x :: bG A e.id:=by
    unfold bG;rw[List.filter_cons_of_pos (by simp; exact hp.1 e he)]
   rw[h1,List.length_cons,List.length_cons,ih hp.2 he]
theorem Qs.kind(h:Qs E nx A)(hnx:nx<=18446744073709551616)(he:e∈A)(hk:k=12\/k=13):(Kv.look E (Ky.mk k e.id 0)).isSome=decide (e.k=k):=by
 by_cases c:e.k=k
 ·obtain⟨l,hl,_⟩:=h.uf e he;rw[c] at hl;rw[hl,decide_eq_true c];rfl
 ·rw[h.gT k e.id hk (h.uid hnx he) (fun f hf q=>c (by rw[<- q.2,h.one hf he q.1])),decide_eq_false c];rfl
theorem u9(hR:cC E)(hid:Uq id)(hi:Uq i)(hne:i≠id\/k=13)(hk:k=12\/k=13):Kv.look (gg E id y) (Ky.mk k i 0)=Kv.look E (Ky.mk k i 0):=by
 unfold gg;split
 ·rw[lkp hR (ok12 hid) (okr hk hi),if_neg (by omega)]
 ·rfl
theorem wc(hR:cC E)(hid:Uq id)(hi:Uq i)(hne:i≠id\/k=12)(hk:k=12\/k=13):Kv.look (kJ E id y) (Ky.mk k i 0)=Kv.look E (Ky.mk k i 0):=by
 unfold kJ;split
 ·rw[lkp hR (ok13 hid) (okr hk hi),if_neg (by omega)]
 ·rfl
theorem uU(h:Qs E nx A)(hnx:nx<=18446744073709551616)(hA:A.length<=100000)(he:e∈A)(hk:k=12\/k=13)(hi:Uq i)(hne:i≠e.id):Kv.look (bX E e.id e.k) (Ky.mk k i 0)=Kv.look E (Ky.mk k i 0):=by
 obtain⟨g1,g2,g3,g4,g5⟩:=h.dD e he;have hid:=h.uid hnx he;rw[(h.drop hnx hA he).1,(nz h hnx hA he).1];unfold kE;split
 ·rw[lkr (eb h.cF _) (gM g3 g4) (okr hk hi),if_neg (by omega),eE h.cF g1 hid g4 g5 (okr hk hi),if_neg (by omega),if_neg (by omega),if_neg (by omega)]
 ·rw[lkp (eb h.cF _) (gM g3 g4) (okr hk hi),if_neg (by omega),eE h.cF g1 hid g4 g5 (okr hk hi),if_neg (by omega),if_neg (by omega),if_neg (by omega)]
theorem Qs.A7(h:Qs E nx A)(hnx:nx<=18446744073709551616)(hA:A.length<=100000)(he:e∈A):Qs (bX E e.id e.k) nx (bG A e.id):=by
 rw[(h.drop hnx hA he).1];exact h.end hnx hA he
theorem Qs.gone(h:Qs E nx (bG A i))(hi:Uq i)(hk:k=12\/k=13):Kv.look E (Ky.mk k i 0)=none :=
 h.gT k i hk hi (fun f hf q=>(cp.1 hf).2 q.1)
end
end
section
variable {E:ay} {n0 nx:Int} {st:Nat->Sq}
theorem qg (k:Nat):bG (qes n0 st (k + 1)) (qe n0 (st k) k).id=qes n0 st k:=by
 rw[fT];unfold bG;rw[List.filter_append,List.filter_cons_of_neg (by simp),List.filter_nil,List.append_nil,List.filter_eq_self.2];intro x hx;obtain⟨j,hj,rfl⟩:=gx.1 hx;rw[pD,pD];simp;omega
end
section
variable {B g g2 n N n2 N2 x:Nat} {w w':World} {K K' K2:Nat->Prop} {E E2:ay} {W W2:List ay}
section
variable {cs:List Value}{z m c:Nat}{ao:Option Addr}{y:Int}
theorem copyQ(h:Sx B w K g E W n N)(hN:N<=100000000):Calls Tryz.prog 35 #[Gl.pg g] w fun e w'=>∃ g' K',e=.returned (Gl.pg g')/\Sx B w' K' g' E [] 0 N/\(∀ b,K' b->w.heap.size<=b)/\Below w.heap.size w w':=by
 refine(scopy h.sa hN).mono ?_
 rintro e w' ⟨g',K',rfl,S,hK,B⟩;exact⟨g',K',rfl,⟨S,Nat.le_trans h.lo B.size,fun b hb=>Nat.le_trans h.lo (hK b hb)⟩,hK,B⟩
theorem eW(c:Sx B w K2 g2 E2 W2 n2 N2)(s:Sx B w K g E W n N)(hC:Chg K w w')(dj:∀ b,K b->¬ K2 b):Sx B w' K2 g2 E2 W2 n2 N2 :=
 ⟨c.sa.chg hC dj (fun _ hb cs=>s.sa.noU hb cs),Nat.le_trans c.lo hC.size,c.kb⟩
theorem djQ(c:Sx B w K2 g2 E2 W2 n2 N2)(dj:∀ b,K b->¬ K2 b)(hK:∀ b,K' b->K b\/w.heap.size<=b):∀ b,K' b->¬ K2 b:=fun b hb h2=>(hK b hb).elim (fun h=>dj b h h2) (fun h=>by have:=c.sa.lt h2; omega)
theorem djS(dj:∀ b,K b->¬ K2 b):∀ b,K2 b->¬ K b:=fun b h2 h=>dj b h h2
theorem zX(c:Sx B w K g E W n N)(hx:w.heap.size<=x):¬ K x:=fun hk=>by have:=c.sa.lt hk; omega
theorem r9{t:TypeId}(h:Sx B w K g E W n N)(X:Blk w x cs t)(C:Chg (· = x) w w')(hk:¬ K x)(ht:t≠5):Sx B w' K g E W n N:=by
 refine⟨h.sa.chg C (fun b e hb=>hk ((show b=x from e)▸hb)) (fun b e cs' k => ?_),Nat.le_trans h.lo C.size,h.kb⟩
 have e':b=x:=e;subst e';exact ht (X.eq k).2
theorem nk_up(h:Nk w (fun b=>w.heap.size<=b) z ao m c y)(hB:Below w.heap.size w w')(hK:∀ b,K b->w.heap.size<=b):Nk w' K z ao m c y:=by
 have q:=h.keep hB;exact⟨q.lt,q.out.imp_right fun h1 h2=>h1 (hK _ h2),q.to⟩
theorem offQ(h:Nq w K z ao m c y)(u:m=0\/¬ K2 z)(hc:Chg K2 w w'):Nq w' K z ao m c y :=
 ⟨h.lt.imp_right fun h=>Nat.lt_of_lt_of_le h hc.size,h.out,fun w2 h2=>h.to w2 fun hn=>(h2 hn).trans (hc.same z (h.lt.resolve_left hn) (u.resolve_left hn))⟩
theorem uqQ(h:Nq w K z ao m c y)(u:m=0\/¬ K2 z)(hK:∀ b,K' b->K2 b\/w.heap.size<=b):m=0\/¬ K' z:=by
 rcases h.lt with h1 | h1
 ·exact .inl h1
 ·exact u.imp_right fun h2 h3=>(hK z h3).elim h2 fun h4=>by omega
end
end
section
variable {E:ay} {nx id k:Int} {A:List Qe} {e:Qe}
theorem Qs.ap1 (h:Qs E nx A) (hnx:nx<=18446744073709551616) (he:e∈A) (hi:e.id=id) (hk:e.k=k) {c:Int} (hc:c=12\/c=13):(Kv.look E (Ky.mk c id 0)).isSome=decide (k=c):=by
 subst hi hk;exact h.kind hnx he hc
theorem Qs.ap3 (h:Qs E nx A) (hnx:nx<=18446744073709551616) (hA:A.length<=100000) (he:e∈A) (hi:e.id=id) (hk:e.k=k):dJ E id k=true/\Qs (bX E id k) nx (bG A id)/\∀ c i:Int,c=12\/c=13->Uq i->i≠id->Kv.look (bX E id k) (Ky.mk c i 0)=Kv.look E (Ky.mk c i 0):=by
 subst hi hk;exact⟨(h.drop hnx hA he).2.2,h.A7 hnx hA he,fun c i hc hi hne=>uU h hnx hA he hc hi hne⟩
end
end Qu
end Go.Proofs.YtliajmpchofiiaaGreat
