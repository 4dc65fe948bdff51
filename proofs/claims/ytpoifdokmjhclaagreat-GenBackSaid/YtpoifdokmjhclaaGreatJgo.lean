import Derived.Test.YtpoifdokmjhclaaGreatJgn
set_option maxRecDepth 100000
set_option maxHeartbeats 8000000
namespace Go.Proofs.YtpoifdokmjhclaaGreat
open Pg (aD aQ cn bj bU)
namespace Kv
open Go.RowKit Go.Lib Pg
attribute [local go_sem] Oper.semAt_some
section
variable {w:World}{K D X:Nat->Prop}{F:Nat→Prop}{g m n N:Nat}{Q:List (List KV)}{jv pv:Value}{T:List Jr}{oj:Option Nat}{L:List Pg}{E:aA}{W:List aA}{p:List Int}
structure FD(Tp:TypeId->Prop)(X:Nat->Prop)(n0:Nat)(w:World)(g:Nat)(EL:List En)(v:Value):Prop where
 ex:∃ bs1 bs2 bw W1,v=.func (.func 303) #[] #[.pointer (some ⟨bs1,0,none⟩),.pointer (some ⟨bs2,0,none⟩)]/\Itr Tp 347 #[.pointer (some ⟨bw,0,none⟩)] EL.length (ArC EL) (fun V=>Chg X W1 V)/\RdC X W1 g bs1 bs2 bw w/\n0<=bs1/\n0<=bs2
 small:∀ e∈EL,e.kl.length<=1000000000/\e.vl.length<=1000000000
theorem xwmG{F V:Nat->Prop}(h:SX w K D F V g m Q jv T oj n N)(c:N<=100000000)(hx:∀ b,X b->b=g\/¬ K b)(d:∀ b,X b->∀ cs,¬ Blk w b cs 5)(a:∀ b,X b->b < w.heap.size):∃ L,Wm w X F D m L/\∀ f t,(wlk (ens L) f t).map En.kl2=Q.flatten.filter (yW f t) :=
 h.wm c (fun b hb hF=>(hx b hb).elim (fun e=>by subst e;exact h.own.kG hF) (fun n=>n (h.own.map b hF))) d a
theorem Bb{Tp:TypeId→Prop}{X:Nat→Prop}{n0:Nat}{w1 a:World}{D:Nat→Prop}{b:Nat}{n:Int}{f t:List Int}(j:Blk w g [.pointer (some ⟨m,0,none⟩),jv,.int .i64 n] 152)(o:Wm w X F D m L)(c:Below w.heap.size w w1)(l:Itr Tp 347 #[.pointer (some ⟨b,0,none⟩)] (wlk (ens L) f t).length (ArC (wlk (ens L) f t)) (fun V=>Chg X w1 V))(b1:Blk a w1.heap.size [.pointer (some ⟨g,0,none⟩)] 46)(p:Blk a (w1.heap.size+1) [.func (.func 347) #[] #[.pointer (some ⟨b,0,none⟩)]] 291)(d:Below w1.heap.size w1 a)(i:n0≤w.heap.size) :
    FD Tp X n0 a g (wlk (ens L) f t) (.func (.func 303) #[] #[.pointer (some ⟨w1.heap.size,0,none⟩),.pointer (some ⟨w1.heap.size+1,0,none⟩)]) :=
  ⟨⟨_, _, b, w1, rfl, l, ⟨Chg.of d, b1, p, ⟨_, (j.keep c).keep d⟩⟩, Nat.le_trans i c.size, by have := c.size; omega⟩, fun e he => by
    obtain⟨es,k,h⟩:= wy he
    exact o.small es k e h⟩
theorem sy{Tp:TypeId->Prop}(h:SA w K D g E W n N)(hN:N<=100000000)(hp:By w pv p)(u:p.length<=1000000)(q:∀ b,X b->b=g\/¬ K b)(s:∀ b,X b->∀ cs,¬ Blk w b cs 5)(r:∀ b,X b->b < w.heap.size)(U:¬ Tp 38)(y:¬ Tp 197) :
  Calls Tryz.prog 195 #[.pointer (some ⟨g,0,none⟩),pv] w fun e w'=>∃ v EL,e=.returned v/\FD Tp X w.heap.size w' g EL v/\EL.map En.kl2=E.filter (fun x=>decide (p <+: x.1))/\Below w.heap.size w w':=by
 have j:=h.oct;have d:=ax (show (∀ b,X b->b=g\/¬ K b)/\(∀ b,X b->∀ cs,¬ Blk w b cs 5)/\(∀ b,X b->b < w.heap.size) from⟨q,s,r⟩);have t:=ax (show ¬ Tp 38/\¬ Tp 197 from⟨U,y⟩);clear q s r U y;obtain⟨F,V,m,Q,jv,T,oj,hX,rfl,M⟩:=h.open;obtain⟨H,I,rfl,-⟩:=id hp.ex;have f:=AY hp.drew (by omega);have hS:=hX.blk.drew;have HX:=ax hX;have HP:=ax hp;have HO:=ax j;have l:=ax u
 have R:Below w.heap.size w w.drew:=⟨rfl,rfl,rfl,Nat.le_refl _,fun _ _=>rfl⟩
 clear hX hp h M j u;obtain⟨o,P⟩:∃ o,Hid (p.length=o):=⟨_,rfl⟩
 rw[P.out] at HP f ⊢;go_enter Tryz.func195,Tryz.ntmps195;go_wp2_with fail;refine bU (S:=fun w'=>Blk w' g [.pointer (some ⟨m,0,none⟩),jv,.int .i64 n] 152) (by kernel_rfl) hS ?_
 refine aD 0 5 (.pointer (some ⟨g,0,none⟩)) hS ?_
 refine aD 1 6 (.pointer (some ⟨g,0,none⟩)) hS ?_
 refine aD 2 7 (.pointer (some ⟨g,0,none⟩)) hS ?_
 refine aD 3 8 (.pointer (some ⟨g,0,none⟩)) hS ?_
 refine aQ 4 (some 9) (.pointer (some ⟨m,0,none⟩)) 144 8 g 0 (fun w' h=>rS (h.cell (i:=0) rfl)) hS ?_
 refine aD 5 10 (.slice H o I) hS ?_
 refine aD 6 11 (.slice H o I) hS ?_
 refine cn 7 (some 12) 245 #[.slice H o I] f ?_
 rintro Z w1 ⟨nv,rfl,O1,G⟩;refine⟨_,rfl,hS.keep G,?_⟩
 have c:=ae R G;replace hS:=hS.keep G;have J:=HX.out.keep c;obtain⟨L,O,hw⟩:=xwmG J hN d.out.1 (fun b hb cs k=>d.out.2.1 b hb cs ⟨by rw[<- c.block b (d.out.2.2 b hb)];exact k.blk⟩) (fun b hb=>Nat.lt_of_lt_of_le (d.out.2.2 b hb) c.size)
 have hnl:(nxt p).length<=p.length:=by
  rcases jz p with h1 | ⟨A,x,B,rfl,hx,M⟩
  ·rw[lP h1];simp
  ·rw[o5 hx M];simp
 have Y:=CA (Tp:=Tp) O (HP.out.keep c) O1.by (by have:=l.out;omega) (by have:=l.out;omega) t.out.1 t.out.2
 refine cn 8 (some 13) 244 #[.pointer (some ⟨m,0,none⟩),.slice H o I,nv] Y ?_
 rintro Z w2 ⟨bw,rfl,C,IT⟩;refine⟨_,rfl,hS.keep C,?_⟩;replace hS:=hS.keep C;refine cn 9 (some 14) 243 #[.pointer (some ⟨g,0,none⟩),.func (.func 347) #[] #[.pointer (some ⟨bw,0,none⟩)]] uo ?_
 rintro Z w3 ⟨rfl,k1,k2,z⟩;refine⟨_,rfl,hS.keep z,?_⟩;replace hS:=hS.keep z;refine aD 10 4 (.func (.func 303) #[] #[.pointer (some ⟨w2.heap.size,0,none⟩),.pointer (some ⟨w2.heap.size+1,0,none⟩)]) hS ?_
 refine bj ?_
 simp only[Act.put,List.setIfInBounds_toArray,List.set_cons_zero,List.set_cons_succ];have FI:=ax (Bb J.blk O C IT k1 k2 z c.size);have HW:=ax (hw p (nxt p));have BB:=ax (ae (ae c C) z);clear hS J O hw Y IT k1 k2 z C G c O1 R;go_wp2;go_ret;refine⟨_,_,rfl,FI.out,?_,BB.out⟩;rw[HW.out];exact List.filter_congr (fun x hx=>zf (HO.out x hx))
theorem SA.tick(h:SA w K D g E W n N):SA (tick g w n) K D g E W (n+1) N:=by
 obtain⟨F,V,m,Q,jv,T,oj,hX,hE,hB⟩:=h.open;exact(hX.top (dU g n w) (hX.blk.setCell (i:=2) _)).shut hE hB
theorem SA.cnt(h:SA w K D g E W n N):w.cell? ⟨g,2,none⟩=some (.int .i64 n)/\w.frozen? ⟨g,2,none⟩=false:=by
 obtain⟨F,V,m,Q,jv,T,oj,hX,hE,hB⟩:=h.open;exact⟨hX.blk.cell (i:=2) rfl,hX.blk.free 2⟩
theorem SA.kv(h:SA w K D g E W n N):∃ cs,Blk w g cs 152:=by
 obtain⟨F,V,m,Q,jv,T,oj,hX,hE,hB⟩:=h.open;exact⟨_,hX.blk⟩
end
end Kv
end Go.Proofs.YtpoifdokmjhclaaGreat
