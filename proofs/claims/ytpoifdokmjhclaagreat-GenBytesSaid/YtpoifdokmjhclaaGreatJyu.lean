import Derived.Test.YtpoifdokmjhclaaGreatJyt
set_option maxRecDepth 100000
set_option maxHeartbeats 8000000
namespace Go.Proofs.YtpoifdokmjhclaaGreat
namespace Kv
open Go.RowKit Go.Lib Pg
attribute [local go_sem] Oper.semAt_some
section
variable {w:World}{K D X:Nat->Prop}{F:Nat→Prop}{g m n N:Nat}{Q:List (List KV)}{jv pv:Value}{T:List Jr}{oj:Option Nat}{L:List Pg}{E:aD}{W:List aD}{p:List Int}
structure G7(Tp:TypeId->Prop)(X:Nat->Prop)(n0:Nat)(w:World)(g:Nat)(EL:List En)(v:Value):Prop where
 ex:∃ bs1 bs2 bw W1,v=.func (.func 303) #[] #[.pointer (some ⟨bs1,0,none⟩),.pointer (some ⟨bs2,0,none⟩)]/\Itr Tp 347 #[.pointer (some ⟨bw,0,none⟩)] EL.length (ArC EL) (λV=>Chg X W1 V)/\RdC X W1 g bs1 bs2 bw w/\n0<=bs1/\n0<=bs2
 small:∀ e∈EL,e.kl.length<=1000000000/\e.vl.length<=1000000000
theorem xwmG{F V:Nat->Prop}(h:SX w K D F V g m Q jv T oj n N)(c:N<=100000000)(hx:∀ b,X b->b=g\/¬ K b)(d:∀ b,X b->∀ cs,¬ Blk w b cs 5)(a:∀ b,X b->b < w.heap.size):∃ L,Wm w X F D m L/\∀ f t,(wlk (ens L) f t).map En.kl2=Q.flatten.filter (Ab f t) :=
 h.wm c (λb hb hF=>(hx b hb).elim (λe=>by subst e;exact h.own.lp hF) (λn=>n (h.own.map b hF))) d a
theorem Cc{Tp:TypeId→Prop}{X:Nat→Prop}{n0:Nat}{w1 a:World}{D:Nat→Prop}{b:Nat}{n:Int}{f t:List Int}(i:Blk w g [.pointer (some ⟨m,0,none⟩),jv,.int .i64 n] 152)(l:Wm w X F D m L)(c:BW w w1)(k:Itr Tp 347 #[.pointer (some ⟨b,0,none⟩)] (wlk (ens L) f t).length (ArC (wlk (ens L) f t)) (λV=>Chg X w1 V))(b1:Blk a w1.heap.size [.pointer (some ⟨g,0,none⟩)] 46)(o:Blk a (w1.heap.size+1) [.func (.func 347) #[] #[.pointer (some ⟨b,0,none⟩)]] 291)(d:BW w1 a)(h0:n0≤w.heap.size) :
    G7 Tp X n0 a g (wlk (ens L) f t) (.func (.func 303) #[] #[.pointer (some ⟨w1.heap.size,0,none⟩),.pointer (some ⟨w1.heap.size+1,0,none⟩)]) :=
  ⟨⟨_, _, b, w1, rfl, k, ⟨Chg.of d, b1, o, ⟨_, (i.keep c).keep d⟩⟩, Nat.le_trans h0 c.size, by have := c.size; omega⟩, λe he => by
    obtain⟨es,j,h⟩:= xe he
    exact l.small es j e h⟩
theorem Dn{Tp:TypeId->Prop}(h:SA w K D g E W n N)(hN:N<=100000000)(hp:By w pv p)(u:p.length<=1000000)(q:∀ b,X b->b=g\/¬ K b)(s:∀ b,X b->∀ cs,¬ Blk w b cs 5)(r:∀ b,X b->b < w.heap.size)(U:¬ Tp 38)(y:¬ Tp 197) :
  Calls Tryz.prog 195 #[.pointer (some ⟨g,0,none⟩),pv] w λe w'=>∃ v EL,e=.returned v/\G7 Tp X w.heap.size w' g EL v/\EL.map En.kl2=E.filter (λx=>decide (p <+: x.1))/\BW w w':=by
 have j:=h.oct;have d:=aG (show (∀ b,X b->b=g\/¬ K b)/\(∀ b,X b->∀ cs,¬ Blk w b cs 5)/\(∀ b,X b->b < w.heap.size) from⟨q,s,r⟩);have t:=aG (show ¬ Tp 38/\¬ Tp 197 from⟨U,y⟩);clear q s r U y;obtain⟨F,V,m,Q,jv,T,oj,hX,rfl,M⟩:=h.open;obtain⟨H,I,rfl,-⟩:=id hp.ex;have f:=BS hp.drew (by omega);have hS:=hX.blk.drew;have HX:=aG hX;have HP:=aG hp;have HO:=aG j;have l:=aG u
 have R:BW w w.drew:=⟨rfl,rfl,rfl,Nat.le_refl _,λ_ _=>rfl⟩
 clear hX hp h M j u;obtain⟨o,P⟩:∃ o,Hid (p.length=o):=⟨_,rfl⟩
 rw[P.out] at HP f ⊢;go_enter Tryz.func195,Tryz.ntmps195;go_wp2_with fail;refine cZ (S:=λw'=>Blk w' g [.pointer (some ⟨m,0,none⟩),jv,.int .i64 n] 152) (by kernel_rfl) hS ?_
 refine aI 0 5 (.pointer (some ⟨g,0,none⟩)) hS ?_
 refine aI 1 6 (.pointer (some ⟨g,0,none⟩)) hS ?_
 refine aI 2 7 (.pointer (some ⟨g,0,none⟩)) hS ?_
 refine aI 3 8 (.pointer (some ⟨g,0,none⟩)) hS ?_
 refine aV 4 (some 9) (.pointer (some ⟨m,0,none⟩)) 144 8 g 0 (λw' h=>sN (h.cell (i:=0) rfl)) hS ?_
 refine aI 5 10 (.slice H o I) hS ?_
 refine aI 6 11 (.slice H o I) hS ?_
 refine da 7 (some 12) 245 #[.slice H o I] f ?_
 rintro Z w1 ⟨nv,rfl,O1,G⟩;refine⟨_,rfl,hS.keep G,?_⟩
 have c:=ae R G;replace hS:=hS.keep G;have J:=HX.out.keep c;obtain⟨L,O,hw⟩:=xwmG J hN d.out.1 (λb hb cs k=>d.out.2.1 b hb cs ⟨by rw[<- c.block b (d.out.2.2 b hb)];exact k.blk⟩) (λb hb=>Nat.lt_of_lt_of_le (d.out.2.2 b hb) c.size)
 have hnl:(nxt p).length<=p.length:=by
  rcases jM p with h1 | ⟨A,x,B,rfl,hx,M⟩
  ·rw[mn h1];simp
  rw[pN hx M];simp
 have Y:=DA (Tp:=Tp) O (HP.out.keep c) O1.by (by have:=l.out;omega) (by have:=l.out;omega) t.out.1 t.out.2
 refine da 8 (some 13) 244 #[.pointer (some ⟨m,0,none⟩),.slice H o I,nv] Y ?_
 rintro Z w2 ⟨bw,rfl,C,IT⟩;refine⟨_,rfl,hS.keep C,?_⟩;replace hS:=hS.keep C;refine da 9 (some 14) 243 #[.pointer (some ⟨g,0,none⟩),.func (.func 347) #[] #[.pointer (some ⟨bw,0,none⟩)]] uY ?_
 rintro Z w3 ⟨rfl,k1,k2,z⟩;refine⟨_,rfl,hS.keep z,?_⟩;replace hS:=hS.keep z;refine aI 10 4 (.func (.func 303) #[] #[.pointer (some ⟨w2.heap.size,0,none⟩),.pointer (some ⟨w2.heap.size+1,0,none⟩)]) hS ?_
 refine cn ?_
 simp only[Act.put,List.setIfInBounds_toArray,List.set_cons_zero,List.set_cons_succ];have FI:=aG (Cc J.blk O C IT k1 k2 z c.size);have HW:=aG (hw p (nxt p));have BB:=aG (ae (ae c C) z);clear hS J O hw Y IT k1 k2 z C G c O1 R;go_wp2;go_ret;refine⟨_,_,rfl,FI.out,?_,BB.out⟩;rw[HW.out];exact List.filter_congr (λx hx=>Ai (HO.out x hx))
theorem SA.tick(h:SA w K D g E W n N):SA (tick g w n) K D g E W (n+1) N:=by
 obtain⟨F,V,m,Q,jv,T,oj,hX,hE,hB⟩:=h.open;exact(hX.top (ee g n w) (hX.blk.setCell (i:=2) _)).shut hE hB
theorem SA.cnt(h:SA w K D g E W n N):w.cell? ⟨g,2,none⟩=some (.int .i64 n)/\w.frozen? ⟨g,2,none⟩=false:=by
 obtain⟨F,V,m,Q,jv,T,oj,hX,hE,hB⟩:=h.open;exact⟨hX.blk.cell (i:=2) rfl,hX.blk.free 2⟩
theorem SA.kv(h:SA w K D g E W n N):∃ cs,Blk w g cs 152:=by
 obtain⟨F,V,m,Q,jv,T,oj,hX,hE,hB⟩:=h.open;exact⟨_,hX.blk⟩
end
end Kv
end Go.Proofs.YtpoifdokmjhclaaGreat
