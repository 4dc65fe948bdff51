import Derived.Test.YtjejmkcjflhoiaaGreatDoorJao
set_option maxRecDepth 100000
set_option maxHeartbeats 8000000
namespace Go.Proofs.YtjejmkcjflhoiaaGreatDoor
section
namespace Bk
open Go.RowKit Go.Lib Pg Lim Gl Kv
attribute [local go_sem] Oper.semAt_some
set_option linter.unusedSimpArgs false
set_option linter.unusedVariables false
theorem wB {l:List Int} {err:Int} (b:bE l):0<=rdV 0 (cZ 8 l) err/\rdV 0 (cZ 8 l) err < 18446744073709551616:=by
 unfold rdV cZ;split
 ·split
  ·exact⟨Int.le_refl _,by decide⟩
  ·rename_i a;split at a
   ·cases a;have:=bS (l:=l.take 8) (fun x hx=>b x (List.mem_of_mem_take hx));rw[List.length_take,Nat.min_eq_left (by assumption)] at this;exact this
   ·cases a
 ·exact⟨Int.le_refl _,by decide⟩
theorem SA.octv {w:World} {K D:Nat->Prop} {g n N:Nat} {E:aE} {W:List aE} (h:SA w K D g E W n N):∀ x∈E,Oct x.2:=by
 obtain⟨F,V,m,Q,d,T,f,hX,rfl,i⟩:=h.open;obtain⟨L,rfl,A,O,S,k,r⟩:=hX.map.ex;intro x hx;rw[dz] at hx;obtain⟨e,he,rfl⟩:=List.mem_map.1 hx;obtain⟨es,a,b⟩:=List.mem_flatten.1 he;obtain⟨p,c,rfl⟩:=List.mem_map.1 a;exact((A.cC p c).1.dP e b).v.oct
end Bk
end
section
open Pg (ay aQ bQ bR)
namespace Kv
open Go.RowKit Go.Lib Pg
attribute [local go_sem] Oper.semAt_some
section
variable {w:World}{K D X:Nat->Prop}{F:Nat→Prop}{g m n N:Nat}{Q:List (List KV)}{jv pv:Value}{T:List Jr}{oj:Option Nat}{L:List Pg}{E:aE}{W:List aE}{p:List Int}
structure yE(Tp:TypeId->Prop)(X:Nat->Prop)(n0:Nat)(w:World)(g:Nat)(EL:List En)(v:Value):Prop where
 ex:∃ bs1 bs2 bw W1,v=.func (.func 164) #[] #[.pointer (some ⟨bs1,0,none⟩),.pointer (some ⟨bs2,0,none⟩)]/\Itr Tp 114 #[.pointer (some ⟨bw,0,none⟩)] EL.length (ArC EL) (fun V=>Chg X W1 V)/\RdC X W1 g bs1 bs2 bw w/\n0<=bs1/\n0<=bs2
 small:∀ e∈EL,e.kl.length<=1000000000/\e.vl.length<=1000000000
theorem xwmG{F V:Nat->Prop}(h:SX w K D F V g m Q jv T oj n N)(c:N<=100000000)(hx:∀ b,X b->b=g\/¬ K b)(d:∀ b,X b->∀ cs,¬ Blk w b cs 5)(a:∀ b,X b->b < w.heap.size):∃ L,Wm w X F D m L/\∀ f t,(wlk (ens L) f t).map En.kl2=Q.flatten.filter (nT f t) :=
 h.wm c (fun b hb hF=>(hx b hb).elim (fun e=>by subst e;exact h.own.p5 hF) (fun n=>n (h.own.map b hF))) d a
theorem sL{Tp:TypeId→Prop}{X:Nat→Prop}{n0:Nat}{w1 a:World}{D:Nat→Prop}{bw:Nat}{n:Int}{f t:List Int}(o:Blk w g [.pointer (some ⟨m,0,none⟩),jv,.int .i64 n] 85)(k:Wm w X F D m L)(b:Below w.heap.size w w1)(h:Itr Tp 114 #[.pointer (some ⟨bw,0,none⟩)] (wlk (ens L) f t).length (ArC (wlk (ens L) f t)) (fun V=>Chg X w1 V))(i:Blk a w1.heap.size [.pointer (some ⟨g,0,none⟩)] 37)(p:Blk a (w1.heap.size+1) [.func (.func 114) #[] #[.pointer (some ⟨bw,0,none⟩)]] 76)(c:Below w1.heap.size w1 a)(j:n0≤w.heap.size) :
    yE Tp X n0 a g (wlk (ens L) f t) (.func (.func 164) #[] #[.pointer (some ⟨w1.heap.size,0,none⟩),.pointer (some ⟨w1.heap.size+1,0,none⟩)]) :=
  ⟨⟨_, _, bw, w1, rfl, h, ⟨Chg.of c, i, p, ⟨_, (o.keep b).keep c⟩⟩, Nat.le_trans j b.size, by have := b.size; omega⟩, fun e he => by
    obtain⟨es,d,l⟩:= wC he
    exact k.small es d e l⟩
theorem sd{Tp:TypeId->Prop}(h:SA w K D g E W n N)(hN:N<=100000000)(I:By w pv p)(r:p.length<=1000000)(t:∀ b,X b->b=g\/¬ K b)(z:∀ b,X b->∀ cs,¬ Blk w b cs 5)(u:∀ b,X b->b < w.heap.size)(hT:¬ Tp 172)(s:¬ Tp 185) :
  Calls Tryz.prog 64 #[.pointer (some ⟨g,0,none⟩),pv] w fun e w'=>∃ v EL,e=.returned v/\yE Tp X w.heap.size w' g EL v/\EL.map En.kl2=E.filter (fun x=>decide (p <+: x.1))/\Below w.heap.size w w':=by
 have l:=h.oct;have d:=aC (show (∀ b,X b->b=g\/¬ K b)/\(∀ b,X b->∀ cs,¬ Blk w b cs 5)/\(∀ b,X b->b < w.heap.size) from⟨t,z,u⟩);have q:=aC (show ¬ Tp 172/\¬ Tp 185 from⟨hT,s⟩);clear t z u hT s;obtain⟨F,V,m,Q,jv,T,oj,hX,rfl,R⟩:=h.open;obtain⟨H,J,rfl,-⟩:=id I.ex;have f:=mO I.drew (by omega);have hS:=hX.blk.drew;have HX:=aC hX;have HP:=aC I;have HO:=aC l;have j:=aC r
 have Z:Below w.heap.size w w.drew:=⟨rfl,rfl,rfl,Nat.le_refl _,fun _ _=>rfl⟩
 clear hX I h R l r;obtain⟨o,O⟩:∃ o,Hid (p.length=o):=⟨_,rfl⟩
 rw[O.out] at HP f ⊢;go_enter Tryz.func64,Tryz.ntmps64;go_wp2_with fail;refine bR (S:=fun w'=>Blk w' g [.pointer (some ⟨m,0,none⟩),jv,.int .i64 n] 85) (by kernel_rfl) hS ?_
 refine ay 0 (some 5) (.pointer (some ⟨g,0,none⟩)) (by kernel_rfl) (fun _ _=>by kernel_rfl) (fun _ _ _ h=>h) hS ?_
 refine ay 1 (some 6) (.pointer (some ⟨g,0,none⟩)) (by kernel_rfl) (fun _ _=>by kernel_rfl) (fun _ _ _ h=>h) hS ?_
 refine ay 2 (some 7) (.pointer (some ⟨g,0,none⟩)) (by kernel_rfl) (fun _ _=>by kernel_rfl) (fun _ _ _ h=>h) hS ?_
 refine ay 3 (some 8) (.pointer (some ⟨g,0,none⟩)) (by kernel_rfl) (fun _ _=>by kernel_rfl) (fun _ _ _ h=>h) hS ?_
 refine aQ 4 (some 9) (.pointer (some ⟨m,0,none⟩)) 77 8 g 0 (by kernel_rfl) (by kernel_rfl) (by kernel_rfl) (fun w' h=>Bh (h.cell (i:=0) rfl)) (fun _ _ _ h=>h) hS ?_
 refine ay 5 (some 10) (.slice H o J) (by kernel_rfl) (fun _ _=>by kernel_rfl) (fun _ _ _ h=>h) hS ?_
 refine ay 6 (some 11) (.slice H o J) (by kernel_rfl) (fun _ _=>by kernel_rfl) (fun _ _ _ h=>h) hS ?_
 refine bQ 7 (some 12) 110 #[.slice H o J] (by kernel_rfl) (by kernel_rfl) f ?_
 rintro e' w1 ⟨nv,rfl,Y,G⟩;refine⟨_,rfl,hS.keep G,?_⟩
 have c:=aA Z G;replace hS:=hS.keep G;have P:=HX.out.keep c;obtain⟨L,M,hw⟩:=xwmG P hN d.out.1 (fun b hb cs k=>d.out.2.1 b hb cs ⟨by rw[<- c.block b (d.out.2.2 b hb)];exact k.blk⟩) (fun b hb=>Nat.lt_of_lt_of_le (d.out.2.2 b hb) c.size)
 have hnl:(nxt p).length<=p.length:=by
  rcases gM p with h1 | ⟨A,x,B,rfl,hx,R⟩
  ·rw[gj h1];simp
  ·rw[kH hx R];simp
 have U:=mz (Tp:=Tp) M (HP.out.keep c) Y.by (by have:=j.out;omega) (by have:=j.out;omega) q.out.1 q.out.2
 refine bQ 8 (some 13) 33 #[.pointer (some ⟨m,0,none⟩),.slice H o J,nv] (by kernel_rfl) (by kernel_rfl) U ?_
 rintro e' w2 ⟨bw,rfl,C,IT⟩;refine⟨_,rfl,hS.keep C,?_⟩;replace hS:=hS.keep C;refine bQ 9 (some 14) 109 #[.pointer (some ⟨g,0,none⟩),.func (.func 114) #[] #[.pointer (some ⟨bw,0,none⟩)]] (by kernel_rfl) (by kernel_rfl) nE ?_
 rintro e' w3 ⟨rfl,k1,k2,y⟩;refine⟨_,rfl,hS.keep y,?_⟩;replace hS:=hS.keep y;refine ay 10 (some 4) (.func (.func 164) #[] #[.pointer (some ⟨w2.heap.size,0,none⟩),.pointer (some ⟨w2.heap.size+1,0,none⟩)]) (by kernel_rfl) (fun _ _=>by kernel_rfl) (fun _ _ _ h=>h) hS ?_
 refine bM (by kernel_rfl) ?_
 simp only[Act.put,List.setIfInBounds_toArray,List.set_cons_zero,List.set_cons_succ];have FI:=aC (sL P.blk M C IT k1 k2 y c.size);have HW:=aC (hw p (nxt p));have BB:=aC (aA (aA c C) y);clear hS P M hw U IT k1 k2 y C G c Y Z;go_wp2;go_ret;refine⟨_,_,rfl,FI.out,?_,BB.out⟩;rw[HW.out];exact List.filter_congr (fun x hx=>yZ (HO.out x hx))
theorem SA.tick(h:SA w K D g E W n N):SA (tick g w n) K D g E W (n+1) N:=by
 obtain⟨F,V,m,Q,jv,T,oj,hX,hE,hB⟩:=h.open;exact(hX.top (ef g n w) (hX.blk.setCell (i:=2) _)).shut hE hB
theorem SA.cnt(h:SA w K D g E W n N):w.cell? ⟨g,2,none⟩=some (.int .i64 n)/\w.frozen? ⟨g,2,none⟩=false:=by
 obtain⟨F,V,m,Q,jv,T,oj,hX,hE,hB⟩:=h.open;exact⟨hX.blk.cell (i:=2) rfl,hX.blk.free 2⟩
theorem SA.kv(h:SA w K D g E W n N):∃ cs,Blk w g cs 85:=by
 obtain⟨F,V,m,Q,jv,T,oj,hX,hE,hB⟩:=h.open;exact⟨_,hX.blk⟩
end
end Kv
end
end Go.Proofs.YtjejmkcjflhoiaaGreatDoor
