import Derived.Test.YtjejmkcjflhoiaaGreatDoorJao
set_option maxRecDepth 100000
set_option maxHeartbeats 8000000
namespace Go.Proofs.YtjejmkcjflhoiaaGreatDoor
section
namespace Bk
open Go.RowKit Go.Lib Pg Lim Gl Kv
attribute [local go_sem] Oper.semAt_some
set_option linter.unusedSimpArgs false
set_option linter.unusedVariables false
theorem wH {l:List Int} {err:Int} (b:bG l):0<=rdV 0 (di 8 l) err/\rdV 0 (di 8 l) err < 18446744073709551616:=by
 unfold rdV di;split
 ·split
  ·exact⟨Int.le_refl _,by decide⟩
  ·rename_i a;split at a
   ·cases a;have:=bV (l:=l.take 8) (fun x hx=>b x (List.mem_of_mem_take hx));rw[List.length_take,Nat.min_eq_left (by assumption)] at this;exact this
   ·cases a
 ·exact⟨Int.le_refl _,by decide⟩
theorem SA.octv {w:World} {K D:Nat->Prop} {g n N:Nat} {E:aI} {W:List aI} (h:SA w K D g E W n N):∀ x∈E,Oct x.2:=by
 obtain⟨F,V,m,Q,d,T,i,hX,rfl,f⟩:=h.open;obtain⟨L,rfl,A,O,S,k,r⟩:=hX.map.ex;intro x hx;rw[dI] at hx;obtain⟨e,he,rfl⟩:=List.mem_map.1 hx;obtain⟨es,b,a⟩:=List.mem_flatten.1 he;obtain⟨p,c,rfl⟩:=List.mem_map.1 b;exact((A.cI p c).1.dW e a).v.oct
end Bk
end
section
open Pg (ai aU bS bT)
namespace Kv
open Go.RowKit Go.Lib Pg
attribute [local go_sem] Oper.semAt_some
section
variable {w:World}{K D X:Nat->Prop}{F:Nat→Prop}{g m n N:Nat}{Q:List (List KV)}{jv pv:Value}{T:List Jr}{oj:Option Nat}{L:List Pg}{E:aI}{W:List aI}{p:List Int}
structure Cs(Tp:TypeId->Prop)(X:Nat->Prop)(n0:Nat)(w:World)(g:Nat)(EL:List En)(v:Value):Prop where
 ex:∃ bs1 bs2 bw W1,v=.func (.func 164) #[] #[.pointer (some ⟨bs1,0,none⟩),.pointer (some ⟨bs2,0,none⟩)]/\Itr Tp 114 #[.pointer (some ⟨bw,0,none⟩)] EL.length (ArC EL) (fun V=>Chg X W1 V)/\RdC X W1 g bs1 bs2 bw w/\n0<=bs1/\n0<=bs2
 small:∀ e∈EL,e.kl.length<=1000000000/\e.vl.length<=1000000000
theorem xwmG{F V:Nat->Prop}(h:SX w K D F V g m Q jv T oj n N)(c:N<=100000000)(hx:∀ b,X b->b=g\/¬ K b)(d:∀ b,X b->∀ cs,¬ Blk w b cs 5)(a:∀ b,X b->b < w.heap.size):∃ L,Wm w X F D m L/\∀ f t,(wlk (ens L) f t).map En.kl2=Q.flatten.filter (mM f t) :=
 h.wm c (fun b hb hF=>(hx b hb).elim (fun e=>by subst e;exact h.own.qF hF) (fun n=>n (h.own.map b hF))) d a
theorem sI{Tp:TypeId→Prop}{X:Nat→Prop}{n0:Nat}{w1 a:World}{D:Nat→Prop}{bw:Nat}{n:Int}{f t:List Int}(i:Blk w g [.pointer (some ⟨m,0,none⟩),jv,.int .i64 n] 85)(l:Wm w X F D m L)(b:Below w.heap.size w w1)(k:Itr Tp 114 #[.pointer (some ⟨bw,0,none⟩)] (wlk (ens L) f t).length (ArC (wlk (ens L) f t)) (fun V=>Chg X w1 V))(d:Blk a w1.heap.size [.pointer (some ⟨g,0,none⟩)] 37)(o:Blk a (w1.heap.size+1) [.func (.func 114) #[] #[.pointer (some ⟨bw,0,none⟩)]] 76)(c:Below w1.heap.size w1 a)(h0:n0≤w.heap.size) :
    Cs Tp X n0 a g (wlk (ens L) f t) (.func (.func 164) #[] #[.pointer (some ⟨w1.heap.size,0,none⟩),.pointer (some ⟨w1.heap.size+1,0,none⟩)]) :=
  ⟨⟨_, _, bw, w1, rfl, k, ⟨Chg.of c, d, o, ⟨_, (i.keep b).keep c⟩⟩, Nat.le_trans h0 b.size, by have := b.size; omega⟩, fun e he => by
    obtain⟨es,j,h⟩:= xa he
    exact l.small es j e h⟩
theorem tJ{Tp:TypeId->Prop}(h:SA w K D g E W n N)(hN:N<=100000000)(I:By w pv p)(u:p.length<=1000000)(q:∀ b,X b->b=g\/¬ K b)(s:∀ b,X b->∀ cs,¬ Blk w b cs 5)(r:∀ b,X b->b < w.heap.size)(Z:¬ Tp 172)(y:¬ Tp 185) :
  Calls Tryz.prog 64 #[.pointer (some ⟨g,0,none⟩),pv] w fun e w'=>∃ v EL,e=.returned v/\Cs Tp X w.heap.size w' g EL v/\EL.map En.kl2=E.filter (fun x=>decide (p <+: x.1))/\Below w.heap.size w w':=by
 have j:=h.oct;have d:=aD (show (∀ b,X b->b=g\/¬ K b)/\(∀ b,X b->∀ cs,¬ Blk w b cs 5)/\(∀ b,X b->b < w.heap.size) from⟨q,s,r⟩);have t:=aD (show ¬ Tp 172/\¬ Tp 185 from⟨Z,y⟩);clear q s r Z y;obtain⟨F,V,m,Q,jv,T,oj,hX,rfl,O⟩:=h.open;obtain⟨H,J,rfl,-⟩:=id I.ex;have f:=nL I.drew (by omega);have hS:=hX.blk.drew;have HX:=aD hX;have HP:=aD I;have HO:=aD j;have l:=aD u
 have U:Below w.heap.size w w.drew:=⟨rfl,rfl,rfl,Nat.le_refl _,fun _ _=>rfl⟩
 clear hX I h O j u;obtain⟨o,R⟩:∃ o,Hid (p.length=o):=⟨_,rfl⟩
 rw[R.out] at HP f ⊢;go_enter Tryz.func64,Tryz.ntmps64;go_wp2_with fail;refine bT (S:=fun w'=>Blk w' g [.pointer (some ⟨m,0,none⟩),jv,.int .i64 n] 85) (by kernel_rfl) hS ?_
 refine ai 0 (some 5) (.pointer (some ⟨g,0,none⟩)) (by kernel_rfl) (fun _ _=>by kernel_rfl) (fun _ _ _ h=>h) hS ?_
 refine ai 1 (some 6) (.pointer (some ⟨g,0,none⟩)) (by kernel_rfl) (fun _ _=>by kernel_rfl) (fun _ _ _ h=>h) hS ?_
 refine ai 2 (some 7) (.pointer (some ⟨g,0,none⟩)) (by kernel_rfl) (fun _ _=>by kernel_rfl) (fun _ _ _ h=>h) hS ?_
 refine ai 3 (some 8) (.pointer (some ⟨g,0,none⟩)) (by kernel_rfl) (fun _ _=>by kernel_rfl) (fun _ _ _ h=>h) hS ?_
 refine aU 4 (some 9) (.pointer (some ⟨m,0,none⟩)) 77 8 g 0 (by kernel_rfl) (by kernel_rfl) (by kernel_rfl) (fun w' h=>Bb (h.cell (i:=0) rfl)) (fun _ _ _ h=>h) hS ?_
 refine ai 5 (some 10) (.slice H o J) (by kernel_rfl) (fun _ _=>by kernel_rfl) (fun _ _ _ h=>h) hS ?_
 refine ai 6 (some 11) (.slice H o J) (by kernel_rfl) (fun _ _=>by kernel_rfl) (fun _ _ _ h=>h) hS ?_
 refine bS 7 (some 12) 110 #[.slice H o J] (by kernel_rfl) (by kernel_rfl) f ?_
 rintro e' w1 ⟨nv,rfl,O1,G⟩;refine⟨_,rfl,hS.keep G,?_⟩
 have c:=aB U G;replace hS:=hS.keep G;have M:=HX.out.keep c;obtain⟨L,P,hw⟩:=xwmG M hN d.out.1 (fun b hb cs k=>d.out.2.1 b hb cs ⟨by rw[<- c.block b (d.out.2.2 b hb)];exact k.blk⟩) (fun b hb=>Nat.lt_of_lt_of_le (d.out.2.2 b hb) c.size)
 have hnl:(nxt p).length<=p.length:=by
  rcases gQ p with h1 | ⟨A,x,B,rfl,hx,O⟩
  ·rw[gm h1];simp
  ·rw[kL hx O];simp
 have tW:=oD (Tp:=Tp) P (HP.out.keep c) O1.by (by have:=l.out;omega) (by have:=l.out;omega) t.out.1 t.out.2
 refine bS 8 (some 13) 33 #[.pointer (some ⟨m,0,none⟩),.slice H o J,nv] (by kernel_rfl) (by kernel_rfl) tW ?_
 rintro e' w2 ⟨bw,rfl,C,IT⟩;refine⟨_,rfl,hS.keep C,?_⟩;replace hS:=hS.keep C;refine bS 9 (some 14) 109 #[.pointer (some ⟨g,0,none⟩),.func (.func 114) #[] #[.pointer (some ⟨bw,0,none⟩)]] (by kernel_rfl) (by kernel_rfl) nP ?_
 rintro e' w3 ⟨rfl,k1,Y,z⟩;refine⟨_,rfl,hS.keep z,?_⟩;replace hS:=hS.keep z;refine ai 10 (some 4) (.func (.func 164) #[] #[.pointer (some ⟨w2.heap.size,0,none⟩),.pointer (some ⟨w2.heap.size+1,0,none⟩)]) (by kernel_rfl) (fun _ _=>by kernel_rfl) (fun _ _ _ h=>h) hS ?_
 refine bQ (by kernel_rfl) ?_
 simp only[Act.put,List.setIfInBounds_toArray,List.set_cons_zero,List.set_cons_succ];have FI:=aD (sI M.blk P C IT k1 Y z c.size);have HW:=aD (hw p (nxt p));have BB:=aD (aB (aB c C) z);clear hS M P hw tW IT k1 Y z C G c O1 U;go_wp2;go_ret;refine⟨_,_,rfl,FI.out,?_,BB.out⟩;rw[HW.out];exact List.filter_congr (fun x hx=>zL (HO.out x hx))
theorem SA.tick(h:SA w K D g E W n N):SA (tick g w n) K D g E W (n+1) N:=by
 obtain⟨F,V,m,Q,jv,T,oj,hX,hE,hB⟩:=h.open;exact(hX.top (eu g n w) (hX.blk.setCell (i:=2) _)).shut hE hB
theorem SA.cnt(h:SA w K D g E W n N):w.cell? ⟨g,2,none⟩=some (.int .i64 n)/\w.frozen? ⟨g,2,none⟩=false:=by
 obtain⟨F,V,m,Q,jv,T,oj,hX,hE,hB⟩:=h.open;exact⟨hX.blk.cell (i:=2) rfl,hX.blk.free 2⟩
theorem SA.kv(h:SA w K D g E W n N):∃ cs,Blk w g cs 85:=by
 obtain⟨F,V,m,Q,jv,T,oj,hX,hE,hB⟩:=h.open;exact⟨_,hX.blk⟩
end
end Kv
end
end Go.Proofs.YtjejmkcjflhoiaaGreatDoor
