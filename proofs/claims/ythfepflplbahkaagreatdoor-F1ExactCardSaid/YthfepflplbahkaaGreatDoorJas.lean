import Derived.Test.YthfepflplbahkaaGreatDoorJao
set_option maxRecDepth 100000
set_option maxHeartbeats 8000000
namespace Go.Proofs.YthfepflplbahkaaGreatDoor
section
namespace Bk
open Go.RowKit Go.Lib Pg Lim Gl Kv
attribute [local go_sem] Oper.semAt_some
set_option linter.unusedSimpArgs false
set_option linter.unusedVariables false
theorem uW {l:List Int} {err:Int} (b:bh l):0<=rdV 0 (cO 8 l) err/\rdV 0 (cO 8 l) err < 18446744073709551616:=by
 unfold rdV cO;split
 ·split
  ·exact⟨Int.le_refl _,by decide⟩
  ·rename_i a;split at a
   ·cases a;have:=bM (l:=l.take 8) (fun x hx=>b x (List.mem_of_mem_take hx));rw[List.length_take,Nat.min_eq_left (by assumption)] at this;exact this
   ·cases a
 ·exact⟨Int.le_refl _,by decide⟩
theorem SA.octv {w:World} {K D:Nat->Prop} {g n N:Nat} {E:aE} {W:List aE} (h:SA w K D g E W n N):∀ x∈E,Oct x.2:=by
 obtain⟨F,V,m,Q,f,T,d,hX,rfl,i⟩:=h.open;obtain⟨L,rfl,A,O,S,k,r⟩:=hX.map.ex;intro x hx;rw[dt] at hx;obtain⟨e,he,rfl⟩:=List.mem_map.1 hx;obtain⟨es,b,a⟩:=List.mem_flatten.1 he;obtain⟨p,c,rfl⟩:=List.mem_map.1 b;exact((A.b8 p c).1.dJ e a).v.oct
end Bk
end
section
namespace Kv
open Go.RowKit Go.Lib Pg
attribute [local go_sem] Oper.semAt_some
section
variable {w:World}{K D X:Nat->Prop}{F:Nat → Prop}{g m n N:Nat}{Q:List (List KV)}{jv pv:Value}{T:List Jr}{oj:Option Nat}{L:List Pg}{E:aE}{W:List aE}{p:List Int}
structure Af(Tp:TypeId->Prop)(X:Nat->Prop)(n0:Nat)(w:World)(g:Nat)(EL:List En)(v:Value):Prop where
 ex:∃ bs1 bs2 bw W1,v=.func (.func 169) #[] #[.pointer (some ⟨bs1,0,none⟩),.pointer (some ⟨bs2,0,none⟩)]/\Itr Tp 123 #[.pointer (some ⟨bw,0,none⟩)] EL.length (ArC EL) (fun V=>Chg X W1 V)/\RdC X W1 g bs1 bs2 bw w/\n0<=bs1/\n0<=bs2
 small:∀ e∈EL,e.kl.length<=1000000000/\e.vl.length<=1000000000
theorem xwmG{F V:Nat->Prop}(h:SX w K D F V g m Q jv T oj n N)(d:N<=100000000)(hx:∀ b,X b->b=g\/¬ K b)(c:∀ b,X b->∀ cs,¬ Blk w b cs 5)(a:∀ b,X b->b < w.heap.size):∃ L,Wm w X F D m L/\∀ f t,(wlk (ens L) f t).map En.kl2=Q.flatten.filter (mE f t) :=
 h.wm d (fun b hb hF=>(hx b hb).elim (fun e=>by subst e; exact h.own.pO hF) (fun n=>n (h.own.map b hF))) c a
theorem rr{Tp : TypeId → Prop}{X:Nat → Prop}{n0:Nat}{w1 a:World}{D:Nat → Prop}{bw:Nat}{n:Int}{f t:List Int}(j : Blk w g [.pointer (some ⟨m, 0, none⟩), jv, .int .i64 n] 94)(i : Wm w X F D m L)(b : Below w.heap.size w w1)(k : Itr Tp 123 #[.pointer (some ⟨bw, 0, none⟩)] (wlk (ens L) f t).length (ArC (wlk (ens L) f t)) (fun V => Chg X w1 V))(o : Blk a w1.heap.size [.pointer (some ⟨g, 0, none⟩)] 37)(b2 : Blk a (w1.heap.size + 1) [.func (.func 123) #[] #[.pointer (some ⟨bw, 0, none⟩)]] 85)(c : Below w1.heap.size w1 a)(l : n0 ≤ w.heap.size) :
    Af Tp X n0 a g (wlk (ens L) f t) (.func (.func 169) #[] #[.pointer (some ⟨w1.heap.size, 0, none⟩), .pointer (some ⟨w1.heap.size + 1, 0, none⟩)]) :=
  ⟨⟨_, _, bw, w1, rfl, k, ⟨Chg.of c, o, b2, ⟨_, (j.keep b).keep c⟩⟩, Nat.le_trans l b.size, by have := b.size; omega⟩, fun e he => by
    obtain⟨es, h, d⟩:= vy he
    exact i.small es h e d⟩
theorem qJ{Tp:TypeId->Prop}(h:SA w K D g E W n N)(hN:N<=100000000)(G:By w pv p)(t:p.length<=1000000)(s:∀ b,X b->b=g\/¬ K b)(C:∀ b,X b->∀ cs,¬ Blk w b cs 5)(z:∀ b,X b->b < w.heap.size)(Z:¬ Tp 166)(y:¬ Tp 196) :
  Calls Tryz.prog 73 #[.pointer (some ⟨g,0,none⟩),pv] w fun e w'=>∃ v EL,e=.returned v/\Af Tp X w.heap.size w' g EL v/\EL.map En.kl2=E.filter (fun x=>decide (p <+: x.1))/\Below w.heap.size w w':=by
 have l:=h.oct;have d:=aB (show (∀ b,X b->b=g\/¬ K b)/\(∀ b,X b->∀ cs,¬ Blk w b cs 5)/\(∀ b,X b->b < w.heap.size) from⟨s,C,z⟩);have q:=aB (show ¬ Tp 166/\¬ Tp 196 from⟨Z,y⟩);clear s C z Z y;obtain⟨F,V,m,Q,jv,T,oj,hX,rfl,R⟩:=h.open;obtain⟨I,H,rfl,-⟩:=id G.ex;have f:=mD G.drew (by omega);have hS:=hX.blk.drew;have HX:=aB hX;have U:=aB G;have HO:=aB l;have j:=aB t
 have bD:Below w.heap.size w w.drew:=⟨rfl,rfl,rfl,Nat.le_refl _,fun _ _=>rfl⟩
 clear hX G h R l t;obtain⟨o,M⟩:∃ o,Hid (p.length=o):=⟨_,rfl⟩
 rw[M.out] at U f ⊢;go_enter Tryz.func73,Tryz.ntmps73;go_wp2_with fail;refine bU (S:=fun w'=>Blk w' g [.pointer (some ⟨m,0,none⟩),jv,.int .i64 n] 94) (by kernel_rfl) hS ?_
 refine ai 0 (some 5) (.pointer (some ⟨g,0,none⟩)) (by kernel_rfl) (fun _ _=>by kernel_rfl) (fun _ _ _ h=>h) hS ?_
 refine ai 1 (some 6) (.pointer (some ⟨g,0,none⟩)) (by kernel_rfl) (fun _ _=>by kernel_rfl) (fun _ _ _ h=>h) hS ?_
 refine ai 2 (some 7) (.pointer (some ⟨g,0,none⟩)) (by kernel_rfl) (fun _ _=>by kernel_rfl) (fun _ _ _ h=>h) hS ?_
 refine ai 3 (some 8) (.pointer (some ⟨g,0,none⟩)) (by kernel_rfl) (fun _ _=>by kernel_rfl) (fun _ _ _ h=>h) hS ?_
 refine aP 4 (some 9) (.pointer (some ⟨m,0,none⟩)) 86 8 g 0 (by kernel_rfl) (by kernel_rfl) (by kernel_rfl) (fun w' h=>xi (h.cell (i:=0) rfl)) (fun _ _ _ h=>h) hS ?_
 refine ai 5 (some 10) (.slice I o H) (by kernel_rfl) (fun _ _=>by kernel_rfl) (fun _ _ _ h=>h) hS ?_
 refine ai 6 (some 11) (.slice I o H) (by kernel_rfl) (fun _ _=>by kernel_rfl) (fun _ _ _ h=>h) hS ?_
 refine bP 7 (some 12) 119 #[.slice I o H] (by kernel_rfl) (by kernel_rfl) f ?_
 rintro Y w1 ⟨nv,rfl,O1,J⟩;refine⟨_,rfl,hS.keep J,?_⟩
 have c:=aj bD J;replace hS:=hS.keep J;have O:=HX.out.keep c;obtain⟨L,P,hw⟩:=xwmG O hN d.out.1 (fun b hb cs k=>d.out.2.1 b hb cs ⟨by rw[<- c.block b (d.out.2.2 b hb)]; exact k.blk⟩) (fun b hb=>Nat.lt_of_lt_of_le (d.out.2.2 b hb) c.size)
 have hnl:(nxt p).length<=p.length:=by
  rcases et p with h1 | ⟨A,x,B,rfl,hx,R⟩
  ·rw[fj h1]; simp
  ·rw[gj hx R]; simp
 have tW:=mz (Tp:=Tp) P (U.out.keep c) O1.by (by have:=j.out; omega) (by have:=j.out; omega) q.out.1 q.out.2
 refine bP 8 (some 13) 42 #[.pointer (some ⟨m,0,none⟩),.slice I o H,nv] (by kernel_rfl) (by kernel_rfl) tW ?_
 rintro Y w2 ⟨bw,rfl,u,IT⟩;refine⟨_,rfl,hS.keep u,?_⟩;replace hS:=hS.keep u;refine bP 9 (some 14) 118 #[.pointer (some ⟨g,0,none⟩),.func (.func 123) #[] #[.pointer (some ⟨bw,0,none⟩)]] (by kernel_rfl) (by kernel_rfl) mr ?_
 rintro Y w3 ⟨rfl,k1,k2,r⟩;refine⟨_,rfl,hS.keep r,?_⟩;replace hS:=hS.keep r;refine ai 10 (some 4) (.func (.func 169) #[] #[.pointer (some ⟨w2.heap.size,0,none⟩),.pointer (some ⟨w2.heap.size + 1,0,none⟩)]) (by kernel_rfl) (fun _ _=>by kernel_rfl) (fun _ _ _ h=>h) hS ?_
 refine bH (by kernel_rfl) ?_
 simp only[Act.put,List.setIfInBounds_toArray,List.set_cons_zero,List.set_cons_succ];have FI:=aB (rr O.blk P u IT k1 k2 r c.size);have HW:=aB (hw p (nxt p));have BB:=aB (aj (aj c u) r);clear hS O P hw tW IT k1 k2 r u J c O1 bD;go_wp2;go_ret;refine⟨_,_,rfl,FI.out,?_,BB.out⟩;rw[HW.out];exact List.filter_congr (fun x hx=>zy (HO.out x hx))
theorem SA.tick(h:SA w K D g E W n N):SA (tick g w n) K D g E W (n + 1) N:=by
 obtain⟨F,V,m,Q,jv,T,oj,hX,hE,hB⟩:=h.open;exact(hX.top (dS g n w) (hX.blk.setCell (i:=2) _)).shut hE hB
theorem SA.cnt(h:SA w K D g E W n N):w.cell? ⟨g,2,none⟩=some (.int .i64 n)/\w.frozen? ⟨g,2,none⟩=false:=by
 obtain⟨F,V,m,Q,jv,T,oj,hX,hE,hB⟩:=h.open;exact⟨hX.blk.cell (i:=2) rfl,hX.blk.free 2⟩
theorem SA.kv(h:SA w K D g E W n N):∃ cs,Blk w g cs 94:=by
 obtain⟨F,V,m,Q,jv,T,oj,hX,hE,hB⟩:=h.open;exact⟨_,hX.blk⟩
end
end Kv
end
end Go.Proofs.YthfepflplbahkaaGreatDoor
