import Derived.Test.YthfepflplbahkaaGreatDoorJao
set_option maxRecDepth 100000
set_option maxHeartbeats 8000000
namespace Go.Proofs.YthfepflplbahkaaGreatDoor
section
namespace Bk
open Go.RowKit Go.Lib Pg Lim Gl Kv
attribute [local go_sem] Oper.semAt_some
set_option linter.unusedSimpArgs false
set_option linter.unusedVariables false
theorem uY {l:List Int} {err:Int} (b:bh l):0<=rdV 0 (cO 8 l) err/\rdV 0 (cO 8 l) err < 18446744073709551616:=by
 unfold rdV cO;split
 ·split
  ·exact⟨Int.le_refl _,by decide⟩
  ·rename_i a;split at a
   ·cases a;have:=bM (l:=l.take 8) (fun x hx=>b x (List.mem_of_mem_take hx));rw[List.length_take,Nat.min_eq_left (by assumption)] at this;exact this
   ·cases a
 ·exact⟨Int.le_refl _,by decide⟩
theorem SA.octv {w:World} {K D:Nat->Prop} {g n N:Nat} {E:aE} {W:List aE} (h:SA w K D g E W n N):∀ x∈E,Oct x.2:=by
 obtain⟨F,V,m,Q,d,T,i,hX,rfl,f⟩:=h.open;obtain⟨L,rfl,A,O,S,k,r⟩:=hX.map.ex;intro x hx;rw[dr] at hx;obtain⟨e,he,rfl⟩:=List.mem_map.1 hx;obtain⟨es,b,c⟩:=List.mem_flatten.1 he;obtain⟨p,a,rfl⟩:=List.mem_map.1 b;exact((A.b8 p a).1.dJ e c).v.oct
end Bk
end
section
namespace Kv
open Go.RowKit Go.Lib Pg
section
variable {w:World}{K D X:Nat->Prop}{F:Nat → Prop}{g m n N:Nat}{Q:List (List KV)}{jv pv:Value}{T:List Jr}{oj:Option Nat}{L:List Pg}{E:aE}{W:List aE}{p:List Int}
attribute [local go_sem] Oper.semAt_some
structure AE(Tp:TypeId->Prop)(X:Nat->Prop)(n0:Nat)(w:World)(g:Nat)(EL:List En)(v:Value):Prop where
 ex:∃ bs1 bs2 bw W1,v=.func (.func 169) #[] #[.pointer (some ⟨bs1,0,none⟩),.pointer (some ⟨bs2,0,none⟩)]/\Itr Tp 123 #[.pointer (some ⟨bw,0,none⟩)] EL.length (ArC EL) (fun V=>Chg X W1 V)/\RdC X W1 g bs1 bs2 bw w/\n0<=bs1/\n0<=bs2
 small:∀ e∈EL,e.kl.length<=1000000000/\e.vl.length<=1000000000
theorem xwmG{F V:Nat->Prop}(h:SX w K D F V g m Q jv T oj n N)(d:N<=100000000)(hx:∀ b,X b->b=g\/¬ K b)(c:∀ b,X b->∀ cs,¬ Blk w b cs 5)(a:∀ b,X b->b < w.heap.size):∃ L,Wm w X F D m L/\∀ f t,(wlk (ens L) f t).map En.kl2=Q.flatten.filter (mV f t) :=
 h.wm d (fun b hb hF=>(hx b hb).elim (fun e=>by subst e; exact h.own.p5 hF) (fun n=>n (h.own.map b hF))) c a
theorem rE{Tp : TypeId → Prop}{X:Nat → Prop}{n0:Nat}{w1 a:World}{D:Nat → Prop}{bw:Nat}{n:Int}{f t:List Int}(l : Blk w g [.pointer (some ⟨m, 0, none⟩), jv, .int .i64 n] 94)(j : Wm w X F D m L)(b : Below w.heap.size w w1)(d : Itr Tp 123 #[.pointer (some ⟨bw, 0, none⟩)] (wlk (ens L) f t).length (ArC (wlk (ens L) f t)) (fun V => Chg X w1 V))(h : Blk a w1.heap.size [.pointer (some ⟨g, 0, none⟩)] 37)(b2 : Blk a (w1.heap.size + 1) [.func (.func 123) #[] #[.pointer (some ⟨bw, 0, none⟩)]] 85)(c : Below w1.heap.size w1 a)(o : n0 ≤ w.heap.size) :
    AE Tp X n0 a g (wlk (ens L) f t) (.func (.func 169) #[] #[.pointer (some ⟨w1.heap.size, 0, none⟩), .pointer (some ⟨w1.heap.size + 1, 0, none⟩)]) :=
  ⟨⟨_, _, bw, w1, rfl, d, ⟨Chg.of c, h, b2, ⟨_, (l.keep b).keep c⟩⟩, Nat.le_trans o b.size, by have := b.size; omega⟩, fun e he => by
    obtain⟨es, i, k⟩:= uE he
    exact j.small es i e k⟩
theorem qw{Tp:TypeId->Prop}(h:SA w K D g E W n N)(hN:N<=100000000)(J:By w pv p)(s:p.length<=1000000)(u:∀ b,X b->b=g\/¬ K b)(C:∀ b,X b->∀ cs,¬ Blk w b cs 5)(t:∀ b,X b->b < w.heap.size)(hT:¬ Tp 166)(r:¬ Tp 196) :
  Calls Tryz.prog 73 #[.pointer (some ⟨g,0,none⟩),pv] w fun e w'=>∃ v EL,e=.returned v/\AE Tp X w.heap.size w' g EL v/\EL.map En.kl2=E.filter (fun x=>decide (p <+: x.1))/\Below w.heap.size w w':=by
 have l:=h.oct;have d:=aB (show (∀ b,X b->b=g\/¬ K b)/\(∀ b,X b->∀ cs,¬ Blk w b cs 5)/\(∀ b,X b->b < w.heap.size) from⟨u,C,t⟩);have z:=aB (show ¬ Tp 166/\¬ Tp 196 from⟨hT,r⟩);clear u C t hT r;obtain⟨F,V,m,Q,jv,T,oj,hX,rfl,O⟩:=h.open;obtain⟨H,I,rfl,-⟩:=id J.ex;have j:=lI J.drew (by omega);have hS:=hX.blk.drew;have HX:=aB hX;have HP:=aB J;have HO:=aB l;have f:=aB s
 have Y:Below w.heap.size w w.drew:=⟨rfl,rfl,rfl,Nat.le_refl _,fun _ _=>rfl⟩
 clear hX J h O l s;obtain⟨o,M⟩:∃ o,Hid (p.length=o):=⟨_,rfl⟩
 rw[M.out] at HP j ⊢;go_enter Tryz.func73,Tryz.ntmps73;go_wp2_with fail;refine bU (S:=fun w'=>Blk w' g [.pointer (some ⟨m,0,none⟩),jv,.int .i64 n] 94) (by kernel_rfl) hS ?_
 refine ai 0 (some 5) (.pointer (some ⟨g,0,none⟩)) (by kernel_rfl) (fun _ _=>by kernel_rfl) (fun _ _ _ h=>h) hS ?_
 refine ai 1 (some 6) (.pointer (some ⟨g,0,none⟩)) (by kernel_rfl) (fun _ _=>by kernel_rfl) (fun _ _ _ h=>h) hS ?_
 refine ai 2 (some 7) (.pointer (some ⟨g,0,none⟩)) (by kernel_rfl) (fun _ _=>by kernel_rfl) (fun _ _ _ h=>h) hS ?_
 refine ai 3 (some 8) (.pointer (some ⟨g,0,none⟩)) (by kernel_rfl) (fun _ _=>by kernel_rfl) (fun _ _ _ h=>h) hS ?_
 refine aP 4 (some 9) (.pointer (some ⟨m,0,none⟩)) 86 8 g 0 (by kernel_rfl) (by kernel_rfl) (by kernel_rfl) (fun w' h=>zJ (h.cell (i:=0) rfl)) (fun _ _ _ h=>h) hS ?_
 refine ai 5 (some 10) (.slice H o I) (by kernel_rfl) (fun _ _=>by kernel_rfl) (fun _ _ _ h=>h) hS ?_
 refine ai 6 (some 11) (.slice H o I) (by kernel_rfl) (fun _ _=>by kernel_rfl) (fun _ _ _ h=>h) hS ?_
 refine bP 7 (some 12) 119 #[.slice H o I] (by kernel_rfl) (by kernel_rfl) j ?_
 rintro Z w1 ⟨nv,rfl,O1,G⟩;refine⟨_,rfl,hS.keep G,?_⟩
 have c:=aj Y G;replace hS:=hS.keep G;have P:=HX.out.keep c;obtain⟨L,R,hw⟩:=xwmG P hN d.out.1 (fun b hb cs k=>d.out.2.1 b hb cs ⟨by rw[<- c.block b (d.out.2.2 b hb)]; exact k.blk⟩) (fun b hb=>Nat.lt_of_lt_of_le (d.out.2.2 b hb) c.size)
 have hnl:(nxt p).length<=p.length:=by
  rcases ep p with h1 | ⟨A,x,B,rfl,hx,O⟩
  ·rw[fh h1]; simp
  ·rw[gA hx O]; simp
 have tW:=mN (Tp:=Tp) R (HP.out.keep c) O1.by (by have:=f.out; omega) (by have:=f.out; omega) z.out.1 z.out.2
 refine bP 8 (some 13) 42 #[.pointer (some ⟨m,0,none⟩),.slice H o I,nv] (by kernel_rfl) (by kernel_rfl) tW ?_
 rintro Z w2 ⟨bw,rfl,y,U⟩;refine⟨_,rfl,hS.keep y,?_⟩;replace hS:=hS.keep y;refine bP 9 (some 14) 118 #[.pointer (some ⟨g,0,none⟩),.func (.func 123) #[] #[.pointer (some ⟨bw,0,none⟩)]] (by kernel_rfl) (by kernel_rfl) lZ ?_
 rintro Z w3 ⟨rfl,k1,k2,q⟩;refine⟨_,rfl,hS.keep q,?_⟩;replace hS:=hS.keep q;refine ai 10 (some 4) (.func (.func 169) #[] #[.pointer (some ⟨w2.heap.size,0,none⟩),.pointer (some ⟨w2.heap.size + 1,0,none⟩)]) (by kernel_rfl) (fun _ _=>by kernel_rfl) (fun _ _ _ h=>h) hS ?_
 refine bG (by kernel_rfl) ?_
 simp only[Act.put,List.setIfInBounds_toArray,List.set_cons_zero,List.set_cons_succ];have FI:=aB (rE P.blk R y U k1 k2 q c.size);have HW:=aB (hw p (nxt p));have BB:=aB (aj (aj c y) q);clear hS P R hw tW U k1 k2 q y G c O1 Y;go_wp2;go_ret;refine⟨_,_,rfl,FI.out,?_,BB.out⟩;rw[HW.out];exact List.filter_congr (fun x hx=>yE (HO.out x hx))
theorem SA.tick(h:SA w K D g E W n N):SA (tick g w n) K D g E W (n + 1) N:=by
 obtain⟨F,V,m,Q,jv,T,oj,hX,hE,hB⟩:=h.open;exact(hX.top (dQ g n w) (hX.blk.setCell (i:=2) _)).shut hE hB
theorem SA.cnt(h:SA w K D g E W n N):w.cell? ⟨g,2,none⟩=some (.int .i64 n)/\w.frozen? ⟨g,2,none⟩=false:=by
 obtain⟨F,V,m,Q,jv,T,oj,hX,hE,hB⟩:=h.open;exact⟨hX.blk.cell (i:=2) rfl,hX.blk.free 2⟩
theorem SA.kv(h:SA w K D g E W n N):∃ cs,Blk w g cs 94:=by
 obtain⟨F,V,m,Q,jv,T,oj,hX,hE,hB⟩:=h.open;exact⟨_,hX.blk⟩
end
end Kv
end
end Go.Proofs.YthfepflplbahkaaGreatDoor
