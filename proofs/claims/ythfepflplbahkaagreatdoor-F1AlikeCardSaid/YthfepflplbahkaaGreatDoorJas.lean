import Derived.Test.YthfepflplbahkaaGreatDoorJao
set_option maxRecDepth 100000
set_option maxHeartbeats 8000000
namespace Go.Proofs.YthfepflplbahkaaGreatDoor
section
namespace Bk
open Go.RowKit Go.Lib Pg Lim Gl Kv
attribute [local go_sem] Oper.semAt_some
set_option linter.unusedSimpArgs false
set_option linter.unusedVariables false
theorem vj {l:List Int} {err:Int} (b:bj l):0<=rdV 0 (cQ 8 l) err/\rdV 0 (cQ 8 l) err < 18446744073709551616:=by
 unfold rdV cQ;split
 ·split
  ·exact⟨Int.le_refl _,by decide⟩
  ·rename_i a;split at a
   ·cases a;have:=bM (l:=l.take 8) (fun x hx=>b x (List.mem_of_mem_take hx));rw[List.length_take,Nat.min_eq_left (by assumption)] at this;exact this
   ·cases a
 ·exact⟨Int.le_refl _,by decide⟩
theorem SA.octv {w:World} {K D:Nat->Prop} {g n N:Nat} {E:aD} {W:List aD} (h:SA w K D g E W n N):∀ x∈E,Oct x.2:=by
 obtain⟨F,V,m,Q,f,T,d,hX,rfl,i⟩:=h.open;obtain⟨L,rfl,A,O,S,k,r⟩:=hX.map.ex;intro x hx;rw[du] at hx;obtain⟨e,he,rfl⟩:=List.mem_map.1 hx;obtain⟨es,a,c⟩:=List.mem_flatten.1 he;obtain⟨p,b,rfl⟩:=List.mem_map.1 a;exact((A.cy p b).1.dM e c).v.oct
end Bk
end
section
namespace Kv
open Go.RowKit Go.Lib Pg
attribute [local go_sem] Oper.semAt_some
section
variable {w:World}{K D X:Nat->Prop}{F:Nat→Prop}{g m n N:Nat}{Q:List (List KV)}{jv pv:Value}{T:List Jr}{oj:Option Nat}{L:List Pg}{E:aD}{W:List aD}{p:List Int}
structure AJ(Tp:TypeId->Prop)(X:Nat->Prop)(n0:Nat)(w:World)(g:Nat)(EL:List En)(v:Value):Prop where
 ex:∃ bs1 bs2 bw W1,v=.func (.func 169) #[] #[.pointer (some ⟨bs1,0,none⟩),.pointer (some ⟨bs2,0,none⟩)]/\Itr Tp 123 #[.pointer (some ⟨bw,0,none⟩)] EL.length (ArC EL) (fun V=>Chg X W1 V)/\RdC X W1 g bs1 bs2 bw w/\n0<=bs1/\n0<=bs2
 small:∀ e∈EL,e.kl.length<=1000000000/\e.vl.length<=1000000000
theorem xwmG{F V:Nat->Prop}(h:SX w K D F V g m Q jv T oj n N)(d:N<=100000000)(hx:∀ b,X b->b=g\/¬ K b)(c:∀ b,X b->∀ cs,¬ Blk w b cs 5)(a:∀ b,X b->b < w.heap.size):∃ L,Wm w X F D m L/\∀ f t,(wlk (ens L) f t).map En.kl2=Q.flatten.filter (lX f t) :=
 h.wm d (fun b hb hF=>(hx b hb).elim (fun e=>by subst e;exact h.own.o7 hF) (fun n=>n (h.own.map b hF))) c a
theorem r8{Tp:TypeId→Prop}{X:Nat→Prop}{n0:Nat}{w1 a:World}{D:Nat→Prop}{bw:Nat}{n:Int}{f t:List Int}(h:Blk w g [.pointer (some ⟨m,0,none⟩),jv,.int .i64 n] 94)(k:Wm w X F D m L)(b:Below w.heap.size w w1)(j:Itr Tp 123 #[.pointer (some ⟨bw,0,none⟩)] (wlk (ens L) f t).length (ArC (wlk (ens L) f t)) (fun V=>Chg X w1 V))(b1:Blk a w1.heap.size [.pointer (some ⟨g,0,none⟩)] 37)(b2:Blk a (w1.heap.size+1) [.func (.func 123) #[] #[.pointer (some ⟨bw,0,none⟩)]] 85)(c:Below w1.heap.size w1 a)(l:n0≤w.heap.size) :
    AJ Tp X n0 a g (wlk (ens L) f t) (.func (.func 169) #[] #[.pointer (some ⟨w1.heap.size,0,none⟩),.pointer (some ⟨w1.heap.size+1,0,none⟩)]) :=
  ⟨⟨_, _, bw, w1, rfl, j, ⟨Chg.of c, b1, b2, ⟨_, (h.keep b).keep c⟩⟩, Nat.le_trans l b.size, by have := b.size; omega⟩, fun e he => by
    obtain⟨es,d,i⟩:= uH he
    exact k.small es d e i⟩
theorem rN{Tp:TypeId->Prop}(h:SA w K D g E W n N)(hN:N<=100000000)(G:By w pv p)(r:p.length<=1000000)(s:∀ b,X b->b=g\/¬ K b)(y:∀ b,X b->∀ cs,¬ Blk w b cs 5)(u:∀ b,X b->b < w.heap.size)(U:¬ Tp 166)(t:¬ Tp 196) :
  Calls Tryz.prog 73 #[.pointer (some ⟨g,0,none⟩),pv] w fun e w'=>∃ v EL,e=.returned v/\AJ Tp X w.heap.size w' g EL v/\EL.map En.kl2=E.filter (fun x=>decide (p <+: x.1))/\Below w.heap.size w w':=by
 have j:=h.oct;have d:=aB (show (∀ b,X b->b=g\/¬ K b)/\(∀ b,X b->∀ cs,¬ Blk w b cs 5)/\(∀ b,X b->b < w.heap.size) from⟨s,y,u⟩);have C:=aB (show ¬ Tp 166/\¬ Tp 196 from⟨U,t⟩);clear s y u U t;obtain⟨F,V,m,Q,jv,T,oj,hX,rfl,O⟩:=h.open;obtain⟨I,J,rfl,-⟩:=id G.ex;have l:=mT G.drew (by omega);have hS:=hX.blk.drew;have HX:=aB hX;have HP:=aB G;have HO:=aB j;have f:=aB r
 have bD:Below w.heap.size w w.drew:=⟨rfl,rfl,rfl,Nat.le_refl _,fun _ _=>rfl⟩
 clear hX G h O j r;obtain⟨o,M⟩:∃ o,Hid (p.length=o):=⟨_,rfl⟩
 rw[M.out] at HP l ⊢;go_enter Tryz.func73,Tryz.ntmps73;go_wp2_with fail;refine bW (S:=fun w'=>Blk w' g [.pointer (some ⟨m,0,none⟩),jv,.int .i64 n] 94) (by kernel_rfl) hS ?_
 refine ai 0 (some 5) (.pointer (some ⟨g,0,none⟩)) (by kernel_rfl) (fun _ _=>by kernel_rfl) (fun _ _ _ h=>h) hS ?_
 refine ai 1 (some 6) (.pointer (some ⟨g,0,none⟩)) (by kernel_rfl) (fun _ _=>by kernel_rfl) (fun _ _ _ h=>h) hS ?_
 refine ai 2 (some 7) (.pointer (some ⟨g,0,none⟩)) (by kernel_rfl) (fun _ _=>by kernel_rfl) (fun _ _ _ h=>h) hS ?_
 refine ai 3 (some 8) (.pointer (some ⟨g,0,none⟩)) (by kernel_rfl) (fun _ _=>by kernel_rfl) (fun _ _ _ h=>h) hS ?_
 refine aP 4 (some 9) (.pointer (some ⟨m,0,none⟩)) 86 8 g 0 (by kernel_rfl) (by kernel_rfl) (by kernel_rfl) (fun w' h=>yN (h.cell (i:=0) rfl)) (fun _ _ _ h=>h) hS ?_
 refine ai 5 (some 10) (.slice I o J) (by kernel_rfl) (fun _ _=>by kernel_rfl) (fun _ _ _ h=>h) hS ?_
 refine ai 6 (some 11) (.slice I o J) (by kernel_rfl) (fun _ _=>by kernel_rfl) (fun _ _ _ h=>h) hS ?_
 refine bN 7 (some 12) 119 #[.slice I o J] (by kernel_rfl) (by kernel_rfl) l ?_
 rintro e' w1 ⟨nv,rfl,Y,H⟩;refine⟨_,rfl,hS.keep H,?_⟩
 have c:=ax bD H;replace hS:=hS.keep H;have P:=HX.out.keep c;obtain⟨L,R,hw⟩:=xwmG P hN d.out.1 (fun b hb cs k=>d.out.2.1 b hb cs ⟨by rw[<- c.block b (d.out.2.2 b hb)];exact k.blk⟩) (fun b hb=>Nat.lt_of_lt_of_le (d.out.2.2 b hb) c.size)
 have hnl:(nxt p).length<=p.length:=by
  rcases ep p with h1 | ⟨A,x,B,rfl,hx,O⟩
  ·rw[fi h1];simp
  ·rw[gw hx O];simp
 have Z:=lZ (Tp:=Tp) R (HP.out.keep c) Y.by (by have:=f.out;omega) (by have:=f.out;omega) C.out.1 C.out.2
 refine bN 8 (some 13) 42 #[.pointer (some ⟨m,0,none⟩),.slice I o J,nv] (by kernel_rfl) (by kernel_rfl) Z ?_
 rintro e' w2 ⟨bw,rfl,q,IT⟩;refine⟨_,rfl,hS.keep q,?_⟩;replace hS:=hS.keep q;refine bN 9 (some 14) 118 #[.pointer (some ⟨g,0,none⟩),.func (.func 123) #[] #[.pointer (some ⟨bw,0,none⟩)]] (by kernel_rfl) (by kernel_rfl) mw ?_
 rintro e' w3 ⟨rfl,k1,k2,z⟩;refine⟨_,rfl,hS.keep z,?_⟩;replace hS:=hS.keep z;refine ai 10 (some 4) (.func (.func 169) #[] #[.pointer (some ⟨w2.heap.size,0,none⟩),.pointer (some ⟨w2.heap.size+1,0,none⟩)]) (by kernel_rfl) (fun _ _=>by kernel_rfl) (fun _ _ _ h=>h) hS ?_
 refine bH (by kernel_rfl) ?_
 simp only[Act.put,List.setIfInBounds_toArray,List.set_cons_zero,List.set_cons_succ];have FI:=aB (r8 P.blk R q IT k1 k2 z c.size);have HW:=aB (hw p (nxt p));have BB:=aB (ax (ax c q) z);clear hS P R hw Z IT k1 k2 z q H c Y bD;go_wp2;go_ret;refine⟨_,_,rfl,FI.out,?_,BB.out⟩;rw[HW.out];exact List.filter_congr (fun x hx=>Af (HO.out x hx))
theorem SA.tick(h:SA w K D g E W n N):SA (tick g w n) K D g E W (n+1) N:=by
 obtain⟨F,V,m,Q,jv,T,oj,hX,hE,hB⟩:=h.open;exact(hX.top (dW g n w) (hX.blk.setCell (i:=2) _)).shut hE hB
theorem SA.cnt(h:SA w K D g E W n N):w.cell? ⟨g,2,none⟩=some (.int .i64 n)/\w.frozen? ⟨g,2,none⟩=false:=by
 obtain⟨F,V,m,Q,jv,T,oj,hX,hE,hB⟩:=h.open;exact⟨hX.blk.cell (i:=2) rfl,hX.blk.free 2⟩
theorem SA.kv(h:SA w K D g E W n N):∃ cs,Blk w g cs 94:=by
 obtain⟨F,V,m,Q,jv,T,oj,hX,hE,hB⟩:=h.open;exact⟨_,hX.blk⟩
end
end Kv
end
end Go.Proofs.YthfepflplbahkaaGreatDoor
