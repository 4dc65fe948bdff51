/- Several texts, joined: BkB, BkC. -/
import Derived.Test.YthfepflplbahkaaGreatDoorJap
set_option maxRecDepth 100000
set_option maxHeartbeats 8000000
namespace Go.Proofs.YthfepflplbahkaaGreatDoor
section
namespace Bk
open Go.RowKit Go.Lib Pg Lim Gl Kv
attribute [local go_sem] Oper.semAt_some
set_option linter.unusedSimpArgs false
set_option linter.unusedVariables false
theorem uk {l:List Int} {err:Int} (ho:bC l):0<=rdV 0 (cY 8 l) err/\rdV 0 (cY 8 l) err < 18446744073709551616:=by
 unfold rdV cY;split
 ·split
  ·exact⟨Int.le_refl _,by decide⟩
  ·rename_i hh;split at hh
   ·cases hh;have:=bQ (l:=l.take 8) (fun x hx=>ho x (List.mem_of_mem_take hx));rw[List.length_take,Nat.min_eq_left (by assumption)] at this;exact this
   ·cases hh
 ·exact⟨Int.le_refl _,by decide⟩
theorem SA.octv {w:World} {K D:Nat->Prop} {g n N:Nat} {E:aI} {W:List aI} (h:SA w K D g E W n N):∀ x∈E,Oct x.2:=by
 obtain⟨F,V,m,Q,jv,T,oj,hX,rfl,hB⟩:=h.open;obtain⟨L,rfl,A,O,S,k,r⟩:=hX.map.ex;intro x hx;rw[dz] at hx;obtain⟨e,he,rfl⟩:=List.mem_map.1 hx;obtain⟨es,h1,h2⟩:=List.mem_flatten.1 he;obtain⟨p,hp,rfl⟩:=List.mem_map.1 h1;exact((A.cC p hp).1.dQ e h2).v.oct
end Bk
end
section
namespace Kv
open Go.RowKit Go.Lib Pg
section
variable {w:World}{K D X:Nat->Prop}{F:Nat → Prop}{g m n N:Nat}{Q:List (List KV)}{jv pv:Value}{T:List Jr}{oj:Option Nat}{L:List Pg}{E:aI}{W:List aI}{p:List Int}
attribute [local go_sem] Oper.semAt_some
structure Ac(Tp:TypeId->Prop)(X:Nat->Prop)(n0:Nat)(w:World)(g:Nat)(EL:List En)(v:Value):Prop where
 ex:∃ bs1 bs2 bw W1,v=.func (.func 169) #[] #[.pointer (some ⟨bs1,0,none⟩),.pointer (some ⟨bs2,0,none⟩)]/\Itr Tp 123 #[.pointer (some ⟨bw,0,none⟩)] EL.length (ArC EL) (fun V=>Chg X W1 V)/\RdC X W1 g bs1 bs2 bw w/\n0<=bs1/\n0<=bs2
 small:∀ e∈EL,e.kl.length<=1000000000/\e.vl.length<=1000000000
theorem xwmG{F V:Nat->Prop}(h:SX w K D F V g m Q jv T oj n N)(hN:N<=100000000)(hx:∀ b,X b->b=g\/¬ K b)(hU:∀ b,X b->∀ cs,¬ Blk w b cs 5)(hl:∀ b,X b->b < w.heap.size):∃ L,Wm w X F D m L/\∀ f t,(wlk (ens L) f t).map En.kl2=Q.flatten.filter (mn f t) :=
 h.wm hN (fun b hb hF=>(hx b hb).elim (fun e=>by subst e; exact h.own.oR hF) (fun n=>n (h.own.map b hF))) hU hl
theorem qS{Tp : TypeId → Prop}{X:Nat → Prop}{n0:Nat}{w1 w2:World}{D:Nat → Prop}{bw:Nat}{n:Int}{f t:List Int}(hg : Blk w g [.pointer (some ⟨m, 0, none⟩), jv, .int .i64 n] 94)(Km : Wm w X F D m L)(B1 : Below w.heap.size w w1)(IT : Itr Tp 123 #[.pointer (some ⟨bw, 0, none⟩)] (wlk (ens L) f t).length (ArC (wlk (ens L) f t)) (fun V => Chg X w1 V))(b1 : Blk w2 w1.heap.size [.pointer (some ⟨g, 0, none⟩)] 37)(b2 : Blk w2 (w1.heap.size + 1) [.func (.func 123) #[] #[.pointer (some ⟨bw, 0, none⟩)]] 85)(B2 : Below w1.heap.size w1 w2)(h0 : n0 ≤ w.heap.size) :
    Ac Tp X n0 w2 g (wlk (ens L) f t) (.func (.func 169) #[] #[.pointer (some ⟨w1.heap.size, 0, none⟩), .pointer (some ⟨w1.heap.size + 1, 0, none⟩)]) :=
  ⟨⟨_, _, bw, w1, rfl, IT, ⟨Chg.of B2, b1, b2, ⟨_, (hg.keep B1).keep B2⟩⟩, Nat.le_trans h0 B1.size, by have := B1.size; omega⟩, fun e he => by
    obtain⟨es, h1, h2⟩:= uJ he;exact Km.small es h1 e h2⟩
theorem qN{Tp:TypeId->Prop}(h:SA w K D g E W n N)(hN:N<=100000000)(hp:By w pv p)(hpl:p.length<=1000000)(hX1:∀ b,X b->b=g\/¬ K b)(hXU:∀ b,X b->∀ cs,¬ Blk w b cs 5)(hXl:∀ b,X b->b < w.heap.size)(hT:¬ Tp 166)(hTe:¬ Tp 196) :
  Calls Tryz.prog 73 #[.pointer (some ⟨g,0,none⟩),pv] w fun e w'=>∃ v EL,e=.returned v/\Ac Tp X w.heap.size w' g EL v/\EL.map En.kl2=E.filter (fun x=>decide (p <+: x.1))/\Below w.heap.size w w':=by
 have hOct:=h.oct;have HXX:=aB (show (∀ b,X b->b=g\/¬ K b)/\(∀ b,X b->∀ cs,¬ Blk w b cs 5)/\(∀ b,X b->b < w.heap.size) from⟨hX1,hXU,hXl⟩);have HTT:=aB (show ¬ Tp 166/\¬ Tp 196 from⟨hT,hTe⟩);clear hX1 hXU hXl hT hTe;obtain⟨F,V,m,Q,jv,T,oj,hX,rfl,hB⟩:=h.open;obtain⟨pa,pc,rfl,-⟩:=id hp.ex;have hbel:=l9 hp.drew (by omega);have hS:=hX.blk.drew;have HX:=aB hX;have HP:=aB hp;have HO:=aB hOct;have hpl2:=aB hpl
 have bD:Below w.heap.size w w.drew:=⟨rfl,rfl,rfl,Nat.le_refl _,fun _ _=>rfl⟩
 clear hX hp h hB hOct hpl;obtain⟨pn,hpn⟩:∃ pn,Hid (p.length=pn):=⟨_,rfl⟩
 rw[hpn.out] at HP hbel ⊢;go_enter Tryz.func73,Tryz.ntmps73;go_wp2_with fail;refine bF (S:=fun w'=>Blk w' g [.pointer (some ⟨m,0,none⟩),jv,.int .i64 n] 94) (by kernel_rfl) hS ?_
 refine aj 0 (some 5) (.pointer (some ⟨g,0,none⟩)) (by kernel_rfl) (fun _ _=>by kernel_rfl) (fun _ _ _ h=>h) hS ?_
 refine aj 1 (some 6) (.pointer (some ⟨g,0,none⟩)) (by kernel_rfl) (fun _ _=>by kernel_rfl) (fun _ _ _ h=>h) hS ?_
 refine aj 2 (some 7) (.pointer (some ⟨g,0,none⟩)) (by kernel_rfl) (fun _ _=>by kernel_rfl) (fun _ _ _ h=>h) hS ?_
 refine aj 3 (some 8) (.pointer (some ⟨g,0,none⟩)) (by kernel_rfl) (fun _ _=>by kernel_rfl) (fun _ _ _ h=>h) hS ?_
 refine aM 4 (some 9) (.pointer (some ⟨m,0,none⟩)) 86 8 g 0 (by kernel_rfl) (by kernel_rfl) (by kernel_rfl) (fun w' h=>xB (h.cell (i:=0) rfl)) (fun _ _ _ h=>h) hS ?_
 refine aj 5 (some 10) (.slice pa pn pc) (by kernel_rfl) (fun _ _=>by kernel_rfl) (fun _ _ _ h=>h) hS ?_
 refine aj 6 (some 11) (.slice pa pn pc) (by kernel_rfl) (fun _ _=>by kernel_rfl) (fun _ _ _ h=>h) hS ?_
 refine aV 7 (some 12) 119 #[.slice pa pn pc] (by kernel_rfl) (by kernel_rfl) hbel ?_
 rintro e' w1 ⟨nv,rfl,O1,B1⟩;refine⟨_,rfl,hS.keep B1,?_⟩
 have B1':=ah bD B1;replace hS:=hS.keep B1;have X1:=HX.out.keep B1';obtain⟨L,Km,hw⟩:=xwmG X1 hN HXX.out.1 (fun b hb cs k=>HXX.out.2.1 b hb cs ⟨by rw[<- B1'.block b (HXX.out.2.2 b hb)]; exact k.blk⟩) (fun b hb=>Nat.lt_of_lt_of_le (HXX.out.2.2 b hb) B1'.size)
 have hnl:(nxt p).length<=p.length:=by
  rcases eC p with h1 | ⟨A,x,B,rfl,hx,hB⟩
  ·rw[fp h1]; simp
  ·rw[gw hx hB]; simp
 have tW:=mb (Tp:=Tp) Km (HP.out.keep B1') O1.by (by have:=hpl2.out; omega) (by have:=hpl2.out; omega) HTT.out.1 HTT.out.2
 refine aV 8 (some 13) 42 #[.pointer (some ⟨m,0,none⟩),.slice pa pn pc,nv] (by kernel_rfl) (by kernel_rfl) tW ?_
 rintro e' w2 ⟨bw,rfl,B2,IT⟩;refine⟨_,rfl,hS.keep B2,?_⟩;replace hS:=hS.keep B2;refine aV 9 (some 14) 118 #[.pointer (some ⟨g,0,none⟩),.func (.func 123) #[] #[.pointer (some ⟨bw,0,none⟩)]] (by kernel_rfl) (by kernel_rfl) l4 ?_
 rintro e' w3 ⟨rfl,k1,k2,B3⟩;refine⟨_,rfl,hS.keep B3,?_⟩;replace hS:=hS.keep B3;refine aj 10 (some 4) (.func (.func 169) #[] #[.pointer (some ⟨w2.heap.size,0,none⟩),.pointer (some ⟨w2.heap.size + 1,0,none⟩)]) (by kernel_rfl) (fun _ _=>by kernel_rfl) (fun _ _ _ h=>h) hS ?_
 refine bj (by kernel_rfl) ?_
 simp only[Act.put,List.setIfInBounds_toArray,List.set_cons_zero,List.set_cons_succ];have FI:=aB (qS X1.blk Km B2 IT k1 k2 B3 B1'.size);have HW:=aB (hw p (nxt p));have BB:=aB (ah (ah B1' B2) B3);clear hS X1 Km hw tW IT k1 k2 B3 B2 B1 B1' O1 bD;go_wp2;go_ret;refine⟨_,_,rfl,FI.out,?_,BB.out⟩;rw[HW.out];exact List.filter_congr (fun x hx=>ya (HO.out x hx))
theorem SA.tick(h:SA w K D g E W n N):SA (tick g w n) K D g E W (n + 1) N:=by
 obtain⟨F,V,m,Q,jv,T,oj,hX,hE,hB⟩:=h.open;exact(hX.top (dY g n w) (hX.blk.setCell (i:=2) _)).shut hE hB
theorem SA.cnt(h:SA w K D g E W n N):w.cell? ⟨g,2,none⟩=some (.int .i64 n)/\w.frozen? ⟨g,2,none⟩=false:=by
 obtain⟨F,V,m,Q,jv,T,oj,hX,hE,hB⟩:=h.open;exact⟨hX.blk.cell (i:=2) rfl,hX.blk.free 2⟩
theorem SA.kv(h:SA w K D g E W n N):∃ cs,Blk w g cs 94:=by
 obtain⟨F,V,m,Q,jv,T,oj,hX,hE,hB⟩:=h.open;exact⟨_,hX.blk⟩
end
end Kv
end
end Go.Proofs.YthfepflplbahkaaGreatDoor
