/- Several texts, joined: BkB, BkC. -/
import Derived.Test.YthfepflplbahkaaGreatDoorJao
set_option maxRecDepth 100000
set_option maxHeartbeats 8000000
namespace Go.Proofs.YthfepflplbahkaaGreatDoor
section
namespace Bk
open Go.RowKit Go.Lib Pg Lim Gl Kv
attribute [local go_sem] Oper.semAt_some
set_option linter.unusedSimpArgs false
set_option linter.unusedVariables false
theorem vx {l:List Int} {err:Int} (b:a7 l):0<=rdV 0 (cN 8 l) err/\rdV 0 (cN 8 l) err < 18446744073709551616:=by
 unfold rdV cN;split
 ·split
  ·exact⟨Int.le_refl _,by decide⟩
  ·rename_i a;split at a
   ·cases a;have:=bL (l:=l.take 8) (fun x hx=>b x (List.mem_of_mem_take hx));rw[List.length_take,Nat.min_eq_left (by assumption)] at this;exact this
   ·cases a
 ·exact⟨Int.le_refl _,by decide⟩
theorem SA.octv {w:World} {K D:Nat->Prop} {g n N:Nat} {E:aD} {W:List aD} (h:SA w K D g E W n N):∀ x∈E,Oct x.2:=by
 obtain⟨F,V,m,Q,f,T,i,a,rfl,j⟩:=h.open;obtain⟨L,rfl,A,O,S,k,r⟩:=a.map.ex;intro x hx;rw[dq] at hx;obtain⟨e,he,rfl⟩:=List.mem_map.1 hx;obtain⟨es,d,b⟩:=List.mem_flatten.1 he;obtain⟨p,c,rfl⟩:=List.mem_map.1 d;exact((A.bX p c).1.dI e b).v.oct
end Bk
end
section
namespace Kv
open Go.RowKit Go.Lib Pg
section
variable {w:World}{K D X:Nat->Prop}{F:Nat → Prop}{g m n N:Nat}{Q:List (List KV)}{jv pv:Value}{T:List Jr}{oj:Option Nat}{L:List Pg}{E:aD}{W:List aD}{p:List Int}
attribute [local go_sem] Oper.semAt_some
structure AF(Tp:TypeId->Prop)(X:Nat->Prop)(n0:Nat)(w:World)(g:Nat)(EL:List En)(v:Value):Prop where
 ex:∃ bs1 bs2 bw W1,v=.func (.func 169) #[] #[.pointer (some ⟨bs1,0,none⟩),.pointer (some ⟨bs2,0,none⟩)]/\Itr Tp 123 #[.pointer (some ⟨bw,0,none⟩)] EL.length (ArC EL) (fun V=>Chg X W1 V)/\RdC X W1 g bs1 bs2 bw w/\n0<=bs1/\n0<=bs2
 small:∀ e∈EL,e.kl.length<=1000000000/\e.vl.length<=1000000000
theorem xwmG{F V:Nat->Prop}(h:SX w K D F V g m Q jv T oj n N)(c:N<=100000000)(hx:∀ b,X b->b=g\/¬ K b)(d:∀ b,X b->∀ cs,¬ Blk w b cs 5)(a:∀ b,X b->b < w.heap.size):∃ L,Wm w X F D m L/\∀ f t,(wlk (ens L) f t).map En.kl2=Q.flatten.filter (l8 f t) :=
 h.wm c (fun b hb hF=>(hx b hb).elim (fun e=>by subst e; exact h.own.pZ hF) (fun n=>n (h.own.map b hF))) d a
theorem rX{Tp : TypeId → Prop}{X:Nat → Prop}{n0:Nat}{w1 c:World}{D:Nat → Prop}{bw:Nat}{n:Int}{f t:List Int}(l : Blk w g [.pointer (some ⟨m, 0, none⟩), jv, .int .i64 n] 94)(j : Wm w X F D m L)(d : Below w.heap.size w w1)(k : Itr Tp 123 #[.pointer (some ⟨bw, 0, none⟩)] (wlk (ens L) f t).length (ArC (wlk (ens L) f t)) (fun V => Chg X w1 V))(b1 : Blk c w1.heap.size [.pointer (some ⟨g, 0, none⟩)] 37)(b2 : Blk c (w1.heap.size + 1) [.func (.func 123) #[] #[.pointer (some ⟨bw, 0, none⟩)]] 85)(h : Below w1.heap.size w1 c)(i : n0 ≤ w.heap.size) :
    AF Tp X n0 c g (wlk (ens L) f t) (.func (.func 169) #[] #[.pointer (some ⟨w1.heap.size, 0, none⟩), .pointer (some ⟨w1.heap.size + 1, 0, none⟩)]) :=
  ⟨⟨_, _, bw, w1, rfl, k, ⟨Chg.of h, b1, b2, ⟨_, (l.keep d).keep h⟩⟩, Nat.le_trans i d.size, by have := d.size; omega⟩, fun e he => by
    obtain⟨es, a, b⟩:= uT he;exact j.small es a e b⟩
theorem ri{Tp:TypeId->Prop}(h:SA w K D g E W n N)(hN:N<=100000000)(hp:By w pv p)(ad:p.length<=1000000)(ab:∀ b,X b->b=g\/¬ K b)(ae:∀ b,X b->∀ cs,¬ Blk w b cs 5)(ac:∀ b,X b->b < w.heap.size)(hT:¬ Tp 166)(aa:¬ Tp 196) :
  Calls Tryz.prog 73 #[.pointer (some ⟨g,0,none⟩),pv] w fun e w'=>∃ v EL,e=.returned v/\AF Tp X w.heap.size w' g EL v/\EL.map En.kl2=E.filter (fun x=>decide (p <+: x.1))/\Below w.heap.size w w':=by
 have d:=h.oct;have c:=aB (show (∀ b,X b->b=g\/¬ K b)/\(∀ b,X b->∀ cs,¬ Blk w b cs 5)/\(∀ b,X b->b < w.heap.size) from⟨ab,ae,ac⟩);have o:=aB (show ¬ Tp 166/\¬ Tp 196 from⟨hT,aa⟩);clear ab ae ac hT aa;obtain⟨F,V,m,Q,Y,T,oj,y,rfl,z⟩:=h.open;obtain⟨s,t,rfl,-⟩:=id hp.ex;have f:=ni hp.drew (by omega);have hS:=y.blk.drew;have Z:=aB y;have I:=aB hp;have HO:=aB d;have j:=aB ad
 have J:Below w.heap.size w w.drew:=⟨rfl,rfl,rfl,Nat.le_refl _,fun _ _=>rfl⟩
 clear y hp h z d ad;obtain⟨l,C⟩:∃ l,Hid (p.length=l):=⟨_,rfl⟩
 rw[C.out] at I f ⊢;go_enter Tryz.func73,Tryz.ntmps73;go_wp2_with fail;refine bT (S:=fun w'=>Blk w' g [.pointer (some ⟨m,0,none⟩),Y,.int .i64 n] 94) (by kernel_rfl) hS ?_
 refine ai 0 (some 5) (.pointer (some ⟨g,0,none⟩)) (by kernel_rfl) (fun _ _=>by kernel_rfl) (fun _ _ _ h=>h) hS ?_
 refine ai 1 (some 6) (.pointer (some ⟨g,0,none⟩)) (by kernel_rfl) (fun _ _=>by kernel_rfl) (fun _ _ _ h=>h) hS ?_
 refine ai 2 (some 7) (.pointer (some ⟨g,0,none⟩)) (by kernel_rfl) (fun _ _=>by kernel_rfl) (fun _ _ _ h=>h) hS ?_
 refine ai 3 (some 8) (.pointer (some ⟨g,0,none⟩)) (by kernel_rfl) (fun _ _=>by kernel_rfl) (fun _ _ _ h=>h) hS ?_
 refine aO 4 (some 9) (.pointer (some ⟨m,0,none⟩)) 86 8 g 0 (by kernel_rfl) (by kernel_rfl) (by kernel_rfl) (fun w' h=>xo (h.cell (i:=0) rfl)) (fun _ _ _ h=>h) hS ?_
 refine ai 5 (some 10) (.slice s l t) (by kernel_rfl) (fun _ _=>by kernel_rfl) (fun _ _ _ h=>h) hS ?_
 refine ai 6 (some 11) (.slice s l t) (by kernel_rfl) (fun _ _=>by kernel_rfl) (fun _ _ _ h=>h) hS ?_
 refine bN 7 (some 12) 119 #[.slice s l t] (by kernel_rfl) (by kernel_rfl) f ?_
 rintro M w1 ⟨nv,rfl,O,u⟩;refine⟨_,rfl,hS.keep u,?_⟩
 have a:=aj J u;replace hS:=hS.keep u;have G:=Z.out.keep a;obtain⟨L,H,hw⟩:=xwmG G hN c.out.1 (fun b hb cs k=>c.out.2.1 b hb cs ⟨by rw[<- a.block b (c.out.2.2 b hb)]; exact k.blk⟩) (fun b hb=>Nat.lt_of_lt_of_le (c.out.2.2 b hb) a.size)
 have hnl:(nxt p).length<=p.length:=by
  rcases eh p with h1 | ⟨A,x,B,rfl,hx,z⟩
  ·rw[fg h1]; simp
  ·rw[gw hx z]; simp
 have P:=lV (Tp:=Tp) H (I.out.keep a) O.by (by have:=j.out; omega) (by have:=j.out; omega) o.out.1 o.out.2
 refine bN 8 (some 13) 42 #[.pointer (some ⟨m,0,none⟩),.slice s l t,nv] (by kernel_rfl) (by kernel_rfl) P ?_
 rintro M R ⟨bw,rfl,q,U⟩;refine⟨_,rfl,hS.keep q,?_⟩;replace hS:=hS.keep q;refine bN 9 (some 14) 118 #[.pointer (some ⟨g,0,none⟩),.func (.func 123) #[] #[.pointer (some ⟨bw,0,none⟩)]] (by kernel_rfl) (by kernel_rfl) l9 ?_
 rintro M w3 ⟨rfl,k1,k2,r⟩;refine⟨_,rfl,hS.keep r,?_⟩;replace hS:=hS.keep r;refine ai 10 (some 4) (.func (.func 169) #[] #[.pointer (some ⟨R.heap.size,0,none⟩),.pointer (some ⟨R.heap.size + 1,0,none⟩)]) (by kernel_rfl) (fun _ _=>by kernel_rfl) (fun _ _ _ h=>h) hS ?_
 refine bF (by kernel_rfl) ?_
 simp only[Act.put,List.setIfInBounds_toArray,List.set_cons_zero,List.set_cons_succ];have FI:=aB (rX G.blk H q U k1 k2 r a.size);have HW:=aB (hw p (nxt p));have BB:=aB (aj (aj a q) r);clear hS G H hw P U k1 k2 r q u a O J;go_wp2;go_ret;refine⟨_,_,rfl,FI.out,?_,BB.out⟩;rw[HW.out];exact List.filter_congr (fun x hx=>Ah (HO.out x hx))
theorem SA.tick(h:SA w K D g E W n N):SA (tick g w n) K D g E W (n + 1) N:=by
 obtain⟨F,V,m,Q,jv,T,oj,hX,hE,hB⟩:=h.open;exact(hX.top (dR g n w) (hX.blk.setCell (i:=2) _)).shut hE hB
theorem SA.cnt(h:SA w K D g E W n N):w.cell? ⟨g,2,none⟩=some (.int .i64 n)/\w.frozen? ⟨g,2,none⟩=false:=by
 obtain⟨F,V,m,Q,jv,T,oj,hX,hE,hB⟩:=h.open;exact⟨hX.blk.cell (i:=2) rfl,hX.blk.free 2⟩
theorem SA.kv(h:SA w K D g E W n N):∃ cs,Blk w g cs 94:=by
 obtain⟨F,V,m,Q,jv,T,oj,hX,hE,hB⟩:=h.open;exact⟨_,hX.blk⟩
end
end Kv
end
end Go.Proofs.YthfepflplbahkaaGreatDoor
