/- Several texts, joined: LgO, LgH. -/
import Derived.Test.YtlbndpkdkdgggaaGreatDoorJpb
set_option maxRecDepth 100000
set_option maxHeartbeats 8000000
namespace Go.Proofs.YtlbndpkdkdgggaaGreatDoor
section
namespace Lg
open Go.RowKit Go.Lib Lim Pg Gl
theorem K8:Kd Tryz.prog 28 82 8 128 (.agg #[.int .u64 0,.int .u64 0,.slice none 0 0,.slice none 0 0,.slice none 0 0,.slice none 0 0,.int .i64 0,.int .i64 0]):=⟨by kernel_rfl,by kernel_rfl,rfl,by simp [Value.cells,Value.oneCell'],by decide⟩
theorem app_zero {T E:TypeId} {k bytes:Nat} {z:Value} (H:Kd Tryz.prog T E k bytes z) (ty:TypeId) (w:World) (ao:Option Addr) (c:Nat):(Builtin.append_ #[T,T] ty #[.slice none 0 0,.slice ao 0 c]).run Tryz.prog w=.ok (.slice none 0 0) w:=by
 obtain ⟨i,hi,hz,hs,hb⟩:=info_parts H.inf
 have:(Builtin.firstCells i.size 0 (.slice ao 0 c)).run Tryz.prog w=.ok #[] w:=by
  cases ao with
  | none=>rfl
  | some a=>exact run_firstCells_some w i.size 0 a 0 c [] (by simp) (fun j v hj=>by simp at hj)
 simp [Builtin.append_,run_underlying H.und,sizeOf,typeInfo,hi,Builtin.lenOf,this]
theorem zrs_at (m j:Nat) (h:j < m * 8):(zrs m)[j]? = z8[j % 8]? := by
 induction m generalizing j with
 | zero=>omega
 | succ m ih =>
  simp only [zrs]
  rcases Nat.lt_or_ge j 8 with k | k
  ·rw [List.getElem?_append_left (by simpa using k),Nat.mod_eq_of_lt k]
  ·rw [List.getElem?_append_right (by simpa using k)]
   have:=ih (j - 8) (by omega)
   rw [show (z8:List Value).length=8 from rfl,this,show (j - 8) % 8=j % 8 by omega]
theorem zc_zrs (m:Nat):(Builtin.zeroCells (Value.agg z8.toArray).cells m).toList=zrs m:=by
 have hs:(Builtin.zeroCells (Value.agg z8.toArray).cells m).size=m * 8:=size_zeroCells ..
 refine List.ext_getElem? fun j => ?_
 rcases Nat.lt_or_ge j (m * 8) with k | k
 ·rw [zrs_at m j k,Array.getElem?_toList,Array.getElem?_eq_getElem (by omega)]
  have h8:j % 8 < 8:=Nat.mod_lt _ (by decide)
  simp only [Builtin.zeroCells,Array.getElem_map,Array.getElem_range]
  rw [show (Value.agg z8.toArray).cells=z8.toArray from rfl,show z8.toArray.size=8 from rfl,List.getElem!_toArray,List.getElem!_eq_getElem?_getD,List.getElem?_eq_getElem (by simpa using h8)]
  rfl
 ·rw [List.getElem?_eq_none (by rw [Array.length_toList]; omega),List.getElem?_eq_none (by rw [zrs_len]; omega)]
theorem zrs_drop (m k:Nat):(zrs m).drop (k * 8)=zrs (m - k):=by
 refine List.ext_getElem? fun j => ?_
 rw [List.getElem?_drop]
 rcases Nat.lt_or_ge j ((m - k) * 8) with h | h
 ·rw [zrs_at _ _ h,zrs_at _ _ (by omega)]; congr 1; omega
 ·rw [List.getElem?_eq_none (by rw [zrs_len]; omega),List.getElem?_eq_none (by rw [zrs_len]; omega)]
theorem lp_room {w w':World} {b m:Nat} {xs ys:List Value} {t:TypeId} (X:Blk w b (xs ++ zrs m) t) (Y:Blk w' b (xs ++ ys) t) (C:Chg (· = b) w w'):Lp w w':=by
 intro q o x hx h0 o' ho y hy
 by_cases e:q=b
 ·subst e
  have h1:=X.blk
  have h2:=Y.blk
  simp only [World.cell?,h1] at hx hy
  simp only [World.cell?,h2]
  have hx':(xs ++ zrs m)[o]? = some (.int .u64 x):=by simpa using hx
  have hy':(xs ++ zrs m)[o']? = some (.int .u64 y):=by simpa using hy
  have hlt:o < xs.length:=by
   rcases Nat.lt_or_ge o xs.length with k | k
   ·exact k
   ·rw [List.getElem?_append_right k] at hx'
    exact absurd (zrs_zero hx') h0
  rw [List.getElem?_append_left (by omega)] at hy'
  have:(xs ++ ys)[o']? = some (.int .u64 y):=by rw [List.getElem?_append_left (by omega)]; exact hy'
  simpa using this
 ·rw [World.cell?_of_block (w:=w) (C.same q (cell_lt hy) e)]; exact hy
theorem app_any {w:World} {b n c zz m cc:Nat} {ao:Option Addr} {E E2 G:Nat->E8} {a:Addr} (YR:Rb w b ao n c zz E) (hs:∀ j u,(fl G m)[j]? = some u->w.cell? (a.add j)=some u) (hE:fl E2 (n + m)=fl E n ++ fl G m) (hm:n + m<=1000) :
  ∃ ao2 b2 c2 zz2 w',(Builtin.append_ #[28,28] 28 #[.slice ao n c,.slice (some a) m cc]).run Tryz.prog w=.ok (.slice ao2 (n + m) c2) w'/\Rb w' b2 ao2 (n + m) c2 zz2 E2/\(0 < c2->(0 < c/\b2=b)\/w.heap.size<=b2)/\Chg (fun q=>0 < c/\q=b) w w'/\Lp w w':=by
 have hc:=YR.hc
 obtain ⟨i,hi,hz,hsz,hb⟩:=info_parts K8.inf
 have hgl:=fl_len G m
 have fin:∀ {w':World} {b2 c2 zz2:Nat},Lp w w'->c2=n + m + zz2->Blk w' b2 (fl E2 (n + m) ++ zrs zz2) 82->0 < c2->Rb w' b2 (some ⟨b2,0,none⟩) (n + m) c2 zz2 E2:=fun _ h1 h2 h3=>⟨h1,fun h=>absurd h (by omega),fun _=>rfl,fun _=>h2⟩
 rcases Nat.eq_zero_or_pos c with h0 | h0
 ·obtain rfl:n=0:=by omega
  obtain rfl:=YR.nil h0
  subst h0
  rcases Nat.eq_zero_or_pos m with m0 | m0
  ·subst m0
   exact ⟨none,0,0,0,w,app_zero K8 _ w _ _,⟨rfl,fun _=>rfl,fun h=>absurd h (by decide),fun h=>absurd h (by decide)⟩,fun h=>absurd h (by decide),Chg.refl _ _,Lp.refl w⟩
  ·have hr2:=run_append_nil (P:=Tryz.prog) w 28 28 82 i _ K8.und hi hz a m cc (fl G m) (by rw [hgl,hsz]) hs m0 (by omega) (by rw [hb]; omega)
   have hB:Below w.heap.size w (w.drew.alloc (.cells ((fl G m).toArray ++ Builtin.zeroCells (Value.agg z8.toArray).cells (grownCap w m 0 82 - m)) 82)):=(Below.refl _ w).trans ⟨rfl,rfl,rfl,by simp,fun q hq=>by
    have:=(below_alloc w.drew (.cells ((fl G m).toArray ++ Builtin.zeroCells (Value.agg z8.toArray).cells (grownCap w m 0 82 - m)) 82)).block q hq
    exact this⟩
   have hg:=grownCap_ge w m 0 82
   have hblk:=new_row w 82 (Value.agg z8.toArray).cells 8 m (grownCap w m 0 82) (fl G m) rfl hgl hg (grownCap_le_maxLen w _ _ _ (by simp only [maxLen]; omega))
   have hblk2:Blk (w.drew.alloc (.cells ((fl G m).toArray ++ Builtin.zeroCells (Value.agg z8.toArray).cells (grownCap w m 0 82 - m)) 82)) w.heap.size (fl G m ++ zrs (grownCap w m 0 82 - m)) 82:=⟨by
    have:=(blk_new w.drew (fl G m ++ (Builtin.zeroCells (Value.agg z8.toArray).cells (grownCap w m 0 82 - m)).toList) 82).blk
    rw [show (fl G m ++ (Builtin.zeroCells (Value.agg z8.toArray).cells (grownCap w m 0 82 - m)).toList).toArray=(fl G m).toArray ++ Builtin.zeroCells (Value.agg z8.toArray).cells (grownCap w m 0 82 - m) by apply Array.ext'; simp] at this
    rw [<- zc_zrs,show (fl G m ++ (Builtin.zeroCells (Value.agg z8.toArray).cells (grownCap w m 0 82 - m)).toList).toArray=(fl G m).toArray ++ Builtin.zeroCells (Value.agg z8.toArray).cells (grownCap w m 0 82 - m) by apply Array.ext'; simp]
    exact this⟩
   have P:=Lp.of hB
   refine ⟨some ⟨w.heap.size,0,none⟩,w.heap.size,_,grownCap w m 0 82 - m,_,by rw [Nat.zero_add]; exact hr2,?_,fun _=>.inr (Nat.le_refl _),Chg.of hB,P⟩
   refine fin P (by omega) ?_ (by omega)
   rw [hE]; exact hblk2
 ·obtain rfl:=YR.ptr h0
  have hB:=YR.blk h0
  have hx:=fl_len E n
  by_cases hroom:n + m<=c
  ·have hfit:n * i.size + (fl G m).length<=(fl E n ++ zrs zz).toArray.size:=by
    rw [List.size_toArray,List.length_append,hx,zrs_len,hgl,hsz]; omega
   have h1:∀ u∈fl G m,u.oneCell'=true:=fun u hu=>by
    clear hfit hs hE fin hgl hroom hm
    induction m with
    | zero=>simp [fl] at hu
    | succ m ih =>
     simp only [fl,List.mem_append] at hu
     rcases hu with k | k
     ·exact ih k
     ·simp only [List.mem_cons,List.not_mem_nil,or_false] at k
      rcases k with rfl | rfl | rfl | rfl | rfl | rfl | rfl | rfl<;>rfl
   have hr2:=run_append_room (P:=Tryz.prog) w 28 28 82 i K8.und hi b n c (fl E n ++ zrs zz).toArray hB.blk a m cc (fl G m) (by rw [hgl,hsz]) hs h1 hroom hfit
   have e:(fl E n ++ zrs zz).toArray.toList.take (n * i.size) ++ fl G m ++ (fl E n ++ zrs zz).toArray.toList.drop (n * i.size + (fl G m).length)=fl E n ++ (fl G m ++ zrs (zz - m)):=by
    rw [show (fl E n ++ zrs zz).toArray.toList=fl E n ++ zrs zz from rfl,hsz,<- hx,List.take_left,<- List.drop_drop,List.drop_left,hgl,zrs_drop,List.append_assoc]
   rw [e] at hr2
   have hB2:=hB.row (fl E n ++ (fl G m ++ zrs (zz - m)))
   have C:Chg (· = b) w (w.setRow b (fl E n ++ (fl G m ++ zrs (zz - m))).toArray):=(Chg.refl (· = b) w).row (g:=b) (.inl rfl) _
   have P:=lp_room hB hB2 C
   refine ⟨some ⟨b,0,none⟩,b,c,zz - m,_,hr2,?_,fun _=>.inl ⟨h0,rfl⟩,(Chg.refl _ w).row (g:=b) (.inl ⟨h0,rfl⟩) _,P⟩
   refine fin P (by omega) ?_ h0
   rw [hE,List.append_assoc]; exact hB2
  ·have holds:∀ j u,(fl E n)[j]? = some u->w.cell? ((⟨b,0,none⟩:Addr).add j)=some u:=fun j u hj=>by
    rw [Addr.add_lit,Nat.zero_add]
    refine hB.cell ?_
    rw [List.getElem?_append_left (List.getElem?_eq_some_iff.1 hj).1]; exact hj
   have hr2:=run_append_grow (P:=Tryz.prog) w 28 28 82 i _ K8.und hi hz ⟨b,0,none⟩ n c (fl E n) (by rw [hx,hsz]) holds a m cc (fl G m) (by rw [hgl,hsz]) hs (by omega) (by omega) (growslice_fits (by omega) (by rw [hb]; omega))
   have hg:=grownCap_ge w (n + m) c 82
   have hblk2:Blk (w.drew.alloc (.cells ((fl E n ++ fl G m).toArray ++ Builtin.zeroCells (Value.agg z8.toArray).cells (grownCap w (n + m) c 82 - (n + m))) 82)) w.heap.size (fl E n ++ fl G m ++ zrs (grownCap w (n + m) c 82 - (n + m))) 82:=⟨by
    have:=(blk_new w.drew (fl E n ++ fl G m ++ (Builtin.zeroCells (Value.agg z8.toArray).cells (grownCap w (n + m) c 82 - (n + m))).toList) 82).blk
    rw [show (fl E n ++ fl G m ++ (Builtin.zeroCells (Value.agg z8.toArray).cells (grownCap w (n + m) c 82 - (n + m))).toList).toArray=(fl E n ++ fl G m).toArray ++ Builtin.zeroCells (Value.agg z8.toArray).cells (grownCap w (n + m) c 82 - (n + m)) by apply Array.ext'; simp] at this
    rw [<- zc_zrs,show (fl E n ++ fl G m ++ (Builtin.zeroCells (Value.agg z8.toArray).cells (grownCap w (n + m) c 82 - (n + m))).toList).toArray=(fl E n ++ fl G m).toArray ++ Builtin.zeroCells (Value.agg z8.toArray).cells (grownCap w (n + m) c 82 - (n + m)) by apply Array.ext'; simp]
    exact this⟩
   have hBw:Below w.heap.size w (w.drew.alloc (.cells ((fl E n ++ fl G m).toArray ++ Builtin.zeroCells (Value.agg z8.toArray).cells (grownCap w (n + m) c 82 - (n + m))) 82)):=(Below.refl _ w).trans ⟨rfl,rfl,rfl,by simp,fun q hq=>by
    have:=(below_alloc w.drew (.cells ((fl E n ++ fl G m).toArray ++ Builtin.zeroCells (Value.agg z8.toArray).cells (grownCap w (n + m) c 82 - (n + m))) 82)).block q hq
    exact this⟩
   have P:=Lp.of hBw
   refine ⟨some ⟨w.heap.size,0,none⟩,w.heap.size,grownCap w (n + m) c 82,grownCap w (n + m) c 82 - (n + m),_,?_,?_,fun _=>.inr (Nat.le_refl _),Chg.of hBw,P⟩
   ·rw [show (fl E n ++ fl G m).toArray=(fl E n).toArray ++ (fl G m).toArray by simp]
    exact hr2
   ·refine fin P ?_ ?_ ?_
    ·exact (Nat.add_sub_of_le hg).symm
    ·rw [hE]; exact hblk2
    ·have:n + m<=grownCap w (n + m) c 82:=hg
     omega
end Lg
end
section
namespace Lg
open Go.RowKit Go.Lib Lim Pg Gl
attribute [local go_sem] Oper.semAt_some
theorem run_apS {ρ:Operand->Value} {w w':World} {o:Oper} {u v r:Value} (hr:(Builtin.append_ #[28,28] 28 #[u,v]).run Tryz.prog w=.ok r w') (ho:∃ x y,o.op=.call { callee:=.builtin .append,args:=#[x,y],argTypes:=#[28,28] }/\o.type=28/\ρ x=u/\ρ y=v:=by exact ⟨_,_,rfl,rfl,by kernel_rfl,by kernel_rfl⟩):(execOp ρ o).run Tryz.prog w=.ok (.value r) w':=by
 obtain ⟨x,y,h,h0,h1,h2⟩:=ho
 unfold execOp
 simp only [h,h0,resolve,invoke,builtin,Sem.run_bind,Sem.run_pure,Result.andThen_ok,List.map_toArray,List.map_cons,List.map_nil,h1,h2,hr]
theorem chA {w W W':World} {g b c:Nat} (h:Chg (KF g b c) w W) (C:Chg (fun q=>0 < c/\q=b) W W'):Chg (KF g b c) w W':=h.trans C (fun _ _ k=>.inr k)
theorem fl_one (e:E8):fl (fun _=>e) 1=cel e:=rfl
theorem fl_up (E:Nat->E8) (n:Nat) (e:E8):fl (upE E n e) (n + 1)=fl E n ++ fl (fun _=>e) 1:=by
 rw [fl_one]
 simp only [fl]
 rw [show upE E n e n=e from if_pos rfl,fl_cong (E:=upE E n e) (F:=E) (n:=n) fun j hj=>if_neg (by omega)]
theorem sO_up (E:Nat->E8) (n:Nat) (e:E8):sO (upE E n e) (n + 1)=sO E n ++ [((e.v,e.d),stk e)]:=by
 have h:sO (upE E n e) n=sO E n:=by
  have:∀ m,m<=n->sO (upE E n e) m=sO E m:=fun m hm=>by
   induction m with
   | zero=>rfl
   | succ m ih=>simp only [sO,ih (by omega)]; rw [show upE E n e m=E m from if_neg (by omega)]
  exact this n (Nat.le_refl _)
 simp only [sO,h]
 rw [show upE E n e n=e from if_pos rfl]
theorem rHold_nn {w:World} {g b:Nat} {ao:Option Addr} {n c zz:Nat} {E:Nat->E8} {ax ay:Option Addr} {nx cx ny cy:Nat} {v d x yv t_:Int} (hv:0<=v/\v < 18446744073709551616) (hd:0<=d/\d < 18446744073709551616) (Nx:∀ w',Chg (KF g b c) w w'->NatA w' ax nx cx x) (lx:nx<=100) (Ny:∀ w',Chg (KF g b c) w w'->NatA w' ay ny cy yv) (ly:ny<=100) (ht:0<=t_/\t_ < 18446744073709551616) (X:Blk w g [.slice ao n c] 30) (YR:Ry w b ao n c zz E) (hn:n<=100) (hno:∀ j,j < n->¬ ((E j).v=v/\(E j).d=d)) (hz:yv≠0):Calls Tryz.prog 18 #[pg g,.int .u64 v,.int .u64 d,.agg #[.slice ax nx cx],.agg #[.slice ay ny cy],.int .u64 t_] w fun e w'=>∃ F b2 ao2 n2 c2 zz2 v0,e=.returned v0/\Blk w' g [.slice ao2 n2 c2] 30/\Ry w' b2 ao2 n2 c2 zz2 F/\sO F n2=sHold (sO E n) v d x yv t_/\(0 < c2->(0 < c/\b2=b)\/w.heap.size<=b2)/\Chg (KF g b c) w w'/\Lp w w':=by
 have BB:Chg (KF g b c) w w:=Chg.refl _ _
 have LP:=Lp.refl w
 refine gc_enter (n:=61) Tryz.func18 rfl ?_
 refine gc_seq (gc_reg ?_)
 have lX:=X.lt
 refine ta 9 [.slice ax nx cx] 35 (pg) ?_
 intro v1 g2 Xg2 hg2 B
 have hbg2:=Nat.le_trans BB.size hg2
 replace X:=X.keep B
 replace YR:=YR.keep B
 replace BB:=chB BB B
 replace LP:=LP.trans (Lp.of B)
 have lX:=X.lt
 have lXg2:=Xg2.lt
 refine ta 10 [.slice ay ny cy] 35 (pg) ?_
 intro v3 g4 Xg4 hg4 B
 have hbg4:=Nat.le_trans BB.size hg4
 replace X:=X.keep B
 replace YR:=YR.keep B
 replace BB:=chB BB B
 replace LP:=LP.trans (Lp.of B)
 replace Xg2:=Xg2.keep B
 refine gl_nil (ge_then (gc_seq (gc_reg (t 15 (pg g) (t 16 (iU v) (t 17 (iU d) (tc 18 59 #[pg g,iU v,iU d] (at_no hv hd X YR hn hno) ?_)))))))
 rintro _ v5 ⟨rfl,B⟩
 refine ⟨_,rfl,?_⟩
 replace X:=X.keep B
 replace YR:=YR.keep B
 replace BB:=chB BB B
 replace LP:=LP.trans (Lp.of B)
 replace Xg2:=Xg2.keep B
 replace Xg4:=Xg4.keep B
 refine t 12 (iI (-1)) (gl_nil (ge_then (gc_fr [(0,pg g),(1,iU v),(2,iU d),(5,iU t_),(9,pg g2),(10,pg g4),(12,iI (-1))] (gc_seq (gc_seq (gc_reg (t 19 (iI (-1)) (t 20 (bT) (gl_nil (ge_then (gc_yes (gc_seq (gc_reg (t 21 (pg g) (t 22 (pg g) (t 23 (pg g) (tl 24 (.slice ao n c) X 0 (t 25 (iI (n:Int)) (t 12 (iI (n:Int)) (gl_nil (ge_then ?_)))))))))))))))))))))
 replace Nx:=Nx
 replace Ny:=Ny
 replace X:=X.drew
 replace YR:=YR.drew
 replace BB:=chB BB (Below.refl _ _).drew
 replace LP:=LP.trans (Lp.of (Below.refl _ _).drew)
 replace Xg2:=Xg2.drew
 replace Xg4:=Xg4.drew
 refine gc_draw (fun w'=>Blk w' g [.slice ao n c] 30) (fun i=>decide (13<=i)) X ?_
 refine zp 0 26 (pg g) (zp 1 27 (pg g) (zp 2 28 (pg g) (zp 3 29 (pg g) (zl 4 30 (.slice ao n c) (fun _ h=>h) 0 (zp 5 31 (iU v) (zp 6 32 (iU d) (zc 7 33 60 #[] (nothing_any) ?_)))))))
 rintro _ v7 ⟨aq6,kq6,dq6,bq6,lq6,eq6,rfl,Qq6,B⟩
 replace X:=X.keep B
 replace YR:=YR.keep B
 replace BB:=chB BB B
 replace LP:=LP.trans (Lp.of B)
 replace Xg2:=Xg2.keep B
 replace Xg4:=Xg4.keep B
 refine ⟨_,rfl,X,?_⟩
 refine zp 8 34 (.agg #[iU v,iU d,zS,zS,.slice aq6 kq6 dq6,.slice bq6 lq6 eq6,iI 0,iI 0]) ?_ (hrun:=by intro _; kernel_rfl)
 have lX:=X.lt
 have lXg2:=Xg2.lt
 have lXg4:=Xg4.lt
 refine za 9 35 [iU v,iU d,zS,zS,.slice aq6 kq6 dq6,.slice bq6 lq6 eq6,iI 0,iI 0] 82 (sg 1) ?_
 intro v8 g9 Xg9 hg9 B
 have hbg9:=Nat.le_trans BB.size hg9
 replace X:=X.keep B
 replace YR:=YR.keep B
 replace BB:=chB BB B
 replace LP:=LP.trans (Lp.of B)
 replace Xg2:=Xg2.keep B
 replace Xg4:=Xg4.keep B
 replace Qq6:=Qq6.keep B
 refine ⟨X,?_⟩
 have BBs:=BB.size
 obtain ⟨eN,heN⟩:∃ eN:E8,⟨v,d,(none,0,0,none,0,0),(aq6,kq6,dq6,bq6,lq6,eq6),0,(0:Rat),0,0⟩=eN:=⟨_,rfl⟩
 obtain ⟨ao2,b2,c2,zz2,w5,hr5,YR2,hb2,C5,P5⟩:=app_any (G:=fun _=>eN) (m:=1) (cc:=1) (a:=⟨g9,0,none⟩) YR.rb (fun j u hj=>by rw [Addr.add_lit,Nat.zero_add]; refine Xg9.cell ?_; rw [fl_one,<- heN] at hj; exact hj) (fl_up E n eN) (by omega)
 have QE:∀ i,i < n->RQv w5 (E i).wv (E i).r/\RQv w5 (E i).ov (E i).o:=fun i hi=>⟨(YR.q i hi).1.lp P5,(YR.q i hi).2.lp P5⟩
 have rgE:=YR.rg
 replace X:=X.chg C5 (fun k=>(YR.ne X (by decide) k.1) k.2.symm)
 replace BB:=chA BB C5
 replace LP:=LP.trans P5
 replace Xg2:=Xg2.chg C5 (fun k=>(YR.ne Xg2 (by decide) k.1) k.2.symm)
 replace Xg4:=Xg4.chg C5 (fun k=>(YR.ne Xg4 (by decide) k.1) k.2.symm)
 replace Qq6:=Qq6.lp P5
 clear Xg9
 clear YR C5 P5
 have YR:=YR2
 clear YR2
 have hk_n:n < n + 1:=Nat.lt_succ_self n
 obtain ⟨E1,hE1⟩:∃ E1,upE E n eN=E1:=⟨_,rfl⟩
 rw [hE1] at YR
 have hb3:(0 < c/\b2=b)\/w.heap.size<=b2:=(hb2 (by have:=YR.hc; omega)).imp id (fun k=>Nat.le_trans BBs k)
 refine zw 10 36 (.slice ao2 (n + 1) c2) _ (run_apS hr5) X ?_
 refine zp 11 37 (pg g) (zp 12 38 (pg g) (gz_late (ys 13 X 0 (.slice ao2 (n + 1) c2) [.slice ao2 (n + 1) c2] [.slice ao2 (n + 1) c2] ?_)))
 intro v10 Y C
 replace YR:=YR.cg X C (by rfl) (by decide)
 replace BB:=chG BB C
 replace LP:=LP.trans (Lp.cg X C (by rfl))
 replace Xg2:=Xg2.chg C (show g2≠g by omega)
 replace Xg4:=Xg4.chg C (show g4≠g by omega)
 replace Qq6:=Qq6.cg X C (by rfl)
 replace QE:=fun (i:Nat) (hi:i < n)=>And.intro ((QE i hi).1.cg X C (by rfl)) ((QE i hi).2.cg X C (by rfl))
 have X:=Y
 refine gy_done (ge_then (gc_fr [(0,pg g),(5,iU t_),(9,pg g2),(10,pg g4),(12,iI (n:Int))] (gc_seq ?_)))
 replace Nx:=Nx
 replace Ny:=Ny
 replace X:=X.drew
 replace YR:=YR.drew
 replace BB:=chB BB (Below.refl _ _).drew
 replace LP:=LP.trans (Lp.of (Below.refl _ _).drew)
 replace Xg2:=Xg2.drew
 replace Xg4:=Xg4.drew
 replace Qq6:=Qq6.drew
 replace QE:=fun (i:Nat) (hi:i < n)=>And.intro (QE i hi).1.drew (QE i hi).2.drew
 refine gc_draw (fun w'=>Blk w' g2 [.slice ax nx cx] 35/\Blk w' g4 [.slice ay ny cy] 35) (fun _=>false) ⟨Xg2,Xg4⟩ ?_
 refine z 0 40 (pg g2) (zl 1 41 (.slice ax nx cx) (fun _ h=>h.1) 0 (z 2 42 (iU t_) (z 5 45 (pg g4) (zl 6 46 (.slice ay ny cy) (fun _ h=>h.2) 0 (gz_ready [3,11] ?_)))))
 refine ga_call 3 (some 43) 66 #[iU t_] (rOf (x:=t_) (ht).1 (ht).2) ?_ ?_
 ·rintro _ v12 ⟨an11,kn11,dn11,rfl,Nn11,ln11,B⟩
  replace X:=X.keep B
  replace YR:=YR.keep B
  replace BB:=chB BB B
  replace LP:=LP.trans (Lp.of B)
  replace Xg2:=Xg2.keep B
  replace Xg4:=Xg4.keep B
  replace Qq6:=Qq6.keep B
  replace QE:=fun (i:Nat) (hi:i < n)=>And.intro ((QE i hi).1.keep B) ((QE i hi).2.keep B)
  refine ⟨_,rfl,⟨Xg2,Xg4⟩,?_⟩
  refine gz_ready [4,11] ?_
  refine ga_call 4 (some 44) 65 #[.slice ax nx cx,.slice an11 kn11 dn11] (rMul (Nx _ BB) Nn11.a (by omega) (by omega)) ?_ ?_
  ·rintro _ v14 ⟨an13,kn13,dn13,rfl,Nn13,ln13,B⟩
   replace X:=X.keep B
   replace YR:=YR.keep B
   replace BB:=chB BB B
   replace LP:=LP.trans (Lp.of B)
   replace Xg2:=Xg2.keep B
   replace Xg4:=Xg4.keep B
   replace Qq6:=Qq6.keep B
   replace QE:=fun (i:Nat) (hi:i < n)=>And.intro ((QE i hi).1.keep B) ((QE i hi).2.keep B)
   replace Nn11:=Nn11.keep B
   refine ⟨_,rfl,⟨Xg2,Xg4⟩,?_⟩
   refine gz_ready [7,11] ?_
   refine ga_call 7 (some 47) 64 #[.slice an13 kn13 dn13,.slice ay ny cy] (tpOf (B:=500) Nn13.a (Ny _ BB) (by omega) (by omega) (by omega) (hz)) ?_ ?_
   ·rintro _ v16 ⟨aq15,kq15,dq15,bq15,lq15,eq15,rfl,Qq15,B⟩
    replace X:=X.keep B
    replace YR:=YR.keep B
    replace BB:=chB BB B
    replace LP:=LP.trans (Lp.of B)
    replace Xg2:=Xg2.keep B
    replace Xg4:=Xg4.keep B
    replace Qq6:=Qq6.keep B
    replace QE:=fun (i:Nat) (hi:i < n)=>And.intro ((QE i hi).1.keep B) ((QE i hi).2.keep B)
    replace Nn11:=Nn11.keep B
    replace Nn13:=Nn13.keep B
    refine ⟨_,rfl,⟨Xg2,Xg4⟩,?_⟩
    refine z 8 39 (.tuple #[.agg #[.slice aq15 kq15 dq15,.slice bq15 lq15 eq15],iI 0]) (z 9 48 (.agg #[.slice aq15 kq15 dq15,.slice bq15 lq15 eq15]) (z 10 49 (iI 0) ?_))
    have lX:=X.lt
    have lXg2:=Xg2.lt
    have lXg4:=Xg4.lt
    refine za 11 13 [zS,zS] 40 (pg) ?_
    intro v17 g18 Xg18 hg18 B
    have hbg18:=Nat.le_trans BB.size hg18
    replace X:=X.keep B
    replace YR:=YR.keep B
    replace BB:=chB BB B
    replace LP:=LP.trans (Lp.of B)
    replace Xg2:=Xg2.keep B
    replace Xg4:=Xg4.keep B
    replace Qq6:=Qq6.keep B
    replace QE:=fun (i:Nat) (hi:i < n)=>And.intro ((QE i hi).1.keep B) ((QE i hi).2.keep B)
    replace Nn11:=Nn11.keep B
    replace Nn13:=Nn13.keep B
    replace Qq15:=Qq15.keep B
    refine ⟨⟨Xg2,Xg4⟩,?_⟩
    refine zs 12 Xg18 0 (.agg #[.slice aq15 kq15 dq15,.slice bq15 lq15 eq15]) [.slice aq15 kq15 dq15,.slice bq15 lq15 eq15] [.slice aq15 kq15 dq15,.slice bq15 lq15 eq15] ?_
    intro v19 Y C
    replace X:=X.chg C (show g≠g18 by omega)
    replace YR:=YR.cg Xg18 C (by rfl) (by decide)
    replace BB:=chN BB C (by omega)
    replace LP:=LP.trans (Lp.cg Xg18 C (by rfl))
    replace Xg2:=Xg2.chg C (show g2≠g18 by omega)
    replace Xg4:=Xg4.chg C (show g4≠g18 by omega)
    replace Qq6:=Qq6.cg Xg18 C (by rfl)
    replace QE:=fun (i:Nat) (hi:i < n)=>And.intro ((QE i hi).1.cg Xg18 C (by rfl)) ((QE i hi).2.cg Xg18 C (by rfl))
    replace Nn11:=NatO.cg Nn11 Xg18 C (by rfl)
    replace Nn13:=NatO.cg Nn13 Xg18 C (by rfl)
    replace Qq15:=Qq15.cg Xg18 C (by rfl)
    have Xg18:=Y
    refine ⟨⟨Xg2,Xg4⟩,?_⟩
    refine z 13 14 (iI 0) (gz_done (ge_then (gc_fr [(0,pg g),(12,iI (n:Int)),(13,pg g18),(14,iI 0)] (gc_seq (gc_seq (gc_reg (t 50 (iI 0) (t 51 (bF) (gl_nil (ge_then (gc_no (gc_skip (ge_then ?_)))))))))))))
    replace Nx:=Nx
    replace Ny:=Ny
    replace X:=X.drew
    replace YR:=YR.drew
    replace BB:=chB BB (Below.refl _ _).drew
    replace LP:=LP.trans (Lp.of (Below.refl _ _).drew)
    replace Xg2:=Xg2.drew
    replace Xg4:=Xg4.drew
    replace Qq6:=Qq6.drew
    replace QE:=fun (i:Nat) (hi:i < n)=>And.intro (QE i hi).1.drew (QE i hi).2.drew
    replace Nn11:=Nn11.keep (Below.refl _ _).drew
    replace Nn13:=Nn13.keep (Below.refl _ _).drew
    replace Qq15:=Qq15.drew
    replace Xg18:=Xg18.drew
    refine gc_draw (fun w'=>Blk w' g [.slice ao2 (n + 1) c2] 30/\Blk w' g18 [.slice aq15 kq15 dq15,.slice bq15 lq15 eq15] 40) (fun i=>decide (8<=i)) ⟨X,Xg18⟩ ?_
    refine zp 0 53 (pg g) (zp 1 54 (pg g) (zp 2 55 (pg g) (zl 3 56 (.slice ao2 (n + 1) c2) (fun _ h=>h.1) 0 (zp 4 57 (iI (n:Int)) (zlr 5 58 [.slice aq15 kq15 dq15,.slice bq15 lq15 eq15] (fun _ h=>h.2) 0 (zp 6 59 (pq b2 (n * 8)) ?_ (hrun:=fun _=>congr_v (by rw [Nat.zero_add]) (run_ixa 8 b2 0 (n + 1) c2 n hk_n YR.p0))))))))
    refine zp 7 60 (pq b2 (n * 8 + 2)) (gz_late (ys 8 (YR.blk (YR.c0 hk_n)) (n * 8 + 2) (.agg #[.slice aq15 kq15 dq15,.slice bq15 lq15 eq15]) [.slice aq15 kq15 dq15,.slice bq15 lq15 eq15] (fl (upE E1 n ⟨(E1 n).v,(E1 n).d,(aq15,kq15,dq15,bq15,lq15,eq15),(E1 n).ov,((x * t_:Int):Rat) / ((yv:Int):Rat),(E1 n).o,(E1 n).p,(E1 n).k⟩) (n + 1) ++ zrs zz2) ?_ (hb:=fl_room E1 hk_n 2 [.slice aq15 kq15 dq15,.slice bq15 lq15 eq15] (zrs zz2) (Nat.le_of_ble_eq_true rfl)) (he:=fl_set E1 hk_n 2 [.slice aq15 kq15 dq15,.slice bq15 lq15 eq15] ⟨(E1 n).v,(E1 n).d,(aq15,kq15,dq15,bq15,lq15,eq15),(E1 n).ov,((x * t_:Int):Rat) / ((yv:Int):Rat),(E1 n).o,(E1 n).p,(E1 n).k⟩ (zrs zz2) (Nat.le_of_ble_eq_true rfl) rfl)))
    intro v20 Y C
    have hwn:spl (cel (E1 n)) 2 [.slice aq15 kq15 dq15,.slice bq15 lq15 eq15]=cel ⟨(E1 n).v,(E1 n).d,(aq15,kq15,dq15,bq15,lq15,eq15),(E1 n).ov,((x * t_:Int):Rat) / ((yv:Int):Rat),(E1 n).o,(E1 n).p,(E1 n).k⟩:=rfl
    obtain ⟨YR2,P⟩:=YR.st hk_n 2 [.slice aq15 kq15 dq15,.slice bq15 lq15 eq15] ⟨(E1 n).v,(E1 n).d,(aq15,kq15,dq15,bq15,lq15,eq15),(E1 n).ov,((x * t_:Int):Rat) / ((yv:Int):Rat),(E1 n).o,(E1 n).p,(E1 n).k⟩ (Nat.le_of_ble_eq_true rfl) rfl (by rfl) Y C
    replace X:=X.chg C (YR.ne X (by decide) (YR.c0 hk_n)).symm
    replace BB:=chE BB C hb3
    replace LP:=LP.trans P
    replace Xg2:=Xg2.chg C (YR.ne Xg2 (by decide) (YR.c0 hk_n)).symm
    replace Xg4:=Xg4.chg C (YR.ne Xg4 (by decide) (YR.c0 hk_n)).symm
    replace Qq6:=Qq6.lp P
    replace QE:=fun (i:Nat) (hi:i < n)=>And.intro ((QE i hi).1.lp P) ((QE i hi).2.lp P)
    replace Nn11:=NatO.lp Nn11 P
    replace Nn13:=NatO.lp Nn13 P
    replace Qq15:=Qq15.lp P
    replace Xg18:=Xg18.chg C (YR.ne Xg18 (by decide) (YR.c0 hk_n)).symm
    clear YR C P
    have YR:=YR2
    clear YR2
    refine gy_done (ge_end (.tuple #[]) (rs0 (by kernel_rfl)) ?_)
    have e1:upE E1 n ⟨(E1 n).v,(E1 n).d,(aq15,kq15,dq15,bq15,lq15,eq15),(E1 n).ov,((x * t_:Int):Rat) / ((yv:Int):Rat),(E1 n).o,(E1 n).p,(E1 n).k⟩=upE E n ⟨v,d,(aq15,kq15,dq15,bq15,lq15,eq15),eN.ov,qv (x * t_) yv,eN.o,0,0⟩:=by
     rw [<- hE1]
     funext j
     by_cases q:j=n
     ·subst q; rw [<- heN]; simp [upE,qv,hz]
     ·simp [upE,q]
    rw [e1] at YR
    have hS:sO (upE E n ⟨v,d,(aq15,kq15,dq15,bq15,lq15,eq15),eN.ov,qv (x * t_) yv,eN.o,0,0⟩) (n + 1)=sHold (sO E n) v d x yv t_:=by
     unfold sHold
     rw [sO_no hno,if_neg (by simp),sO_up,<- heN]
    have q1:=Qq15
    have q2:=Qq6
    refine ⟨_,_,_,_,_,_,_,rfl,X,YR.ry (fun i hi => ?_) (fun i hi => ?_),hS,fun _=>hb3,BB,LP⟩
    ·by_cases h:i=n
     ·subst h; rw [show upE E i _ i=_ from if_pos rfl]; rw [<- heN]; exact ⟨q1.is (by simp [qv,hz]),q2⟩
     ·rw [show upE E n _ i=E i from if_neg h]; exact QE i (by omega)
    ·by_cases h:i=n
     ·subst h; rw [show upE E i _ i=_ from if_pos rfl]; exact ⟨hv,hd⟩
     ·rw [show upE E n _ i=E i from if_neg h]; exact rgE i (by omega)
   have lX:=X.lt
   have lXg2:=Xg2.lt
   have lXg4:=Xg4.lt
   refine zaa 11 13 [zS,zS] 40 (pg) ?_ ?_
   ·intro v21 g22 Xg22 hg22 B
    have hbg22:=Nat.le_trans BB.size hg22
    replace X:=X.keep B
    replace YR:=YR.keep B
    replace BB:=chB BB B
    replace LP:=LP.trans (Lp.of B)
    replace Xg2:=Xg2.keep B
    replace Xg4:=Xg4.keep B
    replace Qq6:=Qq6.keep B
    replace QE:=fun (i:Nat) (hi:i < n)=>And.intro ((QE i hi).1.keep B) ((QE i hi).2.keep B)
    replace Nn11:=Nn11.keep B
    replace Nn13:=Nn13.keep B
    refine ⟨⟨Xg2,Xg4⟩,?_⟩
    refine zc 7 47 64 #[.slice an13 kn13 dn13,.slice ay ny cy] (tpOf (B:=500) Nn13.a (Ny _ BB) (by omega) (by omega) (by omega) (hz)) ?_
    rintro _ v24 ⟨aq23,kq23,dq23,bq23,lq23,eq23,rfl,Qq23,B⟩
    replace X:=X.keep B
    replace YR:=YR.keep B
    replace BB:=chB BB B
    replace LP:=LP.trans (Lp.of B)
    replace Xg2:=Xg2.keep B
    replace Xg4:=Xg4.keep B
    replace Qq6:=Qq6.keep B
    replace QE:=fun (i:Nat) (hi:i < n)=>And.intro ((QE i hi).1.keep B) ((QE i hi).2.keep B)
    replace Nn11:=Nn11.keep B
    replace Nn13:=Nn13.keep B
    replace Xg22:=Xg22.keep B
    refine ⟨_,rfl,⟨Xg2,Xg4⟩,?_⟩
    refine z 8 39 (.tuple #[.agg #[.slice aq23 kq23 dq23,.slice bq23 lq23 eq23],iI 0]) (z 9 48 (.agg #[.slice aq23 kq23 dq23,.slice bq23 lq23 eq23]) (z 10 49 (iI 0) (zs 12 Xg22 0 (.agg #[.slice aq23 kq23 dq23,.slice bq23 lq23 eq23]) [.slice aq23 kq23 dq23,.slice bq23 lq23 eq23] [.slice aq23 kq23 dq23,.slice bq23 lq23 eq23] ?_)))
    intro v25 Y C
    replace X:=X.chg C (show g≠g22 by omega)
    replace YR:=YR.cg Xg22 C (by rfl) (by decide)
    replace BB:=chN BB C (by omega)
    replace LP:=LP.trans (Lp.cg Xg22 C (by rfl))
    replace Xg2:=Xg2.chg C (show g2≠g22 by omega)
    replace Xg4:=Xg4.chg C (show g4≠g22 by omega)
    replace Qq6:=Qq6.cg Xg22 C (by rfl)
    replace QE:=fun (i:Nat) (hi:i < n)=>And.intro ((QE i hi).1.cg Xg22 C (by rfl)) ((QE i hi).2.cg Xg22 C (by rfl))
    replace Nn11:=NatO.cg Nn11 Xg22 C (by rfl)
    replace Nn13:=NatO.cg Nn13 Xg22 C (by rfl)
    replace Qq23:=Qq23.cg Xg22 C (by rfl)
    have Xg22:=Y
    refine ⟨⟨Xg2,Xg4⟩,?_⟩
    refine z 13 14 (iI 0) (gz_done (ge_then (gc_fr [(0,pg g),(12,iI (n:Int)),(13,pg g22),(14,iI 0)] (gc_seq (gc_seq (gc_reg (t 50 (iI 0) (t 51 (bF) (gl_nil (ge_then (gc_no (gc_skip (ge_then ?_)))))))))))))
    replace Nx:=Nx
    replace Ny:=Ny
    replace X:=X.drew
    replace YR:=YR.drew
    replace BB:=chB BB (Below.refl _ _).drew
    replace LP:=LP.trans (Lp.of (Below.refl _ _).drew)
    replace Xg2:=Xg2.drew
    replace Xg4:=Xg4.drew
    replace Qq6:=Qq6.drew
    replace QE:=fun (i:Nat) (hi:i < n)=>And.intro (QE i hi).1.drew (QE i hi).2.drew
    replace Nn11:=Nn11.keep (Below.refl _ _).drew
    replace Nn13:=Nn13.keep (Below.refl _ _).drew
    replace Xg22:=Xg22.drew
    replace Qq23:=Qq23.drew
    refine gc_draw (fun w'=>Blk w' g [.slice ao2 (n + 1) c2] 30/\Blk w' g22 [.slice aq23 kq23 dq23,.slice bq23 lq23 eq23] 40) (fun i=>decide (8<=i)) ⟨X,Xg22⟩ ?_
    refine zp 0 53 (pg g) (zp 1 54 (pg g) (zp 2 55 (pg g) (zl 3 56 (.slice ao2 (n + 1) c2) (fun _ h=>h.1) 0 (zp 4 57 (iI (n:Int)) (zlr 5 58 [.slice aq23 kq23 dq23,.slice bq23 lq23 eq23] (fun _ h=>h.2) 0 (zp 6 59 (pq b2 (n * 8)) ?_ (hrun:=fun _=>congr_v (by rw [Nat.zero_add]) (run_ixa 8 b2 0 (n + 1) c2 n hk_n YR.p0))))))))
    refine zp 7 60 (pq b2 (n * 8 + 2)) (gz_late (ys 8 (YR.blk (YR.c0 hk_n)) (n * 8 + 2) (.agg #[.slice aq23 kq23 dq23,.slice bq23 lq23 eq23]) [.slice aq23 kq23 dq23,.slice bq23 lq23 eq23] (fl (upE E1 n ⟨(E1 n).v,(E1 n).d,(aq23,kq23,dq23,bq23,lq23,eq23),(E1 n).ov,((x * t_:Int):Rat) / ((yv:Int):Rat),(E1 n).o,(E1 n).p,(E1 n).k⟩) (n + 1) ++ zrs zz2) ?_ (hb:=fl_room E1 hk_n 2 [.slice aq23 kq23 dq23,.slice bq23 lq23 eq23] (zrs zz2) (Nat.le_of_ble_eq_true rfl)) (he:=fl_set E1 hk_n 2 [.slice aq23 kq23 dq23,.slice bq23 lq23 eq23] ⟨(E1 n).v,(E1 n).d,(aq23,kq23,dq23,bq23,lq23,eq23),(E1 n).ov,((x * t_:Int):Rat) / ((yv:Int):Rat),(E1 n).o,(E1 n).p,(E1 n).k⟩ (zrs zz2) (Nat.le_of_ble_eq_true rfl) rfl)))
    intro v26 Y C
    have hwn:spl (cel (E1 n)) 2 [.slice aq23 kq23 dq23,.slice bq23 lq23 eq23]=cel ⟨(E1 n).v,(E1 n).d,(aq23,kq23,dq23,bq23,lq23,eq23),(E1 n).ov,((x * t_:Int):Rat) / ((yv:Int):Rat),(E1 n).o,(E1 n).p,(E1 n).k⟩:=rfl
    obtain ⟨YR2,P⟩:=YR.st hk_n 2 [.slice aq23 kq23 dq23,.slice bq23 lq23 eq23] ⟨(E1 n).v,(E1 n).d,(aq23,kq23,dq23,bq23,lq23,eq23),(E1 n).ov,((x * t_:Int):Rat) / ((yv:Int):Rat),(E1 n).o,(E1 n).p,(E1 n).k⟩ (Nat.le_of_ble_eq_true rfl) rfl (by rfl) Y C
    replace X:=X.chg C (YR.ne X (by decide) (YR.c0 hk_n)).symm
    replace BB:=chE BB C hb3
    replace LP:=LP.trans P
    replace Xg2:=Xg2.chg C (YR.ne Xg2 (by decide) (YR.c0 hk_n)).symm
    replace Xg4:=Xg4.chg C (YR.ne Xg4 (by decide) (YR.c0 hk_n)).symm
    replace Qq6:=Qq6.lp P
    replace QE:=fun (i:Nat) (hi:i < n)=>And.intro ((QE i hi).1.lp P) ((QE i hi).2.lp P)
    replace Nn11:=NatO.lp Nn11 P
    replace Nn13:=NatO.lp Nn13 P
    replace Xg22:=Xg22.chg C (YR.ne Xg22 (by decide) (YR.c0 hk_n)).symm
    replace Qq23:=Qq23.lp P
    clear YR C P
    have YR:=YR2
    clear YR2
    refine gy_done (ge_end (.tuple #[]) (rs0 (by kernel_rfl)) ?_)
    have e1:upE E1 n ⟨(E1 n).v,(E1 n).d,(aq23,kq23,dq23,bq23,lq23,eq23),(E1 n).ov,((x * t_:Int):Rat) / ((yv:Int):Rat),(E1 n).o,(E1 n).p,(E1 n).k⟩=upE E n ⟨v,d,(aq23,kq23,dq23,bq23,lq23,eq23),eN.ov,qv (x * t_) yv,eN.o,0,0⟩:=by
     rw [<- hE1]
     funext j
     by_cases q:j=n
     ·subst q; rw [<- heN]; simp [upE,qv,hz]
     ·simp [upE,q]
    rw [e1] at YR
    have hS:sO (upE E n ⟨v,d,(aq23,kq23,dq23,bq23,lq23,eq23),eN.ov,qv (x * t_) yv,eN.o,0,0⟩) (n + 1)=sHold (sO E n) v d x yv t_:=by
     unfold sHold
     rw [sO_no hno,if_neg (by simp),sO_up,<- heN]
    have q1:=Qq23
    have q2:=Qq6
    refine ⟨_,_,_,_,_,_,_,rfl,X,YR.ry (fun i hi => ?_) (fun i hi => ?_),hS,fun _=>hb3,BB,LP⟩
    ·by_cases h:i=n
     ·subst h; rw [show upE E i _ i=_ from if_pos rfl]; rw [<- heN]; exact ⟨q1.is (by simp [qv,hz]),q2⟩
     ·rw [show upE E n _ i=E i from if_neg h]; exact QE i (by omega)
    ·by_cases h:i=n
     ·subst h; rw [show upE E i _ i=_ from if_pos rfl]; exact ⟨hv,hd⟩
     ·rw [show upE E n _ i=E i from if_neg h]; exact rgE i (by omega)
   exact ga_nil
  have lX:=X.lt
  have lXg2:=Xg2.lt
  have lXg4:=Xg4.lt
  refine zaa 11 13 [zS,zS] 40 (pg) ?_ ?_
  ·intro v27 g28 Xg28 hg28 B
   have hbg28:=Nat.le_trans BB.size hg28
   replace X:=X.keep B
   replace YR:=YR.keep B
   replace BB:=chB BB B
   replace LP:=LP.trans (Lp.of B)
   replace Xg2:=Xg2.keep B
   replace Xg4:=Xg4.keep B
   replace Qq6:=Qq6.keep B
   replace QE:=fun (i:Nat) (hi:i < n)=>And.intro ((QE i hi).1.keep B) ((QE i hi).2.keep B)
   replace Nn11:=Nn11.keep B
   refine ⟨⟨Xg2,Xg4⟩,?_⟩
   refine zc 4 44 65 #[.slice ax nx cx,.slice an11 kn11 dn11] (rMul (Nx _ BB) Nn11.a (by omega) (by omega)) ?_
   rintro _ v30 ⟨an29,kn29,dn29,rfl,Nn29,ln29,B⟩
   replace X:=X.keep B
   replace YR:=YR.keep B
   replace BB:=chB BB B
   replace LP:=LP.trans (Lp.of B)
   replace Xg2:=Xg2.keep B
   replace Xg4:=Xg4.keep B
   replace Qq6:=Qq6.keep B
   replace QE:=fun (i:Nat) (hi:i < n)=>And.intro ((QE i hi).1.keep B) ((QE i hi).2.keep B)
   replace Nn11:=Nn11.keep B
   replace Xg28:=Xg28.keep B
   refine ⟨_,rfl,⟨Xg2,Xg4⟩,?_⟩
   refine zc 7 47 64 #[.slice an29 kn29 dn29,.slice ay ny cy] (tpOf (B:=500) Nn29.a (Ny _ BB) (by omega) (by omega) (by omega) (hz)) ?_
   rintro _ v32 ⟨aq31,kq31,dq31,bq31,lq31,eq31,rfl,Qq31,B⟩
   replace X:=X.keep B
   replace YR:=YR.keep B
   replace BB:=chB BB B
   replace LP:=LP.trans (Lp.of B)
   replace Xg2:=Xg2.keep B
   replace Xg4:=Xg4.keep B
   replace Qq6:=Qq6.keep B
   replace QE:=fun (i:Nat) (hi:i < n)=>And.intro ((QE i hi).1.keep B) ((QE i hi).2.keep B)
   replace Nn11:=Nn11.keep B
   replace Xg28:=Xg28.keep B
   replace Nn29:=Nn29.keep B
   refine ⟨_,rfl,⟨Xg2,Xg4⟩,?_⟩
   refine z 8 39 (.tuple #[.agg #[.slice aq31 kq31 dq31,.slice bq31 lq31 eq31],iI 0]) (z 9 48 (.agg #[.slice aq31 kq31 dq31,.slice bq31 lq31 eq31]) (z 10 49 (iI 0) (zs 12 Xg28 0 (.agg #[.slice aq31 kq31 dq31,.slice bq31 lq31 eq31]) [.slice aq31 kq31 dq31,.slice bq31 lq31 eq31] [.slice aq31 kq31 dq31,.slice bq31 lq31 eq31] ?_)))
   intro v33 Y C
   replace X:=X.chg C (show g≠g28 by omega)
   replace YR:=YR.cg Xg28 C (by rfl) (by decide)
   replace BB:=chN BB C (by omega)
   replace LP:=LP.trans (Lp.cg Xg28 C (by rfl))
   replace Xg2:=Xg2.chg C (show g2≠g28 by omega)
   replace Xg4:=Xg4.chg C (show g4≠g28 by omega)
   replace Qq6:=Qq6.cg Xg28 C (by rfl)
   replace QE:=fun (i:Nat) (hi:i < n)=>And.intro ((QE i hi).1.cg Xg28 C (by rfl)) ((QE i hi).2.cg Xg28 C (by rfl))
   replace Nn11:=NatO.cg Nn11 Xg28 C (by rfl)
   replace Nn29:=NatO.cg Nn29 Xg28 C (by rfl)
   replace Qq31:=Qq31.cg Xg28 C (by rfl)
   have Xg28:=Y
   refine ⟨⟨Xg2,Xg4⟩,?_⟩
   refine z 13 14 (iI 0) (gz_done (ge_then (gc_fr [(0,pg g),(12,iI (n:Int)),(13,pg g28),(14,iI 0)] (gc_seq (gc_seq (gc_reg (t 50 (iI 0) (t 51 (bF) (gl_nil (ge_then (gc_no (gc_skip (ge_then ?_)))))))))))))
   replace Nx:=Nx
   replace Ny:=Ny
   replace X:=X.drew
   replace YR:=YR.drew
   replace BB:=chB BB (Below.refl _ _).drew
   replace LP:=LP.trans (Lp.of (Below.refl _ _).drew)
   replace Xg2:=Xg2.drew
   replace Xg4:=Xg4.drew
   replace Qq6:=Qq6.drew
   replace QE:=fun (i:Nat) (hi:i < n)=>And.intro (QE i hi).1.drew (QE i hi).2.drew
   replace Nn11:=Nn11.keep (Below.refl _ _).drew
   replace Xg28:=Xg28.drew
   replace Nn29:=Nn29.keep (Below.refl _ _).drew
   replace Qq31:=Qq31.drew
   refine gc_draw (fun w'=>Blk w' g [.slice ao2 (n + 1) c2] 30/\Blk w' g28 [.slice aq31 kq31 dq31,.slice bq31 lq31 eq31] 40) (fun i=>decide (8<=i)) ⟨X,Xg28⟩ ?_
   refine zp 0 53 (pg g) (zp 1 54 (pg g) (zp 2 55 (pg g) (zl 3 56 (.slice ao2 (n + 1) c2) (fun _ h=>h.1) 0 (zp 4 57 (iI (n:Int)) (zlr 5 58 [.slice aq31 kq31 dq31,.slice bq31 lq31 eq31] (fun _ h=>h.2) 0 (zp 6 59 (pq b2 (n * 8)) ?_ (hrun:=fun _=>congr_v (by rw [Nat.zero_add]) (run_ixa 8 b2 0 (n + 1) c2 n hk_n YR.p0))))))))
   refine zp 7 60 (pq b2 (n * 8 + 2)) (gz_late (ys 8 (YR.blk (YR.c0 hk_n)) (n * 8 + 2) (.agg #[.slice aq31 kq31 dq31,.slice bq31 lq31 eq31]) [.slice aq31 kq31 dq31,.slice bq31 lq31 eq31] (fl (upE E1 n ⟨(E1 n).v,(E1 n).d,(aq31,kq31,dq31,bq31,lq31,eq31),(E1 n).ov,((x * t_:Int):Rat) / ((yv:Int):Rat),(E1 n).o,(E1 n).p,(E1 n).k⟩) (n + 1) ++ zrs zz2) ?_ (hb:=fl_room E1 hk_n 2 [.slice aq31 kq31 dq31,.slice bq31 lq31 eq31] (zrs zz2) (Nat.le_of_ble_eq_true rfl)) (he:=fl_set E1 hk_n 2 [.slice aq31 kq31 dq31,.slice bq31 lq31 eq31] ⟨(E1 n).v,(E1 n).d,(aq31,kq31,dq31,bq31,lq31,eq31),(E1 n).ov,((x * t_:Int):Rat) / ((yv:Int):Rat),(E1 n).o,(E1 n).p,(E1 n).k⟩ (zrs zz2) (Nat.le_of_ble_eq_true rfl) rfl)))
   intro v34 Y C
   have hwn:spl (cel (E1 n)) 2 [.slice aq31 kq31 dq31,.slice bq31 lq31 eq31]=cel ⟨(E1 n).v,(E1 n).d,(aq31,kq31,dq31,bq31,lq31,eq31),(E1 n).ov,((x * t_:Int):Rat) / ((yv:Int):Rat),(E1 n).o,(E1 n).p,(E1 n).k⟩:=rfl
   obtain ⟨YR2,P⟩:=YR.st hk_n 2 [.slice aq31 kq31 dq31,.slice bq31 lq31 eq31] ⟨(E1 n).v,(E1 n).d,(aq31,kq31,dq31,bq31,lq31,eq31),(E1 n).ov,((x * t_:Int):Rat) / ((yv:Int):Rat),(E1 n).o,(E1 n).p,(E1 n).k⟩ (Nat.le_of_ble_eq_true rfl) rfl (by rfl) Y C
   replace X:=X.chg C (YR.ne X (by decide) (YR.c0 hk_n)).symm
   replace BB:=chE BB C hb3
   replace LP:=LP.trans P
   replace Xg2:=Xg2.chg C (YR.ne Xg2 (by decide) (YR.c0 hk_n)).symm
   replace Xg4:=Xg4.chg C (YR.ne Xg4 (by decide) (YR.c0 hk_n)).symm
   replace Qq6:=Qq6.lp P
   replace QE:=fun (i:Nat) (hi:i < n)=>And.intro ((QE i hi).1.lp P) ((QE i hi).2.lp P)
   replace Nn11:=NatO.lp Nn11 P
   replace Xg28:=Xg28.chg C (YR.ne Xg28 (by decide) (YR.c0 hk_n)).symm
   replace Nn29:=NatO.lp Nn29 P
   replace Qq31:=Qq31.lp P
   clear YR C P
   have YR:=YR2
   clear YR2
   refine gy_done (ge_end (.tuple #[]) (rs0 (by kernel_rfl)) ?_)
   have e1:upE E1 n ⟨(E1 n).v,(E1 n).d,(aq31,kq31,dq31,bq31,lq31,eq31),(E1 n).ov,((x * t_:Int):Rat) / ((yv:Int):Rat),(E1 n).o,(E1 n).p,(E1 n).k⟩=upE E n ⟨v,d,(aq31,kq31,dq31,bq31,lq31,eq31),eN.ov,qv (x * t_) yv,eN.o,0,0⟩:=by
    rw [<- hE1]
    funext j
    by_cases q:j=n
    ·subst q; rw [<- heN]; simp [upE,qv,hz]
    ·simp [upE,q]
   rw [e1] at YR
   have hS:sO (upE E n ⟨v,d,(aq31,kq31,dq31,bq31,lq31,eq31),eN.ov,qv (x * t_) yv,eN.o,0,0⟩) (n + 1)=sHold (sO E n) v d x yv t_:=by
    unfold sHold
    rw [sO_no hno,if_neg (by simp),sO_up,<- heN]
   have q1:=Qq31
   have q2:=Qq6
   refine ⟨_,_,_,_,_,_,_,rfl,X,YR.ry (fun i hi => ?_) (fun i hi => ?_),hS,fun _=>hb3,BB,LP⟩
   ·by_cases h:i=n
    ·subst h; rw [show upE E i _ i=_ from if_pos rfl]; rw [<- heN]; exact ⟨q1.is (by simp [qv,hz]),q2⟩
    ·rw [show upE E n _ i=E i from if_neg h]; exact QE i (by omega)
   ·by_cases h:i=n
    ·subst h; rw [show upE E i _ i=_ from if_pos rfl]; exact ⟨hv,hd⟩
    ·rw [show upE E n _ i=E i from if_neg h]; exact rgE i (by omega)
  exact ga_nil
 have lX:=X.lt
 have lXg2:=Xg2.lt
 have lXg4:=Xg4.lt
 refine zaa 11 13 [zS,zS] 40 (pg) ?_ ?_
 ·intro v35 g36 Xg36 hg36 B
  have hbg36:=Nat.le_trans BB.size hg36
  replace X:=X.keep B
  replace YR:=YR.keep B
  replace BB:=chB BB B
  replace LP:=LP.trans (Lp.of B)
  replace Xg2:=Xg2.keep B
  replace Xg4:=Xg4.keep B
  replace Qq6:=Qq6.keep B
  replace QE:=fun (i:Nat) (hi:i < n)=>And.intro ((QE i hi).1.keep B) ((QE i hi).2.keep B)
  refine ⟨⟨Xg2,Xg4⟩,?_⟩
  refine zc 3 43 66 #[iU t_] (rOf (x:=t_) (ht).1 (ht).2) ?_
  rintro _ v38 ⟨an37,kn37,dn37,rfl,Nn37,ln37,B⟩
  replace X:=X.keep B
  replace YR:=YR.keep B
  replace BB:=chB BB B
  replace LP:=LP.trans (Lp.of B)
  replace Xg2:=Xg2.keep B
  replace Xg4:=Xg4.keep B
  replace Qq6:=Qq6.keep B
  replace QE:=fun (i:Nat) (hi:i < n)=>And.intro ((QE i hi).1.keep B) ((QE i hi).2.keep B)
  replace Xg36:=Xg36.keep B
  refine ⟨_,rfl,⟨Xg2,Xg4⟩,?_⟩
  refine zc 4 44 65 #[.slice ax nx cx,.slice an37 kn37 dn37] (rMul (Nx _ BB) Nn37.a (by omega) (by omega)) ?_
  rintro _ v40 ⟨an39,kn39,dn39,rfl,Nn39,ln39,B⟩
  replace X:=X.keep B
  replace YR:=YR.keep B
  replace BB:=chB BB B
  replace LP:=LP.trans (Lp.of B)
  replace Xg2:=Xg2.keep B
  replace Xg4:=Xg4.keep B
  replace Qq6:=Qq6.keep B
  replace QE:=fun (i:Nat) (hi:i < n)=>And.intro ((QE i hi).1.keep B) ((QE i hi).2.keep B)
  replace Xg36:=Xg36.keep B
  replace Nn37:=Nn37.keep B
  refine ⟨_,rfl,⟨Xg2,Xg4⟩,?_⟩
  refine zc 7 47 64 #[.slice an39 kn39 dn39,.slice ay ny cy] (tpOf (B:=500) Nn39.a (Ny _ BB) (by omega) (by omega) (by omega) (hz)) ?_
  rintro _ v42 ⟨aq41,kq41,dq41,bq41,lq41,eq41,rfl,Qq41,B⟩
  replace X:=X.keep B
  replace YR:=YR.keep B
  replace BB:=chB BB B
  replace LP:=LP.trans (Lp.of B)
  replace Xg2:=Xg2.keep B
  replace Xg4:=Xg4.keep B
  replace Qq6:=Qq6.keep B
  replace QE:=fun (i:Nat) (hi:i < n)=>And.intro ((QE i hi).1.keep B) ((QE i hi).2.keep B)
  replace Xg36:=Xg36.keep B
  replace Nn37:=Nn37.keep B
  replace Nn39:=Nn39.keep B
  refine ⟨_,rfl,⟨Xg2,Xg4⟩,?_⟩
  refine z 8 39 (.tuple #[.agg #[.slice aq41 kq41 dq41,.slice bq41 lq41 eq41],iI 0]) (z 9 48 (.agg #[.slice aq41 kq41 dq41,.slice bq41 lq41 eq41]) (z 10 49 (iI 0) (zs 12 Xg36 0 (.agg #[.slice aq41 kq41 dq41,.slice bq41 lq41 eq41]) [.slice aq41 kq41 dq41,.slice bq41 lq41 eq41] [.slice aq41 kq41 dq41,.slice bq41 lq41 eq41] ?_)))
  intro v43 Y C
  replace X:=X.chg C (show g≠g36 by omega)
  replace YR:=YR.cg Xg36 C (by rfl) (by decide)
  replace BB:=chN BB C (by omega)
  replace LP:=LP.trans (Lp.cg Xg36 C (by rfl))
  replace Xg2:=Xg2.chg C (show g2≠g36 by omega)
  replace Xg4:=Xg4.chg C (show g4≠g36 by omega)
  replace Qq6:=Qq6.cg Xg36 C (by rfl)
  replace QE:=fun (i:Nat) (hi:i < n)=>And.intro ((QE i hi).1.cg Xg36 C (by rfl)) ((QE i hi).2.cg Xg36 C (by rfl))
  replace Nn37:=NatO.cg Nn37 Xg36 C (by rfl)
  replace Nn39:=NatO.cg Nn39 Xg36 C (by rfl)
  replace Qq41:=Qq41.cg Xg36 C (by rfl)
  have Xg36:=Y
  refine ⟨⟨Xg2,Xg4⟩,?_⟩
  refine z 13 14 (iI 0) (gz_done (ge_then (gc_fr [(0,pg g),(12,iI (n:Int)),(13,pg g36),(14,iI 0)] (gc_seq (gc_seq (gc_reg (t 50 (iI 0) (t 51 (bF) (gl_nil (ge_then (gc_no (gc_skip (ge_then ?_)))))))))))))
  replace Nx:=Nx
  replace Ny:=Ny
  replace X:=X.drew
  replace YR:=YR.drew
  replace BB:=chB BB (Below.refl _ _).drew
  replace LP:=LP.trans (Lp.of (Below.refl _ _).drew)
  replace Xg2:=Xg2.drew
  replace Xg4:=Xg4.drew
  replace Qq6:=Qq6.drew
  replace QE:=fun (i:Nat) (hi:i < n)=>And.intro (QE i hi).1.drew (QE i hi).2.drew
  replace Xg36:=Xg36.drew
  replace Nn37:=Nn37.keep (Below.refl _ _).drew
  replace Nn39:=Nn39.keep (Below.refl _ _).drew
  replace Qq41:=Qq41.drew
  refine gc_draw (fun w'=>Blk w' g [.slice ao2 (n + 1) c2] 30/\Blk w' g36 [.slice aq41 kq41 dq41,.slice bq41 lq41 eq41] 40) (fun i=>decide (8<=i)) ⟨X,Xg36⟩ ?_
  refine zp 0 53 (pg g) (zp 1 54 (pg g) (zp 2 55 (pg g) (zl 3 56 (.slice ao2 (n + 1) c2) (fun _ h=>h.1) 0 (zp 4 57 (iI (n:Int)) (zlr 5 58 [.slice aq41 kq41 dq41,.slice bq41 lq41 eq41] (fun _ h=>h.2) 0 (zp 6 59 (pq b2 (n * 8)) ?_ (hrun:=fun _=>congr_v (by rw [Nat.zero_add]) (run_ixa 8 b2 0 (n + 1) c2 n hk_n YR.p0))))))))
  refine zp 7 60 (pq b2 (n * 8 + 2)) (gz_late (ys 8 (YR.blk (YR.c0 hk_n)) (n * 8 + 2) (.agg #[.slice aq41 kq41 dq41,.slice bq41 lq41 eq41]) [.slice aq41 kq41 dq41,.slice bq41 lq41 eq41] (fl (upE E1 n ⟨(E1 n).v,(E1 n).d,(aq41,kq41,dq41,bq41,lq41,eq41),(E1 n).ov,((x * t_:Int):Rat) / ((yv:Int):Rat),(E1 n).o,(E1 n).p,(E1 n).k⟩) (n + 1) ++ zrs zz2) ?_ (hb:=fl_room E1 hk_n 2 [.slice aq41 kq41 dq41,.slice bq41 lq41 eq41] (zrs zz2) (Nat.le_of_ble_eq_true rfl)) (he:=fl_set E1 hk_n 2 [.slice aq41 kq41 dq41,.slice bq41 lq41 eq41] ⟨(E1 n).v,(E1 n).d,(aq41,kq41,dq41,bq41,lq41,eq41),(E1 n).ov,((x * t_:Int):Rat) / ((yv:Int):Rat),(E1 n).o,(E1 n).p,(E1 n).k⟩ (zrs zz2) (Nat.le_of_ble_eq_true rfl) rfl)))
  intro v44 Y C
  have hwn:spl (cel (E1 n)) 2 [.slice aq41 kq41 dq41,.slice bq41 lq41 eq41]=cel ⟨(E1 n).v,(E1 n).d,(aq41,kq41,dq41,bq41,lq41,eq41),(E1 n).ov,((x * t_:Int):Rat) / ((yv:Int):Rat),(E1 n).o,(E1 n).p,(E1 n).k⟩:=rfl
  obtain ⟨YR2,P⟩:=YR.st hk_n 2 [.slice aq41 kq41 dq41,.slice bq41 lq41 eq41] ⟨(E1 n).v,(E1 n).d,(aq41,kq41,dq41,bq41,lq41,eq41),(E1 n).ov,((x * t_:Int):Rat) / ((yv:Int):Rat),(E1 n).o,(E1 n).p,(E1 n).k⟩ (Nat.le_of_ble_eq_true rfl) rfl (by rfl) Y C
  replace X:=X.chg C (YR.ne X (by decide) (YR.c0 hk_n)).symm
  replace BB:=chE BB C hb3
  replace LP:=LP.trans P
  replace Xg2:=Xg2.chg C (YR.ne Xg2 (by decide) (YR.c0 hk_n)).symm
  replace Xg4:=Xg4.chg C (YR.ne Xg4 (by decide) (YR.c0 hk_n)).symm
  replace Qq6:=Qq6.lp P
  replace QE:=fun (i:Nat) (hi:i < n)=>And.intro ((QE i hi).1.lp P) ((QE i hi).2.lp P)
  replace Xg36:=Xg36.chg C (YR.ne Xg36 (by decide) (YR.c0 hk_n)).symm
  replace Nn37:=NatO.lp Nn37 P
  replace Nn39:=NatO.lp Nn39 P
  replace Qq41:=Qq41.lp P
  clear YR C P
  have YR:=YR2
  clear YR2
  refine gy_done (ge_end (.tuple #[]) (rs0 (by kernel_rfl)) ?_)
  have e1:upE E1 n ⟨(E1 n).v,(E1 n).d,(aq41,kq41,dq41,bq41,lq41,eq41),(E1 n).ov,((x * t_:Int):Rat) / ((yv:Int):Rat),(E1 n).o,(E1 n).p,(E1 n).k⟩=upE E n ⟨v,d,(aq41,kq41,dq41,bq41,lq41,eq41),eN.ov,qv (x * t_) yv,eN.o,0,0⟩:=by
   rw [<- hE1]
   funext j
   by_cases q:j=n
   ·subst q; rw [<- heN]; simp [upE,qv,hz]
   ·simp [upE,q]
  rw [e1] at YR
  have hS:sO (upE E n ⟨v,d,(aq41,kq41,dq41,bq41,lq41,eq41),eN.ov,qv (x * t_) yv,eN.o,0,0⟩) (n + 1)=sHold (sO E n) v d x yv t_:=by
   unfold sHold
   rw [sO_no hno,if_neg (by simp),sO_up,<- heN]
  have q1:=Qq41
  have q2:=Qq6
  refine ⟨_,_,_,_,_,_,_,rfl,X,YR.ry (fun i hi => ?_) (fun i hi => ?_),hS,fun _=>hb3,BB,LP⟩
  ·by_cases h:i=n
   ·subst h; rw [show upE E i _ i=_ from if_pos rfl]; rw [<- heN]; exact ⟨q1.is (by simp [qv,hz]),q2⟩
   ·rw [show upE E n _ i=E i from if_neg h]; exact QE i (by omega)
  ·by_cases h:i=n
   ·subst h; rw [show upE E i _ i=_ from if_pos rfl]; exact ⟨hv,hd⟩
   ·rw [show upE E n _ i=E i from if_neg h]; exact rgE i (by omega)
 exact ga_nil
theorem rHold_nz {w:World} {g b:Nat} {ao:Option Addr} {n c zz:Nat} {E:Nat->E8} {ax ay:Option Addr} {nx cx ny cy:Nat} {v d x yv t_:Int} (hv:0<=v/\v < 18446744073709551616) (hd:0<=d/\d < 18446744073709551616) (Nx:∀ w',Chg (KF g b c) w w'->NatA w' ax nx cx x) (lx:nx<=100) (Ny:∀ w',Chg (KF g b c) w w'->NatA w' ay ny cy yv) (ly:ny<=100) (ht:0<=t_/\t_ < 18446744073709551616) (X:Blk w g [.slice ao n c] 30) (YR:Ry w b ao n c zz E) (hn:n<=100) (hno:∀ j,j < n->¬ ((E j).v=v/\(E j).d=d)) (hz:yv=0):Calls Tryz.prog 18 #[pg g,.int .u64 v,.int .u64 d,.agg #[.slice ax nx cx],.agg #[.slice ay ny cy],.int .u64 t_] w fun e w'=>∃ F b2 ao2 n2 c2 zz2 v0,e=.returned v0/\Blk w' g [.slice ao2 n2 c2] 30/\Ry w' b2 ao2 n2 c2 zz2 F/\sO F n2=sHold (sO E n) v d x yv t_/\(0 < c2->(0 < c/\b2=b)\/w.heap.size<=b2)/\Chg (KF g b c) w w'/\Lp w w':=by
 have BB:Chg (KF g b c) w w:=Chg.refl _ _
 have LP:=Lp.refl w
 refine gc_enter (n:=61) Tryz.func18 rfl ?_
 refine gc_seq (gc_reg ?_)
 have lX:=X.lt
 refine ta 9 [.slice ax nx cx] 35 (pg) ?_
 intro v1 g2 Xg2 hg2 B
 have hbg2:=Nat.le_trans BB.size hg2
 replace X:=X.keep B
 replace YR:=YR.keep B
 replace BB:=chB BB B
 replace LP:=LP.trans (Lp.of B)
 have lX:=X.lt
 have lXg2:=Xg2.lt
 refine ta 10 [.slice ay ny cy] 35 (pg) ?_
 intro v3 g4 Xg4 hg4 B
 have hbg4:=Nat.le_trans BB.size hg4
 replace X:=X.keep B
 replace YR:=YR.keep B
 replace BB:=chB BB B
 replace LP:=LP.trans (Lp.of B)
 replace Xg2:=Xg2.keep B
 refine gl_nil (ge_then (gc_seq (gc_reg (t 15 (pg g) (t 16 (iU v) (t 17 (iU d) (tc 18 59 #[pg g,iU v,iU d] (at_no hv hd X YR hn hno) ?_)))))))
 rintro _ v5 ⟨rfl,B⟩
 refine ⟨_,rfl,?_⟩
 replace X:=X.keep B
 replace YR:=YR.keep B
 replace BB:=chB BB B
 replace LP:=LP.trans (Lp.of B)
 replace Xg2:=Xg2.keep B
 replace Xg4:=Xg4.keep B
 refine t 12 (iI (-1)) (gl_nil (ge_then (gc_fr [(0,pg g),(1,iU v),(2,iU d),(5,iU t_),(9,pg g2),(10,pg g4),(12,iI (-1))] (gc_seq (gc_seq (gc_reg (t 19 (iI (-1)) (t 20 (bT) (gl_nil (ge_then (gc_yes (gc_seq (gc_reg (t 21 (pg g) (t 22 (pg g) (t 23 (pg g) (tl 24 (.slice ao n c) X 0 (t 25 (iI (n:Int)) (t 12 (iI (n:Int)) (gl_nil (ge_then ?_)))))))))))))))))))))
 replace Nx:=Nx
 replace Ny:=Ny
 replace X:=X.drew
 replace YR:=YR.drew
 replace BB:=chB BB (Below.refl _ _).drew
 replace LP:=LP.trans (Lp.of (Below.refl _ _).drew)
 replace Xg2:=Xg2.drew
 replace Xg4:=Xg4.drew
 refine gc_draw (fun w'=>Blk w' g [.slice ao n c] 30) (fun i=>decide (13<=i)) X ?_
 refine zp 0 26 (pg g) (zp 1 27 (pg g) (zp 2 28 (pg g) (zp 3 29 (pg g) (zl 4 30 (.slice ao n c) (fun _ h=>h) 0 (zp 5 31 (iU v) (zp 6 32 (iU d) (zc 7 33 60 #[] (nothing_any) ?_)))))))
 rintro _ v7 ⟨aq6,kq6,dq6,bq6,lq6,eq6,rfl,Qq6,B⟩
 replace X:=X.keep B
 replace YR:=YR.keep B
 replace BB:=chB BB B
 replace LP:=LP.trans (Lp.of B)
 replace Xg2:=Xg2.keep B
 replace Xg4:=Xg4.keep B
 refine ⟨_,rfl,X,?_⟩
 refine zp 8 34 (.agg #[iU v,iU d,zS,zS,.slice aq6 kq6 dq6,.slice bq6 lq6 eq6,iI 0,iI 0]) ?_ (hrun:=by intro _; kernel_rfl)
 have lX:=X.lt
 have lXg2:=Xg2.lt
 have lXg4:=Xg4.lt
 refine za 9 35 [iU v,iU d,zS,zS,.slice aq6 kq6 dq6,.slice bq6 lq6 eq6,iI 0,iI 0] 82 (sg 1) ?_
 intro v8 g9 Xg9 hg9 B
 have hbg9:=Nat.le_trans BB.size hg9
 replace X:=X.keep B
 replace YR:=YR.keep B
 replace BB:=chB BB B
 replace LP:=LP.trans (Lp.of B)
 replace Xg2:=Xg2.keep B
 replace Xg4:=Xg4.keep B
 replace Qq6:=Qq6.keep B
 refine ⟨X,?_⟩
 have BBs:=BB.size
 obtain ⟨eN,heN⟩:∃ eN:E8,⟨v,d,(none,0,0,none,0,0),(aq6,kq6,dq6,bq6,lq6,eq6),0,(0:Rat),0,0⟩=eN:=⟨_,rfl⟩
 obtain ⟨ao2,b2,c2,zz2,w5,hr5,YR2,hb2,C5,P5⟩:=app_any (G:=fun _=>eN) (m:=1) (cc:=1) (a:=⟨g9,0,none⟩) YR.rb (fun j u hj=>by rw [Addr.add_lit,Nat.zero_add]; refine Xg9.cell ?_; rw [fl_one,<- heN] at hj; exact hj) (fl_up E n eN) (by omega)
 have QE:∀ i,i < n->RQv w5 (E i).wv (E i).r/\RQv w5 (E i).ov (E i).o:=fun i hi=>⟨(YR.q i hi).1.lp P5,(YR.q i hi).2.lp P5⟩
 have rgE:=YR.rg
 replace X:=X.chg C5 (fun k=>(YR.ne X (by decide) k.1) k.2.symm)
 replace BB:=chA BB C5
 replace LP:=LP.trans P5
 replace Xg2:=Xg2.chg C5 (fun k=>(YR.ne Xg2 (by decide) k.1) k.2.symm)
 replace Xg4:=Xg4.chg C5 (fun k=>(YR.ne Xg4 (by decide) k.1) k.2.symm)
 replace Qq6:=Qq6.lp P5
 clear Xg9
 clear YR C5 P5
 have YR:=YR2
 clear YR2
 have hk_n:n < n + 1:=Nat.lt_succ_self n
 obtain ⟨E1,hE1⟩:∃ E1,upE E n eN=E1:=⟨_,rfl⟩
 rw [hE1] at YR
 have hb3:(0 < c/\b2=b)\/w.heap.size<=b2:=(hb2 (by have:=YR.hc; omega)).imp id (fun k=>Nat.le_trans BBs k)
 refine zw 10 36 (.slice ao2 (n + 1) c2) _ (run_apS hr5) X ?_
 refine zp 11 37 (pg g) (zp 12 38 (pg g) (gz_late (ys 13 X 0 (.slice ao2 (n + 1) c2) [.slice ao2 (n + 1) c2] [.slice ao2 (n + 1) c2] ?_)))
 intro v10 Y C
 replace YR:=YR.cg X C (by rfl) (by decide)
 replace BB:=chG BB C
 replace LP:=LP.trans (Lp.cg X C (by rfl))
 replace Xg2:=Xg2.chg C (show g2≠g by omega)
 replace Xg4:=Xg4.chg C (show g4≠g by omega)
 replace Qq6:=Qq6.cg X C (by rfl)
 replace QE:=fun (i:Nat) (hi:i < n)=>And.intro ((QE i hi).1.cg X C (by rfl)) ((QE i hi).2.cg X C (by rfl))
 have X:=Y
 refine gy_done (ge_then (gc_fr [(0,pg g),(5,iU t_),(9,pg g2),(10,pg g4),(12,iI (n:Int))] (gc_seq ?_)))
 replace Nx:=Nx
 replace Ny:=Ny
 replace X:=X.drew
 replace YR:=YR.drew
 replace BB:=chB BB (Below.refl _ _).drew
 replace LP:=LP.trans (Lp.of (Below.refl _ _).drew)
 replace Xg2:=Xg2.drew
 replace Xg4:=Xg4.drew
 replace Qq6:=Qq6.drew
 replace QE:=fun (i:Nat) (hi:i < n)=>And.intro (QE i hi).1.drew (QE i hi).2.drew
 refine gc_draw (fun w'=>Blk w' g2 [.slice ax nx cx] 35/\Blk w' g4 [.slice ay ny cy] 35) (fun _=>false) ⟨Xg2,Xg4⟩ ?_
 refine z 0 40 (pg g2) (zl 1 41 (.slice ax nx cx) (fun _ h=>h.1) 0 (z 2 42 (iU t_) (z 5 45 (pg g4) (zl 6 46 (.slice ay ny cy) (fun _ h=>h.2) 0 (gz_ready [3,11] ?_)))))
 refine ga_call 3 (some 43) 66 #[iU t_] (rOf (x:=t_) (ht).1 (ht).2) ?_ ?_
 ·rintro _ v12 ⟨an11,kn11,dn11,rfl,Nn11,ln11,B⟩
  replace X:=X.keep B
  replace YR:=YR.keep B
  replace BB:=chB BB B
  replace LP:=LP.trans (Lp.of B)
  replace Xg2:=Xg2.keep B
  replace Xg4:=Xg4.keep B
  replace Qq6:=Qq6.keep B
  replace QE:=fun (i:Nat) (hi:i < n)=>And.intro ((QE i hi).1.keep B) ((QE i hi).2.keep B)
  refine ⟨_,rfl,⟨Xg2,Xg4⟩,?_⟩
  refine gz_ready [4,11] ?_
  refine ga_call 4 (some 44) 65 #[.slice ax nx cx,.slice an11 kn11 dn11] (rMul (Nx _ BB) Nn11.a (by omega) (by omega)) ?_ ?_
  ·rintro _ v14 ⟨an13,kn13,dn13,rfl,Nn13,ln13,B⟩
   replace X:=X.keep B
   replace YR:=YR.keep B
   replace BB:=chB BB B
   replace LP:=LP.trans (Lp.of B)
   replace Xg2:=Xg2.keep B
   replace Xg4:=Xg4.keep B
   replace Qq6:=Qq6.keep B
   replace QE:=fun (i:Nat) (hi:i < n)=>And.intro ((QE i hi).1.keep B) ((QE i hi).2.keep B)
   replace Nn11:=Nn11.keep B
   refine ⟨_,rfl,⟨Xg2,Xg4⟩,?_⟩
   refine gz_ready [7,11] ?_
   refine ga_call 7 (some 47) 64 #[.slice an13 kn13 dn13,.slice ay ny cy] (tOfZ (Ny _ BB) (by omega) hz) ?_ ?_
   ·rintro _ v15 ⟨rfl,B⟩
    replace X:=X.keep B
    replace YR:=YR.keep B
    replace BB:=chB BB B
    replace LP:=LP.trans (Lp.of B)
    replace Xg2:=Xg2.keep B
    replace Xg4:=Xg4.keep B
    replace Qq6:=Qq6.keep B
    replace QE:=fun (i:Nat) (hi:i < n)=>And.intro ((QE i hi).1.keep B) ((QE i hi).2.keep B)
    replace Nn11:=Nn11.keep B
    replace Nn13:=Nn13.keep B
    refine ⟨_,rfl,⟨Xg2,Xg4⟩,?_⟩
    refine z 8 39 (.tuple #[.agg #[zS,zS],iI 30]) (z 9 48 (.agg #[zS,zS]) (z 10 49 (iI 30) ?_))
    have lX:=X.lt
    have lXg2:=Xg2.lt
    have lXg4:=Xg4.lt
    refine za 11 13 [zS,zS] 40 (pg) ?_
    intro v16 g17 Xg17 hg17 B
    have hbg17:=Nat.le_trans BB.size hg17
    replace X:=X.keep B
    replace YR:=YR.keep B
    replace BB:=chB BB B
    replace LP:=LP.trans (Lp.of B)
    replace Xg2:=Xg2.keep B
    replace Xg4:=Xg4.keep B
    replace Qq6:=Qq6.keep B
    replace QE:=fun (i:Nat) (hi:i < n)=>And.intro ((QE i hi).1.keep B) ((QE i hi).2.keep B)
    replace Nn11:=Nn11.keep B
    replace Nn13:=Nn13.keep B
    refine ⟨⟨Xg2,Xg4⟩,?_⟩
    refine zs 12 Xg17 0 (.agg #[zS,zS]) [zS,zS] [zS,zS] ?_
    intro v18 Y C
    replace X:=X.chg C (show g≠g17 by omega)
    replace YR:=YR.cg Xg17 C (by rfl) (by decide)
    replace BB:=chN BB C (by omega)
    replace LP:=LP.trans (Lp.cg Xg17 C (by rfl))
    replace Xg2:=Xg2.chg C (show g2≠g17 by omega)
    replace Xg4:=Xg4.chg C (show g4≠g17 by omega)
    replace Qq6:=Qq6.cg Xg17 C (by rfl)
    replace QE:=fun (i:Nat) (hi:i < n)=>And.intro ((QE i hi).1.cg Xg17 C (by rfl)) ((QE i hi).2.cg Xg17 C (by rfl))
    replace Nn11:=NatO.cg Nn11 Xg17 C (by rfl)
    replace Nn13:=NatO.cg Nn13 Xg17 C (by rfl)
    have Xg17:=Y
    refine ⟨⟨Xg2,Xg4⟩,?_⟩
    refine z 13 14 (iI 30) (gz_done (ge_then (gc_fr [(0,pg g),(12,iI (n:Int)),(13,pg g17),(14,iI 30)] (gc_seq (gc_seq (gc_reg (t 50 (iI 30) (t 51 (bT) (gl_nil (ge_then (gc_yes (gc_reg (tc 52 60 #[] (nothing_any) ?_)))))))))))))
    rintro _ v20 ⟨aq19,kq19,dq19,bq19,lq19,eq19,rfl,Qq19,B⟩
    refine ⟨_,rfl,?_⟩
    replace X:=X.keep B
    replace YR:=YR.keep B
    replace BB:=chB BB B
    replace LP:=LP.trans (Lp.of B)
    replace Xg2:=Xg2.keep B
    replace Xg4:=Xg4.keep B
    replace Qq6:=Qq6.keep B
    replace QE:=fun (i:Nat) (hi:i < n)=>And.intro ((QE i hi).1.keep B) ((QE i hi).2.keep B)
    replace Nn11:=Nn11.keep B
    replace Nn13:=Nn13.keep B
    replace Xg17:=Xg17.keep B
    refine ts Xg17 0 (.agg #[.slice aq19 kq19 dq19,.slice bq19 lq19 eq19]) [.slice aq19 kq19 dq19,.slice bq19 lq19 eq19] [.slice aq19 kq19 dq19,.slice bq19 lq19 eq19] ?_
    intro v21 Y C
    replace X:=X.chg C (show g≠g17 by omega)
    replace YR:=YR.cg Xg17 C (by rfl) (by decide)
    replace BB:=chN BB C (by omega)
    replace LP:=LP.trans (Lp.cg Xg17 C (by rfl))
    replace Xg2:=Xg2.chg C (show g2≠g17 by omega)
    replace Xg4:=Xg4.chg C (show g4≠g17 by omega)
    replace Qq6:=Qq6.cg Xg17 C (by rfl)
    replace QE:=fun (i:Nat) (hi:i < n)=>And.intro ((QE i hi).1.cg Xg17 C (by rfl)) ((QE i hi).2.cg Xg17 C (by rfl))
    replace Nn11:=NatO.cg Nn11 Xg17 C (by rfl)
    replace Nn13:=NatO.cg Nn13 Xg17 C (by rfl)
    replace Qq19:=Qq19.cg Xg17 C (by rfl)
    have Xg17:=Y
    refine gl_nil (ge_then ?_)
    replace Nx:=Nx
    replace Ny:=Ny
    replace X:=X.drew
    replace YR:=YR.drew
    replace BB:=chB BB (Below.refl _ _).drew
    replace LP:=LP.trans (Lp.of (Below.refl _ _).drew)
    replace Xg2:=Xg2.drew
    replace Xg4:=Xg4.drew
    replace Qq6:=Qq6.drew
    replace QE:=fun (i:Nat) (hi:i < n)=>And.intro (QE i hi).1.drew (QE i hi).2.drew
    replace Nn11:=Nn11.keep (Below.refl _ _).drew
    replace Nn13:=Nn13.keep (Below.refl _ _).drew
    replace Xg17:=Xg17.drew
    replace Qq19:=Qq19.drew
    refine gc_draw (fun w'=>Blk w' g [.slice ao2 (n + 1) c2] 30/\Blk w' g17 [.slice aq19 kq19 dq19,.slice bq19 lq19 eq19] 40) (fun i=>decide (8<=i)) ⟨X,Xg17⟩ ?_
    refine zp 0 53 (pg g) (zp 1 54 (pg g) (zp 2 55 (pg g) (zl 3 56 (.slice ao2 (n + 1) c2) (fun _ h=>h.1) 0 (zp 4 57 (iI (n:Int)) (zlr 5 58 [.slice aq19 kq19 dq19,.slice bq19 lq19 eq19] (fun _ h=>h.2) 0 (zp 6 59 (pq b2 (n * 8)) ?_ (hrun:=fun _=>congr_v (by rw [Nat.zero_add]) (run_ixa 8 b2 0 (n + 1) c2 n hk_n YR.p0))))))))
    refine zp 7 60 (pq b2 (n * 8 + 2)) (gz_late (ys 8 (YR.blk (YR.c0 hk_n)) (n * 8 + 2) (.agg #[.slice aq19 kq19 dq19,.slice bq19 lq19 eq19]) [.slice aq19 kq19 dq19,.slice bq19 lq19 eq19] (fl (upE E1 n ⟨(E1 n).v,(E1 n).d,(aq19,kq19,dq19,bq19,lq19,eq19),(E1 n).ov,(0:Rat),(E1 n).o,(E1 n).p,(E1 n).k⟩) (n + 1) ++ zrs zz2) ?_ (hb:=fl_room E1 hk_n 2 [.slice aq19 kq19 dq19,.slice bq19 lq19 eq19] (zrs zz2) (Nat.le_of_ble_eq_true rfl)) (he:=fl_set E1 hk_n 2 [.slice aq19 kq19 dq19,.slice bq19 lq19 eq19] ⟨(E1 n).v,(E1 n).d,(aq19,kq19,dq19,bq19,lq19,eq19),(E1 n).ov,(0:Rat),(E1 n).o,(E1 n).p,(E1 n).k⟩ (zrs zz2) (Nat.le_of_ble_eq_true rfl) rfl)))
    intro v22 Y C
    have hwn:spl (cel (E1 n)) 2 [.slice aq19 kq19 dq19,.slice bq19 lq19 eq19]=cel ⟨(E1 n).v,(E1 n).d,(aq19,kq19,dq19,bq19,lq19,eq19),(E1 n).ov,(0:Rat),(E1 n).o,(E1 n).p,(E1 n).k⟩:=rfl
    obtain ⟨YR2,P⟩:=YR.st hk_n 2 [.slice aq19 kq19 dq19,.slice bq19 lq19 eq19] ⟨(E1 n).v,(E1 n).d,(aq19,kq19,dq19,bq19,lq19,eq19),(E1 n).ov,(0:Rat),(E1 n).o,(E1 n).p,(E1 n).k⟩ (Nat.le_of_ble_eq_true rfl) rfl (by rfl) Y C
    replace X:=X.chg C (YR.ne X (by decide) (YR.c0 hk_n)).symm
    replace BB:=chE BB C hb3
    replace LP:=LP.trans P
    replace Xg2:=Xg2.chg C (YR.ne Xg2 (by decide) (YR.c0 hk_n)).symm
    replace Xg4:=Xg4.chg C (YR.ne Xg4 (by decide) (YR.c0 hk_n)).symm
    replace Qq6:=Qq6.lp P
    replace QE:=fun (i:Nat) (hi:i < n)=>And.intro ((QE i hi).1.lp P) ((QE i hi).2.lp P)
    replace Nn11:=NatO.lp Nn11 P
    replace Nn13:=NatO.lp Nn13 P
    replace Xg17:=Xg17.chg C (YR.ne Xg17 (by decide) (YR.c0 hk_n)).symm
    replace Qq19:=Qq19.lp P
    clear YR C P
    have YR:=YR2
    clear YR2
    refine gy_done (ge_end (.tuple #[]) (rs0 (by kernel_rfl)) ?_)
    have e1:upE E1 n ⟨(E1 n).v,(E1 n).d,(aq19,kq19,dq19,bq19,lq19,eq19),(E1 n).ov,(0:Rat),(E1 n).o,(E1 n).p,(E1 n).k⟩=upE E n ⟨v,d,(aq19,kq19,dq19,bq19,lq19,eq19),eN.ov,qv (x * t_) yv,eN.o,0,0⟩:=by
     rw [<- hE1]
     funext j
     by_cases q:j=n
     ·subst q; rw [<- heN]; simp [upE,qv,hz]
     ·simp [upE,q]
    rw [e1] at YR
    have hS:sO (upE E n ⟨v,d,(aq19,kq19,dq19,bq19,lq19,eq19),eN.ov,qv (x * t_) yv,eN.o,0,0⟩) (n + 1)=sHold (sO E n) v d x yv t_:=by
     unfold sHold
     rw [sO_no hno,if_neg (by simp),sO_up,<- heN]
    have q1:=Qq19
    have q2:=Qq6
    refine ⟨_,_,_,_,_,_,_,rfl,X,YR.ry (fun i hi => ?_) (fun i hi => ?_),hS,fun _=>hb3,BB,LP⟩
    ·by_cases h:i=n
     ·subst h; rw [show upE E i _ i=_ from if_pos rfl]; rw [<- heN]; exact ⟨q1.is (by simp [qv,hz]),q2⟩
     ·rw [show upE E n _ i=E i from if_neg h]; exact QE i (by omega)
    ·by_cases h:i=n
     ·subst h; rw [show upE E i _ i=_ from if_pos rfl]; exact ⟨hv,hd⟩
     ·rw [show upE E n _ i=E i from if_neg h]; exact rgE i (by omega)
   have lX:=X.lt
   have lXg2:=Xg2.lt
   have lXg4:=Xg4.lt
   refine zaa 11 13 [zS,zS] 40 (pg) ?_ ?_
   ·intro v23 g24 Xg24 hg24 B
    have hbg24:=Nat.le_trans BB.size hg24
    replace X:=X.keep B
    replace YR:=YR.keep B
    replace BB:=chB BB B
    replace LP:=LP.trans (Lp.of B)
    replace Xg2:=Xg2.keep B
    replace Xg4:=Xg4.keep B
    replace Qq6:=Qq6.keep B
    replace QE:=fun (i:Nat) (hi:i < n)=>And.intro ((QE i hi).1.keep B) ((QE i hi).2.keep B)
    replace Nn11:=Nn11.keep B
    replace Nn13:=Nn13.keep B
    refine ⟨⟨Xg2,Xg4⟩,?_⟩
    refine zc 7 47 64 #[.slice an13 kn13 dn13,.slice ay ny cy] (tOfZ (Ny _ BB) (by omega) hz) ?_
    rintro _ v25 ⟨rfl,B⟩
    replace X:=X.keep B
    replace YR:=YR.keep B
    replace BB:=chB BB B
    replace LP:=LP.trans (Lp.of B)
    replace Xg2:=Xg2.keep B
    replace Xg4:=Xg4.keep B
    replace Qq6:=Qq6.keep B
    replace QE:=fun (i:Nat) (hi:i < n)=>And.intro ((QE i hi).1.keep B) ((QE i hi).2.keep B)
    replace Nn11:=Nn11.keep B
    replace Nn13:=Nn13.keep B
    replace Xg24:=Xg24.keep B
    refine ⟨_,rfl,⟨Xg2,Xg4⟩,?_⟩
    refine z 8 39 (.tuple #[.agg #[zS,zS],iI 30]) (z 9 48 (.agg #[zS,zS]) (z 10 49 (iI 30) (zs 12 Xg24 0 (.agg #[zS,zS]) [zS,zS] [zS,zS] ?_)))
    intro v26 Y C
    replace X:=X.chg C (show g≠g24 by omega)
    replace YR:=YR.cg Xg24 C (by rfl) (by decide)
    replace BB:=chN BB C (by omega)
    replace LP:=LP.trans (Lp.cg Xg24 C (by rfl))
    replace Xg2:=Xg2.chg C (show g2≠g24 by omega)
    replace Xg4:=Xg4.chg C (show g4≠g24 by omega)
    replace Qq6:=Qq6.cg Xg24 C (by rfl)
    replace QE:=fun (i:Nat) (hi:i < n)=>And.intro ((QE i hi).1.cg Xg24 C (by rfl)) ((QE i hi).2.cg Xg24 C (by rfl))
    replace Nn11:=NatO.cg Nn11 Xg24 C (by rfl)
    replace Nn13:=NatO.cg Nn13 Xg24 C (by rfl)
    have Xg24:=Y
    refine ⟨⟨Xg2,Xg4⟩,?_⟩
    refine z 13 14 (iI 30) (gz_done (ge_then (gc_fr [(0,pg g),(12,iI (n:Int)),(13,pg g24),(14,iI 30)] (gc_seq (gc_seq (gc_reg (t 50 (iI 30) (t 51 (bT) (gl_nil (ge_then (gc_yes (gc_reg (tc 52 60 #[] (nothing_any) ?_)))))))))))))
    rintro _ v28 ⟨aq27,kq27,dq27,bq27,lq27,eq27,rfl,Qq27,B⟩
    refine ⟨_,rfl,?_⟩
    replace X:=X.keep B
    replace YR:=YR.keep B
    replace BB:=chB BB B
    replace LP:=LP.trans (Lp.of B)
    replace Xg2:=Xg2.keep B
    replace Xg4:=Xg4.keep B
    replace Qq6:=Qq6.keep B
    replace QE:=fun (i:Nat) (hi:i < n)=>And.intro ((QE i hi).1.keep B) ((QE i hi).2.keep B)
    replace Nn11:=Nn11.keep B
    replace Nn13:=Nn13.keep B
    replace Xg24:=Xg24.keep B
    refine ts Xg24 0 (.agg #[.slice aq27 kq27 dq27,.slice bq27 lq27 eq27]) [.slice aq27 kq27 dq27,.slice bq27 lq27 eq27] [.slice aq27 kq27 dq27,.slice bq27 lq27 eq27] ?_
    intro v29 Y C
    replace X:=X.chg C (show g≠g24 by omega)
    replace YR:=YR.cg Xg24 C (by rfl) (by decide)
    replace BB:=chN BB C (by omega)
    replace LP:=LP.trans (Lp.cg Xg24 C (by rfl))
    replace Xg2:=Xg2.chg C (show g2≠g24 by omega)
    replace Xg4:=Xg4.chg C (show g4≠g24 by omega)
    replace Qq6:=Qq6.cg Xg24 C (by rfl)
    replace QE:=fun (i:Nat) (hi:i < n)=>And.intro ((QE i hi).1.cg Xg24 C (by rfl)) ((QE i hi).2.cg Xg24 C (by rfl))
    replace Nn11:=NatO.cg Nn11 Xg24 C (by rfl)
    replace Nn13:=NatO.cg Nn13 Xg24 C (by rfl)
    replace Qq27:=Qq27.cg Xg24 C (by rfl)
    have Xg24:=Y
    refine gl_nil (ge_then ?_)
    replace Nx:=Nx
    replace Ny:=Ny
    replace X:=X.drew
    replace YR:=YR.drew
    replace BB:=chB BB (Below.refl _ _).drew
    replace LP:=LP.trans (Lp.of (Below.refl _ _).drew)
    replace Xg2:=Xg2.drew
    replace Xg4:=Xg4.drew
    replace Qq6:=Qq6.drew
    replace QE:=fun (i:Nat) (hi:i < n)=>And.intro (QE i hi).1.drew (QE i hi).2.drew
    replace Nn11:=Nn11.keep (Below.refl _ _).drew
    replace Nn13:=Nn13.keep (Below.refl _ _).drew
    replace Xg24:=Xg24.drew
    replace Qq27:=Qq27.drew
    refine gc_draw (fun w'=>Blk w' g [.slice ao2 (n + 1) c2] 30/\Blk w' g24 [.slice aq27 kq27 dq27,.slice bq27 lq27 eq27] 40) (fun i=>decide (8<=i)) ⟨X,Xg24⟩ ?_
    refine zp 0 53 (pg g) (zp 1 54 (pg g) (zp 2 55 (pg g) (zl 3 56 (.slice ao2 (n + 1) c2) (fun _ h=>h.1) 0 (zp 4 57 (iI (n:Int)) (zlr 5 58 [.slice aq27 kq27 dq27,.slice bq27 lq27 eq27] (fun _ h=>h.2) 0 (zp 6 59 (pq b2 (n * 8)) ?_ (hrun:=fun _=>congr_v (by rw [Nat.zero_add]) (run_ixa 8 b2 0 (n + 1) c2 n hk_n YR.p0))))))))
    refine zp 7 60 (pq b2 (n * 8 + 2)) (gz_late (ys 8 (YR.blk (YR.c0 hk_n)) (n * 8 + 2) (.agg #[.slice aq27 kq27 dq27,.slice bq27 lq27 eq27]) [.slice aq27 kq27 dq27,.slice bq27 lq27 eq27] (fl (upE E1 n ⟨(E1 n).v,(E1 n).d,(aq27,kq27,dq27,bq27,lq27,eq27),(E1 n).ov,(0:Rat),(E1 n).o,(E1 n).p,(E1 n).k⟩) (n + 1) ++ zrs zz2) ?_ (hb:=fl_room E1 hk_n 2 [.slice aq27 kq27 dq27,.slice bq27 lq27 eq27] (zrs zz2) (Nat.le_of_ble_eq_true rfl)) (he:=fl_set E1 hk_n 2 [.slice aq27 kq27 dq27,.slice bq27 lq27 eq27] ⟨(E1 n).v,(E1 n).d,(aq27,kq27,dq27,bq27,lq27,eq27),(E1 n).ov,(0:Rat),(E1 n).o,(E1 n).p,(E1 n).k⟩ (zrs zz2) (Nat.le_of_ble_eq_true rfl) rfl)))
    intro v30 Y C
    have hwn:spl (cel (E1 n)) 2 [.slice aq27 kq27 dq27,.slice bq27 lq27 eq27]=cel ⟨(E1 n).v,(E1 n).d,(aq27,kq27,dq27,bq27,lq27,eq27),(E1 n).ov,(0:Rat),(E1 n).o,(E1 n).p,(E1 n).k⟩:=rfl
    obtain ⟨YR2,P⟩:=YR.st hk_n 2 [.slice aq27 kq27 dq27,.slice bq27 lq27 eq27] ⟨(E1 n).v,(E1 n).d,(aq27,kq27,dq27,bq27,lq27,eq27),(E1 n).ov,(0:Rat),(E1 n).o,(E1 n).p,(E1 n).k⟩ (Nat.le_of_ble_eq_true rfl) rfl (by rfl) Y C
    replace X:=X.chg C (YR.ne X (by decide) (YR.c0 hk_n)).symm
    replace BB:=chE BB C hb3
    replace LP:=LP.trans P
    replace Xg2:=Xg2.chg C (YR.ne Xg2 (by decide) (YR.c0 hk_n)).symm
    replace Xg4:=Xg4.chg C (YR.ne Xg4 (by decide) (YR.c0 hk_n)).symm
    replace Qq6:=Qq6.lp P
    replace QE:=fun (i:Nat) (hi:i < n)=>And.intro ((QE i hi).1.lp P) ((QE i hi).2.lp P)
    replace Nn11:=NatO.lp Nn11 P
    replace Nn13:=NatO.lp Nn13 P
    replace Xg24:=Xg24.chg C (YR.ne Xg24 (by decide) (YR.c0 hk_n)).symm
    replace Qq27:=Qq27.lp P
    clear YR C P
    have YR:=YR2
    clear YR2
    refine gy_done (ge_end (.tuple #[]) (rs0 (by kernel_rfl)) ?_)
    have e1:upE E1 n ⟨(E1 n).v,(E1 n).d,(aq27,kq27,dq27,bq27,lq27,eq27),(E1 n).ov,(0:Rat),(E1 n).o,(E1 n).p,(E1 n).k⟩=upE E n ⟨v,d,(aq27,kq27,dq27,bq27,lq27,eq27),eN.ov,qv (x * t_) yv,eN.o,0,0⟩:=by
     rw [<- hE1]
     funext j
     by_cases q:j=n
     ·subst q; rw [<- heN]; simp [upE,qv,hz]
     ·simp [upE,q]
    rw [e1] at YR
    have hS:sO (upE E n ⟨v,d,(aq27,kq27,dq27,bq27,lq27,eq27),eN.ov,qv (x * t_) yv,eN.o,0,0⟩) (n + 1)=sHold (sO E n) v d x yv t_:=by
     unfold sHold
     rw [sO_no hno,if_neg (by simp),sO_up,<- heN]
    have q1:=Qq27
    have q2:=Qq6
    refine ⟨_,_,_,_,_,_,_,rfl,X,YR.ry (fun i hi => ?_) (fun i hi => ?_),hS,fun _=>hb3,BB,LP⟩
    ·by_cases h:i=n
     ·subst h; rw [show upE E i _ i=_ from if_pos rfl]; rw [<- heN]; exact ⟨q1.is (by simp [qv,hz]),q2⟩
     ·rw [show upE E n _ i=E i from if_neg h]; exact QE i (by omega)
    ·by_cases h:i=n
     ·subst h; rw [show upE E i _ i=_ from if_pos rfl]; exact ⟨hv,hd⟩
     ·rw [show upE E n _ i=E i from if_neg h]; exact rgE i (by omega)
   exact ga_nil
  have lX:=X.lt
  have lXg2:=Xg2.lt
  have lXg4:=Xg4.lt
  refine zaa 11 13 [zS,zS] 40 (pg) ?_ ?_
  ·intro v31 g32 Xg32 hg32 B
   have hbg32:=Nat.le_trans BB.size hg32
   replace X:=X.keep B
   replace YR:=YR.keep B
   replace BB:=chB BB B
   replace LP:=LP.trans (Lp.of B)
   replace Xg2:=Xg2.keep B
   replace Xg4:=Xg4.keep B
   replace Qq6:=Qq6.keep B
   replace QE:=fun (i:Nat) (hi:i < n)=>And.intro ((QE i hi).1.keep B) ((QE i hi).2.keep B)
   replace Nn11:=Nn11.keep B
   refine ⟨⟨Xg2,Xg4⟩,?_⟩
   refine zc 4 44 65 #[.slice ax nx cx,.slice an11 kn11 dn11] (rMul (Nx _ BB) Nn11.a (by omega) (by omega)) ?_
   rintro _ v34 ⟨an33,kn33,dn33,rfl,Nn33,ln33,B⟩
   replace X:=X.keep B
   replace YR:=YR.keep B
   replace BB:=chB BB B
   replace LP:=LP.trans (Lp.of B)
   replace Xg2:=Xg2.keep B
   replace Xg4:=Xg4.keep B
   replace Qq6:=Qq6.keep B
   replace QE:=fun (i:Nat) (hi:i < n)=>And.intro ((QE i hi).1.keep B) ((QE i hi).2.keep B)
   replace Nn11:=Nn11.keep B
   replace Xg32:=Xg32.keep B
   refine ⟨_,rfl,⟨Xg2,Xg4⟩,?_⟩
   refine zc 7 47 64 #[.slice an33 kn33 dn33,.slice ay ny cy] (tOfZ (Ny _ BB) (by omega) hz) ?_
   rintro _ v35 ⟨rfl,B⟩
   replace X:=X.keep B
   replace YR:=YR.keep B
   replace BB:=chB BB B
   replace LP:=LP.trans (Lp.of B)
   replace Xg2:=Xg2.keep B
   replace Xg4:=Xg4.keep B
   replace Qq6:=Qq6.keep B
   replace QE:=fun (i:Nat) (hi:i < n)=>And.intro ((QE i hi).1.keep B) ((QE i hi).2.keep B)
   replace Nn11:=Nn11.keep B
   replace Xg32:=Xg32.keep B
   replace Nn33:=Nn33.keep B
   refine ⟨_,rfl,⟨Xg2,Xg4⟩,?_⟩
   refine z 8 39 (.tuple #[.agg #[zS,zS],iI 30]) (z 9 48 (.agg #[zS,zS]) (z 10 49 (iI 30) (zs 12 Xg32 0 (.agg #[zS,zS]) [zS,zS] [zS,zS] ?_)))
   intro v36 Y C
   replace X:=X.chg C (show g≠g32 by omega)
   replace YR:=YR.cg Xg32 C (by rfl) (by decide)
   replace BB:=chN BB C (by omega)
   replace LP:=LP.trans (Lp.cg Xg32 C (by rfl))
   replace Xg2:=Xg2.chg C (show g2≠g32 by omega)
   replace Xg4:=Xg4.chg C (show g4≠g32 by omega)
   replace Qq6:=Qq6.cg Xg32 C (by rfl)
   replace QE:=fun (i:Nat) (hi:i < n)=>And.intro ((QE i hi).1.cg Xg32 C (by rfl)) ((QE i hi).2.cg Xg32 C (by rfl))
   replace Nn11:=NatO.cg Nn11 Xg32 C (by rfl)
   replace Nn33:=NatO.cg Nn33 Xg32 C (by rfl)
   have Xg32:=Y
   refine ⟨⟨Xg2,Xg4⟩,?_⟩
   refine z 13 14 (iI 30) (gz_done (ge_then (gc_fr [(0,pg g),(12,iI (n:Int)),(13,pg g32),(14,iI 30)] (gc_seq (gc_seq (gc_reg (t 50 (iI 30) (t 51 (bT) (gl_nil (ge_then (gc_yes (gc_reg (tc 52 60 #[] (nothing_any) ?_)))))))))))))
   rintro _ v38 ⟨aq37,kq37,dq37,bq37,lq37,eq37,rfl,Qq37,B⟩
   refine ⟨_,rfl,?_⟩
   replace X:=X.keep B
   replace YR:=YR.keep B
   replace BB:=chB BB B
   replace LP:=LP.trans (Lp.of B)
   replace Xg2:=Xg2.keep B
   replace Xg4:=Xg4.keep B
   replace Qq6:=Qq6.keep B
   replace QE:=fun (i:Nat) (hi:i < n)=>And.intro ((QE i hi).1.keep B) ((QE i hi).2.keep B)
   replace Nn11:=Nn11.keep B
   replace Xg32:=Xg32.keep B
   replace Nn33:=Nn33.keep B
   refine ts Xg32 0 (.agg #[.slice aq37 kq37 dq37,.slice bq37 lq37 eq37]) [.slice aq37 kq37 dq37,.slice bq37 lq37 eq37] [.slice aq37 kq37 dq37,.slice bq37 lq37 eq37] ?_
   intro v39 Y C
   replace X:=X.chg C (show g≠g32 by omega)
   replace YR:=YR.cg Xg32 C (by rfl) (by decide)
   replace BB:=chN BB C (by omega)
   replace LP:=LP.trans (Lp.cg Xg32 C (by rfl))
   replace Xg2:=Xg2.chg C (show g2≠g32 by omega)
   replace Xg4:=Xg4.chg C (show g4≠g32 by omega)
   replace Qq6:=Qq6.cg Xg32 C (by rfl)
   replace QE:=fun (i:Nat) (hi:i < n)=>And.intro ((QE i hi).1.cg Xg32 C (by rfl)) ((QE i hi).2.cg Xg32 C (by rfl))
   replace Nn11:=NatO.cg Nn11 Xg32 C (by rfl)
   replace Nn33:=NatO.cg Nn33 Xg32 C (by rfl)
   replace Qq37:=Qq37.cg Xg32 C (by rfl)
   have Xg32:=Y
   refine gl_nil (ge_then ?_)
   replace Nx:=Nx
   replace Ny:=Ny
   replace X:=X.drew
   replace YR:=YR.drew
   replace BB:=chB BB (Below.refl _ _).drew
   replace LP:=LP.trans (Lp.of (Below.refl _ _).drew)
   replace Xg2:=Xg2.drew
   replace Xg4:=Xg4.drew
   replace Qq6:=Qq6.drew
   replace QE:=fun (i:Nat) (hi:i < n)=>And.intro (QE i hi).1.drew (QE i hi).2.drew
   replace Nn11:=Nn11.keep (Below.refl _ _).drew
   replace Xg32:=Xg32.drew
   replace Nn33:=Nn33.keep (Below.refl _ _).drew
   replace Qq37:=Qq37.drew
   refine gc_draw (fun w'=>Blk w' g [.slice ao2 (n + 1) c2] 30/\Blk w' g32 [.slice aq37 kq37 dq37,.slice bq37 lq37 eq37] 40) (fun i=>decide (8<=i)) ⟨X,Xg32⟩ ?_
   refine zp 0 53 (pg g) (zp 1 54 (pg g) (zp 2 55 (pg g) (zl 3 56 (.slice ao2 (n + 1) c2) (fun _ h=>h.1) 0 (zp 4 57 (iI (n:Int)) (zlr 5 58 [.slice aq37 kq37 dq37,.slice bq37 lq37 eq37] (fun _ h=>h.2) 0 (zp 6 59 (pq b2 (n * 8)) ?_ (hrun:=fun _=>congr_v (by rw [Nat.zero_add]) (run_ixa 8 b2 0 (n + 1) c2 n hk_n YR.p0))))))))
   refine zp 7 60 (pq b2 (n * 8 + 2)) (gz_late (ys 8 (YR.blk (YR.c0 hk_n)) (n * 8 + 2) (.agg #[.slice aq37 kq37 dq37,.slice bq37 lq37 eq37]) [.slice aq37 kq37 dq37,.slice bq37 lq37 eq37] (fl (upE E1 n ⟨(E1 n).v,(E1 n).d,(aq37,kq37,dq37,bq37,lq37,eq37),(E1 n).ov,(0:Rat),(E1 n).o,(E1 n).p,(E1 n).k⟩) (n + 1) ++ zrs zz2) ?_ (hb:=fl_room E1 hk_n 2 [.slice aq37 kq37 dq37,.slice bq37 lq37 eq37] (zrs zz2) (Nat.le_of_ble_eq_true rfl)) (he:=fl_set E1 hk_n 2 [.slice aq37 kq37 dq37,.slice bq37 lq37 eq37] ⟨(E1 n).v,(E1 n).d,(aq37,kq37,dq37,bq37,lq37,eq37),(E1 n).ov,(0:Rat),(E1 n).o,(E1 n).p,(E1 n).k⟩ (zrs zz2) (Nat.le_of_ble_eq_true rfl) rfl)))
   intro v40 Y C
   have hwn:spl (cel (E1 n)) 2 [.slice aq37 kq37 dq37,.slice bq37 lq37 eq37]=cel ⟨(E1 n).v,(E1 n).d,(aq37,kq37,dq37,bq37,lq37,eq37),(E1 n).ov,(0:Rat),(E1 n).o,(E1 n).p,(E1 n).k⟩:=rfl
   obtain ⟨YR2,P⟩:=YR.st hk_n 2 [.slice aq37 kq37 dq37,.slice bq37 lq37 eq37] ⟨(E1 n).v,(E1 n).d,(aq37,kq37,dq37,bq37,lq37,eq37),(E1 n).ov,(0:Rat),(E1 n).o,(E1 n).p,(E1 n).k⟩ (Nat.le_of_ble_eq_true rfl) rfl (by rfl) Y C
   replace X:=X.chg C (YR.ne X (by decide) (YR.c0 hk_n)).symm
   replace BB:=chE BB C hb3
   replace LP:=LP.trans P
   replace Xg2:=Xg2.chg C (YR.ne Xg2 (by decide) (YR.c0 hk_n)).symm
   replace Xg4:=Xg4.chg C (YR.ne Xg4 (by decide) (YR.c0 hk_n)).symm
   replace Qq6:=Qq6.lp P
   replace QE:=fun (i:Nat) (hi:i < n)=>And.intro ((QE i hi).1.lp P) ((QE i hi).2.lp P)
   replace Nn11:=NatO.lp Nn11 P
   replace Xg32:=Xg32.chg C (YR.ne Xg32 (by decide) (YR.c0 hk_n)).symm
   replace Nn33:=NatO.lp Nn33 P
   replace Qq37:=Qq37.lp P
   clear YR C P
   have YR:=YR2
   clear YR2
   refine gy_done (ge_end (.tuple #[]) (rs0 (by kernel_rfl)) ?_)
   have e1:upE E1 n ⟨(E1 n).v,(E1 n).d,(aq37,kq37,dq37,bq37,lq37,eq37),(E1 n).ov,(0:Rat),(E1 n).o,(E1 n).p,(E1 n).k⟩=upE E n ⟨v,d,(aq37,kq37,dq37,bq37,lq37,eq37),eN.ov,qv (x * t_) yv,eN.o,0,0⟩:=by
    rw [<- hE1]
    funext j
    by_cases q:j=n
    ·subst q; rw [<- heN]; simp [upE,qv,hz]
    ·simp [upE,q]
   rw [e1] at YR
   have hS:sO (upE E n ⟨v,d,(aq37,kq37,dq37,bq37,lq37,eq37),eN.ov,qv (x * t_) yv,eN.o,0,0⟩) (n + 1)=sHold (sO E n) v d x yv t_:=by
    unfold sHold
    rw [sO_no hno,if_neg (by simp),sO_up,<- heN]
   have q1:=Qq37
   have q2:=Qq6
   refine ⟨_,_,_,_,_,_,_,rfl,X,YR.ry (fun i hi => ?_) (fun i hi => ?_),hS,fun _=>hb3,BB,LP⟩
   ·by_cases h:i=n
    ·subst h; rw [show upE E i _ i=_ from if_pos rfl]; rw [<- heN]; exact ⟨q1.is (by simp [qv,hz]),q2⟩
    ·rw [show upE E n _ i=E i from if_neg h]; exact QE i (by omega)
   ·by_cases h:i=n
    ·subst h; rw [show upE E i _ i=_ from if_pos rfl]; exact ⟨hv,hd⟩
    ·rw [show upE E n _ i=E i from if_neg h]; exact rgE i (by omega)
  exact ga_nil
 have lX:=X.lt
 have lXg2:=Xg2.lt
 have lXg4:=Xg4.lt
 refine zaa 11 13 [zS,zS] 40 (pg) ?_ ?_
 ·intro v41 g42 Xg42 hg42 B
  have hbg42:=Nat.le_trans BB.size hg42
  replace X:=X.keep B
  replace YR:=YR.keep B
  replace BB:=chB BB B
  replace LP:=LP.trans (Lp.of B)
  replace Xg2:=Xg2.keep B
  replace Xg4:=Xg4.keep B
  replace Qq6:=Qq6.keep B
  replace QE:=fun (i:Nat) (hi:i < n)=>And.intro ((QE i hi).1.keep B) ((QE i hi).2.keep B)
  refine ⟨⟨Xg2,Xg4⟩,?_⟩
  refine zc 3 43 66 #[iU t_] (rOf (x:=t_) (ht).1 (ht).2) ?_
  rintro _ v44 ⟨an43,kn43,dn43,rfl,Nn43,ln43,B⟩
  replace X:=X.keep B
  replace YR:=YR.keep B
  replace BB:=chB BB B
  replace LP:=LP.trans (Lp.of B)
  replace Xg2:=Xg2.keep B
  replace Xg4:=Xg4.keep B
  replace Qq6:=Qq6.keep B
  replace QE:=fun (i:Nat) (hi:i < n)=>And.intro ((QE i hi).1.keep B) ((QE i hi).2.keep B)
  replace Xg42:=Xg42.keep B
  refine ⟨_,rfl,⟨Xg2,Xg4⟩,?_⟩
  refine zc 4 44 65 #[.slice ax nx cx,.slice an43 kn43 dn43] (rMul (Nx _ BB) Nn43.a (by omega) (by omega)) ?_
  rintro _ v46 ⟨an45,kn45,dn45,rfl,Nn45,ln45,B⟩
  replace X:=X.keep B
  replace YR:=YR.keep B
  replace BB:=chB BB B
  replace LP:=LP.trans (Lp.of B)
  replace Xg2:=Xg2.keep B
  replace Xg4:=Xg4.keep B
  replace Qq6:=Qq6.keep B
  replace QE:=fun (i:Nat) (hi:i < n)=>And.intro ((QE i hi).1.keep B) ((QE i hi).2.keep B)
  replace Xg42:=Xg42.keep B
  replace Nn43:=Nn43.keep B
  refine ⟨_,rfl,⟨Xg2,Xg4⟩,?_⟩
  refine zc 7 47 64 #[.slice an45 kn45 dn45,.slice ay ny cy] (tOfZ (Ny _ BB) (by omega) hz) ?_
  rintro _ v47 ⟨rfl,B⟩
  replace X:=X.keep B
  replace YR:=YR.keep B
  replace BB:=chB BB B
  replace LP:=LP.trans (Lp.of B)
  replace Xg2:=Xg2.keep B
  replace Xg4:=Xg4.keep B
  replace Qq6:=Qq6.keep B
  replace QE:=fun (i:Nat) (hi:i < n)=>And.intro ((QE i hi).1.keep B) ((QE i hi).2.keep B)
  replace Xg42:=Xg42.keep B
  replace Nn43:=Nn43.keep B
  replace Nn45:=Nn45.keep B
  refine ⟨_,rfl,⟨Xg2,Xg4⟩,?_⟩
  refine z 8 39 (.tuple #[.agg #[zS,zS],iI 30]) (z 9 48 (.agg #[zS,zS]) (z 10 49 (iI 30) (zs 12 Xg42 0 (.agg #[zS,zS]) [zS,zS] [zS,zS] ?_)))
  intro v48 Y C
  replace X:=X.chg C (show g≠g42 by omega)
  replace YR:=YR.cg Xg42 C (by rfl) (by decide)
  replace BB:=chN BB C (by omega)
  replace LP:=LP.trans (Lp.cg Xg42 C (by rfl))
  replace Xg2:=Xg2.chg C (show g2≠g42 by omega)
  replace Xg4:=Xg4.chg C (show g4≠g42 by omega)
  replace Qq6:=Qq6.cg Xg42 C (by rfl)
  replace QE:=fun (i:Nat) (hi:i < n)=>And.intro ((QE i hi).1.cg Xg42 C (by rfl)) ((QE i hi).2.cg Xg42 C (by rfl))
  replace Nn43:=NatO.cg Nn43 Xg42 C (by rfl)
  replace Nn45:=NatO.cg Nn45 Xg42 C (by rfl)
  have Xg42:=Y
  refine ⟨⟨Xg2,Xg4⟩,?_⟩
  refine z 13 14 (iI 30) (gz_done (ge_then (gc_fr [(0,pg g),(12,iI (n:Int)),(13,pg g42),(14,iI 30)] (gc_seq (gc_seq (gc_reg (t 50 (iI 30) (t 51 (bT) (gl_nil (ge_then (gc_yes (gc_reg (tc 52 60 #[] (nothing_any) ?_)))))))))))))
  rintro _ v50 ⟨aq49,kq49,dq49,bq49,lq49,eq49,rfl,Qq49,B⟩
  refine ⟨_,rfl,?_⟩
  replace X:=X.keep B
  replace YR:=YR.keep B
  replace BB:=chB BB B
  replace LP:=LP.trans (Lp.of B)
  replace Xg2:=Xg2.keep B
  replace Xg4:=Xg4.keep B
  replace Qq6:=Qq6.keep B
  replace QE:=fun (i:Nat) (hi:i < n)=>And.intro ((QE i hi).1.keep B) ((QE i hi).2.keep B)
  replace Xg42:=Xg42.keep B
  replace Nn43:=Nn43.keep B
  replace Nn45:=Nn45.keep B
  refine ts Xg42 0 (.agg #[.slice aq49 kq49 dq49,.slice bq49 lq49 eq49]) [.slice aq49 kq49 dq49,.slice bq49 lq49 eq49] [.slice aq49 kq49 dq49,.slice bq49 lq49 eq49] ?_
  intro v51 Y C
  replace X:=X.chg C (show g≠g42 by omega)
  replace YR:=YR.cg Xg42 C (by rfl) (by decide)
  replace BB:=chN BB C (by omega)
  replace LP:=LP.trans (Lp.cg Xg42 C (by rfl))
  replace Xg2:=Xg2.chg C (show g2≠g42 by omega)
  replace Xg4:=Xg4.chg C (show g4≠g42 by omega)
  replace Qq6:=Qq6.cg Xg42 C (by rfl)
  replace QE:=fun (i:Nat) (hi:i < n)=>And.intro ((QE i hi).1.cg Xg42 C (by rfl)) ((QE i hi).2.cg Xg42 C (by rfl))
  replace Nn43:=NatO.cg Nn43 Xg42 C (by rfl)
  replace Nn45:=NatO.cg Nn45 Xg42 C (by rfl)
  replace Qq49:=Qq49.cg Xg42 C (by rfl)
  have Xg42:=Y
  refine gl_nil (ge_then ?_)
  replace Nx:=Nx
  replace Ny:=Ny
  replace X:=X.drew
  replace YR:=YR.drew
  replace BB:=chB BB (Below.refl _ _).drew
  replace LP:=LP.trans (Lp.of (Below.refl _ _).drew)
  replace Xg2:=Xg2.drew
  replace Xg4:=Xg4.drew
  replace Qq6:=Qq6.drew
  replace QE:=fun (i:Nat) (hi:i < n)=>And.intro (QE i hi).1.drew (QE i hi).2.drew
  replace Xg42:=Xg42.drew
  replace Nn43:=Nn43.keep (Below.refl _ _).drew
  replace Nn45:=Nn45.keep (Below.refl _ _).drew
  replace Qq49:=Qq49.drew
  refine gc_draw (fun w'=>Blk w' g [.slice ao2 (n + 1) c2] 30/\Blk w' g42 [.slice aq49 kq49 dq49,.slice bq49 lq49 eq49] 40) (fun i=>decide (8<=i)) ⟨X,Xg42⟩ ?_
  refine zp 0 53 (pg g) (zp 1 54 (pg g) (zp 2 55 (pg g) (zl 3 56 (.slice ao2 (n + 1) c2) (fun _ h=>h.1) 0 (zp 4 57 (iI (n:Int)) (zlr 5 58 [.slice aq49 kq49 dq49,.slice bq49 lq49 eq49] (fun _ h=>h.2) 0 (zp 6 59 (pq b2 (n * 8)) ?_ (hrun:=fun _=>congr_v (by rw [Nat.zero_add]) (run_ixa 8 b2 0 (n + 1) c2 n hk_n YR.p0))))))))
  refine zp 7 60 (pq b2 (n * 8 + 2)) (gz_late (ys 8 (YR.blk (YR.c0 hk_n)) (n * 8 + 2) (.agg #[.slice aq49 kq49 dq49,.slice bq49 lq49 eq49]) [.slice aq49 kq49 dq49,.slice bq49 lq49 eq49] (fl (upE E1 n ⟨(E1 n).v,(E1 n).d,(aq49,kq49,dq49,bq49,lq49,eq49),(E1 n).ov,(0:Rat),(E1 n).o,(E1 n).p,(E1 n).k⟩) (n + 1) ++ zrs zz2) ?_ (hb:=fl_room E1 hk_n 2 [.slice aq49 kq49 dq49,.slice bq49 lq49 eq49] (zrs zz2) (Nat.le_of_ble_eq_true rfl)) (he:=fl_set E1 hk_n 2 [.slice aq49 kq49 dq49,.slice bq49 lq49 eq49] ⟨(E1 n).v,(E1 n).d,(aq49,kq49,dq49,bq49,lq49,eq49),(E1 n).ov,(0:Rat),(E1 n).o,(E1 n).p,(E1 n).k⟩ (zrs zz2) (Nat.le_of_ble_eq_true rfl) rfl)))
  intro v52 Y C
  have hwn:spl (cel (E1 n)) 2 [.slice aq49 kq49 dq49,.slice bq49 lq49 eq49]=cel ⟨(E1 n).v,(E1 n).d,(aq49,kq49,dq49,bq49,lq49,eq49),(E1 n).ov,(0:Rat),(E1 n).o,(E1 n).p,(E1 n).k⟩:=rfl
  obtain ⟨YR2,P⟩:=YR.st hk_n 2 [.slice aq49 kq49 dq49,.slice bq49 lq49 eq49] ⟨(E1 n).v,(E1 n).d,(aq49,kq49,dq49,bq49,lq49,eq49),(E1 n).ov,(0:Rat),(E1 n).o,(E1 n).p,(E1 n).k⟩ (Nat.le_of_ble_eq_true rfl) rfl (by rfl) Y C
  replace X:=X.chg C (YR.ne X (by decide) (YR.c0 hk_n)).symm
  replace BB:=chE BB C hb3
  replace LP:=LP.trans P
  replace Xg2:=Xg2.chg C (YR.ne Xg2 (by decide) (YR.c0 hk_n)).symm
  replace Xg4:=Xg4.chg C (YR.ne Xg4 (by decide) (YR.c0 hk_n)).symm
  replace Qq6:=Qq6.lp P
  replace QE:=fun (i:Nat) (hi:i < n)=>And.intro ((QE i hi).1.lp P) ((QE i hi).2.lp P)
  replace Xg42:=Xg42.chg C (YR.ne Xg42 (by decide) (YR.c0 hk_n)).symm
  replace Nn43:=NatO.lp Nn43 P
  replace Nn45:=NatO.lp Nn45 P
  replace Qq49:=Qq49.lp P
  clear YR C P
  have YR:=YR2
  clear YR2
  refine gy_done (ge_end (.tuple #[]) (rs0 (by kernel_rfl)) ?_)
  have e1:upE E1 n ⟨(E1 n).v,(E1 n).d,(aq49,kq49,dq49,bq49,lq49,eq49),(E1 n).ov,(0:Rat),(E1 n).o,(E1 n).p,(E1 n).k⟩=upE E n ⟨v,d,(aq49,kq49,dq49,bq49,lq49,eq49),eN.ov,qv (x * t_) yv,eN.o,0,0⟩:=by
   rw [<- hE1]
   funext j
   by_cases q:j=n
   ·subst q; rw [<- heN]; simp [upE,qv,hz]
   ·simp [upE,q]
  rw [e1] at YR
  have hS:sO (upE E n ⟨v,d,(aq49,kq49,dq49,bq49,lq49,eq49),eN.ov,qv (x * t_) yv,eN.o,0,0⟩) (n + 1)=sHold (sO E n) v d x yv t_:=by
   unfold sHold
   rw [sO_no hno,if_neg (by simp),sO_up,<- heN]
  have q1:=Qq49
  have q2:=Qq6
  refine ⟨_,_,_,_,_,_,_,rfl,X,YR.ry (fun i hi => ?_) (fun i hi => ?_),hS,fun _=>hb3,BB,LP⟩
  ·by_cases h:i=n
   ·subst h; rw [show upE E i _ i=_ from if_pos rfl]; rw [<- heN]; exact ⟨q1.is (by simp [qv,hz]),q2⟩
   ·rw [show upE E n _ i=E i from if_neg h]; exact QE i (by omega)
  ·by_cases h:i=n
   ·subst h; rw [show upE E i _ i=_ from if_pos rfl]; exact ⟨hv,hd⟩
   ·rw [show upE E n _ i=E i from if_neg h]; exact rgE i (by omega)
 exact ga_nil
theorem rHold_yn {w:World} {g b:Nat} {ao:Option Addr} {n c zz:Nat} {E:Nat->E8} {ax ay:Option Addr} {nx cx ny cy:Nat} {v d x yv t_:Int} (hv:0<=v/\v < 18446744073709551616) (hd:0<=d/\d < 18446744073709551616) (Nx:∀ w',Chg (KF g b c) w w'->NatA w' ax nx cx x) (lx:nx<=100) (Ny:∀ w',Chg (KF g b c) w w'->NatA w' ay ny cy yv) (ly:ny<=100) (ht:0<=t_/\t_ < 18446744073709551616) (X:Blk w g [.slice ao n c] 30) (YR:Ry w b ao n c zz E) (hn:n<=100) (hKn:Kn E n) {i0:Nat} (hk_i0:i0 < n) (hy:(E i0).v=v/\(E i0).d=d) (hu:∀ j,j < i0->¬ ((E j).v=v/\(E j).d=d)) (hz:yv≠0):Calls Tryz.prog 18 #[pg g,.int .u64 v,.int .u64 d,.agg #[.slice ax nx cx],.agg #[.slice ay ny cy],.int .u64 t_] w fun e w'=>∃ F b2 ao2 n2 c2 zz2 v0,e=.returned v0/\Blk w' g [.slice ao2 n2 c2] 30/\Ry w' b2 ao2 n2 c2 zz2 F/\sO F n2=sHold (sO E n) v d x yv t_/\(0 < c2->(0 < c/\b2=b)\/w.heap.size<=b2)/\Chg (KF g b c) w w'/\Lp w w':=by
 have BB:Chg (KF g b c) w w:=Chg.refl _ _
 have LP:=Lp.refl w
 refine gc_enter (n:=61) Tryz.func18 rfl ?_
 refine gc_seq (gc_reg ?_)
 have lX:=X.lt
 refine ta 9 [.slice ax nx cx] 35 (pg) ?_
 intro v1 g2 Xg2 hg2 B
 have hbg2:=Nat.le_trans BB.size hg2
 replace X:=X.keep B
 replace YR:=YR.keep B
 replace BB:=chB BB B
 replace LP:=LP.trans (Lp.of B)
 have lX:=X.lt
 have lXg2:=Xg2.lt
 refine ta 10 [.slice ay ny cy] 35 (pg) ?_
 intro v3 g4 Xg4 hg4 B
 have hbg4:=Nat.le_trans BB.size hg4
 replace X:=X.keep B
 replace YR:=YR.keep B
 replace BB:=chB BB B
 replace LP:=LP.trans (Lp.of B)
 replace Xg2:=Xg2.keep B
 refine gl_nil (ge_then (gc_seq (gc_reg (t 15 (pg g) (t 16 (iU v) (t 17 (iU d) (tc 18 59 #[pg g,iU v,iU d] (at_yes hv hd X YR hn hk_i0 hy hu) ?_)))))))
 rintro _ v5 ⟨rfl,B⟩
 refine ⟨_,rfl,?_⟩
 replace X:=X.keep B
 replace YR:=YR.keep B
 replace BB:=chB BB B
 replace LP:=LP.trans (Lp.of B)
 replace Xg2:=Xg2.keep B
 replace Xg4:=Xg4.keep B
 refine t 12 (iI (i0:Int)) (gl_nil (ge_then (gc_fr [(0,pg g),(1,iU v),(2,iU d),(5,iU t_),(9,pg g2),(10,pg g4),(12,iI (i0:Int))] (gc_seq (gc_seq (gc_reg (t 19 (iI (i0:Int)) (tq 20 (.bool (decide ((i0:Int) < 0))) (bF) (congrArg Value.bool (decide_eq_false (by omega))) (gl_nil (ge_then (gc_no (gc_skip (ge_then (gc_seq ?_))))))))))))))
 replace Nx:=Nx
 replace Ny:=Ny
 replace X:=X.drew
 replace YR:=YR.drew
 replace BB:=chB BB (Below.refl _ _).drew
 replace LP:=LP.trans (Lp.of (Below.refl _ _).drew)
 replace Xg2:=Xg2.drew
 replace Xg4:=Xg4.drew
 refine gc_draw (fun w'=>Blk w' g2 [.slice ax nx cx] 35/\Blk w' g4 [.slice ay ny cy] 35) (fun _=>false) ⟨Xg2,Xg4⟩ ?_
 refine z 0 40 (pg g2) (zl 1 41 (.slice ax nx cx) (fun _ h=>h.1) 0 (z 2 42 (iU t_) (z 5 45 (pg g4) (zl 6 46 (.slice ay ny cy) (fun _ h=>h.2) 0 (gz_ready [3,11] ?_)))))
 refine ga_call 3 (some 43) 66 #[iU t_] (rOf (x:=t_) (ht).1 (ht).2) ?_ ?_
 ·rintro _ v7 ⟨an6,kn6,dn6,rfl,Nn6,ln6,B⟩
  replace X:=X.keep B
  replace YR:=YR.keep B
  replace BB:=chB BB B
  replace LP:=LP.trans (Lp.of B)
  replace Xg2:=Xg2.keep B
  replace Xg4:=Xg4.keep B
  refine ⟨_,rfl,⟨Xg2,Xg4⟩,?_⟩
  refine gz_ready [4,11] ?_
  refine ga_call 4 (some 44) 65 #[.slice ax nx cx,.slice an6 kn6 dn6] (rMul (Nx _ BB) Nn6.a (by omega) (by omega)) ?_ ?_
  ·rintro _ v9 ⟨an8,kn8,dn8,rfl,Nn8,ln8,B⟩
   replace X:=X.keep B
   replace YR:=YR.keep B
   replace BB:=chB BB B
   replace LP:=LP.trans (Lp.of B)
   replace Xg2:=Xg2.keep B
   replace Xg4:=Xg4.keep B
   replace Nn6:=Nn6.keep B
   refine ⟨_,rfl,⟨Xg2,Xg4⟩,?_⟩
   refine gz_ready [7,11] ?_
   refine ga_call 7 (some 47) 64 #[.slice an8 kn8 dn8,.slice ay ny cy] (tpOf (B:=500) Nn8.a (Ny _ BB) (by omega) (by omega) (by omega) (hz)) ?_ ?_
   ·rintro _ v11 ⟨aq10,kq10,dq10,bq10,lq10,eq10,rfl,Qq10,B⟩
    replace X:=X.keep B
    replace YR:=YR.keep B
    replace BB:=chB BB B
    replace LP:=LP.trans (Lp.of B)
    replace Xg2:=Xg2.keep B
    replace Xg4:=Xg4.keep B
    replace Nn6:=Nn6.keep B
    replace Nn8:=Nn8.keep B
    refine ⟨_,rfl,⟨Xg2,Xg4⟩,?_⟩
    refine z 8 39 (.tuple #[.agg #[.slice aq10 kq10 dq10,.slice bq10 lq10 eq10],iI 0]) (z 9 48 (.agg #[.slice aq10 kq10 dq10,.slice bq10 lq10 eq10]) (z 10 49 (iI 0) ?_))
    have lX:=X.lt
    have lXg2:=Xg2.lt
    have lXg4:=Xg4.lt
    refine za 11 13 [zS,zS] 40 (pg) ?_
    intro v12 g13 Xg13 hg13 B
    have hbg13:=Nat.le_trans BB.size hg13
    replace X:=X.keep B
    replace YR:=YR.keep B
    replace BB:=chB BB B
    replace LP:=LP.trans (Lp.of B)
    replace Xg2:=Xg2.keep B
    replace Xg4:=Xg4.keep B
    replace Nn6:=Nn6.keep B
    replace Nn8:=Nn8.keep B
    replace Qq10:=Qq10.keep B
    refine ⟨⟨Xg2,Xg4⟩,?_⟩
    refine zs 12 Xg13 0 (.agg #[.slice aq10 kq10 dq10,.slice bq10 lq10 eq10]) [.slice aq10 kq10 dq10,.slice bq10 lq10 eq10] [.slice aq10 kq10 dq10,.slice bq10 lq10 eq10] ?_
    intro v14 Y C
    replace X:=X.chg C (show g≠g13 by omega)
    replace YR:=YR.cg Xg13 C (by rfl) (by decide)
    replace BB:=chN BB C (by omega)
    replace LP:=LP.trans (Lp.cg Xg13 C (by rfl))
    replace Xg2:=Xg2.chg C (show g2≠g13 by omega)
    replace Xg4:=Xg4.chg C (show g4≠g13 by omega)
    replace Nn6:=NatO.cg Nn6 Xg13 C (by rfl)
    replace Nn8:=NatO.cg Nn8 Xg13 C (by rfl)
    replace Qq10:=Qq10.cg Xg13 C (by rfl)
    have Xg13:=Y
    refine ⟨⟨Xg2,Xg4⟩,?_⟩
    refine z 13 14 (iI 0) (gz_done (ge_then (gc_fr [(0,pg g),(12,iI (i0:Int)),(13,pg g13),(14,iI 0)] (gc_seq (gc_seq (gc_reg (t 50 (iI 0) (t 51 (bF) (gl_nil (ge_then (gc_no (gc_skip (ge_then ?_)))))))))))))
    replace Nx:=Nx
    replace Ny:=Ny
    replace X:=X.drew
    replace YR:=YR.drew
    replace BB:=chB BB (Below.refl _ _).drew
    replace LP:=LP.trans (Lp.of (Below.refl _ _).drew)
    replace Xg2:=Xg2.drew
    replace Xg4:=Xg4.drew
    replace Nn6:=Nn6.keep (Below.refl _ _).drew
    replace Nn8:=Nn8.keep (Below.refl _ _).drew
    replace Qq10:=Qq10.drew
    replace Xg13:=Xg13.drew
    refine gc_draw (fun w'=>Blk w' g [.slice ao n c] 30/\Blk w' g13 [.slice aq10 kq10 dq10,.slice bq10 lq10 eq10] 40/\Ry w' b ao n c zz E) (fun i=>decide (8<=i)) ⟨X,Xg13,YR⟩ ?_
    refine zp 0 53 (pg g) (zp 1 54 (pg g) (zp 2 55 (pg g) (zl 3 56 (.slice ao n c) (fun _ h=>h.1) 0 (zp 4 57 (iI (i0:Int)) (zlr 5 58 [.slice aq10 kq10 dq10,.slice bq10 lq10 eq10] (fun _ h=>h.2.1) 0 (zp 6 59 (pq b (i0 * 8)) ?_ (hrun:=fun _=>congr_v (by rw [Nat.zero_add]) (run_ixa 8 b 0 n c i0 hk_i0 YR.p0))))))))
    refine zp 7 60 (pq b (i0 * 8 + 2)) (gz_late (ys 8 (YR.blk (YR.c0 hk_i0)) (i0 * 8 + 2) (.agg #[.slice aq10 kq10 dq10,.slice bq10 lq10 eq10]) [.slice aq10 kq10 dq10,.slice bq10 lq10 eq10] (fl (upE E i0 ⟨(E i0).v,(E i0).d,(aq10,kq10,dq10,bq10,lq10,eq10),(E i0).ov,((x * t_:Int):Rat) / ((yv:Int):Rat),(E i0).o,(E i0).p,(E i0).k⟩) n ++ zrs zz) ?_ (hb:=fl_room E hk_i0 2 [.slice aq10 kq10 dq10,.slice bq10 lq10 eq10] (zrs zz) (Nat.le_of_ble_eq_true rfl)) (he:=fl_set E hk_i0 2 [.slice aq10 kq10 dq10,.slice bq10 lq10 eq10] ⟨(E i0).v,(E i0).d,(aq10,kq10,dq10,bq10,lq10,eq10),(E i0).ov,((x * t_:Int):Rat) / ((yv:Int):Rat),(E i0).o,(E i0).p,(E i0).k⟩ (zrs zz) (Nat.le_of_ble_eq_true rfl) rfl)))
    intro v15 Y C
    obtain ⟨YR2,P⟩:=YR.st hk_i0 2 [.slice aq10 kq10 dq10,.slice bq10 lq10 eq10] ⟨(E i0).v,(E i0).d,(aq10,kq10,dq10,bq10,lq10,eq10),(E i0).ov,((x * t_:Int):Rat) / ((yv:Int):Rat),(E i0).o,(E i0).p,(E i0).k⟩ (Nat.le_of_ble_eq_true rfl) rfl rfl rfl (by rfl) Qq10 (YR.q i0 hk_i0).2 Y C
    replace X:=X.chg C (YR.ne X (by decide) (YR.c0 hk_i0)).symm
    replace BB:=chS BB C (YR.c0 hk_i0)
    replace LP:=LP.trans P
    replace Xg2:=Xg2.chg C (YR.ne Xg2 (by decide) (YR.c0 hk_i0)).symm
    replace Xg4:=Xg4.chg C (YR.ne Xg4 (by decide) (YR.c0 hk_i0)).symm
    replace Nn6:=NatO.lp Nn6 P
    replace Nn8:=NatO.lp Nn8 P
    replace Qq10:=Qq10.lp P
    replace Xg13:=Xg13.chg C (YR.ne Xg13 (by decide) (YR.c0 hk_i0)).symm
    clear YR C P
    have YR:=YR2
    clear YR2
    obtain ⟨E16,hE16⟩:∃ E16,upE E i0 ⟨(E i0).v,(E i0).d,(aq10,kq10,dq10,bq10,lq10,eq10),(E i0).ov,((x * t_:Int):Rat) / ((yv:Int):Rat),(E i0).o,(E i0).p,(E i0).k⟩=E16:=⟨_,rfl⟩
    rw [hE16] at YR
    have eE16:(E16 i0).p=(E i0).p/\(E16 i0).k=(E i0).k:=by rw [<- hE16]; simp [upE]
    refine gy_done (ge_end (.tuple #[]) (rs0 (by kernel_rfl)) ?_)
    have hS:sO E16 n=sHold (sO E n) v d x yv t_:=by
     unfold sHold
     rw [sO_yes hk_i0 hy hu,if_pos (show (some (stk (E i0))).isSome=true from rfl)]
     refine sO_at hk_i0 hy (fun j hj hne=>hKn.other hk_i0 hy j hj hne) fun j hj => ?_
     rw [<- hE16]
     by_cases q:j=i0
     ·subst q; simp [upE,stk,qv,hz]
     ·simp [upE,q,stk]
    exact ⟨_,_,_,_,_,_,_,rfl,X,YR,hS,fun _=>.inl ⟨YR.c0 hk_i0,rfl⟩,BB,LP⟩
   have lX:=X.lt
   have lXg2:=Xg2.lt
   have lXg4:=Xg4.lt
   refine zaa 11 13 [zS,zS] 40 (pg) ?_ ?_
   ·intro v17 g18 Xg18 hg18 B
    have hbg18:=Nat.le_trans BB.size hg18
    replace X:=X.keep B
    replace YR:=YR.keep B
    replace BB:=chB BB B
    replace LP:=LP.trans (Lp.of B)
    replace Xg2:=Xg2.keep B
    replace Xg4:=Xg4.keep B
    replace Nn6:=Nn6.keep B
    replace Nn8:=Nn8.keep B
    refine ⟨⟨Xg2,Xg4⟩,?_⟩
    refine zc 7 47 64 #[.slice an8 kn8 dn8,.slice ay ny cy] (tpOf (B:=500) Nn8.a (Ny _ BB) (by omega) (by omega) (by omega) (hz)) ?_
    rintro _ v20 ⟨aq19,kq19,dq19,bq19,lq19,eq19,rfl,Qq19,B⟩
    replace X:=X.keep B
    replace YR:=YR.keep B
    replace BB:=chB BB B
    replace LP:=LP.trans (Lp.of B)
    replace Xg2:=Xg2.keep B
    replace Xg4:=Xg4.keep B
    replace Nn6:=Nn6.keep B
    replace Nn8:=Nn8.keep B
    replace Xg18:=Xg18.keep B
    refine ⟨_,rfl,⟨Xg2,Xg4⟩,?_⟩
    refine z 8 39 (.tuple #[.agg #[.slice aq19 kq19 dq19,.slice bq19 lq19 eq19],iI 0]) (z 9 48 (.agg #[.slice aq19 kq19 dq19,.slice bq19 lq19 eq19]) (z 10 49 (iI 0) (zs 12 Xg18 0 (.agg #[.slice aq19 kq19 dq19,.slice bq19 lq19 eq19]) [.slice aq19 kq19 dq19,.slice bq19 lq19 eq19] [.slice aq19 kq19 dq19,.slice bq19 lq19 eq19] ?_)))
    intro v21 Y C
    replace X:=X.chg C (show g≠g18 by omega)
    replace YR:=YR.cg Xg18 C (by rfl) (by decide)
    replace BB:=chN BB C (by omega)
    replace LP:=LP.trans (Lp.cg Xg18 C (by rfl))
    replace Xg2:=Xg2.chg C (show g2≠g18 by omega)
    replace Xg4:=Xg4.chg C (show g4≠g18 by omega)
    replace Nn6:=NatO.cg Nn6 Xg18 C (by rfl)
    replace Nn8:=NatO.cg Nn8 Xg18 C (by rfl)
    replace Qq19:=Qq19.cg Xg18 C (by rfl)
    have Xg18:=Y
    refine ⟨⟨Xg2,Xg4⟩,?_⟩
    refine z 13 14 (iI 0) (gz_done (ge_then (gc_fr [(0,pg g),(12,iI (i0:Int)),(13,pg g18),(14,iI 0)] (gc_seq (gc_seq (gc_reg (t 50 (iI 0) (t 51 (bF) (gl_nil (ge_then (gc_no (gc_skip (ge_then ?_)))))))))))))
    replace Nx:=Nx
    replace Ny:=Ny
    replace X:=X.drew
    replace YR:=YR.drew
    replace BB:=chB BB (Below.refl _ _).drew
    replace LP:=LP.trans (Lp.of (Below.refl _ _).drew)
    replace Xg2:=Xg2.drew
    replace Xg4:=Xg4.drew
    replace Nn6:=Nn6.keep (Below.refl _ _).drew
    replace Nn8:=Nn8.keep (Below.refl _ _).drew
    replace Xg18:=Xg18.drew
    replace Qq19:=Qq19.drew
    refine gc_draw (fun w'=>Blk w' g [.slice ao n c] 30/\Blk w' g18 [.slice aq19 kq19 dq19,.slice bq19 lq19 eq19] 40/\Ry w' b ao n c zz E) (fun i=>decide (8<=i)) ⟨X,Xg18,YR⟩ ?_
    refine zp 0 53 (pg g) (zp 1 54 (pg g) (zp 2 55 (pg g) (zl 3 56 (.slice ao n c) (fun _ h=>h.1) 0 (zp 4 57 (iI (i0:Int)) (zlr 5 58 [.slice aq19 kq19 dq19,.slice bq19 lq19 eq19] (fun _ h=>h.2.1) 0 (zp 6 59 (pq b (i0 * 8)) ?_ (hrun:=fun _=>congr_v (by rw [Nat.zero_add]) (run_ixa 8 b 0 n c i0 hk_i0 YR.p0))))))))
    refine zp 7 60 (pq b (i0 * 8 + 2)) (gz_late (ys 8 (YR.blk (YR.c0 hk_i0)) (i0 * 8 + 2) (.agg #[.slice aq19 kq19 dq19,.slice bq19 lq19 eq19]) [.slice aq19 kq19 dq19,.slice bq19 lq19 eq19] (fl (upE E i0 ⟨(E i0).v,(E i0).d,(aq19,kq19,dq19,bq19,lq19,eq19),(E i0).ov,((x * t_:Int):Rat) / ((yv:Int):Rat),(E i0).o,(E i0).p,(E i0).k⟩) n ++ zrs zz) ?_ (hb:=fl_room E hk_i0 2 [.slice aq19 kq19 dq19,.slice bq19 lq19 eq19] (zrs zz) (Nat.le_of_ble_eq_true rfl)) (he:=fl_set E hk_i0 2 [.slice aq19 kq19 dq19,.slice bq19 lq19 eq19] ⟨(E i0).v,(E i0).d,(aq19,kq19,dq19,bq19,lq19,eq19),(E i0).ov,((x * t_:Int):Rat) / ((yv:Int):Rat),(E i0).o,(E i0).p,(E i0).k⟩ (zrs zz) (Nat.le_of_ble_eq_true rfl) rfl)))
    intro v22 Y C
    obtain ⟨YR2,P⟩:=YR.st hk_i0 2 [.slice aq19 kq19 dq19,.slice bq19 lq19 eq19] ⟨(E i0).v,(E i0).d,(aq19,kq19,dq19,bq19,lq19,eq19),(E i0).ov,((x * t_:Int):Rat) / ((yv:Int):Rat),(E i0).o,(E i0).p,(E i0).k⟩ (Nat.le_of_ble_eq_true rfl) rfl rfl rfl (by rfl) Qq19 (YR.q i0 hk_i0).2 Y C
    replace X:=X.chg C (YR.ne X (by decide) (YR.c0 hk_i0)).symm
    replace BB:=chS BB C (YR.c0 hk_i0)
    replace LP:=LP.trans P
    replace Xg2:=Xg2.chg C (YR.ne Xg2 (by decide) (YR.c0 hk_i0)).symm
    replace Xg4:=Xg4.chg C (YR.ne Xg4 (by decide) (YR.c0 hk_i0)).symm
    replace Nn6:=NatO.lp Nn6 P
    replace Nn8:=NatO.lp Nn8 P
    replace Xg18:=Xg18.chg C (YR.ne Xg18 (by decide) (YR.c0 hk_i0)).symm
    replace Qq19:=Qq19.lp P
    clear YR C P
    have YR:=YR2
    clear YR2
    obtain ⟨E23,hE23⟩:∃ E23,upE E i0 ⟨(E i0).v,(E i0).d,(aq19,kq19,dq19,bq19,lq19,eq19),(E i0).ov,((x * t_:Int):Rat) / ((yv:Int):Rat),(E i0).o,(E i0).p,(E i0).k⟩=E23:=⟨_,rfl⟩
    rw [hE23] at YR
    have eE23:(E23 i0).p=(E i0).p/\(E23 i0).k=(E i0).k:=by rw [<- hE23]; simp [upE]
    refine gy_done (ge_end (.tuple #[]) (rs0 (by kernel_rfl)) ?_)
    have hS:sO E23 n=sHold (sO E n) v d x yv t_:=by
     unfold sHold
     rw [sO_yes hk_i0 hy hu,if_pos (show (some (stk (E i0))).isSome=true from rfl)]
     refine sO_at hk_i0 hy (fun j hj hne=>hKn.other hk_i0 hy j hj hne) fun j hj => ?_
     rw [<- hE23]
     by_cases q:j=i0
     ·subst q; simp [upE,stk,qv,hz]
     ·simp [upE,q,stk]
    exact ⟨_,_,_,_,_,_,_,rfl,X,YR,hS,fun _=>.inl ⟨YR.c0 hk_i0,rfl⟩,BB,LP⟩
   exact ga_nil
  have lX:=X.lt
  have lXg2:=Xg2.lt
  have lXg4:=Xg4.lt
  refine zaa 11 13 [zS,zS] 40 (pg) ?_ ?_
  ·intro v24 g25 Xg25 hg25 B
   have hbg25:=Nat.le_trans BB.size hg25
   replace X:=X.keep B
   replace YR:=YR.keep B
   replace BB:=chB BB B
   replace LP:=LP.trans (Lp.of B)
   replace Xg2:=Xg2.keep B
   replace Xg4:=Xg4.keep B
   replace Nn6:=Nn6.keep B
   refine ⟨⟨Xg2,Xg4⟩,?_⟩
   refine zc 4 44 65 #[.slice ax nx cx,.slice an6 kn6 dn6] (rMul (Nx _ BB) Nn6.a (by omega) (by omega)) ?_
   rintro _ v27 ⟨an26,kn26,dn26,rfl,Nn26,ln26,B⟩
   replace X:=X.keep B
   replace YR:=YR.keep B
   replace BB:=chB BB B
   replace LP:=LP.trans (Lp.of B)
   replace Xg2:=Xg2.keep B
   replace Xg4:=Xg4.keep B
   replace Nn6:=Nn6.keep B
   replace Xg25:=Xg25.keep B
   refine ⟨_,rfl,⟨Xg2,Xg4⟩,?_⟩
   refine zc 7 47 64 #[.slice an26 kn26 dn26,.slice ay ny cy] (tpOf (B:=500) Nn26.a (Ny _ BB) (by omega) (by omega) (by omega) (hz)) ?_
   rintro _ v29 ⟨aq28,kq28,dq28,bq28,lq28,eq28,rfl,Qq28,B⟩
   replace X:=X.keep B
   replace YR:=YR.keep B
   replace BB:=chB BB B
   replace LP:=LP.trans (Lp.of B)
   replace Xg2:=Xg2.keep B
   replace Xg4:=Xg4.keep B
   replace Nn6:=Nn6.keep B
   replace Xg25:=Xg25.keep B
   replace Nn26:=Nn26.keep B
   refine ⟨_,rfl,⟨Xg2,Xg4⟩,?_⟩
   refine z 8 39 (.tuple #[.agg #[.slice aq28 kq28 dq28,.slice bq28 lq28 eq28],iI 0]) (z 9 48 (.agg #[.slice aq28 kq28 dq28,.slice bq28 lq28 eq28]) (z 10 49 (iI 0) (zs 12 Xg25 0 (.agg #[.slice aq28 kq28 dq28,.slice bq28 lq28 eq28]) [.slice aq28 kq28 dq28,.slice bq28 lq28 eq28] [.slice aq28 kq28 dq28,.slice bq28 lq28 eq28] ?_)))
   intro v30 Y C
   replace X:=X.chg C (show g≠g25 by omega)
   replace YR:=YR.cg Xg25 C (by rfl) (by decide)
   replace BB:=chN BB C (by omega)
   replace LP:=LP.trans (Lp.cg Xg25 C (by rfl))
   replace Xg2:=Xg2.chg C (show g2≠g25 by omega)
   replace Xg4:=Xg4.chg C (show g4≠g25 by omega)
   replace Nn6:=NatO.cg Nn6 Xg25 C (by rfl)
   replace Nn26:=NatO.cg Nn26 Xg25 C (by rfl)
   replace Qq28:=Qq28.cg Xg25 C (by rfl)
   have Xg25:=Y
   refine ⟨⟨Xg2,Xg4⟩,?_⟩
   refine z 13 14 (iI 0) (gz_done (ge_then (gc_fr [(0,pg g),(12,iI (i0:Int)),(13,pg g25),(14,iI 0)] (gc_seq (gc_seq (gc_reg (t 50 (iI 0) (t 51 (bF) (gl_nil (ge_then (gc_no (gc_skip (ge_then ?_)))))))))))))
   replace Nx:=Nx
   replace Ny:=Ny
   replace X:=X.drew
   replace YR:=YR.drew
   replace BB:=chB BB (Below.refl _ _).drew
   replace LP:=LP.trans (Lp.of (Below.refl _ _).drew)
   replace Xg2:=Xg2.drew
   replace Xg4:=Xg4.drew
   replace Nn6:=Nn6.keep (Below.refl _ _).drew
   replace Xg25:=Xg25.drew
   replace Nn26:=Nn26.keep (Below.refl _ _).drew
   replace Qq28:=Qq28.drew
   refine gc_draw (fun w'=>Blk w' g [.slice ao n c] 30/\Blk w' g25 [.slice aq28 kq28 dq28,.slice bq28 lq28 eq28] 40/\Ry w' b ao n c zz E) (fun i=>decide (8<=i)) ⟨X,Xg25,YR⟩ ?_
   refine zp 0 53 (pg g) (zp 1 54 (pg g) (zp 2 55 (pg g) (zl 3 56 (.slice ao n c) (fun _ h=>h.1) 0 (zp 4 57 (iI (i0:Int)) (zlr 5 58 [.slice aq28 kq28 dq28,.slice bq28 lq28 eq28] (fun _ h=>h.2.1) 0 (zp 6 59 (pq b (i0 * 8)) ?_ (hrun:=fun _=>congr_v (by rw [Nat.zero_add]) (run_ixa 8 b 0 n c i0 hk_i0 YR.p0))))))))
   refine zp 7 60 (pq b (i0 * 8 + 2)) (gz_late (ys 8 (YR.blk (YR.c0 hk_i0)) (i0 * 8 + 2) (.agg #[.slice aq28 kq28 dq28,.slice bq28 lq28 eq28]) [.slice aq28 kq28 dq28,.slice bq28 lq28 eq28] (fl (upE E i0 ⟨(E i0).v,(E i0).d,(aq28,kq28,dq28,bq28,lq28,eq28),(E i0).ov,((x * t_:Int):Rat) / ((yv:Int):Rat),(E i0).o,(E i0).p,(E i0).k⟩) n ++ zrs zz) ?_ (hb:=fl_room E hk_i0 2 [.slice aq28 kq28 dq28,.slice bq28 lq28 eq28] (zrs zz) (Nat.le_of_ble_eq_true rfl)) (he:=fl_set E hk_i0 2 [.slice aq28 kq28 dq28,.slice bq28 lq28 eq28] ⟨(E i0).v,(E i0).d,(aq28,kq28,dq28,bq28,lq28,eq28),(E i0).ov,((x * t_:Int):Rat) / ((yv:Int):Rat),(E i0).o,(E i0).p,(E i0).k⟩ (zrs zz) (Nat.le_of_ble_eq_true rfl) rfl)))
   intro v31 Y C
   obtain ⟨YR2,P⟩:=YR.st hk_i0 2 [.slice aq28 kq28 dq28,.slice bq28 lq28 eq28] ⟨(E i0).v,(E i0).d,(aq28,kq28,dq28,bq28,lq28,eq28),(E i0).ov,((x * t_:Int):Rat) / ((yv:Int):Rat),(E i0).o,(E i0).p,(E i0).k⟩ (Nat.le_of_ble_eq_true rfl) rfl rfl rfl (by rfl) Qq28 (YR.q i0 hk_i0).2 Y C
   replace X:=X.chg C (YR.ne X (by decide) (YR.c0 hk_i0)).symm
   replace BB:=chS BB C (YR.c0 hk_i0)
   replace LP:=LP.trans P
   replace Xg2:=Xg2.chg C (YR.ne Xg2 (by decide) (YR.c0 hk_i0)).symm
   replace Xg4:=Xg4.chg C (YR.ne Xg4 (by decide) (YR.c0 hk_i0)).symm
   replace Nn6:=NatO.lp Nn6 P
   replace Xg25:=Xg25.chg C (YR.ne Xg25 (by decide) (YR.c0 hk_i0)).symm
   replace Nn26:=NatO.lp Nn26 P
   replace Qq28:=Qq28.lp P
   clear YR C P
   have YR:=YR2
   clear YR2
   obtain ⟨E32,hE32⟩:∃ E32,upE E i0 ⟨(E i0).v,(E i0).d,(aq28,kq28,dq28,bq28,lq28,eq28),(E i0).ov,((x * t_:Int):Rat) / ((yv:Int):Rat),(E i0).o,(E i0).p,(E i0).k⟩=E32:=⟨_,rfl⟩
   rw [hE32] at YR
   have eE32:(E32 i0).p=(E i0).p/\(E32 i0).k=(E i0).k:=by rw [<- hE32]; simp [upE]
   refine gy_done (ge_end (.tuple #[]) (rs0 (by kernel_rfl)) ?_)
   have hS:sO E32 n=sHold (sO E n) v d x yv t_:=by
    unfold sHold
    rw [sO_yes hk_i0 hy hu,if_pos (show (some (stk (E i0))).isSome=true from rfl)]
    refine sO_at hk_i0 hy (fun j hj hne=>hKn.other hk_i0 hy j hj hne) fun j hj => ?_
    rw [<- hE32]
    by_cases q:j=i0
    ·subst q; simp [upE,stk,qv,hz]
    ·simp [upE,q,stk]
   exact ⟨_,_,_,_,_,_,_,rfl,X,YR,hS,fun _=>.inl ⟨YR.c0 hk_i0,rfl⟩,BB,LP⟩
  exact ga_nil
 have lX:=X.lt
 have lXg2:=Xg2.lt
 have lXg4:=Xg4.lt
 refine zaa 11 13 [zS,zS] 40 (pg) ?_ ?_
 ·intro v33 g34 Xg34 hg34 B
  have hbg34:=Nat.le_trans BB.size hg34
  replace X:=X.keep B
  replace YR:=YR.keep B
  replace BB:=chB BB B
  replace LP:=LP.trans (Lp.of B)
  replace Xg2:=Xg2.keep B
  replace Xg4:=Xg4.keep B
  refine ⟨⟨Xg2,Xg4⟩,?_⟩
  refine zc 3 43 66 #[iU t_] (rOf (x:=t_) (ht).1 (ht).2) ?_
  rintro _ v36 ⟨an35,kn35,dn35,rfl,Nn35,ln35,B⟩
  replace X:=X.keep B
  replace YR:=YR.keep B
  replace BB:=chB BB B
  replace LP:=LP.trans (Lp.of B)
  replace Xg2:=Xg2.keep B
  replace Xg4:=Xg4.keep B
  replace Xg34:=Xg34.keep B
  refine ⟨_,rfl,⟨Xg2,Xg4⟩,?_⟩
  refine zc 4 44 65 #[.slice ax nx cx,.slice an35 kn35 dn35] (rMul (Nx _ BB) Nn35.a (by omega) (by omega)) ?_
  rintro _ v38 ⟨an37,kn37,dn37,rfl,Nn37,ln37,B⟩
  replace X:=X.keep B
  replace YR:=YR.keep B
  replace BB:=chB BB B
  replace LP:=LP.trans (Lp.of B)
  replace Xg2:=Xg2.keep B
  replace Xg4:=Xg4.keep B
  replace Xg34:=Xg34.keep B
  replace Nn35:=Nn35.keep B
  refine ⟨_,rfl,⟨Xg2,Xg4⟩,?_⟩
  refine zc 7 47 64 #[.slice an37 kn37 dn37,.slice ay ny cy] (tpOf (B:=500) Nn37.a (Ny _ BB) (by omega) (by omega) (by omega) (hz)) ?_
  rintro _ v40 ⟨aq39,kq39,dq39,bq39,lq39,eq39,rfl,Qq39,B⟩
  replace X:=X.keep B
  replace YR:=YR.keep B
  replace BB:=chB BB B
  replace LP:=LP.trans (Lp.of B)
  replace Xg2:=Xg2.keep B
  replace Xg4:=Xg4.keep B
  replace Xg34:=Xg34.keep B
  replace Nn35:=Nn35.keep B
  replace Nn37:=Nn37.keep B
  refine ⟨_,rfl,⟨Xg2,Xg4⟩,?_⟩
  refine z 8 39 (.tuple #[.agg #[.slice aq39 kq39 dq39,.slice bq39 lq39 eq39],iI 0]) (z 9 48 (.agg #[.slice aq39 kq39 dq39,.slice bq39 lq39 eq39]) (z 10 49 (iI 0) (zs 12 Xg34 0 (.agg #[.slice aq39 kq39 dq39,.slice bq39 lq39 eq39]) [.slice aq39 kq39 dq39,.slice bq39 lq39 eq39] [.slice aq39 kq39 dq39,.slice bq39 lq39 eq39] ?_)))
  intro v41 Y C
  replace X:=X.chg C (show g≠g34 by omega)
  replace YR:=YR.cg Xg34 C (by rfl) (by decide)
  replace BB:=chN BB C (by omega)
  replace LP:=LP.trans (Lp.cg Xg34 C (by rfl))
  replace Xg2:=Xg2.chg C (show g2≠g34 by omega)
  replace Xg4:=Xg4.chg C (show g4≠g34 by omega)
  replace Nn35:=NatO.cg Nn35 Xg34 C (by rfl)
  replace Nn37:=NatO.cg Nn37 Xg34 C (by rfl)
  replace Qq39:=Qq39.cg Xg34 C (by rfl)
  have Xg34:=Y
  refine ⟨⟨Xg2,Xg4⟩,?_⟩
  refine z 13 14 (iI 0) (gz_done (ge_then (gc_fr [(0,pg g),(12,iI (i0:Int)),(13,pg g34),(14,iI 0)] (gc_seq (gc_seq (gc_reg (t 50 (iI 0) (t 51 (bF) (gl_nil (ge_then (gc_no (gc_skip (ge_then ?_)))))))))))))
  replace Nx:=Nx
  replace Ny:=Ny
  replace X:=X.drew
  replace YR:=YR.drew
  replace BB:=chB BB (Below.refl _ _).drew
  replace LP:=LP.trans (Lp.of (Below.refl _ _).drew)
  replace Xg2:=Xg2.drew
  replace Xg4:=Xg4.drew
  replace Xg34:=Xg34.drew
  replace Nn35:=Nn35.keep (Below.refl _ _).drew
  replace Nn37:=Nn37.keep (Below.refl _ _).drew
  replace Qq39:=Qq39.drew
  refine gc_draw (fun w'=>Blk w' g [.slice ao n c] 30/\Blk w' g34 [.slice aq39 kq39 dq39,.slice bq39 lq39 eq39] 40/\Ry w' b ao n c zz E) (fun i=>decide (8<=i)) ⟨X,Xg34,YR⟩ ?_
  refine zp 0 53 (pg g) (zp 1 54 (pg g) (zp 2 55 (pg g) (zl 3 56 (.slice ao n c) (fun _ h=>h.1) 0 (zp 4 57 (iI (i0:Int)) (zlr 5 58 [.slice aq39 kq39 dq39,.slice bq39 lq39 eq39] (fun _ h=>h.2.1) 0 (zp 6 59 (pq b (i0 * 8)) ?_ (hrun:=fun _=>congr_v (by rw [Nat.zero_add]) (run_ixa 8 b 0 n c i0 hk_i0 YR.p0))))))))
  refine zp 7 60 (pq b (i0 * 8 + 2)) (gz_late (ys 8 (YR.blk (YR.c0 hk_i0)) (i0 * 8 + 2) (.agg #[.slice aq39 kq39 dq39,.slice bq39 lq39 eq39]) [.slice aq39 kq39 dq39,.slice bq39 lq39 eq39] (fl (upE E i0 ⟨(E i0).v,(E i0).d,(aq39,kq39,dq39,bq39,lq39,eq39),(E i0).ov,((x * t_:Int):Rat) / ((yv:Int):Rat),(E i0).o,(E i0).p,(E i0).k⟩) n ++ zrs zz) ?_ (hb:=fl_room E hk_i0 2 [.slice aq39 kq39 dq39,.slice bq39 lq39 eq39] (zrs zz) (Nat.le_of_ble_eq_true rfl)) (he:=fl_set E hk_i0 2 [.slice aq39 kq39 dq39,.slice bq39 lq39 eq39] ⟨(E i0).v,(E i0).d,(aq39,kq39,dq39,bq39,lq39,eq39),(E i0).ov,((x * t_:Int):Rat) / ((yv:Int):Rat),(E i0).o,(E i0).p,(E i0).k⟩ (zrs zz) (Nat.le_of_ble_eq_true rfl) rfl)))
  intro v42 Y C
  obtain ⟨YR2,P⟩:=YR.st hk_i0 2 [.slice aq39 kq39 dq39,.slice bq39 lq39 eq39] ⟨(E i0).v,(E i0).d,(aq39,kq39,dq39,bq39,lq39,eq39),(E i0).ov,((x * t_:Int):Rat) / ((yv:Int):Rat),(E i0).o,(E i0).p,(E i0).k⟩ (Nat.le_of_ble_eq_true rfl) rfl rfl rfl (by rfl) Qq39 (YR.q i0 hk_i0).2 Y C
  replace X:=X.chg C (YR.ne X (by decide) (YR.c0 hk_i0)).symm
  replace BB:=chS BB C (YR.c0 hk_i0)
  replace LP:=LP.trans P
  replace Xg2:=Xg2.chg C (YR.ne Xg2 (by decide) (YR.c0 hk_i0)).symm
  replace Xg4:=Xg4.chg C (YR.ne Xg4 (by decide) (YR.c0 hk_i0)).symm
  replace Xg34:=Xg34.chg C (YR.ne Xg34 (by decide) (YR.c0 hk_i0)).symm
  replace Nn35:=NatO.lp Nn35 P
  replace Nn37:=NatO.lp Nn37 P
  replace Qq39:=Qq39.lp P
  clear YR C P
  have YR:=YR2
  clear YR2
  obtain ⟨E43,hE43⟩:∃ E43,upE E i0 ⟨(E i0).v,(E i0).d,(aq39,kq39,dq39,bq39,lq39,eq39),(E i0).ov,((x * t_:Int):Rat) / ((yv:Int):Rat),(E i0).o,(E i0).p,(E i0).k⟩=E43:=⟨_,rfl⟩
  rw [hE43] at YR
  have eE43:(E43 i0).p=(E i0).p/\(E43 i0).k=(E i0).k:=by rw [<- hE43]; simp [upE]
  refine gy_done (ge_end (.tuple #[]) (rs0 (by kernel_rfl)) ?_)
  have hS:sO E43 n=sHold (sO E n) v d x yv t_:=by
   unfold sHold
   rw [sO_yes hk_i0 hy hu,if_pos (show (some (stk (E i0))).isSome=true from rfl)]
   refine sO_at hk_i0 hy (fun j hj hne=>hKn.other hk_i0 hy j hj hne) fun j hj => ?_
   rw [<- hE43]
   by_cases q:j=i0
   ·subst q; simp [upE,stk,qv,hz]
   ·simp [upE,q,stk]
  exact ⟨_,_,_,_,_,_,_,rfl,X,YR,hS,fun _=>.inl ⟨YR.c0 hk_i0,rfl⟩,BB,LP⟩
 exact ga_nil
theorem rHold_yz {w:World} {g b:Nat} {ao:Option Addr} {n c zz:Nat} {E:Nat->E8} {ax ay:Option Addr} {nx cx ny cy:Nat} {v d x yv t_:Int} (hv:0<=v/\v < 18446744073709551616) (hd:0<=d/\d < 18446744073709551616) (Nx:∀ w',Chg (KF g b c) w w'->NatA w' ax nx cx x) (lx:nx<=100) (Ny:∀ w',Chg (KF g b c) w w'->NatA w' ay ny cy yv) (ly:ny<=100) (ht:0<=t_/\t_ < 18446744073709551616) (X:Blk w g [.slice ao n c] 30) (YR:Ry w b ao n c zz E) (hn:n<=100) (hKn:Kn E n) {i0:Nat} (hk_i0:i0 < n) (hy:(E i0).v=v/\(E i0).d=d) (hu:∀ j,j < i0->¬ ((E j).v=v/\(E j).d=d)) (hz:yv=0):Calls Tryz.prog 18 #[pg g,.int .u64 v,.int .u64 d,.agg #[.slice ax nx cx],.agg #[.slice ay ny cy],.int .u64 t_] w fun e w'=>∃ F b2 ao2 n2 c2 zz2 v0,e=.returned v0/\Blk w' g [.slice ao2 n2 c2] 30/\Ry w' b2 ao2 n2 c2 zz2 F/\sO F n2=sHold (sO E n) v d x yv t_/\(0 < c2->(0 < c/\b2=b)\/w.heap.size<=b2)/\Chg (KF g b c) w w'/\Lp w w':=by
 have BB:Chg (KF g b c) w w:=Chg.refl _ _
 have LP:=Lp.refl w
 refine gc_enter (n:=61) Tryz.func18 rfl ?_
 refine gc_seq (gc_reg ?_)
 have lX:=X.lt
 refine ta 9 [.slice ax nx cx] 35 (pg) ?_
 intro v1 g2 Xg2 hg2 B
 have hbg2:=Nat.le_trans BB.size hg2
 replace X:=X.keep B
 replace YR:=YR.keep B
 replace BB:=chB BB B
 replace LP:=LP.trans (Lp.of B)
 have lX:=X.lt
 have lXg2:=Xg2.lt
 refine ta 10 [.slice ay ny cy] 35 (pg) ?_
 intro v3 g4 Xg4 hg4 B
 have hbg4:=Nat.le_trans BB.size hg4
 replace X:=X.keep B
 replace YR:=YR.keep B
 replace BB:=chB BB B
 replace LP:=LP.trans (Lp.of B)
 replace Xg2:=Xg2.keep B
 refine gl_nil (ge_then (gc_seq (gc_reg (t 15 (pg g) (t 16 (iU v) (t 17 (iU d) (tc 18 59 #[pg g,iU v,iU d] (at_yes hv hd X YR hn hk_i0 hy hu) ?_)))))))
 rintro _ v5 ⟨rfl,B⟩
 refine ⟨_,rfl,?_⟩
 replace X:=X.keep B
 replace YR:=YR.keep B
 replace BB:=chB BB B
 replace LP:=LP.trans (Lp.of B)
 replace Xg2:=Xg2.keep B
 replace Xg4:=Xg4.keep B
 refine t 12 (iI (i0:Int)) (gl_nil (ge_then (gc_fr [(0,pg g),(1,iU v),(2,iU d),(5,iU t_),(9,pg g2),(10,pg g4),(12,iI (i0:Int))] (gc_seq (gc_seq (gc_reg (t 19 (iI (i0:Int)) (tq 20 (.bool (decide ((i0:Int) < 0))) (bF) (congrArg Value.bool (decide_eq_false (by omega))) (gl_nil (ge_then (gc_no (gc_skip (ge_then (gc_seq ?_))))))))))))))
 replace Nx:=Nx
 replace Ny:=Ny
 replace X:=X.drew
 replace YR:=YR.drew
 replace BB:=chB BB (Below.refl _ _).drew
 replace LP:=LP.trans (Lp.of (Below.refl _ _).drew)
 replace Xg2:=Xg2.drew
 replace Xg4:=Xg4.drew
 refine gc_draw (fun w'=>Blk w' g2 [.slice ax nx cx] 35/\Blk w' g4 [.slice ay ny cy] 35) (fun _=>false) ⟨Xg2,Xg4⟩ ?_
 refine z 0 40 (pg g2) (zl 1 41 (.slice ax nx cx) (fun _ h=>h.1) 0 (z 2 42 (iU t_) (z 5 45 (pg g4) (zl 6 46 (.slice ay ny cy) (fun _ h=>h.2) 0 (gz_ready [3,11] ?_)))))
 refine ga_call 3 (some 43) 66 #[iU t_] (rOf (x:=t_) (ht).1 (ht).2) ?_ ?_
 ·rintro _ v7 ⟨an6,kn6,dn6,rfl,Nn6,ln6,B⟩
  replace X:=X.keep B
  replace YR:=YR.keep B
  replace BB:=chB BB B
  replace LP:=LP.trans (Lp.of B)
  replace Xg2:=Xg2.keep B
  replace Xg4:=Xg4.keep B
  refine ⟨_,rfl,⟨Xg2,Xg4⟩,?_⟩
  refine gz_ready [4,11] ?_
  refine ga_call 4 (some 44) 65 #[.slice ax nx cx,.slice an6 kn6 dn6] (rMul (Nx _ BB) Nn6.a (by omega) (by omega)) ?_ ?_
  ·rintro _ v9 ⟨an8,kn8,dn8,rfl,Nn8,ln8,B⟩
   replace X:=X.keep B
   replace YR:=YR.keep B
   replace BB:=chB BB B
   replace LP:=LP.trans (Lp.of B)
   replace Xg2:=Xg2.keep B
   replace Xg4:=Xg4.keep B
   replace Nn6:=Nn6.keep B
   refine ⟨_,rfl,⟨Xg2,Xg4⟩,?_⟩
   refine gz_ready [7,11] ?_
   refine ga_call 7 (some 47) 64 #[.slice an8 kn8 dn8,.slice ay ny cy] (tOfZ (Ny _ BB) (by omega) hz) ?_ ?_
   ·rintro _ v10 ⟨rfl,B⟩
    replace X:=X.keep B
    replace YR:=YR.keep B
    replace BB:=chB BB B
    replace LP:=LP.trans (Lp.of B)
    replace Xg2:=Xg2.keep B
    replace Xg4:=Xg4.keep B
    replace Nn6:=Nn6.keep B
    replace Nn8:=Nn8.keep B
    refine ⟨_,rfl,⟨Xg2,Xg4⟩,?_⟩
    refine z 8 39 (.tuple #[.agg #[zS,zS],iI 30]) (z 9 48 (.agg #[zS,zS]) (z 10 49 (iI 30) ?_))
    have lX:=X.lt
    have lXg2:=Xg2.lt
    have lXg4:=Xg4.lt
    refine za 11 13 [zS,zS] 40 (pg) ?_
    intro v11 g12 Xg12 hg12 B
    have hbg12:=Nat.le_trans BB.size hg12
    replace X:=X.keep B
    replace YR:=YR.keep B
    replace BB:=chB BB B
    replace LP:=LP.trans (Lp.of B)
    replace Xg2:=Xg2.keep B
    replace Xg4:=Xg4.keep B
    replace Nn6:=Nn6.keep B
    replace Nn8:=Nn8.keep B
    refine ⟨⟨Xg2,Xg4⟩,?_⟩
    refine zs 12 Xg12 0 (.agg #[zS,zS]) [zS,zS] [zS,zS] ?_
    intro v13 Y C
    replace X:=X.chg C (show g≠g12 by omega)
    replace YR:=YR.cg Xg12 C (by rfl) (by decide)
    replace BB:=chN BB C (by omega)
    replace LP:=LP.trans (Lp.cg Xg12 C (by rfl))
    replace Xg2:=Xg2.chg C (show g2≠g12 by omega)
    replace Xg4:=Xg4.chg C (show g4≠g12 by omega)
    replace Nn6:=NatO.cg Nn6 Xg12 C (by rfl)
    replace Nn8:=NatO.cg Nn8 Xg12 C (by rfl)
    have Xg12:=Y
    refine ⟨⟨Xg2,Xg4⟩,?_⟩
    refine z 13 14 (iI 30) (gz_done (ge_then (gc_fr [(0,pg g),(12,iI (i0:Int)),(13,pg g12),(14,iI 30)] (gc_seq (gc_seq (gc_reg (t 50 (iI 30) (t 51 (bT) (gl_nil (ge_then (gc_yes (gc_reg (tc 52 60 #[] (nothing_any) ?_)))))))))))))
    rintro _ v15 ⟨aq14,kq14,dq14,bq14,lq14,eq14,rfl,Qq14,B⟩
    refine ⟨_,rfl,?_⟩
    replace X:=X.keep B
    replace YR:=YR.keep B
    replace BB:=chB BB B
    replace LP:=LP.trans (Lp.of B)
    replace Xg2:=Xg2.keep B
    replace Xg4:=Xg4.keep B
    replace Nn6:=Nn6.keep B
    replace Nn8:=Nn8.keep B
    replace Xg12:=Xg12.keep B
    refine ts Xg12 0 (.agg #[.slice aq14 kq14 dq14,.slice bq14 lq14 eq14]) [.slice aq14 kq14 dq14,.slice bq14 lq14 eq14] [.slice aq14 kq14 dq14,.slice bq14 lq14 eq14] ?_
    intro v16 Y C
    replace X:=X.chg C (show g≠g12 by omega)
    replace YR:=YR.cg Xg12 C (by rfl) (by decide)
    replace BB:=chN BB C (by omega)
    replace LP:=LP.trans (Lp.cg Xg12 C (by rfl))
    replace Xg2:=Xg2.chg C (show g2≠g12 by omega)
    replace Xg4:=Xg4.chg C (show g4≠g12 by omega)
    replace Nn6:=NatO.cg Nn6 Xg12 C (by rfl)
    replace Nn8:=NatO.cg Nn8 Xg12 C (by rfl)
    replace Qq14:=Qq14.cg Xg12 C (by rfl)
    have Xg12:=Y
    refine gl_nil (ge_then ?_)
    replace Nx:=Nx
    replace Ny:=Ny
    replace X:=X.drew
    replace YR:=YR.drew
    replace BB:=chB BB (Below.refl _ _).drew
    replace LP:=LP.trans (Lp.of (Below.refl _ _).drew)
    replace Xg2:=Xg2.drew
    replace Xg4:=Xg4.drew
    replace Nn6:=Nn6.keep (Below.refl _ _).drew
    replace Nn8:=Nn8.keep (Below.refl _ _).drew
    replace Xg12:=Xg12.drew
    replace Qq14:=Qq14.drew
    refine gc_draw (fun w'=>Blk w' g [.slice ao n c] 30/\Blk w' g12 [.slice aq14 kq14 dq14,.slice bq14 lq14 eq14] 40/\Ry w' b ao n c zz E) (fun i=>decide (8<=i)) ⟨X,Xg12,YR⟩ ?_
    refine zp 0 53 (pg g) (zp 1 54 (pg g) (zp 2 55 (pg g) (zl 3 56 (.slice ao n c) (fun _ h=>h.1) 0 (zp 4 57 (iI (i0:Int)) (zlr 5 58 [.slice aq14 kq14 dq14,.slice bq14 lq14 eq14] (fun _ h=>h.2.1) 0 (zp 6 59 (pq b (i0 * 8)) ?_ (hrun:=fun _=>congr_v (by rw [Nat.zero_add]) (run_ixa 8 b 0 n c i0 hk_i0 YR.p0))))))))
    refine zp 7 60 (pq b (i0 * 8 + 2)) (gz_late (ys 8 (YR.blk (YR.c0 hk_i0)) (i0 * 8 + 2) (.agg #[.slice aq14 kq14 dq14,.slice bq14 lq14 eq14]) [.slice aq14 kq14 dq14,.slice bq14 lq14 eq14] (fl (upE E i0 ⟨(E i0).v,(E i0).d,(aq14,kq14,dq14,bq14,lq14,eq14),(E i0).ov,(0:Rat),(E i0).o,(E i0).p,(E i0).k⟩) n ++ zrs zz) ?_ (hb:=fl_room E hk_i0 2 [.slice aq14 kq14 dq14,.slice bq14 lq14 eq14] (zrs zz) (Nat.le_of_ble_eq_true rfl)) (he:=fl_set E hk_i0 2 [.slice aq14 kq14 dq14,.slice bq14 lq14 eq14] ⟨(E i0).v,(E i0).d,(aq14,kq14,dq14,bq14,lq14,eq14),(E i0).ov,(0:Rat),(E i0).o,(E i0).p,(E i0).k⟩ (zrs zz) (Nat.le_of_ble_eq_true rfl) rfl)))
    intro v17 Y C
    obtain ⟨YR2,P⟩:=YR.st hk_i0 2 [.slice aq14 kq14 dq14,.slice bq14 lq14 eq14] ⟨(E i0).v,(E i0).d,(aq14,kq14,dq14,bq14,lq14,eq14),(E i0).ov,(0:Rat),(E i0).o,(E i0).p,(E i0).k⟩ (Nat.le_of_ble_eq_true rfl) rfl rfl rfl (by rfl) Qq14 (YR.q i0 hk_i0).2 Y C
    replace X:=X.chg C (YR.ne X (by decide) (YR.c0 hk_i0)).symm
    replace BB:=chS BB C (YR.c0 hk_i0)
    replace LP:=LP.trans P
    replace Xg2:=Xg2.chg C (YR.ne Xg2 (by decide) (YR.c0 hk_i0)).symm
    replace Xg4:=Xg4.chg C (YR.ne Xg4 (by decide) (YR.c0 hk_i0)).symm
    replace Nn6:=NatO.lp Nn6 P
    replace Nn8:=NatO.lp Nn8 P
    replace Xg12:=Xg12.chg C (YR.ne Xg12 (by decide) (YR.c0 hk_i0)).symm
    replace Qq14:=Qq14.lp P
    clear YR C P
    have YR:=YR2
    clear YR2
    obtain ⟨E18,hE18⟩:∃ E18,upE E i0 ⟨(E i0).v,(E i0).d,(aq14,kq14,dq14,bq14,lq14,eq14),(E i0).ov,(0:Rat),(E i0).o,(E i0).p,(E i0).k⟩=E18:=⟨_,rfl⟩
    rw [hE18] at YR
    have eE18:(E18 i0).p=(E i0).p/\(E18 i0).k=(E i0).k:=by rw [<- hE18]; simp [upE]
    refine gy_done (ge_end (.tuple #[]) (rs0 (by kernel_rfl)) ?_)
    have hS:sO E18 n=sHold (sO E n) v d x yv t_:=by
     unfold sHold
     rw [sO_yes hk_i0 hy hu,if_pos (show (some (stk (E i0))).isSome=true from rfl)]
     refine sO_at hk_i0 hy (fun j hj hne=>hKn.other hk_i0 hy j hj hne) fun j hj => ?_
     rw [<- hE18]
     by_cases q:j=i0
     ·subst q; simp [upE,stk,qv,hz]
     ·simp [upE,q,stk]
    exact ⟨_,_,_,_,_,_,_,rfl,X,YR,hS,fun _=>.inl ⟨YR.c0 hk_i0,rfl⟩,BB,LP⟩
   have lX:=X.lt
   have lXg2:=Xg2.lt
   have lXg4:=Xg4.lt
   refine zaa 11 13 [zS,zS] 40 (pg) ?_ ?_
   ·intro v19 g20 Xg20 hg20 B
    have hbg20:=Nat.le_trans BB.size hg20
    replace X:=X.keep B
    replace YR:=YR.keep B
    replace BB:=chB BB B
    replace LP:=LP.trans (Lp.of B)
    replace Xg2:=Xg2.keep B
    replace Xg4:=Xg4.keep B
    replace Nn6:=Nn6.keep B
    replace Nn8:=Nn8.keep B
    refine ⟨⟨Xg2,Xg4⟩,?_⟩
    refine zc 7 47 64 #[.slice an8 kn8 dn8,.slice ay ny cy] (tOfZ (Ny _ BB) (by omega) hz) ?_
    rintro _ v21 ⟨rfl,B⟩
    replace X:=X.keep B
    replace YR:=YR.keep B
    replace BB:=chB BB B
    replace LP:=LP.trans (Lp.of B)
    replace Xg2:=Xg2.keep B
    replace Xg4:=Xg4.keep B
    replace Nn6:=Nn6.keep B
    replace Nn8:=Nn8.keep B
    replace Xg20:=Xg20.keep B
    refine ⟨_,rfl,⟨Xg2,Xg4⟩,?_⟩
    refine z 8 39 (.tuple #[.agg #[zS,zS],iI 30]) (z 9 48 (.agg #[zS,zS]) (z 10 49 (iI 30) (zs 12 Xg20 0 (.agg #[zS,zS]) [zS,zS] [zS,zS] ?_)))
    intro v22 Y C
    replace X:=X.chg C (show g≠g20 by omega)
    replace YR:=YR.cg Xg20 C (by rfl) (by decide)
    replace BB:=chN BB C (by omega)
    replace LP:=LP.trans (Lp.cg Xg20 C (by rfl))
    replace Xg2:=Xg2.chg C (show g2≠g20 by omega)
    replace Xg4:=Xg4.chg C (show g4≠g20 by omega)
    replace Nn6:=NatO.cg Nn6 Xg20 C (by rfl)
    replace Nn8:=NatO.cg Nn8 Xg20 C (by rfl)
    have Xg20:=Y
    refine ⟨⟨Xg2,Xg4⟩,?_⟩
    refine z 13 14 (iI 30) (gz_done (ge_then (gc_fr [(0,pg g),(12,iI (i0:Int)),(13,pg g20),(14,iI 30)] (gc_seq (gc_seq (gc_reg (t 50 (iI 30) (t 51 (bT) (gl_nil (ge_then (gc_yes (gc_reg (tc 52 60 #[] (nothing_any) ?_)))))))))))))
    rintro _ v24 ⟨aq23,kq23,dq23,bq23,lq23,eq23,rfl,Qq23,B⟩
    refine ⟨_,rfl,?_⟩
    replace X:=X.keep B
    replace YR:=YR.keep B
    replace BB:=chB BB B
    replace LP:=LP.trans (Lp.of B)
    replace Xg2:=Xg2.keep B
    replace Xg4:=Xg4.keep B
    replace Nn6:=Nn6.keep B
    replace Nn8:=Nn8.keep B
    replace Xg20:=Xg20.keep B
    refine ts Xg20 0 (.agg #[.slice aq23 kq23 dq23,.slice bq23 lq23 eq23]) [.slice aq23 kq23 dq23,.slice bq23 lq23 eq23] [.slice aq23 kq23 dq23,.slice bq23 lq23 eq23] ?_
    intro v25 Y C
    replace X:=X.chg C (show g≠g20 by omega)
    replace YR:=YR.cg Xg20 C (by rfl) (by decide)
    replace BB:=chN BB C (by omega)
    replace LP:=LP.trans (Lp.cg Xg20 C (by rfl))
    replace Xg2:=Xg2.chg C (show g2≠g20 by omega)
    replace Xg4:=Xg4.chg C (show g4≠g20 by omega)
    replace Nn6:=NatO.cg Nn6 Xg20 C (by rfl)
    replace Nn8:=NatO.cg Nn8 Xg20 C (by rfl)
    replace Qq23:=Qq23.cg Xg20 C (by rfl)
    have Xg20:=Y
    refine gl_nil (ge_then ?_)
    replace Nx:=Nx
    replace Ny:=Ny
    replace X:=X.drew
    replace YR:=YR.drew
    replace BB:=chB BB (Below.refl _ _).drew
    replace LP:=LP.trans (Lp.of (Below.refl _ _).drew)
    replace Xg2:=Xg2.drew
    replace Xg4:=Xg4.drew
    replace Nn6:=Nn6.keep (Below.refl _ _).drew
    replace Nn8:=Nn8.keep (Below.refl _ _).drew
    replace Xg20:=Xg20.drew
    replace Qq23:=Qq23.drew
    refine gc_draw (fun w'=>Blk w' g [.slice ao n c] 30/\Blk w' g20 [.slice aq23 kq23 dq23,.slice bq23 lq23 eq23] 40/\Ry w' b ao n c zz E) (fun i=>decide (8<=i)) ⟨X,Xg20,YR⟩ ?_
    refine zp 0 53 (pg g) (zp 1 54 (pg g) (zp 2 55 (pg g) (zl 3 56 (.slice ao n c) (fun _ h=>h.1) 0 (zp 4 57 (iI (i0:Int)) (zlr 5 58 [.slice aq23 kq23 dq23,.slice bq23 lq23 eq23] (fun _ h=>h.2.1) 0 (zp 6 59 (pq b (i0 * 8)) ?_ (hrun:=fun _=>congr_v (by rw [Nat.zero_add]) (run_ixa 8 b 0 n c i0 hk_i0 YR.p0))))))))
    refine zp 7 60 (pq b (i0 * 8 + 2)) (gz_late (ys 8 (YR.blk (YR.c0 hk_i0)) (i0 * 8 + 2) (.agg #[.slice aq23 kq23 dq23,.slice bq23 lq23 eq23]) [.slice aq23 kq23 dq23,.slice bq23 lq23 eq23] (fl (upE E i0 ⟨(E i0).v,(E i0).d,(aq23,kq23,dq23,bq23,lq23,eq23),(E i0).ov,(0:Rat),(E i0).o,(E i0).p,(E i0).k⟩) n ++ zrs zz) ?_ (hb:=fl_room E hk_i0 2 [.slice aq23 kq23 dq23,.slice bq23 lq23 eq23] (zrs zz) (Nat.le_of_ble_eq_true rfl)) (he:=fl_set E hk_i0 2 [.slice aq23 kq23 dq23,.slice bq23 lq23 eq23] ⟨(E i0).v,(E i0).d,(aq23,kq23,dq23,bq23,lq23,eq23),(E i0).ov,(0:Rat),(E i0).o,(E i0).p,(E i0).k⟩ (zrs zz) (Nat.le_of_ble_eq_true rfl) rfl)))
    intro v26 Y C
    obtain ⟨YR2,P⟩:=YR.st hk_i0 2 [.slice aq23 kq23 dq23,.slice bq23 lq23 eq23] ⟨(E i0).v,(E i0).d,(aq23,kq23,dq23,bq23,lq23,eq23),(E i0).ov,(0:Rat),(E i0).o,(E i0).p,(E i0).k⟩ (Nat.le_of_ble_eq_true rfl) rfl rfl rfl (by rfl) Qq23 (YR.q i0 hk_i0).2 Y C
    replace X:=X.chg C (YR.ne X (by decide) (YR.c0 hk_i0)).symm
    replace BB:=chS BB C (YR.c0 hk_i0)
    replace LP:=LP.trans P
    replace Xg2:=Xg2.chg C (YR.ne Xg2 (by decide) (YR.c0 hk_i0)).symm
    replace Xg4:=Xg4.chg C (YR.ne Xg4 (by decide) (YR.c0 hk_i0)).symm
    replace Nn6:=NatO.lp Nn6 P
    replace Nn8:=NatO.lp Nn8 P
    replace Xg20:=Xg20.chg C (YR.ne Xg20 (by decide) (YR.c0 hk_i0)).symm
    replace Qq23:=Qq23.lp P
    clear YR C P
    have YR:=YR2
    clear YR2
    obtain ⟨E27,hE27⟩:∃ E27,upE E i0 ⟨(E i0).v,(E i0).d,(aq23,kq23,dq23,bq23,lq23,eq23),(E i0).ov,(0:Rat),(E i0).o,(E i0).p,(E i0).k⟩=E27:=⟨_,rfl⟩
    rw [hE27] at YR
    have eE27:(E27 i0).p=(E i0).p/\(E27 i0).k=(E i0).k:=by rw [<- hE27]; simp [upE]
    refine gy_done (ge_end (.tuple #[]) (rs0 (by kernel_rfl)) ?_)
    have hS:sO E27 n=sHold (sO E n) v d x yv t_:=by
     unfold sHold
     rw [sO_yes hk_i0 hy hu,if_pos (show (some (stk (E i0))).isSome=true from rfl)]
     refine sO_at hk_i0 hy (fun j hj hne=>hKn.other hk_i0 hy j hj hne) fun j hj => ?_
     rw [<- hE27]
     by_cases q:j=i0
     ·subst q; simp [upE,stk,qv,hz]
     ·simp [upE,q,stk]
    exact ⟨_,_,_,_,_,_,_,rfl,X,YR,hS,fun _=>.inl ⟨YR.c0 hk_i0,rfl⟩,BB,LP⟩
   exact ga_nil
  have lX:=X.lt
  have lXg2:=Xg2.lt
  have lXg4:=Xg4.lt
  refine zaa 11 13 [zS,zS] 40 (pg) ?_ ?_
  ·intro v28 g29 Xg29 hg29 B
   have hbg29:=Nat.le_trans BB.size hg29
   replace X:=X.keep B
   replace YR:=YR.keep B
   replace BB:=chB BB B
   replace LP:=LP.trans (Lp.of B)
   replace Xg2:=Xg2.keep B
   replace Xg4:=Xg4.keep B
   replace Nn6:=Nn6.keep B
   refine ⟨⟨Xg2,Xg4⟩,?_⟩
   refine zc 4 44 65 #[.slice ax nx cx,.slice an6 kn6 dn6] (rMul (Nx _ BB) Nn6.a (by omega) (by omega)) ?_
   rintro _ v31 ⟨an30,kn30,dn30,rfl,Nn30,ln30,B⟩
   replace X:=X.keep B
   replace YR:=YR.keep B
   replace BB:=chB BB B
   replace LP:=LP.trans (Lp.of B)
   replace Xg2:=Xg2.keep B
   replace Xg4:=Xg4.keep B
   replace Nn6:=Nn6.keep B
   replace Xg29:=Xg29.keep B
   refine ⟨_,rfl,⟨Xg2,Xg4⟩,?_⟩
   refine zc 7 47 64 #[.slice an30 kn30 dn30,.slice ay ny cy] (tOfZ (Ny _ BB) (by omega) hz) ?_
   rintro _ v32 ⟨rfl,B⟩
   replace X:=X.keep B
   replace YR:=YR.keep B
   replace BB:=chB BB B
   replace LP:=LP.trans (Lp.of B)
   replace Xg2:=Xg2.keep B
   replace Xg4:=Xg4.keep B
   replace Nn6:=Nn6.keep B
   replace Xg29:=Xg29.keep B
   replace Nn30:=Nn30.keep B
   refine ⟨_,rfl,⟨Xg2,Xg4⟩,?_⟩
   refine z 8 39 (.tuple #[.agg #[zS,zS],iI 30]) (z 9 48 (.agg #[zS,zS]) (z 10 49 (iI 30) (zs 12 Xg29 0 (.agg #[zS,zS]) [zS,zS] [zS,zS] ?_)))
   intro v33 Y C
   replace X:=X.chg C (show g≠g29 by omega)
   replace YR:=YR.cg Xg29 C (by rfl) (by decide)
   replace BB:=chN BB C (by omega)
   replace LP:=LP.trans (Lp.cg Xg29 C (by rfl))
   replace Xg2:=Xg2.chg C (show g2≠g29 by omega)
   replace Xg4:=Xg4.chg C (show g4≠g29 by omega)
   replace Nn6:=NatO.cg Nn6 Xg29 C (by rfl)
   replace Nn30:=NatO.cg Nn30 Xg29 C (by rfl)
   have Xg29:=Y
   refine ⟨⟨Xg2,Xg4⟩,?_⟩
   refine z 13 14 (iI 30) (gz_done (ge_then (gc_fr [(0,pg g),(12,iI (i0:Int)),(13,pg g29),(14,iI 30)] (gc_seq (gc_seq (gc_reg (t 50 (iI 30) (t 51 (bT) (gl_nil (ge_then (gc_yes (gc_reg (tc 52 60 #[] (nothing_any) ?_)))))))))))))
   rintro _ v35 ⟨aq34,kq34,dq34,bq34,lq34,eq34,rfl,Qq34,B⟩
   refine ⟨_,rfl,?_⟩
   replace X:=X.keep B
   replace YR:=YR.keep B
   replace BB:=chB BB B
   replace LP:=LP.trans (Lp.of B)
   replace Xg2:=Xg2.keep B
   replace Xg4:=Xg4.keep B
   replace Nn6:=Nn6.keep B
   replace Xg29:=Xg29.keep B
   replace Nn30:=Nn30.keep B
   refine ts Xg29 0 (.agg #[.slice aq34 kq34 dq34,.slice bq34 lq34 eq34]) [.slice aq34 kq34 dq34,.slice bq34 lq34 eq34] [.slice aq34 kq34 dq34,.slice bq34 lq34 eq34] ?_
   intro v36 Y C
   replace X:=X.chg C (show g≠g29 by omega)
   replace YR:=YR.cg Xg29 C (by rfl) (by decide)
   replace BB:=chN BB C (by omega)
   replace LP:=LP.trans (Lp.cg Xg29 C (by rfl))
   replace Xg2:=Xg2.chg C (show g2≠g29 by omega)
   replace Xg4:=Xg4.chg C (show g4≠g29 by omega)
   replace Nn6:=NatO.cg Nn6 Xg29 C (by rfl)
   replace Nn30:=NatO.cg Nn30 Xg29 C (by rfl)
   replace Qq34:=Qq34.cg Xg29 C (by rfl)
   have Xg29:=Y
   refine gl_nil (ge_then ?_)
   replace Nx:=Nx
   replace Ny:=Ny
   replace X:=X.drew
   replace YR:=YR.drew
   replace BB:=chB BB (Below.refl _ _).drew
   replace LP:=LP.trans (Lp.of (Below.refl _ _).drew)
   replace Xg2:=Xg2.drew
   replace Xg4:=Xg4.drew
   replace Nn6:=Nn6.keep (Below.refl _ _).drew
   replace Xg29:=Xg29.drew
   replace Nn30:=Nn30.keep (Below.refl _ _).drew
   replace Qq34:=Qq34.drew
   refine gc_draw (fun w'=>Blk w' g [.slice ao n c] 30/\Blk w' g29 [.slice aq34 kq34 dq34,.slice bq34 lq34 eq34] 40/\Ry w' b ao n c zz E) (fun i=>decide (8<=i)) ⟨X,Xg29,YR⟩ ?_
   refine zp 0 53 (pg g) (zp 1 54 (pg g) (zp 2 55 (pg g) (zl 3 56 (.slice ao n c) (fun _ h=>h.1) 0 (zp 4 57 (iI (i0:Int)) (zlr 5 58 [.slice aq34 kq34 dq34,.slice bq34 lq34 eq34] (fun _ h=>h.2.1) 0 (zp 6 59 (pq b (i0 * 8)) ?_ (hrun:=fun _=>congr_v (by rw [Nat.zero_add]) (run_ixa 8 b 0 n c i0 hk_i0 YR.p0))))))))
   refine zp 7 60 (pq b (i0 * 8 + 2)) (gz_late (ys 8 (YR.blk (YR.c0 hk_i0)) (i0 * 8 + 2) (.agg #[.slice aq34 kq34 dq34,.slice bq34 lq34 eq34]) [.slice aq34 kq34 dq34,.slice bq34 lq34 eq34] (fl (upE E i0 ⟨(E i0).v,(E i0).d,(aq34,kq34,dq34,bq34,lq34,eq34),(E i0).ov,(0:Rat),(E i0).o,(E i0).p,(E i0).k⟩) n ++ zrs zz) ?_ (hb:=fl_room E hk_i0 2 [.slice aq34 kq34 dq34,.slice bq34 lq34 eq34] (zrs zz) (Nat.le_of_ble_eq_true rfl)) (he:=fl_set E hk_i0 2 [.slice aq34 kq34 dq34,.slice bq34 lq34 eq34] ⟨(E i0).v,(E i0).d,(aq34,kq34,dq34,bq34,lq34,eq34),(E i0).ov,(0:Rat),(E i0).o,(E i0).p,(E i0).k⟩ (zrs zz) (Nat.le_of_ble_eq_true rfl) rfl)))
   intro v37 Y C
   obtain ⟨YR2,P⟩:=YR.st hk_i0 2 [.slice aq34 kq34 dq34,.slice bq34 lq34 eq34] ⟨(E i0).v,(E i0).d,(aq34,kq34,dq34,bq34,lq34,eq34),(E i0).ov,(0:Rat),(E i0).o,(E i0).p,(E i0).k⟩ (Nat.le_of_ble_eq_true rfl) rfl rfl rfl (by rfl) Qq34 (YR.q i0 hk_i0).2 Y C
   replace X:=X.chg C (YR.ne X (by decide) (YR.c0 hk_i0)).symm
   replace BB:=chS BB C (YR.c0 hk_i0)
   replace LP:=LP.trans P
   replace Xg2:=Xg2.chg C (YR.ne Xg2 (by decide) (YR.c0 hk_i0)).symm
   replace Xg4:=Xg4.chg C (YR.ne Xg4 (by decide) (YR.c0 hk_i0)).symm
   replace Nn6:=NatO.lp Nn6 P
   replace Xg29:=Xg29.chg C (YR.ne Xg29 (by decide) (YR.c0 hk_i0)).symm
   replace Nn30:=NatO.lp Nn30 P
   replace Qq34:=Qq34.lp P
   clear YR C P
   have YR:=YR2
   clear YR2
   obtain ⟨E38,hE38⟩:∃ E38,upE E i0 ⟨(E i0).v,(E i0).d,(aq34,kq34,dq34,bq34,lq34,eq34),(E i0).ov,(0:Rat),(E i0).o,(E i0).p,(E i0).k⟩=E38:=⟨_,rfl⟩
   rw [hE38] at YR
   have eE38:(E38 i0).p=(E i0).p/\(E38 i0).k=(E i0).k:=by rw [<- hE38]; simp [upE]
   refine gy_done (ge_end (.tuple #[]) (rs0 (by kernel_rfl)) ?_)
   have hS:sO E38 n=sHold (sO E n) v d x yv t_:=by
    unfold sHold
    rw [sO_yes hk_i0 hy hu,if_pos (show (some (stk (E i0))).isSome=true from rfl)]
    refine sO_at hk_i0 hy (fun j hj hne=>hKn.other hk_i0 hy j hj hne) fun j hj => ?_
    rw [<- hE38]
    by_cases q:j=i0
    ·subst q; simp [upE,stk,qv,hz]
    ·simp [upE,q,stk]
   exact ⟨_,_,_,_,_,_,_,rfl,X,YR,hS,fun _=>.inl ⟨YR.c0 hk_i0,rfl⟩,BB,LP⟩
  exact ga_nil
 have lX:=X.lt
 have lXg2:=Xg2.lt
 have lXg4:=Xg4.lt
 refine zaa 11 13 [zS,zS] 40 (pg) ?_ ?_
 ·intro v39 g40 Xg40 hg40 B
  have hbg40:=Nat.le_trans BB.size hg40
  replace X:=X.keep B
  replace YR:=YR.keep B
  replace BB:=chB BB B
  replace LP:=LP.trans (Lp.of B)
  replace Xg2:=Xg2.keep B
  replace Xg4:=Xg4.keep B
  refine ⟨⟨Xg2,Xg4⟩,?_⟩
  refine zc 3 43 66 #[iU t_] (rOf (x:=t_) (ht).1 (ht).2) ?_
  rintro _ v42 ⟨an41,kn41,dn41,rfl,Nn41,ln41,B⟩
  replace X:=X.keep B
  replace YR:=YR.keep B
  replace BB:=chB BB B
  replace LP:=LP.trans (Lp.of B)
  replace Xg2:=Xg2.keep B
  replace Xg4:=Xg4.keep B
  replace Xg40:=Xg40.keep B
  refine ⟨_,rfl,⟨Xg2,Xg4⟩,?_⟩
  refine zc 4 44 65 #[.slice ax nx cx,.slice an41 kn41 dn41] (rMul (Nx _ BB) Nn41.a (by omega) (by omega)) ?_
  rintro _ v44 ⟨an43,kn43,dn43,rfl,Nn43,ln43,B⟩
  replace X:=X.keep B
  replace YR:=YR.keep B
  replace BB:=chB BB B
  replace LP:=LP.trans (Lp.of B)
  replace Xg2:=Xg2.keep B
  replace Xg4:=Xg4.keep B
  replace Xg40:=Xg40.keep B
  replace Nn41:=Nn41.keep B
  refine ⟨_,rfl,⟨Xg2,Xg4⟩,?_⟩
  refine zc 7 47 64 #[.slice an43 kn43 dn43,.slice ay ny cy] (tOfZ (Ny _ BB) (by omega) hz) ?_
  rintro _ v45 ⟨rfl,B⟩
  replace X:=X.keep B
  replace YR:=YR.keep B
  replace BB:=chB BB B
  replace LP:=LP.trans (Lp.of B)
  replace Xg2:=Xg2.keep B
  replace Xg4:=Xg4.keep B
  replace Xg40:=Xg40.keep B
  replace Nn41:=Nn41.keep B
  replace Nn43:=Nn43.keep B
  refine ⟨_,rfl,⟨Xg2,Xg4⟩,?_⟩
  refine z 8 39 (.tuple #[.agg #[zS,zS],iI 30]) (z 9 48 (.agg #[zS,zS]) (z 10 49 (iI 30) (zs 12 Xg40 0 (.agg #[zS,zS]) [zS,zS] [zS,zS] ?_)))
  intro v46 Y C
  replace X:=X.chg C (show g≠g40 by omega)
  replace YR:=YR.cg Xg40 C (by rfl) (by decide)
  replace BB:=chN BB C (by omega)
  replace LP:=LP.trans (Lp.cg Xg40 C (by rfl))
  replace Xg2:=Xg2.chg C (show g2≠g40 by omega)
  replace Xg4:=Xg4.chg C (show g4≠g40 by omega)
  replace Nn41:=NatO.cg Nn41 Xg40 C (by rfl)
  replace Nn43:=NatO.cg Nn43 Xg40 C (by rfl)
  have Xg40:=Y
  refine ⟨⟨Xg2,Xg4⟩,?_⟩
  refine z 13 14 (iI 30) (gz_done (ge_then (gc_fr [(0,pg g),(12,iI (i0:Int)),(13,pg g40),(14,iI 30)] (gc_seq (gc_seq (gc_reg (t 50 (iI 30) (t 51 (bT) (gl_nil (ge_then (gc_yes (gc_reg (tc 52 60 #[] (nothing_any) ?_)))))))))))))
  rintro _ v48 ⟨aq47,kq47,dq47,bq47,lq47,eq47,rfl,Qq47,B⟩
  refine ⟨_,rfl,?_⟩
  replace X:=X.keep B
  replace YR:=YR.keep B
  replace BB:=chB BB B
  replace LP:=LP.trans (Lp.of B)
  replace Xg2:=Xg2.keep B
  replace Xg4:=Xg4.keep B
  replace Xg40:=Xg40.keep B
  replace Nn41:=Nn41.keep B
  replace Nn43:=Nn43.keep B
  refine ts Xg40 0 (.agg #[.slice aq47 kq47 dq47,.slice bq47 lq47 eq47]) [.slice aq47 kq47 dq47,.slice bq47 lq47 eq47] [.slice aq47 kq47 dq47,.slice bq47 lq47 eq47] ?_
  intro v49 Y C
  replace X:=X.chg C (show g≠g40 by omega)
  replace YR:=YR.cg Xg40 C (by rfl) (by decide)
  replace BB:=chN BB C (by omega)
  replace LP:=LP.trans (Lp.cg Xg40 C (by rfl))
  replace Xg2:=Xg2.chg C (show g2≠g40 by omega)
  replace Xg4:=Xg4.chg C (show g4≠g40 by omega)
  replace Nn41:=NatO.cg Nn41 Xg40 C (by rfl)
  replace Nn43:=NatO.cg Nn43 Xg40 C (by rfl)
  replace Qq47:=Qq47.cg Xg40 C (by rfl)
  have Xg40:=Y
  refine gl_nil (ge_then ?_)
  replace Nx:=Nx
  replace Ny:=Ny
  replace X:=X.drew
  replace YR:=YR.drew
  replace BB:=chB BB (Below.refl _ _).drew
  replace LP:=LP.trans (Lp.of (Below.refl _ _).drew)
  replace Xg2:=Xg2.drew
  replace Xg4:=Xg4.drew
  replace Xg40:=Xg40.drew
  replace Nn41:=Nn41.keep (Below.refl _ _).drew
  replace Nn43:=Nn43.keep (Below.refl _ _).drew
  replace Qq47:=Qq47.drew
  refine gc_draw (fun w'=>Blk w' g [.slice ao n c] 30/\Blk w' g40 [.slice aq47 kq47 dq47,.slice bq47 lq47 eq47] 40/\Ry w' b ao n c zz E) (fun i=>decide (8<=i)) ⟨X,Xg40,YR⟩ ?_
  refine zp 0 53 (pg g) (zp 1 54 (pg g) (zp 2 55 (pg g) (zl 3 56 (.slice ao n c) (fun _ h=>h.1) 0 (zp 4 57 (iI (i0:Int)) (zlr 5 58 [.slice aq47 kq47 dq47,.slice bq47 lq47 eq47] (fun _ h=>h.2.1) 0 (zp 6 59 (pq b (i0 * 8)) ?_ (hrun:=fun _=>congr_v (by rw [Nat.zero_add]) (run_ixa 8 b 0 n c i0 hk_i0 YR.p0))))))))
  refine zp 7 60 (pq b (i0 * 8 + 2)) (gz_late (ys 8 (YR.blk (YR.c0 hk_i0)) (i0 * 8 + 2) (.agg #[.slice aq47 kq47 dq47,.slice bq47 lq47 eq47]) [.slice aq47 kq47 dq47,.slice bq47 lq47 eq47] (fl (upE E i0 ⟨(E i0).v,(E i0).d,(aq47,kq47,dq47,bq47,lq47,eq47),(E i0).ov,(0:Rat),(E i0).o,(E i0).p,(E i0).k⟩) n ++ zrs zz) ?_ (hb:=fl_room E hk_i0 2 [.slice aq47 kq47 dq47,.slice bq47 lq47 eq47] (zrs zz) (Nat.le_of_ble_eq_true rfl)) (he:=fl_set E hk_i0 2 [.slice aq47 kq47 dq47,.slice bq47 lq47 eq47] ⟨(E i0).v,(E i0).d,(aq47,kq47,dq47,bq47,lq47,eq47),(E i0).ov,(0:Rat),(E i0).o,(E i0).p,(E i0).k⟩ (zrs zz) (Nat.le_of_ble_eq_true rfl) rfl)))
  intro v50 Y C
  obtain ⟨YR2,P⟩:=YR.st hk_i0 2 [.slice aq47 kq47 dq47,.slice bq47 lq47 eq47] ⟨(E i0).v,(E i0).d,(aq47,kq47,dq47,bq47,lq47,eq47),(E i0).ov,(0:Rat),(E i0).o,(E i0).p,(E i0).k⟩ (Nat.le_of_ble_eq_true rfl) rfl rfl rfl (by rfl) Qq47 (YR.q i0 hk_i0).2 Y C
  replace X:=X.chg C (YR.ne X (by decide) (YR.c0 hk_i0)).symm
  replace BB:=chS BB C (YR.c0 hk_i0)
  replace LP:=LP.trans P
  replace Xg2:=Xg2.chg C (YR.ne Xg2 (by decide) (YR.c0 hk_i0)).symm
  replace Xg4:=Xg4.chg C (YR.ne Xg4 (by decide) (YR.c0 hk_i0)).symm
  replace Xg40:=Xg40.chg C (YR.ne Xg40 (by decide) (YR.c0 hk_i0)).symm
  replace Nn41:=NatO.lp Nn41 P
  replace Nn43:=NatO.lp Nn43 P
  replace Qq47:=Qq47.lp P
  clear YR C P
  have YR:=YR2
  clear YR2
  obtain ⟨E51,hE51⟩:∃ E51,upE E i0 ⟨(E i0).v,(E i0).d,(aq47,kq47,dq47,bq47,lq47,eq47),(E i0).ov,(0:Rat),(E i0).o,(E i0).p,(E i0).k⟩=E51:=⟨_,rfl⟩
  rw [hE51] at YR
  have eE51:(E51 i0).p=(E i0).p/\(E51 i0).k=(E i0).k:=by rw [<- hE51]; simp [upE]
  refine gy_done (ge_end (.tuple #[]) (rs0 (by kernel_rfl)) ?_)
  have hS:sO E51 n=sHold (sO E n) v d x yv t_:=by
   unfold sHold
   rw [sO_yes hk_i0 hy hu,if_pos (show (some (stk (E i0))).isSome=true from rfl)]
   refine sO_at hk_i0 hy (fun j hj hne=>hKn.other hk_i0 hy j hj hne) fun j hj => ?_
   rw [<- hE51]
   by_cases q:j=i0
   ·subst q; simp [upE,stk,qv,hz]
   ·simp [upE,q,stk]
  exact ⟨_,_,_,_,_,_,_,rfl,X,YR,hS,fun _=>.inl ⟨YR.c0 hk_i0,rfl⟩,BB,LP⟩
 exact ga_nil
theorem run_slA {ρ:Operand->Value} {w:World} {o:Oper} {b n c i:Nat} (hi:i<=c) (ho:∃ x y,o.op=.slice 28 x none (some y) none/\ρ x=.slice (some ⟨b,0,none⟩) n c/\ρ y=.int .i64 (i:Int):=by exact ⟨_,_,rfl,by kernel_rfl,by kernel_rfl⟩):(execOp ρ o).run Tryz.prog w=.ok (.value (.slice (some ⟨b,0,none⟩) i c)) w:=by
 obtain ⟨x,y,h,h1,h2⟩:=ho
 have c1:¬ ((i:Int) < 0):=by omega
 have c2:¬ (c:Int) < (i:Int):=by omega
 simp only [execOp,h,Option.map_some,Option.map_none,h1,h2]
 go_simp
theorem run_slB {ρ:Operand->Value} {w:World} {o:Oper} {b n c i:Nat} (hi:i < n) (_hc:n<=c) (ho:∃ x y,o.op=.slice 28 x (some y) none none/\ρ x=.slice (some ⟨b,0,none⟩) n c/\ρ y=.int .i64 ((i:Int) + 1):=by exact ⟨_,_,rfl,by kernel_rfl,by kernel_rfl⟩):(execOp ρ o).run Tryz.prog w=.ok (.value (.slice (some (if c=i + 1 then ⟨b,0,none⟩ else ⟨b,(i + 1) * 8,none⟩)) (n - (i + 1)) (c - (i + 1)))) w:=by
 obtain ⟨x,y,h,h1,h2⟩:=ho
 have c1:¬ ((i:Int) + 1 < 0):=by omega
 have c2:¬ (n:Int) < (i:Int) + 1:=by omega
 have e:((i:Int) + 1).toNat=i + 1:=by omega
 simp only [execOp,h,Option.map_some,Option.map_none,h1,h2]
 go_simp
 by_cases k:c=i + 1<;>simp [*]
theorem fl_pre (E : Nat → E8) {n i : Nat} (h : i ≤ n) : ∃ B, fl E n = fl E i ++ B := by
  induction n with
  | zero => obtain rfl : i = 0 := by omega
            exact ⟨[], rfl⟩
  | succ n ih =>
    rcases Nat.lt_or_ge i (n + 1) with h1 | h1
    · obtain ⟨B, e⟩ := ih (by omega)
      exact ⟨B ++ cel (E n), by simp only [fl, e, List.append_assoc]⟩
    · obtain rfl : i = n + 1 := by omega
      exact ⟨[], by simp⟩
theorem fl_cut (E:Nat->E8) (i m:Nat):fl E (i + m)=fl E i ++ fl (fun j=>E (i + j)) m:=by
 induction m with
 | zero=>simp [fl]
 | succ m ih=>rw [<- Nat.add_assoc]; simp only [fl,ih,List.append_assoc]
abbrev dE (E:Nat->E8) (i:Nat):Nat->E8:=fun j=>if j < i then E j else E (j + 1)
theorem dE_fl (E:Nat->E8) (i m:Nat):fl (dE E i) (i + m)=fl E i ++ fl (fun j=>E (i + 1 + j)) m:=by
 rw [fl_cut]
 congr 1
 ·exact fl_cong fun j hj=>if_pos hj
 ·exact fl_cong fun j hj=>by rw [show dE E i (i + j)=E (i + j + 1) from if_neg (by omega)]; congr 1; omega
theorem sO_cut (E:Nat->E8) (i m:Nat):sO E (i + m)=sO E i ++ sO (fun j=>E (i + j)) m:=by
 induction m with
 | zero=>simp [sO]
 | succ m ih=>rw [<- Nat.add_assoc]; simp only [sO,ih,List.append_assoc]
theorem sO_cong {E F:Nat->E8} {n:Nat} (h:∀ i,i < n->E i=F i):sO E n=sO F n:=by
 induction n with
 | zero=>rfl
 | succ n ih=>simp only [sO,ih (fun i hi=>h i (by omega)),h n (by omega)]
theorem drop_keep {E:Nat->E8} {n:Nat} {v d:Int} (h:∀ j,j < n->¬ ((E j).v=v/\(E j).d=d)):sDrop (sO E n) v d=sO E n:=by
 unfold sDrop
 refine List.filter_eq_self.2 fun e he => ?_
 obtain ⟨j,hj,rfl⟩:=sO_mem.1 he
 have:=h j hj
 simp only [Bool.not_eq_true',Bool.and_eq_false_iff,beq_eq_false_iff_ne]
 by_cases q:(E j).v=v
 ·exact .inr fun k=>this ⟨q,k⟩
 ·exact .inl q
theorem sO_drop {E:Nat->E8} {n i:Nat} {v d:Int} (hi:i < n) (hy:(E i).v=v/\(E i).d=d) (ho:∀ j,j < n->j≠i->¬ ((E j).v=v/\(E j).d=d)):sO (dE E i) (i + (n - (i + 1)))=sDrop (sO E n) v d:=by
 obtain ⟨m,rfl⟩:∃ m,n=i + 1 + m:=⟨n - (i + 1),by omega⟩
 rw [show i + 1 + m - (i + 1)=m by omega,sO_cut (dE E i),sO_cut E (i + 1)]
 have h1:sDrop (sO E i) v d=sO E i:=drop_keep fun j hj=>ho j (by omega) (by omega)
 have h2:sDrop (sO (fun j=>E (i + 1 + j)) m) v d=sO (fun j=>E (i + 1 + j)) m:=drop_keep fun j hj=>ho (i + 1 + j) (by omega) (by omega)
 unfold sDrop at h1 h2 ⊢
 simp only [sO,List.filter_append,h1,h2]
 rw [show List.filter (fun e => !(e.1.1 == v && e.1.2 == d)) [(((E i).v,(E i).d),((E i).r,(E i).o,(E i).p,(E i).k))]=[] by simp [hy.1,hy.2],List.append_nil]
 congr 1
 ·exact sO_cong fun j hj=>if_pos hj
 ·exact sO_cong fun j hj=>by rw [show dE E i (i + j)=E (i + j + 1) from if_neg (by omega)]; congr 1; omega
theorem rDrop_n {w:World} {g b:Nat} {ao:Option Addr} {n c zz:Nat} {E:Nat->E8} {v d:Int} (hv:0<=v/\v < 18446744073709551616) (hd:0<=d/\d < 18446744073709551616) (X:Blk w g [.slice ao n c] 30) (YR:Ry w b ao n c zz E) (hn:n<=100) (hno:∀ j,j < n->¬ ((E j).v=v/\(E j).d=d)):Calls Tryz.prog 20 #[pg g,.int .u64 v,.int .u64 d] w fun e w'=>∃ F b2 ao2 n2 c2 zz2 v0,e=.returned v0/\Blk w' g [.slice ao2 n2 c2] 30/\Ry w' b2 ao2 n2 c2 zz2 F/\sO F n2=sDrop (sO E n) v d/\(0 < c2->(0 < c/\b2=b)\/w.heap.size<=b2)/\Chg (KF g b c) w w'/\Lp w w':=by
 have BB:Chg (KF g b c) w w:=Chg.refl _ _
 have LP:=Lp.refl w
 refine gc_enter (n:=31) Tryz.func20 rfl ?_
 refine gc_seq (gc_reg (t 7 (pg g) (t 8 (iU v) (t 9 (iU d) (tc 10 59 #[pg g,iU v,iU d] (at_no hv hd X YR hn hno) ?_)))))
 rintro _ v1 ⟨rfl,B⟩
 refine ⟨_,rfl,?_⟩
 replace X:=X.keep B
 replace YR:=YR.keep B
 replace BB:=chB BB B
 replace LP:=LP.trans (Lp.of B)
 refine t 6 (iI (-1)) (gl_nil (ge_then (gc_seq (gc_reg (t 11 (iI (-1)) (t 12 (bF) (gl_nil (ge_then (gc_no (gc_skip (ge_end (.tuple #[]) (rs0 (by kernel_rfl)) ?_)))))))))))
 exact ⟨_,_,_,_,_,_,_,rfl,X,YR,(drop_keep hno).symm,fun k=>.inl ⟨k,rfl⟩,BB,LP⟩
theorem rDrop_y {w:World} {g b:Nat} {ao:Option Addr} {n c zz:Nat} {E:Nat->E8} {v d:Int} (hv:0<=v/\v < 18446744073709551616) (hd:0<=d/\d < 18446744073709551616) (X:Blk w g [.slice ao n c] 30) (YR:Ry w b ao n c zz E) (hn:n<=100) (hKn:Kn E n) {i0:Nat} (hk_i0:i0 < n) (hy:(E i0).v=v/\(E i0).d=d) (hu:∀ j,j < i0->¬ ((E j).v=v/\(E j).d=d)):Calls Tryz.prog 20 #[pg g,.int .u64 v,.int .u64 d] w fun e w'=>∃ F b2 ao2 n2 c2 zz2 v0,e=.returned v0/\Blk w' g [.slice ao2 n2 c2] 30/\Ry w' b2 ao2 n2 c2 zz2 F/\sO F n2=sDrop (sO E n) v d/\(0 < c2->(0 < c/\b2=b)\/w.heap.size<=b2)/\Chg (KF g b c) w w'/\Lp w w':=by
 have hao:=YR.p0 (Nat.lt_of_le_of_lt (Nat.zero_le _) hk_i0)
 subst hao
 have BB:Chg (KF g b c) w w:=Chg.refl _ _
 have LP:=Lp.refl w
 refine gc_enter (n:=31) Tryz.func20 rfl ?_
 refine gc_seq (gc_reg (t 7 (pg g) (t 8 (iU v) (t 9 (iU d) (tc 10 59 #[pg g,iU v,iU d] (at_yes hv hd X YR hn hk_i0 hy hu) ?_)))))
 rintro _ v1 ⟨rfl,B⟩
 refine ⟨_,rfl,?_⟩
 replace X:=X.keep B
 replace YR:=YR.keep B
 replace BB:=chB BB B
 replace LP:=LP.trans (Lp.of B)
 refine t 6 (iI (i0:Int)) (gl_nil (ge_then (gc_seq (gc_reg (t 11 (iI (i0:Int)) (tq 12 (.bool (decide ((0:Int)<=(i0:Int)))) (bT) (congrArg Value.bool (decide_eq_true (by omega))) (gl_nil (ge_then (gc_yes ?_)))))))))
 replace X:=X.drew
 replace YR:=YR.drew
 replace BB:=chB BB (Below.refl _ _).drew
 replace LP:=LP.trans (Lp.of (Below.refl _ _).drew)
 refine gc_draw (fun w'=>Blk w' g [.slice (some ⟨b,0,none⟩) n c] 30) (fun i=>decide (18<=i)) X ?_
 refine zp 0 13 (pg g) (zp 1 14 (pg g) (zp 2 15 (pg g) (zp 3 16 (pg g) (zl 4 17 (.slice (some ⟨b,0,none⟩) n c) (fun _ h=>h) 0 (zp 5 18 (iI (i0:Int)) (zp 6 19 (.slice (some ⟨b,0,none⟩) i0 c) ?_ (hrun:=fun _=>run_slA (b:=b) (n:=n) (c:=c) (i:=i0) (by have:=YR.hc; omega))))))))
 refine zp 8 21 (pg g) (zp 9 22 (pg g) (zp 10 23 (pg g) (zl 11 24 (.slice (some ⟨b,0,none⟩) n c) (fun _ h=>h) 0 (zp 12 25 (iI (i0:Int)) (zp 13 26 (iI ((i0:Int) + 1)) ?_ (hrun:=fun _=>congr_v (v:=iI (IntKind.i64.wrap ((i0:Int) + 1))) (wi (by omega)) (by kernel_rfl)))))))
 refine zp 14 27 (.slice (some (if c=i0 + 1 then ⟨b,0,none⟩ else ⟨b,(i0 + 1) * 8,none⟩)) (n - (i0 + 1)) (c - (i0 + 1))) ?_ (hrun:=fun _=>run_slB (b:=b) (n:=n) (c:=c) (i:=i0) hk_i0 (by have:=YR.hc; omega))
 have hblk:=YR.blk (YR.c0 hk_i0)
 obtain ⟨Bf,hBf⟩:=fl_pre E (Nat.le_of_lt hk_i0)
 obtain ⟨ao5,b5,c5,zz5,w5,hr5,R5,hb5,C5,P5⟩:=app_any (n:=0) (c:=0) (zz:=0) (b:=0) (ao:=none) (E:=E) (E2:=E) (G:=E) (m:=i0) (cc:=c) (a:=⟨b,0,none⟩) (⟨rfl,fun _=>rfl,fun h=>absurd h (by decide),fun h=>absurd h (by decide)⟩:Rb _ 0 none 0 0 0 E) (fun j u hj=>by rw [Addr.add_lit,Nat.zero_add]; refine hblk.cell ?_; rw [hBf,List.append_assoc,List.getElem?_append_left (List.getElem?_eq_some_iff.1 hj).1]; exact hj) (by simp [fl]) (by omega)
 simp only [Nat.zero_add] at hr5 R5
 clear hblk hBf
 have hsz5:=BB.size
 have hbl5:=lt_of_block (YR.blk (YR.c0 hk_i0)).blk
 have hgl5:=X.lt
 replace hb5:0 < c5->w.heap.size<=b5/\b < b5/\g < b5:=fun k=>by
  rcases hb5 k with h | h
  ·exact absurd h.1 (by decide)
  ·exact ⟨Nat.le_trans hsz5 h,Nat.lt_of_lt_of_le hbl5 h,Nat.lt_of_lt_of_le hgl5 h⟩
 replace YR:=YR.off C5 P5 (fun _ k=>absurd k.1 (by decide))
 replace X:=X.chg C5 (fun k=>absurd k.1 (by decide))
 replace BB:=BB.trans C5 (fun _ _ k=>absurd k.1 (by decide))
 replace LP:=LP.trans P5
 clear C5 P5 hsz5 hbl5 hgl5
 refine zw 7 20 (.slice ao5 i0 c5) _ (run_apS hr5) X ?_
 have hblk:=YR.blk (YR.c0 hk_i0)
 obtain ⟨ao6,b6,c6,zz6,w6,hr6,R6,hb6,C6,P6⟩:=app_any (E2:=dE E i0) (G:=fun j=>E (i0 + 1 + j)) (m:=n - (i0 + 1)) (cc:=c - (i0 + 1)) (a:=if c=i0 + 1 then ⟨b,0,none⟩ else ⟨b,(i0 + 1) * 8,none⟩) R5 (fun j u hj=>by
  have hl:=(List.getElem?_eq_some_iff.1 hj).1
  rw [fl_len] at hl
  have hc':=YR.hc
  rw [if_neg (by omega),Addr.add_lit]
  refine hblk.cell ?_
  have e1:fl E n=fl E (i0 + 1) ++ fl (fun j=>E (i0 + 1 + j)) (n - (i0 + 1)):=by rw [<- fl_cut]; congr 1; omega
  rw [e1,List.append_assoc,List.getElem?_append_right (by rw [fl_len]; omega),fl_len,show (i0 + 1) * 8 + j - (i0 + 1) * 8=j by omega,List.getElem?_append_left (by rw [fl_len]; omega)]
  exact hj) (dE_fl E i0 (n - (i0 + 1))) (by omega)
 clear hblk
 have hsz6:=BB.size
 replace hb6:0 < c6->w.heap.size<=b6:=fun k=>by
  rcases hb6 k with h | h
  ·rw [h.2]; exact (hb5 h.1).1
  ·exact Nat.le_trans hsz6 h
 replace YR:=YR.off C6 P6 (fun _ k=>by have:=(hb5 k.1).2.1; have:=k.2; omega)
 replace X:=X.chg C6 (fun k=>by have:=(hb5 k.1).2.2; have:=k.2; omega)
 replace BB:=BB.trans C6 (fun q hq k=>by have:=(hb5 k.1).1; have:=k.2; omega)
 replace LP:=LP.trans P6
 clear C6 P6 R5 hsz6
 refine zw 15 28 (.slice ao6 (i0 + (n - (i0 + 1))) c6) _ (run_apS hr6) X ?_
 refine zp 16 29 (pg g) (zp 17 30 (pg g) (gz_late (ys 18 X 0 (.slice ao6 (i0 + (n - (i0 + 1))) c6) [.slice ao6 (i0 + (n - (i0 + 1))) c6] [.slice ao6 (i0 + (n - (i0 + 1))) c6] ?_)))
 intro v2 Y C
 replace YR:=YR.cg X C (by rfl) (by decide)
 replace R6:=R6.cg X C (by rfl) (by decide)
 replace BB:=chG BB C
 replace LP:=LP.trans (Lp.cg X C (by rfl))
 have X:=Y
 refine gy_done (ge_end (.tuple #[]) (rs0 (by kernel_rfl)) ?_)
 exact ⟨_,_,_,_,_,_,_,rfl,X,R6.ry (fun i hi=>by
  by_cases h:i < i0
  ·rw [show dE E i0 i=E i from if_pos h]; exact YR.q i (by omega)
  ·rw [show dE E i0 i=E (i + 1) from if_neg h]; exact YR.q (i + 1) (by omega)) (fun i hi=>by
  by_cases h:i < i0
  ·rw [show dE E i0 i=E i from if_pos h]; exact YR.rg i (by omega)
  ·rw [show dE E i0 i=E (i + 1) from if_neg h]; exact YR.rg (i + 1) (by omega)),sO_drop hk_i0 hy (fun j hj hne=>hKn.other hk_i0 hy j hj hne),fun k=>.inr (hb6 k),BB,LP⟩
end Lg
end
end Go.Proofs.YtlbndpkdkdgggaaGreatDoor
