/- Several texts, joined: PgR, PgI, PgD, PgC, PgE, PgT, PgM, PgS, PgP, PgQ, PgU, PgZ, PgV, PgW, PgWe, PgG, PgH, PgJ, PgK, PgL, PgN, PgO, PgRf, PgY. -/
import Derived.Test.YthfepflplbahkaaGreatDoorJac
import Derived.Lib.BytesEntry
import Derived.WalkMore
import Derived.Deep.RegionHeld3
import Derived.Deep.RegionWith
import Derived.RangeFuncNested
import Derived.RangeFuncBound
import Derived.RangeFuncCalls
import Derived.RangeFuncLeaves
set_option maxRecDepth 100000
set_option maxHeartbeats 8000000
namespace Go.Proofs.YthfepflplbahkaaGreatDoor
section
namespace Pg
open Go.RowKit Go.Lib
section
variable {w w':World}{k b n c m:Nat}{xs ys:List Value}{F:Nat->Prop}{v:Value}
structure Rw(w:World)(E:TypeId)(k b n c:Nat)(xs:List Value):Prop where
 ex:∃ sp,Blk w b (xs ++ sp) E/\xs.length=n * k/\(xs ++ sp).length=c * k/\n<=c/\c<=maxLen
theorem Rw.lt{E:TypeId}(h:Rw w E k b n c xs):b < w.heap.size:=by
 obtain⟨sp,h,_⟩:=h.ex; exact h.lt
theorem Rw.same{E:TypeId}(h:Rw w E k b n c xs)(hb:w'.heap[b]? = w.heap[b]?):Rw w' E k b n c xs:=by
 obtain⟨sp,h,h'⟩:=h.ex; exact⟨sp,h.same hb,h'⟩
theorem Rw.keep{E:TypeId}(h:Rw w E k b n c xs)(hb:Below w.heap.size w w'):Rw w' E k b n c xs:=h.same (hb.block b h.lt)
theorem Rw.chg{E:TypeId}(h:Rw w E k b n c xs)(hb:Chg F w w')(hg:¬ F b):Rw w' E k b n c xs:=h.same (hb.same b h.lt hg)
theorem Rw.drew{E:TypeId}(h:Rw w E k b n c xs):Rw w.drew E k b n c xs:=h.same rfl
theorem Rw.len{E:TypeId}(h:Rw w E k b n c xs):xs.length=n * k:=by
 obtain⟨sp,h,h',_⟩:=h.ex; exact h'
theorem Rw.le{E:TypeId}(h:Rw w E k b n c xs):n<=c/\c<=maxLen:=by
 obtain⟨sp,h,_,_,h'⟩:=h.ex; exact h'
theorem Rw.cell{E:TypeId}(h:Rw w E k b n c xs){i:Nat}(hi:xs[i]? = some v):w.cell? ⟨b,i,none⟩=some v:=by
 obtain⟨sp,h,_⟩:=h.ex;exact h.cell (by rw[List.getElem?_append_left (List.getElem?_eq_some_iff.1 hi).1]; exact hi)
theorem Rw.free{E:TypeId}(h:Rw w E k b n c xs)(i:Nat):w.frozen? ⟨b,i,none⟩=false:=by
 obtain⟨sp,h,_⟩:=h.ex; exact h.free i
theorem Rw.kind{E:TypeId}(h:Rw w E k b n c xs):∃ cs,Blk w b cs E:=by
 obtain⟨sp,h,_⟩:=h.ex; exact⟨_,h⟩
theorem Rw.set{E:TypeId}(h:Rw w E k b n c xs)(i:Nat)(hi:i < xs.length)(v:Value):Rw (w.setCell ⟨b,i,none⟩ v) E k b n c (xs.set i v):=by
 obtain⟨sp,h,d,e,a⟩:=h.ex;refine⟨sp,?_,by simpa using d,by simpa using e,a⟩;have:=h.setCell (i:=i) v;rwa [List.set_append_left _ _ hi] at this
theorem zi{E:TypeId}(h:Blk w b xs E)(hx:xs.length=n * k)(hn:n<=maxLen):Rw w E k b n n xs:=⟨[],by simpa using h,hx,by simpa using hx,Nat.le_refl _,hn⟩
theorem Rw.front{E:TypeId}(h:Rw w E k b n c xs)(hm:m<=n):Rw w E k b m c (xs.take (m * k)):=by
 obtain⟨sp,h,g,d,e,a⟩:=h.ex
 have f:m * k<=n * k:=Nat.mul_le_mul_right _ hm;refine⟨xs.drop (m * k) ++ sp,by rw[<- List.append_assoc,List.take_append_drop]; exact h,by rw[List.length_take]; omega,by rw[<- List.append_assoc,List.take_append_drop]; exact d,by omega,a⟩
theorem Rw.more{E:TypeId}(h:Rw w E k b n c xs)(hm:n + m<=c):∃ s,s.length=m * k/\Rw w E k b (n + m) c (xs ++ s):=by
 obtain⟨sp,h,f,a,e,d⟩:=h.ex
 have g:n * k + m * k<=c * k:=by rw[<- Nat.add_mul]; exact Nat.mul_le_mul_right _ hm
 rw[List.length_append] at a;refine⟨sp.take (m * k),by rw[List.length_take]; omega,sp.drop (m * k),?_,?_,?_,hm,d⟩
 ·rw[List.append_assoc,List.take_append_drop]; exact h
 ·rw[List.length_append,List.length_take,Nat.add_mul]; omega
 ·rw[List.append_assoc,List.take_append_drop,List.length_append]; exact a
theorem Rw.to{E:TypeId}(h:Rw w E k b n c xs)(e:xs=ys):Rw w E k b n c ys:=e▸h
end
section
variable {P:Program} {w:World} {T E:TypeId} {k bytes:Nat} {z:Value}
section
variable {b n c g:Nat}{xs:List Value}
structure Kd(P:Program)(T E:TypeId)(k bytes:Nat)(z:Value):Prop where
 und:P.underlying T=some (.slice E)
 inf:(P.info? E).map (fun i=>(i.zero,i.size,i.bytes))=some (some z,k,bytes)
 zs:z.cells.size=k
 z1:∀ v∈z.cells,v.oneCell'=true
 k0:0 < k
theorem Kd.size(h:Kd P T E k bytes z):(P.info? E).map (·.size)=some k:=by
 obtain⟨i,hi,hz,hs,hb⟩:=info_parts h.inf;rw[hi]; simp[hs]
theorem Kd.sizeOf(h:Kd P T E k bytes z)(w:World):(Go.sizeOf E).run P w=.ok k w:=by
 obtain⟨i,hi,hz,hs,hb⟩:=info_parts h.inf;simp[Go.sizeOf,typeInfo,hi,hs]
theorem Kd.zero(h:Kd P T E k bytes z)(w:World):(zeroValue E).run P w=.ok z w:=by
 obtain⟨i,hi,hz,hs,hb⟩:=info_parts h.inf;simp[zeroValue,typeInfo,hi,hz]
theorem lF(w:World)(E:TypeId)(a:Array Value)(k n c:Nat)(xs:List Value)(b:a.size=k)(hx:xs.length=n * k)(hn:n<=c)(hc:c<=maxLen) :
  Rw (w.drew.alloc (.cells (xs.toArray ++ Builtin.zeroCells a (c - n)) E)) E k w.heap.size n c xs :=
 ⟨(Builtin.zeroCells a (c - n)).toList,⟨by
  have:=(aC w.drew (xs ++ (Builtin.zeroCells a (c - n)).toList) E).blk;rw[show (xs ++ (Builtin.zeroCells a (c - n)).toList).toArray=xs.toArray ++ Builtin.zeroCells a (c - n) by apply Array.ext'; simp] at this ⊢;exact this⟩,hx,by
  rw[List.length_append,hx,Array.length_toList,size_zeroCells,b,<- Nat.add_mul]; congr 1; omega,hn,hc⟩
theorem dz(H:Kd P T E k bytes z)(ty:TypeId)(R:Rw w E k b n c xs)(a:Addr)(m cc:Nat)(news:List Value)(y:news.length=m * k)(x:∀ j u,news[j]? = some u->w.cell? (a.add j)=some u)(B:∀ u∈news,u.oneCell'=true)(A:(n + m) * bytes<=140737488355328)(hm:n + m<=140737488355328) :
  ∃ b' c' w',(Builtin.append_ #[T,T] ty #[.slice (some ⟨b,0,none⟩) n c,.slice (some a) m cc]).run P w=.ok (.slice (some ⟨b',0,none⟩) (n + m) c') w'/\(b'=b\/b'=w.heap.size)/\Rw w' E k b' (n + m) c' (xs ++ news)/\Chg (· = b) w w':=by
 obtain⟨i,hi,q,hs,hb⟩:=info_parts H.inf;obtain⟨sp,p,hx,hc,r,h⟩:=R.ex;subst hs hb
 have l:n + m<=maxLen:=by simp only[maxLen]; omega
 by_cases d:n + m<=c
 ·have f:n * i.size + news.length<=(xs ++ sp).toArray.size:=by
   rw[List.size_toArray,hc,y,<- Nat.add_mul]; exact Nat.mul_le_mul_right _ d
  have o:=run_append_room (P:=P) w T ty E i H.und hi b n c (xs ++ sp).toArray p.blk a m cc news y x B d f;refine⟨b,c,_,o,.inl rfl,⟨sp.drop news.length,?_,by rw[List.length_append,hx,y,Nat.add_mul],?_,d,h⟩,(Chg.refl (· = b) w).row (g:=b) (.inl rfl) _⟩
  ·have:=p.row (xs ++ news ++ sp.drop news.length)
   have e:(xs ++ sp).toArray.toList.take (n * i.size) ++ news ++ (xs ++ sp).toArray.toList.drop (n * i.size + news.length)=xs ++ news ++ sp.drop news.length:=by
    rw[show (xs ++ sp).toArray.toList=xs ++ sp from rfl,<- hx,List.take_left,<- List.drop_drop,List.drop_left]
   rw[e]; exact this
  ·have t:xs.length + sp.length=c * i.size:=by rw[<- List.length_append]; exact hc
   have v:n * i.size + m * i.size<=c * i.size:=by rw[<- Nat.add_mul]; exact Nat.mul_le_mul_right _ d
   rw[List.length_append,List.length_append,List.length_drop]; omega
 ·have holds:∀ j u,xs[j]? = some u->w.cell? ((⟨b,0,none⟩:Addr).add j)=some u:=fun j u s=>by rw[Addr.add_lit,Nat.zero_add]; exact R.cell s
  have o:=run_append_grow (P:=P) w T ty E i z H.und hi q ⟨b,0,none⟩ n c xs hx holds a m cc news y x (by omega) (by omega) (growslice_fits (by omega) A);refine⟨w.heap.size,_,_,o,.inr rfl,?_,(Chg.refl _ w).drew.alloc _⟩;have:=lF w E z.cells i.size (n + m) (grownCap w (n + m) c E) (xs ++ news) H.zs (by rw[List.length_append,hx,y,Nat.add_mul]) (grownCap_ge w _ _ _) (grownCap_le_maxLen w _ _ _ l);simpa using this
theorem fi(H:Kd P T E k bytes z)(ty:TypeId)(a:Addr)(m cc:Nat)(news:List Value)(g:news.length=m * k)(e:∀ j u,news[j]? = some u->w.cell? (a.add j)=some u)(h:0 < m)(f:m * bytes<=140737488355328)(hm:m<=140737488355328) :
  ∃ c' w',(Builtin.append_ #[T,T] ty #[.slice none 0 0,.slice (some a) m cc]).run P w=.ok (.slice (some ⟨w.heap.size,0,none⟩) m c') w'/\Rw w' E k w.heap.size m c' news/\Below w.heap.size w w':=by
 obtain⟨i,hi,c,hs,hb⟩:=info_parts H.inf;subst hs hb;have d:=run_append_nil (P:=P) w T ty E i z H.und hi c a m cc news g e h (by omega) (by omega);refine⟨_,_,d,?_,?_⟩
 ·exact lF w E z.cells i.size m (grownCap w m 0 E) news H.zs g (grownCap_ge w _ _ _) (grownCap_le_maxLen w _ _ _ (by simp only[maxLen]; omega))
 ·exact(Below.refl _ w).trans ⟨rfl,rfl,rfl,by simp,fun b hb=>by
   have:=(ae w.drew (.cells (news.toArray ++ Builtin.zeroCells z.cells (grownCap w m 0 E - m)) E)).block b hb;exact this⟩
theorem nO(H:Kd P T E k bytes z)(tn ty:TypeId)(hn:P.underlying tn=some (.int .i64))(R:Rw w E k b n c xs)(m:Nat)(h:0 < m)(hc:c < n + m)(g:(n + m) * bytes<=140737488355328)(hm:n + m<=140737488355328) :
  ∃ c' w',(Builtin.append_ #[T,tn] ty #[.slice (some ⟨b,0,none⟩) n c,.int .i64 m]).run P w=.ok (.slice (some ⟨w.heap.size,0,none⟩) (n + m) c') w'/\Rw w' E k w.heap.size (n + m) c' (xs ++ (Builtin.zeroCells z.cells m).toList)/\Below w.heap.size w w':=by
 obtain⟨i,hi,a,hs,hb⟩:=info_parts H.inf;have hx:=R.len;subst hs hb
 have hold:(Builtin.firstCells i.size n (.slice (some ⟨b,0,none⟩) n c)).run P w.drew=.ok xs.toArray w.drew :=
  run_firstCells_some w.drew i.size n ⟨b,0,none⟩ n c xs hx (fun j v d=>by rw[Addr.add_lit,Nat.zero_add]; exact R.cell d)
 have e:m * i.bytes<=(n + m) * i.bytes:=Nat.mul_le_mul_right _ (by omega);have f:=run_append_grow_zeros w T tn ty E i z .i64 .i64 H.und hn hi a (some ⟨b,0,none⟩) n c xs hold m h H.k0 hc (by omega) (by omega) (growslice_fits hc g);refine⟨_,_,f,?_,?_⟩
 ·have:=lF w E z.cells i.size (n + m) (grownCap w (n + m) c E) (xs ++ (Builtin.zeroCells z.cells m).toList) H.zs (by rw[List.length_append,hx,Array.length_toList,size_zeroCells,H.zs,Nat.add_mul]) (grownCap_ge w _ _ _) (grownCap_le_maxLen w _ _ _ (by simp only[maxLen]; omega));rw[show (xs ++ (Builtin.zeroCells z.cells m).toList).toArray=xs.toArray ++ Builtin.zeroCells z.cells m by apply Array.ext'; simp] at this;exact this
 ·exact⟨rfl,rfl,rfl,by simp,fun b hb=>(ae w.drew (.cells (xs.toArray ++ Builtin.zeroCells z.cells m ++ Builtin.zeroCells z.cells (grownCap w (n + m) c E - (n + m))) E)).block b hb⟩
theorem nL(H:Kd P T E k bytes z)(tn ty:TypeId)(hn:P.underlying tn=some (.int .i64))(m:Nat)(e:0 < m)(d:m * bytes<=140737488355328)(hm:m<=140737488355328) :
  ∃ c' w',(Builtin.append_ #[T,tn] ty #[.slice none 0 0,.int .i64 m]).run P w=.ok (.slice (some ⟨w.heap.size,0,none⟩) m c') w'/\Rw w' E k w.heap.size m c' (Builtin.zeroCells z.cells m).toList/\Below w.heap.size w w':=by
 obtain⟨i,hi,a,hs,hb⟩:=info_parts H.inf;subst hs hb;have c:=run_append_nil_zeros w T tn ty E i z .i64 .i64 H.und hn hi a m e H.k0 (by omega) (by omega);refine⟨_,_,c,?_,?_⟩
 ·have:=lF w E z.cells i.size m (grownCap w m 0 E) (Builtin.zeroCells z.cells m).toList H.zs (by rw[Array.length_toList,size_zeroCells,H.zs]) (grownCap_ge w _ _ _) (grownCap_le_maxLen w _ _ _ (by simp only[maxLen]; omega));simpa using this
 ·exact⟨rfl,rfl,rfl,by simp,fun b hb=>(ae w.drew (.cells (Builtin.zeroCells z.cells m ++ Builtin.zeroCells z.cells (grownCap w m 0 E - m)) E)).block b hb⟩
theorem eN(H:Kd P T E k bytes z)(ty:TypeId)(R:Rw w E k g n c xs)(o dLen dCap:Nat)(a:Addr)(sLen sCap:Nat)(cs:List Value)(m:Nat)(hm:Nat.min sLen dLen=m)(hn:cs.length=m * k)(p:∀ j v,cs[j]? = some v->w.cell? (a.add j)=some v)(l:o + cs.length<=xs.length)(q:∀ v∈cs,v.oneCell'=true) :
  ∃ w',(Builtin.copy_ #[T,T] ty #[.slice (some ⟨g,o,none⟩) dLen dCap,.slice (some a) sLen sCap]).run P w=.ok (goInt m) w'/\Rw w' E k g n c (splice xs o cs)/\Chg (· = g) w w':=by
 obtain⟨sp,f,hx,hc,b,d⟩:=R.ex;have i:=wH (P:=P) w T T ty E k g o dLen dCap a sLen sCap (xs ++ sp) cs E H.und H.size f m hm hn p (by rw[List.length_append]; omega) q
 have e:splice (xs ++ sp) o cs=splice xs o cs ++ sp:=by
  rw[et,et,List.take_append_of_le_length (by omega),List.drop_append_of_le_length (by omega),List.append_assoc,List.append_assoc,List.append_assoc]
 have h:=length_splice xs o cs l;refine⟨_,i,⟨sp,by rw[e]; exact f.row _,by rw[h]; exact hx,by rw[List.length_append,h,<- List.length_append]; exact hc,b,d⟩,(Chg.refl (· = g) w).row (g:=g) (.inl rfl) _⟩
theorem jE(H:Kd P T E k bytes z)(ty:TypeId)(R:Rw w E k b n c xs)(a:Addr)(m cc:Nat)(news:List Value)(v:news.length=m * k)(t:∀ j u,news[j]? = some u->w.cell? (a.add j)=some u)(x:∀ u∈news,u.oneCell'=true)(s:n + m<=c) :
  ∃ w',(Builtin.append_ #[T,T] ty #[.slice (some ⟨b,0,none⟩) n c,.slice (some a) m cc]).run P w=.ok (.slice (some ⟨b,0,none⟩) (n + m) c) w'/\Rw w' E k b (n + m) c (xs ++ news)/\Chg (· = b) w w':=by
 obtain⟨i,hi,p,hs,hb⟩:=info_parts H.inf;obtain⟨sp,h,hx,hc,l,f⟩:=R.ex;subst hs hb
 have d:n * i.size + news.length<=(xs ++ sp).toArray.size:=by
  rw[List.size_toArray,hc,v,<- Nat.add_mul]; exact Nat.mul_le_mul_right _ s
 have o:=run_append_room (P:=P) w T ty E i H.und hi b n c (xs ++ sp).toArray h.blk a m cc news v t x s d;refine⟨_,o,⟨sp.drop news.length,?_,by rw[List.length_append,hx,v,Nat.add_mul],?_,s,f⟩,(Chg.refl (· = b) w).row (g:=b) (.inl rfl) _⟩
 ·have:=h.row (xs ++ news ++ sp.drop news.length)
  have e:(xs ++ sp).toArray.toList.take (n * i.size) ++ news ++ (xs ++ sp).toArray.toList.drop (n * i.size + news.length)=xs ++ news ++ sp.drop news.length:=by
   rw[show (xs ++ sp).toArray.toList=xs ++ sp from rfl,<- hx,List.take_left,<- List.drop_drop,List.drop_left]
  rw[e]; exact this
 ·have q:xs.length + sp.length=c * i.size:=by rw[<- List.length_append]; exact hc
  have r:n * i.size + m * i.size<=c * i.size:=by rw[<- Nat.add_mul]; exact Nat.mul_le_mul_right _ s
  rw[List.length_append,List.length_append,List.length_drop]; omega
theorem ik(H:Kd P T E k bytes z)(ty:TypeId)(R:Rw w E k g n c xs)(m cc:Nat)(hm:0 < m)(j:n + m<=c) :
  ∃ w',(Builtin.clear_ #[T] ty #[.slice (some ⟨g,n * k,none⟩) m cc]).run P w=.ok (.tuple #[]) w'/\Rw w' E k g n c xs/\Chg (· = g) w w':=by
 obtain⟨sp,d,hx,hc,a,b⟩:=R.ex
 have i:n * k + m * k<=c * k:=by rw[<- Nat.add_mul]; exact Nat.mul_le_mul_right _ j
 have f:=uo (P:=P) w T ty E z k g (n * k) m cc (xs ++ sp) E H.und H.zero H.zs H.z1 d hm H.k0 (by omega)
 have e:splice (xs ++ sp) (n * k) (Builtin.zeroCells z.cells m).toList=xs ++ ((Builtin.zeroCells z.cells m).toList ++ sp.drop (Builtin.zeroCells z.cells m).toList.length):=by
  rw[et,<- hx,List.take_left,<- List.drop_drop,List.drop_left,List.append_assoc]
 have h:((Builtin.zeroCells z.cells m).toList).length=m * k:=by rw[Array.length_toList,size_zeroCells,H.zs]
 refine⟨_,f,⟨_,by rw[e]; exact d.row _,hx,?_,a,b⟩,(Chg.refl (· = g) w).row (g:=g) (.inl rfl) _⟩;rw[List.length_append] at hc ⊢;rw[List.length_append,List.length_drop,h];omega
end
end
end Pg
end
section
namespace Pg
open Go.RowKit Go.Lib
theorem KE:Kd Tryz.prog 199 196 2 48 (.agg #[.slice none 0 0,.slice none 0 0]):=⟨by kernel_rfl,by kernel_rfl,rfl,by simp[Value.cells,Value.oneCell'],by decide⟩
theorem KP:Kd Tryz.prog 142 199 1 24 (.slice none 0 0):=⟨by kernel_rfl,by kernel_rfl,rfl,by simp[Value.cells,Value.oneCell'],by decide⟩
theorem j5:Tryz.prog.underlying 3=some (.int .i64):=by kernel_rfl
theorem mixed:Tryz.prog.follows .mixedOrders=true:=by kernel_rfl
section
variable {w:World} {b n c i vb:Nat} {xs:List Value} {e1 e2:Value}
theorem xq (R:Rw w 196 2 b n c xs) (l:Blk w vb [e1,e2] 196) (hn:n<=1000000000) (m:∀ v∈[e1,e2],v.oneCell'=true) :
  Calls Tryz.prog 193 #[.slice (some ⟨b,0,none⟩) n c,.int .i64 n,.slice (some ⟨vb,0,none⟩) 1 1] w fun e w'=>∃ b' c',e=.returned (.slice (some ⟨b',0,none⟩) (n + 1) c')/\(b'=b\/w.heap.size<=b')/\Rw w' 196 2 b' (n + 1) c' (xs ++ [e1,e2])/\Chg (· = b) w w':=by
 obtain⟨b',c',W,h,d,i,hC⟩:=dz KE 199 R ⟨vb,0,none⟩ 1 1 [e1,e2] rfl (fun j u k=>by rw[Addr.add_lit,Nat.zero_add]; exact l.cell k) m (by omega) (by omega);have a:=R.le;simp only[maxLen] at a;have f:=a.1;have g:=a.2;clear a R l m;go_enter Tryz.func193,Tryz.ntmps193;go_wp2_with (at_builtin; refine Lib.wpList_append_run _ rfl _ _ _ _ rfl _ _ rfl rfl _ _ h ?_)
 all_goals (
  go_ret;exact⟨b',c',rfl,d.imp id (fun e=>by omega),i,hC⟩)
theorem xB (a:Blk w vb [e1,e2] 196) :
  Calls Tryz.prog 193 #[.slice none 0 0,.int .i64 0,.slice (some ⟨vb,0,none⟩) 1 1] w fun e w'=>∃ c',e=.returned (.slice (some ⟨w.heap.size,0,none⟩) 1 c')/\Rw w' 196 2 w.heap.size 1 c' [e1,e2]/\Below w.heap.size w w':=by
 obtain⟨c',W,b,c,hC⟩:=fi (w:=w) KE 199 ⟨vb,0,none⟩ 1 1 [e1,e2] rfl (fun j u d=>by rw[Addr.add_lit,Nat.zero_add]; exact a.cell d) (by decide) (by decide) (by decide);clear a;go_enter Tryz.func193,Tryz.ntmps193;go_wp2_with (at_builtin; refine Lib.wpList_append_run _ rfl _ _ _ _ rfl _ _ rfl rfl _ _ b ?_);go_ret;exact⟨c',rfl,c,hC⟩
theorem sw (R : Rw w 196 2 b n c xs) (U : Blk w vb [e1, e2] 196) (V : vb ≠ b) (hi : i < n) (T : n + 1 ≤ c) (X : ∀ v ∈ xs, v.oneCell' = true) (W : ∀ v ∈ [e1, e2], v.oneCell' = true) :
    Calls Tryz.prog 193 #[.slice (some ⟨b, 0, none⟩) n c, .int .i64 i, .slice (some ⟨vb, 0, none⟩) 1 1] w fun e w' => e = .returned (.slice (some ⟨b, 0, none⟩) (n + 1) c) ∧ Rw w' 196 2 b (n + 1) c (xs.take (i * 2) ++ [e1, e2] ++ xs.drop (i * 2)) ∧ Chg (· = b) w w' := by
  have hx := R.len;have a := R.le;simp only[maxLen] at a;have x := a.1;have y := a.2
  have g : ∃ cs, Blk w b cs 196 ∧ cs.length = c * 2 := by
    obtain⟨sp, h, _, C, _⟩:= R.ex;exact⟨_, h, C⟩
  have o : ∀ (p q : Nat), (callFunc 224 #[.slice (some ⟨vb, 0, none⟩) 1 1, .slice (some ⟨b, (i + 1) * 2, none⟩) p q]).run Tryz.prog w = .ok (.value (.bool false)) w := fun p q => by
    obtain⟨cs, h, D⟩:= g;rw[run_callFunc_extern Tryz.func224 (by kernel_rfl) (by kernel_rfl) (by kernel_rfl) (e := Extern.SlicesOverlaps.overlaps #[199, 199] #[4]) (by kernel_rfl),
      Lib.run_overlaps_apart w 199 4 196 KE.und 2 KE.sizeOf ⟨vb, 0, none⟩ ⟨b, (i + 1) * 2, none⟩ 1 1 p q V 196 196 2 (c * 2) (by simp[World.shape?, U.blk]) (by simp[World.shape?, h.blk]; simpa using D) (by omega) (U.free _) (U.free _)]
    rfl
  have f : (xs.drop (i * 2)).length = (n - i) * 2 := by rw[List.length_drop, hx]; omega
  obtain⟨s, hs, r⟩:= R.drew.more (m := 1) T;obtain⟨z, E, t, u⟩:= eN (w := w.drew) KE 3 r ((i + 1) * 2) (n - i) (c - (i + 1)) ⟨b, i * 2, none⟩ (n + 1 - i) (c - i) (xs.drop (i * 2)) (n - i) (by simp only[Nat.min_def]; split <;> omega) f
    (fun j v l => by
      rw[List.getElem?_drop] at l;rw[Addr.add_lit];exact R.cell (w := w) (by simpa using l)) (by rw[f, r.len]; omega) (fun v F => X v (List.mem_of_mem_drop F))
  have k : Blk z vb [e1, e2] 196 := U.drew.chg u V;obtain⟨G, H, A, B⟩:= eN (w := z) KE 3 t (i * 2) (n + 1 - i) (c - i) ⟨vb, 0, none⟩ 1 1 [e1, e2] 1 (by simp only[Nat.min_def]; split <;> omega) rfl
    (fun j v l => by rw[Addr.add_lit, Nat.zero_add]; exact k.cell l) (by rw[t.len]; simp; omega) W
  have d : splice (splice (xs ++ s) ((i + 1) * 2) (xs.drop (i * 2))) (i * 2) [e1, e2] = xs.take (i * 2) ++ [e1, e2] ++ xs.drop (i * 2) := by
    have h := qP xs s [e1, e2] (i * 2) (by omega) (by simp[hs])
    have q0 : s.drop ([e1, e2] : List Value).length = [] := List.drop_of_length_le (by simp[hs]);rw[q0, List.append_nil] at h;simpa[Nat.add_mul] using h
  have I := A.to d
  have J : Chg (· = b) w G := ((Chg.refl _ w).drew.trans u (fun _ _ h => h)).trans B (fun _ _ h => h)
  have K : ¬ ((i : Int) = (n : Int)) := by omega
  have L : IntKind.i64.wrap ((i : Int) + 1) = (i : Int) + 1 := by rw[IntKind.wrap_i64]; omega
  have M : (0 : Int) ≤ (i : Int) + 1 := by omega
  have N : i ≤ n := by omega
  have O : ((i : Int) + 1).toNat = i + 1 := by omega
  have P : ¬ (c = i + 1) := by omega
  have Q : (i : Int) ≤ (n : Int) + 1 := by omega
  have S : ¬ (c = i) := by omega
  clear a R g r t A u B d U k hs f X W;have mixed := mixed;go_enter Tryz.func193, Tryz.ntmps193;go_wp2_with (simp only[o]);go_region;go_wp2;go_ret;exact⟨rfl, I, J⟩
theorem wB (R : Rw w 196 2 b n c xs) (hV : Blk w vb [e1, e2] 196) (hi : i < n) (hroom : c < n + 1) (hn : n ≤ 1000000000) (h1 : ∀ v ∈ xs, v.oneCell' = true) (h2 : ∀ v ∈ [e1, e2], v.oneCell' = true) :
    Calls Tryz.prog 193 #[.slice (some ⟨b, 0, none⟩) n c, .int .i64 i, .slice (some ⟨vb, 0, none⟩) 1 1] w fun e w' => ∃ c', e = .returned (.slice (some ⟨w.heap.size, 0, none⟩) (n + 1) c') ∧ Rw w' 196 2 w.heap.size (n + 1) c' (xs.take (i * 2) ++ [e1, e2] ++ xs.drop (i * 2)) ∧ Below w.heap.size w w' := by
  have hx := R.len;have a := R.le;simp only[maxLen] at a;have y := a.1;have z := a.2;have A := R.lt;have B := hV.lt;obtain⟨c', s, l, o, k⟩:= nO KE 3 199 j5 (R.front (m := i) (by omega)) (n + 1 - i) (by omega) (by omega) (by omega) (by omega);rw[show ((n + 1 - i : Nat) : Int) = (n : Int) + 1 - (i : Int) by omega, show i + (n + 1 - i) = n + 1 by omega] at l;rw[show i + (n + 1 - i) = n + 1 by omega] at o;have d := o.le;simp only[maxLen] at d;have C := d.1;have D := d.2
  have p : Blk s vb [e1, e2] 196 := hV.keep k;obtain⟨h, J, t, q⟩:= eN (w := s) KE 3 o (i * 2) (n + 1 - i) (c' - i) ⟨vb, 0, none⟩ 1 1 [e1, e2] 1 (by simp only[Nat.min_def]; split <;> omega) rfl
    (fun j v r => by rw[Addr.add_lit, Nat.zero_add]; exact p.cell r) (by rw[o.len]; simp; omega) h2
  have f : (xs.drop (i * 2)).length = (n - i) * 2 := by rw[List.length_drop, hx]; omega
  have E : Rw h.drew 196 2 b n c xs := ((R.keep k).chg q (by show ¬ b = w.heap.size; omega)).drew;obtain⟨F, K, G, H⟩:= eN (w := h.drew) KE 3 t.drew ((i + 1) * 2) (n - i) (c' - (i + 1)) ⟨b, i * 2, none⟩ (n - i) (c - i) (xs.drop (i * 2)) (n - i) (by simp) f
    (fun j v r => by
      rw[List.getElem?_drop] at r;rw[Addr.add_lit];exact E.cell (by simpa using r)) (by rw[f, t.len]; omega) (fun v L => h1 v (List.mem_of_mem_drop L))
  have g : splice (splice (xs.take (i * 2) ++ (Builtin.zeroCells (.agg #[.slice none 0 0, .slice none 0 0] : Value).cells (n + 1 - i)).toList) (i * 2) [e1, e2]) ((i + 1) * 2) (xs.drop (i * 2)) = xs.take (i * 2) ++ [e1, e2] ++ xs.drop (i * 2) := by
    have hA : (xs.take (i * 2)).length = i * 2 := by rw[List.length_take, hx]; omega
    generalize M : (Builtin.zeroCells (.agg #[.slice none 0 0, .slice none 0 0] : Value).cells (n + 1 - i)).toList = Z
    have u : Z.length = (n + 1 - i) * 2 := by rw[← M, Array.length_toList, size_zeroCells]; rfl
    have q1 : xs.take (i * 2) ++ Z = xs.take (i * 2) ++ Z.take 2 ++ Z.drop 2 := by rw[List.append_assoc, List.take_append_drop]
    rw[q1, fl _ (Z.take 2) [e1, e2] _ _ hA (by rw[List.length_take]; simp; omega)];have N := fl (xs.take (i * 2) ++ [e1, e2]) (Z.drop 2) (xs.drop (i * 2)) [] ((i + 1) * 2) (by rw[List.length_append, hA]; simp <;> omega) (by rw[List.length_drop, u, f]; omega);simpa using N
  have O := G.to g
  have x : Below w.heap.size w F := by
    have k2 : Below w.heap.size s h := q.below (fun b hb => by omega) (k.size)
    have k3 : Below w.heap.size h.drew F := H.below (fun b hb => by omega) (by have := k.size; have := q.size; show w.heap.size ≤ h.heap.size; omega);exact(k.trans k2).trans ((⟨rfl, rfl, rfl, Nat.le_refl _, fun _ _ => rfl⟩ : Below w.heap.size h h.drew).trans k3)
  have P : ¬ ((i : Int) = (n : Int)) := by omega
  have Q : IntKind.i64.wrap ((i : Int) + 1) = (i : Int) + 1 := by rw[IntKind.wrap_i64]; omega
  have S : (0 : Int) ≤ (i : Int) + 1 := by omega
  have T : i ≤ n := by omega
  have U : ((i : Int) + 1).toNat = i + 1 := by omega
  have V : ¬ (c' = i + 1) := by omega
  have I : i + 1 ≤ n + 1 := by omega
  have W : (i : Int) ≤ (n : Int) + 1 := by omega
  have X : ¬ (c' = i) := by omega
  have Y : ¬ (c = i) := by omega
  clear a d R o t G E q H k g hV p f h1 h2;have mixed := mixed;go_enter Tryz.func193, Tryz.ntmps193;go_wp2_with (at_builtin; refine Lib.wpList_append_run _ rfl _ _ _ _ rfl _ _ rfl rfl _ _ l ?_);go_region;go_wp2;go_ret;exact⟨c', rfl, O, x⟩
theorem insE (R:Rw w 196 2 b n c xs) (f:Blk w vb [e1,e2] 196) (j:vb≠b) (hi:i<=n) (hn:n<=1000000000) (k:∀ v∈xs,v.oneCell'=true) (g:∀ v∈[e1,e2],v.oneCell'=true) :
  Calls Tryz.prog 193 #[.slice (some ⟨b,0,none⟩) n c,.int .i64 i,.slice (some ⟨vb,0,none⟩) 1 1] w fun e w'=>∃ b' c',e=.returned (.slice (some ⟨b',0,none⟩) (n + 1) c')/\(b'=b\/w.heap.size<=b')/\Rw w' 196 2 b' (n + 1) c' (xs.take (i * 2) ++ [e1,e2] ++ xs.drop (i * 2))/\Chg (· = b) w w':=by
 by_cases h:i=n
 ·subst h;refine(xq R f hn g).mono ?_
  rintro e w' ⟨b',c',rfl,hb,a,hC⟩;exact⟨b',c',rfl,hb,a.to (by rw[List.take_of_length_le (by rw[R.len]; omega),List.drop_of_length_le (by rw[R.len]; omega),List.append_nil]),hC⟩
 ·by_cases d:n + 1<=c
  ·refine(sw R f j (by omega) d k g).mono ?_
   rintro e w' ⟨rfl,a,hC⟩;exact⟨b,c,rfl,.inl rfl,a,hC⟩
  ·refine(wB R f (by omega) (by omega) hn k g).mono ?_
   rintro e w' ⟨c',rfl,a,hC⟩;exact⟨_,c',rfl,.inr (Nat.le_refl _),a,Chg.of hC⟩
end
section
variable {w:World} {b n c i vb:Nat} {xs:List Value} {e1:Value}
theorem xh (R:Rw w 199 1 b n c xs) (l:Blk w vb [e1] 199) (hn:n<=1000000000) (m:∀ v∈[e1],v.oneCell'=true) :
  Calls Tryz.prog 227 #[.slice (some ⟨b,0,none⟩) n c,.int .i64 n,.slice (some ⟨vb,0,none⟩) 1 1] w fun e w'=>∃ b' c',e=.returned (.slice (some ⟨b',0,none⟩) (n + 1) c')/\(b'=b\/w.heap.size<=b')/\Rw w' 199 1 b' (n + 1) c' (xs ++ [e1])/\Chg (· = b) w w':=by
 obtain⟨b',c',W,h,d,i,hC⟩:=dz KP 142 R ⟨vb,0,none⟩ 1 1 [e1] rfl (fun j u k=>by rw[Addr.add_lit,Nat.zero_add]; exact l.cell k) m (by omega) (by omega);have a:=R.le;simp only[maxLen] at a;have f:=a.1;have g:=a.2;clear a R l m;go_enter Tryz.func227,Tryz.ntmps227;go_wp2_with (at_builtin; refine Lib.wpList_append_run _ rfl _ _ _ _ rfl _ _ rfl rfl _ _ h ?_)
 all_goals (
  go_ret;exact⟨b',c',rfl,d.imp id (fun e=>by omega),i,hC⟩)
theorem th (R : Rw w 199 1 b n c xs) (U : Blk w vb [e1] 199) (V : vb ≠ b) (hi : i < n) (T : n + 1 ≤ c) (X : ∀ v ∈ xs, v.oneCell' = true) (W : ∀ v ∈ [e1], v.oneCell' = true) :
    Calls Tryz.prog 227 #[.slice (some ⟨b, 0, none⟩) n c, .int .i64 i, .slice (some ⟨vb, 0, none⟩) 1 1] w fun e w' => e = .returned (.slice (some ⟨b, 0, none⟩) (n + 1) c) ∧ Rw w' 199 1 b (n + 1) c (xs.take (i * 1) ++ [e1] ++ xs.drop (i * 1)) ∧ Chg (· = b) w w' := by
  have hx := R.len;have a := R.le;simp only[maxLen] at a;have x := a.1;have y := a.2
  have g : ∃ cs, Blk w b cs 199 ∧ cs.length = c * 1 := by
    obtain⟨sp, h, _, C, _⟩:= R.ex;exact⟨_, h, C⟩
  have o : ∀ (p q : Nat), (callFunc 248 #[.slice (some ⟨vb, 0, none⟩) 1 1, .slice (some ⟨b, i + 1, none⟩) p q]).run Tryz.prog w = .ok (.value (.bool false)) w := fun p q => by
    obtain⟨cs, h, D⟩:= g;rw[run_callFunc_extern Tryz.func248 (by kernel_rfl) (by kernel_rfl) (by kernel_rfl) (e := Extern.SlicesOverlaps.overlaps #[142, 142] #[4]) (by kernel_rfl),
      Lib.run_overlaps_apart w 142 4 199 KP.und 1 KP.sizeOf ⟨vb, 0, none⟩ ⟨b, i + 1, none⟩ 1 1 p q V 199 199 1 (c * 1) (by simp[World.shape?, U.blk]) (by simp[World.shape?, h.blk]; simpa using D) (by omega) (U.free _) (U.free _)]
    rfl
  have f : (xs.drop (i * 1)).length = (n - i) * 1 := by rw[List.length_drop, hx]; omega
  obtain⟨s, hs, r⟩:= R.drew.more (m := 1) T;obtain⟨z, E, t, u⟩:= eN (w := w.drew) KP 3 r (i + 1) (n - i) (c - (i + 1)) ⟨b, i, none⟩ (n + 1 - i) (c - i) (xs.drop (i * 1)) (n - i) (by simp only[Nat.min_def]; split <;> omega) f
    (fun j v l => by
      rw[List.getElem?_drop] at l;rw[Addr.add_lit];exact R.cell (w := w) (by simpa using l)) (by rw[f, r.len]; omega) (fun v F => X v (List.mem_of_mem_drop F))
  have k : Blk z vb [e1] 199 := U.drew.chg u V;obtain⟨G, H, A, B⟩:= eN (w := z) KP 3 t (i) (n + 1 - i) (c - i) ⟨vb, 0, none⟩ 1 1 [e1] 1 (by simp only[Nat.min_def]; split <;> omega) rfl
    (fun j v l => by rw[Addr.add_lit, Nat.zero_add]; exact k.cell l) (by rw[t.len]; simp; omega) W
  have d : splice (splice (xs ++ s) (i + 1) (xs.drop (i * 1))) (i) [e1] = xs.take (i * 1) ++ [e1] ++ xs.drop (i * 1) := by
    have h := qP xs s [e1] (i * 1) (by omega) (by simp[hs])
    have q0 : s.drop ([e1] : List Value).length = [] := List.drop_of_length_le (by simp[hs]);rw[q0, List.append_nil] at h;simpa[Nat.add_mul] using h
  have I := A.to d
  have J : Chg (· = b) w G := ((Chg.refl _ w).drew.trans u (fun _ _ h => h)).trans B (fun _ _ h => h)
  have K : ¬ ((i : Int) = (n : Int)) := by omega
  have L : IntKind.i64.wrap ((i : Int) + 1) = (i : Int) + 1 := by rw[IntKind.wrap_i64]; omega
  have M : (0 : Int) ≤ (i : Int) + 1 := by omega
  have N : i ≤ n := by omega
  have O : ((i : Int) + 1).toNat = i + 1 := by omega
  have P : ¬ (c = i + 1) := by omega
  have Q : (i : Int) ≤ (n : Int) + 1 := by omega
  have S : ¬ (c = i) := by omega
  clear a R g r t A u B d U k hs f X W;have mixed := mixed;go_enter Tryz.func227, Tryz.ntmps227;go_wp2_with (simp only[o]);go_region;go_wp2;go_ret;exact⟨rfl, I, J⟩
theorem wy (R : Rw w 199 1 b n c xs) (hV : Blk w vb [e1] 199) (hi : i < n) (hroom : c < n + 1) (hn : n ≤ 1000000000) (h1 : ∀ v ∈ xs, v.oneCell' = true) (h2 : ∀ v ∈ [e1], v.oneCell' = true) :
    Calls Tryz.prog 227 #[.slice (some ⟨b, 0, none⟩) n c, .int .i64 i, .slice (some ⟨vb, 0, none⟩) 1 1] w fun e w' => ∃ c', e = .returned (.slice (some ⟨w.heap.size, 0, none⟩) (n + 1) c') ∧ Rw w' 199 1 w.heap.size (n + 1) c' (xs.take (i * 1) ++ [e1] ++ xs.drop (i * 1)) ∧ Below w.heap.size w w' := by
  have hx := R.len;have a := R.le;simp only[maxLen] at a;have y := a.1;have z := a.2;have A := R.lt;have B := hV.lt;obtain⟨c', s, l, o, k⟩:= nO KP 3 142 j5 (R.front (m := i) (by omega)) (n + 1 - i) (by omega) (by omega) (by omega) (by omega);rw[show ((n + 1 - i : Nat) : Int) = (n : Int) + 1 - (i : Int) by omega, show i + (n + 1 - i) = n + 1 by omega] at l;rw[show i + (n + 1 - i) = n + 1 by omega] at o;have d := o.le;simp only[maxLen] at d;have C := d.1;have D := d.2
  have p : Blk s vb [e1] 199 := hV.keep k;obtain⟨h, J, t, q⟩:= eN (w := s) KP 3 o (i) (n + 1 - i) (c' - i) ⟨vb, 0, none⟩ 1 1 [e1] 1 (by simp only[Nat.min_def]; split <;> omega) rfl
    (fun j v r => by rw[Addr.add_lit, Nat.zero_add]; exact p.cell r) (by rw[o.len]; simp; omega) h2
  have f : (xs.drop (i * 1)).length = (n - i) * 1 := by rw[List.length_drop, hx]; omega
  have E : Rw h.drew 199 1 b n c xs := ((R.keep k).chg q (by show ¬ b = w.heap.size; omega)).drew;obtain⟨F, K, G, H⟩:= eN (w := h.drew) KP 3 t.drew (i + 1) (n - i) (c' - (i + 1)) ⟨b, i, none⟩ (n - i) (c - i) (xs.drop (i * 1)) (n - i) (by simp) f
    (fun j v r => by
      rw[List.getElem?_drop] at r;rw[Addr.add_lit];exact E.cell (by simpa using r)) (by rw[f, t.len]; omega) (fun v L => h1 v (List.mem_of_mem_drop L))
  have g : splice (splice (xs.take (i * 1) ++ (Builtin.zeroCells (.slice none 0 0 : Value).cells (n + 1 - i)).toList) (i) [e1]) (i + 1) (xs.drop (i * 1)) = xs.take (i * 1) ++ [e1] ++ xs.drop (i * 1) := by
    have hA : (xs.take (i * 1)).length = i := by rw[List.length_take, hx]; omega
    generalize M : (Builtin.zeroCells (.slice none 0 0 : Value).cells (n + 1 - i)).toList = Z
    have u : Z.length = (n + 1 - i) * 1 := by rw[← M, Array.length_toList, size_zeroCells]; rfl
    have q1 : xs.take (i * 1) ++ Z = xs.take (i * 1) ++ Z.take 1 ++ Z.drop 1 := by rw[List.append_assoc, List.take_append_drop]
    rw[q1, fl _ (Z.take 1) [e1] _ _ hA (by rw[List.length_take]; simp; omega)];have N := fl (xs.take (i * 1) ++ [e1]) (Z.drop 1) (xs.drop (i * 1)) [] (i + 1) (by rw[List.length_append, hA]; simp <;> omega) (by rw[List.length_drop, u, f]; omega);simpa using N
  have O := G.to g
  have x : Below w.heap.size w F := by
    have k2 : Below w.heap.size s h := q.below (fun b hb => by omega) (k.size)
    have k3 : Below w.heap.size h.drew F := H.below (fun b hb => by omega) (by have := k.size; have := q.size; show w.heap.size ≤ h.heap.size; omega);exact(k.trans k2).trans ((⟨rfl, rfl, rfl, Nat.le_refl _, fun _ _ => rfl⟩ : Below w.heap.size h h.drew).trans k3)
  have P : ¬ ((i : Int) = (n : Int)) := by omega
  have Q : IntKind.i64.wrap ((i : Int) + 1) = (i : Int) + 1 := by rw[IntKind.wrap_i64]; omega
  have S : (0 : Int) ≤ (i : Int) + 1 := by omega
  have T : i ≤ n := by omega
  have U : ((i : Int) + 1).toNat = i + 1 := by omega
  have V : ¬ (c' = i + 1) := by omega
  have I : i + 1 ≤ n + 1 := by omega
  have W : (i : Int) ≤ (n : Int) + 1 := by omega
  have X : ¬ (c' = i) := by omega
  have Y : ¬ (c = i) := by omega
  clear a d R o t G E q H k g hV p f h1 h2;have mixed := mixed;go_enter Tryz.func227, Tryz.ntmps227;go_wp2_with (at_builtin; refine Lib.wpList_append_run _ rfl _ _ _ _ rfl _ _ rfl rfl _ _ l ?_);go_region;go_wp2;go_ret;exact⟨c', rfl, O, x⟩
theorem insP (R:Rw w 199 1 b n c xs) (f:Blk w vb [e1] 199) (j:vb≠b) (hi:i<=n) (hn:n<=1000000000) (k:∀ v∈xs,v.oneCell'=true) (g:∀ v∈[e1],v.oneCell'=true) :
  Calls Tryz.prog 227 #[.slice (some ⟨b,0,none⟩) n c,.int .i64 i,.slice (some ⟨vb,0,none⟩) 1 1] w fun e w'=>∃ b' c',e=.returned (.slice (some ⟨b',0,none⟩) (n + 1) c')/\(b'=b\/w.heap.size<=b')/\Rw w' 199 1 b' (n + 1) c' (xs.take (i * 1) ++ [e1] ++ xs.drop (i * 1))/\Chg (· = b) w w':=by
 by_cases h:i=n
 ·subst h;refine(xh R f hn g).mono ?_
  rintro e w' ⟨b',c',rfl,hb,a,hC⟩;exact⟨b',c',rfl,hb,a.to (by rw[List.take_of_length_le (by rw[R.len]; omega),List.drop_of_length_le (by rw[R.len]; omega),List.append_nil]),hC⟩
 ·by_cases d:n + 1<=c
  ·refine(th R f j (by omega) d k g).mono ?_
   rintro e w' ⟨rfl,a,hC⟩;exact⟨b,c,rfl,.inl rfl,a,hC⟩
  ·refine(wy R f (by omega) (by omega) hn k g).mono ?_
   rintro e w' ⟨c',rfl,a,hC⟩;exact⟨_,c',rfl,.inr (Nat.le_refl _),a,Chg.of hC⟩
end
end Pg
end
section
namespace Pg
open Go.RowKit Go.Lib
section
variable {w:World} {b n c i:Nat} {xs:List Value}
theorem zB (R : Rw w 196 2 b n c xs) (hi : i < n) (M : c ≠ i + 1) (N : ∀ v ∈ xs, v.oneCell' = true) :
    Calls Tryz.prog 207 #[.slice (some ⟨b, 0, none⟩) n c, .int .i64 i, .int .i64 (i + 1)] w fun e w' => e = .returned (.slice (some ⟨b, 0, none⟩) (n - 1) c) ∧ Rw w' 196 2 b (n - 1) c (xs.take (i * 2) ++ xs.drop ((i + 1) * 2)) ∧ Chg (· = b) w w' := by
  have hx := R.len;have a := R.le;simp only[maxLen] at a;have l := a.1;have o := a.2
  have d : (xs.drop ((i + 1) * 2)).length = (n - (i + 1)) * 2 := by rw[List.length_drop, hx]; omega
  obtain⟨L, f, g, p⟩:= jE KE 199 (R.drew.front (m := i) (by omega)) ⟨b, (i + 1) * 2, none⟩ (n - (i + 1)) (c - (i + 1)) (xs.drop ((i + 1) * 2)) d
    (fun j v r => by
      rw[List.getElem?_drop] at r;rw[Addr.add_lit];exact R.drew.cell (by simpa using r)) (fun v x => N v (List.mem_of_mem_drop x)) (by omega)
  rw[show i + (n - (i + 1)) = n - 1 by omega] at g;obtain⟨y, k, s, t⟩:= ik KE 0 g (n - (n - 1)) (c - (n - 1)) (by omega) (by omega)
  have z : Chg (· = b) w y := ((Chg.refl _ w).drew.trans p (fun _ _ h => h)).trans t (fun _ _ h => h);obtain⟨q, A⟩ : ∃ q, n = i + 1 + q := ⟨n - (i + 1), by omega⟩;subst A;rw[show i + 1 + q - (i + 1) = q by omega] at f;rw[show i + 1 + q - 1 = i + q by omega] at k s ⊢
  have B : ¬ ((i : Int) = (i : Int) + 1) := by omega
  have C : i ≤ i + 1 + q := by omega
  have D : ¬ (c = i + 1) := M
  have E : (0 : Int) ≤ (i : Int) + 1 := by omega
  have F : i ≤ c := by omega
  have G : ((i : Int) + 1).toNat = i + 1 := by omega
  have H : ¬ (c = i + q) := by omega
  have I : (i : Int) + 1 ≤ ((i + 1 + q : Nat) : Int) := by omega
  have J : i + 1 ≤ i + 1 + q := by omega
  have u : (i : Int) + 1 ≤ (i : Int) + 1 + (q : Int) := by omega
  have K : ((i + 1 + q : Nat) : Int) ≤ (c : Int) := by omega
  clear a R g p t d N;have mixed := mixed;go_enter Tryz.func207, Tryz.ntmps207;go_wp2;go_region_law_o (refine jC rfl (.tmp 22) (.tmp 25) 199 199 rfl _ _ (by simp[Act.eval, Act.put]) (by simp[Act.eval, Act.put]) f ?_);go_wp2;go_ret;exact⟨rfl, s, z⟩
theorem wc (R:Rw w 196 2 b (i + 1) (i + 1) xs) :
  Calls Tryz.prog 207 #[.slice (some ⟨b,0,none⟩) (i + 1) (i + 1),.int .i64 i,.int .i64 (i + 1)] w fun e w'=>e=.returned (.slice (some ⟨b,0,none⟩) i (i + 1))/\Rw w' 196 2 b i (i + 1) (xs.take (i * 2))/\Chg (· = b) w w':=by
 have a:=R.le;simp only[maxLen] at a;have f:=a.2;obtain⟨z,c,d,g⟩:=jE KE 199 (R.drew.front (m:=i) (by omega)) ⟨b,0,none⟩ 0 0 [] (by simp) (fun j v l=>by simp at l) (fun v n=>by simp at n) (by omega);rw[Nat.add_zero] at d c;rw[List.append_nil] at d;obtain⟨o,p,q,k⟩:=ik KE 0 d 1 1 (by omega) (by omega)
 have r:Chg (· = b) w o:=((Chg.refl _ w).drew.trans g (fun _ _ h=>h)).trans k (fun _ _ h=>h)
 have s:¬ ((i:Int)=(i:Int) + 1):=by omega
 have t:i<=i + 1:=by omega
 have u:(0:Int)<=(i:Int) + 1:=by omega
 have x:((i:Int) + 1).toNat=i + 1:=by omega
 have e1:i + 1 - i=1:=by omega
 have y:(i:Int)<=(i:Int) + 1:=by omega
 clear a R d g k;have mixed:=mixed;go_enter Tryz.func207,Tryz.ntmps207;go_wp2;go_region_law_o (refine jC rfl (.tmp 22) (.tmp 25) 199 199 rfl _ _ (by simp[Act.eval,Act.put]) (by simp[Act.eval,Act.put]) c ?_);go_wp2;go_ret;exact⟨rfl,q,r⟩
theorem delE (R:Rw w 196 2 b n c xs) (hi:i < n) (d:∀ v∈xs,v.oneCell'=true) :
  Calls Tryz.prog 207 #[.slice (some ⟨b,0,none⟩) n c,.int .i64 i,.int .i64 (i + 1)] w fun e w'=>e=.returned (.slice (some ⟨b,0,none⟩) (n - 1) c)/\Rw w' 196 2 b (n - 1) c (xs.take (i * 2) ++ xs.drop ((i + 1) * 2))/\Chg (· = b) w w':=by
 by_cases h:c=i + 1
 ·have f:=R.le;obtain rfl:n=i + 1:=by omega
  subst h;refine(wc R).mono ?_
  rintro e w' ⟨rfl,a,hC⟩;exact⟨by simp,a.to (by rw[List.drop_of_length_le (by rw[R.len]; omega),List.append_nil]),hC⟩
 ·exact zB R hi h d
end
section
variable {w:World} {b n c i:Nat} {xs:List Value}
theorem ym (R : Rw w 199 1 b n c xs) (hi : i < n) (M : c ≠ i + 1) (N : ∀ v ∈ xs, v.oneCell' = true) :
    Calls Tryz.prog 208 #[.slice (some ⟨b, 0, none⟩) n c, .int .i64 i, .int .i64 (i + 1)] w fun e w' => e = .returned (.slice (some ⟨b, 0, none⟩) (n - 1) c) ∧ Rw w' 199 1 b (n - 1) c (xs.take (i * 1) ++ xs.drop ((i + 1) * 1)) ∧ Chg (· = b) w w' := by
  have hx := R.len;have a := R.le;simp only[maxLen] at a;have l := a.1;have o := a.2
  have d : (xs.drop ((i + 1) * 1)).length = (n - (i + 1)) * 1 := by rw[List.length_drop, hx]; omega
  obtain⟨L, f, k, p⟩:= jE KP 142 (R.drew.front (m := i) (by omega)) ⟨b, i + 1, none⟩ (n - (i + 1)) (c - (i + 1)) (xs.drop ((i + 1) * 1)) d
    (fun j v r => by
      rw[List.getElem?_drop] at r;rw[Addr.add_lit];exact R.drew.cell (by simpa using r)) (fun v x => N v (List.mem_of_mem_drop x)) (by omega)
  rw[show i + (n - (i + 1)) = n - 1 by omega] at k;obtain⟨y, g, s, t⟩:= ik KP 0 k (n - (n - 1)) (c - (n - 1)) (by omega) (by omega)
  have z : Chg (· = b) w y := ((Chg.refl _ w).drew.trans p (fun _ _ h => h)).trans t (fun _ _ h => h);obtain⟨q, A⟩ : ∃ q, n = i + 1 + q := ⟨n - (i + 1), by omega⟩;subst A;rw[show i + 1 + q - (i + 1) = q by omega] at f;rw[show i + 1 + q - 1 = i + q by omega] at g s ⊢;simp only[Nat.mul_one] at g
  have B : ¬ ((i : Int) = (i : Int) + 1) := by omega
  have C : i ≤ i + 1 + q := by omega
  have D : ¬ (c = i + 1) := M
  have E : (0 : Int) ≤ (i : Int) + 1 := by omega
  have F : i ≤ c := by omega
  have G : ((i : Int) + 1).toNat = i + 1 := by omega
  have H : ¬ (c = i + q) := by omega
  have I : (i : Int) + 1 ≤ ((i + 1 + q : Nat) : Int) := by omega
  have J : i + 1 ≤ i + 1 + q := by omega
  have u : (i : Int) + 1 ≤ (i : Int) + 1 + (q : Int) := by omega
  have K : ((i + 1 + q : Nat) : Int) ≤ (c : Int) := by omega
  clear a R k p t d N;have mixed := mixed;go_enter Tryz.func208, Tryz.ntmps208;go_wp2;go_region_law_o (refine jC rfl (.tmp 22) (.tmp 25) 142 142 rfl _ _ (by simp[Act.eval, Act.put]) (by simp[Act.eval, Act.put]) f ?_);go_wp2;go_ret;exact⟨rfl, s, z⟩
theorem wh (R:Rw w 199 1 b (i + 1) (i + 1) xs) :
  Calls Tryz.prog 208 #[.slice (some ⟨b,0,none⟩) (i + 1) (i + 1),.int .i64 i,.int .i64 (i + 1)] w fun e w'=>e=.returned (.slice (some ⟨b,0,none⟩) i (i + 1))/\Rw w' 199 1 b i (i + 1) (xs.take (i * 1))/\Chg (· = b) w w':=by
 have a:=R.le;simp only[maxLen] at a;have g:=a.2;obtain⟨z,c,d,k⟩:=jE KP 142 (R.drew.front (m:=i) (by omega)) ⟨b,0,none⟩ 0 0 [] (by simp) (fun j v n=>by simp at n) (fun v o=>by simp at o) (by omega);rw[Nat.add_zero] at d c;rw[List.append_nil] at d;obtain⟨p,f,q,l⟩:=ik KP 0 d 1 1 (by omega) (by omega)
 have r:Chg (· = b) w p:=((Chg.refl _ w).drew.trans k (fun _ _ h=>h)).trans l (fun _ _ h=>h);simp only[Nat.mul_one] at f
 have s:¬ ((i:Int)=(i:Int) + 1):=by omega
 have t:i<=i + 1:=by omega
 have u:(0:Int)<=(i:Int) + 1:=by omega
 have x:((i:Int) + 1).toNat=i + 1:=by omega
 have e1:i + 1 - i=1:=by omega
 have y:(i:Int)<=(i:Int) + 1:=by omega
 clear a R d k l;have mixed:=mixed;go_enter Tryz.func208,Tryz.ntmps208;go_wp2;go_region_law_o (refine jC rfl (.tmp 22) (.tmp 25) 142 142 rfl _ _ (by simp[Act.eval,Act.put]) (by simp[Act.eval,Act.put]) c ?_);go_wp2;go_ret;exact⟨rfl,q,r⟩
theorem delP (R:Rw w 199 1 b n c xs) (hi:i < n) (d:∀ v∈xs,v.oneCell'=true) :
  Calls Tryz.prog 208 #[.slice (some ⟨b,0,none⟩) n c,.int .i64 i,.int .i64 (i + 1)] w fun e w'=>e=.returned (.slice (some ⟨b,0,none⟩) (n - 1) c)/\Rw w' 199 1 b (n - 1) c (xs.take (i * 1) ++ xs.drop ((i + 1) * 1))/\Chg (· = b) w w':=by
 by_cases h:c=i + 1
 ·have f:=R.le;obtain rfl:n=i + 1:=by omega
  subst h;refine(wh R).mono ?_
  rintro e w' ⟨rfl,a,hC⟩;exact⟨by simp,a.to (by rw[List.drop_of_length_le (by rw[R.len]; omega),List.append_nil]),hC⟩
 ·exact ym R hi h d
end
end Pg
end
section
namespace Pg
open Go.RowKit Go.Lib
section
variable {w w':World}{v:Value}{l:List Int}{D D':Nat->Prop}{a:Addr}{n:Nat}{xs:List Value}
def Oct(l:List Int):Prop:=∀ x∈l,0<=x/\x < 256
structure By(w:World)(v:Value)(l:List Int):Prop where
 ex:∃ ao c,v=.slice ao l.length c/\l.length<=c/\c<=9223372036854775807/\(ao=none->c=0)/\Oct l/\(l=[]\/∃ b o,ao=some ⟨b,o,none⟩/\b < w.heap.size/\∀ i x,l[i]? = some x->w.cell? ⟨b,o + i,none⟩=some (.int .u8 x))
theorem By.keep(h:By w v l)(hb:Below w.heap.size w w'):By w' v l:=by
 obtain⟨j,c,f,n,d,m,k,g⟩:=h.ex;refine⟨j,c,f,n,d,m,k,g.imp id ?_⟩;rintro⟨b,o,e,a,hc⟩;exact⟨b,o,e,Nat.lt_of_lt_of_le a hb.size,fun i x hi=>by rw[hb.cell (p:=⟨b,o + i,none⟩) a]; exact hc i x hi⟩
theorem By.drew(h:By w v l):By w.drew v l:=h.keep ⟨rfl,rfl,rfl,Nat.le_refl _,fun _ _=>rfl⟩
theorem By.oct(h:By w v l):Oct l:=by
 obtain⟨ao,c,h1,h2,h3,h4,h5,h6⟩:=h.ex; exact h5
theorem By.nil(w:World):By w (.slice none 0 0) []:=⟨none,0,rfl,by decide,by decide,fun _=>rfl,fun _ h=>by simp at h,.inl rfl⟩
structure OB(w:World)(D:Nat->Prop)(v:Value)(l:List Int):Prop where
 oct:Oct l
 ex:(v=.slice none 0 0/\l=[])\/∃ b c,v=.slice (some ⟨b,0,none⟩) l.length c/\D b/\Rw w 5 1 b l.length c (l.map (Value.int .u8))
theorem OB.by(h:OB w D v l):By w v l:=by
 rcases h.ex with⟨rfl,rfl⟩ | ⟨b,c,rfl,hd,hR⟩
 ·exact By.nil w
 ·have a:=hR.le;simp only[maxLen] at a;exact⟨_,c,rfl,by omega,by omega,(fun e=>by cases e),h.oct,.inr ⟨b,0,rfl,hR.lt,fun i x hi=>by rw[Nat.zero_add]; exact hR.cell (by simp[hi])⟩⟩
theorem OB.mono(h:OB w D v l)(hD:∀ b,b < w.heap.size->D b->D' b):OB w D' v l:=by
 refine⟨h.oct,h.ex.imp id ?_⟩;rintro⟨b,c,e,hd,hR⟩;exact⟨b,c,e,hD b hR.lt hd,hR⟩
theorem OB.same(h:OB w D v l)(hD:∀ b,b < w.heap.size->D b->w'.heap[b]? = w.heap[b]?):OB w' D v l:=by
 refine⟨h.oct,h.ex.imp id ?_⟩;rintro⟨b,c,e,hd,hR⟩;exact⟨b,c,e,hd,hR.same (hD b hR.lt hd)⟩
theorem OB.keep(h:OB w D v l)(hb:Below w.heap.size w w'):OB w' D v l:=h.same fun b hb' _=>hb.block b hb'
theorem OB.one(h:OB w D v l):v.oneCell'=true:=by
 rcases h.ex with⟨rfl,rfl⟩ | ⟨b,c,rfl,hd,hR⟩<;>rfl
def cZ:List Int->List Int->Int
 | [],[]=>0
 | [],_ :: _ => -1
 | _ :: _,[]=>1
 | x :: a,y :: b=>if x < y then -1 else if y < x then 1 else cZ a b
theorem DM{x y:Int}(hx:0<=x/\x < 256)(hy:0<=y/\y < 256):(UInt8.ofNat x.toNat < UInt8.ofNat y.toNat)<->x < y:=by
 rw[UInt8.lt_iff_toNat_lt,UInt8.toNat_ofNat_of_lt' (by show x.toNat < 256; omega),UInt8.toNat_ofNat_of_lt' (by show y.toNat < 256; omega)];omega
theorem jI:∀ (l l':List Int),Oct l->Oct l'->compareBytes (bytesOf l) (bytesOf l')=cZ l l'
 | [],[],_,_=>rfl
 | [],_ :: _,_,_=>rfl
 | _ :: _,[],_,_=>rfl
 | x :: a,y :: b,h,h'=>by
  have ih:=jI a b (fun z c=>h z (List.mem_cons_of_mem _ c)) (fun z c=>h' z (List.mem_cons_of_mem _ c));have hx:=h x List.mem_cons_self;have hy:=h' y List.mem_cons_self
  show (if UInt8.ofNat x.toNat < UInt8.ofNat y.toNat then _ else if UInt8.ofNat y.toNat < UInt8.ofNat x.toNat then _ else compareBytes (bytesOf a) (bytesOf b))=_
  rw[cZ];simp only[DM hx hy,DM hy hx,ih]
theorem kP{P:Program}(h:By w v l):(Extern.Bytes.bytesOf v).run P w=.ok ⟨(bytesOf l).toArray⟩ w:=by
 obtain⟨i,c,rfl,p,m,k,n,f⟩:=h.ex
 cases i with
 | none =>
  have:l=[]:=List.eq_nil_of_length_eq_zero (by have:=k rfl; omega);subst this;rfl
 | some a =>
  rcases f with rfl | ⟨b,o,e,d,hc⟩
  ·rfl
  ·cases e;have:=run_loadBytesX (P:=P) w l ⟨b,o,none⟩ .empty (fun j x g=>by rw[Addr.add_lit]; exact hc j x g)
   show (Extern.Bytes.loadBytes ⟨b,o,none⟩ l.length .empty).run P w=_
   rw[this];congr 1
   apply ByteArray.ext;simp
theorem kO{c:Value}{b:List Int}(h:By w v l)(d:By w c b) :
  Calls Tryz.prog 211 #[v,c] w fun e w'=>e=.returned (.int .i64 (cZ l b))/\w'=w:=by
 have a:(callFunc 241 #[v,c]).run Tryz.prog w=.ok (.value (.int .i64 (cZ l b))) w:=by
  rw[run_callFunc_extern Tryz.func241 (by kernel_rfl) (by kernel_rfl) (by kernel_rfl) (e:=Extern.BytealgCompare.compare) (by kernel_rfl)];have:(Extern.BytealgCompare.compare #[v,c]).run Tryz.prog w=.ok (.int .i64 (cZ l b)) w:=by
   change Sem.run Tryz.prog (do pure (goInt (Extern.BytealgCompare.cmp (<- Extern.Bytes.bytesOf v) (<- Extern.Bytes.bytesOf c)))) w=_
   simp only[Sem.run_bind,kP h,kP d,Sem.run_pure,Result.andThen];rw[cmp_eq,jI l b h.oct d.oct];rfl
  rw[this]; rfl
 clear h d;generalize cZ l b=x at *;go_enter Tryz.func211,Tryz.ntmps211;go_wp2_with (simp only[a]);go_ret;exact⟨rfl,rfl⟩
theorem KB:Kd Tryz.prog 96 5 1 1 (.int .u8 0):=⟨by kernel_rfl,by kernel_rfl,rfl,by simp[Value.cells,Value.oneCell'],by decide⟩
theorem mO(h:w.cell? a=some v)(o:Obj):(w.alloc o).cell? a=some v:=by
 have b:a.block < w.heap.size:=by
  unfold World.cell? at h
  cases hh:w.heap[a.block]? with
  | none=>simp[hh] at h
  | some ob=>exact lt_of_block hh
 rw[(ae w o).cell b]; exact h
theorem map_u8(l:List Int):∀ v∈l.map (Value.int .u8),v.oneCell'=true:=by
 intro v hv;obtain⟨x,_,rfl⟩:=List.mem_map.1 hv;rfl
theorem cC(h:By w v l)(H:l.length<=1000000000) :
  Calls Tryz.prog 78 #[v] w fun e w'=>∃ v',e=.returned v'/\OB w' (w.heap.size <= ·) v' l/\Below w.heap.size w w':=by
 have q:=h.oct;obtain⟨z,c,rfl,F,G,A,B,r⟩:=h.ex
 cases z with
 | none =>
  have C:l=[]:=List.eq_nil_of_length_eq_zero (by have:=A rfl; omega);subst C;have d:=fun(w:World) (a:Option Addr) (n c:Nat)=>Go.Lib.run_eql_slice_nil (P:=Tryz.prog) w 96 _ a n c 0 0 KB.und
  go_enter Tryz.func78,Tryz.ntmps78;go_wp2;go_ret;exact⟨_,rfl,⟨q,.inl ⟨rfl,rfl⟩⟩,Below.refl _ _⟩
 | some a =>
  have s:Rw (w.alloc (.cells #[] 5)) 5 1 w.heap.size 0 0 []:=zi (aC w [] _) rfl (by decide)
  have f:∀ j u,(l.map (Value.int .u8))[j]? = some u->(w.alloc (.cells #[] 5)).cell? (a.add j)=some u:=fun j u i=>by
   rcases r with rfl | ⟨b,o,e,D,hc⟩
   ·simp at i
   ·cases e;rw[List.getElem?_map] at i;obtain⟨x,hx,rfl⟩:=Option.map_eq_some_iff.1 i;exact mO (by rw[Addr.add_lit]; exact hc j x hx) _
  obtain⟨k,t,W,y,g,m,hC⟩:=dz KB 96 s a l.length c (l.map (Value.int .u8)) (by simp) f (map_u8 l) (by omega) (by omega);rw[Nat.zero_add] at y m
  have E:Below w.heap.size w W:=(ae w (.cells #[] 5)).trans (hC.below (fun b hb=>by omega) (ae w _).size)
  have p:w.heap.size<=k:=by rcases g with e | e; omega; rw[World.size_alloc] at e; omega
  have hF:OB W (w.heap.size <= ·) (.slice (some ⟨k,0,none⟩) l.length t) l:=⟨q,.inr ⟨k,t,rfl,p,m.to (by simp)⟩⟩
  clear s f r h m hC B g;have d:=fun(w:World) (a:Option Addr) (n c:Nat)=>Go.Lib.run_eql_slice_nil (P:=Tryz.prog) w 96 _ a n c 0 0 KB.und
  go_enter Tryz.func78,Tryz.ntmps78;go_wp2_with (at_builtin; refine Lib.wpList_append_run _ rfl _ _ _ _ rfl _ _ rfl rfl _ _ y ?_);go_ret;exact⟨_,rfl,hF,E⟩
theorem yH{c:Nat}(hn:n<=1000000000)(hx:xs.length=n * 2)(hc:∀ j v,xs[j]? = some v->w.cell? (a.add j)=some v)(o:∀ v∈xs,v.oneCell'=true) :
  Calls Tryz.prog 226 #[.slice (some a) n c] w fun e w'=>∃ b' c',e=.returned (.slice (some ⟨b',0,none⟩) n c')/\w.heap.size<=b'/\Rw w' 196 2 b' n c' xs/\Below w.heap.size w w':=by
 have h:Rw (w.alloc (.cells #[] 196)) 196 2 w.heap.size 0 0 []:=zi (aC w [] _) rfl (by decide);obtain⟨b',c',W,i,d,f,hC⟩:=dz KE 199 h a n c xs hx (fun j v l=>mO (hc j v l) _) o (by omega) (by omega);rw[Nat.zero_add] at i f;rw[List.nil_append] at f
 have m:Below w.heap.size w W:=(ae w (.cells #[] 196)).trans (hC.below (fun b hb=>by omega) (ae w _).size)
 have g:w.heap.size<=b':=by rcases d with e | e; omega; rw[World.size_alloc] at e; omega
 clear h hc o hC d;have k:=fun(w:World) (a:Option Addr) (n c:Nat)=>Go.Lib.run_eql_slice_nil (P:=Tryz.prog) w 199 _ a n c 0 0 KE.und
 go_enter Tryz.func226,Tryz.ntmps226;go_wp2_with (at_builtin; refine Lib.wpList_append_run _ rfl _ _ _ _ rfl _ _ rfl rfl _ _ i ?_);go_ret;exact⟨b',c',rfl,g,f,m⟩
theorem growE(h:0 < n)(hn:n<=1000000000) :
  Calls Tryz.prog 254 #[.slice none 0 0,.int .i64 n] w fun e w'=>∃ b' c',e=.returned (.slice (some ⟨b',0,none⟩) 0 c')/\w.heap.size<=b'/\Rw w' 196 2 b' 0 c' []/\Below w.heap.size w w':=by
 obtain⟨c',W,c,b,d⟩:=nL (w:=w) KE 3 199 j5 n h (by omega) (by omega)
 have a:Rw W 196 2 w.heap.size 0 c' []:=(b.front (m:=0) (by omega)).to (by simp)
 have f:¬ ((n:Int) < 0):=by omega
 have g:(0:Int) < n:=by omega
 clear b;go_enter Tryz.func254,Tryz.ntmps254;go_wp2_with (at_builtin; refine Lib.wpList_append_run _ rfl _ _ _ _ rfl _ _ rfl rfl _ _ c ?_);go_ret;exact⟨_,c',rfl,Nat.le_refl _,a,d⟩
end
end Pg
end
section
namespace Pg
open Go.RowKit Go.Lib
theorem Cy {w:World} {vb b1 n1 c1 b2 n2 c2:Nat} {xs ys:List Value} (B:Blk w vb [.slice (some ⟨b1,0,none⟩) n1 c1,.slice (some ⟨b2,0,none⟩) n2 c2] 199)
  (D:Rw w 196 2 b1 n1 c1 xs) (C:Rw w 196 2 b2 n2 c2 ys) (I:0 < n1 + n2) (E:n1<=1000000) (H:n2<=1000000) (G:∀ v∈xs,v.oneCell'=true) (F:∀ v∈ys,v.oneCell'=true) :
  Calls Tryz.prog 240 #[.slice (some ⟨vb,0,none⟩) 2 2] w fun e w'=>∃ b' c',e=.returned (.slice (some ⟨b',0,none⟩) (n1 + n2) c')/\w.heap.size<=b'/\Rw w' 196 2 b' (n1 + n2) c' (xs ++ ys)/\Below w.heap.size w w':=by
 have r:=growE (w:=w) (n:=n1 + n2) I (by omega);rw[show ((n1 + n2:Nat):Int)=(n1:Int) + (n2:Int) by omega] at r;have q0:=B.cell (i:=0) rfl;have q1:=B.cell (i:=1) rfl;go_enter Tryz.func240,Tryz.ntmps240;go_wp2;go_loopw [3,11] (fun ts d wr=>wr=w/\((d=.int .i64 0/\ts=.int .i64 0)\/(d=.int .i64 1/\ts=.int .i64 n1)\/(d=.int .i64 2/\ts=.int .i64 (n1 + n2)))) (fun _ d _=>2 - (intOf d).toNat)
 case atStart=>exact⟨rfl,.inl ⟨rfl,rfl⟩⟩
 case round =>
  obtain⟨rfl,⟨rfl,rfl⟩ | ⟨rfl,rfl⟩ | ⟨rfl,rfl⟩⟩:=hrel
  ·have z:¬ ((n1:Int) < 0):=by omega
   go_wp2;go_roundw
   case rel=>exact⟨trivial,.inr (.inl ⟨rfl,rfl⟩)⟩
   case measure=>simp[intOf]
  ·have z:¬ ((n1:Int) + (n2:Int) < 0):=by omega
   go_wp2;go_roundw
   case rel=>exact⟨trivial,.inr (.inr ⟨rfl,rfl⟩)⟩
   case measure=>simp[intOf]
  ·rename World=>W0
   go_wp2_with (go_at_call 254; refine r.mono ?_; rintro e A ⟨b,c,rfl,hb,g,o⟩);clear r
   have s:=(B.keep o).cell (i:=0) rfl
   have t:=(B.keep o).cell (i:=1) rfl;have m:=o;clear o q0 q1;go_loopw [6,27] (fun ts d p=>Below W0.heap.size W0 p/\∃ b c,W0.heap.size<=b/\((d=.int .i64 0/\ts=.slice (some ⟨b,0,none⟩) 0 c/\Rw p 196 2 b 0 c [])\/(d=.int .i64 1/\ts=.slice (some ⟨b,0,none⟩) n1 c/\Rw p 196 2 b n1 c xs)\/(d=.int .i64 2/\ts=.slice (some ⟨b,0,none⟩) (n1 + n2) c/\Rw p 196 2 b (n1 + n2) c (xs ++ ys)))) (fun _ d _=>2 - (intOf d).toNat)
   case atStart=>exact⟨m,b,c,hb,.inl ⟨rfl,rfl,g⟩⟩
   case round =>
    clear g m hb s t;obtain⟨a,b,c,hb,⟨rfl,rfl,g⟩ | ⟨rfl,rfl,g⟩ | ⟨rfl,rfl,g⟩⟩:=hrel
    ·have q0:=(B.keep a).cell (i:=0) rfl;have S:=D.keep a;obtain⟨b',c',W,q,f,h,hC⟩:=dz KE 199 g ⟨b1,0,none⟩ n1 c1 xs D.len (fun j u y=>by rw[Addr.add_lit,Nat.zero_add]; exact S.cell y) G (by omega) (by omega);rw[Nat.zero_add] at q h
     have k:Below W0.heap.size W0 W:=a.trans (hC.below (fun x hx=>by omega) a.size)
     have l:W0.heap.size<=b':=by
      have:=a.size;rcases f with e | e<;>omega
     clear hC f g S;go_wp2_with (at_builtin; refine Lib.wpList_append_run _ rfl _ _ _ _ rfl _ _ rfl rfl _ _ q ?_);go_roundw
     case rel=>exact⟨k,b',c',l,.inr (.inl ⟨rfl,rfl,h⟩)⟩
     case measure=>simp[intOf]
    ·have q1:=(B.keep a).cell (i:=1) rfl;have S:=C.keep a;obtain⟨b',c',W,q,f,h,hC⟩:=dz KE 199 g ⟨b2,0,none⟩ n2 c2 ys C.len (fun j u y=>by rw[Addr.add_lit,Nat.zero_add]; exact S.cell y) F (by omega) (by omega)
     have k:Below W0.heap.size W0 W:=a.trans (hC.below (fun x hx=>by omega) a.size)
     have l:W0.heap.size<=b':=by
      have:=a.size;rcases f with e | e<;>omega
     clear hC f g S;go_wp2_with (at_builtin; refine Lib.wpList_append_run _ rfl _ _ _ _ rfl _ _ rfl rfl _ _ q ?_);go_roundw
     case rel=>exact⟨k,b',c',l,.inr (.inr ⟨rfl,rfl,h⟩)⟩
     case measure=>simp[intOf]
    ·go_wp2;go_ret;exact⟨b,c,rfl,hb,g,a⟩
end Pg
end
section
namespace Pg
section
variable {a b k:List Int}{l:List (List Int)}
theorem iM:∀ (a b:List Int),cZ a b = -1\/cZ a b=0\/cZ a b=1
 | [],[]=>.inr (.inl rfl)
 | [],_ :: _=>.inl rfl
 | _ :: _,[]=>.inr (.inr rfl)
 | x :: a,y :: b=>by
  rw[cZ];split
  ·exact .inl rfl
  ·split
   ·exact .inr (.inr rfl)
   ·exact iM a b
theorem ig:∀ (a:List Int),cZ a a=0
 | []=>rfl
 | x :: a=>by rw[cZ,if_neg (by omega),if_neg (by omega)]; exact ig a
theorem qo:∀ {a b:List Int},cZ a b=0->a=b
 | [],[],_=>rfl
 | [],_ :: _,h=>by simp[cZ] at h
 | _ :: _,[],h=>by simp[cZ] at h
 | x :: a,y :: b,h=>by
  rw[cZ] at h;split at h
  ·omega
  ·split at h
   ·omega
   ·rw[qo h,show x=y by omega]
theorem kB:∀ (a b:List Int),cZ b a = - cZ a b
 | [],[]=>rfl
 | [],_ :: _=>rfl
 | _ :: _,[]=>rfl
 | x :: a,y :: b=>by
  rw[cZ,cZ];by_cases h1:x < y
  ·rw[if_neg (by omega),if_pos h1,if_pos h1]; rfl
  ·by_cases h2:y < x
   ·rw[if_pos h2,if_neg h1,if_pos h2]
   ·rw[if_neg h2,if_neg h1,if_neg h1,if_neg h2]; exact kB a b
def Lt(a b:List Int):Prop:=cZ a b = -1
instance (a b:List Int):Decidable (Lt a b):=inferInstanceAs (Decidable (_=_))
theorem Lt.trans:∀ {a b c:List Int},Lt a b->Lt b c->Lt a c
 | [],[],_,h,_=>by simp[Lt,cZ] at h
 | [],_ :: _,[],_,h=>by simp[Lt,cZ] at h
 | [],_ :: _,_ :: _,_,_=>rfl
 | _ :: _,[],_,h,_=>by simp[Lt,cZ] at h
 | _ :: _,_ :: _,[],_,h=>by simp[Lt,cZ] at h
 | x :: a,y :: b,z :: c,h,h'=>by
  simp only[Lt] at h h' ⊢;rw[cZ] at h h' ⊢;by_cases h1:x < z
  ·rw[if_pos h1]
  ·rw[if_neg h1];split at h
   ·split at h'
    ·omega
    ·split at h'
     ·omega
     ·omega
   ·split at h
    ·omega
    ·split at h'
     ·omega
     ·split at h'
      ·omega
      ·rw[if_neg (by omega)]; exact Lt.trans (a:=a) (b:=b) (c:=c) h h'
theorem lt_irrefl(a:List Int):¬ Lt a a:=by simp[Lt,ig]
theorem Lt.not(h:Lt a b):¬ Lt b a:=fun h'=>lt_irrefl a (h.trans h')
theorem py(a b:List Int):Lt a b\/a=b\/Lt b a:=by
 rcases iM a b with h | h | h
 ·exact .inl h
 ·exact .inr (.inl (qo h))
 ·exact .inr (.inr (by simp only[Lt]; rw[kB,h]))
theorem pJ(h:Lt a b):cZ a b = -1:=h
theorem BC(h:Lt b a):cZ a b=1:=by rw[kB,pJ h]; rfl
theorem not_lt:¬ Lt a b<->a=b\/Lt b a:=by
 constructor
 ·intro h;rcases py a b with k | k | k
  ·exact absurd k h
  ·exact .inl k
  ·exact .inr k
 ·rintro(h | h)
  ·subst h; exact lt_irrefl a
  ·exact h.not
theorem Lt.of_le{c:List Int}(h:Lt a b)(h':¬ Lt c b):Lt a c:=by
 rcases not_lt.1 h' with k | k
 ·subst k; exact h
 ·exact h.trans k
def plc:List (List Int)->List Int->Nat
 | [],_=>0
 | x :: l,k=>if Lt x k then plc l k + 1 else 0
theorem qv:∀ (l:List (List Int)) (k:List Int),plc l k<=l.length
 | [],_=>Nat.le_refl _
 | x :: l,k=>by
  rw[plc];split
  ·have:=qv l k; simp; omega
  ·simp
theorem sV:∀ {l:List (List Int)} {k:List Int} {i:Nat},i<=l.length->(∀ j x,j < i->l[j]? = some x->Lt x k)->(∀ x,l[i]? = some x->¬ Lt x k)->plc l k=i
 | [],_,i,h,_,_=>by simp at h; subst h; rfl
 | x :: l,k,0,_,_,h3=>by rw[plc,if_neg (h3 x rfl)]
 | x :: l,k,i + 1,h1,h2,h3=>by
  rw[plc,if_pos (h2 0 x (by omega) rfl),sV (l:=l) (i:=i) (by simpa using h1) (fun j y hj hy=>h2 (j + 1) y (by omega) (by simpa using hy)) (fun y hy=>h3 y (by simpa using hy))]
theorem AR:∀ {l:List (List Int)} {k:List Int} {j:Nat} {x:List Int},j < plc l k->l[j]? = some x->Lt x k
 | [],_,_,_,h,_=>by simp[plc] at h
 | y :: l,k,j,x,h,hx=>by
  rw[plc] at h;split at h
  ·cases j with
   | zero=>simp at hx; subst hx; assumption
   | succ j=>exact AR (l:=l) (j:=j) (by omega) (by simpa using hx)
  ·omega
theorem y9:∀ {l:List (List Int)} {k:List Int} {x:List Int},l[plc l k]? = some x->¬ Lt x k
 | [],_,_,h=>by simp at h
 | y :: l,k,x,h=>by
  rw[plc] at h;split at h
  ·exact y9 (l:=l) (by simpa using h)
  ·simp at h; subst h; assumption
def Srt(l:List (List Int)):Prop:=l.Pairwise Lt
theorem Srt.get(h:Srt l){i j:Nat}{x y:List Int}(a:i < j)(hi:l[i]? = some x)(c:l[j]? = some y):Lt x y:=by
 obtain⟨b,rfl⟩:=List.getElem?_eq_some_iff.1 hi;obtain⟨d,rfl⟩:=List.getElem?_eq_some_iff.1 c;exact List.pairwise_iff_getElem.1 h i j b d a
def thr(l:List (List Int))(k:List Int):Bool:=decide (l[plc l k]? = some k)
theorem AZ(h:Srt l):thr l k=true<->k∈l:=by
 simp only[thr,decide_eq_true_eq];constructor
 ·intro e; exact List.mem_of_getElem? e
 ·intro e;obtain⟨j,a⟩:=List.getElem?_of_mem e;have:plc l k=j:=sV (by have:=(List.getElem?_eq_some_iff.1 a).1; omega) (fun i x hi hx=>h.get hi hx a) (fun x hx=>by rw[a] at hx; cases hx; exact lt_irrefl k);rw[this]; exact a
end
end Pg
end
section
namespace Pg
open Go.RowKit Go.Lib
section
variable {w w':World}{D D':Nat->Prop}
structure En where
 kv:Value
 kl:List Int
 vv:Value
 vl:List Int
structure EnA(w:World)(D:Nat->Prop)(e:En):Prop where
 k:OB w D e.kv e.kl
 v:OB w D e.vv e.vl
theorem EnA.keep{e:En}(h:EnA w D e)(hb:Below w.heap.size w w'):EnA w' D e:=⟨h.k.keep hb,h.v.keep hb⟩
theorem EnA.mono{e:En}(h:EnA w D e)(hD:∀ b,b < w.heap.size->D b->D' b):EnA w D' e:=⟨h.k.mono hD,h.v.mono hD⟩
def flat:List En->List Value
 | []=>[]
 | e :: l=>e.kv :: e.vv :: flat l
theorem jm:∀ (l:List En),(flat l).length=l.length * 2
 | []=>rfl
 | e :: l=>by simp[flat,jm l]; omega
theorem eb:∀ (a b:List En),flat (a ++ b)=flat a ++ flat b
 | [],b=>rfl
 | e :: a,b=>by simp[flat,eb a b]
theorem oQ:∀ {l:List En} {i:Nat} {e:En},l[i]? = some e->(flat l)[i * 2]? = some e.kv
 | [],_,_,h=>by simp at h
 | x :: l,0,e,h=>by simp at h; subst h; rfl
 | x :: l,i + 1,e,h=>by
  rw[show (i + 1) * 2=i * 2 + 1 + 1 by omega,flat,List.getElem?_cons_succ,List.getElem?_cons_succ];exact oQ (l:=l) (by simpa using h)
theorem j8:∀ {l:List En} {i:Nat} {e:En},l[i]? = some e->(flat l)[i * 2 + 1]? = some e.vv
 | [],_,_,h=>by simp at h
 | x :: l,0,e,h=>by simp at h; subst h; rfl
 | x :: l,i + 1,e,h=>by
  rw[show (i + 1) * 2 + 1=i * 2 + 1 + 1 + 1 by omega,flat,List.getElem?_cons_succ,List.getElem?_cons_succ];exact j8 (l:=l) (by simpa using h)
theorem ix:∀ (l:List En) (i:Nat),(flat l).take (i * 2)=flat (l.take i)
 | [],i=>by simp[flat]
 | x :: l,0=>by simp[flat]
 | x :: l,i + 1=>by
  rw[show (i + 1) * 2=i * 2 + 1 + 1 by omega,flat,List.take_succ_cons,List.take_succ_cons,ix l i,List.take_succ_cons,flat]
theorem iB:∀ (l:List En) (i:Nat),(flat l).drop (i * 2)=flat (l.drop i)
 | [],i=>by simp[flat]
 | x :: l,0=>by simp
 | x :: l,i + 1=>by
  rw[show (i + 1) * 2=i * 2 + 1 + 1 by omega,flat,List.drop_succ_cons,List.drop_succ_cons,iB l i,List.drop_succ_cons]
theorem jd:∀ {l:List En},(∀ e∈l,EnA w D e)->∀ v∈flat l,v.oneCell'=true
 | [],_,v,h=>by simp[flat] at h
 | x :: l,h,v,hv=>by
  have hx:=h x List.mem_cons_self;rcases List.mem_cons.1 hv with rfl | hv
  ·exact hx.k.one
  ·rcases List.mem_cons.1 hv with rfl | hv
   ·exact hx.v.one
   ·exact jd (l:=l) (fun e he=>h e (List.mem_cons_of_mem _ he)) v hv
theorem mw:∀ {l:List En} {i:Nat} {e:En} (u:Value) (ul:List Int),l[i]? = some e->(flat l).set (i * 2 + 1) u=flat (l.set i { e with vv:=u,vl:=ul })
 | [],_,_,_,_,h=>by simp at h
 | x :: l,0,e,u,ul,h=>by simp at h; subst h; simp[flat]
 | x :: l,i + 1,e,u,ul,h=>by
  rw[show (i + 1) * 2 + 1=i * 2 + 1 + 1 + 1 by omega,flat,List.set_cons_succ,List.set_cons_succ,mw (l:=l) u ul (by simpa using h),List.set_cons_succ,flat]
def kys(l:List En):List (List Int):=l.map En.kl
structure Pg where
 b:Nat
 c:Nat
 es:List En
def Pg.v(p:Pg):Value:=.slice (some ⟨p.b,0,none⟩) p.es.length p.c
structure PgA(w:World)(D:Nat->Prop)(p:Pg):Prop where
 row:Rw w 196 2 p.b p.es.length p.c (flat p.es)
 dI:∀ e∈p.es,EnA w D e
theorem PgA.keep{p:Pg}(h:PgA w D p)(hb:Below w.heap.size w w'):PgA w' D p:=⟨h.row.keep hb,fun e he=>(h.dI e he).keep hb⟩
theorem PgA.one{p:Pg}(h:PgA w D p):∀ v∈flat p.es,v.oneCell'=true:=jd h.dI
theorem cmpE{kv vv v:Value}{l a:List Int}(h:By w kv l)(b:By w v a) :
  Calls Tryz.prog 213 #[.agg #[kv,vv],v] w fun e w'=>e=.returned (.int .i64 (cZ l a))/\Below w.heap.size w w':=by
 have hb:=ae w (.cells #[kv,vv] 196);have c:=kO (h.keep hb) (b.keep hb);have B:=aC w [kv,vv] 196;have q0:=B.cell (i:=0) rfl;clear h b B;generalize cZ l a=x at *;go_enter Tryz.func213,Tryz.ntmps213;go_wp2_with (go_at_call 211; refine c.mono ?_; rintro e d ⟨rfl,rfl⟩);go_ret;exact⟨rfl,hb⟩
end
end Pg
end
section
namespace Pg
open Go.RowKit Go.Lib
section
variable {w:World}{D:Nat->Prop}{p:Pg}{v:Value}{k:List Int}
theorem bsE(A:PgA w D p)(S:Srt (kys p.es))(h:By w v k)(hn:p.es.length<=1000000) :
  Calls Tryz.prog 212 #[p.v,v,.func (.func 213) #[] #[]] w fun e w'=>e=.returned (.tuple #[.int .i64 (plc (kys p.es) k),.bool (thr (kys p.es) k)])/\Below w.heap.size w w':=by
 obtain⟨b,c,es⟩:=p;simp only[Pg.v] at *;have g:=A.row.le;simp only[maxLen] at g;have s:=g.1;have M:=g.2;obtain⟨n,F⟩:∃ n,es.length=n:=⟨_,rfl⟩
 rw[F] at hn s ⊢;go_enter Tryz.func212,Tryz.ntmps212;go_wp2;go_loopw [9,10] (fun G H wr=>∃ i j:Nat,G=.int .i64 i/\H=.int .i64 j/\i<=j/\j<=n/\Hid (∀ q x,q < i->(kys es)[q]? = some x->Lt x k)/\Hid (∀ q x,j<=q->(kys es)[q]? = some x->¬ Lt x k)/\Below w.heap.size w wr) (fun G H _=>(intOf H).toNat - (intOf G).toNat)
 case atStart=>exact⟨0,n,rfl,rfl,Nat.zero_le _,Nat.le_refl _,fun q x t=>by omega,fun q x t hx=>by
  have:=(List.getElem?_eq_some_iff.1 hx).1;simp[kys] at this;omega,Below.refl _ _⟩
 case round =>
  obtain⟨i,j,rfl,rfl,R,I,H1,N,f⟩:=hrel;by_cases T:i < j
  ·obtain⟨m,hm⟩:∃ m,m=(i + j) / 2:=⟨_,rfl⟩
   have U:i<=m:=by omega
   have V:m < j:=by omega
   obtain⟨e,he⟩:∃ e,es[m]? = some e:=⟨es[m],List.getElem?_eq_getElem (by omega)⟩
   have d:=A.keep f;have q0:=d.row.cell (oQ he);have q1:=d.row.cell (j8 he)
   have W:IntKind.i64.wrap ((i:Int) + (j:Int))=(i:Int) + (j:Int):=by rw[IntKind.wrap_i64]; omega
   have X:((i:Int) + (j:Int)) / 2 < n:=by omega
   have Y:(0:Int)<=((i:Int) + (j:Int)) / 2:=by omega
   have Z:IntKind.i64.wrap (((i:Int) + (j:Int)) / 2)=((i:Int) + (j:Int)) / 2:=by rw[IntKind.wrap_i64]; omega
   have l:=cmpE (vv:=e.vv) ((d.dI e (List.mem_of_getElem? he)).k.by) (h.keep f)
   have r:(kys es)[m]? = some e.kl:=by simp[kys,he]
   rw[hm] at q0 q1
   have y:Hid (m=(i + j) / 2):=hm;clear d hm;by_cases hc:Lt e.kl k
   ·rw[pJ hc] at l;go_wp2_with (go_at_call 213; refine l.mono ?_; rintro O P ⟨rfl,a⟩);go_roundw
    case rel=>exact⟨m + 1,j,by have:=y.out; congr 1; omega,rfl,by omega,I,fun q x t hx=>by
     by_cases o:q=m
     ·subst o; rw[r] at hx; cases hx; exact hc
     ·exact S.get (by omega) hx r |>.trans hc,N.out,Q f a⟩
    case measure=>have:=y.out; simp[intOf]; omega
   ·have J:¬ (B e.kl k < 0):=by
     rcases iM e.kl k with q | q | q
     ·exact absurd q hc
     ·rw[q]; decide
     ·rw[q]; decide
    generalize B e.kl k=x at l J;go_wp2_with (go_at_call 213; refine l.mono ?_; rintro O P ⟨rfl,a⟩);go_roundw
    case rel=>exact⟨i,m,rfl,by have:=y.out; congr 1; omega,by omega,by omega,H1.out,fun q x t hx=>by
     by_cases o:q=m
     ·subst o; rw[r] at hx; cases hx; exact hc
     ·intro K;exact hc ((S.get (by omega) r hx).trans K),Q f a⟩
    case measure=>have:=y.out; simp[intOf]; omega
  ·have L:i=j:=by omega
   subst L
   have C:Hid (plc (kys es) k=i):=sV (by simp[kys]; omega) (fun q x t hx=>H1.out q x t hx) (fun x hx=>N.out i x (Nat.le_refl _) hx)
   have d:=A.keep f;by_cases aa:i < n
   ·obtain⟨e,he⟩:∃ e,es[i]? = some e:=⟨es[i],List.getElem?_eq_getElem (by omega)⟩
    have q0:=d.row.cell (oQ he);have q1:=d.row.cell (j8 he)
    have r:(kys es)[i]? = some e.kl:=by simp[kys,he]
    have l:=cmpE (vv:=e.vv) ((d.dI e (List.mem_of_getElem? he)).k.by) (h.keep f)
    have E:Hid (thr (kys es) k=(B e.kl k == 0)):=by
     show _=_
     unfold thr;rw[C.out,r];by_cases q:e.kl=k
     ·subst q; simp[ig]
     ·have:B e.kl k≠0:=fun z=>q (qo z)
      simp[q,this]
    have u:(i:Int) < n:=by omega
    generalize B e.kl k=x at l E;clear d;go_wp2_with (go_at_call 213; refine l.mono ?_; rintro O P ⟨rfl,a⟩)
    all_goals (
     go_ret2;refine⟨?_,Q f a⟩;rw[E.out,C.out];rfl)
   ·have E:Hid (thr (kys es) k=false):=by
     show _=_
     unfold thr;rw[C.out,List.getElem?_eq_none (by simp[kys]; omega)];rfl
    have u:¬ ((i:Int) < n):=by omega
    go_wp2;go_ret2;refine⟨?_,f⟩;rw[E.out,C.out];rfl
theorem gN(A:PgA w D p)(S:Srt (kys p.es))(h:By w v k)(hn:p.es.length<=1000000) :
  Calls Tryz.prog 174 #[p.v,v] w fun e w'=>e=.returned (.tuple #[.int .i64 (plc (kys p.es) k),.bool (thr (kys p.es) k)])/\Below w.heap.size w w':=by
 have t:=bsE A S h hn;generalize plc (kys p.es) k=x at *;generalize thr (kys p.es) k=y at *;simp only[Pg.v] at *;clear A S h;go_enter Tryz.func174,Tryz.ntmps174;go_wp2_with (go_at_call 212; refine t.mono ?_; rintro c b ⟨rfl,a⟩);go_ret2;exact⟨rfl,a⟩
end
end Pg
end
section
namespace Pg
open Go.RowKit Go.Lib
section
variable {w w':World}{F D:Nat->Prop}{g b:Nat}{L:List Pg}{P:List (List En)}{es:List En}
structure bJ(w:World)(F D:Nat->Prop)(g:Nat)(L:List Pg):Prop where
 top:∃ pv,Blk w g [pv] 144/\F g/\((pv=.slice none 0 0/\L=[])\/∃ G C,pv=.slice (some ⟨G,0,none⟩) L.length C/\F G/\Rw w 199 1 G L.length C (L.map Pg.v))
 bX:∀ p∈L,PgA w D p/\F p.b
 apart:(L.map Pg.b).Nodup
 kind:∀ b,F b->∃ cs t,Blk w b cs t/\t≠5
theorem bJ.lt(h:bJ w F D g L)(hb:F b):b < w.heap.size:=by
 obtain⟨cs,t,h,_⟩:=h.kind b hb;exact h.lt
theorem bJ.same(h:bJ w F D g L)(r:∀ b,F b->w'.heap[b]? = w.heap[b]?)(s:∀ b,b < w.heap.size->D b->(∃ cs,Blk w b cs 5)->w'.heap[b]? = w.heap[b]?):bJ w' F D g L:=by
 obtain⟨n,hb,i,f⟩:=h.top
 have a:∀ {v:Value} {l:List Int},OB w D v l->OB w' D v l:=fun h=>⟨h.oct,h.ex.imp id (by
  rintro⟨b,c,e,j,d⟩;exact⟨b,c,e,j,d.same (s b d.lt j d.kind)⟩)⟩
 refine⟨⟨n,hb.same (r g i),i,f.imp id ?_⟩,fun p f => ?_,h.apart,fun b hb => ?_⟩
 ·rintro⟨G,C,e,m,d⟩;exact⟨G,C,e,m,d.same (r G m)⟩
 ·obtain⟨hA,hF⟩:=h.bX p f;exact⟨⟨hA.row.same (r _ hF),fun e he=>⟨a (hA.dI e he).k,a (hA.dI e he).v⟩⟩,hF⟩
 ·obtain⟨cs,t,o,q⟩:=h.kind b hb;exact⟨cs,t,o.same (r b hb),q⟩
theorem bJ.keep(h:bJ w F D g L)(hb:Below w.heap.size w w'):bJ w' F D g L:=h.same (fun b hF=>hb.block b (h.lt hF)) (fun b hl _ _=>hb.block b hl)
theorem bJ.drew(h:bJ w F D g L):bJ w.drew F D g L:=h.same (fun _ _=>rfl) (fun _ _ _ _=>rfl)
theorem bJ.chg{F':Nat->Prop}(h:bJ w F D g L)(hc:Chg F' w w')(c:∀ b,F' b->¬ F b)(e:∀ b,F' b->∀ cs,¬ Blk w b cs 5):bJ w' F D g L :=
 h.same (fun b hF=>hc.same b (h.lt hF) fun f=>c b f hF) (fun b d _ a=>hc.same b d fun f=>by obtain⟨cs,k⟩:=a; exact e b f cs k)
theorem bJ.noU(h:bJ w F D g L)(hb:F b)(cs:List Value):¬ Blk w b cs 5:=fun k=>by
 obtain⟨cs',t,hk,ht⟩:=h.kind b hb;exact ht (hk.eq k).2
theorem bJ.mono{D':Nat->Prop}(h:bJ w F D g L)(c:∀ b,b < w.heap.size->D b->D' b):bJ w F D' g L :=
 ⟨h.top,fun p a=>⟨⟨(h.bX p a).1.row,fun e he=>((h.bX p a).1.dI e he).mono c⟩,(h.bX p a).2⟩,h.apart,h.kind⟩
def ens(L:List Pg):List (List En):=L.map Pg.es
def fks(P:List (List En)):List (List Int):=P.map fun es=>(kys es).headD []
def plq:List (List Int)->List Int->Nat
 | [],_=>0
 | x :: l,k=>if Lt k x then 0 else plq l k + 1
theorem o9:∀ (l:List (List Int)) (k:List Int),plq l k<=l.length
 | [],_=>Nat.le_refl _
 | x :: l,k=>by
  rw[plq];split
  ·simp
  ·have:=o9 l k; simp; omega
theorem Ac:∀ {l:List (List Int)} {k:List Int} {i:Nat},i<=l.length->(∀ j x,j < i->l[j]? = some x->¬ Lt k x)->(∀ x,l[i]? = some x->Lt k x)->plq l k=i
 | [],_,i,h,_,_=>by simp at h; subst h; rfl
 | x :: l,k,0,_,_,h3=>by rw[plq,if_pos (h3 x rfl)]
 | x :: l,k,i + 1,h1,h2,h3=>by
  rw[plq,if_neg (h2 0 x (by omega) rfl),Ac (l:=l) (i:=i) (by simpa using h1) (fun j y hj hy=>h2 (j + 1) y (by omega) (by simpa using hy)) (fun y hy=>h3 y (by simpa using hy))]
theorem zC:∀ {l:List (List Int)} {k:List Int} {j:Nat} {x:List Int},j < plq l k->l[j]? = some x->¬ Lt k x
 | [],_,_,_,h,_=>by simp[plq] at h
 | y :: l,k,j,x,h,hx=>by
  rw[plq] at h;split at h
  ·omega
  ·cases j with
   | zero=>simp at hx; subst hx; assumption
   | succ j=>exact zC (l:=l) (j:=j) (by omega) (by simpa using hx)
theorem zU:∀ {l:List (List Int)} {k:List Int} {x:List Int},l[plq l k]? = some x->Lt k x
 | [],_,_,h=>by simp at h
 | y :: l,k,x,h=>by
  rw[plq] at h;split at h
  ·simp at h; subst h; assumption
  ·exact zU (l:=l) (by simpa using h)
def pgi(P:List (List En))(k:List Int):Nat:=plq (fks P) k - 1
structure Ord(P:List (List En)):Prop where
 full:∀ es∈P,es≠[]
 iD:Srt (kys P.flatten)
theorem Ord.page(h:Ord P){i:Nat}(hi:P[i]? = some es):Srt (kys es):=by
 have hm:=List.mem_of_getElem? hi;have:(kys es).Sublist (kys P.flatten):=(List.sublist_flatten_of_mem hm).map _;exact h.iD.sublist this
theorem je(h:es≠[]):∃ e l,es=e :: l/\(kys es).headD []=e.kl:=by
 cases es with
 | nil=>exact absurd rfl h
 | cons e l=>exact⟨e,l,rfl,rfl⟩
theorem Ord.As:∀ {P:List (List En)},Ord P->Srt (fks P)
 | [],_=>List.Pairwise.nil
 | es :: P,h=>by
  have h2:Ord P:=⟨fun x hx=>h.full x (List.mem_cons_of_mem _ hx),by
   have:=h.iD;simp only[Srt,kys,List.flatten_cons,List.map_append,List.pairwise_append] at this;exact this.2.1⟩
  refine List.Pairwise.cons (fun x hx => ?_) (Ord.As h2);obtain⟨fs,a,rfl⟩:=List.mem_map.1 hx;obtain⟨e,l,rfl,he⟩:=je (h.full es List.mem_cons_self);obtain⟨f,m,rfl,hf⟩:=je (h2.full fs a)
  show Lt e.kl f.kl
  have:=h.iD;simp only[Srt,kys,List.flatten_cons,List.map_append,List.pairwise_append] at this;exact this.2.2 e.kl (by simp) f.kl (List.mem_map.2 ⟨f,List.mem_flatten.2 ⟨_,a,List.mem_cons_self⟩,rfl⟩)
end
end Pg
end
section
namespace Pg
open Go.RowKit Go.Lib
section
variable {L:List Pg}{i g:Nat}{p:Pg}{w:World}{F D:Nat->Prop}{v:Value}{k:List Int}{P:List (List En)}
theorem qj(h:L[i]? = some p):(ens L)[i]? = some p.es:=by simp[ens,h]
theorem CA(h:L[i]? = some p):(fks (ens L))[i]? = some ((kys p.es).headD []):=by simp[ens,fks,h]
theorem bJ.head(A:bJ w F D g L)(O:Ord (ens L))(h:L[i]? = some p):∃ kv,w.cell? ⟨p.b,0,none⟩=some kv/\By w kv ((kys p.es).headD []):=by
 have a:=List.mem_of_getElem? h
 have hm:p.es∈ens L:=List.mem_map.2 ⟨p,a,rfl⟩;obtain⟨e,l,he,c⟩:=je (O.full _ hm);obtain⟨hA,_⟩:=A.bX p a;have q:=hA.row.cell (i:=0) (v:=e.kv) (by rw[he]; rfl);exact⟨e.kv,q,by rw[c]; exact(hA.dI e (by rw[he]; exact List.mem_cons_self)).k.by⟩
theorem bJ.rd(A:bJ w F D g L):∃ ao c,w.cell? ⟨g,0,none⟩=some (.slice ao L.length c)/\L.length<=c/\c<=9223372036854775807/\(∀ i p,L[i]? = some p->∃ G,ao=some ⟨G,0,none⟩/\w.cell? ⟨G,i,none⟩=some p.v):=by
 obtain⟨e,hb,f,⟨rfl,rfl⟩ | ⟨G,C,rfl,d,a⟩⟩:=A.top
 ·exact⟨_,_,hb.cell (i:=0) rfl,by decide,by decide,fun i p h=>by simp at h⟩
 ·have b:=a.le;simp only[maxLen] at b;exact⟨_,C,hb.cell (i:=0) rfl,by omega,by omega,fun i p h=>⟨G,rfl,a.cell (by simp[h])⟩⟩
theorem iP(A:bJ w F D g L)(O:Ord (ens L))(h:By w v k)(hn:L.length<=1000000000) :
  Calls Tryz.prog 172 #[.pointer (some ⟨g,0,none⟩),v] w fun e w'=>e=.returned (.int .i64 (pgi (ens L) k))/\Below w.heap.size w w':=by
 obtain⟨T,c,hc,E,hc2,H⟩:=A.rd;have d:=O.As;obtain⟨r,l⟩:∃ r,Hid (I (ens L)=r):=⟨_,rfl⟩
 rw[l.out] at d;obtain⟨n,s⟩:∃ n,Hid (L.length=n):=⟨_,rfl⟩
 rw[s.out] at hc E hn
 have hkl:r.length=n:=by rw[<- l.out,<- s.out]; simp[I,ens]
 have J:Below w.heap.size w w.drew:=⟨rfl,rfl,rfl,Nat.le_refl _,fun _ _=>rfl⟩
 have hcd:w.drew.cell? ⟨g,0,none⟩=some (.slice T n c):=hc
 have b:∀ (i:Nat),i<=n->(∀ q x,q < i->r[q]? = some x->¬ Lt k x)->(∀ q x,i<=q->r[q]? = some x->Lt k x)->pgi (ens L) k=i - 1:=fun i hi h1 h2=>by
  unfold pgi;rw[l.out,Ac (i:=i) (by omega) (fun j x hj hx=>h1 j x hj hx) (fun x hx=>h2 i x (Nat.le_refl _) hx)]
 have b:Hid _:=b;have mixed:=mixed;go_enter Tryz.func172,Tryz.ntmps172;go_wp2;go_step3;go_wp2;go_region;go_wp2;go_step3;go_wp2;go_loopw [5,6] (fun K M wr=>∃ i j:Nat,K=.int .i64 i/\M=.int .i64 j/\i<=j/\j<=n/\Hid (∀ q x,q < i->r[q]? = some x->¬ Lt k x)/\Hid (∀ q x,j<=q->r[q]? = some x->Lt k x)/\Below w.heap.size w wr) (fun K M _=>(intOf M).toNat - (intOf K).toNat)
 case atStart=>exact⟨0,n,rfl,rfl,Nat.zero_le _,Nat.le_refl _,fun q x u=>by omega,fun q x u hx=>by
  have:=(List.getElem?_eq_some_iff.1 hx).1;omega,J⟩
 case round =>
  obtain⟨i,j,rfl,rfl,hij,N,H1,U,o⟩:=hrel;by_cases hlt:i < j
  ·obtain⟨m,hm⟩:∃ m,m=i + (j - i) / 2:=⟨_,rfl⟩
   have hm1:i<=m:=by omega
   have hm2:m < j:=by omega
   obtain⟨p,B⟩:∃ p,L[m]? = some p:=⟨L[m]'(by have:=s.out; omega),List.getElem?_eq_getElem _⟩
   have V:=A.keep o
   have c0:wr.cell? ⟨g,0,none⟩=some (.slice T n c):=by
    rw[o.cell (p:=⟨g,0,none⟩) (by obtain⟨_,hb,_⟩:=A.top; exact hb.lt)]; exact hc
   obtain⟨G,rfl,W⟩:=H m p B
   have y:wr.cell? ⟨G,m,none⟩=some p.v:=by
    rw[o.cell (p:=⟨G,m,none⟩) (aI W)]; exact W
   obtain⟨kv,cK,X⟩:=V.head O B
   have a:r[m]? = some ((P p.es).headD []):=by rw[<- l.out]; exact CA B
   have hpe:0 < p.es.length:=by
    have:=O.full p.es (List.mem_map.2 ⟨p,List.mem_of_getElem? B,rfl⟩);exact List.length_pos_iff.2 this
   simp only[Pg.v] at y;rw[hm] at y;have t:=kO X (h.keep o);generalize (P p.es).headD []=Y at *
   have z:Hid (m=i + (j - i) / 2):=hm
   have hz0:(0:Int)<=(i:Int) + ((j:Int) - (i:Int)) / 2:=by omega
   have hz1:(i:Int) + ((j:Int) - (i:Int)) / 2 < n:=by omega
   have hz2:((i:Int) + ((j:Int) - (i:Int)) / 2).toNat=i + (j - i) / 2:=by omega
   generalize p.es.length=pn at *;clear V hm X;rcases py Y k with hc | hc | hc
   ·rw[pJ hc] at t;go_wp2_with (go_at_call 211; refine t.mono ?_; rintro Z w1 ⟨rfl,rfl⟩);go_roundw
    case rel=>exact⟨m + 1,j,by have:=z.out; congr 1; omega,rfl,by omega,N,fun q x u hx=>by
     by_cases f:q=m
     ·subst f; rw[a] at hx; cases hx; exact hc.not
     ·exact((d.get (by omega) hx a).trans hc).not,U.out,o⟩
    case measure=>have:=z.out; simp[intOf]; omega
   ·have hF:=b.out (m + 1) (by omega) (fun q x u hx=>by
     subst hc;by_cases f:q=m
     ·subst f; rw[a] at hx; cases hx; exact lt_irrefl _
     ·exact(d.get (by omega) hx a).not) (fun q x u hx=>by subst hc; exact d.get (by omega) a hx)
    have C:Hid (pgi (ens L) k=m):=by show _=_; rw[hF]; omega
    have HC:Hid (Y=k):=hc;rw[hc,ig] at t
    have hx0:(i:Int) + ((j:Int) - (i:Int)) / 2 + 1 - 1=(i:Int) + ((j:Int) - (i:Int)) / 2:=by omega
    have Q:¬ ((i:Int) + ((j:Int) - (i:Int)) / 2 < 0):=by omega
    clear hF hc;go_wp2_with (go_at_call 211; refine t.mono ?_; rintro Z w1 ⟨rfl,rfl⟩);simp only[Exit.noGoto_ret];go_ret;refine⟨?_,o⟩;rw[C.out];have:=z.out
    show Ending.returned (Value.int .i64 ((i:Int) + ((j:Int) - (i:Int)) / 2))=_
    rw[show (i:Int) + ((j:Int) - (i:Int)) / 2=(m:Int) by omega]
   ·rw[BC hc] at t;go_wp2_with (go_at_call 211; refine t.mono ?_; rintro Z w1 ⟨rfl,rfl⟩);go_roundw
    case rel=>exact⟨i,m,rfl,by have:=z.out; congr 1; omega,by omega,by omega,H1.out,fun q x u hx=>by
     by_cases f:q=m
     ·subst f; rw[a] at hx; cases hx; exact hc
     ·exact hc.trans (d.get (by omega) a hx),o⟩
    case measure=>have:=z.out; simp[intOf]; omega
  ·have R:i=j:=by omega
   subst R
   have C:Hid (pgi (ens L) k=i - 1):=b.out i (by omega) H1.out U.out;by_cases S:i=0
   ·subst S;go_wp2
    try simp only[Exit.noGoto_ret]
    go_ret;refine⟨?_,o⟩;rw[C.out];rfl
   ·have Q:¬ ((i:Int) - 1 < 0):=by omega
    have hx2:(0:Int)<=(i:Int) - 1:=by omega
    go_wp2
    try simp only[Exit.noGoto_ret]
    go_ret;refine⟨?_,o⟩;rw[C.out]
    show Ending.returned (Value.int .i64 ((i:Int) - 1))=_
    rw[show (i:Int) - 1=((i - 1:Nat):Int) by omega]
theorem pgi_lt(h:P≠[])(k:List Int):pgi P k < P.length:=by
 have h1:=o9 (fks P) k
 have h2:0 < P.length:=List.length_pos_iff.2 h;simp only[fks,List.length_map] at h1;unfold pgi fks;omega
theorem l4(A:bJ w F D g []) :
  Calls Tryz.prog 146 #[.pointer (some ⟨g,0,none⟩),v] w fun e w'=>e=.returned (.tuple #[.int .i64 0,.int .i64 0,.bool false])/\w'=w:=by
 obtain⟨f,c,hc,d,b,a⟩:=A.rd;simp only[List.length_nil] at hc;clear A a;go_enter Tryz.func146,Tryz.ntmps146;go_wp2;go_ret3;exact⟨rfl,rfl⟩
theorem lI(A:bJ w F D g L)(O:Ord (ens L))(h:By w v k)(hn:L.length<=1000000000)(P:L[pgi (ens L) k]? = some p)(hs:p.es.length<=1000000) :
  Calls Tryz.prog 146 #[.pointer (some ⟨g,0,none⟩),v] w fun e w'=>e=.returned (.tuple #[.int .i64 (pgi (ens L) k),.int .i64 (plc (kys p.es) k),.bool (thr (kys p.es) k)])/\Below w.heap.size w w':=by
 have z:=iP A O h hn;have j:=(List.getElem?_eq_some_iff.1 P).1;have d:=List.mem_of_getElem? P
 have B:∀ w',Below w.heap.size w w'->Calls Tryz.prog 174 #[p.v,v] w' fun e l=>e=.returned (.tuple #[.int .i64 (plc (kys p.es) k),.bool (thr (kys p.es) k)])/\Below w'.heap.size w' l:=fun w' hb =>
  gN ((A.bX p d).1.keep hb) (O.page (qj P)) (h.keep hb) hs
 obtain⟨K,c,hc,m,E,f⟩:=A.rd;obtain⟨G,rfl,C⟩:=f _ p P;have o:=aI hc;have q:=aI C;generalize pgi (ens L) k=i at *;generalize plc (kys p.es) k=x at *;generalize thr (kys p.es) k=y at *;obtain⟨n,r⟩:∃ n,L.length=n:=⟨_,rfl⟩
 rw[r] at hc m j
 have H:¬ ((n:Int)=0):=by omega
 have I:(i:Int) < n:=by omega
 simp only[Pg.v] at *;clear A O h f P d;go_enter Tryz.func146,Tryz.ntmps146;go_wp2_with (first | (go_at_call 172; refine z.mono ?_; rintro J s ⟨rfl,a⟩; have c1:s.cell? ⟨g,0,none⟩=some (.slice (some ⟨G,0,none⟩) n c):=(a.cell (p:=⟨g,0,none⟩) o).trans hc; have M:s.cell? ⟨G,i,none⟩=some (.slice (some ⟨p.b,0,none⟩) p.es.length p.c):=(a.cell (p:=⟨G,i,none⟩) q).trans C; have t:=B s a; clear z B) | (go_at_call 174; refine t.mono ?_; rintro J N ⟨rfl,u⟩));go_ret3;exact⟨rfl,aj a u⟩
end
end Pg
end
section
namespace Pg
open Go.RowKit Go.Lib
section
variable {w w1:World}{F D:Nat->Prop}{g G n c i j:Nat}{L L':List Pg}{cs ds xs:List Value}{p q:Pg}{c0:Value}
theorem bJ.opn(A:bJ w F D g L)(h:L≠[]):∃ G C,Blk w g [.slice (some ⟨G,0,none⟩) L.length C] 144/\F g/\F G/\Rw w 199 1 G L.length C (L.map Pg.v):=by
 obtain⟨d,hb,c,⟨rfl,rfl⟩ | ⟨G,C,rfl,b,a⟩⟩:=A.top
 ·exact absurd rfl h
 ·exact⟨G,C,hb,c,b,a⟩
theorem eB{a b:Nat}{t u:TypeId}(h:Blk w a cs t)(h':Blk w b ds u)(ht:t≠u):a≠b:=fun e=>by subst e; exact ht (h.eq h').2
theorem PgA.eW(h:PgA w D p)(hg:Blk w g cs 144):p.b≠g:=by
 obtain⟨ds,k⟩:=h.row.kind;exact eB k hg (by decide)
theorem PgA.eV(h:PgA w D p)(hG:Rw w 199 1 G n c xs):p.b≠G:=by
 obtain⟨ds,k⟩:=h.row.kind;obtain⟨es,k'⟩:=hG.kind;exact eB k k' (by decide)
theorem Rw.eW(hG:Rw w 199 1 G n c xs)(hg:Blk w g cs 144):G≠g:=by
 obtain⟨es,k'⟩:=hG.kind;exact eB k' hg (by decide)
theorem l3(h:(L.map Pg.b).Nodup)(hi:L[i]? = some p)(d:L[j]? = some q)(a:i < j):p.b≠q.b:=by
 obtain⟨c,e1⟩:=List.getElem?_eq_some_iff.1 hi;obtain⟨e,e2⟩:=List.getElem?_eq_some_iff.1 d;have:=List.pairwise_iff_getElem.1 h i j (by simpa using c) (by simpa using e) a;simpa[e1,e2] using this
theorem rJ(h:(L.map Pg.b).Nodup)(hi:L[i]? = some p)(hj:L[j]? = some q)(hij:i≠j):p.b≠q.b:=by
 rcases Nat.lt_or_gt_of_ne hij with k | k
 ·exact l3 h hi hj k
 ·exact(l3 h hj hi k).symm
theorem yJ(h:∀ (i j:Nat) (p q:Pg),L[i]? = some p->L[j]? = some q->i < j->p.b≠q.b):(L.map Pg.b).Nodup:=by
 refine List.pairwise_iff_getElem.2 fun i j d f a => ?_
 have c:i < L.length:=by simpa using d
 have e:j < L.length:=by simpa using f
 simpa using h i j _ _ (List.getElem?_eq_getElem c) (List.getElem?_eq_getElem e) a
theorem EnA.off{w':World}{e:En}(h:EnA w D e)(g:∀ b,b < w.heap.size->(∃ cs,Blk w b cs 5)->w'.heap[b]? = w.heap[b]?):EnA w' D e:=by
 have a:∀ {v:Value} {l:List Int},OB w D v l->OB w' D v l:=fun h=>⟨h.oct,h.ex.imp id (by
  rintro⟨b,c,e,f,d⟩;exact⟨b,c,e,f,d.same (g b d.lt d.kind)⟩)⟩
 exact⟨a h.k,a h.v⟩
theorem bJ.put{D':Nat->Prop}{C:Nat}{p':Pg}(A:bJ w F D g L)(V:Blk w g [.slice (some ⟨G,0,none⟩) L.length C] 144)(U:F g)(S:F G)(T:Rw w 199 1 G L.length C (L.map Pg.v))(hi:L[i]? = some p)(hC:Chg (· = p.b) w w1)(hb:p'.b=p.b\/w.heap.size<=p'.b)(hA:PgA w1 D' p')(W:∀ b,b < w.heap.size->D b->D' b) :
  bJ (w1.setCell ⟨G,i,none⟩ p'.v) (fun x=>(F x/\x≠p.b)\/x=p'.b) D' g (L.set i p')/\Chg F w (w1.setCell ⟨G,i,none⟩ p'.v):=by
 have d:=(List.getElem?_eq_some_iff.1 hi).1;have z:=A.bX p (List.mem_of_getElem? hi);have K:=z.1.eW V;have M:=z.1.eV T;have P:=T.eW V
 have B:Blk w1 g _ _:=V.chg hC (fun e=>K e.symm);have l:=T.chg hC (fun e=>M e.symm);have o:=l.set i (by simpa using d) p'.v
 have N:p'.b≠G:=hA.eV l
 have r:Chg F w (w1.setCell ⟨G,i,none⟩ p'.v):=(hC.mono (F':=F) (fun b _ e=>by subst e; exact z.2)).cell (.inl S) _
 have E:∀ b,b < w.heap.size->(∃ cs,Blk w b cs 5)->(w1.setCell ⟨G,i,none⟩ p'.v).heap[b]? = w.heap[b]? := fun b hb H=>by
  obtain⟨cs,k⟩:=H;exact r.same b hb fun f=>A.noU f cs k
 have c:∀ b,b≠G->(w1.setCell ⟨G,i,none⟩ p'.v).heap[b]? = w1.heap[b]? := fun b hb=>Below.heap_setCell w1 _ _ b hb
 refine⟨⟨⟨_,B.off (fun e=>P e.symm) _,.inl ⟨U,fun e=>K e.symm⟩,.inr ⟨G,C,?_,.inl ⟨S,fun e=>M e.symm⟩,?_⟩⟩,fun q Q => ?_,yJ fun x y a b hx hy I => ?_,fun b hb => ?_⟩,r⟩
 ·rw[List.length_set]
 ·rw[List.length_set];refine o.to ?_
  rw[List.map_set]
 ·obtain⟨j,m⟩:=List.getElem?_of_mem Q;rw[List.getElem?_set] at m;by_cases e:i=j
  ·subst e;rw[if_pos rfl,if_pos d] at m
   cases m;refine⟨⟨hA.row.same (c _ N),fun e he=>(hA.dI e he).off fun b _ H => ?_⟩,.inr rfl⟩;obtain⟨cs,k⟩:=H;obtain⟨O,J⟩:=l.kind;exact c b (eB k J (by decide))
  ·rw[if_neg e] at m;have h:=A.bX q (List.mem_of_getElem? m)
   have s:q.b≠p.b:=fun n=>rJ A.apart hi m e n.symm
   exact⟨⟨(h.1.row.chg hC s).same (c _ (h.1.eV T)),fun e he=>((h.1.dI e he).mono W).off E⟩,.inl ⟨h.2,s⟩⟩
 ·have key:∀ (y:Nat) (b:Pg),y≠i->L[y]? = some b->p'.b≠b.b:=fun y b hy u=>by
   rcases hb with e | e
   ·rw[e]; exact rJ A.apart hi u (fun n=>hy n.symm)
   ·have:=(A.bX b (List.mem_of_getElem? u)).1.row.lt;omega
  rw[List.getElem?_set] at hx hy;by_cases e:i=x
  ·subst e;rw[if_pos rfl,if_pos d] at hx
   cases hx;rw[if_neg (by omega)] at hy;exact key y b (by omega) hy
  ·rw[if_neg e] at hx;by_cases n:i=y
   ·subst n;rw[if_pos rfl,if_pos d] at hy
    cases hy;exact(key x a (by omega) hx).symm
   ·rw[if_neg n] at hy;exact l3 A.apart hx hy I
 ·by_cases e:b=p'.b
  ·subst e;obtain⟨cs,k⟩:=hA.row.kind;exact⟨cs,_,k.same (c _ N),by decide⟩
  ·obtain⟨hF,e2⟩:=hb.resolve_right e;obtain⟨cs,t,k,R⟩:=A.kind b hF;by_cases e1:b=G
   ·subst e1;obtain⟨O,J⟩:=o.kind;exact⟨O,_,J,by decide⟩
   ·exact⟨cs,t,(k.chg hC e2).same (c b e1),R⟩
theorem jW{G' C':Nat}(L:∀ p∈L',PgA w D p/\F p.b)(E:(L'.map Pg.b).Nodup)(J:∀ b,F b->∃ cs t,Blk w b cs t/\t≠5)(K:Blk w g [c0] 144)(A:F g)(H:F G)(B:G≠g)(hC:Chg (· = G) w w1)(C:∀ p∈L',p.b≠G)(hn:L'.length=n)(I:Rw w1 199 1 G' n C' (L'.map Pg.v)) :
  bJ (w1.setCell ⟨g,0,none⟩ (.slice (some ⟨G',0,none⟩) n C')) (fun x=>(F x/\x≠G)\/x=G') D g L'/\Chg F w (w1.setCell ⟨g,0,none⟩ (.slice (some ⟨G',0,none⟩) n C')):=by
 subst hn
 have d:Blk w1 g [c0] 144:=K.chg hC (fun e=>B e.symm);have h:=d.setCell (i:=0) (.slice (some ⟨G',0,none⟩) L'.length C')
 have j:G'≠g:=I.eW d
 have a:∀ b,b≠g->(w1.setCell ⟨g,0,none⟩ (.slice (some ⟨G',0,none⟩) L'.length C')).heap[b]? = w1.heap[b]? := fun b hb=>Below.heap_setCell w1 _ _ b hb
 have l:Chg F w (w1.setCell ⟨g,0,none⟩ (.slice (some ⟨G',0,none⟩) L'.length C')):=(hC.mono (F':=F) (fun b _ e=>by subst e; exact H)).cell (.inl A) _
 have m:∀ b,b < w.heap.size->(∃ cs,Blk w b cs 5)->(w1.setCell ⟨g,0,none⟩ (.slice (some ⟨G',0,none⟩) L'.length C')).heap[b]? = w.heap[b]? := fun b hb o=>by
  obtain⟨cs,k⟩:=o;exact l.same b hb fun f=>by
   obtain⟨z,t,r,s⟩:=J b f;exact s (r.eq k).2
 refine⟨⟨⟨_,h,.inl ⟨A,fun e=>B e.symm⟩,.inr ⟨G',C',rfl,.inr rfl,I.same (a _ j)⟩⟩,fun q u => ?_,E,fun b hb => ?_⟩,l⟩
 ·have c:=L q u;exact⟨⟨(c.1.row.chg hC (C q u)).same (a _ (c.1.eW K)),fun e he=>(c.1.dI e he).off m⟩,.inl ⟨c.2,C q u⟩⟩
 ·by_cases e:b=G'
  ·subst e;obtain⟨y,k⟩:=I.kind;exact⟨y,_,k.same (a _ j),by decide⟩
  ·obtain⟨hF,e2⟩:=hb.resolve_right e;obtain⟨y,t,k,s⟩:=J b hF;by_cases e1:b=g
   ·subst e1;exact⟨_,_,h,by decide⟩
   ·exact⟨y,t,(k.chg hC e2).same (a b e1),s⟩
theorem si(L:List Pg):∀ v∈L.map Pg.v,v.oneCell'=true:=fun v hv=>by
 obtain⟨p,_,rfl⟩:=List.mem_map.1 hv;rfl
end
end Pg
end
section
namespace Pg
open Go.RowKit Go.Lib
section
variable {ops:Array Oper} {Q:Exit->Act->World->Prop} {S:World->Prop} {fuel:Nat} {listed:Array Bool} {a:Act} {w:World}
section
variable {Qc:Ending->World->Prop}
def gV(ops:Array Oper)(listed:Array Bool)(a:Act)(i:Nat)(d:Option Tmp):Bool :=
 Region.noSelect ops && Region.free .any ops listed i && (Region.ready .any ops listed).contains i && decide (i < ops.size) && Region.wanted (ops.getD i default) (yielded ops a.tmps) && decide ((ops.getD i default).dst=d)
def DP(ops:Array Oper)(listed:Array Bool)(a:Act)(i:Nat)(d:Option Tmp):Bool :=
 Region.noSelect ops && Region.free .any ops listed i && (Region.ready .any ops listed).contains i && decide (i < ops.size) && !Region.wanted (ops.getD i default) (yielded ops a.tmps) && decide ((ops.getD i default).dst=d)
def gi(ops:Array Oper)(listed:Array Bool)(a:Act)(i:Nat)(d:Option Tmp):Bool :=
 decide (Region.ready .any ops listed=[i]) && decide (i < ops.size) && Region.wanted (ops.getD i default) (yielded ops a.tmps) && decide ((ops.getD i default).dst=d)
theorem bM{i:Nat}(h:i < ops.size):ops[i]? = some (ops.getD i default):=by
 simp[Array.getD,h]
theorem ai(i:Nat)(d:Option Tmp)(v:Value)(hc:gV ops listed a i d=true)(hy:∀ w',S w'->(execOp a.eval (ops.getD i default)).run Tryz.prog w'=.ok (.value v) w')(k:∀ c a w,Q (.panic c) (a.put d v) w->Q (.panic c) a w)(hS:S w)(h:wpAnyH Tryz.prog .any ops Q S fuel (listed.setIfInBounds i true) (a.put d v) w):wpAnyH Tryz.prog .any ops Q S (fuel + 1) listed a w:=by
 simp only[gV,Bool.and_eq_true,decide_eq_true_eq] at hc;obtain⟨⟨⟨⟨⟨e,l⟩,b⟩,j⟩,g⟩,f⟩:=hc;subst f;exact wpAnyH_take (bM j) e l b k (.inl ⟨g,hy⟩) hS h
theorem iH(i:Nat)(d:Option Tmp)(v b:Value)(e:v=b)(hc:gV ops listed a i d=true)(hy:∀ w',S w'->(execOp a.eval (ops.getD i default)).run Tryz.prog w'=.ok (.value v) w')(f:∀ c a w,Q (.panic c) (a.put d b) w->Q (.panic c) a w)(hS:S w)(h:wpAnyH Tryz.prog .any ops Q S fuel (listed.setIfInBounds i true) (a.put d b) w):wpAnyH Tryz.prog .any ops Q S (fuel + 1) listed a w:=by
 subst e;exact ai i d v hc hy f hS h
theorem cy(i:Nat)(d:Option Tmp)(hc:DP ops listed a i d=true)(k:∀ c a w,Q (.panic c) (a.put d undef) w->Q (.panic c) a w)(hS:S w)(h:wpAnyH Tryz.prog .any ops Q S fuel (listed.setIfInBounds i true) (a.put d undef) w):wpAnyH Tryz.prog .any ops Q S (fuel + 1) listed a w:=by
 simp only[DP,Bool.and_eq_true,decide_eq_true_eq,Bool.not_eq_true'] at hc;obtain⟨⟨⟨⟨⟨e,l⟩,b⟩,j⟩,g⟩,f⟩:=hc;subst f;exact wpAnyH_take (bM j) e l b k (.inr ⟨g,rfl⟩) hS h
theorem aO(i:Nat)(d:Option Tmp)(v:Value)(T:TypeId)(k g o:Nat)(hc:gV ops listed a i d=true)(j:(ops.getD i default).op=.load T (.tmp k))(e:a.eval (.tmp k)=.pointer (some ⟨g,o,none⟩))(f:∀ w',S w'->(loadVar T ⟨g,o,none⟩).run Tryz.prog w'=.ok v w')(l:∀ c a w,Q (.panic c) (a.put d v) w->Q (.panic c) a w)(hS:S w)(h:wpAnyH Tryz.prog .any ops Q S fuel (listed.setIfInBounds i true) (a.put d v) w):wpAnyH Tryz.prog .any ops Q S (fuel + 1) listed a w :=
 ai i d v hc (fun w' b=>by
  have:=f w' b;simp only[execOp,j,e];simp[Instr.loadAt,Instr.sureAddr,Result.andThen,this]) l hS h
theorem bN(i:Nat)(d:Option Tmp)(f:FuncId)(args:Array Value)(hc:gi ops listed a i d=true)(o:(execOp a.eval (ops.getD i default)).run Tryz.prog w=.ok (.enter f args) w)(n:Calls Tryz.prog f args w Qc)(p:∀ e w',Qc e w'->∃ v,e=.returned v/\S w'/\wpAnyH Tryz.prog .any ops Q S fuel (listed.setIfInBounds i true) (a.put d v) w') :
  wpAnyH Tryz.prog .any ops Q S (fuel + 1) listed a w:=by
 simp only[gi,Bool.and_eq_true,decide_eq_true_eq] at hc;obtain⟨⟨⟨c,g⟩,h⟩,k⟩:=hc;subst k;refine wpAnyH_all c (by simp) fun j l => ?_
 obtain rfl:j=i:=by simpa using l
 refine wpOp_step (bM g) fun K m => ?_
 rw[if_pos h];unfold Oper.wp;rw[o];refine n.mono fun e w' he => ?_
 obtain⟨v,rfl,b,hw⟩:=p e w' he;exact m _ _ ⟨b,hw⟩
theorem bF(hr:Region.ready .any ops listed=[])(h:Q .normal a w):wpAnyH Tryz.prog .any ops Q S fuel listed a w:=wpAnyH_done hr h fuel
theorem bT{id:Nat}(hm:Tryz.prog.follows .mixedOrders=true)(hS:S w.drew)(h:wpAnyH Tryz.prog .any ops Q S ops.size (Array.replicate ops.size false) a w.drew):(Code.region id ops true).wp Tryz.prog Q a w :=
 wp_region_held_drew hm hS fun _=>h
end
end
def iR (a:Act):List (Option Tmp × Value)->Act
 | []=>a
 | p :: l=>iR (a.put p.1 p.2) l
section
variable {ops:Array Oper} {Q:Exit->Act->World->Prop} {S:World->Prop} {fuel:Nat} {listed:Array Bool} {a:Act} {w:World}
section
variable {K:Act->World->Prop}{rs:List Nat}{Qc:Ending->World->Prop}
theorem qm{X:Type}{id:Nat}{c:Exit->Act->World->Prop}(upd:X->List (Option Tmp × Value))(F:X->World->Prop)(S:World->Prop)(hm:Tryz.prog.follows .mixedOrders=true)(hS:S w.drew)(b:wpAnyH Tryz.prog .any ops (Exit.then (fun a' w'=>∃ x,a'=iR a (upd x)/\F x w') (fun _ _ _=>False)) S ops.size (Array.replicate ops.size false) a w.drew)(d:∀ x w',F x w'->K (iR a (upd x)) w'):(Code.region id ops true).wp Tryz.prog (Exit.then K c) a w :=
 Code.wp_mono (fun e a' w' h=>by
  cases e<;>first
   | (obtain⟨x,rfl,hF⟩:=h; exact d x w' hF)
   | exact h.elim) (wp_region_held_drew (S:=S) hm hS fun _=>b)
def eR(ops:Array Oper)(a:Act)(i:Nat)(d:Option Tmp):Bool :=
 decide (i < ops.size) && Region.wanted (ops.getD i default) (yielded ops a.tmps) && decide ((ops.getD i default).dst=d)
theorem aK(rs:List Nat)(hr:Region.ready .any ops listed=rs)(hne:rs≠[])(h:AllReadyH Tryz.prog .any ops Q S fuel listed a w rs):wpAnyH Tryz.prog .any ops Q S (fuel + 1) listed a w:=wpAnyH_ready hr hne h
theorem aW:AllReadyH Tryz.prog .any ops Q S fuel listed a w []:=AllReadyH.nil
theorem uI(i:Nat)(d:Option Tmp)(f:FuncId)(args:Array Value)(hc:eR ops a i d=true)(l:(execOp a.eval (ops.getD i default)).run Tryz.prog w=.ok (.enter f args) w)(k:Calls Tryz.prog f args w Qc)(m:∀ e w',Qc e w'->∃ v,e=.returned v/\S w'/\wpAnyH Tryz.prog .any ops Q S fuel (listed.setIfInBounds i true) (a.put d v) w')(hs:AllReadyH Tryz.prog .any ops Q S fuel listed a w rs):AllReadyH Tryz.prog .any ops Q S fuel listed a w (i :: rs):=by
 simp only[eR,Bool.and_eq_true,decide_eq_true_eq] at hc;obtain⟨⟨c,g⟩,h⟩:=hc;subst h;refine AllReadyH.cons (bM c) (fun K j => ?_) hs;rw[if_pos g];unfold Oper.wp;rw[l];refine k.mono fun e w' he => ?_
 obtain⟨v,rfl,b,hw⟩:=m e w' he;exact j.out _ _ b fun _=>hw
theorem bH(i:Nat)(d:Option Tmp)(v:Value)(w1:World)(hc:eR ops a i d=true)(g:(execOp a.eval (ops.getD i default)).run Tryz.prog w=.ok (.value v) w1)(j:S w1)(h:wpAnyH Tryz.prog .any ops Q S fuel (listed.setIfInBounds i true) (a.put d v) w1)(hs:AllReadyH Tryz.prog .any ops Q S fuel listed a w rs):AllReadyH Tryz.prog .any ops Q S fuel listed a w (i :: rs):=by
 simp only[eR,Bool.and_eq_true,decide_eq_true_eq] at hc;obtain⟨⟨b,c⟩,e⟩:=hc;subst e;refine AllReadyH.cons (bM b) (fun K f => ?_) hs;rw[if_pos c];unfold Oper.wp;rw[g]
 show K (a.put (ops.getD i default).dst v) w1
 exact f.out _ _ j fun _=>h
theorem dm(i:Nat)(w1:World)(hc:eR ops a i none=true)(b:(execOp a.eval (ops.getD i default)).run Tryz.prog w=.ok .skip w1)(c:S w1)(h:wpAnyH Tryz.prog .any ops Q S fuel (listed.setIfInBounds i true) (a.put none undef) w1)(hs:AllReadyH Tryz.prog .any ops Q S fuel listed a w rs):AllReadyH Tryz.prog .any ops Q S fuel listed a w (i :: rs):=by
 simp only[eR,Bool.and_eq_true,decide_eq_true_eq] at hc;obtain⟨⟨g,e⟩,d⟩:=hc;refine AllReadyH.cons (bM g) (fun K f => ?_) hs;rw[if_pos e];unfold Oper.wp;rw[b]
 show K (a.put (ops.getD i default).dst undef) w1
 rw[d];exact f.out _ _ c fun _=>h
end
end
section
variable {a:Act}{w:World}{x y k n c g off:Nat}{o:Oper}{v u:Value}{ao bo:Option Addr}
theorem eA{op:Oper}{T:TypeId}{b:Nat}(f:op.op=.indexAddr T (.tmp x) (.tmp y))(l:Tryz.prog.underlying T=some (.slice 199))(hx:a.eval (.tmp x)=.slice (some ⟨b,0,none⟩) n c){z:Int}(hy:a.eval (.tmp y)=.int .i64 z)(d:z=(k:Int))(j:k < n):(execOp a.eval op).run Tryz.prog w=.ok (.value (.pointer (some ⟨b,k,none⟩))) w:=by
 subst d
 have o:(k:Int) < n:=by omega
 have m:¬ ((k:Int) < 0):=by omega
 obtain⟨i0,hi,g,e,h⟩:=info_parts (P:=Tryz.prog) (show (Tryz.prog.info? 199).map (fun i=>(i.zero,i.size,i.bytes))=some (some (.slice none 0 0),1,24) by kernel_rfl);simp only[execOp,f,hx,hy];go_simp
theorem gg{o:Nat}(c:w.cell? ⟨g,o,none⟩=some v):(loadVar 142 ⟨g,o,none⟩).run Tryz.prog w=.ok v w:=by go_simp
theorem pL{o:Nat}(c:w.cell? ⟨g,o,none⟩=some v):(loadVar 199 ⟨g,o,none⟩).run Tryz.prog w=.ok v w:=by go_simp
theorem ld_e(c:w.cell? ⟨g,0,none⟩=some v)(d:w.cell? ⟨g,1,none⟩=some u):(loadVar 196 ⟨g,0,none⟩).run Tryz.prog w=.ok (.agg #[v,u]) w:=by go_simp
theorem iU{T:TypeId}(k:Nat)(c:o.op=.load T (.tmp k))(b:a.eval (.tmp k)=.pointer (some ⟨g,off,none⟩))(d:(loadVar T ⟨g,off,none⟩).run Tryz.prog w=.ok v w):(execOp a.eval o).run Tryz.prog w=.ok (.value v) w:=by
 simp only[execOp,c,b];simp[Instr.loadAt,Instr.sureAddr,Result.andThen,d]
theorem j3(k q:Nat)(d:o.op=.store 199 (.tmp k) (.tmp q))(b:a.eval (.tmp k)=.pointer (some ⟨g,off,none⟩))(e:a.eval (.tmp q)=.slice ao n c)(hc:w.cell? ⟨g,off,none⟩=some u)(hf:w.frozen? ⟨g,off,none⟩=false) :
  (execOp a.eval o).run Tryz.prog w=.ok .skip (w.setCell ⟨g,off,none⟩ (.slice ao n c)):=by
 simp only[execOp,d,b,e];go_simp
theorem px{kv vv:Value}(d:o.op=.buildSlice 199 1 #[(0,.tmp k)])(b:a.eval (.tmp k)=.agg #[kv,vv]):(execOp a.eval o).run Tryz.prog w=.ok (.value (.slice (some ⟨w.heap.size,0,none⟩) 1 1)) (w.alloc (.cells #[kv,vv] 196)):=by
 have c:a.tmps[k]?.getD undef=.agg #[kv,vv]:=by simpa[Act.eval] using b
 simp only[execOp,d];go_simp
theorem Ci{m d:Nat}(e:o.op=.buildSlice 142 2 #[(0,.tmp x),(1,.tmp y)])(hx:a.eval (.tmp x)=.slice ao n c)(hy:a.eval (.tmp y)=.slice bo m d):(execOp a.eval o).run Tryz.prog w=.ok (.value (.slice (some ⟨w.heap.size,0,none⟩) 2 2)) (w.alloc (.cells #[.slice ao n c,.slice bo m d] 199)):=by
 have f:a.tmps[x]?.getD undef=.slice ao n c:=by simpa[Act.eval] using hx
 have b:a.tmps[y]?.getD undef=.slice bo m d:=by simpa[Act.eval] using hy
 simp only[execOp,e];go_simp
end
end Pg
end
section
namespace Pg
open Go.RowKit Go.Lib
section
variable {w:World}{D F:Nat → Prop}{p:Pg}{es:List En}{g G i j:Nat}{v u c0:Value}{L:List Pg}
theorem Bg{D:Nat->Prop}(h:PgA w D p)(hs:∀ e∈es,e∈p.es):∀ e∈es,EnA w D e:=fun e he=>h.dI e (hs e he)
theorem bV(w:World):Below w.heap.size w w.drew:=⟨rfl,rfl,rfl,Nat.le_refl _,fun _ _=>rfl⟩
theorem bQ(h:g≠G)(hc:w.cell? ⟨g,j,none⟩=some u):(w.setCell ⟨G,i,none⟩ v).cell? ⟨g,j,none⟩=some u:=by
 rw[World.cell?_of_block (w:=w) (a:=⟨g,j,none⟩) (Below.heap_setCell w _ v g h)]; exact hc
theorem DC{α:Type}(L:List α)(i:Nat)(a b:α)(h:i < L.length):(L.set i a).take (i + 1) ++ [b] ++ (L.set i a).drop (i + 1)=L.take i ++ [a,b] ++ L.drop (i + 1):=by
 have e1:(L.set i a).take (i + 1)=L.take i ++ [a]:=by
  rw[List.take_add_one,List.take_set_of_le (Nat.le_refl _),List.getElem?_set_self h]; rfl
 rw[e1,List.drop_set_of_lt (by omega)];simp
theorem wF{H I O:World}{N:Nat → Prop}{n m C b2 c2 K S:Nat}{q1:Pg}(W : bJ H N D g (L.set i q1))(J : ∀ b, N b → F b ∨ w.heap.size ≤ b)(T : Chg F w H)(hgx : Blk H g [.slice (some ⟨G, 0, none⟩) (L.set i q1).length C] 144)(X : Blk I g [c0] 144)(Z : N g)(M : N G)(R : Rw H 199 1 G (L.set i q1).length C ((L.set i q1).map Pg.v))(V : g ≠ G)(Y : i < L.length)(hq1 : q1.es = es.take 16)(Q : (es.drop 16).length = m - 16)(hnn : L.length = n)(B3 : Below H.drew.heap.size H.drew I)(hb2 : H.drew.heap.size ≤ b2)(R3 : Rw I 196 2 b2 (m - 16) c2 (flat (es.drop 16)))(E0 : ∀ e ∈ es, EnA H.drew D e)(U : K = G ∨ I.heap.size + 1 ≤ K)(R5 : Rw O 199 1 K (n + 1) S (((L.set i q1).map Pg.v).take (i + 1) ++ [.slice (some ⟨b2, 0, none⟩) (m - 16) c2] ++ ((L.set i q1).map Pg.v).drop (i + 1)))(P : Chg (· = G) (I.alloc (.cells #[.slice (some ⟨b2, 0, none⟩) (m - 16) c2] 199)) O) :
    ∃ F' p1 p2, Ending.returned (.tuple #[]) = Ending.returned (.tuple #[]) ∧ p1.es = es.take 16 ∧ p2.es = es.drop 16 ∧ bJ (O.setCell ⟨g, 0, none⟩ (.slice (some ⟨K, 0, none⟩) (n + 1) S)) F' D g (L.take i ++ [p1, p2] ++ L.drop (i + 1)) ∧ (∀ b, F' b → F b ∨ w.heap.size ≤ b) ∧ Chg F w (O.setCell ⟨g, 0, none⟩ (.slice (some ⟨K, 0, none⟩) (n + 1) S)) := by
  obtain⟨d, f⟩ : ∃ d, d = I.alloc (.cells #[.slice (some ⟨b2, 0, none⟩) (m - 16) c2] 199) := ⟨_, rfl⟩
  have q : Below H.heap.size H d := by rw[f]; exact aj (aj (bV H) B3) (ae I _)
  have j : Below I.heap.size I d := by rw[f]; exact ae I _
  rw[← f] at P;have r := W.keep q
  have l : PgA d D ⟨b2, c2, es.drop 16⟩:= by
    refine⟨?_, fun e he => ((E0 e (List.mem_of_mem_drop he)).keep B3).keep j⟩
    show Rw d _ 2 b2 (es.drop 16).length c2 _
    rw[Q]; exact R3.keep j
  have t : H.heap.size ≤ b2 := hb2
  have s : (⟨b2, c2, es.drop 16⟩ : Pg).v = .slice (some ⟨b2, 0, none⟩) (m - 16) c2 := by simp only[Pg.v]; rw[Q]
  have o : ∀ p ∈ (L.set i q1).take (i + 1) ++ [(⟨b2, c2, es.drop 16⟩ : Pg)] ++ (L.set i q1).drop (i + 1), p ∈ L.set i q1 ∨ p = ⟨b2, c2, es.drop 16⟩:= fun p c => by
    rcases List.mem_append.1 c with h | h
    · rcases List.mem_append.1 h with h | h
      · exact .inl (List.mem_of_mem_take h)
      · exact .inr (by simpa using h)
    · exact .inl (List.mem_of_mem_drop h)
  have hlen : ((L.set i q1).take (i + 1) ++ [(⟨b2, c2, es.drop 16⟩ : Pg)] ++ (L.set i q1).drop (i + 1)).length = n + 1 := by
    simp; omega
  have hold : ∀ p ∈ L.set i q1, p.b ≠ b2 := fun p c => by
    have := (W.bX p c).1.row.lt;omega
  obtain⟨u, B⟩:= jW (w := d) (w1 := O) (F := fun x => N x ∨ x = b2) (D := D) (g := g) (G := G) (G' := K) (C' := S) (n := n + 1) (L' := (L.set i q1).take (i + 1) ++ [(⟨b2, c2, es.drop 16⟩ : Pg)] ++ (L.set i q1).drop (i + 1))
    (fun p c => by
      rcases o p c with h | rfl
      · exact⟨(r.bX p h).1, .inl (r.bX p h).2⟩
      · exact⟨l, .inr rfl⟩)
    (by
      have hn := W.apart
      have e : (L.set i q1).map Pg.b = ((L.set i q1).take (i + 1)).map Pg.b ++ ((L.set i q1).drop (i + 1)).map Pg.b := by rw[← List.map_append, List.take_append_drop]
      rw[e] at hn
      have y : ∀ x ∈ ((L.set i q1).take (i + 1)).map Pg.b, x ≠ b2 := fun x hx => by
        obtain⟨p, c, rfl⟩:= List.mem_map.1 hx;exact hold p (List.mem_of_mem_take c)
      have z : ∀ x ∈ ((L.set i q1).drop (i + 1)).map Pg.b, x ≠ b2 := fun x hx => by
        obtain⟨p, c, rfl⟩:= List.mem_map.1 hx;exact hold p (List.mem_of_mem_drop c)
      simp only[List.map_append, List.map_cons, List.map_nil];rw[List.nodup_append] at hn;rw[List.append_assoc, List.nodup_append];refine⟨hn.1, ?_, ?_⟩
      · rw[List.singleton_append, List.nodup_cons]
        exact⟨fun h => z b2 h rfl, hn.2.1⟩
      · intro a A b hb
        rcases List.mem_append.1 hb with hb | hb
        · simp at hb; subst hb; exact y a A
        · exact hn.2.2 a A b hb)
    (fun b hb => by
      rcases hb with h | rfl
      · exact r.kind b h
      · obtain⟨E, k⟩:= l.row.kind
        exact⟨E, _, k, by decide⟩)
    (X.keep j) (.inl Z) (.inl M) (fun e => V e.symm) P
    (fun p c => by
      rcases o p c with h | rfl
      · exact(r.bX p h).1.eV (R.keep q)
      · exact l.eV (R.keep q)) hlen
    (by simpa[List.map_take, List.map_drop, s] using R5)
  rw[DC L i q1 _ Y] at u;refine⟨_, q1, ⟨b2, c2, es.drop 16⟩, rfl, hq1, rfl, u, fun b hb => ?_, (T.trans (Chg.of (F := F) q) (fun _ _ h => h)).trans B fun b hb h => ?_⟩
  · rcases hb with⟨h | rfl, _⟩ | rfl
    · exact J b h
    · exact .inr (by have := T.size; omega)
    · rcases U with rfl | h
      · exact J _ M
      · have z := B3.size
        have y := T.size
        have : H.drew.heap.size = H.heap.size := rfl;exact .inr (by omega)
  · rcases h with h | rfl
    · exact(J b h).resolve_right (by omega)
    · have := T.size; omega
theorem yg(h:j≠i)(hc:w.cell? ⟨G,j,none⟩=some u):(w.setCell ⟨G,i,none⟩ v).cell? ⟨G,j,none⟩=some u:=by
 have a:=aI hc;simp only[World.cell?,World.setCell,Array.getElem?_modify,if_true] at hc ⊢
 cases hh:w.heap[G]? with
 | none=>rw[hh] at hc; simp at hc
 | some ob =>
  rw[hh] at hc
  cases ob with
  | cells c e f =>
   simp at hc ⊢;rw[Array.getElem?_setIfInBounds,if_neg (by omega)]; exact hc
  | _=>simp at hc
theorem kz(A : bJ w F D g L)(hi : L[i]? = some p)(h1 : 17 ≤ p.es.length)(h2 : p.es.length ≤ 1000)(hn : L.length ≤ 100000000) :
    Calls Tryz.prog 194 #[.pointer (some ⟨g, 0, none⟩), .int .i64 i] w fun e w' => ∃ F' p1 p2, e = .returned (.tuple #[]) ∧ p1.es = p.es.take 16 ∧ p2.es = p.es.drop 16 ∧ bJ w' F' D g (L.take i ++ [p1, p2] ++ L.drop (i + 1)) ∧ (∀ b, F' b → F b ∨ w.heap.size ≤ b) ∧ Chg F w w' := by
  have R := (List.getElem?_eq_some_iff.1 hi).1
  have hL : L ≠ [] := fun e => by subst e; simp at R
  obtain⟨G, C, hg, hFg, hFG, I⟩:= A.opn hL;have J := A.bX p (List.mem_of_getElem? hi);have cg := hg.cell (i := 0) rfl;have cG := I.cell (i := i) (v := p.v) (by simp[hi]);have hpc := J.1.row.le;have hCC := I.le;simp only[maxLen] at hpc hCC
  have K : w.drew.cell? ⟨g, 0, none⟩ = some (.slice (some ⟨G, 0, none⟩) L.length C) := cg;have t1 := yH (w := w.drew) (a := ⟨p.b, 0, none⟩) (n := 16) (c := p.c) (xs := flat (p.es.take 16)) (by decide) (by rw[jm, List.length_take]; omega) (fun j v M => by
    rw[Addr.add_lit, Nat.zero_add]
    have : (flat p.es)[j]? = some v := by
      rw[← ix, List.getElem?_take] at M;split at M
      · exact M
      · cases M
    exact J.1.row.drew.cell this) (jd (Bg J.1 fun e he => List.mem_of_mem_take he))
  obtain⟨n, d⟩ : ∃ n, Hid (L.length = n) := ⟨_, rfl⟩;obtain⟨m, o⟩ : ∃ m, Hid (p.es.length = m) := ⟨_, rfl⟩;simp only[Pg.v] at cG;rw[d.out] at cg K;rw[o.out] at cG
  have z1 : (i : Int) < n := by have := d.out; omega
  have z2 : m ≤ p.c := by have := o.out; omega
  have z3 : p.c ≤ 9223372036854775807 := by omega
  have z4 : 17 ≤ m := by have := o.out; omega
  have z5 : 16 ≤ p.c := by omega
  have z6 : (16 : Int) ≤ (p.c : Int) := by omega
  have q : g ≠ G := fun e => I.eW hg e.symm
  have mixed := mixed;go_enter Tryz.func194, Tryz.ntmps194;go_wp2;go_region_held3 (fun w' => w'.cell? ⟨g, 0, none⟩ = some (.slice (some ⟨G, 0, none⟩) n C)) (first | assumption | exact bQ q (by assumption))
    (first
    | (go_at_call 226; refine t1.mono ?_; rintro e' r ⟨b1, c1, rfl, S, R1, u⟩; have cg1 : r.cell? ⟨g, 0, none⟩ = some (.slice (some ⟨G, 0, none⟩) n C) := (u.cell (p := ⟨g, 0, none⟩) (aI K)).trans K; have cG1 : r.cell? ⟨G, i, none⟩ = some (.slice (some ⟨p.b, 0, none⟩) m p.c) := (u.cell (p := ⟨G, i, none⟩) (aI (w := w.drew) cG)).trans cG; have fG1 : r.frozen? ⟨G, i, none⟩ = false := (I.drew.keep u).free i))
  obtain⟨q1, s⟩ : ∃ q1 : Pg, Hid (q1 = ⟨b1, c1, p.es.take 16⟩) := ⟨_, rfl⟩
  have z : (p.es.take 16).length = 16 := by rw[List.length_take]; omega
  have T : q1.v = .slice (some ⟨b1, 0, none⟩) 16 c1 := by rw[s.out]; simp only[Pg.v]; rw[z]
  have U : PgA r D q1 := by
    rw[s.out];refine⟨?_, fun e he => ((J.1.dI e (List.mem_of_mem_take he)).keep (bV w)).keep u⟩
    show Rw r _ 2 b1 (p.es.take 16).length c1 _
    rw[z]; exact R1
  obtain⟨A2, C2⟩:= A.put (p' := q1) (D' := D) hg hFg hFG I hi (Chg.of (aj (bV w) u)) (.inr (by rw[s.out]; exact S)) U (fun _ _ h => h);rw[T] at A2 C2
  have R0 : Rw (r.setCell ⟨G, i, none⟩ (.slice (some ⟨b1, 0, none⟩) 16 c1)) 196 2 p.b p.es.length p.c (flat p.es) := ((J.1.row.keep (bV w)).keep u).same (Below.heap_setCell r _ _ _ (J.1.eV I))
  have E0 : ∀ e ∈ p.es, EnA (r.setCell ⟨G, i, none⟩ (.slice (some ⟨b1, 0, none⟩) 16 c1)) D e := fun e he => (((J.1.dI e he).keep (bV w)).keep u).off fun b hb hk => by
    obtain⟨cs, k⟩:= hk;obtain⟨ds, k'⟩:= (I.drew.keep u).kind;exact Below.heap_setCell r _ _ b (eB k k' (by decide))
  have hw1l : w.heap.size ≤ (r.setCell ⟨G, i, none⟩ (.slice (some ⟨b1, 0, none⟩) 16 c1)).heap.size := C2.size
  have V : q1.b = b1 := by rw[s.out]
  have W : q1.es = p.es.take 16 := by rw[s.out]
  have f := (hg.drew.keep u).off q (i := i) (.slice (some ⟨b1, 0, none⟩) 16 c1)
  have hF2 : ∀ b, ((F b ∧ b ≠ p.b) ∨ b = q1.b) → F b ∨ w.heap.size ≤ b := fun b h => h.imp (fun h => h.1) (fun h => by rw[h, V]; exact S)
  generalize (r.setCell ⟨G, i, none⟩ (.slice (some ⟨b1, 0, none⟩) 16 c1)) = N at *;generalize X : (fun x => (F x ∧ x ≠ p.b) ∨ x = q1.b) = F2 at A2;obtain⟨y, Q, Y, Z, aa, O⟩:= A2.opn (by simp[hL]);obtain⟨rfl, rfl⟩ : y = G ∧ Q = C := by
    have := (Y.eq f).1;simp at this;exact⟨this.1, this.2⟩
  have ab : ∀ b, F2 b → F b ∨ w.heap.size ≤ b := fun b h => hF2 b (by rw[← X] at h; exact h)
  have cg2 : N.cell? ⟨g, 0, none⟩ = some (.slice (some ⟨y, 0, none⟩) n Q) := by
    have := f.cell (i := 0) rfl;rwa [d.out] at this
  have B : N.drew.cell? ⟨g, 0, none⟩ = some (.slice (some ⟨y, 0, none⟩) n Q) := cg2
  have ac : (p.es.drop 16).length = m - 16 := by rw[List.length_drop, o.out]
  have t2 := yH (w := N.drew) (a := ⟨p.b, 32, none⟩) (n := m - 16) (c := p.c - 16) (xs := flat (p.es.drop 16)) (by have := o.out; omega) (by rw[jm, ac]) (fun j v M => by
    rw[Addr.add_lit]
    have : (flat p.es)[32 + j]? = some v := by
      rw[← iB, List.getElem?_drop] at M;exact M
    exact R0.drew.cell this) (jd (w := N) (D := D) (fun e he => E0 e (List.mem_of_mem_drop he)))
  have zz1 : IntKind.i64.wrap ((i : Int) + 1) = (i : Int) + 1 := by rw[IntKind.wrap_i64]; have := d.out; omega
  have zz2 : ¬ (p.c = 16) := by omega
  have zz3 : (16 : Int) ≤ m := by omega
  have t3 : ∀ (l : World) (b2 t : Nat), Below N.drew.heap.size N.drew l → Calls Tryz.prog 227 #[.slice (some ⟨y, 0, none⟩) n Q, .int .i64 ((i : Int) + 1), .slice (some ⟨l.heap.size, 0, none⟩) 1 1] (l.alloc (.cells #[.slice (some ⟨b2, 0, none⟩) (m - 16) t] 199)) fun e w' => ∃ b' c', e = .returned (.slice (some ⟨b', 0, none⟩) (n + 1) c') ∧ (b' = y ∨ l.heap.size + 1 ≤ b') ∧ Rw w' 199 1 b' (n + 1) c' (((L.set i q1).map Pg.v).take (i + 1) ++ [.slice (some ⟨b2, 0, none⟩) (m - 16) t] ++ ((L.set i q1).map Pg.v).drop (i + 1)) ∧ Chg (· = y) (l.alloc (.cells #[.slice (some ⟨b2, 0, none⟩) (m - 16) t] 199)) w' := fun l b2 t E => by
    have hk := (O.drew.keep E).keep (ae l (.cells #[.slice (some ⟨b2, 0, none⟩) (m - 16) t] 199));rw[List.length_set, d.out] at hk
    have hGl : y < l.heap.size := (O.drew.keep E).lt;have := insP (i := i + 1) hk (aC l [.slice (some ⟨b2, 0, none⟩) (m - 16) t] 199) (by omega) (by have := d.out; omega) (by have := d.out; omega) (si _) (by simp[Value.oneCell']);rw[World.size_alloc] at this;simpa using this
  go_wp2;go_region_with (first
    | (go_at_call 226; refine t2.mono ?_; rintro e' l ⟨b2, t, rfl, hb2, R3, E⟩; have cg3 : l.cell? ⟨g, 0, none⟩ = some (.slice (some ⟨y, 0, none⟩) n Q) := (E.cell (p := ⟨g, 0, none⟩) (aI B)).trans B; have H := mO cg3 (.cells #[.slice (some ⟨b2, 0, none⟩) (m - 16) t] 199))
    | (go_at_call 227; refine(t3 l b2 t E).mono ?_; rintro e' w5 ⟨G5, C5, rfl, hb5, R5, P⟩; have cg5 : w5.cell? ⟨g, 0, none⟩ = some (.slice (some ⟨y, 0, none⟩) n Q) := (World.cell?_of_block (w := l.alloc (.cells #[.slice (some ⟨b2, 0, none⟩) (m - 16) t] 199)) (a := ⟨g, 0, none⟩) (P.same g (aI H) q)).trans H; have fg5 : w5.frozen? ⟨g, 0, none⟩ = false := (((f.drew.keep E).keep (ae l _)).chg P q).free 0))
  all_goals go_wp2
  all_goals go_end0
  all_goals exact wF A2 ab C2 Y (f.drew.keep E) Z aa O q R W ac d.out E hb2 R3 (fun e he => (E0 e he).keep (bV N)) hb5 R5 P
end
end Pg
end
section
namespace Pg
open Go.RowKit Go.Lib
section
variable {L:List Pg}{i:Nat}{p:Pg}{w:World}{F D:Nat->Prop}
def qV(P:List (List En))(i q:Nat)(e:En):List (List En) :=
 let es:=(P.getD i []).take q ++ [e] ++ (P.getD i []).drop q
 if 32 < es.length then P.take i ++ [es.take 16,es.drop 16] ++ P.drop (i + 1) else P.set i es
theorem qi(L:List Pg)(i:Nat)(p:Pg):ens (L.set i p)=(ens L).set i p.es:=by simp[ens,List.map_set]
theorem eO(h:L[i]? = some p):(ens L).getD i []=p.es:=by simp[ens,h]
theorem xi(es:List En)(q:Nat)(e:En):(flat es).take (q * 2) ++ [e.kv,e.vv] ++ (flat es).drop (q * 2)=flat (es.take q ++ [e] ++ es.drop q):=by
 rw[ix,iB,eb,eb]; rfl
theorem tf{g q:Nat}{e:En}(A:bJ w F D g L)(hi:L[i]? = some p)(hq:q<=p.es.length)(h2:p.es.length<=32)(hn:L.length<=100000000)(hE:EnA w D e) :
  Calls Tryz.prog 147 #[.pointer (some ⟨g,0,none⟩),.int .i64 i,.int .i64 q,.agg #[e.kv,e.vv]] w fun e' w'=>∃ F' L',e'=.returned (.tuple #[])/\ens L'=qV (ens L) i q e/\bJ w' F' D g L'/\(∀ b,F' b->F b\/w.heap.size<=b)/\Chg F w w':=by
 have hil:=(List.getElem?_eq_some_iff.1 hi).1
 have hL:L≠[]:=fun e=>by subst e; simp at hil
 obtain⟨kv,kl,vv,vl⟩:=e;obtain⟨l,K⟩:∃ l,Hid (l=w.alloc (.cells #[kv,vv] 196)):=⟨_,rfl⟩
 have B0:Below w.heap.size w l:=by rw[K.out]; exact ae w _
 have X0:Blk l w.heap.size [kv,vv] 196:=by rw[K.out]; exact aC w [kv,vv] _
 have A0:=A.keep B0;obtain⟨G,C,hg,hFg,hFG,Z⟩:=A0.opn hL;have S:=A0.bX p (List.mem_of_getElem? hi);have cg:=hg.cell (i:=0) rfl;have cG:=Z.cell (i:=i) (v:=p.v) (by simp[hi]);have x0:=X0.cell (i:=0) rfl;have x1:=X0.cell (i:=1) rfl;have hpc:=S.1.row.le;have hCC:=Z.le;simp only[maxLen] at hpc hCC;obtain⟨n,T⟩:∃ n,Hid (L.length=n):=⟨_,rfl⟩
 obtain⟨m,U⟩:∃ m,Hid (p.es.length=m):=⟨_,rfl⟩
 simp only[Pg.v] at cG;rw[T.out] at cg;rw[U.out] at cG
 have z0:¬ ((n:Int)=0):=by have:=T.out; omega
 have z1:(i:Int) < n:=by have:=T.out; omega
 have cgd:l.drew.cell? ⟨g,0,none⟩=some (.slice (some ⟨G,0,none⟩) n C):=cg
 have x0d:l.drew.cell? ⟨w.heap.size,0,none⟩=some kv:=x0
 have x1d:l.drew.cell? ⟨w.heap.size,1,none⟩=some vv:=x1
 have cGd:l.drew.cell? ⟨G,i,none⟩=some (.slice (some ⟨p.b,0,none⟩) m p.c):=cG
 have ab:g≠G:=fun e=>Z.eW hg e.symm
 have V:w.heap.size≠G:=by have:=A.lt hFG; omega
 obtain⟨R,M⟩:∃ R,Hid (R=l.drew.alloc (.cells #[kv,vv] 196)):=⟨_,rfl⟩
 have H:Below l.heap.size l R:=by rw[M.out]; exact aj (bV l) (ae l.drew _)
 have hs0:l.heap.size=w.heap.size + 1:=by rw[K.out]; simp
 have V1:Blk R l.heap.size [kv,vv] 196:=by rw[M.out]; exact aC l.drew [kv,vv] _
 have t1:=insE (i:=q) (S.1.row.keep H) V1 (by have:=S.1.row.lt; omega) hq (by omega) S.1.one (by have:=hE.k.one; have:=hE.v.one; simp_all);rw[U.out] at t1
 have j:R.cell? ⟨g,0,none⟩=some (.slice (some ⟨G,0,none⟩) n C):=(H.cell (p:=⟨g,0,none⟩) (aI cg)).trans cg
 have u:R.cell? ⟨w.heap.size,0,none⟩=some kv:=(H.cell (p:=⟨w.heap.size,0,none⟩) (aI x0)).trans x0
 have z:R.cell? ⟨w.heap.size,1,none⟩=some vv:=(H.cell (p:=⟨w.heap.size,1,none⟩) (aI x1)).trans x1
 have o:R.cell? ⟨G,i,none⟩=some (.slice (some ⟨p.b,0,none⟩) m p.c):=(H.cell (p:=⟨G,i,none⟩) (aI cG)).trans cG
 have ng:g≠p.b:=fun e=>S.1.eW hg e.symm
 have nG:G≠p.b:=fun e=>S.1.eV Z e.symm
 have nx:w.heap.size≠p.b:=by have:=A.lt S.2; omega
 have mixed:=mixed
 have ac:i < n:=by have:=T.out; omega
 go_enter Tryz.func147,Tryz.ntmps147;have cgw:=cg;rw[K.out] at cgw;go_wp2;rw[<- K.out];have W:=(show _/\_/\_ from⟨j,u,z⟩)
 have N:=o;rw[M.out] at W N t1
 have ad:Tryz.prog.underlying 142=some (.slice 199):=by kernel_rfl
 refine qm (X:=Nat × Nat) (fun x=>[(some 23,.pointer (some ⟨g,0,none⟩)),(some 24,.pointer (some ⟨g,0,none⟩)),(some 25,.pointer (some ⟨g,0,none⟩)),(some 26,.slice (some ⟨G,0,none⟩) n C),(some 27,.int .i64 i),(some 28,.pointer (some ⟨g,0,none⟩)),(some 29,.pointer (some ⟨g,0,none⟩)),(some 30,.pointer (some ⟨g,0,none⟩)),(some 31,.slice (some ⟨G,0,none⟩) n C),(some 32,.int .i64 i),(some 33,.pointer (some ⟨G,i,none⟩)),(some 34,.slice (some ⟨p.b,0,none⟩) m p.c),(some 35,.int .i64 q),(some 36,.agg #[kv,vv]),(some 37,.slice (some ⟨l.heap.size,0,none⟩) 1 1),(some 38,.slice (some ⟨x.1,0,none⟩) (m + 1) x.2),(some 39,.pointer (some ⟨G,i,none⟩))]) (fun x w'=>∃ d,w'=d.setCell ⟨G,i,none⟩ (.slice (some ⟨x.1,0,none⟩) (m + 1) x.2)/\(x.1=p.b\/R.heap.size<=x.1)/\Rw d 196 2 x.1 (m + 1) x.2 ((flat p.es).take (q * 2) ++ [kv,vv] ++ (flat p.es).drop (q * 2))/\Chg (· = p.b) R d) (fun w'=>w'.cell? ⟨g,0,none⟩=some (.slice (some ⟨G,0,none⟩) n C)/\w'.cell? ⟨w.heap.size,0,none⟩=some kv/\w'.cell? ⟨w.heap.size,1,none⟩=some vv) (by kernel_rfl) ⟨cgd,x0d,x1d⟩ ?_ ?_
 ·have hS:=(show _/\_/\_ from⟨cgd,x0d,x1d⟩)
  refine ai 0 (some 23) (.pointer (some ⟨g,0,none⟩)) (by kernel_rfl) (fun _ _=>by kernel_rfl) (fun _ _ _ h=>h) hS ?_
  refine ai 1 (some 24) (.pointer (some ⟨g,0,none⟩)) (by kernel_rfl) (fun _ _=>by kernel_rfl) (fun _ _ _ h=>h) hS ?_
  refine ai 2 (some 25) (.pointer (some ⟨g,0,none⟩)) (by kernel_rfl) (fun _ _=>by kernel_rfl) (fun _ _ _ h=>h) hS ?_
  refine aO 3 (some 26) (.slice (some ⟨G,0,none⟩) n C) 142 25 (g) (0) (by kernel_rfl) (by kernel_rfl) (by kernel_rfl) (fun w' h=>gg h.1) (fun _ _ _ h=>h) hS ?_
  refine ai 4 (some 27) (.int .i64 i) (by kernel_rfl) (fun _ _=>by kernel_rfl) (fun _ _ _ h=>h) hS ?_
  refine ai 5 (some 28) (.pointer (some ⟨g,0,none⟩)) (by kernel_rfl) (fun _ _=>by kernel_rfl) (fun _ _ _ h=>h) hS ?_
  refine ai 6 (some 29) (.pointer (some ⟨g,0,none⟩)) (by kernel_rfl) (fun _ _=>by kernel_rfl) (fun _ _ _ h=>h) hS ?_
  refine ai 7 (some 30) (.pointer (some ⟨g,0,none⟩)) (by kernel_rfl) (fun _ _=>by kernel_rfl) (fun _ _ _ h=>h) hS ?_
  refine aO 8 (some 31) (.slice (some ⟨G,0,none⟩) n C) 142 30 (g) (0) (by kernel_rfl) (by kernel_rfl) (by kernel_rfl) (fun w' h=>gg h.1) (fun _ _ _ h=>h) hS ?_
  refine ai 9 (some 32) (.int .i64 i) (by kernel_rfl) (fun _ _=>by kernel_rfl) (fun _ _ _ h=>h) hS ?_
  refine ai 10 (some 33) (.pointer (some ⟨G,i,none⟩)) (by kernel_rfl) (fun _ _=>eA (x:=31) (y:=32) (n:=n) (c:=C) (by kernel_rfl) ad (by kernel_rfl) (by kernel_rfl) (rfl) (ac)) (fun _ _ _ h=>h) hS ?_
  refine ai 12 (some 35) (.int .i64 q) (by kernel_rfl) (fun _ _=>by kernel_rfl) (fun _ _ _ h=>h) hS ?_
  refine aO 13 (some 36) (.agg #[kv,vv]) 196 7 (w.heap.size) (0) (by kernel_rfl) (by kernel_rfl) (by kernel_rfl) (fun w' h=>ld_e h.2.1 h.2.2) (fun _ _ _ h=>h) hS ?_
  refine aK [11,14] (by kernel_rfl) (by simp) ?_
  refine bH 11 (some 34) (.slice (some ⟨p.b,0,none⟩) m p.c) _ (by kernel_rfl) (iU 33 (by kernel_rfl) (by kernel_rfl) (pL cGd)) hS ?_ (bH 14 (some 37) (.slice (some ⟨l.heap.size,0,none⟩) 1 1) _ (by kernel_rfl) (px (k:=36) (by kernel_rfl) (by kernel_rfl)) W ?_ aW)
  ·refine aK [14] (by kernel_rfl) (by simp) ?_
   refine bH 14 (some 37) (.slice (some ⟨l.heap.size,0,none⟩) 1 1) _ (by kernel_rfl) (px (k:=36) (by kernel_rfl) (by kernel_rfl)) W ?_ aW;refine bN 15 (some 38) 193 #[.slice (some ⟨p.b,0,none⟩) m p.c,.int .i64 q,.slice (some ⟨l.heap.size,0,none⟩) 1 1] (by kernel_rfl) (by kernel_rfl) t1 ?_
   rintro e' d ⟨b2,I,rfl,s,R2,r⟩;rw[<- M.out] at r s
   have t:d.cell? ⟨g,0,none⟩=_:=(World.cell?_of_block (a:=⟨g,0,none⟩) (r.same g (aI j) ng)).trans j
   have B:d.cell? ⟨w.heap.size,0,none⟩=_:=(World.cell?_of_block (a:=⟨w.heap.size,0,none⟩) (r.same _ (aI u) nx)).trans u
   have E:d.cell? ⟨w.heap.size,1,none⟩=_:=(World.cell?_of_block (a:=⟨w.heap.size,1,none⟩) (r.same _ (aI z) nx)).trans z
   have O:d.cell? ⟨G,i,none⟩=_:=(World.cell?_of_block (a:=⟨G,i,none⟩) (r.same _ (aI o) nG)).trans o
   have af:d.frozen? ⟨G,i,none⟩=false:=((Z.keep H).chg r nG).free i;refine⟨_,rfl,⟨t,B,E⟩,?_⟩;replace hS:=(show _/\_/\_ from⟨t,B,E⟩)
   refine ai 16 (some 39) (.pointer (some ⟨G,i,none⟩)) (by kernel_rfl) (fun _ _=>eA (x:=26) (y:=27) (n:=n) (c:=C) (by kernel_rfl) ad (by kernel_rfl) (by kernel_rfl) (rfl) (ac)) (fun _ _ _ h=>h) hS ?_
   refine aK [17] (by kernel_rfl) (by simp) ?_
   refine dm 17 (d.setCell ⟨G,i,none⟩ (.slice (some ⟨b2,0,none⟩) (m + 1) I)) (by kernel_rfl) (j3 39 38 (by kernel_rfl) (by kernel_rfl) (by kernel_rfl) O af) ⟨bQ ab t,bQ V B,bQ V E⟩ ?_ aW;refine bF (by kernel_rfl) ?_
   exact⟨(b2,I),by kernel_rfl,d,rfl,s,R2,r⟩
  ·refine aK [11] (by kernel_rfl) (by simp) ?_
   refine bH 11 (some 34) (.slice (some ⟨p.b,0,none⟩) m p.c) _ (by kernel_rfl) (iU 33 (by kernel_rfl) (by kernel_rfl) (pL N)) W ?_ aW;refine bN 15 (some 38) 193 #[.slice (some ⟨p.b,0,none⟩) m p.c,.int .i64 q,.slice (some ⟨l.heap.size,0,none⟩) 1 1] (by kernel_rfl) (by kernel_rfl) t1 ?_
   rintro e' d ⟨b2,I,rfl,s,R2,r⟩;rw[<- M.out] at r s
   have t:d.cell? ⟨g,0,none⟩=_:=(World.cell?_of_block (a:=⟨g,0,none⟩) (r.same g (aI j) ng)).trans j
   have B:d.cell? ⟨w.heap.size,0,none⟩=_:=(World.cell?_of_block (a:=⟨w.heap.size,0,none⟩) (r.same _ (aI u) nx)).trans u
   have E:d.cell? ⟨w.heap.size,1,none⟩=_:=(World.cell?_of_block (a:=⟨w.heap.size,1,none⟩) (r.same _ (aI z) nx)).trans z
   have O:d.cell? ⟨G,i,none⟩=_:=(World.cell?_of_block (a:=⟨G,i,none⟩) (r.same _ (aI o) nG)).trans o
   have af:d.frozen? ⟨G,i,none⟩=false:=((Z.keep H).chg r nG).free i;refine⟨_,rfl,⟨t,B,E⟩,?_⟩;replace hS:=(show _/\_/\_ from⟨t,B,E⟩)
   refine ai 16 (some 39) (.pointer (some ⟨G,i,none⟩)) (by kernel_rfl) (fun _ _=>eA (x:=26) (y:=27) (n:=n) (c:=C) (by kernel_rfl) ad (by kernel_rfl) (by kernel_rfl) (rfl) (ac)) (fun _ _ _ h=>h) hS ?_
   refine aK [17] (by kernel_rfl) (by simp) ?_
   refine dm 17 (d.setCell ⟨G,i,none⟩ (.slice (some ⟨b2,0,none⟩) (m + 1) I)) (by kernel_rfl) (j3 39 38 (by kernel_rfl) (by kernel_rfl) (by kernel_rfl) O af) ⟨bQ ab t,bQ V B,bQ V E⟩ ?_ aW;refine bF (by kernel_rfl) ?_
   exact⟨(b2,I),by kernel_rfl,d,rfl,s,R2,r⟩
 rintro⟨b2,I⟩ w' ⟨d,rfl,s,R2,r⟩;dsimp only at s R2;simp only[iR,Act.put,List.setIfInBounds_toArray,List.set_cons_zero,List.set_cons_succ]
 have t:d.cell? ⟨g,0,none⟩=_:=(World.cell?_of_block (a:=⟨g,0,none⟩) (r.same g (aI j) ng)).trans j
 have O:d.cell? ⟨G,i,none⟩=_:=(World.cell?_of_block (a:=⟨G,i,none⟩) (r.same _ (by exact(Z.keep H).lt) nG)).trans o
 have C02:Chg (· = p.b) l d:=(Chg.of (F:=(· = p.b)) H).trans r (fun _ _ h=>h);obtain⟨p',Y⟩:∃ p':Pg,Hid (p'=⟨b2,I,p.es.take q ++ [(⟨kv,kl,vv,vl⟩:En)] ++ p.es.drop q⟩):=⟨_,rfl⟩
 have hlen:(p.es.take q ++ [(⟨kv,kl,vv,vl⟩:En)] ++ p.es.drop q).length=m + 1:=by have:=U.out; simp; omega
 have P:∀ e,EnA w D e->EnA d D e:=fun e he=>((he.keep B0).keep H).off fun b hb hk=>r.same b hb fun f=>by
  subst f;obtain⟨cs,k⟩:=hk;obtain⟨ds,k'⟩:=(S.1.row.keep H).kind;exact eB k k' (by decide) rfl
 have hA':PgA d D p':=by
  rw[Y.out];refine⟨?_,fun e he => ?_⟩
  ·show Rw d _ 2 b2 (p.es.take q ++ [(⟨kv,kl,vv,vl⟩:En)] ++ p.es.drop q).length I _
   rw[hlen]; exact R2.to (xi p.es q ⟨kv,kl,vv,vl⟩)
  ·rcases List.mem_append.1 he with h | h
   ·rcases List.mem_append.1 h with h | h
    ·exact P e ((A.bX p (List.mem_of_getElem? hi)).1.dI e (List.mem_of_mem_take h))
    ·simp at h; subst h; exact P _ hE
   ·exact P e ((A.bX p (List.mem_of_getElem? hi)).1.dI e (List.mem_of_mem_drop h))
 have hv':p'.v=.slice (some ⟨b2,0,none⟩) (m + 1) I:=by rw[Y.out]; simp only[Pg.v]; rw[hlen]
 have hb':p'.b=b2:=by rw[Y.out]
 have J:p'.es=p.es.take q ++ [⟨kv,kl,vv,vl⟩] ++ p.es.drop q:=by rw[Y.out]
 obtain⟨A3,C3⟩:=A0.put (p':=p') (D':=D) hg hFg hFG Z hi C02 (by rw[hb']; exact s.imp id (fun h=>Nat.le_trans H.size h)) hA' (fun _ _ h=>h);rw[hv',hb'] at A3;rw[hv'] at C3;have ag:=(Chg.of (F:=F) B0).trans C3 (fun _ _ h=>h)
 have hF3:∀ b,((F b/\b≠p.b)\/b=b2)->F b\/w.heap.size<=b:=fun b h=>by
  have h0:=B0.size;have h1:=H.size;rcases h with h | h
  ·exact .inl h.1
  ·subst h;rcases s with h | h
   ·rw[h]; exact .inl S.2
   ·exact .inr (by omega)
 have cg3:(d.setCell ⟨G,i,none⟩ (.slice (some ⟨b2,0,none⟩) (m + 1) I)).cell? ⟨g,0,none⟩=some (.slice (some ⟨G,0,none⟩) n C):=bQ ab t
 have cG3:(d.setCell ⟨G,i,none⟩ (.slice (some ⟨b2,0,none⟩) (m + 1) I)).cell? ⟨G,i,none⟩=some (.slice (some ⟨b2,0,none⟩) (m + 1) I):=World.cell?_setCell_same' _ _ _ (by rw[O]; rfl);generalize (d.setCell ⟨G,i,none⟩ (.slice (some ⟨b2,0,none⟩) (m + 1) I))=W3 at *;generalize hF3d:(fun x=>(F x/\x≠p.b)\/x=b2)=F3 at A3
 have Q:∀ b,F3 b->F b\/w.heap.size<=b:=fun b h=>hF3 b (by rw[<- hF3d] at h; exact h)
 have hi3:(L.set i p')[i]? = some p':=by rw[List.getElem?_set_self hil]
 by_cases aa:32 < m + 1
 ·have hbi:(32:Int) < (m:Int) + 1:=by omega
  have t5:=kz A3 hi3 (by rw[J,hlen]; omega) (by rw[J,hlen]; have:=U.out; omega) (by rw[List.length_set]; exact hn);go_wp2_with (go_at_call 194; refine t5.mono ?_; rintro e' w6 ⟨F6,p1,p2,rfl,e1,e2,A6,hF6,C6⟩);go_end0;refine⟨F6,_,rfl,?_,A6,fun b hb => ?_,ag.trans C6 fun b hb h=>(Q b h).resolve_right (by omega)⟩
  ·unfold qV;rw[eO hi,<- J,if_pos (by rw[J,hlen]; exact aa)];simp only[ens,List.map_append,List.map_take,List.map_drop,List.map_cons,List.map_nil,List.map_set,e1,e2];rw[List.take_set_of_le (Nat.le_refl _),List.drop_set_of_lt (by omega)]
  ·rcases hF6 b hb with h | h
   ·exact Q b h
   ·exact .inr (by have:=ag.size; omega)
 ·have hbi:¬ ((32:Int) < (m:Int) + 1):=by omega
  go_wp2;go_end0;refine⟨rfl,F3,_,?_,A3,Q,ag⟩;unfold qV;rw[eO hi,<- J,if_neg (by rw[J,hlen]; exact aa),qi]
end
end Pg
end
section
namespace Pg
open Go.RowKit Go.Lib
section
variable {w w1:World}{F D:Nat->Prop}{g:Nat}{pv:Value}
theorem xA(A:bJ w F D g [])(v:w.cell? ⟨g,0,none⟩=some pv)(t:Below w.heap.size w w1){vb:Nat}(V:Blk w1 vb [.slice none 0 0] 199) :
  ∃ b' c' w',(Builtin.append_ #[142,142] 142 #[pv,.slice (some ⟨vb,0,none⟩) 1 1]).run Tryz.prog w1=.ok (.slice (some ⟨b',0,none⟩) 1 c') w'/\(F b'\/w.heap.size<=b')/\Rw w' 199 1 b' 1 c' [.slice none 0 0]/\Chg F w1 w'/\b'≠g/\(∀ b cs,Blk w1 b cs 144\/Blk w1 b cs 196->Blk w' b cs 144\/Blk w' b cs 196)/\(Blk w g [pv] 144/\F g/\Blk w' g [pv] 144):=by
 obtain⟨r,hb,p,h⟩:=A.top;have e:=hb.cell (i:=0) rfl;rw[v] at e
 cases e;have a:=hb.keep t;rcases h with⟨rfl,_⟩ | ⟨G,C,rfl,hG,hR⟩
 ·obtain⟨c',W,n,c,hC⟩:=fi (w:=w1) KP 142 ⟨vb,0,none⟩ 1 1 [.slice none 0 0] rfl (fun j u o=>by rw[Addr.add_lit,Nat.zero_add]; exact V.cell o) (by decide) (by decide) (by decide);refine⟨_,c',W,n,.inr t.size,c,Chg.of hC,?_,fun b cs h=>h.imp (fun k=>k.keep hC) (fun k=>k.keep hC),hb,p,a.keep hC⟩;have:=a.lt;omega
 ·have f:=hR.keep t;obtain⟨b',c',W,n,l,c,hC⟩:=dz KP 142 f ⟨vb,0,none⟩ 1 1 [.slice none 0 0] rfl (fun j u o=>by rw[Addr.add_lit,Nat.zero_add]; exact V.cell o) (by simp[Value.oneCell']) (by simp) (by simp)
  have d:∀ b cs,Blk w1 b cs 144\/Blk w1 b cs 196->b≠G:=fun b cs h=>by
   obtain⟨s,q⟩:=f.kind;rcases h with k | k
   ·exact eB k q (by decide)
   ·exact eB k q (by decide)
  have m:=d g _ (.inl a);refine⟨b',c',W,n,?_,c,hC.mono (fun b _ e=>by subst e; exact hG),?_,fun b cs h=>h.imp (fun k=>k.chg hC (d b cs h)) (fun k=>k.chg hC (d b cs h)),hb,p,a.chg hC m⟩
  ·rcases l with h | h
   ·rw[h]; exact .inl hG
   ·rw[h]; exact .inr t.size
  ·rcases l with h | h
   ·rw[h]; exact fun e=>m e.symm
   ·have:=a.lt; omega
theorem qt{e:En}(A:bJ w F D g [])(hE:EnA w D e) :
  Calls Tryz.prog 147 #[.pointer (some ⟨g,0,none⟩),.int .i64 0,.int .i64 0,.agg #[e.kv,e.vv]] w fun e' w'=>∃ F' L',e'=.returned (.tuple #[])/\ens L'=[[e]]/\bJ w' F' D g L'/\(∀ b,F' b->F b\/w.heap.size<=b)/\Chg F w w':=by
 obtain⟨kv,kl,vv,vl⟩:=e;have B0:=ae w (.cells #[kv,vv] 196);have X0:=aC w [kv,vv] 196;obtain⟨ao,c,hc,hc1,hc2,hat⟩:=A.rd;simp only[List.length_nil] at hc hc1;have hgl:=aI hc;obtain⟨w1,z⟩:∃ w1,Hid (w1=(w.alloc (.cells #[kv,vv] 196)).alloc (.cells #[.slice none 0 0] 199)):=⟨_,rfl⟩
 have B1:Below w.heap.size w w1:=by rw[z.out]; exact aj B0 (ae _ _)
 have V1:Blk w1 (w.heap.size + 1) [.slice none 0 0] 199:=by
  have:=aC (w.alloc (.cells #[kv,vv] 196)) [.slice none 0 0] 199;rw[World.size_alloc] at this;rw[z.out]; exact this
 have X1:Blk w1 w.heap.size [kv,vv] 196:=by rw[z.out]; exact X0.keep (ae _ _)
 obtain⟨G,C,d,hr,hFG,R2,j,hGg,hkp,hgb,hFg,N⟩:=xA A hc B1 V1
 have X2:Blk d w.heap.size [kv,vv] 196:=X1.chg j (fun f=>by have:=A.lt f; omega);have hg3:=N.setCell (i:=0) (.slice (some ⟨G,0,none⟩) 1 C)
 have O:Rw (d.setCell ⟨g,0,none⟩ (.slice (some ⟨G,0,none⟩) 1 C)) 199 1 G 1 C [.slice none 0 0]:=R2.same (Below.heap_setCell d _ _ _ hGg)
 have X3:Blk (d.setCell ⟨g,0,none⟩ (.slice (some ⟨G,0,none⟩) 1 C)) w.heap.size [kv,vv] 196:=X2.off (by omega) _
 have P:∀ e,EnA w D e->EnA (d.setCell ⟨g,0,none⟩ (.slice (some ⟨G,0,none⟩) 1 C)) D e:=fun e he=>(he.keep B1).off fun b hb hk=>by
  obtain⟨cs,k⟩:=hk
  have n1:b≠g:=eB k (hgb.keep B1) (by decide);rw[Below.heap_setCell d _ _ b n1];refine j.same b hb fun f=>A.noU f cs ?_
  exact⟨by rw[<- B1.block b (A.lt f)]; exact k.blk⟩
 have c2g:=N.cell (i:=0) rfl;have f2g:=N.free 0
 have hsz3:w.heap.size + 1 + 1<=(d.setCell ⟨g,0,none⟩ (.slice (some ⟨G,0,none⟩) 1 C)).heap.size:=by
  have h1:=j.size
  have h2:w1.heap.size=w.heap.size + 1 + 1:=by rw[z.out]; simp
  have h3:(d.setCell ⟨g,0,none⟩ (.slice (some ⟨G,0,none⟩) 1 C)).heap.size=d.heap.size:=by simp[World.setCell]
  omega
 have C03:Chg F w (d.setCell ⟨g,0,none⟩ (.slice (some ⟨G,0,none⟩) 1 C)):=((Chg.of (F:=F) B1).trans j (fun _ _ h=>h)).cell (.inl hFg) _;have mixed:=mixed;obtain rfl:=z.out;clear z;go_enter Tryz.func147,Tryz.ntmps147;go_wp2_with (at_builtin; refine Lib.wpList_append_run _ rfl _ _ _ _ rfl _ _ rfl rfl _ _ hr ?_);generalize (d.setCell ⟨g,0,none⟩ (.slice (some ⟨G,0,none⟩) 1 C))=a at *
 have Q:a.cell? ⟨g,0,none⟩=some (.slice (some ⟨G,0,none⟩) 1 C):=hg3.cell (i:=0) rfl;have R:=X3.cell (i:=0) rfl;have S:=X3.cell (i:=1) rfl;have T:=O.cell (i:=0) rfl;obtain⟨v,B⟩:∃ v,Hid (v=a.drew.alloc (.cells #[kv,vv] 196)):=⟨_,rfl⟩
 have U:Below a.heap.size a v:=by rw[B.out]; exact aj (bV a) (ae a.drew _)
 have V4:Blk v a.heap.size [kv,vv] 196:=by rw[B.out]; exact aC a.drew [kv,vv] _
 have hs4:v.heap.size=a.heap.size + 1:=by rw[B.out]; simp
 have t1:Calls Tryz.prog 193 #[.slice none 0 0,.int .i64 0,.slice (some ⟨a.heap.size,0,none⟩) 1 1] v fun e w'=>∃ b2 L,e=.returned (.slice (some ⟨b2,0,none⟩) 1 L)/\b2=a.heap.size + 1/\Rw w' 196 2 b2 1 L [kv,vv]/\Below v.heap.size v w':=(xB V4).mono (by
  rintro e w' ⟨c',rfl,h1,h2⟩;exact⟨_,c',rfl,hs4,h1,h2⟩)
 have l:v.cell? ⟨g,0,none⟩=_:=(U.cell (p:=⟨g,0,none⟩) (aI Q)).trans Q
 have m:v.cell? ⟨w.heap.size,0,none⟩=_:=(U.cell (p:=⟨w.heap.size,0,none⟩) (aI R)).trans R
 have o:v.cell? ⟨w.heap.size,1,none⟩=_:=(U.cell (p:=⟨w.heap.size,1,none⟩) (aI S)).trans S
 have q:v.cell? ⟨G,0,none⟩=_:=(U.cell (p:=⟨G,0,none⟩) (aI T)).trans T
 have cgd:a.drew.cell? ⟨g,0,none⟩=_:=Q
 have x0d:a.drew.cell? ⟨w.heap.size,0,none⟩=_:=R
 have x1d:a.drew.cell? ⟨w.heap.size,1,none⟩=_:=S
 have cGd:a.drew.cell? ⟨G,0,none⟩=_:=T
 have V:g≠G:=fun e=>hGg e.symm
 have I:w.heap.size≠G:=fun e=>by
  obtain⟨ds,k⟩:=O.kind;exact eB X3 k (by decide) e
 have W:0 < 1:=by decide
 have J:=(show _/\_/\_ from⟨l,m,o⟩)
 have H:=q;rw[B.out] at J H t1
 have Y:Tryz.prog.underlying 142=some (.slice 199):=by kernel_rfl
 refine qm (X:=Nat × Nat) (fun x=>[(some 23,.pointer (some ⟨g,0,none⟩)),(some 24,.pointer (some ⟨g,0,none⟩)),(some 25,.pointer (some ⟨g,0,none⟩)),(some 26,.slice (some ⟨G,0,none⟩) 1 C),(some 27,.int .i64 0),(some 28,.pointer (some ⟨g,0,none⟩)),(some 29,.pointer (some ⟨g,0,none⟩)),(some 30,.pointer (some ⟨g,0,none⟩)),(some 31,.slice (some ⟨G,0,none⟩) 1 C),(some 32,.int .i64 0),(some 33,.pointer (some ⟨G,0,none⟩)),(some 34,.slice none 0 0),(some 35,.int .i64 0),(some 36,.agg #[kv,vv]),(some 37,.slice (some ⟨a.heap.size,0,none⟩) 1 1),(some 38,.slice (some ⟨x.1,0,none⟩) 1 x.2),(some 39,.pointer (some ⟨G,0,none⟩))]) (fun x w'=>∃ d,w'=d.setCell ⟨G,0,none⟩ (.slice (some ⟨x.1,0,none⟩) 1 x.2)/\x.1=a.heap.size + 1/\Rw d 196 2 x.1 1 x.2 [kv,vv]/\Below v.heap.size v d) (fun w'=>w'.cell? ⟨g,0,none⟩=some (.slice (some ⟨G,0,none⟩) 1 C)/\w'.cell? ⟨w.heap.size,0,none⟩=some kv/\w'.cell? ⟨w.heap.size,1,none⟩=some vv) (by kernel_rfl) ⟨cgd,x0d,x1d⟩ ?_ ?_
 ·have hS:=(show _/\_/\_ from⟨cgd,x0d,x1d⟩)
  refine ai 0 (some 23) (.pointer (some ⟨g,0,none⟩)) (by kernel_rfl) (fun _ _=>by kernel_rfl) (fun _ _ _ h=>h) hS ?_
  refine ai 1 (some 24) (.pointer (some ⟨g,0,none⟩)) (by kernel_rfl) (fun _ _=>by kernel_rfl) (fun _ _ _ h=>h) hS ?_
  refine ai 2 (some 25) (.pointer (some ⟨g,0,none⟩)) (by kernel_rfl) (fun _ _=>by kernel_rfl) (fun _ _ _ h=>h) hS ?_
  refine aO 3 (some 26) (.slice (some ⟨G,0,none⟩) 1 C) 142 25 (g) (0) (by kernel_rfl) (by kernel_rfl) (by kernel_rfl) (fun w' h=>gg h.1) (fun _ _ _ h=>h) hS ?_
  refine ai 4 (some 27) (.int .i64 0) (by kernel_rfl) (fun _ _=>by kernel_rfl) (fun _ _ _ h=>h) hS ?_
  refine ai 5 (some 28) (.pointer (some ⟨g,0,none⟩)) (by kernel_rfl) (fun _ _=>by kernel_rfl) (fun _ _ _ h=>h) hS ?_
  refine ai 6 (some 29) (.pointer (some ⟨g,0,none⟩)) (by kernel_rfl) (fun _ _=>by kernel_rfl) (fun _ _ _ h=>h) hS ?_
  refine ai 7 (some 30) (.pointer (some ⟨g,0,none⟩)) (by kernel_rfl) (fun _ _=>by kernel_rfl) (fun _ _ _ h=>h) hS ?_
  refine aO 8 (some 31) (.slice (some ⟨G,0,none⟩) 1 C) 142 30 (g) (0) (by kernel_rfl) (by kernel_rfl) (by kernel_rfl) (fun w' h=>gg h.1) (fun _ _ _ h=>h) hS ?_
  refine ai 9 (some 32) (.int .i64 0) (by kernel_rfl) (fun _ _=>by kernel_rfl) (fun _ _ _ h=>h) hS ?_
  refine ai 10 (some 33) (.pointer (some ⟨G,0,none⟩)) (by kernel_rfl) (fun _ _=>eA (x:=31) (y:=32) (n:=1) (c:=C) (by kernel_rfl) Y (by kernel_rfl) (by kernel_rfl) (rfl) (W)) (fun _ _ _ h=>h) hS ?_
  refine ai 12 (some 35) (.int .i64 0) (by kernel_rfl) (fun _ _=>by kernel_rfl) (fun _ _ _ h=>h) hS ?_
  refine aO 13 (some 36) (.agg #[kv,vv]) 196 7 (w.heap.size) (0) (by kernel_rfl) (by kernel_rfl) (by kernel_rfl) (fun w' h=>ld_e h.2.1 h.2.2) (fun _ _ _ h=>h) hS ?_
  refine aK [11,14] (by kernel_rfl) (by simp) ?_
  refine bH 11 (some 34) (.slice none 0 0) _ (by kernel_rfl) (iU 33 (by kernel_rfl) (by kernel_rfl) (pL cGd)) hS ?_ (bH 14 (some 37) (.slice (some ⟨a.heap.size,0,none⟩) 1 1) _ (by kernel_rfl) (px (k:=36) (by kernel_rfl) (by kernel_rfl)) J ?_ aW)
  ·refine aK [14] (by kernel_rfl) (by simp) ?_
   refine bH 14 (some 37) (.slice (some ⟨a.heap.size,0,none⟩) 1 1) _ (by kernel_rfl) (px (k:=36) (by kernel_rfl) (by kernel_rfl)) J ?_ aW;refine bN 15 (some 38) 193 #[.slice none 0 0,.int .i64 0,.slice (some ⟨a.heap.size,0,none⟩) 1 1] (by kernel_rfl) (by kernel_rfl) t1 ?_
   rintro e' d ⟨b2,L,rfl,E,R2,j⟩;rw[<- B.out] at j
   have s:d.cell? ⟨g,0,none⟩=_:=(j.cell (p:=⟨g,0,none⟩) (aI l)).trans l
   have t:d.cell? ⟨w.heap.size,0,none⟩=_:=(j.cell (p:=⟨w.heap.size,0,none⟩) (aI m)).trans m
   have u:d.cell? ⟨w.heap.size,1,none⟩=_:=(j.cell (p:=⟨w.heap.size,1,none⟩) (aI o)).trans o
   have Z:d.cell? ⟨G,0,none⟩=_:=(j.cell (p:=⟨G,0,none⟩) (aI q)).trans q
   have aa:d.frozen? ⟨G,0,none⟩=false:=((O.keep U).keep j).free 0;refine⟨_,rfl,⟨s,t,u⟩,?_⟩;replace hS:=(show _/\_/\_ from⟨s,t,u⟩)
   refine ai 16 (some 39) (.pointer (some ⟨G,0,none⟩)) (by kernel_rfl) (fun _ _=>eA (x:=26) (y:=27) (n:=1) (c:=C) (by kernel_rfl) Y (by kernel_rfl) (by kernel_rfl) (rfl) (W)) (fun _ _ _ h=>h) hS ?_
   refine aK [17] (by kernel_rfl) (by simp) ?_
   refine dm 17 (d.setCell ⟨G,0,none⟩ (.slice (some ⟨b2,0,none⟩) 1 L)) (by kernel_rfl) (j3 39 38 (by kernel_rfl) (by kernel_rfl) (by kernel_rfl) Z aa) ⟨bQ V s,bQ I t,bQ I u⟩ ?_ aW;refine bF (by kernel_rfl) ?_
   exact⟨(b2,L),by kernel_rfl,d,rfl,E,R2,j⟩
  ·refine aK [11] (by kernel_rfl) (by simp) ?_
   refine bH 11 (some 34) (.slice none 0 0) _ (by kernel_rfl) (iU 33 (by kernel_rfl) (by kernel_rfl) (pL H)) J ?_ aW;refine bN 15 (some 38) 193 #[.slice none 0 0,.int .i64 0,.slice (some ⟨a.heap.size,0,none⟩) 1 1] (by kernel_rfl) (by kernel_rfl) t1 ?_
   rintro e' d ⟨b2,L,rfl,E,R2,j⟩;rw[<- B.out] at j
   have s:d.cell? ⟨g,0,none⟩=_:=(j.cell (p:=⟨g,0,none⟩) (aI l)).trans l
   have t:d.cell? ⟨w.heap.size,0,none⟩=_:=(j.cell (p:=⟨w.heap.size,0,none⟩) (aI m)).trans m
   have u:d.cell? ⟨w.heap.size,1,none⟩=_:=(j.cell (p:=⟨w.heap.size,1,none⟩) (aI o)).trans o
   have Z:d.cell? ⟨G,0,none⟩=_:=(j.cell (p:=⟨G,0,none⟩) (aI q)).trans q
   have aa:d.frozen? ⟨G,0,none⟩=false:=((O.keep U).keep j).free 0;refine⟨_,rfl,⟨s,t,u⟩,?_⟩;replace hS:=(show _/\_/\_ from⟨s,t,u⟩)
   refine ai 16 (some 39) (.pointer (some ⟨G,0,none⟩)) (by kernel_rfl) (fun _ _=>eA (x:=26) (y:=27) (n:=1) (c:=C) (by kernel_rfl) Y (by kernel_rfl) (by kernel_rfl) (rfl) (W)) (fun _ _ _ h=>h) hS ?_
   refine aK [17] (by kernel_rfl) (by simp) ?_
   refine dm 17 (d.setCell ⟨G,0,none⟩ (.slice (some ⟨b2,0,none⟩) 1 L)) (by kernel_rfl) (j3 39 38 (by kernel_rfl) (by kernel_rfl) (by kernel_rfl) Z aa) ⟨bQ V s,bQ I t,bQ I u⟩ ?_ aW;refine bF (by kernel_rfl) ?_
   exact⟨(b2,L),by kernel_rfl,d,rfl,E,R2,j⟩
 rintro⟨b2,K⟩ w' ⟨M,rfl,E,R4,D4⟩;dsimp only at E R4;simp only[iR,Act.put,List.setIfInBounds_toArray,List.set_cons_zero,List.set_cons_succ]
 have r:Below a.heap.size a M:=aj U D4;subst E;have ab:=(hg3.keep r).off V (i:=0) (.slice (some ⟨a.heap.size + 1,0,none⟩) 1 K);have R5:=(O.keep r).set 0 (by simp) (.slice (some ⟨a.heap.size + 1,0,none⟩) 1 K)
 have hNG:a.heap.size + 1≠G:=by have:=O.lt; omega
 have R6:Rw (M.setCell ⟨G,0,none⟩ (.slice (some ⟨a.heap.size + 1,0,none⟩) 1 K)) 196 2 (a.heap.size + 1) 1 K [kv,vv]:=R4.same (Below.heap_setCell M _ _ _ hNG)
 have E6:EnA (M.setCell ⟨G,0,none⟩ (.slice (some ⟨a.heap.size + 1,0,none⟩) 1 K)) D ⟨kv,kl,vv,vl⟩:=((P _ hE).keep r).off fun b hb hk=>by
  obtain⟨cs,k⟩:=hk;obtain⟨ds,k'⟩:=(O.keep r).kind;exact Below.heap_setCell M _ _ b (eB k k' (by decide))
 have C6:Chg F w (M.setCell ⟨G,0,none⟩ (.slice (some ⟨a.heap.size + 1,0,none⟩) 1 K)):=(C03.trans (Chg.of (F:=F) r) (fun _ _ h=>h)).cell hFG _;have cg5:=ab.cell (i:=0) rfl;have cG5:=R5.cell (i:=0) rfl
 have hfin:bJ (M.setCell ⟨G,0,none⟩ (.slice (some ⟨a.heap.size + 1,0,none⟩) 1 K)) (fun x=>x=g\/x=G\/x=a.heap.size + 1) D g [⟨a.heap.size + 1,K,[⟨kv,kl,vv,vl⟩]⟩]:=by
  refine⟨⟨_,ab,.inl rfl,.inr ⟨G,C,rfl,.inr (.inl rfl),R5⟩⟩,fun p hp => ?_,by simp,fun b hb => ?_⟩
  ·simp at hp;subst hp;exact⟨⟨R6,fun e he=>by simp at he; subst he; exact E6⟩,.inr (.inr rfl)⟩
  ·rcases hb with rfl | rfl | rfl
   ·exact⟨_,_,ab,by decide⟩
   ·obtain⟨ds,k⟩:=R5.kind;exact⟨ds,_,k,by decide⟩
   ·obtain⟨ds,k⟩:=R6.kind;exact⟨ds,_,k,by decide⟩
 generalize (M.setCell ⟨G,0,none⟩ (.slice (some ⟨a.heap.size + 1,0,none⟩) 1 K))=W6 at *;go_wp2;go_end0;refine⟨_,_,rfl,?_,hfin,fun b hb => ?_,C6⟩
 ·rfl
 ·rcases hb with rfl | rfl | rfl
  ·exact .inl hFg
  ·exact hFG
  ·exact .inr (by omega)
end
end Pg
end
section
namespace Pg
open Go.RowKit Go.Lib
section
variable {es:List En}{k ul:List Int}{L:List Pg}{w:World}{i g:Nat}{cs:List Value}{v u kv:Value}{F D:Nat->Prop}
def has(P:List (List En))(k:List Int):Bool := !P.isEmpty && thr (kys (P.getD (pgi P k) [])) k
def got(P:List (List En))(k:List Int):List Int:=((P.getD (pgi P k) [])[plc (kys (P.getD (pgi P k) [])) k]?.map En.vl).getD []
def fB(P:List (List En))(e:En):List (List En) :=
 if P=[] then [[e]]
 else
  let i:=pgi P e.kl
  let es:=P.getD i []
  let q:=plc (kys es) e.kl
  if thr (kys es) e.kl then P.set i (es.modify q fun x=>{ x with vv:=e.vv,vl:=e.vl }) else qV P i q e
theorem kY(h:thr (kys es) k=true):∃ e,es[plc (kys es) k]? = some e/\e.kl=k:=by
 simp only[thr,decide_eq_true_eq,kys,List.getElem?_map] at h;obtain⟨e,he,hk⟩:=Option.map_eq_some_iff.1 h;exact⟨e,he,hk⟩
theorem sj(h:L≠[]):ens L≠[]:=fun e=>h (by simpa[ens] using e)
theorem qg(h:L≠[])(k:List Int):∃ p,L[pgi (ens L) k]? = some p/\(ens L).getD (pgi (ens L) k) []=p.es:=by
 have:=pgi_lt (sj h) k;simp only[ens,List.length_map] at this;refine⟨L[pgi (ens L) k]'this,List.getElem?_eq_getElem _,?_⟩;exact eO (List.getElem?_eq_getElem _)
theorem xm{G:Nat}{t:TypeId}(h:Blk w G cs t)(hi:cs[i]? = some v)(b:Nat):(w.setCell ⟨G,i,none⟩ v).heap[b]? = w.heap[b]? := by
 by_cases e:b=G
 ·subst e;have a:=(h.setCell (i:=i) v).blk;rw[a,h.blk];have:cs.set i v=cs:=by
   obtain⟨c,rfl⟩:=List.getElem?_eq_some_iff.1 hi;exact List.set_getElem_self c
  rw[this]
 ·exact Below.heap_setCell w _ v b e
theorem bJ.upd{w1:World}{q:Nat}{p:Pg}{e:En}(A:bJ w F D g L)(hi:L[i]? = some p)(he:p.es[q]? = some e)(B:Below w.heap.size w w1)(hu:OB w1 (w.heap.size <= ·) u ul) :
  bJ (w1.setCell ⟨p.b,q * 2 + 1,none⟩ u) F (fun b=>D b\/w.heap.size<=b) g (L.set i ⟨p.b,p.c,p.es.set q { e with vv:=u,vl:=ul }⟩)/\Chg F w (w1.setCell ⟨p.b,q * 2 + 1,none⟩ u):=by
 have n:=(List.getElem?_eq_some_iff.1 hi).1
 have hL:L≠[]:=fun e=>by subst e; simp at n
 obtain⟨G,C,O,t,y,z⟩:=A.opn hL;have m:=A.bX p (List.mem_of_getElem? hi);have E:=(List.getElem?_eq_some_iff.1 he).1
 have hC:Chg (· = p.b) w (w1.setCell ⟨p.b,q * 2 + 1,none⟩ u):=(Chg.of (F:=(· = p.b)) B).cell (.inl rfl) _
 have a:∀ {v:Value} {l:List Int} {D':Nat->Prop},OB w1 D' v l->OB (w1.setCell ⟨p.b,q * 2 + 1,none⟩ u) D' v l:=fun h=>⟨h.oct,h.ex.imp id (by
  rintro⟨b,c,e,P,o⟩;refine⟨b,c,e,P,o.same (Below.heap_setCell w1 _ _ b ?_)⟩;obtain⟨V,k⟩:=o.kind;obtain⟨Q,R⟩:=(m.1.row.keep B).kind;exact eB k R (by decide))⟩
 have r:Rw (w1.setCell ⟨p.b,q * 2 + 1,none⟩ u) 196 2 p.b p.es.length p.c (flat (p.es.set q { e with vv:=u,vl:=ul })) :=
  ((m.1.row.keep B).set (q * 2 + 1) (by rw[jm]; omega) u).to (mw u ul he)
 have hA:PgA (w1.setCell ⟨p.b,q * 2 + 1,none⟩ u) (fun b=>D b\/w.heap.size<=b) ⟨p.b,p.c,p.es.set q { e with vv:=u,vl:=ul }⟩:=by
  refine⟨by simpa using r,fun S H => ?_⟩;obtain⟨j,s⟩:=List.getElem?_of_mem H;rw[List.getElem?_set] at s;by_cases K:q=j
  ·subst K;rw[if_pos rfl,if_pos E] at s
   cases s;have f:=m.1.dI e (List.mem_of_getElem? he);exact⟨(a (f.k.keep B)).mono (fun _ _ h=>.inl h),(a hu).mono (fun _ _ h=>.inr h)⟩
  ·rw[if_neg K] at s;have f:=m.1.dI S (List.mem_of_getElem? s);exact⟨(a (f.k.keep B)).mono (fun _ _ h=>.inl h),(a (f.v.keep B)).mono (fun _ _ h=>.inl h)⟩
 obtain⟨M,T⟩:=A.put (p':=⟨p.b,p.c,p.es.set q { e with vv:=u,vl:=ul }⟩) (D':=fun b=>D b\/w.heap.size<=b) O t y z hi hC (.inl rfl) hA (fun _ _ h=>.inl h)
 have U:(⟨p.b,p.c,p.es.set q { e with vv:=u,vl:=ul }⟩:Pg).v=p.v:=by simp[Pg.v]
 rw[U] at M T
 have I:Rw (w1.setCell ⟨p.b,q * 2 + 1,none⟩ u) 199 1 G L.length C (L.map Pg.v):=z.chg hC (fun e=>m.1.eV z e.symm)
 have d:∀ b,((w1.setCell ⟨p.b,q * 2 + 1,none⟩ u).setCell ⟨G,i,none⟩ p.v).heap[b]? = (w1.setCell ⟨p.b,q * 2 + 1,none⟩ u).heap[b]? := fun b=>by
  obtain⟨sp,h,_⟩:=I.ex;exact xm h (by rw[List.getElem?_append_left (by simpa using n)]; simp[hi]) b
 have J:∀ x,((F x/\x≠p.b)\/x=p.b)<->F x:=fun x=>⟨fun h=>h.elim (fun h=>h.1) (fun h=>by subst h; exact m.2),fun h=>by
  by_cases ex:x=p.b
  ·exact .inr ex
  ·exact .inl ⟨h,ex⟩⟩
 have N:=M.same (w':=w1.setCell ⟨p.b,q * 2 + 1,none⟩ u) (fun b _=>(d b).symm) (fun b _ _ _=>(d b).symm);rw[show (fun x=>(F x/\x≠p.b)\/x=p.b)=F from funext fun x=>propext (J x)] at N;exact⟨N,⟨hC.os,hC.tape,hC.output,hC.size,fun b hb hf=>hC.same b hb fun e=>hf (by subst e; exact m.2)⟩⟩
theorem CE(A:bJ w F D g L)(O:Ord (ens L))(hs:∀ es∈ens L,es.length<=1000)(hn:L.length<=100000000)(h:By w kv k)(hb:∀ p∈L,∀ e∈p.es,e.vl.length<=1000000000) :
  Calls Tryz.prog 170 #[.pointer (some ⟨g,0,none⟩),kv] w fun e w'=>∃ v,e=.returned (.tuple #[v,.bool (has (ens L) k)])/\OB w' (w.heap.size <= ·) v (if has (ens L) k then got (ens L) k else [])/\Below w.heap.size w w':=by
 by_cases hL:L=[]
 ·subst hL;have t:=l4 (v:=kv) A
  have e1:has (ens []) k=false:=rfl;rw[e1];clear A O hs hb h;go_enter Tryz.func170,Tryz.ntmps170;go_wp2_with (go_at_call 146; refine t.mono ?_; rintro y j ⟨rfl,rfl⟩);go_ret2;exact⟨_,rfl,⟨fun _ h=>by simp at h,.inl ⟨rfl,rfl⟩⟩,Below.refl _ _⟩
 ·obtain⟨p,x,o⟩:=qg hL k;have d:=List.mem_of_getElem? x;have t:=lI A O h (by omega) x (by have:=hs p.es (List.mem_map.2 ⟨p,d,rfl⟩); omega);obtain⟨G,C,z,Q,R,B⟩:=A.opn hL;have S:=(List.getElem?_eq_some_iff.1 x).1
  have J:has (ens L) k=thr (a p.es) k:=by
   unfold has;rw[o];have:(ens L).isEmpty=false:=by simp[ens,hL]
   simp[this]
  have f:got (ens L) k=((p.es)[r (a p.es) k]?.map En.vl).getD []:=by unfold got; rw[o]
  rw[J];by_cases l:thr (a p.es) k=true
  ·obtain⟨e,he,T⟩:=kY l;rw[he] at f;simp only[Option.map_some,Option.getD_some] at f;rw[l,if_pos rfl,f];rw[l] at t;have cg:=z.cell (i:=0) rfl;have E:=B.cell (i:=s (ens L) k) (v:=p.v) (by simp[x]);have K:=(A.bX p d).1.dI e (List.mem_of_getElem? he);have M:=(A.bX p d).1.row.cell (j8 he)
   have N:∀ w',Below w.heap.size w w'->Calls Tryz.prog 78 #[e.vv] w' _:=fun w' c=>cC (K.v.keep c).by (hb p d e (List.mem_of_getElem? he))
   have U:=(List.getElem?_eq_some_iff.1 he).1;generalize s (ens L) k=i at *;generalize r (a p.es) k=q at *
   have z1:(i:Int) < L.length:=by omega
   have z2:(q:Int) < p.es.length:=by omega
   simp only[Pg.v] at E;generalize L.length=n at *;generalize p.es.length=m at *;clear A O hs hb h B z K l;go_enter Tryz.func170,Tryz.ntmps170;go_wp2_with (first | (go_at_call 146; refine t.mono ?_; rintro y j ⟨rfl,c⟩; have V:j.cell? ⟨g,0,none⟩=_:=(c.cell (p:=⟨g,0,none⟩) (P cg)).trans cg; have W:j.cell? ⟨G,i,none⟩=_:=(c.cell (p:=⟨G,i,none⟩) (P E)).trans E; have X:j.cell? ⟨p.b,q * 2 + 1,none⟩=_:=(c.cell (p:=⟨p.b,q * 2 + 1,none⟩) (P M)).trans M; have H:=N j c; clear t N) | (go_at_call 78; refine H.mono ?_; rintro y w2 ⟨Y,rfl,Z,I⟩));go_ret2;exact⟨Y,rfl,Z.mono (fun b _ hb=>Nat.le_trans c.size hb),aj c I⟩
  ·have u:thr (a p.es) k=false:=by simpa using l
   rw[u] at t ⊢;generalize s (ens L) k=i at *;generalize r (a p.es) k=q at *;clear A O hs hb h B z l u J f;go_enter Tryz.func170,Tryz.ntmps170;go_wp2_with (go_at_call 146; refine t.mono ?_; rintro y j ⟨rfl,c⟩);go_ret2;exact⟨_,rfl,⟨fun _ h=>by simp at h,.inl ⟨rfl,rfl⟩⟩,c⟩
end
end Pg
end
section
namespace Pg
open Go.RowKit Go.Lib
section
variable {es:List En}{q g:Nat}{w:World}{D F:Nat->Prop}{v l k:List Int}{L:List Pg}{kv vv:Value}
theorem vN{e:En}(h:es[q]? = some e)(f:En->En):es.modify q f=es.set q (f e):=by
 have a:=(List.getElem?_eq_some_iff.1 h).1;apply List.ext_getElem?;intro j;rw[List.getElem?_modify,List.getElem?_set];by_cases e:q=j
 ·subst e; rw[if_pos rfl,if_pos a,h]; simp
 ·rw[if_neg e]; simp[e]
theorem OB.shape{v:Value}(h:OB w D v l):∃ ao c,v=.slice ao l.length c:=by
 rcases h.ex with⟨rfl,rfl⟩ | ⟨b,c,rfl,_⟩
 ·exact⟨none,0,rfl⟩
 ·exact⟨_,c,rfl⟩
def SetR(w w':World)(F D:Nat->Prop)(g:Nat)(L:List Pg)(k v:List Int):Prop :=
 ∃ F' L' nk nv,ens L'=fB (ens L) ⟨nk,k,nv,v⟩/\bJ w' F' (fun b=>D b\/w.heap.size<=b) g L'/\(∀ b,F' b->F b\/w.heap.size<=b)/\Chg F w w'
theorem vU{F D:Nat → Prop}{p:Pg}(A : bJ w F D g L)(O : Ord (ens L))(hs : p.es.length ≤ 1000)(hn : L.length ≤ 100000000)(h : By w kv k)(hv : By w vv v)(hvl : v.length ≤ 1000000000)(hL : L ≠ [])(hp : L[pgi (ens L) k]? = some p)(hpe : (ens L).getD (pgi (ens L) k) [] = p.es)(ht : thr (kys p.es) k = true) :
    Calls Tryz.prog 97 #[.pointer (some ⟨g, 0, none⟩), kv, vv] w fun e w' => e = .returned (.bool false) ∧ SetR w w' F D g L k v := by
  have t := lI A O h (by omega) hp (by omega);obtain⟨G, C, P, T, U, Q⟩:= A.opn hL;obtain⟨e, he, V⟩:= kY ht;have H := List.mem_of_getElem? hp;have W := (List.getElem?_eq_some_iff.1 hp).1;have X := (List.getElem?_eq_some_iff.1 he).1
  have hS : ∀ u, fB (ens L) ⟨e.kv, k, u, v⟩ = (ens L).set (pgi (ens L) k) (p.es.set (plc (kys p.es) k) { e with vv := u, vl := v }) := fun u => by
    unfold fB;rw[if_neg (sj hL)];simp only[hpe];rw[if_pos ht, vN he]
  have hS : Hid _ := hS;rw[ht] at t;have cg := P.cell (i := 0) rfl;have I := Q.cell (i := pgi (ens L) k) (v := p.v) (by simp[hp])
  have Y : ∀ w', Below w.heap.size w w' → Calls Tryz.prog 78 #[vv] w' _ := fun w' o => cC (hv.keep o) hvl
  have a := (A.bX p H).1;have R := a.row.cell (j8 he);have fv := a.row.free (plc (kys p.es) k * 2 + 1)
  have Z : g ≠ p.b := fun e => a.eW P e.symm
  have n2 : G ≠ p.b := fun e => a.eV Q e.symm
  generalize r : pgi (ens L) k = i at *;generalize s : plc (kys p.es) k = q at *
  have r : Hid _ := r
  have s : Hid _ := s
  have z1 : (i : Int) < L.length := by omega
  have z2 : (q : Int) < p.es.length := by omega
  simp only[Pg.v] at I;generalize x : L.length = n at *;generalize y : p.es.length = m at *
  have x : Hid _ := x
  have y : Hid _ := y;clear ht hpe;have mixed := mixed;go_enter Tryz.func97, Tryz.ntmps97;go_wp2_with (first | (go_at_call 146; refine t.mono ?_; rintro e' z ⟨rfl, o⟩))
  have B : z.drew.cell? ⟨g, 0, none⟩ = some (.slice (some ⟨G, 0, none⟩) n C) := (o.cell (p := ⟨g, 0, none⟩) (aI cg)).trans cg
  have E : z.drew.cell? ⟨G, i, none⟩ = some (.slice (some ⟨p.b, 0, none⟩) m p.c) := (o.cell (p := ⟨G, i, none⟩) (aI I)).trans I
  have d : Below w.heap.size w z.drew := aj o (bV z);have J := Y z.drew d;go_region_held3 (fun w' => w'.cell? ⟨g, 0, none⟩ = some (.slice (some ⟨G, 0, none⟩) n C) ∧ w'.cell? ⟨G, i, none⟩ = some (.slice (some ⟨p.b, 0, none⟩) m p.c)) (first | exact⟨by assumption, by assumption⟩ | exact⟨bQ Z (by assumption), bQ n2 (by assumption)⟩)
    (first
    | (go_at_call 78; refine J.mono ?_; rintro e' l ⟨v', rfl, S, f⟩; obtain⟨K, M, rfl⟩:= S.shape; have cg2 : l.cell? ⟨g, 0, none⟩ = _ := (f.cell (p := ⟨g, 0, none⟩) (aI B)).trans B; have cG2 : l.cell? ⟨G, i, none⟩ = _ := (f.cell (p := ⟨G, i, none⟩) (aI E)).trans E; have j := aj d f; have cv2 : l.cell? ⟨p.b, q * 2 + 1, none⟩ = _ := (j.cell (p := ⟨p.b, q * 2 + 1, none⟩) (aI R)).trans R; have fv2 : l.frozen? ⟨p.b, q * 2 + 1, none⟩ = false := (a.row.keep j).free _))
  all_goals (
    have N : OB l (w.heap.size ≤ ·) (.slice K v.length M) v := S.mono (fun b _ hb => Nat.le_trans d.size hb);obtain⟨A2, C2⟩:= A.upd hp he j N;generalize (l.setCell ⟨p.b, q * 2 + 1, none⟩ (.slice K v.length M)) = W3 at *;go_wp2;go_ret;exact⟨rfl, F, _, e.kv, .slice K v.length M, by rw[hS.out, qi], A2, fun b hb => .inl hb, C2⟩)
theorem im{i:Nat}(A:bJ w F D g L)(h:By w kv k)(K:By w vv v)(I:k.length<=1000000000)(J:v.length<=1000000000)(t:Calls Tryz.prog 146 #[.pointer (some ⟨g,0,none⟩),kv] w fun e w'=>e=.returned (.tuple #[.int .i64 i,.int .i64 q,.bool false])/\Below w.heap.size w w')(M:∀ (w':World) (nk nv:Value),bJ w' F (fun b=>D b\/w.heap.size<=b) g L->EnA w' (fun b=>D b\/w.heap.size<=b) ⟨nk,k,nv,v⟩->Calls Tryz.prog 147 #[.pointer (some ⟨g,0,none⟩),.int .i64 i,.int .i64 q,.agg #[nk,nv]] w' fun e' w''=>∃ F' L',e'=.returned (.tuple #[])/\ens L'=fB (ens L) ⟨nk,k,nv,v⟩/\bJ w'' F' (fun b=>D b\/w.heap.size<=b) g L'/\(∀ b,F' b->F b\/w'.heap.size<=b)/\Chg F w' w'') :
  Calls Tryz.prog 97 #[.pointer (some ⟨g,0,none⟩),kv,vv] w fun e w'=>e=.returned (.bool true)/\SetR w w' F D g L k v:=by
 have p:∀ w',Below w.heap.size w w'->Calls Tryz.prog 78 #[kv] w' _:=fun w' a=>cC (h.keep a) I
 have r:∀ w',Below w.heap.size w w'->Calls Tryz.prog 78 #[vv] w' _:=fun w' a=>cC (K.keep a) J
 have mk:True:=trivial;clear h K;go_enter Tryz.func97,Tryz.ntmps97;go_wp2_with (first
  | (go_at_call 146; refine t.mono ?_; rintro e' u ⟨rfl,a⟩; have f:=p u a; clear t p)
  | (go_at_call 78; clear mk; refine f.mono ?_; rintro e' x ⟨nk,rfl,s,n⟩; have c:=aj a n; have j:=r x c; clear f r; obtain⟨B,C,rfl⟩:=s.shape)
  | (go_at_call 78; refine j.mono ?_; rintro e' y ⟨nv,rfl,l,m⟩; clear j; obtain⟨E,G,rfl⟩:=l.shape; have d:=aj c m; have o:=M y _ _ ((A.keep d).mono (fun _ _ h=>.inl h)) ⟨(s.keep m).mono (fun b _ hb=>.inr (Nat.le_trans a.size hb)),l.mono (fun b _ hb=>.inr (Nat.le_trans c.size hb))⟩)
  | (go_at_call 147; refine o.mono ?_; rintro e' H ⟨F',L',rfl,z,hA,hF,hC⟩))
 go_ret;exact⟨rfl,F',L',_,_,z,hA,fun b hb=>(hF b hb).imp id (fun h=>Nat.le_trans d.size h),(Chg.of (F:=F) d).trans hC (fun _ _ h=>h)⟩
theorem CT(A:bJ w F D g L)(O:Ord (ens L))(hs:∀ es∈ens L,es.length<=32)(hn:L.length<=100000000)(h:By w kv k)(C:By w vv v)(B:k.length<=1000000000)(z:v.length<=1000000000) :
  Calls Tryz.prog 97 #[.pointer (some ⟨g,0,none⟩),kv,vv] w fun e w'=>e=.returned (.bool (!has (ens L) k))/\SetR w w' F D g L k v:=by
 by_cases hL:L=[]
 ·subst hL;refine im (i:=0) (q:=0) A h C B z ((l4 A).mono ?_) (fun w' nk x f j=>(qt f j).mono ?_)
  ·rintro e w' ⟨rfl,rfl⟩; exact⟨rfl,Below.refl _ _⟩
  ·rintro e l ⟨m,n,rfl,o,hA,hF,hC⟩;exact⟨m,n,rfl,o,hA,hF,hC⟩
 ·obtain⟨p,d,a⟩:=qg hL k;have r:=List.mem_of_getElem? d;have s:=hs p.es (List.mem_map.2 ⟨p,r,rfl⟩)
  have y:has (ens L) k=thr (kys p.es) k:=by
   unfold has;rw[a];have:(ens L).isEmpty=false:=by simp[ens,hL]
   simp[this]
  rw[y];by_cases u:thr (kys p.es) k=true
  ·rw[u];exact vU A O (by omega) hn h C z hL d a u
  ·have b:thr (kys p.es) k=false:=by simpa using u
   have t:=lI A O h (by omega) d (by omega);rw[b] at t ⊢;have c:=qv (kys p.es) k;simp only[kys,List.length_map] at c;refine im A h C B z t (fun w' nk x f j=>(tf f d (q:=plc (kys p.es) k) c s hn j).mono ?_);rintro e l ⟨m,n,rfl,o,hA,hF,hC⟩;refine⟨m,n,rfl,?_,hA,hF,hC⟩;rw[o];unfold fB;rw[if_neg (sj hL)];simp only[a];rw[if_neg (by rw[b]; decide)]
end
end Pg
end
section
namespace Pg
open Go.RowKit Go.Lib
section
variable {w:World}{v:Value}{F D:Nat->Prop}{L:List Pg}
def jnb(P:List (List En))(i:Nat):Bool:=decide (i + 1 < P.length) && decide ((P.getD i []).length + (P.getD (i + 1) []).length<=16)
def jnQ(P:List (List En))(i:Nat):List (List En):=P.take i ++ [P.getD i [] ++ P.getD (i + 1) []] ++ P.drop (i + 2)
theorem jn_neg:Calls Tryz.prog 209 #[v,.int .i64 (-1)] w fun e w'=>e=.returned (.bool false)/\Below w.heap.size w w':=by
 have mixed:=mixed;go_enter Tryz.func209,Tryz.ntmps209;go_wp2;go_region;go_wp2;go_ret;exact⟨rfl,bV w⟩
theorem Av{g i:Nat}(A:bJ w F D g L)(hi:i < L.length)(hn:L.length<=100000000)(hs:∀ es∈ens L,es.length<=1000) :
  Calls Tryz.prog 209 #[.pointer (some ⟨g,0,none⟩),.int .i64 i] w fun e w'=>e=.returned (.bool (jnb (ens L) i))/\Below w.heap.size w w':=by
 have hL:L≠[]:=fun e=>by subst e; simp at hi
 obtain⟨G,C,t,J,K,r⟩:=A.opn hL;have cg:=t.cell (i:=0) rfl
 have l:(ens L).length=L.length:=by simp[ens]
 have mixed:=mixed
 have u:IntKind.i64.wrap ((i:Int) + 1)=(i:Int) + 1:=by rw[IntKind.wrap_i64]; omega
 have H:(0:Int)<=(i:Int):=by omega
 by_cases s:i + 1 < L.length
 ·obtain⟨p,z⟩:∃ p,L[i]? = some p:=⟨L[i],List.getElem?_eq_getElem hi⟩
  obtain⟨a,j⟩:∃ a,L[i + 1]? = some a:=⟨L[i + 1],List.getElem?_eq_getElem s⟩
  have I:=r.cell (i:=i) (v:=p.v) (by simp[z]);have m:=r.cell (i:=i + 1) (v:=a.v) (by simp[j]);have s1:=hs p.es (List.mem_map.2 ⟨p,List.mem_of_getElem? z,rfl⟩);have s2:=hs a.es (List.mem_map.2 ⟨a,List.mem_of_getElem? j,rfl⟩)
  have B:Hid (jnb (ens L) i=decide ((p.es.length:Int) + (a.es.length:Int)<=16)):=by
   show _=_
   unfold jnb;rw[l,decide_eq_true s,eO z,eO j,Bool.true_and];congr 1
   exact propext ⟨fun h=>by omega,fun h=>by omega⟩
  simp only[Pg.v] at I m;generalize k:L.length=n at *;generalize p.es.length=x at *;generalize a.es.length=y at *
  have z1:(i:Int) + 1 < n:=by omega
  have z2:(i:Int) < n:=by omega
  have z3:((i:Int) + 1).toNat=i + 1:=by omega
  have z4:(0:Int)<=(i:Int) + 1:=by omega
  have z5:IntKind.i64.wrap ((x:Int) + (y:Int))=(x:Int) + (y:Int):=by rw[IntKind.wrap_i64]; omega
  have d:w.drew.cell? ⟨g,0,none⟩=some (.slice (some ⟨G,0,none⟩) n C):=cg
  have o:w.drew.cell? ⟨G,i,none⟩=some (.slice (some ⟨p.b,0,none⟩) x p.c):=I
  have f:w.drew.cell? ⟨G,i + 1,none⟩=some (.slice (some ⟨a.b,0,none⟩) y a.c):=m;clear A hs r t k;go_enter Tryz.func209,Tryz.ntmps209;go_wp2
  have q:Tryz.prog.underlying 142=some (.slice 199):=by kernel_rfl
  have E:i < n:=hi;refine bT (S:=fun w'=>w'.cell? ⟨g,0,none⟩=some (.slice (some ⟨G,0,none⟩) n C)/\w'.cell? ⟨G,i,none⟩=some (.slice (some ⟨p.b,0,none⟩) x p.c)/\w'.cell? ⟨G,i + 1,none⟩=some (.slice (some ⟨a.b,0,none⟩) y a.c)) (by kernel_rfl) ⟨d,o,f⟩ ?_
  have hS:=(show _/\_/\_ from⟨d,o,f⟩)
  refine ai 0 (some 5) (.int .i64 i) (by kernel_rfl) (fun _ _=>by kernel_rfl) (fun _ _ _ h=>h) hS ?_
  refine iH 1 (some 6) (.bool (decide ((0:Int)<=(i:Int)))) (.bool true) (by rw[decide_eq_true H]) (by kernel_rfl) (fun _ _=>by kernel_rfl) (fun _ _ _ h=>h) hS ?_
  refine ai 2 (some 7) (.bool true) (by kernel_rfl) (fun _ _=>by kernel_rfl) (fun _ _ _ h=>h) hS ?_
  refine ai 3 (some 8) (.int .i64 i) (by kernel_rfl) (fun _ _=>by kernel_rfl) (fun _ _ _ h=>h) hS ?_
  refine iH 4 (some 9) (.int .i64 (IntKind.i64.wrap ((i:Int) + 1))) (.int .i64 ((i:Int) + 1)) (by rw[u]) (by kernel_rfl) (fun _ _=>by kernel_rfl) (fun _ _ _ h=>h) hS ?_
  refine ai 5 (some 10) (.pointer (some ⟨g,0,none⟩)) (by kernel_rfl) (fun _ _=>by kernel_rfl) (fun _ _ _ h=>h) hS ?_
  refine ai 6 (some 11) (.pointer (some ⟨g,0,none⟩)) (by kernel_rfl) (fun _ _=>by kernel_rfl) (fun _ _ _ h=>h) hS ?_
  refine ai 7 (some 12) (.pointer (some ⟨g,0,none⟩)) (by kernel_rfl) (fun _ _=>by kernel_rfl) (fun _ _ _ h=>h) hS ?_
  refine aO 8 (some 13) (.slice (some ⟨G,0,none⟩) n C) 142 12 (g) (0) (by kernel_rfl) (by kernel_rfl) (by kernel_rfl) (fun w' h=>gg h.1) (fun _ _ _ h=>h) hS ?_
  refine ai 9 (some 14) (.int .i64 n) (by kernel_rfl) (fun _ _=>by kernel_rfl) (fun _ _ _ h=>h) hS ?_
  refine iH 10 (some 15) (.bool (decide ((i:Int) + 1 < (n:Int)))) (.bool true) (by rw[decide_eq_true (by omega)]) (by kernel_rfl) (fun _ _=>by kernel_rfl) (fun _ _ _ h=>h) hS ?_
  refine ai 11 (some 16) (.bool true) (by kernel_rfl) (fun _ _=>by kernel_rfl) (fun _ _ _ h=>h) hS ?_
  refine ai 12 (some 17) (.bool true) (by kernel_rfl) (fun _ _=>by kernel_rfl) (fun _ _ _ h=>h) hS ?_
  refine ai 13 (some 18) (.pointer (some ⟨g,0,none⟩)) (by kernel_rfl) (fun _ _=>by kernel_rfl) (fun _ _ _ h=>h) hS ?_
  refine ai 14 (some 19) (.pointer (some ⟨g,0,none⟩)) (by kernel_rfl) (fun _ _=>by kernel_rfl) (fun _ _ _ h=>h) hS ?_
  refine ai 15 (some 20) (.pointer (some ⟨g,0,none⟩)) (by kernel_rfl) (fun _ _=>by kernel_rfl) (fun _ _ _ h=>h) hS ?_
  refine aO 16 (some 21) (.slice (some ⟨G,0,none⟩) n C) 142 20 (g) (0) (by kernel_rfl) (by kernel_rfl) (by kernel_rfl) (fun w' h=>gg h.1) (fun _ _ _ h=>h) hS ?_
  refine ai 17 (some 22) (.int .i64 i) (by kernel_rfl) (fun _ _=>by kernel_rfl) (fun _ _ _ h=>h) hS ?_
  refine ai 18 (some 23) (.pointer (some ⟨G,i,none⟩)) (by kernel_rfl) (fun _ _=>eA (x:=21) (y:=22) (n:=n) (c:=C) (by kernel_rfl) q (by kernel_rfl) (by kernel_rfl) (rfl) (E)) (fun _ _ _ h=>h) hS ?_
  refine aO 19 (some 24) (.slice (some ⟨p.b,0,none⟩) x p.c) 199 23 (G) (i) (by kernel_rfl) (by kernel_rfl) (by kernel_rfl) (fun w' h=>pL h.2.1) (fun _ _ _ h=>h) hS ?_
  refine ai 20 (some 25) (.int .i64 x) (by kernel_rfl) (fun _ _=>by kernel_rfl) (fun _ _ _ h=>h) hS ?_
  refine ai 21 (some 26) (.pointer (some ⟨g,0,none⟩)) (by kernel_rfl) (fun _ _=>by kernel_rfl) (fun _ _ _ h=>h) hS ?_
  refine ai 22 (some 27) (.pointer (some ⟨g,0,none⟩)) (by kernel_rfl) (fun _ _=>by kernel_rfl) (fun _ _ _ h=>h) hS ?_
  refine ai 23 (some 28) (.pointer (some ⟨g,0,none⟩)) (by kernel_rfl) (fun _ _=>by kernel_rfl) (fun _ _ _ h=>h) hS ?_
  refine aO 24 (some 29) (.slice (some ⟨G,0,none⟩) n C) 142 28 (g) (0) (by kernel_rfl) (by kernel_rfl) (by kernel_rfl) (fun w' h=>gg h.1) (fun _ _ _ h=>h) hS ?_
  refine ai 25 (some 30) (.int .i64 i) (by kernel_rfl) (fun _ _=>by kernel_rfl) (fun _ _ _ h=>h) hS ?_
  refine iH 26 (some 31) (.int .i64 (IntKind.i64.wrap ((i:Int) + 1))) (.int .i64 ((i:Int) + 1)) (by rw[u]) (by kernel_rfl) (fun _ _=>by kernel_rfl) (fun _ _ _ h=>h) hS ?_
  refine ai 27 (some 32) (.pointer (some ⟨G,i + 1,none⟩)) (by kernel_rfl) (fun _ _=>eA (x:=29) (y:=31) (n:=n) (c:=C) (by kernel_rfl) q (by kernel_rfl) (by kernel_rfl) (show ((i:Int) + 1)=((i + 1:Nat):Int) from by omega) (s)) (fun _ _ _ h=>h) hS ?_
  refine aO 28 (some 33) (.slice (some ⟨a.b,0,none⟩) y a.c) 199 32 (G) (i + 1) (by kernel_rfl) (by kernel_rfl) (by kernel_rfl) (fun w' h=>pL h.2.2) (fun _ _ _ h=>h) hS ?_
  refine ai 29 (some 34) (.int .i64 y) (by kernel_rfl) (fun _ _=>by kernel_rfl) (fun _ _ _ h=>h) hS ?_
  refine iH 30 (some 35) (.int .i64 (IntKind.i64.wrap ((x:Int) + (y:Int)))) (.int .i64 ((x:Int) + (y:Int))) (by rw[z5]) (by kernel_rfl) (fun _ _=>by kernel_rfl) (fun _ _ _ h=>h) hS ?_
  refine ai 31 (some 36) (.bool (decide ((x:Int) + (y:Int)<=16))) (by kernel_rfl) (fun _ _=>by kernel_rfl) (fun _ _ _ h=>h) hS ?_
  refine ai 32 (some 37) (.bool (decide ((x:Int) + (y:Int)<=16))) (by kernel_rfl) (fun _ _=>by kernel_rfl) (fun _ _ _ h=>h) hS ?_
  refine ai 33 (some 4) (.bool (decide ((x:Int) + (y:Int)<=16))) (by kernel_rfl) (fun _ _=>by kernel_rfl) (fun _ _ _ h=>h) hS ?_
  refine bF (by kernel_rfl) ?_
  simp only[Act.put,List.setIfInBounds_toArray,List.set_cons_zero,List.set_cons_succ];go_wp2;go_ret;exact⟨by rw[B.out]; rfl,bV w⟩
 ·have B:Hid (jnb (ens L) i=false):=by
   show _=_
   unfold jnb;rw[l,decide_eq_false s,Bool.false_and]
  generalize k:L.length=n at *
  have z1:¬ ((i:Int) + 1 < n):=by omega
  have d:w.drew.cell? ⟨g,0,none⟩=some (.slice (some ⟨G,0,none⟩) n C):=cg;clear A hs r t k;go_enter Tryz.func209,Tryz.ntmps209;go_wp2;refine bT (S:=fun w'=>w'.cell? ⟨g,0,none⟩=some (.slice (some ⟨G,0,none⟩) n C)) (by kernel_rfl) d ?_
  have hS:=d;refine ai 0 (some 5) (.int .i64 i) (by kernel_rfl) (fun _ _=>by kernel_rfl) (fun _ _ _ h=>h) hS ?_
  refine iH 1 (some 6) (.bool (decide ((0:Int)<=(i:Int)))) (.bool true) (by rw[decide_eq_true H]) (by kernel_rfl) (fun _ _=>by kernel_rfl) (fun _ _ _ h=>h) hS ?_
  refine ai 2 (some 7) (.bool true) (by kernel_rfl) (fun _ _=>by kernel_rfl) (fun _ _ _ h=>h) hS ?_
  refine ai 3 (some 8) (.int .i64 i) (by kernel_rfl) (fun _ _=>by kernel_rfl) (fun _ _ _ h=>h) hS ?_
  refine iH 4 (some 9) (.int .i64 (IntKind.i64.wrap ((i:Int) + 1))) (.int .i64 ((i:Int) + 1)) (by rw[u]) (by kernel_rfl) (fun _ _=>by kernel_rfl) (fun _ _ _ h=>h) hS ?_
  refine ai 5 (some 10) (.pointer (some ⟨g,0,none⟩)) (by kernel_rfl) (fun _ _=>by kernel_rfl) (fun _ _ _ h=>h) hS ?_
  refine ai 6 (some 11) (.pointer (some ⟨g,0,none⟩)) (by kernel_rfl) (fun _ _=>by kernel_rfl) (fun _ _ _ h=>h) hS ?_
  refine ai 7 (some 12) (.pointer (some ⟨g,0,none⟩)) (by kernel_rfl) (fun _ _=>by kernel_rfl) (fun _ _ _ h=>h) hS ?_
  refine aO 8 (some 13) (.slice (some ⟨G,0,none⟩) n C) 142 12 (g) (0) (by kernel_rfl) (by kernel_rfl) (by kernel_rfl) (fun w' h=>gg h) (fun _ _ _ h=>h) hS ?_
  refine ai 9 (some 14) (.int .i64 n) (by kernel_rfl) (fun _ _=>by kernel_rfl) (fun _ _ _ h=>h) hS ?_
  refine iH 10 (some 15) (.bool (decide ((i:Int) + 1 < (n:Int)))) (.bool false) (by rw[decide_eq_false (by omega)]) (by kernel_rfl) (fun _ _=>by kernel_rfl) (fun _ _ _ h=>h) hS ?_
  refine ai 11 (some 16) (.bool false) (by kernel_rfl) (fun _ _=>by kernel_rfl) (fun _ _ _ h=>h) hS ?_
  refine ai 12 (some 17) (.bool false) (by kernel_rfl) (fun _ _=>by kernel_rfl) (fun _ _ _ h=>h) hS ?_
  refine cy 13 (some 18) (by kernel_rfl) (fun _ _ _ h=>h) hS ?_
  refine cy 14 (some 19) (by kernel_rfl) (fun _ _ _ h=>h) hS ?_
  refine cy 15 (some 20) (by kernel_rfl) (fun _ _ _ h=>h) hS ?_
  refine cy 16 (some 21) (by kernel_rfl) (fun _ _ _ h=>h) hS ?_
  refine cy 17 (some 22) (by kernel_rfl) (fun _ _ _ h=>h) hS ?_
  refine cy 18 (some 23) (by kernel_rfl) (fun _ _ _ h=>h) hS ?_
  refine cy 19 (some 24) (by kernel_rfl) (fun _ _ _ h=>h) hS ?_
  refine cy 20 (some 25) (by kernel_rfl) (fun _ _ _ h=>h) hS ?_
  refine cy 21 (some 26) (by kernel_rfl) (fun _ _ _ h=>h) hS ?_
  refine cy 22 (some 27) (by kernel_rfl) (fun _ _ _ h=>h) hS ?_
  refine cy 23 (some 28) (by kernel_rfl) (fun _ _ _ h=>h) hS ?_
  refine cy 24 (some 29) (by kernel_rfl) (fun _ _ _ h=>h) hS ?_
  refine cy 25 (some 30) (by kernel_rfl) (fun _ _ _ h=>h) hS ?_
  refine cy 26 (some 31) (by kernel_rfl) (fun _ _ _ h=>h) hS ?_
  refine cy 27 (some 32) (by kernel_rfl) (fun _ _ _ h=>h) hS ?_
  refine cy 28 (some 33) (by kernel_rfl) (fun _ _ _ h=>h) hS ?_
  refine cy 29 (some 34) (by kernel_rfl) (fun _ _ _ h=>h) hS ?_
  refine cy 30 (some 35) (by kernel_rfl) (fun _ _ _ h=>h) hS ?_
  refine cy 31 (some 36) (by kernel_rfl) (fun _ _ _ h=>h) hS ?_
  refine ai 32 (some 37) (.bool false) (by kernel_rfl) (fun _ _=>by kernel_rfl) (fun _ _ _ h=>h) hS ?_
  refine ai 33 (some 4) (.bool false) (by kernel_rfl) (fun _ _=>by kernel_rfl) (fun _ _ _ h=>h) hS ?_
  refine bF (by kernel_rfl) ?_
  simp only[Act.put,List.setIfInBounds_toArray,List.set_cons_zero,List.set_cons_succ];go_wp2;go_ret;exact⟨by rw[B.out]; rfl,bV w⟩
end
end Pg
end
section
namespace Pg
open Go.RowKit Go.Lib
section
variable {L:List Pg}{i:Nat}{p p2:Pg}{w:World}{F D:Nat->Prop}
theorem ens_jn{q:Pg}(c:L[i]? = some p)(b:L[i + 1]? = some p2)(d:q.es=p.es ++ p2.es):ens ((L.set i q).take (i + 1) ++ (L.set i q).drop (i + 2))=jnQ (ens L) i:=by
 have a:=(List.getElem?_eq_some_iff.1 c).1;unfold jnQ;rw[eO c,eO b,<- d]
 have e1:(L.set i q).take (i + 1)=L.take i ++ [q]:=by
  rw[List.take_add_one,List.take_set_of_le (Nat.le_refl _),List.getElem?_set_self a]; rfl
 rw[e1,List.drop_set_of_lt (by omega)];simp[ens,List.map_take,List.map_drop]
theorem AN{g:Nat}(A:bJ w F D g L)(hp:L[i]? = some p)(hp2:L[i + 1]? = some p2)(hn:L.length<=100000000)(h0:0 < p.es.length)(hs1:p.es.length<=1000)(hs2:p2.es.length<=1000) :
  Calls Tryz.prog 210 #[.pointer (some ⟨g,0,none⟩),.int .i64 i] w fun e w'=>∃ F' L',e=.returned (.tuple #[])/\ens L'=jnQ (ens L) i/\bJ w' F' D g L'/\(∀ b,F' b->F b\/w.heap.size<=b)/\Chg F w w':=by
 have hil:=(List.getElem?_eq_some_iff.1 hp).1;have hil2:=(List.getElem?_eq_some_iff.1 hp2).1
 have hL:L≠[]:=fun e=>by subst e; simp at hil
 obtain⟨G,C,hg,hFg,hFG,Z⟩:=A.opn hL;have U:=A.bX p (List.mem_of_getElem? hp);have o:=A.bX p2 (List.mem_of_getElem? hp2);have cg:=hg.cell (i:=0) rfl;have cG:=Z.cell (i:=i) (v:=p.v) (by simp[hp]);have r:=Z.cell (i:=i + 1) (v:=p2.v) (by simp[hp2]);have hCC:=Z.le;simp only[maxLen] at hCC;obtain⟨n,d⟩:∃ n,Hid (L.length=n):=⟨_,rfl⟩
 obtain⟨x,s⟩:∃ m,Hid (p.es.length=m):=⟨_,rfl⟩
 obtain⟨y,J⟩:∃ m,Hid (p2.es.length=m):=⟨_,rfl⟩
 simp only[Pg.v] at cG r;rw[d.out] at cg;rw[s.out] at cG;rw[J.out] at r
 have z1:(i:Int) < n:=by have:=d.out; omega
 have z2:(i:Int) + 1 < n:=by have:=d.out; omega
 have w1:IntKind.i64.wrap ((i:Int) + 1)=(i:Int) + 1:=by rw[IntKind.wrap_i64]; have:=d.out; omega
 have z3:((i:Int) + 1).toNat=i + 1:=by omega
 have z4:(0:Int)<=(i:Int) + 1:=by omega
 have cgd:w.drew.cell? ⟨g,0,none⟩=some (.slice (some ⟨G,0,none⟩) n C):=cg
 have cGd:w.drew.cell? ⟨G,i,none⟩=some (.slice (some ⟨p.b,0,none⟩) x p.c):=cG
 have O:w.drew.cell? ⟨G,i + 1,none⟩=some (.slice (some ⟨p2.b,0,none⟩) y p2.c):=r
 have t:g≠G:=fun e=>Z.eW hg e.symm
 obtain⟨I,K⟩:∃ I,Hid (I=w.drew.alloc (.cells #[.slice (some ⟨p.b,0,none⟩) x p.c,.slice (some ⟨p2.b,0,none⟩) y p2.c] 199)):=⟨_,rfl⟩
 have M:Below w.heap.size w I:=by rw[K.out]; exact aj (bV w) (ae w.drew _)
 have V1:Blk I w.heap.size [.slice (some ⟨p.b,0,none⟩) x p.c,.slice (some ⟨p2.b,0,none⟩) y p2.c] 199:=by rw[K.out]; exact aC w.drew _ _
 have t1:=Cy V1 ((s.out▸U.1.row).keep M) ((J.out▸o.1.row).keep M) (by have:=s.out; omega) (by have:=s.out; omega) (by have:=J.out; omega) U.1.one o.1.one
 have u:I.cell? ⟨g,0,none⟩=_:=(M.cell (p:=⟨g,0,none⟩) (aI cg)).trans cg
 have P:I.cell? ⟨G,i,none⟩=_:=(M.cell (p:=⟨G,i,none⟩) (aI cG)).trans cG
 have f:I.cell? ⟨G,i + 1,none⟩=_:=(M.cell (p:=⟨G,i + 1,none⟩) (aI r)).trans r
 have hin:i < n:=by have:=d.out; omega
 have hin2:i + 1 < n:=by have:=d.out; omega
 have hS1:=(show _/\_ from⟨u,f⟩)
 rw[K.out] at hS1 t1;go_enter Tryz.func210,Tryz.ntmps210;go_wp2
 have V:Tryz.prog.underlying 142=some (.slice 199):=by kernel_rfl
 refine qm (X:=Nat × Nat) (fun z=>[(some 4,.pointer (some ⟨g,0,none⟩)),(some 5,.pointer (some ⟨g,0,none⟩)),(some 6,.pointer (some ⟨g,0,none⟩)),(some 7,.slice (some ⟨G,0,none⟩) n C),(some 8,.int .i64 i),(some 9,.pointer (some ⟨g,0,none⟩)),(some 10,.pointer (some ⟨g,0,none⟩)),(some 11,.pointer (some ⟨g,0,none⟩)),(some 12,.slice (some ⟨G,0,none⟩) n C),(some 13,.int .i64 i),(some 14,.pointer (some ⟨G,i,none⟩)),(some 15,.slice (some ⟨p.b,0,none⟩) x p.c),(some 16,.pointer (some ⟨g,0,none⟩)),(some 17,.pointer (some ⟨g,0,none⟩)),(some 18,.pointer (some ⟨g,0,none⟩)),(some 19,.slice (some ⟨G,0,none⟩) n C),(some 20,.int .i64 i),(some 21,.int .i64 ((i:Int) + 1)),(some 22,.pointer (some ⟨G,i + 1,none⟩)),(some 23,.slice (some ⟨p2.b,0,none⟩) y p2.c),(some 24,.slice (some ⟨w.heap.size,0,none⟩) 2 2),(some 25,.slice (some ⟨z.1,0,none⟩) (x + y) z.2),(some 26,.pointer (some ⟨G,i,none⟩))]) (fun z w'=>∃ j,w'=j.setCell ⟨G,i,none⟩ (.slice (some ⟨z.1,0,none⟩) (x + y) z.2)/\I.heap.size<=z.1/\Rw j 196 2 z.1 (x + y) z.2 (flat p.es ++ flat p2.es)/\Below I.heap.size I j) (fun w'=>w'.cell? ⟨g,0,none⟩=some (.slice (some ⟨G,0,none⟩) n C)/\w'.cell? ⟨G,i + 1,none⟩=some (.slice (some ⟨p2.b,0,none⟩) y p2.c)) (by kernel_rfl) ⟨cgd,O⟩ ?_ ?_
 ·have hS:=(show _/\_ from⟨cgd,O⟩)
  refine ai 0 (some 4) (.pointer (some ⟨g,0,none⟩)) (by kernel_rfl) (fun _ _=>by kernel_rfl) (fun _ _ _ h=>h) hS ?_
  refine ai 1 (some 5) (.pointer (some ⟨g,0,none⟩)) (by kernel_rfl) (fun _ _=>by kernel_rfl) (fun _ _ _ h=>h) hS ?_
  refine ai 2 (some 6) (.pointer (some ⟨g,0,none⟩)) (by kernel_rfl) (fun _ _=>by kernel_rfl) (fun _ _ _ h=>h) hS ?_
  refine aO 3 (some 7) (.slice (some ⟨G,0,none⟩) n C) 142 6 (g) (0) (by kernel_rfl) (by kernel_rfl) (by kernel_rfl) (fun w' h=>gg h.1) (fun _ _ _ h=>h) hS ?_
  refine ai 4 (some 8) (.int .i64 i) (by kernel_rfl) (fun _ _=>by kernel_rfl) (fun _ _ _ h=>h) hS ?_
  refine ai 5 (some 9) (.pointer (some ⟨g,0,none⟩)) (by kernel_rfl) (fun _ _=>by kernel_rfl) (fun _ _ _ h=>h) hS ?_
  refine ai 6 (some 10) (.pointer (some ⟨g,0,none⟩)) (by kernel_rfl) (fun _ _=>by kernel_rfl) (fun _ _ _ h=>h) hS ?_
  refine ai 7 (some 11) (.pointer (some ⟨g,0,none⟩)) (by kernel_rfl) (fun _ _=>by kernel_rfl) (fun _ _ _ h=>h) hS ?_
  refine aO 8 (some 12) (.slice (some ⟨G,0,none⟩) n C) 142 11 (g) (0) (by kernel_rfl) (by kernel_rfl) (by kernel_rfl) (fun w' h=>gg h.1) (fun _ _ _ h=>h) hS ?_
  refine ai 9 (some 13) (.int .i64 i) (by kernel_rfl) (fun _ _=>by kernel_rfl) (fun _ _ _ h=>h) hS ?_
  refine ai 10 (some 14) (.pointer (some ⟨G,i,none⟩)) (by kernel_rfl) (fun _ _=>eA (x:=12) (y:=13) (n:=n) (c:=C) (by kernel_rfl) V (by kernel_rfl) (by kernel_rfl) (rfl) (hin)) (fun _ _ _ h=>h) hS ?_
  refine ai 12 (some 16) (.pointer (some ⟨g,0,none⟩)) (by kernel_rfl) (fun _ _=>by kernel_rfl) (fun _ _ _ h=>h) hS ?_
  refine ai 13 (some 17) (.pointer (some ⟨g,0,none⟩)) (by kernel_rfl) (fun _ _=>by kernel_rfl) (fun _ _ _ h=>h) hS ?_
  refine ai 14 (some 18) (.pointer (some ⟨g,0,none⟩)) (by kernel_rfl) (fun _ _=>by kernel_rfl) (fun _ _ _ h=>h) hS ?_
  refine aO 15 (some 19) (.slice (some ⟨G,0,none⟩) n C) 142 18 (g) (0) (by kernel_rfl) (by kernel_rfl) (by kernel_rfl) (fun w' h=>gg h.1) (fun _ _ _ h=>h) hS ?_
  refine ai 16 (some 20) (.int .i64 i) (by kernel_rfl) (fun _ _=>by kernel_rfl) (fun _ _ _ h=>h) hS ?_
  refine iH 17 (some 21) (.int .i64 (IntKind.i64.wrap ((i:Int) + 1))) (.int .i64 ((i:Int) + 1)) (by rw[w1]) (by kernel_rfl) (fun _ _=>by kernel_rfl) (fun _ _ _ h=>h) hS ?_
  refine ai 18 (some 22) (.pointer (some ⟨G,i + 1,none⟩)) (by kernel_rfl) (fun _ _=>eA (x:=19) (y:=21) (n:=n) (c:=C) (by kernel_rfl) V (by kernel_rfl) (by kernel_rfl) (show ((i:Int) + 1)=((i + 1:Nat):Int) from by omega) (hin2)) (fun _ _ _ h=>h) hS ?_
  refine aO 19 (some 23) (.slice (some ⟨p2.b,0,none⟩) y p2.c) 199 22 (G) (i + 1) (by kernel_rfl) (by kernel_rfl) (by kernel_rfl) (fun w' h=>pL h.2) (fun _ _ _ h=>h) hS ?_
  refine aK [11] (by kernel_rfl) (by simp) ?_
  refine bH 11 (some 15) (.slice (some ⟨p.b,0,none⟩) x p.c) _ (by kernel_rfl) (iU 14 (by kernel_rfl) (by kernel_rfl) (pL cGd)) hS ?_ aW;refine aK [20] (by kernel_rfl) (by simp) ?_
  refine bH 20 (some 24) (.slice (some ⟨w.heap.size,0,none⟩) 2 2) _ (by kernel_rfl) (Ci (x:=15) (y:=23) (by kernel_rfl) (by kernel_rfl) (by kernel_rfl)) hS1 ?_ aW;refine bN 21 (some 25) 240 #[.slice (some ⟨w.heap.size,0,none⟩) 2 2] (by kernel_rfl) (by kernel_rfl) t1 ?_
  rintro e' j ⟨b2,Q,rfl,l,R2,R⟩;rw[<- K.out] at R l
  have W:j.cell? ⟨g,0,none⟩=_:=(R.cell (p:=⟨g,0,none⟩) (aI u)).trans u
  have cGi2:j.cell? ⟨G,i,none⟩=_:=(R.cell (p:=⟨G,i,none⟩) (aI P)).trans P
  have B:j.cell? ⟨G,i + 1,none⟩=_:=(R.cell (p:=⟨G,i + 1,none⟩) (aI f)).trans f
  have fG2:j.frozen? ⟨G,i,none⟩=false:=((Z.keep M).keep R).free i;refine⟨_,rfl,⟨W,B⟩,?_⟩;replace hS:=(show _/\_ from⟨W,B⟩)
  refine ai 22 (some 26) (.pointer (some ⟨G,i,none⟩)) (by kernel_rfl) (fun _ _=>eA (x:=7) (y:=8) (n:=n) (c:=C) (by kernel_rfl) V (by kernel_rfl) (by kernel_rfl) (rfl) (hin)) (fun _ _ _ h=>h) hS ?_
  refine aK [23] (by kernel_rfl) (by simp) ?_
  refine dm 23 (j.setCell ⟨G,i,none⟩ (.slice (some ⟨b2,0,none⟩) (x + y) Q)) (by kernel_rfl) (j3 26 25 (by kernel_rfl) (by kernel_rfl) (by kernel_rfl) cGi2 fG2) ⟨bQ t W,yg (by omega) B⟩ ?_ aW;refine bF (by kernel_rfl) ?_
  exact⟨(b2,Q),by kernel_rfl,j,rfl,l,R2,R⟩
 rintro⟨b2,Q⟩ w' ⟨j,rfl,l,R2,R⟩;dsimp only at l R2;simp only[iR,Act.put,List.setIfInBounds_toArray,List.set_cons_zero,List.set_cons_succ]
 have N:Below w.heap.size w j:=aj M R;obtain⟨q,hq⟩:∃ q:Pg,Hid (q=⟨b2,Q,p.es ++ p2.es⟩):=⟨_,rfl⟩
 have hlen:(p.es ++ p2.es).length=x + y:=by rw[List.length_append,s.out,J.out]
 have hA':PgA j D q:=by
  rw[hq.out];refine⟨?_,fun e he => ?_⟩
  ·show Rw j _ 2 b2 (p.es ++ p2.es).length Q _
   rw[hlen,eb]; exact R2
  ·rcases List.mem_append.1 he with h | h
   ·exact(U.1.dI e h).keep N
   ·exact(o.1.dI e h).keep N
 have hv':q.v=.slice (some ⟨b2,0,none⟩) (x + y) Q:=by rw[hq.out]; simp only[Pg.v]; rw[hlen]
 have hqb:q.b=b2:=by rw[hq.out]
 have hqe:q.es=p.es ++ p2.es:=by rw[hq.out]
 obtain⟨Y,C3⟩:=A.put (p':=q) (D':=D) hg hFg hFG Z hp (Chg.of N) (.inr (by rw[hqb]; exact Nat.le_trans M.size l)) hA' (fun _ _ h=>h);rw[hv',hqb] at Y;rw[hv'] at C3
 have hF3:∀ b,((F b/\b≠p.b)\/b=b2)->F b\/w.heap.size<=b:=fun b h=>h.imp (fun h=>h.1) (fun h=>by rw[h]; exact Nat.le_trans M.size l)
 have k:=(hg.keep N).off t (i:=i) (.slice (some ⟨b2,0,none⟩) (x + y) Q);generalize (j.setCell ⟨G,i,none⟩ (.slice (some ⟨b2,0,none⟩) (x + y) Q))=W3 at *;generalize hF3d:(fun x=>(F x/\x≠p.b)\/x=b2)=F3 at Y
 have E:∀ b,F3 b->F b\/w.heap.size<=b:=fun b h=>hF3 b (by rw[<- hF3d] at h; exact h)
 obtain⟨G2,D3,hg3,hFg3,S,hR3⟩:=Y.opn (by simp[hL]);obtain⟨rfl,rfl⟩:G2=G/\D3=C:=by
  have:=(hg3.eq k).1;simp at this;exact⟨this.1,this.2⟩
 have cg3:W3.cell? ⟨g,0,none⟩=some (.slice (some ⟨G2,0,none⟩) n D3):=by
  have:=k.cell (i:=0) rfl;rwa [d.out] at this
 have T:=hR3;rw[List.length_set,d.out] at T;have t4:=delP (i:=i + 1) T (by have:=d.out; omega) (si _);rw[show ((i + 1:Nat):Int)=(i:Int) + 1 by omega,show (i:Int) + 1 + 1=(i:Int) + 2 by omega] at t4
 have w2':IntKind.i64.wrap ((i:Int) + 2)=(i:Int) + 2:=by rw[IntKind.wrap_i64]; have:=d.out; omega
 go_wp2_with (go_at_call 208; refine t4.mono ?_; rintro e' w5 ⟨rfl,R5,C5⟩; have cg5:w5.cell? ⟨g,0,none⟩=_:=(World.cell?_of_block (a:=⟨g,0,none⟩) (C5.same g (aI cg3) t)).trans cg3; have fg5:w5.frozen? ⟨g,0,none⟩=false:=(k.chg C5 t).free 0);go_end0
 have H:((L.set i q).take (i + 1) ++ (L.set i q).drop (i + 2)).Sublist (L.set i q):=by
  have h:=List.Sublist.append (List.Sublist.refl ((L.set i q).take (i + 1))) (List.drop_sublist 1 ((L.set i q).drop (i + 1)));rw[List.drop_drop,List.take_append_drop] at h;exact h
 obtain⟨A6,C6⟩:=jW (w:=W3) (w1:=w5) (F:=F3) (D:=D) (g:=g) (G:=G2) (G':=G2) (C':=D3) (n:=n - 1) (L':=(L.set i q).take (i + 1) ++ (L.set i q).drop (i + 2))
  (fun p hp=>Y.bX p (H.mem hp)) (Y.apart.sublist (H.map _)) Y.kind k hFg3 S (fun e=>t e.symm) C5 (fun p hp=>(Y.bX p (H.mem hp)).1.eV hR3)
  (by simp; have:=d.out; omega) (by simpa[List.map_take,List.map_drop] using R5)
 refine⟨_,_,rfl,ens_jn hp hp2 hqe,A6,fun b hb => ?_,C3.trans C6 fun b hb h=>(E b h).resolve_right (by omega)⟩;rcases hb with⟨h,_⟩ | rfl
 ·exact E b h
 ·exact E _ S
end
end Pg
end
section
namespace Pg
open Go.RowKit Go.Lib
def rmQ (P:List (List En)) (i q:Nat):List (List En) :=
 let es:=(P.getD i []).take q ++ (P.getD i []).drop (q + 1)
 if es=[] then P.take i ++ P.drop (i + 1)
 else
  let P1:=P.set i es
  if jnb P1 i then jnQ P1 i else if 1<=i/\jnb P1 (i - 1) then jnQ P1 (i - 1) else P1
def gI (P:List (List En)) (k:List Int):List (List En) :=
 if has P k then rmQ P (pgi P k) (plc (kys (P.getD (pgi P k) [])) k) else P
theorem C9 (es:List En) (q:Nat):(flat es).take (q * 2) ++ (flat es).drop ((q + 1) * 2)=flat (es.take q ++ es.drop (q + 1)):=by
 rw[ix,iB,eb]
theorem uj {w:World} {F D:Nat->Prop} {g i q:Nat} {L:List Pg} {p:Pg} (A:bJ w F D g L) (hi:L[i]? = some p) (hq:q < p.es.length) (hs:∀ es∈ens L,es.length<=32) (hf:∀ es∈ens L,es≠[]) (hn:L.length<=100000000) :
  Calls Tryz.prog 171 #[.pointer (some ⟨g,0,none⟩),.int .i64 i,.int .i64 q] w fun e' w'=>∃ F' L',e'=.returned (.tuple #[])/\ens L'=rmQ (ens L) i q/\bJ w' F' D g L'/\(∀ b,F' b->F b\/w.heap.size<=b)/\Chg F w w':=by
 have hil:=(List.getElem?_eq_some_iff.1 hi).1
 have hL:L≠[]:=fun e=>by subst e; simp at hil
 obtain⟨G,C,hg,hFg,hFG,hR⟩:=A.opn hL;have I:=A.bX p (List.mem_of_getElem? hi);have h2:=hs p.es (List.mem_map.2 ⟨p,List.mem_of_getElem? hi,rfl⟩);have cg:=hg.cell (i:=0) rfl;have cG:=hR.cell (i:=i) (v:=p.v) (by simp[hi]);obtain⟨n,u⟩:∃ n,Hid (L.length=n):=⟨_,rfl⟩
 obtain⟨m,J⟩:∃ m,Hid (p.es.length=m):=⟨_,rfl⟩
 simp only[Pg.v] at cG;rw[u.out] at cg;rw[J.out] at cG
 have aa:w.drew.cell? ⟨g,0,none⟩=some (.slice (some ⟨G,0,none⟩) n C):=cg
 have cGd:w.drew.cell? ⟨G,i,none⟩=some (.slice (some ⟨p.b,0,none⟩) m p.c):=cG
 have E:g≠G:=fun e=>hR.eW hg e.symm
 have ng:g≠p.b:=fun e=>I.1.eW hg e.symm
 have nG:G≠p.b:=fun e=>I.1.eV hR e.symm
 have hin:i < n:=by have:=u.out; omega
 have w1:IntKind.i64.wrap ((q:Int) + 1)=(q:Int) + 1:=by rw[IntKind.wrap_i64]; omega
 have t1:=delE (i:=q) I.1.row.drew hq I.1.one;rw[J.out] at t1;go_enter Tryz.func171,Tryz.ntmps171;go_wp2
 have hpp:Tryz.prog.underlying 142=some (.slice 199):=by kernel_rfl
 refine qm (X:=Unit) (fun _=>[(some 6,.pointer (some ⟨g,0,none⟩)),(some 7,.pointer (some ⟨g,0,none⟩)),(some 8,.pointer (some ⟨g,0,none⟩)),(some 9,.slice (some ⟨G,0,none⟩) n C),(some 10,.int .i64 i),(some 11,.pointer (some ⟨g,0,none⟩)),(some 12,.pointer (some ⟨g,0,none⟩)),(some 13,.pointer (some ⟨g,0,none⟩)),(some 14,.slice (some ⟨G,0,none⟩) n C),(some 15,.int .i64 i),(some 16,.pointer (some ⟨G,i,none⟩)),(some 17,.slice (some ⟨p.b,0,none⟩) m p.c),(some 18,.int .i64 q),(some 19,.int .i64 q),(some 20,.int .i64 ((q:Int) + 1)),(some 21,.slice (some ⟨p.b,0,none⟩) (m - 1) p.c),(some 22,.pointer (some ⟨G,i,none⟩))]) (fun _ w'=>∃ t,w'=t.setCell ⟨G,i,none⟩ (.slice (some ⟨p.b,0,none⟩) (m - 1) p.c)/\Rw t 196 2 p.b (m - 1) p.c ((flat p.es).take (q * 2) ++ (flat p.es).drop ((q + 1) * 2))/\Chg (· = p.b) w.drew t) (fun w'=>w'.cell? ⟨g,0,none⟩=some (.slice (some ⟨G,0,none⟩) n C)) (by kernel_rfl) aa ?_ ?_
 ·have hS:=aa;refine ai 0 (some 6) (.pointer (some ⟨g,0,none⟩)) (by kernel_rfl) (fun _ _=>by kernel_rfl) (fun _ _ _ h=>h) hS ?_
  refine ai 1 (some 7) (.pointer (some ⟨g,0,none⟩)) (by kernel_rfl) (fun _ _=>by kernel_rfl) (fun _ _ _ h=>h) hS ?_
  refine ai 2 (some 8) (.pointer (some ⟨g,0,none⟩)) (by kernel_rfl) (fun _ _=>by kernel_rfl) (fun _ _ _ h=>h) hS ?_
  refine aO 3 (some 9) (.slice (some ⟨G,0,none⟩) n C) 142 8 (g) (0) (by kernel_rfl) (by kernel_rfl) (by kernel_rfl) (fun w' h=>gg h) (fun _ _ _ h=>h) hS ?_
  refine ai 4 (some 10) (.int .i64 i) (by kernel_rfl) (fun _ _=>by kernel_rfl) (fun _ _ _ h=>h) hS ?_
  refine ai 5 (some 11) (.pointer (some ⟨g,0,none⟩)) (by kernel_rfl) (fun _ _=>by kernel_rfl) (fun _ _ _ h=>h) hS ?_
  refine ai 6 (some 12) (.pointer (some ⟨g,0,none⟩)) (by kernel_rfl) (fun _ _=>by kernel_rfl) (fun _ _ _ h=>h) hS ?_
  refine ai 7 (some 13) (.pointer (some ⟨g,0,none⟩)) (by kernel_rfl) (fun _ _=>by kernel_rfl) (fun _ _ _ h=>h) hS ?_
  refine aO 8 (some 14) (.slice (some ⟨G,0,none⟩) n C) 142 13 (g) (0) (by kernel_rfl) (by kernel_rfl) (by kernel_rfl) (fun w' h=>gg h) (fun _ _ _ h=>h) hS ?_
  refine ai 9 (some 15) (.int .i64 i) (by kernel_rfl) (fun _ _=>by kernel_rfl) (fun _ _ _ h=>h) hS ?_
  refine ai 10 (some 16) (.pointer (some ⟨G,i,none⟩)) (by kernel_rfl) (fun _ _=>eA (x:=14) (y:=15) (n:=n) (c:=C) (by kernel_rfl) hpp (by kernel_rfl) (by kernel_rfl) (rfl) (hin)) (fun _ _ _ h=>h) hS ?_
  refine ai 12 (some 18) (.int .i64 q) (by kernel_rfl) (fun _ _=>by kernel_rfl) (fun _ _ _ h=>h) hS ?_
  refine ai 13 (some 19) (.int .i64 q) (by kernel_rfl) (fun _ _=>by kernel_rfl) (fun _ _ _ h=>h) hS ?_
  refine iH 14 (some 20) (.int .i64 (IntKind.i64.wrap ((q:Int) + 1))) (.int .i64 ((q:Int) + 1)) (by rw[w1]) (by kernel_rfl) (fun _ _=>by kernel_rfl) (fun _ _ _ h=>h) hS ?_
  refine aK [11] (by kernel_rfl) (by simp) ?_
  refine bH 11 (some 17) (.slice (some ⟨p.b,0,none⟩) m p.c) _ (by kernel_rfl) (iU 16 (by kernel_rfl) (by kernel_rfl) (pL cGd)) hS ?_ aW;refine bN 15 (some 21) 207 #[.slice (some ⟨p.b,0,none⟩) m p.c,.int .i64 q,.int .i64 ((q:Int) + 1)] (by kernel_rfl) (by kernel_rfl) t1 ?_
  rintro e' t ⟨rfl,R2,C2⟩
  have K:t.cell? ⟨g,0,none⟩=_:=(World.cell?_of_block (a:=⟨g,0,none⟩) (C2.same g (aI aa) ng)).trans aa
  have cG2:t.cell? ⟨G,i,none⟩=_:=(World.cell?_of_block (a:=⟨G,i,none⟩) (C2.same _ (aI cGd) nG)).trans cGd
  have fG2:t.frozen? ⟨G,i,none⟩=false:=(hR.drew.chg C2 nG).free i;refine⟨_,rfl,K,?_⟩;replace hS:=K;refine ai 16 (some 22) (.pointer (some ⟨G,i,none⟩)) (by kernel_rfl) (fun _ _=>eA (x:=9) (y:=10) (n:=n) (c:=C) (by kernel_rfl) hpp (by kernel_rfl) (by kernel_rfl) (rfl) (hin)) (fun _ _ _ h=>h) hS ?_
  refine aK [17] (by kernel_rfl) (by simp) ?_
  refine dm 17 (t.setCell ⟨G,i,none⟩ (.slice (some ⟨p.b,0,none⟩) (m - 1) p.c)) (by kernel_rfl) (j3 22 21 (by kernel_rfl) (by kernel_rfl) (by kernel_rfl) cG2 fG2) (bQ E K) ?_ aW;refine bF (by kernel_rfl) ?_
  exact⟨(),by kernel_rfl,t,rfl,R2,C2⟩
 rintro - w' ⟨t,rfl,R2,C2⟩;simp only[iR,Act.put,List.setIfInBounds_toArray,List.set_cons_zero,List.set_cons_succ]
 have M:Chg (· = p.b) w t:=(Chg.of (F:=(· = p.b)) (bV w)).trans C2 (fun _ _ h=>h);obtain⟨p',ab⟩:∃ p':Pg,Hid (p'=⟨p.b,p.c,p.es.take q ++ p.es.drop (q + 1)⟩):=⟨_,rfl⟩
 have hlen:(p.es.take q ++ p.es.drop (q + 1)).length=m - 1:=by have:=J.out; simp; omega
 have hA':PgA t D p':=by
  rw[ab.out];refine⟨?_,fun e he => ?_⟩
  ·show Rw t _ 2 p.b (p.es.take q ++ p.es.drop (q + 1)).length p.c _
   rw[hlen]; exact R2.to (C9 p.es q)
  ·have he':e∈p.es:=by
    rcases List.mem_append.1 he with h | h
    ·exact List.mem_of_mem_take h
    ·exact List.mem_of_mem_drop h
   refine(I.1.dI e he').off fun b hb hk=>M.same b hb fun f => ?_
   subst f;obtain⟨cs,k⟩:=hk;obtain⟨ds,k'⟩:=I.1.row.kind;exact eB k k' (by decide) rfl
 have hv':p'.v=.slice (some ⟨p.b,0,none⟩) (m - 1) p.c:=by rw[ab.out]; simp only[Pg.v]; rw[hlen]
 have hb':p'.b=p.b:=by rw[ab.out]
 have he':p'.es=p.es.take q ++ p.es.drop (q + 1):=by rw[ab.out]
 obtain⟨z,Y⟩:=A.put (p':=p') (D':=D) hg hFg hFG hR hi M (.inl hb') hA' (fun _ _ h=>h);rw[hv',hb'] at z;rw[hv'] at Y
 have hF3:∀ b,((F b/\b≠p.b)\/b=p.b)->F b:=fun b h=>h.elim (fun h=>h.1) (fun h=>by rw[h]; exact I.2)
 have K:t.cell? ⟨g,0,none⟩=_:=(World.cell?_of_block (a:=⟨g,0,none⟩) (M.same g (aI cg) ng)).trans cg
 have cG2:t.cell? ⟨G,i,none⟩=_:=(World.cell?_of_block (a:=⟨G,i,none⟩) (M.same _ (aI cG) nG)).trans cG
 have cg3:(t.setCell ⟨G,i,none⟩ (.slice (some ⟨p.b,0,none⟩) (m - 1) p.c)).cell? ⟨g,0,none⟩=some (.slice (some ⟨G,0,none⟩) n C):=bQ E K
 have ac:(t.setCell ⟨G,i,none⟩ (.slice (some ⟨p.b,0,none⟩) (m - 1) p.c)).cell? ⟨G,i,none⟩=some (.slice (some ⟨p.b,0,none⟩) (m - 1) p.c):=World.cell?_setCell_same' _ _ _ (by rw[cG2]; rfl);have N:=(hg.chg M ng).off E (i:=i) (.slice (some ⟨p.b,0,none⟩) (m - 1) p.c);generalize (t.setCell ⟨G,i,none⟩ (.slice (some ⟨p.b,0,none⟩) (m - 1) p.c))=W3 at *;generalize hF3d:(fun x=>(F x/\x≠p.b)\/x=p.b)=F3 at z
 have d:∀ b,F3 b->F b:=fun b h=>hF3 b (by rw[<- hF3d] at h; exact h)
 have hi3:(L.set i p')[i]? = some p':=by rw[List.getElem?_set_self hil]
 have hE3:ens (L.set i p')=(ens L).set i (p.es.take q ++ p.es.drop (q + 1)):=by rw[qi,he']
 have ad:∀ es∈ens (L.set i p'),es.length<=32:=fun es he=>by
  rw[hE3] at he;rcases List.mem_or_eq_of_mem_set he with h | h
  ·exact hs es h
  ·rw[h,hlen]; have:=J.out; omega
 have B:(L.set i p').length=n:=by rw[List.length_set]; exact u.out
 have O:p.es.take q ++ p.es.drop (q + 1)=[]\/p.es.take q ++ p.es.drop (q + 1)≠[]:=Classical.em _
 have l:Hid (rmQ (ens L) i q=if p.es.take q ++ p.es.drop (q + 1)=[] then (ens L).take i ++ (ens L).drop (i + 1) else if jnb (ens (L.set i p')) i then jnQ (ens (L.set i p')) i else if 1<=i/\jnb (ens (L.set i p')) (i - 1) then jnQ (ens (L.set i p')) (i - 1) else ens (L.set i p')):=by
  show _=_
  unfold rmQ;rw[eO hi,hE3]
 rcases O with O | O
 ·have ae:m=1:=by rw[O] at hlen; simp at hlen; have:=J.out; omega
  obtain⟨G2,D3,hg3,hFg3,hFG3,hR3⟩:=z.opn (by simp[hL]);obtain⟨rfl,rfl⟩:G2=G/\D3=C:=by
   have:=(hg3.eq N).1;simp at this;exact⟨this.1,this.2⟩
  have hR3':=hR3;rw[B] at hR3';have t4:=delP (i:=i) hR3' (by omega) (si _)
  have w3:IntKind.i64.wrap ((i:Int) + 1)=(i:Int) + 1:=by rw[IntKind.wrap_i64]; have:=u.out; omega
  have cG3':W3.cell? ⟨G2,i,none⟩=some (.slice (some ⟨p.b,0,none⟩) 0 p.c):=by rw[ae] at ac; exact ac
  have z1:(i:Int) < n:=by omega
  have P:((L.set i p').take i ++ (L.set i p').drop (i + 1)).Sublist (L.set i p'):=by
   have h:=List.Sublist.append (List.Sublist.refl ((L.set i p').take i)) (List.drop_sublist 1 ((L.set i p').drop i));rw[List.drop_drop,List.take_append_drop] at h;exact h
  have o:Hid (ens ((L.set i p').take i ++ (L.set i p').drop (i + 1))=rmQ (ens L) i q):=by
   show _=_
   rw[l.out,if_pos O,List.take_set_of_le (Nat.le_refl _),List.drop_set_of_lt (by omega)];simp[ens,List.map_take,List.map_drop]
  have HX:Hid _:=O;clear O l ac ae;go_wp2_with (go_at_call 208; refine t4.mono ?_; rintro e' Z ⟨rfl,R5,C5⟩; have cg5:Z.cell? ⟨g,0,none⟩=_:=(World.cell?_of_block (a:=⟨g,0,none⟩) (C5.same g (aI cg3) E)).trans cg3; have fg5:Z.frozen? ⟨g,0,none⟩=false:=(N.chg C5 E).free 0);go_end0;obtain⟨A6,C6⟩:=jW (w:=W3) (w1:=Z) (F:=F3) (D:=D) (g:=g) (G:=G2) (G':=G2) (C':=D3) (n:=n - 1) (L':=(L.set i p').take i ++ (L.set i p').drop (i + 1))
   (fun p I=>z.bX p (P.mem I)) (z.apart.sublist (P.map _)) z.kind N hFg3 hFG3 (fun e=>E e.symm) C5 (fun p I=>(z.bX p (P.mem I)).1.eV hR3)
   (by simp; have:=u.out; omega) (by simpa[List.map_take,List.map_drop] using R5)
  refine⟨_,_,rfl,o.out,A6,fun b hb => ?_,Y.trans C6 fun b _ h=>d b h⟩;rcases hb with⟨h,_⟩ | rfl
  ·exact .inl (d b h)
  ·exact .inl (d _ hFG3)
 ·have ae:0 < m - 1:=by
   rw[<- hlen]; exact List.length_pos_iff.2 O
  obtain⟨m1,hm2⟩:∃ m1,Hid (m - 1=m1):=⟨_,rfl⟩
  rw[hm2.out] at ac ae
  have z0:¬ ((m1:Int)=0):=by omega
  have z1:(i:Int) < n:=by omega
  have w3:IntKind.i64.wrap ((i:Int) - 1)=(i:Int) - 1:=by rw[IntKind.wrap_i64]; omega
  have Q:=l.out;rw[if_neg O] at Q
  have l:Hid _:=Q;clear Q
  have HX:Hid _:=O;clear O
  have hf3:∀ es∈ens (L.set i p'),es≠[]:=fun es he=>by
   rw[hE3] at he;rcases List.mem_or_eq_of_mem_set he with h | h
   ·exact hf es h
   ·rw[h]; exact HX.out
  have H:∀ (W:World) (j:Nat),bJ W F3 D g (L.set i p')->jnb (ens (L.set i p')) j=true->Calls Tryz.prog 210 #[.pointer (some ⟨g,0,none⟩),.int .i64 j] W fun e' w'=>∃ F' L',e'=.returned (.tuple #[])/\ens L'=jnQ (ens (L.set i p')) j/\bJ w' F' D g L'/\(∀ b,F' b->F3 b\/W.heap.size<=b)/\Chg F3 W w':=fun W j AW hj=>by
   unfold jnb at hj;simp only[Bool.and_eq_true,decide_eq_true_eq] at hj
   have hl:j + 1 < (L.set i p').length:=by have:=hj.1; simpa[ens] using this
   obtain⟨a,ha⟩:∃ a,(L.set i p')[j]? = some a:=⟨_,List.getElem?_eq_getElem (by omega)⟩
   obtain⟨c,hc⟩:∃ c,(L.set i p')[j + 1]? = some c:=⟨_,List.getElem?_eq_getElem hl⟩
   have ma:a.es∈ens (L.set i p'):=List.mem_map.2 ⟨a,List.mem_of_getElem? ha,rfl⟩
   have mc:c.es∈ens (L.set i p'):=List.mem_map.2 ⟨c,List.mem_of_getElem? hc,rfl⟩;have s1:=ad _ ma;have s2:=ad _ mc;exact AN AW ha hc (by rw[B]; have:=u.out; omega) (List.length_pos_iff.2 (hf3 _ ma)) (by omega) (by omega)
  have R:=Av z (i:=i) (by omega) (by rw[B]; have:=u.out; omega) (fun es he=>by have:=ad es he; omega);by_cases S:jnb (ens (L.set i p')) i=true
  ·have o:Hid (rmQ (ens L) i q=jnQ (ens (L.set i p')) i):=by show _=_; rw[l.out,if_pos S]
   have t5:∀ W,Below W3.heap.size W3 W->_:=fun W s=>H W i (z.keep s) S
   rw[S] at R;clear H S l;go_wp2_with (first
    | (go_at_call 209; refine R.mono ?_; rintro e' Z ⟨rfl,r⟩; have t6:=t5 Z r; clear t5 R)
    | (go_at_call 210; refine t6.mono ?_; rintro e' w6 ⟨F6,L6,rfl,hE6,A6,hF6,C6⟩))
   go_end0;refine⟨F6,L6,rfl,hE6.trans o.out.symm,A6,fun b hb => ?_,(Y.trans (Chg.of (F:=F) r) (fun _ _ h=>h)).trans C6 fun b _ h=>d b h⟩;rcases hF6 b hb with h | h
   ·exact .inl (d b h)
   ·exact .inr (by have:=Y.size; have:=r.size; omega)
  ·have T:jnb (ens (L.set i p')) i=false:=by simpa using S
   by_cases hi0:i=0
   ·have o:Hid (rmQ (ens L) i q=ens (L.set i p')):=by show _=_; rw[l.out,if_neg S,if_neg (by omega)]
    rw[T] at R
    have tn:∀ W:World,Calls Tryz.prog 209 #[.pointer (some ⟨g,0,none⟩),.int .i64 (-1)] W _:=fun W=>jn_neg
    have mk:True:=trivial;clear H S l T;subst hi0;go_wp2_with (first
     | (go_at_call 209; clear mk; refine R.mono ?_; rintro e' Z ⟨rfl,r⟩; clear R)
     | (go_at_call 209; refine(tn _).mono ?_; rintro e' w6 ⟨rfl,U⟩))
    go_end0;have s:=aj r U
    first
     | exact⟨F3,_,rfl,o.out.symm,z.keep s,fun b hb=>.inl (d b hb),Y.trans (Chg.of (F:=F) s) (fun _ _ h=>h)⟩
     | exact⟨rfl,F3,_,o.out.symm,z.keep s,fun b hb=>.inl (d b hb),Y.trans (Chg.of (F:=F) s) (fun _ _ h=>h)⟩
   ·obtain⟨j,rfl⟩:∃ j,i=j + 1:=⟨i - 1,by omega⟩
    have tk:∀ W,Below W3.heap.size W3 W->Calls Tryz.prog 209 #[.pointer (some ⟨g,0,none⟩),.int .i64 j] W _:=fun W s=>Av (z.keep s) (i:=j) (by omega) (by rw[B]; have:=u.out; omega) (fun es he=>by have:=ad es he; omega)
    have e1:((j + 1:Nat):Int) - 1=(j:Int):=by omega
    have e2:(j:Int) + 1 - 1=(j:Int):=by omega
    rw[T] at R
    have mk:True:=trivial
    have mk2:True:=trivial;by_cases h3:jnb (ens (L.set (j + 1) p')) j=true
    ·have o:Hid (rmQ (ens L) (j + 1) q=jnQ (ens (L.set (j + 1) p')) j):=by show _=_; rw[l.out,if_neg S,if_pos ⟨by omega,by simpa using h3⟩]; rfl
     have t5:∀ W,Below W3.heap.size W3 W->_:=fun W s=>H W j (z.keep s) h3
     rw[h3] at tk;clear H S l T h3;go_wp2_with (first
      | (go_at_call 209; clear mk; refine R.mono ?_; rintro e' Z ⟨rfl,r⟩; have V:=tk Z r; clear R tk)
      | (go_at_call 209; refine V.mono ?_; rintro e' w6 ⟨rfl,U⟩; have s:=aj r U; have t6:=t5 w6 s; clear t5 V)
      | (go_at_call 210; refine t6.mono ?_; rintro e' w7 ⟨F6,L6,rfl,hE6,A6,hF6,C6⟩))
     go_end0;refine⟨F6,L6,rfl,hE6.trans o.out.symm,A6,fun b hb => ?_,(Y.trans (Chg.of (F:=F) s) (fun _ _ h=>h)).trans C6 fun b _ h=>d b h⟩;rcases hF6 b hb with h | h
     ·exact .inl (d b h)
     ·exact .inr (by have:=Y.size; have:=s.size; omega)
    ·have h3':jnb (ens (L.set (j + 1) p')) j=false:=by simpa using h3
     have o:Hid (rmQ (ens L) (j + 1) q=ens (L.set (j + 1) p')):=by show _=_; rw[l.out,if_neg S,if_neg (fun h=>h3 (by simpa using h.2))]
     rw[h3'] at tk;clear H S l T h3 h3';go_wp2_with (first
      | (go_at_call 209; clear mk; refine R.mono ?_; rintro e' Z ⟨rfl,r⟩; have V:=tk Z r; clear R tk)
      | (go_at_call 209; refine V.mono ?_; rintro e' w6 ⟨rfl,U⟩; have s:=aj r U; clear V))
     go_end0
     first
      | exact⟨F3,_,rfl,o.out.symm,z.keep s,fun b hb=>.inl (d b hb),Y.trans (Chg.of (F:=F) s) (fun _ _ h=>h)⟩
      | exact⟨rfl,F3,_,o.out.symm,z.keep s,fun b hb=>.inl (d b hb),Y.trans (Chg.of (F:=F) s) (fun _ _ h=>h)⟩
end Pg
end
section
namespace Pg
open Go.RowKit Go.Lib
theorem r9 {w:World} {F D:Nat->Prop} {g:Nat} {L:List Pg} {kv:Value} {k:List Int} (A:bJ w F D g L) (O:Ord (ens L)) (hs:∀ es∈ens L,es.length<=32) (hn:L.length<=100000000) (h:By w kv k) :
  Calls Tryz.prog 122 #[.pointer (some ⟨g,0,none⟩),kv] w fun e w'=>e=.returned (.bool (has (ens L) k))/\∃ F' L',ens L'=gI (ens L) k/\bJ w' F' D g L'/\(∀ b,F' b->F b\/w.heap.size<=b)/\Chg F w w':=by
 by_cases hL:L=[]
 ·subst hL;have t:=l4 (v:=kv) A
  have e1:has (ens []) k=false:=rfl
  have e2:Hid (gI (ens []) k=ens []):=rfl;rw[e1];have o:=(show Hid _ from A)
  clear A O hs h;go_enter Tryz.func122,Tryz.ntmps122;go_wp2_with (go_at_call 146; refine t.mono ?_; rintro r s ⟨rfl,rfl⟩);go_ret;exact⟨rfl,F,[],e2.out.symm,o.out,fun b hb=>.inl hb,Chg.refl _ _⟩
 ·obtain⟨p,u,j⟩:=qg hL k;have x:=List.mem_of_getElem? u;have E:=hs p.es (List.mem_map.2 ⟨p,x,rfl⟩);have t:=lI A O h (by omega) u (by omega)
  have l:has (ens L) k=thr (a p.es) k:=by
   unfold has;rw[j];have:(ens L).isEmpty=false:=by simp[ens,hL]
   simp[this]
  rw[l];by_cases f:thr (a p.es) k=true
  ·obtain⟨e,he,G⟩:=kY f;have y:=(List.getElem?_eq_some_iff.1 he).1
   have z:Hid (gI (ens L) k=rmQ (ens L) (m (ens L) k) (n (a p.es) k)):=by
    show _=_
    unfold gI;rw[l,f,if_pos rfl,j]
   have C:∀ w',Below w.heap.size w w'->_:=fun w' c=>uj (A.keep c) u y hs O.full hn
   rw[f] at t ⊢;generalize m (ens L) k=i at *;generalize n (a p.es) k=q at *;clear A O hs h f l;go_enter Tryz.func122,Tryz.ntmps122;go_wp2_with (first
    | (go_at_call 146; refine t.mono ?_; rintro r s ⟨rfl,c⟩; have B:=C s c; clear t C)
    | (go_at_call 171; refine B.mono ?_; rintro r I ⟨F',L',rfl,H,hA,hF,hC⟩))
   go_ret;exact⟨rfl,F',L',H.trans z.out.symm,hA,fun b hb=>(hF b hb).imp id (fun h=>Nat.le_trans c.size h),(Chg.of (F:=F) c).trans hC (fun _ _ h=>h)⟩
  ·have d:thr (a p.es) k=false:=by simpa using f
   have z:Hid (gI (ens L) k=ens L):=by
    show _=_
    unfold gI;rw[l,d,if_neg (by decide)]
   rw[d] at t ⊢;generalize m (ens L) k=i at *;generalize n (a p.es) k=q at *;have o:=(show Hid _ from A)
   clear A O hs h f d l;go_enter Tryz.func122,Tryz.ntmps122;go_wp2_with (go_at_call 146; refine t.mono ?_; rintro r s ⟨rfl,c⟩);go_ret;exact⟨rfl,F,L,z.out.symm,o.out.keep c,fun b hb=>.inl hb,Chg.of c⟩
theorem Bv {w:World}:Calls Tryz.prog 43 #[] w fun e w'=>∃ g,e=.returned (.pointer (some ⟨g,0,none⟩))/\g=w.heap.size/\bJ w' (· = g) (fun _=>False) g []/\Below w.heap.size w w':=by
 go_enter Tryz.func43,Tryz.ntmps43;go_wp2;go_ret;refine⟨_,rfl,rfl,⟨⟨_,aC w [.slice none 0 0] 144,rfl,.inl ⟨rfl,rfl⟩⟩,fun p a=>by simp at a,by simp,fun b hb => ?_⟩,ae w _⟩;subst hb;exact⟨_,_,aC w [.slice none 0 0] 144,by decide⟩
end Pg
end
section
namespace Pg
open Go.RowKit Go.Lib
end Pg
end
section
namespace Pg
open Go.RowKit Go.Lib
section
variable {B l B' g n:Nat}{W W' w:World}{cs:List Value}{fn:FuncId}{tmps args lb:Array Value}{ps:Array Tmp}{assign body:Code}{I:Nat->World->Prop}{Ix:Code->Nat->World->Prop}{Ar:Nat->Array Value->Nat->World->Prop}{Rd:World->Prop}
structure Rec(B:Nat)(W W':World):Prop where
 os:W'.os=W.os
 tape:W'.tape=W.tape
 output:W'.output=W.output
 size:W.heap.size<=W'.heap.size
 same:∀ (k:Nat) (o:Obj),W.heap[k]? = some o->(k < B\/o.isCells=true)->W'.heap[k]? = some o
def St(B:Nat)(I:World->Prop):Prop:=∀ W W',I W->Rec B W W'->I W'
theorem Rec.of(h:Below W.heap.size W W'):Rec B W W':=⟨h.os,h.tape,h.output,h.size,fun k _ hk _=>(h.block k (lt_of_block hk)).trans hk⟩
theorem Rec.put{o:Obj}(h:W.heap[l]? = some o)(d:o.isCells=false)(f:B<=l)(c:Obj):Rec B W (W.putObj l c) :=
 ⟨rfl,rfl,rfl,by simp,fun k x a hx=>by
  have b:k≠l:=fun e=>by
   subst e;rw[h] at a
   cases a;rcases hx with hx | hx
   ·omega
   ·rw[d] at hx; cases hx
  exact(World.putObj_heap_other b).trans a⟩
theorem Rec.mono(h:Rec B W W')(hB:B'<=B):Rec B' W W':=⟨h.os,h.tape,h.output,h.size,fun k o hk ho=>h.same k o hk (ho.imp (fun h=>by omega) id)⟩
theorem Rec.blk(h:Rec B W W'){t:TypeId}(hb:Blk W g cs t):Blk W' g cs t:=⟨h.same g _ hb.blk (.inr rfl)⟩
theorem wT(hb:Below W.heap.size W W')(b:l < W.heap.size)(o:Obj):Below (W.putObj l o).heap.size (W.putObj l o) (W'.putObj l o):=by
 refine⟨hb.os,hb.tape,hb.output,by simpa using hb.size,fun k a => ?_⟩;simp at a;by_cases e:k=l
 ·subst e;have:=hb.size;rw[World.putObj_heap_same (by omega),World.putObj_heap_same b]
 ·rw[World.putObj_heap_other e,World.putObj_heap_other e]; exact hb.block k a
structure Cel(W W':World):Prop where
 size:W.heap.size<=W'.heap.size
 same:∀ (k:Nat) (o:Obj),W.heap[k]? = some o->o.isCells=true->W'.heap[k]? = some o
theorem Rec.cel(h:Rec B W W'):Cel W W':=⟨h.size,fun k o hk ho=>h.same k o hk (.inr ho)⟩
def Safe(Tp:TypeId->Prop)(o:Obj):Prop:=∀ cs t fz,o=.cells cs t fz->¬ Tp t
theorem vP{Tp:TypeId->Prop}{r:Loop}:Safe Tp (.loop r):=fun _ _ _ e=>by cases e
theorem mu{Tp:TypeId->Prop}{d:Option (List Deferred)}:Safe Tp (.deferred d):=fun _ _ _ e=>by cases e
structure bj(Tp:TypeId->Prop)(B:Nat)(W W':World):Prop where
 size:W.heap.size<=W'.heap.size
 same:∀ (k:Nat) (o:Obj),B<=k->W.heap[k]? = some o->Safe Tp o->W'.heap[k]? = some o
theorem bj.of{Tp:TypeId->Prop}(h:Below W.heap.size W W'):bj Tp B W W':=⟨h.size,fun k _ _ hk _=>(h.block k (lt_of_block hk)).trans hk⟩
theorem bj.trans{Tp:TypeId->Prop}{W'':World}(h:bj Tp B W W')(h':bj Tp B W' W''):bj Tp B W W'':=⟨Nat.le_trans h.size h'.size,fun k o hB hk ho=>h'.same k o hB (h.same k o hB hk ho) ho⟩
theorem bj.mono{Tp:TypeId->Prop}(h:bj Tp B W W')(hB:B<=B'):bj Tp B' W W':=⟨h.size,fun k o hk h0 ho=>h.same k o (Nat.le_trans hB hk) h0 ho⟩
theorem bj.blk{Tp:TypeId->Prop}(h:bj Tp B W W'){t:TypeId}(hb:Blk W g cs t)(hg:B<=g)(ht:¬ Tp t):Blk W' g cs t:=⟨h.same g _ hg hb.blk (fun _ _ _ e=>by cases e; exact ht)⟩
def Itr(Tp:TypeId->Prop)(gf:Nat)(lb:Array Value)(N:Nat)(Ar:Nat->Array Value->Nat->World->Prop)(Rd:World->Prop):Prop :=
 ∀ (l:Nat) (J Jx:Nat->World->Prop) (W:World),(∀ i,St W.heap.size (J i))->(∀ i,St W.heap.size (Jx i))->(∀ i V,J i V->Rd V) ->
  (∀ i args V V',i < N->J i V->W.heap.size<=V.heap.size->Below V.heap.size V V'->Ar i args V.heap.size V'->YieldAt Fence.wide 0 Tryz.prog l args V' fun e V''=>bj Tp W.heap.size V' V''/\((e=.returned (.bool true)/\J (i + 1) V'')\/(e=.returned (.bool false)/\Jx (i + 1) V''))) ->
  J 0 W ->
  Calls Tryz.prog gf (#[.func (.yield l) #[] #[]] ++ lb) W fun e W'=>(∃ v,e=.returned v)/\W.heap.size<=W'.heap.size/\(J N W'\/∃ i,i < N/\Jx (i + 1) W')
def oF(Tp:TypeId->Prop)(B:Nat)(I:Nat->World->Prop)(Ix:Code->Nat->World->Prop)(i:Nat)(W:World):Exit->Act->World->Prop
 | .normal,_,W'=>bj Tp B W W'/\I i W'
 | .ret,_,W'=>bj Tp B W W'/\Ix .ret i W'
 | .exit id,_,W'=>bj Tp B W W'/\Ix (.exit id) i W'
 | .goto t,_,W'=>bj Tp B W W'/\Ix (.goto t) i W'
 | .panic _,_,_=>False
 | .outgrown,_,_=>False
def db(fn:FuncId)(tmps:Array Value)(ps:Array Tmp)(assign body:Code)(dd:Nat)(st:LoopState)(pe:Option Code):Loop:={ state:=st,pending:=pe,fn,tmps,params:=ps,assign,body,defers:=dd }
structure fS(Tp:TypeId->Prop)(B l:Nat)(W W':World):Prop where
 size:W.heap.size<=W'.heap.size
 same:∀ (k:Nat) (o:Obj),B<=k->k≠l->W.heap[k]? = some o->Safe Tp o->W'.heap[k]? = some o
theorem fS.from{Tp:TypeId->Prop}{B1:Nat}(h:fS Tp B l W W')(hB:B<=B1)(hl:l < B1):bj Tp B1 W W':=⟨h.size,fun k o hk h0 ho=>h.same k o (by omega) (by omega) h0 ho⟩
theorem jc{Tp:TypeId->Prop}{i:Nat}{S:Nat}{V:World}(X:∀ i args n V W,Ar i args n V->Cel V W->Ar i args n W)(hI:∀ i,St B (I i))(Y:∀ c i,St B (Ix c i))(T:B<=l)(hL:V.heap[l]? = some (.loop (db fn tmps ps assign body S .ready none)))(hi:I i V)(hb:Below V.heap.size V W)(ha:Ar i args V.heap.size W)(Z:args.size=ps.size)(U:assign.wpIn (Fence.wide.inRound l) n Tryz.prog (Exit.then (fun a1 W1=>Below W.heap.size W W1/\∀ V2 W2,I i V2->Below V2.heap.size V2 W2->Ar i args V2.heap.size W2->(∀ b,b≠l->W2.heap[b]? = W1.heap[b]?)->W2.heap.size=W1.heap.size->V2.heap.size=V.heap.size->(∃ r,W2.heap[l]? = some (.loop r))->body.wpIn (Fence.wide.inRound l) n Tryz.prog (oF Tp B I Ix (i + 1) W2) a1 W2) (fun _ _ _=>False)) { tmps:=(ps.zip args).foldl (fun t (p,v)=>t.setIfInBounds p v) tmps,defers:=[] } W) :
  YieldAt Fence.wide 0 Tryz.prog l args W fun e W'=>fS Tp B l W W'/\((e=.returned (.bool true)/\I (i + 1) W'/\W'.heap[l]? = some (.loop (db fn tmps ps assign body S .ready none)))\/(e=.returned (.bool false)/\∃ c,Ix c (i + 1) W'/\W'.heap[l]? = some (.loop (db fn tmps ps assign body S .done (some c))))):=by
 have E:l < V.heap.size:=lt_of_block hL
 have y:W.heap[l]? = some (.loop (db fn tmps ps assign body S .ready none)):=(hb.block l E).trans hL;have hy:=run_yield (P:=Tryz.prog) (args:=args) y Z
 have s:assign.wpIn (Fence.wide.inRound l) n Tryz.prog (Exit.then (fun O Q=>∃ w₂,(Instr.beginRound l).run Tryz.prog Q=.ok () w₂/\body.wpIn (Fence.wide.inRound l) n Tryz.prog (roundPost Tryz.prog l fun e W'=>fS Tp B l W W'/\((e=.returned (.bool true)/\I (i + 1) W'/\W'.heap[l]? = some (.loop (db fn tmps ps assign body S .ready none)))\/(e=.returned (.bool false)/\∃ c,Ix c (i + 1) W'/\W'.heap[l]? = some (.loop (db fn tmps ps assign body S .done (some c)))))) O w₂) (fun _ _ _=>False)) { tmps:=(ps.zip args).foldl (fun t (p,v)=>t.setIfInBounds p v) tmps,defers:=[] } W:=by
  refine wpIn_mono U ?_
  intro e a1 W1 h
  cases e with
  | normal =>
   obtain⟨u,z⟩:=h
   have A:W1.heap[l]? = some (.loop (db fn tmps ps assign body S .ready none)):=(u.block l (lt_of_block y)).trans y
   have x:l < W1.heap.size:=lt_of_block A;refine⟨_,run_beginRound A rfl,?_⟩
   have J:Below V.heap.size V W1:=aj hb u;have R:=z (V.putObj l (.loop { db fn tmps ps assign body S .ready none with state:=.busy })) (W1.putObj l (.loop { db fn tmps ps assign body S .ready none with state:=.busy }))
    (hI i _ _ hi (Rec.put hL rfl T _)) (wT J E _) (by simpa using X i args _ _ _ (X i args _ _ _ ha (Rec.of (B:=0) u).cel) (Rec.put A rfl (Nat.zero_le _) _).cel)
    (fun b hb=>World.putObj_heap_other hb) (by simp) (by simp) ⟨_,World.putObj_heap_same x⟩
   have K:(W1.putObj l (.loop { db fn tmps ps assign body S .ready none with state:=.busy })).heap[l]? = some (.loop { db fn tmps ps assign body S .ready none with state:=.busy }):=World.putObj_heap_same x;generalize L:W1.putObj l (.loop { db fn tmps ps assign body S .ready none with state:=.busy })=W2 at *
   have G:fS Tp B l W W2:=by
    rw[<- L];refine⟨by simpa using u.size,fun k _ M w H _ => ?_⟩;rw[World.putObj_heap_other w];exact(u.block k (lt_of_block H)).trans H
   have fin:∀ (jump:Option Code) (q:World),bj Tp B W2 q ->
     (Instr.endRound l jump).run Tryz.prog q=.ok (.bool jump.isNone) (q.putObj l (.loop (db fn tmps ps assign body S (if jump.isNone then .ready else .done) jump)))/\q.heap[l]? = some (.loop { db fn tmps ps assign body S .ready none with state:=.busy }) /\
     (q.putObj l (.loop (db fn tmps ps assign body S (if jump.isNone then .ready else .done) jump))).heap[l]? = some (.loop (db fn tmps ps assign body S (if jump.isNone then .ready else .done) jump)) /\
     fS Tp B l W (q.putObj l (.loop (db fn tmps ps assign body S (if jump.isNone then .ready else .done) jump))):=fun jump q a=>by
    have d:=a.same _ _ T K vP;refine⟨run_endRound (P:=Tryz.prog) jump d,d,World.putObj_heap_same (lt_of_block d),⟨by simpa using Nat.le_trans G.size a.size,fun k o M w H N => ?_⟩⟩;rw[World.putObj_heap_other w];exact a.same k o M (G.same k o M w H N) N
   refine wpIn_mono R ?_
   intro e a3 q D
   cases e with
   | normal =>
    obtain⟨a,g⟩:=D;obtain⟨C,d,j,m⟩:=fin none q a;exact⟨_,_,C,m,.inl ⟨rfl,hI _ _ _ g (Rec.put d rfl T _),j⟩⟩
   | ret =>
    obtain⟨a,g⟩:=D;obtain⟨C,d,j,m⟩:=fin (some .ret) q a;exact⟨_,_,C,m,.inr ⟨rfl,.ret,Y _ _ _ _ g (Rec.put d rfl T _),j⟩⟩
   | exit id =>
    obtain⟨a,g⟩:=D;obtain⟨C,d,j,m⟩:=fin (some (.exit id)) q a;exact⟨_,_,C,m,.inr ⟨rfl,.exit id,Y _ _ _ _ g (Rec.put d rfl T _),j⟩⟩
   | goto t =>
    obtain⟨a,g⟩:=D;obtain⟨C,d,j,m⟩:=fin (some (.goto t)) q a;exact⟨_,_,C,m,.inr ⟨rfl,.goto t,Y _ _ _ _ g (Rec.put d rfl T _),j⟩⟩
   | panic ch=>exact D.elim
   | outgrown=>exact D.elim
  | ret=>exact h.elim
  | exit id=>exact h.elim
  | goto t=>exact h.elim
  | panic ch=>exact h.elim
  | outgrown=>exact h.elim
 exact⟨fn,_,assign,body,hy,by
  have:=roundIn_of_wpIn (F:=Fence.wide) (n:=n) (P:=Tryz.prog) (f:=fn) trivial s;exact⟨this.1,fun c cs _=>this.2 c cs (fun _ h=>by cases h)⟩⟩
def RoundW(Tp:TypeId->Prop)(w:World)(N n:Nat)(ps:Array Tmp)(assign body:Code)(tmps:Array Value)(Ar:Nat->Array Value->Nat->World->Prop)(I:Nat->World->Prop)(Ix:Code->Nat->World->Prop):Prop :=
 ∀ (l i:Nat) (args:Array Value) (V W:World),w.heap.size<=l->l < V.heap.size->(∃ r,V.heap[l]? = some (.loop r))->i < N->I i V->Below V.heap.size V W->Ar i args V.heap.size W ->
  assign.wpIn (Fence.wide.inRound l) n Tryz.prog (Exit.then (fun a1 W1=>Below W.heap.size W W1/\∀ V2 W2,I i V2->Below V2.heap.size V2 W2->Ar i args V2.heap.size W2->(∀ b,b≠l->W2.heap[b]? = W1.heap[b]?)->W2.heap.size=W1.heap.size->V2.heap.size=V.heap.size->(∃ r,W2.heap[l]? = some (.loop r))->body.wpIn (Fence.wide.inRound l) n Tryz.prog (oF Tp w.heap.size I Ix (i + 1) W2) a1 W2) (fun _ _ _=>False)) { tmps:=(ps.zip args).foldl (fun t (p,v)=>t.setIfInBounds p v) tmps,defers:=[] } W
theorem gG{Tp:TypeId->Prop}{O N:Nat}(IT:Itr Tp O lb N Ar Rd){g:Operand}{Q:Exit->Act->World->Prop}{a:Act}(hg:a.eval g=.func (.func O) #[] lb)(Z:∀ args w,(callFunc O args).run Tryz.prog w=.ok (.enter O args) w)(R:∀ i args n V W,Ar i args n V->Cel V W->Ar i args n W)(U:∀ i args n V,Ar i args n V->args.size=ps.size)(I:Nat->World->Prop)(Ix:Code->Nat->World->Prop)(S:∀ i,St w.heap.size (I i))(M:∀ c i,St w.heap.size (Ix c i))(T:∀ i V,I i V->Rd V)(h0:I 0 w)(J:RoundW Tp w N n ps assign body a.tmps Ar I Ix)(L:∀ D W,w.heap.size<=D->W.heap[D]? = some (.deferred (some []))->I N W->Q .normal { a with defers:={ target:=.collected D,args:=#[] } :: a.defers } W)(K:∀ D c i W,w.heap.size<=D->W.heap[D]? = some (.deferred (some []))->i < N->Ix c (i + 1) W->c.wpIn Fence.wide n Tryz.prog Q { a with defers:={ target:=.collected D,args:=#[] } :: a.defers } W) :
  (Code.rangeFunc g ps assign body).wpIn Fence.wide n Tryz.prog Q a w:=by
 refine wpIn_rangeFunc ?_
 intro fn _;obtain⟨d,b⟩:∃ d,(w.alloc (.deferred (some []))).alloc (.loop (l fn a.tmps ps assign body w.heap.size .ready none))=d:=⟨_,rfl⟩
 have q:Below w.heap.size w d:=by rw[<- b]; exact aj (ae w _) (ae _ _)
 have A:d.heap.size=w.heap.size + 1 + 1:=by rw[<- b]; simp
 have r:d.heap[w.heap.size + 1]? = some (.loop (l fn a.tmps ps assign body w.heap.size .ready none)):=by
  rw[<- b]; have:=World.alloc_heap_new (w.alloc (.deferred (some []))) (.loop (l fn a.tmps ps assign body w.heap.size .ready none)); rwa [World.size_alloc] at this
 have s:d.heap[w.heap.size]? = some (.deferred (some [])):=by
  rw[<- b]; exact(Below.heap_alloc _ _ _ (by simp)).trans (World.alloc_heap_new w _)
 refine⟨w.heap.size + 1,[{ target:=.collected w.heap.size,args:=#[] }],d,{ target:=.fn (.func O) lb,args:=#[.func (.yield (w.heap.size + 1)) #[] #[]] },d,O,
  #[.func (.yield (w.heap.size + 1)) #[] #[]] ++ lb,d,?_,?_,?_,?_,fun h=>(by cases h),?_⟩
 ·rw[<- b]; exact run_enterLoop_outer _ _ _ _ _
 ·simp only[resolve,hg];simp[go_sem]
 ·intro G _; trivial
 ·simp[invoke,go_sem,Z]
 ·refine callsIn_wide.2 ?_
  refine(IT (w.heap.size + 1)
   (fun i W=>I i W/\W.heap[w.heap.size + 1]? = some (.loop (l fn a.tmps ps assign body w.heap.size .ready none))/\W.heap[w.heap.size]? = some (.deferred (some [])))
   (fun i W=>∃ c,Ix c i W/\W.heap[w.heap.size + 1]? = some (.loop (l fn a.tmps ps assign body w.heap.size .done (some c)))/\W.heap[w.heap.size]? = some (.deferred (some [])))
   d (fun i X Y hx j=>⟨S i X Y hx.1 (j.mono (by omega)),j.same _ _ hx.2.1 (.inl (by omega)),j.same _ _ hx.2.2 (.inl (by omega))⟩)
   (fun i X Y hx j=>by obtain⟨c,t,u,x⟩:=hx; exact⟨c,M c i X Y t (j.mono (by omega)),j.same _ _ u (.inl (by omega)),j.same _ _ x (.inl (by omega))⟩)
   (fun i V C=>T i V C.1) ?_ ⟨S 0 _ _ h0 (Rec.of q),r,s⟩).mono ?_
  ·rintro i args V E k ⟨hi,f,m⟩ y hb z;refine(jc (B:=w.heap.size) R S M (by omega) f hi hb z (U _ _ _ _ z) (J _ i args V E (by omega) (lt_of_block f) ⟨_,f⟩ k hi hb z)).mono ?_
   rintro e F ⟨o,h⟩;have p:=o.same _ _ (Nat.le_refl _) (by omega) ((hb.block _ (lt_of_block m)).trans m) mu;refine⟨o.from (by omega) (by omega),h.imp (fun h=>⟨h.1,h.2.1,h.2.2,p⟩) (fun h => ?_)⟩;obtain⟨t,c,u,x⟩:=h;exact⟨t,c,u,x,p⟩
  ·rintro e H ⟨⟨v,rfl⟩,y,⟨hi,f,m⟩ | ⟨i,k,c,hi,f,m⟩⟩
   ·exact⟨none,_,run_endLoop (P:=Tryz.prog) f (by simp[l]),L _ _ (Nat.le_refl _) ((World.putObj_heap_other (by omega)).trans m) (S _ _ _ hi (Rec.put f rfl (by omega) _))⟩
   ·exact⟨some c,_,run_endLoop (P:=Tryz.prog) f (by simp[l]),K _ c i _ (Nat.le_refl _) ((World.putObj_heap_other (by omega)).trans m) k (M c _ _ _ hi (Rec.put f rfl (by omega) _))⟩
end
end Pg
end
section
namespace Pg
open Go.RowKit Go.Lib
section
variable {a b:Nat}{w:World}{v fv tv:Value}{t f:List Int}{D:Nat->Prop}{P:List (List En)}{F:Nat → Prop}{L:List Pg}
def cut{α:Type}(l:List α)(a b:Nat):List α:=(l.drop a).take (max a b - a)
theorem ve{α:Type}{l:List α}{j:Nat}{x:α}(h:(cut l a b)[j]? = some x):l[a + j]? = some x:=by
 unfold cut at h;rw[List.getElem?_take] at h;split at h
 ·rw[List.getElem?_drop] at h; exact h
 ·cases h
theorem uU{α:Type}{l:List α}(ha:a<=l.length)(hb:b<=l.length):(cut l a b).length=max a b - a:=by
 unfold cut;rw[List.length_take,List.length_drop]; omega
def eP(P:List (List En))(t:List Int):Nat:=if t=[] then P.length else min (pgi P t + 1) P.length
def tw(es:List En)(t:List Int):Nat:=if t=[] then es.length else plc (kys es) t
def wth(es:List En)(f t:List Int):List En:=cut es (plc (kys es) f) (tw es t)
def wlk(P:List (List En))(f t:List Int):List En:=(cut P (pgi P f) (eP P t)).flatMap fun es=>wth es f t
theorem mQ(h:By w v t):Calls Tryz.prog 173 #[v] w fun e w'=>e=.returned (.bool (decide (t≠[])))/\w'=w:=by
 obtain⟨k,c,rfl,j,g,m,i,f⟩:=h.ex
 have d:(decide (t≠[]))=decide ((0:Int) < (t.length:Int)):=by
  cases t with
  | nil=>rfl
  | cons a l=>simp
 rw[d];clear h f
 have b:decide ((0:Int) < (t.length:Int))=decide (0 < t.length):=by congr 1; exact propext ⟨fun h=>by omega,fun h=>by omega⟩
 rw[b];go_enter Tryz.func173,Tryz.ntmps173;go_wp2;go_ret;exact⟨rfl,rfl⟩
structure SpA(w:World)(F:Nat->Prop)(v:Value)(Q:List Pg):Prop where
 ex:∃ ao c,v=.slice ao Q.length c/\Q.length<=c/\c<=9223372036854775807/\∀ j p,Q[j]? = some p->∃ b o,ao=some ⟨b,o,none⟩/\F b/\w.cell? ⟨b,o + j,none⟩=some p.v
structure ESl(w:World)(q:Nat)(v:Value)(es:List En):Prop where
 ex:∃ ao c,v=.slice ao es.length c/\es.length<=c/\c<=9223372036854775807/\∀ j e,es[j]? = some e->∃ o,ao=some ⟨q,o,none⟩/\w.cell? ⟨q,o + j * 2,none⟩=some e.kv/\w.cell? ⟨q,o + j * 2 + 1,none⟩=some e.vv
theorem se{p:Pg}(A:PgA w D p)(S:Srt (kys p.es))(hf:By w fv f)(Z:By w tv t)(hn:p.es.length<=1000000) :
  Calls Tryz.prog 126 #[p.v,fv,tv] w fun e w'=>∃ v,e=.returned v/\ESl w' p.b v (wth p.es f t)/\Below w.heap.size w w':=by
 have t1:=gN A S hf hn
 have o:∀ w',Below w.heap.size w w'->Calls Tryz.prog 173 #[tv] w' _:=fun w' h=>mQ (Z.keep h)
 have t2:∀ w',Below w.heap.size w w'->Calls Tryz.prog 174 #[p.v,tv] w' _:=fun w' h=>gN (A.keep h) S (Z.keep h) hn
 have d:=A.row;have i:=d.le;simp only[maxLen] at i;have N:=i.1;have O:=i.2;have r:=qv (kys p.es) f;have F:=qv (kys p.es) t
 have s:(kys p.es).length=p.es.length:=by simp[kys]
 rw[s] at r F
 have g:∀ (B:Option Addr) (k c y:Nat) (w':World),tw p.es t=y->y<=p.es.length->Below w.heap.size w w'->k=max (plc (kys p.es) f) y - plc (kys p.es) f->k<=c->c<=9223372036854775807->(k=0\/B=some ⟨p.b,plc (kys p.es) f * 2,none⟩)->ESl w' p.b (.slice B k c) (wth p.es f t):=fun B k c y w' he hy h G H hc I=>by
  have J:(wth p.es f t).length=k:=by
   unfold wth; rw[he,uU r hy,G]
  refine⟨B,c,by rw[J],by rw[J]; exact H,hc,fun j e P => ?_⟩;have K:=(List.getElem?_eq_some_iff.1 P).1;rw[J] at K
  have u:=ve (show (cut p.es (plc (kys p.es) f) (tw p.es t))[j]? = some e from P);have G:=(d.keep h).cell (oQ u);have Q:=(d.keep h).cell (j8 u);refine⟨plc (kys p.es) f * 2,I.resolve_left (by omega),?_,?_⟩
  ·rw[<- Nat.add_mul]; exact G
  ·rw[<- Nat.add_mul]; exact Q
 have g:Hid _:=g
 have l:Hid (tw p.es t=if t=[] then p.es.length else plc (kys p.es) t):=rfl;generalize hx:plc (kys p.es) f=x at *
 have U:Hid _:=hx;generalize hy:plc (kys p.es) t=y at *
 have V:Hid _:=hy;generalize L (kys p.es) f=W at *;generalize L (kys p.es) t=R at *
 simp only[Pg.v] at t1 t2 ⊢;generalize hm:p.es.length=m at *
 have X:Hid _:=hm
 have z0:(0:Int)<=(x:Int):=by omega
 have z1:(x:Int)<=(m:Int):=by omega
 clear A S hf Z d i s hx hy hm;by_cases q:t=[]
 ·have z:decide (t≠[])=false:=by simp[q]
  rw[z] at o
  have he:Hid (tw p.es t=m):=by show _=_; rw[l.out,if_pos q]
  clear q z t2 l;go_enter Tryz.func126,Tryz.ntmps126;go_wp2_with (first
   | (go_at_call 174; refine t1.mono ?_; rintro C E ⟨rfl,a⟩; have n:=o E a; clear t1 o)
   | (go_at_call 173; refine n.mono ?_; rintro C T ⟨rfl,rfl⟩))
  all_goals (
   go_ret;exact⟨_,rfl,g.out _ _ _ m _ he.out (Nat.le_refl _) a (by omega) (by omega) (by omega) (by first | exact .inr rfl | exact .inl (by omega) | exact .inl rfl),a⟩)
 ·have z:decide (t≠[])=true:=by simp[q]
  rw[z] at o
  have he:Hid (tw p.es t=y):=by show _=_; rw[l.out,if_neg q]
  have mk:True:=trivial;clear q z l;go_enter Tryz.func126,Tryz.ntmps126;go_wp2_with (first
   | (go_at_call 174; clear mk; refine t1.mono ?_; rintro C E ⟨rfl,a⟩; have n:=o E a; have t21:=t2 E a; clear t1 o t2)
   | (go_at_call 173; refine n.mono ?_; rintro C T ⟨rfl,rfl⟩)
   | (go_at_call 174; refine t21.mono ?_; rintro C Y ⟨rfl,M⟩; have h:=aj a M))
  all_goals (
   go_ret;exact⟨_,rfl,g.out _ _ _ y _ he.out (by omega) h (by omega) (by omega) (by omega) (by first | exact .inr rfl | exact .inl (by omega) | exact .inl rfl),h⟩)
theorem zO(k:List Int):pgi P k<=P.length:=by
 have h1:=o9 (fks P) k;simp only[fks,List.length_map] at h1;unfold pgi fks;omega
theorem AA{D:Nat → Prop}{g:Nat}(A : bJ w F D g L)(O : Ord (ens L))(hf : By w fv f)(ht : By w tv t)(hn : L.length ≤ 100000000) :
    Calls Tryz.prog 125 #[.pointer (some ⟨g, 0, none⟩), fv, tv] w fun e w' => ∃ v, e = .returned v ∧ SpA w' F v (cut L (pgi (ens L) f) (eP (ens L) t)) ∧ Below w.heap.size w w' := by
  have t1 := iP A.drew O hf.drew (by omega)
  have B : ∀ w', Below w.heap.size w w' → Calls Tryz.prog 173 #[tv] w' _ := fun w' s => mQ (ht.keep s)
  have t2 : ∀ w', Below w.heap.size w w' → Calls Tryz.prog 172 #[.pointer (some ⟨g, 0, none⟩), tv] w' _ := fun w' s => iP (A.keep s) O (ht.keep s) (by omega)
  obtain⟨Q, c, hc, W, hc2, N⟩:= A.rd
  have E : (ens L).length = L.length := by simp[ens]
  have S : pgi (ens L) f ≤ L.length := by rw[← E]; exact zO f
  have X : pgi (ens L) t ≤ L.length := by rw[← E]; exact zO t
  have T : ∀ G, Q = some ⟨G, 0, none⟩ → F G := fun G e => by
    obtain⟨pv, hb, hg, ⟨rfl, rfl⟩ | ⟨G', C, rfl, Y, hR⟩⟩:= A.top
    · have := hb.cell (i := 0) rfl
      rw[hc] at this
      cases this
      cases e
    · have := hb.cell (i := 0) rfl
      rw[hc] at this
      cases this
      cases e;exact Y
  have h : ∀ (V : Option Addr) (k d y : Nat) (w' : World), eP (ens L) t = y → y ≤ L.length → Below w.heap.size w w' → k = max (pgi (ens L) f) y - pgi (ens L) f → k ≤ d → d ≤ 9223372036854775807 → (k = 0 ∨ ∀ b o, Q = some ⟨b, o, none⟩ → V = some ⟨b, o + pgi (ens L) f, none⟩) → SpA w' F (.slice V k d) (cut L (pgi (ens L) f) (eP (ens L) t)) := fun V k d y w' he hy s hk Z P aa => by
    have hl : (cut L (pgi (ens L) f) (eP (ens L) t)).length = k := by rw[he, uU S hy, hk]
    refine⟨V, d, by rw[hl], by rw[hl]; exact Z, P, fun j p hj => ?_⟩;have hjk := (List.getElem?_eq_some_iff.1 hj).1;rw[hl] at hjk
    have hj' := ve hj;obtain⟨G, rfl, cG⟩:= N _ p hj';exact⟨G, 0 + pgi (ens L) f, (aa.resolve_left (by omega)) G 0 rfl, T G rfl, by
      rw[Nat.zero_add, s.cell (p := ⟨G, pgi (ens L) f + j, none⟩) (aI cG)]; exact cG⟩
  have h : Hid _ := h
  have u : Hid (eP (ens L) t = if t = [] then L.length else min (pgi (ens L) t + 1) L.length) := by show _ = _; unfold eP; rw[E]
  have H := aI hc
  have N : Hid _ := N
  have U : Hid (Q = none ∨ ∃ G, Q = some ⟨G, 0, none⟩) := by
    obtain⟨pv, hb, hg, ⟨rfl, rfl⟩ | ⟨G, C, rfl, Y, hR⟩⟩:= A.top
    · have := hb.cell (i := 0) rfl
      rw[hc] at this
      cases this;exact .inl rfl
    · have := hb.cell (i := 0) rfl
      rw[hc] at this
      cases this;exact .inr ⟨G, rfl⟩
  have I : Q = none → c = 0 := by
    intro e;obtain⟨pv, hb, hg, ⟨rfl, rfl⟩ | ⟨G, C, rfl, Y, hR⟩⟩:= A.top
    · have := hb.cell (i := 0) rfl
      rw[hc] at this
      cases this;rfl
    · have := hb.cell (i := 0) rfl
      rw[hc] at this
      cases this
      cases e
  generalize hx : pgi (ens L) f = x at *
  have HX : Hid _ := hx;generalize hy : pgi (ens L) t = y at *
  have HY : Hid _ := hy;obtain⟨n, hnn⟩ : ∃ n, Hid (L.length = n) := ⟨_, rfl⟩;rw[hnn.out] at hc W S X hn h u
  have J : w.drew.cell? ⟨g, 0, none⟩ = some (.slice Q n c) := hc
  have z0 : (0 : Int) ≤ (x : Int) := by omega
  have z1 : (x : Int) ≤ (n : Int) := by omega
  have zw : IntKind.i64.wrap ((y : Int) + 1) = (y : Int) + 1 := by rw[IntKind.wrap_i64]; omega
  have K := bV w;have HN := U.out;clear A O hf ht hx hy E T;by_cases R : t = []
  · have P : decide (t ≠ []) = false := by simp[R]
    rw[P] at B
    have he : Hid (eP (ens L) t = n) := by show _ = _; rw[u.out, if_pos R]
    clear R P t2 u;rcases HN with rfl | ⟨G, rfl⟩
    · obtain rfl : c = 0 := I rfl
      obtain rfl : n = 0 := by omega
      obtain rfl : x = 0 := by omega
      go_enter Tryz.func125, Tryz.ntmps125;go_wp2;go_region_held3 (fun w' => w'.cell? ⟨g, 0, none⟩ = some (.slice none 0 0)) (assumption)
        (first
          | (go_at_call 172; refine t1.mono ?_; rintro M r ⟨rfl, l⟩; have m : r.cell? ⟨g, 0, none⟩ = _ := (l.cell (p := ⟨g, 0, none⟩) H).trans J; have a := aj K l))
      have q := B r a;clear t1 B;go_wp2_with (go_at_call 173; refine q.mono ?_; rintro M w2 ⟨rfl, rfl⟩)
      all_goals (
        go_ret;exact⟨_, rfl, h.out _ _ _ 0 _ he.out (by omega) a (by omega) (by omega) (by omega) (by first | exact .inl (by omega) | exact .inr (fun b o e => by cases e; simp)), a⟩)
    · clear I
      go_enter Tryz.func125, Tryz.ntmps125;go_wp2;go_region_held3 (fun w' => w'.cell? ⟨g, 0, none⟩ = some (.slice (some ⟨G, 0, none⟩) n c)) (assumption)
        (first
          | (go_at_call 172; refine t1.mono ?_; rintro M r ⟨rfl, l⟩; have m : r.cell? ⟨g, 0, none⟩ = _ := (l.cell (p := ⟨g, 0, none⟩) H).trans J; have a := aj K l))
      have q := B r a;clear t1 B;go_wp2_with (go_at_call 173; refine q.mono ?_; rintro M w2 ⟨rfl, rfl⟩)
      all_goals (
        go_ret;exact⟨_, rfl, h.out _ _ _ n _ he.out (by omega) a (by omega) (by omega) (by omega) (by first | exact .inl (by omega) | exact .inr (fun b o e => by cases e; simp)), a⟩)
  · have P : decide (t ≠ []) = true := by simp[R]
    rw[P] at B
    have he : Hid (eP (ens L) t = min (y + 1) n) := by show _ = _; rw[u.out, if_neg R]
    clear R P u;rcases HN with rfl | ⟨G, rfl⟩
    · obtain rfl : c = 0 := I rfl
      obtain rfl : n = 0 := by omega
      obtain rfl : x = 0 := by omega
      go_enter Tryz.func125, Tryz.ntmps125;go_wp2;go_region_held3 (fun w' => w'.cell? ⟨g, 0, none⟩ = some (.slice none 0 0)) (assumption)
        (first
          | (go_at_call 172; refine t1.mono ?_; rintro M r ⟨rfl, l⟩; have m : r.cell? ⟨g, 0, none⟩ = _ := (l.cell (p := ⟨g, 0, none⟩) H).trans J; have a := aj K l))
      have q := B r a;have t21 := t2 r a;clear t1 B t2;go_wp2_with (first
        | (go_at_call 173; refine q.mono ?_; rintro M w2 ⟨rfl, rfl⟩)
        | (go_at_call 172; refine t21.mono ?_; rintro M w3 ⟨rfl, z⟩; have cg3 : w3.cell? ⟨g, 0, none⟩ = _ := (z.cell (p := ⟨g, 0, none⟩) (aI m)).trans m; have s := aj a z))
      all_goals (
        go_ret;exact⟨_, rfl, h.out _ _ _ (min (y + 1) 0) _ he.out (by omega) s (by omega) (by omega) (by omega) (by first | exact .inl (by omega) | exact .inr (fun b o e => by cases e; simp)), s⟩)
    · clear I
      go_enter Tryz.func125, Tryz.ntmps125;go_wp2;go_region_held3 (fun w' => w'.cell? ⟨g, 0, none⟩ = some (.slice (some ⟨G, 0, none⟩) n c)) (assumption)
        (first
          | (go_at_call 172; refine t1.mono ?_; rintro M r ⟨rfl, l⟩; have m : r.cell? ⟨g, 0, none⟩ = _ := (l.cell (p := ⟨g, 0, none⟩) H).trans J; have a := aj K l))
      have q := B r a;have t21 := t2 r a;clear t1 B t2;go_wp2_with (first
        | (go_at_call 173; refine q.mono ?_; rintro M w2 ⟨rfl, rfl⟩)
        | (go_at_call 172; refine t21.mono ?_; rintro M w3 ⟨rfl, z⟩; have cg3 : w3.cell? ⟨g, 0, none⟩ = _ := (z.cell (p := ⟨g, 0, none⟩) (aI m)).trans m; have s := aj a z))
      all_goals (
        go_ret;exact⟨_, rfl, h.out _ _ _ (min (y + 1) n) _ he.out (by omega) s (by omega) (by omega) (by omega) (by first | exact .inl (by omega) | exact .inr (fun b o e => by cases e; simp)), s⟩)
end
end Pg
end
end Go.Proofs.YthfepflplbahkaaGreatDoor
