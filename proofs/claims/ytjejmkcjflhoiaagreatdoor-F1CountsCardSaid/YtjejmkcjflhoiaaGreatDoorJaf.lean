import Derived.Test.YtjejmkcjflhoiaaGreatDoorJac
import Derived.Lib.BytesEntry
import Derived.WalkMore
import Derived.Deep.RegionHeld3
import Derived.Deep.RegionWith
import Derived.RangeFuncNested
import Derived.RangeFuncBound
import Derived.RangeFuncCalls
import Derived.RangeFuncLeaves
set_option maxRecDepth 100000
set_option maxHeartbeats 8000000
namespace Go.Proofs.YtjejmkcjflhoiaaGreatDoor
section
namespace Pg
open Go.RowKit Go.Lib
section
variable {w w':World}{k b n c m:Nat}{xs ys:List Value}{F:Nat->Prop}{v:Value}
structure Rw(w:World)(E:TypeId)(k b n c:Nat)(xs:List Value):Prop where
 ex:∃ sp,Blk w b (xs ++ sp) E/\xs.length=n * k/\(xs ++ sp).length=c * k/\n<=c/\c<=maxLen
theorem Rw.lt{E:TypeId}(h:Rw w E k b n c xs):b < w.heap.size:=by
 obtain⟨sp,h,_⟩:=h.ex;exact h.lt
theorem Rw.same{E:TypeId}(h:Rw w E k b n c xs)(hb:w'.heap[b]?=w.heap[b]?):Rw w' E k b n c xs:=by
 obtain⟨sp,h,h'⟩:=h.ex;exact⟨sp,h.same hb,h'⟩
theorem Rw.keep{E:TypeId}(h:Rw w E k b n c xs)(hb:Below w.heap.size w w'):Rw w' E k b n c xs:=h.same (hb.block b h.lt)
theorem Rw.chg{E:TypeId}(h:Rw w E k b n c xs)(hb:Chg F w w')(hg:¬ F b):Rw w' E k b n c xs:=h.same (hb.same b h.lt hg)
theorem Rw.drew{E:TypeId}(h:Rw w E k b n c xs):Rw w.drew E k b n c xs:=h.same rfl
theorem Rw.len{E:TypeId}(h:Rw w E k b n c xs):xs.length=n * k:=by
 obtain⟨sp,h,h',_⟩:=h.ex;exact h'
theorem Rw.le{E:TypeId}(h:Rw w E k b n c xs):n<=c/\c<=maxLen:=by
 obtain⟨sp,h,_,_,h'⟩:=h.ex;exact h'
theorem Rw.cell{E:TypeId}(h:Rw w E k b n c xs){i:Nat}(hi:xs[i]?=some v):w.cell? ⟨b,i,none⟩=some v:=by
 obtain⟨sp,h,_⟩:=h.ex;exact h.cell (by rw[List.getElem?_append_left (List.getElem?_eq_some_iff.1 hi).1];exact hi)
theorem Rw.free{E:TypeId}(h:Rw w E k b n c xs)(i:Nat):w.frozen? ⟨b,i,none⟩=false:=by
 obtain⟨sp,h,_⟩:=h.ex;exact h.free i
theorem Rw.kind{E:TypeId}(h:Rw w E k b n c xs):∃ cs,Blk w b cs E:=by
 obtain⟨sp,h,_⟩:=h.ex;exact⟨_,h⟩
theorem Rw.set{E:TypeId}(h:Rw w E k b n c xs)(i:Nat)(hi:i < xs.length)(v:Value):Rw (w.setCell ⟨b,i,none⟩ v) E k b n c (xs.set i v):=by
 obtain⟨sp,h,e,a,d⟩:=h.ex;refine⟨sp,?_,by simpa using e,by simpa using a,d⟩;have:=h.setCell (i:=i) v;rwa [List.set_append_left _ _ hi] at this
theorem yz{E:TypeId}(h:Blk w b xs E)(hx:xs.length=n * k)(hn:n<=maxLen):Rw w E k b n n xs:=⟨[],by simpa using h,hx,by simpa using hx,Nat.le_refl _,hn⟩
theorem Rw.front{E:TypeId}(h:Rw w E k b n c xs)(hm:m<=n):Rw w E k b m c (xs.take (m * k)):=by
 obtain⟨sp,h,g,a,f,d⟩:=h.ex
 have e:m * k<=n * k:=Nat.mul_le_mul_right _ hm;refine⟨xs.drop (m * k) ++ sp,by rw[<- List.append_assoc,List.take_append_drop];exact h,by rw[List.length_take];omega,by rw[<- List.append_assoc,List.take_append_drop];exact a,by omega,d⟩
theorem Rw.more{E:TypeId}(h:Rw w E k b n c xs)(hm:n+m<=c):∃ s,s.length=m * k/\Rw w E k b (n+m) c (xs ++ s):=by
 obtain⟨sp,h,f,a,e,d⟩:=h.ex
 have g:n * k+m * k<=c * k:=by rw[<- Nat.add_mul];exact Nat.mul_le_mul_right _ hm
 rw[List.length_append] at a;refine⟨sp.take (m * k),by rw[List.length_take];omega,sp.drop (m * k),?_,?_,?_,hm,d⟩
 ·rw[List.append_assoc,List.take_append_drop];exact h
 ·rw[List.length_append,List.length_take,Nat.add_mul];omega
 ·rw[List.append_assoc,List.take_append_drop,List.length_append];exact a
theorem Rw.to{E:TypeId}(h:Rw w E k b n c xs)(e:xs=ys):Rw w E k b n c ys:=e▸h
end
section
variable {P:Program} {w:World} {T E:TypeId} {k bytes:Nat} {z:Value}
section
variable {b n c g:Nat}{xs:List Value}
structure Kd(P:Program)(T E:TypeId)(k bytes:Nat)(z:Value):Prop where
 und:P.underlying T=some (.slice E)
 inf:(P.info? E).map (fun i=>(i.zero,i.size,i.bytes))=some (some z,k,bytes)
 zs:z.cells.size=k
 z1:∀ v∈z.cells,v.oneCell'=true
 k0:0 < k
theorem Kd.size(h:Kd P T E k bytes z):(P.info? E).map (·.size)=some k:=by
 obtain⟨i,hi,hz,hs,hb⟩:=info_parts h.inf;rw[hi];simp[hs]
theorem Kd.sizeOf(h:Kd P T E k bytes z)(w:World):(Go.sizeOf E).run P w=.ok k w:=by
 obtain⟨i,hi,hz,hs,hb⟩:=info_parts h.inf;simp[Go.sizeOf,typeInfo,hi,hs]
theorem Kd.zero(h:Kd P T E k bytes z)(w:World):(zeroValue E).run P w=.ok z w:=by
 obtain⟨i,hi,hz,hs,hb⟩:=info_parts h.inf;simp[zeroValue,typeInfo,hi,hz]
theorem mu(w:World)(E:TypeId)(zc:Array Value)(k n c:Nat)(xs:List Value)(a:zc.size=k)(hx:xs.length=n * k)(hn:n<=c)(hc:c<=maxLen) :
  Rw (w.drew.alloc (.cells (xs.toArray ++ Builtin.zeroCells zc (c - n)) E)) E k w.heap.size n c xs :=
 ⟨(Builtin.zeroCells zc (c - n)).toList,⟨by
  have:=(aD w.drew (xs ++ (Builtin.zeroCells zc (c - n)).toList) E).blk;rw[show (xs ++ (Builtin.zeroCells zc (c - n)).toList).toArray=xs.toArray ++ Builtin.zeroCells zc (c - n) by apply Array.ext';simp] at this ⊢
  exact this⟩,hx,by
  rw[List.length_append,hx,Array.length_toList,size_zeroCells,a,<- Nat.add_mul];congr 1;omega,hn,hc⟩
theorem et(H:Kd P T E k bytes z)(ty:TypeId)(R:Rw w E k b n c xs)(a:Addr)(m cc:Nat)(news:List Value)(l:news.length=m * k)(f:∀ j u,news[j]?=some u->w.cell? (a.add j)=some u)(t:∀ u∈news,u.oneCell'=true)(o:(n+m) * bytes<=140737488355328)(hm:n+m<=140737488355328) :
  ∃ b' c' w',(Builtin.append_ #[T,T] ty #[.slice (some ⟨b,0,none⟩) n c,.slice (some a) m cc]).run P w=.ok (.slice (some ⟨b',0,none⟩) (n+m) c') w'/\(b'=b\/b'=w.heap.size)/\Rw w' E k b' (n+m) c' (xs ++ news)/\Chg (·=b) w w':=by
 obtain⟨i,hi,y,hs,hb⟩:=info_parts H.inf;obtain⟨sp,s,hx,hc,v,p⟩:=R.ex;subst hs hb
 have r:n+m<=maxLen:=by simp only[maxLen];omega
 by_cases d:n+m<=c
 ·have h:n * i.size+news.length<=(xs ++ sp).toArray.size:=by
   rw[List.size_toArray,hc,l,<- Nat.add_mul];exact Nat.mul_le_mul_right _ d
  have q:=run_append_room (P:=P) w T ty E i H.und hi b n c (xs ++ sp).toArray s.blk a m cc news l f t d h;refine⟨b,c,_,q,.inl rfl,⟨sp.drop news.length,?_,by rw[List.length_append,hx,l,Nat.add_mul],?_,d,p⟩,(Chg.refl (·=b) w).row (g:=b) (.inl rfl) _⟩
  ·have:=s.row (xs ++ news ++ sp.drop news.length)
   have e:(xs ++ sp).toArray.toList.take (n * i.size) ++ news ++ (xs ++ sp).toArray.toList.drop (n * i.size+news.length)=xs ++ news ++ sp.drop news.length:=by
    rw[show (xs ++ sp).toArray.toList=xs ++ sp from rfl,<- hx,List.take_left,<- List.drop_drop,List.drop_left]
   rw[e];exact this
  ·have B:xs.length + sp.length=c * i.size:=by rw[<- List.length_append]; exact hc
   have A:n * i.size+m * i.size<=c * i.size:=by rw[<- Nat.add_mul];exact Nat.mul_le_mul_right _ d
   rw[List.length_append,List.length_append,List.length_drop];omega
 ·have holds:∀ j u,xs[j]? = some u->w.cell? ((⟨b,0,none⟩:Addr).add j)=some u:=fun j u x=>by rw[Addr.add_lit,Nat.zero_add]; exact R.cell x
  have q:=run_append_grow (P:=P) w T ty E i z H.und hi y ⟨b,0,none⟩ n c xs hx holds a m cc news l f (by omega) (by omega) (growslice_fits (by omega) o);refine⟨w.heap.size,_,_,q,.inr rfl,?_,(Chg.refl _ w).drew.alloc _⟩;have:=mu w E z.cells i.size (n+m) (grownCap w (n+m) c E) (xs ++ news) H.zs (by rw[List.length_append,hx,l,Nat.add_mul]) (grownCap_ge w _ _ _) (grownCap_le_maxLen w _ _ _ r);simpa using this
theorem gX(H:Kd P T E k bytes z)(ty:TypeId)(a:Addr)(m cc:Nat)(news:List Value)(d:news.length=m * k)(c:∀ j u,news[j]?=some u->w.cell? (a.add j)=some u)(g:0 < m)(e:m * bytes<=140737488355328)(hm:m<=140737488355328) :
  ∃ c' w',(Builtin.append_ #[T,T] ty #[.slice none 0 0,.slice (some a) m cc]).run P w=.ok (.slice (some ⟨w.heap.size,0,none⟩) m c') w'/\Rw w' E k w.heap.size m c' news/\Below w.heap.size w w':=by
 obtain⟨i,hi,h,hs,hb⟩:=info_parts H.inf;subst hs hb;have f:=run_append_nil (P:=P) w T ty E i z H.und hi h a m cc news d c g (by omega) (by omega);refine⟨_,_,f,?_,?_⟩
 ·exact mu w E z.cells i.size m (grownCap w m 0 E) news H.zs d (grownCap_ge w _ _ _) (grownCap_le_maxLen w _ _ _ (by simp only[maxLen];omega))
 ·exact(Below.refl _ w).trans ⟨rfl,rfl,rfl,by simp,fun b hb=>by
   have:=(ae w.drew (.cells (news.toArray ++ Builtin.zeroCells z.cells (grownCap w m 0 E - m)) E)).block b hb
   exact this⟩
theorem oO(H:Kd P T E k bytes z)(tn ty:TypeId)(hn:P.underlying tn=some (.int .i64))(R:Rw w E k b n c xs)(m:Nat)(e:0 < m)(hc:c < n+m)(a:(n+m) * bytes<=140737488355328)(hm:n+m<=140737488355328) :
  ∃ c' w',(Builtin.append_ #[T,tn] ty #[.slice (some ⟨b,0,none⟩) n c,.int .i64 m]).run P w=.ok (.slice (some ⟨w.heap.size,0,none⟩) (n+m) c') w'/\Rw w' E k w.heap.size (n+m) c' (xs ++ (Builtin.zeroCells z.cells m).toList)/\Below w.heap.size w w':=by
 obtain⟨i,hi,h,hs,hb⟩:=info_parts H.inf;have hx:=R.len;subst hs hb
 have hold:(Builtin.firstCells i.size n (.slice (some ⟨b,0,none⟩) n c)).run P w.drew=.ok xs.toArray w.drew :=
  run_firstCells_some w.drew i.size n ⟨b,0,none⟩ n c xs hx (fun j v g=>by rw[Addr.add_lit,Nat.zero_add];exact R.cell g)
 have f:m * i.bytes<=(n+m) * i.bytes:=Nat.mul_le_mul_right _ (by omega);have d:=run_append_grow_zeros w T tn ty E i z .i64 .i64 H.und hn hi h (some ⟨b,0,none⟩) n c xs hold m e H.k0 hc (by omega) (by omega) (growslice_fits hc a);refine⟨_,_,d,?_,?_⟩
 ·have:=mu w E z.cells i.size (n+m) (grownCap w (n+m) c E) (xs ++ (Builtin.zeroCells z.cells m).toList) H.zs (by rw[List.length_append,hx,Array.length_toList,size_zeroCells,H.zs,Nat.add_mul]) (grownCap_ge w _ _ _) (grownCap_le_maxLen w _ _ _ (by simp only[maxLen];omega));rw[show (xs ++ (Builtin.zeroCells z.cells m).toList).toArray=xs.toArray ++ Builtin.zeroCells z.cells m by apply Array.ext';simp] at this;exact this
 ·exact⟨rfl,rfl,rfl,by simp,fun b hb=>(ae w.drew (.cells (xs.toArray ++ Builtin.zeroCells z.cells m ++ Builtin.zeroCells z.cells (grownCap w (n+m) c E - (n+m))) E)).block b hb⟩
theorem oK(H:Kd P T E k bytes z)(tn ty:TypeId)(hn:P.underlying tn=some (.int .i64))(m:Nat)(d:0 < m)(a:m * bytes<=140737488355328)(hm:m<=140737488355328) :
  ∃ c' w',(Builtin.append_ #[T,tn] ty #[.slice none 0 0,.int .i64 m]).run P w=.ok (.slice (some ⟨w.heap.size,0,none⟩) m c') w'/\Rw w' E k w.heap.size m c' (Builtin.zeroCells z.cells m).toList/\Below w.heap.size w w':=by
 obtain⟨i,hi,e,hs,hb⟩:=info_parts H.inf;subst hs hb;have c:=run_append_nil_zeros w T tn ty E i z .i64 .i64 H.und hn hi e m d H.k0 (by omega) (by omega);refine⟨_,_,c,?_,?_⟩
 ·have:=mu w E z.cells i.size m (grownCap w m 0 E) (Builtin.zeroCells z.cells m).toList H.zs (by rw[Array.length_toList,size_zeroCells,H.zs]) (grownCap_ge w _ _ _) (grownCap_le_maxLen w _ _ _ (by simp only[maxLen];omega));simpa using this
 ·exact⟨rfl,rfl,rfl,by simp,fun b hb=>(ae w.drew (.cells (Builtin.zeroCells z.cells m ++ Builtin.zeroCells z.cells (grownCap w m 0 E - m)) E)).block b hb⟩
theorem fe(H:Kd P T E k bytes z)(ty:TypeId)(R:Rw w E k g n c xs)(o dLen dCap:Nat)(a:Addr)(sLen sCap:Nat)(cs:List Value)(m:Nat)(hm:Nat.min sLen dLen=m)(hn:cs.length=m * k)(b:∀ j v,cs[j]?=some v->w.cell? (a.add j)=some v)(d:o+cs.length<=xs.length)(q:∀ v∈cs,v.oneCell'=true) :
  ∃ w',(Builtin.copy_ #[T,T] ty #[.slice (some ⟨g,o,none⟩) dLen dCap,.slice (some a) sLen sCap]).run P w=.ok (goInt m) w'/\Rw w' E k g n c (splice xs o cs)/\Chg (·=g) w w':=by
 obtain⟨sp,i,hx,hc,f,h⟩:=R.ex;have p:=xj (P:=P) w T T ty E k g o dLen dCap a sLen sCap (xs ++ sp) cs E H.und H.size i m hm hn b (by rw[List.length_append];omega) q
 have e:splice (xs ++ sp) o cs=splice xs o cs ++ sp:=by
  rw[eP,eP,List.take_append_of_le_length (by omega),List.drop_append_of_le_length (by omega),List.append_assoc,List.append_assoc,List.append_assoc]
 have l:=length_splice xs o cs d;refine⟨_,p,⟨sp,by rw[e];exact i.row _,by rw[l];exact hx,by rw[List.length_append,l,<- List.length_append];exact hc,f,h⟩,(Chg.refl (·=g) w).row (g:=g) (.inl rfl) _⟩
theorem kx(H:Kd P T E k bytes z)(ty:TypeId)(R:Rw w E k b n c xs)(a:Addr)(m cc:Nat)(news:List Value)(o:news.length=m * k)(f:∀ j u,news[j]?=some u->w.cell? (a.add j)=some u)(s:∀ u∈news,u.oneCell'=true)(d:n+m<=c) :
  ∃ w',(Builtin.append_ #[T,T] ty #[.slice (some ⟨b,0,none⟩) n c,.slice (some a) m cc]).run P w=.ok (.slice (some ⟨b,0,none⟩) (n+m) c) w'/\Rw w' E k b (n+m) c (xs ++ news)/\Chg (·=b) w w':=by
 obtain⟨i,hi,v,hs,hb⟩:=info_parts H.inf;obtain⟨sp,p,hx,hc,q,l⟩:=R.ex;subst hs hb
 have h:n * i.size+news.length<=(xs ++ sp).toArray.size:=by
  rw[List.size_toArray,hc,o,<- Nat.add_mul];exact Nat.mul_le_mul_right _ d
 have r:=run_append_room (P:=P) w T ty E i H.und hi b n c (xs ++ sp).toArray p.blk a m cc news o f s d h;refine⟨_,r,⟨sp.drop news.length,?_,by rw[List.length_append,hx,o,Nat.add_mul],?_,d,l⟩,(Chg.refl (·=b) w).row (g:=b) (.inl rfl) _⟩
 ·have:=p.row (xs ++ news ++ sp.drop news.length)
  have e:(xs ++ sp).toArray.toList.take (n * i.size) ++ news ++ (xs ++ sp).toArray.toList.drop (n * i.size+news.length)=xs ++ news ++ sp.drop news.length:=by
   rw[show (xs ++ sp).toArray.toList=xs ++ sp from rfl,<- hx,List.take_left,<- List.drop_drop,List.drop_left]
  rw[e];exact this
 ·have x:xs.length + sp.length=c * i.size:=by rw[<- List.length_append]; exact hc
  have t:n * i.size+m * i.size<=c * i.size:=by rw[<- Nat.add_mul];exact Nat.mul_le_mul_right _ d
  rw[List.length_append,List.length_append,List.length_drop];omega
theorem iY(H:Kd P T E k bytes z)(ty:TypeId)(R:Rw w E k g n c xs)(m cc:Nat)(hm:0 < m)(a:n+m<=c) :
  ∃ w',(Builtin.clear_ #[T] ty #[.slice (some ⟨g,n * k,none⟩) m cc]).run P w=.ok (.tuple #[]) w'/\Rw w' E k g n c xs/\Chg (·=g) w w':=by
 obtain⟨sp,f,hx,hc,b,d⟩:=R.ex
 have j:n * k+m * k<=c * k:=by rw[<- Nat.add_mul];exact Nat.mul_le_mul_right _ a
 have h:=um (P:=P) w T ty E z k g (n * k) m cc (xs ++ sp) E H.und H.zero H.zs H.z1 f hm H.k0 (by omega)
 have e:splice (xs ++ sp) (n * k) (Builtin.zeroCells z.cells m).toList=xs ++ ((Builtin.zeroCells z.cells m).toList ++ sp.drop (Builtin.zeroCells z.cells m).toList.length):=by
  rw[eP,<- hx,List.take_left,<- List.drop_drop,List.drop_left,List.append_assoc]
 have i:((Builtin.zeroCells z.cells m).toList).length=m * k:=by rw[Array.length_toList,size_zeroCells,H.zs]
 refine⟨_,h,⟨_,by rw[e];exact f.row _,hx,?_,b,d⟩,(Chg.refl (·=g) w).row (g:=g) (.inl rfl) _⟩;rw[List.length_append] at hc ⊢;rw[List.length_append,List.length_drop,i];omega
end
end
end Pg
end
section
namespace Pg
open Go.RowKit Go.Lib
theorem KE:Kd Tryz.prog 188 185 2 48 (.agg #[.slice none 0 0,.slice none 0 0]):=⟨by kernel_rfl,by kernel_rfl,rfl,by simp[Value.cells,Value.oneCell'],by decide⟩
theorem KP:Kd Tryz.prog 146 188 1 24 (.slice none 0 0):=⟨by kernel_rfl,by kernel_rfl,rfl,by simp[Value.cells,Value.oneCell'],by decide⟩
theorem lH:Tryz.prog.underlying 3=some (.int .i64):=by kernel_rfl
theorem mixed:Tryz.prog.follows .mixedOrders=true:=by kernel_rfl
section
variable {w:World} {b n c i vb:Nat} {xs:List Value} {e1 e2:Value}
theorem Ae (R:Rw w 185 2 b n c xs) (i:Blk w vb [e1,e2] 185) (hn:n<=1000000000) (l:∀ v∈[e1,e2],v.oneCell'=true) :
  Calls Tryz.prog 196 #[.slice (some ⟨b,0,none⟩) n c,.int .i64 n,.slice (some ⟨vb,0,none⟩) 1 1] w fun e w'=>∃ b' c',e=.returned (.slice (some ⟨b',0,none⟩) (n+1) c')/\(b'=b\/w.heap.size<=b')/\Rw w' 185 2 b' (n+1) c' (xs ++ [e1,e2])/\Chg (·=b) w w':=by
 obtain⟨b',c',W,o,f,p,hC⟩:=et KE 188 R ⟨vb,0,none⟩ 1 1 [e1,e2] rfl (fun j u q=>by rw[Addr.add_lit,Nat.zero_add];exact i.cell q) l (by omega) (by omega);have d:=R.le;simp only[maxLen] at d;have m:=d.1;have g:=d.2;clear d R i l;go_enter Tryz.func196,Tryz.ntmps196;go_wp2_with (at_builtin;refine Lib.wpList_append_run _ rfl _ _ _ _ rfl _ _ rfl rfl _ _ o ?_)
 all_goals (
  go_ret
  exact⟨b',c',rfl,f.imp id (fun e=>by omega),p,hC⟩)
theorem AQ (b:Blk w vb [e1,e2] 185) :
  Calls Tryz.prog 196 #[.slice none 0 0,.int .i64 0,.slice (some ⟨vb,0,none⟩) 1 1] w fun e w'=>∃ c',e=.returned (.slice (some ⟨w.heap.size,0,none⟩) 1 c')/\Rw w' 185 2 w.heap.size 1 c' [e1,e2]/\Below w.heap.size w w':=by
 obtain⟨c',W,c,d,hC⟩:=gX (w:=w) KE 188 ⟨vb,0,none⟩ 1 1 [e1,e2] rfl (fun j u f=>by rw[Addr.add_lit,Nat.zero_add];exact b.cell f) (by decide) (by decide) (by decide);clear b;go_enter Tryz.func196,Tryz.ntmps196;go_wp2_with (at_builtin;refine Lib.wpList_append_run _ rfl _ _ _ _ rfl _ _ rfl rfl _ _ c ?_);go_ret;exact⟨c',rfl,d,hC⟩
theorem uz (R:Rw w 185 2 b n c xs) (q:Blk w vb [e1,e2] 185) (r:vb≠b) (hi:i < n) (l:n+1≤c) (E:∀ v ∈ xs,v.oneCell'=true) (I:∀ v ∈ [e1,e2],v.oneCell'=true) :
    Calls Tryz.prog 196 #[.slice (some ⟨b,0,none⟩) n c,.int .i64 i,.slice (some ⟨vb,0,none⟩) 1 1] w fun e w'=>e=.returned (.slice (some ⟨b,0,none⟩) (n+1) c)∧Rw w' 185 2 b (n+1) c (xs.take (i * 2) ++ [e1,e2] ++ xs.drop (i * 2))∧Chg (·=b) w w':=by
  have hx:=R.len;have d:=R.le;simp only[maxLen] at d;have F:=d.1;have H:=d.2
  have p:∃ cs,Blk w b cs 185∧cs.length=c * 2:=by
    obtain⟨sp,h,_,Q,_⟩:= R.ex;exact⟨_,h,Q⟩
  have A : ∀ (x y : Nat), (callFunc 228 #[.slice (some ⟨vb, 0, none⟩) 1 1, .slice (some ⟨b, (i + 1) * 2, none⟩) x y]).run Tryz.prog w = .ok (.value (.bool false)) w := fun x y => by
    obtain⟨cs,h,N⟩:= p
    rw[run_callFunc_extern Tryz.func228 (by kernel_rfl) (by kernel_rfl) (by kernel_rfl) (e := Extern.SlicesOverlaps.overlaps #[188, 188] #[4]) (by kernel_rfl),
      Lib.run_overlaps_apart w 188 4 185 KE.und 2 KE.sizeOf ⟨vb,0,none⟩ ⟨b,(i+1) * 2,none⟩ 1 1 x y r 185 185 2 (c * 2) (by simp[World.shape?,q.blk]) (by simp[World.shape?,h.blk];simpa using N) (by omega) (q.free _) (q.free _)]
    rfl
  have g:(xs.drop (i * 2)).length=(n - i) * 2:=by rw[List.length_drop,hx];omega
  obtain⟨s,hs,z⟩:= R.drew.more (m:=1) l;obtain⟨D,M,B,u⟩:= fe (w:=w.drew) KE 3 z ((i+1) * 2) (n - i) (c - (i+1)) ⟨b,i * 2,none⟩ (n+1 - i) (c - i) (xs.drop (i * 2)) (n - i) (by simp only[Nat.min_def];split <;> omega) g
    (fun j v t => by
      rw[List.getElem?_drop] at t;rw[Addr.add_lit]
      exact R.cell (w:=w) (by simpa using t)) (by rw[g,z.len];omega) (fun v hv=>E v (List.mem_of_mem_drop hv))
  have o:Blk D vb [e1,e2] 185:=q.drew.chg u r;obtain⟨O,V,C,G⟩:= fe (w:=D) KE 3 B (i * 2) (n+1 - i) (c - i) ⟨vb,0,none⟩ 1 1 [e1,e2] 1 (by simp only[Nat.min_def];split <;> omega) rfl
    (fun j v t=>by rw[Addr.add_lit,Nat.zero_add];exact o.cell t) (by rw[B.len];simp;omega) I
  have f:splice (splice (xs ++ s) ((i+1) * 2) (xs.drop (i * 2))) (i * 2) [e1,e2]=xs.take (i * 2) ++ [e1,e2] ++ xs.drop (i * 2):=by
    have h:=rM xs s [e1,e2] (i * 2) (by omega) (by simp[hs])
    have q0:s.drop ([e1,e2]:List Value).length=[]:=List.drop_of_length_le (by simp[hs]);rw[q0,List.append_nil] at h;simpa[Nat.add_mul] using h
  have K:=C.to f
  have T:Chg (·=b) w O:=((Chg.refl _ w).drew.trans u (fun _ _ h=>h)).trans G (fun _ _ h=>h)
  have Y:¬ ((i:Int)=(n:Int)):=by omega
  have W:IntKind.i64.wrap ((i:Int)+1)=(i:Int)+1:=by rw[IntKind.wrap_i64];omega
  have J:(0:Int)≤(i:Int)+1:=by omega
  have P:i≤n:=by omega
  have U:((i:Int)+1).toNat=i+1:=by omega
  have L:¬ (c=i+1):=by omega
  have S:(i:Int)≤(n:Int)+1:=by omega
  have X:¬ (c=i):=by omega
  clear d R p z B C u G f q o hs g E I;have mixed:=mixed;go_enter Tryz.func196,Tryz.ntmps196;go_wp2_with (simp only[A]);go_region;go_wp2;go_ret;exact⟨rfl,K,T⟩
theorem xz (R:Rw w 185 2 b n c xs) (A:Blk w vb [e1,e2] 185) (hi:i < n) (z:c < n+1) (hn:n≤1000000000) (H:∀ v ∈ xs,v.oneCell'=true) (P:∀ v ∈ [e1,e2],v.oneCell'=true) :
    Calls Tryz.prog 196 #[.slice (some ⟨b,0,none⟩) n c,.int .i64 i,.slice (some ⟨vb,0,none⟩) 1 1] w fun e w'=>∃ c',e=.returned (.slice (some ⟨w.heap.size,0,none⟩) (n+1) c')∧Rw w' 185 2 w.heap.size (n+1) c' (xs.take (i * 2) ++ [e1,e2] ++ xs.drop (i * 2))∧Below w.heap.size w w':=by
  have hx:=R.len;have d:=R.le;simp only[maxLen] at d;have J:=d.1;have M:=d.2;have G:=R.lt;have E:=A.lt;obtain⟨c',y,q,s,p⟩:= oO KE 3 188 lH (R.front (m:=i) (by omega)) (n+1 - i) (by omega) (by omega) (by omega) (by omega);rw[show ((n+1 - i:Nat):Int)=(n:Int)+1 - (i:Int) by omega,show i+(n+1 - i)=n+1 by omega] at q;rw[show i+(n+1 - i)=n+1 by omega] at s;have g:=s.le;simp only[maxLen] at g;have N:=g.1;have L:=g.2
  have r:Blk y vb [e1,e2] 185:=A.keep p;obtain⟨o,hr2,x,t⟩:= fe (w:=y) KE 3 s (i * 2) (n+1 - i) (c' - i) ⟨vb,0,none⟩ 1 1 [e1,e2] 1 (by simp only[Nat.min_def];split <;> omega) rfl
    (fun j v u=>by rw[Addr.add_lit,Nat.zero_add];exact r.cell u) (by rw[s.len];simp;omega) P
  have f:(xs.drop (i * 2)).length=(n - i) * 2:=by rw[List.length_drop,hx];omega
  have I:Rw o.drew 185 2 b n c xs:=((R.keep p).chg t (by show ¬ b=w.heap.size;omega)).drew;obtain⟨K,W,F,O⟩:= fe (w:=o.drew) KE 3 x.drew ((i+1) * 2) (n - i) (c' - (i+1)) ⟨b,i * 2,none⟩ (n - i) (c - i) (xs.drop (i * 2)) (n - i) (by simp) f
    (fun j v u => by
      rw[List.getElem?_drop] at u;rw[Addr.add_lit]
      exact I.cell (by simpa using u)) (by rw[f,x.len];omega) (fun v hv=>H v (List.mem_of_mem_drop hv))
  have l:splice (splice (xs.take (i * 2) ++ (Builtin.zeroCells (.agg #[.slice none 0 0,.slice none 0 0]:Value).cells (n+1 - i)).toList) (i * 2) [e1,e2]) ((i+1) * 2) (xs.drop (i * 2))=xs.take (i * 2) ++ [e1,e2] ++ xs.drop (i * 2):=by
    have hA:(xs.take (i * 2)).length=i * 2:=by rw[List.length_take,hx];omega
    generalize hZ:(Builtin.zeroCells (.agg #[.slice none 0 0,.slice none 0 0]:Value).cells (n+1 - i)).toList=Z
    have C:Z.length=(n+1 - i) * 2:=by rw[← hZ,Array.length_toList,size_zeroCells];rfl
    have q1:xs.take (i * 2) ++ Z=xs.take (i * 2) ++ Z.take 2 ++ Z.drop 2:=by rw[List.append_assoc,List.take_append_drop]
    rw[q1,fC _ (Z.take 2) [e1,e2] _ _ hA (by rw[List.length_take];simp;omega)];have U:=fC (xs.take (i * 2) ++ [e1,e2]) (Z.drop 2) (xs.drop (i * 2)) [] ((i+1) * 2) (by rw[List.length_append,hA];simp <;> omega) (by rw[List.length_drop,C,f];omega);simpa using U
  have Y:=F.to l
  have B:Below w.heap.size w K:=by
    have Q:Below w.heap.size y o:=t.below (fun b hb=>by omega) (p.size)
    have k3:Below w.heap.size o.drew K:=O.below (fun b hb=>by omega) (by have:=p.size;have:=t.size;show w.heap.size≤o.heap.size;omega);exact(p.trans Q).trans ((⟨rfl,rfl,rfl,Nat.le_refl _,fun _ _=>rfl⟩:Below w.heap.size o o.drew).trans k3)
  have hz2:¬ ((i:Int)=(n:Int)):=by omega
  have hw1:IntKind.i64.wrap ((i:Int)+1)=(i:Int)+1:=by rw[IntKind.wrap_i64];omega
  have S:(0:Int)≤(i:Int)+1:=by omega
  have X:i≤n:=by omega
  have htn:((i:Int)+1).toNat=i+1:=by omega
  have T:¬ (c'=i+1):=by omega
  have D:i+1≤n+1:=by omega
  have aa:(i:Int)≤(n:Int)+1:=by omega
  have hb4:¬ (c'=i):=by omega
  have V:¬ (c=i):=by omega
  clear d g R s x F I t O p l A r f H P;have mixed:=mixed;go_enter Tryz.func196,Tryz.ntmps196;go_wp2_with (at_builtin;refine Lib.wpList_append_run _ rfl _ _ _ _ rfl _ _ rfl rfl _ _ q ?_);go_region;go_wp2;go_ret;exact⟨c',rfl,Y,B⟩
theorem insE (R:Rw w 185 2 b n c xs) (d:Blk w vb [e1,e2] 185) (g:vb≠b) (hi:i<=n) (hn:n<=1000000000) (j:∀ v∈xs,v.oneCell'=true) (f:∀ v∈[e1,e2],v.oneCell'=true) :
  Calls Tryz.prog 196 #[.slice (some ⟨b,0,none⟩) n c,.int .i64 i,.slice (some ⟨vb,0,none⟩) 1 1] w fun e w'=>∃ b' c',e=.returned (.slice (some ⟨b',0,none⟩) (n+1) c')/\(b'=b\/w.heap.size<=b')/\Rw w' 185 2 b' (n+1) c' (xs.take (i * 2) ++ [e1,e2] ++ xs.drop (i * 2))/\Chg (·=b) w w':=by
 by_cases h:i=n
 ·subst h;refine(Ae R d hn f).mono ?_
  rintro e w' ⟨b',c',rfl,hb,a,hC⟩;exact⟨b',c',rfl,hb,a.to (by rw[List.take_of_length_le (by rw[R.len];omega),List.drop_of_length_le (by rw[R.len];omega),List.append_nil]),hC⟩
 ·by_cases k:n+1<=c
  ·refine(uz R d g (by omega) k j f).mono ?_
   rintro e w' ⟨rfl,a,hC⟩;exact⟨b,c,rfl,.inl rfl,a,hC⟩
  ·refine(xz R d (by omega) (by omega) hn j f).mono ?_
   rintro e w' ⟨c',rfl,a,hC⟩;exact⟨_,c',rfl,.inr (Nat.le_refl _),a,Chg.of hC⟩
end
section
variable {w:World} {b n c i vb:Nat} {xs:List Value} {e1:Value}
theorem zn (R:Rw w 188 1 b n c xs) (i:Blk w vb [e1] 188) (hn:n<=1000000000) (l:∀ v∈[e1],v.oneCell'=true) :
  Calls Tryz.prog 231 #[.slice (some ⟨b,0,none⟩) n c,.int .i64 n,.slice (some ⟨vb,0,none⟩) 1 1] w fun e w'=>∃ b' c',e=.returned (.slice (some ⟨b',0,none⟩) (n+1) c')/\(b'=b\/w.heap.size<=b')/\Rw w' 188 1 b' (n+1) c' (xs ++ [e1])/\Chg (·=b) w w':=by
 obtain⟨b',c',W,o,f,p,hC⟩:=et KP 146 R ⟨vb,0,none⟩ 1 1 [e1] rfl (fun j u q=>by rw[Addr.add_lit,Nat.zero_add];exact i.cell q) l (by omega) (by omega);have d:=R.le;simp only[maxLen] at d;have m:=d.1;have g:=d.2;clear d R i l;go_enter Tryz.func231,Tryz.ntmps231;go_wp2_with (at_builtin;refine Lib.wpList_append_run _ rfl _ _ _ _ rfl _ _ rfl rfl _ _ o ?_)
 all_goals (
  go_ret
  exact⟨b',c',rfl,f.imp id (fun e=>by omega),p,hC⟩)
theorem uS (R:Rw w 188 1 b n c xs) (q:Blk w vb [e1] 188) (r:vb≠b) (hi:i < n) (l:n+1≤c) (E:∀ v ∈ xs,v.oneCell'=true) (I:∀ v ∈ [e1],v.oneCell'=true) :
    Calls Tryz.prog 231 #[.slice (some ⟨b,0,none⟩) n c,.int .i64 i,.slice (some ⟨vb,0,none⟩) 1 1] w fun e w'=>e=.returned (.slice (some ⟨b,0,none⟩) (n+1) c)∧Rw w' 188 1 b (n+1) c (xs.take (i * 1) ++ [e1] ++ xs.drop (i * 1))∧Chg (·=b) w w':=by
  have hx:=R.len;have d:=R.le;simp only[maxLen] at d;have F:=d.1;have H:=d.2
  have p:∃ cs,Blk w b cs 188∧cs.length=c * 1:=by
    obtain⟨sp,h,_,Q,_⟩:= R.ex;exact⟨_,h,Q⟩
  have A : ∀ (x y : Nat), (callFunc 246 #[.slice (some ⟨vb, 0, none⟩) 1 1, .slice (some ⟨b, i + 1, none⟩) x y]).run Tryz.prog w = .ok (.value (.bool false)) w := fun x y => by
    obtain⟨cs,h,N⟩:= p
    rw[run_callFunc_extern Tryz.func246 (by kernel_rfl) (by kernel_rfl) (by kernel_rfl) (e := Extern.SlicesOverlaps.overlaps #[146, 146] #[4]) (by kernel_rfl),
      Lib.run_overlaps_apart w 146 4 188 KP.und 1 KP.sizeOf ⟨vb,0,none⟩ ⟨b,i+1,none⟩ 1 1 x y r 188 188 1 (c * 1) (by simp[World.shape?,q.blk]) (by simp[World.shape?,h.blk];simpa using N) (by omega) (q.free _) (q.free _)]
    rfl
  have g:(xs.drop (i * 1)).length=(n - i) * 1:=by rw[List.length_drop,hx];omega
  obtain⟨s,hs,z⟩:= R.drew.more (m:=1) l;obtain⟨D,M,B,u⟩:= fe (w:=w.drew) KP 3 z (i+1) (n - i) (c - (i+1)) ⟨b,i,none⟩ (n+1 - i) (c - i) (xs.drop (i * 1)) (n - i) (by simp only[Nat.min_def];split <;> omega) g
    (fun j v t => by
      rw[List.getElem?_drop] at t;rw[Addr.add_lit]
      exact R.cell (w:=w) (by simpa using t)) (by rw[g,z.len];omega) (fun v hv=>E v (List.mem_of_mem_drop hv))
  have o:Blk D vb [e1] 188:=q.drew.chg u r;obtain⟨O,V,C,G⟩:= fe (w:=D) KP 3 B (i) (n+1 - i) (c - i) ⟨vb,0,none⟩ 1 1 [e1] 1 (by simp only[Nat.min_def];split <;> omega) rfl
    (fun j v t=>by rw[Addr.add_lit,Nat.zero_add];exact o.cell t) (by rw[B.len];simp;omega) I
  have f:splice (splice (xs ++ s) (i+1) (xs.drop (i * 1))) (i) [e1]=xs.take (i * 1) ++ [e1] ++ xs.drop (i * 1):=by
    have h:=rM xs s [e1] (i * 1) (by omega) (by simp[hs])
    have q0:s.drop ([e1]:List Value).length=[]:=List.drop_of_length_le (by simp[hs]);rw[q0,List.append_nil] at h;simpa[Nat.add_mul] using h
  have K:=C.to f
  have T:Chg (·=b) w O:=((Chg.refl _ w).drew.trans u (fun _ _ h=>h)).trans G (fun _ _ h=>h)
  have Y:¬ ((i:Int)=(n:Int)):=by omega
  have W:IntKind.i64.wrap ((i:Int)+1)=(i:Int)+1:=by rw[IntKind.wrap_i64];omega
  have J:(0:Int)≤(i:Int)+1:=by omega
  have P:i≤n:=by omega
  have U:((i:Int)+1).toNat=i+1:=by omega
  have L:¬ (c=i+1):=by omega
  have S:(i:Int)≤(n:Int)+1:=by omega
  have X:¬ (c=i):=by omega
  clear d R p z B C u G f q o hs g E I;have mixed:=mixed;go_enter Tryz.func231,Tryz.ntmps231;go_wp2_with (simp only[A]);go_region;go_wp2;go_ret;exact⟨rfl,K,T⟩
theorem yw (R:Rw w 188 1 b n c xs) (A:Blk w vb [e1] 188) (hi:i < n) (z:c < n+1) (hn:n≤1000000000) (H:∀ v ∈ xs,v.oneCell'=true) (P:∀ v ∈ [e1],v.oneCell'=true) :
    Calls Tryz.prog 231 #[.slice (some ⟨b,0,none⟩) n c,.int .i64 i,.slice (some ⟨vb,0,none⟩) 1 1] w fun e w'=>∃ c',e=.returned (.slice (some ⟨w.heap.size,0,none⟩) (n+1) c')∧Rw w' 188 1 w.heap.size (n+1) c' (xs.take (i * 1) ++ [e1] ++ xs.drop (i * 1))∧Below w.heap.size w w':=by
  have hx:=R.len;have d:=R.le;simp only[maxLen] at d;have J:=d.1;have M:=d.2;have G:=R.lt;have E:=A.lt;obtain⟨c',y,q,s,p⟩:= oO KP 3 146 lH (R.front (m:=i) (by omega)) (n+1 - i) (by omega) (by omega) (by omega) (by omega);rw[show ((n+1 - i:Nat):Int)=(n:Int)+1 - (i:Int) by omega,show i+(n+1 - i)=n+1 by omega] at q;rw[show i+(n+1 - i)=n+1 by omega] at s;have g:=s.le;simp only[maxLen] at g;have N:=g.1;have L:=g.2
  have r:Blk y vb [e1] 188:=A.keep p;obtain⟨o,hr2,x,t⟩:= fe (w:=y) KP 3 s (i) (n+1 - i) (c' - i) ⟨vb,0,none⟩ 1 1 [e1] 1 (by simp only[Nat.min_def];split <;> omega) rfl
    (fun j v u=>by rw[Addr.add_lit,Nat.zero_add];exact r.cell u) (by rw[s.len];simp;omega) P
  have f:(xs.drop (i * 1)).length=(n - i) * 1:=by rw[List.length_drop,hx];omega
  have I:Rw o.drew 188 1 b n c xs:=((R.keep p).chg t (by show ¬ b=w.heap.size;omega)).drew;obtain⟨K,W,F,O⟩:= fe (w:=o.drew) KP 3 x.drew (i+1) (n - i) (c' - (i+1)) ⟨b,i,none⟩ (n - i) (c - i) (xs.drop (i * 1)) (n - i) (by simp) f
    (fun j v u => by
      rw[List.getElem?_drop] at u;rw[Addr.add_lit]
      exact I.cell (by simpa using u)) (by rw[f,x.len];omega) (fun v hv=>H v (List.mem_of_mem_drop hv))
  have l:splice (splice (xs.take (i * 1) ++ (Builtin.zeroCells (.slice none 0 0:Value).cells (n+1 - i)).toList) (i) [e1]) (i+1) (xs.drop (i * 1))=xs.take (i * 1) ++ [e1] ++ xs.drop (i * 1):=by
    have hA:(xs.take (i * 1)).length=i:=by rw[List.length_take,hx];omega
    generalize hZ:(Builtin.zeroCells (.slice none 0 0:Value).cells (n+1 - i)).toList=Z
    have C:Z.length=(n+1 - i) * 1:=by rw[← hZ,Array.length_toList,size_zeroCells];rfl
    have q1:xs.take (i * 1) ++ Z=xs.take (i * 1) ++ Z.take 1 ++ Z.drop 1:=by rw[List.append_assoc,List.take_append_drop]
    rw[q1,fC _ (Z.take 1) [e1] _ _ hA (by rw[List.length_take];simp;omega)];have U:=fC (xs.take (i * 1) ++ [e1]) (Z.drop 1) (xs.drop (i * 1)) [] (i+1) (by rw[List.length_append,hA];simp <;> omega) (by rw[List.length_drop,C,f];omega);simpa using U
  have Y:=F.to l
  have B:Below w.heap.size w K:=by
    have Q:Below w.heap.size y o:=t.below (fun b hb=>by omega) (p.size)
    have k3:Below w.heap.size o.drew K:=O.below (fun b hb=>by omega) (by have:=p.size;have:=t.size;show w.heap.size≤o.heap.size;omega);exact(p.trans Q).trans ((⟨rfl,rfl,rfl,Nat.le_refl _,fun _ _=>rfl⟩:Below w.heap.size o o.drew).trans k3)
  have hz2:¬ ((i:Int)=(n:Int)):=by omega
  have hw1:IntKind.i64.wrap ((i:Int)+1)=(i:Int)+1:=by rw[IntKind.wrap_i64];omega
  have S:(0:Int)≤(i:Int)+1:=by omega
  have X:i≤n:=by omega
  have htn:((i:Int)+1).toNat=i+1:=by omega
  have T:¬ (c'=i+1):=by omega
  have D:i+1≤n+1:=by omega
  have aa:(i:Int)≤(n:Int)+1:=by omega
  have hb4:¬ (c'=i):=by omega
  have V:¬ (c=i):=by omega
  clear d g R s x F I t O p l A r f H P;have mixed:=mixed;go_enter Tryz.func231,Tryz.ntmps231;go_wp2_with (at_builtin;refine Lib.wpList_append_run _ rfl _ _ _ _ rfl _ _ rfl rfl _ _ q ?_);go_region;go_wp2;go_ret;exact⟨c',rfl,Y,B⟩
theorem insP (R:Rw w 188 1 b n c xs) (d:Blk w vb [e1] 188) (g:vb≠b) (hi:i<=n) (hn:n<=1000000000) (j:∀ v∈xs,v.oneCell'=true) (f:∀ v∈[e1],v.oneCell'=true) :
  Calls Tryz.prog 231 #[.slice (some ⟨b,0,none⟩) n c,.int .i64 i,.slice (some ⟨vb,0,none⟩) 1 1] w fun e w'=>∃ b' c',e=.returned (.slice (some ⟨b',0,none⟩) (n+1) c')/\(b'=b\/w.heap.size<=b')/\Rw w' 188 1 b' (n+1) c' (xs.take (i * 1) ++ [e1] ++ xs.drop (i * 1))/\Chg (·=b) w w':=by
 by_cases h:i=n
 ·subst h;refine(zn R d hn f).mono ?_
  rintro e w' ⟨b',c',rfl,hb,a,hC⟩;exact⟨b',c',rfl,hb,a.to (by rw[List.take_of_length_le (by rw[R.len];omega),List.drop_of_length_le (by rw[R.len];omega),List.append_nil]),hC⟩
 ·by_cases k:n+1<=c
  ·refine(uS R d g (by omega) k j f).mono ?_
   rintro e w' ⟨rfl,a,hC⟩;exact⟨b,c,rfl,.inl rfl,a,hC⟩
  ·refine(yw R d (by omega) (by omega) hn j f).mono ?_
   rintro e w' ⟨c',rfl,a,hC⟩;exact⟨_,c',rfl,.inr (Nat.le_refl _),a,Chg.of hC⟩
end
end Pg
end
section
namespace Pg
open Go.RowKit Go.Lib
section
variable {w:World} {b n c i:Nat} {xs:List Value}
theorem zI (R:Rw w 185 2 b n c xs) (hi:i < n) (p:c≠i+1) (s:∀ v ∈ xs,v.oneCell'=true) :
    Calls Tryz.prog 202 #[.slice (some ⟨b,0,none⟩) n c,.int .i64 i,.int .i64 (i+1)] w fun e w'=>e=.returned (.slice (some ⟨b,0,none⟩) (n - 1) c)∧Rw w' 185 2 b (n - 1) c (xs.take (i * 2) ++ xs.drop ((i+1) * 2))∧Chg (·=b) w w':=by
  have hx:=R.len;have d:=R.le;simp only[maxLen] at d;have u:=d.1;have y:=d.2
  have f:(xs.drop ((i+1) * 2)).length=(n - (i+1)) * 2:=by rw[List.length_drop,hx];omega
  obtain⟨O,g,l,t⟩:= kx KE 188 (R.drew.front (m:=i) (by omega)) ⟨b,(i+1) * 2,none⟩ (n - (i+1)) (c - (i+1)) (xs.drop ((i+1) * 2)) f
    (fun j v A => by
      rw[List.getElem?_drop] at A;rw[Addr.add_lit]
      exact R.drew.cell (by simpa using A)) (fun v hv=>s v (List.mem_of_mem_drop hv)) (by omega)
  rw[show i+(n - (i+1))=n - 1 by omega] at l;obtain⟨G,o,r,x⟩:= iY KE 0 l (n - (n - 1)) (c - (n - 1)) (by omega) (by omega)
  have I:Chg (·=b) w G:=((Chg.refl _ w).drew.trans t (fun _ _ h=>h)).trans x (fun _ _ h=>h);obtain⟨q,L⟩:∃ q,n=i+1+q:=⟨n - (i+1),by omega⟩;subst L;rw[show i+1+q - (i+1)=q by omega] at g;rw[show i+1+q - 1=i+q by omega] at o r ⊢
  have N:¬ ((i:Int)=(i:Int)+1):=by omega
  have H:i≤i+1+q:=by omega
  have D:¬ (c=i+1):=p
  have C:(0:Int)≤(i:Int)+1:=by omega
  have B:i≤c:=by omega
  have J:((i:Int)+1).toNat=i+1:=by omega
  have E:¬ (c=i+q):=by omega
  have K:(i:Int)+1≤((i+1+q:Nat):Int):=by omega
  have F:i+1≤i+1+q:=by omega
  have z:(i:Int)+1≤(i:Int)+1+(q:Int):=by omega
  have M:((i+1+q:Nat):Int)≤(c:Int):=by omega
  clear d R l t x f s;have mixed:=mixed;go_enter Tryz.func202,Tryz.ntmps202;go_wp2;go_region_law_o (refine j3 rfl (.tmp 22) (.tmp 25) 188 188 rfl _ _ (by simp[Act.eval,Act.put]) (by simp[Act.eval,Act.put]) g ?_);go_wp2;go_ret;exact⟨rfl,r,I⟩
theorem xE (R:Rw w 185 2 b (i+1) (i+1) xs) :
  Calls Tryz.prog 202 #[.slice (some ⟨b,0,none⟩) (i+1) (i+1),.int .i64 i,.int .i64 (i+1)] w fun e w'=>e=.returned (.slice (some ⟨b,0,none⟩) i (i+1))/\Rw w' 185 2 b i (i+1) (xs.take (i * 2))/\Chg (·=b) w w':=by
 have c:=R.le;simp only[maxLen] at c;have l:=c.2;obtain⟨A,d,f,n⟩:=kx KE 188 (R.drew.front (m:=i) (by omega)) ⟨b,0,none⟩ 0 0 [] (by simp) (fun j v t=>by simp at t) (fun v hv=>by simp at hv) (by omega);rw[Nat.add_zero] at f d;rw[List.append_nil] at f;obtain⟨y,x,o,g⟩:=iY KE 0 f 1 1 (by omega) (by omega)
 have q:Chg (·=b) w y:=((Chg.refl _ w).drew.trans n (fun _ _ h=>h)).trans g (fun _ _ h=>h)
 have z:¬ ((i:Int)=(i:Int)+1):=by omega
 have s:i<=i+1:=by omega
 have p:(0:Int)<=(i:Int)+1:=by omega
 have r:((i:Int)+1).toNat=i+1:=by omega
 have e1:i+1 - i=1:=by omega
 have u:(i:Int)<=(i:Int)+1:=by omega
 clear c R f n g;have mixed:=mixed;go_enter Tryz.func202,Tryz.ntmps202;go_wp2;go_region_law_o (refine j3 rfl (.tmp 22) (.tmp 25) 188 188 rfl _ _ (by simp[Act.eval,Act.put]) (by simp[Act.eval,Act.put]) d ?_);go_wp2;go_ret;exact⟨rfl,o,q⟩
theorem delE (R:Rw w 185 2 b n c xs) (hi:i < n) (a:∀ v∈xs,v.oneCell'=true) :
  Calls Tryz.prog 202 #[.slice (some ⟨b,0,none⟩) n c,.int .i64 i,.int .i64 (i+1)] w fun e w'=>e=.returned (.slice (some ⟨b,0,none⟩) (n - 1) c)/\Rw w' 185 2 b (n - 1) c (xs.take (i * 2) ++ xs.drop ((i+1) * 2))/\Chg (·=b) w w':=by
 by_cases h:c=i+1
 ·have f:=R.le;obtain rfl:n=i + 1:=by omega
  subst h;refine(xE R).mono ?_
  rintro e w' ⟨rfl,d,hC⟩;exact⟨by simp,d.to (by rw[List.drop_of_length_le (by rw[R.len];omega),List.append_nil]),hC⟩
 ·exact zI R hi h a
end
section
variable {w:World} {b n c i:Nat} {xs:List Value}
theorem Ca (R:Rw w 188 1 b n c xs) (hi:i < n) (p:c≠i+1) (s:∀ v ∈ xs,v.oneCell'=true) :
    Calls Tryz.prog 203 #[.slice (some ⟨b,0,none⟩) n c,.int .i64 i,.int .i64 (i+1)] w fun e w'=>e=.returned (.slice (some ⟨b,0,none⟩) (n - 1) c)∧Rw w' 188 1 b (n - 1) c (xs.take (i * 1) ++ xs.drop ((i+1) * 1))∧Chg (·=b) w w':=by
  have hx:=R.len;have d:=R.le;simp only[maxLen] at d;have u:=d.1;have y:=d.2
  have f:(xs.drop ((i+1) * 1)).length=(n - (i+1)) * 1:=by rw[List.length_drop,hx];omega
  obtain⟨O,g,o,t⟩:= kx KP 146 (R.drew.front (m:=i) (by omega)) ⟨b,i+1,none⟩ (n - (i+1)) (c - (i+1)) (xs.drop ((i+1) * 1)) f
    (fun j v A => by
      rw[List.getElem?_drop] at A;rw[Addr.add_lit]
      exact R.drew.cell (by simpa using A)) (fun v hv=>s v (List.mem_of_mem_drop hv)) (by omega)
  rw[show i+(n - (i+1))=n - 1 by omega] at o;obtain⟨G,l,r,x⟩:= iY KP 0 o (n - (n - 1)) (c - (n - 1)) (by omega) (by omega)
  have I:Chg (·=b) w G:=((Chg.refl _ w).drew.trans t (fun _ _ h=>h)).trans x (fun _ _ h=>h);obtain⟨q,L⟩:∃ q,n=i+1+q:=⟨n - (i+1),by omega⟩;subst L;rw[show i+1+q - (i+1)=q by omega] at g;rw[show i+1+q - 1=i+q by omega] at l r ⊢;simp only[Nat.mul_one] at l
  have N:¬ ((i:Int)=(i:Int)+1):=by omega
  have H:i≤i+1+q:=by omega
  have D:¬ (c=i+1):=p
  have C:(0:Int)≤(i:Int)+1:=by omega
  have B:i≤c:=by omega
  have J:((i:Int)+1).toNat=i+1:=by omega
  have E:¬ (c=i+q):=by omega
  have K:(i:Int)+1≤((i+1+q:Nat):Int):=by omega
  have F:i+1≤i+1+q:=by omega
  have z:(i:Int)+1≤(i:Int)+1+(q:Int):=by omega
  have M:((i+1+q:Nat):Int)≤(c:Int):=by omega
  clear d R o t x f s;have mixed:=mixed;go_enter Tryz.func203,Tryz.ntmps203;go_wp2;go_region_law_o (refine j3 rfl (.tmp 22) (.tmp 25) 146 146 rfl _ _ (by simp[Act.eval,Act.put]) (by simp[Act.eval,Act.put]) g ?_);go_wp2;go_ret;exact⟨rfl,r,I⟩
theorem xh (R:Rw w 188 1 b (i+1) (i+1) xs) :
  Calls Tryz.prog 203 #[.slice (some ⟨b,0,none⟩) (i+1) (i+1),.int .i64 i,.int .i64 (i+1)] w fun e w'=>e=.returned (.slice (some ⟨b,0,none⟩) i (i+1))/\Rw w' 188 1 b i (i+1) (xs.take (i * 1))/\Chg (·=b) w w':=by
 have c:=R.le;simp only[maxLen] at c;have n:=c.2;obtain⟨A,d,f,o⟩:=kx KP 146 (R.drew.front (m:=i) (by omega)) ⟨b,0,none⟩ 0 0 [] (by simp) (fun j v u=>by simp at u) (fun v hv=>by simp at hv) (by omega);rw[Nat.add_zero] at f d;rw[List.append_nil] at f;obtain⟨y,g,p,l⟩:=iY KP 0 f 1 1 (by omega) (by omega)
 have r:Chg (·=b) w y:=((Chg.refl _ w).drew.trans o (fun _ _ h=>h)).trans l (fun _ _ h=>h);simp only[Nat.mul_one] at g
 have z:¬ ((i:Int)=(i:Int)+1):=by omega
 have t:i<=i+1:=by omega
 have q:(0:Int)<=(i:Int)+1:=by omega
 have s:((i:Int)+1).toNat=i+1:=by omega
 have e1:i+1 - i=1:=by omega
 have x:(i:Int)<=(i:Int)+1:=by omega
 clear c R f o l;have mixed:=mixed;go_enter Tryz.func203,Tryz.ntmps203;go_wp2;go_region_law_o (refine j3 rfl (.tmp 22) (.tmp 25) 146 146 rfl _ _ (by simp[Act.eval,Act.put]) (by simp[Act.eval,Act.put]) d ?_);go_wp2;go_ret;exact⟨rfl,p,r⟩
theorem delP (R:Rw w 188 1 b n c xs) (hi:i < n) (a:∀ v∈xs,v.oneCell'=true) :
  Calls Tryz.prog 203 #[.slice (some ⟨b,0,none⟩) n c,.int .i64 i,.int .i64 (i+1)] w fun e w'=>e=.returned (.slice (some ⟨b,0,none⟩) (n - 1) c)/\Rw w' 188 1 b (n - 1) c (xs.take (i * 1) ++ xs.drop ((i+1) * 1))/\Chg (·=b) w w':=by
 by_cases h:c=i+1
 ·have f:=R.le;obtain rfl:n=i + 1:=by omega
  subst h;refine(xh R).mono ?_
  rintro e w' ⟨rfl,d,hC⟩;exact⟨by simp,d.to (by rw[List.drop_of_length_le (by rw[R.len];omega),List.append_nil]),hC⟩
 ·exact Ca R hi h a
end
end Pg
end
section
namespace Pg
open Go.RowKit Go.Lib
section
variable {w w':World}{v:Value}{l:List Int}{D D':Nat->Prop}{a:Addr}{n:Nat}{xs:List Value}
def Oct(l:List Int):Prop:=∀ x∈l,0<=x/\x < 256
structure By(w:World)(v:Value)(l:List Int):Prop where
 ex:∃ ao c,v=.slice ao l.length c/\l.length<=c/\c<=9223372036854775807/\(ao=none->c=0)/\Oct l/\(l=[]\/∃ b o,ao=some ⟨b,o,none⟩/\b < w.heap.size/\∀ i x,l[i]?=some x->w.cell? ⟨b,o+i,none⟩=some (.int .u8 x))
theorem By.keep(h:By w v l)(hb:Below w.heap.size w w'):By w' v l:=by
 obtain⟨d,c,k,g,j,n,m,f⟩:=h.ex;refine⟨d,c,k,g,j,n,m,f.imp id ?_⟩;rintro⟨b,o,e,a,hc⟩;exact⟨b,o,e,Nat.lt_of_lt_of_le a hb.size,fun i x hi=>by rw[hb.cell (p:=⟨b,o+i,none⟩) a];exact hc i x hi⟩
theorem By.drew(h:By w v l):By w.drew v l:=h.keep ⟨rfl,rfl,rfl,Nat.le_refl _,fun _ _=>rfl⟩
theorem By.oct(h:By w v l):Oct l:=by
 obtain⟨ao,c,h1,h2,h3,h4,h5,h6⟩:=h.ex;exact h5
theorem By.nil(w:World):By w (.slice none 0 0) []:=⟨none,0,rfl,by decide,by decide,fun _=>rfl,fun _ h=>by simp at h,.inl rfl⟩
structure OB(w:World)(D:Nat->Prop)(v:Value)(l:List Int):Prop where
 oct:Oct l
 ex:(v=.slice none 0 0/\l=[])\/∃ b c,v=.slice (some ⟨b,0,none⟩) l.length c/\D b/\Rw w 5 1 b l.length c (l.map (Value.int .u8))
theorem OB.by(h:OB w D v l):By w v l:=by
 rcases h.ex with⟨rfl,rfl⟩ | ⟨b,c,rfl,hd,hR⟩
 ·exact By.nil w
 ·have a:=hR.le;simp only[maxLen] at a;exact⟨_,c,rfl,by omega,by omega,(fun e=>by cases e),h.oct,.inr ⟨b,0,rfl,hR.lt,fun i x hi=>by rw[Nat.zero_add];exact hR.cell (by simp[hi])⟩⟩
theorem OB.mono(h:OB w D v l)(hD:∀ b,b < w.heap.size->D b->D' b):OB w D' v l:=by
 refine⟨h.oct,h.ex.imp id ?_⟩;rintro⟨b,c,e,hd,hR⟩;exact⟨b,c,e,hD b hR.lt hd,hR⟩
theorem OB.same(h:OB w D v l)(hD:∀ b,b < w.heap.size->D b->w'.heap[b]?=w.heap[b]?):OB w' D v l:=by
 refine⟨h.oct,h.ex.imp id ?_⟩;rintro⟨b,c,e,hd,hR⟩;exact⟨b,c,e,hd,hR.same (hD b hR.lt hd)⟩
theorem OB.keep(h:OB w D v l)(hb:Below w.heap.size w w'):OB w' D v l:=h.same fun b hb' _=>hb.block b hb'
theorem OB.one(h:OB w D v l):v.oneCell'=true:=by
 rcases h.ex with⟨rfl,rfl⟩ | ⟨b,c,rfl,hd,hR⟩<;>rfl
def dm:List Int->List Int->Int
 | [],[]=>0
 | [],_ :: _=>-1
 | _ :: _,[]=>1
 | x :: a,y :: b=>if x < y then -1 else if y < x then 1 else dm a b
theorem EW{x y:Int}(hx:0<=x/\x < 256)(hy:0<=y/\y < 256):(UInt8.ofNat x.toNat < UInt8.ofNat y.toNat)<->x < y:=by
 rw[UInt8.lt_iff_toNat_lt,UInt8.toNat_ofNat_of_lt' (by show x.toNat < 256;omega),UInt8.toNat_ofNat_of_lt' (by show y.toNat < 256;omega)];omega
theorem j5:∀ (l l':List Int),Oct l->Oct l'->compareBytes (bytesOf l) (bytesOf l')=dm l l'
 | [],[],_,_=>rfl
 | [],_ :: _,_,_=>rfl
 | _ :: _,[],_,_=>rfl
 | x :: a,y :: b,h,h'=>by
  have ih:=j5 a b (fun z c=>h z (List.mem_cons_of_mem _ c)) (fun z c=>h' z (List.mem_cons_of_mem _ c));have hx:=h x List.mem_cons_self;have hy:=h' y List.mem_cons_self
  show (if UInt8.ofNat x.toNat < UInt8.ofNat y.toNat then _ else if UInt8.ofNat y.toNat < UInt8.ofNat x.toNat then _ else compareBytes (bytesOf a) (bytesOf b))=_
  rw[dm];simp only[EW hx hy,EW hy hx,ih]
theorem lO{P:Program}(h:By w v l):(Extern.Bytes.bytesOf v).run P w=.ok ⟨(bytesOf l).toArray⟩ w:=by
 obtain⟨f,c,rfl,p,m,k,n,d⟩:=h.ex
 cases f with
 | none =>
  have:l=[]:=List.eq_nil_of_length_eq_zero (by have:=k rfl;omega);subst this;rfl
 | some a =>
  rcases d with rfl | ⟨b,o,e,i,hc⟩
  ·rfl
  ·cases e;have:=run_loadBytesX (P:=P) w l ⟨b,o,none⟩ .empty (fun j x g=>by rw[Addr.add_lit];exact hc j x g)
   show (Extern.Bytes.loadBytes ⟨b,o,none⟩ l.length .empty).run P w=_
   rw[this];congr 1
   apply ByteArray.ext;simp
theorem lK{c:Value}{b:List Int}(h:By w v l)(d:By w c b) :
  Calls Tryz.prog 206 #[v,c] w fun e w'=>e=.returned (.int .i64 (dm l b))/\w'=w:=by
 have f:(callFunc 236 #[v,c]).run Tryz.prog w=.ok (.value (.int .i64 (dm l b))) w:=by
  rw[run_callFunc_extern Tryz.func236 (by kernel_rfl) (by kernel_rfl) (by kernel_rfl) (e:=Extern.BytealgCompare.compare) (by kernel_rfl)];have:(Extern.BytealgCompare.compare #[v,c]).run Tryz.prog w=.ok (.int .i64 (dm l b)) w:=by
   change Sem.run Tryz.prog (do pure (goInt (Extern.BytealgCompare.cmp (<- Extern.Bytes.bytesOf v) (<- Extern.Bytes.bytesOf c)))) w=_
   simp only[Sem.run_bind,lO h,lO d,Sem.run_pure,Result.andThen];rw[cmp_eq,j5 l b h.oct d.oct];rfl
  rw[this];rfl
 clear h d;generalize dm l b=x at *;go_enter Tryz.func206,Tryz.ntmps206;go_wp2_with (simp only[f]);go_ret;exact⟨rfl,rfl⟩
theorem KB:Kd Tryz.prog 87 5 1 1 (.int .u8 0):=⟨by kernel_rfl,by kernel_rfl,rfl,by simp[Value.cells,Value.oneCell'],by decide⟩
theorem mL(h:w.cell? a=some v)(o:Obj):(w.alloc o).cell? a=some v:=by
 have b:a.block < w.heap.size:=by
  unfold World.cell? at h
  cases hh:w.heap[a.block]? with
  | none=>simp[hh] at h
  | some ob=>exact lt_of_block hh
 rw[(ae w o).cell b];exact h
theorem map_u8(l:List Int):∀ v∈l.map (Value.int .u8),v.oneCell'=true:=by
 intro v hv;obtain⟨x,_,rfl⟩:=List.mem_map.1 hv;rfl
theorem cQ(h:By w v l)(z:l.length<=1000000000) :
  Calls Tryz.prog 69 #[v] w fun e w'=>∃ v',e=.returned v'/\OB w' (w.heap.size <= ·) v' l/\Below w.heap.size w w':=by
 have y:=h.oct;obtain⟨F,c,rfl,I,H,C,E,A⟩:=h.ex
 cases F with
 | none =>
  have B:l=[]:=List.eq_nil_of_length_eq_zero (by have:=C rfl;omega);subst B;have d:=fun(w:World) (a:Option Addr) (n c:Nat)=>Go.Lib.run_eql_slice_nil (P:=Tryz.prog) w 87 _ a n c 0 0 KB.und
  go_enter Tryz.func69,Tryz.ntmps69;go_wp2;go_ret;exact⟨_,rfl,⟨y,.inl ⟨rfl,rfl⟩⟩,Below.refl _ _⟩
 | some a =>
  have t:Rw (w.alloc (.cells #[] 5)) 5 1 w.heap.size 0 0 []:=yz (aD w [] _) rfl (by decide)
  have g:∀ j u,(l.map (Value.int .u8))[j]? = some u->(w.alloc (.cells #[] 5)).cell? (a.add j)=some u:=fun j u p=>by
   rcases A with rfl | ⟨b,o,e,G,hc⟩
   ·simp at p
   ·cases e;rw[List.getElem?_map] at p;obtain⟨x,hx,rfl⟩:=Option.map_eq_some_iff.1 p;exact mL (by rw[Addr.add_lit];exact hc j x hx) _
  obtain⟨q,s,W,r,f,m,hC⟩:=et KB 87 t a l.length c (l.map (Value.int .u8)) (by simp) g (map_u8 l) (by omega) (by omega);rw[Nat.zero_add] at r m
  have D:Below w.heap.size w W:=(ae w (.cells #[] 5)).trans (hC.below (fun b hb=>by omega) (ae w _).size)
  have i:w.heap.size<=q:=by rcases f with e | e;omega;rw[World.size_alloc] at e;omega
  have hF:OB W (w.heap.size <= ·) (.slice (some ⟨q,0,none⟩) l.length s) l:=⟨y,.inr ⟨q,s,rfl,i,m.to (by simp)⟩⟩
  clear t g A h m hC E f;have d:=fun(w:World) (a:Option Addr) (n c:Nat)=>Go.Lib.run_eql_slice_nil (P:=Tryz.prog) w 87 _ a n c 0 0 KB.und
  go_enter Tryz.func69,Tryz.ntmps69;go_wp2_with (at_builtin;refine Lib.wpList_append_run _ rfl _ _ _ _ rfl _ _ rfl rfl _ _ r ?_);go_ret;exact⟨_,rfl,hF,D⟩
theorem BH{c:Nat}(hn:n<=1000000000)(hx:xs.length=n * 2)(hc:∀ j v,xs[j]?=some v->w.cell? (a.add j)=some v)(m:∀ v∈xs,v.oneCell'=true) :
  Calls Tryz.prog 230 #[.slice (some a) n c] w fun e w'=>∃ b' c',e=.returned (.slice (some ⟨b',0,none⟩) n c')/\w.heap.size<=b'/\Rw w' 185 2 b' n c' xs/\Below w.heap.size w w':=by
 have o:Rw (w.alloc (.cells #[] 185)) 185 2 w.heap.size 0 0 []:=yz (aD w [] _) rfl (by decide);obtain⟨b',c',W,i,d,g,hC⟩:=et KE 188 o a n c xs hx (fun j v q=>mL (hc j v q) _) m (by omega) (by omega);rw[Nat.zero_add] at i g;rw[List.nil_append] at g
 have p:Below w.heap.size w W:=(ae w (.cells #[] 185)).trans (hC.below (fun b hb=>by omega) (ae w _).size)
 have f:w.heap.size<=b':=by rcases d with e | e;omega;rw[World.size_alloc] at e;omega
 clear o hc m hC d;have l:=fun(w:World) (a:Option Addr) (n c:Nat)=>Go.Lib.run_eql_slice_nil (P:=Tryz.prog) w 188 _ a n c 0 0 KE.und
 go_enter Tryz.func230,Tryz.ntmps230;go_wp2_with (at_builtin;refine Lib.wpList_append_run _ rfl _ _ _ _ rfl _ _ rfl rfl _ _ i ?_);go_ret;exact⟨b',c',rfl,f,g,p⟩
theorem growE(j:0 < n)(hn:n<=1000000000) :
  Calls Tryz.prog 249 #[.slice none 0 0,.int .i64 n] w fun e w'=>∃ b' c',e=.returned (.slice (some ⟨b',0,none⟩) 0 c')/\w.heap.size<=b'/\Rw w' 185 2 b' 0 c' []/\Below w.heap.size w w':=by
 obtain⟨c',W,g,c,d⟩:=oK (w:=w) KE 3 188 lH n j (by omega) (by omega)
 have b:Rw W 185 2 w.heap.size 0 c' []:=(c.front (m:=0) (by omega)).to (by simp)
 have i:¬ ((n:Int) < 0):=by omega
 have f:(0:Int) < n:=by omega
 clear c;go_enter Tryz.func249,Tryz.ntmps249;go_wp2_with (at_builtin;refine Lib.wpList_append_run _ rfl _ _ _ _ rfl _ _ rfl rfl _ _ g ?_);go_ret;exact⟨_,c',rfl,Nat.le_refl _,b,d⟩
end
end Pg
end
section
namespace Pg
open Go.RowKit Go.Lib
theorem CA {w:World} {vb A n1 c1 B n2 c2:Nat} {xs ys:List Value} (q:Blk w vb [.slice (some ⟨A,0,none⟩) n1 c1,.slice (some ⟨B,0,none⟩) n2 c2] 188)
  (G:Rw w 185 2 A n1 c1 xs) (F:Rw w 185 2 B n2 c2 ys) (I:0 < n1+n2) (J:n1<=1000000) (M:n2<=1000000) (H:∀ v∈xs,v.oneCell'=true) (L:∀ v∈ys,v.oneCell'=true) :
  Calls Tryz.prog 235 #[.slice (some ⟨vb,0,none⟩) 2 2] w fun e w'=>∃ b' c',e=.returned (.slice (some ⟨b',0,none⟩) (n1+n2) c')/\w.heap.size<=b'/\Rw w' 185 2 b' (n1+n2) c' (xs ++ ys)/\Below w.heap.size w w':=by
 have E:=growE (w:=w) (n:=n1+n2) I (by omega);rw[show ((n1+n2:Nat):Int)=(n1:Int)+(n2:Int) by omega] at E;have q0:=q.cell (i:=0) rfl;have q1:=q.cell (i:=1) rfl;go_enter Tryz.func235,Tryz.ntmps235;go_wp2;go_loopw [3,11] (fun ts f wr=>wr=w/\((f=.int .i64 0/\ts=.int .i64 0)\/(f=.int .i64 1/\ts=.int .i64 n1)\/(f=.int .i64 2/\ts=.int .i64 (n1+n2)))) (fun _ f _=>2 - (intOf f).toNat)
 case atStart=>exact⟨rfl,.inl ⟨rfl,rfl⟩⟩
 case round =>
  obtain⟨rfl,⟨rfl,rfl⟩ | ⟨rfl,rfl⟩ | ⟨rfl,rfl⟩⟩:=hrel
  ·have K:¬ ((n1:Int) < 0):=by omega
   go_wp2;go_roundw
   case rel=>exact⟨trivial,.inr (.inl ⟨rfl,rfl⟩)⟩
   case measure=>simp[intOf]
  ·have K:¬ ((n1:Int) + (n2:Int) < 0):=by omega
   go_wp2;go_roundw
   case rel=>exact⟨trivial,.inr (.inr ⟨rfl,rfl⟩)⟩
   case measure=>simp[intOf]
  ·rename World=>W0
   go_wp2_with (go_at_call 249;refine E.mono ?_;rintro e N ⟨b,c,rfl,hb,l,y⟩);clear E
   have z:=(q.keep y).cell (i:=0) rfl
   have C:=(q.keep y).cell (i:=1) rfl;have r:=y;clear y q0 q1;go_loopw [6,27] (fun ts f s=>Below W0.heap.size W0 s/\∃ b c,W0.heap.size<=b/\((f=.int .i64 0/\ts=.slice (some ⟨b,0,none⟩) 0 c/\Rw s 185 2 b 0 c [])\/(f=.int .i64 1/\ts=.slice (some ⟨b,0,none⟩) n1 c/\Rw s 185 2 b n1 c xs)\/(f=.int .i64 2/\ts=.slice (some ⟨b,0,none⟩) (n1+n2) c/\Rw s 185 2 b (n1+n2) c (xs ++ ys)))) (fun _ f _=>2 - (intOf f).toNat)
   case atStart=>exact⟨r,b,c,hb,.inl ⟨rfl,rfl,l⟩⟩
   case round =>
    clear l r hb z C;obtain⟨d,b,c,hb,⟨rfl,rfl,l⟩ | ⟨rfl,rfl,l⟩ | ⟨rfl,rfl,l⟩⟩:=hrel
    ·have q0:=(q.keep d).cell (i:=0) rfl;have S:=G.keep d;obtain⟨b',c',W,t,g,m,hC⟩:=et KE 188 l ⟨A,0,none⟩ n1 c1 xs G.len (fun j u D=>by rw[Addr.add_lit,Nat.zero_add];exact S.cell D) H (by omega) (by omega);rw[Nat.zero_add] at t m
     have o:Below W0.heap.size W0 W:=d.trans (hC.below (fun x hx=>by omega) d.size)
     have p:W0.heap.size<=b':=by
      have:=d.size;rcases g with e | e<;>omega
     clear hC g l S;go_wp2_with (at_builtin;refine Lib.wpList_append_run _ rfl _ _ _ _ rfl _ _ rfl rfl _ _ t ?_);go_roundw
     case rel=>exact⟨o,b',c',p,.inr (.inl ⟨rfl,rfl,m⟩)⟩
     case measure=>simp[intOf]
    ·have q1:=(q.keep d).cell (i:=1) rfl;have S:=F.keep d;obtain⟨b',c',W,t,g,m,hC⟩:=et KE 188 l ⟨B,0,none⟩ n2 c2 ys F.len (fun j u D=>by rw[Addr.add_lit,Nat.zero_add];exact S.cell D) L (by omega) (by omega)
     have o:Below W0.heap.size W0 W:=d.trans (hC.below (fun x hx=>by omega) d.size)
     have p:W0.heap.size<=b':=by
      have:=d.size;rcases g with e | e<;>omega
     clear hC g l S;go_wp2_with (at_builtin;refine Lib.wpList_append_run _ rfl _ _ _ _ rfl _ _ rfl rfl _ _ t ?_);go_roundw
     case rel=>exact⟨o,b',c',p,.inr (.inr ⟨rfl,rfl,m⟩)⟩
     case measure=>simp[intOf]
    ·go_wp2;go_ret;exact⟨b,c,rfl,hb,l,d⟩
end Pg
end
section
namespace Pg
section
variable {a b k:List Int}{l:List (List Int)}
theorem jB:∀ (a b:List Int),dm a b=-1\/dm a b=0\/dm a b=1
 | [],[]=>.inr (.inl rfl)
 | [],_ :: _=>.inl rfl
 | _ :: _,[]=>.inr (.inr rfl)
 | x :: a,y :: b=>by
  rw[dm];split
  ·exact .inl rfl
  ·split
   ·exact .inr (.inr rfl)
   ·exact jB a b
theorem ja:∀ (a:List Int),dm a a=0
 | []=>rfl
 | x :: a=>by rw[dm,if_neg (by omega),if_neg (by omega)];exact ja a
theorem pN:∀ {a b:List Int},dm a b=0->a=b
 | [],[],_=>rfl
 | [],_ :: _,h=>by simp[dm] at h
 | _ :: _,[],h=>by simp[dm] at h
 | x :: a,y :: b,h=>by
  rw[dm] at h;split at h
  ·omega
  ·split at h
   ·omega
   ·rw[pN h,show x=y by omega]
theorem kN:∀ (a b:List Int),dm b a=- dm a b
 | [],[]=>rfl
 | [],_ :: _=>rfl
 | _ :: _,[]=>rfl
 | x :: a,y :: b=>by
  rw[dm,dm];by_cases h1:x < y
  ·rw[if_neg (by omega),if_pos h1,if_pos h1];rfl
  ·by_cases h2:y < x
   ·rw[if_pos h2,if_neg h1,if_pos h2]
   ·rw[if_neg h2,if_neg h1,if_neg h1,if_neg h2];exact kN a b
def Lt(a b:List Int):Prop:=dm a b=-1
instance (a b:List Int):Decidable (Lt a b):=inferInstanceAs (Decidable (_=_))
theorem Lt.trans:∀ {a b c:List Int},Lt a b->Lt b c->Lt a c
 | [],[],_,h,_=>by simp[Lt,dm] at h
 | [],_ :: _,[],_,h=>by simp[Lt,dm] at h
 | [],_ :: _,_ :: _,_,_=>rfl
 | _ :: _,[],_,h,_=>by simp[Lt,dm] at h
 | _ :: _,_ :: _,[],_,h=>by simp[Lt,dm] at h
 | x :: a,y :: b,z :: c,h,h'=>by
  simp only[Lt] at h h' ⊢;rw[dm] at h h' ⊢;by_cases h1:x < z
  ·rw[if_pos h1]
  ·rw[if_neg h1];split at h
   ·split at h'
    ·omega
    ·split at h'
     ·omega
     ·omega
   ·split at h
    ·omega
    ·split at h'
     ·omega
     ·split at h'
      ·omega
      ·rw[if_neg (by omega)];exact Lt.trans (a:=a) (b:=b) (c:=c) h h'
theorem lt_irrefl(a:List Int):¬ Lt a a:=by simp[Lt,ja]
theorem Lt.not(h:Lt a b):¬ Lt b a:=fun h'=>lt_irrefl a (h.trans h')
theorem qP(a b:List Int):Lt a b\/a=b\/Lt b a:=by
 rcases jB a b with h | h | h
 ·exact .inl h
 ·exact .inr (.inl (pN h))
 ·exact .inr (.inr (by simp only[Lt];rw[kN,h]))
theorem qa(h:Lt a b):dm a b=-1:=h
theorem Eg(h:Lt b a):dm a b=1:=by rw[kN,qa h];rfl
theorem not_lt:¬ Lt a b<->a=b\/Lt b a:=by
 constructor
 ·intro h;rcases qP a b with k | k | k
  ·exact absurd k h
  ·exact .inl k
  ·exact .inr k
 ·rintro(h | h)
  ·subst h;exact lt_irrefl a
  ·exact h.not
theorem Lt.of_le{c:List Int}(h:Lt a b)(h':¬ Lt c b):Lt a c:=by
 rcases not_lt.1 h' with k | k
 ·subst k;exact h
 ·exact h.trans k
def plc:List (List Int)->List Int->Nat
 | [],_=>0
 | x :: l,k=>if Lt x k then plc l k+1 else 0
theorem ql:∀ (l:List (List Int)) (k:List Int),plc l k<=l.length
 | [],_=>Nat.le_refl _
 | x :: l,k=>by
  rw[plc];split
  ·have:=ql l k;simp;omega
  ·simp
theorem uj:∀ {l:List (List Int)} {k:List Int} {i:Nat},i<=l.length->(∀ j x,j < i->l[j]?=some x->Lt x k)->(∀ x,l[i]?=some x->¬ Lt x k)->plc l k=i
 | [],_,i,h,_,_=>by simp at h;subst h;rfl
 | x :: l,k,0,_,_,h3=>by rw[plc,if_neg (h3 x rfl)]
 | x :: l,k,i + 1,h1,h2,h3=>by
  rw[plc,if_pos (h2 0 x (by omega) rfl),uj (l:=l) (i:=i) (by simpa using h1) (fun j y hj hy=>h2 (j+1) y (by omega) (by simpa using hy)) (fun y hy=>h3 y (by simpa using hy))]
theorem BI:∀ {l:List (List Int)} {k:List Int} {j:Nat} {x:List Int},j < plc l k->l[j]?=some x->Lt x k
 | [],_,_,_,h,_=>by simp[plc] at h
 | y :: l,k,j,x,h,hx=>by
  rw[plc] at h;split at h
  ·cases j with
   | zero=>simp at hx;subst hx;assumption
   | succ j=>exact BI (l:=l) (j:=j) (by omega) (by simpa using hx)
  ·omega
theorem Ay:∀ {l:List (List Int)} {k:List Int} {x:List Int},l[plc l k]?=some x->¬ Lt x k
 | [],_,_,h=>by simp at h
 | y :: l,k,x,h=>by
  rw[plc] at h;split at h
  ·exact Ay (l:=l) (by simpa using h)
  ·simp at h;subst h;assumption
def Srt(l:List (List Int)):Prop:=l.Pairwise Lt
theorem Srt.get(h:Srt l){i j:Nat}{x y:List Int}(a:i < j)(hi:l[i]?=some x)(b:l[j]?=some y):Lt x y:=by
 obtain⟨d,rfl⟩:=List.getElem?_eq_some_iff.1 hi;obtain⟨c,rfl⟩:=List.getElem?_eq_some_iff.1 b;exact List.pairwise_iff_getElem.1 h i j d c a
def thr(l:List (List Int))(k:List Int):Bool:=decide (l[plc l k]?=some k)
theorem CK(h:Srt l):thr l k=true<->k∈l:=by
 simp only[thr,decide_eq_true_eq];constructor
 ·intro e;exact List.mem_of_getElem? e
 ·intro e;obtain⟨j,a⟩:=List.getElem?_of_mem e;have:plc l k=j:=uj (by have:=(List.getElem?_eq_some_iff.1 a).1;omega) (fun i x hi hx=>h.get hi hx a) (fun x hx=>by rw[a] at hx;cases hx;exact lt_irrefl k);rw[this];exact a
end
end Pg
end
section
namespace Pg
open Go.RowKit Go.Lib
section
variable {w w':World}{D D':Nat->Prop}
structure En where
 kv:Value
 kl:List Int
 vv:Value
 vl:List Int
structure EnA(w:World)(D:Nat->Prop)(e:En):Prop where
 k:OB w D e.kv e.kl
 v:OB w D e.vv e.vl
theorem EnA.keep{e:En}(h:EnA w D e)(hb:Below w.heap.size w w'):EnA w' D e:=⟨h.k.keep hb,h.v.keep hb⟩
theorem EnA.mono{e:En}(h:EnA w D e)(hD:∀ b,b < w.heap.size->D b->D' b):EnA w D' e:=⟨h.k.mono hD,h.v.mono hD⟩
def flat:List En->List Value
 | []=>[]
 | e :: l=>e.kv :: e.vv :: flat l
theorem j6:∀ (l:List En),(flat l).length=l.length * 2
 | []=>rfl
 | e :: l=>by simp[flat,j6 l];omega
theorem ez:∀ (a b:List En),flat (a ++ b)=flat a ++ flat b
 | [],b=>rfl
 | e :: a,b=>by simp[flat,ez a b]
theorem qy:∀ {l:List En} {i:Nat} {e:En},l[i]?=some e->(flat l)[i * 2]?=some e.kv
 | [],_,_,h=>by simp at h
 | x :: l,0,e,h=>by simp at h;subst h;rfl
 | x :: l,i + 1,e,h=>by
  rw[show (i+1) * 2=i * 2+1+1 by omega,flat,List.getElem?_cons_succ,List.getElem?_cons_succ];exact qy (l:=l) (by simpa using h)
theorem kI:∀ {l:List En} {i:Nat} {e:En},l[i]?=some e->(flat l)[i * 2+1]?=some e.vv
 | [],_,_,h=>by simp at h
 | x :: l,0,e,h=>by simp at h;subst h;rfl
 | x :: l,i + 1,e,h=>by
  rw[show (i+1) * 2+1=i * 2+1+1+1 by omega,flat,List.getElem?_cons_succ,List.getElem?_cons_succ];exact kI (l:=l) (by simpa using h)
theorem iQ:∀ (l:List En) (i:Nat),(flat l).take (i * 2)=flat (l.take i)
 | [],i=>by simp[flat]
 | x :: l,0=>by simp[flat]
 | x :: l,i + 1=>by
  rw[show (i+1) * 2=i * 2+1+1 by omega,flat,List.take_succ_cons,List.take_succ_cons,iQ l i,List.take_succ_cons,flat]
theorem iW:∀ (l:List En) (i:Nat),(flat l).drop (i * 2)=flat (l.drop i)
 | [],i=>by simp[flat]
 | x :: l,0=>by simp
 | x :: l,i + 1=>by
  rw[show (i+1) * 2=i * 2+1+1 by omega,flat,List.drop_succ_cons,List.drop_succ_cons,iW l i,List.drop_succ_cons]
theorem ku:∀ {l:List En},(∀ e∈l,EnA w D e)->∀ v∈flat l,v.oneCell'=true
 | [],_,v,h=>by simp[flat] at h
 | x :: l,h,v,hv=>by
  have hx:=h x List.mem_cons_self;rcases List.mem_cons.1 hv with rfl | hv
  ·exact hx.k.one
  ·rcases List.mem_cons.1 hv with rfl | hv
   ·exact hx.v.one
   ·exact ku (l:=l) (fun e he=>h e (List.mem_cons_of_mem _ he)) v hv
theorem mD:∀ {l:List En} {i:Nat} {e:En} (u:Value) (ul:List Int),l[i]?=some e->(flat l).set (i * 2+1) u=flat (l.set i { e with vv:=u,vl:=ul })
 | [],_,_,_,_,h=>by simp at h
 | x :: l,0,e,u,ul,h=>by simp at h;subst h;simp[flat]
 | x :: l,i + 1,e,u,ul,h=>by
  rw[show (i+1) * 2+1=i * 2+1+1+1 by omega,flat,List.set_cons_succ,List.set_cons_succ,mD (l:=l) u ul (by simpa using h),List.set_cons_succ,flat]
def kys(l:List En):List (List Int):=l.map En.kl
structure Pg where
 b:Nat
 c:Nat
 es:List En
def Pg.v(p:Pg):Value:=.slice (some ⟨p.b,0,none⟩) p.es.length p.c
structure PgA(w:World)(D:Nat->Prop)(p:Pg):Prop where
 row:Rw w 185 2 p.b p.es.length p.c (flat p.es)
 dP:∀ e∈p.es,EnA w D e
theorem PgA.keep{p:Pg}(h:PgA w D p)(hb:Below w.heap.size w w'):PgA w' D p:=⟨h.row.keep hb,fun e he=>(h.dP e he).keep hb⟩
theorem PgA.one{p:Pg}(h:PgA w D p):∀ v∈flat p.es,v.oneCell'=true:=ku h.dP
theorem cmpE{kv vv v:Value}{l b:List Int}(h:By w kv l)(c:By w v b) :
  Calls Tryz.prog 208 #[.agg #[kv,vv],v] w fun e w'=>e=.returned (.int .i64 (dm l b))/\Below w.heap.size w w':=by
 have hb:=ae w (.cells #[kv,vv] 185);have d:=lK (h.keep hb) (c.keep hb);have B:=aD w [kv,vv] 185;have q0:=B.cell (i:=0) rfl;clear h c B;generalize dm l b=x at *;go_enter Tryz.func208,Tryz.ntmps208;go_wp2_with (go_at_call 206;refine d.mono ?_;rintro e f ⟨rfl,rfl⟩);go_ret;exact⟨rfl,hb⟩
end
end Pg
end
section
namespace Pg
open Go.RowKit Go.Lib
section
variable {w:World}{D:Nat->Prop}{p:Pg}{v:Value}{k:List Int}
theorem bsE(A:PgA w D p)(S:Srt (kys p.es))(h:By w v k)(hn:p.es.length<=1000000) :
  Calls Tryz.prog 207 #[p.v,v,.func (.func 208) #[] #[]] w fun e w'=>e=.returned (.tuple #[.int .i64 (plc (kys p.es) k),.bool (thr (kys p.es) k)])/\Below w.heap.size w w':=by
 obtain⟨b,c,es⟩:=p;simp only[Pg.v] at *;have l:=A.row.le;simp only[maxLen] at l;have u:=l.1;have O:=l.2;obtain⟨n,F⟩:∃ n,es.length=n:=⟨_,rfl⟩
 rw[F] at hn u ⊢;go_enter Tryz.func207,Tryz.ntmps207;go_wp2;go_loopw [9,10] (fun K J wr=>∃ i j:Nat,K=.int .i64 i/\J=.int .i64 j/\i<=j/\j<=n/\Hid (∀ q x,q < i->(kys es)[q]?=some x->Lt x k)/\Hid (∀ q x,j<=q->(kys es)[q]?=some x->¬ Lt x k)/\Below w.heap.size w wr) (fun K J _=>(intOf J).toNat - (intOf K).toNat)
 case atStart=>exact⟨0,n,rfl,rfl,Nat.zero_le _,Nat.le_refl _,fun q x t=>by omega,fun q x t hx=>by
  have:=(List.getElem?_eq_some_iff.1 hx).1;simp[kys] at this
  omega,Below.refl _ _⟩
 case round =>
  obtain⟨i,j,rfl,rfl,Z,L,H1,N,g⟩:=hrel;by_cases U:i < j
  ·obtain⟨m,hm⟩:∃ m,m=(i+j) / 2:=⟨_,rfl⟩
   have Q:i<=m:=by omega
   have W:m < j:=by omega
   obtain⟨e,he⟩:∃ e,es[m]?=some e:=⟨es[m],List.getElem?_eq_getElem (by omega)⟩
   have f:=A.keep g;have q0:=f.row.cell (qy he);have q1:=f.row.cell (kI he)
   have V:IntKind.i64.wrap ((i:Int)+(j:Int))=(i:Int)+(j:Int):=by rw[IntKind.wrap_i64];omega
   have T:((i:Int)+(j:Int)) / 2 < n:=by omega
   have X:(0:Int)<=((i:Int)+(j:Int)) / 2:=by omega
   have Y:IntKind.i64.wrap (((i:Int)+(j:Int)) / 2)=((i:Int)+(j:Int)) / 2:=by rw[IntKind.wrap_i64];omega
   have o:=cmpE (vv:=e.vv) ((f.dP e (List.mem_of_getElem? he)).k.by) (h.keep g)
   have s:(kys es)[m]?=some e.kl:=by simp[kys,he]
   rw[hm] at q0 q1
   have B:Hid (m=(i+j) / 2):=hm;clear f hm;by_cases hc:Lt e.kl k
   ·rw[qa hc] at o;go_wp2_with (go_at_call 208;refine o.mono ?_;rintro P M ⟨rfl,d⟩);go_roundw
    case rel=>exact⟨m + 1,j,by have:=B.out; congr 1; omega,rfl,by omega,L,fun q x t hx=>by
     by_cases r:q=m
     ·subst r;rw[s] at hx;cases hx;exact hc
     ·exact S.get (by omega) hx s |>.trans hc,N.out,aA g d⟩
    case measure=>have:=B.out;simp[intOf];omega
   ·have I:¬ (dm e.kl k < 0):=by
     rcases jB e.kl k with q | q | q
     ·exact absurd q hc
     ·rw[q];decide
     ·rw[q];decide
    generalize dm e.kl k=x at o I;go_wp2_with (go_at_call 208;refine o.mono ?_;rintro P M ⟨rfl,d⟩);go_roundw
    case rel=>exact⟨i,m,rfl,by have:=B.out; congr 1; omega,by omega,by omega,H1.out,fun q x t hx=>by
     by_cases r:q=m
     ·subst r;rw[s] at hx;cases hx;exact hc
     ·intro H
      exact hc ((S.get (by omega) s hx).trans H),aA g d⟩
    case measure=>have:=B.out;simp[intOf];omega
  ·have G:i=j:=by omega
   subst G
   have E:Hid (plc (kys es) k=i):=uj (by simp[kys];omega) (fun q x t hx=>H1.out q x t hx) (fun x hx=>N.out i x (Nat.le_refl _) hx)
   have f:=A.keep g;by_cases R:i < n
   ·obtain⟨e,he⟩:∃ e,es[i]?=some e:=⟨es[i],List.getElem?_eq_getElem (by omega)⟩
    have q0:=f.row.cell (qy he);have q1:=f.row.cell (kI he)
    have s:(kys es)[i]?=some e.kl:=by simp[kys,he]
    have o:=cmpE (vv:=e.vv) ((f.dP e (List.mem_of_getElem? he)).k.by) (h.keep g)
    have C:Hid (thr (kys es) k=(dm e.kl k == 0)):=by
     show _=_
     unfold thr;rw[E.out,s];by_cases q:e.kl=k
     ·subst q;simp[ja]
     ·have:dm e.kl k≠0:=fun z=>q (pN z)
      simp[q,this]
    have y:(i:Int) < n:=by omega
    generalize dm e.kl k=x at o C;clear f;go_wp2_with (go_at_call 208;refine o.mono ?_;rintro P M ⟨rfl,d⟩)
    all_goals (
     go_ret2;refine⟨?_,aA g d⟩;rw[C.out,E.out]
     rfl)
   ·have C:Hid (thr (kys es) k=false):=by
     show _=_
     unfold thr;rw[E.out,List.getElem?_eq_none (by simp[kys];omega)];rfl
    have y:¬ ((i:Int) < n):=by omega
    go_wp2;go_ret2;refine⟨?_,g⟩;rw[C.out,E.out];rfl
theorem ij(A:PgA w D p)(S:Srt (kys p.es))(h:By w v k)(hn:p.es.length<=1000000) :
  Calls Tryz.prog 169 #[p.v,v] w fun e w'=>e=.returned (.tuple #[.int .i64 (plc (kys p.es) k),.bool (thr (kys p.es) k)])/\Below w.heap.size w w':=by
 have t:=bsE A S h hn;generalize plc (kys p.es) k=x at *;generalize thr (kys p.es) k=y at *;simp only[Pg.v] at *;clear A S h;go_enter Tryz.func169,Tryz.ntmps169;go_wp2_with (go_at_call 207;refine t.mono ?_;rintro d c ⟨rfl,b⟩);go_ret2;exact⟨rfl,b⟩
end
end Pg
end
section
namespace Pg
open Go.RowKit Go.Lib
section
variable {w w':World}{F D:Nat->Prop}{g b:Nat}{L:List Pg}{P:List (List En)}{es:List En}
structure bQ(w:World)(F D:Nat->Prop)(g:Nat)(L:List Pg):Prop where
 top:∃ pv,Blk w g [pv] 148/\F g/\((pv=.slice none 0 0/\L=[])\/∃ G C,pv=.slice (some ⟨G,0,none⟩) L.length C/\F G/\Rw w 188 1 G L.length C (L.map Pg.v))
 cC:∀ p∈L,PgA w D p/\F p.b
 apart:(L.map Pg.b).Nodup
 kind:∀ b,F b->∃ cs t,Blk w b cs t/\t≠5
theorem bQ.lt(h:bQ w F D g L)(hb:F b):b < w.heap.size:=by
 obtain⟨cs,t,h,_⟩:=h.kind b hb;exact h.lt
theorem bQ.same(h:bQ w F D g L)(f:∀ b,F b->w'.heap[b]?=w.heap[b]?)(q:∀ b,b < w.heap.size->D b->(∃ cs,Blk w b cs 5)->w'.heap[b]?=w.heap[b]?):bQ w' F D g L:=by
 obtain⟨n,hb,m,i⟩:=h.top
 have d:∀ {v:Value} {l:List Int},OB w D v l->OB w' D v l:=fun h=>⟨h.oct,h.ex.imp id (by
  rintro⟨b,c,e,hd,a⟩
  exact⟨b,c,e,hd,a.same (q b a.lt hd a.kind)⟩)⟩
 refine⟨⟨n,hb.same (f g m),m,i.imp id ?_⟩,fun p i=>?_,h.apart,fun b hb=>?_⟩
 ·rintro⟨G,C,e,j,a⟩;exact⟨G,C,e,j,a.same (f G j)⟩
 ·obtain⟨hA,hF⟩:=h.cC p i;exact⟨⟨hA.row.same (f _ hF),fun e he=>⟨d (hA.dP e he).k,d (hA.dP e he).v⟩⟩,hF⟩
 ·obtain⟨cs,t,o,r⟩:=h.kind b hb;exact⟨cs,t,o.same (f b hb),r⟩
theorem bQ.keep(h:bQ w F D g L)(hb:Below w.heap.size w w'):bQ w' F D g L:=h.same (fun b hF=>hb.block b (h.lt hF)) (fun b hl _ _=>hb.block b hl)
theorem bQ.drew(h:bQ w F D g L):bQ w.drew F D g L:=h.same (fun _ _=>rfl) (fun _ _ _ _=>rfl)
theorem bQ.chg{F':Nat->Prop}(h:bQ w F D g L)(hc:Chg F' w w')(e:∀ b,F' b->¬ F b)(d:∀ b,F' b->∀ cs,¬ Blk w b cs 5):bQ w' F D g L :=
 h.same (fun b hF=>hc.same b (h.lt hF) fun f=>e b f hF) (fun b c _ a=>hc.same b c fun f=>by obtain⟨cs,k⟩:=a;exact d b f cs k)
theorem bQ.noU(h:bQ w F D g L)(hb:F b)(cs:List Value):¬ Blk w b cs 5:=fun k=>by
 obtain⟨cs',t,hk,ht⟩:=h.kind b hb;exact ht (hk.eq k).2
theorem bQ.mono{D':Nat->Prop}(h:bQ w F D g L)(c:∀ b,b < w.heap.size->D b->D' b):bQ w F D' g L :=
 ⟨h.top,fun p a=>⟨⟨(h.cC p a).1.row,fun e he=>((h.cC p a).1.dP e he).mono c⟩,(h.cC p a).2⟩,h.apart,h.kind⟩
def ens(L:List Pg):List (List En):=L.map Pg.es
def fks(P:List (List En)):List (List Int):=P.map fun es=>(kys es).headD []
def plq:List (List Int)->List Int->Nat
 | [],_=>0
 | x :: l,k=>if Lt k x then 0 else plq l k+1
theorem qj:∀ (l:List (List Int)) (k:List Int),plq l k<=l.length
 | [],_=>Nat.le_refl _
 | x :: l,k=>by
  rw[plq];split
  ·simp
  ·have:=qj l k;simp;omega
theorem Cq:∀ {l:List (List Int)} {k:List Int} {i:Nat},i<=l.length->(∀ j x,j < i->l[j]?=some x->¬ Lt k x)->(∀ x,l[i]?=some x->Lt k x)->plq l k=i
 | [],_,i,h,_,_=>by simp at h;subst h;rfl
 | x :: l,k,0,_,_,h3=>by rw[plq,if_pos (h3 x rfl)]
 | x :: l,k,i + 1,h1,h2,h3=>by
  rw[plq,if_neg (h2 0 x (by omega) rfl),Cq (l:=l) (i:=i) (by simpa using h1) (fun j y hj hy=>h2 (j+1) y (by omega) (by simpa using hy)) (fun y hy=>h3 y (by simpa using hy))]
theorem AB:∀ {l:List (List Int)} {k:List Int} {j:Nat} {x:List Int},j < plq l k->l[j]?=some x->¬ Lt k x
 | [],_,_,_,h,_=>by simp[plq] at h
 | y :: l,k,j,x,h,hx=>by
  rw[plq] at h;split at h
  ·omega
  ·cases j with
   | zero=>simp at hx;subst hx;assumption
   | succ j=>exact AB (l:=l) (j:=j) (by omega) (by simpa using hx)
theorem yP:∀ {l:List (List Int)} {k:List Int} {x:List Int},l[plq l k]?=some x->Lt k x
 | [],_,_,h=>by simp at h
 | y :: l,k,x,h=>by
  rw[plq] at h;split at h
  ·simp at h;subst h;assumption
  ·exact yP (l:=l) (by simpa using h)
def pgi(P:List (List En))(k:List Int):Nat:=plq (fks P) k - 1
structure Ord(P:List (List En)):Prop where
 full:∀ es∈P,es≠[]
 fZ:Srt (kys P.flatten)
theorem Ord.page(h:Ord P){i:Nat}(hi:P[i]?=some es):Srt (kys es):=by
 have hm:=List.mem_of_getElem? hi;have:(kys es).Sublist (kys P.flatten):=(List.sublist_flatten_of_mem hm).map _;exact h.fZ.sublist this
theorem j0(h:es≠[]):∃ e l,es=e :: l/\(kys es).headD []=e.kl:=by
 cases es with
 | nil=>exact absurd rfl h
 | cons e l=>exact⟨e,l,rfl,rfl⟩
theorem Ord.Ag:∀ {P:List (List En)},Ord P->Srt (fks P)
 | [],_=>List.Pairwise.nil
 | es :: P,h=>by
  have h2:Ord P:=⟨fun x hx=>h.full x (List.mem_cons_of_mem _ hx),by
   have:=h.fZ;simp only[Srt,kys,List.flatten_cons,List.map_append,List.pairwise_append] at this
   exact this.2.1⟩
  refine List.Pairwise.cons (fun x hx=>?_) (Ord.Ag h2);obtain⟨fs,a,rfl⟩:=List.mem_map.1 hx;obtain⟨e,l,rfl,he⟩:=j0 (h.full es List.mem_cons_self);obtain⟨f,m,rfl,hf⟩:=j0 (h2.full fs a)
  show Lt e.kl f.kl
  have:=h.fZ;simp only[Srt,kys,List.flatten_cons,List.map_append,List.pairwise_append] at this;exact this.2.2 e.kl (by simp) f.kl (List.mem_map.2 ⟨f,List.mem_flatten.2 ⟨_,a,List.mem_cons_self⟩,rfl⟩)
end
end Pg
end
section
namespace Pg
open Go.RowKit Go.Lib
section
variable {L:List Pg}{i g:Nat}{p:Pg}{w:World}{F D:Nat->Prop}{v:Value}{k:List Int}{P:List (List En)}
theorem qL(h:L[i]?=some p):(ens L)[i]?=some p.es:=by simp[ens,h]
theorem Cu(h:L[i]?=some p):(fks (ens L))[i]?=some ((kys p.es).headD []):=by simp[ens,fks,h]
theorem bQ.head(A:bQ w F D g L)(O:Ord (ens L))(h:L[i]?=some p):∃ kv,w.cell? ⟨p.b,0,none⟩=some kv/\By w kv ((kys p.es).headD []):=by
 have a:=List.mem_of_getElem? h
 have hm:p.es∈ens L:=List.mem_map.2 ⟨p,a,rfl⟩;obtain⟨e,l,he,c⟩:=j0 (O.full _ hm);obtain⟨hA,_⟩:=A.cC p a;have q:=hA.row.cell (i:=0) (v:=e.kv) (by rw[he];rfl);exact⟨e.kv,q,by rw[c];exact(hA.dP e (by rw[he];exact List.mem_cons_self)).k.by⟩
theorem bQ.rd(A:bQ w F D g L):∃ ao c,w.cell? ⟨g,0,none⟩=some (.slice ao L.length c)/\L.length<=c/\c<=9223372036854775807/\(∀ i p,L[i]?=some p->∃ G,ao=some ⟨G,0,none⟩/\w.cell? ⟨G,i,none⟩=some p.v):=by
 obtain⟨d,hb,f,⟨rfl,rfl⟩ | ⟨G,C,rfl,e,a⟩⟩:=A.top
 ·exact⟨_,_,hb.cell (i:=0) rfl,by decide,by decide,fun i p h=>by simp at h⟩
 ·have b:=a.le;simp only[maxLen] at b;exact⟨_,C,hb.cell (i:=0) rfl,by omega,by omega,fun i p h=>⟨G,rfl,a.cell (by simp[h])⟩⟩
theorem jA(A:bQ w F D g L)(O:Ord (ens L))(h:By w v k)(hn:L.length<=1000000000) :
  Calls Tryz.prog 167 #[.pointer (some ⟨g,0,none⟩),v] w fun e w'=>e=.returned (.int .i64 (pgi (ens L) k))/\Below w.heap.size w w':=by
 obtain⟨Y,c,hc,Q,hc2,H⟩:=A.rd;have l:=O.Ag;obtain⟨s,r⟩:∃ s,Hid (fks (ens L)=s):=⟨_,rfl⟩
 rw[r.out] at l;obtain⟨n,t⟩:∃ n,Hid (L.length=n):=⟨_,rfl⟩
 rw[t.out] at hc Q hn
 have hkl:s.length=n:=by rw[<- r.out,<- t.out];simp[fks,ens]
 have P:Below w.heap.size w w.drew:=⟨rfl,rfl,rfl,Nat.le_refl _,fun _ _=>rfl⟩
 have hcd:w.drew.cell? ⟨g,0,none⟩=some (.slice Y n c):=hc
 have d:∀ (i:Nat),i<=n->(∀ q x,q < i->s[q]? = some x->¬ Lt k x)->(∀ q x,i<=q->s[q]? = some x->Lt k x)->pgi (ens L) k=i - 1:=fun i hi h1 h2=>by
  unfold pgi;rw[r.out,Cq (i:=i) (by omega) (fun j x hj hx=>h1 j x hj hx) (fun x hx=>h2 i x (Nat.le_refl _) hx)]
 have d:Hid _:=d;have mixed:=mixed;go_enter Tryz.func167,Tryz.ntmps167;go_wp2;go_step3;go_wp2;go_region;go_wp2;go_step3;go_wp2;go_loopw [5,6] (fun M K wr=>∃ i j:Nat,M=.int .i64 i/\K=.int .i64 j/\i<=j/\j<=n/\Hid (∀ q x,q < i->s[q]?=some x->¬ Lt k x)/\Hid (∀ q x,j<=q->s[q]?=some x->Lt k x)/\Below w.heap.size w wr) (fun M K _=>(intOf K).toNat - (intOf M).toNat)
 case atStart=>exact⟨0,n,rfl,rfl,Nat.zero_le _,Nat.le_refl _,fun q x y=>by omega,fun q x y hx=>by
  have:=(List.getElem?_eq_some_iff.1 hx).1
  omega,P⟩
 case round =>
  obtain⟨i,j,rfl,rfl,hij,R,H1,X,o⟩:=hrel;by_cases hlt:i < j
  ·obtain⟨m,hm⟩:∃ m,m=i+(j - i) / 2:=⟨_,rfl⟩
   have aa:i<=m:=by omega
   have hm2:m < j:=by omega
   obtain⟨p,E⟩:∃ p,L[m]?=some p:=⟨L[m]'(by have:=t.out;omega),List.getElem?_eq_getElem _⟩
   have T:=A.keep o
   have c0:wr.cell? ⟨g,0,none⟩=some (.slice Y n c):=by
    rw[o.cell (p:=⟨g,0,none⟩) (by obtain⟨_,hb,_⟩:=A.top;exact hb.lt)];exact hc
   obtain⟨G,rfl,U⟩:=H m p E
   have z:wr.cell? ⟨G,m,none⟩=some p.v:=by
    rw[o.cell (p:=⟨G,m,none⟩) (aK U)];exact U
   obtain⟨kv,cK,W⟩:=T.head O E
   have b:s[m]?=some ((kys p.es).headD []):=by rw[<- r.out];exact Cu E
   have hpe:0 < p.es.length:=by
    have:=O.full p.es (List.mem_map.2 ⟨p,List.mem_of_getElem? E,rfl⟩);exact List.length_pos_iff.2 this
   simp only[Pg.v] at z;rw[hm] at z;have u:=lK W (h.keep o);generalize (kys p.es).headD []=V at *
   have B:Hid (m=i+(j - i) / 2):=hm
   have hz0:(0:Int)<=(i:Int)+((j:Int) - (i:Int)) / 2:=by omega
   have hz1:(i:Int)+((j:Int) - (i:Int)) / 2 < n:=by omega
   have hz2:((i:Int)+((j:Int) - (i:Int)) / 2).toNat=i+(j - i) / 2:=by omega
   generalize p.es.length=pn at *;clear T hm W;rcases qP V k with hc | hc | hc
   ·rw[qa hc] at u;go_wp2_with (go_at_call 206;refine u.mono ?_;rintro Z S ⟨rfl,rfl⟩);go_roundw
    case rel=>exact⟨m + 1,j,by have:=B.out; congr 1; omega,rfl,by omega,R,fun q x y hx=>by
     by_cases f:q=m
     ·subst f;rw[b] at hx;cases hx;exact hc.not
     ·exact((l.get (by omega) hx b).trans hc).not,X.out,o⟩
    case measure=>have:=B.out;simp[intOf];omega
   ·have hF:=d.out (m + 1) (by omega) (fun q x y hx=>by
     subst hc;by_cases f:q=m
     ·subst f;rw[b] at hx;cases hx;exact lt_irrefl _
     ·exact(l.get (by omega) hx b).not) (fun q x y hx=>by subst hc;exact l.get (by omega) b hx)
    have C:Hid (pgi (ens L) k=m):=by show _=_;rw[hF];omega
    have HC:Hid (V=k):=hc;rw[hc,ja] at u
    have hx0:(i:Int)+((j:Int) - (i:Int)) / 2+1 - 1=(i:Int)+((j:Int) - (i:Int)) / 2:=by omega
    have I:¬ ((i:Int)+((j:Int) - (i:Int)) / 2 < 0):=by omega
    clear hF hc;go_wp2_with (go_at_call 206;refine u.mono ?_;rintro Z S ⟨rfl,rfl⟩);simp only[Exit.noGoto_ret];go_ret;refine⟨?_,o⟩;rw[C.out];have:=B.out
    show Ending.returned (Value.int .i64 ((i:Int)+((j:Int) - (i:Int)) / 2))=_
    rw[show (i:Int)+((j:Int) - (i:Int)) / 2=(m:Int) by omega]
   ·rw[Eg hc] at u;go_wp2_with (go_at_call 206;refine u.mono ?_;rintro Z S ⟨rfl,rfl⟩);go_roundw
    case rel=>exact⟨i,m,rfl,by have:=B.out; congr 1; omega,by omega,by omega,H1.out,fun q x y hx=>by
     by_cases f:q=m
     ·subst f;rw[b] at hx;cases hx;exact hc
     ·exact hc.trans (l.get (by omega) b hx),o⟩
    case measure=>have:=B.out;simp[intOf];omega
  ·have J:i=j:=by omega
   subst J
   have C:Hid (pgi (ens L) k=i - 1):=d.out i (by omega) H1.out X.out;by_cases N:i=0
   ·subst N;go_wp2
    try simp only[Exit.noGoto_ret]
    go_ret;refine⟨?_,o⟩;rw[C.out];rfl
   ·have I:¬ ((i:Int) - 1 < 0):=by omega
    have hx2:(0:Int)<=(i:Int) - 1:=by omega
    go_wp2
    try simp only[Exit.noGoto_ret]
    go_ret;refine⟨?_,o⟩;rw[C.out]
    show Ending.returned (Value.int .i64 ((i:Int) - 1))=_
    rw[show (i:Int) - 1=((i - 1:Nat):Int) by omega]
theorem pgi_lt(h:P≠[])(k:List Int):pgi P k < P.length:=by
 have h1:=qj (fks P) k
 have h2:0 < P.length:=List.length_pos_iff.2 h;simp only[fks,List.length_map] at h1;unfold pgi fks;omega
theorem nm(A:bQ w F D g []) :
  Calls Tryz.prog 147 #[.pointer (some ⟨g,0,none⟩),v] w fun e w'=>e=.returned (.tuple #[.int .i64 0,.int .i64 0,.bool false])/\w'=w:=by
 obtain⟨i,c,hc,d,f,b⟩:=A.rd;simp only[List.length_nil] at hc;clear A b;go_enter Tryz.func147,Tryz.ntmps147;go_wp2;go_ret3;exact⟨rfl,rfl⟩
theorem mj(A:bQ w F D g L)(O:Ord (ens L))(h:By w v k)(hn:L.length<=1000000000)(l:L[pgi (ens L) k]?=some p)(hs:p.es.length<=1000000) :
  Calls Tryz.prog 147 #[.pointer (some ⟨g,0,none⟩),v] w fun e w'=>e=.returned (.tuple #[.int .i64 (pgi (ens L) k),.int .i64 (plc (kys p.es) k),.bool (thr (kys p.es) k)])/\Below w.heap.size w w':=by
 have C:=jA A O h hn;have z:=(List.getElem?_eq_some_iff.1 l).1;have j:=List.mem_of_getElem? l
 have E:∀ w',Below w.heap.size w w'->Calls Tryz.prog 169 #[p.v,v] w' fun e B=>e=.returned (.tuple #[.int .i64 (plc (kys p.es) k),.bool (thr (kys p.es) k)])/\Below w'.heap.size w' B:=fun w' hb =>
  ij ((A.cC p j).1.keep hb) (O.page (qL l)) (h.keep hb) hs
 obtain⟨P,c,hc,t,J,f⟩:=A.rd;obtain⟨G,rfl,H⟩:=f _ p l;have s:=aK hc;have q:=aK H;generalize pgi (ens L) k=i at *;generalize plc (kys p.es) k=x at *;generalize thr (kys p.es) k=y at *;obtain⟨n,r⟩:∃ n,L.length=n:=⟨_,rfl⟩
 rw[r] at hc t z
 have K:¬ ((n:Int)=0):=by omega
 have I:(i:Int) < n:=by omega
 simp only[Pg.v] at *;clear A O h f l j;go_enter Tryz.func147,Tryz.ntmps147;go_wp2_with (first | (go_at_call 167;refine C.mono ?_;rintro M m ⟨rfl,d⟩;have c1:m.cell? ⟨g,0,none⟩=some (.slice (some ⟨G,0,none⟩) n c):=(d.cell (p:=⟨g,0,none⟩) s).trans hc;have c2:m.cell? ⟨G,i,none⟩=some (.slice (some ⟨p.b,0,none⟩) p.es.length p.c):=(d.cell (p:=⟨G,i,none⟩) q).trans H;have u:=E m d;clear C E) | (go_at_call 169;refine u.mono ?_;rintro M N ⟨rfl,o⟩));go_ret3;exact⟨rfl,aA d o⟩
end
end Pg
end
section
namespace Pg
open Go.RowKit Go.Lib
section
variable {w w1:World}{F D:Nat->Prop}{g G n c i j:Nat}{L L':List Pg}{cs ds xs:List Value}{p q:Pg}{c0:Value}
theorem bQ.opn(A:bQ w F D g L)(h:L≠[]):∃ G C,Blk w g [.slice (some ⟨G,0,none⟩) L.length C] 148/\F g/\F G/\Rw w 188 1 G L.length C (L.map Pg.v):=by
 obtain⟨d,hb,a,⟨rfl,rfl⟩ | ⟨G,C,rfl,b,c⟩⟩:=A.top
 ·exact absurd rfl h
 ·exact⟨G,C,hb,a,b,c⟩
theorem eL{a b:Nat}{t u:TypeId}(h:Blk w a cs t)(h':Blk w b ds u)(ht:t≠u):a≠b:=fun e=>by subst e;exact ht (h.eq h').2
theorem PgA.fl(h:PgA w D p)(hg:Blk w g cs 148):p.b≠g:=by
 obtain⟨ds,k⟩:=h.row.kind;exact eL k hg (by decide)
theorem PgA.fk(h:PgA w D p)(hG:Rw w 188 1 G n c xs):p.b≠G:=by
 obtain⟨ds,k⟩:=h.row.kind;obtain⟨es,k'⟩:=hG.kind;exact eL k k' (by decide)
theorem Rw.fl(hG:Rw w 188 1 G n c xs)(hg:Blk w g cs 148):G≠g:=by
 obtain⟨es,k'⟩:=hG.kind;exact eL k' hg (by decide)
theorem nu(h:(L.map Pg.b).Nodup)(hi:L[i]?=some p)(c:L[j]?=some q)(a:i < j):p.b≠q.b:=by
 obtain⟨l1,e1⟩:=List.getElem?_eq_some_iff.1 hi;obtain⟨d,e2⟩:=List.getElem?_eq_some_iff.1 c;have:=List.pairwise_iff_getElem.1 h i j (by simpa using l1) (by simpa using d) a;simpa[e1,e2] using this
theorem rF(h:(L.map Pg.b).Nodup)(hi:L[i]?=some p)(hj:L[j]?=some q)(hij:i≠j):p.b≠q.b:=by
 rcases Nat.lt_or_gt_of_ne hij with k | k
 ·exact nu h hi hj k
 ·exact(nu h hj hi k).symm
theorem zj(h:∀ (i j:Nat) (p q:Pg),L[i]?=some p->L[j]?=some q->i < j->p.b≠q.b):(L.map Pg.b).Nodup:=by
 refine List.pairwise_iff_getElem.2 fun i j e c a=>?_
 have l1:i < L.length:=by simpa using e
 have d:j < L.length:=by simpa using c
 simpa using h i j _ _ (List.getElem?_eq_getElem l1) (List.getElem?_eq_getElem d) a
theorem EnA.off{w':World}{e:En}(h:EnA w D e)(f:∀ b,b < w.heap.size->(∃ cs,Blk w b cs 5)->w'.heap[b]?=w.heap[b]?):EnA w' D e:=by
 have a:∀ {v:Value} {l:List Int},OB w D v l->OB w' D v l:=fun h=>⟨h.oct,h.ex.imp id (by
  rintro⟨b,c,e,hd,d⟩
  exact⟨b,c,e,hd,d.same (f b d.lt d.kind)⟩)⟩
 exact⟨a h.k,a h.v⟩
theorem bQ.put{D':Nat->Prop}{C:Nat}{p':Pg}(A:bQ w F D g L)(J:Blk w g [.slice (some ⟨G,0,none⟩) L.length C] 148)(E:F g)(u:F G)(B:Rw w 188 1 G L.length C (L.map Pg.v))(hi:L[i]?=some p)(hC:Chg (·=p.b) w w1)(hb:p'.b=p.b\/w.heap.size<=p'.b)(hA:PgA w1 D' p')(T:∀ b,b < w.heap.size->D b->D' b) :
  bQ (w1.setCell ⟨G,i,none⟩ p'.v) (fun x=>(F x/\x≠p.b)\/x=p'.b) D' g (L.set i p')/\Chg F w (w1.setCell ⟨G,i,none⟩ p'.v):=by
 have h:=(List.getElem?_eq_some_iff.1 hi).1;have N:=A.cC p (List.mem_of_getElem? hi);have R:=N.1.fl J;have Q:=N.1.fk B;have U:=B.fl J
 have I:Blk w1 g _ _:=J.chg hC (fun e=>R e.symm);have l:=B.chg hC (fun e=>Q e.symm);have o:=l.set i (by simpa using h) p'.v
 have S:p'.b≠G:=hA.fk l
 have r:Chg F w (w1.setCell ⟨G,i,none⟩ p'.v):=(hC.mono (F':=F) (fun b _ e=>by subst e;exact N.2)).cell (.inl u) _
 have O:∀ b,b < w.heap.size->(∃ cs,Blk w b cs 5)->(w1.setCell ⟨G,i,none⟩ p'.v).heap[b]? = w.heap[b]? := fun b hb M=>by
  obtain⟨cs,k⟩:=M;exact r.same b hb fun f=>A.noU f cs k
 have c:∀ b,b≠G->(w1.setCell ⟨G,i,none⟩ p'.v).heap[b]?=w1.heap[b]?:=fun b hb=>Below.heap_setCell w1 _ _ b hb
 refine⟨⟨⟨_,I.off (fun e=>U e.symm) _,.inl ⟨E,fun e=>R e.symm⟩,.inr ⟨G,C,?_,.inl ⟨u,fun e=>Q e.symm⟩,?_⟩⟩,fun q W=>?_,zj fun x y a b hx hy H=>?_,fun b hb=>?_⟩,r⟩
 ·rw[List.length_set]
 ·rw[List.length_set];refine o.to ?_
  rw[List.map_set]
 ·obtain⟨j,m⟩:=List.getElem?_of_mem W;rw[List.getElem?_set] at m;by_cases e:i=j
  ·subst e;rw[if_pos rfl,if_pos h] at m
   cases m;refine⟨⟨hA.row.same (c _ S),fun e he=>(hA.dP e he).off fun b _ M=>?_⟩,.inr rfl⟩;obtain⟨cs,k⟩:=M;obtain⟨P,K⟩:=l.kind;exact c b (eL k K (by decide))
  ·rw[if_neg e] at m;have d:=A.cC q (List.mem_of_getElem? m)
   have z:q.b≠p.b:=fun n=>rF A.apart hi m e n.symm
   exact⟨⟨(d.1.row.chg hC z).same (c _ (d.1.fk B)),fun e he=>((d.1.dP e he).mono T).off O⟩,.inl ⟨d.2,z⟩⟩
 ·have key:∀ (y:Nat) (b:Pg),y≠i->L[y]? = some b->p'.b≠b.b:=fun y b hy s=>by
   rcases hb with e | e
   ·rw[e];exact rF A.apart hi s (fun n=>hy n.symm)
   ·have:=(A.cC b (List.mem_of_getElem? s)).1.row.lt;omega
  rw[List.getElem?_set] at hx hy;by_cases e:i=x
  ·subst e;rw[if_pos rfl,if_pos h] at hx
   cases hx;rw[if_neg (by omega)] at hy;exact key y b (by omega) hy
  ·rw[if_neg e] at hx;by_cases n:i=y
   ·subst n;rw[if_pos rfl,if_pos h] at hy
    cases hy;exact(key x a (by omega) hx).symm
   ·rw[if_neg n] at hy;exact nu A.apart hx hy H
 ·by_cases e:b=p'.b
  ·subst e;obtain⟨cs,k⟩:=hA.row.kind;exact⟨cs,_,k.same (c _ S),by decide⟩
  ·obtain⟨hF,e2⟩:=hb.resolve_right e;obtain⟨cs,t,k,V⟩:=A.kind b hF;by_cases e1:b=G
   ·subst e1;obtain⟨P,K⟩:=o.kind;exact⟨P,_,K,by decide⟩
   ·exact⟨cs,t,(k.chg hC e2).same (c b e1),V⟩
theorem lB{G' C':Nat}(L:∀ p∈L',PgA w D p/\F p.b)(A:(L'.map Pg.b).Nodup)(I:∀ b,F b->∃ cs t,Blk w b cs t/\t≠5)(J:Blk w g [c0] 148)(j:F g)(B:F G)(l:G≠g)(hC:Chg (·=G) w w1)(d:∀ p∈L',p.b≠G)(hn:L'.length=n)(u:Rw w1 188 1 G' n C' (L'.map Pg.v)) :
  bQ (w1.setCell ⟨g,0,none⟩ (.slice (some ⟨G',0,none⟩) n C')) (fun x=>(F x/\x≠G)\/x=G') D g L'/\Chg F w (w1.setCell ⟨g,0,none⟩ (.slice (some ⟨G',0,none⟩) n C')):=by
 subst hn
 have m:Blk w1 g [c0] 148:=J.chg hC (fun e=>l e.symm);have h:=m.setCell (i:=0) (.slice (some ⟨G',0,none⟩) L'.length C')
 have r:G'≠g:=u.fl m
 have a:∀ b,b≠g->(w1.setCell ⟨g,0,none⟩ (.slice (some ⟨G',0,none⟩) L'.length C')).heap[b]?=w1.heap[b]?:=fun b hb=>Below.heap_setCell w1 _ _ b hb
 have o:Chg F w (w1.setCell ⟨g,0,none⟩ (.slice (some ⟨G',0,none⟩) L'.length C')):=(hC.mono (F':=F) (fun b _ e=>by subst e;exact B)).cell (.inl j) _
 have C:∀ b,b < w.heap.size->(∃ cs,Blk w b cs 5)->(w1.setCell ⟨g,0,none⟩ (.slice (some ⟨G',0,none⟩) L'.length C')).heap[b]? = w.heap[b]? := fun b hb H=>by
  obtain⟨cs,k⟩:=H;exact o.same b hb fun f=>by
   obtain⟨K,t,y,E⟩:=I b f;exact E (y.eq k).2
 refine⟨⟨⟨_,h,.inl ⟨j,fun e=>l e.symm⟩,.inr ⟨G',C',rfl,.inr rfl,u.same (a _ r)⟩⟩,fun q z=>?_,A,fun b hb=>?_⟩,o⟩
 ·have c:=L q z;exact⟨⟨(c.1.row.chg hC (d q z)).same (a _ (c.1.fl J)),fun e he=>(c.1.dP e he).off C⟩,.inl ⟨c.2,d q z⟩⟩
 ·by_cases e:b=G'
  ·subst e;obtain⟨s,k⟩:=u.kind;exact⟨s,_,k.same (a _ r),by decide⟩
  ·obtain⟨hF,e2⟩:=hb.resolve_right e;obtain⟨s,t,k,E⟩:=I b hF;by_cases e1:b=g
   ·subst e1;exact⟨_,_,h,by decide⟩
   ·exact⟨s,t,(k.chg hC e2).same (a b e1),E⟩
theorem ve(L:List Pg):∀ v∈L.map Pg.v,v.oneCell'=true:=fun v hv=>by
 obtain⟨p,_,rfl⟩:=List.mem_map.1 hv;rfl
end
end Pg
end
section
namespace Pg
open Go.RowKit Go.Lib
section
variable {ops:Array Oper} {Q:Exit->Act->World->Prop} {S:World->Prop} {fuel:Nat} {listed:Array Bool} {a:Act} {w:World}
def oy (ops:Array Oper) (listed:Array Bool) (a:Act) (i:Nat) (d:Option Tmp):Bool :=
 Region.noSelect ops && Region.free .any ops listed i && (Region.ready .any ops listed).contains i && decide (i < ops.size) && Region.wanted (ops.getD i default) (yielded ops a.tmps) && decide ((ops.getD i default).dst=d)
def E4 (ops:Array Oper) (listed:Array Bool) (a:Act) (i:Nat) (d:Option Tmp):Bool :=
 Region.noSelect ops && Region.free .any ops listed i && (Region.ready .any ops listed).contains i && decide (i < ops.size) && !Region.wanted (ops.getD i default) (yielded ops a.tmps) && decide ((ops.getD i default).dst=d)
def lA (ops:Array Oper) (listed:Array Bool) (a:Act) (i:Nat) (d:Option Tmp):Bool :=
 decide (Region.ready .any ops listed=[i]) && decide (i < ops.size) && Region.wanted (ops.getD i default) (yielded ops a.tmps) && decide ((ops.getD i default).dst=d)
theorem bU {i:Nat} (h:i < ops.size):ops[i]?=some (ops.getD i default):=by
 simp[Array.getD,h]
theorem ay (i:Nat) (d:Option Tmp) (v:Value) (hc:oy ops listed a i d=true) (hy:∀ w',S w'->(execOp a.eval (ops.getD i default)).run Tryz.prog w'=.ok (.value v) w')
  (f:∀ c a w,Q (.panic c) (a.put d v) w->Q (.panic c) a w) (hS:S w)
  (h:wpAnyH Tryz.prog .any ops Q S fuel (listed.setIfInBounds i true) (a.put d v) w):wpAnyH Tryz.prog .any ops Q S (fuel+1) listed a w:=by
 simp only[oy,Bool.and_eq_true,decide_eq_true_eq] at hc;obtain⟨⟨⟨⟨⟨j,e⟩,g⟩,l⟩,k⟩,b⟩:=hc;subst b;exact wpAnyH_take (bU l) j e g f (.inl ⟨k,hy⟩) hS h
theorem jm (i:Nat) (d:Option Tmp) (v b:Value) (hv:v=b) (hc:oy ops listed a i d=true) (hy:∀ w',S w'->(execOp a.eval (ops.getD i default)).run Tryz.prog w'=.ok (.value v) w')
  (e:∀ c a w,Q (.panic c) (a.put d b) w->Q (.panic c) a w) (hS:S w)
  (h:wpAnyH Tryz.prog .any ops Q S fuel (listed.setIfInBounds i true) (a.put d b) w):wpAnyH Tryz.prog .any ops Q S (fuel+1) listed a w:=by
 subst hv;exact ay i d v hc hy e hS h
theorem cI (i:Nat) (d:Option Tmp) (hc:E4 ops listed a i d=true) (f:∀ c a w,Q (.panic c) (a.put d undef) w->Q (.panic c) a w) (hS:S w)
  (h:wpAnyH Tryz.prog .any ops Q S fuel (listed.setIfInBounds i true) (a.put d undef) w):wpAnyH Tryz.prog .any ops Q S (fuel+1) listed a w:=by
 simp only[E4,Bool.and_eq_true,decide_eq_true_eq,Bool.not_eq_true'] at hc;obtain⟨⟨⟨⟨⟨j,e⟩,g⟩,l⟩,k⟩,b⟩:=hc;subst b;exact wpAnyH_take (bU l) j e g f (.inr ⟨k,rfl⟩) hS h
theorem aT (i:Nat) (d:Option Tmp) (v:Value) (T:TypeId) (k g o:Nat) (hc:oy ops listed a i d=true) (e:(ops.getD i default).op=.load T (.tmp k)) (l:a.eval (.tmp k)=.pointer (some ⟨g,o,none⟩))
  (f:∀ w',S w'->(loadVar T ⟨g,o,none⟩).run Tryz.prog w'=.ok v w')
  (j:∀ c a w,Q (.panic c) (a.put d v) w->Q (.panic c) a w) (hS:S w)
  (h:wpAnyH Tryz.prog .any ops Q S fuel (listed.setIfInBounds i true) (a.put d v) w):wpAnyH Tryz.prog .any ops Q S (fuel+1) listed a w :=
 ay i d v hc (fun w' b=>by
  have:=f w' b;simp only[execOp,e,l]
  simp[Instr.loadAt,Instr.sureAddr,Result.andThen,this]) j hS h
theorem bS (i:Nat) (d:Option Tmp) (f:FuncId) (args:Array Value) {Qc:Ending->World->Prop} (hc:lA ops listed a i d=true) (hrun:(execOp a.eval (ops.getD i default)).run Tryz.prog w=.ok (.enter f args) w)
  (b:Calls Tryz.prog f args w Qc) (m:∀ e w',Qc e w'->∃ v,e=.returned v/\S w'/\wpAnyH Tryz.prog .any ops Q S fuel (listed.setIfInBounds i true) (a.put d v) w') :
  wpAnyH Tryz.prog .any ops Q S (fuel+1) listed a w:=by
 simp only[lA,Bool.and_eq_true,decide_eq_true_eq] at hc;obtain⟨⟨⟨k,o⟩,l⟩,g⟩:=hc;subst g;refine wpAnyH_all k (by simp) fun j n=>?_
 obtain rfl:j=i:=by simpa using n
 refine wpOp_step (bU o) fun K h=>?_
 rw[if_pos l];unfold Oper.wp;rw[hrun];refine b.mono fun e w' he=>?_
 obtain⟨v,rfl,c,hw⟩:=m e w' he;exact h _ _ ⟨c,hw⟩
theorem bI (hr:Region.ready .any ops listed=[]) (h:Q .normal a w):wpAnyH Tryz.prog .any ops Q S fuel listed a w:=wpAnyH_done hr h fuel
theorem bW {id:Nat} (hm:Tryz.prog.follows .mixedOrders=true) (hS:S w.drew) (h:wpAnyH Tryz.prog .any ops Q S ops.size (Array.replicate ops.size false) a w.drew):(Code.region id ops true).wp Tryz.prog Q a w :=
 wp_region_held_drew hm hS fun _=>h
end
def jt (a:Act):List (Option Tmp × Value)->Act
 | []=>a
 | p :: l=>jt (a.put p.1 p.2) l
section
variable {ops:Array Oper} {Q:Exit->Act->World->Prop} {S:World->Prop} {fuel:Nat} {listed:Array Bool} {a:Act} {w:World}
section
variable {K:Act->World->Prop}{rs:List Nat}{Qc:Ending->World->Prop}
theorem pT{X:Type}{id:Nat}{b:Exit->Act->World->Prop}(upd:X->List (Option Tmp × Value))(F:X->World->Prop)(S:World->Prop)(hm:Tryz.prog.follows .mixedOrders=true)(hS:S w.drew)(d:wpAnyH Tryz.prog .any ops (Exit.then (fun a' w'=>∃ x,a'=jt a (upd x)/\F x w') (fun _ _ _=>False)) S ops.size (Array.replicate ops.size false) a w.drew)(c:∀ x w',F x w'->K (jt a (upd x)) w'):(Code.region id ops true).wp Tryz.prog (Exit.then K b) a w :=
 Code.wp_mono (fun e a' w' h=>by
  cases e<;>first
   | (obtain⟨x,rfl,hF⟩:=h;exact c x w' hF)
   | exact h.elim) (wp_region_held_drew (S:=S) hm hS fun _=>d)
def fX(ops:Array Oper)(a:Act)(i:Nat)(d:Option Tmp):Bool :=
 decide (i < ops.size) && Region.wanted (ops.getD i default) (yielded ops a.tmps) && decide ((ops.getD i default).dst=d)
theorem aM(rs:List Nat)(hr:Region.ready .any ops listed=rs)(hne:rs≠[])(h:AllReadyH Tryz.prog .any ops Q S fuel listed a w rs):wpAnyH Tryz.prog .any ops Q S (fuel+1) listed a w:=wpAnyH_ready hr hne h
theorem aZ:AllReadyH Tryz.prog .any ops Q S fuel listed a w []:=AllReadyH.nil
theorem vM(i:Nat)(d:Option Tmp)(f:FuncId)(args:Array Value)(hc:fX ops a i d=true)(hrun:(execOp a.eval (ops.getD i default)).run Tryz.prog w=.ok (.enter f args) w)(b:Calls Tryz.prog f args w Qc)(k:∀ e w',Qc e w'->∃ v,e=.returned v/\S w'/\wpAnyH Tryz.prog .any ops Q S fuel (listed.setIfInBounds i true) (a.put d v) w')(hs:AllReadyH Tryz.prog .any ops Q S fuel listed a w rs):AllReadyH Tryz.prog .any ops Q S fuel listed a w (i :: rs):=by
 simp only[fX,Bool.and_eq_true,decide_eq_true_eq] at hc;obtain⟨⟨l,j⟩,g⟩:=hc;subst g;refine AllReadyH.cons (bU l) (fun K h=>?_) hs;rw[if_pos j];unfold Oper.wp;rw[hrun];refine b.mono fun e w' he=>?_
 obtain⟨v,rfl,c,hw⟩:=k e w' he;exact h.out _ _ c fun _=>hw
theorem bJ{rs:List Nat}(i:Nat)(d:Option Tmp)(v:Value)(w1:World)(hc:fX ops a i d=true)(hrun:(execOp a.eval (ops.getD i default)).run Tryz.prog w=.ok (.value v) w1)(b:S w1)(h:wpAnyH Tryz.prog .any ops Q S fuel (listed.setIfInBounds i true) (a.put d v) w1)(hs:AllReadyH Tryz.prog .any ops Q S fuel listed a w rs):AllReadyH Tryz.prog .any ops Q S fuel listed a w (i :: rs):=by
 simp only[fX,Bool.and_eq_true,decide_eq_true_eq] at hc;obtain⟨⟨g,f⟩,c⟩:=hc;subst c;refine AllReadyH.cons (bU g) (fun K e=>?_) hs;rw[if_pos f];unfold Oper.wp;rw[hrun]
 show K (a.put (ops.getD i default).dst v) w1
 exact e.out _ _ b fun _=>h
theorem dq{rs:List Nat}(i:Nat)(w1:World)(hc:fX ops a i none=true)(hrun:(execOp a.eval (ops.getD i default)).run Tryz.prog w=.ok .skip w1)(b:S w1)(h:wpAnyH Tryz.prog .any ops Q S fuel (listed.setIfInBounds i true) (a.put none undef) w1)(hs:AllReadyH Tryz.prog .any ops Q S fuel listed a w rs):AllReadyH Tryz.prog .any ops Q S fuel listed a w (i :: rs):=by
 simp only[fX,Bool.and_eq_true,decide_eq_true_eq] at hc;obtain⟨⟨f,e⟩,c⟩:=hc;refine AllReadyH.cons (bU f) (fun K d=>?_) hs;rw[if_pos e];unfold Oper.wp;rw[hrun]
 show K (a.put (ops.getD i default).dst undef) w1
 rw[c];exact d.out _ _ b fun _=>h
end
end
section
variable {a:Act}{w:World}{x y k n c g:Nat}{o:Oper}{v u:Value}{ao bo:Option Addr}
theorem eQ{op:Oper}{T:TypeId}{b:Nat}(g:op.op=.indexAddr T (.tmp x) (.tmp y))(o:Tryz.prog.underlying T=some (.slice 188))(hx:a.eval (.tmp x)=.slice (some ⟨b,0,none⟩) n c){z:Int}(hy:a.eval (.tmp y)=.int .i64 z)(j:z=(k:Int))(p:k < n):(execOp a.eval op).run Tryz.prog w=.ok (.value (.pointer (some ⟨b,k,none⟩))) w:=by
 subst j
 have m:(k:Int) < n:=by omega
 have q:¬ ((k:Int) < 0):=by omega
 obtain⟨i0,hi,l,d,f⟩:=info_parts (P:=Tryz.prog) (show (Tryz.prog.info? 188).map (fun i=>(i.zero,i.size,i.bytes))=some (some (.slice none 0 0),1,24) by kernel_rfl);simp only[execOp,g,hx,hy];go_simp
theorem gz{o:Nat}(c:w.cell? ⟨g,o,none⟩=some v):(loadVar 146 ⟨g,o,none⟩).run Tryz.prog w=.ok v w:=by go_simp
theorem pL{o:Nat}(c:w.cell? ⟨g,o,none⟩=some v):(loadVar 188 ⟨g,o,none⟩).run Tryz.prog w=.ok v w:=by go_simp
theorem ld_e(c:w.cell? ⟨g,0,none⟩=some v)(d:w.cell? ⟨g,1,none⟩=some u):(loadVar 185 ⟨g,0,none⟩).run Tryz.prog w=.ok (.agg #[v,u]) w:=by go_simp
theorem iG{a:Act}{w:World}{o:Oper}{T:TypeId}(k:Nat){g off:Nat}{v:Value}(b:o.op=.load T (.tmp k))(d:a.eval (.tmp k)=.pointer (some ⟨g,off,none⟩))(c:(loadVar T ⟨g,off,none⟩).run Tryz.prog w=.ok v w):(execOp a.eval o).run Tryz.prog w=.ok (.value v) w:=by
 simp only[execOp,b,d];simp[Instr.loadAt,Instr.sureAddr,Result.andThen,c]
theorem kK(k q:Nat){off:Nat}(b:o.op=.store 188 (.tmp k) (.tmp q))(d:a.eval (.tmp k)=.pointer (some ⟨g,off,none⟩))(f:a.eval (.tmp q)=.slice ao n c)(hc:w.cell? ⟨g,off,none⟩=some u)(hf:w.frozen? ⟨g,off,none⟩=false) :
  (execOp a.eval o).run Tryz.prog w=.ok .skip (w.setCell ⟨g,off,none⟩ (.slice ao n c)):=by
 simp only[execOp,b,d,f];go_simp
theorem p8{kv vv:Value}(c:o.op=.buildSlice 188 1 #[(0,.tmp k)])(b:a.eval (.tmp k)=.agg #[kv,vv]):(execOp a.eval o).run Tryz.prog w=.ok (.value (.slice (some ⟨w.heap.size,0,none⟩) 1 1)) (w.alloc (.cells #[kv,vv] 185)):=by
 have d:a.tmps[k]?.getD undef=.agg #[kv,vv]:=by simpa[Act.eval] using b
 simp only[execOp,c];go_simp
theorem Dy{m d:Nat}(g:o.op=.buildSlice 146 2 #[(0,.tmp x),(1,.tmp y)])(hx:a.eval (.tmp x)=.slice ao n c)(hy:a.eval (.tmp y)=.slice bo m d):(execOp a.eval o).run Tryz.prog w=.ok (.value (.slice (some ⟨w.heap.size,0,none⟩) 2 2)) (w.alloc (.cells #[.slice ao n c,.slice bo m d] 188)):=by
 have b:a.tmps[x]?.getD undef=.slice ao n c:=by simpa[Act.eval] using hx
 have f:a.tmps[y]?.getD undef=.slice bo m d:=by simpa[Act.eval] using hy
 simp only[execOp,g];go_simp
end
end Pg
end
section
namespace Pg
open Go.RowKit Go.Lib
section
variable {w:World}{D F:Nat→Prop}{p:Pg}{es:List En}{g G i j:Nat}{v u c0:Value}{L:List Pg}
theorem Eb{D:Nat->Prop}(h:PgA w D p)(hs:∀ e∈es,e∈p.es):∀ e∈es,EnA w D e:=fun e he=>h.dP e (hs e he)
theorem cj(w:World):Below w.heap.size w w.drew:=⟨rfl,rfl,rfl,Nat.le_refl _,fun _ _=>rfl⟩
theorem bX(h:g≠G)(hc:w.cell? ⟨g,j,none⟩=some u):(w.setCell ⟨G,i,none⟩ v).cell? ⟨g,j,none⟩=some u:=by
 rw[World.cell?_of_block (w:=w) (a:=⟨g,j,none⟩) (Below.heap_setCell w _ v g h)];exact hc
theorem Er{α:Type}(L:List α)(i:Nat)(a b:α)(h:i < L.length):(L.set i a).take (i+1) ++ [b] ++ (L.set i a).drop (i+1)=L.take i ++ [a,b] ++ L.drop (i+1):=by
 have e1:(L.set i a).take (i+1)=L.take i ++ [a]:=by
  rw[List.take_add_one,List.take_set_of_le (Nat.le_refl _),List.getElem?_set_self h];rfl
 rw[e1,List.drop_set_of_lt (by omega)];simp
theorem xa{d j B:World}{z:Nat→Prop}{n m C c c2 t K:Nat}{q1:Pg}(V:bQ d z D g (L.set i q1))(r:∀ b,z b→F b∨w.heap.size≤b)(I:Chg F w d)(hgx:Blk d g [.slice (some ⟨G,0,none⟩) (L.set i q1).length C] 148)(N:Blk j g [c0] 148)(T:z g)(H:z G)(A:Rw d 188 1 G (L.set i q1).length C ((L.set i q1).map Pg.v))(U:g≠G)(W:i < L.length)(P:q1.es=es.take 16)(y:(es.drop 16).length=m - 16)(hnn:L.length=n)(S:Below d.drew.heap.size d.drew j)(O:d.drew.heap.size≤c)(R3:Rw j 185 2 c (m - 16) c2 (flat (es.drop 16)))(E0:∀ e ∈ es,EnA d.drew D e)(Q:t=G∨j.heap.size+1≤t)(R5:Rw B 188 1 t (n+1) K (((L.set i q1).map Pg.v).take (i+1) ++ [.slice (some ⟨c,0,none⟩) (m - 16) c2] ++ ((L.set i q1).map Pg.v).drop (i+1)))(u:Chg (·=G) (j.alloc (.cells #[.slice (some ⟨c,0,none⟩) (m - 16) c2] 188)) B) :
    ∃ F' p1 p2,Ending.returned (.tuple #[])=Ending.returned (.tuple #[])∧p1.es=es.take 16∧p2.es=es.drop 16∧bQ (B.setCell ⟨g,0,none⟩ (.slice (some ⟨t,0,none⟩) (n+1) K)) F' D g (L.take i ++ [p1,p2] ++ L.drop (i+1))∧(∀ b,F' b→F b∨w.heap.size≤b)∧Chg F w (B.setCell ⟨g,0,none⟩ (.slice (some ⟨t,0,none⟩) (n+1) K)):=by
  obtain⟨q,s⟩:∃ q,q=j.alloc (.cells #[.slice (some ⟨c,0,none⟩) (m - 16) c2] 188):=⟨_,rfl⟩
  have J:Below d.heap.size d q:=by rw[s];exact aA (aA (cj d) S) (ae j _)
  have l:Below j.heap.size j q:=by rw[s];exact ae j _
  rw[← s] at u;have M:=V.keep J
  have o:PgA q D ⟨c,c2,es.drop 16⟩:= by
    refine⟨?_,fun e he=>((E0 e (List.mem_of_mem_drop he)).keep S).keep l⟩
    show Rw q _ 2 c (es.drop 16).length c2 _
    rw[y];exact R3.keep l
  have X:d.heap.size≤c:=O
  have R:(⟨c,c2,es.drop 16⟩:Pg).v=.slice (some ⟨c,0,none⟩) (m - 16) c2:=by simp only[Pg.v];rw[y]
  have E : ∀ p ∈ (L.set i q1).take (i + 1) ++ [(⟨c, c2, es.drop 16⟩ : Pg)] ++ (L.set i q1).drop (i + 1), p ∈ L.set i q1 ∨ p = ⟨c, c2, es.drop 16⟩:= fun p f => by
    rcases List.mem_append.1 f with h | h
    · rcases List.mem_append.1 h with h | h
      · exact .inl (List.mem_of_mem_take h)
      · exact .inr (by simpa using h)
    · exact .inl (List.mem_of_mem_drop h)
  have hlen:((L.set i q1).take (i+1) ++ [(⟨c,c2,es.drop 16⟩:Pg)] ++ (L.set i q1).drop (i+1)).length=n+1:=by
    simp;omega
  have hold : ∀ p ∈ L.set i q1, p.b ≠ c := fun p f => by
    have:=(V.cC p f).1.row.lt;omega
  obtain⟨Z,C6⟩:= lB (w:=q) (w1:=B) (F:=fun x=>z x∨x=c) (D:=D) (g:=g) (G:=G) (G':=t) (C':=K) (n:=n+1) (L':=(L.set i q1).take (i+1) ++ [(⟨c,c2,es.drop 16⟩:Pg)] ++ (L.set i q1).drop (i+1))
    (fun p f => by
      rcases E p f with h | rfl
      · exact⟨(M.cC p h).1,.inl (M.cC p h).2⟩
      · exact⟨o,.inr rfl⟩)
    (by
      have hn:=V.apart
      have e:(L.set i q1).map Pg.b=((L.set i q1).take (i+1)).map Pg.b ++ ((L.set i q1).drop (i+1)).map Pg.b:=by rw[← List.map_append,List.take_append_drop]
      rw[e] at hn
      have h2 : ∀ x ∈ ((L.set i q1).take (i + 1)).map Pg.b, x ≠ c := fun x hx => by
        obtain⟨p,f,rfl⟩:= List.mem_map.1 hx;exact hold p (List.mem_of_mem_take f)
      have Y : ∀ x ∈ ((L.set i q1).drop (i + 1)).map Pg.b, x ≠ c := fun x hx => by
        obtain⟨p,f,rfl⟩:= List.mem_map.1 hx;exact hold p (List.mem_of_mem_drop f)
      simp only[List.map_append,List.map_cons,List.map_nil];rw[List.nodup_append] at hn;rw[List.append_assoc,List.nodup_append];refine⟨hn.1,?_,?_⟩
      · rw[List.singleton_append,List.nodup_cons]
        exact⟨fun h=>Y c h rfl,hn.2.1⟩
      · intro a ha b hb
        rcases List.mem_append.1 hb with hb | hb
        · simp at hb;subst hb;exact h2 a ha
        · exact hn.2.2 a ha b hb)
    (fun b hb => by
      rcases hb with h | rfl
      · exact M.kind b h
      · obtain⟨ds,k⟩:= o.row.kind
        exact⟨ds,_,k,by decide⟩)
    (N.keep l) (.inl T) (.inl H) (fun e=>U e.symm) u
    (fun p f => by
      rcases E p f with h | rfl
      · exact(M.cC p h).1.fk (A.keep J)
      · exact o.fk (A.keep J)) hlen
    (by simpa[List.map_take,List.map_drop,R] using R5)
  rw[Er L i q1 _ W] at Z;refine⟨_,q1,⟨c,c2,es.drop 16⟩,rfl,P,rfl,Z,fun b hb=>?_,(I.trans (Chg.of (F:=F) J) (fun _ _ h=>h)).trans C6 fun b hb h=>?_⟩
  · rcases hb with⟨h | rfl, _⟩ | rfl
    · exact r b h
    · exact .inr (by have:=I.size;omega)
    · rcases Q with rfl | h
      · exact r _ H
      · have Y:=S.size
        have h2:=I.size
        have:d.drew.heap.size=d.heap.size:=rfl;exact .inr (by omega)
  · rcases h with h | rfl
    · exact(r b h).resolve_right (by omega)
    · have:=I.size;omega
theorem A7(h:j≠i)(hc:w.cell? ⟨G,j,none⟩=some u):(w.setCell ⟨G,i,none⟩ v).cell? ⟨G,j,none⟩=some u:=by
 have a:=aK hc;simp only[World.cell?,World.setCell,Array.getElem?_modify,if_true] at hc ⊢
 cases hh:w.heap[G]? with
 | none=>rw[hh] at hc;simp at hc
 | some ob =>
  rw[hh] at hc
  cases ob with
  | cells c e f =>
   simp at hc ⊢;rw[Array.getElem?_setIfInBounds,if_neg (by omega)];exact hc
  | _=>simp at hc
theorem ll(A:bQ w F D g L)(hi:L[i]?=some p)(h1:17≤p.es.length)(h2:p.es.length≤1000)(hn:L.length≤100000000) :
    Calls Tryz.prog 197 #[.pointer (some ⟨g,0,none⟩),.int .i64 i] w fun e w'=>∃ F' p1 p2,e=.returned (.tuple #[])∧p1.es=p.es.take 16∧p2.es=p.es.drop 16∧bQ w' F' D g (L.take i ++ [p1,p2] ++ L.drop (i+1))∧(∀ b,F' b→F b∨w.heap.size≤b)∧Chg F w w':=by
  have X:=(List.getElem?_eq_some_iff.1 hi).1
  have hL:L≠[]:=fun e=>by subst e;simp at X
  obtain⟨G,C,hg,hFg,hFG,J⟩:= A.opn hL;have Q:=A.cC p (List.mem_of_getElem? hi);have cg:=hg.cell (i:=0) rfl;have cG:=J.cell (i:=i) (v:=p.v) (by simp[hi]);have hpc:=Q.1.row.le;have hCC:=J.le;simp only[maxLen] at hpc hCC
  have P:w.drew.cell? ⟨g,0,none⟩=some (.slice (some ⟨G,0,none⟩) L.length C):=cg
  have t1 := BH (w := w.drew) (a := ⟨p.b, 0, none⟩) (n := 16) (c := p.c) (xs := flat (p.es.take 16)) (by decide) (by rw[j6, List.length_take]; omega) (fun j v M => by
    rw[Addr.add_lit,Nat.zero_add]
    have:(flat p.es)[j]?=some v:=by
      rw[← iQ,List.getElem?_take] at M;split at M
      · exact M
      · cases M
    exact Q.1.row.drew.cell this) (ku (Eb Q.1 fun e he=>List.mem_of_mem_take he))
  obtain⟨n,d⟩:∃ n,Hid (L.length=n):=⟨_,rfl⟩;obtain⟨m,s⟩:∃ m,Hid (p.es.length=m):=⟨_,rfl⟩;simp only[Pg.v] at cG;rw[d.out] at cg P;rw[s.out] at cG
  have z1:(i:Int) < n:=by have:=d.out;omega
  have z2:m≤p.c:=by have:=s.out;omega
  have z3:p.c≤9223372036854775807:=by omega
  have z4:17≤m:=by have:=s.out;omega
  have z5:16≤p.c:=by omega
  have z6:(16:Int)≤(p.c:Int):=by omega
  have r:g≠G:=fun e=>J.fl hg e.symm
  have mixed:=mixed;go_enter Tryz.func197,Tryz.ntmps197;go_wp2;go_region_held3 (fun w'=>w'.cell? ⟨g,0,none⟩=some (.slice (some ⟨G,0,none⟩) n C)) (first | assumption | exact bX r (by assumption))
    (first
    | (go_at_call 230;refine t1.mono ?_;rintro e' o ⟨y,c1,rfl,S,R1,u⟩;have cg1:o.cell? ⟨g,0,none⟩=some (.slice (some ⟨G,0,none⟩) n C):=(u.cell (p:=⟨g,0,none⟩) (aK P)).trans P;have cG1:o.cell? ⟨G,i,none⟩=some (.slice (some ⟨p.b,0,none⟩) m p.c):=(u.cell (p:=⟨G,i,none⟩) (aK (w:=w.drew) cG)).trans cG;have fG1:o.frozen? ⟨G,i,none⟩=false:=(J.drew.keep u).free i))
  obtain⟨q1,q⟩:∃ q1:Pg,Hid (q1=⟨y,c1,p.es.take 16⟩):=⟨_,rfl⟩
  have B:(p.es.take 16).length=16:=by rw[List.length_take];omega
  have U:q1.v=.slice (some ⟨y,0,none⟩) 16 c1:=by rw[q.out];simp only[Pg.v];rw[B]
  have aa:PgA o D q1:=by
    rw[q.out];refine⟨?_,fun e he=>((Q.1.dP e (List.mem_of_mem_take he)).keep (cj w)).keep u⟩
    show Rw o _ 2 y (p.es.take 16).length c1 _
    rw[B];exact R1
  obtain⟨A2,C2⟩:= A.put (p':=q1) (D':=D) hg hFg hFG J hi (Chg.of (aA (cj w) u)) (.inr (by rw[q.out];exact S)) aa (fun _ _ h=>h);rw[U] at A2 C2
  have R0:Rw (o.setCell ⟨G,i,none⟩ (.slice (some ⟨y,0,none⟩) 16 c1)) 185 2 p.b p.es.length p.c (flat p.es):=((Q.1.row.keep (cj w)).keep u).same (Below.heap_setCell o _ _ _ (Q.1.fk J))
  have E0 : ∀ e ∈ p.es, EnA (o.setCell ⟨G, i, none⟩ (.slice (some ⟨y, 0, none⟩) 16 c1)) D e := fun e he => (((Q.1.dP e he).keep (cj w)).keep u).off fun b hb hk => by
    obtain⟨cs,k⟩:= hk;obtain⟨ds,k'⟩:= (J.drew.keep u).kind;exact Below.heap_setCell o _ _ b (eL k k' (by decide))
  have hw1l:w.heap.size≤(o.setCell ⟨G,i,none⟩ (.slice (some ⟨y,0,none⟩) 16 c1)).heap.size:=C2.size
  have W:q1.b=y:=by rw[q.out]
  have T:q1.es=p.es.take 16:=by rw[q.out]
  have f:=(hg.drew.keep u).off r (i:=i) (.slice (some ⟨y,0,none⟩) 16 c1)
  have hF2:∀ b,((F b∧b≠p.b)∨b=q1.b)→F b∨w.heap.size≤b:=fun b h=>h.imp (fun h=>h.1) (fun h=>by rw[h,W];exact S)
  generalize (o.setCell ⟨G,i,none⟩ (.slice (some ⟨y,0,none⟩) 16 c1))=K at *;generalize hF2d:(fun x=>(F x∧x≠p.b)∨x=q1.b)=F2 at A2;obtain⟨z,R,ab,ac,V,O⟩:= A2.opn (by simp[hL]);obtain⟨rfl,rfl⟩:z=G∧R=C:=by
    have:=(ab.eq f).1;simp at this;exact⟨this.1,this.2⟩
  have Z:∀ b,F2 b→F b∨w.heap.size≤b:=fun b h=>hF2 b (by rw[← hF2d] at h;exact h)
  have cg2:K.cell? ⟨g,0,none⟩=some (.slice (some ⟨z,0,none⟩) n R):=by
    have:=f.cell (i:=0) rfl;rwa [d.out] at this
  have I:K.drew.cell? ⟨g,0,none⟩=some (.slice (some ⟨z,0,none⟩) n R):=cg2
  have Y:(p.es.drop 16).length=m - 16:=by rw[List.length_drop,s.out]
  have t2 := BH (w := K.drew) (a := ⟨p.b, 32, none⟩) (n := m - 16) (c := p.c - 16) (xs := flat (p.es.drop 16)) (by have := s.out; omega) (by rw[j6, Y]) (fun j v M => by
    rw[Addr.add_lit]
    have:(flat p.es)[32+j]?=some v:=by
      rw[← iW,List.getElem?_drop] at M;exact M
    exact R0.drew.cell this) (ku (w:=K) (D:=D) (fun e he=>E0 e (List.mem_of_mem_drop he)))
  have zz1:IntKind.i64.wrap ((i:Int)+1)=(i:Int)+1:=by rw[IntKind.wrap_i64];have:=d.out;omega
  have zz2:¬ (p.c=16):=by omega
  have zz3:(16:Int)≤m:=by omega
  have t3 : ∀ (l : World) (t c2 : Nat), Below K.drew.heap.size K.drew l → Calls Tryz.prog 231 #[.slice (some ⟨z, 0, none⟩) n R, .int .i64 ((i : Int) + 1), .slice (some ⟨l.heap.size, 0, none⟩) 1 1] (l.alloc (.cells #[.slice (some ⟨t, 0, none⟩) (m - 16) c2] 188)) fun e w' => ∃ b' c', e = .returned (.slice (some ⟨b', 0, none⟩) (n + 1) c') ∧ (b' = z ∨ l.heap.size + 1 ≤ b') ∧ Rw w' 188 1 b' (n + 1) c' (((L.set i q1).map Pg.v).take (i + 1) ++ [.slice (some ⟨t, 0, none⟩) (m - 16) c2] ++ ((L.set i q1).map Pg.v).drop (i + 1)) ∧ Chg (· = z) (l.alloc (.cells #[.slice (some ⟨t, 0, none⟩) (m - 16) c2] 188)) w' := fun l t c2 E => by
    have hk:=(O.drew.keep E).keep (ae l (.cells #[.slice (some ⟨t,0,none⟩) (m - 16) c2] 188));rw[List.length_set,d.out] at hk
    have hGl:z < l.heap.size:=(O.drew.keep E).lt;have:=insP (i:=i+1) hk (aD l [.slice (some ⟨t,0,none⟩) (m - 16) c2] 188) (by omega) (by have:=d.out;omega) (by have:=d.out;omega) (ve _) (by simp[Value.oneCell']);rw[World.size_alloc] at this;simpa using this
  go_wp2
  go_region_with (first
    | (go_at_call 230;refine t2.mono ?_;rintro e' l ⟨t,c2,rfl,hb2,R3,E⟩;have cg3:l.cell? ⟨g,0,none⟩=some (.slice (some ⟨z,0,none⟩) n R):=(E.cell (p:=⟨g,0,none⟩) (aK I)).trans I;have H:=mL cg3 (.cells #[.slice (some ⟨t,0,none⟩) (m - 16) c2] 188))
    | (go_at_call 231;refine(t3 l t c2 E).mono ?_;rintro e' w5 ⟨G5,C5,rfl,hb5,R5,N⟩;have cg5:w5.cell? ⟨g,0,none⟩=some (.slice (some ⟨z,0,none⟩) n R):=(World.cell?_of_block (w:=l.alloc (.cells #[.slice (some ⟨t,0,none⟩) (m - 16) c2] 188)) (a:=⟨g,0,none⟩) (N.same g (aK H) r)).trans H;have fg5:w5.frozen? ⟨g,0,none⟩=false:=(((f.drew.keep E).keep (ae l _)).chg N r).free 0))
  all_goals go_wp2
  all_goals go_end0
  all_goals exact xa A2 Z C2 ab (f.drew.keep E) ac V O r X T Y d.out E hb2 R3 (fun e he=>(E0 e he).keep (cj K)) hb5 R5 N
end
end Pg
end
section
namespace Pg
open Go.RowKit Go.Lib
section
variable {L:List Pg}{i:Nat}{p:Pg}{w:World}{F D:Nat->Prop}
def sW(P:List (List En))(i q:Nat)(e:En):List (List En) :=
 let es:=(P.getD i []).take q ++ [e] ++ (P.getD i []).drop q
 if 32 < es.length then P.take i ++ [es.take 16,es.drop 16] ++ P.drop (i+1) else P.set i es
theorem rm(L:List Pg)(i:Nat)(p:Pg):ens (L.set i p)=(ens L).set i p.es:=by simp[ens,List.map_set]
theorem eW(h:L[i]?=some p):(ens L).getD i []=p.es:=by simp[ens,h]
theorem Bd(es:List En)(q:Nat)(e:En):(flat es).take (q * 2) ++ [e.kv,e.vv] ++ (flat es).drop (q * 2)=flat (es.take q ++ [e] ++ es.drop q):=by
 rw[iQ,iW,ez,ez];rfl
theorem vd{g q:Nat}{e:En}(A:bQ w F D g L)(hi:L[i]?=some p)(hq:q<=p.es.length)(h2:p.es.length<=32)(hn:L.length<=100000000)(hE:EnA w D e) :
  Calls Tryz.prog 148 #[.pointer (some ⟨g,0,none⟩),.int .i64 i,.int .i64 q,.agg #[e.kv,e.vv]] w fun e' w'=>∃ F' L',e'=.returned (.tuple #[])/\ens L'=sW (ens L) i q e/\bQ w' F' D g L'/\(∀ b,F' b->F b\/w.heap.size<=b)/\Chg F w w':=by
 have hil:=(List.getElem?_eq_some_iff.1 hi).1
 have hL:L≠[]:=fun e=>by subst e;simp at hil
 obtain⟨kv,kl,vv,vl⟩:=e;obtain⟨l,O⟩:∃ l,Hid (l=w.alloc (.cells #[kv,vv] 185)):=⟨_,rfl⟩
 have B0:Below w.heap.size w l:=by rw[O.out];exact ae w _
 have X0:Blk l w.heap.size [kv,vv] 185:=by rw[O.out];exact aD w [kv,vv] _
 have A0:=A.keep B0;obtain⟨G,C,hg,hFg,hFG,Z⟩:=A0.opn hL;have Y:=A0.cC p (List.mem_of_getElem? hi);have cg:=hg.cell (i:=0) rfl;have cG:=Z.cell (i:=i) (v:=p.v) (by simp[hi]);have x0:=X0.cell (i:=0) rfl;have x1:=X0.cell (i:=1) rfl;have hpc:=Y.1.row.le;have hCC:=Z.le;simp only[maxLen] at hpc hCC;obtain⟨n,T⟩:∃ n,Hid (L.length=n):=⟨_,rfl⟩
 obtain⟨m,W⟩:∃ m,Hid (p.es.length=m):=⟨_,rfl⟩
 simp only[Pg.v] at cG;rw[T.out] at cg;rw[W.out] at cG
 have z0:¬ ((n:Int)=0):=by have:=T.out;omega
 have z1:(i:Int) < n:=by have:=T.out;omega
 have cgd:l.drew.cell? ⟨g,0,none⟩=some (.slice (some ⟨G,0,none⟩) n C):=cg
 have x0d:l.drew.cell? ⟨w.heap.size,0,none⟩=some kv:=x0
 have x1d:l.drew.cell? ⟨w.heap.size,1,none⟩=some vv:=x1
 have cGd:l.drew.cell? ⟨G,i,none⟩=some (.slice (some ⟨p.b,0,none⟩) m p.c):=cG
 have ac:g≠G:=fun e=>Z.fl hg e.symm
 have V:w.heap.size≠G:=by have:=A.lt hFG;omega
 obtain⟨R,M⟩:∃ R,Hid (R=l.drew.alloc (.cells #[kv,vv] 185)):=⟨_,rfl⟩
 have I:Below l.heap.size l R:=by rw[M.out];exact aA (cj l) (ae l.drew _)
 have hs0:l.heap.size=w.heap.size+1:=by rw[O.out];simp
 have V1:Blk R l.heap.size [kv,vv] 185:=by rw[M.out];exact aD l.drew [kv,vv] _
 have t1:=insE (i:=q) (Y.1.row.keep I) V1 (by have:=Y.1.row.lt;omega) hq (by omega) Y.1.one (by have:=hE.k.one;have:=hE.v.one;simp_all);rw[W.out] at t1
 have j:R.cell? ⟨g,0,none⟩=some (.slice (some ⟨G,0,none⟩) n C):=(I.cell (p:=⟨g,0,none⟩) (aK cg)).trans cg
 have z:R.cell? ⟨w.heap.size,0,none⟩=some kv:=(I.cell (p:=⟨w.heap.size,0,none⟩) (aK x0)).trans x0
 have u:R.cell? ⟨w.heap.size,1,none⟩=some vv:=(I.cell (p:=⟨w.heap.size,1,none⟩) (aK x1)).trans x1
 have r:R.cell? ⟨G,i,none⟩=some (.slice (some ⟨p.b,0,none⟩) m p.c):=(I.cell (p:=⟨G,i,none⟩) (aK cG)).trans cG
 have ng:g≠p.b:=fun e=>Y.1.fl hg e.symm
 have nG:G≠p.b:=fun e=>Y.1.fk Z e.symm
 have nx:w.heap.size≠p.b:=by have:=A.lt Y.2;omega
 have mixed:=mixed
 have ab:i < n:=by have:=T.out;omega
 go_enter Tryz.func148,Tryz.ntmps148;have cgw:=cg;rw[O.out] at cgw;go_wp2;rw[<- O.out];have U:=(show _/\_/\_ from⟨j,z,u⟩)
 have K:=r;rw[M.out] at U K t1
 have ad:Tryz.prog.underlying 146=some (.slice 188):=by kernel_rfl
 refine pT (X:=Nat × Nat) (fun x=>[(some 23,.pointer (some ⟨g,0,none⟩)),(some 24,.pointer (some ⟨g,0,none⟩)),(some 25,.pointer (some ⟨g,0,none⟩)),(some 26,.slice (some ⟨G,0,none⟩) n C),(some 27,.int .i64 i),(some 28,.pointer (some ⟨g,0,none⟩)),(some 29,.pointer (some ⟨g,0,none⟩)),(some 30,.pointer (some ⟨g,0,none⟩)),(some 31,.slice (some ⟨G,0,none⟩) n C),(some 32,.int .i64 i),(some 33,.pointer (some ⟨G,i,none⟩)),(some 34,.slice (some ⟨p.b,0,none⟩) m p.c),(some 35,.int .i64 q),(some 36,.agg #[kv,vv]),(some 37,.slice (some ⟨l.heap.size,0,none⟩) 1 1),(some 38,.slice (some ⟨x.1,0,none⟩) (m+1) x.2),(some 39,.pointer (some ⟨G,i,none⟩))]) (fun x w'=>∃ d,w'=d.setCell ⟨G,i,none⟩ (.slice (some ⟨x.1,0,none⟩) (m+1) x.2)/\(x.1=p.b\/R.heap.size<=x.1)/\Rw d 185 2 x.1 (m+1) x.2 ((flat p.es).take (q * 2) ++ [kv,vv] ++ (flat p.es).drop (q * 2))/\Chg (·=p.b) R d) (fun w'=>w'.cell? ⟨g,0,none⟩=some (.slice (some ⟨G,0,none⟩) n C)/\w'.cell? ⟨w.heap.size,0,none⟩=some kv/\w'.cell? ⟨w.heap.size,1,none⟩=some vv) (by kernel_rfl) ⟨cgd,x0d,x1d⟩ ?_ ?_
 ·have hS:=(show _/\_/\_ from⟨cgd,x0d,x1d⟩)
  refine ay 0 (some 23) (.pointer (some ⟨g,0,none⟩)) (by kernel_rfl) (fun _ _=>by kernel_rfl) (fun _ _ _ h=>h) hS ?_
  refine ay 1 (some 24) (.pointer (some ⟨g,0,none⟩)) (by kernel_rfl) (fun _ _=>by kernel_rfl) (fun _ _ _ h=>h) hS ?_
  refine ay 2 (some 25) (.pointer (some ⟨g,0,none⟩)) (by kernel_rfl) (fun _ _=>by kernel_rfl) (fun _ _ _ h=>h) hS ?_
  refine aT 3 (some 26) (.slice (some ⟨G,0,none⟩) n C) 146 25 (g) (0) (by kernel_rfl) (by kernel_rfl) (by kernel_rfl) (fun w' h=>gz h.1) (fun _ _ _ h=>h) hS ?_
  refine ay 4 (some 27) (.int .i64 i) (by kernel_rfl) (fun _ _=>by kernel_rfl) (fun _ _ _ h=>h) hS ?_
  refine ay 5 (some 28) (.pointer (some ⟨g,0,none⟩)) (by kernel_rfl) (fun _ _=>by kernel_rfl) (fun _ _ _ h=>h) hS ?_
  refine ay 6 (some 29) (.pointer (some ⟨g,0,none⟩)) (by kernel_rfl) (fun _ _=>by kernel_rfl) (fun _ _ _ h=>h) hS ?_
  refine ay 7 (some 30) (.pointer (some ⟨g,0,none⟩)) (by kernel_rfl) (fun _ _=>by kernel_rfl) (fun _ _ _ h=>h) hS ?_
  refine aT 8 (some 31) (.slice (some ⟨G,0,none⟩) n C) 146 30 (g) (0) (by kernel_rfl) (by kernel_rfl) (by kernel_rfl) (fun w' h=>gz h.1) (fun _ _ _ h=>h) hS ?_
  refine ay 9 (some 32) (.int .i64 i) (by kernel_rfl) (fun _ _=>by kernel_rfl) (fun _ _ _ h=>h) hS ?_
  refine ay 10 (some 33) (.pointer (some ⟨G,i,none⟩)) (by kernel_rfl) (fun _ _=>eQ (x:=31) (y:=32) (n:=n) (c:=C) (by kernel_rfl) ad (by kernel_rfl) (by kernel_rfl) (rfl) (ab)) (fun _ _ _ h=>h) hS ?_
  refine ay 12 (some 35) (.int .i64 q) (by kernel_rfl) (fun _ _=>by kernel_rfl) (fun _ _ _ h=>h) hS ?_
  refine aT 13 (some 36) (.agg #[kv,vv]) 185 7 (w.heap.size) (0) (by kernel_rfl) (by kernel_rfl) (by kernel_rfl) (fun w' h=>ld_e h.2.1 h.2.2) (fun _ _ _ h=>h) hS ?_
  refine aM [11,14] (by kernel_rfl) (by simp) ?_
  refine bJ 11 (some 34) (.slice (some ⟨p.b,0,none⟩) m p.c) _ (by kernel_rfl) (iG 33 (by kernel_rfl) (by kernel_rfl) (pL cGd)) hS ?_ (bJ 14 (some 37) (.slice (some ⟨l.heap.size,0,none⟩) 1 1) _ (by kernel_rfl) (p8 (k:=36) (by kernel_rfl) (by kernel_rfl)) U ?_ aZ)
  ·refine aM [14] (by kernel_rfl) (by simp) ?_
   refine bJ 14 (some 37) (.slice (some ⟨l.heap.size,0,none⟩) 1 1) _ (by kernel_rfl) (p8 (k:=36) (by kernel_rfl) (by kernel_rfl)) U ?_ aZ;refine bS 15 (some 38) 196 #[.slice (some ⟨p.b,0,none⟩) m p.c,.int .i64 q,.slice (some ⟨l.heap.size,0,none⟩) 1 1] (by kernel_rfl) (by kernel_rfl) t1 ?_
   rintro e' d ⟨B,c2,rfl,s,R2,o⟩;rw[<- M.out] at o s
   have t:d.cell? ⟨g,0,none⟩=_:=(World.cell?_of_block (a:=⟨g,0,none⟩) (o.same g (aK j) ng)).trans j
   have H:d.cell? ⟨w.heap.size,0,none⟩=_:=(World.cell?_of_block (a:=⟨w.heap.size,0,none⟩) (o.same _ (aK z) nx)).trans z
   have E:d.cell? ⟨w.heap.size,1,none⟩=_:=(World.cell?_of_block (a:=⟨w.heap.size,1,none⟩) (o.same _ (aK u) nx)).trans u
   have P:d.cell? ⟨G,i,none⟩=_:=(World.cell?_of_block (a:=⟨G,i,none⟩) (o.same _ (aK r) nG)).trans r
   have af:d.frozen? ⟨G,i,none⟩=false:=((Z.keep I).chg o nG).free i;refine⟨_,rfl,⟨t,H,E⟩,?_⟩;replace hS:=(show _/\_/\_ from⟨t,H,E⟩)
   refine ay 16 (some 39) (.pointer (some ⟨G,i,none⟩)) (by kernel_rfl) (fun _ _=>eQ (x:=26) (y:=27) (n:=n) (c:=C) (by kernel_rfl) ad (by kernel_rfl) (by kernel_rfl) (rfl) (ab)) (fun _ _ _ h=>h) hS ?_
   refine aM [17] (by kernel_rfl) (by simp) ?_
   refine dq 17 (d.setCell ⟨G,i,none⟩ (.slice (some ⟨B,0,none⟩) (m+1) c2)) (by kernel_rfl) (kK 39 38 (by kernel_rfl) (by kernel_rfl) (by kernel_rfl) P af) ⟨bX ac t,bX V H,bX V E⟩ ?_ aZ;refine bI (by kernel_rfl) ?_
   exact⟨(B,c2),by kernel_rfl,d,rfl,s,R2,o⟩
  ·refine aM [11] (by kernel_rfl) (by simp) ?_
   refine bJ 11 (some 34) (.slice (some ⟨p.b,0,none⟩) m p.c) _ (by kernel_rfl) (iG 33 (by kernel_rfl) (by kernel_rfl) (pL K)) U ?_ aZ;refine bS 15 (some 38) 196 #[.slice (some ⟨p.b,0,none⟩) m p.c,.int .i64 q,.slice (some ⟨l.heap.size,0,none⟩) 1 1] (by kernel_rfl) (by kernel_rfl) t1 ?_
   rintro e' d ⟨B,c2,rfl,s,R2,o⟩;rw[<- M.out] at o s
   have t:d.cell? ⟨g,0,none⟩=_:=(World.cell?_of_block (a:=⟨g,0,none⟩) (o.same g (aK j) ng)).trans j
   have H:d.cell? ⟨w.heap.size,0,none⟩=_:=(World.cell?_of_block (a:=⟨w.heap.size,0,none⟩) (o.same _ (aK z) nx)).trans z
   have E:d.cell? ⟨w.heap.size,1,none⟩=_:=(World.cell?_of_block (a:=⟨w.heap.size,1,none⟩) (o.same _ (aK u) nx)).trans u
   have P:d.cell? ⟨G,i,none⟩=_:=(World.cell?_of_block (a:=⟨G,i,none⟩) (o.same _ (aK r) nG)).trans r
   have af:d.frozen? ⟨G,i,none⟩=false:=((Z.keep I).chg o nG).free i;refine⟨_,rfl,⟨t,H,E⟩,?_⟩;replace hS:=(show _/\_/\_ from⟨t,H,E⟩)
   refine ay 16 (some 39) (.pointer (some ⟨G,i,none⟩)) (by kernel_rfl) (fun _ _=>eQ (x:=26) (y:=27) (n:=n) (c:=C) (by kernel_rfl) ad (by kernel_rfl) (by kernel_rfl) (rfl) (ab)) (fun _ _ _ h=>h) hS ?_
   refine aM [17] (by kernel_rfl) (by simp) ?_
   refine dq 17 (d.setCell ⟨G,i,none⟩ (.slice (some ⟨B,0,none⟩) (m+1) c2)) (by kernel_rfl) (kK 39 38 (by kernel_rfl) (by kernel_rfl) (by kernel_rfl) P af) ⟨bX ac t,bX V H,bX V E⟩ ?_ aZ;refine bI (by kernel_rfl) ?_
   exact⟨(B,c2),by kernel_rfl,d,rfl,s,R2,o⟩
 rintro⟨B,c2⟩ w' ⟨d,rfl,s,R2,o⟩;dsimp only at s R2;simp only[jt,Act.put,List.setIfInBounds_toArray,List.set_cons_zero,List.set_cons_succ]
 have t:d.cell? ⟨g,0,none⟩=_:=(World.cell?_of_block (a:=⟨g,0,none⟩) (o.same g (aK j) ng)).trans j
 have P:d.cell? ⟨G,i,none⟩=_:=(World.cell?_of_block (a:=⟨G,i,none⟩) (o.same _ (by exact(Z.keep I).lt) nG)).trans r
 have C02:Chg (·=p.b) l d:=(Chg.of (F:=(·=p.b)) I).trans o (fun _ _ h=>h);obtain⟨p',S⟩:∃ p':Pg,Hid (p'=⟨B,c2,p.es.take q ++ [(⟨kv,kl,vv,vl⟩:En)] ++ p.es.drop q⟩):=⟨_,rfl⟩
 have hlen:(p.es.take q ++ [(⟨kv,kl,vv,vl⟩:En)] ++ p.es.drop q).length=m+1:=by have:=W.out;simp;omega
 have Q:∀ e,EnA w D e->EnA d D e:=fun e he=>((he.keep B0).keep I).off fun b hb hk=>o.same b hb fun f=>by
  subst f;obtain⟨cs,k⟩:=hk;obtain⟨ds,k'⟩:=(Y.1.row.keep I).kind;exact eL k k' (by decide) rfl
 have hA':PgA d D p':=by
  rw[S.out];refine⟨?_,fun e he=>?_⟩
  ·show Rw d _ 2 B (p.es.take q ++ [(⟨kv,kl,vv,vl⟩:En)] ++ p.es.drop q).length c2 _
   rw[hlen];exact R2.to (Bd p.es q ⟨kv,kl,vv,vl⟩)
  ·rcases List.mem_append.1 he with h | h
   ·rcases List.mem_append.1 h with h | h
    ·exact Q e ((A.cC p (List.mem_of_getElem? hi)).1.dP e (List.mem_of_mem_take h))
    ·simp at h;subst h;exact Q _ hE
   ·exact Q e ((A.cC p (List.mem_of_getElem? hi)).1.dP e (List.mem_of_mem_drop h))
 have hv':p'.v=.slice (some ⟨B,0,none⟩) (m+1) c2:=by rw[S.out];simp only[Pg.v];rw[hlen]
 have hb':p'.b=B:=by rw[S.out]
 have J:p'.es=p.es.take q ++ [⟨kv,kl,vv,vl⟩] ++ p.es.drop q:=by rw[S.out]
 obtain⟨A3,C3⟩:=A0.put (p':=p') (D':=D) hg hFg hFG Z hi C02 (by rw[hb'];exact s.imp id (fun h=>Nat.le_trans I.size h)) hA' (fun _ _ h=>h);rw[hv',hb'] at A3;rw[hv'] at C3;have ag:=(Chg.of (F:=F) B0).trans C3 (fun _ _ h=>h)
 have hF3:∀ b,((F b/\b≠p.b)\/b=B)->F b\/w.heap.size<=b:=fun b h=>by
  have h0:=B0.size;have h1:=I.size;rcases h with h | h
  ·exact .inl h.1
  ·subst h;rcases s with h | h
   ·rw[h];exact .inl Y.2
   ·exact .inr (by omega)
 have cg3:(d.setCell ⟨G,i,none⟩ (.slice (some ⟨B,0,none⟩) (m+1) c2)).cell? ⟨g,0,none⟩=some (.slice (some ⟨G,0,none⟩) n C):=bX ac t
 have cG3:(d.setCell ⟨G,i,none⟩ (.slice (some ⟨B,0,none⟩) (m+1) c2)).cell? ⟨G,i,none⟩=some (.slice (some ⟨B,0,none⟩) (m+1) c2):=World.cell?_setCell_same' _ _ _ (by rw[P];rfl);generalize (d.setCell ⟨G,i,none⟩ (.slice (some ⟨B,0,none⟩) (m+1) c2))=W3 at *;generalize hF3d:(fun x=>(F x/\x≠p.b)\/x=B)=F3 at A3
 have N:∀ b,F3 b->F b\/w.heap.size<=b:=fun b h=>hF3 b (by rw[<- hF3d] at h;exact h)
 have hi3:(L.set i p')[i]?=some p':=by rw[List.getElem?_set_self hil]
 by_cases aa:32 < m+1
 ·have hbi:(32:Int) < (m:Int) + 1:=by omega
  have t5:=ll A3 hi3 (by rw[J,hlen];omega) (by rw[J,hlen];have:=W.out;omega) (by rw[List.length_set];exact hn);go_wp2_with (go_at_call 197;refine t5.mono ?_;rintro e' w6 ⟨F6,p1,p2,rfl,e1,e2,A6,hF6,C6⟩);go_end0;refine⟨F6,_,rfl,?_,A6,fun b hb=>?_,ag.trans C6 fun b hb h=>(N b h).resolve_right (by omega)⟩
  ·unfold sW;rw[eW hi,<- J,if_pos (by rw[J,hlen];exact aa)];simp only[ens,List.map_append,List.map_take,List.map_drop,List.map_cons,List.map_nil,List.map_set,e1,e2];rw[List.take_set_of_le (Nat.le_refl _),List.drop_set_of_lt (by omega)]
  ·rcases hF6 b hb with h | h
   ·exact N b h
   ·exact .inr (by have:=ag.size;omega)
 ·have hbi:¬ ((32:Int) < (m:Int) + 1):=by omega
  go_wp2;go_end0;refine⟨rfl,F3,_,?_,A3,N,ag⟩;unfold sW;rw[eW hi,<- J,if_neg (by rw[J,hlen];exact aa),rm]
end
end Pg
end
section
namespace Pg
open Go.RowKit Go.Lib
section
variable {w w1:World}{F D:Nat->Prop}{g:Nat}{pv:Value}
theorem Bv(A:bQ w F D g [])(q:w.cell? ⟨g,0,none⟩=some pv)(n:Below w.heap.size w w1){vb:Nat}(V:Blk w1 vb [.slice none 0 0] 188) :
  ∃ b' c' w',(Builtin.append_ #[146,146] 146 #[pv,.slice (some ⟨vb,0,none⟩) 1 1]).run Tryz.prog w1=.ok (.slice (some ⟨b',0,none⟩) 1 c') w'/\(F b'\/w.heap.size<=b')/\Rw w' 188 1 b' 1 c' [.slice none 0 0]/\Chg F w1 w'/\b'≠g/\(∀ b cs,Blk w1 b cs 148\/Blk w1 b cs 185->Blk w' b cs 148\/Blk w' b cs 185)/\(Blk w g [pv] 148/\F g/\Blk w' g [pv] 148):=by
 obtain⟨t,hb,r,h⟩:=A.top;have e:=hb.cell (i:=0) rfl;rw[q] at e
 cases e;have a:=hb.keep n;rcases h with⟨rfl,_⟩ | ⟨G,C,rfl,hG,hR⟩
 ·obtain⟨c',W,o,c,hC⟩:=gX (w:=w1) KP 146 ⟨vb,0,none⟩ 1 1 [.slice none 0 0] rfl (fun j u p=>by rw[Addr.add_lit,Nat.zero_add];exact V.cell p) (by decide) (by decide) (by decide);refine⟨_,c',W,o,.inr n.size,c,Chg.of hC,?_,fun b cs h=>h.imp (fun k=>k.keep hC) (fun k=>k.keep hC),hb,r,a.keep hC⟩;have:=a.lt;omega
 ·have f:=hR.keep n;obtain⟨b',c',W,o,m,c,hC⟩:=et KP 146 f ⟨vb,0,none⟩ 1 1 [.slice none 0 0] rfl (fun j u p=>by rw[Addr.add_lit,Nat.zero_add];exact V.cell p) (by simp[Value.oneCell']) (by simp) (by simp)
  have d:∀ b cs,Blk w1 b cs 148\/Blk w1 b cs 185->b≠G:=fun b cs h=>by
   obtain⟨v,s⟩:=f.kind;rcases h with k | k
   ·exact eL k s (by decide)
   ·exact eL k s (by decide)
  have l:=d g _ (.inl a);refine⟨b',c',W,o,?_,c,hC.mono (fun b _ e=>by subst e;exact hG),?_,fun b cs h=>h.imp (fun k=>k.chg hC (d b cs h)) (fun k=>k.chg hC (d b cs h)),hb,r,a.chg hC l⟩
  ·rcases m with h | h
   ·rw[h];exact .inl hG
   ·rw[h];exact .inr n.size
  ·rcases m with h | h
   ·rw[h];exact fun e=>l e.symm
   ·have:=a.lt;omega
theorem qE{e:En}(A:bQ w F D g [])(hE:EnA w D e) :
  Calls Tryz.prog 148 #[.pointer (some ⟨g,0,none⟩),.int .i64 0,.int .i64 0,.agg #[e.kv,e.vv]] w fun e' w'=>∃ F' L',e'=.returned (.tuple #[])/\ens L'=[[e]]/\bQ w' F' D g L'/\(∀ b,F' b->F b\/w.heap.size<=b)/\Chg F w w':=by
 obtain⟨kv,kl,vv,vl⟩:=e;have B0:=ae w (.cells #[kv,vv] 185);have X0:=aD w [kv,vv] 185;obtain⟨ao,c,hc,hc1,hc2,hat⟩:=A.rd;simp only[List.length_nil] at hc hc1;have hgl:=aK hc;obtain⟨w1,B⟩:∃ w1,Hid (w1=(w.alloc (.cells #[kv,vv] 185)).alloc (.cells #[.slice none 0 0] 188)):=⟨_,rfl⟩
 have B1:Below w.heap.size w w1:=by rw[B.out];exact aA B0 (ae _ _)
 have V1:Blk w1 (w.heap.size+1) [.slice none 0 0] 188:=by
  have:=aD (w.alloc (.cells #[kv,vv] 185)) [.slice none 0 0] 188;rw[World.size_alloc] at this;rw[B.out];exact this
 have X1:Blk w1 w.heap.size [kv,vv] 185:=by rw[B.out];exact X0.keep (ae _ _)
 obtain⟨G,C,j,hr,hFG,R2,l,hGg,hkp,hgb,hFg,ab⟩:=Bv A hc B1 V1
 have X2:Blk j w.heap.size [kv,vv] 185:=X1.chg l (fun f=>by have:=A.lt f;omega);have hg3:=ab.setCell (i:=0) (.slice (some ⟨G,0,none⟩) 1 C)
 have O:Rw (j.setCell ⟨g,0,none⟩ (.slice (some ⟨G,0,none⟩) 1 C)) 188 1 G 1 C [.slice none 0 0]:=R2.same (Below.heap_setCell j _ _ _ hGg)
 have X3:Blk (j.setCell ⟨g,0,none⟩ (.slice (some ⟨G,0,none⟩) 1 C)) w.heap.size [kv,vv] 185:=X2.off (by omega) _
 have R:∀ e,EnA w D e->EnA (j.setCell ⟨g,0,none⟩ (.slice (some ⟨G,0,none⟩) 1 C)) D e:=fun e he=>(he.keep B1).off fun b hb hk=>by
  obtain⟨cs,k⟩:=hk
  have n1:b≠g:=eL k (hgb.keep B1) (by decide);rw[Below.heap_setCell j _ _ b n1];refine l.same b hb fun f=>A.noU f cs ?_
  exact⟨by rw[<- B1.block b (A.lt f)];exact k.blk⟩
 have c2g:=ab.cell (i:=0) rfl;have f2g:=ab.free 0
 have hsz3:w.heap.size+1+1<=(j.setCell ⟨g,0,none⟩ (.slice (some ⟨G,0,none⟩) 1 C)).heap.size:=by
  have h1:=l.size
  have h2:w1.heap.size=w.heap.size+1+1:=by rw[B.out];simp
  have h3:(j.setCell ⟨g,0,none⟩ (.slice (some ⟨G,0,none⟩) 1 C)).heap.size=j.heap.size:=by simp[World.setCell]
  omega
 have C03:Chg F w (j.setCell ⟨g,0,none⟩ (.slice (some ⟨G,0,none⟩) 1 C)):=((Chg.of (F:=F) B1).trans l (fun _ _ h=>h)).cell (.inl hFg) _;have mixed:=mixed;obtain rfl:=B.out;clear B;go_enter Tryz.func148,Tryz.ntmps148;go_wp2_with (at_builtin;refine Lib.wpList_append_run _ rfl _ _ _ _ rfl _ _ rfl rfl _ _ hr ?_);generalize (j.setCell ⟨g,0,none⟩ (.slice (some ⟨G,0,none⟩) 1 C))=d at *
 have P:d.cell? ⟨g,0,none⟩=some (.slice (some ⟨G,0,none⟩) 1 C):=hg3.cell (i:=0) rfl;have U:=X3.cell (i:=0) rfl;have T:=X3.cell (i:=1) rfl;have W:=O.cell (i:=0) rfl;obtain⟨z,H⟩:∃ z,Hid (z=d.drew.alloc (.cells #[kv,vv] 185)):=⟨_,rfl⟩
 have Y:Below d.heap.size d z:=by rw[H.out];exact aA (cj d) (ae d.drew _)
 have V4:Blk z d.heap.size [kv,vv] 185:=by rw[H.out];exact aD d.drew [kv,vv] _
 have hs4:z.heap.size=d.heap.size+1:=by rw[H.out];simp
 have t1:Calls Tryz.prog 196 #[.slice none 0 0,.int .i64 0,.slice (some ⟨d.heap.size,0,none⟩) 1 1] z fun e w'=>∃ J c2,e=.returned (.slice (some ⟨J,0,none⟩) 1 c2)/\J=d.heap.size + 1/\Rw w' 185 2 J 1 c2 [kv,vv]/\Below z.heap.size z w':=(AQ V4).mono (by
  rintro e w' ⟨c',rfl,h1,h2⟩
  exact⟨_,c',rfl,hs4,h1,h2⟩)
 have r:z.cell? ⟨g,0,none⟩=_:=(Y.cell (p:=⟨g,0,none⟩) (aK P)).trans P
 have q:z.cell? ⟨w.heap.size,0,none⟩=_:=(Y.cell (p:=⟨w.heap.size,0,none⟩) (aK U)).trans U
 have o:z.cell? ⟨w.heap.size,1,none⟩=_:=(Y.cell (p:=⟨w.heap.size,1,none⟩) (aK T)).trans T
 have s:z.cell? ⟨G,0,none⟩=_:=(Y.cell (p:=⟨G,0,none⟩) (aK W)).trans W
 have cgd:d.drew.cell? ⟨g,0,none⟩=_:=P
 have x0d:d.drew.cell? ⟨w.heap.size,0,none⟩=_:=U
 have x1d:d.drew.cell? ⟨w.heap.size,1,none⟩=_:=T
 have cGd:d.drew.cell? ⟨G,0,none⟩=_:=W
 have V:g≠G:=fun e=>hGg e.symm
 have L:w.heap.size≠G:=fun e=>by
  obtain⟨ds,k⟩:=O.kind;exact eL X3 k (by decide) e
 have S:0 < 1:=by decide
 have K:=(show _/\_/\_ from⟨r,q,o⟩)
 have I:=s;rw[H.out] at K I t1
 have aa:Tryz.prog.underlying 146=some (.slice 188):=by kernel_rfl
 refine pT (X:=Nat × Nat) (fun x=>[(some 23,.pointer (some ⟨g,0,none⟩)),(some 24,.pointer (some ⟨g,0,none⟩)),(some 25,.pointer (some ⟨g,0,none⟩)),(some 26,.slice (some ⟨G,0,none⟩) 1 C),(some 27,.int .i64 0),(some 28,.pointer (some ⟨g,0,none⟩)),(some 29,.pointer (some ⟨g,0,none⟩)),(some 30,.pointer (some ⟨g,0,none⟩)),(some 31,.slice (some ⟨G,0,none⟩) 1 C),(some 32,.int .i64 0),(some 33,.pointer (some ⟨G,0,none⟩)),(some 34,.slice none 0 0),(some 35,.int .i64 0),(some 36,.agg #[kv,vv]),(some 37,.slice (some ⟨d.heap.size,0,none⟩) 1 1),(some 38,.slice (some ⟨x.1,0,none⟩) 1 x.2),(some 39,.pointer (some ⟨G,0,none⟩))]) (fun x w'=>∃ j,w'=j.setCell ⟨G,0,none⟩ (.slice (some ⟨x.1,0,none⟩) 1 x.2)/\x.1=d.heap.size+1/\Rw j 185 2 x.1 1 x.2 [kv,vv]/\Below z.heap.size z j) (fun w'=>w'.cell? ⟨g,0,none⟩=some (.slice (some ⟨G,0,none⟩) 1 C)/\w'.cell? ⟨w.heap.size,0,none⟩=some kv/\w'.cell? ⟨w.heap.size,1,none⟩=some vv) (by kernel_rfl) ⟨cgd,x0d,x1d⟩ ?_ ?_
 ·have hS:=(show _/\_/\_ from⟨cgd,x0d,x1d⟩)
  refine ay 0 (some 23) (.pointer (some ⟨g,0,none⟩)) (by kernel_rfl) (fun _ _=>by kernel_rfl) (fun _ _ _ h=>h) hS ?_
  refine ay 1 (some 24) (.pointer (some ⟨g,0,none⟩)) (by kernel_rfl) (fun _ _=>by kernel_rfl) (fun _ _ _ h=>h) hS ?_
  refine ay 2 (some 25) (.pointer (some ⟨g,0,none⟩)) (by kernel_rfl) (fun _ _=>by kernel_rfl) (fun _ _ _ h=>h) hS ?_
  refine aT 3 (some 26) (.slice (some ⟨G,0,none⟩) 1 C) 146 25 (g) (0) (by kernel_rfl) (by kernel_rfl) (by kernel_rfl) (fun w' h=>gz h.1) (fun _ _ _ h=>h) hS ?_
  refine ay 4 (some 27) (.int .i64 0) (by kernel_rfl) (fun _ _=>by kernel_rfl) (fun _ _ _ h=>h) hS ?_
  refine ay 5 (some 28) (.pointer (some ⟨g,0,none⟩)) (by kernel_rfl) (fun _ _=>by kernel_rfl) (fun _ _ _ h=>h) hS ?_
  refine ay 6 (some 29) (.pointer (some ⟨g,0,none⟩)) (by kernel_rfl) (fun _ _=>by kernel_rfl) (fun _ _ _ h=>h) hS ?_
  refine ay 7 (some 30) (.pointer (some ⟨g,0,none⟩)) (by kernel_rfl) (fun _ _=>by kernel_rfl) (fun _ _ _ h=>h) hS ?_
  refine aT 8 (some 31) (.slice (some ⟨G,0,none⟩) 1 C) 146 30 (g) (0) (by kernel_rfl) (by kernel_rfl) (by kernel_rfl) (fun w' h=>gz h.1) (fun _ _ _ h=>h) hS ?_
  refine ay 9 (some 32) (.int .i64 0) (by kernel_rfl) (fun _ _=>by kernel_rfl) (fun _ _ _ h=>h) hS ?_
  refine ay 10 (some 33) (.pointer (some ⟨G,0,none⟩)) (by kernel_rfl) (fun _ _=>eQ (x:=31) (y:=32) (n:=1) (c:=C) (by kernel_rfl) aa (by kernel_rfl) (by kernel_rfl) (rfl) (S)) (fun _ _ _ h=>h) hS ?_
  refine ay 12 (some 35) (.int .i64 0) (by kernel_rfl) (fun _ _=>by kernel_rfl) (fun _ _ _ h=>h) hS ?_
  refine aT 13 (some 36) (.agg #[kv,vv]) 185 7 (w.heap.size) (0) (by kernel_rfl) (by kernel_rfl) (by kernel_rfl) (fun w' h=>ld_e h.2.1 h.2.2) (fun _ _ _ h=>h) hS ?_
  refine aM [11,14] (by kernel_rfl) (by simp) ?_
  refine bJ 11 (some 34) (.slice none 0 0) _ (by kernel_rfl) (iG 33 (by kernel_rfl) (by kernel_rfl) (pL cGd)) hS ?_ (bJ 14 (some 37) (.slice (some ⟨d.heap.size,0,none⟩) 1 1) _ (by kernel_rfl) (p8 (k:=36) (by kernel_rfl) (by kernel_rfl)) K ?_ aZ)
  ·refine aM [14] (by kernel_rfl) (by simp) ?_
   refine bJ 14 (some 37) (.slice (some ⟨d.heap.size,0,none⟩) 1 1) _ (by kernel_rfl) (p8 (k:=36) (by kernel_rfl) (by kernel_rfl)) K ?_ aZ;refine bS 15 (some 38) 196 #[.slice none 0 0,.int .i64 0,.slice (some ⟨d.heap.size,0,none⟩) 1 1] (by kernel_rfl) (by kernel_rfl) t1 ?_
   rintro e' j ⟨J,c2,rfl,E,R2,l⟩;rw[<- H.out] at l
   have v:j.cell? ⟨g,0,none⟩=_:=(l.cell (p:=⟨g,0,none⟩) (aK r)).trans r
   have u:j.cell? ⟨w.heap.size,0,none⟩=_:=(l.cell (p:=⟨w.heap.size,0,none⟩) (aK q)).trans q
   have t:j.cell? ⟨w.heap.size,1,none⟩=_:=(l.cell (p:=⟨w.heap.size,1,none⟩) (aK o)).trans o
   have Z:j.cell? ⟨G,0,none⟩=_:=(l.cell (p:=⟨G,0,none⟩) (aK s)).trans s
   have ac:j.frozen? ⟨G,0,none⟩=false:=((O.keep Y).keep l).free 0;refine⟨_,rfl,⟨v,u,t⟩,?_⟩;replace hS:=(show _/\_/\_ from⟨v,u,t⟩)
   refine ay 16 (some 39) (.pointer (some ⟨G,0,none⟩)) (by kernel_rfl) (fun _ _=>eQ (x:=26) (y:=27) (n:=1) (c:=C) (by kernel_rfl) aa (by kernel_rfl) (by kernel_rfl) (rfl) (S)) (fun _ _ _ h=>h) hS ?_
   refine aM [17] (by kernel_rfl) (by simp) ?_
   refine dq 17 (j.setCell ⟨G,0,none⟩ (.slice (some ⟨J,0,none⟩) 1 c2)) (by kernel_rfl) (kK 39 38 (by kernel_rfl) (by kernel_rfl) (by kernel_rfl) Z ac) ⟨bX V v,bX L u,bX L t⟩ ?_ aZ;refine bI (by kernel_rfl) ?_
   exact⟨(J,c2),by kernel_rfl,j,rfl,E,R2,l⟩
  ·refine aM [11] (by kernel_rfl) (by simp) ?_
   refine bJ 11 (some 34) (.slice none 0 0) _ (by kernel_rfl) (iG 33 (by kernel_rfl) (by kernel_rfl) (pL I)) K ?_ aZ;refine bS 15 (some 38) 196 #[.slice none 0 0,.int .i64 0,.slice (some ⟨d.heap.size,0,none⟩) 1 1] (by kernel_rfl) (by kernel_rfl) t1 ?_
   rintro e' j ⟨J,c2,rfl,E,R2,l⟩;rw[<- H.out] at l
   have v:j.cell? ⟨g,0,none⟩=_:=(l.cell (p:=⟨g,0,none⟩) (aK r)).trans r
   have u:j.cell? ⟨w.heap.size,0,none⟩=_:=(l.cell (p:=⟨w.heap.size,0,none⟩) (aK q)).trans q
   have t:j.cell? ⟨w.heap.size,1,none⟩=_:=(l.cell (p:=⟨w.heap.size,1,none⟩) (aK o)).trans o
   have Z:j.cell? ⟨G,0,none⟩=_:=(l.cell (p:=⟨G,0,none⟩) (aK s)).trans s
   have ac:j.frozen? ⟨G,0,none⟩=false:=((O.keep Y).keep l).free 0;refine⟨_,rfl,⟨v,u,t⟩,?_⟩;replace hS:=(show _/\_/\_ from⟨v,u,t⟩)
   refine ay 16 (some 39) (.pointer (some ⟨G,0,none⟩)) (by kernel_rfl) (fun _ _=>eQ (x:=26) (y:=27) (n:=1) (c:=C) (by kernel_rfl) aa (by kernel_rfl) (by kernel_rfl) (rfl) (S)) (fun _ _ _ h=>h) hS ?_
   refine aM [17] (by kernel_rfl) (by simp) ?_
   refine dq 17 (j.setCell ⟨G,0,none⟩ (.slice (some ⟨J,0,none⟩) 1 c2)) (by kernel_rfl) (kK 39 38 (by kernel_rfl) (by kernel_rfl) (by kernel_rfl) Z ac) ⟨bX V v,bX L u,bX L t⟩ ?_ aZ;refine bI (by kernel_rfl) ?_
   exact⟨(J,c2),by kernel_rfl,j,rfl,E,R2,l⟩
 rintro⟨J,M⟩ w' ⟨N,rfl,E,R4,D4⟩;dsimp only at E R4;simp only[jt,Act.put,List.setIfInBounds_toArray,List.set_cons_zero,List.set_cons_succ]
 have m:Below d.heap.size d N:=aA Y D4;subst E;have Q:=(hg3.keep m).off V (i:=0) (.slice (some ⟨d.heap.size+1,0,none⟩) 1 M);have R5:=(O.keep m).set 0 (by simp) (.slice (some ⟨d.heap.size+1,0,none⟩) 1 M)
 have hNG:d.heap.size+1≠G:=by have:=O.lt;omega
 have R6:Rw (N.setCell ⟨G,0,none⟩ (.slice (some ⟨d.heap.size+1,0,none⟩) 1 M)) 185 2 (d.heap.size+1) 1 M [kv,vv]:=R4.same (Below.heap_setCell N _ _ _ hNG)
 have E6:EnA (N.setCell ⟨G,0,none⟩ (.slice (some ⟨d.heap.size + 1,0,none⟩) 1 M)) D ⟨kv,kl,vv,vl⟩:=((R _ hE).keep m).off fun b hb hk=>by
  obtain⟨cs,k⟩:=hk;obtain⟨ds,k'⟩:=(O.keep m).kind;exact Below.heap_setCell N _ _ b (eL k k' (by decide))
 have C6:Chg F w (N.setCell ⟨G,0,none⟩ (.slice (some ⟨d.heap.size+1,0,none⟩) 1 M)):=(C03.trans (Chg.of (F:=F) m) (fun _ _ h=>h)).cell hFG _;have cg5:=Q.cell (i:=0) rfl;have cG5:=R5.cell (i:=0) rfl
 have hfin:bQ (N.setCell ⟨G,0,none⟩ (.slice (some ⟨d.heap.size+1,0,none⟩) 1 M)) (fun x=>x=g\/x=G\/x=d.heap.size+1) D g [⟨d.heap.size+1,M,[⟨kv,kl,vv,vl⟩]⟩]:=by
  refine⟨⟨_,Q,.inl rfl,.inr ⟨G,C,rfl,.inr (.inl rfl),R5⟩⟩,fun p hp=>?_,by simp,fun b hb=>?_⟩
  ·simp at hp;subst hp;exact⟨⟨R6,fun e he=>by simp at he;subst he;exact E6⟩,.inr (.inr rfl)⟩
  ·rcases hb with rfl | rfl | rfl
   ·exact⟨_,_,Q,by decide⟩
   ·obtain⟨ds,k⟩:=R5.kind;exact⟨ds,_,k,by decide⟩
   ·obtain⟨ds,k⟩:=R6.kind;exact⟨ds,_,k,by decide⟩
 generalize (N.setCell ⟨G,0,none⟩ (.slice (some ⟨d.heap.size+1,0,none⟩) 1 M))=W6 at *;go_wp2;go_end0;refine⟨_,_,rfl,?_,hfin,fun b hb=>?_,C6⟩
 ·rfl
 ·rcases hb with rfl | rfl | rfl
  ·exact .inl hFg
  ·exact hFG
  ·exact .inr (by omega)
end
end Pg
end
section
namespace Pg
open Go.RowKit Go.Lib
section
variable {es:List En}{k ul:List Int}{L:List Pg}{w:World}{i g:Nat}{cs:List Value}{v u kv:Value}{F D:Nat->Prop}
def has(P:List (List En))(k:List Int):Bool:=!P.isEmpty && thr (kys (P.getD (pgi P k) [])) k
def got(P:List (List En))(k:List Int):List Int:=((P.getD (pgi P k) [])[plc (kys (P.getD (pgi P k) [])) k]?.map En.vl).getD []
def fQ(P:List (List En))(e:En):List (List En) :=
 if P=[] then [[e]]
 else
  let i:=pgi P e.kl
  let es:=P.getD i []
  let q:=plc (kys es) e.kl
  if thr (kys es) e.kl then P.set i (es.modify q fun x=>{ x with vv:=e.vv,vl:=e.vl }) else sW P i q e
theorem mw(h:thr (kys es) k=true):∃ e,es[plc (kys es) k]?=some e/\e.kl=k:=by
 simp only[thr,decide_eq_true_eq,kys,List.getElem?_map] at h;obtain⟨e,he,hk⟩:=Option.map_eq_some_iff.1 h;exact⟨e,he,hk⟩
theorem vp(h:L≠[]):ens L≠[]:=fun e=>h (by simpa[ens] using e)
theorem p9(h:L≠[])(k:List Int):∃ p,L[pgi (ens L) k]?=some p/\(ens L).getD (pgi (ens L) k) []=p.es:=by
 have:=pgi_lt (vp h) k;simp only[ens,List.length_map] at this;refine⟨L[pgi (ens L) k]'this,List.getElem?_eq_getElem _,?_⟩;exact eW (List.getElem?_eq_getElem _)
theorem Be{G:Nat}{t:TypeId}(h:Blk w G cs t)(hi:cs[i]?=some v)(b:Nat):(w.setCell ⟨G,i,none⟩ v).heap[b]?=w.heap[b]?:=by
 by_cases e:b=G
 ·subst e;have c:=(h.setCell (i:=i) v).blk;rw[c,h.blk];have:cs.set i v=cs:=by
   obtain⟨a,rfl⟩:=List.getElem?_eq_some_iff.1 hi;exact List.set_getElem_self a
  rw[this]
 ·exact Below.heap_setCell w _ v b e
theorem bQ.upd{w1:World}{q:Nat}{p:Pg}{e:En}(A:bQ w F D g L)(hi:L[i]?=some p)(he:p.es[q]?=some e)(B:Below w.heap.size w w1)(hu:OB w1 (w.heap.size <= ·) u ul) :
  bQ (w1.setCell ⟨p.b,q * 2+1,none⟩ u) F (fun b=>D b\/w.heap.size<=b) g (L.set i ⟨p.b,p.c,p.es.set q { e with vv:=u,vl:=ul }⟩)/\Chg F w (w1.setCell ⟨p.b,q * 2+1,none⟩ u):=by
 have s:=(List.getElem?_eq_some_iff.1 hi).1
 have hL:L≠[]:=fun e=>by subst e;simp at s
 obtain⟨G,C,O,z,J,y⟩:=A.opn hL;have m:=A.cC p (List.mem_of_getElem? hi);have E:=(List.getElem?_eq_some_iff.1 he).1
 have hC:Chg (·=p.b) w (w1.setCell ⟨p.b,q * 2+1,none⟩ u):=(Chg.of (F:=(·=p.b)) B).cell (.inl rfl) _
 have a:∀ {v:Value} {l:List Int} {D':Nat->Prop},OB w1 D' v l->OB (w1.setCell ⟨p.b,q * 2 + 1,none⟩ u) D' v l:=fun h=>⟨h.oct,h.ex.imp id (by
  rintro⟨b,c,e,hd,o⟩;refine⟨b,c,e,hd,o.same (Below.heap_setCell w1 _ _ b ?_)⟩;obtain⟨T,k⟩:=o.kind;obtain⟨R,P⟩:=(m.1.row.keep B).kind
  exact eL k P (by decide))⟩
 have n:Rw (w1.setCell ⟨p.b,q * 2+1,none⟩ u) 185 2 p.b p.es.length p.c (flat (p.es.set q { e with vv:=u,vl:=ul })) :=
  ((m.1.row.keep B).set (q * 2+1) (by rw[j6];omega) u).to (mD u ul he)
 have hA:PgA (w1.setCell ⟨p.b,q * 2+1,none⟩ u) (fun b=>D b\/w.heap.size<=b) ⟨p.b,p.c,p.es.set q { e with vv:=u,vl:=ul }⟩:=by
  refine⟨by simpa using n,fun S I=>?_⟩;obtain⟨j,r⟩:=List.getElem?_of_mem I;rw[List.getElem?_set] at r;by_cases M:q=j
  ·subst M;rw[if_pos rfl,if_pos E] at r
   cases r;have f:=m.1.dP e (List.mem_of_getElem? he);exact⟨(a (f.k.keep B)).mono (fun _ _ h=>.inl h),(a hu).mono (fun _ _ h=>.inr h)⟩
  ·rw[if_neg M] at r;have f:=m.1.dP S (List.mem_of_getElem? r);exact⟨(a (f.k.keep B)).mono (fun _ _ h=>.inl h),(a (f.v.keep B)).mono (fun _ _ h=>.inl h)⟩
 obtain⟨K,Q⟩:=A.put (p':=⟨p.b,p.c,p.es.set q { e with vv:=u,vl:=ul }⟩) (D':=fun b=>D b\/w.heap.size<=b) O z J y hi hC (.inl rfl) hA (fun _ _ h=>.inl h)
 have hv:(⟨p.b,p.c,p.es.set q { e with vv:=u,vl:=ul }⟩:Pg).v=p.v:=by simp[Pg.v]
 rw[hv] at K Q
 have t:Rw (w1.setCell ⟨p.b,q * 2+1,none⟩ u) 188 1 G L.length C (L.map Pg.v):=y.chg hC (fun e=>m.1.fk y e.symm)
 have d:∀ b,((w1.setCell ⟨p.b,q * 2 + 1,none⟩ u).setCell ⟨G,i,none⟩ p.v).heap[b]? = (w1.setCell ⟨p.b,q * 2 + 1,none⟩ u).heap[b]? := fun b=>by
  obtain⟨sp,h,_⟩:=t.ex;exact Be h (by rw[List.getElem?_append_left (by simpa using s)];simp[hi]) b
 have H:∀ x,((F x/\x≠p.b)\/x=p.b)<->F x:=fun x=>⟨fun h=>h.elim (fun h=>h.1) (fun h=>by subst h; exact m.2),fun h=>by
  by_cases ex:x=p.b
  ·exact .inr ex
  ·exact .inl ⟨h,ex⟩⟩
 have N:=K.same (w':=w1.setCell ⟨p.b,q * 2+1,none⟩ u) (fun b _=>(d b).symm) (fun b _ _ _=>(d b).symm);rw[show (fun x=>(F x/\x≠p.b)\/x=p.b)=F from funext fun x=>propext (H x)] at N;exact⟨N,⟨hC.os,hC.tape,hC.output,hC.size,fun b hb hf=>hC.same b hb fun e=>hf (by subst e;exact m.2)⟩⟩
theorem Dx(A:bQ w F D g L)(O:Ord (ens L))(hs:∀ es∈ens L,es.length<=1000)(hn:L.length<=100000000)(h:By w kv k)(hb:∀ p∈L,∀ e∈p.es,e.vl.length<=1000000000) :
  Calls Tryz.prog 165 #[.pointer (some ⟨g,0,none⟩),kv] w fun e w'=>∃ v,e=.returned (.tuple #[v,.bool (has (ens L) k)])/\OB w' (w.heap.size <= ·) v (if has (ens L) k then got (ens L) k else [])/\Below w.heap.size w w':=by
 by_cases hL:L=[]
 ·subst hL;have t:=nm (v:=kv) A
  have e1:has (ens []) k=false:=rfl;rw[e1];clear A O hs hb h;go_enter Tryz.func165,Tryz.ntmps165;go_wp2_with (go_at_call 147;refine t.mono ?_;rintro E j ⟨rfl,rfl⟩);go_ret2;exact⟨_,rfl,⟨fun _ h=>by simp at h,.inl ⟨rfl,rfl⟩⟩,Below.refl _ _⟩
 ·obtain⟨p,s,o⟩:=p9 hL k;have d:=List.mem_of_getElem? s;have t:=mj A O h (by omega) s (by have:=hs p.es (List.mem_map.2 ⟨p,d,rfl⟩);omega);obtain⟨G,C,z,K,S,y⟩:=A.opn hL;have T:=(List.getElem?_eq_some_iff.1 s).1
  have I:has (ens L) k=thr (kys p.es) k:=by
   unfold has;rw[o];have:(ens L).isEmpty=false:=by simp[ens,hL]
   simp[this]
  have f:got (ens L) k=((p.es)[plc (kys p.es) k]?.map En.vl).getD []:=by unfold got;rw[o]
  rw[I];by_cases l:thr (kys p.es) k=true
  ·obtain⟨e,he,R⟩:=mw l;rw[he] at f;simp only[Option.map_some,Option.getD_some] at f;rw[l,if_pos rfl,f];rw[l] at t;have cg:=z.cell (i:=0) rfl;have B:=y.cell (i:=pgi (ens L) k) (v:=p.v) (by simp[s]);have H:=(A.cC p d).1.dP e (List.mem_of_getElem? he);have cv:=(A.cC p d).1.row.cell (kI he)
   have J:∀ w',Below w.heap.size w w'->Calls Tryz.prog 69 #[e.vv] w' _:=fun w' c=>cQ (H.v.keep c).by (hb p d e (List.mem_of_getElem? he))
   have N:=(List.getElem?_eq_some_iff.1 he).1;generalize pgi (ens L) k=i at *;generalize plc (kys p.es) k=q at *
   have z1:(i:Int) < L.length:=by omega
   have z2:(q:Int) < p.es.length:=by omega
   simp only[Pg.v] at B;generalize L.length=n at *;generalize p.es.length=m at *;clear A O hs hb h y z H l;go_enter Tryz.func165,Tryz.ntmps165;go_wp2_with (first | (go_at_call 147;refine t.mono ?_;rintro E j ⟨rfl,c⟩;have U:j.cell? ⟨g,0,none⟩=_:=(c.cell (p:=⟨g,0,none⟩) (aK cg)).trans cg;have Q:j.cell? ⟨G,i,none⟩=_:=(c.cell (p:=⟨G,i,none⟩) (aK B)).trans B;have V:j.cell? ⟨p.b,q * 2+1,none⟩=_:=(c.cell (p:=⟨p.b,q * 2+1,none⟩) (aK cv)).trans cv;have x:=J j c;clear t J) | (go_at_call 69;refine x.mono ?_;rintro E W ⟨P,rfl,M,u⟩));go_ret2;exact⟨P,rfl,M.mono (fun b _ hb=>Nat.le_trans c.size hb),aA c u⟩
  ·have r:thr (kys p.es) k=false:=by simpa using l
   rw[r] at t ⊢;generalize pgi (ens L) k=i at *;generalize plc (kys p.es) k=q at *;clear A O hs hb h y z l r I f;go_enter Tryz.func165,Tryz.ntmps165;go_wp2_with (go_at_call 147;refine t.mono ?_;rintro E j ⟨rfl,c⟩);go_ret2;exact⟨_,rfl,⟨fun _ h=>by simp at h,.inl ⟨rfl,rfl⟩⟩,c⟩
end
end Pg
end
section
namespace Pg
open Go.RowKit Go.Lib
section
variable {es:List En}{q g:Nat}{w:World}{F D:Nat->Prop}{L:List Pg}{kv vv:Value}{k v:List Int}
theorem yf{e:En}(h:es[q]?=some e)(f:En->En):es.modify q f=es.set q (f e):=by
 have a:=(List.getElem?_eq_some_iff.1 h).1;apply List.ext_getElem?;intro j;rw[List.getElem?_modify,List.getElem?_set];by_cases e:q=j
 ·subst e;rw[if_pos rfl,if_pos a,h];simp
 ·rw[if_neg e];simp[e]
theorem OB.shape{w:World}{D:Nat->Prop}{v:Value}{l:List Int}(h:OB w D v l):∃ ao c,v=.slice ao l.length c:=by
 rcases h.ex with⟨rfl,rfl⟩ | ⟨b,c,rfl,_⟩
 ·exact⟨none,0,rfl⟩
 ·exact⟨_,c,rfl⟩
def SetR(w w':World)(F D:Nat->Prop)(g:Nat)(L:List Pg)(k v:List Int):Prop :=
 ∃ F' L' nk nv,ens L'=fQ (ens L) ⟨nk,k,nv,v⟩/\bQ w' F' (fun b=>D b\/w.heap.size<=b) g L'/\(∀ b,F' b->F b\/w.heap.size<=b)/\Chg F w w'
theorem xw{F D:Nat→Prop}{p:Pg}(A:bQ w F D g L)(O:Ord (ens L))(hs:p.es.length≤1000)(hn:L.length≤100000000)(h:By w kv k)(hv:By w vv v)(P:v.length≤1000000000)(hL:L≠[])(J:L[pgi (ens L) k]?=some p)(I:(ens L).getD (pgi (ens L) k) []=p.es)(K:thr (kys p.es) k=true) :
    Calls Tryz.prog 97 #[.pointer (some ⟨g,0,none⟩),kv,vv] w fun e w'=>e=.returned (.bool false)∧SetR w w' F D g L k v:=by
  have t:=mj A O h (by omega) J (by omega);obtain⟨G,C,W,hFg,hFG,U⟩:= A.opn hL;obtain⟨e,he,hek⟩:= mw K;have M:=List.mem_of_getElem? J;have hlt:=(List.getElem?_eq_some_iff.1 J).1;have X:=(List.getElem?_eq_some_iff.1 he).1
  have hS : ∀ u, fQ (ens L) ⟨e.kv, k, u, v⟩ = (ens L).set (pgi (ens L) k) (p.es.set (plc (kys p.es) k) { e with vv := u, vl := v }) := fun u => by
    unfold fQ;rw[if_neg (vp hL)];simp only[I];rw[if_pos K,yf he]
  have hS:Hid _:=hS;rw[K] at t;have cg:=W.cell (i:=0) rfl;have N:=U.cell (i:=pgi (ens L) k) (v:=p.v) (by simp[J])
  have tC:∀ w',Below w.heap.size w w'→Calls Tryz.prog 69 #[vv] w' _:=fun w' s=>cQ (hv.keep s) P
  have d:=(A.cC p M).1;have cv:=d.row.cell (kI he);have fv:=d.row.free (plc (kys p.es) k * 2+1)
  have n1:g≠p.b:=fun e=>d.fl W e.symm
  have Y:G≠p.b:=fun e=>d.fk U e.symm
  generalize z:pgi (ens L) k=i at *;generalize E:plc (kys p.es) k=q at *
  have z:Hid _:=z
  have E:Hid _:=E
  have z1:(i:Int) < L.length:=by omega
  have z2:(q:Int) < p.es.length:=by omega
  simp only[Pg.v] at N;generalize x:L.length=n at *;generalize H:p.es.length=m at *
  have x:Hid _:=x
  have H:Hid _:=H;clear K I;have mixed:=mixed;go_enter Tryz.func97,Tryz.ntmps97;go_wp2_with (first | (go_at_call 147;refine t.mono ?_;rintro e' r ⟨rfl,s⟩))
  have B:r.drew.cell? ⟨g,0,none⟩=some (.slice (some ⟨G,0,none⟩) n C):=(s.cell (p:=⟨g,0,none⟩) (aK cg)).trans cg
  have y:r.drew.cell? ⟨G,i,none⟩=some (.slice (some ⟨p.b,0,none⟩) m p.c):=(s.cell (p:=⟨G,i,none⟩) (aK N)).trans N
  have j:Below w.heap.size w r.drew:=aA s (cj r);have Q:=tC r.drew j;go_region_held3 (fun w'=>w'.cell? ⟨g,0,none⟩=some (.slice (some ⟨G,0,none⟩) n C)∧w'.cell? ⟨G,i,none⟩=some (.slice (some ⟨p.b,0,none⟩) m p.c)) (first | exact⟨by assumption,by assumption⟩ | exact⟨bX n1 (by assumption),bX Y (by assumption)⟩)
    (first
    | (go_at_call 69;refine Q.mono ?_;rintro e' o ⟨v',rfl,V,f⟩;obtain⟨T,S,rfl⟩:= V.shape;have cg2:o.cell? ⟨g,0,none⟩=_:=(f.cell (p:=⟨g,0,none⟩) (aK B)).trans B;have cG2:o.cell? ⟨G,i,none⟩=_:=(f.cell (p:=⟨G,i,none⟩) (aK y)).trans y;have l:=aA j f;have cv2:o.cell? ⟨p.b,q * 2+1,none⟩=_:=(l.cell (p:=⟨p.b,q * 2+1,none⟩) (aK cv)).trans cv;have fv2:o.frozen? ⟨p.b,q * 2+1,none⟩=false:=(d.row.keep l).free _))
  all_goals (
    have R:OB o (w.heap.size≤·) (.slice T v.length S) v:=V.mono (fun b _ hb=>Nat.le_trans j.size hb);obtain⟨A2,Z⟩:= A.upd J he l R;generalize (o.setCell ⟨p.b,q * 2+1,none⟩ (.slice T v.length S))=W3 at *;go_wp2;go_ret
    exact⟨rfl,F,_,e.kv,.slice T v.length S,by rw[hS.out,rm],A2,fun b hb=>.inl hb,Z⟩)
theorem iO{i:Nat}(A:bQ w F D g L)(h:By w kv k)(hv:By w vv v)(r:k.length<=1000000000)(s:v.length<=1000000000)(t:Calls Tryz.prog 147 #[.pointer (some ⟨g,0,none⟩),kv] w fun e w'=>e=.returned (.tuple #[.int .i64 i,.int .i64 q,.bool false])/\Below w.heap.size w w')(B:∀ (w':World) (nk nv:Value),bQ w' F (fun b=>D b\/w.heap.size<=b) g L->EnA w' (fun b=>D b\/w.heap.size<=b) ⟨nk,k,nv,v⟩->Calls Tryz.prog 148 #[.pointer (some ⟨g,0,none⟩),.int .i64 i,.int .i64 q,.agg #[nk,nv]] w' fun e' w''=>∃ F' L',e'=.returned (.tuple #[])/\ens L'=fQ (ens L) ⟨nk,k,nv,v⟩/\bQ w'' F' (fun b=>D b\/w.heap.size<=b) g L'/\(∀ b,F' b->F b\/w'.heap.size<=b)/\Chg F w' w'') :
  Calls Tryz.prog 97 #[.pointer (some ⟨g,0,none⟩),kv,vv] w fun e w'=>e=.returned (.bool true)/\SetR w w' F D g L k v:=by
 have x:∀ w',Below w.heap.size w w'->Calls Tryz.prog 69 #[kv] w' _:=fun w' f=>cQ (h.keep f) r
 have y:∀ w',Below w.heap.size w w'->Calls Tryz.prog 69 #[vv] w' _:=fun w' f=>cQ (hv.keep f) s
 have mk:True:=trivial;clear h hv;go_enter Tryz.func97,Tryz.ntmps97
 go_wp2_with (first
  | (go_at_call 147;refine t.mono ?_;rintro e' z ⟨rfl,f⟩;have j:=x z f;clear t x)
  | (go_at_call 69;clear mk;refine j.mono ?_;rintro e' C ⟨nk,rfl,u,o⟩;have d:=aA f o;have m:=y C d;clear j y;obtain⟨J,H,rfl⟩:=u.shape)
  | (go_at_call 69;refine m.mono ?_;rintro e' G ⟨nv,rfl,l,n⟩;clear m;obtain⟨K,I,rfl⟩:=l.shape;have c:=aA d n;have p:=B G _ _ ((A.keep c).mono (fun _ _ h=>.inl h)) ⟨(u.keep n).mono (fun b _ hb=>.inr (Nat.le_trans f.size hb)),l.mono (fun b _ hb=>.inr (Nat.le_trans d.size hb))⟩)
  | (go_at_call 148;refine p.mono ?_;rintro e' M ⟨F',L',rfl,E,hA,hF,hC⟩))
 go_ret;exact⟨rfl,F',L',_,_,E,hA,fun b hb=>(hF b hb).imp id (fun h=>Nat.le_trans c.size h),(Chg.of (F:=F) c).trans hC (fun _ _ h=>h)⟩
theorem CF(A:bQ w F D g L)(O:Ord (ens L))(hs:∀ es∈ens L,es.length<=32)(hn:L.length<=100000000)(h:By w kv k)(hv:By w vv v)(f:k.length<=1000000000)(b:v.length<=1000000000) :
  Calls Tryz.prog 97 #[.pointer (some ⟨g,0,none⟩),kv,vv] w fun e w'=>e=.returned (.bool (!has (ens L) k))/\SetR w w' F D g L k v:=by
 by_cases hL:L=[]
 ·subst hL;refine iO (i:=0) (q:=0) A h hv f b ((nm A).mono ?_) (fun w' nk nv r m=>(qE r m).mono ?_)
  ·rintro e w' ⟨rfl,rfl⟩;exact⟨rfl,Below.refl _ _⟩
  ·rintro e y ⟨u,n,rfl,l,hA,hF,hC⟩;exact⟨u,n,rfl,l,hA,hF,hC⟩
 ·obtain⟨p,j,a⟩:=p9 hL k;have s:=List.mem_of_getElem? j;have x:=hs p.es (List.mem_map.2 ⟨p,s,rfl⟩)
  have z:has (ens L) k=thr (kys p.es) k:=by
   unfold has;rw[a];have:(ens L).isEmpty=false:=by simp[ens,hL]
   simp[this]
  rw[z];by_cases o:thr (kys p.es) k=true
  ·rw[o];exact xw A O (by omega) hn h hv b hL j a o
  ·have c:thr (kys p.es) k=false:=by simpa using o
   have t:=mj A O h (by omega) j (by omega);rw[c] at t ⊢;have d:=ql (kys p.es) k;simp only[kys,List.length_map] at d;refine iO A h hv f b t (fun w' nk nv r m=>(vd r j (q:=plc (kys p.es) k) d x hn m).mono ?_);rintro e y ⟨u,n,rfl,l,hA,hF,hC⟩;refine⟨u,n,rfl,?_,hA,hF,hC⟩;rw[l];unfold fQ;rw[if_neg (vp hL)];simp only[a];rw[if_neg (by rw[c];decide)]
end
end Pg
end
section
namespace Pg
open Go.RowKit Go.Lib
section
variable {w:World}{v:Value}{F D:Nat->Prop}{L:List Pg}
def jnb(P:List (List En))(i:Nat):Bool:=decide (i+1 < P.length) && decide ((P.getD i []).length+(P.getD (i+1) []).length<=16)
def jnQ(P:List (List En))(i:Nat):List (List En):=P.take i ++ [P.getD i [] ++ P.getD (i+1) []] ++ P.drop (i+2)
theorem jn_neg:Calls Tryz.prog 204 #[v,.int .i64 (-1)] w fun e w'=>e=.returned (.bool false)/\Below w.heap.size w w':=by
 have mixed:=mixed;go_enter Tryz.func204,Tryz.ntmps204;go_wp2;go_region;go_wp2;go_ret;exact⟨rfl,cj w⟩
theorem zg{g i:Nat}(A:bQ w F D g L)(hi:i < L.length)(hn:L.length<=100000000)(hs:∀ es∈ens L,es.length<=1000) :
  Calls Tryz.prog 204 #[.pointer (some ⟨g,0,none⟩),.int .i64 i] w fun e w'=>e=.returned (.bool (jnb (ens L) i))/\Below w.heap.size w w':=by
 have hL:L≠[]:=fun e=>by subst e;simp at hi
 obtain⟨G,C,z,K,M,t⟩:=A.opn hL;have cg:=z.cell (i:=0) rfl
 have m:(ens L).length=L.length:=by simp[ens]
 have mixed:=mixed
 have u:IntKind.i64.wrap ((i:Int)+1)=(i:Int)+1:=by rw[IntKind.wrap_i64];omega
 have J:(0:Int)<=(i:Int):=by omega
 by_cases s:i+1 < L.length
 ·obtain⟨p,H⟩:∃ p,L[i]?=some p:=⟨L[i],List.getElem?_eq_getElem hi⟩
  obtain⟨d,l⟩:∃ d,L[i+1]?=some d:=⟨L[i+1],List.getElem?_eq_getElem s⟩
  have I:=t.cell (i:=i) (v:=p.v) (by simp[H]);have q:=t.cell (i:=i+1) (v:=d.v) (by simp[l]);have s1:=hs p.es (List.mem_map.2 ⟨p,List.mem_of_getElem? H,rfl⟩);have s2:=hs d.es (List.mem_map.2 ⟨d,List.mem_of_getElem? l,rfl⟩)
  have E:Hid (jnb (ens L) i=decide ((p.es.length:Int)+(d.es.length:Int)<=16)):=by
   show _=_
   unfold jnb;rw[m,decide_eq_true s,eW H,eW l,Bool.true_and];congr 1
   exact propext ⟨fun h=>by omega,fun h=>by omega⟩
  simp only[Pg.v] at I q;generalize hln:L.length=n at *;generalize p.es.length=x at *;generalize d.es.length=y at *
  have z1:(i:Int)+1 < n:=by omega
  have z2:(i:Int) < n:=by omega
  have z3:((i:Int)+1).toNat=i+1:=by omega
  have z4:(0:Int)<=(i:Int)+1:=by omega
  have z5:IntKind.i64.wrap ((x:Int)+(y:Int))=(x:Int)+(y:Int):=by rw[IntKind.wrap_i64];omega
  have f:w.drew.cell? ⟨g,0,none⟩=some (.slice (some ⟨G,0,none⟩) n C):=cg
  have o:w.drew.cell? ⟨G,i,none⟩=some (.slice (some ⟨p.b,0,none⟩) x p.c):=I
  have j:w.drew.cell? ⟨G,i+1,none⟩=some (.slice (some ⟨d.b,0,none⟩) y d.c):=q;clear A hs t z hln;go_enter Tryz.func204,Tryz.ntmps204;go_wp2
  have r:Tryz.prog.underlying 146=some (.slice 188):=by kernel_rfl
  have B:i < n:=hi;refine bW (S:=fun w'=>w'.cell? ⟨g,0,none⟩=some (.slice (some ⟨G,0,none⟩) n C)/\w'.cell? ⟨G,i,none⟩=some (.slice (some ⟨p.b,0,none⟩) x p.c)/\w'.cell? ⟨G,i+1,none⟩=some (.slice (some ⟨d.b,0,none⟩) y d.c)) (by kernel_rfl) ⟨f,o,j⟩ ?_
  have hS:=(show _/\_/\_ from⟨f,o,j⟩)
  refine ay 0 (some 5) (.int .i64 i) (by kernel_rfl) (fun _ _=>by kernel_rfl) (fun _ _ _ h=>h) hS ?_
  refine jm 1 (some 6) (.bool (decide ((0:Int)<=(i:Int)))) (.bool true) (by rw[decide_eq_true J]) (by kernel_rfl) (fun _ _=>by kernel_rfl) (fun _ _ _ h=>h) hS ?_
  refine ay 2 (some 7) (.bool true) (by kernel_rfl) (fun _ _=>by kernel_rfl) (fun _ _ _ h=>h) hS ?_
  refine ay 3 (some 8) (.int .i64 i) (by kernel_rfl) (fun _ _=>by kernel_rfl) (fun _ _ _ h=>h) hS ?_
  refine jm 4 (some 9) (.int .i64 (IntKind.i64.wrap ((i:Int)+1))) (.int .i64 ((i:Int)+1)) (by rw[u]) (by kernel_rfl) (fun _ _=>by kernel_rfl) (fun _ _ _ h=>h) hS ?_
  refine ay 5 (some 10) (.pointer (some ⟨g,0,none⟩)) (by kernel_rfl) (fun _ _=>by kernel_rfl) (fun _ _ _ h=>h) hS ?_
  refine ay 6 (some 11) (.pointer (some ⟨g,0,none⟩)) (by kernel_rfl) (fun _ _=>by kernel_rfl) (fun _ _ _ h=>h) hS ?_
  refine ay 7 (some 12) (.pointer (some ⟨g,0,none⟩)) (by kernel_rfl) (fun _ _=>by kernel_rfl) (fun _ _ _ h=>h) hS ?_
  refine aT 8 (some 13) (.slice (some ⟨G,0,none⟩) n C) 146 12 (g) (0) (by kernel_rfl) (by kernel_rfl) (by kernel_rfl) (fun w' h=>gz h.1) (fun _ _ _ h=>h) hS ?_
  refine ay 9 (some 14) (.int .i64 n) (by kernel_rfl) (fun _ _=>by kernel_rfl) (fun _ _ _ h=>h) hS ?_
  refine jm 10 (some 15) (.bool (decide ((i:Int)+1 < (n:Int)))) (.bool true) (by rw[decide_eq_true (by omega)]) (by kernel_rfl) (fun _ _=>by kernel_rfl) (fun _ _ _ h=>h) hS ?_
  refine ay 11 (some 16) (.bool true) (by kernel_rfl) (fun _ _=>by kernel_rfl) (fun _ _ _ h=>h) hS ?_
  refine ay 12 (some 17) (.bool true) (by kernel_rfl) (fun _ _=>by kernel_rfl) (fun _ _ _ h=>h) hS ?_
  refine ay 13 (some 18) (.pointer (some ⟨g,0,none⟩)) (by kernel_rfl) (fun _ _=>by kernel_rfl) (fun _ _ _ h=>h) hS ?_
  refine ay 14 (some 19) (.pointer (some ⟨g,0,none⟩)) (by kernel_rfl) (fun _ _=>by kernel_rfl) (fun _ _ _ h=>h) hS ?_
  refine ay 15 (some 20) (.pointer (some ⟨g,0,none⟩)) (by kernel_rfl) (fun _ _=>by kernel_rfl) (fun _ _ _ h=>h) hS ?_
  refine aT 16 (some 21) (.slice (some ⟨G,0,none⟩) n C) 146 20 (g) (0) (by kernel_rfl) (by kernel_rfl) (by kernel_rfl) (fun w' h=>gz h.1) (fun _ _ _ h=>h) hS ?_
  refine ay 17 (some 22) (.int .i64 i) (by kernel_rfl) (fun _ _=>by kernel_rfl) (fun _ _ _ h=>h) hS ?_
  refine ay 18 (some 23) (.pointer (some ⟨G,i,none⟩)) (by kernel_rfl) (fun _ _=>eQ (x:=21) (y:=22) (n:=n) (c:=C) (by kernel_rfl) r (by kernel_rfl) (by kernel_rfl) (rfl) (B)) (fun _ _ _ h=>h) hS ?_
  refine aT 19 (some 24) (.slice (some ⟨p.b,0,none⟩) x p.c) 188 23 (G) (i) (by kernel_rfl) (by kernel_rfl) (by kernel_rfl) (fun w' h=>pL h.2.1) (fun _ _ _ h=>h) hS ?_
  refine ay 20 (some 25) (.int .i64 x) (by kernel_rfl) (fun _ _=>by kernel_rfl) (fun _ _ _ h=>h) hS ?_
  refine ay 21 (some 26) (.pointer (some ⟨g,0,none⟩)) (by kernel_rfl) (fun _ _=>by kernel_rfl) (fun _ _ _ h=>h) hS ?_
  refine ay 22 (some 27) (.pointer (some ⟨g,0,none⟩)) (by kernel_rfl) (fun _ _=>by kernel_rfl) (fun _ _ _ h=>h) hS ?_
  refine ay 23 (some 28) (.pointer (some ⟨g,0,none⟩)) (by kernel_rfl) (fun _ _=>by kernel_rfl) (fun _ _ _ h=>h) hS ?_
  refine aT 24 (some 29) (.slice (some ⟨G,0,none⟩) n C) 146 28 (g) (0) (by kernel_rfl) (by kernel_rfl) (by kernel_rfl) (fun w' h=>gz h.1) (fun _ _ _ h=>h) hS ?_
  refine ay 25 (some 30) (.int .i64 i) (by kernel_rfl) (fun _ _=>by kernel_rfl) (fun _ _ _ h=>h) hS ?_
  refine jm 26 (some 31) (.int .i64 (IntKind.i64.wrap ((i:Int)+1))) (.int .i64 ((i:Int)+1)) (by rw[u]) (by kernel_rfl) (fun _ _=>by kernel_rfl) (fun _ _ _ h=>h) hS ?_
  refine ay 27 (some 32) (.pointer (some ⟨G,i+1,none⟩)) (by kernel_rfl) (fun _ _=>eQ (x:=29) (y:=31) (n:=n) (c:=C) (by kernel_rfl) r (by kernel_rfl) (by kernel_rfl) (show ((i:Int)+1)=((i+1:Nat):Int) from by omega) (s)) (fun _ _ _ h=>h) hS ?_
  refine aT 28 (some 33) (.slice (some ⟨d.b,0,none⟩) y d.c) 188 32 (G) (i+1) (by kernel_rfl) (by kernel_rfl) (by kernel_rfl) (fun w' h=>pL h.2.2) (fun _ _ _ h=>h) hS ?_
  refine ay 29 (some 34) (.int .i64 y) (by kernel_rfl) (fun _ _=>by kernel_rfl) (fun _ _ _ h=>h) hS ?_
  refine jm 30 (some 35) (.int .i64 (IntKind.i64.wrap ((x:Int)+(y:Int)))) (.int .i64 ((x:Int)+(y:Int))) (by rw[z5]) (by kernel_rfl) (fun _ _=>by kernel_rfl) (fun _ _ _ h=>h) hS ?_
  refine ay 31 (some 36) (.bool (decide ((x:Int)+(y:Int)<=16))) (by kernel_rfl) (fun _ _=>by kernel_rfl) (fun _ _ _ h=>h) hS ?_
  refine ay 32 (some 37) (.bool (decide ((x:Int)+(y:Int)<=16))) (by kernel_rfl) (fun _ _=>by kernel_rfl) (fun _ _ _ h=>h) hS ?_
  refine ay 33 (some 4) (.bool (decide ((x:Int)+(y:Int)<=16))) (by kernel_rfl) (fun _ _=>by kernel_rfl) (fun _ _ _ h=>h) hS ?_
  refine bI (by kernel_rfl) ?_
  simp only[Act.put,List.setIfInBounds_toArray,List.set_cons_zero,List.set_cons_succ];go_wp2;go_ret;exact⟨by rw[E.out];rfl,cj w⟩
 ·have E:Hid (jnb (ens L) i=false):=by
   show _=_
   unfold jnb;rw[m,decide_eq_false s,Bool.false_and]
  generalize hln:L.length=n at *
  have z1:¬ ((i:Int)+1 < n):=by omega
  have f:w.drew.cell? ⟨g,0,none⟩=some (.slice (some ⟨G,0,none⟩) n C):=cg;clear A hs t z hln;go_enter Tryz.func204,Tryz.ntmps204;go_wp2;refine bW (S:=fun w'=>w'.cell? ⟨g,0,none⟩=some (.slice (some ⟨G,0,none⟩) n C)) (by kernel_rfl) f ?_
  have hS:=f;refine ay 0 (some 5) (.int .i64 i) (by kernel_rfl) (fun _ _=>by kernel_rfl) (fun _ _ _ h=>h) hS ?_
  refine jm 1 (some 6) (.bool (decide ((0:Int)<=(i:Int)))) (.bool true) (by rw[decide_eq_true J]) (by kernel_rfl) (fun _ _=>by kernel_rfl) (fun _ _ _ h=>h) hS ?_
  refine ay 2 (some 7) (.bool true) (by kernel_rfl) (fun _ _=>by kernel_rfl) (fun _ _ _ h=>h) hS ?_
  refine ay 3 (some 8) (.int .i64 i) (by kernel_rfl) (fun _ _=>by kernel_rfl) (fun _ _ _ h=>h) hS ?_
  refine jm 4 (some 9) (.int .i64 (IntKind.i64.wrap ((i:Int)+1))) (.int .i64 ((i:Int)+1)) (by rw[u]) (by kernel_rfl) (fun _ _=>by kernel_rfl) (fun _ _ _ h=>h) hS ?_
  refine ay 5 (some 10) (.pointer (some ⟨g,0,none⟩)) (by kernel_rfl) (fun _ _=>by kernel_rfl) (fun _ _ _ h=>h) hS ?_
  refine ay 6 (some 11) (.pointer (some ⟨g,0,none⟩)) (by kernel_rfl) (fun _ _=>by kernel_rfl) (fun _ _ _ h=>h) hS ?_
  refine ay 7 (some 12) (.pointer (some ⟨g,0,none⟩)) (by kernel_rfl) (fun _ _=>by kernel_rfl) (fun _ _ _ h=>h) hS ?_
  refine aT 8 (some 13) (.slice (some ⟨G,0,none⟩) n C) 146 12 (g) (0) (by kernel_rfl) (by kernel_rfl) (by kernel_rfl) (fun w' h=>gz h) (fun _ _ _ h=>h) hS ?_
  refine ay 9 (some 14) (.int .i64 n) (by kernel_rfl) (fun _ _=>by kernel_rfl) (fun _ _ _ h=>h) hS ?_
  refine jm 10 (some 15) (.bool (decide ((i:Int)+1 < (n:Int)))) (.bool false) (by rw[decide_eq_false (by omega)]) (by kernel_rfl) (fun _ _=>by kernel_rfl) (fun _ _ _ h=>h) hS ?_
  refine ay 11 (some 16) (.bool false) (by kernel_rfl) (fun _ _=>by kernel_rfl) (fun _ _ _ h=>h) hS ?_
  refine ay 12 (some 17) (.bool false) (by kernel_rfl) (fun _ _=>by kernel_rfl) (fun _ _ _ h=>h) hS ?_
  refine cI 13 (some 18) (by kernel_rfl) (fun _ _ _ h=>h) hS ?_
  refine cI 14 (some 19) (by kernel_rfl) (fun _ _ _ h=>h) hS ?_
  refine cI 15 (some 20) (by kernel_rfl) (fun _ _ _ h=>h) hS ?_
  refine cI 16 (some 21) (by kernel_rfl) (fun _ _ _ h=>h) hS ?_
  refine cI 17 (some 22) (by kernel_rfl) (fun _ _ _ h=>h) hS ?_
  refine cI 18 (some 23) (by kernel_rfl) (fun _ _ _ h=>h) hS ?_
  refine cI 19 (some 24) (by kernel_rfl) (fun _ _ _ h=>h) hS ?_
  refine cI 20 (some 25) (by kernel_rfl) (fun _ _ _ h=>h) hS ?_
  refine cI 21 (some 26) (by kernel_rfl) (fun _ _ _ h=>h) hS ?_
  refine cI 22 (some 27) (by kernel_rfl) (fun _ _ _ h=>h) hS ?_
  refine cI 23 (some 28) (by kernel_rfl) (fun _ _ _ h=>h) hS ?_
  refine cI 24 (some 29) (by kernel_rfl) (fun _ _ _ h=>h) hS ?_
  refine cI 25 (some 30) (by kernel_rfl) (fun _ _ _ h=>h) hS ?_
  refine cI 26 (some 31) (by kernel_rfl) (fun _ _ _ h=>h) hS ?_
  refine cI 27 (some 32) (by kernel_rfl) (fun _ _ _ h=>h) hS ?_
  refine cI 28 (some 33) (by kernel_rfl) (fun _ _ _ h=>h) hS ?_
  refine cI 29 (some 34) (by kernel_rfl) (fun _ _ _ h=>h) hS ?_
  refine cI 30 (some 35) (by kernel_rfl) (fun _ _ _ h=>h) hS ?_
  refine cI 31 (some 36) (by kernel_rfl) (fun _ _ _ h=>h) hS ?_
  refine ay 32 (some 37) (.bool false) (by kernel_rfl) (fun _ _=>by kernel_rfl) (fun _ _ _ h=>h) hS ?_
  refine ay 33 (some 4) (.bool false) (by kernel_rfl) (fun _ _=>by kernel_rfl) (fun _ _ _ h=>h) hS ?_
  refine bI (by kernel_rfl) ?_
  simp only[Act.put,List.setIfInBounds_toArray,List.set_cons_zero,List.set_cons_succ];go_wp2;go_ret;exact⟨by rw[E.out];rfl,cj w⟩
end
end Pg
end
section
namespace Pg
open Go.RowKit Go.Lib
section
variable {L:List Pg}{i:Nat}{p p2:Pg}{w:World}{F D:Nat->Prop}
theorem ens_jn{q:Pg}(c:L[i]?=some p)(a:L[i+1]?=some p2)(d:q.es=p.es ++ p2.es):ens ((L.set i q).take (i+1) ++ (L.set i q).drop (i+2))=jnQ (ens L) i:=by
 have b:=(List.getElem?_eq_some_iff.1 c).1;unfold jnQ;rw[eW c,eW a,<- d]
 have e1:(L.set i q).take (i+1)=L.take i ++ [q]:=by
  rw[List.take_add_one,List.take_set_of_le (Nat.le_refl _),List.getElem?_set_self b];rfl
 rw[e1,List.drop_set_of_lt (by omega)];simp[ens,List.map_take,List.map_drop]
theorem AA{g:Nat}(A:bQ w F D g L)(R:L[i]?=some p)(Q:L[i+1]?=some p2)(hn:L.length<=100000000)(h0:0 < p.es.length)(hs1:p.es.length<=1000)(hs2:p2.es.length<=1000) :
  Calls Tryz.prog 205 #[.pointer (some ⟨g,0,none⟩),.int .i64 i] w fun e w'=>∃ F' L',e=.returned (.tuple #[])/\ens L'=jnQ (ens L) i/\bQ w' F' D g L'/\(∀ b,F' b->F b\/w.heap.size<=b)/\Chg F w w':=by
 have hil:=(List.getElem?_eq_some_iff.1 R).1;have hil2:=(List.getElem?_eq_some_iff.1 Q).1
 have hL:L≠[]:=fun e=>by subst e;simp at hil
 obtain⟨G,C,hg,hFg,hFG,hR⟩:=A.opn hL;have Z:=A.cC p (List.mem_of_getElem? R);have H:=A.cC p2 (List.mem_of_getElem? Q);have cg:=hg.cell (i:=0) rfl;have cG:=hR.cell (i:=i) (v:=p.v) (by simp[R]);have I:=hR.cell (i:=i+1) (v:=p2.v) (by simp[Q]);have hCC:=hR.le;simp only[maxLen] at hCC;obtain⟨n,d⟩:∃ n,Hid (L.length=n):=⟨_,rfl⟩
 obtain⟨x,t⟩:∃ m,Hid (p.es.length=m):=⟨_,rfl⟩
 obtain⟨y,P⟩:∃ m,Hid (p2.es.length=m):=⟨_,rfl⟩
 simp only[Pg.v] at cG I;rw[d.out] at cg;rw[t.out] at cG;rw[P.out] at I
 have z1:(i:Int) < n:=by have:=d.out;omega
 have z2:(i:Int)+1 < n:=by have:=d.out;omega
 have w1:IntKind.i64.wrap ((i:Int)+1)=(i:Int)+1:=by rw[IntKind.wrap_i64];have:=d.out;omega
 have z3:((i:Int)+1).toNat=i+1:=by omega
 have z4:(0:Int)<=(i:Int)+1:=by omega
 have cgd:w.drew.cell? ⟨g,0,none⟩=some (.slice (some ⟨G,0,none⟩) n C):=cg
 have cGd:w.drew.cell? ⟨G,i,none⟩=some (.slice (some ⟨p.b,0,none⟩) x p.c):=cG
 have S:w.drew.cell? ⟨G,i+1,none⟩=some (.slice (some ⟨p2.b,0,none⟩) y p2.c):=I
 have E:g≠G:=fun e=>hR.fl hg e.symm
 obtain⟨K,O⟩:∃ K,Hid (K=w.drew.alloc (.cells #[.slice (some ⟨p.b,0,none⟩) x p.c,.slice (some ⟨p2.b,0,none⟩) y p2.c] 188)):=⟨_,rfl⟩
 have N:Below w.heap.size w K:=by rw[O.out];exact aA (cj w) (ae w.drew _)
 have V1:Blk K w.heap.size [.slice (some ⟨p.b,0,none⟩) x p.c,.slice (some ⟨p2.b,0,none⟩) y p2.c] 188:=by rw[O.out];exact aD w.drew _ _
 have t1:=CA V1 ((t.out▸Z.1.row).keep N) ((P.out▸H.1.row).keep N) (by have:=t.out;omega) (by have:=t.out;omega) (by have:=P.out;omega) Z.1.one H.1.one
 have B:K.cell? ⟨g,0,none⟩=_:=(N.cell (p:=⟨g,0,none⟩) (aK cg)).trans cg
 have W:K.cell? ⟨G,i,none⟩=_:=(N.cell (p:=⟨G,i,none⟩) (aK cG)).trans cG
 have f:K.cell? ⟨G,i+1,none⟩=_:=(N.cell (p:=⟨G,i+1,none⟩) (aK I)).trans I
 have hin:i < n:=by have:=d.out;omega
 have hin2:i+1 < n:=by have:=d.out;omega
 have hS1:=(show _/\_ from⟨B,f⟩)
 rw[O.out] at hS1 t1;go_enter Tryz.func205,Tryz.ntmps205;go_wp2
 have Y:Tryz.prog.underlying 146=some (.slice 188):=by kernel_rfl
 refine pT (X:=Nat × Nat) (fun z=>[(some 4,.pointer (some ⟨g,0,none⟩)),(some 5,.pointer (some ⟨g,0,none⟩)),(some 6,.pointer (some ⟨g,0,none⟩)),(some 7,.slice (some ⟨G,0,none⟩) n C),(some 8,.int .i64 i),(some 9,.pointer (some ⟨g,0,none⟩)),(some 10,.pointer (some ⟨g,0,none⟩)),(some 11,.pointer (some ⟨g,0,none⟩)),(some 12,.slice (some ⟨G,0,none⟩) n C),(some 13,.int .i64 i),(some 14,.pointer (some ⟨G,i,none⟩)),(some 15,.slice (some ⟨p.b,0,none⟩) x p.c),(some 16,.pointer (some ⟨g,0,none⟩)),(some 17,.pointer (some ⟨g,0,none⟩)),(some 18,.pointer (some ⟨g,0,none⟩)),(some 19,.slice (some ⟨G,0,none⟩) n C),(some 20,.int .i64 i),(some 21,.int .i64 ((i:Int)+1)),(some 22,.pointer (some ⟨G,i+1,none⟩)),(some 23,.slice (some ⟨p2.b,0,none⟩) y p2.c),(some 24,.slice (some ⟨w.heap.size,0,none⟩) 2 2),(some 25,.slice (some ⟨z.1,0,none⟩) (x+y) z.2),(some 26,.pointer (some ⟨G,i,none⟩))]) (fun z w'=>∃ j,w'=j.setCell ⟨G,i,none⟩ (.slice (some ⟨z.1,0,none⟩) (x+y) z.2)/\K.heap.size<=z.1/\Rw j 185 2 z.1 (x+y) z.2 (flat p.es ++ flat p2.es)/\Below K.heap.size K j) (fun w'=>w'.cell? ⟨g,0,none⟩=some (.slice (some ⟨G,0,none⟩) n C)/\w'.cell? ⟨G,i+1,none⟩=some (.slice (some ⟨p2.b,0,none⟩) y p2.c)) (by kernel_rfl) ⟨cgd,S⟩ ?_ ?_
 ·have hS:=(show _/\_ from⟨cgd,S⟩)
  refine ay 0 (some 4) (.pointer (some ⟨g,0,none⟩)) (by kernel_rfl) (fun _ _=>by kernel_rfl) (fun _ _ _ h=>h) hS ?_
  refine ay 1 (some 5) (.pointer (some ⟨g,0,none⟩)) (by kernel_rfl) (fun _ _=>by kernel_rfl) (fun _ _ _ h=>h) hS ?_
  refine ay 2 (some 6) (.pointer (some ⟨g,0,none⟩)) (by kernel_rfl) (fun _ _=>by kernel_rfl) (fun _ _ _ h=>h) hS ?_
  refine aT 3 (some 7) (.slice (some ⟨G,0,none⟩) n C) 146 6 (g) (0) (by kernel_rfl) (by kernel_rfl) (by kernel_rfl) (fun w' h=>gz h.1) (fun _ _ _ h=>h) hS ?_
  refine ay 4 (some 8) (.int .i64 i) (by kernel_rfl) (fun _ _=>by kernel_rfl) (fun _ _ _ h=>h) hS ?_
  refine ay 5 (some 9) (.pointer (some ⟨g,0,none⟩)) (by kernel_rfl) (fun _ _=>by kernel_rfl) (fun _ _ _ h=>h) hS ?_
  refine ay 6 (some 10) (.pointer (some ⟨g,0,none⟩)) (by kernel_rfl) (fun _ _=>by kernel_rfl) (fun _ _ _ h=>h) hS ?_
  refine ay 7 (some 11) (.pointer (some ⟨g,0,none⟩)) (by kernel_rfl) (fun _ _=>by kernel_rfl) (fun _ _ _ h=>h) hS ?_
  refine aT 8 (some 12) (.slice (some ⟨G,0,none⟩) n C) 146 11 (g) (0) (by kernel_rfl) (by kernel_rfl) (by kernel_rfl) (fun w' h=>gz h.1) (fun _ _ _ h=>h) hS ?_
  refine ay 9 (some 13) (.int .i64 i) (by kernel_rfl) (fun _ _=>by kernel_rfl) (fun _ _ _ h=>h) hS ?_
  refine ay 10 (some 14) (.pointer (some ⟨G,i,none⟩)) (by kernel_rfl) (fun _ _=>eQ (x:=12) (y:=13) (n:=n) (c:=C) (by kernel_rfl) Y (by kernel_rfl) (by kernel_rfl) (rfl) (hin)) (fun _ _ _ h=>h) hS ?_
  refine ay 12 (some 16) (.pointer (some ⟨g,0,none⟩)) (by kernel_rfl) (fun _ _=>by kernel_rfl) (fun _ _ _ h=>h) hS ?_
  refine ay 13 (some 17) (.pointer (some ⟨g,0,none⟩)) (by kernel_rfl) (fun _ _=>by kernel_rfl) (fun _ _ _ h=>h) hS ?_
  refine ay 14 (some 18) (.pointer (some ⟨g,0,none⟩)) (by kernel_rfl) (fun _ _=>by kernel_rfl) (fun _ _ _ h=>h) hS ?_
  refine aT 15 (some 19) (.slice (some ⟨G,0,none⟩) n C) 146 18 (g) (0) (by kernel_rfl) (by kernel_rfl) (by kernel_rfl) (fun w' h=>gz h.1) (fun _ _ _ h=>h) hS ?_
  refine ay 16 (some 20) (.int .i64 i) (by kernel_rfl) (fun _ _=>by kernel_rfl) (fun _ _ _ h=>h) hS ?_
  refine jm 17 (some 21) (.int .i64 (IntKind.i64.wrap ((i:Int)+1))) (.int .i64 ((i:Int)+1)) (by rw[w1]) (by kernel_rfl) (fun _ _=>by kernel_rfl) (fun _ _ _ h=>h) hS ?_
  refine ay 18 (some 22) (.pointer (some ⟨G,i+1,none⟩)) (by kernel_rfl) (fun _ _=>eQ (x:=19) (y:=21) (n:=n) (c:=C) (by kernel_rfl) Y (by kernel_rfl) (by kernel_rfl) (show ((i:Int)+1)=((i+1:Nat):Int) from by omega) (hin2)) (fun _ _ _ h=>h) hS ?_
  refine aT 19 (some 23) (.slice (some ⟨p2.b,0,none⟩) y p2.c) 188 22 (G) (i+1) (by kernel_rfl) (by kernel_rfl) (by kernel_rfl) (fun w' h=>pL h.2) (fun _ _ _ h=>h) hS ?_
  refine aM [11] (by kernel_rfl) (by simp) ?_
  refine bJ 11 (some 15) (.slice (some ⟨p.b,0,none⟩) x p.c) _ (by kernel_rfl) (iG 14 (by kernel_rfl) (by kernel_rfl) (pL cGd)) hS ?_ aZ;refine aM [20] (by kernel_rfl) (by simp) ?_
  refine bJ 20 (some 24) (.slice (some ⟨w.heap.size,0,none⟩) 2 2) _ (by kernel_rfl) (Dy (x:=15) (y:=23) (by kernel_rfl) (by kernel_rfl) (by kernel_rfl)) hS1 ?_ aZ;refine bS 21 (some 25) 235 #[.slice (some ⟨w.heap.size,0,none⟩) 2 2] (by kernel_rfl) (by kernel_rfl) t1 ?_
  rintro e' j ⟨r,c2,rfl,o,R2,V⟩;rw[<- O.out] at V o
  have cg2:j.cell? ⟨g,0,none⟩=_:=(V.cell (p:=⟨g,0,none⟩) (aK B)).trans B
  have cGi2:j.cell? ⟨G,i,none⟩=_:=(V.cell (p:=⟨G,i,none⟩) (aK W)).trans W
  have s:j.cell? ⟨G,i+1,none⟩=_:=(V.cell (p:=⟨G,i+1,none⟩) (aK f)).trans f
  have fG2:j.frozen? ⟨G,i,none⟩=false:=((hR.keep N).keep V).free i;refine⟨_,rfl,⟨cg2,s⟩,?_⟩;replace hS:=(show _/\_ from⟨cg2,s⟩)
  refine ay 22 (some 26) (.pointer (some ⟨G,i,none⟩)) (by kernel_rfl) (fun _ _=>eQ (x:=7) (y:=8) (n:=n) (c:=C) (by kernel_rfl) Y (by kernel_rfl) (by kernel_rfl) (rfl) (hin)) (fun _ _ _ h=>h) hS ?_
  refine aM [23] (by kernel_rfl) (by simp) ?_
  refine dq 23 (j.setCell ⟨G,i,none⟩ (.slice (some ⟨r,0,none⟩) (x+y) c2)) (by kernel_rfl) (kK 26 25 (by kernel_rfl) (by kernel_rfl) (by kernel_rfl) cGi2 fG2) ⟨bX E cg2,A7 (by omega) s⟩ ?_ aZ;refine bI (by kernel_rfl) ?_
  exact⟨(r,c2),by kernel_rfl,j,rfl,o,R2,V⟩
 rintro⟨r,c2⟩ w' ⟨j,rfl,o,R2,V⟩;dsimp only at o R2;simp only[jt,Act.put,List.setIfInBounds_toArray,List.set_cons_zero,List.set_cons_succ]
 have M:Below w.heap.size w j:=aA N V;obtain⟨q,hq⟩:∃ q:Pg,Hid (q=⟨r,c2,p.es ++ p2.es⟩):=⟨_,rfl⟩
 have hlen:(p.es ++ p2.es).length=x+y:=by rw[List.length_append,t.out,P.out]
 have hA':PgA j D q:=by
  rw[hq.out];refine⟨?_,fun e he=>?_⟩
  ·show Rw j _ 2 r (p.es ++ p2.es).length c2 _
   rw[hlen,ez];exact R2
  ·rcases List.mem_append.1 he with h | h
   ·exact(Z.1.dP e h).keep M
   ·exact(H.1.dP e h).keep M
 have hv':q.v=.slice (some ⟨r,0,none⟩) (x+y) c2:=by rw[hq.out];simp only[Pg.v];rw[hlen]
 have hqb:q.b=r:=by rw[hq.out]
 have hqe:q.es=p.es ++ p2.es:=by rw[hq.out]
 obtain⟨A3,C3⟩:=A.put (p':=q) (D':=D) hg hFg hFG hR R (Chg.of M) (.inr (by rw[hqb];exact Nat.le_trans N.size o)) hA' (fun _ _ h=>h);rw[hv',hqb] at A3;rw[hv'] at C3
 have hF3:∀ b,((F b/\b≠p.b)\/b=r)->F b\/w.heap.size<=b:=fun b h=>h.imp (fun h=>h.1) (fun h=>by rw[h];exact Nat.le_trans N.size o)
 have l:=(hg.keep M).off E (i:=i) (.slice (some ⟨r,0,none⟩) (x+y) c2);generalize (j.setCell ⟨G,i,none⟩ (.slice (some ⟨r,0,none⟩) (x+y) c2))=W3 at *;generalize hF3d:(fun x=>(F x/\x≠p.b)\/x=r)=F3 at A3
 have J:∀ b,F3 b->F b\/w.heap.size<=b:=fun b h=>hF3 b (by rw[<- hF3d] at h;exact h)
 obtain⟨G2,D3,hg3,hFg3,U,hR3⟩:=A3.opn (by simp[hL]);obtain⟨rfl,rfl⟩:G2=G/\D3=C:=by
  have:=(hg3.eq l).1;simp at this;exact⟨this.1,this.2⟩
 have cg3:W3.cell? ⟨g,0,none⟩=some (.slice (some ⟨G2,0,none⟩) n D3):=by
  have:=l.cell (i:=0) rfl;rwa [d.out] at this
 have T:=hR3;rw[List.length_set,d.out] at T;have t4:=delP (i:=i+1) T (by have:=d.out;omega) (ve _);rw[show ((i+1:Nat):Int)=(i:Int)+1 by omega,show (i:Int)+1+1=(i:Int)+2 by omega] at t4
 have w2':IntKind.i64.wrap ((i:Int)+2)=(i:Int)+2:=by rw[IntKind.wrap_i64];have:=d.out;omega
 go_wp2_with (go_at_call 203;refine t4.mono ?_;rintro e' w5 ⟨rfl,R5,C5⟩;have cg5:w5.cell? ⟨g,0,none⟩=_:=(World.cell?_of_block (a:=⟨g,0,none⟩) (C5.same g (aK cg3) E)).trans cg3;have fg5:w5.frozen? ⟨g,0,none⟩=false:=(l.chg C5 E).free 0);go_end0
 have u:((L.set i q).take (i+1) ++ (L.set i q).drop (i+2)).Sublist (L.set i q):=by
  have h:=List.Sublist.append (List.Sublist.refl ((L.set i q).take (i+1))) (List.drop_sublist 1 ((L.set i q).drop (i+1)));rw[List.drop_drop,List.take_append_drop] at h;exact h
 obtain⟨A6,C6⟩:=lB (w:=W3) (w1:=w5) (F:=F3) (D:=D) (g:=g) (G:=G2) (G':=G2) (C':=D3) (n:=n - 1) (L':=(L.set i q).take (i+1) ++ (L.set i q).drop (i+2))
  (fun p R=>A3.cC p (u.mem R)) (A3.apart.sublist (u.map _)) A3.kind l hFg3 U (fun e=>E e.symm) C5 (fun p R=>(A3.cC p (u.mem R)).1.fk hR3)
  (by simp;have:=d.out;omega) (by simpa[List.map_take,List.map_drop] using R5)
 refine⟨_,_,rfl,ens_jn R Q hqe,A6,fun b hb=>?_,C3.trans C6 fun b hb h=>(J b h).resolve_right (by omega)⟩;rcases hb with⟨h,_⟩ | rfl
 ·exact J b h
 ·exact J _ U
end
end Pg
end
section
namespace Pg
open Go.RowKit Go.Lib
def rmQ (P:List (List En)) (i q:Nat):List (List En) :=
 let es:=(P.getD i []).take q ++ (P.getD i []).drop (q+1)
 if es=[] then P.take i ++ P.drop (i+1)
 else
  let P1:=P.set i es
  if jnb P1 i then jnQ P1 i else if 1<=i/\jnb P1 (i - 1) then jnQ P1 (i - 1) else P1
def iw (P:List (List En)) (k:List Int):List (List En) :=
 if has P k then rmQ P (pgi P k) (plc (kys (P.getD (pgi P k) [])) k) else P
theorem CN (es:List En) (q:Nat):(flat es).take (q * 2) ++ (flat es).drop ((q+1) * 2)=flat (es.take q ++ es.drop (q+1)):=by
 rw[iQ,iW,ez]
theorem uI {w:World} {F D:Nat->Prop} {g i q:Nat} {L:List Pg} {p:Pg} (A:bQ w F D g L) (hi:L[i]?=some p) (hq:q < p.es.length) (hs:∀ es∈ens L,es.length<=32) (hf:∀ es∈ens L,es≠[]) (hn:L.length<=100000000) :
  Calls Tryz.prog 166 #[.pointer (some ⟨g,0,none⟩),.int .i64 i,.int .i64 q] w fun e' w'=>∃ F' L',e'=.returned (.tuple #[])/\ens L'=rmQ (ens L) i q/\bQ w' F' D g L'/\(∀ b,F' b->F b\/w.heap.size<=b)/\Chg F w w':=by
 have hil:=(List.getElem?_eq_some_iff.1 hi).1
 have hL:L≠[]:=fun e=>by subst e;simp at hil
 obtain⟨G,C,hg,hFg,hFG,hR⟩:=A.opn hL;have O:=A.cC p (List.mem_of_getElem? hi);have h2:=hs p.es (List.mem_map.2 ⟨p,List.mem_of_getElem? hi,rfl⟩);have cg:=hg.cell (i:=0) rfl;have cG:=hR.cell (i:=i) (v:=p.v) (by simp[hi]);obtain⟨n,u⟩:∃ n,Hid (L.length=n):=⟨_,rfl⟩
 obtain⟨m,J⟩:∃ m,Hid (p.es.length=m):=⟨_,rfl⟩
 simp only[Pg.v] at cG;rw[u.out] at cg;rw[J.out] at cG
 have cgd:w.drew.cell? ⟨g,0,none⟩=some (.slice (some ⟨G,0,none⟩) n C):=cg
 have cGd:w.drew.cell? ⟨G,i,none⟩=some (.slice (some ⟨p.b,0,none⟩) m p.c):=cG
 have E:g≠G:=fun e=>hR.fl hg e.symm
 have ng:g≠p.b:=fun e=>O.1.fl hg e.symm
 have nG:G≠p.b:=fun e=>O.1.fk hR e.symm
 have hin:i < n:=by have:=u.out;omega
 have w1:IntKind.i64.wrap ((q:Int)+1)=(q:Int)+1:=by rw[IntKind.wrap_i64];omega
 have t1:=delE (i:=q) O.1.row.drew hq O.1.one;rw[J.out] at t1;go_enter Tryz.func166,Tryz.ntmps166;go_wp2
 have hpp:Tryz.prog.underlying 146=some (.slice 188):=by kernel_rfl
 refine pT (X:=Unit) (fun _=>[(some 6,.pointer (some ⟨g,0,none⟩)),(some 7,.pointer (some ⟨g,0,none⟩)),(some 8,.pointer (some ⟨g,0,none⟩)),(some 9,.slice (some ⟨G,0,none⟩) n C),(some 10,.int .i64 i),(some 11,.pointer (some ⟨g,0,none⟩)),(some 12,.pointer (some ⟨g,0,none⟩)),(some 13,.pointer (some ⟨g,0,none⟩)),(some 14,.slice (some ⟨G,0,none⟩) n C),(some 15,.int .i64 i),(some 16,.pointer (some ⟨G,i,none⟩)),(some 17,.slice (some ⟨p.b,0,none⟩) m p.c),(some 18,.int .i64 q),(some 19,.int .i64 q),(some 20,.int .i64 ((q:Int)+1)),(some 21,.slice (some ⟨p.b,0,none⟩) (m - 1) p.c),(some 22,.pointer (some ⟨G,i,none⟩))]) (fun _ w'=>∃ t,w'=t.setCell ⟨G,i,none⟩ (.slice (some ⟨p.b,0,none⟩) (m - 1) p.c)/\Rw t 185 2 p.b (m - 1) p.c ((flat p.es).take (q * 2) ++ (flat p.es).drop ((q+1) * 2))/\Chg (·=p.b) w.drew t) (fun w'=>w'.cell? ⟨g,0,none⟩=some (.slice (some ⟨G,0,none⟩) n C)) (by kernel_rfl) cgd ?_ ?_
 ·have hS:=cgd;refine ay 0 (some 6) (.pointer (some ⟨g,0,none⟩)) (by kernel_rfl) (fun _ _=>by kernel_rfl) (fun _ _ _ h=>h) hS ?_
  refine ay 1 (some 7) (.pointer (some ⟨g,0,none⟩)) (by kernel_rfl) (fun _ _=>by kernel_rfl) (fun _ _ _ h=>h) hS ?_
  refine ay 2 (some 8) (.pointer (some ⟨g,0,none⟩)) (by kernel_rfl) (fun _ _=>by kernel_rfl) (fun _ _ _ h=>h) hS ?_
  refine aT 3 (some 9) (.slice (some ⟨G,0,none⟩) n C) 146 8 (g) (0) (by kernel_rfl) (by kernel_rfl) (by kernel_rfl) (fun w' h=>gz h) (fun _ _ _ h=>h) hS ?_
  refine ay 4 (some 10) (.int .i64 i) (by kernel_rfl) (fun _ _=>by kernel_rfl) (fun _ _ _ h=>h) hS ?_
  refine ay 5 (some 11) (.pointer (some ⟨g,0,none⟩)) (by kernel_rfl) (fun _ _=>by kernel_rfl) (fun _ _ _ h=>h) hS ?_
  refine ay 6 (some 12) (.pointer (some ⟨g,0,none⟩)) (by kernel_rfl) (fun _ _=>by kernel_rfl) (fun _ _ _ h=>h) hS ?_
  refine ay 7 (some 13) (.pointer (some ⟨g,0,none⟩)) (by kernel_rfl) (fun _ _=>by kernel_rfl) (fun _ _ _ h=>h) hS ?_
  refine aT 8 (some 14) (.slice (some ⟨G,0,none⟩) n C) 146 13 (g) (0) (by kernel_rfl) (by kernel_rfl) (by kernel_rfl) (fun w' h=>gz h) (fun _ _ _ h=>h) hS ?_
  refine ay 9 (some 15) (.int .i64 i) (by kernel_rfl) (fun _ _=>by kernel_rfl) (fun _ _ _ h=>h) hS ?_
  refine ay 10 (some 16) (.pointer (some ⟨G,i,none⟩)) (by kernel_rfl) (fun _ _=>eQ (x:=14) (y:=15) (n:=n) (c:=C) (by kernel_rfl) hpp (by kernel_rfl) (by kernel_rfl) (rfl) (hin)) (fun _ _ _ h=>h) hS ?_
  refine ay 12 (some 18) (.int .i64 q) (by kernel_rfl) (fun _ _=>by kernel_rfl) (fun _ _ _ h=>h) hS ?_
  refine ay 13 (some 19) (.int .i64 q) (by kernel_rfl) (fun _ _=>by kernel_rfl) (fun _ _ _ h=>h) hS ?_
  refine jm 14 (some 20) (.int .i64 (IntKind.i64.wrap ((q:Int)+1))) (.int .i64 ((q:Int)+1)) (by rw[w1]) (by kernel_rfl) (fun _ _=>by kernel_rfl) (fun _ _ _ h=>h) hS ?_
  refine aM [11] (by kernel_rfl) (by simp) ?_
  refine bJ 11 (some 17) (.slice (some ⟨p.b,0,none⟩) m p.c) _ (by kernel_rfl) (iG 16 (by kernel_rfl) (by kernel_rfl) (pL cGd)) hS ?_ aZ;refine bS 15 (some 21) 202 #[.slice (some ⟨p.b,0,none⟩) m p.c,.int .i64 q,.int .i64 ((q:Int)+1)] (by kernel_rfl) (by kernel_rfl) t1 ?_
  rintro e' t ⟨rfl,R2,C2⟩
  have P:t.cell? ⟨g,0,none⟩=_:=(World.cell?_of_block (a:=⟨g,0,none⟩) (C2.same g (aK cgd) ng)).trans cgd
  have cG2:t.cell? ⟨G,i,none⟩=_:=(World.cell?_of_block (a:=⟨G,i,none⟩) (C2.same _ (aK cGd) nG)).trans cGd
  have fG2:t.frozen? ⟨G,i,none⟩=false:=(hR.drew.chg C2 nG).free i;refine⟨_,rfl,P,?_⟩;replace hS:=P;refine ay 16 (some 22) (.pointer (some ⟨G,i,none⟩)) (by kernel_rfl) (fun _ _=>eQ (x:=9) (y:=10) (n:=n) (c:=C) (by kernel_rfl) hpp (by kernel_rfl) (by kernel_rfl) (rfl) (hin)) (fun _ _ _ h=>h) hS ?_
  refine aM [17] (by kernel_rfl) (by simp) ?_
  refine dq 17 (t.setCell ⟨G,i,none⟩ (.slice (some ⟨p.b,0,none⟩) (m - 1) p.c)) (by kernel_rfl) (kK 22 21 (by kernel_rfl) (by kernel_rfl) (by kernel_rfl) cG2 fG2) (bX E P) ?_ aZ;refine bI (by kernel_rfl) ?_
  exact⟨(),by kernel_rfl,t,rfl,R2,C2⟩
 rintro - w' ⟨t,rfl,R2,C2⟩;simp only[jt,Act.put,List.setIfInBounds_toArray,List.set_cons_zero,List.set_cons_succ]
 have M:Chg (·=p.b) w t:=(Chg.of (F:=(·=p.b)) (cj w)).trans C2 (fun _ _ h=>h);obtain⟨p',aa⟩:∃ p':Pg,Hid (p'=⟨p.b,p.c,p.es.take q ++ p.es.drop (q+1)⟩):=⟨_,rfl⟩
 have hlen:(p.es.take q ++ p.es.drop (q+1)).length=m - 1:=by have:=J.out;simp;omega
 have hA':PgA t D p':=by
  rw[aa.out];refine⟨?_,fun e he=>?_⟩
  ·show Rw t _ 2 p.b (p.es.take q ++ p.es.drop (q+1)).length p.c _
   rw[hlen];exact R2.to (CN p.es q)
  ·have he':e∈p.es:=by
    rcases List.mem_append.1 he with h | h
    ·exact List.mem_of_mem_take h
    ·exact List.mem_of_mem_drop h
   refine(O.1.dP e he').off fun b hb hk=>M.same b hb fun f=>?_
   subst f;obtain⟨cs,k⟩:=hk;obtain⟨ds,k'⟩:=O.1.row.kind;exact eL k k' (by decide) rfl
 have hv':p'.v=.slice (some ⟨p.b,0,none⟩) (m - 1) p.c:=by rw[aa.out];simp only[Pg.v];rw[hlen]
 have hb':p'.b=p.b:=by rw[aa.out]
 have he':p'.es=p.es.take q ++ p.es.drop (q+1):=by rw[aa.out]
 obtain⟨z,Y⟩:=A.put (p':=p') (D':=D) hg hFg hFG hR hi M (.inl hb') hA' (fun _ _ h=>h);rw[hv',hb'] at z;rw[hv'] at Y
 have hF3:∀ b,((F b/\b≠p.b)\/b=p.b)->F b:=fun b h=>h.elim (fun h=>h.1) (fun h=>by rw[h];exact O.2)
 have P:t.cell? ⟨g,0,none⟩=_:=(World.cell?_of_block (a:=⟨g,0,none⟩) (M.same g (aK cg) ng)).trans cg
 have cG2:t.cell? ⟨G,i,none⟩=_:=(World.cell?_of_block (a:=⟨G,i,none⟩) (M.same _ (aK cG) nG)).trans cG
 have cg3:(t.setCell ⟨G,i,none⟩ (.slice (some ⟨p.b,0,none⟩) (m - 1) p.c)).cell? ⟨g,0,none⟩=some (.slice (some ⟨G,0,none⟩) n C):=bX E P
 have cG3:(t.setCell ⟨G,i,none⟩ (.slice (some ⟨p.b,0,none⟩) (m - 1) p.c)).cell? ⟨G,i,none⟩=some (.slice (some ⟨p.b,0,none⟩) (m - 1) p.c):=World.cell?_setCell_same' _ _ _ (by rw[cG2];rfl);have R:=(hg.chg M ng).off E (i:=i) (.slice (some ⟨p.b,0,none⟩) (m - 1) p.c);generalize (t.setCell ⟨G,i,none⟩ (.slice (some ⟨p.b,0,none⟩) (m - 1) p.c))=W3 at *;generalize hF3d:(fun x=>(F x/\x≠p.b)\/x=p.b)=F3 at z
 have d:∀ b,F3 b->F b:=fun b h=>hF3 b (by rw[<- hF3d] at h;exact h)
 have hi3:(L.set i p')[i]?=some p':=by rw[List.getElem?_set_self hil]
 have hE3:ens (L.set i p')=(ens L).set i (p.es.take q ++ p.es.drop (q+1)):=by rw[rm,he']
 have hs3:∀ es∈ens (L.set i p'),es.length<=32:=fun es he=>by
  rw[hE3] at he;rcases List.mem_or_eq_of_mem_set he with h | h
  ·exact hs es h
  ·rw[h,hlen];have:=J.out;omega
 have B:(L.set i p').length=n:=by rw[List.length_set];exact u.out
 have hX:p.es.take q ++ p.es.drop (q+1)=[]\/p.es.take q ++ p.es.drop (q+1)≠[]:=Classical.em _
 have l:Hid (rmQ (ens L) i q=if p.es.take q ++ p.es.drop (q+1)=[] then (ens L).take i ++ (ens L).drop (i+1) else if jnb (ens (L.set i p')) i then jnQ (ens (L.set i p')) i else if 1<=i/\jnb (ens (L.set i p')) (i - 1) then jnQ (ens (L.set i p')) (i - 1) else ens (L.set i p')):=by
  show _=_
  unfold rmQ;rw[eW hi,hE3]
 rcases hX with hX | hX
 ·have Z:m=1:=by rw[hX] at hlen; simp at hlen; have:=J.out; omega
  obtain⟨G2,D3,hg3,hFg3,hFG3,hR3⟩:=z.opn (by simp[hL]);obtain⟨rfl,rfl⟩:G2=G/\D3=C:=by
   have:=(hg3.eq R).1;simp at this;exact⟨this.1,this.2⟩
  have hR3':=hR3;rw[B] at hR3';have t4:=delP (i:=i) hR3' (by omega) (ve _)
  have w3:IntKind.i64.wrap ((i:Int)+1)=(i:Int)+1:=by rw[IntKind.wrap_i64];have:=u.out;omega
  have cG3':W3.cell? ⟨G2,i,none⟩=some (.slice (some ⟨p.b,0,none⟩) 0 p.c):=by rw[Z] at cG3;exact cG3
  have z1:(i:Int) < n:=by omega
  have S:((L.set i p').take i ++ (L.set i p').drop (i+1)).Sublist (L.set i p'):=by
   have h:=List.Sublist.append (List.Sublist.refl ((L.set i p').take i)) (List.drop_sublist 1 ((L.set i p').drop i));rw[List.drop_drop,List.take_append_drop] at h;exact h
  have r:Hid (ens ((L.set i p').take i ++ (L.set i p').drop (i+1))=rmQ (ens L) i q):=by
   show _=_
   rw[l.out,if_pos hX,List.take_set_of_le (Nat.le_refl _),List.drop_set_of_lt (by omega)];simp[ens,List.map_take,List.map_drop]
  have HX:Hid _:=hX;clear hX l cG3 Z;go_wp2_with (go_at_call 203;refine t4.mono ?_;rintro e' V ⟨rfl,R5,C5⟩;have cg5:V.cell? ⟨g,0,none⟩=_:=(World.cell?_of_block (a:=⟨g,0,none⟩) (C5.same g (aK cg3) E)).trans cg3;have fg5:V.frozen? ⟨g,0,none⟩=false:=(R.chg C5 E).free 0);go_end0;obtain⟨A6,C6⟩:=lB (w:=W3) (w1:=V) (F:=F3) (D:=D) (g:=g) (G:=G2) (G':=G2) (C':=D3) (n:=n - 1) (L':=(L.set i p').take i ++ (L.set i p').drop (i+1))
   (fun p O=>z.cC p (S.mem O)) (z.apart.sublist (S.map _)) z.kind R hFg3 hFG3 (fun e=>E e.symm) C5 (fun p O=>(z.cC p (S.mem O)).1.fk hR3)
   (by simp;have:=u.out;omega) (by simpa[List.map_take,List.map_drop] using R5)
  refine⟨_,_,rfl,r.out,A6,fun b hb=>?_,Y.trans C6 fun b _ h=>d b h⟩;rcases hb with⟨h,_⟩ | rfl
  ·exact .inl (d b h)
  ·exact .inl (d _ hFG3)
 ·have Z:0 < m - 1:=by
   rw[<- hlen];exact List.length_pos_iff.2 hX
  obtain⟨m1,hm2⟩:∃ m1,Hid (m - 1=m1):=⟨_,rfl⟩
  rw[hm2.out] at cG3 Z
  have z0:¬ ((m1:Int)=0):=by omega
  have z1:(i:Int) < n:=by omega
  have w3:IntKind.i64.wrap ((i:Int) - 1)=(i:Int) - 1:=by rw[IntKind.wrap_i64];omega
  have N:=l.out;rw[if_neg hX] at N
  have l:Hid _:=N;clear N
  have HX:Hid _:=hX;clear hX
  have hf3:∀ es∈ens (L.set i p'),es≠[]:=fun es he=>by
   rw[hE3] at he;rcases List.mem_or_eq_of_mem_set he with h | h
   ·exact hf es h
   ·rw[h];exact HX.out
  have H:∀ (W:World) (j:Nat),bQ W F3 D g (L.set i p')->jnb (ens (L.set i p')) j=true->Calls Tryz.prog 205 #[.pointer (some ⟨g,0,none⟩),.int .i64 j] W fun e' w'=>∃ F' L',e'=.returned (.tuple #[])/\ens L'=jnQ (ens (L.set i p')) j/\bQ w' F' D g L'/\(∀ b,F' b->F3 b\/W.heap.size<=b)/\Chg F3 W w':=fun W j AW hj=>by
   unfold jnb at hj;simp only[Bool.and_eq_true,decide_eq_true_eq] at hj
   have hl:j+1 < (L.set i p').length:=by have:=hj.1;simpa[ens] using this
   obtain⟨a,ha⟩:∃ a,(L.set i p')[j]?=some a:=⟨_,List.getElem?_eq_getElem (by omega)⟩
   obtain⟨c,hc⟩:∃ c,(L.set i p')[j+1]?=some c:=⟨_,List.getElem?_eq_getElem hl⟩
   have ma:a.es∈ens (L.set i p'):=List.mem_map.2 ⟨a,List.mem_of_getElem? ha,rfl⟩
   have mc:c.es∈ens (L.set i p'):=List.mem_map.2 ⟨c,List.mem_of_getElem? hc,rfl⟩;have s1:=hs3 _ ma;have s2:=hs3 _ mc;exact AA AW ha hc (by rw[B];have:=u.out;omega) (List.length_pos_iff.2 (hf3 _ ma)) (by omega) (by omega)
  have T:=zg z (i:=i) (by omega) (by rw[B];have:=u.out;omega) (fun es he=>by have:=hs3 es he;omega);by_cases Q:jnb (ens (L.set i p')) i=true
  ·have r:Hid (rmQ (ens L) i q=jnQ (ens (L.set i p')) i):=by show _=_; rw[l.out,if_pos Q]
   have t5:∀ W,Below W3.heap.size W3 W->_:=fun W s=>H W i (z.keep s) Q
   rw[Q] at T;clear H Q l
   go_wp2_with (first
    | (go_at_call 204;refine T.mono ?_;rintro e' V ⟨rfl,o⟩;have t6:=t5 V o;clear t5 T)
    | (go_at_call 205;refine t6.mono ?_;rintro e' w6 ⟨F6,L6,rfl,hE6,A6,hF6,C6⟩))
   go_end0;refine⟨F6,L6,rfl,hE6.trans r.out.symm,A6,fun b hb=>?_,(Y.trans (Chg.of (F:=F) o) (fun _ _ h=>h)).trans C6 fun b _ h=>d b h⟩;rcases hF6 b hb with h | h
   ·exact .inl (d b h)
   ·exact .inr (by have:=Y.size;have:=o.size;omega)
  ·have U:jnb (ens (L.set i p')) i=false:=by simpa using Q
   by_cases hi0:i=0
   ·have r:Hid (rmQ (ens L) i q=ens (L.set i p')):=by show _=_; rw[l.out,if_neg Q,if_neg (by omega)]
    rw[U] at T
    have tn:∀ W:World,Calls Tryz.prog 204 #[.pointer (some ⟨g,0,none⟩),.int .i64 (-1)] W _:=fun W=>jn_neg
    have mk:True:=trivial;clear H Q l U;subst hi0
    go_wp2_with (first
     | (go_at_call 204;clear mk;refine T.mono ?_;rintro e' V ⟨rfl,o⟩;clear T)
     | (go_at_call 204;refine(tn _).mono ?_;rintro e' w6 ⟨rfl,I⟩))
    go_end0;have s:=aA o I
    first
     | exact⟨F3,_,rfl,r.out.symm,z.keep s,fun b hb=>.inl (d b hb),Y.trans (Chg.of (F:=F) s) (fun _ _ h=>h)⟩
     | exact⟨rfl,F3,_,r.out.symm,z.keep s,fun b hb=>.inl (d b hb),Y.trans (Chg.of (F:=F) s) (fun _ _ h=>h)⟩
   ·obtain⟨j,rfl⟩:∃ j,i=j+1:=⟨i - 1,by omega⟩
    have tk:∀ W,Below W3.heap.size W3 W->Calls Tryz.prog 204 #[.pointer (some ⟨g,0,none⟩),.int .i64 j] W _:=fun W s=>zg (z.keep s) (i:=j) (by omega) (by rw[B];have:=u.out;omega) (fun es he=>by have:=hs3 es he;omega)
    have e1:((j+1:Nat):Int) - 1=(j:Int):=by omega
    have e2:(j:Int)+1 - 1=(j:Int):=by omega
    rw[U] at T
    have mk:True:=trivial
    have mk2:True:=trivial;by_cases h3:jnb (ens (L.set (j+1) p')) j=true
    ·have r:Hid (rmQ (ens L) (j + 1) q=jnQ (ens (L.set (j + 1) p')) j):=by show _=_; rw[l.out,if_neg Q,if_pos ⟨by omega,by simpa using h3⟩]; rfl
     have t5:∀ W,Below W3.heap.size W3 W->_:=fun W s=>H W j (z.keep s) h3
     rw[h3] at tk;clear H Q l U h3
     go_wp2_with (first
      | (go_at_call 204;clear mk;refine T.mono ?_;rintro e' V ⟨rfl,o⟩;have K:=tk V o;clear T tk)
      | (go_at_call 204;refine K.mono ?_;rintro e' w6 ⟨rfl,I⟩;have s:=aA o I;have t6:=t5 w6 s;clear t5 K)
      | (go_at_call 205;refine t6.mono ?_;rintro e' w7 ⟨F6,L6,rfl,hE6,A6,hF6,C6⟩))
     go_end0;refine⟨F6,L6,rfl,hE6.trans r.out.symm,A6,fun b hb=>?_,(Y.trans (Chg.of (F:=F) s) (fun _ _ h=>h)).trans C6 fun b _ h=>d b h⟩;rcases hF6 b hb with h | h
     ·exact .inl (d b h)
     ·exact .inr (by have:=Y.size;have:=s.size;omega)
    ·have h3':jnb (ens (L.set (j + 1) p')) j=false:=by simpa using h3
     have r:Hid (rmQ (ens L) (j+1) q=ens (L.set (j+1) p')):=by show _=_;rw[l.out,if_neg Q,if_neg (fun h=>h3 (by simpa using h.2))]
     rw[h3'] at tk;clear H Q l U h3 h3'
     go_wp2_with (first
      | (go_at_call 204;clear mk;refine T.mono ?_;rintro e' V ⟨rfl,o⟩;have K:=tk V o;clear T tk)
      | (go_at_call 204;refine K.mono ?_;rintro e' w6 ⟨rfl,I⟩;have s:=aA o I;clear K))
     go_end0
     first
      | exact⟨F3,_,rfl,r.out.symm,z.keep s,fun b hb=>.inl (d b hb),Y.trans (Chg.of (F:=F) s) (fun _ _ h=>h)⟩
      | exact⟨rfl,F3,_,r.out.symm,z.keep s,fun b hb=>.inl (d b hb),Y.trans (Chg.of (F:=F) s) (fun _ _ h=>h)⟩
end Pg
end
section
namespace Pg
open Go.RowKit Go.Lib
theorem tJ {w:World} {F D:Nat->Prop} {g:Nat} {L:List Pg} {kv:Value} {k:List Int} (A:bQ w F D g L) (O:Ord (ens L)) (hs:∀ es∈ens L,es.length<=32) (hn:L.length<=100000000) (h:By w kv k) :
  Calls Tryz.prog 113 #[.pointer (some ⟨g,0,none⟩),kv] w fun e w'=>e=.returned (.bool (has (ens L) k))/\∃ F' L',ens L'=iw (ens L) k/\bQ w' F' D g L'/\(∀ b,F' b->F b\/w.heap.size<=b)/\Chg F w w':=by
 by_cases hL:L=[]
 ·subst hL;have t:=nm (v:=kv) A
  have e1:has (ens []) k=false:=rfl
  have e2:Hid (iw (ens []) k=ens []):=rfl;rw[e1];have o:=(show Hid _ from A)
  clear A O hs h;go_enter Tryz.func113,Tryz.ntmps113;go_wp2_with (go_at_call 147;refine t.mono ?_;rintro y m ⟨rfl,rfl⟩);go_ret;exact⟨rfl,F,[],e2.out.symm,o.out,fun b hb=>.inl hb,Chg.refl _ _⟩
 ·obtain⟨p,x,j⟩:=p9 hL k;have u:=List.mem_of_getElem? x;have C:=hs p.es (List.mem_map.2 ⟨p,u,rfl⟩);have t:=mj A O h (by omega) x (by omega)
  have l:has (ens L) k=thr (kys p.es) k:=by
   unfold has;rw[j];have:(ens L).isEmpty=false:=by simp[ens,hL]
   simp[this]
  rw[l];by_cases f:thr (kys p.es) k=true
  ·obtain⟨e,he,E⟩:=mw f;have s:=(List.getElem?_eq_some_iff.1 he).1
   have r:Hid (iw (ens L) k=rmQ (ens L) (pgi (ens L) k) (plc (kys p.es) k)):=by
    show _=_
    unfold iw;rw[l,f,if_pos rfl,j]
   have z:∀ w',Below w.heap.size w w'->_:=fun w' c=>uI (A.keep c) x s hs O.full hn
   rw[f] at t ⊢;generalize pgi (ens L) k=i at *;generalize plc (kys p.es) k=q at *;clear A O hs h f l;go_enter Tryz.func113,Tryz.ntmps113
   go_wp2_with (first
    | (go_at_call 147;refine t.mono ?_;rintro y m ⟨rfl,c⟩;have n:=z m c;clear t z)
    | (go_at_call 166;refine n.mono ?_;rintro y G ⟨F',L',rfl,B,hA,hF,hC⟩))
   go_ret;exact⟨rfl,F',L',B.trans r.out.symm,hA,fun b hb=>(hF b hb).imp id (fun h=>Nat.le_trans c.size h),(Chg.of (F:=F) c).trans hC (fun _ _ h=>h)⟩
  ·have d:thr (kys p.es) k=false:=by simpa using f
   have r:Hid (iw (ens L) k=ens L):=by
    show _=_
    unfold iw;rw[l,d,if_neg (by decide)]
   rw[d] at t ⊢;generalize pgi (ens L) k=i at *;generalize plc (kys p.es) k=q at *;have o:=(show Hid _ from A)
   clear A O hs h f d l;go_enter Tryz.func113,Tryz.ntmps113;go_wp2_with (go_at_call 147;refine t.mono ?_;rintro y m ⟨rfl,c⟩);go_ret;exact⟨rfl,F,L,r.out.symm,o.out.keep c,fun b hb=>.inl hb,Chg.of c⟩
theorem Dw {w:World}:Calls Tryz.prog 42 #[] w fun e w'=>∃ g,e=.returned (.pointer (some ⟨g,0,none⟩))/\g=w.heap.size/\bQ w' (· = g) (fun _=>False) g []/\Below w.heap.size w w':=by
 go_enter Tryz.func42,Tryz.ntmps42;go_wp2;go_ret;refine⟨_,rfl,rfl,⟨⟨_,aD w [.slice none 0 0] 148,rfl,.inl ⟨rfl,rfl⟩⟩,fun p c=>by simp at c,by simp,fun b hb=>?_⟩,ae w _⟩;subst hb;exact⟨_,_,aD w [.slice none 0 0] 148,by decide⟩
end Pg
end
section
namespace Pg
open Go.RowKit Go.Lib
end Pg
end
section
namespace Pg
open Go.RowKit Go.Lib
section
variable {B l B' g n:Nat}{W W' w:World}{cs:List Value}{fn:FuncId}{tmps args lb:Array Value}{ps:Array Tmp}{assign body:Code}{I:Nat->World->Prop}{Ix:Code->Nat->World->Prop}{Ar:Nat->Array Value->Nat->World->Prop}{Rd:World->Prop}
structure Rec(B:Nat)(W W':World):Prop where
 os:W'.os=W.os
 tape:W'.tape=W.tape
 output:W'.output=W.output
 size:W.heap.size<=W'.heap.size
 same:∀ (k:Nat) (o:Obj),W.heap[k]?=some o->(k < B\/o.isCells=true)->W'.heap[k]?=some o
def St(B:Nat)(I:World->Prop):Prop:=∀ W W',I W->Rec B W W'->I W'
theorem Rec.of(h:Below W.heap.size W W'):Rec B W W':=⟨h.os,h.tape,h.output,h.size,fun k _ hk _=>(h.block k (lt_of_block hk)).trans hk⟩
theorem Rec.put{o:Obj}(h:W.heap[l]?=some o)(d:o.isCells=false)(f:B<=l)(c:Obj):Rec B W (W.putObj l c) :=
 ⟨rfl,rfl,rfl,by simp,fun k x a hx=>by
  have b:k≠l:=fun e=>by
   subst e;rw[h] at a
   cases a;rcases hx with hx | hx
   ·omega
   ·rw[d] at hx;cases hx
  exact(World.putObj_heap_other b).trans a⟩
theorem Rec.mono(h:Rec B W W')(hB:B'<=B):Rec B' W W':=⟨h.os,h.tape,h.output,h.size,fun k o hk ho=>h.same k o hk (ho.imp (fun h=>by omega) id)⟩
theorem Rec.blk(h:Rec B W W'){t:TypeId}(hb:Blk W g cs t):Blk W' g cs t:=⟨h.same g _ hb.blk (.inr rfl)⟩
theorem yl(hb:Below W.heap.size W W')(b:l < W.heap.size)(o:Obj):Below (W.putObj l o).heap.size (W.putObj l o) (W'.putObj l o):=by
 refine⟨hb.os,hb.tape,hb.output,by simpa using hb.size,fun k a=>?_⟩;simp at a;by_cases e:k=l
 ·subst e;have:=hb.size;rw[World.putObj_heap_same (by omega),World.putObj_heap_same b]
 ·rw[World.putObj_heap_other e,World.putObj_heap_other e];exact hb.block k a
structure Cel(W W':World):Prop where
 size:W.heap.size<=W'.heap.size
 same:∀ (k:Nat) (o:Obj),W.heap[k]?=some o->o.isCells=true->W'.heap[k]?=some o
theorem Rec.cel(h:Rec B W W'):Cel W W':=⟨h.size,fun k o hk ho=>h.same k o hk (.inr ho)⟩
def Safe(Tp:TypeId->Prop)(o:Obj):Prop:=∀ cs t fz,o=.cells cs t fz->¬ Tp t
theorem yh{Tp:TypeId->Prop}{r:Loop}:Safe Tp (.loop r):=fun _ _ _ e=>by cases e
theorem mT{Tp:TypeId->Prop}{d:Option (List Deferred)}:Safe Tp (.deferred d):=fun _ _ _ e=>by cases e
structure bG(Tp:TypeId->Prop)(B:Nat)(W W':World):Prop where
 size:W.heap.size<=W'.heap.size
 same:∀ (k:Nat) (o:Obj),B<=k->W.heap[k]?=some o->Safe Tp o->W'.heap[k]?=some o
theorem bG.of{Tp:TypeId->Prop}(h:Below W.heap.size W W'):bG Tp B W W':=⟨h.size,fun k _ _ hk _=>(h.block k (lt_of_block hk)).trans hk⟩
theorem bG.trans{Tp:TypeId->Prop}{W'':World}(h:bG Tp B W W')(h':bG Tp B W' W''):bG Tp B W W'':=⟨Nat.le_trans h.size h'.size,fun k o hB hk ho=>h'.same k o hB (h.same k o hB hk ho) ho⟩
theorem bG.mono{Tp:TypeId->Prop}(h:bG Tp B W W')(hB:B<=B'):bG Tp B' W W':=⟨h.size,fun k o hk h0 ho=>h.same k o (Nat.le_trans hB hk) h0 ho⟩
theorem bG.blk{Tp:TypeId->Prop}(h:bG Tp B W W'){t:TypeId}(hb:Blk W g cs t)(hg:B<=g)(ht:¬ Tp t):Blk W' g cs t:=⟨h.same g _ hg hb.blk (fun _ _ _ e=>by cases e;exact ht)⟩
def Itr(Tp:TypeId->Prop)(gf:Nat)(lb:Array Value)(N:Nat)(Ar:Nat->Array Value->Nat->World->Prop)(Rd:World->Prop):Prop :=
 ∀ (l:Nat) (J Jx:Nat->World->Prop) (W:World),(∀ i,St W.heap.size (J i))->(∀ i,St W.heap.size (Jx i))->(∀ i V,J i V->Rd V) ->
  (∀ i args V V',i < N->J i V->W.heap.size<=V.heap.size->Below V.heap.size V V'->Ar i args V.heap.size V'->YieldAt Fence.wide 0 Tryz.prog l args V' fun e V''=>bG Tp W.heap.size V' V''/\((e=.returned (.bool true)/\J (i+1) V'')\/(e=.returned (.bool false)/\Jx (i+1) V''))) ->
  J 0 W ->
  Calls Tryz.prog gf (#[.func (.yield l) #[] #[]] ++ lb) W fun e W'=>(∃ v,e=.returned v)/\W.heap.size<=W'.heap.size/\(J N W'\/∃ i,i < N/\Jx (i+1) W')
def o8(Tp:TypeId->Prop)(B:Nat)(I:Nat->World->Prop)(Ix:Code->Nat->World->Prop)(i:Nat)(W:World):Exit->Act->World->Prop
 | .normal,_,W'=>bG Tp B W W'/\I i W'
 | .ret,_,W'=>bG Tp B W W'/\Ix .ret i W'
 | .exit id,_,W'=>bG Tp B W W'/\Ix (.exit id) i W'
 | .goto t,_,W'=>bG Tp B W W'/\Ix (.goto t) i W'
 | .panic _,_,_=>False
 | .outgrown,_,_=>False
def dn(fn:FuncId)(tmps:Array Value)(ps:Array Tmp)(assign body:Code)(dd:Nat)(st:LoopState)(pe:Option Code):Loop:={ state:=st,pending:=pe,fn,tmps,params:=ps,assign,body,defers:=dd }
structure gC(Tp:TypeId->Prop)(B l:Nat)(W W':World):Prop where
 size:W.heap.size<=W'.heap.size
 same:∀ (k:Nat) (o:Obj),B<=k->k≠l->W.heap[k]?=some o->Safe Tp o->W'.heap[k]?=some o
theorem gC.from{Tp:TypeId->Prop}{B1:Nat}(h:gC Tp B l W W')(hB:B<=B1)(hl:l < B1):bG Tp B1 W W':=⟨h.size,fun k o hk h0 ho=>h.same k o (by omega) (by omega) h0 ho⟩
theorem jD{Tp:TypeId->Prop}{i:Nat}{dd:Nat}{V:World}(z:∀ i args n V W,Ar i args n V->Cel V W->Ar i args n W)(T:∀ i,St B (I i))(G:∀ c i,St B (Ix c i))(q:B<=l)(hL:V.heap[l]?=some (.loop (dn fn tmps ps assign body dd .ready none)))(hi:I i V)(hb:Below V.heap.size V W)(Y:Ar i args V.heap.size W)(R:args.size=ps.size)(x:assign.wpIn (Fence.wide.inRound l) n Tryz.prog (Exit.then (fun a1 W1=>Below W.heap.size W W1/\∀ V2 W2,I i V2->Below V2.heap.size V2 W2->Ar i args V2.heap.size W2->(∀ b,b≠l->W2.heap[b]?=W1.heap[b]?)->W2.heap.size=W1.heap.size->V2.heap.size=V.heap.size->(∃ r,W2.heap[l]?=some (.loop r))->body.wpIn (Fence.wide.inRound l) n Tryz.prog (o8 Tp B I Ix (i+1) W2) a1 W2) (fun _ _ _=>False)) { tmps:=(ps.zip args).foldl (fun t (p,v)=>t.setIfInBounds p v) tmps,defers:=[] } W) :
  YieldAt Fence.wide 0 Tryz.prog l args W fun e W'=>gC Tp B l W W'/\((e=.returned (.bool true)/\I (i+1) W'/\W'.heap[l]?=some (.loop (dn fn tmps ps assign body dd .ready none)))\/(e=.returned (.bool false)/\∃ c,Ix c (i+1) W'/\W'.heap[l]?=some (.loop (dn fn tmps ps assign body dd .done (some c))))):=by
 have K:l < V.heap.size:=lt_of_block hL
 have H:W.heap[l]?=some (.loop (dn fn tmps ps assign body dd .ready none)):=(hb.block l K).trans hL;have hy:=run_yield (P:=Tryz.prog) (args:=args) H R
 have w:assign.wpIn (Fence.wide.inRound l) n Tryz.prog (Exit.then (fun X Z=>∃ w₂,(Instr.beginRound l).run Tryz.prog Z=.ok () w₂/\body.wpIn (Fence.wide.inRound l) n Tryz.prog (roundPost Tryz.prog l fun e W'=>gC Tp B l W W'/\((e=.returned (.bool true)/\I (i+1) W'/\W'.heap[l]?=some (.loop (dn fn tmps ps assign body dd .ready none)))\/(e=.returned (.bool false)/\∃ c,Ix c (i+1) W'/\W'.heap[l]?=some (.loop (dn fn tmps ps assign body dd .done (some c)))))) X w₂) (fun _ _ _=>False)) { tmps:=(ps.zip args).foldl (fun t (p,v)=>t.setIfInBounds p v) tmps,defers:=[] } W:=by
  refine wpIn_mono x ?_
  intro e a1 W1 h
  cases e with
  | normal =>
   obtain⟨u,E⟩:=h
   have D:W1.heap[l]?=some (.loop (dn fn tmps ps assign body dd .ready none)):=(u.block l (lt_of_block H)).trans H
   have A:l < W1.heap.size:=lt_of_block D;refine⟨_,run_beginRound D rfl,?_⟩
   have Q:Below V.heap.size V W1:=aA hb u;have U:=E (V.putObj l (.loop { dn fn tmps ps assign body dd .ready none with state:=.busy })) (W1.putObj l (.loop { dn fn tmps ps assign body dd .ready none with state:=.busy }))
    (T i _ _ hi (Rec.put hL rfl q _)) (yl Q K _) (by simpa using z i args _ _ _ (z i args _ _ _ Y (Rec.of (B:=0) u).cel) (Rec.put D rfl (Nat.zero_le _) _).cel)
    (fun b hb=>World.putObj_heap_other hb) (by simp) (by simp) ⟨_,World.putObj_heap_same A⟩
   have O:(W1.putObj l (.loop { dn fn tmps ps assign body dd .ready none with state:=.busy })).heap[l]?=some (.loop { dn fn tmps ps assign body dd .ready none with state:=.busy }):=World.putObj_heap_same A;generalize hW2:W1.putObj l (.loop { dn fn tmps ps assign body dd .ready none with state:=.busy })=W2 at *
   have L:gC Tp B l W W2:=by
    rw[<- hW2];refine⟨by simpa using u.size,fun k _ N y M _=>?_⟩;rw[World.putObj_heap_other y];exact(u.block k (lt_of_block M)).trans M
   have fin:∀ (jump:Option Code) (s:World),bG Tp B W2 s ->
     (Instr.endRound l jump).run Tryz.prog s=.ok (.bool jump.isNone) (s.putObj l (.loop (dn fn tmps ps assign body dd (if jump.isNone then .ready else .done) jump)))/\s.heap[l]?=some (.loop { dn fn tmps ps assign body dd .ready none with state:=.busy }) /\
     (s.putObj l (.loop (dn fn tmps ps assign body dd (if jump.isNone then .ready else .done) jump))).heap[l]?=some (.loop (dn fn tmps ps assign body dd (if jump.isNone then .ready else .done) jump)) /\
     gC Tp B l W (s.putObj l (.loop (dn fn tmps ps assign body dd (if jump.isNone then .ready else .done) jump))):=fun jump s a=>by
    have d:=a.same _ _ q O yh;refine⟨run_endRound (P:=Tryz.prog) jump d,d,World.putObj_heap_same (lt_of_block d),⟨by simpa using Nat.le_trans L.size a.size,fun k o N y M S=>?_⟩⟩;rw[World.putObj_heap_other y];exact a.same k o N (L.same k o N y M S) S
   refine wpIn_mono U ?_
   intro e a3 s J
   cases e with
   | normal =>
    obtain⟨a,m⟩:=J;obtain⟨C,d,j,g⟩:=fin none s a;exact⟨_,_,C,g,.inl ⟨rfl,T _ _ _ m (Rec.put d rfl q _),j⟩⟩
   | ret =>
    obtain⟨a,m⟩:=J;obtain⟨C,d,j,g⟩:=fin (some .ret) s a;exact⟨_,_,C,g,.inr ⟨rfl,.ret,G _ _ _ _ m (Rec.put d rfl q _),j⟩⟩
   | exit id =>
    obtain⟨a,m⟩:=J;obtain⟨C,d,j,g⟩:=fin (some (.exit id)) s a;exact⟨_,_,C,g,.inr ⟨rfl,.exit id,G _ _ _ _ m (Rec.put d rfl q _),j⟩⟩
   | goto t =>
    obtain⟨a,m⟩:=J;obtain⟨C,d,j,g⟩:=fin (some (.goto t)) s a;exact⟨_,_,C,g,.inr ⟨rfl,.goto t,G _ _ _ _ m (Rec.put d rfl q _),j⟩⟩
   | panic ch=>exact J.elim
   | outgrown=>exact J.elim
  | ret=>exact h.elim
  | exit id=>exact h.elim
  | goto t=>exact h.elim
  | panic ch=>exact h.elim
  | outgrown=>exact h.elim
 exact⟨fn,_,assign,body,hy,by
  have:=roundIn_of_wpIn (F:=Fence.wide) (n:=n) (P:=Tryz.prog) (f:=fn) trivial w
  exact⟨this.1,fun c cs _=>this.2 c cs (fun _ h=>by cases h)⟩⟩
def RoundW(Tp:TypeId->Prop)(w:World)(N n:Nat)(ps:Array Tmp)(assign body:Code)(tmps:Array Value)(Ar:Nat->Array Value->Nat->World->Prop)(I:Nat->World->Prop)(Ix:Code->Nat->World->Prop):Prop :=
 ∀ (l i:Nat) (args:Array Value) (V W:World),w.heap.size<=l->l < V.heap.size->(∃ r,V.heap[l]?=some (.loop r))->i < N->I i V->Below V.heap.size V W->Ar i args V.heap.size W ->
  assign.wpIn (Fence.wide.inRound l) n Tryz.prog (Exit.then (fun a1 W1=>Below W.heap.size W W1/\∀ V2 W2,I i V2->Below V2.heap.size V2 W2->Ar i args V2.heap.size W2->(∀ b,b≠l->W2.heap[b]?=W1.heap[b]?)->W2.heap.size=W1.heap.size->V2.heap.size=V.heap.size->(∃ r,W2.heap[l]?=some (.loop r))->body.wpIn (Fence.wide.inRound l) n Tryz.prog (o8 Tp w.heap.size I Ix (i+1) W2) a1 W2) (fun _ _ _=>False)) { tmps:=(ps.zip args).foldl (fun t (p,v)=>t.setIfInBounds p v) tmps,defers:=[] } W
theorem iF{Tp:TypeId->Prop}{r N:Nat}(Z:Itr Tp r lb N Ar Rd){g:Operand}{Q:Exit->Act->World->Prop}{a:Act}(R:a.eval g=.func (.func r) #[] lb)(S:∀ args w,(callFunc r args).run Tryz.prog w=.ok (.enter r args) w)(u:∀ i args n V W,Ar i args n V->Cel V W->Ar i args n W)(G:∀ i args n V,Ar i args n V->args.size=ps.size)(I:Nat->World->Prop)(Ix:Code->Nat->World->Prop)(y:∀ i,St w.heap.size (I i))(o:∀ c i,St w.heap.size (Ix c i))(H:∀ i V,I i V->Rd V)(O:I 0 w)(j:RoundW Tp w N n ps assign body a.tmps Ar I Ix)(m:∀ D W,w.heap.size<=D->W.heap[D]?=some (.deferred (some []))->I N W->Q .normal { a with defers:={ target:=.collected D,args:=#[] } :: a.defers } W)(q:∀ D c i W,w.heap.size<=D->W.heap[D]?=some (.deferred (some []))->i < N->Ix c (i+1) W->c.wpIn Fence.wide n Tryz.prog Q { a with defers:={ target:=.collected D,args:=#[] } :: a.defers } W) :
  (Code.rangeFunc g ps assign body).wpIn Fence.wide n Tryz.prog Q a w:=by
 refine wpIn_rangeFunc ?_
 intro fn _;obtain⟨d,b⟩:∃ d,(w.alloc (.deferred (some []))).alloc (.loop (dn fn a.tmps ps assign body w.heap.size .ready none))=d:=⟨_,rfl⟩
 have z:Below w.heap.size w d:=by rw[<- b];exact aA (ae w _) (ae _ _)
 have T:d.heap.size=w.heap.size+1+1:=by rw[<- b];simp
 have E:d.heap[w.heap.size+1]?=some (.loop (dn fn a.tmps ps assign body w.heap.size .ready none)):=by
  rw[<- b];have:=World.alloc_heap_new (w.alloc (.deferred (some []))) (.loop (dn fn a.tmps ps assign body w.heap.size .ready none));rwa [World.size_alloc] at this
 have J:d.heap[w.heap.size]?=some (.deferred (some [])):=by
  rw[<- b];exact(Below.heap_alloc _ _ _ (by simp)).trans (World.alloc_heap_new w _)
 refine⟨w.heap.size + 1,[{ target:=.collected w.heap.size,args:=#[] }],d,{ target:=.fn (.func r) lb,args:=#[.func (.yield (w.heap.size + 1)) #[] #[]] },d,r,
  #[.func (.yield (w.heap.size+1)) #[] #[]] ++ lb,d,?_,?_,?_,?_,fun h=>(by cases h),?_⟩
 ·rw[<- b];exact run_enterLoop_outer _ _ _ _ _
 ·simp only[resolve,R];simp[go_sem]
 ·intro f' _;trivial
 ·simp[invoke,go_sem,S]
 ·refine callsIn_wide.2 ?_
  refine(Z (w.heap.size + 1)
   (fun i W=>I i W/\W.heap[w.heap.size+1]?=some (.loop (dn fn a.tmps ps assign body w.heap.size .ready none))/\W.heap[w.heap.size]?=some (.deferred (some [])))
   (fun i W=>∃ c,Ix c i W/\W.heap[w.heap.size+1]?=some (.loop (dn fn a.tmps ps assign body w.heap.size .done (some c)))/\W.heap[w.heap.size]?=some (.deferred (some [])))
   d (fun i X Y hx l=>⟨y i X Y hx.1 (l.mono (by omega)),l.same _ _ hx.2.1 (.inl (by omega)),l.same _ _ hx.2.2 (.inl (by omega))⟩)
   (fun i X Y hx l=>by obtain⟨c,C,K,A⟩:=hx;exact⟨c,o c i X Y C (l.mono (by omega)),l.same _ _ K (.inl (by omega)),l.same _ _ A (.inl (by omega))⟩)
   (fun i V hv=>H i V hv.1) ?_ ⟨y 0 _ _ O (Rec.of z),E,J⟩).mono ?_
  ·rintro i args V M p ⟨hi,f,s⟩ F hb L;refine(jD (B:=w.heap.size) u y o (by omega) f hi hb L (G _ _ _ _ L) (j _ i args V M (by omega) (lt_of_block f) ⟨_,f⟩ p hi hb L)).mono ?_
   rintro e U ⟨t,h⟩;have x:=t.same _ _ (Nat.le_refl _) (by omega) ((hb.block _ (lt_of_block s)).trans s) mT;refine⟨t.from (by omega) (by omega),h.imp (fun h=>⟨h.1,h.2.1,h.2.2,x⟩) (fun h=>?_)⟩;obtain⟨C,c,K,A⟩:=h;exact⟨C,c,K,A,x⟩
  ·rintro e W2 ⟨⟨v,rfl⟩,F,⟨hi,f,s⟩ | ⟨i,p,c,hi,f,s⟩⟩
   ·exact⟨none,_,run_endLoop (P:=Tryz.prog) f (by simp[dn]),m _ _ (Nat.le_refl _) ((World.putObj_heap_other (by omega)).trans s) (y _ _ _ hi (Rec.put f rfl (by omega) _))⟩
   ·exact⟨some c,_,run_endLoop (P:=Tryz.prog) f (by simp[dn]),q _ c i _ (Nat.le_refl _) ((World.putObj_heap_other (by omega)).trans s) p (o c _ _ _ hi (Rec.put f rfl (by omega) _))⟩
end
end Pg
end
section
namespace Pg
open Go.RowKit Go.Lib
section
variable {a b:Nat}{w:World}{v fv tv:Value}{t f:List Int}{D:Nat->Prop}{P:List (List En)}{F:Nat→Prop}{L:List Pg}
def cut{α:Type}(l:List α)(a b:Nat):List α:=(l.drop a).take (max a b - a)
theorem vI{α:Type}{l:List α}{j:Nat}{x:α}(h:(cut l a b)[j]?=some x):l[a+j]?=some x:=by
 unfold cut at h;rw[List.getElem?_take] at h;split at h
 ·rw[List.getElem?_drop] at h;exact h
 ·cases h
theorem wA{α:Type}{l:List α}(ha:a<=l.length)(hb:b<=l.length):(cut l a b).length=max a b - a:=by
 unfold cut;rw[List.length_take,List.length_drop];omega
def fh(P:List (List En))(t:List Int):Nat:=if t=[] then P.length else min (pgi P t+1) P.length
def uU(es:List En)(t:List Int):Nat:=if t=[] then es.length else plc (kys es) t
def wth(es:List En)(f t:List Int):List En:=cut es (plc (kys es) f) (uU es t)
def wlk(P:List (List En))(f t:List Int):List En:=(cut P (pgi P f) (fh P t)).flatMap fun es=>wth es f t
theorem nA(h:By w v t):Calls Tryz.prog 168 #[v] w fun e w'=>e=.returned (.bool (decide (t≠[])))/\w'=w:=by
 obtain⟨j,c,rfl,m,g,n,i,d⟩:=h.ex
 have f:(decide (t≠[]))=decide ((0:Int) < (t.length:Int)):=by
  cases t with
  | nil=>rfl
  | cons a l=>simp
 rw[f];clear h d
 have b:decide ((0:Int) < (t.length:Int))=decide (0 < t.length):=by congr 1;exact propext ⟨fun h=>by omega,fun h=>by omega⟩
 rw[b];go_enter Tryz.func168,Tryz.ntmps168;go_wp2;go_ret;exact⟨rfl,rfl⟩
structure SpA(w:World)(F:Nat->Prop)(v:Value)(Q:List Pg):Prop where
 ex:∃ ao c,v=.slice ao Q.length c/\Q.length<=c/\c<=9223372036854775807/\∀ j p,Q[j]?=some p->∃ b o,ao=some ⟨b,o,none⟩/\F b/\w.cell? ⟨b,o+j,none⟩=some p.v
structure ESl(w:World)(q:Nat)(v:Value)(es:List En):Prop where
 ex:∃ ao c,v=.slice ao es.length c/\es.length<=c/\c<=9223372036854775807/\∀ j e,es[j]?=some e->∃ o,ao=some ⟨q,o,none⟩/\w.cell? ⟨q,o+j * 2,none⟩=some e.kv/\w.cell? ⟨q,o+j * 2+1,none⟩=some e.vv
theorem tH{p:Pg}(A:PgA w D p)(S:Srt (kys p.es))(hf:By w fv f)(H:By w tv t)(hn:p.es.length<=1000000) :
  Calls Tryz.prog 117 #[p.v,fv,tv] w fun e w'=>∃ v,e=.returned v/\ESl w' p.b v (wth p.es f t)/\Below w.heap.size w w':=by
 have t1:=ij A S hf hn
 have s:∀ w',Below w.heap.size w w'->Calls Tryz.prog 168 #[tv] w' _:=fun w' l=>nA (H.keep l)
 have t2:∀ w',Below w.heap.size w w'->Calls Tryz.prog 169 #[p.v,tv] w' _:=fun w' l=>ij (A.keep l) S (H.keep l) hn
 have i:=A.row;have n:=i.le;simp only[maxLen] at n;have P:=n.1;have Q:=n.2;have B:=ql (kys p.es) f;have I:=ql (kys p.es) t
 have z:(kys p.es).length=p.es.length:=by simp[kys]
 rw[z] at B I
 have g:∀ (E:Option Addr) (k c y:Nat) (w':World),uU p.es t=y->y<=p.es.length->Below w.heap.size w w'->k=max (plc (kys p.es) f) y - plc (kys p.es) f->k<=c->c<=9223372036854775807->(k=0\/E=some ⟨p.b,plc (kys p.es) f * 2,none⟩)->ESl w' p.b (.slice E k c) (wth p.es f t):=fun E k c y w' he hy l K G hc L=>by
  have M:(wth p.es f t).length=k:=by
   unfold wth;rw[he,wA B hy,K]
  refine⟨E,c,by rw[M],by rw[M];exact G,hc,fun j e O=>?_⟩;have N:=(List.getElem?_eq_some_iff.1 O).1;rw[M] at N
  have u:=vI (show (cut p.es (plc (kys p.es) f) (uU p.es t))[j]?=some e from O);have K:=(i.keep l).cell (qy u);have hv:=(i.keep l).cell (kI u);refine⟨plc (kys p.es) f * 2,L.resolve_left (by omega),?_,?_⟩
  ·rw[<- Nat.add_mul];exact K
  ·rw[<- Nat.add_mul];exact hv
 have g:Hid _:=g
 have o:Hid (uU p.es t=if t=[] then p.es.length else plc (kys p.es) t):=rfl;generalize hx:plc (kys p.es) f=x at *
 have W:Hid _:=hx;generalize hy:plc (kys p.es) t=y at *
 have U:Hid _:=hy;generalize thr (kys p.es) f=bx at *;generalize thr (kys p.es) t=T at *
 simp only[Pg.v] at t1 t2 ⊢;generalize hm:p.es.length=m at *
 have X:Hid _:=hm
 have z0:(0:Int)<=(x:Int):=by omega
 have z1:(x:Int)<=(m:Int):=by omega
 clear A S hf H i n z hx hy hm;by_cases r:t=[]
 ·have hd:decide (t≠[])=false:=by simp[r]
  rw[hd] at s
  have he:Hid (uU p.es t=m):=by show _=_;rw[o.out,if_pos r]
  clear r hd t2 o;go_enter Tryz.func117,Tryz.ntmps117
  go_wp2_with (first
   | (go_at_call 169;refine t1.mono ?_;rintro F C ⟨rfl,d⟩;have q:=s C d;clear t1 s)
   | (go_at_call 168;refine q.mono ?_;rintro F R ⟨rfl,rfl⟩))
  all_goals (
   go_ret
   exact⟨_,rfl,g.out _ _ _ m _ he.out (Nat.le_refl _) d (by omega) (by omega) (by omega) (by first | exact .inr rfl | exact .inl (by omega) | exact .inl rfl),d⟩)
 ·have hd:decide (t≠[])=true:=by simp[r]
  rw[hd] at s
  have he:Hid (uU p.es t=y):=by show _=_;rw[o.out,if_neg r]
  have mk:True:=trivial;clear r hd o;go_enter Tryz.func117,Tryz.ntmps117
  go_wp2_with (first
   | (go_at_call 169;clear mk;refine t1.mono ?_;rintro F C ⟨rfl,d⟩;have q:=s C d;have t21:=t2 C d;clear t1 s t2)
   | (go_at_call 168;refine q.mono ?_;rintro F R ⟨rfl,rfl⟩)
   | (go_at_call 169;refine t21.mono ?_;rintro F V ⟨rfl,J⟩;have l:=aA d J))
  all_goals (
   go_ret
   exact⟨_,rfl,g.out _ _ _ y _ he.out (by omega) l (by omega) (by omega) (by omega) (by first | exact .inr rfl | exact .inl (by omega) | exact .inl rfl),l⟩)
theorem zt(k:List Int):pgi P k<=P.length:=by
 have h1:=qj (fks P) k;simp only[fks,List.length_map] at h1;unfold pgi fks;omega
theorem Bf{D:Nat→Prop}{g:Nat}(A:bQ w F D g L)(O:Ord (ens L))(hf:By w fv f)(ht:By w tv t)(hn:L.length≤100000000) :
    Calls Tryz.prog 116 #[.pointer (some ⟨g,0,none⟩),fv,tv] w fun e w'=>∃ v,e=.returned v∧SpA w' F v (cut L (pgi (ens L) f) (fh (ens L) t))∧Below w.heap.size w w':=by
  have t1:=jA A.drew O hf.drew (by omega)
  have H:∀ w',Below w.heap.size w w'→Calls Tryz.prog 168 #[tv] w' _:=fun w' z=>nA (ht.keep z)
  have t2:∀ w',Below w.heap.size w w'→Calls Tryz.prog 167 #[.pointer (some ⟨g,0,none⟩),tv] w' _:=fun w' z=>jA (A.keep z) O (ht.keep z) (by omega)
  obtain⟨S,c,hc,hc1,hc2,Q⟩:= A.rd
  have I:(ens L).length=L.length:=by simp[ens]
  have V:pgi (ens L) f≤L.length:=by rw[← I];exact zt f
  have hl2:pgi (ens L) t≤L.length:=by rw[← I];exact zt t
  have U : ∀ G, S = some ⟨G, 0, none⟩ → F G := fun G e => by
    obtain⟨pv,hb,hg,⟨rfl,rfl⟩ | ⟨G',C,rfl,hG,hR⟩⟩:= A.top
    · have:=hb.cell (i:=0) rfl
      rw[hc] at this
      cases this
      cases e
    · have:=hb.cell (i:=0) rfl
      rw[hc] at this
      cases this
      cases e;exact hG
  have q : ∀ (W : Option Addr) (k d y : Nat) (w' : World), fh (ens L) t = y → y ≤ L.length → Below w.heap.size w w' → k = max (pgi (ens L) f) y - pgi (ens L) f → k ≤ d → d ≤ 9223372036854775807 → (k = 0 ∨ ∀ b o, S = some ⟨b, o, none⟩ → W = some ⟨b, o + pgi (ens L) f, none⟩) → SpA w' F (.slice W k d) (cut L (pgi (ens L) f) (fh (ens L) t)) := fun W k d y w' he hy z hk hkd hd ab => by
    have hl:(cut L (pgi (ens L) f) (fh (ens L) t)).length=k:=by rw[he,wA V hy,hk]
    refine⟨W,d,by rw[hl],by rw[hl];exact hkd,hd,fun j p hj=>?_⟩;have hjk:=(List.getElem?_eq_some_iff.1 hj).1;rw[hl] at hjk
    have Z:=vI hj;obtain⟨G,rfl,cG⟩:= Q _ p Z
    exact⟨G, 0 + pgi (ens L) f, (ab.resolve_left (by omega)) G 0 rfl, U G rfl, by
      rw[Nat.zero_add,z.cell (p:=⟨G,pgi (ens L) f+j,none⟩) (aK cG)];exact cG⟩
  have q:Hid _:=q
  have E:Hid (fh (ens L) t=if t=[] then L.length else min (pgi (ens L) t+1) L.length):=by show _=_;unfold fh;rw[I]
  have M:=aK hc
  have Q:Hid _:=Q
  have T:Hid (S=none∨∃ G,S=some ⟨G,0,none⟩):=by
    obtain⟨pv,hb,hg,⟨rfl,rfl⟩ | ⟨G,C,rfl,hG,hR⟩⟩:= A.top
    · have:=hb.cell (i:=0) rfl
      rw[hc] at this
      cases this;exact .inl rfl
    · have:=hb.cell (i:=0) rfl
      rw[hc] at this
      cases this;exact .inr ⟨G,rfl⟩
  have N:S=none→c=0:=by
    intro e;obtain⟨pv,hb,hg,⟨rfl,rfl⟩ | ⟨G,C,rfl,hG,hR⟩⟩:= A.top
    · have:=hb.cell (i:=0) rfl
      rw[hc] at this
      cases this;rfl
    · have:=hb.cell (i:=0) rfl
      rw[hc] at this
      cases this
      cases e
  generalize hx:pgi (ens L) f=x at *
  have HX:Hid _:=hx;generalize hy:pgi (ens L) t=y at *
  have HY:Hid _:=hy;obtain⟨n,aa⟩:∃ n,Hid (L.length=n):=⟨_,rfl⟩;rw[aa.out] at hc hc1 V hl2 hn q E
  have J:w.drew.cell? ⟨g,0,none⟩=some (.slice S n c):=hc
  have z0:(0:Int)≤(x:Int):=by omega
  have z1:(x:Int)≤(n:Int):=by omega
  have zw:IntKind.i64.wrap ((y:Int)+1)=(y:Int)+1:=by rw[IntKind.wrap_i64];omega
  have K:=cj w;have HN:=T.out;clear A O hf ht hx hy I U;by_cases R:t=[]
  · have hd : decide (t ≠ []) = false := by simp[R]
    rw[hd] at H
    have he:Hid (fh (ens L) t=n):=by show _=_;rw[E.out,if_pos R]
    clear R hd t2 E;rcases HN with rfl | ⟨G,rfl⟩
    · obtain rfl:c=0:=N rfl
      obtain rfl:n=0:=by omega
      obtain rfl:x=0:=by omega
      go_enter Tryz.func116,Tryz.ntmps116;go_wp2;go_region_held3 (fun w'=>w'.cell? ⟨g,0,none⟩=some (.slice none 0 0)) (assumption)
        (first
          | (go_at_call 167;refine t1.mono ?_;rintro P u ⟨rfl,m⟩;have r:u.cell? ⟨g,0,none⟩=_:=(m.cell (p:=⟨g,0,none⟩) M).trans J;have l:=aA K m))
      have s:=H u l;clear t1 H;go_wp2_with (go_at_call 168;refine s.mono ?_;rintro P Y ⟨rfl,rfl⟩)
      all_goals (
        go_ret
        exact⟨_,rfl,q.out _ _ _ 0 _ he.out (by omega) l (by omega) (by omega) (by omega) (by first | exact .inl (by omega) | exact .inr (fun b o e=>by cases e;simp)),l⟩)
    · clear N
      go_enter Tryz.func116,Tryz.ntmps116;go_wp2;go_region_held3 (fun w'=>w'.cell? ⟨g,0,none⟩=some (.slice (some ⟨G,0,none⟩) n c)) (assumption)
        (first
          | (go_at_call 167;refine t1.mono ?_;rintro P u ⟨rfl,m⟩;have r:u.cell? ⟨g,0,none⟩=_:=(m.cell (p:=⟨g,0,none⟩) M).trans J;have l:=aA K m))
      have s:=H u l;clear t1 H;go_wp2_with (go_at_call 168;refine s.mono ?_;rintro P Y ⟨rfl,rfl⟩)
      all_goals (
        go_ret
        exact⟨_,rfl,q.out _ _ _ n _ he.out (by omega) l (by omega) (by omega) (by omega) (by first | exact .inl (by omega) | exact .inr (fun b o e=>by cases e;simp)),l⟩)
  · have hd : decide (t ≠ []) = true := by simp[R]
    rw[hd] at H
    have he:Hid (fh (ens L) t=min (y+1) n):=by show _=_;rw[E.out,if_neg R]
    clear R hd E;rcases HN with rfl | ⟨G,rfl⟩
    · obtain rfl:c=0:=N rfl
      obtain rfl:n=0:=by omega
      obtain rfl:x=0:=by omega
      go_enter Tryz.func116,Tryz.ntmps116;go_wp2;go_region_held3 (fun w'=>w'.cell? ⟨g,0,none⟩=some (.slice none 0 0)) (assumption)
        (first
          | (go_at_call 167;refine t1.mono ?_;rintro P u ⟨rfl,m⟩;have r:u.cell? ⟨g,0,none⟩=_:=(m.cell (p:=⟨g,0,none⟩) M).trans J;have l:=aA K m))
      have s:=H u l;have t21:=t2 u l;clear t1 H t2
      go_wp2_with (first
        | (go_at_call 168;refine s.mono ?_;rintro P Y ⟨rfl,rfl⟩)
        | (go_at_call 167;refine t21.mono ?_;rintro P w3 ⟨rfl,B⟩;have X:w3.cell? ⟨g,0,none⟩=_:=(B.cell (p:=⟨g,0,none⟩) (aK r)).trans r;have z:=aA l B))
      all_goals (
        go_ret
        exact⟨_,rfl,q.out _ _ _ (min (y+1) 0) _ he.out (by omega) z (by omega) (by omega) (by omega) (by first | exact .inl (by omega) | exact .inr (fun b o e=>by cases e;simp)),z⟩)
    · clear N
      go_enter Tryz.func116,Tryz.ntmps116;go_wp2;go_region_held3 (fun w'=>w'.cell? ⟨g,0,none⟩=some (.slice (some ⟨G,0,none⟩) n c)) (assumption)
        (first
          | (go_at_call 167;refine t1.mono ?_;rintro P u ⟨rfl,m⟩;have r:u.cell? ⟨g,0,none⟩=_:=(m.cell (p:=⟨g,0,none⟩) M).trans J;have l:=aA K m))
      have s:=H u l;have t21:=t2 u l;clear t1 H t2
      go_wp2_with (first
        | (go_at_call 168;refine s.mono ?_;rintro P Y ⟨rfl,rfl⟩)
        | (go_at_call 167;refine t21.mono ?_;rintro P w3 ⟨rfl,B⟩;have X:w3.cell? ⟨g,0,none⟩=_:=(B.cell (p:=⟨g,0,none⟩) (aK r)).trans r;have z:=aA l B))
      all_goals (
        go_ret
        exact⟨_,rfl,q.out _ _ _ (min (y+1) n) _ he.out (by omega) z (by omega) (by omega) (by omega) (by first | exact .inl (by omega) | exact .inr (fun b o e=>by cases e;simp)),z⟩)
end
end Pg
end
end Go.Proofs.YtjejmkcjflhoiaaGreatDoor
