import Derived.Test.YtjejmkcjflhoiaaGreatDoorJac
import Derived.Lib.BytesEntry
import Derived.WalkMore
import Derived.Deep.RegionHeld3
import Derived.Deep.RegionWith
import Derived.RangeFuncNested
import Derived.RangeFuncBound
import Derived.RangeFuncCalls
import Derived.RangeFuncLeaves
set_option maxRecDepth 100000
set_option maxHeartbeats 8000000
namespace Go.Proofs.YtjejmkcjflhoiaaGreatDoor
section
namespace Pg
open Go.RowKit Go.Lib
section
variable {w w':World}{k b n c m:Nat}{xs ys:List Value}{F:Nat->Prop}{v:Value}
structure Rw(w:World)(E:TypeId)(k b n c:Nat)(xs:List Value):Prop where
 ex:∃ sp,Blk w b (xs ++ sp) E/\xs.length=n * k/\(xs ++ sp).length=c * k/\n<=c/\c<=maxLen
theorem Rw.lt{E:TypeId}(h:Rw w E k b n c xs):b < w.heap.size:=by
 obtain⟨sp,h,_⟩:=h.ex;exact h.lt
theorem Rw.same{E:TypeId}(h:Rw w E k b n c xs)(hb:w'.heap[b]?=w.heap[b]?):Rw w' E k b n c xs:=by
 obtain⟨sp,h,h'⟩:=h.ex;exact⟨sp,h.same hb,h'⟩
theorem Rw.keep{E:TypeId}(h:Rw w E k b n c xs)(hb:Below w.heap.size w w'):Rw w' E k b n c xs:=h.same (hb.block b h.lt)
theorem Rw.chg{E:TypeId}(h:Rw w E k b n c xs)(hb:Chg F w w')(hg:¬ F b):Rw w' E k b n c xs:=h.same (hb.same b h.lt hg)
theorem Rw.drew{E:TypeId}(h:Rw w E k b n c xs):Rw w.drew E k b n c xs:=h.same rfl
theorem Rw.len{E:TypeId}(h:Rw w E k b n c xs):xs.length=n * k:=by
 obtain⟨sp,h,h',_⟩:=h.ex;exact h'
theorem Rw.le{E:TypeId}(h:Rw w E k b n c xs):n<=c/\c<=maxLen:=by
 obtain⟨sp,h,_,_,h'⟩:=h.ex;exact h'
theorem Rw.cell{E:TypeId}(h:Rw w E k b n c xs){i:Nat}(hi:xs[i]?=some v):w.cell? ⟨b,i,none⟩=some v:=by
 obtain⟨sp,h,_⟩:=h.ex;exact h.cell (by rw[List.getElem?_append_left (List.getElem?_eq_some_iff.1 hi).1];exact hi)
theorem Rw.free{E:TypeId}(h:Rw w E k b n c xs)(i:Nat):w.frozen? ⟨b,i,none⟩=false:=by
 obtain⟨sp,h,_⟩:=h.ex;exact h.free i
theorem Rw.kind{E:TypeId}(h:Rw w E k b n c xs):∃ cs,Blk w b cs E:=by
 obtain⟨sp,h,_⟩:=h.ex;exact⟨_,h⟩
theorem Rw.set{E:TypeId}(h:Rw w E k b n c xs)(i:Nat)(hi:i < xs.length)(v:Value):Rw (w.setCell ⟨b,i,none⟩ v) E k b n c (xs.set i v):=by
 obtain⟨sp,h,a,d,e⟩:=h.ex;refine⟨sp,?_,by simpa using a,by simpa using d,e⟩;have:=h.setCell (i:=i) v;rwa [List.set_append_left _ _ hi] at this
theorem yR{E:TypeId}(h:Blk w b xs E)(hx:xs.length=n * k)(hn:n<=maxLen):Rw w E k b n n xs:=⟨[],by simpa using h,hx,by simpa using hx,Nat.le_refl _,hn⟩
theorem Rw.front{E:TypeId}(h:Rw w E k b n c xs)(hm:m<=n):Rw w E k b m c (xs.take (m * k)):=by
 obtain⟨sp,h,e,a,f,d⟩:=h.ex
 have g:m * k<=n * k:=Nat.mul_le_mul_right _ hm;refine⟨xs.drop (m * k) ++ sp,by rw[<- List.append_assoc,List.take_append_drop];exact h,by rw[List.length_take];omega,by rw[<- List.append_assoc,List.take_append_drop];exact a,by omega,d⟩
theorem Rw.more{E:TypeId}(h:Rw w E k b n c xs)(hm:n+m<=c):∃ s,s.length=m * k/\Rw w E k b (n+m) c (xs ++ s):=by
 obtain⟨sp,h,e,a,g,d⟩:=h.ex
 have f:n * k+m * k<=c * k:=by rw[<- Nat.add_mul];exact Nat.mul_le_mul_right _ hm
 rw[List.length_append] at a;refine⟨sp.take (m * k),by rw[List.length_take];omega,sp.drop (m * k),?_,?_,?_,hm,d⟩
 ·rw[List.append_assoc,List.take_append_drop];exact h
 ·rw[List.length_append,List.length_take,Nat.add_mul];omega
 ·rw[List.append_assoc,List.take_append_drop,List.length_append];exact a
theorem Rw.to{E:TypeId}(h:Rw w E k b n c xs)(e:xs=ys):Rw w E k b n c ys:=e▸h
end
section
variable {P:Program} {w:World} {T E:TypeId} {k bytes:Nat} {z:Value}
section
variable {b n c g:Nat}{xs:List Value}
structure Kd(P:Program)(T E:TypeId)(k bytes:Nat)(z:Value):Prop where
 und:P.underlying T=some (.slice E)
 inf:(P.info? E).map (fun i=>(i.zero,i.size,i.bytes))=some (some z,k,bytes)
 zs:z.cells.size=k
 z1:∀ v∈z.cells,v.oneCell'=true
 k0:0 < k
theorem Kd.size(h:Kd P T E k bytes z):(P.info? E).map (·.size)=some k:=by
 obtain⟨i,hi,hz,hs,hb⟩:=info_parts h.inf;rw[hi];simp[hs]
theorem Kd.sizeOf(h:Kd P T E k bytes z)(w:World):(Go.sizeOf E).run P w=.ok k w:=by
 obtain⟨i,hi,hz,hs,hb⟩:=info_parts h.inf;simp[Go.sizeOf,typeInfo,hi,hs]
theorem Kd.zero(h:Kd P T E k bytes z)(w:World):(zeroValue E).run P w=.ok z w:=by
 obtain⟨i,hi,hz,hs,hb⟩:=info_parts h.inf;simp[zeroValue,typeInfo,hi,hz]
theorem ml(w:World)(E:TypeId)(zc:Array Value)(k n c:Nat)(xs:List Value)(a:zc.size=k)(hx:xs.length=n * k)(hn:n<=c)(hc:c<=maxLen) :
  Rw (w.drew.alloc (.cells (xs.toArray ++ Builtin.zeroCells zc (c - n)) E)) E k w.heap.size n c xs :=
 ⟨(Builtin.zeroCells zc (c - n)).toList,⟨by
  have:=(aD w.drew (xs ++ (Builtin.zeroCells zc (c - n)).toList) E).blk;rw[show (xs ++ (Builtin.zeroCells zc (c - n)).toList).toArray=xs.toArray ++ Builtin.zeroCells zc (c - n) by apply Array.ext';simp] at this ⊢
  exact this⟩,hx,by
  rw[List.length_append,hx,Array.length_toList,size_zeroCells,a,<- Nat.add_mul];congr 1;omega,hn,hc⟩
theorem eu(H:Kd P T E k bytes z)(ty:TypeId)(R:Rw w E k b n c xs)(a:Addr)(m cc:Nat)(news:List Value)(l:news.length=m * k)(f:∀ j u,news[j]?=some u->w.cell? (a.add j)=some u)(v:∀ u∈news,u.oneCell'=true)(h:(n+m) * bytes<=140737488355328)(hm:n+m<=140737488355328) :
  ∃ b' c' w',(Builtin.append_ #[T,T] ty #[.slice (some ⟨b,0,none⟩) n c,.slice (some a) m cc]).run P w=.ok (.slice (some ⟨b',0,none⟩) (n+m) c') w'/\(b'=b\/b'=w.heap.size)/\Rw w' E k b' (n+m) c' (xs ++ news)/\Chg (·=b) w w':=by
 obtain⟨i,hi,x,hs,hb⟩:=info_parts H.inf;obtain⟨sp,s,hx,hc,y,q⟩:=R.ex;subst hs hb
 have r:n+m<=maxLen:=by simp only[maxLen];omega
 by_cases d:n+m<=c
 ·have o:n * i.size+news.length<=(xs ++ sp).toArray.size:=by
   rw[List.size_toArray,hc,l,<- Nat.add_mul];exact Nat.mul_le_mul_right _ d
  have p:=run_append_room (P:=P) w T ty E i H.und hi b n c (xs ++ sp).toArray s.blk a m cc news l f v d o;refine⟨b,c,_,p,.inl rfl,⟨sp.drop news.length,?_,by rw[List.length_append,hx,l,Nat.add_mul],?_,d,q⟩,(Chg.refl (·=b) w).row (g:=b) (.inl rfl) _⟩
  ·have:=s.row (xs ++ news ++ sp.drop news.length)
   have e:(xs ++ sp).toArray.toList.take (n * i.size) ++ news ++ (xs ++ sp).toArray.toList.drop (n * i.size+news.length)=xs ++ news ++ sp.drop news.length:=by
    rw[show (xs ++ sp).toArray.toList=xs ++ sp from rfl,<- hx,List.take_left,<- List.drop_drop,List.drop_left]
   rw[e];exact this
  ·have A:xs.length + sp.length=c * i.size:=by rw[<- List.length_append]; exact hc
   have B:n * i.size+m * i.size<=c * i.size:=by rw[<- Nat.add_mul];exact Nat.mul_le_mul_right _ d
   rw[List.length_append,List.length_append,List.length_drop];omega
 ·have holds:∀ j u,xs[j]? = some u->w.cell? ((⟨b,0,none⟩:Addr).add j)=some u:=fun j u t=>by rw[Addr.add_lit,Nat.zero_add]; exact R.cell t
  have p:=run_append_grow (P:=P) w T ty E i z H.und hi x ⟨b,0,none⟩ n c xs hx holds a m cc news l f (by omega) (by omega) (growslice_fits (by omega) h);refine⟨w.heap.size,_,_,p,.inr rfl,?_,(Chg.refl _ w).drew.alloc _⟩;have:=ml w E z.cells i.size (n+m) (grownCap w (n+m) c E) (xs ++ news) H.zs (by rw[List.length_append,hx,l,Nat.add_mul]) (grownCap_ge w _ _ _) (grownCap_le_maxLen w _ _ _ r);simpa using this
theorem gQ(H:Kd P T E k bytes z)(ty:TypeId)(a:Addr)(m cc:Nat)(news:List Value)(e:news.length=m * k)(c:∀ j u,news[j]?=some u->w.cell? (a.add j)=some u)(g:0 < m)(d:m * bytes<=140737488355328)(hm:m<=140737488355328) :
  ∃ c' w',(Builtin.append_ #[T,T] ty #[.slice none 0 0,.slice (some a) m cc]).run P w=.ok (.slice (some ⟨w.heap.size,0,none⟩) m c') w'/\Rw w' E k w.heap.size m c' news/\Below w.heap.size w w':=by
 obtain⟨i,hi,f,hs,hb⟩:=info_parts H.inf;subst hs hb;have h:=run_append_nil (P:=P) w T ty E i z H.und hi f a m cc news e c g (by omega) (by omega);refine⟨_,_,h,?_,?_⟩
 ·exact ml w E z.cells i.size m (grownCap w m 0 E) news H.zs e (grownCap_ge w _ _ _) (grownCap_le_maxLen w _ _ _ (by simp only[maxLen];omega))
 ·exact(Below.refl _ w).trans ⟨rfl,rfl,rfl,by simp,fun b hb=>by
   have:=(ae w.drew (.cells (news.toArray ++ Builtin.zeroCells z.cells (grownCap w m 0 E - m)) E)).block b hb
   exact this⟩
theorem oQ(H:Kd P T E k bytes z)(tn ty:TypeId)(hn:P.underlying tn=some (.int .i64))(R:Rw w E k b n c xs)(m:Nat)(e:0 < m)(hc:c < n+m)(a:(n+m) * bytes<=140737488355328)(hm:n+m<=140737488355328) :
  ∃ c' w',(Builtin.append_ #[T,tn] ty #[.slice (some ⟨b,0,none⟩) n c,.int .i64 m]).run P w=.ok (.slice (some ⟨w.heap.size,0,none⟩) (n+m) c') w'/\Rw w' E k w.heap.size (n+m) c' (xs ++ (Builtin.zeroCells z.cells m).toList)/\Below w.heap.size w w':=by
 obtain⟨i,hi,h,hs,hb⟩:=info_parts H.inf;have hx:=R.len;subst hs hb
 have hold:(Builtin.firstCells i.size n (.slice (some ⟨b,0,none⟩) n c)).run P w.drew=.ok xs.toArray w.drew :=
  run_firstCells_some w.drew i.size n ⟨b,0,none⟩ n c xs hx (fun j v g=>by rw[Addr.add_lit,Nat.zero_add];exact R.cell g)
 have d:m * i.bytes<=(n+m) * i.bytes:=Nat.mul_le_mul_right _ (by omega);have f:=run_append_grow_zeros w T tn ty E i z .i64 .i64 H.und hn hi h (some ⟨b,0,none⟩) n c xs hold m e H.k0 hc (by omega) (by omega) (growslice_fits hc a);refine⟨_,_,f,?_,?_⟩
 ·have:=ml w E z.cells i.size (n+m) (grownCap w (n+m) c E) (xs ++ (Builtin.zeroCells z.cells m).toList) H.zs (by rw[List.length_append,hx,Array.length_toList,size_zeroCells,H.zs,Nat.add_mul]) (grownCap_ge w _ _ _) (grownCap_le_maxLen w _ _ _ (by simp only[maxLen];omega));rw[show (xs ++ (Builtin.zeroCells z.cells m).toList).toArray=xs.toArray ++ Builtin.zeroCells z.cells m by apply Array.ext';simp] at this;exact this
 ·exact⟨rfl,rfl,rfl,by simp,fun b hb=>(ae w.drew (.cells (xs.toArray ++ Builtin.zeroCells z.cells m ++ Builtin.zeroCells z.cells (grownCap w (n+m) c E - (n+m))) E)).block b hb⟩
theorem oD(H:Kd P T E k bytes z)(tn ty:TypeId)(hn:P.underlying tn=some (.int .i64))(m:Nat)(d:0 < m)(a:m * bytes<=140737488355328)(hm:m<=140737488355328) :
  ∃ c' w',(Builtin.append_ #[T,tn] ty #[.slice none 0 0,.int .i64 m]).run P w=.ok (.slice (some ⟨w.heap.size,0,none⟩) m c') w'/\Rw w' E k w.heap.size m c' (Builtin.zeroCells z.cells m).toList/\Below w.heap.size w w':=by
 obtain⟨i,hi,c,hs,hb⟩:=info_parts H.inf;subst hs hb;have e:=run_append_nil_zeros w T tn ty E i z .i64 .i64 H.und hn hi c m d H.k0 (by omega) (by omega);refine⟨_,_,e,?_,?_⟩
 ·have:=ml w E z.cells i.size m (grownCap w m 0 E) (Builtin.zeroCells z.cells m).toList H.zs (by rw[Array.length_toList,size_zeroCells,H.zs]) (grownCap_ge w _ _ _) (grownCap_le_maxLen w _ _ _ (by simp only[maxLen];omega));simpa using this
 ·exact⟨rfl,rfl,rfl,by simp,fun b hb=>(ae w.drew (.cells (Builtin.zeroCells z.cells m ++ Builtin.zeroCells z.cells (grownCap w m 0 E - m)) E)).block b hb⟩
theorem fi(H:Kd P T E k bytes z)(ty:TypeId)(R:Rw w E k g n c xs)(o dLen dCap:Nat)(a:Addr)(sLen sCap:Nat)(cs:List Value)(m:Nat)(hm:Nat.min sLen dLen=m)(hn:cs.length=m * k)(b:∀ j v,cs[j]?=some v->w.cell? (a.add j)=some v)(d:o+cs.length<=xs.length)(p:∀ v∈cs,v.oneCell'=true) :
  ∃ w',(Builtin.copy_ #[T,T] ty #[.slice (some ⟨g,o,none⟩) dLen dCap,.slice (some a) sLen sCap]).run P w=.ok (goInt m) w'/\Rw w' E k g n c (splice xs o cs)/\Chg (·=g) w w':=by
 obtain⟨sp,l,hx,hc,h,f⟩:=R.ex;have q:=xI (P:=P) w T T ty E k g o dLen dCap a sLen sCap (xs ++ sp) cs E H.und H.size l m hm hn b (by rw[List.length_append];omega) p
 have e:splice (xs ++ sp) o cs=splice xs o cs ++ sp:=by
  rw[eN,eN,List.take_append_of_le_length (by omega),List.drop_append_of_le_length (by omega),List.append_assoc,List.append_assoc,List.append_assoc]
 have i:=length_splice xs o cs d;refine⟨_,q,⟨sp,by rw[e];exact l.row _,by rw[i];exact hx,by rw[List.length_append,i,<- List.length_append];exact hc,h,f⟩,(Chg.refl (·=g) w).row (g:=g) (.inl rfl) _⟩
theorem jQ(H:Kd P T E k bytes z)(ty:TypeId)(R:Rw w E k b n c xs)(a:Addr)(m cc:Nat)(news:List Value)(o:news.length=m * k)(f:∀ j u,news[j]?=some u->w.cell? (a.add j)=some u)(q:∀ u∈news,u.oneCell'=true)(d:n+m<=c) :
  ∃ w',(Builtin.append_ #[T,T] ty #[.slice (some ⟨b,0,none⟩) n c,.slice (some a) m cc]).run P w=.ok (.slice (some ⟨b,0,none⟩) (n+m) c) w'/\Rw w' E k b (n+m) c (xs ++ news)/\Chg (·=b) w w':=by
 obtain⟨i,hi,t,hs,hb⟩:=info_parts H.inf;obtain⟨sp,p,hx,hc,s,l⟩:=R.ex;subst hs hb
 have h:n * i.size+news.length<=(xs ++ sp).toArray.size:=by
  rw[List.size_toArray,hc,o,<- Nat.add_mul];exact Nat.mul_le_mul_right _ d
 have r:=run_append_room (P:=P) w T ty E i H.und hi b n c (xs ++ sp).toArray p.blk a m cc news o f q d h;refine⟨_,r,⟨sp.drop news.length,?_,by rw[List.length_append,hx,o,Nat.add_mul],?_,d,l⟩,(Chg.refl (·=b) w).row (g:=b) (.inl rfl) _⟩
 ·have:=p.row (xs ++ news ++ sp.drop news.length)
  have e:(xs ++ sp).toArray.toList.take (n * i.size) ++ news ++ (xs ++ sp).toArray.toList.drop (n * i.size+news.length)=xs ++ news ++ sp.drop news.length:=by
   rw[show (xs ++ sp).toArray.toList=xs ++ sp from rfl,<- hx,List.take_left,<- List.drop_drop,List.drop_left]
  rw[e];exact this
 ·have v:xs.length + sp.length=c * i.size:=by rw[<- List.length_append]; exact hc
  have x:n * i.size+m * i.size<=c * i.size:=by rw[<- Nat.add_mul];exact Nat.mul_le_mul_right _ d
  rw[List.length_append,List.length_append,List.length_drop];omega
theorem iT(H:Kd P T E k bytes z)(ty:TypeId)(R:Rw w E k g n c xs)(m cc:Nat)(hm:0 < m)(a:n+m<=c) :
  ∃ w',(Builtin.clear_ #[T] ty #[.slice (some ⟨g,n * k,none⟩) m cc]).run P w=.ok (.tuple #[]) w'/\Rw w' E k g n c xs/\Chg (·=g) w w':=by
 obtain⟨sp,f,hx,hc,d,b⟩:=R.ex
 have j:n * k+m * k<=c * k:=by rw[<- Nat.add_mul];exact Nat.mul_le_mul_right _ a
 have h:=tK (P:=P) w T ty E z k g (n * k) m cc (xs ++ sp) E H.und H.zero H.zs H.z1 f hm H.k0 (by omega)
 have e:splice (xs ++ sp) (n * k) (Builtin.zeroCells z.cells m).toList=xs ++ ((Builtin.zeroCells z.cells m).toList ++ sp.drop (Builtin.zeroCells z.cells m).toList.length):=by
  rw[eN,<- hx,List.take_left,<- List.drop_drop,List.drop_left,List.append_assoc]
 have i:((Builtin.zeroCells z.cells m).toList).length=m * k:=by rw[Array.length_toList,size_zeroCells,H.zs]
 refine⟨_,h,⟨_,by rw[e];exact f.row _,hx,?_,d,b⟩,(Chg.refl (·=g) w).row (g:=g) (.inl rfl) _⟩;rw[List.length_append] at hc ⊢;rw[List.length_append,List.length_drop,i];omega
end
end
end Pg
end
section
namespace Pg
open Go.RowKit Go.Lib
theorem KE:Kd Tryz.prog 188 185 2 48 (.agg #[.slice none 0 0,.slice none 0 0]):=⟨by kernel_rfl,by kernel_rfl,rfl,by simp[Value.cells,Value.oneCell'],by decide⟩
theorem KP:Kd Tryz.prog 146 188 1 24 (.slice none 0 0):=⟨by kernel_rfl,by kernel_rfl,rfl,by simp[Value.cells,Value.oneCell'],by decide⟩
theorem lg:Tryz.prog.underlying 3=some (.int .i64):=by kernel_rfl
theorem mixed:Tryz.prog.follows .mixedOrders=true:=by kernel_rfl
section
variable {w:World} {b n c i vb:Nat} {xs:List Value} {e1 e2:Value}
theorem Co (R:Rw w 185 2 b n c xs) (l:Blk w vb [e1,e2] 185) (hn:n<=1000000000) (i:∀ v∈[e1,e2],v.oneCell'=true) :
  Calls Tryz.prog 196 #[.slice (some ⟨b,0,none⟩) n c,.int .i64 n,.slice (some ⟨vb,0,none⟩) 1 1] w fun e w'=>∃ b' c',e=.returned (.slice (some ⟨b',0,none⟩) (n+1) c')/\(b'=b\/w.heap.size<=b')/\Rw w' 185 2 b' (n+1) c' (xs ++ [e1,e2])/\Chg (·=b) w w':=by
 obtain⟨b',c',W,p,f,o,hC⟩:=eu KE 188 R ⟨vb,0,none⟩ 1 1 [e1,e2] rfl (fun j u q=>by rw[Addr.add_lit,Nat.zero_add];exact l.cell q) i (by omega) (by omega);have d:=R.le;simp only[maxLen] at d;have g:=d.1;have m:=d.2;clear d R l i;go_enter Tryz.func196,Tryz.ntmps196;go_wp2_with (at_builtin;refine Lib.wpList_append_run _ rfl _ _ _ _ rfl _ _ rfl rfl _ _ p ?_)
 all_goals (
  go_ret
  exact⟨b',c',rfl,f.imp id (fun e=>by omega),o,hC⟩)
theorem Cl (b:Blk w vb [e1,e2] 185) :
  Calls Tryz.prog 196 #[.slice none 0 0,.int .i64 0,.slice (some ⟨vb,0,none⟩) 1 1] w fun e w'=>∃ c',e=.returned (.slice (some ⟨w.heap.size,0,none⟩) 1 c')/\Rw w' 185 2 w.heap.size 1 c' [e1,e2]/\Below w.heap.size w w':=by
 obtain⟨c',W,d,c,hC⟩:=gQ (w:=w) KE 188 ⟨vb,0,none⟩ 1 1 [e1,e2] rfl (fun j u f=>by rw[Addr.add_lit,Nat.zero_add];exact b.cell f) (by decide) (by decide) (by decide);clear b;go_enter Tryz.func196,Tryz.ntmps196;go_wp2_with (at_builtin;refine Lib.wpList_append_run _ rfl _ _ _ _ rfl _ _ rfl rfl _ _ d ?_);go_ret;exact⟨c',rfl,c,hC⟩
theorem uv (R:Rw w 185 2 b n c xs) (q:Blk w vb [e1,e2] 185) (r:vb≠b) (hi:i < n) (l:n+1≤c) (G:∀ v ∈ xs,v.oneCell'=true) (E:∀ v ∈ [e1,e2],v.oneCell'=true) :
    Calls Tryz.prog 196 #[.slice (some ⟨b,0,none⟩) n c,.int .i64 i,.slice (some ⟨vb,0,none⟩) 1 1] w fun e w'=>e=.returned (.slice (some ⟨b,0,none⟩) (n+1) c)∧Rw w' 185 2 b (n+1) c (xs.take (i * 2) ++ [e1,e2] ++ xs.drop (i * 2))∧Chg (·=b) w w':=by
  have hx:=R.len;have d:=R.le;simp only[maxLen] at d;have H:=d.1;have I:=d.2
  have o:∃ cs,Blk w b cs 185∧cs.length=c * 2:=by
    obtain⟨sp,h,_,T,_⟩:= R.ex;exact⟨_,h,T⟩
  have x : ∀ (z B : Nat), (callFunc 228 #[.slice (some ⟨vb, 0, none⟩) 1 1, .slice (some ⟨b, (i + 1) * 2, none⟩) z B]).run Tryz.prog w = .ok (.value (.bool false)) w := fun z B => by
    obtain⟨cs,h,M⟩:= o
    rw[run_callFunc_extern Tryz.func228 (by kernel_rfl) (by kernel_rfl) (by kernel_rfl) (e := Extern.SlicesOverlaps.overlaps #[188, 188] #[4]) (by kernel_rfl),
      Lib.run_overlaps_apart w 188 4 185 KE.und 2 KE.sizeOf ⟨vb,0,none⟩ ⟨b,(i+1) * 2,none⟩ 1 1 z B r 185 185 2 (c * 2) (by simp[World.shape?,q.blk]) (by simp[World.shape?,h.blk];simpa using M) (by omega) (q.free _) (q.free _)]
    rfl
  have g:(xs.drop (i * 2)).length=(n - i) * 2:=by rw[List.length_drop,hx];omega
  obtain⟨s,hs,A⟩:= R.drew.more (m:=1) l;obtain⟨D,J,u,y⟩:= fi (w:=w.drew) KE 3 A ((i+1) * 2) (n - i) (c - (i+1)) ⟨b,i * 2,none⟩ (n+1 - i) (c - i) (xs.drop (i * 2)) (n - i) (by simp only[Nat.min_def];split <;> omega) g
    (fun j v t => by
      rw[List.getElem?_drop] at t;rw[Addr.add_lit]
      exact R.cell (w:=w) (by simpa using t)) (by rw[g,A.len];omega) (fun v hv=>G v (List.mem_of_mem_drop hv))
  have p:Blk D vb [e1,e2] 185:=q.drew.chg y r;obtain⟨O,U,F,C⟩:= fi (w:=D) KE 3 u (i * 2) (n+1 - i) (c - i) ⟨vb,0,none⟩ 1 1 [e1,e2] 1 (by simp only[Nat.min_def];split <;> omega) rfl
    (fun j v t=>by rw[Addr.add_lit,Nat.zero_add];exact p.cell t) (by rw[u.len];simp;omega) E
  have f:splice (splice (xs ++ s) ((i+1) * 2) (xs.drop (i * 2))) (i * 2) [e1,e2]=xs.take (i * 2) ++ [e1,e2] ++ xs.drop (i * 2):=by
    have h:=sQ xs s [e1,e2] (i * 2) (by omega) (by simp[hs])
    have q0:s.drop ([e1,e2]:List Value).length=[]:=List.drop_of_length_le (by simp[hs]);rw[q0,List.append_nil] at h;simpa[Nat.add_mul] using h
  have X:=F.to f
  have W:Chg (·=b) w O:=((Chg.refl _ w).drew.trans y (fun _ _ h=>h)).trans C (fun _ _ h=>h)
  have Q:¬ ((i:Int)=(n:Int)):=by omega
  have V:IntKind.i64.wrap ((i:Int)+1)=(i:Int)+1:=by rw[IntKind.wrap_i64];omega
  have P:(0:Int)≤(i:Int)+1:=by omega
  have Y:i≤n:=by omega
  have N:((i:Int)+1).toNat=i+1:=by omega
  have L:¬ (c=i+1):=by omega
  have S:(i:Int)≤(n:Int)+1:=by omega
  have K:¬ (c=i):=by omega
  clear d R o A u F y C f q p hs g G E;have mixed:=mixed;go_enter Tryz.func196,Tryz.ntmps196;go_wp2_with (simp only[x]);go_region;go_wp2;go_ret;exact⟨rfl,X,W⟩
theorem xB (R:Rw w 185 2 b n c xs) (z:Blk w vb [e1,e2] 185) (hi:i < n) (C:c < n+1) (hn:n≤1000000000) (I:∀ v ∈ xs,v.oneCell'=true) (G:∀ v ∈ [e1,e2],v.oneCell'=true) :
    Calls Tryz.prog 196 #[.slice (some ⟨b,0,none⟩) n c,.int .i64 i,.slice (some ⟨vb,0,none⟩) 1 1] w fun e w'=>∃ c',e=.returned (.slice (some ⟨w.heap.size,0,none⟩) (n+1) c')∧Rw w' 185 2 w.heap.size (n+1) c' (xs.take (i * 2) ++ [e1,e2] ++ xs.drop (i * 2))∧Below w.heap.size w w':=by
  have hx:=R.len;have g:=R.le;simp only[maxLen] at g;have M:=g.1;have N:=g.2;have E:=R.lt;have D:=z.lt;obtain⟨c',x,s,q,p⟩:= oQ KE 3 188 lg (R.front (m:=i) (by omega)) (n+1 - i) (by omega) (by omega) (by omega) (by omega);rw[show ((n+1 - i:Nat):Int)=(n:Int)+1 - (i:Int) by omega,show i+(n+1 - i)=n+1 by omega] at s;rw[show i+(n+1 - i)=n+1 by omega] at q;have f:=q.le;simp only[maxLen] at f;have H:=f.1;have J:=f.2
  have r:Blk x vb [e1,e2] 185:=z.keep p;obtain⟨o,hr2,y,t⟩:= fi (w:=x) KE 3 q (i * 2) (n+1 - i) (c' - i) ⟨vb,0,none⟩ 1 1 [e1,e2] 1 (by simp only[Nat.min_def];split <;> omega) rfl
    (fun j v u=>by rw[Addr.add_lit,Nat.zero_add];exact r.cell u) (by rw[q.len];simp;omega) G
  have d:(xs.drop (i * 2)).length=(n - i) * 2:=by rw[List.length_drop,hx];omega
  have L:Rw o.drew 185 2 b n c xs:=((R.keep p).chg t (by show ¬ b=w.heap.size;omega)).drew;obtain⟨F,hr3,P,O⟩:= fi (w:=o.drew) KE 3 y.drew ((i+1) * 2) (n - i) (c' - (i+1)) ⟨b,i * 2,none⟩ (n - i) (c - i) (xs.drop (i * 2)) (n - i) (by simp) d
    (fun j v u => by
      rw[List.getElem?_drop] at u;rw[Addr.add_lit]
      exact L.cell (by simpa using u)) (by rw[d,y.len];omega) (fun v hv=>I v (List.mem_of_mem_drop hv))
  have l:splice (splice (xs.take (i * 2) ++ (Builtin.zeroCells (.agg #[.slice none 0 0,.slice none 0 0]:Value).cells (n+1 - i)).toList) (i * 2) [e1,e2]) ((i+1) * 2) (xs.drop (i * 2))=xs.take (i * 2) ++ [e1,e2] ++ xs.drop (i * 2):=by
    have hA:(xs.take (i * 2)).length=i * 2:=by rw[List.length_take,hx];omega
    generalize hZ:(Builtin.zeroCells (.agg #[.slice none 0 0,.slice none 0 0]:Value).cells (n+1 - i)).toList=Z
    have B:Z.length=(n+1 - i) * 2:=by rw[← hZ,Array.length_toList,size_zeroCells];rfl
    have q1:xs.take (i * 2) ++ Z=xs.take (i * 2) ++ Z.take 2 ++ Z.drop 2:=by rw[List.append_assoc,List.take_append_drop]
    rw[q1,fC _ (Z.take 2) [e1,e2] _ _ hA (by rw[List.length_take];simp;omega)];have q2:=fC (xs.take (i * 2) ++ [e1,e2]) (Z.drop 2) (xs.drop (i * 2)) [] ((i+1) * 2) (by rw[List.length_append,hA];simp <;> omega) (by rw[List.length_drop,B,d];omega);simpa using q2
  have R4:=P.to l
  have A:Below w.heap.size w F:=by
    have Q:Below w.heap.size x o:=t.below (fun b hb=>by omega) (p.size)
    have W:Below w.heap.size o.drew F:=O.below (fun b hb=>by omega) (by have:=p.size;have:=t.size;show w.heap.size≤o.heap.size;omega);exact(p.trans Q).trans ((⟨rfl,rfl,rfl,Nat.le_refl _,fun _ _=>rfl⟩:Below w.heap.size o o.drew).trans W)
  have X:¬ ((i:Int)=(n:Int)):=by omega
  have hw1:IntKind.i64.wrap ((i:Int)+1)=(i:Int)+1:=by rw[IntKind.wrap_i64];omega
  have V:(0:Int)≤(i:Int)+1:=by omega
  have hin:i≤n:=by omega
  have U:((i:Int)+1).toNat=i+1:=by omega
  have T:¬ (c'=i+1):=by omega
  have K:i+1≤n+1:=by omega
  have Y:(i:Int)≤(n:Int)+1:=by omega
  have S:¬ (c'=i):=by omega
  have hb5:¬ (c=i):=by omega
  clear g f R q y P L t O p l z r d I G;have mixed:=mixed;go_enter Tryz.func196,Tryz.ntmps196;go_wp2_with (at_builtin;refine Lib.wpList_append_run _ rfl _ _ _ _ rfl _ _ rfl rfl _ _ s ?_);go_region;go_wp2;go_ret;exact⟨c',rfl,R4,A⟩
theorem insE (R:Rw w 185 2 b n c xs) (g:Blk w vb [e1,e2] 185) (d:vb≠b) (hi:i<=n) (hn:n<=1000000000) (j:∀ v∈xs,v.oneCell'=true) (f:∀ v∈[e1,e2],v.oneCell'=true) :
  Calls Tryz.prog 196 #[.slice (some ⟨b,0,none⟩) n c,.int .i64 i,.slice (some ⟨vb,0,none⟩) 1 1] w fun e w'=>∃ b' c',e=.returned (.slice (some ⟨b',0,none⟩) (n+1) c')/\(b'=b\/w.heap.size<=b')/\Rw w' 185 2 b' (n+1) c' (xs.take (i * 2) ++ [e1,e2] ++ xs.drop (i * 2))/\Chg (·=b) w w':=by
 by_cases h:i=n
 ·subst h;refine(Co R g hn f).mono ?_
  rintro e w' ⟨b',c',rfl,hb,a,hC⟩;exact⟨b',c',rfl,hb,a.to (by rw[List.take_of_length_le (by rw[R.len];omega),List.drop_of_length_le (by rw[R.len];omega),List.append_nil]),hC⟩
 ·by_cases k:n+1<=c
  ·refine(uv R g d (by omega) k j f).mono ?_
   rintro e w' ⟨rfl,a,hC⟩;exact⟨b,c,rfl,.inl rfl,a,hC⟩
  ·refine(xB R g (by omega) (by omega) hn j f).mono ?_
   rintro e w' ⟨c',rfl,a,hC⟩;exact⟨_,c',rfl,.inr (Nat.le_refl _),a,Chg.of hC⟩
end
section
variable {w:World} {b n c i vb:Nat} {xs:List Value} {e1:Value}
theorem BM (R:Rw w 188 1 b n c xs) (l:Blk w vb [e1] 188) (hn:n<=1000000000) (i:∀ v∈[e1],v.oneCell'=true) :
  Calls Tryz.prog 231 #[.slice (some ⟨b,0,none⟩) n c,.int .i64 n,.slice (some ⟨vb,0,none⟩) 1 1] w fun e w'=>∃ b' c',e=.returned (.slice (some ⟨b',0,none⟩) (n+1) c')/\(b'=b\/w.heap.size<=b')/\Rw w' 188 1 b' (n+1) c' (xs ++ [e1])/\Chg (·=b) w w':=by
 obtain⟨b',c',W,p,f,o,hC⟩:=eu KP 146 R ⟨vb,0,none⟩ 1 1 [e1] rfl (fun j u q=>by rw[Addr.add_lit,Nat.zero_add];exact l.cell q) i (by omega) (by omega);have d:=R.le;simp only[maxLen] at d;have g:=d.1;have m:=d.2;clear d R l i;go_enter Tryz.func231,Tryz.ntmps231;go_wp2_with (at_builtin;refine Lib.wpList_append_run _ rfl _ _ _ _ rfl _ _ rfl rfl _ _ p ?_)
 all_goals (
  go_ret
  exact⟨b',c',rfl,f.imp id (fun e=>by omega),o,hC⟩)
theorem ui (R:Rw w 188 1 b n c xs) (q:Blk w vb [e1] 188) (r:vb≠b) (hi:i < n) (l:n+1≤c) (G:∀ v ∈ xs,v.oneCell'=true) (E:∀ v ∈ [e1],v.oneCell'=true) :
    Calls Tryz.prog 231 #[.slice (some ⟨b,0,none⟩) n c,.int .i64 i,.slice (some ⟨vb,0,none⟩) 1 1] w fun e w'=>e=.returned (.slice (some ⟨b,0,none⟩) (n+1) c)∧Rw w' 188 1 b (n+1) c (xs.take (i * 1) ++ [e1] ++ xs.drop (i * 1))∧Chg (·=b) w w':=by
  have hx:=R.len;have d:=R.le;simp only[maxLen] at d;have H:=d.1;have I:=d.2
  have o:∃ cs,Blk w b cs 188∧cs.length=c * 1:=by
    obtain⟨sp,h,_,T,_⟩:= R.ex;exact⟨_,h,T⟩
  have x : ∀ (z B : Nat), (callFunc 246 #[.slice (some ⟨vb, 0, none⟩) 1 1, .slice (some ⟨b, i + 1, none⟩) z B]).run Tryz.prog w = .ok (.value (.bool false)) w := fun z B => by
    obtain⟨cs,h,M⟩:= o
    rw[run_callFunc_extern Tryz.func246 (by kernel_rfl) (by kernel_rfl) (by kernel_rfl) (e := Extern.SlicesOverlaps.overlaps #[146, 146] #[4]) (by kernel_rfl),
      Lib.run_overlaps_apart w 146 4 188 KP.und 1 KP.sizeOf ⟨vb,0,none⟩ ⟨b,i+1,none⟩ 1 1 z B r 188 188 1 (c * 1) (by simp[World.shape?,q.blk]) (by simp[World.shape?,h.blk];simpa using M) (by omega) (q.free _) (q.free _)]
    rfl
  have g:(xs.drop (i * 1)).length=(n - i) * 1:=by rw[List.length_drop,hx];omega
  obtain⟨s,hs,A⟩:= R.drew.more (m:=1) l;obtain⟨D,J,u,y⟩:= fi (w:=w.drew) KP 3 A (i+1) (n - i) (c - (i+1)) ⟨b,i,none⟩ (n+1 - i) (c - i) (xs.drop (i * 1)) (n - i) (by simp only[Nat.min_def];split <;> omega) g
    (fun j v t => by
      rw[List.getElem?_drop] at t;rw[Addr.add_lit]
      exact R.cell (w:=w) (by simpa using t)) (by rw[g,A.len];omega) (fun v hv=>G v (List.mem_of_mem_drop hv))
  have p:Blk D vb [e1] 188:=q.drew.chg y r;obtain⟨O,U,F,C⟩:= fi (w:=D) KP 3 u (i) (n+1 - i) (c - i) ⟨vb,0,none⟩ 1 1 [e1] 1 (by simp only[Nat.min_def];split <;> omega) rfl
    (fun j v t=>by rw[Addr.add_lit,Nat.zero_add];exact p.cell t) (by rw[u.len];simp;omega) E
  have f:splice (splice (xs ++ s) (i+1) (xs.drop (i * 1))) (i) [e1]=xs.take (i * 1) ++ [e1] ++ xs.drop (i * 1):=by
    have h:=sQ xs s [e1] (i * 1) (by omega) (by simp[hs])
    have q0:s.drop ([e1]:List Value).length=[]:=List.drop_of_length_le (by simp[hs]);rw[q0,List.append_nil] at h;simpa[Nat.add_mul] using h
  have X:=F.to f
  have W:Chg (·=b) w O:=((Chg.refl _ w).drew.trans y (fun _ _ h=>h)).trans C (fun _ _ h=>h)
  have Q:¬ ((i:Int)=(n:Int)):=by omega
  have V:IntKind.i64.wrap ((i:Int)+1)=(i:Int)+1:=by rw[IntKind.wrap_i64];omega
  have P:(0:Int)≤(i:Int)+1:=by omega
  have Y:i≤n:=by omega
  have N:((i:Int)+1).toNat=i+1:=by omega
  have L:¬ (c=i+1):=by omega
  have S:(i:Int)≤(n:Int)+1:=by omega
  have K:¬ (c=i):=by omega
  clear d R o A u F y C f q p hs g G E;have mixed:=mixed;go_enter Tryz.func231,Tryz.ntmps231;go_wp2_with (simp only[x]);go_region;go_wp2;go_ret;exact⟨rfl,X,W⟩
theorem yw (R:Rw w 188 1 b n c xs) (z:Blk w vb [e1] 188) (hi:i < n) (C:c < n+1) (hn:n≤1000000000) (I:∀ v ∈ xs,v.oneCell'=true) (G:∀ v ∈ [e1],v.oneCell'=true) :
    Calls Tryz.prog 231 #[.slice (some ⟨b,0,none⟩) n c,.int .i64 i,.slice (some ⟨vb,0,none⟩) 1 1] w fun e w'=>∃ c',e=.returned (.slice (some ⟨w.heap.size,0,none⟩) (n+1) c')∧Rw w' 188 1 w.heap.size (n+1) c' (xs.take (i * 1) ++ [e1] ++ xs.drop (i * 1))∧Below w.heap.size w w':=by
  have hx:=R.len;have g:=R.le;simp only[maxLen] at g;have M:=g.1;have N:=g.2;have E:=R.lt;have D:=z.lt;obtain⟨c',x,s,q,p⟩:= oQ KP 3 146 lg (R.front (m:=i) (by omega)) (n+1 - i) (by omega) (by omega) (by omega) (by omega);rw[show ((n+1 - i:Nat):Int)=(n:Int)+1 - (i:Int) by omega,show i+(n+1 - i)=n+1 by omega] at s;rw[show i+(n+1 - i)=n+1 by omega] at q;have f:=q.le;simp only[maxLen] at f;have H:=f.1;have J:=f.2
  have r:Blk x vb [e1] 188:=z.keep p;obtain⟨o,hr2,y,t⟩:= fi (w:=x) KP 3 q (i) (n+1 - i) (c' - i) ⟨vb,0,none⟩ 1 1 [e1] 1 (by simp only[Nat.min_def];split <;> omega) rfl
    (fun j v u=>by rw[Addr.add_lit,Nat.zero_add];exact r.cell u) (by rw[q.len];simp;omega) G
  have d:(xs.drop (i * 1)).length=(n - i) * 1:=by rw[List.length_drop,hx];omega
  have L:Rw o.drew 188 1 b n c xs:=((R.keep p).chg t (by show ¬ b=w.heap.size;omega)).drew;obtain⟨F,hr3,P,O⟩:= fi (w:=o.drew) KP 3 y.drew (i+1) (n - i) (c' - (i+1)) ⟨b,i,none⟩ (n - i) (c - i) (xs.drop (i * 1)) (n - i) (by simp) d
    (fun j v u => by
      rw[List.getElem?_drop] at u;rw[Addr.add_lit]
      exact L.cell (by simpa using u)) (by rw[d,y.len];omega) (fun v hv=>I v (List.mem_of_mem_drop hv))
  have l:splice (splice (xs.take (i * 1) ++ (Builtin.zeroCells (.slice none 0 0:Value).cells (n+1 - i)).toList) (i) [e1]) (i+1) (xs.drop (i * 1))=xs.take (i * 1) ++ [e1] ++ xs.drop (i * 1):=by
    have hA:(xs.take (i * 1)).length=i:=by rw[List.length_take,hx];omega
    generalize hZ:(Builtin.zeroCells (.slice none 0 0:Value).cells (n+1 - i)).toList=Z
    have B:Z.length=(n+1 - i) * 1:=by rw[← hZ,Array.length_toList,size_zeroCells];rfl
    have q1:xs.take (i * 1) ++ Z=xs.take (i * 1) ++ Z.take 1 ++ Z.drop 1:=by rw[List.append_assoc,List.take_append_drop]
    rw[q1,fC _ (Z.take 1) [e1] _ _ hA (by rw[List.length_take];simp;omega)];have q2:=fC (xs.take (i * 1) ++ [e1]) (Z.drop 1) (xs.drop (i * 1)) [] (i+1) (by rw[List.length_append,hA];simp <;> omega) (by rw[List.length_drop,B,d];omega);simpa using q2
  have R4:=P.to l
  have A:Below w.heap.size w F:=by
    have Q:Below w.heap.size x o:=t.below (fun b hb=>by omega) (p.size)
    have W:Below w.heap.size o.drew F:=O.below (fun b hb=>by omega) (by have:=p.size;have:=t.size;show w.heap.size≤o.heap.size;omega);exact(p.trans Q).trans ((⟨rfl,rfl,rfl,Nat.le_refl _,fun _ _=>rfl⟩:Below w.heap.size o o.drew).trans W)
  have X:¬ ((i:Int)=(n:Int)):=by omega
  have hw1:IntKind.i64.wrap ((i:Int)+1)=(i:Int)+1:=by rw[IntKind.wrap_i64];omega
  have V:(0:Int)≤(i:Int)+1:=by omega
  have hin:i≤n:=by omega
  have U:((i:Int)+1).toNat=i+1:=by omega
  have T:¬ (c'=i+1):=by omega
  have K:i+1≤n+1:=by omega
  have Y:(i:Int)≤(n:Int)+1:=by omega
  have S:¬ (c'=i):=by omega
  have hb5:¬ (c=i):=by omega
  clear g f R q y P L t O p l z r d I G;have mixed:=mixed;go_enter Tryz.func231,Tryz.ntmps231;go_wp2_with (at_builtin;refine Lib.wpList_append_run _ rfl _ _ _ _ rfl _ _ rfl rfl _ _ s ?_);go_region;go_wp2;go_ret;exact⟨c',rfl,R4,A⟩
theorem insP (R:Rw w 188 1 b n c xs) (g:Blk w vb [e1] 188) (d:vb≠b) (hi:i<=n) (hn:n<=1000000000) (j:∀ v∈xs,v.oneCell'=true) (f:∀ v∈[e1],v.oneCell'=true) :
  Calls Tryz.prog 231 #[.slice (some ⟨b,0,none⟩) n c,.int .i64 i,.slice (some ⟨vb,0,none⟩) 1 1] w fun e w'=>∃ b' c',e=.returned (.slice (some ⟨b',0,none⟩) (n+1) c')/\(b'=b\/w.heap.size<=b')/\Rw w' 188 1 b' (n+1) c' (xs.take (i * 1) ++ [e1] ++ xs.drop (i * 1))/\Chg (·=b) w w':=by
 by_cases h:i=n
 ·subst h;refine(BM R g hn f).mono ?_
  rintro e w' ⟨b',c',rfl,hb,a,hC⟩;exact⟨b',c',rfl,hb,a.to (by rw[List.take_of_length_le (by rw[R.len];omega),List.drop_of_length_le (by rw[R.len];omega),List.append_nil]),hC⟩
 ·by_cases k:n+1<=c
  ·refine(ui R g d (by omega) k j f).mono ?_
   rintro e w' ⟨rfl,a,hC⟩;exact⟨b,c,rfl,.inl rfl,a,hC⟩
  ·refine(yw R g (by omega) (by omega) hn j f).mono ?_
   rintro e w' ⟨c',rfl,a,hC⟩;exact⟨_,c',rfl,.inr (Nat.le_refl _),a,Chg.of hC⟩
end
end Pg
end
section
namespace Pg
open Go.RowKit Go.Lib
section
variable {w:World} {b n c i:Nat} {xs:List Value}
theorem zW (R:Rw w 185 2 b n c xs) (hi:i < n) (p:c≠i+1) (y:∀ v ∈ xs,v.oneCell'=true) :
    Calls Tryz.prog 202 #[.slice (some ⟨b,0,none⟩) n c,.int .i64 i,.int .i64 (i+1)] w fun e w'=>e=.returned (.slice (some ⟨b,0,none⟩) (n - 1) c)∧Rw w' 185 2 b (n - 1) c (xs.take (i * 2) ++ xs.drop ((i+1) * 2))∧Chg (·=b) w w':=by
  have hx:=R.len;have d:=R.le;simp only[maxLen] at d;have z:=d.1;have A:=d.2
  have f:(xs.drop ((i+1) * 2)).length=(n - (i+1)) * 2:=by rw[List.length_drop,hx];omega
  obtain⟨O,g,l,t⟩:= jQ KE 188 (R.drew.front (m:=i) (by omega)) ⟨b,(i+1) * 2,none⟩ (n - (i+1)) (c - (i+1)) (xs.drop ((i+1) * 2)) f
    (fun j v u => by
      rw[List.getElem?_drop] at u;rw[Addr.add_lit]
      exact R.drew.cell (by simpa using u)) (fun v hv=>y v (List.mem_of_mem_drop hv)) (by omega)
  rw[show i+(n - (i+1))=n - 1 by omega] at l;obtain⟨G,o,x,r⟩:= iT KE 0 l (n - (n - 1)) (c - (n - 1)) (by omega) (by omega)
  have L:Chg (·=b) w G:=((Chg.refl _ w).drew.trans t (fun _ _ h=>h)).trans r (fun _ _ h=>h);obtain⟨q,F⟩:∃ q,n=i+1+q:=⟨n - (i+1),by omega⟩;subst F;rw[show i+1+q - (i+1)=q by omega] at g;rw[show i+1+q - 1=i+q by omega] at o x ⊢
  have J:¬ ((i:Int)=(i:Int)+1):=by omega
  have N:i≤i+1+q:=by omega
  have C:¬ (c=i+1):=p
  have H:(0:Int)≤(i:Int)+1:=by omega
  have M:i≤c:=by omega
  have E:((i:Int)+1).toNat=i+1:=by omega
  have K:¬ (c=i+q):=by omega
  have B:(i:Int)+1≤((i+1+q:Nat):Int):=by omega
  have I:i+1≤i+1+q:=by omega
  have s:(i:Int)+1≤(i:Int)+1+(q:Int):=by omega
  have D:((i+1+q:Nat):Int)≤(c:Int):=by omega
  clear d R l t r f y;have mixed:=mixed;go_enter Tryz.func202,Tryz.ntmps202;go_wp2;go_region_law_o (refine j8 rfl (.tmp 22) (.tmp 25) 188 188 rfl _ _ (by simp[Act.eval,Act.put]) (by simp[Act.eval,Act.put]) g ?_);go_wp2;go_ret;exact⟨rfl,x,L⟩
theorem yc (R:Rw w 185 2 b (i+1) (i+1) xs) :
  Calls Tryz.prog 202 #[.slice (some ⟨b,0,none⟩) (i+1) (i+1),.int .i64 i,.int .i64 (i+1)] w fun e w'=>e=.returned (.slice (some ⟨b,0,none⟩) i (i+1))/\Rw w' 185 2 b i (i+1) (xs.take (i * 2))/\Chg (·=b) w w':=by
 have c:=R.le;simp only[maxLen] at c;have n:=c.2;obtain⟨A,d,f,l⟩:=jQ KE 188 (R.drew.front (m:=i) (by omega)) ⟨b,0,none⟩ 0 0 [] (by simp) (fun j v s=>by simp at s) (fun v hv=>by simp at hv) (by omega);rw[Nat.add_zero] at f d;rw[List.append_nil] at f;obtain⟨r,p,x,g⟩:=iT KE 0 f 1 1 (by omega) (by omega)
 have u:Chg (·=b) w r:=((Chg.refl _ w).drew.trans l (fun _ _ h=>h)).trans g (fun _ _ h=>h)
 have o:¬ ((i:Int)=(i:Int)+1):=by omega
 have z:i<=i+1:=by omega
 have t:(0:Int)<=(i:Int)+1:=by omega
 have q:((i:Int)+1).toNat=i+1:=by omega
 have e1:i+1 - i=1:=by omega
 have y:(i:Int)<=(i:Int)+1:=by omega
 clear c R f l g;have mixed:=mixed;go_enter Tryz.func202,Tryz.ntmps202;go_wp2;go_region_law_o (refine j8 rfl (.tmp 22) (.tmp 25) 188 188 rfl _ _ (by simp[Act.eval,Act.put]) (by simp[Act.eval,Act.put]) d ?_);go_wp2;go_ret;exact⟨rfl,x,u⟩
theorem delE (R:Rw w 185 2 b n c xs) (hi:i < n) (a:∀ v∈xs,v.oneCell'=true) :
  Calls Tryz.prog 202 #[.slice (some ⟨b,0,none⟩) n c,.int .i64 i,.int .i64 (i+1)] w fun e w'=>e=.returned (.slice (some ⟨b,0,none⟩) (n - 1) c)/\Rw w' 185 2 b (n - 1) c (xs.take (i * 2) ++ xs.drop ((i+1) * 2))/\Chg (·=b) w w':=by
 by_cases h:c=i+1
 ·have f:=R.le;obtain rfl:n=i + 1:=by omega
  subst h;refine(yc R).mono ?_
  rintro e w' ⟨rfl,d,hC⟩;exact⟨by simp,d.to (by rw[List.drop_of_length_le (by rw[R.len];omega),List.append_nil]),hC⟩
 ·exact zW R hi h a
end
section
variable {w:World} {b n c i:Nat} {xs:List Value}
theorem Ce (R:Rw w 188 1 b n c xs) (hi:i < n) (p:c≠i+1) (y:∀ v ∈ xs,v.oneCell'=true) :
    Calls Tryz.prog 203 #[.slice (some ⟨b,0,none⟩) n c,.int .i64 i,.int .i64 (i+1)] w fun e w'=>e=.returned (.slice (some ⟨b,0,none⟩) (n - 1) c)∧Rw w' 188 1 b (n - 1) c (xs.take (i * 1) ++ xs.drop ((i+1) * 1))∧Chg (·=b) w w':=by
  have hx:=R.len;have d:=R.le;simp only[maxLen] at d;have z:=d.1;have A:=d.2
  have f:(xs.drop ((i+1) * 1)).length=(n - (i+1)) * 1:=by rw[List.length_drop,hx];omega
  obtain⟨O,l,o,t⟩:= jQ KP 146 (R.drew.front (m:=i) (by omega)) ⟨b,i+1,none⟩ (n - (i+1)) (c - (i+1)) (xs.drop ((i+1) * 1)) f
    (fun j v u => by
      rw[List.getElem?_drop] at u;rw[Addr.add_lit]
      exact R.drew.cell (by simpa using u)) (fun v hv=>y v (List.mem_of_mem_drop hv)) (by omega)
  rw[show i+(n - (i+1))=n - 1 by omega] at o;obtain⟨G,g,x,r⟩:= iT KP 0 o (n - (n - 1)) (c - (n - 1)) (by omega) (by omega)
  have L:Chg (·=b) w G:=((Chg.refl _ w).drew.trans t (fun _ _ h=>h)).trans r (fun _ _ h=>h);obtain⟨q,F⟩:∃ q,n=i+1+q:=⟨n - (i+1),by omega⟩;subst F;rw[show i+1+q - (i+1)=q by omega] at l;rw[show i+1+q - 1=i+q by omega] at g x ⊢;simp only[Nat.mul_one] at g
  have J:¬ ((i:Int)=(i:Int)+1):=by omega
  have N:i≤i+1+q:=by omega
  have C:¬ (c=i+1):=p
  have H:(0:Int)≤(i:Int)+1:=by omega
  have M:i≤c:=by omega
  have E:((i:Int)+1).toNat=i+1:=by omega
  have K:¬ (c=i+q):=by omega
  have B:(i:Int)+1≤((i+1+q:Nat):Int):=by omega
  have I:i+1≤i+1+q:=by omega
  have s:(i:Int)+1≤(i:Int)+1+(q:Int):=by omega
  have D:((i+1+q:Nat):Int)≤(c:Int):=by omega
  clear d R o t r f y;have mixed:=mixed;go_enter Tryz.func203,Tryz.ntmps203;go_wp2;go_region_law_o (refine j8 rfl (.tmp 22) (.tmp 25) 146 146 rfl _ _ (by simp[Act.eval,Act.put]) (by simp[Act.eval,Act.put]) l ?_);go_wp2;go_ret;exact⟨rfl,x,L⟩
theorem xr (R:Rw w 188 1 b (i+1) (i+1) xs) :
  Calls Tryz.prog 203 #[.slice (some ⟨b,0,none⟩) (i+1) (i+1),.int .i64 i,.int .i64 (i+1)] w fun e w'=>e=.returned (.slice (some ⟨b,0,none⟩) i (i+1))/\Rw w' 188 1 b i (i+1) (xs.take (i * 1))/\Chg (·=b) w w':=by
 have c:=R.le;simp only[maxLen] at c;have o:=c.2;obtain⟨A,d,f,n⟩:=jQ KP 146 (R.drew.front (m:=i) (by omega)) ⟨b,0,none⟩ 0 0 [] (by simp) (fun j v s=>by simp at s) (fun v hv=>by simp at hv) (by omega);rw[Nat.add_zero] at f d;rw[List.append_nil] at f;obtain⟨r,g,x,l⟩:=iT KP 0 f 1 1 (by omega) (by omega)
 have u:Chg (·=b) w r:=((Chg.refl _ w).drew.trans n (fun _ _ h=>h)).trans l (fun _ _ h=>h);simp only[Nat.mul_one] at g
 have p:¬ ((i:Int)=(i:Int)+1):=by omega
 have z:i<=i+1:=by omega
 have t:(0:Int)<=(i:Int)+1:=by omega
 have q:((i:Int)+1).toNat=i+1:=by omega
 have e1:i+1 - i=1:=by omega
 have y:(i:Int)<=(i:Int)+1:=by omega
 clear c R f n l;have mixed:=mixed;go_enter Tryz.func203,Tryz.ntmps203;go_wp2;go_region_law_o (refine j8 rfl (.tmp 22) (.tmp 25) 146 146 rfl _ _ (by simp[Act.eval,Act.put]) (by simp[Act.eval,Act.put]) d ?_);go_wp2;go_ret;exact⟨rfl,x,u⟩
theorem delP (R:Rw w 188 1 b n c xs) (hi:i < n) (a:∀ v∈xs,v.oneCell'=true) :
  Calls Tryz.prog 203 #[.slice (some ⟨b,0,none⟩) n c,.int .i64 i,.int .i64 (i+1)] w fun e w'=>e=.returned (.slice (some ⟨b,0,none⟩) (n - 1) c)/\Rw w' 188 1 b (n - 1) c (xs.take (i * 1) ++ xs.drop ((i+1) * 1))/\Chg (·=b) w w':=by
 by_cases h:c=i+1
 ·have f:=R.le;obtain rfl:n=i + 1:=by omega
  subst h;refine(xr R).mono ?_
  rintro e w' ⟨rfl,d,hC⟩;exact⟨by simp,d.to (by rw[List.drop_of_length_le (by rw[R.len];omega),List.append_nil]),hC⟩
 ·exact Ce R hi h a
end
end Pg
end
section
namespace Pg
open Go.RowKit Go.Lib
section
variable {w w':World}{v:Value}{l:List Int}{D D':Nat->Prop}{a:Addr}{n:Nat}{xs:List Value}
def Oct(l:List Int):Prop:=∀ x∈l,0<=x/\x < 256
structure By(w:World)(v:Value)(l:List Int):Prop where
 ex:∃ ao c,v=.slice ao l.length c/\l.length<=c/\c<=9223372036854775807/\(ao=none->c=0)/\Oct l/\(l=[]\/∃ b o,ao=some ⟨b,o,none⟩/\b < w.heap.size/\∀ i x,l[i]?=some x->w.cell? ⟨b,o+i,none⟩=some (.int .u8 x))
theorem By.keep(h:By w v l)(hb:Below w.heap.size w w'):By w' v l:=by
 obtain⟨k,c,d,j,n,m,f,g⟩:=h.ex;refine⟨k,c,d,j,n,m,f,g.imp id ?_⟩;rintro⟨b,o,e,a,hc⟩;exact⟨b,o,e,Nat.lt_of_lt_of_le a hb.size,fun i x hi=>by rw[hb.cell (p:=⟨b,o+i,none⟩) a];exact hc i x hi⟩
theorem By.drew(h:By w v l):By w.drew v l:=h.keep ⟨rfl,rfl,rfl,Nat.le_refl _,fun _ _=>rfl⟩
theorem By.oct(h:By w v l):Oct l:=by
 obtain⟨ao,c,h1,h2,h3,h4,h5,h6⟩:=h.ex;exact h5
theorem By.nil(w:World):By w (.slice none 0 0) []:=⟨none,0,rfl,by decide,by decide,fun _=>rfl,fun _ h=>by simp at h,.inl rfl⟩
structure OB(w:World)(D:Nat->Prop)(v:Value)(l:List Int):Prop where
 oct:Oct l
 ex:(v=.slice none 0 0/\l=[])\/∃ b c,v=.slice (some ⟨b,0,none⟩) l.length c/\D b/\Rw w 5 1 b l.length c (l.map (Value.int .u8))
theorem OB.by(h:OB w D v l):By w v l:=by
 rcases h.ex with⟨rfl,rfl⟩ | ⟨b,c,rfl,hd,hR⟩
 ·exact By.nil w
 ·have a:=hR.le;simp only[maxLen] at a;exact⟨_,c,rfl,by omega,by omega,(fun e=>by cases e),h.oct,.inr ⟨b,0,rfl,hR.lt,fun i x hi=>by rw[Nat.zero_add];exact hR.cell (by simp[hi])⟩⟩
theorem OB.mono(h:OB w D v l)(hD:∀ b,b < w.heap.size->D b->D' b):OB w D' v l:=by
 refine⟨h.oct,h.ex.imp id ?_⟩;rintro⟨b,c,e,hd,hR⟩;exact⟨b,c,e,hD b hR.lt hd,hR⟩
theorem OB.same(h:OB w D v l)(hD:∀ b,b < w.heap.size->D b->w'.heap[b]?=w.heap[b]?):OB w' D v l:=by
 refine⟨h.oct,h.ex.imp id ?_⟩;rintro⟨b,c,e,hd,hR⟩;exact⟨b,c,e,hd,hR.same (hD b hR.lt hd)⟩
theorem OB.keep(h:OB w D v l)(hb:Below w.heap.size w w'):OB w' D v l:=h.same fun b hb' _=>hb.block b hb'
theorem OB.one(h:OB w D v l):v.oneCell'=true:=by
 rcases h.ex with⟨rfl,rfl⟩ | ⟨b,c,rfl,hd,hR⟩<;>rfl
def dn:List Int->List Int->Int
 | [],[]=>0
 | [],_ :: _=>-1
 | _ :: _,[]=>1
 | x :: a,y :: b=>if x < y then -1 else if y < x then 1 else dn a b
theorem EP{x y:Int}(hx:0<=x/\x < 256)(hy:0<=y/\y < 256):(UInt8.ofNat x.toNat < UInt8.ofNat y.toNat)<->x < y:=by
 rw[UInt8.lt_iff_toNat_lt,UInt8.toNat_ofNat_of_lt' (by show x.toNat < 256;omega),UInt8.toNat_ofNat_of_lt' (by show y.toNat < 256;omega)];omega
theorem jZ:∀ (l l':List Int),Oct l->Oct l'->compareBytes (bytesOf l) (bytesOf l')=dn l l'
 | [],[],_,_=>rfl
 | [],_ :: _,_,_=>rfl
 | _ :: _,[],_,_=>rfl
 | x :: a,y :: b,h,h'=>by
  have ih:=jZ a b (fun z c=>h z (List.mem_cons_of_mem _ c)) (fun z c=>h' z (List.mem_cons_of_mem _ c));have hx:=h x List.mem_cons_self;have hy:=h' y List.mem_cons_self
  show (if UInt8.ofNat x.toNat < UInt8.ofNat y.toNat then _ else if UInt8.ofNat y.toNat < UInt8.ofNat x.toNat then _ else compareBytes (bytesOf a) (bytesOf b))=_
  rw[dn];simp only[EP hx hy,EP hy hx,ih]
theorem lD{P:Program}(h:By w v l):(Extern.Bytes.bytesOf v).run P w=.ok ⟨(bytesOf l).toArray⟩ w:=by
 obtain⟨k,c,rfl,n,p,f,m,g⟩:=h.ex
 cases k with
 | none =>
  have:l=[]:=List.eq_nil_of_length_eq_zero (by have:=f rfl;omega);subst this;rfl
 | some a =>
  rcases g with rfl | ⟨b,o,e,d,hc⟩
  ·rfl
  ·cases e;have:=run_loadBytesX (P:=P) w l ⟨b,o,none⟩ .empty (fun j x i=>by rw[Addr.add_lit];exact hc j x i)
   show (Extern.Bytes.loadBytes ⟨b,o,none⟩ l.length .empty).run P w=_
   rw[this];congr 1
   apply ByteArray.ext;simp
theorem lN{c:Value}{b:List Int}(h:By w v l)(d:By w c b) :
  Calls Tryz.prog 206 #[v,c] w fun e w'=>e=.returned (.int .i64 (dn l b))/\w'=w:=by
 have f:(callFunc 236 #[v,c]).run Tryz.prog w=.ok (.value (.int .i64 (dn l b))) w:=by
  rw[run_callFunc_extern Tryz.func236 (by kernel_rfl) (by kernel_rfl) (by kernel_rfl) (e:=Extern.BytealgCompare.compare) (by kernel_rfl)];have:(Extern.BytealgCompare.compare #[v,c]).run Tryz.prog w=.ok (.int .i64 (dn l b)) w:=by
   change Sem.run Tryz.prog (do pure (goInt (Extern.BytealgCompare.cmp (<- Extern.Bytes.bytesOf v) (<- Extern.Bytes.bytesOf c)))) w=_
   simp only[Sem.run_bind,lD h,lD d,Sem.run_pure,Result.andThen];rw[cmp_eq,jZ l b h.oct d.oct];rfl
  rw[this];rfl
 clear h d;generalize dn l b=x at *;go_enter Tryz.func206,Tryz.ntmps206;go_wp2_with (simp only[f]);go_ret;exact⟨rfl,rfl⟩
theorem KB:Kd Tryz.prog 87 5 1 1 (.int .u8 0):=⟨by kernel_rfl,by kernel_rfl,rfl,by simp[Value.cells,Value.oneCell'],by decide⟩
theorem oe(h:w.cell? a=some v)(o:Obj):(w.alloc o).cell? a=some v:=by
 have b:a.block < w.heap.size:=by
  unfold World.cell? at h
  cases hh:w.heap[a.block]? with
  | none=>simp[hh] at h
  | some ob=>exact lt_of_block hh
 rw[(ae w o).cell b];exact h
theorem map_u8(l:List Int):∀ v∈l.map (Value.int .u8),v.oneCell'=true:=by
 intro v hv;obtain⟨x,_,rfl⟩:=List.mem_map.1 hv;rfl
theorem cO(h:By w v l)(r:l.length<=1000000000) :
  Calls Tryz.prog 69 #[v] w fun e w'=>∃ v',e=.returned v'/\OB w' (w.heap.size <= ·) v' l/\Below w.heap.size w w':=by
 have s:=h.oct;obtain⟨F,c,rfl,H,I,E,B,A⟩:=h.ex
 cases F with
 | none =>
  have C:l=[]:=List.eq_nil_of_length_eq_zero (by have:=E rfl;omega);subst C;have f:=fun(w:World) (a:Option Addr) (n c:Nat)=>Go.Lib.run_eql_slice_nil (P:=Tryz.prog) w 87 _ a n c 0 0 KB.und
  go_enter Tryz.func69,Tryz.ntmps69;go_wp2;go_ret;exact⟨_,rfl,⟨s,.inl ⟨rfl,rfl⟩⟩,Below.refl _ _⟩
 | some a =>
  have z:Rw (w.alloc (.cells #[] 5)) 5 1 w.heap.size 0 0 []:=yR (aD w [] _) rfl (by decide)
  have d:∀ j u,(l.map (Value.int .u8))[j]? = some u->(w.alloc (.cells #[] 5)).cell? (a.add j)=some u:=fun j u p=>by
   rcases A with rfl | ⟨b,o,e,D,hc⟩
   ·simp at p
   ·cases e;rw[List.getElem?_map] at p;obtain⟨x,hx,rfl⟩:=Option.map_eq_some_iff.1 p;exact oe (by rw[Addr.add_lit];exact hc j x hx) _
  obtain⟨q,y,W,t,g,i,hC⟩:=eu KB 87 z a l.length c (l.map (Value.int .u8)) (by simp) d (map_u8 l) (by omega) (by omega);rw[Nat.zero_add] at t i
  have G:Below w.heap.size w W:=(ae w (.cells #[] 5)).trans (hC.below (fun b hb=>by omega) (ae w _).size)
  have m:w.heap.size<=q:=by rcases g with e | e;omega;rw[World.size_alloc] at e;omega
  have hF:OB W (w.heap.size <= ·) (.slice (some ⟨q,0,none⟩) l.length y) l:=⟨s,.inr ⟨q,y,rfl,m,i.to (by simp)⟩⟩
  clear z d A h i hC B g;have f:=fun(w:World) (a:Option Addr) (n c:Nat)=>Go.Lib.run_eql_slice_nil (P:=Tryz.prog) w 87 _ a n c 0 0 KB.und
  go_enter Tryz.func69,Tryz.ntmps69;go_wp2_with (at_builtin;refine Lib.wpList_append_run _ rfl _ _ _ _ rfl _ _ rfl rfl _ _ t ?_);go_ret;exact⟨_,rfl,hF,G⟩
theorem AK{c:Nat}(hn:n<=1000000000)(hx:xs.length=n * 2)(hc:∀ j v,xs[j]?=some v->w.cell? (a.add j)=some v)(i:∀ v∈xs,v.oneCell'=true) :
  Calls Tryz.prog 230 #[.slice (some a) n c] w fun e w'=>∃ b' c',e=.returned (.slice (some ⟨b',0,none⟩) n c')/\w.heap.size<=b'/\Rw w' 185 2 b' n c' xs/\Below w.heap.size w w':=by
 have o:Rw (w.alloc (.cells #[] 185)) 185 2 w.heap.size 0 0 []:=yR (aD w [] _) rfl (by decide);obtain⟨b',c',W,m,d,f,hC⟩:=eu KE 188 o a n c xs hx (fun j v p=>oe (hc j v p) _) i (by omega) (by omega);rw[Nat.zero_add] at m f;rw[List.nil_append] at f
 have q:Below w.heap.size w W:=(ae w (.cells #[] 185)).trans (hC.below (fun b hb=>by omega) (ae w _).size)
 have g:w.heap.size<=b':=by rcases d with e | e;omega;rw[World.size_alloc] at e;omega
 clear o hc i hC d;have l:=fun(w:World) (a:Option Addr) (n c:Nat)=>Go.Lib.run_eql_slice_nil (P:=Tryz.prog) w 188 _ a n c 0 0 KE.und
 go_enter Tryz.func230,Tryz.ntmps230;go_wp2_with (at_builtin;refine Lib.wpList_append_run _ rfl _ _ _ _ rfl _ _ rfl rfl _ _ m ?_);go_ret;exact⟨b',c',rfl,g,f,q⟩
theorem growE(d:0 < n)(hn:n<=1000000000) :
  Calls Tryz.prog 249 #[.slice none 0 0,.int .i64 n] w fun e w'=>∃ b' c',e=.returned (.slice (some ⟨b',0,none⟩) 0 c')/\w.heap.size<=b'/\Rw w' 185 2 b' 0 c' []/\Below w.heap.size w w':=by
 obtain⟨c',W,g,c,j⟩:=oD (w:=w) KE 3 188 lg n d (by omega) (by omega)
 have b:Rw W 185 2 w.heap.size 0 c' []:=(c.front (m:=0) (by omega)).to (by simp)
 have i:¬ ((n:Int) < 0):=by omega
 have f:(0:Int) < n:=by omega
 clear c;go_enter Tryz.func249,Tryz.ntmps249;go_wp2_with (at_builtin;refine Lib.wpList_append_run _ rfl _ _ _ _ rfl _ _ rfl rfl _ _ g ?_);go_ret;exact⟨_,c',rfl,Nat.le_refl _,b,j⟩
end
end Pg
end
section
namespace Pg
open Go.RowKit Go.Lib
theorem DA {w:World} {vb D n1 c1 C n2 c2:Nat} {xs ys:List Value} (q:Blk w vb [.slice (some ⟨D,0,none⟩) n1 c1,.slice (some ⟨C,0,none⟩) n2 c2] 188)
  (F:Rw w 185 2 D n1 c1 xs) (G:Rw w 185 2 C n2 c2 ys) (H:0 < n1+n2) (L:n1<=1000000) (M:n2<=1000000) (J:∀ v∈xs,v.oneCell'=true) (I:∀ v∈ys,v.oneCell'=true) :
  Calls Tryz.prog 235 #[.slice (some ⟨vb,0,none⟩) 2 2] w fun e w'=>∃ b' c',e=.returned (.slice (some ⟨b',0,none⟩) (n1+n2) c')/\w.heap.size<=b'/\Rw w' 185 2 b' (n1+n2) c' (xs ++ ys)/\Below w.heap.size w w':=by
 have E:=growE (w:=w) (n:=n1+n2) H (by omega);rw[show ((n1+n2:Nat):Int)=(n1:Int)+(n2:Int) by omega] at E;have q0:=q.cell (i:=0) rfl;have q1:=q.cell (i:=1) rfl;go_enter Tryz.func235,Tryz.ntmps235;go_wp2;go_loopw [3,11] (fun ts f wr=>wr=w/\((f=.int .i64 0/\ts=.int .i64 0)\/(f=.int .i64 1/\ts=.int .i64 n1)\/(f=.int .i64 2/\ts=.int .i64 (n1+n2)))) (fun _ f _=>2 - (intOf f).toNat)
 case atStart=>exact⟨rfl,.inl ⟨rfl,rfl⟩⟩
 case round =>
  obtain⟨rfl,⟨rfl,rfl⟩ | ⟨rfl,rfl⟩ | ⟨rfl,rfl⟩⟩:=hrel
  ·have K:¬ ((n1:Int) < 0):=by omega
   go_wp2;go_roundw
   case rel=>exact⟨trivial,.inr (.inl ⟨rfl,rfl⟩)⟩
   case measure=>simp[intOf]
  ·have K:¬ ((n1:Int) + (n2:Int) < 0):=by omega
   go_wp2;go_roundw
   case rel=>exact⟨trivial,.inr (.inr ⟨rfl,rfl⟩)⟩
   case measure=>simp[intOf]
  ·rename World=>W0
   go_wp2_with (go_at_call 249;refine E.mono ?_;rintro e N ⟨b,c,rfl,hb,l,t⟩);clear E
   have z:=(q.keep t).cell (i:=0) rfl
   have A:=(q.keep t).cell (i:=1) rfl;have r:=t;clear t q0 q1;go_loopw [6,27] (fun ts f y=>Below W0.heap.size W0 y/\∃ b c,W0.heap.size<=b/\((f=.int .i64 0/\ts=.slice (some ⟨b,0,none⟩) 0 c/\Rw y 185 2 b 0 c [])\/(f=.int .i64 1/\ts=.slice (some ⟨b,0,none⟩) n1 c/\Rw y 185 2 b n1 c xs)\/(f=.int .i64 2/\ts=.slice (some ⟨b,0,none⟩) (n1+n2) c/\Rw y 185 2 b (n1+n2) c (xs ++ ys)))) (fun _ f _=>2 - (intOf f).toNat)
   case atStart=>exact⟨r,b,c,hb,.inl ⟨rfl,rfl,l⟩⟩
   case round =>
    clear l r hb z A;obtain⟨d,b,c,hb,⟨rfl,rfl,l⟩ | ⟨rfl,rfl,l⟩ | ⟨rfl,rfl,l⟩⟩:=hrel
    ·have q0:=(q.keep d).cell (i:=0) rfl;have S:=F.keep d;obtain⟨b',c',W,s,g,m,hC⟩:=eu KE 188 l ⟨D,0,none⟩ n1 c1 xs F.len (fun j u B=>by rw[Addr.add_lit,Nat.zero_add];exact S.cell B) J (by omega) (by omega);rw[Nat.zero_add] at s m
     have p:Below W0.heap.size W0 W:=d.trans (hC.below (fun x hx=>by omega) d.size)
     have o:W0.heap.size<=b':=by
      have:=d.size;rcases g with e | e<;>omega
     clear hC g l S;go_wp2_with (at_builtin;refine Lib.wpList_append_run _ rfl _ _ _ _ rfl _ _ rfl rfl _ _ s ?_);go_roundw
     case rel=>exact⟨p,b',c',o,.inr (.inl ⟨rfl,rfl,m⟩)⟩
     case measure=>simp[intOf]
    ·have q1:=(q.keep d).cell (i:=1) rfl;have S:=G.keep d;obtain⟨b',c',W,s,g,m,hC⟩:=eu KE 188 l ⟨C,0,none⟩ n2 c2 ys G.len (fun j u B=>by rw[Addr.add_lit,Nat.zero_add];exact S.cell B) I (by omega) (by omega)
     have p:Below W0.heap.size W0 W:=d.trans (hC.below (fun x hx=>by omega) d.size)
     have o:W0.heap.size<=b':=by
      have:=d.size;rcases g with e | e<;>omega
     clear hC g l S;go_wp2_with (at_builtin;refine Lib.wpList_append_run _ rfl _ _ _ _ rfl _ _ rfl rfl _ _ s ?_);go_roundw
     case rel=>exact⟨p,b',c',o,.inr (.inr ⟨rfl,rfl,m⟩)⟩
     case measure=>simp[intOf]
    ·go_wp2;go_ret;exact⟨b,c,rfl,hb,l,d⟩
end Pg
end
section
namespace Pg
section
variable {a b k:List Int}{l:List (List Int)}
theorem jx:∀ (a b:List Int),dn a b=-1\/dn a b=0\/dn a b=1
 | [],[]=>.inr (.inl rfl)
 | [],_ :: _=>.inl rfl
 | _ :: _,[]=>.inr (.inr rfl)
 | x :: a,y :: b=>by
  rw[dn];split
  ·exact .inl rfl
  ·split
   ·exact .inr (.inr rfl)
   ·exact jx a b
theorem iO:∀ (a:List Int),dn a a=0
 | []=>rfl
 | x :: a=>by rw[dn,if_neg (by omega),if_neg (by omega)];exact iO a
theorem qa:∀ {a b:List Int},dn a b=0->a=b
 | [],[],_=>rfl
 | [],_ :: _,h=>by simp[dn] at h
 | _ :: _,[],h=>by simp[dn] at h
 | x :: a,y :: b,h=>by
  rw[dn] at h;split at h
  ·omega
  ·split at h
   ·omega
   ·rw[qa h,show x=y by omega]
theorem lp:∀ (a b:List Int),dn b a=- dn a b
 | [],[]=>rfl
 | [],_ :: _=>rfl
 | _ :: _,[]=>rfl
 | x :: a,y :: b=>by
  rw[dn,dn];by_cases h1:x < y
  ·rw[if_neg (by omega),if_pos h1,if_pos h1];rfl
  ·by_cases h2:y < x
   ·rw[if_pos h2,if_neg h1,if_pos h2]
   ·rw[if_neg h2,if_neg h1,if_neg h1,if_neg h2];exact lp a b
def Lt(a b:List Int):Prop:=dn a b=-1
instance (a b:List Int):Decidable (Lt a b):=inferInstanceAs (Decidable (_=_))
theorem Lt.trans:∀ {a b c:List Int},Lt a b->Lt b c->Lt a c
 | [],[],_,h,_=>by simp[Lt,dn] at h
 | [],_ :: _,[],_,h=>by simp[Lt,dn] at h
 | [],_ :: _,_ :: _,_,_=>rfl
 | _ :: _,[],_,h,_=>by simp[Lt,dn] at h
 | _ :: _,_ :: _,[],_,h=>by simp[Lt,dn] at h
 | x :: a,y :: b,z :: c,h,h'=>by
  simp only[Lt] at h h' ⊢;rw[dn] at h h' ⊢;by_cases h1:x < z
  ·rw[if_pos h1]
  ·rw[if_neg h1];split at h
   ·split at h'
    ·omega
    ·split at h'
     ·omega
     ·omega
   ·split at h
    ·omega
    ·split at h'
     ·omega
     ·split at h'
      ·omega
      ·rw[if_neg (by omega)];exact Lt.trans (a:=a) (b:=b) (c:=c) h h'
theorem lt_irrefl(a:List Int):¬ Lt a a:=by simp[Lt,iO]
theorem Lt.not(h:Lt a b):¬ Lt b a:=fun h'=>lt_irrefl a (h.trans h')
theorem qD(a b:List Int):Lt a b\/a=b\/Lt b a:=by
 rcases jx a b with h | h | h
 ·exact .inl h
 ·exact .inr (.inl (qa h))
 ·exact .inr (.inr (by simp only[Lt];rw[lp,h]))
theorem qA(h:Lt a b):dn a b=-1:=h
theorem CU(h:Lt b a):dn a b=1:=by rw[lp,qA h];rfl
theorem not_lt:¬ Lt a b<->a=b\/Lt b a:=by
 constructor
 ·intro h;rcases qD a b with k | k | k
  ·exact absurd k h
  ·exact .inl k
  ·exact .inr k
 ·rintro(h | h)
  ·subst h;exact lt_irrefl a
  ·exact h.not
theorem Lt.of_le{c:List Int}(h:Lt a b)(h':¬ Lt c b):Lt a c:=by
 rcases not_lt.1 h' with k | k
 ·subst k;exact h
 ·exact h.trans k
def plc:List (List Int)->List Int->Nat
 | [],_=>0
 | x :: l,k=>if Lt x k then plc l k+1 else 0
theorem qM:∀ (l:List (List Int)) (k:List Int),plc l k<=l.length
 | [],_=>Nat.le_refl _
 | x :: l,k=>by
  rw[plc];split
  ·have:=qM l k;simp;omega
  ·simp
theorem vo:∀ {l:List (List Int)} {k:List Int} {i:Nat},i<=l.length->(∀ j x,j < i->l[j]?=some x->Lt x k)->(∀ x,l[i]?=some x->¬ Lt x k)->plc l k=i
 | [],_,i,h,_,_=>by simp at h;subst h;rfl
 | x :: l,k,0,_,_,h3=>by rw[plc,if_neg (h3 x rfl)]
 | x :: l,k,i + 1,h1,h2,h3=>by
  rw[plc,if_pos (h2 0 x (by omega) rfl),vo (l:=l) (i:=i) (by simpa using h1) (fun j y hj hy=>h2 (j+1) y (by omega) (by simpa using hy)) (fun y hy=>h3 y (by simpa using hy))]
theorem zM:∀ {l:List (List Int)} {k:List Int} {j:Nat} {x:List Int},j < plc l k->l[j]?=some x->Lt x k
 | [],_,_,_,h,_=>by simp[plc] at h
 | y :: l,k,j,x,h,hx=>by
  rw[plc] at h;split at h
  ·cases j with
   | zero=>simp at hx;subst hx;assumption
   | succ j=>exact zM (l:=l) (j:=j) (by omega) (by simpa using hx)
  ·omega
theorem Ac:∀ {l:List (List Int)} {k:List Int} {x:List Int},l[plc l k]?=some x->¬ Lt x k
 | [],_,_,h=>by simp at h
 | y :: l,k,x,h=>by
  rw[plc] at h;split at h
  ·exact Ac (l:=l) (by simpa using h)
  ·simp at h;subst h;assumption
def Srt(l:List (List Int)):Prop:=l.Pairwise Lt
theorem Srt.get(h:Srt l){i j:Nat}{x y:List Int}(a:i < j)(hi:l[i]?=some x)(d:l[j]?=some y):Lt x y:=by
 obtain⟨b,rfl⟩:=List.getElem?_eq_some_iff.1 hi;obtain⟨c,rfl⟩:=List.getElem?_eq_some_iff.1 d;exact List.pairwise_iff_getElem.1 h i j b c a
def thr(l:List (List Int))(k:List Int):Bool:=decide (l[plc l k]?=some k)
theorem Es(h:Srt l):thr l k=true<->k∈l:=by
 simp only[thr,decide_eq_true_eq];constructor
 ·intro e;exact List.mem_of_getElem? e
 ·intro e;obtain⟨j,a⟩:=List.getElem?_of_mem e;have:plc l k=j:=vo (by have:=(List.getElem?_eq_some_iff.1 a).1;omega) (fun i x hi hx=>h.get hi hx a) (fun x hx=>by rw[a] at hx;cases hx;exact lt_irrefl k);rw[this];exact a
end
end Pg
end
section
namespace Pg
open Go.RowKit Go.Lib
section
variable {w w':World}{D D':Nat->Prop}
structure En where
 kv:Value
 kl:List Int
 vv:Value
 vl:List Int
structure EnA(w:World)(D:Nat->Prop)(e:En):Prop where
 k:OB w D e.kv e.kl
 v:OB w D e.vv e.vl
theorem EnA.keep{e:En}(h:EnA w D e)(hb:Below w.heap.size w w'):EnA w' D e:=⟨h.k.keep hb,h.v.keep hb⟩
theorem EnA.mono{e:En}(h:EnA w D e)(hD:∀ b,b < w.heap.size->D b->D' b):EnA w D' e:=⟨h.k.mono hD,h.v.mono hD⟩
def flat:List En->List Value
 | []=>[]
 | e :: l=>e.kv :: e.vv :: flat l
theorem jJ:∀ (l:List En),(flat l).length=l.length * 2
 | []=>rfl
 | e :: l=>by simp[flat,jJ l];omega
theorem eA:∀ (a b:List En),flat (a ++ b)=flat a ++ flat b
 | [],b=>rfl
 | e :: a,b=>by simp[flat,eA a b]
theorem p6:∀ {l:List En} {i:Nat} {e:En},l[i]?=some e->(flat l)[i * 2]?=some e.kv
 | [],_,_,h=>by simp at h
 | x :: l,0,e,h=>by simp at h;subst h;rfl
 | x :: l,i + 1,e,h=>by
  rw[show (i+1) * 2=i * 2+1+1 by omega,flat,List.getElem?_cons_succ,List.getElem?_cons_succ];exact p6 (l:=l) (by simpa using h)
theorem kO:∀ {l:List En} {i:Nat} {e:En},l[i]?=some e->(flat l)[i * 2+1]?=some e.vv
 | [],_,_,h=>by simp at h
 | x :: l,0,e,h=>by simp at h;subst h;rfl
 | x :: l,i + 1,e,h=>by
  rw[show (i+1) * 2+1=i * 2+1+1+1 by omega,flat,List.getElem?_cons_succ,List.getElem?_cons_succ];exact kO (l:=l) (by simpa using h)
theorem iH:∀ (l:List En) (i:Nat),(flat l).take (i * 2)=flat (l.take i)
 | [],i=>by simp[flat]
 | x :: l,0=>by simp[flat]
 | x :: l,i + 1=>by
  rw[show (i+1) * 2=i * 2+1+1 by omega,flat,List.take_succ_cons,List.take_succ_cons,iH l i,List.take_succ_cons,flat]
theorem iJ:∀ (l:List En) (i:Nat),(flat l).drop (i * 2)=flat (l.drop i)
 | [],i=>by simp[flat]
 | x :: l,0=>by simp
 | x :: l,i + 1=>by
  rw[show (i+1) * 2=i * 2+1+1 by omega,flat,List.drop_succ_cons,List.drop_succ_cons,iJ l i,List.drop_succ_cons]
theorem jV:∀ {l:List En},(∀ e∈l,EnA w D e)->∀ v∈flat l,v.oneCell'=true
 | [],_,v,h=>by simp[flat] at h
 | x :: l,h,v,hv=>by
  have hx:=h x List.mem_cons_self;rcases List.mem_cons.1 hv with rfl | hv
  ·exact hx.k.one
  ·rcases List.mem_cons.1 hv with rfl | hv
   ·exact hx.v.one
   ·exact jV (l:=l) (fun e he=>h e (List.mem_cons_of_mem _ he)) v hv
theorem mo:∀ {l:List En} {i:Nat} {e:En} (u:Value) (ul:List Int),l[i]?=some e->(flat l).set (i * 2+1) u=flat (l.set i { e with vv:=u,vl:=ul })
 | [],_,_,_,_,h=>by simp at h
 | x :: l,0,e,u,ul,h=>by simp at h;subst h;simp[flat]
 | x :: l,i + 1,e,u,ul,h=>by
  rw[show (i+1) * 2+1=i * 2+1+1+1 by omega,flat,List.set_cons_succ,List.set_cons_succ,mo (l:=l) u ul (by simpa using h),List.set_cons_succ,flat]
def kys(l:List En):List (List Int):=l.map En.kl
structure Pg where
 b:Nat
 c:Nat
 es:List En
def Pg.v(p:Pg):Value:=.slice (some ⟨p.b,0,none⟩) p.es.length p.c
structure PgA(w:World)(D:Nat->Prop)(p:Pg):Prop where
 row:Rw w 185 2 p.b p.es.length p.c (flat p.es)
 dP:∀ e∈p.es,EnA w D e
theorem PgA.keep{p:Pg}(h:PgA w D p)(hb:Below w.heap.size w w'):PgA w' D p:=⟨h.row.keep hb,fun e he=>(h.dP e he).keep hb⟩
theorem PgA.one{p:Pg}(h:PgA w D p):∀ v∈flat p.es,v.oneCell'=true:=jV h.dP
theorem cmpE{kv vv v:Value}{l b:List Int}(h:By w kv l)(c:By w v b) :
  Calls Tryz.prog 208 #[.agg #[kv,vv],v] w fun e w'=>e=.returned (.int .i64 (dn l b))/\Below w.heap.size w w':=by
 have hb:=ae w (.cells #[kv,vv] 185);have d:=lN (h.keep hb) (c.keep hb);have B:=aD w [kv,vv] 185;have q0:=B.cell (i:=0) rfl;clear h c B;generalize dn l b=x at *;go_enter Tryz.func208,Tryz.ntmps208;go_wp2_with (go_at_call 206;refine d.mono ?_;rintro e f ⟨rfl,rfl⟩);go_ret;exact⟨rfl,hb⟩
end
end Pg
end
section
namespace Pg
open Go.RowKit Go.Lib
section
variable {w:World}{D:Nat->Prop}{p:Pg}{v:Value}{k:List Int}
theorem bsE(A:PgA w D p)(S:Srt (kys p.es))(h:By w v k)(hn:p.es.length<=1000000) :
  Calls Tryz.prog 207 #[p.v,v,.func (.func 208) #[] #[]] w fun e w'=>e=.returned (.tuple #[.int .i64 (plc (kys p.es) k),.bool (thr (kys p.es) k)])/\Below w.heap.size w w':=by
 obtain⟨b,c,es⟩:=p;simp only[Pg.v] at *;have o:=A.row.le;simp only[maxLen] at o;have y:=o.1;have O:=o.2;obtain⟨n,G⟩:∃ n,es.length=n:=⟨_,rfl⟩
 rw[G] at hn y ⊢;go_enter Tryz.func207,Tryz.ntmps207;go_wp2;go_loopw [9,10] (fun J F wr=>∃ i j:Nat,J=.int .i64 i/\F=.int .i64 j/\i<=j/\j<=n/\Hid (∀ q x,q < i->(kys es)[q]?=some x->Lt x k)/\Hid (∀ q x,j<=q->(kys es)[q]?=some x->¬ Lt x k)/\Below w.heap.size w wr) (fun J F _=>(intOf F).toNat - (intOf J).toNat)
 case atStart=>exact⟨0,n,rfl,rfl,Nat.zero_le _,Nat.le_refl _,fun q x u=>by omega,fun q x u hx=>by
  have:=(List.getElem?_eq_some_iff.1 hx).1;simp[kys] at this
  omega,Below.refl _ _⟩
 case round =>
  obtain⟨i,j,rfl,rfl,U,L,H1,N,g⟩:=hrel;by_cases Q:i < j
  ·obtain⟨m,hm⟩:∃ m,m=(i+j) / 2:=⟨_,rfl⟩
   have X:i<=m:=by omega
   have R:m < j:=by omega
   obtain⟨e,he⟩:∃ e,es[m]?=some e:=⟨es[m],List.getElem?_eq_getElem (by omega)⟩
   have f:=A.keep g;have q0:=f.row.cell (p6 he);have q1:=f.row.cell (kO he)
   have W:IntKind.i64.wrap ((i:Int)+(j:Int))=(i:Int)+(j:Int):=by rw[IntKind.wrap_i64];omega
   have Y:((i:Int)+(j:Int)) / 2 < n:=by omega
   have T:(0:Int)<=((i:Int)+(j:Int)) / 2:=by omega
   have Z:IntKind.i64.wrap (((i:Int)+(j:Int)) / 2)=((i:Int)+(j:Int)) / 2:=by rw[IntKind.wrap_i64];omega
   have r:=cmpE (vv:=e.vv) ((f.dP e (List.mem_of_getElem? he)).k.by) (h.keep g)
   have s:(kys es)[m]?=some e.kl:=by simp[kys,he]
   rw[hm] at q0 q1
   have B:Hid (m=(i+j) / 2):=hm;clear f hm;by_cases hc:Lt e.kl k
   ·rw[qA hc] at r;go_wp2_with (go_at_call 208;refine r.mono ?_;rintro M P ⟨rfl,d⟩);go_roundw
    case rel=>exact⟨m + 1,j,by have:=B.out; congr 1; omega,rfl,by omega,L,fun q x u hx=>by
     by_cases l:q=m
     ·subst l;rw[s] at hx;cases hx;exact hc
     ·exact S.get (by omega) hx s |>.trans hc,N.out,aA g d⟩
    case measure=>have:=B.out;simp[intOf];omega
   ·have I:¬ (dn e.kl k < 0):=by
     rcases jx e.kl k with q | q | q
     ·exact absurd q hc
     ·rw[q];decide
     ·rw[q];decide
    generalize dn e.kl k=x at r I;go_wp2_with (go_at_call 208;refine r.mono ?_;rintro M P ⟨rfl,d⟩);go_roundw
    case rel=>exact⟨i,m,rfl,by have:=B.out; congr 1; omega,by omega,by omega,H1.out,fun q x u hx=>by
     by_cases l:q=m
     ·subst l;rw[s] at hx;cases hx;exact hc
     ·intro H
      exact hc ((S.get (by omega) s hx).trans H),aA g d⟩
    case measure=>have:=B.out;simp[intOf];omega
  ·have K:i=j:=by omega
   subst K
   have E:Hid (plc (kys es) k=i):=vo (by simp[kys];omega) (fun q x u hx=>H1.out q x u hx) (fun x hx=>N.out i x (Nat.le_refl _) hx)
   have f:=A.keep g;by_cases V:i < n
   ·obtain⟨e,he⟩:∃ e,es[i]?=some e:=⟨es[i],List.getElem?_eq_getElem (by omega)⟩
    have q0:=f.row.cell (p6 he);have q1:=f.row.cell (kO he)
    have s:(kys es)[i]?=some e.kl:=by simp[kys,he]
    have r:=cmpE (vv:=e.vv) ((f.dP e (List.mem_of_getElem? he)).k.by) (h.keep g)
    have C:Hid (thr (kys es) k=(dn e.kl k == 0)):=by
     show _=_
     unfold thr;rw[E.out,s];by_cases q:e.kl=k
     ·subst q;simp[iO]
     ·have:dn e.kl k≠0:=fun z=>q (qa z)
      simp[q,this]
    have t:(i:Int) < n:=by omega
    generalize dn e.kl k=x at r C;clear f;go_wp2_with (go_at_call 208;refine r.mono ?_;rintro M P ⟨rfl,d⟩)
    all_goals (
     go_ret2;refine⟨?_,aA g d⟩;rw[C.out,E.out]
     rfl)
   ·have C:Hid (thr (kys es) k=false):=by
     show _=_
     unfold thr;rw[E.out,List.getElem?_eq_none (by simp[kys];omega)];rfl
    have t:¬ ((i:Int) < n):=by omega
    go_wp2;go_ret2;refine⟨?_,g⟩;rw[C.out,E.out];rfl
theorem ie(A:PgA w D p)(S:Srt (kys p.es))(h:By w v k)(hn:p.es.length<=1000000) :
  Calls Tryz.prog 169 #[p.v,v] w fun e w'=>e=.returned (.tuple #[.int .i64 (plc (kys p.es) k),.bool (thr (kys p.es) k)])/\Below w.heap.size w w':=by
 have t:=bsE A S h hn;generalize plc (kys p.es) k=x at *;generalize thr (kys p.es) k=y at *;simp only[Pg.v] at *;clear A S h;go_enter Tryz.func169,Tryz.ntmps169;go_wp2_with (go_at_call 207;refine t.mono ?_;rintro c d ⟨rfl,b⟩);go_ret2;exact⟨rfl,b⟩
end
end Pg
end
section
namespace Pg
open Go.RowKit Go.Lib
section
variable {w w':World}{F D:Nat->Prop}{g b:Nat}{L:List Pg}{P:List (List En)}{es:List En}
structure bT(w:World)(F D:Nat->Prop)(g:Nat)(L:List Pg):Prop where
 top:∃ pv,Blk w g [pv] 148/\F g/\((pv=.slice none 0 0/\L=[])\/∃ G C,pv=.slice (some ⟨G,0,none⟩) L.length C/\F G/\Rw w 188 1 G L.length C (L.map Pg.v))
 cC:∀ p∈L,PgA w D p/\F p.b
 apart:(L.map Pg.b).Nodup
 kind:∀ b,F b->∃ cs t,Blk w b cs t/\t≠5
theorem bT.lt(h:bT w F D g L)(hb:F b):b < w.heap.size:=by
 obtain⟨cs,t,h,_⟩:=h.kind b hb;exact h.lt
theorem bT.same(h:bT w F D g L)(f:∀ b,F b->w'.heap[b]?=w.heap[b]?)(r:∀ b,b < w.heap.size->D b->(∃ cs,Blk w b cs 5)->w'.heap[b]?=w.heap[b]?):bT w' F D g L:=by
 obtain⟨o,hb,m,i⟩:=h.top
 have a:∀ {v:Value} {l:List Int},OB w D v l->OB w' D v l:=fun h=>⟨h.oct,h.ex.imp id (by
  rintro⟨b,c,e,hd,d⟩
  exact⟨b,c,e,hd,d.same (r b d.lt hd d.kind)⟩)⟩
 refine⟨⟨o,hb.same (f g m),m,i.imp id ?_⟩,fun p i=>?_,h.apart,fun b hb=>?_⟩
 ·rintro⟨G,C,e,j,d⟩;exact⟨G,C,e,j,d.same (f G j)⟩
 ·obtain⟨hA,hF⟩:=h.cC p i;exact⟨⟨hA.row.same (f _ hF),fun e he=>⟨a (hA.dP e he).k,a (hA.dP e he).v⟩⟩,hF⟩
 ·obtain⟨cs,t,n,q⟩:=h.kind b hb;exact⟨cs,t,n.same (f b hb),q⟩
theorem bT.keep(h:bT w F D g L)(hb:Below w.heap.size w w'):bT w' F D g L:=h.same (fun b hF=>hb.block b (h.lt hF)) (fun b hl _ _=>hb.block b hl)
theorem bT.drew(h:bT w F D g L):bT w.drew F D g L:=h.same (fun _ _=>rfl) (fun _ _ _ _=>rfl)
theorem bT.chg{F':Nat->Prop}(h:bT w F D g L)(hc:Chg F' w w')(a:∀ b,F' b->¬ F b)(d:∀ b,F' b->∀ cs,¬ Blk w b cs 5):bT w' F D g L :=
 h.same (fun b hF=>hc.same b (h.lt hF) fun f=>a b f hF) (fun b c _ e=>hc.same b c fun f=>by obtain⟨cs,k⟩:=e;exact d b f cs k)
theorem bT.noU(h:bT w F D g L)(hb:F b)(cs:List Value):¬ Blk w b cs 5:=fun k=>by
 obtain⟨cs',t,hk,ht⟩:=h.kind b hb;exact ht (hk.eq k).2
theorem bT.mono{D':Nat->Prop}(h:bT w F D g L)(c:∀ b,b < w.heap.size->D b->D' b):bT w F D' g L :=
 ⟨h.top,fun p a=>⟨⟨(h.cC p a).1.row,fun e he=>((h.cC p a).1.dP e he).mono c⟩,(h.cC p a).2⟩,h.apart,h.kind⟩
def ens(L:List Pg):List (List En):=L.map Pg.es
def fks(P:List (List En)):List (List Int):=P.map fun es=>(kys es).headD []
def plq:List (List Int)->List Int->Nat
 | [],_=>0
 | x :: l,k=>if Lt k x then 0 else plq l k+1
theorem p7:∀ (l:List (List Int)) (k:List Int),plq l k<=l.length
 | [],_=>Nat.le_refl _
 | x :: l,k=>by
  rw[plq];split
  ·simp
  ·have:=p7 l k;simp;omega
theorem zX:∀ {l:List (List Int)} {k:List Int} {i:Nat},i<=l.length->(∀ j x,j < i->l[j]?=some x->¬ Lt k x)->(∀ x,l[i]?=some x->Lt k x)->plq l k=i
 | [],_,i,h,_,_=>by simp at h;subst h;rfl
 | x :: l,k,0,_,_,h3=>by rw[plq,if_pos (h3 x rfl)]
 | x :: l,k,i + 1,h1,h2,h3=>by
  rw[plq,if_neg (h2 0 x (by omega) rfl),zX (l:=l) (i:=i) (by simpa using h1) (fun j y hj hy=>h2 (j+1) y (by omega) (by simpa using hy)) (fun y hy=>h3 y (by simpa using hy))]
theorem yL:∀ {l:List (List Int)} {k:List Int} {j:Nat} {x:List Int},j < plq l k->l[j]?=some x->¬ Lt k x
 | [],_,_,_,h,_=>by simp[plq] at h
 | y :: l,k,j,x,h,hx=>by
  rw[plq] at h;split at h
  ·omega
  ·cases j with
   | zero=>simp at hx;subst hx;assumption
   | succ j=>exact yL (l:=l) (j:=j) (by omega) (by simpa using hx)
theorem yX:∀ {l:List (List Int)} {k:List Int} {x:List Int},l[plq l k]?=some x->Lt k x
 | [],_,_,h=>by simp at h
 | y :: l,k,x,h=>by
  rw[plq] at h;split at h
  ·simp at h;subst h;assumption
  ·exact yX (l:=l) (by simpa using h)
def pgi(P:List (List En))(k:List Int):Nat:=plq (fks P) k - 1
structure Ord(P:List (List En)):Prop where
 full:∀ es∈P,es≠[]
 fZ:Srt (kys P.flatten)
theorem Ord.page(h:Ord P){i:Nat}(hi:P[i]?=some es):Srt (kys es):=by
 have hm:=List.mem_of_getElem? hi;have:(kys es).Sublist (kys P.flatten):=(List.sublist_flatten_of_mem hm).map _;exact h.fZ.sublist this
theorem j4(h:es≠[]):∃ e l,es=e :: l/\(kys es).headD []=e.kl:=by
 cases es with
 | nil=>exact absurd rfl h
 | cons e l=>exact⟨e,l,rfl,rfl⟩
theorem Ord.zn:∀ {P:List (List En)},Ord P->Srt (fks P)
 | [],_=>List.Pairwise.nil
 | es :: P,h=>by
  have h2:Ord P:=⟨fun x hx=>h.full x (List.mem_cons_of_mem _ hx),by
   have:=h.fZ;simp only[Srt,kys,List.flatten_cons,List.map_append,List.pairwise_append] at this
   exact this.2.1⟩
  refine List.Pairwise.cons (fun x hx=>?_) (Ord.zn h2);obtain⟨fs,a,rfl⟩:=List.mem_map.1 hx;obtain⟨e,l,rfl,he⟩:=j4 (h.full es List.mem_cons_self);obtain⟨f,m,rfl,hf⟩:=j4 (h2.full fs a)
  show Lt e.kl f.kl
  have:=h.fZ;simp only[Srt,kys,List.flatten_cons,List.map_append,List.pairwise_append] at this;exact this.2.2 e.kl (by simp) f.kl (List.mem_map.2 ⟨f,List.mem_flatten.2 ⟨_,a,List.mem_cons_self⟩,rfl⟩)
end
end Pg
end
section
namespace Pg
open Go.RowKit Go.Lib
section
variable {L:List Pg}{i g:Nat}{p:Pg}{w:World}{F D:Nat->Prop}{v:Value}{k:List Int}{P:List (List En)}
theorem pN(h:L[i]?=some p):(ens L)[i]?=some p.es:=by simp[ens,h]
theorem Dc(h:L[i]?=some p):(fks (ens L))[i]?=some ((kys p.es).headD []):=by simp[ens,fks,h]
theorem bT.head(A:bT w F D g L)(O:Ord (ens L))(h:L[i]?=some p):∃ kv,w.cell? ⟨p.b,0,none⟩=some kv/\By w kv ((kys p.es).headD []):=by
 have a:=List.mem_of_getElem? h
 have hm:p.es∈ens L:=List.mem_map.2 ⟨p,a,rfl⟩;obtain⟨e,l,he,c⟩:=j4 (O.full _ hm);obtain⟨hA,_⟩:=A.cC p a;have q:=hA.row.cell (i:=0) (v:=e.kv) (by rw[he];rfl);exact⟨e.kv,q,by rw[c];exact(hA.dP e (by rw[he];exact List.mem_cons_self)).k.by⟩
theorem bT.rd(A:bT w F D g L):∃ ao c,w.cell? ⟨g,0,none⟩=some (.slice ao L.length c)/\L.length<=c/\c<=9223372036854775807/\(∀ i p,L[i]?=some p->∃ G,ao=some ⟨G,0,none⟩/\w.cell? ⟨G,i,none⟩=some p.v):=by
 obtain⟨d,hb,f,⟨rfl,rfl⟩ | ⟨G,C,rfl,e,a⟩⟩:=A.top
 ·exact⟨_,_,hb.cell (i:=0) rfl,by decide,by decide,fun i p h=>by simp at h⟩
 ·have b:=a.le;simp only[maxLen] at b;exact⟨_,C,hb.cell (i:=0) rfl,by omega,by omega,fun i p h=>⟨G,rfl,a.cell (by simp[h])⟩⟩
theorem ji(A:bT w F D g L)(O:Ord (ens L))(h:By w v k)(hn:L.length<=1000000000) :
  Calls Tryz.prog 167 #[.pointer (some ⟨g,0,none⟩),v] w fun e w'=>e=.returned (.int .i64 (pgi (ens L) k))/\Below w.heap.size w w':=by
 obtain⟨Z,c,hc,K,hc2,H⟩:=A.rd;have l:=O.zn;obtain⟨s,o⟩:∃ s,Hid (fks (ens L)=s):=⟨_,rfl⟩
 rw[o.out] at l;obtain⟨n,t⟩:∃ n,Hid (L.length=n):=⟨_,rfl⟩
 rw[t.out] at hc K hn
 have hkl:s.length=n:=by rw[<- o.out,<- t.out];simp[fks,ens]
 have J:Below w.heap.size w w.drew:=⟨rfl,rfl,rfl,Nat.le_refl _,fun _ _=>rfl⟩
 have hcd:w.drew.cell? ⟨g,0,none⟩=some (.slice Z n c):=hc
 have d:∀ (i:Nat),i<=n->(∀ q x,q < i->s[q]? = some x->¬ Lt k x)->(∀ q x,i<=q->s[q]? = some x->Lt k x)->pgi (ens L) k=i - 1:=fun i hi h1 h2=>by
  unfold pgi;rw[o.out,zX (i:=i) (by omega) (fun j x hj hx=>h1 j x hj hx) (fun x hx=>h2 i x (Nat.le_refl _) hx)]
 have d:Hid _:=d;have mixed:=mixed;go_enter Tryz.func167,Tryz.ntmps167;go_wp2;go_step3;go_wp2;go_region;go_wp2;go_step3;go_wp2;go_loopw [5,6] (fun P I wr=>∃ i j:Nat,P=.int .i64 i/\I=.int .i64 j/\i<=j/\j<=n/\Hid (∀ q x,q < i->s[q]?=some x->¬ Lt k x)/\Hid (∀ q x,j<=q->s[q]?=some x->Lt k x)/\Below w.heap.size w wr) (fun P I _=>(intOf I).toNat - (intOf P).toNat)
 case atStart=>exact⟨0,n,rfl,rfl,Nat.zero_le _,Nat.le_refl _,fun q x B=>by omega,fun q x B hx=>by
  have:=(List.getElem?_eq_some_iff.1 hx).1
  omega,J⟩
 case round =>
  obtain⟨i,j,rfl,rfl,hij,R,H1,V,r⟩:=hrel;by_cases hlt:i < j
  ·obtain⟨m,hm⟩:∃ m,m=i+(j - i) / 2:=⟨_,rfl⟩
   have hm1:i<=m:=by omega
   have hm2:m < j:=by omega
   obtain⟨p,C⟩:∃ p,L[m]?=some p:=⟨L[m]'(by have:=t.out;omega),List.getElem?_eq_getElem _⟩
   have W:=A.keep r
   have c0:wr.cell? ⟨g,0,none⟩=some (.slice Z n c):=by
    rw[r.cell (p:=⟨g,0,none⟩) (by obtain⟨_,hb,_⟩:=A.top;exact hb.lt)];exact hc
   obtain⟨G,rfl,S⟩:=H m p C
   have z:wr.cell? ⟨G,m,none⟩=some p.v:=by
    rw[r.cell (p:=⟨G,m,none⟩) (aK S)];exact S
   obtain⟨kv,cK,T⟩:=W.head O C
   have b:s[m]?=some ((kys p.es).headD []):=by rw[<- o.out];exact Dc C
   have hpe:0 < p.es.length:=by
    have:=O.full p.es (List.mem_map.2 ⟨p,List.mem_of_getElem? C,rfl⟩);exact List.length_pos_iff.2 this
   simp only[Pg.v] at z;rw[hm] at z;have u:=lN T (h.keep r);generalize (kys p.es).headD []=Y at *
   have y:Hid (m=i+(j - i) / 2):=hm
   have hz0:(0:Int)<=(i:Int)+((j:Int) - (i:Int)) / 2:=by omega
   have hz1:(i:Int)+((j:Int) - (i:Int)) / 2 < n:=by omega
   have hz2:((i:Int)+((j:Int) - (i:Int)) / 2).toNat=i+(j - i) / 2:=by omega
   generalize p.es.length=pn at *;clear W hm T;rcases qD Y k with hc | hc | hc
   ·rw[qA hc] at u;go_wp2_with (go_at_call 206;refine u.mono ?_;rintro U X ⟨rfl,rfl⟩);go_roundw
    case rel=>exact⟨m + 1,j,by have:=y.out; congr 1; omega,rfl,by omega,R,fun q x B hx=>by
     by_cases f:q=m
     ·subst f;rw[b] at hx;cases hx;exact hc.not
     ·exact((l.get (by omega) hx b).trans hc).not,V.out,r⟩
    case measure=>have:=y.out;simp[intOf];omega
   ·have hF:=d.out (m + 1) (by omega) (fun q x B hx=>by
     subst hc;by_cases f:q=m
     ·subst f;rw[b] at hx;cases hx;exact lt_irrefl _
     ·exact(l.get (by omega) hx b).not) (fun q x B hx=>by subst hc;exact l.get (by omega) b hx)
    have E:Hid (pgi (ens L) k=m):=by show _=_;rw[hF];omega
    have HC:Hid (Y=k):=hc;rw[hc,iO] at u
    have hx0:(i:Int)+((j:Int) - (i:Int)) / 2+1 - 1=(i:Int)+((j:Int) - (i:Int)) / 2:=by omega
    have N:¬ ((i:Int)+((j:Int) - (i:Int)) / 2 < 0):=by omega
    clear hF hc;go_wp2_with (go_at_call 206;refine u.mono ?_;rintro U X ⟨rfl,rfl⟩);simp only[Exit.noGoto_ret];go_ret;refine⟨?_,r⟩;rw[E.out];have:=y.out
    show Ending.returned (Value.int .i64 ((i:Int)+((j:Int) - (i:Int)) / 2))=_
    rw[show (i:Int)+((j:Int) - (i:Int)) / 2=(m:Int) by omega]
   ·rw[CU hc] at u;go_wp2_with (go_at_call 206;refine u.mono ?_;rintro U X ⟨rfl,rfl⟩);go_roundw
    case rel=>exact⟨i,m,rfl,by have:=y.out; congr 1; omega,by omega,by omega,H1.out,fun q x B hx=>by
     by_cases f:q=m
     ·subst f;rw[b] at hx;cases hx;exact hc
     ·exact hc.trans (l.get (by omega) b hx),r⟩
    case measure=>have:=y.out;simp[intOf];omega
  ·have Q:i=j:=by omega
   subst Q
   have E:Hid (pgi (ens L) k=i - 1):=d.out i (by omega) H1.out V.out;by_cases M:i=0
   ·subst M;go_wp2
    try simp only[Exit.noGoto_ret]
    go_ret;refine⟨?_,r⟩;rw[E.out];rfl
   ·have N:¬ ((i:Int) - 1 < 0):=by omega
    have hx2:(0:Int)<=(i:Int) - 1:=by omega
    go_wp2
    try simp only[Exit.noGoto_ret]
    go_ret;refine⟨?_,r⟩;rw[E.out]
    show Ending.returned (Value.int .i64 ((i:Int) - 1))=_
    rw[show (i:Int) - 1=((i - 1:Nat):Int) by omega]
theorem pgi_lt(h:P≠[])(k:List Int):pgi P k < P.length:=by
 have h1:=p7 (fks P) k
 have h2:0 < P.length:=List.length_pos_iff.2 h;simp only[fks,List.length_map] at h1;unfold pgi fks;omega
theorem nI(A:bT w F D g []) :
  Calls Tryz.prog 147 #[.pointer (some ⟨g,0,none⟩),v] w fun e w'=>e=.returned (.tuple #[.int .i64 0,.int .i64 0,.bool false])/\w'=w:=by
 obtain⟨i,c,hc,f,d,b⟩:=A.rd;simp only[List.length_nil] at hc;clear A b;go_enter Tryz.func147,Tryz.ntmps147;go_wp2;go_ret3;exact⟨rfl,rfl⟩
theorem l8(A:bT w F D g L)(O:Ord (ens L))(h:By w v k)(hn:L.length<=1000000000)(l:L[pgi (ens L) k]?=some p)(hs:p.es.length<=1000000) :
  Calls Tryz.prog 147 #[.pointer (some ⟨g,0,none⟩),v] w fun e w'=>e=.returned (.tuple #[.int .i64 (pgi (ens L) k),.int .i64 (plc (kys p.es) k),.bool (thr (kys p.es) k)])/\Below w.heap.size w w':=by
 have H:=ji A O h hn;have u:=(List.getElem?_eq_some_iff.1 l).1;have j:=List.mem_of_getElem? l
 have E:∀ w',Below w.heap.size w w'->Calls Tryz.prog 169 #[p.v,v] w' fun e m=>e=.returned (.tuple #[.int .i64 (plc (kys p.es) k),.bool (thr (kys p.es) k)])/\Below w'.heap.size w' m:=fun w' hb =>
  ie ((A.cC p j).1.keep hb) (O.page (pN l)) (h.keep hb) hs
 obtain⟨N,c,hc,r,M,f⟩:=A.rd;obtain⟨G,rfl,C⟩:=f _ p l;have z:=aK hc;have o:=aK C;generalize pgi (ens L) k=i at *;generalize plc (kys p.es) k=x at *;generalize thr (kys p.es) k=y at *;obtain⟨n,q⟩:∃ n,L.length=n:=⟨_,rfl⟩
 rw[q] at hc r u
 have I:¬ ((n:Int)=0):=by omega
 have J:(i:Int) < n:=by omega
 simp only[Pg.v] at *;clear A O h f l j;go_enter Tryz.func147,Tryz.ntmps147;go_wp2_with (first | (go_at_call 167;refine H.mono ?_;rintro K s ⟨rfl,d⟩;have c1:s.cell? ⟨g,0,none⟩=some (.slice (some ⟨G,0,none⟩) n c):=(d.cell (p:=⟨g,0,none⟩) z).trans hc;have c2:s.cell? ⟨G,i,none⟩=some (.slice (some ⟨p.b,0,none⟩) p.es.length p.c):=(d.cell (p:=⟨G,i,none⟩) o).trans C;have B:=E s d;clear H E) | (go_at_call 169;refine B.mono ?_;rintro K P ⟨rfl,t⟩));go_ret3;exact⟨rfl,aA d t⟩
end
end Pg
end
section
namespace Pg
open Go.RowKit Go.Lib
section
variable {w w1:World}{F D:Nat->Prop}{g G n c i j:Nat}{L L':List Pg}{cs ds xs:List Value}{p q:Pg}{c0:Value}
theorem bT.opn(A:bT w F D g L)(h:L≠[]):∃ G C,Blk w g [.slice (some ⟨G,0,none⟩) L.length C] 148/\F g/\F G/\Rw w 188 1 G L.length C (L.map Pg.v):=by
 obtain⟨d,hb,c,⟨rfl,rfl⟩ | ⟨G,C,rfl,b,a⟩⟩:=A.top
 ·exact absurd rfl h
 ·exact⟨G,C,hb,c,b,a⟩
theorem eM{a b:Nat}{t u:TypeId}(h:Blk w a cs t)(h':Blk w b ds u)(ht:t≠u):a≠b:=fun e=>by subst e;exact ht (h.eq h').2
theorem PgA.fm(h:PgA w D p)(hg:Blk w g cs 148):p.b≠g:=by
 obtain⟨ds,k⟩:=h.row.kind;exact eM k hg (by decide)
theorem PgA.fl(h:PgA w D p)(hG:Rw w 188 1 G n c xs):p.b≠G:=by
 obtain⟨ds,k⟩:=h.row.kind;obtain⟨es,k'⟩:=hG.kind;exact eM k k' (by decide)
theorem Rw.fm(hG:Rw w 188 1 G n c xs)(hg:Blk w g cs 148):G≠g:=by
 obtain⟨es,k'⟩:=hG.kind;exact eM k' hg (by decide)
theorem mN(h:(L.map Pg.b).Nodup)(hi:L[i]?=some p)(c:L[j]?=some q)(a:i < j):p.b≠q.b:=by
 obtain⟨l1,e1⟩:=List.getElem?_eq_some_iff.1 hi;obtain⟨d,e2⟩:=List.getElem?_eq_some_iff.1 c;have:=List.pairwise_iff_getElem.1 h i j (by simpa using l1) (by simpa using d) a;simpa[e1,e2] using this
theorem rU(h:(L.map Pg.b).Nodup)(hi:L[i]?=some p)(hj:L[j]?=some q)(hij:i≠j):p.b≠q.b:=by
 rcases Nat.lt_or_gt_of_ne hij with k | k
 ·exact mN h hi hj k
 ·exact(mN h hj hi k).symm
theorem yF(h:∀ (i j:Nat) (p q:Pg),L[i]?=some p->L[j]?=some q->i < j->p.b≠q.b):(L.map Pg.b).Nodup:=by
 refine List.pairwise_iff_getElem.2 fun i j c d a=>?_
 have l1:i < L.length:=by simpa using c
 have e:j < L.length:=by simpa using d
 simpa using h i j _ _ (List.getElem?_eq_getElem l1) (List.getElem?_eq_getElem e) a
theorem EnA.off{w':World}{e:En}(h:EnA w D e)(f:∀ b,b < w.heap.size->(∃ cs,Blk w b cs 5)->w'.heap[b]?=w.heap[b]?):EnA w' D e:=by
 have a:∀ {v:Value} {l:List Int},OB w D v l->OB w' D v l:=fun h=>⟨h.oct,h.ex.imp id (by
  rintro⟨b,c,e,hd,d⟩
  exact⟨b,c,e,hd,d.same (f b d.lt d.kind)⟩)⟩
 exact⟨a h.k,a h.v⟩
theorem bT.put{D':Nat->Prop}{C:Nat}{p':Pg}(A:bT w F D g L)(J:Blk w g [.slice (some ⟨G,0,none⟩) L.length C] 148)(K:F g)(o:F G)(B:Rw w 188 1 G L.length C (L.map Pg.v))(hi:L[i]?=some p)(hC:Chg (·=p.b) w w1)(hb:p'.b=p.b\/w.heap.size<=p'.b)(hA:PgA w1 D' p')(W:∀ b,b < w.heap.size->D b->D' b) :
  bT (w1.setCell ⟨G,i,none⟩ p'.v) (fun x=>(F x/\x≠p.b)\/x=p'.b) D' g (L.set i p')/\Chg F w (w1.setCell ⟨G,i,none⟩ p'.v):=by
 have h:=(List.getElem?_eq_some_iff.1 hi).1;have O:=A.cC p (List.mem_of_getElem? hi);have R:=O.1.fm J;have P:=O.1.fl B;have V:=B.fm J
 have E:Blk w1 g _ _:=J.chg hC (fun e=>R e.symm);have l:=B.chg hC (fun e=>P e.symm);have u:=l.set i (by simpa using h) p'.v
 have S:p'.b≠G:=hA.fl l
 have z:Chg F w (w1.setCell ⟨G,i,none⟩ p'.v):=(hC.mono (F':=F) (fun b _ e=>by subst e;exact O.2)).cell (.inl o) _
 have N:∀ b,b < w.heap.size->(∃ cs,Blk w b cs 5)->(w1.setCell ⟨G,i,none⟩ p'.v).heap[b]? = w.heap[b]? := fun b hb M=>by
  obtain⟨cs,k⟩:=M;exact z.same b hb fun f=>A.noU f cs k
 have c:∀ b,b≠G->(w1.setCell ⟨G,i,none⟩ p'.v).heap[b]?=w1.heap[b]?:=fun b hb=>Below.heap_setCell w1 _ _ b hb
 refine⟨⟨⟨_,E.off (fun e=>V e.symm) _,.inl ⟨K,fun e=>R e.symm⟩,.inr ⟨G,C,?_,.inl ⟨o,fun e=>P e.symm⟩,?_⟩⟩,fun q U=>?_,yF fun x y a b hx hy H=>?_,fun b hb=>?_⟩,z⟩
 ·rw[List.length_set]
 ·rw[List.length_set];refine u.to ?_
  rw[List.map_set]
 ·obtain⟨j,m⟩:=List.getElem?_of_mem U;rw[List.getElem?_set] at m;by_cases e:i=j
  ·subst e;rw[if_pos rfl,if_pos h] at m
   cases m;refine⟨⟨hA.row.same (c _ S),fun e he=>(hA.dP e he).off fun b _ M=>?_⟩,.inr rfl⟩;obtain⟨cs,k⟩:=M;obtain⟨Q,I⟩:=l.kind;exact c b (eM k I (by decide))
  ·rw[if_neg e] at m;have d:=A.cC q (List.mem_of_getElem? m)
   have s:q.b≠p.b:=fun n=>rU A.apart hi m e n.symm
   exact⟨⟨(d.1.row.chg hC s).same (c _ (d.1.fl B)),fun e he=>((d.1.dP e he).mono W).off N⟩,.inl ⟨d.2,s⟩⟩
 ·have key:∀ (y:Nat) (b:Pg),y≠i->L[y]? = some b->p'.b≠b.b:=fun y b hy r=>by
   rcases hb with e | e
   ·rw[e];exact rU A.apart hi r (fun n=>hy n.symm)
   ·have:=(A.cC b (List.mem_of_getElem? r)).1.row.lt;omega
  rw[List.getElem?_set] at hx hy;by_cases e:i=x
  ·subst e;rw[if_pos rfl,if_pos h] at hx
   cases hx;rw[if_neg (by omega)] at hy;exact key y b (by omega) hy
  ·rw[if_neg e] at hx;by_cases n:i=y
   ·subst n;rw[if_pos rfl,if_pos h] at hy
    cases hy;exact(key x a (by omega) hx).symm
   ·rw[if_neg n] at hy;exact mN A.apart hx hy H
 ·by_cases e:b=p'.b
  ·subst e;obtain⟨cs,k⟩:=hA.row.kind;exact⟨cs,_,k.same (c _ S),by decide⟩
  ·obtain⟨hF,e2⟩:=hb.resolve_right e;obtain⟨cs,t,k,T⟩:=A.kind b hF;by_cases e1:b=G
   ·subst e1;obtain⟨Q,I⟩:=u.kind;exact⟨Q,_,I,by decide⟩
   ·exact⟨cs,t,(k.chg hC e2).same (c b e1),T⟩
theorem kM{G' C':Nat}(L:∀ p∈L',PgA w D p/\F p.b)(E:(L'.map Pg.b).Nodup)(I:∀ b,F b->∃ cs t,Blk w b cs t/\t≠5)(J:Blk w g [c0] 148)(d:F g)(s:F G)(j:G≠g)(hC:Chg (·=G) w w1)(m:∀ p∈L',p.b≠G)(hn:L'.length=n)(u:Rw w1 188 1 G' n C' (L'.map Pg.v)) :
  bT (w1.setCell ⟨g,0,none⟩ (.slice (some ⟨G',0,none⟩) n C')) (fun x=>(F x/\x≠G)\/x=G') D g L'/\Chg F w (w1.setCell ⟨g,0,none⟩ (.slice (some ⟨G',0,none⟩) n C')):=by
 subst hn
 have h:Blk w1 g [c0] 148:=J.chg hC (fun e=>j e.symm);have l:=h.setCell (i:=0) (.slice (some ⟨G',0,none⟩) L'.length C')
 have o:G'≠g:=u.fm h
 have a:∀ b,b≠g->(w1.setCell ⟨g,0,none⟩ (.slice (some ⟨G',0,none⟩) L'.length C')).heap[b]?=w1.heap[b]?:=fun b hb=>Below.heap_setCell w1 _ _ b hb
 have r:Chg F w (w1.setCell ⟨g,0,none⟩ (.slice (some ⟨G',0,none⟩) L'.length C')):=(hC.mono (F':=F) (fun b _ e=>by subst e;exact s)).cell (.inl d) _
 have y:∀ b,b < w.heap.size->(∃ cs,Blk w b cs 5)->(w1.setCell ⟨g,0,none⟩ (.slice (some ⟨G',0,none⟩) L'.length C')).heap[b]? = w.heap[b]? := fun b hb B=>by
  obtain⟨cs,k⟩:=B;exact r.same b hb fun f=>by
   obtain⟨K,t,C,z⟩:=I b f;exact z (C.eq k).2
 refine⟨⟨⟨_,l,.inl ⟨d,fun e=>j e.symm⟩,.inr ⟨G',C',rfl,.inr rfl,u.same (a _ o)⟩⟩,fun q A=>?_,E,fun b hb=>?_⟩,r⟩
 ·have c:=L q A;exact⟨⟨(c.1.row.chg hC (m q A)).same (a _ (c.1.fm J)),fun e he=>(c.1.dP e he).off y⟩,.inl ⟨c.2,m q A⟩⟩
 ·by_cases e:b=G'
  ·subst e;obtain⟨H,k⟩:=u.kind;exact⟨H,_,k.same (a _ o),by decide⟩
  ·obtain⟨hF,e2⟩:=hb.resolve_right e;obtain⟨H,t,k,z⟩:=I b hF;by_cases e1:b=g
   ·subst e1;exact⟨_,_,l,by decide⟩
   ·exact⟨H,t,(k.chg hC e2).same (a b e1),z⟩
theorem uY(L:List Pg):∀ v∈L.map Pg.v,v.oneCell'=true:=fun v hv=>by
 obtain⟨p,_,rfl⟩:=List.mem_map.1 hv;rfl
end
end Pg
end
section
namespace Pg
open Go.RowKit Go.Lib
section
variable {ops:Array Oper} {Q:Exit->Act->World->Prop} {S:World->Prop} {fuel:Nat} {listed:Array Bool} {a:Act} {w:World}
section
variable {Qc:Ending->World->Prop}
def nM(ops:Array Oper)(listed:Array Bool)(a:Act)(i:Nat)(d:Option Tmp):Bool :=
 Region.noSelect ops && Region.free .any ops listed i && (Region.ready .any ops listed).contains i && decide (i < ops.size) && Region.wanted (ops.getD i default) (yielded ops a.tmps) && decide ((ops.getD i default).dst=d)
def Fe(ops:Array Oper)(listed:Array Bool)(a:Act)(i:Nat)(d:Option Tmp):Bool :=
 Region.noSelect ops && Region.free .any ops listed i && (Region.ready .any ops listed).contains i && decide (i < ops.size) && !Region.wanted (ops.getD i default) (yielded ops a.tmps) && decide ((ops.getD i default).dst=d)
def kG(ops:Array Oper)(listed:Array Bool)(a:Act)(i:Nat)(d:Option Tmp):Bool :=
 decide (Region.ready .any ops listed=[i]) && decide (i < ops.size) && Region.wanted (ops.getD i default) (yielded ops a.tmps) && decide ((ops.getD i default).dst=d)
theorem bW{i:Nat}(h:i < ops.size):ops[i]?=some (ops.getD i default):=by
 simp[Array.getD,h]
theorem ay(i:Nat)(d:Option Tmp)(v:Value)(hc:nM ops listed a i d=true)(hy:∀ w',S w'->(execOp a.eval (ops.getD i default)).run Tryz.prog w'=.ok (.value v) w')(l:∀ c a w,Q (.panic c) (a.put d v) w->Q (.panic c) a w)(hS:S w)(h:wpAnyH Tryz.prog .any ops Q S fuel (listed.setIfInBounds i true) (a.put d v) w):wpAnyH Tryz.prog .any ops Q S (fuel+1) listed a w:=by
 simp only[nM,Bool.and_eq_true,decide_eq_true_eq] at hc;obtain⟨⟨⟨⟨⟨b,g⟩,k⟩,j⟩,e⟩,f⟩:=hc;subst f;exact wpAnyH_take (bW j) b g k l (.inl ⟨e,hy⟩) hS h
theorem jh(i:Nat)(d:Option Tmp)(v b:Value)(hv:v=b)(hc:nM ops listed a i d=true)(hy:∀ w',S w'->(execOp a.eval (ops.getD i default)).run Tryz.prog w'=.ok (.value v) w')(e:∀ c a w,Q (.panic c) (a.put d b) w->Q (.panic c) a w)(hS:S w)(h:wpAnyH Tryz.prog .any ops Q S fuel (listed.setIfInBounds i true) (a.put d b) w):wpAnyH Tryz.prog .any ops Q S (fuel+1) listed a w:=by
 subst hv;exact ay i d v hc hy e hS h
theorem cI(i:Nat)(d:Option Tmp)(hc:Fe ops listed a i d=true)(l:∀ c a w,Q (.panic c) (a.put d undef) w->Q (.panic c) a w)(hS:S w)(h:wpAnyH Tryz.prog .any ops Q S fuel (listed.setIfInBounds i true) (a.put d undef) w):wpAnyH Tryz.prog .any ops Q S (fuel+1) listed a w:=by
 simp only[Fe,Bool.and_eq_true,decide_eq_true_eq,Bool.not_eq_true'] at hc;obtain⟨⟨⟨⟨⟨b,g⟩,k⟩,j⟩,e⟩,f⟩:=hc;subst f;exact wpAnyH_take (bW j) b g k l (.inr ⟨e,rfl⟩) hS h
theorem aQ(i:Nat)(d:Option Tmp)(v:Value)(T:TypeId)(k g o:Nat)(hc:nM ops listed a i d=true)(l:(ops.getD i default).op=.load T (.tmp k))(j:a.eval (.tmp k)=.pointer (some ⟨g,o,none⟩))(e:∀ w',S w'->(loadVar T ⟨g,o,none⟩).run Tryz.prog w'=.ok v w')(f:∀ c a w,Q (.panic c) (a.put d v) w->Q (.panic c) a w)(hS:S w)(h:wpAnyH Tryz.prog .any ops Q S fuel (listed.setIfInBounds i true) (a.put d v) w):wpAnyH Tryz.prog .any ops Q S (fuel+1) listed a w :=
 ay i d v hc (fun w' b=>by
  have:=e w' b;simp only[execOp,l,j]
  simp[Instr.loadAt,Instr.sureAddr,Result.andThen,this]) f hS h
theorem bQ(i:Nat)(d:Option Tmp)(f:FuncId)(args:Array Value)(hc:kG ops listed a i d=true)(hrun:(execOp a.eval (ops.getD i default)).run Tryz.prog w=.ok (.enter f args) w)(b:Calls Tryz.prog f args w Qc)(h:∀ e w',Qc e w'->∃ v,e=.returned v/\S w'/\wpAnyH Tryz.prog .any ops Q S fuel (listed.setIfInBounds i true) (a.put d v) w') :
  wpAnyH Tryz.prog .any ops Q S (fuel+1) listed a w:=by
 simp only[kG,Bool.and_eq_true,decide_eq_true_eq] at hc;obtain⟨⟨⟨o,g⟩,l⟩,m⟩:=hc;subst m;refine wpAnyH_all o (by simp) fun j n=>?_
 obtain rfl:j=i:=by simpa using n
 refine wpOp_step (bW g) fun K k=>?_
 rw[if_pos l];unfold Oper.wp;rw[hrun];refine b.mono fun e w' he=>?_
 obtain⟨v,rfl,c,hw⟩:=h e w' he;exact k _ _ ⟨c,hw⟩
theorem bM(hr:Region.ready .any ops listed=[])(h:Q .normal a w):wpAnyH Tryz.prog .any ops Q S fuel listed a w:=wpAnyH_done hr h fuel
theorem bR{id:Nat}(hm:Tryz.prog.follows .mixedOrders=true)(hS:S w.drew)(h:wpAnyH Tryz.prog .any ops Q S ops.size (Array.replicate ops.size false) a w.drew):(Code.region id ops true).wp Tryz.prog Q a w :=
 wp_region_held_drew hm hS fun _=>h
end
end
def jq (a:Act):List (Option Tmp × Value)->Act
 | []=>a
 | p :: l=>jq (a.put p.1 p.2) l
section
variable {ops:Array Oper} {Q:Exit->Act->World->Prop} {S:World->Prop} {fuel:Nat} {listed:Array Bool} {a:Act} {w:World}
section
variable {K:Act->World->Prop}{rs:List Nat}{Qc:Ending->World->Prop}
theorem p9{X:Type}{id:Nat}{d:Exit->Act->World->Prop}(upd:X->List (Option Tmp × Value))(F:X->World->Prop)(S:World->Prop)(hm:Tryz.prog.follows .mixedOrders=true)(hS:S w.drew)(b:wpAnyH Tryz.prog .any ops (Exit.then (fun a' w'=>∃ x,a'=jq a (upd x)/\F x w') (fun _ _ _=>False)) S ops.size (Array.replicate ops.size false) a w.drew)(c:∀ x w',F x w'->K (jq a (upd x)) w'):(Code.region id ops true).wp Tryz.prog (Exit.then K d) a w :=
 Code.wp_mono (fun e a' w' h=>by
  cases e<;>first
   | (obtain⟨x,rfl,hF⟩:=h;exact c x w' hF)
   | exact h.elim) (wp_region_held_drew (S:=S) hm hS fun _=>b)
def iy(ops:Array Oper)(a:Act)(i:Nat)(d:Option Tmp):Bool :=
 decide (i < ops.size) && Region.wanted (ops.getD i default) (yielded ops a.tmps) && decide ((ops.getD i default).dst=d)
theorem aM(rs:List Nat)(hr:Region.ready .any ops listed=rs)(hne:rs≠[])(h:AllReadyH Tryz.prog .any ops Q S fuel listed a w rs):wpAnyH Tryz.prog .any ops Q S (fuel+1) listed a w:=wpAnyH_ready hr hne h
theorem aZ:AllReadyH Tryz.prog .any ops Q S fuel listed a w []:=AllReadyH.nil
theorem vK(i:Nat)(d:Option Tmp)(f:FuncId)(args:Array Value)(hc:iy ops a i d=true)(hrun:(execOp a.eval (ops.getD i default)).run Tryz.prog w=.ok (.enter f args) w)(b:Calls Tryz.prog f args w Qc)(h:∀ e w',Qc e w'->∃ v,e=.returned v/\S w'/\wpAnyH Tryz.prog .any ops Q S fuel (listed.setIfInBounds i true) (a.put d v) w')(hs:AllReadyH Tryz.prog .any ops Q S fuel listed a w rs):AllReadyH Tryz.prog .any ops Q S fuel listed a w (i :: rs):=by
 simp only[iy,Bool.and_eq_true,decide_eq_true_eq] at hc;obtain⟨⟨g,k⟩,l⟩:=hc;subst l;refine AllReadyH.cons (bW g) (fun K j=>?_) hs;rw[if_pos k];unfold Oper.wp;rw[hrun];refine b.mono fun e w' he=>?_
 obtain⟨v,rfl,c,hw⟩:=h e w' he;exact j.out _ _ c fun _=>hw
theorem bG(i:Nat)(d:Option Tmp)(v:Value)(w1:World)(hc:iy ops a i d=true)(hrun:(execOp a.eval (ops.getD i default)).run Tryz.prog w=.ok (.value v) w1)(b:S w1)(h:wpAnyH Tryz.prog .any ops Q S fuel (listed.setIfInBounds i true) (a.put d v) w1)(hs:AllReadyH Tryz.prog .any ops Q S fuel listed a w rs):AllReadyH Tryz.prog .any ops Q S fuel listed a w (i :: rs):=by
 simp only[iy,Bool.and_eq_true,decide_eq_true_eq] at hc;obtain⟨⟨c,f⟩,g⟩:=hc;subst g;refine AllReadyH.cons (bW c) (fun K e=>?_) hs;rw[if_pos f];unfold Oper.wp;rw[hrun]
 show K (a.put (ops.getD i default).dst v) w1
 exact e.out _ _ b fun _=>h
theorem dw(i:Nat)(w1:World)(hc:iy ops a i none=true)(hrun:(execOp a.eval (ops.getD i default)).run Tryz.prog w=.ok .skip w1)(b:S w1)(h:wpAnyH Tryz.prog .any ops Q S fuel (listed.setIfInBounds i true) (a.put none undef) w1)(hs:AllReadyH Tryz.prog .any ops Q S fuel listed a w rs):AllReadyH Tryz.prog .any ops Q S fuel listed a w (i :: rs):=by
 simp only[iy,Bool.and_eq_true,decide_eq_true_eq] at hc;obtain⟨⟨c,e⟩,f⟩:=hc;refine AllReadyH.cons (bW c) (fun K d=>?_) hs;rw[if_pos e];unfold Oper.wp;rw[hrun]
 show K (a.put (ops.getD i default).dst undef) w1
 rw[f];exact d.out _ _ b fun _=>h
end
end
section
variable {a:Act}{w:World}{x y k n c g off:Nat}{o:Oper}{v u:Value}{ao bo:Option Addr}
theorem eO{op:Oper}{T:TypeId}{b:Nat}(g:op.op=.indexAddr T (.tmp x) (.tmp y))(p:Tryz.prog.underlying T=some (.slice 188))(hx:a.eval (.tmp x)=.slice (some ⟨b,0,none⟩) n c){z:Int}(hy:a.eval (.tmp y)=.int .i64 z)(d:z=(k:Int))(o:k < n):(execOp a.eval op).run Tryz.prog w=.ok (.value (.pointer (some ⟨b,k,none⟩))) w:=by
 subst d
 have m:(k:Int) < n:=by omega
 have q:¬ ((k:Int) < 0):=by omega
 obtain⟨i0,hi,j,l,f⟩:=info_parts (P:=Tryz.prog) (show (Tryz.prog.info? 188).map (fun i=>(i.zero,i.size,i.bytes))=some (some (.slice none 0 0),1,24) by kernel_rfl);simp only[execOp,g,hx,hy];go_simp
theorem gE{o:Nat}(c:w.cell? ⟨g,o,none⟩=some v):(loadVar 146 ⟨g,o,none⟩).run Tryz.prog w=.ok v w:=by go_simp
theorem qP{o:Nat}(c:w.cell? ⟨g,o,none⟩=some v):(loadVar 188 ⟨g,o,none⟩).run Tryz.prog w=.ok v w:=by go_simp
theorem ld_e(c:w.cell? ⟨g,0,none⟩=some v)(d:w.cell? ⟨g,1,none⟩=some u):(loadVar 185 ⟨g,0,none⟩).run Tryz.prog w=.ok (.agg #[v,u]) w:=by go_simp
theorem jj{T:TypeId}(k:Nat)(d:o.op=.load T (.tmp k))(b:a.eval (.tmp k)=.pointer (some ⟨g,off,none⟩))(c:(loadVar T ⟨g,off,none⟩).run Tryz.prog w=.ok v w):(execOp a.eval o).run Tryz.prog w=.ok (.value v) w:=by
 simp only[execOp,d,b];simp[Instr.loadAt,Instr.sureAddr,Result.andThen,c]
theorem kZ(k q:Nat)(d:o.op=.store 188 (.tmp k) (.tmp q))(b:a.eval (.tmp k)=.pointer (some ⟨g,off,none⟩))(f:a.eval (.tmp q)=.slice ao n c)(hc:w.cell? ⟨g,off,none⟩=some u)(hf:w.frozen? ⟨g,off,none⟩=false) :
  (execOp a.eval o).run Tryz.prog w=.ok .skip (w.setCell ⟨g,off,none⟩ (.slice ao n c)):=by
 simp only[execOp,d,b,f];go_simp
theorem qJ{kv vv:Value}(d:o.op=.buildSlice 188 1 #[(0,.tmp k)])(c:a.eval (.tmp k)=.agg #[kv,vv]):(execOp a.eval o).run Tryz.prog w=.ok (.value (.slice (some ⟨w.heap.size,0,none⟩) 1 1)) (w.alloc (.cells #[kv,vv] 185)):=by
 have b:a.tmps[k]?.getD undef=.agg #[kv,vv]:=by simpa[Act.eval] using c
 simp only[execOp,d];go_simp
theorem Cz{m d:Nat}(g:o.op=.buildSlice 146 2 #[(0,.tmp x),(1,.tmp y)])(hx:a.eval (.tmp x)=.slice ao n c)(hy:a.eval (.tmp y)=.slice bo m d):(execOp a.eval o).run Tryz.prog w=.ok (.value (.slice (some ⟨w.heap.size,0,none⟩) 2 2)) (w.alloc (.cells #[.slice ao n c,.slice bo m d] 188)):=by
 have b:a.tmps[x]?.getD undef=.slice ao n c:=by simpa[Act.eval] using hx
 have f:a.tmps[y]?.getD undef=.slice bo m d:=by simpa[Act.eval] using hy
 simp only[execOp,g];go_simp
end
end Pg
end
section
namespace Pg
open Go.RowKit Go.Lib
section
variable {w:World}{D F:Nat→Prop}{p:Pg}{es:List En}{g G i j:Nat}{v u c0:Value}{L:List Pg}
theorem Dy{D:Nat->Prop}(h:PgA w D p)(hs:∀ e∈es,e∈p.es):∀ e∈es,EnA w D e:=fun e he=>h.dP e (hs e he)
theorem cy(w:World):Below w.heap.size w w.drew:=⟨rfl,rfl,rfl,Nat.le_refl _,fun _ _=>rfl⟩
theorem bX(h:g≠G)(hc:w.cell? ⟨g,j,none⟩=some u):(w.setCell ⟨G,i,none⟩ v).cell? ⟨g,j,none⟩=some u:=by
 rw[World.cell?_of_block (w:=w) (a:=⟨g,j,none⟩) (Below.heap_setCell w _ v g h)];exact hc
theorem DN{α:Type}(L:List α)(i:Nat)(a b:α)(h:i < L.length):(L.set i a).take (i+1) ++ [b] ++ (L.set i a).drop (i+1)=L.take i ++ [a,b] ++ L.drop (i+1):=by
 have e1:(L.set i a).take (i+1)=L.take i ++ [a]:=by
  rw[List.take_add_one,List.take_set_of_le (Nat.le_refl _),List.getElem?_set_self h];rfl
 rw[e1,List.drop_set_of_lt (by omega)];simp
theorem xY{d j y:World}{B:Nat→Prop}{n m C c c2 t K:Nat}{q1:Pg}(O:bT d B D g (L.set i q1))(o:∀ b,B b→F b∨w.heap.size≤b)(I:Chg F w d)(hgx:Blk d g [.slice (some ⟨G,0,none⟩) (L.set i q1).length C] 148)(N:Blk j g [c0] 148)(S:B g)(u:B G)(H:Rw d 188 1 G (L.set i q1).length C ((L.set i q1).map Pg.v))(P:g≠G)(V:i < L.length)(R:q1.es=es.take 16)(z:(es.drop 16).length=m - 16)(hnn:L.length=n)(T:Below d.drew.heap.size d.drew j)(Q:d.drew.heap.size≤c)(R3:Rw j 185 2 c (m - 16) c2 (flat (es.drop 16)))(E0:∀ e ∈ es,EnA d.drew D e)(U:t=G∨j.heap.size+1≤t)(R5:Rw y 188 1 t (n+1) K (((L.set i q1).map Pg.v).take (i+1) ++ [.slice (some ⟨c,0,none⟩) (m - 16) c2] ++ ((L.set i q1).map Pg.v).drop (i+1)))(E:Chg (·=G) (j.alloc (.cells #[.slice (some ⟨c,0,none⟩) (m - 16) c2] 188)) y) :
    ∃ F' p1 p2,Ending.returned (.tuple #[])=Ending.returned (.tuple #[])∧p1.es=es.take 16∧p2.es=es.drop 16∧bT (y.setCell ⟨g,0,none⟩ (.slice (some ⟨t,0,none⟩) (n+1) K)) F' D g (L.take i ++ [p1,p2] ++ L.drop (i+1))∧(∀ b,F' b→F b∨w.heap.size≤b)∧Chg F w (y.setCell ⟨g,0,none⟩ (.slice (some ⟨t,0,none⟩) (n+1) K)):=by
  obtain⟨l,s⟩:∃ l,l=j.alloc (.cells #[.slice (some ⟨c,0,none⟩) (m - 16) c2] 188):=⟨_,rfl⟩
  have J:Below d.heap.size d l:=by rw[s];exact aA (aA (cy d) T) (ae j _)
  have q:Below j.heap.size j l:=by rw[s];exact ae j _
  rw[← s] at E;have M:=O.keep J
  have r:PgA l D ⟨c,c2,es.drop 16⟩:= by
    refine⟨?_,fun e he=>((E0 e (List.mem_of_mem_drop he)).keep T).keep q⟩
    show Rw l _ 2 c (es.drop 16).length c2 _
    rw[z];exact R3.keep q
  have aa:d.heap.size≤c:=Q
  have W:(⟨c,c2,es.drop 16⟩:Pg).v=.slice (some ⟨c,0,none⟩) (m - 16) c2:=by simp only[Pg.v];rw[z]
  have A : ∀ p ∈ (L.set i q1).take (i + 1) ++ [(⟨c, c2, es.drop 16⟩ : Pg)] ++ (L.set i q1).drop (i + 1), p ∈ L.set i q1 ∨ p = ⟨c, c2, es.drop 16⟩:= fun p f => by
    rcases List.mem_append.1 f with h | h
    · rcases List.mem_append.1 h with h | h
      · exact .inl (List.mem_of_mem_take h)
      · exact .inr (by simpa using h)
    · exact .inl (List.mem_of_mem_drop h)
  have hlen:((L.set i q1).take (i+1) ++ [(⟨c,c2,es.drop 16⟩:Pg)] ++ (L.set i q1).drop (i+1)).length=n+1:=by
    simp;omega
  have hold : ∀ p ∈ L.set i q1, p.b ≠ c := fun p f => by
    have:=(O.cC p f).1.row.lt;omega
  obtain⟨A5,C6⟩:= kM (w:=l) (w1:=y) (F:=fun x=>B x∨x=c) (D:=D) (g:=g) (G:=G) (G':=t) (C':=K) (n:=n+1) (L':=(L.set i q1).take (i+1) ++ [(⟨c,c2,es.drop 16⟩:Pg)] ++ (L.set i q1).drop (i+1))
    (fun p f => by
      rcases A p f with h | rfl
      · exact⟨(M.cC p h).1,.inl (M.cC p h).2⟩
      · exact⟨r,.inr rfl⟩)
    (by
      have hn:=O.apart
      have e:(L.set i q1).map Pg.b=((L.set i q1).take (i+1)).map Pg.b ++ ((L.set i q1).drop (i+1)).map Pg.b:=by rw[← List.map_append,List.take_append_drop]
      rw[e] at hn
      have Y : ∀ x ∈ ((L.set i q1).take (i + 1)).map Pg.b, x ≠ c := fun x hx => by
        obtain⟨p,f,rfl⟩:= List.mem_map.1 hx;exact hold p (List.mem_of_mem_take f)
      have Z : ∀ x ∈ ((L.set i q1).drop (i + 1)).map Pg.b, x ≠ c := fun x hx => by
        obtain⟨p,f,rfl⟩:= List.mem_map.1 hx;exact hold p (List.mem_of_mem_drop f)
      simp only[List.map_append,List.map_cons,List.map_nil];rw[List.nodup_append] at hn;rw[List.append_assoc,List.nodup_append];refine⟨hn.1,?_,?_⟩
      · rw[List.singleton_append,List.nodup_cons]
        exact⟨fun h=>Z c h rfl,hn.2.1⟩
      · intro a X b hb
        rcases List.mem_append.1 hb with hb | hb
        · simp at hb;subst hb;exact Y a X
        · exact hn.2.2 a X b hb)
    (fun b hb => by
      rcases hb with h | rfl
      · exact M.kind b h
      · obtain⟨ds,k⟩:= r.row.kind
        exact⟨ds,_,k,by decide⟩)
    (N.keep q) (.inl S) (.inl u) (fun e=>P e.symm) E
    (fun p f => by
      rcases A p f with h | rfl
      · exact(M.cC p h).1.fl (H.keep J)
      · exact r.fl (H.keep J)) hlen
    (by simpa[List.map_take,List.map_drop,W] using R5)
  rw[DN L i q1 _ V] at A5;refine⟨_,q1,⟨c,c2,es.drop 16⟩,rfl,R,rfl,A5,fun b hb=>?_,(I.trans (Chg.of (F:=F) J) (fun _ _ h=>h)).trans C6 fun b hb h=>?_⟩
  · rcases hb with⟨h | rfl, _⟩ | rfl
    · exact o b h
    · exact .inr (by have:=I.size;omega)
    · rcases U with rfl | h
      · exact o _ u
      · have Z:=T.size
        have Y:=I.size
        have:d.drew.heap.size=d.heap.size:=rfl;exact .inr (by omega)
  · rcases h with h | rfl
    · exact(o b h).resolve_right (by omega)
    · have:=I.size;omega
theorem AO(h:j≠i)(hc:w.cell? ⟨G,j,none⟩=some u):(w.setCell ⟨G,i,none⟩ v).cell? ⟨G,j,none⟩=some u:=by
 have a:=aK hc;simp only[World.cell?,World.setCell,Array.getElem?_modify,if_true] at hc ⊢
 cases hh:w.heap[G]? with
 | none=>rw[hh] at hc;simp at hc
 | some ob =>
  rw[hh] at hc
  cases ob with
  | cells c e f =>
   simp at hc ⊢;rw[Array.getElem?_setIfInBounds,if_neg (by omega)];exact hc
  | _=>simp at hc
theorem kP(A:bT w F D g L)(hi:L[i]?=some p)(h1:17≤p.es.length)(h2:p.es.length≤1000)(hn:L.length≤100000000) :
    Calls Tryz.prog 197 #[.pointer (some ⟨g,0,none⟩),.int .i64 i] w fun e w'=>∃ F' p1 p2,e=.returned (.tuple #[])∧p1.es=p.es.take 16∧p2.es=p.es.drop 16∧bT w' F' D g (L.take i ++ [p1,p2] ++ L.drop (i+1))∧(∀ b,F' b→F b∨w.heap.size≤b)∧Chg F w w':=by
  have ac:=(List.getElem?_eq_some_iff.1 hi).1
  have hL:L≠[]:=fun e=>by subst e;simp at ac
  obtain⟨G,C,hg,hFg,hFG,M⟩:= A.opn hL;have K:=A.cC p (List.mem_of_getElem? hi);have cg:=hg.cell (i:=0) rfl;have cG:=M.cell (i:=i) (v:=p.v) (by simp[hi]);have hpc:=K.1.row.le;have hCC:=M.le;simp only[maxLen] at hpc hCC
  have J:w.drew.cell? ⟨g,0,none⟩=some (.slice (some ⟨G,0,none⟩) L.length C):=cg
  have t1 := AK (w := w.drew) (a := ⟨p.b, 0, none⟩) (n := 16) (c := p.c) (xs := flat (p.es.take 16)) (by decide) (by rw[jJ, List.length_take]; omega) (fun j v N => by
    rw[Addr.add_lit,Nat.zero_add]
    have:(flat p.es)[j]?=some v:=by
      rw[← iH,List.getElem?_take] at N;split at N
      · exact N
      · cases N
    exact K.1.row.drew.cell this) (jV (Dy K.1 fun e he=>List.mem_of_mem_take he))
  obtain⟨n,d⟩:∃ n,Hid (L.length=n):=⟨_,rfl⟩;obtain⟨m,o⟩:∃ m,Hid (p.es.length=m):=⟨_,rfl⟩;simp only[Pg.v] at cG;rw[d.out] at cg J;rw[o.out] at cG
  have z1:(i:Int) < n:=by have:=d.out;omega
  have z2:m≤p.c:=by have:=o.out;omega
  have z3:p.c≤9223372036854775807:=by omega
  have z4:17≤m:=by have:=o.out;omega
  have z5:16≤p.c:=by omega
  have z6:(16:Int)≤(p.c:Int):=by omega
  have q:g≠G:=fun e=>M.fm hg e.symm
  have mixed:=mixed;go_enter Tryz.func197,Tryz.ntmps197;go_wp2;go_region_held3 (fun w'=>w'.cell? ⟨g,0,none⟩=some (.slice (some ⟨G,0,none⟩) n C)) (first | assumption | exact bX q (by assumption))
    (first
    | (go_at_call 230;refine t1.mono ?_;rintro e' s ⟨y,c1,rfl,V,R1,u⟩;have cg1:s.cell? ⟨g,0,none⟩=some (.slice (some ⟨G,0,none⟩) n C):=(u.cell (p:=⟨g,0,none⟩) (aK J)).trans J;have cG1:s.cell? ⟨G,i,none⟩=some (.slice (some ⟨p.b,0,none⟩) m p.c):=(u.cell (p:=⟨G,i,none⟩) (aK (w:=w.drew) cG)).trans cG;have fG1:s.frozen? ⟨G,i,none⟩=false:=(M.drew.keep u).free i))
  obtain⟨q1,r⟩:∃ q1:Pg,Hid (q1=⟨y,c1,p.es.take 16⟩):=⟨_,rfl⟩
  have H:(p.es.take 16).length=16:=by rw[List.length_take];omega
  have W:q1.v=.slice (some ⟨y,0,none⟩) 16 c1:=by rw[r.out];simp only[Pg.v];rw[H]
  have ab:PgA s D q1:=by
    rw[r.out];refine⟨?_,fun e he=>((K.1.dP e (List.mem_of_mem_take he)).keep (cy w)).keep u⟩
    show Rw s _ 2 y (p.es.take 16).length c1 _
    rw[H];exact R1
  obtain⟨A2,C2⟩:= A.put (p':=q1) (D':=D) hg hFg hFG M hi (Chg.of (aA (cy w) u)) (.inr (by rw[r.out];exact V)) ab (fun _ _ h=>h);rw[W] at A2 C2
  have R0:Rw (s.setCell ⟨G,i,none⟩ (.slice (some ⟨y,0,none⟩) 16 c1)) 185 2 p.b p.es.length p.c (flat p.es):=((K.1.row.keep (cy w)).keep u).same (Below.heap_setCell s _ _ _ (K.1.fl M))
  have E0 : ∀ e ∈ p.es, EnA (s.setCell ⟨G, i, none⟩ (.slice (some ⟨y, 0, none⟩) 16 c1)) D e := fun e he => (((K.1.dP e he).keep (cy w)).keep u).off fun b hb hk => by
    obtain⟨cs,k⟩:= hk;obtain⟨ds,k'⟩:= (M.drew.keep u).kind;exact Below.heap_setCell s _ _ b (eM k k' (by decide))
  have hw1l:w.heap.size≤(s.setCell ⟨G,i,none⟩ (.slice (some ⟨y,0,none⟩) 16 c1)).heap.size:=C2.size
  have X:q1.b=y:=by rw[r.out]
  have T:q1.es=p.es.take 16:=by rw[r.out]
  have l:=(hg.drew.keep u).off q (i:=i) (.slice (some ⟨y,0,none⟩) 16 c1)
  have hF2:∀ b,((F b∧b≠p.b)∨b=q1.b)→F b∨w.heap.size≤b:=fun b h=>h.imp (fun h=>h.1) (fun h=>by rw[h,X];exact V)
  generalize (s.setCell ⟨G,i,none⟩ (.slice (some ⟨y,0,none⟩) 16 c1))=Q at *;generalize hF2d:(fun x=>(F x∧x≠p.b)∨x=q1.b)=F2 at A2;obtain⟨z,R,Z,Y,aa,P⟩:= A2.opn (by simp[hL]);obtain⟨rfl,rfl⟩:z=G∧R=C:=by
    have:=(Z.eq l).1;simp at this;exact⟨this.1,this.2⟩
  have S:∀ b,F2 b→F b∨w.heap.size≤b:=fun b h=>hF2 b (by rw[← hF2d] at h;exact h)
  have cg2:Q.cell? ⟨g,0,none⟩=some (.slice (some ⟨z,0,none⟩) n R):=by
    have:=l.cell (i:=0) rfl;rwa [d.out] at this
  have E:Q.drew.cell? ⟨g,0,none⟩=some (.slice (some ⟨z,0,none⟩) n R):=cg2
  have U:(p.es.drop 16).length=m - 16:=by rw[List.length_drop,o.out]
  have t2 := AK (w := Q.drew) (a := ⟨p.b, 32, none⟩) (n := m - 16) (c := p.c - 16) (xs := flat (p.es.drop 16)) (by have := o.out; omega) (by rw[jJ, U]) (fun j v N => by
    rw[Addr.add_lit]
    have:(flat p.es)[32+j]?=some v:=by
      rw[← iJ,List.getElem?_drop] at N;exact N
    exact R0.drew.cell this) (jV (w:=Q) (D:=D) (fun e he=>E0 e (List.mem_of_mem_drop he)))
  have zz1:IntKind.i64.wrap ((i:Int)+1)=(i:Int)+1:=by rw[IntKind.wrap_i64];have:=d.out;omega
  have zz2:¬ (p.c=16):=by omega
  have zz3:(16:Int)≤m:=by omega
  have t3 : ∀ (f : World) (t c2 : Nat), Below Q.drew.heap.size Q.drew f → Calls Tryz.prog 231 #[.slice (some ⟨z, 0, none⟩) n R, .int .i64 ((i : Int) + 1), .slice (some ⟨f.heap.size, 0, none⟩) 1 1] (f.alloc (.cells #[.slice (some ⟨t, 0, none⟩) (m - 16) c2] 188)) fun e w' => ∃ b' c', e = .returned (.slice (some ⟨b', 0, none⟩) (n + 1) c') ∧ (b' = z ∨ f.heap.size + 1 ≤ b') ∧ Rw w' 188 1 b' (n + 1) c' (((L.set i q1).map Pg.v).take (i + 1) ++ [.slice (some ⟨t, 0, none⟩) (m - 16) c2] ++ ((L.set i q1).map Pg.v).drop (i + 1)) ∧ Chg (· = z) (f.alloc (.cells #[.slice (some ⟨t, 0, none⟩) (m - 16) c2] 188)) w' := fun f t c2 I => by
    have hk:=(P.drew.keep I).keep (ae f (.cells #[.slice (some ⟨t,0,none⟩) (m - 16) c2] 188));rw[List.length_set,d.out] at hk
    have hGl:z < f.heap.size:=(P.drew.keep I).lt;have:=insP (i:=i+1) hk (aD f [.slice (some ⟨t,0,none⟩) (m - 16) c2] 188) (by omega) (by have:=d.out;omega) (by have:=d.out;omega) (uY _) (by simp[Value.oneCell']);rw[World.size_alloc] at this;simpa using this
  go_wp2
  go_region_with (first
    | (go_at_call 230;refine t2.mono ?_;rintro e' f ⟨t,c2,rfl,hb2,R3,I⟩;have cg3:f.cell? ⟨g,0,none⟩=some (.slice (some ⟨z,0,none⟩) n R):=(I.cell (p:=⟨g,0,none⟩) (aK E)).trans E;have B:=oe cg3 (.cells #[.slice (some ⟨t,0,none⟩) (m - 16) c2] 188))
    | (go_at_call 231;refine(t3 f t c2 I).mono ?_;rintro e' w5 ⟨G5,C5,rfl,hb5,R5,O⟩;have cg5:w5.cell? ⟨g,0,none⟩=some (.slice (some ⟨z,0,none⟩) n R):=(World.cell?_of_block (w:=f.alloc (.cells #[.slice (some ⟨t,0,none⟩) (m - 16) c2] 188)) (a:=⟨g,0,none⟩) (O.same g (aK B) q)).trans B;have fg5:w5.frozen? ⟨g,0,none⟩=false:=(((l.drew.keep I).keep (ae f _)).chg O q).free 0))
  all_goals go_wp2
  all_goals go_end0
  all_goals exact xY A2 S C2 Z (l.drew.keep I) Y aa P q ac T U d.out I hb2 R3 (fun e he=>(E0 e he).keep (cy Q)) hb5 R5 O
end
end Pg
end
section
namespace Pg
open Go.RowKit Go.Lib
section
variable {L:List Pg}{i:Nat}{p:Pg}{w:World}{F D:Nat->Prop}
def sU(P:List (List En))(i q:Nat)(e:En):List (List En) :=
 let es:=(P.getD i []).take q ++ [e] ++ (P.getD i []).drop q
 if 32 < es.length then P.take i ++ [es.take 16,es.drop 16] ++ P.drop (i+1) else P.set i es
theorem qg(L:List Pg)(i:Nat)(p:Pg):ens (L.set i p)=(ens L).set i p.es:=by simp[ens,List.map_set]
theorem eW(h:L[i]?=some p):(ens L).getD i []=p.es:=by simp[ens,h]
theorem AR(es:List En)(q:Nat)(e:En):(flat es).take (q * 2) ++ [e.kv,e.vv] ++ (flat es).drop (q * 2)=flat (es.take q ++ [e] ++ es.drop q):=by
 rw[iH,iJ,eA,eA];rfl
theorem uJ{g q:Nat}{e:En}(A:bT w F D g L)(hi:L[i]?=some p)(hq:q<=p.es.length)(h2:p.es.length<=32)(hn:L.length<=100000000)(hE:EnA w D e) :
  Calls Tryz.prog 148 #[.pointer (some ⟨g,0,none⟩),.int .i64 i,.int .i64 q,.agg #[e.kv,e.vv]] w fun e' w'=>∃ F' L',e'=.returned (.tuple #[])/\ens L'=sU (ens L) i q e/\bT w' F' D g L'/\(∀ b,F' b->F b\/w.heap.size<=b)/\Chg F w w':=by
 have hil:=(List.getElem?_eq_some_iff.1 hi).1
 have hL:L≠[]:=fun e=>by subst e;simp at hil
 obtain⟨kv,kl,vv,vl⟩:=e;obtain⟨l,P⟩:∃ l,Hid (l=w.alloc (.cells #[kv,vv] 185)):=⟨_,rfl⟩
 have B0:Below w.heap.size w l:=by rw[P.out];exact ae w _
 have X0:Blk l w.heap.size [kv,vv] 185:=by rw[P.out];exact aD w [kv,vv] _
 have A0:=A.keep B0;obtain⟨G,C,hg,hFg,hFG,hR⟩:=A0.opn hL;have W:=A0.cC p (List.mem_of_getElem? hi);have cg:=hg.cell (i:=0) rfl;have cG:=hR.cell (i:=i) (v:=p.v) (by simp[hi]);have x0:=X0.cell (i:=0) rfl;have x1:=X0.cell (i:=1) rfl;have hpc:=W.1.row.le;have hCC:=hR.le;simp only[maxLen] at hpc hCC;obtain⟨n,U⟩:∃ n,Hid (L.length=n):=⟨_,rfl⟩
 obtain⟨m,S⟩:∃ m,Hid (p.es.length=m):=⟨_,rfl⟩
 simp only[Pg.v] at cG;rw[U.out] at cg;rw[S.out] at cG
 have z0:¬ ((n:Int)=0):=by have:=U.out;omega
 have z1:(i:Int) < n:=by have:=U.out;omega
 have cgd:l.drew.cell? ⟨g,0,none⟩=some (.slice (some ⟨G,0,none⟩) n C):=cg
 have x0d:l.drew.cell? ⟨w.heap.size,0,none⟩=some kv:=x0
 have x1d:l.drew.cell? ⟨w.heap.size,1,none⟩=some vv:=x1
 have cGd:l.drew.cell? ⟨G,i,none⟩=some (.slice (some ⟨p.b,0,none⟩) m p.c):=cG
 have hgG:g≠G:=fun e=>hR.fm hg e.symm
 have V:w.heap.size≠G:=by have:=A.lt hFG;omega
 obtain⟨R,N⟩:∃ R,Hid (R=l.drew.alloc (.cells #[kv,vv] 185)):=⟨_,rfl⟩
 have I:Below l.heap.size l R:=by rw[N.out];exact aA (cy l) (ae l.drew _)
 have hs0:l.heap.size=w.heap.size+1:=by rw[P.out];simp
 have V1:Blk R l.heap.size [kv,vv] 185:=by rw[N.out];exact aD l.drew [kv,vv] _
 have t1:=insE (i:=q) (W.1.row.keep I) V1 (by have:=W.1.row.lt;omega) hq (by omega) W.1.one (by have:=hE.k.one;have:=hE.v.one;simp_all);rw[S.out] at t1
 have j:R.cell? ⟨g,0,none⟩=some (.slice (some ⟨G,0,none⟩) n C):=(I.cell (p:=⟨g,0,none⟩) (aK cg)).trans cg
 have z:R.cell? ⟨w.heap.size,0,none⟩=some kv:=(I.cell (p:=⟨w.heap.size,0,none⟩) (aK x0)).trans x0
 have u:R.cell? ⟨w.heap.size,1,none⟩=some vv:=(I.cell (p:=⟨w.heap.size,1,none⟩) (aK x1)).trans x1
 have r:R.cell? ⟨G,i,none⟩=some (.slice (some ⟨p.b,0,none⟩) m p.c):=(I.cell (p:=⟨G,i,none⟩) (aK cG)).trans cG
 have ng:g≠p.b:=fun e=>W.1.fm hg e.symm
 have nG:G≠p.b:=fun e=>W.1.fl hR e.symm
 have nx:w.heap.size≠p.b:=by have:=A.lt W.2;omega
 have mixed:=mixed
 have hin:i < n:=by have:=U.out;omega
 go_enter Tryz.func148,Tryz.ntmps148;have cgw:=cg;rw[P.out] at cgw;go_wp2;rw[<- P.out];have T:=(show _/\_/\_ from⟨j,z,u⟩)
 have Q:=r;rw[N.out] at T Q t1
 have hpp:Tryz.prog.underlying 146=some (.slice 188):=by kernel_rfl
 refine p9 (X:=Nat × Nat) (fun x=>[(some 23,.pointer (some ⟨g,0,none⟩)),(some 24,.pointer (some ⟨g,0,none⟩)),(some 25,.pointer (some ⟨g,0,none⟩)),(some 26,.slice (some ⟨G,0,none⟩) n C),(some 27,.int .i64 i),(some 28,.pointer (some ⟨g,0,none⟩)),(some 29,.pointer (some ⟨g,0,none⟩)),(some 30,.pointer (some ⟨g,0,none⟩)),(some 31,.slice (some ⟨G,0,none⟩) n C),(some 32,.int .i64 i),(some 33,.pointer (some ⟨G,i,none⟩)),(some 34,.slice (some ⟨p.b,0,none⟩) m p.c),(some 35,.int .i64 q),(some 36,.agg #[kv,vv]),(some 37,.slice (some ⟨l.heap.size,0,none⟩) 1 1),(some 38,.slice (some ⟨x.1,0,none⟩) (m+1) x.2),(some 39,.pointer (some ⟨G,i,none⟩))]) (fun x w'=>∃ d,w'=d.setCell ⟨G,i,none⟩ (.slice (some ⟨x.1,0,none⟩) (m+1) x.2)/\(x.1=p.b\/R.heap.size<=x.1)/\Rw d 185 2 x.1 (m+1) x.2 ((flat p.es).take (q * 2) ++ [kv,vv] ++ (flat p.es).drop (q * 2))/\Chg (·=p.b) R d) (fun w'=>w'.cell? ⟨g,0,none⟩=some (.slice (some ⟨G,0,none⟩) n C)/\w'.cell? ⟨w.heap.size,0,none⟩=some kv/\w'.cell? ⟨w.heap.size,1,none⟩=some vv) (by kernel_rfl) ⟨cgd,x0d,x1d⟩ ?_ ?_
 ·have hS:=(show _/\_/\_ from⟨cgd,x0d,x1d⟩)
  refine ay 0 (some 23) (.pointer (some ⟨g,0,none⟩)) (by kernel_rfl) (fun _ _=>by kernel_rfl) (fun _ _ _ h=>h) hS ?_
  refine ay 1 (some 24) (.pointer (some ⟨g,0,none⟩)) (by kernel_rfl) (fun _ _=>by kernel_rfl) (fun _ _ _ h=>h) hS ?_
  refine ay 2 (some 25) (.pointer (some ⟨g,0,none⟩)) (by kernel_rfl) (fun _ _=>by kernel_rfl) (fun _ _ _ h=>h) hS ?_
  refine aQ 3 (some 26) (.slice (some ⟨G,0,none⟩) n C) 146 25 (g) (0) (by kernel_rfl) (by kernel_rfl) (by kernel_rfl) (fun w' h=>gE h.1) (fun _ _ _ h=>h) hS ?_
  refine ay 4 (some 27) (.int .i64 i) (by kernel_rfl) (fun _ _=>by kernel_rfl) (fun _ _ _ h=>h) hS ?_
  refine ay 5 (some 28) (.pointer (some ⟨g,0,none⟩)) (by kernel_rfl) (fun _ _=>by kernel_rfl) (fun _ _ _ h=>h) hS ?_
  refine ay 6 (some 29) (.pointer (some ⟨g,0,none⟩)) (by kernel_rfl) (fun _ _=>by kernel_rfl) (fun _ _ _ h=>h) hS ?_
  refine ay 7 (some 30) (.pointer (some ⟨g,0,none⟩)) (by kernel_rfl) (fun _ _=>by kernel_rfl) (fun _ _ _ h=>h) hS ?_
  refine aQ 8 (some 31) (.slice (some ⟨G,0,none⟩) n C) 146 30 (g) (0) (by kernel_rfl) (by kernel_rfl) (by kernel_rfl) (fun w' h=>gE h.1) (fun _ _ _ h=>h) hS ?_
  refine ay 9 (some 32) (.int .i64 i) (by kernel_rfl) (fun _ _=>by kernel_rfl) (fun _ _ _ h=>h) hS ?_
  refine ay 10 (some 33) (.pointer (some ⟨G,i,none⟩)) (by kernel_rfl) (fun _ _=>eO (x:=31) (y:=32) (n:=n) (c:=C) (by kernel_rfl) hpp (by kernel_rfl) (by kernel_rfl) (rfl) (hin)) (fun _ _ _ h=>h) hS ?_
  refine ay 12 (some 35) (.int .i64 q) (by kernel_rfl) (fun _ _=>by kernel_rfl) (fun _ _ _ h=>h) hS ?_
  refine aQ 13 (some 36) (.agg #[kv,vv]) 185 7 (w.heap.size) (0) (by kernel_rfl) (by kernel_rfl) (by kernel_rfl) (fun w' h=>ld_e h.2.1 h.2.2) (fun _ _ _ h=>h) hS ?_
  refine aM [11,14] (by kernel_rfl) (by simp) ?_
  refine bG 11 (some 34) (.slice (some ⟨p.b,0,none⟩) m p.c) _ (by kernel_rfl) (jj 33 (by kernel_rfl) (by kernel_rfl) (qP cGd)) hS ?_ (bG 14 (some 37) (.slice (some ⟨l.heap.size,0,none⟩) 1 1) _ (by kernel_rfl) (qJ (k:=36) (by kernel_rfl) (by kernel_rfl)) T ?_ aZ)
  ·refine aM [14] (by kernel_rfl) (by simp) ?_
   refine bG 14 (some 37) (.slice (some ⟨l.heap.size,0,none⟩) 1 1) _ (by kernel_rfl) (qJ (k:=36) (by kernel_rfl) (by kernel_rfl)) T ?_ aZ;refine bQ 15 (some 38) 196 #[.slice (some ⟨p.b,0,none⟩) m p.c,.int .i64 q,.slice (some ⟨l.heap.size,0,none⟩) 1 1] (by kernel_rfl) (by kernel_rfl) t1 ?_
   rintro e' d ⟨B,c2,rfl,s,R2,o⟩;rw[<- N.out] at o s
   have t:d.cell? ⟨g,0,none⟩=_:=(World.cell?_of_block (a:=⟨g,0,none⟩) (o.same g (aK j) ng)).trans j
   have E:d.cell? ⟨w.heap.size,0,none⟩=_:=(World.cell?_of_block (a:=⟨w.heap.size,0,none⟩) (o.same _ (aK z) nx)).trans z
   have H:d.cell? ⟨w.heap.size,1,none⟩=_:=(World.cell?_of_block (a:=⟨w.heap.size,1,none⟩) (o.same _ (aK u) nx)).trans u
   have K:d.cell? ⟨G,i,none⟩=_:=(World.cell?_of_block (a:=⟨G,i,none⟩) (o.same _ (aK r) nG)).trans r
   have fG2:d.frozen? ⟨G,i,none⟩=false:=((hR.keep I).chg o nG).free i;refine⟨_,rfl,⟨t,E,H⟩,?_⟩;replace hS:=(show _/\_/\_ from⟨t,E,H⟩)
   refine ay 16 (some 39) (.pointer (some ⟨G,i,none⟩)) (by kernel_rfl) (fun _ _=>eO (x:=26) (y:=27) (n:=n) (c:=C) (by kernel_rfl) hpp (by kernel_rfl) (by kernel_rfl) (rfl) (hin)) (fun _ _ _ h=>h) hS ?_
   refine aM [17] (by kernel_rfl) (by simp) ?_
   refine dw 17 (d.setCell ⟨G,i,none⟩ (.slice (some ⟨B,0,none⟩) (m+1) c2)) (by kernel_rfl) (kZ 39 38 (by kernel_rfl) (by kernel_rfl) (by kernel_rfl) K fG2) ⟨bX hgG t,bX V E,bX V H⟩ ?_ aZ;refine bM (by kernel_rfl) ?_
   exact⟨(B,c2),by kernel_rfl,d,rfl,s,R2,o⟩
  ·refine aM [11] (by kernel_rfl) (by simp) ?_
   refine bG 11 (some 34) (.slice (some ⟨p.b,0,none⟩) m p.c) _ (by kernel_rfl) (jj 33 (by kernel_rfl) (by kernel_rfl) (qP Q)) T ?_ aZ;refine bQ 15 (some 38) 196 #[.slice (some ⟨p.b,0,none⟩) m p.c,.int .i64 q,.slice (some ⟨l.heap.size,0,none⟩) 1 1] (by kernel_rfl) (by kernel_rfl) t1 ?_
   rintro e' d ⟨B,c2,rfl,s,R2,o⟩;rw[<- N.out] at o s
   have t:d.cell? ⟨g,0,none⟩=_:=(World.cell?_of_block (a:=⟨g,0,none⟩) (o.same g (aK j) ng)).trans j
   have E:d.cell? ⟨w.heap.size,0,none⟩=_:=(World.cell?_of_block (a:=⟨w.heap.size,0,none⟩) (o.same _ (aK z) nx)).trans z
   have H:d.cell? ⟨w.heap.size,1,none⟩=_:=(World.cell?_of_block (a:=⟨w.heap.size,1,none⟩) (o.same _ (aK u) nx)).trans u
   have K:d.cell? ⟨G,i,none⟩=_:=(World.cell?_of_block (a:=⟨G,i,none⟩) (o.same _ (aK r) nG)).trans r
   have fG2:d.frozen? ⟨G,i,none⟩=false:=((hR.keep I).chg o nG).free i;refine⟨_,rfl,⟨t,E,H⟩,?_⟩;replace hS:=(show _/\_/\_ from⟨t,E,H⟩)
   refine ay 16 (some 39) (.pointer (some ⟨G,i,none⟩)) (by kernel_rfl) (fun _ _=>eO (x:=26) (y:=27) (n:=n) (c:=C) (by kernel_rfl) hpp (by kernel_rfl) (by kernel_rfl) (rfl) (hin)) (fun _ _ _ h=>h) hS ?_
   refine aM [17] (by kernel_rfl) (by simp) ?_
   refine dw 17 (d.setCell ⟨G,i,none⟩ (.slice (some ⟨B,0,none⟩) (m+1) c2)) (by kernel_rfl) (kZ 39 38 (by kernel_rfl) (by kernel_rfl) (by kernel_rfl) K fG2) ⟨bX hgG t,bX V E,bX V H⟩ ?_ aZ;refine bM (by kernel_rfl) ?_
   exact⟨(B,c2),by kernel_rfl,d,rfl,s,R2,o⟩
 rintro⟨B,c2⟩ w' ⟨d,rfl,s,R2,o⟩;dsimp only at s R2;simp only[jq,Act.put,List.setIfInBounds_toArray,List.set_cons_zero,List.set_cons_succ]
 have t:d.cell? ⟨g,0,none⟩=_:=(World.cell?_of_block (a:=⟨g,0,none⟩) (o.same g (aK j) ng)).trans j
 have K:d.cell? ⟨G,i,none⟩=_:=(World.cell?_of_block (a:=⟨G,i,none⟩) (o.same _ (by exact(hR.keep I).lt) nG)).trans r
 have C02:Chg (·=p.b) l d:=(Chg.of (F:=(·=p.b)) I).trans o (fun _ _ h=>h);obtain⟨p',Y⟩:∃ p':Pg,Hid (p'=⟨B,c2,p.es.take q ++ [(⟨kv,kl,vv,vl⟩:En)] ++ p.es.drop q⟩):=⟨_,rfl⟩
 have hlen:(p.es.take q ++ [(⟨kv,kl,vv,vl⟩:En)] ++ p.es.drop q).length=m+1:=by have:=S.out;simp;omega
 have O:∀ e,EnA w D e->EnA d D e:=fun e he=>((he.keep B0).keep I).off fun b hb hk=>o.same b hb fun f=>by
  subst f;obtain⟨cs,k⟩:=hk;obtain⟨ds,k'⟩:=(W.1.row.keep I).kind;exact eM k k' (by decide) rfl
 have hA':PgA d D p':=by
  rw[Y.out];refine⟨?_,fun e he=>?_⟩
  ·show Rw d _ 2 B (p.es.take q ++ [(⟨kv,kl,vv,vl⟩:En)] ++ p.es.drop q).length c2 _
   rw[hlen];exact R2.to (AR p.es q ⟨kv,kl,vv,vl⟩)
  ·rcases List.mem_append.1 he with h | h
   ·rcases List.mem_append.1 h with h | h
    ·exact O e ((A.cC p (List.mem_of_getElem? hi)).1.dP e (List.mem_of_mem_take h))
    ·simp at h;subst h;exact O _ hE
   ·exact O e ((A.cC p (List.mem_of_getElem? hi)).1.dP e (List.mem_of_mem_drop h))
 have hv':p'.v=.slice (some ⟨B,0,none⟩) (m+1) c2:=by rw[Y.out];simp only[Pg.v];rw[hlen]
 have hb':p'.b=B:=by rw[Y.out]
 have J:p'.es=p.es.take q ++ [⟨kv,kl,vv,vl⟩] ++ p.es.drop q:=by rw[Y.out]
 obtain⟨A3,C3⟩:=A0.put (p':=p') (D':=D) hg hFg hFG hR hi C02 (by rw[hb'];exact s.imp id (fun h=>Nat.le_trans I.size h)) hA' (fun _ _ h=>h);rw[hv',hb'] at A3;rw[hv'] at C3;have C03:=(Chg.of (F:=F) B0).trans C3 (fun _ _ h=>h)
 have hF3:∀ b,((F b/\b≠p.b)\/b=B)->F b\/w.heap.size<=b:=fun b h=>by
  have h0:=B0.size;have h1:=I.size;rcases h with h | h
  ·exact .inl h.1
  ·subst h;rcases s with h | h
   ·rw[h];exact .inl W.2
   ·exact .inr (by omega)
 have cg3:(d.setCell ⟨G,i,none⟩ (.slice (some ⟨B,0,none⟩) (m+1) c2)).cell? ⟨g,0,none⟩=some (.slice (some ⟨G,0,none⟩) n C):=bX hgG t
 have cG3:(d.setCell ⟨G,i,none⟩ (.slice (some ⟨B,0,none⟩) (m+1) c2)).cell? ⟨G,i,none⟩=some (.slice (some ⟨B,0,none⟩) (m+1) c2):=World.cell?_setCell_same' _ _ _ (by rw[K];rfl);generalize (d.setCell ⟨G,i,none⟩ (.slice (some ⟨B,0,none⟩) (m+1) c2))=W3 at *;generalize hF3d:(fun x=>(F x/\x≠p.b)\/x=B)=F3 at A3
 have M:∀ b,F3 b->F b\/w.heap.size<=b:=fun b h=>hF3 b (by rw[<- hF3d] at h;exact h)
 have hi3:(L.set i p')[i]?=some p':=by rw[List.getElem?_set_self hil]
 by_cases Z:32 < m+1
 ·have hbi:(32:Int) < (m:Int) + 1:=by omega
  have t5:=kP A3 hi3 (by rw[J,hlen];omega) (by rw[J,hlen];have:=S.out;omega) (by rw[List.length_set];exact hn);go_wp2_with (go_at_call 197;refine t5.mono ?_;rintro e' w6 ⟨F6,p1,p2,rfl,e1,e2,A6,hF6,C6⟩);go_end0;refine⟨F6,_,rfl,?_,A6,fun b hb=>?_,C03.trans C6 fun b hb h=>(M b h).resolve_right (by omega)⟩
  ·unfold sU;rw[eW hi,<- J,if_pos (by rw[J,hlen];exact Z)];simp only[ens,List.map_append,List.map_take,List.map_drop,List.map_cons,List.map_nil,List.map_set,e1,e2];rw[List.take_set_of_le (Nat.le_refl _),List.drop_set_of_lt (by omega)]
  ·rcases hF6 b hb with h | h
   ·exact M b h
   ·exact .inr (by have:=C03.size;omega)
 ·have hbi:¬ ((32:Int) < (m:Int) + 1):=by omega
  go_wp2;go_end0;refine⟨rfl,F3,_,?_,A3,M,C03⟩;unfold sU;rw[eW hi,<- J,if_neg (by rw[J,hlen];exact Z),qg]
end
end Pg
end
section
namespace Pg
open Go.RowKit Go.Lib
section
variable {w w1:World}{F D:Nat->Prop}{g:Nat}{pv:Value}
theorem BI(A:bT w F D g [])(o:w.cell? ⟨g,0,none⟩=some pv)(n:Below w.heap.size w w1){vb:Nat}(V:Blk w1 vb [.slice none 0 0] 188) :
  ∃ b' c' w',(Builtin.append_ #[146,146] 146 #[pv,.slice (some ⟨vb,0,none⟩) 1 1]).run Tryz.prog w1=.ok (.slice (some ⟨b',0,none⟩) 1 c') w'/\(F b'\/w.heap.size<=b')/\Rw w' 188 1 b' 1 c' [.slice none 0 0]/\Chg F w1 w'/\b'≠g/\(∀ b cs,Blk w1 b cs 148\/Blk w1 b cs 185->Blk w' b cs 148\/Blk w' b cs 185)/\(Blk w g [pv] 148/\F g/\Blk w' g [pv] 148):=by
 obtain⟨t,hb,r,h⟩:=A.top;have e:=hb.cell (i:=0) rfl;rw[o] at e
 cases e;have a:=hb.keep n;rcases h with⟨rfl,_⟩ | ⟨G,C,rfl,hG,hR⟩
 ·obtain⟨c',W,p,d,hC⟩:=gQ (w:=w1) KP 146 ⟨vb,0,none⟩ 1 1 [.slice none 0 0] rfl (fun j u q=>by rw[Addr.add_lit,Nat.zero_add];exact V.cell q) (by decide) (by decide) (by decide);refine⟨_,c',W,p,.inr n.size,d,Chg.of hC,?_,fun b cs h=>h.imp (fun k=>k.keep hC) (fun k=>k.keep hC),hb,r,a.keep hC⟩;have:=a.lt;omega
 ·have m:=hR.keep n;obtain⟨b',c',W,p,l,d,hC⟩:=eu KP 146 m ⟨vb,0,none⟩ 1 1 [.slice none 0 0] rfl (fun j u q=>by rw[Addr.add_lit,Nat.zero_add];exact V.cell q) (by simp[Value.oneCell']) (by simp) (by simp)
  have c:∀ b cs,Blk w1 b cs 148\/Blk w1 b cs 185->b≠G:=fun b cs h=>by
   obtain⟨v,s⟩:=m.kind;rcases h with k | k
   ·exact eM k s (by decide)
   ·exact eM k s (by decide)
  have f:=c g _ (.inl a);refine⟨b',c',W,p,?_,d,hC.mono (fun b _ e=>by subst e;exact hG),?_,fun b cs h=>h.imp (fun k=>k.chg hC (c b cs h)) (fun k=>k.chg hC (c b cs h)),hb,r,a.chg hC f⟩
  ·rcases l with h | h
   ·rw[h];exact .inl hG
   ·rw[h];exact .inr n.size
  ·rcases l with h | h
   ·rw[h];exact fun e=>f e.symm
   ·have:=a.lt;omega
theorem ra{e:En}(A:bT w F D g [])(hE:EnA w D e) :
  Calls Tryz.prog 148 #[.pointer (some ⟨g,0,none⟩),.int .i64 0,.int .i64 0,.agg #[e.kv,e.vv]] w fun e' w'=>∃ F' L',e'=.returned (.tuple #[])/\ens L'=[[e]]/\bT w' F' D g L'/\(∀ b,F' b->F b\/w.heap.size<=b)/\Chg F w w':=by
 obtain⟨kv,kl,vv,vl⟩:=e;have B0:=ae w (.cells #[kv,vv] 185);have X0:=aD w [kv,vv] 185;obtain⟨ao,c,hc,hc1,hc2,hat⟩:=A.rd;simp only[List.length_nil] at hc hc1;have hgl:=aK hc;obtain⟨w1,E⟩:∃ w1,Hid (w1=(w.alloc (.cells #[kv,vv] 185)).alloc (.cells #[.slice none 0 0] 188)):=⟨_,rfl⟩
 have B1:Below w.heap.size w w1:=by rw[E.out];exact aA B0 (ae _ _)
 have V1:Blk w1 (w.heap.size+1) [.slice none 0 0] 188:=by
  have:=aD (w.alloc (.cells #[kv,vv] 185)) [.slice none 0 0] 188;rw[World.size_alloc] at this;rw[E.out];exact this
 have X1:Blk w1 w.heap.size [kv,vv] 185:=by rw[E.out];exact X0.keep (ae _ _)
 obtain⟨G,C,j,hr,hFG,R2,l,hGg,hkp,hgb,hFg,S⟩:=BI A hc B1 V1
 have X2:Blk j w.heap.size [kv,vv] 185:=X1.chg l (fun f=>by have:=A.lt f;omega);have hg3:=S.setCell (i:=0) (.slice (some ⟨G,0,none⟩) 1 C)
 have T:Rw (j.setCell ⟨g,0,none⟩ (.slice (some ⟨G,0,none⟩) 1 C)) 188 1 G 1 C [.slice none 0 0]:=R2.same (Below.heap_setCell j _ _ _ hGg)
 have X3:Blk (j.setCell ⟨g,0,none⟩ (.slice (some ⟨G,0,none⟩) 1 C)) w.heap.size [kv,vv] 185:=X2.off (by omega) _
 have aa:∀ e,EnA w D e->EnA (j.setCell ⟨g,0,none⟩ (.slice (some ⟨G,0,none⟩) 1 C)) D e:=fun e he=>(he.keep B1).off fun b hb hk=>by
  obtain⟨cs,k⟩:=hk
  have n1:b≠g:=eM k (hgb.keep B1) (by decide);rw[Below.heap_setCell j _ _ b n1];refine l.same b hb fun f=>A.noU f cs ?_
  exact⟨by rw[<- B1.block b (A.lt f)];exact k.blk⟩
 have c2g:=S.cell (i:=0) rfl;have f2g:=S.free 0
 have hsz3:w.heap.size+1+1<=(j.setCell ⟨g,0,none⟩ (.slice (some ⟨G,0,none⟩) 1 C)).heap.size:=by
  have h1:=l.size
  have h2:w1.heap.size=w.heap.size+1+1:=by rw[E.out];simp
  have h3:(j.setCell ⟨g,0,none⟩ (.slice (some ⟨G,0,none⟩) 1 C)).heap.size=j.heap.size:=by simp[World.setCell]
  omega
 have C03:Chg F w (j.setCell ⟨g,0,none⟩ (.slice (some ⟨G,0,none⟩) 1 C)):=((Chg.of (F:=F) B1).trans l (fun _ _ h=>h)).cell (.inl hFg) _;have mixed:=mixed;obtain rfl:=E.out;clear E;go_enter Tryz.func148,Tryz.ntmps148;go_wp2_with (at_builtin;refine Lib.wpList_append_run _ rfl _ _ _ _ rfl _ _ rfl rfl _ _ hr ?_);generalize (j.setCell ⟨g,0,none⟩ (.slice (some ⟨G,0,none⟩) 1 C))=d at *
 have Q:d.cell? ⟨g,0,none⟩=some (.slice (some ⟨G,0,none⟩) 1 C):=hg3.cell (i:=0) rfl;have Z:=X3.cell (i:=0) rfl;have ab:=X3.cell (i:=1) rfl;have V:=T.cell (i:=0) rfl;obtain⟨z,H⟩:∃ z,Hid (z=d.drew.alloc (.cells #[kv,vv] 185)):=⟨_,rfl⟩
 have R:Below d.heap.size d z:=by rw[H.out];exact aA (cy d) (ae d.drew _)
 have V4:Blk z d.heap.size [kv,vv] 185:=by rw[H.out];exact aD d.drew [kv,vv] _
 have hs4:z.heap.size=d.heap.size+1:=by rw[H.out];simp
 have t1:Calls Tryz.prog 196 #[.slice none 0 0,.int .i64 0,.slice (some ⟨d.heap.size,0,none⟩) 1 1] z fun e w'=>∃ J c2,e=.returned (.slice (some ⟨J,0,none⟩) 1 c2)/\J=d.heap.size + 1/\Rw w' 185 2 J 1 c2 [kv,vv]/\Below z.heap.size z w':=(Cl V4).mono (by
  rintro e w' ⟨c',rfl,h1,h2⟩
  exact⟨_,c',rfl,hs4,h1,h2⟩)
 have m:z.cell? ⟨g,0,none⟩=_:=(R.cell (p:=⟨g,0,none⟩) (aK Q)).trans Q
 have r:z.cell? ⟨w.heap.size,0,none⟩=_:=(R.cell (p:=⟨w.heap.size,0,none⟩) (aK Z)).trans Z
 have o:z.cell? ⟨w.heap.size,1,none⟩=_:=(R.cell (p:=⟨w.heap.size,1,none⟩) (aK ab)).trans ab
 have s:z.cell? ⟨G,0,none⟩=_:=(R.cell (p:=⟨G,0,none⟩) (aK V)).trans V
 have cgd:d.drew.cell? ⟨g,0,none⟩=_:=Q
 have x0d:d.drew.cell? ⟨w.heap.size,0,none⟩=_:=Z
 have x1d:d.drew.cell? ⟨w.heap.size,1,none⟩=_:=ab
 have cGd:d.drew.cell? ⟨G,0,none⟩=_:=V
 have W:g≠G:=fun e=>hGg e.symm
 have L:w.heap.size≠G:=fun e=>by
  obtain⟨ds,k⟩:=T.kind;exact eM X3 k (by decide) e
 have U:0 < 1:=by decide
 have K:=(show _/\_/\_ from⟨m,r,o⟩)
 have I:=s;rw[H.out] at K I t1
 have Y:Tryz.prog.underlying 146=some (.slice 188):=by kernel_rfl
 refine p9 (X:=Nat × Nat) (fun x=>[(some 23,.pointer (some ⟨g,0,none⟩)),(some 24,.pointer (some ⟨g,0,none⟩)),(some 25,.pointer (some ⟨g,0,none⟩)),(some 26,.slice (some ⟨G,0,none⟩) 1 C),(some 27,.int .i64 0),(some 28,.pointer (some ⟨g,0,none⟩)),(some 29,.pointer (some ⟨g,0,none⟩)),(some 30,.pointer (some ⟨g,0,none⟩)),(some 31,.slice (some ⟨G,0,none⟩) 1 C),(some 32,.int .i64 0),(some 33,.pointer (some ⟨G,0,none⟩)),(some 34,.slice none 0 0),(some 35,.int .i64 0),(some 36,.agg #[kv,vv]),(some 37,.slice (some ⟨d.heap.size,0,none⟩) 1 1),(some 38,.slice (some ⟨x.1,0,none⟩) 1 x.2),(some 39,.pointer (some ⟨G,0,none⟩))]) (fun x w'=>∃ j,w'=j.setCell ⟨G,0,none⟩ (.slice (some ⟨x.1,0,none⟩) 1 x.2)/\x.1=d.heap.size+1/\Rw j 185 2 x.1 1 x.2 [kv,vv]/\Below z.heap.size z j) (fun w'=>w'.cell? ⟨g,0,none⟩=some (.slice (some ⟨G,0,none⟩) 1 C)/\w'.cell? ⟨w.heap.size,0,none⟩=some kv/\w'.cell? ⟨w.heap.size,1,none⟩=some vv) (by kernel_rfl) ⟨cgd,x0d,x1d⟩ ?_ ?_
 ·have hS:=(show _/\_/\_ from⟨cgd,x0d,x1d⟩)
  refine ay 0 (some 23) (.pointer (some ⟨g,0,none⟩)) (by kernel_rfl) (fun _ _=>by kernel_rfl) (fun _ _ _ h=>h) hS ?_
  refine ay 1 (some 24) (.pointer (some ⟨g,0,none⟩)) (by kernel_rfl) (fun _ _=>by kernel_rfl) (fun _ _ _ h=>h) hS ?_
  refine ay 2 (some 25) (.pointer (some ⟨g,0,none⟩)) (by kernel_rfl) (fun _ _=>by kernel_rfl) (fun _ _ _ h=>h) hS ?_
  refine aQ 3 (some 26) (.slice (some ⟨G,0,none⟩) 1 C) 146 25 (g) (0) (by kernel_rfl) (by kernel_rfl) (by kernel_rfl) (fun w' h=>gE h.1) (fun _ _ _ h=>h) hS ?_
  refine ay 4 (some 27) (.int .i64 0) (by kernel_rfl) (fun _ _=>by kernel_rfl) (fun _ _ _ h=>h) hS ?_
  refine ay 5 (some 28) (.pointer (some ⟨g,0,none⟩)) (by kernel_rfl) (fun _ _=>by kernel_rfl) (fun _ _ _ h=>h) hS ?_
  refine ay 6 (some 29) (.pointer (some ⟨g,0,none⟩)) (by kernel_rfl) (fun _ _=>by kernel_rfl) (fun _ _ _ h=>h) hS ?_
  refine ay 7 (some 30) (.pointer (some ⟨g,0,none⟩)) (by kernel_rfl) (fun _ _=>by kernel_rfl) (fun _ _ _ h=>h) hS ?_
  refine aQ 8 (some 31) (.slice (some ⟨G,0,none⟩) 1 C) 146 30 (g) (0) (by kernel_rfl) (by kernel_rfl) (by kernel_rfl) (fun w' h=>gE h.1) (fun _ _ _ h=>h) hS ?_
  refine ay 9 (some 32) (.int .i64 0) (by kernel_rfl) (fun _ _=>by kernel_rfl) (fun _ _ _ h=>h) hS ?_
  refine ay 10 (some 33) (.pointer (some ⟨G,0,none⟩)) (by kernel_rfl) (fun _ _=>eO (x:=31) (y:=32) (n:=1) (c:=C) (by kernel_rfl) Y (by kernel_rfl) (by kernel_rfl) (rfl) (U)) (fun _ _ _ h=>h) hS ?_
  refine ay 12 (some 35) (.int .i64 0) (by kernel_rfl) (fun _ _=>by kernel_rfl) (fun _ _ _ h=>h) hS ?_
  refine aQ 13 (some 36) (.agg #[kv,vv]) 185 7 (w.heap.size) (0) (by kernel_rfl) (by kernel_rfl) (by kernel_rfl) (fun w' h=>ld_e h.2.1 h.2.2) (fun _ _ _ h=>h) hS ?_
  refine aM [11,14] (by kernel_rfl) (by simp) ?_
  refine bG 11 (some 34) (.slice none 0 0) _ (by kernel_rfl) (jj 33 (by kernel_rfl) (by kernel_rfl) (qP cGd)) hS ?_ (bG 14 (some 37) (.slice (some ⟨d.heap.size,0,none⟩) 1 1) _ (by kernel_rfl) (qJ (k:=36) (by kernel_rfl) (by kernel_rfl)) K ?_ aZ)
  ·refine aM [14] (by kernel_rfl) (by simp) ?_
   refine bG 14 (some 37) (.slice (some ⟨d.heap.size,0,none⟩) 1 1) _ (by kernel_rfl) (qJ (k:=36) (by kernel_rfl) (by kernel_rfl)) K ?_ aZ;refine bQ 15 (some 38) 196 #[.slice none 0 0,.int .i64 0,.slice (some ⟨d.heap.size,0,none⟩) 1 1] (by kernel_rfl) (by kernel_rfl) t1 ?_
   rintro e' j ⟨J,c2,rfl,B,R2,l⟩;rw[<- H.out] at l
   have u:j.cell? ⟨g,0,none⟩=_:=(l.cell (p:=⟨g,0,none⟩) (aK m)).trans m
   have t:j.cell? ⟨w.heap.size,0,none⟩=_:=(l.cell (p:=⟨w.heap.size,0,none⟩) (aK r)).trans r
   have v:j.cell? ⟨w.heap.size,1,none⟩=_:=(l.cell (p:=⟨w.heap.size,1,none⟩) (aK o)).trans o
   have P:j.cell? ⟨G,0,none⟩=_:=(l.cell (p:=⟨G,0,none⟩) (aK s)).trans s
   have O:j.frozen? ⟨G,0,none⟩=false:=((T.keep R).keep l).free 0;refine⟨_,rfl,⟨u,t,v⟩,?_⟩;replace hS:=(show _/\_/\_ from⟨u,t,v⟩)
   refine ay 16 (some 39) (.pointer (some ⟨G,0,none⟩)) (by kernel_rfl) (fun _ _=>eO (x:=26) (y:=27) (n:=1) (c:=C) (by kernel_rfl) Y (by kernel_rfl) (by kernel_rfl) (rfl) (U)) (fun _ _ _ h=>h) hS ?_
   refine aM [17] (by kernel_rfl) (by simp) ?_
   refine dw 17 (j.setCell ⟨G,0,none⟩ (.slice (some ⟨J,0,none⟩) 1 c2)) (by kernel_rfl) (kZ 39 38 (by kernel_rfl) (by kernel_rfl) (by kernel_rfl) P O) ⟨bX W u,bX L t,bX L v⟩ ?_ aZ;refine bM (by kernel_rfl) ?_
   exact⟨(J,c2),by kernel_rfl,j,rfl,B,R2,l⟩
  ·refine aM [11] (by kernel_rfl) (by simp) ?_
   refine bG 11 (some 34) (.slice none 0 0) _ (by kernel_rfl) (jj 33 (by kernel_rfl) (by kernel_rfl) (qP I)) K ?_ aZ;refine bQ 15 (some 38) 196 #[.slice none 0 0,.int .i64 0,.slice (some ⟨d.heap.size,0,none⟩) 1 1] (by kernel_rfl) (by kernel_rfl) t1 ?_
   rintro e' j ⟨J,c2,rfl,B,R2,l⟩;rw[<- H.out] at l
   have u:j.cell? ⟨g,0,none⟩=_:=(l.cell (p:=⟨g,0,none⟩) (aK m)).trans m
   have t:j.cell? ⟨w.heap.size,0,none⟩=_:=(l.cell (p:=⟨w.heap.size,0,none⟩) (aK r)).trans r
   have v:j.cell? ⟨w.heap.size,1,none⟩=_:=(l.cell (p:=⟨w.heap.size,1,none⟩) (aK o)).trans o
   have P:j.cell? ⟨G,0,none⟩=_:=(l.cell (p:=⟨G,0,none⟩) (aK s)).trans s
   have O:j.frozen? ⟨G,0,none⟩=false:=((T.keep R).keep l).free 0;refine⟨_,rfl,⟨u,t,v⟩,?_⟩;replace hS:=(show _/\_/\_ from⟨u,t,v⟩)
   refine ay 16 (some 39) (.pointer (some ⟨G,0,none⟩)) (by kernel_rfl) (fun _ _=>eO (x:=26) (y:=27) (n:=1) (c:=C) (by kernel_rfl) Y (by kernel_rfl) (by kernel_rfl) (rfl) (U)) (fun _ _ _ h=>h) hS ?_
   refine aM [17] (by kernel_rfl) (by simp) ?_
   refine dw 17 (j.setCell ⟨G,0,none⟩ (.slice (some ⟨J,0,none⟩) 1 c2)) (by kernel_rfl) (kZ 39 38 (by kernel_rfl) (by kernel_rfl) (by kernel_rfl) P O) ⟨bX W u,bX L t,bX L v⟩ ?_ aZ;refine bM (by kernel_rfl) ?_
   exact⟨(J,c2),by kernel_rfl,j,rfl,B,R2,l⟩
 rintro⟨J,M⟩ w' ⟨N,rfl,B,R4,D4⟩;dsimp only at B R4;simp only[jq,Act.put,List.setIfInBounds_toArray,List.set_cons_zero,List.set_cons_succ]
 have q:Below d.heap.size d N:=aA R D4;subst B;have ac:=(hg3.keep q).off W (i:=0) (.slice (some ⟨d.heap.size+1,0,none⟩) 1 M);have R5:=(T.keep q).set 0 (by simp) (.slice (some ⟨d.heap.size+1,0,none⟩) 1 M)
 have hNG:d.heap.size+1≠G:=by have:=T.lt;omega
 have R6:Rw (N.setCell ⟨G,0,none⟩ (.slice (some ⟨d.heap.size+1,0,none⟩) 1 M)) 185 2 (d.heap.size+1) 1 M [kv,vv]:=R4.same (Below.heap_setCell N _ _ _ hNG)
 have E6:EnA (N.setCell ⟨G,0,none⟩ (.slice (some ⟨d.heap.size + 1,0,none⟩) 1 M)) D ⟨kv,kl,vv,vl⟩:=((aa _ hE).keep q).off fun b hb hk=>by
  obtain⟨cs,k⟩:=hk;obtain⟨ds,k'⟩:=(T.keep q).kind;exact Below.heap_setCell N _ _ b (eM k k' (by decide))
 have C6:Chg F w (N.setCell ⟨G,0,none⟩ (.slice (some ⟨d.heap.size+1,0,none⟩) 1 M)):=(C03.trans (Chg.of (F:=F) q) (fun _ _ h=>h)).cell hFG _;have cg5:=ac.cell (i:=0) rfl;have cG5:=R5.cell (i:=0) rfl
 have hfin:bT (N.setCell ⟨G,0,none⟩ (.slice (some ⟨d.heap.size+1,0,none⟩) 1 M)) (fun x=>x=g\/x=G\/x=d.heap.size+1) D g [⟨d.heap.size+1,M,[⟨kv,kl,vv,vl⟩]⟩]:=by
  refine⟨⟨_,ac,.inl rfl,.inr ⟨G,C,rfl,.inr (.inl rfl),R5⟩⟩,fun p hp=>?_,by simp,fun b hb=>?_⟩
  ·simp at hp;subst hp;exact⟨⟨R6,fun e he=>by simp at he;subst he;exact E6⟩,.inr (.inr rfl)⟩
  ·rcases hb with rfl | rfl | rfl
   ·exact⟨_,_,ac,by decide⟩
   ·obtain⟨ds,k⟩:=R5.kind;exact⟨ds,_,k,by decide⟩
   ·obtain⟨ds,k⟩:=R6.kind;exact⟨ds,_,k,by decide⟩
 generalize (N.setCell ⟨G,0,none⟩ (.slice (some ⟨d.heap.size+1,0,none⟩) 1 M))=W6 at *;go_wp2;go_end0;refine⟨_,_,rfl,?_,hfin,fun b hb=>?_,C6⟩
 ·rfl
 ·rcases hb with rfl | rfl | rfl
  ·exact .inl hFg
  ·exact hFG
  ·exact .inr (by omega)
end
end Pg
end
section
namespace Pg
open Go.RowKit Go.Lib
section
variable {es:List En}{k ul:List Int}{L:List Pg}{w:World}{i g:Nat}{cs:List Value}{v u kv:Value}{F D:Nat->Prop}
def has(P:List (List En))(k:List Int):Bool:=!P.isEmpty && thr (kys (P.getD (pgi P k) [])) k
def got(P:List (List En))(k:List Int):List Int:=((P.getD (pgi P k) [])[plc (kys (P.getD (pgi P k) [])) k]?.map En.vl).getD []
def fV(P:List (List En))(e:En):List (List En) :=
 if P=[] then [[e]]
 else
  let i:=pgi P e.kl
  let es:=P.getD i []
  let q:=plc (kys es) e.kl
  if thr (kys es) e.kl then P.set i (es.modify q fun x=>{ x with vv:=e.vv,vl:=e.vl }) else sU P i q e
theorem lV(h:thr (kys es) k=true):∃ e,es[plc (kys es) k]?=some e/\e.kl=k:=by
 simp only[thr,decide_eq_true_eq,kys,List.getElem?_map] at h;obtain⟨e,he,hk⟩:=Option.map_eq_some_iff.1 h;exact⟨e,he,hk⟩
theorem uW(h:L≠[]):ens L≠[]:=fun e=>h (by simpa[ens] using e)
theorem ql(h:L≠[])(k:List Int):∃ p,L[pgi (ens L) k]?=some p/\(ens L).getD (pgi (ens L) k) []=p.es:=by
 have:=pgi_lt (uW h) k;simp only[ens,List.length_map] at this;refine⟨L[pgi (ens L) k]'this,List.getElem?_eq_getElem _,?_⟩;exact eW (List.getElem?_eq_getElem _)
theorem zi{G:Nat}{t:TypeId}(h:Blk w G cs t)(hi:cs[i]?=some v)(b:Nat):(w.setCell ⟨G,i,none⟩ v).heap[b]?=w.heap[b]?:=by
 by_cases e:b=G
 ·subst e;have a:=(h.setCell (i:=i) v).blk;rw[a,h.blk];have:cs.set i v=cs:=by
   obtain⟨c,rfl⟩:=List.getElem?_eq_some_iff.1 hi;exact List.set_getElem_self c
  rw[this]
 ·exact Below.heap_setCell w _ v b e
theorem bT.upd{w1:World}{q:Nat}{p:Pg}{e:En}(A:bT w F D g L)(hi:L[i]?=some p)(he:p.es[q]?=some e)(B:Below w.heap.size w w1)(hu:OB w1 (w.heap.size <= ·) u ul) :
  bT (w1.setCell ⟨p.b,q * 2+1,none⟩ u) F (fun b=>D b\/w.heap.size<=b) g (L.set i ⟨p.b,p.c,p.es.set q { e with vv:=u,vl:=ul }⟩)/\Chg F w (w1.setCell ⟨p.b,q * 2+1,none⟩ u):=by
 have s:=(List.getElem?_eq_some_iff.1 hi).1
 have hL:L≠[]:=fun e=>by subst e;simp at s
 obtain⟨G,C,Q,E,t,z⟩:=A.opn hL;have m:=A.cC p (List.mem_of_getElem? hi);have J:=(List.getElem?_eq_some_iff.1 he).1
 have hC:Chg (·=p.b) w (w1.setCell ⟨p.b,q * 2+1,none⟩ u):=(Chg.of (F:=(·=p.b)) B).cell (.inl rfl) _
 have a:∀ {v:Value} {l:List Int} {D':Nat->Prop},OB w1 D' v l->OB (w1.setCell ⟨p.b,q * 2 + 1,none⟩ u) D' v l:=fun h=>⟨h.oct,h.ex.imp id (by
  rintro⟨b,c,e,hd,o⟩;refine⟨b,c,e,hd,o.same (Below.heap_setCell w1 _ _ b ?_)⟩;obtain⟨T,k⟩:=o.kind;obtain⟨S,P⟩:=(m.1.row.keep B).kind
  exact eM k P (by decide))⟩
 have r:Rw (w1.setCell ⟨p.b,q * 2+1,none⟩ u) 185 2 p.b p.es.length p.c (flat (p.es.set q { e with vv:=u,vl:=ul })) :=
  ((m.1.row.keep B).set (q * 2+1) (by rw[jJ];omega) u).to (mo u ul he)
 have hA:PgA (w1.setCell ⟨p.b,q * 2+1,none⟩ u) (fun b=>D b\/w.heap.size<=b) ⟨p.b,p.c,p.es.set q { e with vv:=u,vl:=ul }⟩:=by
  refine⟨by simpa using r,fun R I=>?_⟩;obtain⟨j,n⟩:=List.getElem?_of_mem I;rw[List.getElem?_set] at n;by_cases N:q=j
  ·subst N;rw[if_pos rfl,if_pos J] at n
   cases n;have f:=m.1.dP e (List.mem_of_getElem? he);exact⟨(a (f.k.keep B)).mono (fun _ _ h=>.inl h),(a hu).mono (fun _ _ h=>.inr h)⟩
  ·rw[if_neg N] at n;have f:=m.1.dP R (List.mem_of_getElem? n);exact⟨(a (f.k.keep B)).mono (fun _ _ h=>.inl h),(a (f.v.keep B)).mono (fun _ _ h=>.inl h)⟩
 obtain⟨K,O⟩:=A.put (p':=⟨p.b,p.c,p.es.set q { e with vv:=u,vl:=ul }⟩) (D':=fun b=>D b\/w.heap.size<=b) Q E t z hi hC (.inl rfl) hA (fun _ _ h=>.inl h)
 have hv:(⟨p.b,p.c,p.es.set q { e with vv:=u,vl:=ul }⟩:Pg).v=p.v:=by simp[Pg.v]
 rw[hv] at K O
 have y:Rw (w1.setCell ⟨p.b,q * 2+1,none⟩ u) 188 1 G L.length C (L.map Pg.v):=z.chg hC (fun e=>m.1.fl z e.symm)
 have d:∀ b,((w1.setCell ⟨p.b,q * 2 + 1,none⟩ u).setCell ⟨G,i,none⟩ p.v).heap[b]? = (w1.setCell ⟨p.b,q * 2 + 1,none⟩ u).heap[b]? := fun b=>by
  obtain⟨sp,h,_⟩:=y.ex;exact zi h (by rw[List.getElem?_append_left (by simpa using s)];simp[hi]) b
 have H:∀ x,((F x/\x≠p.b)\/x=p.b)<->F x:=fun x=>⟨fun h=>h.elim (fun h=>h.1) (fun h=>by subst h; exact m.2),fun h=>by
  by_cases ex:x=p.b
  ·exact .inr ex
  ·exact .inl ⟨h,ex⟩⟩
 have M:=K.same (w':=w1.setCell ⟨p.b,q * 2+1,none⟩ u) (fun b _=>(d b).symm) (fun b _ _ _=>(d b).symm);rw[show (fun x=>(F x/\x≠p.b)\/x=p.b)=F from funext fun x=>propext (H x)] at M;exact⟨M,⟨hC.os,hC.tape,hC.output,hC.size,fun b hb hf=>hC.same b hb fun e=>hf (by subst e;exact m.2)⟩⟩
theorem DZ(A:bT w F D g L)(O:Ord (ens L))(hs:∀ es∈ens L,es.length<=1000)(hn:L.length<=100000000)(h:By w kv k)(hb:∀ p∈L,∀ e∈p.es,e.vl.length<=1000000000) :
  Calls Tryz.prog 165 #[.pointer (some ⟨g,0,none⟩),kv] w fun e w'=>∃ v,e=.returned (.tuple #[v,.bool (has (ens L) k)])/\OB w' (w.heap.size <= ·) v (if has (ens L) k then got (ens L) k else [])/\Below w.heap.size w w':=by
 by_cases hL:L=[]
 ·subst hL;have t:=nI (v:=kv) A
  have e1:has (ens []) k=false:=rfl;rw[e1];clear A O hs hb h;go_enter Tryz.func165,Tryz.ntmps165;go_wp2_with (go_at_call 147;refine t.mono ?_;rintro B l ⟨rfl,rfl⟩);go_ret2;exact⟨_,rfl,⟨fun _ h=>by simp at h,.inl ⟨rfl,rfl⟩⟩,Below.refl _ _⟩
 ·obtain⟨p,s,r⟩:=ql hL k;have d:=List.mem_of_getElem? s;have t:=l8 A O h (by omega) s (by have:=hs p.es (List.mem_map.2 ⟨p,d,rfl⟩);omega);obtain⟨G,C,y,T,K,x⟩:=A.opn hL;have S:=(List.getElem?_eq_some_iff.1 s).1
  have I:has (ens L) k=thr (kys p.es) k:=by
   unfold has;rw[r];have:(ens L).isEmpty=false:=by simp[ens,hL]
   simp[this]
  have f:got (ens L) k=((p.es)[plc (kys p.es) k]?.map En.vl).getD []:=by unfold got;rw[r]
  rw[I];by_cases j:thr (kys p.es) k=true
  ·obtain⟨e,he,M⟩:=lV j;rw[he] at f;simp only[Option.map_some,Option.getD_some] at f;rw[j,if_pos rfl,f];rw[j] at t;have cg:=y.cell (i:=0) rfl;have u:=x.cell (i:=pgi (ens L) k) (v:=p.v) (by simp[s]);have H:=(A.cC p d).1.dP e (List.mem_of_getElem? he);have cv:=(A.cC p d).1.row.cell (kO he)
   have J:∀ w',Below w.heap.size w w'->Calls Tryz.prog 69 #[e.vv] w' _:=fun w' c=>cO (H.v.keep c).by (hb p d e (List.mem_of_getElem? he))
   have V:=(List.getElem?_eq_some_iff.1 he).1;generalize pgi (ens L) k=i at *;generalize plc (kys p.es) k=q at *
   have z1:(i:Int) < L.length:=by omega
   have z2:(q:Int) < p.es.length:=by omega
   simp only[Pg.v] at u;generalize L.length=n at *;generalize p.es.length=m at *;clear A O hs hb h x y H j;go_enter Tryz.func165,Tryz.ntmps165;go_wp2_with (first | (go_at_call 147;refine t.mono ?_;rintro B l ⟨rfl,c⟩;have Q:l.cell? ⟨g,0,none⟩=_:=(c.cell (p:=⟨g,0,none⟩) (aK cg)).trans cg;have N:l.cell? ⟨G,i,none⟩=_:=(c.cell (p:=⟨G,i,none⟩) (aK u)).trans u;have U:l.cell? ⟨p.b,q * 2+1,none⟩=_:=(c.cell (p:=⟨p.b,q * 2+1,none⟩) (aK cv)).trans cv;have E:=J l c;clear t J) | (go_at_call 69;refine E.mono ?_;rintro B W ⟨P,rfl,R,z⟩));go_ret2;exact⟨P,rfl,R.mono (fun b _ hb=>Nat.le_trans c.size hb),aA c z⟩
  ·have o:thr (kys p.es) k=false:=by simpa using j
   rw[o] at t ⊢;generalize pgi (ens L) k=i at *;generalize plc (kys p.es) k=q at *;clear A O hs hb h x y j o I f;go_enter Tryz.func165,Tryz.ntmps165;go_wp2_with (go_at_call 147;refine t.mono ?_;rintro B l ⟨rfl,c⟩);go_ret2;exact⟨_,rfl,⟨fun _ h=>by simp at h,.inl ⟨rfl,rfl⟩⟩,c⟩
end
end Pg
end
section
namespace Pg
open Go.RowKit Go.Lib
section
variable {es:List En}{q g:Nat}{w:World}{D F:Nat->Prop}{v l k:List Int}{L:List Pg}{kv vv:Value}
theorem xG{e:En}(h:es[q]?=some e)(f:En->En):es.modify q f=es.set q (f e):=by
 have a:=(List.getElem?_eq_some_iff.1 h).1;apply List.ext_getElem?;intro j;rw[List.getElem?_modify,List.getElem?_set];by_cases e:q=j
 ·subst e;rw[if_pos rfl,if_pos a,h];simp
 ·rw[if_neg e];simp[e]
theorem OB.shape{v:Value}(h:OB w D v l):∃ ao c,v=.slice ao l.length c:=by
 rcases h.ex with⟨rfl,rfl⟩ | ⟨b,c,rfl,_⟩
 ·exact⟨none,0,rfl⟩
 ·exact⟨_,c,rfl⟩
def SetR(w w':World)(F D:Nat->Prop)(g:Nat)(L:List Pg)(k v:List Int):Prop :=
 ∃ F' L' nk nv,ens L'=fV (ens L) ⟨nk,k,nv,v⟩/\bT w' F' (fun b=>D b\/w.heap.size<=b) g L'/\(∀ b,F' b->F b\/w.heap.size<=b)/\Chg F w w'
theorem xt{F D:Nat→Prop}{p:Pg}(A:bT w F D g L)(O:Ord (ens L))(hs:p.es.length≤1000)(hn:L.length≤100000000)(h:By w kv k)(hv:By w vv v)(S:v.length≤1000000000)(hL:L≠[])(x:L[pgi (ens L) k]?=some p)(s:(ens L).getD (pgi (ens L) k) []=p.es)(K:thr (kys p.es) k=true) :
    Calls Tryz.prog 97 #[.pointer (some ⟨g,0,none⟩),kv,vv] w fun e w'=>e=.returned (.bool false)∧SetR w w' F D g L k v:=by
  have t:=l8 A O h (by omega) x (by omega);obtain⟨G,C,U,hFg,X,V⟩:= A.opn hL;obtain⟨e,he,hek⟩:= lV K;have Q:=List.mem_of_getElem? x;have ab:=(List.getElem?_eq_some_iff.1 x).1;have hql:=(List.getElem?_eq_some_iff.1 he).1
  have hS : ∀ u, fV (ens L) ⟨e.kv, k, u, v⟩ = (ens L).set (pgi (ens L) k) (p.es.set (plc (kys p.es) k) { e with vv := u, vl := v }) := fun u => by
    unfold fV;rw[if_neg (uW hL)];simp only[s];rw[if_pos K,xG he]
  have hS:Hid _:=hS;rw[K] at t;have cg:=U.cell (i:=0) rfl;have N:=V.cell (i:=pgi (ens L) k) (v:=p.v) (by simp[x])
  have tC:∀ w',Below w.heap.size w w'→Calls Tryz.prog 69 #[vv] w' _:=fun w' J=>cO (hv.keep J) S
  have d:=(A.cC p Q).1;have cv:=d.row.cell (kO he);have fv:=d.row.free (plc (kys p.es) k * 2+1)
  have n1:g≠p.b:=fun e=>d.fm U e.symm
  have Z:G≠p.b:=fun e=>d.fl V e.symm
  generalize z:pgi (ens L) k=i at *;generalize H:plc (kys p.es) k=q at *
  have z:Hid _:=z
  have H:Hid _:=H
  have z1:(i:Int) < L.length:=by omega
  have z2:(q:Int) < p.es.length:=by omega
  simp only[Pg.v] at N;generalize y:L.length=n at *;generalize I:p.es.length=m at *
  have y:Hid _:=y
  have I:Hid _:=I;clear K s;have mixed:=mixed;go_enter Tryz.func97,Tryz.ntmps97;go_wp2_with (first | (go_at_call 147;refine t.mono ?_;rintro e' E ⟨rfl,J⟩))
  have r:E.drew.cell? ⟨g,0,none⟩=some (.slice (some ⟨G,0,none⟩) n C):=(J.cell (p:=⟨g,0,none⟩) (aK cg)).trans cg
  have B:E.drew.cell? ⟨G,i,none⟩=some (.slice (some ⟨p.b,0,none⟩) m p.c):=(J.cell (p:=⟨G,i,none⟩) (aK N)).trans N
  have j:Below w.heap.size w E.drew:=aA J (cy E);have T:=tC E.drew j;go_region_held3 (fun w'=>w'.cell? ⟨g,0,none⟩=some (.slice (some ⟨G,0,none⟩) n C)∧w'.cell? ⟨G,i,none⟩=some (.slice (some ⟨p.b,0,none⟩) m p.c)) (first | exact⟨by assumption,by assumption⟩ | exact⟨bX n1 (by assumption),bX Z (by assumption)⟩)
    (first
    | (go_at_call 69;refine T.mono ?_;rintro e' o ⟨v',rfl,W,l⟩;obtain⟨R,P,rfl⟩:= W.shape;have cg2:o.cell? ⟨g,0,none⟩=_:=(l.cell (p:=⟨g,0,none⟩) (aK r)).trans r;have aa:o.cell? ⟨G,i,none⟩=_:=(l.cell (p:=⟨G,i,none⟩) (aK B)).trans B;have f:=aA j l;have Y:o.cell? ⟨p.b,q * 2+1,none⟩=_:=(f.cell (p:=⟨p.b,q * 2+1,none⟩) (aK cv)).trans cv;have fv2:o.frozen? ⟨p.b,q * 2+1,none⟩=false:=(d.row.keep f).free _))
  all_goals (
    have M:OB o (w.heap.size≤·) (.slice R v.length P) v:=W.mono (fun b _ hb=>Nat.le_trans j.size hb);obtain⟨A2,C2⟩:= A.upd x he f M;generalize (o.setCell ⟨p.b,q * 2+1,none⟩ (.slice R v.length P))=W3 at *;go_wp2;go_ret
    exact⟨rfl,F,_,e.kv,.slice R v.length P,by rw[hS.out,qg],A2,fun b hb=>.inl hb,C2⟩)
theorem iR{i:Nat}(A:bT w F D g L)(h:By w kv k)(hv:By w vv v)(s:k.length<=1000000000)(p:v.length<=1000000000)(t:Calls Tryz.prog 147 #[.pointer (some ⟨g,0,none⟩),kv] w fun e w'=>e=.returned (.tuple #[.int .i64 i,.int .i64 q,.bool false])/\Below w.heap.size w w')(B:∀ (w':World) (nk nv:Value),bT w' F (fun b=>D b\/w.heap.size<=b) g L->EnA w' (fun b=>D b\/w.heap.size<=b) ⟨nk,k,nv,v⟩->Calls Tryz.prog 148 #[.pointer (some ⟨g,0,none⟩),.int .i64 i,.int .i64 q,.agg #[nk,nv]] w' fun e' w''=>∃ F' L',e'=.returned (.tuple #[])/\ens L'=fV (ens L) ⟨nk,k,nv,v⟩/\bT w'' F' (fun b=>D b\/w.heap.size<=b) g L'/\(∀ b,F' b->F b\/w'.heap.size<=b)/\Chg F w' w'') :
  Calls Tryz.prog 97 #[.pointer (some ⟨g,0,none⟩),kv,vv] w fun e w'=>e=.returned (.bool true)/\SetR w w' F D g L k v:=by
 have y:∀ w',Below w.heap.size w w'->Calls Tryz.prog 69 #[kv] w' _:=fun w' f=>cO (h.keep f) s
 have x:∀ w',Below w.heap.size w w'->Calls Tryz.prog 69 #[vv] w' _:=fun w' f=>cO (hv.keep f) p
 have mk:True:=trivial;clear h hv;go_enter Tryz.func97,Tryz.ntmps97
 go_wp2_with (first
  | (go_at_call 147;refine t.mono ?_;rintro e' C ⟨rfl,f⟩;have n:=y C f;clear t y)
  | (go_at_call 69;clear mk;refine n.mono ?_;rintro e' G ⟨nk,rfl,u,o⟩;have d:=aA f o;have j:=x G d;clear n x;obtain⟨I,M,rfl⟩:=u.shape)
  | (go_at_call 69;refine j.mono ?_;rintro e' E ⟨nv,rfl,m,l⟩;clear j;obtain⟨J,K,rfl⟩:=m.shape;have c:=aA d l;have r:=B E _ _ ((A.keep c).mono (fun _ _ h=>.inl h)) ⟨(u.keep l).mono (fun b _ hb=>.inr (Nat.le_trans f.size hb)),m.mono (fun b _ hb=>.inr (Nat.le_trans d.size hb))⟩)
  | (go_at_call 148;refine r.mono ?_;rintro e' H ⟨F',L',rfl,z,hA,hF,hC⟩))
 go_ret;exact⟨rfl,F',L',_,_,z,hA,fun b hb=>(hF b hb).imp id (fun h=>Nat.le_trans c.size h),(Chg.of (F:=F) c).trans hC (fun _ _ h=>h)⟩
theorem EA(A:bT w F D g L)(O:Ord (ens L))(hs:∀ es∈ens L,es.length<=32)(hn:L.length<=100000000)(h:By w kv k)(hv:By w vv v)(d:k.length<=1000000000)(a:v.length<=1000000000) :
  Calls Tryz.prog 97 #[.pointer (some ⟨g,0,none⟩),kv,vv] w fun e w'=>e=.returned (.bool (!has (ens L) k))/\SetR w w' F D g L k v:=by
 by_cases hL:L=[]
 ·subst hL;refine iR (i:=0) (q:=0) A h hv d a ((nI A).mono ?_) (fun w' nk nv l y=>(ra l y).mono ?_)
  ·rintro e w' ⟨rfl,rfl⟩;exact⟨rfl,Below.refl _ _⟩
  ·rintro e o ⟨u,n,rfl,m,hA,hF,hC⟩;exact⟨u,n,rfl,m,hA,hF,hC⟩
 ·obtain⟨p,j,b⟩:=ql hL k;have s:=List.mem_of_getElem? j;have x:=hs p.es (List.mem_map.2 ⟨p,s,rfl⟩)
  have z:has (ens L) k=thr (kys p.es) k:=by
   unfold has;rw[b];have:(ens L).isEmpty=false:=by simp[ens,hL]
   simp[this]
  rw[z];by_cases r:thr (kys p.es) k=true
  ·rw[r];exact xt A O (by omega) hn h hv a hL j b r
  ·have c:thr (kys p.es) k=false:=by simpa using r
   have t:=l8 A O h (by omega) j (by omega);rw[c] at t ⊢;have f:=qM (kys p.es) k;simp only[kys,List.length_map] at f;refine iR A h hv d a t (fun w' nk nv l y=>(uJ l j (q:=plc (kys p.es) k) f x hn y).mono ?_);rintro e o ⟨u,n,rfl,m,hA,hF,hC⟩;refine⟨u,n,rfl,?_,hA,hF,hC⟩;rw[m];unfold fV;rw[if_neg (uW hL)];simp only[b];rw[if_neg (by rw[c];decide)]
end
end Pg
end
section
namespace Pg
open Go.RowKit Go.Lib
section
variable {w:World}{v:Value}{F D:Nat->Prop}{L:List Pg}
def jnb(P:List (List En))(i:Nat):Bool:=decide (i+1 < P.length) && decide ((P.getD i []).length+(P.getD (i+1) []).length<=16)
def jnQ(P:List (List En))(i:Nat):List (List En):=P.take i ++ [P.getD i [] ++ P.getD (i+1) []] ++ P.drop (i+2)
theorem jn_neg:Calls Tryz.prog 204 #[v,.int .i64 (-1)] w fun e w'=>e=.returned (.bool false)/\Below w.heap.size w w':=by
 have mixed:=mixed;go_enter Tryz.func204,Tryz.ntmps204;go_wp2;go_region;go_wp2;go_ret;exact⟨rfl,cy w⟩
theorem BH{g i:Nat}(A:bT w F D g L)(hi:i < L.length)(hn:L.length<=100000000)(hs:∀ es∈ens L,es.length<=1000) :
  Calls Tryz.prog 204 #[.pointer (some ⟨g,0,none⟩),.int .i64 i] w fun e w'=>e=.returned (.bool (jnb (ens L) i))/\Below w.heap.size w w':=by
 have hL:L≠[]:=fun e=>by subst e;simp at hi
 obtain⟨G,C,z,M,K,s⟩:=A.opn hL;have cg:=z.cell (i:=0) rfl
 have o:(ens L).length=L.length:=by simp[ens]
 have mixed:=mixed
 have E:IntKind.i64.wrap ((i:Int)+1)=(i:Int)+1:=by rw[IntKind.wrap_i64];omega
 have J:(0:Int)<=(i:Int):=by omega
 by_cases t:i+1 < L.length
 ·obtain⟨p,H⟩:∃ p,L[i]?=some p:=⟨L[i],List.getElem?_eq_getElem hi⟩
  obtain⟨d,l⟩:∃ d,L[i+1]?=some d:=⟨L[i+1],List.getElem?_eq_getElem t⟩
  have I:=s.cell (i:=i) (v:=p.v) (by simp[H]);have r:=s.cell (i:=i+1) (v:=d.v) (by simp[l]);have s1:=hs p.es (List.mem_map.2 ⟨p,List.mem_of_getElem? H,rfl⟩);have s2:=hs d.es (List.mem_map.2 ⟨d,List.mem_of_getElem? l,rfl⟩)
  have B:Hid (jnb (ens L) i=decide ((p.es.length:Int)+(d.es.length:Int)<=16)):=by
   show _=_
   unfold jnb;rw[o,decide_eq_true t,eW H,eW l,Bool.true_and];congr 1
   exact propext ⟨fun h=>by omega,fun h=>by omega⟩
  simp only[Pg.v] at I r;generalize hln:L.length=n at *;generalize p.es.length=x at *;generalize d.es.length=y at *
  have z1:(i:Int)+1 < n:=by omega
  have z2:(i:Int) < n:=by omega
  have z3:((i:Int)+1).toNat=i+1:=by omega
  have z4:(0:Int)<=(i:Int)+1:=by omega
  have z5:IntKind.i64.wrap ((x:Int)+(y:Int))=(x:Int)+(y:Int):=by rw[IntKind.wrap_i64];omega
  have f:w.drew.cell? ⟨g,0,none⟩=some (.slice (some ⟨G,0,none⟩) n C):=cg
  have m:w.drew.cell? ⟨G,i,none⟩=some (.slice (some ⟨p.b,0,none⟩) x p.c):=I
  have j:w.drew.cell? ⟨G,i+1,none⟩=some (.slice (some ⟨d.b,0,none⟩) y d.c):=r;clear A hs s z hln;go_enter Tryz.func204,Tryz.ntmps204;go_wp2
  have q:Tryz.prog.underlying 146=some (.slice 188):=by kernel_rfl
  have u:i < n:=hi;refine bR (S:=fun w'=>w'.cell? ⟨g,0,none⟩=some (.slice (some ⟨G,0,none⟩) n C)/\w'.cell? ⟨G,i,none⟩=some (.slice (some ⟨p.b,0,none⟩) x p.c)/\w'.cell? ⟨G,i+1,none⟩=some (.slice (some ⟨d.b,0,none⟩) y d.c)) (by kernel_rfl) ⟨f,m,j⟩ ?_
  have hS:=(show _/\_/\_ from⟨f,m,j⟩)
  refine ay 0 (some 5) (.int .i64 i) (by kernel_rfl) (fun _ _=>by kernel_rfl) (fun _ _ _ h=>h) hS ?_
  refine jh 1 (some 6) (.bool (decide ((0:Int)<=(i:Int)))) (.bool true) (by rw[decide_eq_true J]) (by kernel_rfl) (fun _ _=>by kernel_rfl) (fun _ _ _ h=>h) hS ?_
  refine ay 2 (some 7) (.bool true) (by kernel_rfl) (fun _ _=>by kernel_rfl) (fun _ _ _ h=>h) hS ?_
  refine ay 3 (some 8) (.int .i64 i) (by kernel_rfl) (fun _ _=>by kernel_rfl) (fun _ _ _ h=>h) hS ?_
  refine jh 4 (some 9) (.int .i64 (IntKind.i64.wrap ((i:Int)+1))) (.int .i64 ((i:Int)+1)) (by rw[E]) (by kernel_rfl) (fun _ _=>by kernel_rfl) (fun _ _ _ h=>h) hS ?_
  refine ay 5 (some 10) (.pointer (some ⟨g,0,none⟩)) (by kernel_rfl) (fun _ _=>by kernel_rfl) (fun _ _ _ h=>h) hS ?_
  refine ay 6 (some 11) (.pointer (some ⟨g,0,none⟩)) (by kernel_rfl) (fun _ _=>by kernel_rfl) (fun _ _ _ h=>h) hS ?_
  refine ay 7 (some 12) (.pointer (some ⟨g,0,none⟩)) (by kernel_rfl) (fun _ _=>by kernel_rfl) (fun _ _ _ h=>h) hS ?_
  refine aQ 8 (some 13) (.slice (some ⟨G,0,none⟩) n C) 146 12 (g) (0) (by kernel_rfl) (by kernel_rfl) (by kernel_rfl) (fun w' h=>gE h.1) (fun _ _ _ h=>h) hS ?_
  refine ay 9 (some 14) (.int .i64 n) (by kernel_rfl) (fun _ _=>by kernel_rfl) (fun _ _ _ h=>h) hS ?_
  refine jh 10 (some 15) (.bool (decide ((i:Int)+1 < (n:Int)))) (.bool true) (by rw[decide_eq_true (by omega)]) (by kernel_rfl) (fun _ _=>by kernel_rfl) (fun _ _ _ h=>h) hS ?_
  refine ay 11 (some 16) (.bool true) (by kernel_rfl) (fun _ _=>by kernel_rfl) (fun _ _ _ h=>h) hS ?_
  refine ay 12 (some 17) (.bool true) (by kernel_rfl) (fun _ _=>by kernel_rfl) (fun _ _ _ h=>h) hS ?_
  refine ay 13 (some 18) (.pointer (some ⟨g,0,none⟩)) (by kernel_rfl) (fun _ _=>by kernel_rfl) (fun _ _ _ h=>h) hS ?_
  refine ay 14 (some 19) (.pointer (some ⟨g,0,none⟩)) (by kernel_rfl) (fun _ _=>by kernel_rfl) (fun _ _ _ h=>h) hS ?_
  refine ay 15 (some 20) (.pointer (some ⟨g,0,none⟩)) (by kernel_rfl) (fun _ _=>by kernel_rfl) (fun _ _ _ h=>h) hS ?_
  refine aQ 16 (some 21) (.slice (some ⟨G,0,none⟩) n C) 146 20 (g) (0) (by kernel_rfl) (by kernel_rfl) (by kernel_rfl) (fun w' h=>gE h.1) (fun _ _ _ h=>h) hS ?_
  refine ay 17 (some 22) (.int .i64 i) (by kernel_rfl) (fun _ _=>by kernel_rfl) (fun _ _ _ h=>h) hS ?_
  refine ay 18 (some 23) (.pointer (some ⟨G,i,none⟩)) (by kernel_rfl) (fun _ _=>eO (x:=21) (y:=22) (n:=n) (c:=C) (by kernel_rfl) q (by kernel_rfl) (by kernel_rfl) (rfl) (u)) (fun _ _ _ h=>h) hS ?_
  refine aQ 19 (some 24) (.slice (some ⟨p.b,0,none⟩) x p.c) 188 23 (G) (i) (by kernel_rfl) (by kernel_rfl) (by kernel_rfl) (fun w' h=>qP h.2.1) (fun _ _ _ h=>h) hS ?_
  refine ay 20 (some 25) (.int .i64 x) (by kernel_rfl) (fun _ _=>by kernel_rfl) (fun _ _ _ h=>h) hS ?_
  refine ay 21 (some 26) (.pointer (some ⟨g,0,none⟩)) (by kernel_rfl) (fun _ _=>by kernel_rfl) (fun _ _ _ h=>h) hS ?_
  refine ay 22 (some 27) (.pointer (some ⟨g,0,none⟩)) (by kernel_rfl) (fun _ _=>by kernel_rfl) (fun _ _ _ h=>h) hS ?_
  refine ay 23 (some 28) (.pointer (some ⟨g,0,none⟩)) (by kernel_rfl) (fun _ _=>by kernel_rfl) (fun _ _ _ h=>h) hS ?_
  refine aQ 24 (some 29) (.slice (some ⟨G,0,none⟩) n C) 146 28 (g) (0) (by kernel_rfl) (by kernel_rfl) (by kernel_rfl) (fun w' h=>gE h.1) (fun _ _ _ h=>h) hS ?_
  refine ay 25 (some 30) (.int .i64 i) (by kernel_rfl) (fun _ _=>by kernel_rfl) (fun _ _ _ h=>h) hS ?_
  refine jh 26 (some 31) (.int .i64 (IntKind.i64.wrap ((i:Int)+1))) (.int .i64 ((i:Int)+1)) (by rw[E]) (by kernel_rfl) (fun _ _=>by kernel_rfl) (fun _ _ _ h=>h) hS ?_
  refine ay 27 (some 32) (.pointer (some ⟨G,i+1,none⟩)) (by kernel_rfl) (fun _ _=>eO (x:=29) (y:=31) (n:=n) (c:=C) (by kernel_rfl) q (by kernel_rfl) (by kernel_rfl) (show ((i:Int)+1)=((i+1:Nat):Int) from by omega) (t)) (fun _ _ _ h=>h) hS ?_
  refine aQ 28 (some 33) (.slice (some ⟨d.b,0,none⟩) y d.c) 188 32 (G) (i+1) (by kernel_rfl) (by kernel_rfl) (by kernel_rfl) (fun w' h=>qP h.2.2) (fun _ _ _ h=>h) hS ?_
  refine ay 29 (some 34) (.int .i64 y) (by kernel_rfl) (fun _ _=>by kernel_rfl) (fun _ _ _ h=>h) hS ?_
  refine jh 30 (some 35) (.int .i64 (IntKind.i64.wrap ((x:Int)+(y:Int)))) (.int .i64 ((x:Int)+(y:Int))) (by rw[z5]) (by kernel_rfl) (fun _ _=>by kernel_rfl) (fun _ _ _ h=>h) hS ?_
  refine ay 31 (some 36) (.bool (decide ((x:Int)+(y:Int)<=16))) (by kernel_rfl) (fun _ _=>by kernel_rfl) (fun _ _ _ h=>h) hS ?_
  refine ay 32 (some 37) (.bool (decide ((x:Int)+(y:Int)<=16))) (by kernel_rfl) (fun _ _=>by kernel_rfl) (fun _ _ _ h=>h) hS ?_
  refine ay 33 (some 4) (.bool (decide ((x:Int)+(y:Int)<=16))) (by kernel_rfl) (fun _ _=>by kernel_rfl) (fun _ _ _ h=>h) hS ?_
  refine bM (by kernel_rfl) ?_
  simp only[Act.put,List.setIfInBounds_toArray,List.set_cons_zero,List.set_cons_succ];go_wp2;go_ret;exact⟨by rw[B.out];rfl,cy w⟩
 ·have B:Hid (jnb (ens L) i=false):=by
   show _=_
   unfold jnb;rw[o,decide_eq_false t,Bool.false_and]
  generalize hln:L.length=n at *
  have z1:¬ ((i:Int)+1 < n):=by omega
  have f:w.drew.cell? ⟨g,0,none⟩=some (.slice (some ⟨G,0,none⟩) n C):=cg;clear A hs s z hln;go_enter Tryz.func204,Tryz.ntmps204;go_wp2;refine bR (S:=fun w'=>w'.cell? ⟨g,0,none⟩=some (.slice (some ⟨G,0,none⟩) n C)) (by kernel_rfl) f ?_
  have hS:=f;refine ay 0 (some 5) (.int .i64 i) (by kernel_rfl) (fun _ _=>by kernel_rfl) (fun _ _ _ h=>h) hS ?_
  refine jh 1 (some 6) (.bool (decide ((0:Int)<=(i:Int)))) (.bool true) (by rw[decide_eq_true J]) (by kernel_rfl) (fun _ _=>by kernel_rfl) (fun _ _ _ h=>h) hS ?_
  refine ay 2 (some 7) (.bool true) (by kernel_rfl) (fun _ _=>by kernel_rfl) (fun _ _ _ h=>h) hS ?_
  refine ay 3 (some 8) (.int .i64 i) (by kernel_rfl) (fun _ _=>by kernel_rfl) (fun _ _ _ h=>h) hS ?_
  refine jh 4 (some 9) (.int .i64 (IntKind.i64.wrap ((i:Int)+1))) (.int .i64 ((i:Int)+1)) (by rw[E]) (by kernel_rfl) (fun _ _=>by kernel_rfl) (fun _ _ _ h=>h) hS ?_
  refine ay 5 (some 10) (.pointer (some ⟨g,0,none⟩)) (by kernel_rfl) (fun _ _=>by kernel_rfl) (fun _ _ _ h=>h) hS ?_
  refine ay 6 (some 11) (.pointer (some ⟨g,0,none⟩)) (by kernel_rfl) (fun _ _=>by kernel_rfl) (fun _ _ _ h=>h) hS ?_
  refine ay 7 (some 12) (.pointer (some ⟨g,0,none⟩)) (by kernel_rfl) (fun _ _=>by kernel_rfl) (fun _ _ _ h=>h) hS ?_
  refine aQ 8 (some 13) (.slice (some ⟨G,0,none⟩) n C) 146 12 (g) (0) (by kernel_rfl) (by kernel_rfl) (by kernel_rfl) (fun w' h=>gE h) (fun _ _ _ h=>h) hS ?_
  refine ay 9 (some 14) (.int .i64 n) (by kernel_rfl) (fun _ _=>by kernel_rfl) (fun _ _ _ h=>h) hS ?_
  refine jh 10 (some 15) (.bool (decide ((i:Int)+1 < (n:Int)))) (.bool false) (by rw[decide_eq_false (by omega)]) (by kernel_rfl) (fun _ _=>by kernel_rfl) (fun _ _ _ h=>h) hS ?_
  refine ay 11 (some 16) (.bool false) (by kernel_rfl) (fun _ _=>by kernel_rfl) (fun _ _ _ h=>h) hS ?_
  refine ay 12 (some 17) (.bool false) (by kernel_rfl) (fun _ _=>by kernel_rfl) (fun _ _ _ h=>h) hS ?_
  refine cI 13 (some 18) (by kernel_rfl) (fun _ _ _ h=>h) hS ?_
  refine cI 14 (some 19) (by kernel_rfl) (fun _ _ _ h=>h) hS ?_
  refine cI 15 (some 20) (by kernel_rfl) (fun _ _ _ h=>h) hS ?_
  refine cI 16 (some 21) (by kernel_rfl) (fun _ _ _ h=>h) hS ?_
  refine cI 17 (some 22) (by kernel_rfl) (fun _ _ _ h=>h) hS ?_
  refine cI 18 (some 23) (by kernel_rfl) (fun _ _ _ h=>h) hS ?_
  refine cI 19 (some 24) (by kernel_rfl) (fun _ _ _ h=>h) hS ?_
  refine cI 20 (some 25) (by kernel_rfl) (fun _ _ _ h=>h) hS ?_
  refine cI 21 (some 26) (by kernel_rfl) (fun _ _ _ h=>h) hS ?_
  refine cI 22 (some 27) (by kernel_rfl) (fun _ _ _ h=>h) hS ?_
  refine cI 23 (some 28) (by kernel_rfl) (fun _ _ _ h=>h) hS ?_
  refine cI 24 (some 29) (by kernel_rfl) (fun _ _ _ h=>h) hS ?_
  refine cI 25 (some 30) (by kernel_rfl) (fun _ _ _ h=>h) hS ?_
  refine cI 26 (some 31) (by kernel_rfl) (fun _ _ _ h=>h) hS ?_
  refine cI 27 (some 32) (by kernel_rfl) (fun _ _ _ h=>h) hS ?_
  refine cI 28 (some 33) (by kernel_rfl) (fun _ _ _ h=>h) hS ?_
  refine cI 29 (some 34) (by kernel_rfl) (fun _ _ _ h=>h) hS ?_
  refine cI 30 (some 35) (by kernel_rfl) (fun _ _ _ h=>h) hS ?_
  refine cI 31 (some 36) (by kernel_rfl) (fun _ _ _ h=>h) hS ?_
  refine ay 32 (some 37) (.bool false) (by kernel_rfl) (fun _ _=>by kernel_rfl) (fun _ _ _ h=>h) hS ?_
  refine ay 33 (some 4) (.bool false) (by kernel_rfl) (fun _ _=>by kernel_rfl) (fun _ _ _ h=>h) hS ?_
  refine bM (by kernel_rfl) ?_
  simp only[Act.put,List.setIfInBounds_toArray,List.set_cons_zero,List.set_cons_succ];go_wp2;go_ret;exact⟨by rw[B.out];rfl,cy w⟩
end
end Pg
end
section
namespace Pg
open Go.RowKit Go.Lib
section
variable {L:List Pg}{i:Nat}{p p2:Pg}{w:World}{F D:Nat->Prop}
theorem ens_jn{q:Pg}(c:L[i]?=some p)(a:L[i+1]?=some p2)(d:q.es=p.es ++ p2.es):ens ((L.set i q).take (i+1) ++ (L.set i q).drop (i+2))=jnQ (ens L) i:=by
 have b:=(List.getElem?_eq_some_iff.1 c).1;unfold jnQ;rw[eW c,eW a,<- d]
 have e1:(L.set i q).take (i+1)=L.take i ++ [q]:=by
  rw[List.take_add_one,List.take_set_of_le (Nat.le_refl _),List.getElem?_set_self b];rfl
 rw[e1,List.drop_set_of_lt (by omega)];simp[ens,List.map_take,List.map_drop]
theorem BG{g:Nat}(A:bT w F D g L)(P:L[i]?=some p)(Q:L[i+1]?=some p2)(hn:L.length<=100000000)(h0:0 < p.es.length)(hs1:p.es.length<=1000)(hs2:p2.es.length<=1000) :
  Calls Tryz.prog 205 #[.pointer (some ⟨g,0,none⟩),.int .i64 i] w fun e w'=>∃ F' L',e=.returned (.tuple #[])/\ens L'=jnQ (ens L) i/\bT w' F' D g L'/\(∀ b,F' b->F b\/w.heap.size<=b)/\Chg F w w':=by
 have hil:=(List.getElem?_eq_some_iff.1 P).1;have hil2:=(List.getElem?_eq_some_iff.1 Q).1
 have hL:L≠[]:=fun e=>by subst e;simp at hil
 obtain⟨G,C,hg,hFg,hFG,hR⟩:=A.opn hL;have ab:=A.cC p (List.mem_of_getElem? P);have B:=A.cC p2 (List.mem_of_getElem? Q);have cg:=hg.cell (i:=0) rfl;have cG:=hR.cell (i:=i) (v:=p.v) (by simp[P]);have s:=hR.cell (i:=i+1) (v:=p2.v) (by simp[Q]);have hCC:=hR.le;simp only[maxLen] at hCC;obtain⟨n,d⟩:∃ n,Hid (L.length=n):=⟨_,rfl⟩
 obtain⟨x,I⟩:∃ m,Hid (p.es.length=m):=⟨_,rfl⟩
 obtain⟨y,O⟩:∃ m,Hid (p2.es.length=m):=⟨_,rfl⟩
 simp only[Pg.v] at cG s;rw[d.out] at cg;rw[I.out] at cG;rw[O.out] at s
 have z1:(i:Int) < n:=by have:=d.out;omega
 have z2:(i:Int)+1 < n:=by have:=d.out;omega
 have w1:IntKind.i64.wrap ((i:Int)+1)=(i:Int)+1:=by rw[IntKind.wrap_i64];have:=d.out;omega
 have z3:((i:Int)+1).toNat=i+1:=by omega
 have z4:(0:Int)<=(i:Int)+1:=by omega
 have cgd:w.drew.cell? ⟨g,0,none⟩=some (.slice (some ⟨G,0,none⟩) n C):=cg
 have cGd:w.drew.cell? ⟨G,i,none⟩=some (.slice (some ⟨p.b,0,none⟩) x p.c):=cG
 have W:w.drew.cell? ⟨G,i+1,none⟩=some (.slice (some ⟨p2.b,0,none⟩) y p2.c):=s
 have J:g≠G:=fun e=>hR.fm hg e.symm
 obtain⟨K,N⟩:∃ K,Hid (K=w.drew.alloc (.cells #[.slice (some ⟨p.b,0,none⟩) x p.c,.slice (some ⟨p2.b,0,none⟩) y p2.c] 188)):=⟨_,rfl⟩
 have M:Below w.heap.size w K:=by rw[N.out];exact aA (cy w) (ae w.drew _)
 have V1:Blk K w.heap.size [.slice (some ⟨p.b,0,none⟩) x p.c,.slice (some ⟨p2.b,0,none⟩) y p2.c] 188:=by rw[N.out];exact aD w.drew _ _
 have t1:=DA V1 ((I.out▸ab.1.row).keep M) ((O.out▸B.1.row).keep M) (by have:=I.out;omega) (by have:=I.out;omega) (by have:=O.out;omega) ab.1.one B.1.one
 have r:K.cell? ⟨g,0,none⟩=_:=(M.cell (p:=⟨g,0,none⟩) (aK cg)).trans cg
 have V:K.cell? ⟨G,i,none⟩=_:=(M.cell (p:=⟨G,i,none⟩) (aK cG)).trans cG
 have f:K.cell? ⟨G,i+1,none⟩=_:=(M.cell (p:=⟨G,i+1,none⟩) (aK s)).trans s
 have hin:i < n:=by have:=d.out;omega
 have hin2:i+1 < n:=by have:=d.out;omega
 have hS1:=(show _/\_ from⟨r,f⟩)
 rw[N.out] at hS1 t1;go_enter Tryz.func205,Tryz.ntmps205;go_wp2
 have Z:Tryz.prog.underlying 146=some (.slice 188):=by kernel_rfl
 refine p9 (X:=Nat × Nat) (fun z=>[(some 4,.pointer (some ⟨g,0,none⟩)),(some 5,.pointer (some ⟨g,0,none⟩)),(some 6,.pointer (some ⟨g,0,none⟩)),(some 7,.slice (some ⟨G,0,none⟩) n C),(some 8,.int .i64 i),(some 9,.pointer (some ⟨g,0,none⟩)),(some 10,.pointer (some ⟨g,0,none⟩)),(some 11,.pointer (some ⟨g,0,none⟩)),(some 12,.slice (some ⟨G,0,none⟩) n C),(some 13,.int .i64 i),(some 14,.pointer (some ⟨G,i,none⟩)),(some 15,.slice (some ⟨p.b,0,none⟩) x p.c),(some 16,.pointer (some ⟨g,0,none⟩)),(some 17,.pointer (some ⟨g,0,none⟩)),(some 18,.pointer (some ⟨g,0,none⟩)),(some 19,.slice (some ⟨G,0,none⟩) n C),(some 20,.int .i64 i),(some 21,.int .i64 ((i:Int)+1)),(some 22,.pointer (some ⟨G,i+1,none⟩)),(some 23,.slice (some ⟨p2.b,0,none⟩) y p2.c),(some 24,.slice (some ⟨w.heap.size,0,none⟩) 2 2),(some 25,.slice (some ⟨z.1,0,none⟩) (x+y) z.2),(some 26,.pointer (some ⟨G,i,none⟩))]) (fun z w'=>∃ j,w'=j.setCell ⟨G,i,none⟩ (.slice (some ⟨z.1,0,none⟩) (x+y) z.2)/\K.heap.size<=z.1/\Rw j 185 2 z.1 (x+y) z.2 (flat p.es ++ flat p2.es)/\Below K.heap.size K j) (fun w'=>w'.cell? ⟨g,0,none⟩=some (.slice (some ⟨G,0,none⟩) n C)/\w'.cell? ⟨G,i+1,none⟩=some (.slice (some ⟨p2.b,0,none⟩) y p2.c)) (by kernel_rfl) ⟨cgd,W⟩ ?_ ?_
 ·have hS:=(show _/\_ from⟨cgd,W⟩)
  refine ay 0 (some 4) (.pointer (some ⟨g,0,none⟩)) (by kernel_rfl) (fun _ _=>by kernel_rfl) (fun _ _ _ h=>h) hS ?_
  refine ay 1 (some 5) (.pointer (some ⟨g,0,none⟩)) (by kernel_rfl) (fun _ _=>by kernel_rfl) (fun _ _ _ h=>h) hS ?_
  refine ay 2 (some 6) (.pointer (some ⟨g,0,none⟩)) (by kernel_rfl) (fun _ _=>by kernel_rfl) (fun _ _ _ h=>h) hS ?_
  refine aQ 3 (some 7) (.slice (some ⟨G,0,none⟩) n C) 146 6 (g) (0) (by kernel_rfl) (by kernel_rfl) (by kernel_rfl) (fun w' h=>gE h.1) (fun _ _ _ h=>h) hS ?_
  refine ay 4 (some 8) (.int .i64 i) (by kernel_rfl) (fun _ _=>by kernel_rfl) (fun _ _ _ h=>h) hS ?_
  refine ay 5 (some 9) (.pointer (some ⟨g,0,none⟩)) (by kernel_rfl) (fun _ _=>by kernel_rfl) (fun _ _ _ h=>h) hS ?_
  refine ay 6 (some 10) (.pointer (some ⟨g,0,none⟩)) (by kernel_rfl) (fun _ _=>by kernel_rfl) (fun _ _ _ h=>h) hS ?_
  refine ay 7 (some 11) (.pointer (some ⟨g,0,none⟩)) (by kernel_rfl) (fun _ _=>by kernel_rfl) (fun _ _ _ h=>h) hS ?_
  refine aQ 8 (some 12) (.slice (some ⟨G,0,none⟩) n C) 146 11 (g) (0) (by kernel_rfl) (by kernel_rfl) (by kernel_rfl) (fun w' h=>gE h.1) (fun _ _ _ h=>h) hS ?_
  refine ay 9 (some 13) (.int .i64 i) (by kernel_rfl) (fun _ _=>by kernel_rfl) (fun _ _ _ h=>h) hS ?_
  refine ay 10 (some 14) (.pointer (some ⟨G,i,none⟩)) (by kernel_rfl) (fun _ _=>eO (x:=12) (y:=13) (n:=n) (c:=C) (by kernel_rfl) Z (by kernel_rfl) (by kernel_rfl) (rfl) (hin)) (fun _ _ _ h=>h) hS ?_
  refine ay 12 (some 16) (.pointer (some ⟨g,0,none⟩)) (by kernel_rfl) (fun _ _=>by kernel_rfl) (fun _ _ _ h=>h) hS ?_
  refine ay 13 (some 17) (.pointer (some ⟨g,0,none⟩)) (by kernel_rfl) (fun _ _=>by kernel_rfl) (fun _ _ _ h=>h) hS ?_
  refine ay 14 (some 18) (.pointer (some ⟨g,0,none⟩)) (by kernel_rfl) (fun _ _=>by kernel_rfl) (fun _ _ _ h=>h) hS ?_
  refine aQ 15 (some 19) (.slice (some ⟨G,0,none⟩) n C) 146 18 (g) (0) (by kernel_rfl) (by kernel_rfl) (by kernel_rfl) (fun w' h=>gE h.1) (fun _ _ _ h=>h) hS ?_
  refine ay 16 (some 20) (.int .i64 i) (by kernel_rfl) (fun _ _=>by kernel_rfl) (fun _ _ _ h=>h) hS ?_
  refine jh 17 (some 21) (.int .i64 (IntKind.i64.wrap ((i:Int)+1))) (.int .i64 ((i:Int)+1)) (by rw[w1]) (by kernel_rfl) (fun _ _=>by kernel_rfl) (fun _ _ _ h=>h) hS ?_
  refine ay 18 (some 22) (.pointer (some ⟨G,i+1,none⟩)) (by kernel_rfl) (fun _ _=>eO (x:=19) (y:=21) (n:=n) (c:=C) (by kernel_rfl) Z (by kernel_rfl) (by kernel_rfl) (show ((i:Int)+1)=((i+1:Nat):Int) from by omega) (hin2)) (fun _ _ _ h=>h) hS ?_
  refine aQ 19 (some 23) (.slice (some ⟨p2.b,0,none⟩) y p2.c) 188 22 (G) (i+1) (by kernel_rfl) (by kernel_rfl) (by kernel_rfl) (fun w' h=>qP h.2) (fun _ _ _ h=>h) hS ?_
  refine aM [11] (by kernel_rfl) (by simp) ?_
  refine bG 11 (some 15) (.slice (some ⟨p.b,0,none⟩) x p.c) _ (by kernel_rfl) (jj 14 (by kernel_rfl) (by kernel_rfl) (qP cGd)) hS ?_ aZ;refine aM [20] (by kernel_rfl) (by simp) ?_
  refine bG 20 (some 24) (.slice (some ⟨w.heap.size,0,none⟩) 2 2) _ (by kernel_rfl) (Cz (x:=15) (y:=23) (by kernel_rfl) (by kernel_rfl) (by kernel_rfl)) hS1 ?_ aZ;refine bQ 21 (some 25) 235 #[.slice (some ⟨w.heap.size,0,none⟩) 2 2] (by kernel_rfl) (by kernel_rfl) t1 ?_
  rintro e' j ⟨t,c2,rfl,o,R2,U⟩;rw[<- N.out] at U o
  have aa:j.cell? ⟨g,0,none⟩=_:=(U.cell (p:=⟨g,0,none⟩) (aK r)).trans r
  have cGi2:j.cell? ⟨G,i,none⟩=_:=(U.cell (p:=⟨G,i,none⟩) (aK V)).trans V
  have H:j.cell? ⟨G,i+1,none⟩=_:=(U.cell (p:=⟨G,i+1,none⟩) (aK f)).trans f
  have fG2:j.frozen? ⟨G,i,none⟩=false:=((hR.keep M).keep U).free i;refine⟨_,rfl,⟨aa,H⟩,?_⟩;replace hS:=(show _/\_ from⟨aa,H⟩)
  refine ay 22 (some 26) (.pointer (some ⟨G,i,none⟩)) (by kernel_rfl) (fun _ _=>eO (x:=7) (y:=8) (n:=n) (c:=C) (by kernel_rfl) Z (by kernel_rfl) (by kernel_rfl) (rfl) (hin)) (fun _ _ _ h=>h) hS ?_
  refine aM [23] (by kernel_rfl) (by simp) ?_
  refine dw 23 (j.setCell ⟨G,i,none⟩ (.slice (some ⟨t,0,none⟩) (x+y) c2)) (by kernel_rfl) (kZ 26 25 (by kernel_rfl) (by kernel_rfl) (by kernel_rfl) cGi2 fG2) ⟨bX J aa,AO (by omega) H⟩ ?_ aZ;refine bM (by kernel_rfl) ?_
  exact⟨(t,c2),by kernel_rfl,j,rfl,o,R2,U⟩
 rintro⟨t,c2⟩ w' ⟨j,rfl,o,R2,U⟩;dsimp only at o R2;simp only[jq,Act.put,List.setIfInBounds_toArray,List.set_cons_zero,List.set_cons_succ]
 have R:Below w.heap.size w j:=aA M U;obtain⟨q,hq⟩:∃ q:Pg,Hid (q=⟨t,c2,p.es ++ p2.es⟩):=⟨_,rfl⟩
 have hlen:(p.es ++ p2.es).length=x+y:=by rw[List.length_append,I.out,O.out]
 have hA':PgA j D q:=by
  rw[hq.out];refine⟨?_,fun e he=>?_⟩
  ·show Rw j _ 2 t (p.es ++ p2.es).length c2 _
   rw[hlen,eA];exact R2
  ·rcases List.mem_append.1 he with h | h
   ·exact(ab.1.dP e h).keep R
   ·exact(B.1.dP e h).keep R
 have hv':q.v=.slice (some ⟨t,0,none⟩) (x+y) c2:=by rw[hq.out];simp only[Pg.v];rw[hlen]
 have hqb:q.b=t:=by rw[hq.out]
 have hqe:q.es=p.es ++ p2.es:=by rw[hq.out]
 obtain⟨Y,C3⟩:=A.put (p':=q) (D':=D) hg hFg hFG hR P (Chg.of R) (.inr (by rw[hqb];exact Nat.le_trans M.size o)) hA' (fun _ _ h=>h);rw[hv',hqb] at Y;rw[hv'] at C3
 have hF3:∀ b,((F b/\b≠p.b)\/b=t)->F b\/w.heap.size<=b:=fun b h=>h.imp (fun h=>h.1) (fun h=>by rw[h];exact Nat.le_trans M.size o)
 have l:=(hg.keep R).off J (i:=i) (.slice (some ⟨t,0,none⟩) (x+y) c2);generalize (j.setCell ⟨G,i,none⟩ (.slice (some ⟨t,0,none⟩) (x+y) c2))=W3 at *;generalize hF3d:(fun x=>(F x/\x≠p.b)\/x=t)=F3 at Y
 have E:∀ b,F3 b->F b\/w.heap.size<=b:=fun b h=>hF3 b (by rw[<- hF3d] at h;exact h)
 obtain⟨G2,D3,hg3,hFg3,T,hR3⟩:=Y.opn (by simp[hL]);obtain⟨rfl,rfl⟩:G2=G/\D3=C:=by
  have:=(hg3.eq l).1;simp at this;exact⟨this.1,this.2⟩
 have cg3:W3.cell? ⟨g,0,none⟩=some (.slice (some ⟨G2,0,none⟩) n D3):=by
  have:=l.cell (i:=0) rfl;rwa [d.out] at this
 have S:=hR3;rw[List.length_set,d.out] at S;have t4:=delP (i:=i+1) S (by have:=d.out;omega) (uY _);rw[show ((i+1:Nat):Int)=(i:Int)+1 by omega,show (i:Int)+1+1=(i:Int)+2 by omega] at t4
 have w2':IntKind.i64.wrap ((i:Int)+2)=(i:Int)+2:=by rw[IntKind.wrap_i64];have:=d.out;omega
 go_wp2_with (go_at_call 203;refine t4.mono ?_;rintro e' w5 ⟨rfl,R5,C5⟩;have cg5:w5.cell? ⟨g,0,none⟩=_:=(World.cell?_of_block (a:=⟨g,0,none⟩) (C5.same g (aK cg3) J)).trans cg3;have fg5:w5.frozen? ⟨g,0,none⟩=false:=(l.chg C5 J).free 0);go_end0
 have u:((L.set i q).take (i+1) ++ (L.set i q).drop (i+2)).Sublist (L.set i q):=by
  have h:=List.Sublist.append (List.Sublist.refl ((L.set i q).take (i+1))) (List.drop_sublist 1 ((L.set i q).drop (i+1)));rw[List.drop_drop,List.take_append_drop] at h;exact h
 obtain⟨A6,C6⟩:=kM (w:=W3) (w1:=w5) (F:=F3) (D:=D) (g:=g) (G:=G2) (G':=G2) (C':=D3) (n:=n - 1) (L':=(L.set i q).take (i+1) ++ (L.set i q).drop (i+2))
  (fun p P=>Y.cC p (u.mem P)) (Y.apart.sublist (u.map _)) Y.kind l hFg3 T (fun e=>J e.symm) C5 (fun p P=>(Y.cC p (u.mem P)).1.fl hR3)
  (by simp;have:=d.out;omega) (by simpa[List.map_take,List.map_drop] using R5)
 refine⟨_,_,rfl,ens_jn P Q hqe,A6,fun b hb=>?_,C3.trans C6 fun b hb h=>(E b h).resolve_right (by omega)⟩;rcases hb with⟨h,_⟩ | rfl
 ·exact E b h
 ·exact E _ T
end
end Pg
end
section
namespace Pg
open Go.RowKit Go.Lib
def rmQ (P:List (List En)) (i q:Nat):List (List En) :=
 let es:=(P.getD i []).take q ++ (P.getD i []).drop (q+1)
 if es=[] then P.take i ++ P.drop (i+1)
 else
  let P1:=P.set i es
  if jnb P1 i then jnQ P1 i else if 1<=i/\jnb P1 (i - 1) then jnQ P1 (i - 1) else P1
def ik (P:List (List En)) (k:List Int):List (List En) :=
 if has P k then rmQ P (pgi P k) (plc (kys (P.getD (pgi P k) [])) k) else P
theorem Eu (es:List En) (q:Nat):(flat es).take (q * 2) ++ (flat es).drop ((q+1) * 2)=flat (es.take q ++ es.drop (q+1)):=by
 rw[iH,iJ,eA]
theorem uI {w:World} {F D:Nat->Prop} {g i q:Nat} {L:List Pg} {p:Pg} (A:bT w F D g L) (hi:L[i]?=some p) (hq:q < p.es.length) (hs:∀ es∈ens L,es.length<=32) (hf:∀ es∈ens L,es≠[]) (hn:L.length<=100000000) :
  Calls Tryz.prog 166 #[.pointer (some ⟨g,0,none⟩),.int .i64 i,.int .i64 q] w fun e' w'=>∃ F' L',e'=.returned (.tuple #[])/\ens L'=rmQ (ens L) i q/\bT w' F' D g L'/\(∀ b,F' b->F b\/w.heap.size<=b)/\Chg F w w':=by
 have hil:=(List.getElem?_eq_some_iff.1 hi).1
 have hL:L≠[]:=fun e=>by subst e;simp at hil
 obtain⟨G,C,hg,hFg,hFG,hR⟩:=A.opn hL;have M:=A.cC p (List.mem_of_getElem? hi);have h2:=hs p.es (List.mem_map.2 ⟨p,List.mem_of_getElem? hi,rfl⟩);have cg:=hg.cell (i:=0) rfl;have cG:=hR.cell (i:=i) (v:=p.v) (by simp[hi]);obtain⟨n,u⟩:∃ n,Hid (L.length=n):=⟨_,rfl⟩
 obtain⟨m,I⟩:∃ m,Hid (p.es.length=m):=⟨_,rfl⟩
 simp only[Pg.v] at cG;rw[u.out] at cg;rw[I.out] at cG
 have Z:w.drew.cell? ⟨g,0,none⟩=some (.slice (some ⟨G,0,none⟩) n C):=cg
 have cGd:w.drew.cell? ⟨G,i,none⟩=some (.slice (some ⟨p.b,0,none⟩) m p.c):=cG
 have H:g≠G:=fun e=>hR.fm hg e.symm
 have ng:g≠p.b:=fun e=>M.1.fm hg e.symm
 have nG:G≠p.b:=fun e=>M.1.fl hR e.symm
 have hin:i < n:=by have:=u.out;omega
 have w1:IntKind.i64.wrap ((q:Int)+1)=(q:Int)+1:=by rw[IntKind.wrap_i64];omega
 have t1:=delE (i:=q) M.1.row.drew hq M.1.one;rw[I.out] at t1;go_enter Tryz.func166,Tryz.ntmps166;go_wp2
 have hpp:Tryz.prog.underlying 146=some (.slice 188):=by kernel_rfl
 refine p9 (X:=Unit) (fun _=>[(some 6,.pointer (some ⟨g,0,none⟩)),(some 7,.pointer (some ⟨g,0,none⟩)),(some 8,.pointer (some ⟨g,0,none⟩)),(some 9,.slice (some ⟨G,0,none⟩) n C),(some 10,.int .i64 i),(some 11,.pointer (some ⟨g,0,none⟩)),(some 12,.pointer (some ⟨g,0,none⟩)),(some 13,.pointer (some ⟨g,0,none⟩)),(some 14,.slice (some ⟨G,0,none⟩) n C),(some 15,.int .i64 i),(some 16,.pointer (some ⟨G,i,none⟩)),(some 17,.slice (some ⟨p.b,0,none⟩) m p.c),(some 18,.int .i64 q),(some 19,.int .i64 q),(some 20,.int .i64 ((q:Int)+1)),(some 21,.slice (some ⟨p.b,0,none⟩) (m - 1) p.c),(some 22,.pointer (some ⟨G,i,none⟩))]) (fun _ w'=>∃ t,w'=t.setCell ⟨G,i,none⟩ (.slice (some ⟨p.b,0,none⟩) (m - 1) p.c)/\Rw t 185 2 p.b (m - 1) p.c ((flat p.es).take (q * 2) ++ (flat p.es).drop ((q+1) * 2))/\Chg (·=p.b) w.drew t) (fun w'=>w'.cell? ⟨g,0,none⟩=some (.slice (some ⟨G,0,none⟩) n C)) (by kernel_rfl) Z ?_ ?_
 ·have hS:=Z;refine ay 0 (some 6) (.pointer (some ⟨g,0,none⟩)) (by kernel_rfl) (fun _ _=>by kernel_rfl) (fun _ _ _ h=>h) hS ?_
  refine ay 1 (some 7) (.pointer (some ⟨g,0,none⟩)) (by kernel_rfl) (fun _ _=>by kernel_rfl) (fun _ _ _ h=>h) hS ?_
  refine ay 2 (some 8) (.pointer (some ⟨g,0,none⟩)) (by kernel_rfl) (fun _ _=>by kernel_rfl) (fun _ _ _ h=>h) hS ?_
  refine aQ 3 (some 9) (.slice (some ⟨G,0,none⟩) n C) 146 8 (g) (0) (by kernel_rfl) (by kernel_rfl) (by kernel_rfl) (fun w' h=>gE h) (fun _ _ _ h=>h) hS ?_
  refine ay 4 (some 10) (.int .i64 i) (by kernel_rfl) (fun _ _=>by kernel_rfl) (fun _ _ _ h=>h) hS ?_
  refine ay 5 (some 11) (.pointer (some ⟨g,0,none⟩)) (by kernel_rfl) (fun _ _=>by kernel_rfl) (fun _ _ _ h=>h) hS ?_
  refine ay 6 (some 12) (.pointer (some ⟨g,0,none⟩)) (by kernel_rfl) (fun _ _=>by kernel_rfl) (fun _ _ _ h=>h) hS ?_
  refine ay 7 (some 13) (.pointer (some ⟨g,0,none⟩)) (by kernel_rfl) (fun _ _=>by kernel_rfl) (fun _ _ _ h=>h) hS ?_
  refine aQ 8 (some 14) (.slice (some ⟨G,0,none⟩) n C) 146 13 (g) (0) (by kernel_rfl) (by kernel_rfl) (by kernel_rfl) (fun w' h=>gE h) (fun _ _ _ h=>h) hS ?_
  refine ay 9 (some 15) (.int .i64 i) (by kernel_rfl) (fun _ _=>by kernel_rfl) (fun _ _ _ h=>h) hS ?_
  refine ay 10 (some 16) (.pointer (some ⟨G,i,none⟩)) (by kernel_rfl) (fun _ _=>eO (x:=14) (y:=15) (n:=n) (c:=C) (by kernel_rfl) hpp (by kernel_rfl) (by kernel_rfl) (rfl) (hin)) (fun _ _ _ h=>h) hS ?_
  refine ay 12 (some 18) (.int .i64 q) (by kernel_rfl) (fun _ _=>by kernel_rfl) (fun _ _ _ h=>h) hS ?_
  refine ay 13 (some 19) (.int .i64 q) (by kernel_rfl) (fun _ _=>by kernel_rfl) (fun _ _ _ h=>h) hS ?_
  refine jh 14 (some 20) (.int .i64 (IntKind.i64.wrap ((q:Int)+1))) (.int .i64 ((q:Int)+1)) (by rw[w1]) (by kernel_rfl) (fun _ _=>by kernel_rfl) (fun _ _ _ h=>h) hS ?_
  refine aM [11] (by kernel_rfl) (by simp) ?_
  refine bG 11 (some 17) (.slice (some ⟨p.b,0,none⟩) m p.c) _ (by kernel_rfl) (jj 16 (by kernel_rfl) (by kernel_rfl) (qP cGd)) hS ?_ aZ;refine bQ 15 (some 21) 202 #[.slice (some ⟨p.b,0,none⟩) m p.c,.int .i64 q,.int .i64 ((q:Int)+1)] (by kernel_rfl) (by kernel_rfl) t1 ?_
  rintro e' t ⟨rfl,R2,C2⟩
  have N:t.cell? ⟨g,0,none⟩=_:=(World.cell?_of_block (a:=⟨g,0,none⟩) (C2.same g (aK Z) ng)).trans Z
  have cG2:t.cell? ⟨G,i,none⟩=_:=(World.cell?_of_block (a:=⟨G,i,none⟩) (C2.same _ (aK cGd) nG)).trans cGd
  have fG2:t.frozen? ⟨G,i,none⟩=false:=(hR.drew.chg C2 nG).free i;refine⟨_,rfl,N,?_⟩;replace hS:=N;refine ay 16 (some 22) (.pointer (some ⟨G,i,none⟩)) (by kernel_rfl) (fun _ _=>eO (x:=9) (y:=10) (n:=n) (c:=C) (by kernel_rfl) hpp (by kernel_rfl) (by kernel_rfl) (rfl) (hin)) (fun _ _ _ h=>h) hS ?_
  refine aM [17] (by kernel_rfl) (by simp) ?_
  refine dw 17 (t.setCell ⟨G,i,none⟩ (.slice (some ⟨p.b,0,none⟩) (m - 1) p.c)) (by kernel_rfl) (kZ 22 21 (by kernel_rfl) (by kernel_rfl) (by kernel_rfl) cG2 fG2) (bX H N) ?_ aZ;refine bM (by kernel_rfl) ?_
  exact⟨(),by kernel_rfl,t,rfl,R2,C2⟩
 rintro - w' ⟨t,rfl,R2,C2⟩;simp only[jq,Act.put,List.setIfInBounds_toArray,List.set_cons_zero,List.set_cons_succ]
 have T:Chg (·=p.b) w t:=(Chg.of (F:=(·=p.b)) (cy w)).trans C2 (fun _ _ h=>h);obtain⟨p',hp'⟩:∃ p':Pg,Hid (p'=⟨p.b,p.c,p.es.take q ++ p.es.drop (q+1)⟩):=⟨_,rfl⟩
 have hlen:(p.es.take q ++ p.es.drop (q+1)).length=m - 1:=by have:=I.out;simp;omega
 have hA':PgA t D p':=by
  rw[hp'.out];refine⟨?_,fun e he=>?_⟩
  ·show Rw t _ 2 p.b (p.es.take q ++ p.es.drop (q+1)).length p.c _
   rw[hlen];exact R2.to (Eu p.es q)
  ·have he':e∈p.es:=by
    rcases List.mem_append.1 he with h | h
    ·exact List.mem_of_mem_take h
    ·exact List.mem_of_mem_drop h
   refine(M.1.dP e he').off fun b hb hk=>T.same b hb fun f=>?_
   subst f;obtain⟨cs,k⟩:=hk;obtain⟨ds,k'⟩:=M.1.row.kind;exact eM k k' (by decide) rfl
 have hv':p'.v=.slice (some ⟨p.b,0,none⟩) (m - 1) p.c:=by rw[hp'.out];simp only[Pg.v];rw[hlen]
 have hb':p'.b=p.b:=by rw[hp'.out]
 have he':p'.es=p.es.take q ++ p.es.drop (q+1):=by rw[hp'.out]
 obtain⟨z,Y⟩:=A.put (p':=p') (D':=D) hg hFg hFG hR hi T (.inl hb') hA' (fun _ _ h=>h);rw[hv',hb'] at z;rw[hv'] at Y
 have hF3:∀ b,((F b/\b≠p.b)\/b=p.b)->F b:=fun b h=>h.elim (fun h=>h.1) (fun h=>by rw[h];exact M.2)
 have N:t.cell? ⟨g,0,none⟩=_:=(World.cell?_of_block (a:=⟨g,0,none⟩) (T.same g (aK cg) ng)).trans cg
 have cG2:t.cell? ⟨G,i,none⟩=_:=(World.cell?_of_block (a:=⟨G,i,none⟩) (T.same _ (aK cG) nG)).trans cG
 have cg3:(t.setCell ⟨G,i,none⟩ (.slice (some ⟨p.b,0,none⟩) (m - 1) p.c)).cell? ⟨g,0,none⟩=some (.slice (some ⟨G,0,none⟩) n C):=bX H N
 have cG3:(t.setCell ⟨G,i,none⟩ (.slice (some ⟨p.b,0,none⟩) (m - 1) p.c)).cell? ⟨G,i,none⟩=some (.slice (some ⟨p.b,0,none⟩) (m - 1) p.c):=World.cell?_setCell_same' _ _ _ (by rw[cG2];rfl);have U:=(hg.chg T ng).off H (i:=i) (.slice (some ⟨p.b,0,none⟩) (m - 1) p.c);generalize (t.setCell ⟨G,i,none⟩ (.slice (some ⟨p.b,0,none⟩) (m - 1) p.c))=W3 at *;generalize hF3d:(fun x=>(F x/\x≠p.b)\/x=p.b)=F3 at z
 have d:∀ b,F3 b->F b:=fun b h=>hF3 b (by rw[<- hF3d] at h;exact h)
 have hi3:(L.set i p')[i]?=some p':=by rw[List.getElem?_set_self hil]
 have hE3:ens (L.set i p')=(ens L).set i (p.es.take q ++ p.es.drop (q+1)):=by rw[qg,he']
 have aa:∀ es∈ens (L.set i p'),es.length<=32:=fun es he=>by
  rw[hE3] at he;rcases List.mem_or_eq_of_mem_set he with h | h
  ·exact hs es h
  ·rw[h,hlen];have:=I.out;omega
 have B:(L.set i p').length=n:=by rw[List.length_set];exact u.out
 have hX:p.es.take q ++ p.es.drop (q+1)=[]\/p.es.take q ++ p.es.drop (q+1)≠[]:=Classical.em _
 have l:Hid (rmQ (ens L) i q=if p.es.take q ++ p.es.drop (q+1)=[] then (ens L).take i ++ (ens L).drop (i+1) else if jnb (ens (L.set i p')) i then jnQ (ens (L.set i p')) i else if 1<=i/\jnb (ens (L.set i p')) (i - 1) then jnQ (ens (L.set i p')) (i - 1) else ens (L.set i p')):=by
  show _=_
  unfold rmQ;rw[eW hi,hE3]
 rcases hX with hX | hX
 ·have hm1:m=1:=by rw[hX] at hlen; simp at hlen; have:=I.out; omega
  obtain⟨G2,D3,hg3,hFg3,hFG3,hR3⟩:=z.opn (by simp[hL]);obtain⟨rfl,rfl⟩:G2=G/\D3=C:=by
   have:=(hg3.eq U).1;simp at this;exact⟨this.1,this.2⟩
  have hR3':=hR3;rw[B] at hR3';have t4:=delP (i:=i) hR3' (by omega) (uY _)
  have w3:IntKind.i64.wrap ((i:Int)+1)=(i:Int)+1:=by rw[IntKind.wrap_i64];have:=u.out;omega
  have cG3':W3.cell? ⟨G2,i,none⟩=some (.slice (some ⟨p.b,0,none⟩) 0 p.c):=by rw[hm1] at cG3;exact cG3
  have z1:(i:Int) < n:=by omega
  have K:((L.set i p').take i ++ (L.set i p').drop (i+1)).Sublist (L.set i p'):=by
   have h:=List.Sublist.append (List.Sublist.refl ((L.set i p').take i)) (List.drop_sublist 1 ((L.set i p').drop i));rw[List.drop_drop,List.take_append_drop] at h;exact h
  have r:Hid (ens ((L.set i p').take i ++ (L.set i p').drop (i+1))=rmQ (ens L) i q):=by
   show _=_
   rw[l.out,if_pos hX,List.take_set_of_le (Nat.le_refl _),List.drop_set_of_lt (by omega)];simp[ens,List.map_take,List.map_drop]
  have HX:Hid _:=hX;clear hX l cG3 hm1;go_wp2_with (go_at_call 203;refine t4.mono ?_;rintro e' V ⟨rfl,R5,C5⟩;have cg5:V.cell? ⟨g,0,none⟩=_:=(World.cell?_of_block (a:=⟨g,0,none⟩) (C5.same g (aK cg3) H)).trans cg3;have fg5:V.frozen? ⟨g,0,none⟩=false:=(U.chg C5 H).free 0);go_end0;obtain⟨A6,C6⟩:=kM (w:=W3) (w1:=V) (F:=F3) (D:=D) (g:=g) (G:=G2) (G':=G2) (C':=D3) (n:=n - 1) (L':=(L.set i p').take i ++ (L.set i p').drop (i+1))
   (fun p M=>z.cC p (K.mem M)) (z.apart.sublist (K.map _)) z.kind U hFg3 hFG3 (fun e=>H e.symm) C5 (fun p M=>(z.cC p (K.mem M)).1.fl hR3)
   (by simp;have:=u.out;omega) (by simpa[List.map_take,List.map_drop] using R5)
  refine⟨_,_,rfl,r.out,A6,fun b hb=>?_,Y.trans C6 fun b _ h=>d b h⟩;rcases hb with⟨h,_⟩ | rfl
  ·exact .inl (d b h)
  ·exact .inl (d _ hFG3)
 ·have hm1:0 < m - 1:=by
   rw[<- hlen];exact List.length_pos_iff.2 hX
  obtain⟨m1,hm2⟩:∃ m1,Hid (m - 1=m1):=⟨_,rfl⟩
  rw[hm2.out] at cG3 hm1
  have z0:¬ ((m1:Int)=0):=by omega
  have z1:(i:Int) < n:=by omega
  have w3:IntKind.i64.wrap ((i:Int) - 1)=(i:Int) - 1:=by rw[IntKind.wrap_i64];omega
  have S:=l.out;rw[if_neg hX] at S
  have l:Hid _:=S;clear S
  have HX:Hid _:=hX;clear hX
  have hf3:∀ es∈ens (L.set i p'),es≠[]:=fun es he=>by
   rw[hE3] at he;rcases List.mem_or_eq_of_mem_set he with h | h
   ·exact hf es h
   ·rw[h];exact HX.out
  have E:∀ (W:World) (j:Nat),bT W F3 D g (L.set i p')->jnb (ens (L.set i p')) j=true->Calls Tryz.prog 205 #[.pointer (some ⟨g,0,none⟩),.int .i64 j] W fun e' w'=>∃ F' L',e'=.returned (.tuple #[])/\ens L'=jnQ (ens (L.set i p')) j/\bT w' F' D g L'/\(∀ b,F' b->F3 b\/W.heap.size<=b)/\Chg F3 W w':=fun W j AW hj=>by
   unfold jnb at hj;simp only[Bool.and_eq_true,decide_eq_true_eq] at hj
   have hl:j+1 < (L.set i p').length:=by have:=hj.1;simpa[ens] using this
   obtain⟨a,ha⟩:∃ a,(L.set i p')[j]?=some a:=⟨_,List.getElem?_eq_getElem (by omega)⟩
   obtain⟨c,hc⟩:∃ c,(L.set i p')[j+1]?=some c:=⟨_,List.getElem?_eq_getElem hl⟩
   have ma:a.es∈ens (L.set i p'):=List.mem_map.2 ⟨a,List.mem_of_getElem? ha,rfl⟩
   have mc:c.es∈ens (L.set i p'):=List.mem_map.2 ⟨c,List.mem_of_getElem? hc,rfl⟩;have s1:=aa _ ma;have s2:=aa _ mc;exact BG AW ha hc (by rw[B];have:=u.out;omega) (List.length_pos_iff.2 (hf3 _ ma)) (by omega) (by omega)
  have J:=BH z (i:=i) (by omega) (by rw[B];have:=u.out;omega) (fun es he=>by have:=aa es he;omega);by_cases Q:jnb (ens (L.set i p')) i=true
  ·have r:Hid (rmQ (ens L) i q=jnQ (ens (L.set i p')) i):=by show _=_; rw[l.out,if_pos Q]
   have t5:∀ W,Below W3.heap.size W3 W->_:=fun W s=>E W i (z.keep s) Q
   rw[Q] at J;clear E Q l
   go_wp2_with (first
    | (go_at_call 204;refine J.mono ?_;rintro e' V ⟨rfl,o⟩;have t6:=t5 V o;clear t5 J)
    | (go_at_call 205;refine t6.mono ?_;rintro e' w6 ⟨F6,L6,rfl,hE6,A6,hF6,C6⟩))
   go_end0;refine⟨F6,L6,rfl,hE6.trans r.out.symm,A6,fun b hb=>?_,(Y.trans (Chg.of (F:=F) o) (fun _ _ h=>h)).trans C6 fun b _ h=>d b h⟩;rcases hF6 b hb with h | h
   ·exact .inl (d b h)
   ·exact .inr (by have:=Y.size;have:=o.size;omega)
  ·have O:jnb (ens (L.set i p')) i=false:=by simpa using Q
   by_cases hi0:i=0
   ·have r:Hid (rmQ (ens L) i q=ens (L.set i p')):=by show _=_; rw[l.out,if_neg Q,if_neg (by omega)]
    rw[O] at J
    have tn:∀ W:World,Calls Tryz.prog 204 #[.pointer (some ⟨g,0,none⟩),.int .i64 (-1)] W _:=fun W=>jn_neg
    have mk:True:=trivial;clear E Q l O;subst hi0
    go_wp2_with (first
     | (go_at_call 204;clear mk;refine J.mono ?_;rintro e' V ⟨rfl,o⟩;clear J)
     | (go_at_call 204;refine(tn _).mono ?_;rintro e' w6 ⟨rfl,P⟩))
    go_end0;have s:=aA o P
    first
     | exact⟨F3,_,rfl,r.out.symm,z.keep s,fun b hb=>.inl (d b hb),Y.trans (Chg.of (F:=F) s) (fun _ _ h=>h)⟩
     | exact⟨rfl,F3,_,r.out.symm,z.keep s,fun b hb=>.inl (d b hb),Y.trans (Chg.of (F:=F) s) (fun _ _ h=>h)⟩
   ·obtain⟨j,rfl⟩:∃ j,i=j+1:=⟨i - 1,by omega⟩
    have tk:∀ W,Below W3.heap.size W3 W->Calls Tryz.prog 204 #[.pointer (some ⟨g,0,none⟩),.int .i64 j] W _:=fun W s=>BH (z.keep s) (i:=j) (by omega) (by rw[B];have:=u.out;omega) (fun es he=>by have:=aa es he;omega)
    have e1:((j+1:Nat):Int) - 1=(j:Int):=by omega
    have e2:(j:Int)+1 - 1=(j:Int):=by omega
    rw[O] at J
    have mk:True:=trivial
    have mk2:True:=trivial;by_cases h3:jnb (ens (L.set (j+1) p')) j=true
    ·have r:Hid (rmQ (ens L) (j + 1) q=jnQ (ens (L.set (j + 1) p')) j):=by show _=_; rw[l.out,if_neg Q,if_pos ⟨by omega,by simpa using h3⟩]; rfl
     have t5:∀ W,Below W3.heap.size W3 W->_:=fun W s=>E W j (z.keep s) h3
     rw[h3] at tk;clear E Q l O h3
     go_wp2_with (first
      | (go_at_call 204;clear mk;refine J.mono ?_;rintro e' V ⟨rfl,o⟩;have R:=tk V o;clear J tk)
      | (go_at_call 204;refine R.mono ?_;rintro e' w6 ⟨rfl,P⟩;have s:=aA o P;have t6:=t5 w6 s;clear t5 R)
      | (go_at_call 205;refine t6.mono ?_;rintro e' w7 ⟨F6,L6,rfl,hE6,A6,hF6,C6⟩))
     go_end0;refine⟨F6,L6,rfl,hE6.trans r.out.symm,A6,fun b hb=>?_,(Y.trans (Chg.of (F:=F) s) (fun _ _ h=>h)).trans C6 fun b _ h=>d b h⟩;rcases hF6 b hb with h | h
     ·exact .inl (d b h)
     ·exact .inr (by have:=Y.size;have:=s.size;omega)
    ·have h3':jnb (ens (L.set (j + 1) p')) j=false:=by simpa using h3
     have r:Hid (rmQ (ens L) (j+1) q=ens (L.set (j+1) p')):=by show _=_;rw[l.out,if_neg Q,if_neg (fun h=>h3 (by simpa using h.2))]
     rw[h3'] at tk;clear E Q l O h3 h3'
     go_wp2_with (first
      | (go_at_call 204;clear mk;refine J.mono ?_;rintro e' V ⟨rfl,o⟩;have R:=tk V o;clear J tk)
      | (go_at_call 204;refine R.mono ?_;rintro e' w6 ⟨rfl,P⟩;have s:=aA o P;clear R))
     go_end0
     first
      | exact⟨F3,_,rfl,r.out.symm,z.keep s,fun b hb=>.inl (d b hb),Y.trans (Chg.of (F:=F) s) (fun _ _ h=>h)⟩
      | exact⟨rfl,F3,_,r.out.symm,z.keep s,fun b hb=>.inl (d b hb),Y.trans (Chg.of (F:=F) s) (fun _ _ h=>h)⟩
end Pg
end
section
namespace Pg
open Go.RowKit Go.Lib
theorem vu {w:World} {F D:Nat->Prop} {g:Nat} {L:List Pg} {kv:Value} {k:List Int} (A:bT w F D g L) (O:Ord (ens L)) (hs:∀ es∈ens L,es.length<=32) (hn:L.length<=100000000) (h:By w kv k) :
  Calls Tryz.prog 113 #[.pointer (some ⟨g,0,none⟩),kv] w fun e w'=>e=.returned (.bool (has (ens L) k))/\∃ F' L',ens L'=ik (ens L) k/\bT w' F' D g L'/\(∀ b,F' b->F b\/w.heap.size<=b)/\Chg F w w':=by
 by_cases hL:L=[]
 ·subst hL;have t:=nI (v:=kv) A
  have e1:has (ens []) k=false:=rfl
  have e2:Hid (ik (ens []) k=ens []):=rfl;rw[e1];have u:=(show Hid _ from A)
  clear A O hs h;go_enter Tryz.func113,Tryz.ntmps113;go_wp2_with (go_at_call 147;refine t.mono ?_;rintro o n ⟨rfl,rfl⟩);go_ret;exact⟨rfl,F,[],e2.out.symm,u.out,fun b hb=>.inl hb,Chg.refl _ _⟩
 ·obtain⟨p,x,l⟩:=ql hL k;have m:=List.mem_of_getElem? x;have E:=hs p.es (List.mem_map.2 ⟨p,m,rfl⟩);have t:=l8 A O h (by omega) x (by omega)
  have j:has (ens L) k=thr (kys p.es) k:=by
   unfold has;rw[l];have:(ens L).isEmpty=false:=by simp[ens,hL]
   simp[this]
  rw[j];by_cases f:thr (kys p.es) k=true
  ·obtain⟨e,he,C⟩:=lV f;have y:=(List.getElem?_eq_some_iff.1 he).1
   have r:Hid (ik (ens L) k=rmQ (ens L) (pgi (ens L) k) (plc (kys p.es) k)):=by
    show _=_
    unfold ik;rw[j,f,if_pos rfl,l]
   have z:∀ w',Below w.heap.size w w'->_:=fun w' c=>uI (A.keep c) x y hs O.full hn
   rw[f] at t ⊢;generalize pgi (ens L) k=i at *;generalize plc (kys p.es) k=q at *;clear A O hs h f j;go_enter Tryz.func113,Tryz.ntmps113
   go_wp2_with (first
    | (go_at_call 147;refine t.mono ?_;rintro o n ⟨rfl,c⟩;have s:=z n c;clear t z)
    | (go_at_call 166;refine s.mono ?_;rintro o G ⟨F',L',rfl,B,hA,hF,hC⟩))
   go_ret;exact⟨rfl,F',L',B.trans r.out.symm,hA,fun b hb=>(hF b hb).imp id (fun h=>Nat.le_trans c.size h),(Chg.of (F:=F) c).trans hC (fun _ _ h=>h)⟩
  ·have d:thr (kys p.es) k=false:=by simpa using f
   have r:Hid (ik (ens L) k=ens L):=by
    show _=_
    unfold ik;rw[j,d,if_neg (by decide)]
   rw[d] at t ⊢;generalize pgi (ens L) k=i at *;generalize plc (kys p.es) k=q at *;have u:=(show Hid _ from A)
   clear A O hs h f d j;go_enter Tryz.func113,Tryz.ntmps113;go_wp2_with (go_at_call 147;refine t.mono ?_;rintro o n ⟨rfl,c⟩);go_ret;exact⟨rfl,F,L,r.out.symm,u.out.keep c,fun b hb=>.inl hb,Chg.of c⟩
theorem CM {w:World}:Calls Tryz.prog 42 #[] w fun e w'=>∃ g,e=.returned (.pointer (some ⟨g,0,none⟩))/\g=w.heap.size/\bT w' (· = g) (fun _=>False) g []/\Below w.heap.size w w':=by
 go_enter Tryz.func42,Tryz.ntmps42;go_wp2;go_ret;refine⟨_,rfl,rfl,⟨⟨_,aD w [.slice none 0 0] 148,rfl,.inl ⟨rfl,rfl⟩⟩,fun p c=>by simp at c,by simp,fun b hb=>?_⟩,ae w _⟩;subst hb;exact⟨_,_,aD w [.slice none 0 0] 148,by decide⟩
end Pg
end
section
namespace Pg
open Go.RowKit Go.Lib
end Pg
end
section
namespace Pg
open Go.RowKit Go.Lib
section
variable {B l B' g n:Nat}{W W' w:World}{cs:List Value}{fn:FuncId}{tmps args lb:Array Value}{ps:Array Tmp}{assign body:Code}{I:Nat->World->Prop}{Ix:Code->Nat->World->Prop}{Ar:Nat->Array Value->Nat->World->Prop}{Rd:World->Prop}
structure Rec(B:Nat)(W W':World):Prop where
 os:W'.os=W.os
 tape:W'.tape=W.tape
 output:W'.output=W.output
 size:W.heap.size<=W'.heap.size
 same:∀ (k:Nat) (o:Obj),W.heap[k]?=some o->(k < B\/o.isCells=true)->W'.heap[k]?=some o
def St(B:Nat)(I:World->Prop):Prop:=∀ W W',I W->Rec B W W'->I W'
theorem Rec.of(h:Below W.heap.size W W'):Rec B W W':=⟨h.os,h.tape,h.output,h.size,fun k _ hk _=>(h.block k (lt_of_block hk)).trans hk⟩
theorem Rec.put{o:Obj}(h:W.heap[l]?=some o)(d:o.isCells=false)(f:B<=l)(c:Obj):Rec B W (W.putObj l c) :=
 ⟨rfl,rfl,rfl,by simp,fun k x b hx=>by
  have a:k≠l:=fun e=>by
   subst e;rw[h] at b
   cases b;rcases hx with hx | hx
   ·omega
   ·rw[d] at hx;cases hx
  exact(World.putObj_heap_other a).trans b⟩
theorem Rec.mono(h:Rec B W W')(hB:B'<=B):Rec B' W W':=⟨h.os,h.tape,h.output,h.size,fun k o hk ho=>h.same k o hk (ho.imp (fun h=>by omega) id)⟩
theorem Rec.blk(h:Rec B W W'){t:TypeId}(hb:Blk W g cs t):Blk W' g cs t:=⟨h.same g _ hb.blk (.inr rfl)⟩
theorem xW(hb:Below W.heap.size W W')(b:l < W.heap.size)(o:Obj):Below (W.putObj l o).heap.size (W.putObj l o) (W'.putObj l o):=by
 refine⟨hb.os,hb.tape,hb.output,by simpa using hb.size,fun k a=>?_⟩;simp at a;by_cases e:k=l
 ·subst e;have:=hb.size;rw[World.putObj_heap_same (by omega),World.putObj_heap_same b]
 ·rw[World.putObj_heap_other e,World.putObj_heap_other e];exact hb.block k a
structure Cel(W W':World):Prop where
 size:W.heap.size<=W'.heap.size
 same:∀ (k:Nat) (o:Obj),W.heap[k]?=some o->o.isCells=true->W'.heap[k]?=some o
theorem Rec.cel(h:Rec B W W'):Cel W W':=⟨h.size,fun k o hk ho=>h.same k o hk (.inr ho)⟩
def Safe(Tp:TypeId->Prop)(o:Obj):Prop:=∀ cs t fz,o=.cells cs t fz->¬ Tp t
theorem ye{Tp:TypeId->Prop}{r:Loop}:Safe Tp (.loop r):=fun _ _ _ e=>by cases e
theorem nQ{Tp:TypeId->Prop}{d:Option (List Deferred)}:Safe Tp (.deferred d):=fun _ _ _ e=>by cases e
structure bF(Tp:TypeId->Prop)(B:Nat)(W W':World):Prop where
 size:W.heap.size<=W'.heap.size
 same:∀ (k:Nat) (o:Obj),B<=k->W.heap[k]?=some o->Safe Tp o->W'.heap[k]?=some o
theorem bF.of{Tp:TypeId->Prop}(h:Below W.heap.size W W'):bF Tp B W W':=⟨h.size,fun k _ _ hk _=>(h.block k (lt_of_block hk)).trans hk⟩
theorem bF.trans{Tp:TypeId->Prop}{W'':World}(h:bF Tp B W W')(h':bF Tp B W' W''):bF Tp B W W'':=⟨Nat.le_trans h.size h'.size,fun k o hB hk ho=>h'.same k o hB (h.same k o hB hk ho) ho⟩
theorem bF.mono{Tp:TypeId->Prop}(h:bF Tp B W W')(hB:B<=B'):bF Tp B' W W':=⟨h.size,fun k o hk h0 ho=>h.same k o (Nat.le_trans hB hk) h0 ho⟩
theorem bF.blk{Tp:TypeId->Prop}(h:bF Tp B W W'){t:TypeId}(hb:Blk W g cs t)(hg:B<=g)(ht:¬ Tp t):Blk W' g cs t:=⟨h.same g _ hg hb.blk (fun _ _ _ e=>by cases e;exact ht)⟩
def Itr(Tp:TypeId->Prop)(gf:Nat)(lb:Array Value)(N:Nat)(Ar:Nat->Array Value->Nat->World->Prop)(Rd:World->Prop):Prop :=
 ∀ (l:Nat) (J Jx:Nat->World->Prop) (W:World),(∀ i,St W.heap.size (J i))->(∀ i,St W.heap.size (Jx i))->(∀ i V,J i V->Rd V) ->
  (∀ i args V V',i < N->J i V->W.heap.size<=V.heap.size->Below V.heap.size V V'->Ar i args V.heap.size V'->YieldAt Fence.wide 0 Tryz.prog l args V' fun e V''=>bF Tp W.heap.size V' V''/\((e=.returned (.bool true)/\J (i+1) V'')\/(e=.returned (.bool false)/\Jx (i+1) V''))) ->
  J 0 W ->
  Calls Tryz.prog gf (#[.func (.yield l) #[] #[]] ++ lb) W fun e W'=>(∃ v,e=.returned v)/\W.heap.size<=W'.heap.size/\(J N W'\/∃ i,i < N/\Jx (i+1) W')
def oY(Tp:TypeId->Prop)(B:Nat)(I:Nat->World->Prop)(Ix:Code->Nat->World->Prop)(i:Nat)(W:World):Exit->Act->World->Prop
 | .normal,_,W'=>bF Tp B W W'/\I i W'
 | .ret,_,W'=>bF Tp B W W'/\Ix .ret i W'
 | .exit id,_,W'=>bF Tp B W W'/\Ix (.exit id) i W'
 | .goto t,_,W'=>bF Tp B W W'/\Ix (.goto t) i W'
 | .panic _,_,_=>False
 | .outgrown,_,_=>False
def dm(fn:FuncId)(tmps:Array Value)(ps:Array Tmp)(assign body:Code)(dd:Nat)(st:LoopState)(pe:Option Code):Loop:={ state:=st,pending:=pe,fn,tmps,params:=ps,assign,body,defers:=dd }
structure gF(Tp:TypeId->Prop)(B l:Nat)(W W':World):Prop where
 size:W.heap.size<=W'.heap.size
 same:∀ (k:Nat) (o:Obj),B<=k->k≠l->W.heap[k]?=some o->Safe Tp o->W'.heap[k]?=some o
theorem gF.from{Tp:TypeId->Prop}{B1:Nat}(h:gF Tp B l W W')(hB:B<=B1)(hl:l < B1):bF Tp B1 W W':=⟨h.size,fun k o hk h0 ho=>h.same k o (by omega) (by omega) h0 ho⟩
theorem jw{Tp:TypeId->Prop}{i:Nat}{dd:Nat}{V:World}(z:∀ i args n V W,Ar i args n V->Cel V W->Ar i args n W)(T:∀ i,St B (I i))(G:∀ c i,St B (Ix c i))(q:B<=l)(hL:V.heap[l]?=some (.loop (dm fn tmps ps assign body dd .ready none)))(hi:I i V)(hb:Below V.heap.size V W)(X:Ar i args V.heap.size W)(O:args.size=ps.size)(x:assign.wpIn (Fence.wide.inRound l) n Tryz.prog (Exit.then (fun a1 W1=>Below W.heap.size W W1/\∀ V2 W2,I i V2->Below V2.heap.size V2 W2->Ar i args V2.heap.size W2->(∀ b,b≠l->W2.heap[b]?=W1.heap[b]?)->W2.heap.size=W1.heap.size->V2.heap.size=V.heap.size->(∃ r,W2.heap[l]?=some (.loop r))->body.wpIn (Fence.wide.inRound l) n Tryz.prog (oY Tp B I Ix (i+1) W2) a1 W2) (fun _ _ _=>False)) { tmps:=(ps.zip args).foldl (fun t (p,v)=>t.setIfInBounds p v) tmps,defers:=[] } W) :
  YieldAt Fence.wide 0 Tryz.prog l args W fun e W'=>gF Tp B l W W'/\((e=.returned (.bool true)/\I (i+1) W'/\W'.heap[l]?=some (.loop (dm fn tmps ps assign body dd .ready none)))\/(e=.returned (.bool false)/\∃ c,Ix c (i+1) W'/\W'.heap[l]?=some (.loop (dm fn tmps ps assign body dd .done (some c))))):=by
 have K:l < V.heap.size:=lt_of_block hL
 have H:W.heap[l]?=some (.loop (dm fn tmps ps assign body dd .ready none)):=(hb.block l K).trans hL;have hy:=run_yield (P:=Tryz.prog) (args:=args) H O
 have w:assign.wpIn (Fence.wide.inRound l) n Tryz.prog (Exit.then (fun Z U=>∃ w₂,(Instr.beginRound l).run Tryz.prog U=.ok () w₂/\body.wpIn (Fence.wide.inRound l) n Tryz.prog (roundPost Tryz.prog l fun e W'=>gF Tp B l W W'/\((e=.returned (.bool true)/\I (i+1) W'/\W'.heap[l]?=some (.loop (dm fn tmps ps assign body dd .ready none)))\/(e=.returned (.bool false)/\∃ c,Ix c (i+1) W'/\W'.heap[l]?=some (.loop (dm fn tmps ps assign body dd .done (some c)))))) Z w₂) (fun _ _ _=>False)) { tmps:=(ps.zip args).foldl (fun t (p,v)=>t.setIfInBounds p v) tmps,defers:=[] } W:=by
  refine wpIn_mono x ?_
  intro e a1 W1 h
  cases e with
  | normal =>
   obtain⟨u,C⟩:=h
   have D:W1.heap[l]?=some (.loop (dm fn tmps ps assign body dd .ready none)):=(u.block l (lt_of_block H)).trans H
   have A:l < W1.heap.size:=lt_of_block D;refine⟨_,run_beginRound D rfl,?_⟩
   have R:Below V.heap.size V W1:=aA hb u;have Y:=C (V.putObj l (.loop { dm fn tmps ps assign body dd .ready none with state:=.busy })) (W1.putObj l (.loop { dm fn tmps ps assign body dd .ready none with state:=.busy }))
    (T i _ _ hi (Rec.put hL rfl q _)) (xW R K _) (by simpa using z i args _ _ _ (z i args _ _ _ X (Rec.of (B:=0) u).cel) (Rec.put D rfl (Nat.zero_le _) _).cel)
    (fun b hb=>World.putObj_heap_other hb) (by simp) (by simp) ⟨_,World.putObj_heap_same A⟩
   have N:(W1.putObj l (.loop { dm fn tmps ps assign body dd .ready none with state:=.busy })).heap[l]?=some (.loop { dm fn tmps ps assign body dd .ready none with state:=.busy }):=World.putObj_heap_same A;generalize hW2:W1.putObj l (.loop { dm fn tmps ps assign body dd .ready none with state:=.busy })=W2 at *
   have L:gF Tp B l W W2:=by
    rw[<- hW2];refine⟨by simpa using u.size,fun k _ Q y M _=>?_⟩;rw[World.putObj_heap_other y];exact(u.block k (lt_of_block M)).trans M
   have fin:∀ (jump:Option Code) (s:World),bF Tp B W2 s ->
     (Instr.endRound l jump).run Tryz.prog s=.ok (.bool jump.isNone) (s.putObj l (.loop (dm fn tmps ps assign body dd (if jump.isNone then .ready else .done) jump)))/\s.heap[l]?=some (.loop { dm fn tmps ps assign body dd .ready none with state:=.busy }) /\
     (s.putObj l (.loop (dm fn tmps ps assign body dd (if jump.isNone then .ready else .done) jump))).heap[l]?=some (.loop (dm fn tmps ps assign body dd (if jump.isNone then .ready else .done) jump)) /\
     gF Tp B l W (s.putObj l (.loop (dm fn tmps ps assign body dd (if jump.isNone then .ready else .done) jump))):=fun jump s d=>by
    have a:=d.same _ _ q N ye;refine⟨run_endRound (P:=Tryz.prog) jump a,a,World.putObj_heap_same (lt_of_block a),⟨by simpa using Nat.le_trans L.size d.size,fun k o Q y M S=>?_⟩⟩;rw[World.putObj_heap_other y];exact d.same k o Q (L.same k o Q y M S) S
   refine wpIn_mono Y ?_
   intro e a3 s J
   cases e with
   | normal =>
    obtain⟨d,j⟩:=J;obtain⟨E,a,g,m⟩:=fin none s d;exact⟨_,_,E,m,.inl ⟨rfl,T _ _ _ j (Rec.put a rfl q _),g⟩⟩
   | ret =>
    obtain⟨d,j⟩:=J;obtain⟨E,a,g,m⟩:=fin (some .ret) s d;exact⟨_,_,E,m,.inr ⟨rfl,.ret,G _ _ _ _ j (Rec.put a rfl q _),g⟩⟩
   | exit id =>
    obtain⟨d,j⟩:=J;obtain⟨E,a,g,m⟩:=fin (some (.exit id)) s d;exact⟨_,_,E,m,.inr ⟨rfl,.exit id,G _ _ _ _ j (Rec.put a rfl q _),g⟩⟩
   | goto t =>
    obtain⟨d,j⟩:=J;obtain⟨E,a,g,m⟩:=fin (some (.goto t)) s d;exact⟨_,_,E,m,.inr ⟨rfl,.goto t,G _ _ _ _ j (Rec.put a rfl q _),g⟩⟩
   | panic ch=>exact J.elim
   | outgrown=>exact J.elim
  | ret=>exact h.elim
  | exit id=>exact h.elim
  | goto t=>exact h.elim
  | panic ch=>exact h.elim
  | outgrown=>exact h.elim
 exact⟨fn,_,assign,body,hy,by
  have:=roundIn_of_wpIn (F:=Fence.wide) (n:=n) (P:=Tryz.prog) (f:=fn) trivial w
  exact⟨this.1,fun c cs _=>this.2 c cs (fun _ h=>by cases h)⟩⟩
def RoundW(Tp:TypeId->Prop)(w:World)(N n:Nat)(ps:Array Tmp)(assign body:Code)(tmps:Array Value)(Ar:Nat->Array Value->Nat->World->Prop)(I:Nat->World->Prop)(Ix:Code->Nat->World->Prop):Prop :=
 ∀ (l i:Nat) (args:Array Value) (V W:World),w.heap.size<=l->l < V.heap.size->(∃ r,V.heap[l]?=some (.loop r))->i < N->I i V->Below V.heap.size V W->Ar i args V.heap.size W ->
  assign.wpIn (Fence.wide.inRound l) n Tryz.prog (Exit.then (fun a1 W1=>Below W.heap.size W W1/\∀ V2 W2,I i V2->Below V2.heap.size V2 W2->Ar i args V2.heap.size W2->(∀ b,b≠l->W2.heap[b]?=W1.heap[b]?)->W2.heap.size=W1.heap.size->V2.heap.size=V.heap.size->(∃ r,W2.heap[l]?=some (.loop r))->body.wpIn (Fence.wide.inRound l) n Tryz.prog (oY Tp w.heap.size I Ix (i+1) W2) a1 W2) (fun _ _ _=>False)) { tmps:=(ps.zip args).foldl (fun t (p,v)=>t.setIfInBounds p v) tmps,defers:=[] } W
theorem iC{Tp:TypeId->Prop}{s N:Nat}(T:Itr Tp s lb N Ar Rd){g:Operand}{Q:Exit->Act->World->Prop}{a:Act}(S:a.eval g=.func (.func s) #[] lb)(O:∀ args w,(callFunc s args).run Tryz.prog w=.ok (.enter s args) w)(x:∀ i args n V W,Ar i args n V->Cel V W->Ar i args n W)(F:∀ i args n V,Ar i args n V->args.size=ps.size)(I:Nat->World->Prop)(Ix:Code->Nat->World->Prop)(y:∀ i,St w.heap.size (I i))(p:∀ c i,St w.heap.size (Ix c i))(J:∀ i V,I i V->Rd V)(M:I 0 w)(f:RoundW Tp w N n ps assign body a.tmps Ar I Ix)(m:∀ D W,w.heap.size<=D->W.heap[D]?=some (.deferred (some []))->I N W->Q .normal { a with defers:={ target:=.collected D,args:=#[] } :: a.defers } W)(q:∀ D c i W,w.heap.size<=D->W.heap[D]?=some (.deferred (some []))->i < N->Ix c (i+1) W->c.wpIn Fence.wide n Tryz.prog Q { a with defers:={ target:=.collected D,args:=#[] } :: a.defers } W) :
  (Code.rangeFunc g ps assign body).wpIn Fence.wide n Tryz.prog Q a w:=by
 refine wpIn_rangeFunc ?_
 intro fn _;obtain⟨d,b⟩:∃ d,(w.alloc (.deferred (some []))).alloc (.loop (dm fn a.tmps ps assign body w.heap.size .ready none))=d:=⟨_,rfl⟩
 have H:Below w.heap.size w d:=by rw[<- b];exact aA (ae w _) (ae _ _)
 have U:d.heap.size=w.heap.size+1+1:=by rw[<- b];simp
 have z:d.heap[w.heap.size+1]?=some (.loop (dm fn a.tmps ps assign body w.heap.size .ready none)):=by
  rw[<- b];have:=World.alloc_heap_new (w.alloc (.deferred (some []))) (.loop (dm fn a.tmps ps assign body w.heap.size .ready none));rwa [World.size_alloc] at this
 have L:d.heap[w.heap.size]?=some (.deferred (some [])):=by
  rw[<- b];exact(Below.heap_alloc _ _ _ (by simp)).trans (World.alloc_heap_new w _)
 refine⟨w.heap.size + 1,[{ target:=.collected w.heap.size,args:=#[] }],d,{ target:=.fn (.func s) lb,args:=#[.func (.yield (w.heap.size + 1)) #[] #[]] },d,s,
  #[.func (.yield (w.heap.size+1)) #[] #[]] ++ lb,d,?_,?_,?_,?_,fun h=>(by cases h),?_⟩
 ·rw[<- b];exact run_enterLoop_outer _ _ _ _ _
 ·simp only[resolve,S];simp[go_sem]
 ·intro f' _;trivial
 ·simp[invoke,go_sem,O]
 ·refine callsIn_wide.2 ?_
  refine(T (w.heap.size + 1)
   (fun i W=>I i W/\W.heap[w.heap.size+1]?=some (.loop (dm fn a.tmps ps assign body w.heap.size .ready none))/\W.heap[w.heap.size]?=some (.deferred (some [])))
   (fun i W=>∃ c,Ix c i W/\W.heap[w.heap.size+1]?=some (.loop (dm fn a.tmps ps assign body w.heap.size .done (some c)))/\W.heap[w.heap.size]?=some (.deferred (some [])))
   d (fun i X Y hx o=>⟨y i X Y hx.1 (o.mono (by omega)),o.same _ _ hx.2.1 (.inl (by omega)),o.same _ _ hx.2.2 (.inl (by omega))⟩)
   (fun i X Y hx o=>by obtain⟨c,G,C,E⟩:=hx;exact⟨c,p c i X Y G (o.mono (by omega)),o.same _ _ C (.inl (by omega)),o.same _ _ E (.inl (by omega))⟩)
   (fun i V hv=>J i V hv.1) ?_ ⟨y 0 _ _ M (Rec.of H),z,L⟩).mono ?_
  ·rintro i args V R l ⟨hi,j,r⟩ K hb A;refine(jw (B:=w.heap.size) x y p (by omega) j hi hb A (F _ _ _ _ A) (f _ i args V R (by omega) (lt_of_block j) ⟨_,j⟩ l hi hb A)).mono ?_
   rintro e Z ⟨u,h⟩;have t:=u.same _ _ (Nat.le_refl _) (by omega) ((hb.block _ (lt_of_block r)).trans r) nQ;refine⟨u.from (by omega) (by omega),h.imp (fun h=>⟨h.1,h.2.1,h.2.2,t⟩) (fun h=>?_)⟩;obtain⟨G,c,C,E⟩:=h;exact⟨G,c,C,E,t⟩
  ·rintro e W2 ⟨⟨v,rfl⟩,K,⟨hi,j,r⟩ | ⟨i,l,c,hi,j,r⟩⟩
   ·exact⟨none,_,run_endLoop (P:=Tryz.prog) j (by simp[dm]),m _ _ (Nat.le_refl _) ((World.putObj_heap_other (by omega)).trans r) (y _ _ _ hi (Rec.put j rfl (by omega) _))⟩
   ·exact⟨some c,_,run_endLoop (P:=Tryz.prog) j (by simp[dm]),q _ c i _ (Nat.le_refl _) ((World.putObj_heap_other (by omega)).trans r) l (p c _ _ _ hi (Rec.put j rfl (by omega) _))⟩
end
end Pg
end
section
namespace Pg
open Go.RowKit Go.Lib
section
variable {a b:Nat}{w:World}{v fv tv:Value}{t f:List Int}{D:Nat->Prop}{P:List (List En)}{F:Nat→Prop}{L:List Pg}
def cut{α:Type}(l:List α)(a b:Nat):List α:=(l.drop a).take (max a b - a)
theorem wR{α:Type}{l:List α}{j:Nat}{x:α}(h:(cut l a b)[j]?=some x):l[a+j]?=some x:=by
 unfold cut at h;rw[List.getElem?_take] at h;split at h
 ·rw[List.getElem?_drop] at h;exact h
 ·cases h
theorem vL{α:Type}{l:List α}(ha:a<=l.length)(hb:b<=l.length):(cut l a b).length=max a b - a:=by
 unfold cut;rw[List.length_take,List.length_drop];omega
def eZ(P:List (List En))(t:List Int):Nat:=if t=[] then P.length else min (pgi P t+1) P.length
def s7(es:List En)(t:List Int):Nat:=if t=[] then es.length else plc (kys es) t
def wth(es:List En)(f t:List Int):List En:=cut es (plc (kys es) f) (s7 es t)
def wlk(P:List (List En))(f t:List Int):List En:=(cut P (pgi P f) (eZ P t)).flatMap fun es=>wth es f t
theorem mV(h:By w v t):Calls Tryz.prog 168 #[v] w fun e w'=>e=.returned (.bool (decide (t≠[])))/\w'=w:=by
 obtain⟨m,c,rfl,j,n,g,i,f⟩:=h.ex
 have d:(decide (t≠[]))=decide ((0:Int) < (t.length:Int)):=by
  cases t with
  | nil=>rfl
  | cons a l=>simp
 rw[d];clear h f
 have b:decide ((0:Int) < (t.length:Int))=decide (0 < t.length):=by congr 1;exact propext ⟨fun h=>by omega,fun h=>by omega⟩
 rw[b];go_enter Tryz.func168,Tryz.ntmps168;go_wp2;go_ret;exact⟨rfl,rfl⟩
structure SpA(w:World)(F:Nat->Prop)(v:Value)(Q:List Pg):Prop where
 ex:∃ ao c,v=.slice ao Q.length c/\Q.length<=c/\c<=9223372036854775807/\∀ j p,Q[j]?=some p->∃ b o,ao=some ⟨b,o,none⟩/\F b/\w.cell? ⟨b,o+j,none⟩=some p.v
structure ESl(w:World)(q:Nat)(v:Value)(es:List En):Prop where
 ex:∃ ao c,v=.slice ao es.length c/\es.length<=c/\c<=9223372036854775807/\∀ j e,es[j]?=some e->∃ o,ao=some ⟨q,o,none⟩/\w.cell? ⟨q,o+j * 2,none⟩=some e.kv/\w.cell? ⟨q,o+j * 2+1,none⟩=some e.vv
theorem tH{p:Pg}(A:PgA w D p)(S:Srt (kys p.es))(hf:By w fv f)(K:By w tv t)(hn:p.es.length<=1000000) :
  Calls Tryz.prog 117 #[p.v,fv,tv] w fun e w'=>∃ v,e=.returned v/\ESl w' p.b v (wth p.es f t)/\Below w.heap.size w w':=by
 have t1:=ie A S hf hn
 have s:∀ w',Below w.heap.size w w'->Calls Tryz.prog 168 #[tv] w' _:=fun w' l=>mV (K.keep l)
 have t2:∀ w',Below w.heap.size w w'->Calls Tryz.prog 169 #[p.v,tv] w' _:=fun w' l=>ie (A.keep l) S (K.keep l) hn
 have i:=A.row;have n:=i.le;simp only[maxLen] at n;have Q:=n.1;have O:=n.2;have u:=qM (kys p.es) f;have G:=qM (kys p.es) t
 have B:(kys p.es).length=p.es.length:=by simp[kys]
 rw[B] at u G
 have g:∀ (F:Option Addr) (k c y:Nat) (w':World),s7 p.es t=y->y<=p.es.length->Below w.heap.size w w'->k=max (plc (kys p.es) f) y - plc (kys p.es) f->k<=c->c<=9223372036854775807->(k=0\/F=some ⟨p.b,plc (kys p.es) f * 2,none⟩)->ESl w' p.b (.slice F k c) (wth p.es f t):=fun F k c y w' he hy l M I hc N=>by
  have L:(wth p.es f t).length=k:=by
   unfold wth;rw[he,vL u hy,M]
  refine⟨F,c,by rw[L],by rw[L];exact I,hc,fun j e P=>?_⟩;have J:=(List.getElem?_eq_some_iff.1 P).1;rw[L] at J
  have z:=wR (show (cut p.es (plc (kys p.es) f) (s7 p.es t))[j]?=some e from P);have M:=(i.keep l).cell (p6 z);have hv:=(i.keep l).cell (kO z);refine⟨plc (kys p.es) f * 2,N.resolve_left (by omega),?_,?_⟩
  ·rw[<- Nat.add_mul];exact M
  ·rw[<- Nat.add_mul];exact hv
 have g:Hid _:=g
 have o:Hid (s7 p.es t=if t=[] then p.es.length else plc (kys p.es) t):=rfl;generalize hx:plc (kys p.es) f=x at *
 have X:Hid _:=hx;generalize hy:plc (kys p.es) t=y at *
 have W:Hid _:=hy;generalize thr (kys p.es) f=bx at *;generalize thr (kys p.es) t=R at *
 simp only[Pg.v] at t1 t2 ⊢;generalize hm:p.es.length=m at *
 have U:Hid _:=hm
 have z0:(0:Int)<=(x:Int):=by omega
 have z1:(x:Int)<=(m:Int):=by omega
 clear A S hf K i n B hx hy hm;by_cases r:t=[]
 ·have hd:decide (t≠[])=false:=by simp[r]
  rw[hd] at s
  have he:Hid (s7 p.es t=m):=by show _=_;rw[o.out,if_pos r]
  clear r hd t2 o;go_enter Tryz.func117,Tryz.ntmps117
  go_wp2_with (first
   | (go_at_call 169;refine t1.mono ?_;rintro C E ⟨rfl,d⟩;have q:=s E d;clear t1 s)
   | (go_at_call 168;refine q.mono ?_;rintro C T ⟨rfl,rfl⟩))
  all_goals (
   go_ret
   exact⟨_,rfl,g.out _ _ _ m _ he.out (Nat.le_refl _) d (by omega) (by omega) (by omega) (by first | exact .inr rfl | exact .inl (by omega) | exact .inl rfl),d⟩)
 ·have hd:decide (t≠[])=true:=by simp[r]
  rw[hd] at s
  have he:Hid (s7 p.es t=y):=by show _=_;rw[o.out,if_neg r]
  have mk:True:=trivial;clear r hd o;go_enter Tryz.func117,Tryz.ntmps117
  go_wp2_with (first
   | (go_at_call 169;clear mk;refine t1.mono ?_;rintro C E ⟨rfl,d⟩;have q:=s E d;have t21:=t2 E d;clear t1 s t2)
   | (go_at_call 168;refine q.mono ?_;rintro C T ⟨rfl,rfl⟩)
   | (go_at_call 169;refine t21.mono ?_;rintro C V ⟨rfl,H⟩;have l:=aA d H))
  all_goals (
   go_ret
   exact⟨_,rfl,g.out _ _ _ y _ he.out (by omega) l (by omega) (by omega) (by omega) (by first | exact .inr rfl | exact .inl (by omega) | exact .inl rfl),l⟩)
theorem Aw(k:List Int):pgi P k<=P.length:=by
 have h1:=p7 (fks P) k;simp only[fks,List.length_map] at h1;unfold pgi fks;omega
theorem AN{D:Nat→Prop}{g:Nat}(A:bT w F D g L)(O:Ord (ens L))(hf:By w fv f)(ht:By w tv t)(hn:L.length≤100000000) :
    Calls Tryz.prog 116 #[.pointer (some ⟨g,0,none⟩),fv,tv] w fun e w'=>∃ v,e=.returned v∧SpA w' F v (cut L (pgi (ens L) f) (eZ (ens L) t))∧Below w.heap.size w w':=by
  have t1:=ji A.drew O hf.drew (by omega)
  have H:∀ w',Below w.heap.size w w'→Calls Tryz.prog 168 #[tv] w' _:=fun w' z=>mV (ht.keep z)
  have t2:∀ w',Below w.heap.size w w'→Calls Tryz.prog 167 #[.pointer (some ⟨g,0,none⟩),tv] w' _:=fun w' z=>ji (A.keep z) O (ht.keep z) (by omega)
  obtain⟨S,c,hc,ab,hc2,Q⟩:= A.rd
  have N:(ens L).length=L.length:=by simp[ens]
  have U:pgi (ens L) f≤L.length:=by rw[← N];exact Aw f
  have X:pgi (ens L) t≤L.length:=by rw[← N];exact Aw t
  have T : ∀ G, S = some ⟨G, 0, none⟩ → F G := fun G e => by
    obtain⟨pv,hb,hg,⟨rfl,rfl⟩ | ⟨G',C,rfl,Y,hR⟩⟩:= A.top
    · have:=hb.cell (i:=0) rfl
      rw[hc] at this
      cases this
      cases e
    · have:=hb.cell (i:=0) rfl
      rw[hc] at this
      cases this
      cases e;exact Y
  have m : ∀ (W : Option Addr) (k d y : Nat) (w' : World), eZ (ens L) t = y → y ≤ L.length → Below w.heap.size w w' → k = max (pgi (ens L) f) y - pgi (ens L) f → k ≤ d → d ≤ 9223372036854775807 → (k = 0 ∨ ∀ b o, S = some ⟨b, o, none⟩ → W = some ⟨b, o + pgi (ens L) f, none⟩) → SpA w' F (.slice W k d) (cut L (pgi (ens L) f) (eZ (ens L) t)) := fun W k d y w' he hy z hk Z hd hbo => by
    have hl:(cut L (pgi (ens L) f) (eZ (ens L) t)).length=k:=by rw[he,vL U hy,hk]
    refine⟨W,d,by rw[hl],by rw[hl];exact Z,hd,fun j p hj=>?_⟩;have hjk:=(List.getElem?_eq_some_iff.1 hj).1;rw[hl] at hjk
    have hj':=wR hj;obtain⟨G,rfl,cG⟩:= Q _ p hj'
    exact⟨G, 0 + pgi (ens L) f, (hbo.resolve_left (by omega)) G 0 rfl, T G rfl, by
      rw[Nat.zero_add,z.cell (p:=⟨G,pgi (ens L) f+j,none⟩) (aK cG)];exact cG⟩
  have m:Hid _:=m
  have E:Hid (eZ (ens L) t=if t=[] then L.length else min (pgi (ens L) t+1) L.length):=by show _=_;unfold eZ;rw[N]
  have K:=aK hc
  have Q:Hid _:=Q
  have V:Hid (S=none∨∃ G,S=some ⟨G,0,none⟩):=by
    obtain⟨pv,hb,hg,⟨rfl,rfl⟩ | ⟨G,C,rfl,Y,hR⟩⟩:= A.top
    · have:=hb.cell (i:=0) rfl
      rw[hc] at this
      cases this;exact .inl rfl
    · have:=hb.cell (i:=0) rfl
      rw[hc] at this
      cases this;exact .inr ⟨G,rfl⟩
  have P:S=none→c=0:=by
    intro e;obtain⟨pv,hb,hg,⟨rfl,rfl⟩ | ⟨G,C,rfl,Y,hR⟩⟩:= A.top
    · have:=hb.cell (i:=0) rfl
      rw[hc] at this
      cases this;rfl
    · have:=hb.cell (i:=0) rfl
      rw[hc] at this
      cases this
      cases e
  generalize hx:pgi (ens L) f=x at *
  have HX:Hid _:=hx;generalize hy:pgi (ens L) t=y at *
  have HY:Hid _:=hy;obtain⟨n,aa⟩:∃ n,Hid (L.length=n):=⟨_,rfl⟩;rw[aa.out] at hc ab U X hn m E
  have I:w.drew.cell? ⟨g,0,none⟩=some (.slice S n c):=hc
  have z0:(0:Int)≤(x:Int):=by omega
  have z1:(x:Int)≤(n:Int):=by omega
  have zw:IntKind.i64.wrap ((y:Int)+1)=(y:Int)+1:=by rw[IntKind.wrap_i64];omega
  have M:=cy w;have HN:=V.out;clear A O hf ht hx hy N T;by_cases R:t=[]
  · have hd : decide (t ≠ []) = false := by simp[R]
    rw[hd] at H
    have he:Hid (eZ (ens L) t=n):=by show _=_;rw[E.out,if_pos R]
    clear R hd t2 E;rcases HN with rfl | ⟨G,rfl⟩
    · obtain rfl:c=0:=P rfl
      obtain rfl:n=0:=by omega
      obtain rfl:x=0:=by omega
      go_enter Tryz.func116,Tryz.ntmps116;go_wp2;go_region_held3 (fun w'=>w'.cell? ⟨g,0,none⟩=some (.slice none 0 0)) (assumption)
        (first
          | (go_at_call 167;refine t1.mono ?_;rintro J u ⟨rfl,q⟩;have r:u.cell? ⟨g,0,none⟩=_:=(q.cell (p:=⟨g,0,none⟩) K).trans I;have l:=aA M q))
      have s:=H u l;clear t1 H;go_wp2_with (go_at_call 168;refine s.mono ?_;rintro J w2 ⟨rfl,rfl⟩)
      all_goals (
        go_ret
        exact⟨_,rfl,m.out _ _ _ 0 _ he.out (by omega) l (by omega) (by omega) (by omega) (by first | exact .inl (by omega) | exact .inr (fun b o e=>by cases e;simp)),l⟩)
    · clear P
      go_enter Tryz.func116,Tryz.ntmps116;go_wp2;go_region_held3 (fun w'=>w'.cell? ⟨g,0,none⟩=some (.slice (some ⟨G,0,none⟩) n c)) (assumption)
        (first
          | (go_at_call 167;refine t1.mono ?_;rintro J u ⟨rfl,q⟩;have r:u.cell? ⟨g,0,none⟩=_:=(q.cell (p:=⟨g,0,none⟩) K).trans I;have l:=aA M q))
      have s:=H u l;clear t1 H;go_wp2_with (go_at_call 168;refine s.mono ?_;rintro J w2 ⟨rfl,rfl⟩)
      all_goals (
        go_ret
        exact⟨_,rfl,m.out _ _ _ n _ he.out (by omega) l (by omega) (by omega) (by omega) (by first | exact .inl (by omega) | exact .inr (fun b o e=>by cases e;simp)),l⟩)
  · have hd : decide (t ≠ []) = true := by simp[R]
    rw[hd] at H
    have he:Hid (eZ (ens L) t=min (y+1) n):=by show _=_;rw[E.out,if_neg R]
    clear R hd E;rcases HN with rfl | ⟨G,rfl⟩
    · obtain rfl:c=0:=P rfl
      obtain rfl:n=0:=by omega
      obtain rfl:x=0:=by omega
      go_enter Tryz.func116,Tryz.ntmps116;go_wp2;go_region_held3 (fun w'=>w'.cell? ⟨g,0,none⟩=some (.slice none 0 0)) (assumption)
        (first
          | (go_at_call 167;refine t1.mono ?_;rintro J u ⟨rfl,q⟩;have r:u.cell? ⟨g,0,none⟩=_:=(q.cell (p:=⟨g,0,none⟩) K).trans I;have l:=aA M q))
      have s:=H u l;have t21:=t2 u l;clear t1 H t2
      go_wp2_with (first
        | (go_at_call 168;refine s.mono ?_;rintro J w2 ⟨rfl,rfl⟩)
        | (go_at_call 167;refine t21.mono ?_;rintro J w3 ⟨rfl,B⟩;have ac:w3.cell? ⟨g,0,none⟩=_:=(B.cell (p:=⟨g,0,none⟩) (aK r)).trans r;have z:=aA l B))
      all_goals (
        go_ret
        exact⟨_,rfl,m.out _ _ _ (min (y+1) 0) _ he.out (by omega) z (by omega) (by omega) (by omega) (by first | exact .inl (by omega) | exact .inr (fun b o e=>by cases e;simp)),z⟩)
    · clear P
      go_enter Tryz.func116,Tryz.ntmps116;go_wp2;go_region_held3 (fun w'=>w'.cell? ⟨g,0,none⟩=some (.slice (some ⟨G,0,none⟩) n c)) (assumption)
        (first
          | (go_at_call 167;refine t1.mono ?_;rintro J u ⟨rfl,q⟩;have r:u.cell? ⟨g,0,none⟩=_:=(q.cell (p:=⟨g,0,none⟩) K).trans I;have l:=aA M q))
      have s:=H u l;have t21:=t2 u l;clear t1 H t2
      go_wp2_with (first
        | (go_at_call 168;refine s.mono ?_;rintro J w2 ⟨rfl,rfl⟩)
        | (go_at_call 167;refine t21.mono ?_;rintro J w3 ⟨rfl,B⟩;have ac:w3.cell? ⟨g,0,none⟩=_:=(B.cell (p:=⟨g,0,none⟩) (aK r)).trans r;have z:=aA l B))
      all_goals (
        go_ret
        exact⟨_,rfl,m.out _ _ _ (min (y+1) n) _ he.out (by omega) z (by omega) (by omega) (by omega) (by first | exact .inl (by omega) | exact .inr (fun b o e=>by cases e;simp)),z⟩)
end
end Pg
end
end Go.Proofs.YtjejmkcjflhoiaaGreatDoor
