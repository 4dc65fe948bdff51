import Derived.Test.YtjejmkcjflhoiaaGreatDoorJac
import Derived.Lib.BytesEntry
import Derived.WalkMore
import Derived.Deep.RegionWith
import Derived.RangeFuncNested
import Derived.RangeFuncBound
import Derived.RangeFuncCalls
import Derived.RangeFuncLeaves
set_option maxRecDepth 100000
set_option maxHeartbeats 8000000
namespace Go.Proofs.YtjejmkcjflhoiaaGreatDoor
section
namespace Pg
open Go.RowKit Go.Lib
section
variable {w w':World}{k b n c m:Nat}{xs ys:List Value}{F:Nat->Prop}{v:Value}
structure Rw(w:World)(E:TypeId)(k b n c:Nat)(xs:List Value):Prop where
 ex:∃ sp,Blk w b (xs ++ sp) E/\xs.length=n * k/\(xs ++ sp).length=c * k/\n<=c/\c<=maxLen
theorem Rw.lt{E:TypeId}(h:Rw w E k b n c xs):b < w.heap.size:=by
 obtain⟨sp,h,_⟩:=h.ex;exact h.lt
theorem Rw.same{E:TypeId}(h:Rw w E k b n c xs)(hb:w'.heap[b]?=w.heap[b]?):Rw w' E k b n c xs:=by
 obtain⟨sp,h,h'⟩:=h.ex;exact⟨sp,h.same hb,h'⟩
theorem Rw.keep{E:TypeId}(h:Rw w E k b n c xs)(hb:Below w.heap.size w w'):Rw w' E k b n c xs:=h.same (hb.block b h.lt)
theorem Rw.chg{E:TypeId}(h:Rw w E k b n c xs)(hb:Chg F w w')(hg:¬ F b):Rw w' E k b n c xs:=h.same (hb.same b h.lt hg)
theorem Rw.drew{E:TypeId}(h:Rw w E k b n c xs):Rw w.drew E k b n c xs:=h.same rfl
theorem Rw.len{E:TypeId}(h:Rw w E k b n c xs):xs.length=n * k:=by
 obtain⟨sp,h,h',_⟩:=h.ex;exact h'
theorem Rw.le{E:TypeId}(h:Rw w E k b n c xs):n<=c/\c<=maxLen:=by
 obtain⟨sp,h,_,_,h'⟩:=h.ex;exact h'
theorem Rw.cell{E:TypeId}(h:Rw w E k b n c xs){i:Nat}(hi:xs[i]?=some v):w.cell? ⟨b,i,none⟩=some v:=by
 obtain⟨sp,h,_⟩:=h.ex;exact h.cell (by rw[List.getElem?_append_left (List.getElem?_eq_some_iff.1 hi).1];exact hi)
theorem Rw.free{E:TypeId}(h:Rw w E k b n c xs)(i:Nat):w.frozen? ⟨b,i,none⟩=false:=by
 obtain⟨sp,h,_⟩:=h.ex;exact h.free i
theorem Rw.kind{E:TypeId}(h:Rw w E k b n c xs):∃ cs,Blk w b cs E:=by
 obtain⟨sp,h,_⟩:=h.ex;exact⟨_,h⟩
theorem Rw.set{E:TypeId}(h:Rw w E k b n c xs)(i:Nat)(hi:i < xs.length)(v:Value):Rw (w.setCell ⟨b,i,none⟩ v) E k b n c (xs.set i v):=by
 obtain⟨sp,h,e,a,d⟩:=h.ex;refine⟨sp,?_,by simpa using e,by simpa using a,d⟩;have:=h.setCell (i:=i) v;rwa [List.set_append_left _ _ hi] at this
theorem Cq{E:TypeId}(h:Blk w b xs E)(hx:xs.length=n * k)(hn:n<=maxLen):Rw w E k b n n xs:=⟨[],by simpa using h,hx,by simpa using hx,Nat.le_refl _,hn⟩
theorem Rw.front{E:TypeId}(h:Rw w E k b n c xs)(hm:m<=n):Rw w E k b m c (xs.take (m * k)):=by
 obtain⟨sp,h,g,a,e,d⟩:=h.ex
 have f:m * k<=n * k:=Nat.mul_le_mul_right _ hm;refine⟨xs.drop (m * k) ++ sp,by rw[<- List.append_assoc,List.take_append_drop];exact h,by rw[List.length_take];omega,by rw[<- List.append_assoc,List.take_append_drop];exact a,by omega,d⟩
theorem Rw.more{E:TypeId}(h:Rw w E k b n c xs)(hm:n+m<=c):∃ s,s.length=m * k/\Rw w E k b (n+m) c (xs ++ s):=by
 obtain⟨sp,h,f,a,e,d⟩:=h.ex
 have g:n * k+m * k<=c * k:=by rw[<- Nat.add_mul];exact Nat.mul_le_mul_right _ hm
 rw[List.length_append] at a;refine⟨sp.take (m * k),by rw[List.length_take];omega,sp.drop (m * k),?_,?_,?_,hm,d⟩
 ·rw[List.append_assoc,List.take_append_drop];exact h
 ·rw[List.length_append,List.length_take,Nat.add_mul];omega
 ·rw[List.append_assoc,List.take_append_drop,List.length_append];exact a
theorem Rw.to{E:TypeId}(h:Rw w E k b n c xs)(e:xs=ys):Rw w E k b n c ys:=e▸h
end
section
variable {P:Program} {w:World} {T E:TypeId} {k bytes:Nat} {z:Value}
section
variable {b n c g:Nat}{xs:List Value}
structure Kd(P:Program)(T E:TypeId)(k bytes:Nat)(z:Value):Prop where
 und:P.underlying T=some (.slice E)
 inf:(P.info? E).map (fun i=>(i.zero,i.size,i.bytes))=some (some z,k,bytes)
 zs:z.cells.size=k
 z1:∀ v∈z.cells,v.oneCell'=true
 k0:0 < k
theorem Kd.size(h:Kd P T E k bytes z):(P.info? E).map (·.size)=some k:=by
 obtain⟨i,hi,hz,hs,hb⟩:=info_parts h.inf;rw[hi];simp[hs]
theorem Kd.sizeOf(h:Kd P T E k bytes z)(w:World):(Go.sizeOf E).run P w=.ok k w:=by
 obtain⟨i,hi,hz,hs,hb⟩:=info_parts h.inf;simp[Go.sizeOf,typeInfo,hi,hs]
theorem Kd.zero(h:Kd P T E k bytes z)(w:World):(zeroValue E).run P w=.ok z w:=by
 obtain⟨i,hi,hz,hs,hb⟩:=info_parts h.inf;simp[zeroValue,typeInfo,hi,hz]
theorem l7(w:World)(E:TypeId)(zc:Array Value)(k n c:Nat)(xs:List Value)(a:zc.size=k)(hx:xs.length=n * k)(hn:n<=c)(hc:c<=maxLen) :
  Rw (w.drew.alloc (.cells (xs.toArray ++ Builtin.zeroCells zc (c - n)) E)) E k w.heap.size n c xs :=
 ⟨(Builtin.zeroCells zc (c - n)).toList,⟨by
  have:=(aE w.drew (xs ++ (Builtin.zeroCells zc (c - n)).toList) E).blk;rw[show (xs ++ (Builtin.zeroCells zc (c - n)).toList).toArray=xs.toArray ++ Builtin.zeroCells zc (c - n) by apply Array.ext';simp] at this ⊢
  exact this⟩,hx,by
  rw[List.length_append,hx,Array.length_toList,size_zeroCells,a,<- Nat.add_mul];congr 1;omega,hn,hc⟩
theorem eB(H:Kd P T E k bytes z)(ty:TypeId)(R:Rw w E k b n c xs)(a:Addr)(m cc:Nat)(news:List Value)(l:news.length=m * k)(f:∀ j u,news[j]?=some u->w.cell? (a.add j)=some u)(y:∀ u∈news,u.oneCell'=true)(o:(n+m) * bytes<=140737488355328)(hm:n+m<=140737488355328) :
  ∃ b' c' w',(Builtin.append_ #[T,T] ty #[.slice (some ⟨b,0,none⟩) n c,.slice (some a) m cc]).run P w=.ok (.slice (some ⟨b',0,none⟩) (n+m) c') w'/\(b'=b\/b'=w.heap.size)/\Rw w' E k b' (n+m) c' (xs ++ news)/\Chg (·=b) w w':=by
 obtain⟨i,hi,t,hs,hb⟩:=info_parts H.inf;obtain⟨sp,s,hx,hc,v,p⟩:=R.ex;subst hs hb
 have q:n+m<=maxLen:=by simp only[maxLen];omega
 by_cases d:n+m<=c
 ·have h:n * i.size+news.length<=(xs ++ sp).toArray.size:=by
   rw[List.size_toArray,hc,l,<- Nat.add_mul];exact Nat.mul_le_mul_right _ d
  have r:=run_append_room (P:=P) w T ty E i H.und hi b n c (xs ++ sp).toArray s.blk a m cc news l f y d h;refine⟨b,c,_,r,.inl rfl,⟨sp.drop news.length,?_,by rw[List.length_append,hx,l,Nat.add_mul],?_,d,p⟩,(Chg.refl (·=b) w).row (g:=b) (.inl rfl) _⟩
  ·have:=s.row (xs ++ news ++ sp.drop news.length)
   have e:(xs ++ sp).toArray.toList.take (n * i.size) ++ news ++ (xs ++ sp).toArray.toList.drop (n * i.size+news.length)=xs ++ news ++ sp.drop news.length:=by
    rw[show (xs ++ sp).toArray.toList=xs ++ sp from rfl,<- hx,List.take_left,<- List.drop_drop,List.drop_left]
   rw[e];exact this
  ·have A:xs.length + sp.length=c * i.size:=by rw[<- List.length_append]; exact hc
   have B:n * i.size+m * i.size<=c * i.size:=by rw[<- Nat.add_mul];exact Nat.mul_le_mul_right _ d
   rw[List.length_append,List.length_append,List.length_drop];omega
 ·have holds:∀ j u,xs[j]? = some u->w.cell? ((⟨b,0,none⟩:Addr).add j)=some u:=fun j u x=>by rw[Addr.add_lit,Nat.zero_add]; exact R.cell x
  have r:=run_append_grow (P:=P) w T ty E i z H.und hi t ⟨b,0,none⟩ n c xs hx holds a m cc news l f (by omega) (by omega) (growslice_fits (by omega) o);refine⟨w.heap.size,_,_,r,.inr rfl,?_,(Chg.refl _ w).drew.alloc _⟩;have:=l7 w E z.cells i.size (n+m) (grownCap w (n+m) c E) (xs ++ news) H.zs (by rw[List.length_append,hx,l,Nat.add_mul]) (grownCap_ge w _ _ _) (grownCap_le_maxLen w _ _ _ q);simpa using this
theorem gW(H:Kd P T E k bytes z)(ty:TypeId)(a:Addr)(m cc:Nat)(news:List Value)(d:news.length=m * k)(c:∀ j u,news[j]?=some u->w.cell? (a.add j)=some u)(h0:0 < m)(e:m * bytes<=140737488355328)(hm:m<=140737488355328) :
  ∃ c' w',(Builtin.append_ #[T,T] ty #[.slice none 0 0,.slice (some a) m cc]).run P w=.ok (.slice (some ⟨w.heap.size,0,none⟩) m c') w'/\Rw w' E k w.heap.size m c' news/\Below w.heap.size w w':=by
 obtain⟨i,hi,f,hs,hb⟩:=info_parts H.inf;subst hs hb;have g:=run_append_nil (P:=P) w T ty E i z H.und hi f a m cc news d c h0 (by omega) (by omega);refine⟨_,_,g,?_,?_⟩
 ·exact l7 w E z.cells i.size m (grownCap w m 0 E) news H.zs d (grownCap_ge w _ _ _) (grownCap_le_maxLen w _ _ _ (by simp only[maxLen];omega))
 ·exact(Below.refl _ w).trans ⟨rfl,rfl,rfl,by simp,fun b hb=>by
   have:=(ae w.drew (.cells (news.toArray ++ Builtin.zeroCells z.cells (grownCap w m 0 E - m)) E)).block b hb
   exact this⟩
theorem o7(H:Kd P T E k bytes z)(tn ty:TypeId)(hn:P.underlying tn=some (.int .i64))(R:Rw w E k b n c xs)(m:Nat)(h0:0 < m)(hc:c < n+m)(a:(n+m) * bytes<=140737488355328)(hm:n+m<=140737488355328) :
  ∃ c' w',(Builtin.append_ #[T,tn] ty #[.slice (some ⟨b,0,none⟩) n c,.int .i64 m]).run P w=.ok (.slice (some ⟨w.heap.size,0,none⟩) (n+m) c') w'/\Rw w' E k w.heap.size (n+m) c' (xs ++ (Builtin.zeroCells z.cells m).toList)/\Below w.heap.size w w':=by
 obtain⟨i,hi,d,hs,hb⟩:=info_parts H.inf;have hx:=R.len;subst hs hb
 have hold:(Builtin.firstCells i.size n (.slice (some ⟨b,0,none⟩) n c)).run P w.drew=.ok xs.toArray w.drew :=
  run_firstCells_some w.drew i.size n ⟨b,0,none⟩ n c xs hx (fun j v e=>by rw[Addr.add_lit,Nat.zero_add];exact R.cell e)
 have f:m * i.bytes<=(n+m) * i.bytes:=Nat.mul_le_mul_right _ (by omega);have g:=run_append_grow_zeros w T tn ty E i z .i64 .i64 H.und hn hi d (some ⟨b,0,none⟩) n c xs hold m h0 H.k0 hc (by omega) (by omega) (growslice_fits hc a);refine⟨_,_,g,?_,?_⟩
 ·have:=l7 w E z.cells i.size (n+m) (grownCap w (n+m) c E) (xs ++ (Builtin.zeroCells z.cells m).toList) H.zs (by rw[List.length_append,hx,Array.length_toList,size_zeroCells,H.zs,Nat.add_mul]) (grownCap_ge w _ _ _) (grownCap_le_maxLen w _ _ _ (by simp only[maxLen];omega));rw[show (xs ++ (Builtin.zeroCells z.cells m).toList).toArray=xs.toArray ++ Builtin.zeroCells z.cells m by apply Array.ext';simp] at this;exact this
 ·exact⟨rfl,rfl,rfl,by simp,fun b hb=>(ae w.drew (.cells (xs.toArray ++ Builtin.zeroCells z.cells m ++ Builtin.zeroCells z.cells (grownCap w (n+m) c E - (n+m))) E)).block b hb⟩
theorem oQ(H:Kd P T E k bytes z)(tn ty:TypeId)(hn:P.underlying tn=some (.int .i64))(m:Nat)(h0:0 < m)(a:m * bytes<=140737488355328)(hm:m<=140737488355328) :
  ∃ c' w',(Builtin.append_ #[T,tn] ty #[.slice none 0 0,.int .i64 m]).run P w=.ok (.slice (some ⟨w.heap.size,0,none⟩) m c') w'/\Rw w' E k w.heap.size m c' (Builtin.zeroCells z.cells m).toList/\Below w.heap.size w w':=by
 obtain⟨i,hi,c,hs,hb⟩:=info_parts H.inf;subst hs hb;have d:=run_append_nil_zeros w T tn ty E i z .i64 .i64 H.und hn hi c m h0 H.k0 (by omega) (by omega);refine⟨_,_,d,?_,?_⟩
 ·have:=l7 w E z.cells i.size m (grownCap w m 0 E) (Builtin.zeroCells z.cells m).toList H.zs (by rw[Array.length_toList,size_zeroCells,H.zs]) (grownCap_ge w _ _ _) (grownCap_le_maxLen w _ _ _ (by simp only[maxLen];omega));simpa using this
 ·exact⟨rfl,rfl,rfl,by simp,fun b hb=>(ae w.drew (.cells (Builtin.zeroCells z.cells m ++ Builtin.zeroCells z.cells (grownCap w m 0 E - m)) E)).block b hb⟩
theorem fi(H:Kd P T E k bytes z)(ty:TypeId)(R:Rw w E k g n c xs)(o dLen dCap:Nat)(a:Addr)(sLen sCap:Nat)(cs:List Value)(m:Nat)(hm:Nat.min sLen dLen=m)(hn:cs.length=m * k)(d:∀ j v,cs[j]?=some v->w.cell? (a.add j)=some v)(b:o+cs.length<=xs.length)(p:∀ v∈cs,v.oneCell'=true) :
  ∃ w',(Builtin.copy_ #[T,T] ty #[.slice (some ⟨g,o,none⟩) dLen dCap,.slice (some a) sLen sCap]).run P w=.ok (goInt m) w'/\Rw w' E k g n c (splice xs o cs)/\Chg (·=g) w w':=by
 obtain⟨sp,l,hx,hc,h,f⟩:=R.ex;have q:=yr (P:=P) w T T ty E k g o dLen dCap a sLen sCap (xs ++ sp) cs E H.und H.size l m hm hn d (by rw[List.length_append];omega) p
 have e:splice (xs ++ sp) o cs=splice xs o cs ++ sp:=by
  rw[eV,eV,List.take_append_of_le_length (by omega),List.drop_append_of_le_length (by omega),List.append_assoc,List.append_assoc,List.append_assoc]
 have i:=length_splice xs o cs b;refine⟨_,q,⟨sp,by rw[e];exact l.row _,by rw[i];exact hx,by rw[List.length_append,i,<- List.length_append];exact hc,h,f⟩,(Chg.refl (·=g) w).row (g:=g) (.inl rfl) _⟩
theorem kt(H:Kd P T E k bytes z)(ty:TypeId)(R:Rw w E k b n c xs)(a:Addr)(m cc:Nat)(news:List Value)(o:news.length=m * k)(f:∀ j u,news[j]?=some u->w.cell? (a.add j)=some u)(q:∀ u∈news,u.oneCell'=true)(d:n+m<=c) :
  ∃ w',(Builtin.append_ #[T,T] ty #[.slice (some ⟨b,0,none⟩) n c,.slice (some a) m cc]).run P w=.ok (.slice (some ⟨b,0,none⟩) (n+m) c) w'/\Rw w' E k b (n+m) c (xs ++ news)/\Chg (·=b) w w':=by
 obtain⟨i,hi,v,hs,hb⟩:=info_parts H.inf;obtain⟨sp,p,hx,hc,r,l⟩:=R.ex;subst hs hb
 have h:n * i.size+news.length<=(xs ++ sp).toArray.size:=by
  rw[List.size_toArray,hc,o,<- Nat.add_mul];exact Nat.mul_le_mul_right _ d
 have s:=run_append_room (P:=P) w T ty E i H.und hi b n c (xs ++ sp).toArray p.blk a m cc news o f q d h;refine⟨_,s,⟨sp.drop news.length,?_,by rw[List.length_append,hx,o,Nat.add_mul],?_,d,l⟩,(Chg.refl (·=b) w).row (g:=b) (.inl rfl) _⟩
 ·have:=p.row (xs ++ news ++ sp.drop news.length)
  have e:(xs ++ sp).toArray.toList.take (n * i.size) ++ news ++ (xs ++ sp).toArray.toList.drop (n * i.size+news.length)=xs ++ news ++ sp.drop news.length:=by
   rw[show (xs ++ sp).toArray.toList=xs ++ sp from rfl,<- hx,List.take_left,<- List.drop_drop,List.drop_left]
  rw[e];exact this
 ·have t:xs.length + sp.length=c * i.size:=by rw[<- List.length_append]; exact hc
  have x:n * i.size+m * i.size<=c * i.size:=by rw[<- Nat.add_mul];exact Nat.mul_le_mul_right _ d
  rw[List.length_append,List.length_append,List.length_drop];omega
theorem jc(H:Kd P T E k bytes z)(ty:TypeId)(R:Rw w E k g n c xs)(m cc:Nat)(hm:0 < m)(a:n+m<=c) :
  ∃ w',(Builtin.clear_ #[T] ty #[.slice (some ⟨g,n * k,none⟩) m cc]).run P w=.ok (.tuple #[]) w'/\Rw w' E k g n c xs/\Chg (·=g) w w':=by
 obtain⟨sp,f,hx,hc,d,b⟩:=R.ex
 have j:n * k+m * k<=c * k:=by rw[<- Nat.add_mul];exact Nat.mul_le_mul_right _ a
 have i:=uy (P:=P) w T ty E z k g (n * k) m cc (xs ++ sp) E H.und H.zero H.zs H.z1 f hm H.k0 (by omega)
 have e:splice (xs ++ sp) (n * k) (Builtin.zeroCells z.cells m).toList=xs ++ ((Builtin.zeroCells z.cells m).toList ++ sp.drop (Builtin.zeroCells z.cells m).toList.length):=by
  rw[eV,<- hx,List.take_left,<- List.drop_drop,List.drop_left,List.append_assoc]
 have h:((Builtin.zeroCells z.cells m).toList).length=m * k:=by rw[Array.length_toList,size_zeroCells,H.zs]
 refine⟨_,i,⟨_,by rw[e];exact f.row _,hx,?_,d,b⟩,(Chg.refl (·=g) w).row (g:=g) (.inl rfl) _⟩;rw[List.length_append] at hc ⊢;rw[List.length_append,List.length_drop,h];omega
end
end
end Pg
end
section
namespace Pg
open Go.RowKit Go.Lib
theorem KE:Kd Tryz.prog 188 185 2 48 (.agg #[.slice none 0 0,.slice none 0 0]):=⟨by kernel_rfl,by kernel_rfl,rfl,by simp[Value.cells,Value.oneCell'],by decide⟩
theorem KP:Kd Tryz.prog 146 188 1 24 (.slice none 0 0):=⟨by kernel_rfl,by kernel_rfl,rfl,by simp[Value.cells,Value.oneCell'],by decide⟩
theorem kY:Tryz.prog.underlying 3=some (.int .i64):=by kernel_rfl
theorem mixed:Tryz.prog.follows .mixedOrders=true:=by kernel_rfl
section
variable {w:World} {b n c i vb:Nat} {xs:List Value} {e1 e2:Value}
theorem Ak (R:Rw w 185 2 b n c xs) (m:Blk w vb [e1,e2] 185) (hn:n<=1000000000) (g:∀ v∈[e1,e2],v.oneCell'=true) :
  Calls Tryz.prog 196 #[.slice (some ⟨b,0,none⟩) n c,.int .i64 n,.slice (some ⟨vb,0,none⟩) 1 1] w fun e w'=>∃ b' c',e=.returned (.slice (some ⟨b',0,none⟩) (n+1) c')/\(b'=b\/w.heap.size<=b')/\Rw w' 185 2 b' (n+1) c' (xs ++ [e1,e2])/\Chg (·=b) w w':=by
 obtain⟨b',c',W,o,f,q,hC⟩:=eB KE 188 R ⟨vb,0,none⟩ 1 1 [e1,e2] rfl (fun j u p=>by rw[Addr.add_lit,Nat.zero_add];exact m.cell p) g (by omega) (by omega);have d:=R.le;simp only[maxLen] at d;have l:=d.1;have i:=d.2;clear d R m g;go_enter Tryz.func196,Tryz.ntmps196;go_wp2_with (at_builtin;refine Lib.wpList_append_run _ rfl _ _ _ _ rfl _ _ rfl rfl _ _ o ?_)
 all_goals (
  go_ret
  exact⟨b',c',rfl,f.imp id (fun e=>by omega),q,hC⟩)
theorem yR (b:Blk w vb [e1,e2] 185) :
  Calls Tryz.prog 196 #[.slice none 0 0,.int .i64 0,.slice (some ⟨vb,0,none⟩) 1 1] w fun e w'=>∃ c',e=.returned (.slice (some ⟨w.heap.size,0,none⟩) 1 c')/\Rw w' 185 2 w.heap.size 1 c' [e1,e2]/\Below w.heap.size w w':=by
 obtain⟨c',W,c,f,hC⟩:=gW (w:=w) KE 188 ⟨vb,0,none⟩ 1 1 [e1,e2] rfl (fun j u d=>by rw[Addr.add_lit,Nat.zero_add];exact b.cell d) (by decide) (by decide) (by decide);clear b;go_enter Tryz.func196,Tryz.ntmps196;go_wp2_with (at_builtin;refine Lib.wpList_append_run _ rfl _ _ _ _ rfl _ _ rfl rfl _ _ c ?_);go_ret;exact⟨c',rfl,f,hC⟩
theorem tX (R:Rw w 185 2 b n c xs) (p:Blk w vb [e1,e2] 185) (r:vb≠b) (hi:i < n) (g:n+1≤c) (G:∀ v ∈ xs,v.oneCell'=true) (C:∀ v ∈ [e1,e2],v.oneCell'=true) :
    Calls Tryz.prog 196 #[.slice (some ⟨b,0,none⟩) n c,.int .i64 i,.slice (some ⟨vb,0,none⟩) 1 1] w fun e w'=>e=.returned (.slice (some ⟨b,0,none⟩) (n+1) c)∧Rw w' 185 2 b (n+1) c (xs.take (i * 2) ++ [e1,e2] ++ xs.drop (i * 2))∧Chg (·=b) w w':=by
  have hx:=R.len;have d:=R.le;simp only[maxLen] at d;have I:=d.1;have E:=d.2
  have o:∃ cs,Blk w b cs 185∧cs.length=c * 2:=by
    obtain⟨sp,h,_,K,_⟩:= R.ex;exact⟨_,h,K⟩
  have y : ∀ (x z : Nat), (callFunc 228 #[.slice (some ⟨vb, 0, none⟩) 1 1, .slice (some ⟨b, (i + 1) * 2, none⟩) x z]).run Tryz.prog w = .ok (.value (.bool false)) w := fun x z => by
    obtain⟨cs,h,N⟩:= o
    rw[run_callFunc_extern Tryz.func228 (by kernel_rfl) (by kernel_rfl) (by kernel_rfl) (e := Extern.SlicesOverlaps.overlaps #[188, 188] #[4]) (by kernel_rfl),
      Lib.run_overlaps_apart w 188 4 185 KE.und 2 KE.sizeOf ⟨vb,0,none⟩ ⟨b,(i+1) * 2,none⟩ 1 1 x z r 185 185 2 (c * 2) (by simp[World.shape?,p.blk]) (by simp[World.shape?,h.blk];simpa using N) (by omega) (p.free _) (p.free _)]
    rfl
  have l:(xs.drop (i * 2)).length=(n - i) * 2:=by rw[List.length_drop,hx];omega
  obtain⟨s,hs,B⟩:= R.drew.more (m:=1) g;obtain⟨H,P,u,A⟩:= fi (w:=w.drew) KE 3 B ((i+1) * 2) (n - i) (c - (i+1)) ⟨b,i * 2,none⟩ (n+1 - i) (c - i) (xs.drop (i * 2)) (n - i) (by simp only[Nat.min_def];split <;> omega) l
    (fun j v t => by
      rw[List.getElem?_drop] at t;rw[Addr.add_lit]
      exact R.cell (w:=w) (by simpa using t)) (by rw[l,B.len];omega) (fun v hv=>G v (List.mem_of_mem_drop hv))
  have q:Blk H vb [e1,e2] 185:=p.drew.chg A r;obtain⟨Q,J,D,F⟩:= fi (w:=H) KE 3 u (i * 2) (n+1 - i) (c - i) ⟨vb,0,none⟩ 1 1 [e1,e2] 1 (by simp only[Nat.min_def];split <;> omega) rfl
    (fun j v t=>by rw[Addr.add_lit,Nat.zero_add];exact q.cell t) (by rw[u.len];simp;omega) C
  have f:splice (splice (xs ++ s) ((i+1) * 2) (xs.drop (i * 2))) (i * 2) [e1,e2]=xs.take (i * 2) ++ [e1,e2] ++ xs.drop (i * 2):=by
    have h:=rB xs s [e1,e2] (i * 2) (by omega) (by simp[hs])
    have q0:s.drop ([e1,e2]:List Value).length=[]:=List.drop_of_length_le (by simp[hs]);rw[q0,List.append_nil] at h;simpa[Nat.add_mul] using h
  have S:=D.to f
  have V:Chg (·=b) w Q:=((Chg.refl _ w).drew.trans A (fun _ _ h=>h)).trans F (fun _ _ h=>h)
  have M:¬ ((i:Int)=(n:Int)):=by omega
  have O:IntKind.i64.wrap ((i:Int)+1)=(i:Int)+1:=by rw[IntKind.wrap_i64];omega
  have X:(0:Int)≤(i:Int)+1:=by omega
  have T:i≤n:=by omega
  have L:((i:Int)+1).toNat=i+1:=by omega
  have U:¬ (c=i+1):=by omega
  have Y:(i:Int)≤(n:Int)+1:=by omega
  have W:¬ (c=i):=by omega
  clear d R o B u D A F f p q hs l G C;have mixed:=mixed;go_enter Tryz.func196,Tryz.ntmps196;go_wp2_with (simp only[y]);go_region;go_wp2;go_ret;exact⟨rfl,S,V⟩
theorem yc (R:Rw w 185 2 b n c xs) (z:Blk w vb [e1,e2] 185) (hi:i < n) (A:c < n+1) (hn:n≤1000000000) (M:∀ v ∈ xs,v.oneCell'=true) (D:∀ v ∈ [e1,e2],v.oneCell'=true) :
    Calls Tryz.prog 196 #[.slice (some ⟨b,0,none⟩) n c,.int .i64 i,.slice (some ⟨vb,0,none⟩) 1 1] w fun e w'=>∃ c',e=.returned (.slice (some ⟨w.heap.size,0,none⟩) (n+1) c')∧Rw w' 185 2 w.heap.size (n+1) c' (xs.take (i * 2) ++ [e1,e2] ++ xs.drop (i * 2))∧Below w.heap.size w w':=by
  have hx:=R.len;have d:=R.le;simp only[maxLen] at d;have N:=d.1;have F:=d.2;have I:=R.lt;have L:=z.lt;obtain⟨c',B,r,q,p⟩:= o7 KE 3 188 kY (R.front (m:=i) (by omega)) (n+1 - i) (by omega) (by omega) (by omega) (by omega);rw[show ((n+1 - i:Nat):Int)=(n:Int)+1 - (i:Int) by omega,show i+(n+1 - i)=n+1 by omega] at r;rw[show i+(n+1 - i)=n+1 by omega] at q;have f:=q.le;simp only[maxLen] at f;have E:=f.1;have K:=f.2
  have s:Blk B vb [e1,e2] 185:=z.keep p;obtain⟨o,Q,x,u⟩:= fi (w:=B) KE 3 q (i * 2) (n+1 - i) (c' - i) ⟨vb,0,none⟩ 1 1 [e1,e2] 1 (by simp only[Nat.min_def];split <;> omega) rfl
    (fun j v t=>by rw[Addr.add_lit,Nat.zero_add];exact s.cell t) (by rw[q.len];simp;omega) D
  have g:(xs.drop (i * 2)).length=(n - i) * 2:=by rw[List.length_drop,hx];omega
  have O:Rw o.drew 185 2 b n c xs:=((R.keep p).chg u (by show ¬ b=w.heap.size;omega)).drew;obtain⟨G,ac,J,P⟩:= fi (w:=o.drew) KE 3 x.drew ((i+1) * 2) (n - i) (c' - (i+1)) ⟨b,i * 2,none⟩ (n - i) (c - i) (xs.drop (i * 2)) (n - i) (by simp) g
    (fun j v t => by
      rw[List.getElem?_drop] at t;rw[Addr.add_lit]
      exact O.cell (by simpa using t)) (by rw[g,x.len];omega) (fun v hv=>M v (List.mem_of_mem_drop hv))
  have l:splice (splice (xs.take (i * 2) ++ (Builtin.zeroCells (.agg #[.slice none 0 0,.slice none 0 0]:Value).cells (n+1 - i)).toList) (i * 2) [e1,e2]) ((i+1) * 2) (xs.drop (i * 2))=xs.take (i * 2) ++ [e1,e2] ++ xs.drop (i * 2):=by
    have hA:(xs.take (i * 2)).length=i * 2:=by rw[List.length_take,hx];omega
    generalize hZ:(Builtin.zeroCells (.agg #[.slice none 0 0,.slice none 0 0]:Value).cells (n+1 - i)).toList=Z
    have C:Z.length=(n+1 - i) * 2:=by rw[← hZ,Array.length_toList,size_zeroCells];rfl
    have q1:xs.take (i * 2) ++ Z=xs.take (i * 2) ++ Z.take 2 ++ Z.drop 2:=by rw[List.append_assoc,List.take_append_drop]
    rw[q1,fL _ (Z.take 2) [e1,e2] _ _ hA (by rw[List.length_take];simp;omega)];have X:=fL (xs.take (i * 2) ++ [e1,e2]) (Z.drop 2) (xs.drop (i * 2)) [] ((i+1) * 2) (by rw[List.length_append,hA];simp <;> omega) (by rw[List.length_drop,C,g];omega);simpa using X
  have R4:=J.to l
  have y:Below w.heap.size w G:=by
    have W:Below w.heap.size B o:=u.below (fun b hb=>by omega) (p.size)
    have T:Below w.heap.size o.drew G:=P.below (fun b hb=>by omega) (by have:=p.size;have:=u.size;show w.heap.size≤o.heap.size;omega);exact(p.trans W).trans ((⟨rfl,rfl,rfl,Nat.le_refl _,fun _ _=>rfl⟩:Below w.heap.size o o.drew).trans T)
  have U:¬ ((i:Int)=(n:Int)):=by omega
  have V:IntKind.i64.wrap ((i:Int)+1)=(i:Int)+1:=by rw[IntKind.wrap_i64];omega
  have hb1:(0:Int)≤(i:Int)+1:=by omega
  have aa:i≤n:=by omega
  have S:((i:Int)+1).toNat=i+1:=by omega
  have ab:¬ (c'=i+1):=by omega
  have H:i+1≤n+1:=by omega
  have hb3:(i:Int)≤(n:Int)+1:=by omega
  have hb4:¬ (c'=i):=by omega
  have Y:¬ (c=i):=by omega
  clear d f R q x J O u P p l z s g M D;have mixed:=mixed;go_enter Tryz.func196,Tryz.ntmps196;go_wp2_with (at_builtin;refine Lib.wpList_append_run _ rfl _ _ _ _ rfl _ _ rfl rfl _ _ r ?_);go_region;go_wp2;go_ret;exact⟨c',rfl,R4,y⟩
theorem insE (R:Rw w 185 2 b n c xs) (g:Blk w vb [e1,e2] 185) (f:vb≠b) (hi:i<=n) (hn:n<=1000000000) (j:∀ v∈xs,v.oneCell'=true) (d:∀ v∈[e1,e2],v.oneCell'=true) :
  Calls Tryz.prog 196 #[.slice (some ⟨b,0,none⟩) n c,.int .i64 i,.slice (some ⟨vb,0,none⟩) 1 1] w fun e w'=>∃ b' c',e=.returned (.slice (some ⟨b',0,none⟩) (n+1) c')/\(b'=b\/w.heap.size<=b')/\Rw w' 185 2 b' (n+1) c' (xs.take (i * 2) ++ [e1,e2] ++ xs.drop (i * 2))/\Chg (·=b) w w':=by
 by_cases h:i=n
 ·subst h;refine(Ak R g hn d).mono ?_
  rintro e w' ⟨b',c',rfl,hb,a,hC⟩;exact⟨b',c',rfl,hb,a.to (by rw[List.take_of_length_le (by rw[R.len];omega),List.drop_of_length_le (by rw[R.len];omega),List.append_nil]),hC⟩
 ·by_cases k:n+1<=c
  ·refine(tX R g f (by omega) k j d).mono ?_
   rintro e w' ⟨rfl,a,hC⟩;exact⟨b,c,rfl,.inl rfl,a,hC⟩
  ·refine(yc R g (by omega) (by omega) hn j d).mono ?_
   rintro e w' ⟨c',rfl,a,hC⟩;exact⟨_,c',rfl,.inr (Nat.le_refl _),a,Chg.of hC⟩
end
section
variable {w:World} {b n c i vb:Nat} {xs:List Value} {e1:Value}
theorem CH (R:Rw w 188 1 b n c xs) (m:Blk w vb [e1] 188) (hn:n<=1000000000) (g:∀ v∈[e1],v.oneCell'=true) :
  Calls Tryz.prog 231 #[.slice (some ⟨b,0,none⟩) n c,.int .i64 n,.slice (some ⟨vb,0,none⟩) 1 1] w fun e w'=>∃ b' c',e=.returned (.slice (some ⟨b',0,none⟩) (n+1) c')/\(b'=b\/w.heap.size<=b')/\Rw w' 188 1 b' (n+1) c' (xs ++ [e1])/\Chg (·=b) w w':=by
 obtain⟨b',c',W,o,f,q,hC⟩:=eB KP 146 R ⟨vb,0,none⟩ 1 1 [e1] rfl (fun j u p=>by rw[Addr.add_lit,Nat.zero_add];exact m.cell p) g (by omega) (by omega);have d:=R.le;simp only[maxLen] at d;have l:=d.1;have i:=d.2;clear d R m g;go_enter Tryz.func231,Tryz.ntmps231;go_wp2_with (at_builtin;refine Lib.wpList_append_run _ rfl _ _ _ _ rfl _ _ rfl rfl _ _ o ?_)
 all_goals (
  go_ret
  exact⟨b',c',rfl,f.imp id (fun e=>by omega),q,hC⟩)
theorem ux (R:Rw w 188 1 b n c xs) (p:Blk w vb [e1] 188) (r:vb≠b) (hi:i < n) (g:n+1≤c) (G:∀ v ∈ xs,v.oneCell'=true) (C:∀ v ∈ [e1],v.oneCell'=true) :
    Calls Tryz.prog 231 #[.slice (some ⟨b,0,none⟩) n c,.int .i64 i,.slice (some ⟨vb,0,none⟩) 1 1] w fun e w'=>e=.returned (.slice (some ⟨b,0,none⟩) (n+1) c)∧Rw w' 188 1 b (n+1) c (xs.take (i * 1) ++ [e1] ++ xs.drop (i * 1))∧Chg (·=b) w w':=by
  have hx:=R.len;have d:=R.le;simp only[maxLen] at d;have I:=d.1;have E:=d.2
  have o:∃ cs,Blk w b cs 188∧cs.length=c * 1:=by
    obtain⟨sp,h,_,K,_⟩:= R.ex;exact⟨_,h,K⟩
  have y : ∀ (x z : Nat), (callFunc 246 #[.slice (some ⟨vb, 0, none⟩) 1 1, .slice (some ⟨b, i + 1, none⟩) x z]).run Tryz.prog w = .ok (.value (.bool false)) w := fun x z => by
    obtain⟨cs,h,N⟩:= o
    rw[run_callFunc_extern Tryz.func246 (by kernel_rfl) (by kernel_rfl) (by kernel_rfl) (e := Extern.SlicesOverlaps.overlaps #[146, 146] #[4]) (by kernel_rfl),
      Lib.run_overlaps_apart w 146 4 188 KP.und 1 KP.sizeOf ⟨vb,0,none⟩ ⟨b,i+1,none⟩ 1 1 x z r 188 188 1 (c * 1) (by simp[World.shape?,p.blk]) (by simp[World.shape?,h.blk];simpa using N) (by omega) (p.free _) (p.free _)]
    rfl
  have l:(xs.drop (i * 1)).length=(n - i) * 1:=by rw[List.length_drop,hx];omega
  obtain⟨s,hs,B⟩:= R.drew.more (m:=1) g;obtain⟨H,P,u,A⟩:= fi (w:=w.drew) KP 3 B (i+1) (n - i) (c - (i+1)) ⟨b,i,none⟩ (n+1 - i) (c - i) (xs.drop (i * 1)) (n - i) (by simp only[Nat.min_def];split <;> omega) l
    (fun j v t => by
      rw[List.getElem?_drop] at t;rw[Addr.add_lit]
      exact R.cell (w:=w) (by simpa using t)) (by rw[l,B.len];omega) (fun v hv=>G v (List.mem_of_mem_drop hv))
  have q:Blk H vb [e1] 188:=p.drew.chg A r;obtain⟨Q,J,D,F⟩:= fi (w:=H) KP 3 u (i) (n+1 - i) (c - i) ⟨vb,0,none⟩ 1 1 [e1] 1 (by simp only[Nat.min_def];split <;> omega) rfl
    (fun j v t=>by rw[Addr.add_lit,Nat.zero_add];exact q.cell t) (by rw[u.len];simp;omega) C
  have f:splice (splice (xs ++ s) (i+1) (xs.drop (i * 1))) (i) [e1]=xs.take (i * 1) ++ [e1] ++ xs.drop (i * 1):=by
    have h:=rB xs s [e1] (i * 1) (by omega) (by simp[hs])
    have q0:s.drop ([e1]:List Value).length=[]:=List.drop_of_length_le (by simp[hs]);rw[q0,List.append_nil] at h;simpa[Nat.add_mul] using h
  have S:=D.to f
  have V:Chg (·=b) w Q:=((Chg.refl _ w).drew.trans A (fun _ _ h=>h)).trans F (fun _ _ h=>h)
  have M:¬ ((i:Int)=(n:Int)):=by omega
  have O:IntKind.i64.wrap ((i:Int)+1)=(i:Int)+1:=by rw[IntKind.wrap_i64];omega
  have X:(0:Int)≤(i:Int)+1:=by omega
  have T:i≤n:=by omega
  have L:((i:Int)+1).toNat=i+1:=by omega
  have U:¬ (c=i+1):=by omega
  have Y:(i:Int)≤(n:Int)+1:=by omega
  have W:¬ (c=i):=by omega
  clear d R o B u D A F f p q hs l G C;have mixed:=mixed;go_enter Tryz.func231,Tryz.ntmps231;go_wp2_with (simp only[y]);go_region;go_wp2;go_ret;exact⟨rfl,S,V⟩
theorem xo (R:Rw w 188 1 b n c xs) (z:Blk w vb [e1] 188) (hi:i < n) (A:c < n+1) (hn:n≤1000000000) (M:∀ v ∈ xs,v.oneCell'=true) (D:∀ v ∈ [e1],v.oneCell'=true) :
    Calls Tryz.prog 231 #[.slice (some ⟨b,0,none⟩) n c,.int .i64 i,.slice (some ⟨vb,0,none⟩) 1 1] w fun e w'=>∃ c',e=.returned (.slice (some ⟨w.heap.size,0,none⟩) (n+1) c')∧Rw w' 188 1 w.heap.size (n+1) c' (xs.take (i * 1) ++ [e1] ++ xs.drop (i * 1))∧Below w.heap.size w w':=by
  have hx:=R.len;have d:=R.le;simp only[maxLen] at d;have N:=d.1;have F:=d.2;have I:=R.lt;have L:=z.lt;obtain⟨c',B,r,q,p⟩:= o7 KP 3 146 kY (R.front (m:=i) (by omega)) (n+1 - i) (by omega) (by omega) (by omega) (by omega);rw[show ((n+1 - i:Nat):Int)=(n:Int)+1 - (i:Int) by omega,show i+(n+1 - i)=n+1 by omega] at r;rw[show i+(n+1 - i)=n+1 by omega] at q;have f:=q.le;simp only[maxLen] at f;have E:=f.1;have K:=f.2
  have s:Blk B vb [e1] 188:=z.keep p;obtain⟨o,Q,x,u⟩:= fi (w:=B) KP 3 q (i) (n+1 - i) (c' - i) ⟨vb,0,none⟩ 1 1 [e1] 1 (by simp only[Nat.min_def];split <;> omega) rfl
    (fun j v t=>by rw[Addr.add_lit,Nat.zero_add];exact s.cell t) (by rw[q.len];simp;omega) D
  have g:(xs.drop (i * 1)).length=(n - i) * 1:=by rw[List.length_drop,hx];omega
  have O:Rw o.drew 188 1 b n c xs:=((R.keep p).chg u (by show ¬ b=w.heap.size;omega)).drew;obtain⟨G,ac,J,P⟩:= fi (w:=o.drew) KP 3 x.drew (i+1) (n - i) (c' - (i+1)) ⟨b,i,none⟩ (n - i) (c - i) (xs.drop (i * 1)) (n - i) (by simp) g
    (fun j v t => by
      rw[List.getElem?_drop] at t;rw[Addr.add_lit]
      exact O.cell (by simpa using t)) (by rw[g,x.len];omega) (fun v hv=>M v (List.mem_of_mem_drop hv))
  have l:splice (splice (xs.take (i * 1) ++ (Builtin.zeroCells (.slice none 0 0:Value).cells (n+1 - i)).toList) (i) [e1]) (i+1) (xs.drop (i * 1))=xs.take (i * 1) ++ [e1] ++ xs.drop (i * 1):=by
    have hA:(xs.take (i * 1)).length=i:=by rw[List.length_take,hx];omega
    generalize hZ:(Builtin.zeroCells (.slice none 0 0:Value).cells (n+1 - i)).toList=Z
    have C:Z.length=(n+1 - i) * 1:=by rw[← hZ,Array.length_toList,size_zeroCells];rfl
    have q1:xs.take (i * 1) ++ Z=xs.take (i * 1) ++ Z.take 1 ++ Z.drop 1:=by rw[List.append_assoc,List.take_append_drop]
    rw[q1,fL _ (Z.take 1) [e1] _ _ hA (by rw[List.length_take];simp;omega)];have X:=fL (xs.take (i * 1) ++ [e1]) (Z.drop 1) (xs.drop (i * 1)) [] (i+1) (by rw[List.length_append,hA];simp <;> omega) (by rw[List.length_drop,C,g];omega);simpa using X
  have R4:=J.to l
  have y:Below w.heap.size w G:=by
    have W:Below w.heap.size B o:=u.below (fun b hb=>by omega) (p.size)
    have T:Below w.heap.size o.drew G:=P.below (fun b hb=>by omega) (by have:=p.size;have:=u.size;show w.heap.size≤o.heap.size;omega);exact(p.trans W).trans ((⟨rfl,rfl,rfl,Nat.le_refl _,fun _ _=>rfl⟩:Below w.heap.size o o.drew).trans T)
  have U:¬ ((i:Int)=(n:Int)):=by omega
  have V:IntKind.i64.wrap ((i:Int)+1)=(i:Int)+1:=by rw[IntKind.wrap_i64];omega
  have hb1:(0:Int)≤(i:Int)+1:=by omega
  have aa:i≤n:=by omega
  have S:((i:Int)+1).toNat=i+1:=by omega
  have ab:¬ (c'=i+1):=by omega
  have H:i+1≤n+1:=by omega
  have hb3:(i:Int)≤(n:Int)+1:=by omega
  have hb4:¬ (c'=i):=by omega
  have Y:¬ (c=i):=by omega
  clear d f R q x J O u P p l z s g M D;have mixed:=mixed;go_enter Tryz.func231,Tryz.ntmps231;go_wp2_with (at_builtin;refine Lib.wpList_append_run _ rfl _ _ _ _ rfl _ _ rfl rfl _ _ r ?_);go_region;go_wp2;go_ret;exact⟨c',rfl,R4,y⟩
theorem insP (R:Rw w 188 1 b n c xs) (g:Blk w vb [e1] 188) (f:vb≠b) (hi:i<=n) (hn:n<=1000000000) (j:∀ v∈xs,v.oneCell'=true) (d:∀ v∈[e1],v.oneCell'=true) :
  Calls Tryz.prog 231 #[.slice (some ⟨b,0,none⟩) n c,.int .i64 i,.slice (some ⟨vb,0,none⟩) 1 1] w fun e w'=>∃ b' c',e=.returned (.slice (some ⟨b',0,none⟩) (n+1) c')/\(b'=b\/w.heap.size<=b')/\Rw w' 188 1 b' (n+1) c' (xs.take (i * 1) ++ [e1] ++ xs.drop (i * 1))/\Chg (·=b) w w':=by
 by_cases h:i=n
 ·subst h;refine(CH R g hn d).mono ?_
  rintro e w' ⟨b',c',rfl,hb,a,hC⟩;exact⟨b',c',rfl,hb,a.to (by rw[List.take_of_length_le (by rw[R.len];omega),List.drop_of_length_le (by rw[R.len];omega),List.append_nil]),hC⟩
 ·by_cases k:n+1<=c
  ·refine(ux R g f (by omega) k j d).mono ?_
   rintro e w' ⟨rfl,a,hC⟩;exact⟨b,c,rfl,.inl rfl,a,hC⟩
  ·refine(xo R g (by omega) (by omega) hn j d).mono ?_
   rintro e w' ⟨c',rfl,a,hC⟩;exact⟨_,c',rfl,.inr (Nat.le_refl _),a,Chg.of hC⟩
end
end Pg
end
section
namespace Pg
open Go.RowKit Go.Lib
section
variable {w:World} {b n c i:Nat} {xs:List Value}
theorem zh (R:Rw w 185 2 b n c xs) (hi:i < n) (l:c≠i+1) (x:∀ v ∈ xs,v.oneCell'=true) :
    Calls Tryz.prog 202 #[.slice (some ⟨b,0,none⟩) n c,.int .i64 i,.int .i64 (i+1)] w fun e w'=>e=.returned (.slice (some ⟨b,0,none⟩) (n - 1) c)∧Rw w' 185 2 b (n - 1) c (xs.take (i * 2) ++ xs.drop ((i+1) * 2))∧Chg (·=b) w w':=by
  have hx:=R.len;have d:=R.le;simp only[maxLen] at d;have y:=d.1;have s:=d.2
  have g:(xs.drop ((i+1) * 2)).length=(n - (i+1)) * 2:=by rw[List.length_drop,hx];omega
  obtain⟨O,f,p,z⟩:= kt KE 188 (R.drew.front (m:=i) (by omega)) ⟨b,(i+1) * 2,none⟩ (n - (i+1)) (c - (i+1)) (xs.drop ((i+1) * 2)) g
    (fun j v t => by
      rw[List.getElem?_drop] at t;rw[Addr.add_lit]
      exact R.drew.cell (by simpa using t)) (fun v hv=>x v (List.mem_of_mem_drop hv)) (by omega)
  rw[show i+(n - (i+1))=n - 1 by omega] at p;obtain⟨E,o,r,u⟩:= jc KE 0 p (n - (n - 1)) (c - (n - 1)) (by omega) (by omega)
  have L:Chg (·=b) w E:=((Chg.refl _ w).drew.trans z (fun _ _ h=>h)).trans u (fun _ _ h=>h);obtain⟨q,G⟩:∃ q,n=i+1+q:=⟨n - (i+1),by omega⟩;subst G;rw[show i+1+q - (i+1)=q by omega] at f;rw[show i+1+q - 1=i+q by omega] at o r ⊢
  have D:¬ ((i:Int)=(i:Int)+1):=by omega
  have J:i≤i+1+q:=by omega
  have K:¬ (c=i+1):=l
  have N:(0:Int)≤(i:Int)+1:=by omega
  have I:i≤c:=by omega
  have B:((i:Int)+1).toNat=i+1:=by omega
  have C:¬ (c=i+q):=by omega
  have M:(i:Int)+1≤((i+1+q:Nat):Int):=by omega
  have F:i+1≤i+1+q:=by omega
  have A:(i:Int)+1≤(i:Int)+1+(q:Int):=by omega
  have H:((i+1+q:Nat):Int)≤(c:Int):=by omega
  clear d R p z u g x;have mixed:=mixed;go_enter Tryz.func202,Tryz.ntmps202;go_wp2;go_region_law_o (refine kH rfl (.tmp 22) (.tmp 25) 188 188 rfl _ _ (by simp[Act.eval,Act.put]) (by simp[Act.eval,Act.put]) f ?_);go_wp2;go_ret;exact⟨rfl,r,L⟩
theorem yn (R:Rw w 185 2 b (i+1) (i+1) xs) :
  Calls Tryz.prog 202 #[.slice (some ⟨b,0,none⟩) (i+1) (i+1),.int .i64 i,.int .i64 (i+1)] w fun e w'=>e=.returned (.slice (some ⟨b,0,none⟩) i (i+1))/\Rw w' 185 2 b i (i+1) (xs.take (i * 2))/\Chg (·=b) w w':=by
 have c:=R.le;simp only[maxLen] at c;have l:=c.2;obtain⟨A,d,f,n⟩:=kt KE 188 (R.drew.front (m:=i) (by omega)) ⟨b,0,none⟩ 0 0 [] (by simp) (fun j v y=>by simp at y) (fun v hv=>by simp at hv) (by omega);rw[Nat.add_zero] at f d;rw[List.append_nil] at f;obtain⟨u,o,p,g⟩:=jc KE 0 f 1 1 (by omega) (by omega)
 have x:Chg (·=b) w u:=((Chg.refl _ w).drew.trans n (fun _ _ h=>h)).trans g (fun _ _ h=>h)
 have r:¬ ((i:Int)=(i:Int)+1):=by omega
 have s:i<=i+1:=by omega
 have z:(0:Int)<=(i:Int)+1:=by omega
 have q:((i:Int)+1).toNat=i+1:=by omega
 have e1:i+1 - i=1:=by omega
 have t:(i:Int)<=(i:Int)+1:=by omega
 clear c R f n g;have mixed:=mixed;go_enter Tryz.func202,Tryz.ntmps202;go_wp2;go_region_law_o (refine kH rfl (.tmp 22) (.tmp 25) 188 188 rfl _ _ (by simp[Act.eval,Act.put]) (by simp[Act.eval,Act.put]) d ?_);go_wp2;go_ret;exact⟨rfl,p,x⟩
theorem delE (R:Rw w 185 2 b n c xs) (hi:i < n) (d:∀ v∈xs,v.oneCell'=true) :
  Calls Tryz.prog 202 #[.slice (some ⟨b,0,none⟩) n c,.int .i64 i,.int .i64 (i+1)] w fun e w'=>e=.returned (.slice (some ⟨b,0,none⟩) (n - 1) c)/\Rw w' 185 2 b (n - 1) c (xs.take (i * 2) ++ xs.drop ((i+1) * 2))/\Chg (·=b) w w':=by
 by_cases h:c=i+1
 ·have f:=R.le;obtain rfl:n=i + 1:=by omega
  subst h;refine(yn R).mono ?_
  rintro e w' ⟨rfl,a,hC⟩;exact⟨by simp,a.to (by rw[List.drop_of_length_le (by rw[R.len];omega),List.append_nil]),hC⟩
 ·exact zh R hi h d
end
section
variable {w:World} {b n c i:Nat} {xs:List Value}
theorem Bp (R:Rw w 188 1 b n c xs) (hi:i < n) (o:c≠i+1) (x:∀ v ∈ xs,v.oneCell'=true) :
    Calls Tryz.prog 203 #[.slice (some ⟨b,0,none⟩) n c,.int .i64 i,.int .i64 (i+1)] w fun e w'=>e=.returned (.slice (some ⟨b,0,none⟩) (n - 1) c)∧Rw w' 188 1 b (n - 1) c (xs.take (i * 1) ++ xs.drop ((i+1) * 1))∧Chg (·=b) w w':=by
  have hx:=R.len;have d:=R.le;simp only[maxLen] at d;have y:=d.1;have s:=d.2
  have l:(xs.drop ((i+1) * 1)).length=(n - (i+1)) * 1:=by rw[List.length_drop,hx];omega
  obtain⟨O,g,p,z⟩:= kt KP 146 (R.drew.front (m:=i) (by omega)) ⟨b,i+1,none⟩ (n - (i+1)) (c - (i+1)) (xs.drop ((i+1) * 1)) l
    (fun j v t => by
      rw[List.getElem?_drop] at t;rw[Addr.add_lit]
      exact R.drew.cell (by simpa using t)) (fun v hv=>x v (List.mem_of_mem_drop hv)) (by omega)
  rw[show i+(n - (i+1))=n - 1 by omega] at p;obtain⟨E,f,r,u⟩:= jc KP 0 p (n - (n - 1)) (c - (n - 1)) (by omega) (by omega)
  have L:Chg (·=b) w E:=((Chg.refl _ w).drew.trans z (fun _ _ h=>h)).trans u (fun _ _ h=>h);obtain⟨q,G⟩:∃ q,n=i+1+q:=⟨n - (i+1),by omega⟩;subst G;rw[show i+1+q - (i+1)=q by omega] at g;rw[show i+1+q - 1=i+q by omega] at f r ⊢;simp only[Nat.mul_one] at f
  have D:¬ ((i:Int)=(i:Int)+1):=by omega
  have J:i≤i+1+q:=by omega
  have K:¬ (c=i+1):=o
  have N:(0:Int)≤(i:Int)+1:=by omega
  have I:i≤c:=by omega
  have B:((i:Int)+1).toNat=i+1:=by omega
  have C:¬ (c=i+q):=by omega
  have M:(i:Int)+1≤((i+1+q:Nat):Int):=by omega
  have F:i+1≤i+1+q:=by omega
  have A:(i:Int)+1≤(i:Int)+1+(q:Int):=by omega
  have H:((i+1+q:Nat):Int)≤(c:Int):=by omega
  clear d R p z u l x;have mixed:=mixed;go_enter Tryz.func203,Tryz.ntmps203;go_wp2;go_region_law_o (refine kH rfl (.tmp 22) (.tmp 25) 146 146 rfl _ _ (by simp[Act.eval,Act.put]) (by simp[Act.eval,Act.put]) g ?_);go_wp2;go_ret;exact⟨rfl,r,L⟩
theorem yG (R:Rw w 188 1 b (i+1) (i+1) xs) :
  Calls Tryz.prog 203 #[.slice (some ⟨b,0,none⟩) (i+1) (i+1),.int .i64 i,.int .i64 (i+1)] w fun e w'=>e=.returned (.slice (some ⟨b,0,none⟩) i (i+1))/\Rw w' 188 1 b i (i+1) (xs.take (i * 1))/\Chg (·=b) w w':=by
 have c:=R.le;simp only[maxLen] at c;have n:=c.2;obtain⟨A,d,f,o⟩:=kt KP 146 (R.drew.front (m:=i) (by omega)) ⟨b,0,none⟩ 0 0 [] (by simp) (fun j v y=>by simp at y) (fun v hv=>by simp at hv) (by omega);rw[Nat.add_zero] at f d;rw[List.append_nil] at f;obtain⟨u,g,p,l⟩:=jc KP 0 f 1 1 (by omega) (by omega)
 have x:Chg (·=b) w u:=((Chg.refl _ w).drew.trans o (fun _ _ h=>h)).trans l (fun _ _ h=>h);simp only[Nat.mul_one] at g
 have r:¬ ((i:Int)=(i:Int)+1):=by omega
 have s:i<=i+1:=by omega
 have z:(0:Int)<=(i:Int)+1:=by omega
 have q:((i:Int)+1).toNat=i+1:=by omega
 have e1:i+1 - i=1:=by omega
 have t:(i:Int)<=(i:Int)+1:=by omega
 clear c R f o l;have mixed:=mixed;go_enter Tryz.func203,Tryz.ntmps203;go_wp2;go_region_law_o (refine kH rfl (.tmp 22) (.tmp 25) 146 146 rfl _ _ (by simp[Act.eval,Act.put]) (by simp[Act.eval,Act.put]) d ?_);go_wp2;go_ret;exact⟨rfl,p,x⟩
theorem delP (R:Rw w 188 1 b n c xs) (hi:i < n) (d:∀ v∈xs,v.oneCell'=true) :
  Calls Tryz.prog 203 #[.slice (some ⟨b,0,none⟩) n c,.int .i64 i,.int .i64 (i+1)] w fun e w'=>e=.returned (.slice (some ⟨b,0,none⟩) (n - 1) c)/\Rw w' 188 1 b (n - 1) c (xs.take (i * 1) ++ xs.drop ((i+1) * 1))/\Chg (·=b) w w':=by
 by_cases h:c=i+1
 ·have f:=R.le;obtain rfl:n=i + 1:=by omega
  subst h;refine(yG R).mono ?_
  rintro e w' ⟨rfl,a,hC⟩;exact⟨by simp,a.to (by rw[List.drop_of_length_le (by rw[R.len];omega),List.append_nil]),hC⟩
 ·exact Bp R hi h d
end
end Pg
end
section
namespace Pg
open Go.RowKit Go.Lib
section
variable {w w':World}{v:Value}{l:List Int}{D D':Nat->Prop}{a:Addr}{n:Nat}{xs:List Value}
abbrev Oct(l:List Int):Prop:=∀ x∈l,0<=x/\x < 256
structure By(w:World)(v:Value)(l:List Int):Prop where
 ex:∃ ao c,v=.slice ao l.length c/\l.length<=c/\c<=9223372036854775807/\(ao=none->c=0)/\Oct l/\(l=[]\/∃ b o,ao=some ⟨b,o,none⟩/\b < w.heap.size/\∀ i x,l[i]?=some x->w.cell? ⟨b,o+i,none⟩=some (.int .u8 x))
theorem By.keep(h:By w v l)(hb:Below w.heap.size w w'):By w' v l:=by
 obtain⟨j,c,m,d,f,k,n,g⟩:=h.ex;refine⟨j,c,m,d,f,k,n,g.imp id ?_⟩;rintro⟨b,o,e,a,hc⟩;exact⟨b,o,e,Nat.lt_of_lt_of_le a hb.size,fun i x hi=>by rw[hb.cell (p:=⟨b,o+i,none⟩) a];exact hc i x hi⟩
theorem By.drew(h:By w v l):By w.drew v l:=h.keep ⟨rfl,rfl,rfl,Nat.le_refl _,fun _ _=>rfl⟩
theorem By.oct(h:By w v l):Oct l:=by
 obtain⟨ao,c,h1,h2,h3,h4,h5,h6⟩:=h.ex;exact h5
theorem By.nil(w:World):By w (.slice none 0 0) []:=⟨none,0,rfl,by decide,by decide,fun _=>rfl,fun _ h=>by simp at h,.inl rfl⟩
structure OB(w:World)(D:Nat->Prop)(v:Value)(l:List Int):Prop where
 oct:Oct l
 ex:(v=.slice none 0 0/\l=[])\/∃ b c,v=.slice (some ⟨b,0,none⟩) l.length c/\D b/\Rw w 5 1 b l.length c (l.map (Value.int .u8))
theorem OB.by(h:OB w D v l):By w v l:=by
 rcases h.ex with⟨rfl,rfl⟩ | ⟨b,c,rfl,hd,hR⟩
 ·exact By.nil w
 ·have a:=hR.le;simp only[maxLen] at a;exact⟨_,c,rfl,by omega,by omega,(fun e=>by cases e),h.oct,.inr ⟨b,0,rfl,hR.lt,fun i x hi=>by rw[Nat.zero_add];exact hR.cell (by simp[hi])⟩⟩
theorem OB.mono(h:OB w D v l)(hD:∀ b,b < w.heap.size->D b->D' b):OB w D' v l:=by
 refine⟨h.oct,h.ex.imp id ?_⟩;rintro⟨b,c,e,hd,hR⟩;exact⟨b,c,e,hD b hR.lt hd,hR⟩
theorem OB.same(h:OB w D v l)(hD:∀ b,b < w.heap.size->D b->w'.heap[b]?=w.heap[b]?):OB w' D v l:=by
 refine⟨h.oct,h.ex.imp id ?_⟩;rintro⟨b,c,e,hd,hR⟩;exact⟨b,c,e,hd,hR.same (hD b hR.lt hd)⟩
theorem OB.keep(h:OB w D v l)(hb:Below w.heap.size w w'):OB w' D v l:=h.same fun b hb' _=>hb.block b hb'
theorem OB.one(h:OB w D v l):v.oneCell'=true:=by
 rcases h.ex with⟨rfl,rfl⟩ | ⟨b,c,rfl,hd,hR⟩<;>rfl
def dw:List Int->List Int->Int
 | [],[]=>0
 | [],_ :: _=>-1
 | _ :: _,[]=>1
 | x :: a,y :: b=>if x < y then -1 else if y < x then 1 else dw a b
theorem Fl{x y:Int}(hx:0<=x/\x < 256)(hy:0<=y/\y < 256):(UInt8.ofNat x.toNat < UInt8.ofNat y.toNat)<->x < y:=by
 rw[UInt8.lt_iff_toNat_lt,UInt8.toNat_ofNat_of_lt' (by show x.toNat < 256;omega),UInt8.toNat_ofNat_of_lt' (by show y.toNat < 256;omega)];omega
theorem kz:∀ (l l':List Int),Oct l->Oct l'->compareBytes (bytesOf l) (bytesOf l')=dw l l'
 | [],[],_,_=>rfl
 | [],_ :: _,_,_=>rfl
 | _ :: _,[],_,_=>rfl
 | x :: a,y :: b,h,h'=>by
  have ih:=kz a b (fun z c=>h z (List.mem_cons_of_mem _ c)) (fun z c=>h' z (List.mem_cons_of_mem _ c));have hx:=h x List.mem_cons_self;have hy:=h' y List.mem_cons_self
  show (if UInt8.ofNat x.toNat < UInt8.ofNat y.toNat then _ else if UInt8.ofNat y.toNat < UInt8.ofNat x.toNat then _ else compareBytes (bytesOf a) (bytesOf b))=_
  rw[dw];simp only[Fl hx hy,Fl hy hx,ih]
theorem lP{P:Program}(h:By w v l):(Extern.Bytes.bytesOf v).run P w=.ok ⟨(bytesOf l).toArray⟩ w:=by
 obtain⟨f,c,rfl,m,p,g,n,i⟩:=h.ex
 cases f with
 | none =>
  have:l=[]:=List.eq_nil_of_length_eq_zero (by have:=g rfl;omega);subst this;rfl
 | some a =>
  rcases i with rfl | ⟨b,o,e,d,hc⟩
  ·rfl
  ·cases e;have:=run_loadBytesX (P:=P) w l ⟨b,o,none⟩ .empty (fun j x k=>by rw[Addr.add_lit];exact hc j x k)
   show (Extern.Bytes.loadBytes ⟨b,o,none⟩ l.length .empty).run P w=_
   rw[this];congr 1
   apply ByteArray.ext;simp
theorem lS{c:Value}{b:List Int}(h:By w v l)(d:By w c b) :
  Calls Tryz.prog 206 #[v,c] w fun e w'=>e=.returned (.int .i64 (dw l b))/\w'=w:=by
 have f:(callFunc 236 #[v,c]).run Tryz.prog w=.ok (.value (.int .i64 (dw l b))) w:=by
  rw[run_callFunc_extern Tryz.func236 (by kernel_rfl) (by kernel_rfl) (by kernel_rfl) (e:=Extern.BytealgCompare.compare) (by kernel_rfl)];have:(Extern.BytealgCompare.compare #[v,c]).run Tryz.prog w=.ok (.int .i64 (dw l b)) w:=by
   change Sem.run Tryz.prog (do pure (goInt (Extern.BytealgCompare.cmp (<- Extern.Bytes.bytesOf v) (<- Extern.Bytes.bytesOf c)))) w=_
   simp only[Sem.run_bind,lP h,lP d,Sem.run_pure,Result.andThen];rw[cmp_eq,kz l b h.oct d.oct];rfl
  rw[this];rfl
 clear h d;generalize dw l b=x at *;go_enter Tryz.func206,Tryz.ntmps206;go_wp2_with (simp only[f]);go_ret;exact⟨rfl,rfl⟩
theorem KB:Kd Tryz.prog 87 5 1 1 (.int .u8 0):=⟨by kernel_rfl,by kernel_rfl,rfl,by simp[Value.cells,Value.oneCell'],by decide⟩
theorem mN(h:w.cell? a=some v)(o:Obj):(w.alloc o).cell? a=some v:=by
 have b:a.block < w.heap.size:=by
  unfold World.cell? at h
  cases hh:w.heap[a.block]? with
  | none=>simp[hh] at h
  | some ob=>exact lt_of_block hh
 rw[(ae w o).cell b];exact h
theorem map_u8(l:List Int):∀ v∈l.map (Value.int .u8),v.oneCell'=true:=by
 intro v hv;obtain⟨x,_,rfl⟩:=List.mem_map.1 hv;rfl
theorem cZ(h:By w v l)(z:l.length<=1000000000) :
  Calls Tryz.prog 69 #[v] w fun e w'=>∃ v',e=.returned v'/\OB w' (w.heap.size <= ·) v' l/\Below w.heap.size w w':=by
 have r:=h.oct;obtain⟨B,c,rfl,H,I,C,F,A⟩:=h.ex
 cases B with
 | none =>
  have D:l=[]:=List.eq_nil_of_length_eq_zero (by have:=C rfl;omega);subst D;have f:=fun(w:World) (a:Option Addr) (n c:Nat)=>Go.Lib.run_eql_slice_nil (P:=Tryz.prog) w 87 _ a n c 0 0 KB.und
  go_enter Tryz.func69,Tryz.ntmps69;go_wp2;go_ret;exact⟨_,rfl,⟨r,.inl ⟨rfl,rfl⟩⟩,Below.refl _ _⟩
 | some a =>
  have s:Rw (w.alloc (.cells #[] 5)) 5 1 w.heap.size 0 0 []:=Cq (aE w [] _) rfl (by decide)
  have d:∀ j u,(l.map (Value.int .u8))[j]? = some u->(w.alloc (.cells #[] 5)).cell? (a.add j)=some u:=fun j u i=>by
   rcases A with rfl | ⟨b,o,e,E,hc⟩
   ·simp at i
   ·cases e;rw[List.getElem?_map] at i;obtain⟨x,hx,rfl⟩:=Option.map_eq_some_iff.1 i;exact mN (by rw[Addr.add_lit];exact hc j x hx) _
  obtain⟨m,t,W,y,g,q,hC⟩:=eB KB 87 s a l.length c (l.map (Value.int .u8)) (by simp) d (map_u8 l) (by omega) (by omega);rw[Nat.zero_add] at y q
  have G:Below w.heap.size w W:=(ae w (.cells #[] 5)).trans (hC.below (fun b hb=>by omega) (ae w _).size)
  have p:w.heap.size<=m:=by rcases g with e | e;omega;rw[World.size_alloc] at e;omega
  have hF:OB W (w.heap.size <= ·) (.slice (some ⟨m,0,none⟩) l.length t) l:=⟨r,.inr ⟨m,t,rfl,p,q.to (by simp)⟩⟩
  clear s d A h q hC F g;have f:=fun(w:World) (a:Option Addr) (n c:Nat)=>Go.Lib.run_eql_slice_nil (P:=Tryz.prog) w 87 _ a n c 0 0 KB.und
  go_enter Tryz.func69,Tryz.ntmps69;go_wp2_with (at_builtin;refine Lib.wpList_append_run _ rfl _ _ _ _ rfl _ _ rfl rfl _ _ y ?_);go_ret;exact⟨_,rfl,hF,G⟩
theorem Ae{c:Nat}(hn:n<=1000000000)(hx:xs.length=n * 2)(hc:∀ j v,xs[j]?=some v->w.cell? (a.add j)=some v)(i:∀ v∈xs,v.oneCell'=true) :
  Calls Tryz.prog 230 #[.slice (some a) n c] w fun e w'=>∃ b' c',e=.returned (.slice (some ⟨b',0,none⟩) n c')/\w.heap.size<=b'/\Rw w' 185 2 b' n c' xs/\Below w.heap.size w w':=by
 have o:Rw (w.alloc (.cells #[] 185)) 185 2 w.heap.size 0 0 []:=Cq (aE w [] _) rfl (by decide);obtain⟨b',c',W,m,d,g,hC⟩:=eB KE 188 o a n c xs hx (fun j v p=>mN (hc j v p) _) i (by omega) (by omega);rw[Nat.zero_add] at m g;rw[List.nil_append] at g
 have q:Below w.heap.size w W:=(ae w (.cells #[] 185)).trans (hC.below (fun b hb=>by omega) (ae w _).size)
 have f:w.heap.size<=b':=by rcases d with e | e;omega;rw[World.size_alloc] at e;omega
 clear o hc i hC d;have l:=fun(w:World) (a:Option Addr) (n c:Nat)=>Go.Lib.run_eql_slice_nil (P:=Tryz.prog) w 188 _ a n c 0 0 KE.und
 go_enter Tryz.func230,Tryz.ntmps230;go_wp2_with (at_builtin;refine Lib.wpList_append_run _ rfl _ _ _ _ rfl _ _ rfl rfl _ _ m ?_);go_ret;exact⟨b',c',rfl,f,g,q⟩
theorem growE(h0:0 < n)(hn:n<=1000000000) :
  Calls Tryz.prog 249 #[.slice none 0 0,.int .i64 n] w fun e w'=>∃ b' c',e=.returned (.slice (some ⟨b',0,none⟩) 0 c')/\w.heap.size<=b'/\Rw w' 185 2 b' 0 c' []/\Below w.heap.size w w':=by
 obtain⟨c',W,f,c,i⟩:=oQ (w:=w) KE 3 188 kY n h0 (by omega) (by omega)
 have b:Rw W 185 2 w.heap.size 0 c' []:=(c.front (m:=0) (by omega)).to (by simp)
 have g:¬ ((n:Int) < 0):=by omega
 have d:(0:Int) < n:=by omega
 clear c;go_enter Tryz.func249,Tryz.ntmps249;go_wp2_with (at_builtin;refine Lib.wpList_append_run _ rfl _ _ _ _ rfl _ _ rfl rfl _ _ f ?_);go_ret;exact⟨_,c',rfl,Nat.le_refl _,b,i⟩
end
end Pg
end
section
namespace Pg
open Go.RowKit Go.Lib
theorem Ex {w:World} {vb C n1 c1 E n2 c2:Nat} {xs ys:List Value} (q:Blk w vb [.slice (some ⟨C,0,none⟩) n1 c1,.slice (some ⟨E,0,none⟩) n2 c2] 188)
  (G:Rw w 185 2 C n1 c1 xs) (F:Rw w 185 2 E n2 c2 ys) (h0:0 < n1+n2) (I:n1<=1000000) (L:n2<=1000000) (K:∀ v∈xs,v.oneCell'=true) (H:∀ v∈ys,v.oneCell'=true) :
  Calls Tryz.prog 235 #[.slice (some ⟨vb,0,none⟩) 2 2] w fun e w'=>∃ b' c',e=.returned (.slice (some ⟨b',0,none⟩) (n1+n2) c')/\w.heap.size<=b'/\Rw w' 185 2 b' (n1+n2) c' (xs ++ ys)/\Below w.heap.size w w':=by
 have D:=growE (w:=w) (n:=n1+n2) h0 (by omega);rw[show ((n1+n2:Nat):Int)=(n1:Int)+(n2:Int) by omega] at D;have q0:=q.cell (i:=0) rfl;have q1:=q.cell (i:=1) rfl;go_enter Tryz.func235,Tryz.ntmps235;go_wp2;go_loopw [3,11] (fun ts f wr=>wr=w/\((f=.int .i64 0/\ts=.int .i64 0)\/(f=.int .i64 1/\ts=.int .i64 n1)\/(f=.int .i64 2/\ts=.int .i64 (n1+n2)))) (fun _ f _=>2 - (intOf f).toNat)
 case atStart=>exact⟨rfl,.inl ⟨rfl,rfl⟩⟩
 case round =>
  obtain⟨rfl,⟨rfl,rfl⟩ | ⟨rfl,rfl⟩ | ⟨rfl,rfl⟩⟩:=hrel
  ·have J:¬ ((n1:Int) < 0):=by omega
   go_wp2;go_roundw
   case rel=>exact⟨trivial,.inr (.inl ⟨rfl,rfl⟩)⟩
   case measure=>simp[intOf]
  ·have J:¬ ((n1:Int) + (n2:Int) < 0):=by omega
   go_wp2;go_roundw
   case rel=>exact⟨trivial,.inr (.inr ⟨rfl,rfl⟩)⟩
   case measure=>simp[intOf]
  ·rename World=>W0
   go_wp2_with (go_at_call 249;refine D.mono ?_;rintro e M ⟨b,c,rfl,hb,l,y⟩);clear D
   have z:=(q.keep y).cell (i:=0) rfl
   have B:=(q.keep y).cell (i:=1) rfl;have r:=y;clear y q0 q1;go_loopw [6,27] (fun ts f s=>Below W0.heap.size W0 s/\∃ b c,W0.heap.size<=b/\((f=.int .i64 0/\ts=.slice (some ⟨b,0,none⟩) 0 c/\Rw s 185 2 b 0 c [])\/(f=.int .i64 1/\ts=.slice (some ⟨b,0,none⟩) n1 c/\Rw s 185 2 b n1 c xs)\/(f=.int .i64 2/\ts=.slice (some ⟨b,0,none⟩) (n1+n2) c/\Rw s 185 2 b (n1+n2) c (xs ++ ys)))) (fun _ f _=>2 - (intOf f).toNat)
   case atStart=>exact⟨r,b,c,hb,.inl ⟨rfl,rfl,l⟩⟩
   case round =>
    clear l r hb z B;obtain⟨d,b,c,hb,⟨rfl,rfl,l⟩ | ⟨rfl,rfl,l⟩ | ⟨rfl,rfl,l⟩⟩:=hrel
    ·have q0:=(q.keep d).cell (i:=0) rfl;have S:=G.keep d;obtain⟨b',c',W,t,g,m,hC⟩:=eB KE 188 l ⟨C,0,none⟩ n1 c1 xs G.len (fun j u A=>by rw[Addr.add_lit,Nat.zero_add];exact S.cell A) K (by omega) (by omega);rw[Nat.zero_add] at t m
     have o:Below W0.heap.size W0 W:=d.trans (hC.below (fun x hx=>by omega) d.size)
     have p:W0.heap.size<=b':=by
      have:=d.size;rcases g with e | e<;>omega
     clear hC g l S;go_wp2_with (at_builtin;refine Lib.wpList_append_run _ rfl _ _ _ _ rfl _ _ rfl rfl _ _ t ?_);go_roundw
     case rel=>exact⟨o,b',c',p,.inr (.inl ⟨rfl,rfl,m⟩)⟩
     case measure=>simp[intOf]
    ·have q1:=(q.keep d).cell (i:=1) rfl;have S:=F.keep d;obtain⟨b',c',W,t,g,m,hC⟩:=eB KE 188 l ⟨E,0,none⟩ n2 c2 ys F.len (fun j u A=>by rw[Addr.add_lit,Nat.zero_add];exact S.cell A) H (by omega) (by omega)
     have o:Below W0.heap.size W0 W:=d.trans (hC.below (fun x hx=>by omega) d.size)
     have p:W0.heap.size<=b':=by
      have:=d.size;rcases g with e | e<;>omega
     clear hC g l S;go_wp2_with (at_builtin;refine Lib.wpList_append_run _ rfl _ _ _ _ rfl _ _ rfl rfl _ _ t ?_);go_roundw
     case rel=>exact⟨o,b',c',p,.inr (.inr ⟨rfl,rfl,m⟩)⟩
     case measure=>simp[intOf]
    ·go_wp2;go_ret;exact⟨b,c,rfl,hb,l,d⟩
end Pg
end
section
namespace Pg
section
variable {a b k:List Int}{l:List (List Int)}
theorem jI:∀ (a b:List Int),dw a b=-1\/dw a b=0\/dw a b=1
 | [],[]=>.inr (.inl rfl)
 | [],_ :: _=>.inl rfl
 | _ :: _,[]=>.inr (.inr rfl)
 | x :: a,y :: b=>by
  rw[dw];split
  ·exact .inl rfl
  ·split
   ·exact .inr (.inr rfl)
   ·exact jI a b
theorem iX:∀ (a:List Int),dw a a=0
 | []=>rfl
 | x :: a=>by rw[dw,if_neg (by omega),if_neg (by omega)];exact iX a
theorem qj:∀ {a b:List Int},dw a b=0->a=b
 | [],[],_=>rfl
 | [],_ :: _,h=>by simp[dw] at h
 | _ :: _,[],h=>by simp[dw] at h
 | x :: a,y :: b,h=>by
  rw[dw] at h;split at h
  ·omega
  ·split at h
   ·omega
   ·rw[qj h,show x=y by omega]
theorem lC:∀ (a b:List Int),dw b a=- dw a b
 | [],[]=>rfl
 | [],_ :: _=>rfl
 | _ :: _,[]=>rfl
 | x :: a,y :: b=>by
  rw[dw,dw];by_cases h1:x < y
  ·rw[if_neg (by omega),if_pos h1,if_pos h1];rfl
  ·by_cases h2:y < x
   ·rw[if_pos h2,if_neg h1,if_pos h2]
   ·rw[if_neg h2,if_neg h1,if_neg h1,if_neg h2];exact lC a b
abbrev Lt(a b:List Int):Prop:=dw a b=-1
theorem Lt.trans:∀ {a b c:List Int},Lt a b->Lt b c->Lt a c
 | [],[],_,h,_=>by simp[Lt,dw] at h
 | [],_ :: _,[],_,h=>by simp[Lt,dw] at h
 | [],_ :: _,_ :: _,_,_=>rfl
 | _ :: _,[],_,h,_=>by simp[Lt,dw] at h
 | _ :: _,_ :: _,[],_,h=>by simp[Lt,dw] at h
 | x :: a,y :: b,z :: c,h,h'=>by
  simp only[Lt] at h h' ⊢;rw[dw] at h h' ⊢;by_cases h1:x < z
  ·rw[if_pos h1]
  ·rw[if_neg h1];split at h
   ·split at h'
    ·omega
    ·split at h'
     ·omega
     ·omega
   ·split at h
    ·omega
    ·split at h'
     ·omega
     ·split at h'
      ·omega
      ·rw[if_neg (by omega)];exact Lt.trans (a:=a) (b:=b) (c:=c) h h'
theorem lt_irrefl(a:List Int):¬ Lt a a:=by simp[Lt,iX]
theorem Lt.not(h:Lt a b):¬ Lt b a:=fun h'=>lt_irrefl a (h.trans h')
theorem qy(a b:List Int):Lt a b\/a=b\/Lt b a:=by
 rcases jI a b with h | h | h
 ·exact .inl h
 ·exact .inr (.inl (qj h))
 ·exact .inr (.inr (by simp only[Lt];rw[lC,h]))
theorem pV(h:Lt a b):dw a b=-1:=h
theorem Ed(h:Lt b a):dw a b=1:=by rw[lC,pV h];rfl
theorem not_lt:¬ Lt a b<->a=b\/Lt b a:=by
 constructor
 ·intro h;rcases qy a b with k | k | k
  ·exact absurd k h
  ·exact .inl k
  ·exact .inr k
 ·rintro(h | h)
  ·subst h;exact lt_irrefl a
  ·exact h.not
theorem Lt.of_le{c:List Int}(h:Lt a b)(h':¬ Lt c b):Lt a c:=by
 rcases not_lt.1 h' with k | k
 ·subst k;exact h
 ·exact h.trans k
def plc:List (List Int)->List Int->Nat
 | [],_=>0
 | x :: l,k=>if Lt x k then plc l k+1 else 0
theorem qv:∀ (l:List (List Int)) (k:List Int),plc l k<=l.length
 | [],_=>Nat.le_refl _
 | x :: l,k=>by
  rw[plc];split
  ·have:=qv l k;simp;omega
  ·simp
theorem vi:∀ {l:List (List Int)} {k:List Int} {i:Nat},i<=l.length->(∀ j x,j < i->l[j]?=some x->Lt x k)->(∀ x,l[i]?=some x->¬ Lt x k)->plc l k=i
 | [],_,i,h,_,_=>by simp at h;subst h;rfl
 | x :: l,k,0,_,_,h3=>by rw[plc,if_neg (h3 x rfl)]
 | x :: l,k,i + 1,h1,h2,h3=>by
  rw[plc,if_pos (h2 0 x (by omega) rfl),vi (l:=l) (i:=i) (by simpa using h1) (fun j y hj hy=>h2 (j+1) y (by omega) (by simpa using hy)) (fun y hy=>h3 y (by simpa using hy))]
theorem AZ:∀ {l:List (List Int)} {k:List Int} {j:Nat} {x:List Int},j < plc l k->l[j]?=some x->Lt x k
 | [],_,_,_,h,_=>by simp[plc] at h
 | y :: l,k,j,x,h,hx=>by
  rw[plc] at h;split at h
  ·cases j with
   | zero=>simp at hx;subst hx;assumption
   | succ j=>exact AZ (l:=l) (j:=j) (by omega) (by simpa using hx)
  ·omega
theorem CI:∀ {l:List (List Int)} {k:List Int} {x:List Int},l[plc l k]?=some x->¬ Lt x k
 | [],_,_,h=>by simp at h
 | y :: l,k,x,h=>by
  rw[plc] at h;split at h
  ·exact CI (l:=l) (by simpa using h)
  ·simp at h;subst h;assumption
def Srt(l:List (List Int)):Prop:=l.Pairwise Lt
theorem Srt.get(h:Srt l){i j:Nat}{x y:List Int}(a:i < j)(hi:l[i]?=some x)(c:l[j]?=some y):Lt x y:=by
 obtain⟨d,rfl⟩:=List.getElem?_eq_some_iff.1 hi;obtain⟨b,rfl⟩:=List.getElem?_eq_some_iff.1 c;exact List.pairwise_iff_getElem.1 h i j d b a
def thr(l:List (List Int))(k:List Int):Bool:=decide (l[plc l k]?=some k)
theorem DC(h:Srt l):thr l k=true<->k∈l:=by
 simp only[thr,decide_eq_true_eq];constructor
 ·intro e;exact List.mem_of_getElem? e
 ·intro e;obtain⟨j,a⟩:=List.getElem?_of_mem e;have:plc l k=j:=vi (by have:=(List.getElem?_eq_some_iff.1 a).1;omega) (fun i x hi hx=>h.get hi hx a) (fun x hx=>by rw[a] at hx;cases hx;exact lt_irrefl k);rw[this];exact a
end
end Pg
end
section
namespace Pg
open Go.RowKit Go.Lib
section
variable {w w':World}{D D':Nat->Prop}
structure En where
 kv:Value
 kl:List Int
 vv:Value
 vl:List Int
structure EnA(w:World)(D:Nat->Prop)(e:En):Prop where
 k:OB w D e.kv e.kl
 v:OB w D e.vv e.vl
theorem EnA.keep{e:En}(h:EnA w D e)(hb:Below w.heap.size w w'):EnA w' D e:=⟨h.k.keep hb,h.v.keep hb⟩
theorem EnA.mono{e:En}(h:EnA w D e)(hD:∀ b,b < w.heap.size->D b->D' b):EnA w D' e:=⟨h.k.mono hD,h.v.mono hD⟩
def flat:List En->List Value
 | []=>[]
 | e :: l=>e.kv :: e.vv :: flat l
theorem jW:∀ (l:List En),(flat l).length=l.length * 2
 | []=>rfl
 | e :: l=>by simp[flat,jW l];omega
theorem eE:∀ (a b:List En),flat (a ++ b)=flat a ++ flat b
 | [],b=>rfl
 | e :: a,b=>by simp[flat,eE a b]
theorem rj:∀ {l:List En} {i:Nat} {e:En},l[i]?=some e->(flat l)[i * 2]?=some e.kv
 | [],_,_,h=>by simp at h
 | x :: l,0,e,h=>by simp at h;subst h;rfl
 | x :: l,i + 1,e,h=>by
  rw[show (i+1) * 2=i * 2+1+1 by omega,flat,List.getElem?_cons_succ,List.getElem?_cons_succ];exact rj (l:=l) (by simpa using h)
theorem kX:∀ {l:List En} {i:Nat} {e:En},l[i]?=some e->(flat l)[i * 2+1]?=some e.vv
 | [],_,_,h=>by simp at h
 | x :: l,0,e,h=>by simp at h;subst h;rfl
 | x :: l,i + 1,e,h=>by
  rw[show (i+1) * 2+1=i * 2+1+1+1 by omega,flat,List.getElem?_cons_succ,List.getElem?_cons_succ];exact kX (l:=l) (by simpa using h)
theorem je:∀ (l:List En) (i:Nat),(flat l).take (i * 2)=flat (l.take i)
 | [],i=>by simp[flat]
 | x :: l,0=>by simp[flat]
 | x :: l,i + 1=>by
  rw[show (i+1) * 2=i * 2+1+1 by omega,flat,List.take_succ_cons,List.take_succ_cons,je l i,List.take_succ_cons,flat]
theorem iV:∀ (l:List En) (i:Nat),(flat l).drop (i * 2)=flat (l.drop i)
 | [],i=>by simp[flat]
 | x :: l,0=>by simp
 | x :: l,i + 1=>by
  rw[show (i+1) * 2=i * 2+1+1 by omega,flat,List.drop_succ_cons,List.drop_succ_cons,iV l i,List.drop_succ_cons]
theorem jN:∀ {l:List En},(∀ e∈l,EnA w D e)->∀ v∈flat l,v.oneCell'=true
 | [],_,v,h=>by simp[flat] at h
 | x :: l,h,v,hv=>by
  have hx:=h x List.mem_cons_self;rcases List.mem_cons.1 hv with rfl | hv
  ·exact hx.k.one
  ·rcases List.mem_cons.1 hv with rfl | hv
   ·exact hx.v.one
   ·exact jN (l:=l) (fun e he=>h e (List.mem_cons_of_mem _ he)) v hv
theorem om:∀ {l:List En} {i:Nat} {e:En} (u:Value) (ul:List Int),l[i]?=some e->(flat l).set (i * 2+1) u=flat (l.set i { e with vv:=u,vl:=ul })
 | [],_,_,_,_,h=>by simp at h
 | x :: l,0,e,u,ul,h=>by simp at h;subst h;simp[flat]
 | x :: l,i + 1,e,u,ul,h=>by
  rw[show (i+1) * 2+1=i * 2+1+1+1 by omega,flat,List.set_cons_succ,List.set_cons_succ,om (l:=l) u ul (by simpa using h),List.set_cons_succ,flat]
def kys(l:List En):List (List Int):=l.map En.kl
structure Pg where
 b:Nat
 c:Nat
 es:List En
def Pg.v(p:Pg):Value:=.slice (some ⟨p.b,0,none⟩) p.es.length p.c
structure PgA(w:World)(D:Nat->Prop)(p:Pg):Prop where
 row:Rw w 185 2 p.b p.es.length p.c (flat p.es)
 dW:∀ e∈p.es,EnA w D e
theorem PgA.keep{p:Pg}(h:PgA w D p)(hb:Below w.heap.size w w'):PgA w' D p:=⟨h.row.keep hb,fun e he=>(h.dW e he).keep hb⟩
theorem PgA.one{p:Pg}(h:PgA w D p):∀ v∈flat p.es,v.oneCell'=true:=jN h.dW
theorem cmpE{kv vv v:Value}{l b:List Int}(h:By w kv l)(c:By w v b) :
  Calls Tryz.prog 208 #[.agg #[kv,vv],v] w fun e w'=>e=.returned (.int .i64 (dw l b))/\Below w.heap.size w w':=by
 have hb:=ae w (.cells #[kv,vv] 185);have d:=lS (h.keep hb) (c.keep hb);have B:=aE w [kv,vv] 185;have q0:=B.cell (i:=0) rfl;clear h c B;generalize dw l b=x at *;go_enter Tryz.func208,Tryz.ntmps208;go_wp2_with (go_at_call 206;refine d.mono ?_;rintro e f ⟨rfl,rfl⟩);go_ret;exact⟨rfl,hb⟩
end
end Pg
end
section
namespace Pg
open Go.RowKit Go.Lib
section
variable {w:World}{D:Nat->Prop}{p:Pg}{v:Value}{k:List Int}
theorem bsE(A:PgA w D p)(S:Srt (kys p.es))(h:By w v k)(hn:p.es.length<=1000000) :
  Calls Tryz.prog 207 #[p.v,v,.func (.func 208) #[] #[]] w fun e w'=>e=.returned (.tuple #[.int .i64 (plc (kys p.es) k),.bool (thr (kys p.es) k)])/\Below w.heap.size w w':=by
 obtain⟨b,c,es⟩:=p;simp only[Pg.v] at *;have r:=A.row.le;simp only[maxLen] at r;have y:=r.1;have M:=r.2;obtain⟨n,L⟩:∃ n,es.length=n:=⟨_,rfl⟩
 rw[L] at hn y ⊢;go_enter Tryz.func207,Tryz.ntmps207;go_wp2;go_loopw [9,10] (fun K J wr=>∃ i j:Nat,K=.int .i64 i/\J=.int .i64 j/\i<=j/\j<=n/\Hid (∀ q x,q < i->(kys es)[q]?=some x->Lt x k)/\Hid (∀ q x,j<=q->(kys es)[q]?=some x->¬ Lt x k)/\Below w.heap.size w wr) (fun K J _=>(intOf J).toNat - (intOf K).toNat)
 case atStart=>exact⟨0,n,rfl,rfl,Nat.zero_le _,Nat.le_refl _,fun q x u=>by omega,fun q x u hx=>by
  have:=(List.getElem?_eq_some_iff.1 hx).1;simp[kys] at this
  omega,Below.refl _ _⟩
 case round =>
  obtain⟨i,j,rfl,rfl,R,F,H1,N,g⟩:=hrel;by_cases Q:i < j
  ·obtain⟨m,hm⟩:∃ m,m=(i+j) / 2:=⟨_,rfl⟩
   have Y:i<=m:=by omega
   have U:m < j:=by omega
   obtain⟨e,he⟩:∃ e,es[m]?=some e:=⟨es[m],List.getElem?_eq_getElem (by omega)⟩
   have f:=A.keep g;have q0:=f.row.cell (rj he);have q1:=f.row.cell (kX he)
   have W:IntKind.i64.wrap ((i:Int)+(j:Int))=(i:Int)+(j:Int):=by rw[IntKind.wrap_i64];omega
   have T:((i:Int)+(j:Int)) / 2 < n:=by omega
   have X:(0:Int)<=((i:Int)+(j:Int)) / 2:=by omega
   have V:IntKind.i64.wrap (((i:Int)+(j:Int)) / 2)=((i:Int)+(j:Int)) / 2:=by rw[IntKind.wrap_i64];omega
   have o:=cmpE (vv:=e.vv) ((f.dW e (List.mem_of_getElem? he)).k.by) (h.keep g)
   have s:(kys es)[m]?=some e.kl:=by simp[kys,he]
   rw[hm] at q0 q1
   have B:Hid (m=(i+j) / 2):=hm;clear f hm;by_cases hc:Lt e.kl k
   ·rw[pV hc] at o;go_wp2_with (go_at_call 208;refine o.mono ?_;rintro P O ⟨rfl,d⟩);go_roundw
    case rel=>exact⟨m + 1,j,by have:=B.out; congr 1; omega,rfl,by omega,F,fun q x u hx=>by
     by_cases l:q=m
     ·subst l;rw[s] at hx;cases hx;exact hc
     ·exact S.get (by omega) hx s |>.trans hc,N.out,aB g d⟩
    case measure=>have:=B.out;simp[intOf];omega
   ·have H:¬ (dw e.kl k < 0):=by
     rcases jI e.kl k with q | q | q
     ·exact absurd q hc
     ·rw[q];decide
     ·rw[q];decide
    generalize dw e.kl k=x at o H;go_wp2_with (go_at_call 208;refine o.mono ?_;rintro P O ⟨rfl,d⟩);go_roundw
    case rel=>exact⟨i,m,rfl,by have:=B.out; congr 1; omega,by omega,by omega,H1.out,fun q x u hx=>by
     by_cases l:q=m
     ·subst l;rw[s] at hx;cases hx;exact hc
     ·intro G
      exact hc ((S.get (by omega) s hx).trans G),aB g d⟩
    case measure=>have:=B.out;simp[intOf];omega
  ·have I:i=j:=by omega
   subst I
   have E:Hid (plc (kys es) k=i):=vi (by simp[kys];omega) (fun q x u hx=>H1.out q x u hx) (fun x hx=>N.out i x (Nat.le_refl _) hx)
   have f:=A.keep g;by_cases Z:i < n
   ·obtain⟨e,he⟩:∃ e,es[i]?=some e:=⟨es[i],List.getElem?_eq_getElem (by omega)⟩
    have q0:=f.row.cell (rj he);have q1:=f.row.cell (kX he)
    have s:(kys es)[i]?=some e.kl:=by simp[kys,he]
    have o:=cmpE (vv:=e.vv) ((f.dW e (List.mem_of_getElem? he)).k.by) (h.keep g)
    have C:Hid (thr (kys es) k=(dw e.kl k == 0)):=by
     show _=_
     unfold thr;rw[E.out,s];by_cases q:e.kl=k
     ·subst q;simp[iX]
     ·have:dw e.kl k≠0:=fun z=>q (qj z)
      simp[q,this]
    have t:(i:Int) < n:=by omega
    generalize dw e.kl k=x at o C;clear f;go_wp2_with (go_at_call 208;refine o.mono ?_;rintro P O ⟨rfl,d⟩)
    all_goals (
     go_ret2;refine⟨?_,aB g d⟩;rw[C.out,E.out]
     rfl)
   ·have C:Hid (thr (kys es) k=false):=by
     show _=_
     unfold thr;rw[E.out,List.getElem?_eq_none (by simp[kys];omega)];rfl
    have t:¬ ((i:Int) < n):=by omega
    go_wp2;go_ret2;refine⟨?_,g⟩;rw[C.out,E.out];rfl
theorem im(A:PgA w D p)(S:Srt (kys p.es))(h:By w v k)(hn:p.es.length<=1000000) :
  Calls Tryz.prog 169 #[p.v,v] w fun e w'=>e=.returned (.tuple #[.int .i64 (plc (kys p.es) k),.bool (thr (kys p.es) k)])/\Below w.heap.size w w':=by
 have t:=bsE A S h hn;generalize plc (kys p.es) k=x at *;generalize thr (kys p.es) k=y at *;simp only[Pg.v] at *;clear A S h;go_enter Tryz.func169,Tryz.ntmps169;go_wp2_with (go_at_call 207;refine t.mono ?_;rintro d c ⟨rfl,b⟩);go_ret2;exact⟨rfl,b⟩
end
end Pg
end
section
namespace Pg
open Go.RowKit Go.Lib
section
variable {w w':World}{F D:Nat->Prop}{g b:Nat}{L:List Pg}{P:List (List En)}{es:List En}
structure bU(w:World)(F D:Nat->Prop)(g:Nat)(L:List Pg):Prop where
 top:∃ pv,Blk w g [pv] 148/\F g/\((pv=.slice none 0 0/\L=[])\/∃ G C,pv=.slice (some ⟨G,0,none⟩) L.length C/\F G/\Rw w 188 1 G L.length C (L.map Pg.v))
 cI:∀ p∈L,PgA w D p/\F p.b
 apart:(L.map Pg.b).Nodup
 kind:∀ b,F b->∃ cs t,Blk w b cs t/\t≠5
theorem bU.lt(h:bU w F D g L)(hb:F b):b < w.heap.size:=by
 obtain⟨cs,t,h,_⟩:=h.kind b hb;exact h.lt
theorem bU.same(h:bU w F D g L)(f:∀ b,F b->w'.heap[b]?=w.heap[b]?)(n:∀ b,b < w.heap.size->D b->(∃ cs,Blk w b cs 5)->w'.heap[b]?=w.heap[b]?):bU w' F D g L:=by
 obtain⟨q,hb,j,i⟩:=h.top
 have a:∀ {v:Value} {l:List Int},OB w D v l->OB w' D v l:=fun h=>⟨h.oct,h.ex.imp id (by
  rintro⟨b,c,e,hd,d⟩
  exact⟨b,c,e,hd,d.same (n b d.lt hd d.kind)⟩)⟩
 refine⟨⟨q,hb.same (f g j),j,i.imp id ?_⟩,fun p i=>?_,h.apart,fun b hb=>?_⟩
 ·rintro⟨G,C,e,m,d⟩;exact⟨G,C,e,m,d.same (f G m)⟩
 ·obtain⟨hA,hF⟩:=h.cI p i;exact⟨⟨hA.row.same (f _ hF),fun e he=>⟨a (hA.dW e he).k,a (hA.dW e he).v⟩⟩,hF⟩
 ·obtain⟨cs,t,r,o⟩:=h.kind b hb;exact⟨cs,t,r.same (f b hb),o⟩
theorem bU.keep(h:bU w F D g L)(hb:Below w.heap.size w w'):bU w' F D g L:=h.same (fun b hF=>hb.block b (h.lt hF)) (fun b hl _ _=>hb.block b hl)
theorem bU.drew(h:bU w F D g L):bU w.drew F D g L:=h.same (fun _ _=>rfl) (fun _ _ _ _=>rfl)
theorem bU.chg{F':Nat->Prop}(h:bU w F D g L)(hc:Chg F' w w')(e:∀ b,F' b->¬ F b)(c:∀ b,F' b->∀ cs,¬ Blk w b cs 5):bU w' F D g L :=
 h.same (fun b hF=>hc.same b (h.lt hF) fun f=>e b f hF) (fun b a _ d=>hc.same b a fun f=>by obtain⟨cs,k⟩:=d;exact c b f cs k)
theorem bU.noU(h:bU w F D g L)(hb:F b)(cs:List Value):¬ Blk w b cs 5:=fun k=>by
 obtain⟨cs',t,hk,ht⟩:=h.kind b hb;exact ht (hk.eq k).2
theorem bU.mono{D':Nat->Prop}(h:bU w F D g L)(c:∀ b,b < w.heap.size->D b->D' b):bU w F D' g L :=
 ⟨h.top,fun p a=>⟨⟨(h.cI p a).1.row,fun e he=>((h.cI p a).1.dW e he).mono c⟩,(h.cI p a).2⟩,h.apart,h.kind⟩
def ens(L:List Pg):List (List En):=L.map Pg.es
def fks(P:List (List En)):List (List Int):=P.map fun es=>(kys es).headD []
def plq:List (List Int)->List Int->Nat
 | [],_=>0
 | x :: l,k=>if Lt k x then 0 else plq l k+1
theorem pR:∀ (l:List (List Int)) (k:List Int),plq l k<=l.length
 | [],_=>Nat.le_refl _
 | x :: l,k=>by
  rw[plq];split
  ·simp
  ·have:=pR l k;simp;omega
theorem yS:∀ {l:List (List Int)} {k:List Int} {i:Nat},i<=l.length->(∀ j x,j < i->l[j]?=some x->¬ Lt k x)->(∀ x,l[i]?=some x->Lt k x)->plq l k=i
 | [],_,i,h,_,_=>by simp at h;subst h;rfl
 | x :: l,k,0,_,_,h3=>by rw[plq,if_pos (h3 x rfl)]
 | x :: l,k,i + 1,h1,h2,h3=>by
  rw[plq,if_neg (h2 0 x (by omega) rfl),yS (l:=l) (i:=i) (by simpa using h1) (fun j y hj hy=>h2 (j+1) y (by omega) (by simpa using hy)) (fun y hy=>h3 y (by simpa using hy))]
theorem Ct:∀ {l:List (List Int)} {k:List Int} {j:Nat} {x:List Int},j < plq l k->l[j]?=some x->¬ Lt k x
 | [],_,_,_,h,_=>by simp[plq] at h
 | y :: l,k,j,x,h,hx=>by
  rw[plq] at h;split at h
  ·omega
  ·cases j with
   | zero=>simp at hx;subst hx;assumption
   | succ j=>exact Ct (l:=l) (j:=j) (by omega) (by simpa using hx)
theorem AE:∀ {l:List (List Int)} {k:List Int} {x:List Int},l[plq l k]?=some x->Lt k x
 | [],_,_,h=>by simp at h
 | y :: l,k,x,h=>by
  rw[plq] at h;split at h
  ·simp at h;subst h;assumption
  ·exact AE (l:=l) (by simpa using h)
def pgi(P:List (List En))(k:List Int):Nat:=plq (fks P) k - 1
structure Ord(P:List (List En)):Prop where
 full:∀ es∈P,es≠[]
 gZ:Srt (kys P.flatten)
theorem Ord.page(h:Ord P){i:Nat}(hi:P[i]?=some es):Srt (kys es):=by
 have hm:=List.mem_of_getElem? hi;have:(kys es).Sublist (kys P.flatten):=(List.sublist_flatten_of_mem hm).map _;exact h.gZ.sublist this
theorem kD(h:es≠[]):∃ e l,es=e :: l/\(kys es).headD []=e.kl:=by
 cases es with
 | nil=>exact absurd rfl h
 | cons e l=>exact⟨e,l,rfl,rfl⟩
theorem Ord.yO:∀ {P:List (List En)},Ord P->Srt (fks P)
 | [],_=>List.Pairwise.nil
 | es :: P,h=>by
  have h2:Ord P:=⟨fun x hx=>h.full x (List.mem_cons_of_mem _ hx),by
   have:=h.gZ;simp only[Srt,kys,List.flatten_cons,List.map_append,List.pairwise_append] at this
   exact this.2.1⟩
  refine List.Pairwise.cons (fun x hx=>?_) (Ord.yO h2);obtain⟨fs,a,rfl⟩:=List.mem_map.1 hx;obtain⟨e,l,rfl,he⟩:=kD (h.full es List.mem_cons_self);obtain⟨f,m,rfl,hf⟩:=kD (h2.full fs a)
  show Lt e.kl f.kl
  have:=h.gZ;simp only[Srt,kys,List.flatten_cons,List.map_append,List.pairwise_append] at this;exact this.2.2 e.kl (by simp) f.kl (List.mem_map.2 ⟨f,List.mem_flatten.2 ⟨_,a,List.mem_cons_self⟩,rfl⟩)
end
end Pg
end
section
namespace Pg
open Go.RowKit Go.Lib
section
variable {L:List Pg}{i g:Nat}{p:Pg}{w:World}{F D:Nat->Prop}{v:Value}{k:List Int}{P:List (List En)}
theorem rr(h:L[i]?=some p):(ens L)[i]?=some p.es:=by simp[ens,h]
theorem DY(h:L[i]?=some p):(fks (ens L))[i]?=some ((kys p.es).headD []):=by simp[ens,fks,h]
theorem bU.head(A:bU w F D g L)(O:Ord (ens L))(h:L[i]?=some p):∃ kv,w.cell? ⟨p.b,0,none⟩=some kv/\By w kv ((kys p.es).headD []):=by
 have a:=List.mem_of_getElem? h
 have hm:p.es∈ens L:=List.mem_map.2 ⟨p,a,rfl⟩;obtain⟨e,l,he,c⟩:=kD (O.full _ hm);obtain⟨hA,_⟩:=A.cI p a;have q:=hA.row.cell (i:=0) (v:=e.kv) (by rw[he];rfl);exact⟨e.kv,q,by rw[c];exact(hA.dW e (by rw[he];exact List.mem_cons_self)).k.by⟩
theorem bU.rd(A:bU w F D g L):∃ ao c,w.cell? ⟨g,0,none⟩=some (.slice ao L.length c)/\L.length<=c/\c<=9223372036854775807/\(∀ i p,L[i]?=some p->∃ G,ao=some ⟨G,0,none⟩/\w.cell? ⟨G,i,none⟩=some p.v):=by
 obtain⟨f,hb,d,⟨rfl,rfl⟩ | ⟨G,C,rfl,e,a⟩⟩:=A.top
 ·exact⟨_,_,hb.cell (i:=0) rfl,by decide,by decide,fun i p h=>by simp at h⟩
 ·have b:=a.le;simp only[maxLen] at b;exact⟨_,C,hb.cell (i:=0) rfl,by omega,by omega,fun i p h=>⟨G,rfl,a.cell (by simp[h])⟩⟩
theorem jA(A:bU w F D g L)(O:Ord (ens L))(h:By w v k)(hn:L.length<=1000000000) :
  Calls Tryz.prog 167 #[.pointer (some ⟨g,0,none⟩),v] w fun e w'=>e=.returned (.int .i64 (pgi (ens L) k))/\Below w.heap.size w w':=by
 obtain⟨S,c,hc,R,hc2,N⟩:=A.rd;have l:=O.yO;obtain⟨s,r⟩:∃ s,Hid (fks (ens L)=s):=⟨_,rfl⟩
 rw[r.out] at l;obtain⟨n,t⟩:∃ n,Hid (L.length=n):=⟨_,rfl⟩
 rw[t.out] at hc R hn
 have hkl:s.length=n:=by rw[<- r.out,<- t.out];simp[fks,ens]
 have Q:Below w.heap.size w w.drew:=⟨rfl,rfl,rfl,Nat.le_refl _,fun _ _=>rfl⟩
 have hcd:w.drew.cell? ⟨g,0,none⟩=some (.slice S n c):=hc
 have d:∀ (i:Nat),i<=n->(∀ q x,q < i->s[q]? = some x->¬ Lt k x)->(∀ q x,i<=q->s[q]? = some x->Lt k x)->pgi (ens L) k=i - 1:=fun i hi h1 h2=>by
  unfold pgi;rw[r.out,yS (i:=i) (by omega) (fun j x hj hx=>h1 j x hj hx) (fun x hx=>h2 i x (Nat.le_refl _) hx)]
 have d:Hid _:=d;have mixed:=mixed;go_enter Tryz.func167,Tryz.ntmps167;go_wp2;go_step3;go_wp2;go_region;go_wp2;go_step3;go_wp2;go_loopw [5,6] (fun K J wr=>∃ i j:Nat,K=.int .i64 i/\J=.int .i64 j/\i<=j/\j<=n/\Hid (∀ q x,q < i->s[q]?=some x->¬ Lt k x)/\Hid (∀ q x,j<=q->s[q]?=some x->Lt k x)/\Below w.heap.size w wr) (fun K J _=>(intOf J).toNat - (intOf K).toNat)
 case atStart=>exact⟨0,n,rfl,rfl,Nat.zero_le _,Nat.le_refl _,fun q x B=>by omega,fun q x B hx=>by
  have:=(List.getElem?_eq_some_iff.1 hx).1
  omega,Q⟩
 case round =>
  obtain⟨i,j,rfl,rfl,hij,H,H1,U,o⟩:=hrel;by_cases hlt:i < j
  ·obtain⟨m,hm⟩:∃ m,m=i+(j - i) / 2:=⟨_,rfl⟩
   have hm1:i<=m:=by omega
   have hm2:m < j:=by omega
   obtain⟨p,E⟩:∃ p,L[m]?=some p:=⟨L[m]'(by have:=t.out;omega),List.getElem?_eq_getElem _⟩
   have Y:=A.keep o
   have c0:wr.cell? ⟨g,0,none⟩=some (.slice S n c):=by
    rw[o.cell (p:=⟨g,0,none⟩) (by obtain⟨_,hb,_⟩:=A.top;exact hb.lt)];exact hc
   obtain⟨G,rfl,Z⟩:=N m p E
   have z:wr.cell? ⟨G,m,none⟩=some p.v:=by
    rw[o.cell (p:=⟨G,m,none⟩) (aL Z)];exact Z
   obtain⟨kv,cK,T⟩:=Y.head O E
   have b:s[m]?=some ((kys p.es).headD []):=by rw[<- r.out];exact DY E
   have hpe:0 < p.es.length:=by
    have:=O.full p.es (List.mem_map.2 ⟨p,List.mem_of_getElem? E,rfl⟩);exact List.length_pos_iff.2 this
   simp only[Pg.v] at z;rw[hm] at z;have u:=lS T (h.keep o);generalize (kys p.es).headD []=W at *
   have y:Hid (m=i+(j - i) / 2):=hm
   have hz0:(0:Int)<=(i:Int)+((j:Int) - (i:Int)) / 2:=by omega
   have hz1:(i:Int)+((j:Int) - (i:Int)) / 2 < n:=by omega
   have hz2:((i:Int)+((j:Int) - (i:Int)) / 2).toNat=i+(j - i) / 2:=by omega
   generalize p.es.length=pn at *;clear Y hm T;rcases qy W k with hc | hc | hc
   ·rw[pV hc] at u;go_wp2_with (go_at_call 206;refine u.mono ?_;rintro X V ⟨rfl,rfl⟩);go_roundw
    case rel=>exact⟨m + 1,j,by have:=y.out; congr 1; omega,rfl,by omega,H,fun q x B hx=>by
     by_cases f:q=m
     ·subst f;rw[b] at hx;cases hx;exact hc.not
     ·exact((l.get (by omega) hx b).trans hc).not,U.out,o⟩
    case measure=>have:=y.out;simp[intOf];omega
   ·have hF:=d.out (m + 1) (by omega) (fun q x B hx=>by
     subst hc;by_cases f:q=m
     ·subst f;rw[b] at hx;cases hx;exact lt_irrefl _
     ·exact(l.get (by omega) hx b).not) (fun q x B hx=>by subst hc;exact l.get (by omega) b hx)
    have C:Hid (pgi (ens L) k=m):=by show _=_;rw[hF];omega
    have HC:Hid (W=k):=hc;rw[hc,iX] at u
    have hx0:(i:Int)+((j:Int) - (i:Int)) / 2+1 - 1=(i:Int)+((j:Int) - (i:Int)) / 2:=by omega
    have P:¬ ((i:Int)+((j:Int) - (i:Int)) / 2 < 0):=by omega
    clear hF hc;go_wp2_with (go_at_call 206;refine u.mono ?_;rintro X V ⟨rfl,rfl⟩);simp only[Exit.noGoto_ret];go_ret;refine⟨?_,o⟩;rw[C.out];have:=y.out
    show Ending.returned (Value.int .i64 ((i:Int)+((j:Int) - (i:Int)) / 2))=_
    rw[show (i:Int)+((j:Int) - (i:Int)) / 2=(m:Int) by omega]
   ·rw[Ed hc] at u;go_wp2_with (go_at_call 206;refine u.mono ?_;rintro X V ⟨rfl,rfl⟩);go_roundw
    case rel=>exact⟨i,m,rfl,by have:=y.out; congr 1; omega,by omega,by omega,H1.out,fun q x B hx=>by
     by_cases f:q=m
     ·subst f;rw[b] at hx;cases hx;exact hc
     ·exact hc.trans (l.get (by omega) b hx),o⟩
    case measure=>have:=y.out;simp[intOf];omega
  ·have I:i=j:=by omega
   subst I
   have C:Hid (pgi (ens L) k=i - 1):=d.out i (by omega) H1.out U.out;by_cases M:i=0
   ·subst M;go_wp2
    try simp only[Exit.noGoto_ret]
    go_ret;refine⟨?_,o⟩;rw[C.out];rfl
   ·have P:¬ ((i:Int) - 1 < 0):=by omega
    have aa:(0:Int)<=(i:Int) - 1:=by omega
    go_wp2
    try simp only[Exit.noGoto_ret]
    go_ret;refine⟨?_,o⟩;rw[C.out]
    show Ending.returned (Value.int .i64 ((i:Int) - 1))=_
    rw[show (i:Int) - 1=((i - 1:Nat):Int) by omega]
theorem pgi_lt(h:P≠[])(k:List Int):pgi P k < P.length:=by
 have h1:=pR (fks P) k
 have h2:0 < P.length:=List.length_pos_iff.2 h;simp only[fks,List.length_map] at h1;unfold pgi fks;omega
theorem oq(A:bU w F D g []) :
  Calls Tryz.prog 147 #[.pointer (some ⟨g,0,none⟩),v] w fun e w'=>e=.returned (.tuple #[.int .i64 0,.int .i64 0,.bool false])/\w'=w:=by
 obtain⟨i,c,hc,f,d,b⟩:=A.rd;simp only[List.length_nil] at hc;clear A b;go_enter Tryz.func147,Tryz.ntmps147;go_wp2;go_ret3;exact⟨rfl,rfl⟩
theorem mh(A:bU w F D g L)(O:Ord (ens L))(h:By w v k)(hn:L.length<=1000000000)(l:L[pgi (ens L) k]?=some p)(hs:p.es.length<=1000000) :
  Calls Tryz.prog 147 #[.pointer (some ⟨g,0,none⟩),v] w fun e w'=>e=.returned (.tuple #[.int .i64 (pgi (ens L) k),.int .i64 (plc (kys p.es) k),.bool (thr (kys p.es) k)])/\Below w.heap.size w w':=by
 have E:=jA A O h hn;have t:=(List.getElem?_eq_some_iff.1 l).1;have f:=List.mem_of_getElem? l
 have C:∀ w',Below w.heap.size w w'->Calls Tryz.prog 169 #[p.v,v] w' fun e q=>e=.returned (.tuple #[.int .i64 (plc (kys p.es) k),.bool (thr (kys p.es) k)])/\Below w'.heap.size w' q:=fun w' hb =>
  im ((A.cI p f).1.keep hb) (O.page (rr l)) (h.keep hb) hs
 obtain⟨N,c,hc,B,M,j⟩:=A.rd;obtain⟨G,rfl,H⟩:=j _ p l;have r:=aL hc;have m:=aL H;generalize pgi (ens L) k=i at *;generalize plc (kys p.es) k=x at *;generalize thr (kys p.es) k=y at *;obtain⟨n,z⟩:∃ n,L.length=n:=⟨_,rfl⟩
 rw[z] at hc B t
 have I:¬ ((n:Int)=0):=by omega
 have J:(i:Int) < n:=by omega
 simp only[Pg.v] at *;clear A O h j l f;go_enter Tryz.func147,Tryz.ntmps147;go_wp2_with (first | (go_at_call 167;refine E.mono ?_;rintro K s ⟨rfl,d⟩;have c1:s.cell? ⟨g,0,none⟩=some (.slice (some ⟨G,0,none⟩) n c):=(d.cell (p:=⟨g,0,none⟩) r).trans hc;have c2:s.cell? ⟨G,i,none⟩=some (.slice (some ⟨p.b,0,none⟩) p.es.length p.c):=(d.cell (p:=⟨G,i,none⟩) m).trans H;have o:=C s d;clear E C) | (go_at_call 169;refine o.mono ?_;rintro K P ⟨rfl,u⟩));go_ret3;exact⟨rfl,aB d u⟩
end
end Pg
end
section
namespace Pg
open Go.RowKit Go.Lib
section
variable {w w1:World}{F D:Nat->Prop}{g G n c i j:Nat}{L L':List Pg}{cs ds xs:List Value}{p q:Pg}{c0:Value}
theorem bU.opn(A:bU w F D g L)(h:L≠[]):∃ G C,Blk w g [.slice (some ⟨G,0,none⟩) L.length C] 148/\F g/\F G/\Rw w 188 1 G L.length C (L.map Pg.v):=by
 obtain⟨d,hb,b,⟨rfl,rfl⟩ | ⟨G,C,rfl,c,a⟩⟩:=A.top
 ·exact absurd rfl h
 ·exact⟨G,C,hb,b,c,a⟩
theorem eR{a b:Nat}{t u:TypeId}(h:Blk w a cs t)(h':Blk w b ds u)(ht:t≠u):a≠b:=fun e=>by subst e;exact ht (h.eq h').2
theorem PgA.fq(h:PgA w D p)(hg:Blk w g cs 148):p.b≠g:=by
 obtain⟨ds,k⟩:=h.row.kind;exact eR k hg (by decide)
theorem PgA.fx(h:PgA w D p)(hG:Rw w 188 1 G n c xs):p.b≠G:=by
 obtain⟨ds,k⟩:=h.row.kind;obtain⟨es,k'⟩:=hG.kind;exact eR k k' (by decide)
theorem Rw.fq(hG:Rw w 188 1 G n c xs)(hg:Blk w g cs 148):G≠g:=by
 obtain⟨es,k'⟩:=hG.kind;exact eR k' hg (by decide)
theorem mE(h:(L.map Pg.b).Nodup)(hi:L[i]?=some p)(c:L[j]?=some q)(a:i < j):p.b≠q.b:=by
 obtain⟨l1,e1⟩:=List.getElem?_eq_some_iff.1 hi;obtain⟨d,e2⟩:=List.getElem?_eq_some_iff.1 c;have:=List.pairwise_iff_getElem.1 h i j (by simpa using l1) (by simpa using d) a;simpa[e1,e2] using this
theorem rJ(h:(L.map Pg.b).Nodup)(hi:L[i]?=some p)(hj:L[j]?=some q)(hij:i≠j):p.b≠q.b:=by
 rcases Nat.lt_or_gt_of_ne hij with k | k
 ·exact mE h hi hj k
 ·exact(mE h hj hi k).symm
theorem BI(h:∀ (i j:Nat) (p q:Pg),L[i]?=some p->L[j]?=some q->i < j->p.b≠q.b):(L.map Pg.b).Nodup:=by
 refine List.pairwise_iff_getElem.2 fun i j e c a=>?_
 have l1:i < L.length:=by simpa using e
 have d:j < L.length:=by simpa using c
 simpa using h i j _ _ (List.getElem?_eq_getElem l1) (List.getElem?_eq_getElem d) a
theorem EnA.off{w':World}{e:En}(h:EnA w D e)(f:∀ b,b < w.heap.size->(∃ cs,Blk w b cs 5)->w'.heap[b]?=w.heap[b]?):EnA w' D e:=by
 have a:∀ {v:Value} {l:List Int},OB w D v l->OB w' D v l:=fun h=>⟨h.oct,h.ex.imp id (by
  rintro⟨b,c,e,hd,d⟩
  exact⟨b,c,e,hd,d.same (f b d.lt d.kind)⟩)⟩
 exact⟨a h.k,a h.v⟩
theorem bU.put{D':Nat->Prop}{C:Nat}{p':Pg}(A:bU w F D g L)(J:Blk w g [.slice (some ⟨G,0,none⟩) L.length C] 148)(I:F g)(s:F G)(B:Rw w 188 1 G L.length C (L.map Pg.v))(hi:L[i]?=some p)(hC:Chg (·=p.b) w w1)(hb:p'.b=p.b\/w.heap.size<=p'.b)(hA:PgA w1 D' p')(V:∀ b,b < w.heap.size->D b->D' b) :
  bU (w1.setCell ⟨G,i,none⟩ p'.v) (fun x=>(F x/\x≠p.b)\/x=p'.b) D' g (L.set i p')/\Chg F w (w1.setCell ⟨G,i,none⟩ p'.v):=by
 have h:=(List.getElem?_eq_some_iff.1 hi).1;have N:=A.cI p (List.mem_of_getElem? hi);have R:=N.1.fq J;have S:=N.1.fx B;have U:=B.fq J
 have M:Blk w1 g _ _:=J.chg hC (fun e=>R e.symm);have l:=B.chg hC (fun e=>S e.symm);have z:=l.set i (by simpa using h) p'.v
 have P:p'.b≠G:=hA.fx l
 have r:Chg F w (w1.setCell ⟨G,i,none⟩ p'.v):=(hC.mono (F':=F) (fun b _ e=>by subst e;exact N.2)).cell (.inl s) _
 have H:∀ b,b < w.heap.size->(∃ cs,Blk w b cs 5)->(w1.setCell ⟨G,i,none⟩ p'.v).heap[b]? = w.heap[b]? := fun b hb K=>by
  obtain⟨cs,k⟩:=K;exact r.same b hb fun f=>A.noU f cs k
 have c:∀ b,b≠G->(w1.setCell ⟨G,i,none⟩ p'.v).heap[b]?=w1.heap[b]?:=fun b hb=>Below.heap_setCell w1 _ _ b hb
 refine⟨⟨⟨_,M.off (fun e=>U e.symm) _,.inl ⟨I,fun e=>R e.symm⟩,.inr ⟨G,C,?_,.inl ⟨s,fun e=>S e.symm⟩,?_⟩⟩,fun q W=>?_,BI fun x y a b hx hy O=>?_,fun b hb=>?_⟩,r⟩
 ·rw[List.length_set]
 ·rw[List.length_set];refine z.to ?_
  rw[List.map_set]
 ·obtain⟨j,m⟩:=List.getElem?_of_mem W;rw[List.getElem?_set] at m;by_cases e:i=j
  ·subst e;rw[if_pos rfl,if_pos h] at m
   cases m;refine⟨⟨hA.row.same (c _ P),fun e he=>(hA.dW e he).off fun b _ K=>?_⟩,.inr rfl⟩;obtain⟨cs,k⟩:=K;obtain⟨Q,E⟩:=l.kind;exact c b (eR k E (by decide))
  ·rw[if_neg e] at m;have d:=A.cI q (List.mem_of_getElem? m)
   have o:q.b≠p.b:=fun n=>rJ A.apart hi m e n.symm
   exact⟨⟨(d.1.row.chg hC o).same (c _ (d.1.fx B)),fun e he=>((d.1.dW e he).mono V).off H⟩,.inl ⟨d.2,o⟩⟩
 ·have key:∀ (y:Nat) (b:Pg),y≠i->L[y]? = some b->p'.b≠b.b:=fun y b hy u=>by
   rcases hb with e | e
   ·rw[e];exact rJ A.apart hi u (fun n=>hy n.symm)
   ·have:=(A.cI b (List.mem_of_getElem? u)).1.row.lt;omega
  rw[List.getElem?_set] at hx hy;by_cases e:i=x
  ·subst e;rw[if_pos rfl,if_pos h] at hx
   cases hx;rw[if_neg (by omega)] at hy;exact key y b (by omega) hy
  ·rw[if_neg e] at hx;by_cases n:i=y
   ·subst n;rw[if_pos rfl,if_pos h] at hy
    cases hy;exact(key x a (by omega) hx).symm
   ·rw[if_neg n] at hy;exact mE A.apart hx hy O
 ·by_cases e:b=p'.b
  ·subst e;obtain⟨cs,k⟩:=hA.row.kind;exact⟨cs,_,k.same (c _ P),by decide⟩
  ·obtain⟨hF,e2⟩:=hb.resolve_right e;obtain⟨cs,t,k,T⟩:=A.kind b hF;by_cases e1:b=G
   ·subst e1;obtain⟨Q,E⟩:=z.kind;exact⟨Q,_,E,by decide⟩
   ·exact⟨cs,t,(k.chg hC e2).same (c b e1),T⟩
theorem lp{G' C':Nat}(L:∀ p∈L',PgA w D p/\F p.b)(A:(L'.map Pg.b).Nodup)(J:∀ b,F b->∃ cs t,Blk w b cs t/\t≠5)(I:Blk w g [c0] 148)(r:F g)(B:F G)(h:G≠g)(hC:Chg (·=G) w w1)(j:∀ p∈L',p.b≠G)(hn:L'.length=n)(H:Rw w1 188 1 G' n C' (L'.map Pg.v)) :
  bU (w1.setCell ⟨g,0,none⟩ (.slice (some ⟨G',0,none⟩) n C')) (fun x=>(F x/\x≠G)\/x=G') D g L'/\Chg F w (w1.setCell ⟨g,0,none⟩ (.slice (some ⟨G',0,none⟩) n C')):=by
 subst hn
 have m:Blk w1 g [c0] 148:=I.chg hC (fun e=>h e.symm);have o:=m.setCell (i:=0) (.slice (some ⟨G',0,none⟩) L'.length C')
 have d:G'≠g:=H.fq m
 have a:∀ b,b≠g->(w1.setCell ⟨g,0,none⟩ (.slice (some ⟨G',0,none⟩) L'.length C')).heap[b]?=w1.heap[b]?:=fun b hb=>Below.heap_setCell w1 _ _ b hb
 have l:Chg F w (w1.setCell ⟨g,0,none⟩ (.slice (some ⟨G',0,none⟩) L'.length C')):=(hC.mono (F':=F) (fun b _ e=>by subst e;exact B)).cell (.inl r) _
 have E:∀ b,b < w.heap.size->(∃ cs,Blk w b cs 5)->(w1.setCell ⟨g,0,none⟩ (.slice (some ⟨G',0,none⟩) L'.length C')).heap[b]? = w.heap[b]? := fun b hb u=>by
  obtain⟨cs,k⟩:=u;exact l.same b hb fun f=>by
   obtain⟨K,t,y,s⟩:=J b f;exact s (y.eq k).2
 refine⟨⟨⟨_,o,.inl ⟨r,fun e=>h e.symm⟩,.inr ⟨G',C',rfl,.inr rfl,H.same (a _ d)⟩⟩,fun q z=>?_,A,fun b hb=>?_⟩,l⟩
 ·have c:=L q z;exact⟨⟨(c.1.row.chg hC (j q z)).same (a _ (c.1.fq I)),fun e he=>(c.1.dW e he).off E⟩,.inl ⟨c.2,j q z⟩⟩
 ·by_cases e:b=G'
  ·subst e;obtain⟨C,k⟩:=H.kind;exact⟨C,_,k.same (a _ d),by decide⟩
  ·obtain⟨hF,e2⟩:=hb.resolve_right e;obtain⟨C,t,k,s⟩:=J b hF;by_cases e1:b=g
   ·subst e1;exact⟨_,_,o,by decide⟩
   ·exact⟨C,t,(k.chg hC e2).same (a b e1),s⟩
theorem uf(L:List Pg):∀ v∈L.map Pg.v,v.oneCell'=true:=fun v hv=>by
 obtain⟨p,_,rfl⟩:=List.mem_map.1 hv;rfl
end
end Pg
end
section
namespace Pg
open Go.RowKit Go.Lib
section
variable {ops:Array Oper} {Q:Exit->Act->World->Prop} {S:World->Prop} {fuel:Nat} {listed:Array Bool} {a:Act} {w:World}
section
variable {Qc:Ending->World->Prop}
def nV(ops:Array Oper)(listed:Array Bool)(a:Act)(i:Nat)(d:Option Tmp):Bool :=
 Region.noSelect ops && Region.free .any ops listed i && (Region.ready .any ops listed).contains i && decide (i < ops.size) && Region.wanted (ops.getD i default) (yielded ops a.tmps) && decide ((ops.getD i default).dst=d)
def Fe(ops:Array Oper)(listed:Array Bool)(a:Act)(i:Nat)(d:Option Tmp):Bool :=
 Region.noSelect ops && Region.free .any ops listed i && (Region.ready .any ops listed).contains i && decide (i < ops.size) && !Region.wanted (ops.getD i default) (yielded ops a.tmps) && decide ((ops.getD i default).dst=d)
def lG(ops:Array Oper)(listed:Array Bool)(a:Act)(i:Nat)(d:Option Tmp):Bool :=
 decide (Region.ready .any ops listed=[i]) && decide (i < ops.size) && Region.wanted (ops.getD i default) (yielded ops a.tmps) && decide ((ops.getD i default).dst=d)
theorem bZ{i:Nat}(h:i < ops.size):ops[i]?=some (ops.getD i default):=by
 simp[Array.getD,h]
theorem ai(i:Nat)(d:Option Tmp)(v:Value)(hc:nV ops listed a i d=true)(hy:∀ w',S w'->(execOp a.eval (ops.getD i default)).run Tryz.prog w'=.ok (.value v) w')(f:∀ c a w,Q (.panic c) (a.put d v) w->Q (.panic c) a w)(hS:S w)(h:wpAnyH Tryz.prog .any ops Q S fuel (listed.setIfInBounds i true) (a.put d v) w):wpAnyH Tryz.prog .any ops Q S (fuel+1) listed a w:=by
 simp only[nV,Bool.and_eq_true,decide_eq_true_eq] at hc;obtain⟨⟨⟨⟨⟨k,b⟩,e⟩,j⟩,l⟩,g⟩:=hc;subst g;exact wpAnyH_take (bZ j) k b e f (.inl ⟨l,hy⟩) hS h
theorem jq(i:Nat)(d:Option Tmp)(v b:Value)(hv:v=b)(hc:nV ops listed a i d=true)(hy:∀ w',S w'->(execOp a.eval (ops.getD i default)).run Tryz.prog w'=.ok (.value v) w')(e:∀ c a w,Q (.panic c) (a.put d b) w->Q (.panic c) a w)(hS:S w)(h:wpAnyH Tryz.prog .any ops Q S fuel (listed.setIfInBounds i true) (a.put d b) w):wpAnyH Tryz.prog .any ops Q S (fuel+1) listed a w:=by
 subst hv;exact ai i d v hc hy e hS h
theorem cQ(i:Nat)(d:Option Tmp)(hc:Fe ops listed a i d=true)(f:∀ c a w,Q (.panic c) (a.put d undef) w->Q (.panic c) a w)(hS:S w)(h:wpAnyH Tryz.prog .any ops Q S fuel (listed.setIfInBounds i true) (a.put d undef) w):wpAnyH Tryz.prog .any ops Q S (fuel+1) listed a w:=by
 simp only[Fe,Bool.and_eq_true,decide_eq_true_eq,Bool.not_eq_true'] at hc;obtain⟨⟨⟨⟨⟨k,b⟩,e⟩,j⟩,l⟩,g⟩:=hc;subst g;exact wpAnyH_take (bZ j) k b e f (.inr ⟨l,rfl⟩) hS h
theorem aU(i:Nat)(d:Option Tmp)(v:Value)(T:TypeId)(k g o:Nat)(hc:nV ops listed a i d=true)(f:(ops.getD i default).op=.load T (.tmp k))(e:a.eval (.tmp k)=.pointer (some ⟨g,o,none⟩))(j:∀ w',S w'->(loadVar T ⟨g,o,none⟩).run Tryz.prog w'=.ok v w')(l:∀ c a w,Q (.panic c) (a.put d v) w->Q (.panic c) a w)(hS:S w)(h:wpAnyH Tryz.prog .any ops Q S fuel (listed.setIfInBounds i true) (a.put d v) w):wpAnyH Tryz.prog .any ops Q S (fuel+1) listed a w :=
 ai i d v hc (fun w' b=>by
  have:=j w' b;simp only[execOp,f,e]
  simp[Instr.loadAt,Instr.sureAddr,Result.andThen,this]) l hS h
theorem bS(i:Nat)(d:Option Tmp)(f:FuncId)(args:Array Value)(hc:lG ops listed a i d=true)(hrun:(execOp a.eval (ops.getD i default)).run Tryz.prog w=.ok (.enter f args) w)(b:Calls Tryz.prog f args w Qc)(g:∀ e w',Qc e w'->∃ v,e=.returned v/\S w'/\wpAnyH Tryz.prog .any ops Q S fuel (listed.setIfInBounds i true) (a.put d v) w') :
  wpAnyH Tryz.prog .any ops Q S (fuel+1) listed a w:=by
 simp only[lG,Bool.and_eq_true,decide_eq_true_eq] at hc;obtain⟨⟨⟨m,h⟩,l⟩,n⟩:=hc;subst n;refine wpAnyH_all m (by simp) fun j o=>?_
 obtain rfl:j=i:=by simpa using o
 refine wpOp_step (bZ h) fun K k=>?_
 rw[if_pos l];unfold Oper.wp;rw[hrun];refine b.mono fun e w' he=>?_
 obtain⟨v,rfl,c,hw⟩:=g e w' he;exact k _ _ ⟨c,hw⟩
theorem bQ(hr:Region.ready .any ops listed=[])(h:Q .normal a w):wpAnyH Tryz.prog .any ops Q S fuel listed a w:=wpAnyH_done hr h fuel
theorem bT{id:Nat}(hm:Tryz.prog.follows .mixedOrders=true)(hS:S w.drew)(h:wpAnyH Tryz.prog .any ops Q S ops.size (Array.replicate ops.size false) a w.drew):(Code.region id ops true).wp Tryz.prog Q a w :=
 wp_region_held_drew hm hS fun _=>h
end
end
def jC (a:Act):List (Option Tmp × Value)->Act
 | []=>a
 | p :: l=>jC (a.put p.1 p.2) l
section
variable {ops:Array Oper} {Q:Exit->Act->World->Prop} {S:World->Prop} {fuel:Nat} {listed:Array Bool} {a:Act} {w:World}
section
variable {K:Act->World->Prop}{rs:List Nat}{Qc:Ending->World->Prop}
theorem qx{X:Type}{id:Nat}{c:Exit->Act->World->Prop}(upd:X->List (Option Tmp × Value))(F:X->World->Prop)(S:World->Prop)(hm:Tryz.prog.follows .mixedOrders=true)(hS:S w.drew)(d:wpAnyH Tryz.prog .any ops (Exit.then (fun a' w'=>∃ x,a'=jC a (upd x)/\F x w') (fun _ _ _=>False)) S ops.size (Array.replicate ops.size false) a w.drew)(b:∀ x w',F x w'->K (jC a (upd x)) w'):(Code.region id ops true).wp Tryz.prog (Exit.then K c) a w :=
 Code.wp_mono (fun e a' w' h=>by
  cases e<;>first
   | (obtain⟨x,rfl,hF⟩:=h;exact b x w' hF)
   | exact h.elim) (wp_region_held_drew (S:=S) hm hS fun _=>d)
def iq(ops:Array Oper)(a:Act)(i:Nat)(d:Option Tmp):Bool :=
 decide (i < ops.size) && Region.wanted (ops.getD i default) (yielded ops a.tmps) && decide ((ops.getD i default).dst=d)
theorem aN(rs:List Nat)(hr:Region.ready .any ops listed=rs)(hne:rs≠[])(h:AllReadyH Tryz.prog .any ops Q S fuel listed a w rs):wpAnyH Tryz.prog .any ops Q S (fuel+1) listed a w:=wpAnyH_ready hr hne h
theorem bj:AllReadyH Tryz.prog .any ops Q S fuel listed a w []:=AllReadyH.nil
theorem wG(i:Nat)(d:Option Tmp)(f:FuncId)(args:Array Value)(hc:iq ops a i d=true)(hrun:(execOp a.eval (ops.getD i default)).run Tryz.prog w=.ok (.enter f args) w)(b:Calls Tryz.prog f args w Qc)(g:∀ e w',Qc e w'->∃ v,e=.returned v/\S w'/\wpAnyH Tryz.prog .any ops Q S fuel (listed.setIfInBounds i true) (a.put d v) w')(hs:AllReadyH Tryz.prog .any ops Q S fuel listed a w rs):AllReadyH Tryz.prog .any ops Q S fuel listed a w (i :: rs):=by
 simp only[iq,Bool.and_eq_true,decide_eq_true_eq] at hc;obtain⟨⟨h,k⟩,l⟩:=hc;subst l;refine AllReadyH.cons (bZ h) (fun K j=>?_) hs;rw[if_pos k];unfold Oper.wp;rw[hrun];refine b.mono fun e w' he=>?_
 obtain⟨v,rfl,c,hw⟩:=g e w' he;exact j.out _ _ c fun _=>hw
theorem bH(i:Nat)(d:Option Tmp)(v:Value)(w1:World)(hc:iq ops a i d=true)(hrun:(execOp a.eval (ops.getD i default)).run Tryz.prog w=.ok (.value v) w1)(b:S w1)(h:wpAnyH Tryz.prog .any ops Q S fuel (listed.setIfInBounds i true) (a.put d v) w1)(hs:AllReadyH Tryz.prog .any ops Q S fuel listed a w rs):AllReadyH Tryz.prog .any ops Q S fuel listed a w (i :: rs):=by
 simp only[iq,Bool.and_eq_true,decide_eq_true_eq] at hc;obtain⟨⟨c,f⟩,g⟩:=hc;subst g;refine AllReadyH.cons (bZ c) (fun K e=>?_) hs;rw[if_pos f];unfold Oper.wp;rw[hrun]
 show K (a.put (ops.getD i default).dst v) w1
 exact e.out _ _ b fun _=>h
theorem dD(i:Nat)(w1:World)(hc:iq ops a i none=true)(hrun:(execOp a.eval (ops.getD i default)).run Tryz.prog w=.ok .skip w1)(b:S w1)(h:wpAnyH Tryz.prog .any ops Q S fuel (listed.setIfInBounds i true) (a.put none undef) w1)(hs:AllReadyH Tryz.prog .any ops Q S fuel listed a w rs):AllReadyH Tryz.prog .any ops Q S fuel listed a w (i :: rs):=by
 simp only[iq,Bool.and_eq_true,decide_eq_true_eq] at hc;obtain⟨⟨c,e⟩,f⟩:=hc;refine AllReadyH.cons (bZ c) (fun K d=>?_) hs;rw[if_pos e];unfold Oper.wp;rw[hrun]
 show K (a.put (ops.getD i default).dst undef) w1
 rw[f];exact d.out _ _ b fun _=>h
end
end
section
variable {a:Act}{w:World}{x y k n c g off:Nat}{o:Oper}{v u:Value}{ao bo:Option Addr}
theorem eX{op:Oper}{T:TypeId}{b:Nat}(l:op.op=.indexAddr T (.tmp x) (.tmp y))(p:Tryz.prog.underlying T=some (.slice 188))(hx:a.eval (.tmp x)=.slice (some ⟨b,0,none⟩) n c){z:Int}(hy:a.eval (.tmp y)=.int .i64 z)(g:z=(k:Int))(o:k < n):(execOp a.eval op).run Tryz.prog w=.ok (.value (.pointer (some ⟨b,k,none⟩))) w:=by
 subst g
 have q:(k:Int) < n:=by omega
 have m:¬ ((k:Int) < 0):=by omega
 obtain⟨i0,hi,d,f,j⟩:=info_parts (P:=Tryz.prog) (show (Tryz.prog.info? 188).map (fun i=>(i.zero,i.size,i.bytes))=some (some (.slice none 0 0),1,24) by kernel_rfl);simp only[execOp,l,hx,hy];go_simp
theorem gE{o:Nat}(c:w.cell? ⟨g,o,none⟩=some v):(loadVar 146 ⟨g,o,none⟩).run Tryz.prog w=.ok v w:=by go_simp
theorem pQ{o:Nat}(c:w.cell? ⟨g,o,none⟩=some v):(loadVar 188 ⟨g,o,none⟩).run Tryz.prog w=.ok v w:=by go_simp
theorem ld_e(c:w.cell? ⟨g,0,none⟩=some v)(d:w.cell? ⟨g,1,none⟩=some u):(loadVar 185 ⟨g,0,none⟩).run Tryz.prog w=.ok (.agg #[v,u]) w:=by go_simp
theorem jx{T:TypeId}(k:Nat)(c:o.op=.load T (.tmp k))(b:a.eval (.tmp k)=.pointer (some ⟨g,off,none⟩))(d:(loadVar T ⟨g,off,none⟩).run Tryz.prog w=.ok v w):(execOp a.eval o).run Tryz.prog w=.ok (.value v) w:=by
 simp only[execOp,c,b];simp[Instr.loadAt,Instr.sureAddr,Result.andThen,d]
theorem kZ(k q:Nat)(d:o.op=.store 188 (.tmp k) (.tmp q))(b:a.eval (.tmp k)=.pointer (some ⟨g,off,none⟩))(f:a.eval (.tmp q)=.slice ao n c)(hc:w.cell? ⟨g,off,none⟩=some u)(hf:w.frozen? ⟨g,off,none⟩=false) :
  (execOp a.eval o).run Tryz.prog w=.ok .skip (w.setCell ⟨g,off,none⟩ (.slice ao n c)):=by
 simp only[execOp,d,b,f];go_simp
theorem qV{kv vv:Value}(b:o.op=.buildSlice 188 1 #[(0,.tmp k)])(d:a.eval (.tmp k)=.agg #[kv,vv]):(execOp a.eval o).run Tryz.prog w=.ok (.value (.slice (some ⟨w.heap.size,0,none⟩) 1 1)) (w.alloc (.cells #[kv,vv] 185)):=by
 have c:a.tmps[k]?.getD undef=.agg #[kv,vv]:=by simpa[Act.eval] using d
 simp only[execOp,b];go_simp
theorem CQ{m d:Nat}(f:o.op=.buildSlice 146 2 #[(0,.tmp x),(1,.tmp y)])(hx:a.eval (.tmp x)=.slice ao n c)(hy:a.eval (.tmp y)=.slice bo m d):(execOp a.eval o).run Tryz.prog w=.ok (.value (.slice (some ⟨w.heap.size,0,none⟩) 2 2)) (w.alloc (.cells #[.slice ao n c,.slice bo m d] 188)):=by
 have b:a.tmps[x]?.getD undef=.slice ao n c:=by simpa[Act.eval] using hx
 have g:a.tmps[y]?.getD undef=.slice bo m d:=by simpa[Act.eval] using hy
 simp only[execOp,f];go_simp
end
end Pg
end
section
namespace Pg
open Go.RowKit Go.Lib
section
variable {w:World}{D F:Nat→Prop}{p:Pg}{es:List En}{g G i j:Nat}{v u c0:Value}{L:List Pg}
theorem EA{D:Nat->Prop}(h:PgA w D p)(hs:∀ e∈es,e∈p.es):∀ e∈es,EnA w D e:=fun e he=>h.dW e (hs e he)
theorem cC(w:World):Below w.heap.size w w.drew:=⟨rfl,rfl,rfl,Nat.le_refl _,fun _ _=>rfl⟩
theorem b8(h:g≠G)(hc:w.cell? ⟨g,j,none⟩=some u):(w.setCell ⟨G,i,none⟩ v).cell? ⟨g,j,none⟩=some u:=by
 rw[World.cell?_of_block (w:=w) (a:=⟨g,j,none⟩) (Below.heap_setCell w _ v g h)];exact hc
theorem ER{α:Type}(L:List α)(i:Nat)(a b:α)(h:i < L.length):(L.set i a).take (i+1) ++ [b] ++ (L.set i a).drop (i+1)=L.take i ++ [a,b] ++ L.drop (i+1):=by
 have e1:(L.set i a).take (i+1)=L.take i ++ [a]:=by
  rw[List.take_add_one,List.take_set_of_le (Nat.le_refl _),List.getElem?_set_self h];rfl
 rw[e1,List.drop_set_of_lt (by omega)];simp
theorem yE{d j z:World}{u:Nat→Prop}{n m C c c2 t I:Nat}{q1:Pg}(W:bU d u D g (L.set i q1))(s:∀ b,u b→F b∨w.heap.size≤b)(J:Chg F w d)(hgx:Blk d g [.slice (some ⟨G,0,none⟩) (L.set i q1).length C] 148)(S:Blk j g [c0] 148)(Q:u g)(A:u G)(H:Rw d 188 1 G (L.set i q1).length C ((L.set i q1).map Pg.v))(N:g≠G)(U:i < L.length)(R:q1.es=es.take 16)(E:(es.drop 16).length=m - 16)(hnn:L.length=n)(P:Below d.drew.heap.size d.drew j)(V:d.drew.heap.size≤c)(R3:Rw j 185 2 c (m - 16) c2 (flat (es.drop 16)))(E0:∀ e ∈ es,EnA d.drew D e)(T:t=G∨j.heap.size+1≤t)(R5:Rw z 188 1 t (n+1) I (((L.set i q1).map Pg.v).take (i+1) ++ [.slice (some ⟨c,0,none⟩) (m - 16) c2] ++ ((L.set i q1).map Pg.v).drop (i+1)))(B:Chg (·=G) (j.alloc (.cells #[.slice (some ⟨c,0,none⟩) (m - 16) c2] 188)) z) :
    ∃ F' p1 p2,Ending.returned (.tuple #[])=Ending.returned (.tuple #[])∧p1.es=es.take 16∧p2.es=es.drop 16∧bU (z.setCell ⟨g,0,none⟩ (.slice (some ⟨t,0,none⟩) (n+1) I)) F' D g (L.take i ++ [p1,p2] ++ L.drop (i+1))∧(∀ b,F' b→F b∨w.heap.size≤b)∧Chg F w (z.setCell ⟨g,0,none⟩ (.slice (some ⟨t,0,none⟩) (n+1) I)):=by
  obtain⟨r,o⟩:∃ r,r=j.alloc (.cells #[.slice (some ⟨c,0,none⟩) (m - 16) c2] 188):=⟨_,rfl⟩
  have M:Below d.heap.size d r:=by rw[o];exact aB (aB (cC d) P) (ae j _)
  have l:Below j.heap.size j r:=by rw[o];exact ae j _
  rw[← o] at B;have K:=W.keep M
  have q:PgA r D ⟨c,c2,es.drop 16⟩:= by
    refine⟨?_,fun e he=>((E0 e (List.mem_of_mem_drop he)).keep P).keep l⟩
    show Rw r _ 2 c (es.drop 16).length c2 _
    rw[E];exact R3.keep l
  have aa:d.heap.size≤c:=V
  have O:(⟨c,c2,es.drop 16⟩:Pg).v=.slice (some ⟨c,0,none⟩) (m - 16) c2:=by simp only[Pg.v];rw[E]
  have y : ∀ p ∈ (L.set i q1).take (i + 1) ++ [(⟨c, c2, es.drop 16⟩ : Pg)] ++ (L.set i q1).drop (i + 1), p ∈ L.set i q1 ∨ p = ⟨c, c2, es.drop 16⟩:= fun p f => by
    rcases List.mem_append.1 f with h | h
    · rcases List.mem_append.1 h with h | h
      · exact .inl (List.mem_of_mem_take h)
      · exact .inr (by simpa using h)
    · exact .inl (List.mem_of_mem_drop h)
  have hlen:((L.set i q1).take (i+1) ++ [(⟨c,c2,es.drop 16⟩:Pg)] ++ (L.set i q1).drop (i+1)).length=n+1:=by
    simp;omega
  have hold : ∀ p ∈ L.set i q1, p.b ≠ c := fun p f => by
    have:=(W.cI p f).1.row.lt;omega
  obtain⟨A5,C6⟩:= lp (w:=r) (w1:=z) (F:=fun x=>u x∨x=c) (D:=D) (g:=g) (G:=G) (G':=t) (C':=I) (n:=n+1) (L':=(L.set i q1).take (i+1) ++ [(⟨c,c2,es.drop 16⟩:Pg)] ++ (L.set i q1).drop (i+1))
    (fun p f => by
      rcases y p f with h | rfl
      · exact⟨(K.cI p h).1,.inl (K.cI p h).2⟩
      · exact⟨q,.inr rfl⟩)
    (by
      have hn:=W.apart
      have e:(L.set i q1).map Pg.b=((L.set i q1).take (i+1)).map Pg.b ++ ((L.set i q1).drop (i+1)).map Pg.b:=by rw[← List.map_append,List.take_append_drop]
      rw[e] at hn
      have X : ∀ x ∈ ((L.set i q1).take (i + 1)).map Pg.b, x ≠ c := fun x hx => by
        obtain⟨p,f,rfl⟩:= List.mem_map.1 hx;exact hold p (List.mem_of_mem_take f)
      have Y : ∀ x ∈ ((L.set i q1).drop (i + 1)).map Pg.b, x ≠ c := fun x hx => by
        obtain⟨p,f,rfl⟩:= List.mem_map.1 hx;exact hold p (List.mem_of_mem_drop f)
      simp only[List.map_append,List.map_cons,List.map_nil];rw[List.nodup_append] at hn;rw[List.append_assoc,List.nodup_append];refine⟨hn.1,?_,?_⟩
      · rw[List.singleton_append,List.nodup_cons]
        exact⟨fun h=>Y c h rfl,hn.2.1⟩
      · intro a Z b hb
        rcases List.mem_append.1 hb with hb | hb
        · simp at hb;subst hb;exact X a Z
        · exact hn.2.2 a Z b hb)
    (fun b hb => by
      rcases hb with h | rfl
      · exact K.kind b h
      · obtain⟨ds,k⟩:= q.row.kind
        exact⟨ds,_,k,by decide⟩)
    (S.keep l) (.inl Q) (.inl A) (fun e=>N e.symm) B
    (fun p f => by
      rcases y p f with h | rfl
      · exact(K.cI p h).1.fx (H.keep M)
      · exact q.fx (H.keep M)) hlen
    (by simpa[List.map_take,List.map_drop,O] using R5)
  rw[ER L i q1 _ U] at A5;refine⟨_,q1,⟨c,c2,es.drop 16⟩,rfl,R,rfl,A5,fun b hb=>?_,(J.trans (Chg.of (F:=F) M) (fun _ _ h=>h)).trans C6 fun b hb h=>?_⟩
  · rcases hb with⟨h | rfl, _⟩ | rfl
    · exact s b h
    · exact .inr (by have:=J.size;omega)
    · rcases T with rfl | h
      · exact s _ A
      · have Y:=P.size
        have X:=J.size
        have:d.drew.heap.size=d.heap.size:=rfl;exact .inr (by omega)
  · rcases h with h | rfl
    · exact(s b h).resolve_right (by omega)
    · have:=J.size;omega
theorem Aq(h:j≠i)(hc:w.cell? ⟨G,j,none⟩=some u):(w.setCell ⟨G,i,none⟩ v).cell? ⟨G,j,none⟩=some u:=by
 have a:=aL hc;simp only[World.cell?,World.setCell,Array.getElem?_modify,if_true] at hc ⊢
 cases hh:w.heap[G]? with
 | none=>rw[hh] at hc;simp at hc
 | some ob =>
  rw[hh] at hc
  cases ob with
  | cells c e f =>
   simp at hc ⊢;rw[Array.getElem?_setIfInBounds,if_neg (by omega)];exact hc
  | _=>simp at hc
theorem lg(A:bU w F D g L)(hi:L[i]?=some p)(h1:17≤p.es.length)(h2:p.es.length≤1000)(hn:L.length≤100000000) :
    Calls Tryz.prog 197 #[.pointer (some ⟨g,0,none⟩),.int .i64 i] w fun e w'=>∃ F' p1 p2,e=.returned (.tuple #[])∧p1.es=p.es.take 16∧p2.es=p.es.drop 16∧bU w' F' D g (L.take i ++ [p1,p2] ++ L.drop (i+1))∧(∀ b,F' b→F b∨w.heap.size≤b)∧Chg F w w':=by
  have ab:=(List.getElem?_eq_some_iff.1 hi).1
  have hL:L≠[]:=fun e=>by subst e;simp at ab
  obtain⟨G,C,hg,hFg,hFG,Q⟩:= A.opn hL;have O:=A.cI p (List.mem_of_getElem? hi);have cg:=hg.cell (i:=0) rfl;have cG:=Q.cell (i:=i) (v:=p.v) (by simp[hi]);have hpc:=O.1.row.le;have hCC:=Q.le;simp only[maxLen] at hpc hCC
  have P:w.drew.cell? ⟨g,0,none⟩=some (.slice (some ⟨G,0,none⟩) L.length C):=cg
  have t1 := Ae (w := w.drew) (a := ⟨p.b, 0, none⟩) (n := 16) (c := p.c) (xs := flat (p.es.take 16)) (by decide) (by rw[jW, List.length_take]; omega) (fun j v J => by
    rw[Addr.add_lit,Nat.zero_add]
    have:(flat p.es)[j]?=some v:=by
      rw[← je,List.getElem?_take] at J;split at J
      · exact J
      · cases J
    exact O.1.row.drew.cell this) (jN (EA O.1 fun e he=>List.mem_of_mem_take he))
  obtain⟨n,d⟩:∃ n,Hid (L.length=n):=⟨_,rfl⟩;obtain⟨m,s⟩:∃ m,Hid (p.es.length=m):=⟨_,rfl⟩;simp only[Pg.v] at cG;rw[d.out] at cg P;rw[s.out] at cG
  have z1:(i:Int) < n:=by have:=d.out;omega
  have z2:m≤p.c:=by have:=s.out;omega
  have z3:p.c≤9223372036854775807:=by omega
  have z4:17≤m:=by have:=s.out;omega
  have z5:16≤p.c:=by omega
  have z6:(16:Int)≤(p.c:Int):=by omega
  have o:g≠G:=fun e=>Q.fq hg e.symm
  have mixed:=mixed;go_enter Tryz.func197,Tryz.ntmps197;go_wp2;go_region_held3 (fun w'=>w'.cell? ⟨g,0,none⟩=some (.slice (some ⟨G,0,none⟩) n C)) (first | assumption | exact b8 o (by assumption))
    (first
    | (go_at_call 230;refine t1.mono ?_;rintro e' q ⟨y,c1,rfl,ac,R1,u⟩;have cg1:q.cell? ⟨g,0,none⟩=some (.slice (some ⟨G,0,none⟩) n C):=(u.cell (p:=⟨g,0,none⟩) (aL P)).trans P;have cG1:q.cell? ⟨G,i,none⟩=some (.slice (some ⟨p.b,0,none⟩) m p.c):=(u.cell (p:=⟨G,i,none⟩) (aL (w:=w.drew) cG)).trans cG;have fG1:q.frozen? ⟨G,i,none⟩=false:=(Q.drew.keep u).free i))
  obtain⟨q1,r⟩:∃ q1:Pg,Hid (q1=⟨y,c1,p.es.take 16⟩):=⟨_,rfl⟩
  have E:(p.es.take 16).length=16:=by rw[List.length_take];omega
  have Z:q1.v=.slice (some ⟨y,0,none⟩) 16 c1:=by rw[r.out];simp only[Pg.v];rw[E]
  have X:PgA q D q1:=by
    rw[r.out];refine⟨?_,fun e he=>((O.1.dW e (List.mem_of_mem_take he)).keep (cC w)).keep u⟩
    show Rw q _ 2 y (p.es.take 16).length c1 _
    rw[E];exact R1
  obtain⟨A2,C2⟩:= A.put (p':=q1) (D':=D) hg hFg hFG Q hi (Chg.of (aB (cC w) u)) (.inr (by rw[r.out];exact ac)) X (fun _ _ h=>h);rw[Z] at A2 C2
  have R0:Rw (q.setCell ⟨G,i,none⟩ (.slice (some ⟨y,0,none⟩) 16 c1)) 185 2 p.b p.es.length p.c (flat p.es):=((O.1.row.keep (cC w)).keep u).same (Below.heap_setCell q _ _ _ (O.1.fx Q))
  have E0 : ∀ e ∈ p.es, EnA (q.setCell ⟨G, i, none⟩ (.slice (some ⟨y, 0, none⟩) 16 c1)) D e := fun e he => (((O.1.dW e he).keep (cC w)).keep u).off fun b hb hk => by
    obtain⟨cs,k⟩:= hk;obtain⟨ds,k'⟩:= (Q.drew.keep u).kind;exact Below.heap_setCell q _ _ b (eR k k' (by decide))
  have hw1l:w.heap.size≤(q.setCell ⟨G,i,none⟩ (.slice (some ⟨y,0,none⟩) 16 c1)).heap.size:=C2.size
  have Y:q1.b=y:=by rw[r.out]
  have S:q1.es=p.es.take 16:=by rw[r.out]
  have l:=(hg.drew.keep u).off o (i:=i) (.slice (some ⟨y,0,none⟩) 16 c1)
  have hF2:∀ b,((F b∧b≠p.b)∨b=q1.b)→F b∨w.heap.size≤b:=fun b h=>h.imp (fun h=>h.1) (fun h=>by rw[h,Y];exact ac)
  generalize (q.setCell ⟨G,i,none⟩ (.slice (some ⟨y,0,none⟩) 16 c1))=N at *;generalize hF2d:(fun x=>(F x∧x≠p.b)∨x=q1.b)=F2 at A2;obtain⟨z,R,aa,W,U,M⟩:= A2.opn (by simp[hL]);obtain⟨rfl,rfl⟩:z=G∧R=C:=by
    have:=(aa.eq l).1;simp at this;exact⟨this.1,this.2⟩
  have T:∀ b,F2 b→F b∨w.heap.size≤b:=fun b h=>hF2 b (by rw[← hF2d] at h;exact h)
  have cg2:N.cell? ⟨g,0,none⟩=some (.slice (some ⟨z,0,none⟩) n R):=by
    have:=l.cell (i:=0) rfl;rwa [d.out] at this
  have B:N.drew.cell? ⟨g,0,none⟩=some (.slice (some ⟨z,0,none⟩) n R):=cg2
  have V:(p.es.drop 16).length=m - 16:=by rw[List.length_drop,s.out]
  have t2 := Ae (w := N.drew) (a := ⟨p.b, 32, none⟩) (n := m - 16) (c := p.c - 16) (xs := flat (p.es.drop 16)) (by have := s.out; omega) (by rw[jW, V]) (fun j v J => by
    rw[Addr.add_lit]
    have:(flat p.es)[32+j]?=some v:=by
      rw[← iV,List.getElem?_drop] at J;exact J
    exact R0.drew.cell this) (jN (w:=N) (D:=D) (fun e he=>E0 e (List.mem_of_mem_drop he)))
  have zz1:IntKind.i64.wrap ((i:Int)+1)=(i:Int)+1:=by rw[IntKind.wrap_i64];have:=d.out;omega
  have zz2:¬ (p.c=16):=by omega
  have zz3:(16:Int)≤m:=by omega
  have t3 : ∀ (f : World) (t c2 : Nat), Below N.drew.heap.size N.drew f → Calls Tryz.prog 231 #[.slice (some ⟨z, 0, none⟩) n R, .int .i64 ((i : Int) + 1), .slice (some ⟨f.heap.size, 0, none⟩) 1 1] (f.alloc (.cells #[.slice (some ⟨t, 0, none⟩) (m - 16) c2] 188)) fun e w' => ∃ b' c', e = .returned (.slice (some ⟨b', 0, none⟩) (n + 1) c') ∧ (b' = z ∨ f.heap.size + 1 ≤ b') ∧ Rw w' 188 1 b' (n + 1) c' (((L.set i q1).map Pg.v).take (i + 1) ++ [.slice (some ⟨t, 0, none⟩) (m - 16) c2] ++ ((L.set i q1).map Pg.v).drop (i + 1)) ∧ Chg (· = z) (f.alloc (.cells #[.slice (some ⟨t, 0, none⟩) (m - 16) c2] 188)) w' := fun f t c2 I => by
    have hk:=(M.drew.keep I).keep (ae f (.cells #[.slice (some ⟨t,0,none⟩) (m - 16) c2] 188));rw[List.length_set,d.out] at hk
    have hGl:z < f.heap.size:=(M.drew.keep I).lt;have:=insP (i:=i+1) hk (aE f [.slice (some ⟨t,0,none⟩) (m - 16) c2] 188) (by omega) (by have:=d.out;omega) (by have:=d.out;omega) (uf _) (by simp[Value.oneCell']);rw[World.size_alloc] at this;simpa using this
  go_wp2
  go_region_with (first
    | (go_at_call 230;refine t2.mono ?_;rintro e' f ⟨t,c2,rfl,hb2,R3,I⟩;have cg3:f.cell? ⟨g,0,none⟩=some (.slice (some ⟨z,0,none⟩) n R):=(I.cell (p:=⟨g,0,none⟩) (aL B)).trans B;have H:=mN cg3 (.cells #[.slice (some ⟨t,0,none⟩) (m - 16) c2] 188))
    | (go_at_call 231;refine(t3 f t c2 I).mono ?_;rintro e' w5 ⟨G5,C5,rfl,hb5,R5,K⟩;have cg5:w5.cell? ⟨g,0,none⟩=some (.slice (some ⟨z,0,none⟩) n R):=(World.cell?_of_block (w:=f.alloc (.cells #[.slice (some ⟨t,0,none⟩) (m - 16) c2] 188)) (a:=⟨g,0,none⟩) (K.same g (aL H) o)).trans H;have fg5:w5.frozen? ⟨g,0,none⟩=false:=(((l.drew.keep I).keep (ae f _)).chg K o).free 0))
  all_goals go_wp2
  all_goals go_end0
  all_goals exact yE A2 T C2 aa (l.drew.keep I) W U M o ab S V d.out I hb2 R3 (fun e he=>(E0 e he).keep (cC N)) hb5 R5 K
end
end Pg
end
section
namespace Pg
open Go.RowKit Go.Lib
section
variable {L:List Pg}{i:Nat}{p:Pg}{w:World}{F D:Nat->Prop}
def r6(P:List (List En))(i q:Nat)(e:En):List (List En) :=
 let es:=(P.getD i []).take q ++ [e] ++ (P.getD i []).drop q
 if 32 < es.length then P.take i ++ [es.take 16,es.drop 16] ++ P.drop (i+1) else P.set i es
theorem pU(L:List Pg)(i:Nat)(p:Pg):ens (L.set i p)=(ens L).set i p.es:=by simp[ens,List.map_set]
theorem fk(h:L[i]?=some p):(ens L).getD i []=p.es:=by simp[ens,h]
theorem A8(es:List En)(q:Nat)(e:En):(flat es).take (q * 2) ++ [e.kv,e.vv] ++ (flat es).drop (q * 2)=flat (es.take q ++ [e] ++ es.drop q):=by
 rw[je,iV,eE,eE];rfl
theorem ub{g q:Nat}{e:En}(A:bU w F D g L)(hi:L[i]?=some p)(hq:q<=p.es.length)(h2:p.es.length<=32)(hn:L.length<=100000000)(hE:EnA w D e) :
  Calls Tryz.prog 148 #[.pointer (some ⟨g,0,none⟩),.int .i64 i,.int .i64 q,.agg #[e.kv,e.vv]] w fun e' w'=>∃ F' L',e'=.returned (.tuple #[])/\ens L'=r6 (ens L) i q e/\bU w' F' D g L'/\(∀ b,F' b->F b\/w.heap.size<=b)/\Chg F w w':=by
 have hil:=(List.getElem?_eq_some_iff.1 hi).1
 have hL:L≠[]:=fun e=>by subst e;simp at hil
 obtain⟨kv,kl,vv,vl⟩:=e;obtain⟨l,P⟩:∃ l,Hid (l=w.alloc (.cells #[kv,vv] 185)):=⟨_,rfl⟩
 have B0:Below w.heap.size w l:=by rw[P.out];exact ae w _
 have X0:Blk l w.heap.size [kv,vv] 185:=by rw[P.out];exact aE w [kv,vv] _
 have A0:=A.keep B0;obtain⟨G,C,hg,hFg,hFG,hR⟩:=A0.opn hL;have W:=A0.cI p (List.mem_of_getElem? hi);have cg:=hg.cell (i:=0) rfl;have cG:=hR.cell (i:=i) (v:=p.v) (by simp[hi]);have x0:=X0.cell (i:=0) rfl;have x1:=X0.cell (i:=1) rfl;have hpc:=W.1.row.le;have hCC:=hR.le;simp only[maxLen] at hpc hCC;obtain⟨n,Y⟩:∃ n,Hid (L.length=n):=⟨_,rfl⟩
 obtain⟨m,U⟩:∃ m,Hid (p.es.length=m):=⟨_,rfl⟩
 simp only[Pg.v] at cG;rw[Y.out] at cg;rw[U.out] at cG
 have z0:¬ ((n:Int)=0):=by have:=Y.out;omega
 have z1:(i:Int) < n:=by have:=Y.out;omega
 have cgd:l.drew.cell? ⟨g,0,none⟩=some (.slice (some ⟨G,0,none⟩) n C):=cg
 have x0d:l.drew.cell? ⟨w.heap.size,0,none⟩=some kv:=x0
 have x1d:l.drew.cell? ⟨w.heap.size,1,none⟩=some vv:=x1
 have cGd:l.drew.cell? ⟨G,i,none⟩=some (.slice (some ⟨p.b,0,none⟩) m p.c):=cG
 have hgG:g≠G:=fun e=>hR.fq hg e.symm
 have T:w.heap.size≠G:=by have:=A.lt hFG;omega
 obtain⟨R,M⟩:∃ R,Hid (R=l.drew.alloc (.cells #[kv,vv] 185)):=⟨_,rfl⟩
 have J:Below l.heap.size l R:=by rw[M.out];exact aB (cC l) (ae l.drew _)
 have hs0:l.heap.size=w.heap.size+1:=by rw[P.out];simp
 have V1:Blk R l.heap.size [kv,vv] 185:=by rw[M.out];exact aE l.drew [kv,vv] _
 have t1:=insE (i:=q) (W.1.row.keep J) V1 (by have:=W.1.row.lt;omega) hq (by omega) W.1.one (by have:=hE.k.one;have:=hE.v.one;simp_all);rw[U.out] at t1
 have j:R.cell? ⟨g,0,none⟩=some (.slice (some ⟨G,0,none⟩) n C):=(J.cell (p:=⟨g,0,none⟩) (aL cg)).trans cg
 have u:R.cell? ⟨w.heap.size,0,none⟩=some kv:=(J.cell (p:=⟨w.heap.size,0,none⟩) (aL x0)).trans x0
 have z:R.cell? ⟨w.heap.size,1,none⟩=some vv:=(J.cell (p:=⟨w.heap.size,1,none⟩) (aL x1)).trans x1
 have r:R.cell? ⟨G,i,none⟩=some (.slice (some ⟨p.b,0,none⟩) m p.c):=(J.cell (p:=⟨G,i,none⟩) (aL cG)).trans cG
 have ng:g≠p.b:=fun e=>W.1.fq hg e.symm
 have nG:G≠p.b:=fun e=>W.1.fx hR e.symm
 have nx:w.heap.size≠p.b:=by have:=A.lt W.2;omega
 have mixed:=mixed
 have hin:i < n:=by have:=Y.out;omega
 go_enter Tryz.func148,Tryz.ntmps148;have cgw:=cg;rw[P.out] at cgw;go_wp2;rw[<- P.out];have V:=(show _/\_/\_ from⟨j,u,z⟩)
 have O:=r;rw[M.out] at V O t1
 have hpp:Tryz.prog.underlying 146=some (.slice 188):=by kernel_rfl
 refine qx (X:=Nat × Nat) (fun x=>[(some 23,.pointer (some ⟨g,0,none⟩)),(some 24,.pointer (some ⟨g,0,none⟩)),(some 25,.pointer (some ⟨g,0,none⟩)),(some 26,.slice (some ⟨G,0,none⟩) n C),(some 27,.int .i64 i),(some 28,.pointer (some ⟨g,0,none⟩)),(some 29,.pointer (some ⟨g,0,none⟩)),(some 30,.pointer (some ⟨g,0,none⟩)),(some 31,.slice (some ⟨G,0,none⟩) n C),(some 32,.int .i64 i),(some 33,.pointer (some ⟨G,i,none⟩)),(some 34,.slice (some ⟨p.b,0,none⟩) m p.c),(some 35,.int .i64 q),(some 36,.agg #[kv,vv]),(some 37,.slice (some ⟨l.heap.size,0,none⟩) 1 1),(some 38,.slice (some ⟨x.1,0,none⟩) (m+1) x.2),(some 39,.pointer (some ⟨G,i,none⟩))]) (fun x w'=>∃ d,w'=d.setCell ⟨G,i,none⟩ (.slice (some ⟨x.1,0,none⟩) (m+1) x.2)/\(x.1=p.b\/R.heap.size<=x.1)/\Rw d 185 2 x.1 (m+1) x.2 ((flat p.es).take (q * 2) ++ [kv,vv] ++ (flat p.es).drop (q * 2))/\Chg (·=p.b) R d) (fun w'=>w'.cell? ⟨g,0,none⟩=some (.slice (some ⟨G,0,none⟩) n C)/\w'.cell? ⟨w.heap.size,0,none⟩=some kv/\w'.cell? ⟨w.heap.size,1,none⟩=some vv) (by kernel_rfl) ⟨cgd,x0d,x1d⟩ ?_ ?_
 ·have hS:=(show _/\_/\_ from⟨cgd,x0d,x1d⟩)
  refine ai 0 (some 23) (.pointer (some ⟨g,0,none⟩)) (by kernel_rfl) (fun _ _=>by kernel_rfl) (fun _ _ _ h=>h) hS ?_
  refine ai 1 (some 24) (.pointer (some ⟨g,0,none⟩)) (by kernel_rfl) (fun _ _=>by kernel_rfl) (fun _ _ _ h=>h) hS ?_
  refine ai 2 (some 25) (.pointer (some ⟨g,0,none⟩)) (by kernel_rfl) (fun _ _=>by kernel_rfl) (fun _ _ _ h=>h) hS ?_
  refine aU 3 (some 26) (.slice (some ⟨G,0,none⟩) n C) 146 25 (g) (0) (by kernel_rfl) (by kernel_rfl) (by kernel_rfl) (fun w' h=>gE h.1) (fun _ _ _ h=>h) hS ?_
  refine ai 4 (some 27) (.int .i64 i) (by kernel_rfl) (fun _ _=>by kernel_rfl) (fun _ _ _ h=>h) hS ?_
  refine ai 5 (some 28) (.pointer (some ⟨g,0,none⟩)) (by kernel_rfl) (fun _ _=>by kernel_rfl) (fun _ _ _ h=>h) hS ?_
  refine ai 6 (some 29) (.pointer (some ⟨g,0,none⟩)) (by kernel_rfl) (fun _ _=>by kernel_rfl) (fun _ _ _ h=>h) hS ?_
  refine ai 7 (some 30) (.pointer (some ⟨g,0,none⟩)) (by kernel_rfl) (fun _ _=>by kernel_rfl) (fun _ _ _ h=>h) hS ?_
  refine aU 8 (some 31) (.slice (some ⟨G,0,none⟩) n C) 146 30 (g) (0) (by kernel_rfl) (by kernel_rfl) (by kernel_rfl) (fun w' h=>gE h.1) (fun _ _ _ h=>h) hS ?_
  refine ai 9 (some 32) (.int .i64 i) (by kernel_rfl) (fun _ _=>by kernel_rfl) (fun _ _ _ h=>h) hS ?_
  refine ai 10 (some 33) (.pointer (some ⟨G,i,none⟩)) (by kernel_rfl) (fun _ _=>eX (x:=31) (y:=32) (n:=n) (c:=C) (by kernel_rfl) hpp (by kernel_rfl) (by kernel_rfl) (rfl) (hin)) (fun _ _ _ h=>h) hS ?_
  refine ai 12 (some 35) (.int .i64 q) (by kernel_rfl) (fun _ _=>by kernel_rfl) (fun _ _ _ h=>h) hS ?_
  refine aU 13 (some 36) (.agg #[kv,vv]) 185 7 (w.heap.size) (0) (by kernel_rfl) (by kernel_rfl) (by kernel_rfl) (fun w' h=>ld_e h.2.1 h.2.2) (fun _ _ _ h=>h) hS ?_
  refine aN [11,14] (by kernel_rfl) (by simp) ?_
  refine bH 11 (some 34) (.slice (some ⟨p.b,0,none⟩) m p.c) _ (by kernel_rfl) (jx 33 (by kernel_rfl) (by kernel_rfl) (pQ cGd)) hS ?_ (bH 14 (some 37) (.slice (some ⟨l.heap.size,0,none⟩) 1 1) _ (by kernel_rfl) (qV (k:=36) (by kernel_rfl) (by kernel_rfl)) V ?_ bj)
  ·refine aN [14] (by kernel_rfl) (by simp) ?_
   refine bH 14 (some 37) (.slice (some ⟨l.heap.size,0,none⟩) 1 1) _ (by kernel_rfl) (qV (k:=36) (by kernel_rfl) (by kernel_rfl)) V ?_ bj;refine bS 15 (some 38) 196 #[.slice (some ⟨p.b,0,none⟩) m p.c,.int .i64 q,.slice (some ⟨l.heap.size,0,none⟩) 1 1] (by kernel_rfl) (by kernel_rfl) t1 ?_
   rintro e' d ⟨B,c2,rfl,t,R2,o⟩;rw[<- M.out] at o t
   have s:d.cell? ⟨g,0,none⟩=_:=(World.cell?_of_block (a:=⟨g,0,none⟩) (o.same g (aL j) ng)).trans j
   have E:d.cell? ⟨w.heap.size,0,none⟩=_:=(World.cell?_of_block (a:=⟨w.heap.size,0,none⟩) (o.same _ (aL u) nx)).trans u
   have H:d.cell? ⟨w.heap.size,1,none⟩=_:=(World.cell?_of_block (a:=⟨w.heap.size,1,none⟩) (o.same _ (aL z) nx)).trans z
   have K:d.cell? ⟨G,i,none⟩=_:=(World.cell?_of_block (a:=⟨G,i,none⟩) (o.same _ (aL r) nG)).trans r
   have fG2:d.frozen? ⟨G,i,none⟩=false:=((hR.keep J).chg o nG).free i;refine⟨_,rfl,⟨s,E,H⟩,?_⟩;replace hS:=(show _/\_/\_ from⟨s,E,H⟩)
   refine ai 16 (some 39) (.pointer (some ⟨G,i,none⟩)) (by kernel_rfl) (fun _ _=>eX (x:=26) (y:=27) (n:=n) (c:=C) (by kernel_rfl) hpp (by kernel_rfl) (by kernel_rfl) (rfl) (hin)) (fun _ _ _ h=>h) hS ?_
   refine aN [17] (by kernel_rfl) (by simp) ?_
   refine dD 17 (d.setCell ⟨G,i,none⟩ (.slice (some ⟨B,0,none⟩) (m+1) c2)) (by kernel_rfl) (kZ 39 38 (by kernel_rfl) (by kernel_rfl) (by kernel_rfl) K fG2) ⟨b8 hgG s,b8 T E,b8 T H⟩ ?_ bj;refine bQ (by kernel_rfl) ?_
   exact⟨(B,c2),by kernel_rfl,d,rfl,t,R2,o⟩
  ·refine aN [11] (by kernel_rfl) (by simp) ?_
   refine bH 11 (some 34) (.slice (some ⟨p.b,0,none⟩) m p.c) _ (by kernel_rfl) (jx 33 (by kernel_rfl) (by kernel_rfl) (pQ O)) V ?_ bj;refine bS 15 (some 38) 196 #[.slice (some ⟨p.b,0,none⟩) m p.c,.int .i64 q,.slice (some ⟨l.heap.size,0,none⟩) 1 1] (by kernel_rfl) (by kernel_rfl) t1 ?_
   rintro e' d ⟨B,c2,rfl,t,R2,o⟩;rw[<- M.out] at o t
   have s:d.cell? ⟨g,0,none⟩=_:=(World.cell?_of_block (a:=⟨g,0,none⟩) (o.same g (aL j) ng)).trans j
   have E:d.cell? ⟨w.heap.size,0,none⟩=_:=(World.cell?_of_block (a:=⟨w.heap.size,0,none⟩) (o.same _ (aL u) nx)).trans u
   have H:d.cell? ⟨w.heap.size,1,none⟩=_:=(World.cell?_of_block (a:=⟨w.heap.size,1,none⟩) (o.same _ (aL z) nx)).trans z
   have K:d.cell? ⟨G,i,none⟩=_:=(World.cell?_of_block (a:=⟨G,i,none⟩) (o.same _ (aL r) nG)).trans r
   have fG2:d.frozen? ⟨G,i,none⟩=false:=((hR.keep J).chg o nG).free i;refine⟨_,rfl,⟨s,E,H⟩,?_⟩;replace hS:=(show _/\_/\_ from⟨s,E,H⟩)
   refine ai 16 (some 39) (.pointer (some ⟨G,i,none⟩)) (by kernel_rfl) (fun _ _=>eX (x:=26) (y:=27) (n:=n) (c:=C) (by kernel_rfl) hpp (by kernel_rfl) (by kernel_rfl) (rfl) (hin)) (fun _ _ _ h=>h) hS ?_
   refine aN [17] (by kernel_rfl) (by simp) ?_
   refine dD 17 (d.setCell ⟨G,i,none⟩ (.slice (some ⟨B,0,none⟩) (m+1) c2)) (by kernel_rfl) (kZ 39 38 (by kernel_rfl) (by kernel_rfl) (by kernel_rfl) K fG2) ⟨b8 hgG s,b8 T E,b8 T H⟩ ?_ bj;refine bQ (by kernel_rfl) ?_
   exact⟨(B,c2),by kernel_rfl,d,rfl,t,R2,o⟩
 rintro⟨B,c2⟩ w' ⟨d,rfl,t,R2,o⟩;dsimp only at t R2;simp only[jC,Act.put,List.setIfInBounds_toArray,List.set_cons_zero,List.set_cons_succ]
 have s:d.cell? ⟨g,0,none⟩=_:=(World.cell?_of_block (a:=⟨g,0,none⟩) (o.same g (aL j) ng)).trans j
 have K:d.cell? ⟨G,i,none⟩=_:=(World.cell?_of_block (a:=⟨G,i,none⟩) (o.same _ (by exact(hR.keep J).lt) nG)).trans r
 have C02:Chg (·=p.b) l d:=(Chg.of (F:=(·=p.b)) J).trans o (fun _ _ h=>h);obtain⟨p',S⟩:∃ p':Pg,Hid (p'=⟨B,c2,p.es.take q ++ [(⟨kv,kl,vv,vl⟩:En)] ++ p.es.drop q⟩):=⟨_,rfl⟩
 have hlen:(p.es.take q ++ [(⟨kv,kl,vv,vl⟩:En)] ++ p.es.drop q).length=m+1:=by have:=U.out;simp;omega
 have N:∀ e,EnA w D e->EnA d D e:=fun e he=>((he.keep B0).keep J).off fun b hb hk=>o.same b hb fun f=>by
  subst f;obtain⟨cs,k⟩:=hk;obtain⟨ds,k'⟩:=(W.1.row.keep J).kind;exact eR k k' (by decide) rfl
 have hA':PgA d D p':=by
  rw[S.out];refine⟨?_,fun e he=>?_⟩
  ·show Rw d _ 2 B (p.es.take q ++ [(⟨kv,kl,vv,vl⟩:En)] ++ p.es.drop q).length c2 _
   rw[hlen];exact R2.to (A8 p.es q ⟨kv,kl,vv,vl⟩)
  ·rcases List.mem_append.1 he with h | h
   ·rcases List.mem_append.1 h with h | h
    ·exact N e ((A.cI p (List.mem_of_getElem? hi)).1.dW e (List.mem_of_mem_take h))
    ·simp at h;subst h;exact N _ hE
   ·exact N e ((A.cI p (List.mem_of_getElem? hi)).1.dW e (List.mem_of_mem_drop h))
 have hv':p'.v=.slice (some ⟨B,0,none⟩) (m+1) c2:=by rw[S.out];simp only[Pg.v];rw[hlen]
 have hb':p'.b=B:=by rw[S.out]
 have I:p'.es=p.es.take q ++ [⟨kv,kl,vv,vl⟩] ++ p.es.drop q:=by rw[S.out]
 obtain⟨A3,C3⟩:=A0.put (p':=p') (D':=D) hg hFg hFG hR hi C02 (by rw[hb'];exact t.imp id (fun h=>Nat.le_trans J.size h)) hA' (fun _ _ h=>h);rw[hv',hb'] at A3;rw[hv'] at C3;have C03:=(Chg.of (F:=F) B0).trans C3 (fun _ _ h=>h)
 have hF3:∀ b,((F b/\b≠p.b)\/b=B)->F b\/w.heap.size<=b:=fun b h=>by
  have h0:=B0.size;have h1:=J.size;rcases h with h | h
  ·exact .inl h.1
  ·subst h;rcases t with h | h
   ·rw[h];exact .inl W.2
   ·exact .inr (by omega)
 have cg3:(d.setCell ⟨G,i,none⟩ (.slice (some ⟨B,0,none⟩) (m+1) c2)).cell? ⟨g,0,none⟩=some (.slice (some ⟨G,0,none⟩) n C):=b8 hgG s
 have cG3:(d.setCell ⟨G,i,none⟩ (.slice (some ⟨B,0,none⟩) (m+1) c2)).cell? ⟨G,i,none⟩=some (.slice (some ⟨B,0,none⟩) (m+1) c2):=World.cell?_setCell_same' _ _ _ (by rw[K];rfl);generalize (d.setCell ⟨G,i,none⟩ (.slice (some ⟨B,0,none⟩) (m+1) c2))=W3 at *;generalize hF3d:(fun x=>(F x/\x≠p.b)\/x=B)=F3 at A3
 have Q:∀ b,F3 b->F b\/w.heap.size<=b:=fun b h=>hF3 b (by rw[<- hF3d] at h;exact h)
 have hi3:(L.set i p')[i]?=some p':=by rw[List.getElem?_set_self hil]
 by_cases Z:32 < m+1
 ·have hbi:(32:Int) < (m:Int) + 1:=by omega
  have t5:=lg A3 hi3 (by rw[I,hlen];omega) (by rw[I,hlen];have:=U.out;omega) (by rw[List.length_set];exact hn);go_wp2_with (go_at_call 197;refine t5.mono ?_;rintro e' w6 ⟨F6,p1,p2,rfl,e1,e2,A6,hF6,C6⟩);go_end0;refine⟨F6,_,rfl,?_,A6,fun b hb=>?_,C03.trans C6 fun b hb h=>(Q b h).resolve_right (by omega)⟩
  ·unfold r6;rw[fk hi,<- I,if_pos (by rw[I,hlen];exact Z)];simp only[ens,List.map_append,List.map_take,List.map_drop,List.map_cons,List.map_nil,List.map_set,e1,e2];rw[List.take_set_of_le (Nat.le_refl _),List.drop_set_of_lt (by omega)]
  ·rcases hF6 b hb with h | h
   ·exact Q b h
   ·exact .inr (by have:=C03.size;omega)
 ·have hbi:¬ ((32:Int) < (m:Int) + 1):=by omega
  go_wp2;go_end0;refine⟨rfl,F3,_,?_,A3,Q,C03⟩;unfold r6;rw[fk hi,<- I,if_neg (by rw[I,hlen];exact Z),pU]
end
end Pg
end
section
namespace Pg
open Go.RowKit Go.Lib
section
variable {w w1:World}{F D:Nat->Prop}{g:Nat}{pv:Value}
theorem AF(A:bU w F D g [])(q:w.cell? ⟨g,0,none⟩=some pv)(n:Below w.heap.size w w1){vb:Nat}(V:Blk w1 vb [.slice none 0 0] 188) :
  ∃ b' c' w',(Builtin.append_ #[146,146] 146 #[pv,.slice (some ⟨vb,0,none⟩) 1 1]).run Tryz.prog w1=.ok (.slice (some ⟨b',0,none⟩) 1 c') w'/\(F b'\/w.heap.size<=b')/\Rw w' 188 1 b' 1 c' [.slice none 0 0]/\Chg F w1 w'/\b'≠g/\(∀ b cs,Blk w1 b cs 148\/Blk w1 b cs 185->Blk w' b cs 148\/Blk w' b cs 185)/\(Blk w g [pv] 148/\F g/\Blk w' g [pv] 148):=by
 obtain⟨t,hb,s,h⟩:=A.top;have e:=hb.cell (i:=0) rfl;rw[q] at e
 cases e;have a:=hb.keep n;rcases h with⟨rfl,_⟩ | ⟨G,C,rfl,hG,hR⟩
 ·obtain⟨c',W,p,d,hC⟩:=gW (w:=w1) KP 146 ⟨vb,0,none⟩ 1 1 [.slice none 0 0] rfl (fun j u o=>by rw[Addr.add_lit,Nat.zero_add];exact V.cell o) (by decide) (by decide) (by decide);refine⟨_,c',W,p,.inr n.size,d,Chg.of hC,?_,fun b cs h=>h.imp (fun k=>k.keep hC) (fun k=>k.keep hC),hb,s,a.keep hC⟩;have:=a.lt;omega
 ·have m:=hR.keep n;obtain⟨b',c',W,p,l,d,hC⟩:=eB KP 146 m ⟨vb,0,none⟩ 1 1 [.slice none 0 0] rfl (fun j u o=>by rw[Addr.add_lit,Nat.zero_add];exact V.cell o) (by simp[Value.oneCell']) (by simp) (by simp)
  have c:∀ b cs,Blk w1 b cs 148\/Blk w1 b cs 185->b≠G:=fun b cs h=>by
   obtain⟨v,r⟩:=m.kind;rcases h with k | k
   ·exact eR k r (by decide)
   ·exact eR k r (by decide)
  have f:=c g _ (.inl a);refine⟨b',c',W,p,?_,d,hC.mono (fun b _ e=>by subst e;exact hG),?_,fun b cs h=>h.imp (fun k=>k.chg hC (c b cs h)) (fun k=>k.chg hC (c b cs h)),hb,s,a.chg hC f⟩
  ·rcases l with h | h
   ·rw[h];exact .inl hG
   ·rw[h];exact .inr n.size
  ·rcases l with h | h
   ·rw[h];exact fun e=>f e.symm
   ·have:=a.lt;omega
theorem rz{e:En}(A:bU w F D g [])(hE:EnA w D e) :
  Calls Tryz.prog 148 #[.pointer (some ⟨g,0,none⟩),.int .i64 0,.int .i64 0,.agg #[e.kv,e.vv]] w fun e' w'=>∃ F' L',e'=.returned (.tuple #[])/\ens L'=[[e]]/\bU w' F' D g L'/\(∀ b,F' b->F b\/w.heap.size<=b)/\Chg F w w':=by
 obtain⟨kv,kl,vv,vl⟩:=e;have B0:=ae w (.cells #[kv,vv] 185);have X0:=aE w [kv,vv] 185;obtain⟨ao,c,hc,hc1,hc2,hat⟩:=A.rd;simp only[List.length_nil] at hc hc1;have hgl:=aL hc;obtain⟨w1,B⟩:∃ w1,Hid (w1=(w.alloc (.cells #[kv,vv] 185)).alloc (.cells #[.slice none 0 0] 188)):=⟨_,rfl⟩
 have B1:Below w.heap.size w w1:=by rw[B.out];exact aB B0 (ae _ _)
 have V1:Blk w1 (w.heap.size+1) [.slice none 0 0] 188:=by
  have:=aE (w.alloc (.cells #[kv,vv] 185)) [.slice none 0 0] 188;rw[World.size_alloc] at this;rw[B.out];exact this
 have X1:Blk w1 w.heap.size [kv,vv] 185:=by rw[B.out];exact X0.keep (ae _ _)
 obtain⟨G,C,j,hr,hFG,R2,l,hGg,hkp,hgb,hFg,aa⟩:=AF A hc B1 V1
 have X2:Blk j w.heap.size [kv,vv] 185:=X1.chg l (fun f=>by have:=A.lt f;omega);have hg3:=aa.setCell (i:=0) (.slice (some ⟨G,0,none⟩) 1 C)
 have S:Rw (j.setCell ⟨g,0,none⟩ (.slice (some ⟨G,0,none⟩) 1 C)) 188 1 G 1 C [.slice none 0 0]:=R2.same (Below.heap_setCell j _ _ _ hGg)
 have X3:Blk (j.setCell ⟨g,0,none⟩ (.slice (some ⟨G,0,none⟩) 1 C)) w.heap.size [kv,vv] 185:=X2.off (by omega) _
 have ac:∀ e,EnA w D e->EnA (j.setCell ⟨g,0,none⟩ (.slice (some ⟨G,0,none⟩) 1 C)) D e:=fun e he=>(he.keep B1).off fun b hb hk=>by
  obtain⟨cs,k⟩:=hk
  have n1:b≠g:=eR k (hgb.keep B1) (by decide);rw[Below.heap_setCell j _ _ b n1];refine l.same b hb fun f=>A.noU f cs ?_
  exact⟨by rw[<- B1.block b (A.lt f)];exact k.blk⟩
 have c2g:=aa.cell (i:=0) rfl;have f2g:=aa.free 0
 have hsz3:w.heap.size+1+1<=(j.setCell ⟨g,0,none⟩ (.slice (some ⟨G,0,none⟩) 1 C)).heap.size:=by
  have h1:=l.size
  have h2:w1.heap.size=w.heap.size+1+1:=by rw[B.out];simp
  have h3:(j.setCell ⟨g,0,none⟩ (.slice (some ⟨G,0,none⟩) 1 C)).heap.size=j.heap.size:=by simp[World.setCell]
  omega
 have C03:Chg F w (j.setCell ⟨g,0,none⟩ (.slice (some ⟨G,0,none⟩) 1 C)):=((Chg.of (F:=F) B1).trans l (fun _ _ h=>h)).cell (.inl hFg) _;have mixed:=mixed;obtain rfl:=B.out;clear B;go_enter Tryz.func148,Tryz.ntmps148;go_wp2_with (at_builtin;refine Lib.wpList_append_run _ rfl _ _ _ _ rfl _ _ rfl rfl _ _ hr ?_);generalize (j.setCell ⟨g,0,none⟩ (.slice (some ⟨G,0,none⟩) 1 C))=d at *
 have R:d.cell? ⟨g,0,none⟩=some (.slice (some ⟨G,0,none⟩) 1 C):=hg3.cell (i:=0) rfl;have U:=X3.cell (i:=0) rfl;have W:=X3.cell (i:=1) rfl;have V:=S.cell (i:=0) rfl;obtain⟨z,E⟩:∃ z,Hid (z=d.drew.alloc (.cells #[kv,vv] 185)):=⟨_,rfl⟩
 have T:Below d.heap.size d z:=by rw[E.out];exact aB (cC d) (ae d.drew _)
 have V4:Blk z d.heap.size [kv,vv] 185:=by rw[E.out];exact aE d.drew [kv,vv] _
 have hs4:z.heap.size=d.heap.size+1:=by rw[E.out];simp
 have t1:Calls Tryz.prog 196 #[.slice none 0 0,.int .i64 0,.slice (some ⟨d.heap.size,0,none⟩) 1 1] z fun e w'=>∃ J c2,e=.returned (.slice (some ⟨J,0,none⟩) 1 c2)/\J=d.heap.size + 1/\Rw w' 185 2 J 1 c2 [kv,vv]/\Below z.heap.size z w':=(yR V4).mono (by
  rintro e w' ⟨c',rfl,h1,h2⟩
  exact⟨_,c',rfl,hs4,h1,h2⟩)
 have r:z.cell? ⟨g,0,none⟩=_:=(T.cell (p:=⟨g,0,none⟩) (aL R)).trans R
 have m:z.cell? ⟨w.heap.size,0,none⟩=_:=(T.cell (p:=⟨w.heap.size,0,none⟩) (aL U)).trans U
 have s:z.cell? ⟨w.heap.size,1,none⟩=_:=(T.cell (p:=⟨w.heap.size,1,none⟩) (aL W)).trans W
 have q:z.cell? ⟨G,0,none⟩=_:=(T.cell (p:=⟨G,0,none⟩) (aL V)).trans V
 have cgd:d.drew.cell? ⟨g,0,none⟩=_:=R
 have x0d:d.drew.cell? ⟨w.heap.size,0,none⟩=_:=U
 have x1d:d.drew.cell? ⟨w.heap.size,1,none⟩=_:=W
 have cGd:d.drew.cell? ⟨G,0,none⟩=_:=V
 have O:g≠G:=fun e=>hGg e.symm
 have K:w.heap.size≠G:=fun e=>by
  obtain⟨ds,k⟩:=S.kind;exact eR X3 k (by decide) e
 have ab:0 < 1:=by decide
 have M:=(show _/\_/\_ from⟨r,m,s⟩)
 have I:=q;rw[E.out] at M I t1
 have Z:Tryz.prog.underlying 146=some (.slice 188):=by kernel_rfl
 refine qx (X:=Nat × Nat) (fun x=>[(some 23,.pointer (some ⟨g,0,none⟩)),(some 24,.pointer (some ⟨g,0,none⟩)),(some 25,.pointer (some ⟨g,0,none⟩)),(some 26,.slice (some ⟨G,0,none⟩) 1 C),(some 27,.int .i64 0),(some 28,.pointer (some ⟨g,0,none⟩)),(some 29,.pointer (some ⟨g,0,none⟩)),(some 30,.pointer (some ⟨g,0,none⟩)),(some 31,.slice (some ⟨G,0,none⟩) 1 C),(some 32,.int .i64 0),(some 33,.pointer (some ⟨G,0,none⟩)),(some 34,.slice none 0 0),(some 35,.int .i64 0),(some 36,.agg #[kv,vv]),(some 37,.slice (some ⟨d.heap.size,0,none⟩) 1 1),(some 38,.slice (some ⟨x.1,0,none⟩) 1 x.2),(some 39,.pointer (some ⟨G,0,none⟩))]) (fun x w'=>∃ j,w'=j.setCell ⟨G,0,none⟩ (.slice (some ⟨x.1,0,none⟩) 1 x.2)/\x.1=d.heap.size+1/\Rw j 185 2 x.1 1 x.2 [kv,vv]/\Below z.heap.size z j) (fun w'=>w'.cell? ⟨g,0,none⟩=some (.slice (some ⟨G,0,none⟩) 1 C)/\w'.cell? ⟨w.heap.size,0,none⟩=some kv/\w'.cell? ⟨w.heap.size,1,none⟩=some vv) (by kernel_rfl) ⟨cgd,x0d,x1d⟩ ?_ ?_
 ·have hS:=(show _/\_/\_ from⟨cgd,x0d,x1d⟩)
  refine ai 0 (some 23) (.pointer (some ⟨g,0,none⟩)) (by kernel_rfl) (fun _ _=>by kernel_rfl) (fun _ _ _ h=>h) hS ?_
  refine ai 1 (some 24) (.pointer (some ⟨g,0,none⟩)) (by kernel_rfl) (fun _ _=>by kernel_rfl) (fun _ _ _ h=>h) hS ?_
  refine ai 2 (some 25) (.pointer (some ⟨g,0,none⟩)) (by kernel_rfl) (fun _ _=>by kernel_rfl) (fun _ _ _ h=>h) hS ?_
  refine aU 3 (some 26) (.slice (some ⟨G,0,none⟩) 1 C) 146 25 (g) (0) (by kernel_rfl) (by kernel_rfl) (by kernel_rfl) (fun w' h=>gE h.1) (fun _ _ _ h=>h) hS ?_
  refine ai 4 (some 27) (.int .i64 0) (by kernel_rfl) (fun _ _=>by kernel_rfl) (fun _ _ _ h=>h) hS ?_
  refine ai 5 (some 28) (.pointer (some ⟨g,0,none⟩)) (by kernel_rfl) (fun _ _=>by kernel_rfl) (fun _ _ _ h=>h) hS ?_
  refine ai 6 (some 29) (.pointer (some ⟨g,0,none⟩)) (by kernel_rfl) (fun _ _=>by kernel_rfl) (fun _ _ _ h=>h) hS ?_
  refine ai 7 (some 30) (.pointer (some ⟨g,0,none⟩)) (by kernel_rfl) (fun _ _=>by kernel_rfl) (fun _ _ _ h=>h) hS ?_
  refine aU 8 (some 31) (.slice (some ⟨G,0,none⟩) 1 C) 146 30 (g) (0) (by kernel_rfl) (by kernel_rfl) (by kernel_rfl) (fun w' h=>gE h.1) (fun _ _ _ h=>h) hS ?_
  refine ai 9 (some 32) (.int .i64 0) (by kernel_rfl) (fun _ _=>by kernel_rfl) (fun _ _ _ h=>h) hS ?_
  refine ai 10 (some 33) (.pointer (some ⟨G,0,none⟩)) (by kernel_rfl) (fun _ _=>eX (x:=31) (y:=32) (n:=1) (c:=C) (by kernel_rfl) Z (by kernel_rfl) (by kernel_rfl) (rfl) (ab)) (fun _ _ _ h=>h) hS ?_
  refine ai 12 (some 35) (.int .i64 0) (by kernel_rfl) (fun _ _=>by kernel_rfl) (fun _ _ _ h=>h) hS ?_
  refine aU 13 (some 36) (.agg #[kv,vv]) 185 7 (w.heap.size) (0) (by kernel_rfl) (by kernel_rfl) (by kernel_rfl) (fun w' h=>ld_e h.2.1 h.2.2) (fun _ _ _ h=>h) hS ?_
  refine aN [11,14] (by kernel_rfl) (by simp) ?_
  refine bH 11 (some 34) (.slice none 0 0) _ (by kernel_rfl) (jx 33 (by kernel_rfl) (by kernel_rfl) (pQ cGd)) hS ?_ (bH 14 (some 37) (.slice (some ⟨d.heap.size,0,none⟩) 1 1) _ (by kernel_rfl) (qV (k:=36) (by kernel_rfl) (by kernel_rfl)) M ?_ bj)
  ·refine aN [14] (by kernel_rfl) (by simp) ?_
   refine bH 14 (some 37) (.slice (some ⟨d.heap.size,0,none⟩) 1 1) _ (by kernel_rfl) (qV (k:=36) (by kernel_rfl) (by kernel_rfl)) M ?_ bj;refine bS 15 (some 38) 196 #[.slice none 0 0,.int .i64 0,.slice (some ⟨d.heap.size,0,none⟩) 1 1] (by kernel_rfl) (by kernel_rfl) t1 ?_
   rintro e' j ⟨J,c2,rfl,H,R2,l⟩;rw[<- E.out] at l
   have u:j.cell? ⟨g,0,none⟩=_:=(l.cell (p:=⟨g,0,none⟩) (aL r)).trans r
   have t:j.cell? ⟨w.heap.size,0,none⟩=_:=(l.cell (p:=⟨w.heap.size,0,none⟩) (aL m)).trans m
   have v:j.cell? ⟨w.heap.size,1,none⟩=_:=(l.cell (p:=⟨w.heap.size,1,none⟩) (aL s)).trans s
   have P:j.cell? ⟨G,0,none⟩=_:=(l.cell (p:=⟨G,0,none⟩) (aL q)).trans q
   have Q:j.frozen? ⟨G,0,none⟩=false:=((S.keep T).keep l).free 0;refine⟨_,rfl,⟨u,t,v⟩,?_⟩;replace hS:=(show _/\_/\_ from⟨u,t,v⟩)
   refine ai 16 (some 39) (.pointer (some ⟨G,0,none⟩)) (by kernel_rfl) (fun _ _=>eX (x:=26) (y:=27) (n:=1) (c:=C) (by kernel_rfl) Z (by kernel_rfl) (by kernel_rfl) (rfl) (ab)) (fun _ _ _ h=>h) hS ?_
   refine aN [17] (by kernel_rfl) (by simp) ?_
   refine dD 17 (j.setCell ⟨G,0,none⟩ (.slice (some ⟨J,0,none⟩) 1 c2)) (by kernel_rfl) (kZ 39 38 (by kernel_rfl) (by kernel_rfl) (by kernel_rfl) P Q) ⟨b8 O u,b8 K t,b8 K v⟩ ?_ bj;refine bQ (by kernel_rfl) ?_
   exact⟨(J,c2),by kernel_rfl,j,rfl,H,R2,l⟩
  ·refine aN [11] (by kernel_rfl) (by simp) ?_
   refine bH 11 (some 34) (.slice none 0 0) _ (by kernel_rfl) (jx 33 (by kernel_rfl) (by kernel_rfl) (pQ I)) M ?_ bj;refine bS 15 (some 38) 196 #[.slice none 0 0,.int .i64 0,.slice (some ⟨d.heap.size,0,none⟩) 1 1] (by kernel_rfl) (by kernel_rfl) t1 ?_
   rintro e' j ⟨J,c2,rfl,H,R2,l⟩;rw[<- E.out] at l
   have u:j.cell? ⟨g,0,none⟩=_:=(l.cell (p:=⟨g,0,none⟩) (aL r)).trans r
   have t:j.cell? ⟨w.heap.size,0,none⟩=_:=(l.cell (p:=⟨w.heap.size,0,none⟩) (aL m)).trans m
   have v:j.cell? ⟨w.heap.size,1,none⟩=_:=(l.cell (p:=⟨w.heap.size,1,none⟩) (aL s)).trans s
   have P:j.cell? ⟨G,0,none⟩=_:=(l.cell (p:=⟨G,0,none⟩) (aL q)).trans q
   have Q:j.frozen? ⟨G,0,none⟩=false:=((S.keep T).keep l).free 0;refine⟨_,rfl,⟨u,t,v⟩,?_⟩;replace hS:=(show _/\_/\_ from⟨u,t,v⟩)
   refine ai 16 (some 39) (.pointer (some ⟨G,0,none⟩)) (by kernel_rfl) (fun _ _=>eX (x:=26) (y:=27) (n:=1) (c:=C) (by kernel_rfl) Z (by kernel_rfl) (by kernel_rfl) (rfl) (ab)) (fun _ _ _ h=>h) hS ?_
   refine aN [17] (by kernel_rfl) (by simp) ?_
   refine dD 17 (j.setCell ⟨G,0,none⟩ (.slice (some ⟨J,0,none⟩) 1 c2)) (by kernel_rfl) (kZ 39 38 (by kernel_rfl) (by kernel_rfl) (by kernel_rfl) P Q) ⟨b8 O u,b8 K t,b8 K v⟩ ?_ bj;refine bQ (by kernel_rfl) ?_
   exact⟨(J,c2),by kernel_rfl,j,rfl,H,R2,l⟩
 rintro⟨J,L⟩ w' ⟨N,rfl,H,R4,D4⟩;dsimp only at H R4;simp only[jC,Act.put,List.setIfInBounds_toArray,List.set_cons_zero,List.set_cons_succ]
 have o:Below d.heap.size d N:=aB T D4;subst H;have Y:=(hg3.keep o).off O (i:=0) (.slice (some ⟨d.heap.size+1,0,none⟩) 1 L);have R5:=(S.keep o).set 0 (by simp) (.slice (some ⟨d.heap.size+1,0,none⟩) 1 L)
 have hNG:d.heap.size+1≠G:=by have:=S.lt;omega
 have R6:Rw (N.setCell ⟨G,0,none⟩ (.slice (some ⟨d.heap.size+1,0,none⟩) 1 L)) 185 2 (d.heap.size+1) 1 L [kv,vv]:=R4.same (Below.heap_setCell N _ _ _ hNG)
 have E6:EnA (N.setCell ⟨G,0,none⟩ (.slice (some ⟨d.heap.size + 1,0,none⟩) 1 L)) D ⟨kv,kl,vv,vl⟩:=((ac _ hE).keep o).off fun b hb hk=>by
  obtain⟨cs,k⟩:=hk;obtain⟨ds,k'⟩:=(S.keep o).kind;exact Below.heap_setCell N _ _ b (eR k k' (by decide))
 have C6:Chg F w (N.setCell ⟨G,0,none⟩ (.slice (some ⟨d.heap.size+1,0,none⟩) 1 L)):=(C03.trans (Chg.of (F:=F) o) (fun _ _ h=>h)).cell hFG _;have cg5:=Y.cell (i:=0) rfl;have cG5:=R5.cell (i:=0) rfl
 have hfin:bU (N.setCell ⟨G,0,none⟩ (.slice (some ⟨d.heap.size+1,0,none⟩) 1 L)) (fun x=>x=g\/x=G\/x=d.heap.size+1) D g [⟨d.heap.size+1,L,[⟨kv,kl,vv,vl⟩]⟩]:=by
  refine⟨⟨_,Y,.inl rfl,.inr ⟨G,C,rfl,.inr (.inl rfl),R5⟩⟩,fun p hp=>?_,by simp,fun b hb=>?_⟩
  ·simp at hp;subst hp;exact⟨⟨R6,fun e he=>by simp at he;subst he;exact E6⟩,.inr (.inr rfl)⟩
  ·rcases hb with rfl | rfl | rfl
   ·exact⟨_,_,Y,by decide⟩
   ·obtain⟨ds,k⟩:=R5.kind;exact⟨ds,_,k,by decide⟩
   ·obtain⟨ds,k⟩:=R6.kind;exact⟨ds,_,k,by decide⟩
 generalize (N.setCell ⟨G,0,none⟩ (.slice (some ⟨d.heap.size+1,0,none⟩) 1 L))=W6 at *;go_wp2;go_end0;refine⟨_,_,rfl,?_,hfin,fun b hb=>?_,C6⟩
 ·rfl
 ·rcases hb with rfl | rfl | rfl
  ·exact .inl hFg
  ·exact hFG
  ·exact .inr (by omega)
end
end Pg
end
section
namespace Pg
open Go.RowKit Go.Lib
section
variable {es:List En}{k ul:List Int}{L:List Pg}{w:World}{i g:Nat}{cs:List Value}{v u kv:Value}{F D:Nat->Prop}
def has(P:List (List En))(k:List Int):Bool:=!P.isEmpty && thr (kys (P.getD (pgi P k) [])) k
def got(P:List (List En))(k:List Int):List Int:=((P.getD (pgi P k) [])[plc (kys (P.getD (pgi P k) [])) k]?.map En.vl).getD []
def fQ(P:List (List En))(e:En):List (List En) :=
 if P=[] then [[e]]
 else
  let i:=pgi P e.kl
  let es:=P.getD i []
  let q:=plc (kys es) e.kl
  if thr (kys es) e.kl then P.set i (es.modify q fun x=>{ x with vv:=e.vv,vl:=e.vl }) else r6 P i q e
theorem mg(h:thr (kys es) k=true):∃ e,es[plc (kys es) k]?=some e/\e.kl=k:=by
 simp only[thr,decide_eq_true_eq,kys,List.getElem?_map] at h;obtain⟨e,he,hk⟩:=Option.map_eq_some_iff.1 h;exact⟨e,he,hk⟩
theorem uK(h:L≠[]):ens L≠[]:=fun e=>h (by simpa[ens] using e)
theorem pW(h:L≠[])(k:List Int):∃ p,L[pgi (ens L) k]?=some p/\(ens L).getD (pgi (ens L) k) []=p.es:=by
 have:=pgi_lt (uK h) k;simp only[ens,List.length_map] at this;refine⟨L[pgi (ens L) k]'this,List.getElem?_eq_getElem _,?_⟩;exact fk (List.getElem?_eq_getElem _)
theorem zQ{G:Nat}{t:TypeId}(h:Blk w G cs t)(hi:cs[i]?=some v)(b:Nat):(w.setCell ⟨G,i,none⟩ v).heap[b]?=w.heap[b]?:=by
 by_cases e:b=G
 ·subst e;have c:=(h.setCell (i:=i) v).blk;rw[c,h.blk];have:cs.set i v=cs:=by
   obtain⟨a,rfl⟩:=List.getElem?_eq_some_iff.1 hi;exact List.set_getElem_self a
  rw[this]
 ·exact Below.heap_setCell w _ v b e
theorem bU.upd{w1:World}{q:Nat}{p:Pg}{e:En}(A:bU w F D g L)(hi:L[i]?=some p)(he:p.es[q]?=some e)(B:Below w.heap.size w w1)(hu:OB w1 (w.heap.size <= ·) u ul) :
  bU (w1.setCell ⟨p.b,q * 2+1,none⟩ u) F (fun b=>D b\/w.heap.size<=b) g (L.set i ⟨p.b,p.c,p.es.set q { e with vv:=u,vl:=ul }⟩)/\Chg F w (w1.setCell ⟨p.b,q * 2+1,none⟩ u):=by
 have s:=(List.getElem?_eq_some_iff.1 hi).1
 have hL:L≠[]:=fun e=>by subst e;simp at s
 obtain⟨G,C,R,y,E,H⟩:=A.opn hL;have m:=A.cI p (List.mem_of_getElem? hi);have z:=(List.getElem?_eq_some_iff.1 he).1
 have hC:Chg (·=p.b) w (w1.setCell ⟨p.b,q * 2+1,none⟩ u):=(Chg.of (F:=(·=p.b)) B).cell (.inl rfl) _
 have a:∀ {v:Value} {l:List Int} {D':Nat->Prop},OB w1 D' v l->OB (w1.setCell ⟨p.b,q * 2 + 1,none⟩ u) D' v l:=fun h=>⟨h.oct,h.ex.imp id (by
  rintro⟨b,c,e,hd,n⟩;refine⟨b,c,e,hd,n.same (Below.heap_setCell w1 _ _ b ?_)⟩;obtain⟨T,k⟩:=n.kind;obtain⟨O,P⟩:=(m.1.row.keep B).kind
  exact eR k P (by decide))⟩
 have r:Rw (w1.setCell ⟨p.b,q * 2+1,none⟩ u) 185 2 p.b p.es.length p.c (flat (p.es.set q { e with vv:=u,vl:=ul })) :=
  ((m.1.row.keep B).set (q * 2+1) (by rw[jW];omega) u).to (om u ul he)
 have hA:PgA (w1.setCell ⟨p.b,q * 2+1,none⟩ u) (fun b=>D b\/w.heap.size<=b) ⟨p.b,p.c,p.es.set q { e with vv:=u,vl:=ul }⟩:=by
  refine⟨by simpa using r,fun S t=>?_⟩;obtain⟨j,o⟩:=List.getElem?_of_mem t;rw[List.getElem?_set] at o;by_cases M:q=j
  ·subst M;rw[if_pos rfl,if_pos z] at o
   cases o;have f:=m.1.dW e (List.mem_of_getElem? he);exact⟨(a (f.k.keep B)).mono (fun _ _ h=>.inl h),(a hu).mono (fun _ _ h=>.inr h)⟩
  ·rw[if_neg M] at o;have f:=m.1.dW S (List.mem_of_getElem? o);exact⟨(a (f.k.keep B)).mono (fun _ _ h=>.inl h),(a (f.v.keep B)).mono (fun _ _ h=>.inl h)⟩
 obtain⟨N,Q⟩:=A.put (p':=⟨p.b,p.c,p.es.set q { e with vv:=u,vl:=ul }⟩) (D':=fun b=>D b\/w.heap.size<=b) R y E H hi hC (.inl rfl) hA (fun _ _ h=>.inl h)
 have hv:(⟨p.b,p.c,p.es.set q { e with vv:=u,vl:=ul }⟩:Pg).v=p.v:=by simp[Pg.v]
 rw[hv] at N Q
 have J:Rw (w1.setCell ⟨p.b,q * 2+1,none⟩ u) 188 1 G L.length C (L.map Pg.v):=H.chg hC (fun e=>m.1.fx H e.symm)
 have d:∀ b,((w1.setCell ⟨p.b,q * 2 + 1,none⟩ u).setCell ⟨G,i,none⟩ p.v).heap[b]? = (w1.setCell ⟨p.b,q * 2 + 1,none⟩ u).heap[b]? := fun b=>by
  obtain⟨sp,h,_⟩:=J.ex;exact zQ h (by rw[List.getElem?_append_left (by simpa using s)];simp[hi]) b
 have I:∀ x,((F x/\x≠p.b)\/x=p.b)<->F x:=fun x=>⟨fun h=>h.elim (fun h=>h.1) (fun h=>by subst h; exact m.2),fun h=>by
  by_cases ex:x=p.b
  ·exact .inr ex
  ·exact .inl ⟨h,ex⟩⟩
 have K:=N.same (w':=w1.setCell ⟨p.b,q * 2+1,none⟩ u) (fun b _=>(d b).symm) (fun b _ _ _=>(d b).symm);rw[show (fun x=>(F x/\x≠p.b)\/x=p.b)=F from funext fun x=>propext (I x)] at K;exact⟨K,⟨hC.os,hC.tape,hC.output,hC.size,fun b hb hf=>hC.same b hb fun e=>hf (by subst e;exact m.2)⟩⟩
theorem CO(A:bU w F D g L)(O:Ord (ens L))(hs:∀ es∈ens L,es.length<=1000)(hn:L.length<=100000000)(h:By w kv k)(hb:∀ p∈L,∀ e∈p.es,e.vl.length<=1000000000) :
  Calls Tryz.prog 165 #[.pointer (some ⟨g,0,none⟩),kv] w fun e w'=>∃ v,e=.returned (.tuple #[v,.bool (has (ens L) k)])/\OB w' (w.heap.size <= ·) v (if has (ens L) k then got (ens L) k else [])/\Below w.heap.size w w':=by
 by_cases hL:L=[]
 ·subst hL;have t:=oq (v:=kv) A
  have e1:has (ens []) k=false:=rfl;rw[e1];clear A O hs hb h;go_enter Tryz.func165,Tryz.ntmps165;go_wp2_with (go_at_call 147;refine t.mono ?_;rintro y l ⟨rfl,rfl⟩);go_ret2;exact⟨_,rfl,⟨fun _ h=>by simp at h,.inl ⟨rfl,rfl⟩⟩,Below.refl _ _⟩
 ·obtain⟨p,s,r⟩:=pW hL k;have d:=List.mem_of_getElem? s;have t:=mh A O h (by omega) s (by have:=hs p.es (List.mem_map.2 ⟨p,d,rfl⟩);omega);obtain⟨G,C,x,P,U,E⟩:=A.opn hL;have R:=(List.getElem?_eq_some_iff.1 s).1
  have J:has (ens L) k=thr (kys p.es) k:=by
   unfold has;rw[r];have:(ens L).isEmpty=false:=by simp[ens,hL]
   simp[this]
  have f:got (ens L) k=((p.es)[plc (kys p.es) k]?.map En.vl).getD []:=by unfold got;rw[r]
  rw[J];by_cases j:thr (kys p.es) k=true
  ·obtain⟨e,he,M⟩:=mg j;rw[he] at f;simp only[Option.map_some,Option.getD_some] at f;rw[j,if_pos rfl,f];rw[j] at t;have cg:=x.cell (i:=0) rfl;have z:=E.cell (i:=pgi (ens L) k) (v:=p.v) (by simp[s]);have I:=(A.cI p d).1.dW e (List.mem_of_getElem? he);have cv:=(A.cI p d).1.row.cell (kX he)
   have H:∀ w',Below w.heap.size w w'->Calls Tryz.prog 69 #[e.vv] w' _:=fun w' c=>cZ (I.v.keep c).by (hb p d e (List.mem_of_getElem? he))
   have Q:=(List.getElem?_eq_some_iff.1 he).1;generalize pgi (ens L) k=i at *;generalize plc (kys p.es) k=q at *
   have z1:(i:Int) < L.length:=by omega
   have z2:(q:Int) < p.es.length:=by omega
   simp only[Pg.v] at z;generalize L.length=n at *;generalize p.es.length=m at *;clear A O hs hb h E x I j;go_enter Tryz.func165,Tryz.ntmps165;go_wp2_with (first | (go_at_call 147;refine t.mono ?_;rintro y l ⟨rfl,c⟩;have T:l.cell? ⟨g,0,none⟩=_:=(c.cell (p:=⟨g,0,none⟩) (aL cg)).trans cg;have V:l.cell? ⟨G,i,none⟩=_:=(c.cell (p:=⟨G,i,none⟩) (aL z)).trans z;have K:l.cell? ⟨p.b,q * 2+1,none⟩=_:=(c.cell (p:=⟨p.b,q * 2+1,none⟩) (aL cv)).trans cv;have u:=H l c;clear t H) | (go_at_call 69;refine u.mono ?_;rintro y W ⟨S,rfl,N,B⟩));go_ret2;exact⟨S,rfl,N.mono (fun b _ hb=>Nat.le_trans c.size hb),aB c B⟩
  ·have o:thr (kys p.es) k=false:=by simpa using j
   rw[o] at t ⊢;generalize pgi (ens L) k=i at *;generalize plc (kys p.es) k=q at *;clear A O hs hb h E x j o J f;go_enter Tryz.func165,Tryz.ntmps165;go_wp2_with (go_at_call 147;refine t.mono ?_;rintro y l ⟨rfl,c⟩);go_ret2;exact⟨_,rfl,⟨fun _ h=>by simp at h,.inl ⟨rfl,rfl⟩⟩,c⟩
end
end Pg
end
section
namespace Pg
open Go.RowKit Go.Lib
section
variable {es:List En}{q g:Nat}{w:World}{D F:Nat->Prop}{v l k:List Int}{L:List Pg}{kv vv:Value}
theorem yI{e:En}(h:es[q]?=some e)(f:En->En):es.modify q f=es.set q (f e):=by
 have a:=(List.getElem?_eq_some_iff.1 h).1;apply List.ext_getElem?;intro j;rw[List.getElem?_modify,List.getElem?_set];by_cases e:q=j
 ·subst e;rw[if_pos rfl,if_pos a,h];simp
 ·rw[if_neg e];simp[e]
theorem OB.shape{v:Value}(h:OB w D v l):∃ ao c,v=.slice ao l.length c:=by
 rcases h.ex with⟨rfl,rfl⟩ | ⟨b,c,rfl,_⟩
 ·exact⟨none,0,rfl⟩
 ·exact⟨_,c,rfl⟩
def SetR(w w':World)(F D:Nat->Prop)(g:Nat)(L:List Pg)(k v:List Int):Prop :=
 ∃ F' L' nk nv,ens L'=fQ (ens L) ⟨nk,k,nv,v⟩/\bU w' F' (fun b=>D b\/w.heap.size<=b) g L'/\(∀ b,F' b->F b\/w.heap.size<=b)/\Chg F w w'
theorem xD{F D:Nat→Prop}{p:Pg}(A:bU w F D g L)(O:Ord (ens L))(hs:p.es.length≤1000)(hn:L.length≤100000000)(h:By w kv k)(hv:By w vv v)(Q:v.length≤1000000000)(hL:L≠[])(I:L[pgi (ens L) k]?=some p)(H:(ens L).getD (pgi (ens L) k) []=p.es)(K:thr (kys p.es) k=true) :
    Calls Tryz.prog 97 #[.pointer (some ⟨g,0,none⟩),kv,vv] w fun e w'=>e=.returned (.bool false)∧SetR w w' F D g L k v:=by
  have t:=mh A O h (by omega) I (by omega);obtain⟨G,C,V,Y,hFG,W⟩:= A.opn hL;obtain⟨e,he,hek⟩:= mg K;have P:=List.mem_of_getElem? I;have aa:=(List.getElem?_eq_some_iff.1 I).1;have hql:=(List.getElem?_eq_some_iff.1 he).1
  have hS : ∀ u, fQ (ens L) ⟨e.kv, k, u, v⟩ = (ens L).set (pgi (ens L) k) (p.es.set (plc (kys p.es) k) { e with vv := u, vl := v }) := fun u => by
    unfold fQ;rw[if_neg (uK hL)];simp only[H];rw[if_pos K,yI he]
  have hS:Hid _:=hS;rw[K] at t;have cg:=V.cell (i:=0) rfl;have R:=W.cell (i:=pgi (ens L) k) (v:=p.v) (by simp[I])
  have tC:∀ w',Below w.heap.size w w'→Calls Tryz.prog 69 #[vv] w' _:=fun w' B=>cZ (hv.keep B) Q
  have d:=(A.cI p P).1;have cv:=d.row.cell (kX he);have fv:=d.row.free (plc (kys p.es) k * 2+1)
  have n1:g≠p.b:=fun e=>d.fq V e.symm
  have n2:G≠p.b:=fun e=>d.fx W e.symm
  generalize x:pgi (ens L) k=i at *;generalize r:plc (kys p.es) k=q at *
  have x:Hid _:=x
  have r:Hid _:=r
  have z1:(i:Int) < L.length:=by omega
  have z2:(q:Int) < p.es.length:=by omega
  simp only[Pg.v] at R;generalize s:L.length=n at *;generalize z:p.es.length=m at *
  have s:Hid _:=s
  have z:Hid _:=z;clear K H;have mixed:=mixed;go_enter Tryz.func97,Tryz.ntmps97;go_wp2_with (first | (go_at_call 147;refine t.mono ?_;rintro e' E ⟨rfl,B⟩))
  have y:E.drew.cell? ⟨g,0,none⟩=some (.slice (some ⟨G,0,none⟩) n C):=(B.cell (p:=⟨g,0,none⟩) (aL cg)).trans cg
  have J:E.drew.cell? ⟨G,i,none⟩=some (.slice (some ⟨p.b,0,none⟩) m p.c):=(B.cell (p:=⟨G,i,none⟩) (aL R)).trans R
  have f:Below w.heap.size w E.drew:=aB B (cC E);have M:=tC E.drew f;go_region_held3 (fun w'=>w'.cell? ⟨g,0,none⟩=some (.slice (some ⟨G,0,none⟩) n C)∧w'.cell? ⟨G,i,none⟩=some (.slice (some ⟨p.b,0,none⟩) m p.c)) (first | exact⟨by assumption,by assumption⟩ | exact⟨b8 n1 (by assumption),b8 n2 (by assumption)⟩)
    (first
    | (go_at_call 69;refine M.mono ?_;rintro e' o ⟨v',rfl,U,l⟩;obtain⟨N,S,rfl⟩:= U.shape;have cg2:o.cell? ⟨g,0,none⟩=_:=(l.cell (p:=⟨g,0,none⟩) (aL y)).trans y;have X:o.cell? ⟨G,i,none⟩=_:=(l.cell (p:=⟨G,i,none⟩) (aL J)).trans J;have j:=aB f l;have Z:o.cell? ⟨p.b,q * 2+1,none⟩=_:=(j.cell (p:=⟨p.b,q * 2+1,none⟩) (aL cv)).trans cv;have fv2:o.frozen? ⟨p.b,q * 2+1,none⟩=false:=(d.row.keep j).free _))
  all_goals (
    have T:OB o (w.heap.size≤·) (.slice N v.length S) v:=U.mono (fun b _ hb=>Nat.le_trans f.size hb);obtain⟨A2,C2⟩:= A.upd I he j T;generalize (o.setCell ⟨p.b,q * 2+1,none⟩ (.slice N v.length S))=W3 at *;go_wp2;go_ret
    exact⟨rfl,F,_,e.kv,.slice N v.length S,by rw[hS.out,pU],A2,fun b hb=>.inl hb,C2⟩)
theorem jf{i:Nat}(A:bU w F D g L)(h:By w kv k)(hv:By w vv v)(p:k.length<=1000000000)(r:v.length<=1000000000)(t:Calls Tryz.prog 147 #[.pointer (some ⟨g,0,none⟩),kv] w fun e w'=>e=.returned (.tuple #[.int .i64 i,.int .i64 q,.bool false])/\Below w.heap.size w w')(z:∀ (w':World) (nk nv:Value),bU w' F (fun b=>D b\/w.heap.size<=b) g L->EnA w' (fun b=>D b\/w.heap.size<=b) ⟨nk,k,nv,v⟩->Calls Tryz.prog 148 #[.pointer (some ⟨g,0,none⟩),.int .i64 i,.int .i64 q,.agg #[nk,nv]] w' fun e' w''=>∃ F' L',e'=.returned (.tuple #[])/\ens L'=fQ (ens L) ⟨nk,k,nv,v⟩/\bU w'' F' (fun b=>D b\/w.heap.size<=b) g L'/\(∀ b,F' b->F b\/w'.heap.size<=b)/\Chg F w' w'') :
  Calls Tryz.prog 97 #[.pointer (some ⟨g,0,none⟩),kv,vv] w fun e w'=>e=.returned (.bool true)/\SetR w w' F D g L k v:=by
 have y:∀ w',Below w.heap.size w w'->Calls Tryz.prog 69 #[kv] w' _:=fun w' f=>cZ (h.keep f) p
 have x:∀ w',Below w.heap.size w w'->Calls Tryz.prog 69 #[vv] w' _:=fun w' f=>cZ (hv.keep f) r
 have mk:True:=trivial;clear h hv;go_enter Tryz.func97,Tryz.ntmps97
 go_wp2_with (first
  | (go_at_call 147;refine t.mono ?_;rintro e' B ⟨rfl,f⟩;have l:=y B f;clear t y)
  | (go_at_call 69;clear mk;refine l.mono ?_;rintro e' G ⟨nk,rfl,u,s⟩;have d:=aB f s;have j:=x G d;clear l x;obtain⟨J,M,rfl⟩:=u.shape)
  | (go_at_call 69;refine j.mono ?_;rintro e' C ⟨nv,rfl,m,n⟩;clear j;obtain⟨I,K,rfl⟩:=m.shape;have c:=aB d n;have o:=z C _ _ ((A.keep c).mono (fun _ _ h=>.inl h)) ⟨(u.keep n).mono (fun b _ hb=>.inr (Nat.le_trans f.size hb)),m.mono (fun b _ hb=>.inr (Nat.le_trans d.size hb))⟩)
  | (go_at_call 148;refine o.mono ?_;rintro e' H ⟨F',L',rfl,E,hA,hF,hC⟩))
 go_ret;exact⟨rfl,F',L',_,_,E,hA,fun b hb=>(hF b hb).imp id (fun h=>Nat.le_trans c.size h),(Chg.of (F:=F) c).trans hC (fun _ _ h=>h)⟩
theorem Dp(A:bU w F D g L)(O:Ord (ens L))(hs:∀ es∈ens L,es.length<=32)(hn:L.length<=100000000)(h:By w kv k)(hv:By w vv v)(f:k.length<=1000000000)(b:v.length<=1000000000) :
  Calls Tryz.prog 97 #[.pointer (some ⟨g,0,none⟩),kv,vv] w fun e w'=>e=.returned (.bool (!has (ens L) k))/\SetR w w' F D g L k v:=by
 by_cases hL:L=[]
 ·subst hL;refine jf (i:=0) (q:=0) A h hv f b ((oq A).mono ?_) (fun w' nk nv u n=>(rz u n).mono ?_)
  ·rintro e w' ⟨rfl,rfl⟩;exact⟨rfl,Below.refl _ _⟩
  ·rintro e r ⟨s,m,rfl,x,hA,hF,hC⟩;exact⟨s,m,rfl,x,hA,hF,hC⟩
 ·obtain⟨p,j,a⟩:=pW hL k;have o:=List.mem_of_getElem? j;have y:=hs p.es (List.mem_map.2 ⟨p,o,rfl⟩)
  have z:has (ens L) k=thr (kys p.es) k:=by
   unfold has;rw[a];have:(ens L).isEmpty=false:=by simp[ens,hL]
   simp[this]
  rw[z];by_cases l:thr (kys p.es) k=true
  ·rw[l];exact xD A O (by omega) hn h hv b hL j a l
  ·have c:thr (kys p.es) k=false:=by simpa using l
   have t:=mh A O h (by omega) j (by omega);rw[c] at t ⊢;have d:=qv (kys p.es) k;simp only[kys,List.length_map] at d;refine jf A h hv f b t (fun w' nk nv u n=>(ub u j (q:=plc (kys p.es) k) d y hn n).mono ?_);rintro e r ⟨s,m,rfl,x,hA,hF,hC⟩;refine⟨s,m,rfl,?_,hA,hF,hC⟩;rw[x];unfold fQ;rw[if_neg (uK hL)];simp only[a];rw[if_neg (by rw[c];decide)]
end
end Pg
end
section
namespace Pg
open Go.RowKit Go.Lib
section
variable {w:World}{v:Value}{F D:Nat->Prop}{L:List Pg}
def jnb(P:List (List En))(i:Nat):Bool:=decide (i+1 < P.length) && decide ((P.getD i []).length+(P.getD (i+1) []).length<=16)
def jnQ(P:List (List En))(i:Nat):List (List En):=P.take i ++ [P.getD i [] ++ P.getD (i+1) []] ++ P.drop (i+2)
theorem jn_neg:Calls Tryz.prog 204 #[v,.int .i64 (-1)] w fun e w'=>e=.returned (.bool false)/\Below w.heap.size w w':=by
 have mixed:=mixed;go_enter Tryz.func204,Tryz.ntmps204;go_wp2;go_region;go_wp2;go_ret;exact⟨rfl,cC w⟩
theorem AJ{g i:Nat}(A:bU w F D g L)(hi:i < L.length)(hn:L.length<=100000000)(hs:∀ es∈ens L,es.length<=1000) :
  Calls Tryz.prog 204 #[.pointer (some ⟨g,0,none⟩),.int .i64 i] w fun e w'=>e=.returned (.bool (jnb (ens L) i))/\Below w.heap.size w w':=by
 have hL:L≠[]:=fun e=>by subst e;simp at hi
 obtain⟨G,C,B,K,M,t⟩:=A.opn hL;have cg:=B.cell (i:=0) rfl
 have q:(ens L).length=L.length:=by simp[ens]
 have mixed:=mixed
 have z:IntKind.i64.wrap ((i:Int)+1)=(i:Int)+1:=by rw[IntKind.wrap_i64];omega
 have J:(0:Int)<=(i:Int):=by omega
 by_cases s:i+1 < L.length
 ·obtain⟨p,E⟩:∃ p,L[i]?=some p:=⟨L[i],List.getElem?_eq_getElem hi⟩
  obtain⟨d,l⟩:∃ d,L[i+1]?=some d:=⟨L[i+1],List.getElem?_eq_getElem s⟩
  have I:=t.cell (i:=i) (v:=p.v) (by simp[E]);have m:=t.cell (i:=i+1) (v:=d.v) (by simp[l]);have s1:=hs p.es (List.mem_map.2 ⟨p,List.mem_of_getElem? E,rfl⟩);have s2:=hs d.es (List.mem_map.2 ⟨d,List.mem_of_getElem? l,rfl⟩)
  have u:Hid (jnb (ens L) i=decide ((p.es.length:Int)+(d.es.length:Int)<=16)):=by
   show _=_
   unfold jnb;rw[q,decide_eq_true s,fk E,fk l,Bool.true_and];congr 1
   exact propext ⟨fun h=>by omega,fun h=>by omega⟩
  simp only[Pg.v] at I m;generalize hln:L.length=n at *;generalize p.es.length=x at *;generalize d.es.length=y at *
  have z1:(i:Int)+1 < n:=by omega
  have z2:(i:Int) < n:=by omega
  have z3:((i:Int)+1).toNat=i+1:=by omega
  have z4:(0:Int)<=(i:Int)+1:=by omega
  have z5:IntKind.i64.wrap ((x:Int)+(y:Int))=(x:Int)+(y:Int):=by rw[IntKind.wrap_i64];omega
  have f:w.drew.cell? ⟨g,0,none⟩=some (.slice (some ⟨G,0,none⟩) n C):=cg
  have o:w.drew.cell? ⟨G,i,none⟩=some (.slice (some ⟨p.b,0,none⟩) x p.c):=I
  have j:w.drew.cell? ⟨G,i+1,none⟩=some (.slice (some ⟨d.b,0,none⟩) y d.c):=m;clear A hs t B hln;go_enter Tryz.func204,Tryz.ntmps204;go_wp2
  have r:Tryz.prog.underlying 146=some (.slice 188):=by kernel_rfl
  have H:i < n:=hi;refine bT (S:=fun w'=>w'.cell? ⟨g,0,none⟩=some (.slice (some ⟨G,0,none⟩) n C)/\w'.cell? ⟨G,i,none⟩=some (.slice (some ⟨p.b,0,none⟩) x p.c)/\w'.cell? ⟨G,i+1,none⟩=some (.slice (some ⟨d.b,0,none⟩) y d.c)) (by kernel_rfl) ⟨f,o,j⟩ ?_
  have hS:=(show _/\_/\_ from⟨f,o,j⟩)
  refine ai 0 (some 5) (.int .i64 i) (by kernel_rfl) (fun _ _=>by kernel_rfl) (fun _ _ _ h=>h) hS ?_
  refine jq 1 (some 6) (.bool (decide ((0:Int)<=(i:Int)))) (.bool true) (by rw[decide_eq_true J]) (by kernel_rfl) (fun _ _=>by kernel_rfl) (fun _ _ _ h=>h) hS ?_
  refine ai 2 (some 7) (.bool true) (by kernel_rfl) (fun _ _=>by kernel_rfl) (fun _ _ _ h=>h) hS ?_
  refine ai 3 (some 8) (.int .i64 i) (by kernel_rfl) (fun _ _=>by kernel_rfl) (fun _ _ _ h=>h) hS ?_
  refine jq 4 (some 9) (.int .i64 (IntKind.i64.wrap ((i:Int)+1))) (.int .i64 ((i:Int)+1)) (by rw[z]) (by kernel_rfl) (fun _ _=>by kernel_rfl) (fun _ _ _ h=>h) hS ?_
  refine ai 5 (some 10) (.pointer (some ⟨g,0,none⟩)) (by kernel_rfl) (fun _ _=>by kernel_rfl) (fun _ _ _ h=>h) hS ?_
  refine ai 6 (some 11) (.pointer (some ⟨g,0,none⟩)) (by kernel_rfl) (fun _ _=>by kernel_rfl) (fun _ _ _ h=>h) hS ?_
  refine ai 7 (some 12) (.pointer (some ⟨g,0,none⟩)) (by kernel_rfl) (fun _ _=>by kernel_rfl) (fun _ _ _ h=>h) hS ?_
  refine aU 8 (some 13) (.slice (some ⟨G,0,none⟩) n C) 146 12 (g) (0) (by kernel_rfl) (by kernel_rfl) (by kernel_rfl) (fun w' h=>gE h.1) (fun _ _ _ h=>h) hS ?_
  refine ai 9 (some 14) (.int .i64 n) (by kernel_rfl) (fun _ _=>by kernel_rfl) (fun _ _ _ h=>h) hS ?_
  refine jq 10 (some 15) (.bool (decide ((i:Int)+1 < (n:Int)))) (.bool true) (by rw[decide_eq_true (by omega)]) (by kernel_rfl) (fun _ _=>by kernel_rfl) (fun _ _ _ h=>h) hS ?_
  refine ai 11 (some 16) (.bool true) (by kernel_rfl) (fun _ _=>by kernel_rfl) (fun _ _ _ h=>h) hS ?_
  refine ai 12 (some 17) (.bool true) (by kernel_rfl) (fun _ _=>by kernel_rfl) (fun _ _ _ h=>h) hS ?_
  refine ai 13 (some 18) (.pointer (some ⟨g,0,none⟩)) (by kernel_rfl) (fun _ _=>by kernel_rfl) (fun _ _ _ h=>h) hS ?_
  refine ai 14 (some 19) (.pointer (some ⟨g,0,none⟩)) (by kernel_rfl) (fun _ _=>by kernel_rfl) (fun _ _ _ h=>h) hS ?_
  refine ai 15 (some 20) (.pointer (some ⟨g,0,none⟩)) (by kernel_rfl) (fun _ _=>by kernel_rfl) (fun _ _ _ h=>h) hS ?_
  refine aU 16 (some 21) (.slice (some ⟨G,0,none⟩) n C) 146 20 (g) (0) (by kernel_rfl) (by kernel_rfl) (by kernel_rfl) (fun w' h=>gE h.1) (fun _ _ _ h=>h) hS ?_
  refine ai 17 (some 22) (.int .i64 i) (by kernel_rfl) (fun _ _=>by kernel_rfl) (fun _ _ _ h=>h) hS ?_
  refine ai 18 (some 23) (.pointer (some ⟨G,i,none⟩)) (by kernel_rfl) (fun _ _=>eX (x:=21) (y:=22) (n:=n) (c:=C) (by kernel_rfl) r (by kernel_rfl) (by kernel_rfl) (rfl) (H)) (fun _ _ _ h=>h) hS ?_
  refine aU 19 (some 24) (.slice (some ⟨p.b,0,none⟩) x p.c) 188 23 (G) (i) (by kernel_rfl) (by kernel_rfl) (by kernel_rfl) (fun w' h=>pQ h.2.1) (fun _ _ _ h=>h) hS ?_
  refine ai 20 (some 25) (.int .i64 x) (by kernel_rfl) (fun _ _=>by kernel_rfl) (fun _ _ _ h=>h) hS ?_
  refine ai 21 (some 26) (.pointer (some ⟨g,0,none⟩)) (by kernel_rfl) (fun _ _=>by kernel_rfl) (fun _ _ _ h=>h) hS ?_
  refine ai 22 (some 27) (.pointer (some ⟨g,0,none⟩)) (by kernel_rfl) (fun _ _=>by kernel_rfl) (fun _ _ _ h=>h) hS ?_
  refine ai 23 (some 28) (.pointer (some ⟨g,0,none⟩)) (by kernel_rfl) (fun _ _=>by kernel_rfl) (fun _ _ _ h=>h) hS ?_
  refine aU 24 (some 29) (.slice (some ⟨G,0,none⟩) n C) 146 28 (g) (0) (by kernel_rfl) (by kernel_rfl) (by kernel_rfl) (fun w' h=>gE h.1) (fun _ _ _ h=>h) hS ?_
  refine ai 25 (some 30) (.int .i64 i) (by kernel_rfl) (fun _ _=>by kernel_rfl) (fun _ _ _ h=>h) hS ?_
  refine jq 26 (some 31) (.int .i64 (IntKind.i64.wrap ((i:Int)+1))) (.int .i64 ((i:Int)+1)) (by rw[z]) (by kernel_rfl) (fun _ _=>by kernel_rfl) (fun _ _ _ h=>h) hS ?_
  refine ai 27 (some 32) (.pointer (some ⟨G,i+1,none⟩)) (by kernel_rfl) (fun _ _=>eX (x:=29) (y:=31) (n:=n) (c:=C) (by kernel_rfl) r (by kernel_rfl) (by kernel_rfl) (show ((i:Int)+1)=((i+1:Nat):Int) from by omega) (s)) (fun _ _ _ h=>h) hS ?_
  refine aU 28 (some 33) (.slice (some ⟨d.b,0,none⟩) y d.c) 188 32 (G) (i+1) (by kernel_rfl) (by kernel_rfl) (by kernel_rfl) (fun w' h=>pQ h.2.2) (fun _ _ _ h=>h) hS ?_
  refine ai 29 (some 34) (.int .i64 y) (by kernel_rfl) (fun _ _=>by kernel_rfl) (fun _ _ _ h=>h) hS ?_
  refine jq 30 (some 35) (.int .i64 (IntKind.i64.wrap ((x:Int)+(y:Int)))) (.int .i64 ((x:Int)+(y:Int))) (by rw[z5]) (by kernel_rfl) (fun _ _=>by kernel_rfl) (fun _ _ _ h=>h) hS ?_
  refine ai 31 (some 36) (.bool (decide ((x:Int)+(y:Int)<=16))) (by kernel_rfl) (fun _ _=>by kernel_rfl) (fun _ _ _ h=>h) hS ?_
  refine ai 32 (some 37) (.bool (decide ((x:Int)+(y:Int)<=16))) (by kernel_rfl) (fun _ _=>by kernel_rfl) (fun _ _ _ h=>h) hS ?_
  refine ai 33 (some 4) (.bool (decide ((x:Int)+(y:Int)<=16))) (by kernel_rfl) (fun _ _=>by kernel_rfl) (fun _ _ _ h=>h) hS ?_
  refine bQ (by kernel_rfl) ?_
  simp only[Act.put,List.setIfInBounds_toArray,List.set_cons_zero,List.set_cons_succ];go_wp2;go_ret;exact⟨by rw[u.out];rfl,cC w⟩
 ·have u:Hid (jnb (ens L) i=false):=by
   show _=_
   unfold jnb;rw[q,decide_eq_false s,Bool.false_and]
  generalize hln:L.length=n at *
  have z1:¬ ((i:Int)+1 < n):=by omega
  have f:w.drew.cell? ⟨g,0,none⟩=some (.slice (some ⟨G,0,none⟩) n C):=cg;clear A hs t B hln;go_enter Tryz.func204,Tryz.ntmps204;go_wp2;refine bT (S:=fun w'=>w'.cell? ⟨g,0,none⟩=some (.slice (some ⟨G,0,none⟩) n C)) (by kernel_rfl) f ?_
  have hS:=f;refine ai 0 (some 5) (.int .i64 i) (by kernel_rfl) (fun _ _=>by kernel_rfl) (fun _ _ _ h=>h) hS ?_
  refine jq 1 (some 6) (.bool (decide ((0:Int)<=(i:Int)))) (.bool true) (by rw[decide_eq_true J]) (by kernel_rfl) (fun _ _=>by kernel_rfl) (fun _ _ _ h=>h) hS ?_
  refine ai 2 (some 7) (.bool true) (by kernel_rfl) (fun _ _=>by kernel_rfl) (fun _ _ _ h=>h) hS ?_
  refine ai 3 (some 8) (.int .i64 i) (by kernel_rfl) (fun _ _=>by kernel_rfl) (fun _ _ _ h=>h) hS ?_
  refine jq 4 (some 9) (.int .i64 (IntKind.i64.wrap ((i:Int)+1))) (.int .i64 ((i:Int)+1)) (by rw[z]) (by kernel_rfl) (fun _ _=>by kernel_rfl) (fun _ _ _ h=>h) hS ?_
  refine ai 5 (some 10) (.pointer (some ⟨g,0,none⟩)) (by kernel_rfl) (fun _ _=>by kernel_rfl) (fun _ _ _ h=>h) hS ?_
  refine ai 6 (some 11) (.pointer (some ⟨g,0,none⟩)) (by kernel_rfl) (fun _ _=>by kernel_rfl) (fun _ _ _ h=>h) hS ?_
  refine ai 7 (some 12) (.pointer (some ⟨g,0,none⟩)) (by kernel_rfl) (fun _ _=>by kernel_rfl) (fun _ _ _ h=>h) hS ?_
  refine aU 8 (some 13) (.slice (some ⟨G,0,none⟩) n C) 146 12 (g) (0) (by kernel_rfl) (by kernel_rfl) (by kernel_rfl) (fun w' h=>gE h) (fun _ _ _ h=>h) hS ?_
  refine ai 9 (some 14) (.int .i64 n) (by kernel_rfl) (fun _ _=>by kernel_rfl) (fun _ _ _ h=>h) hS ?_
  refine jq 10 (some 15) (.bool (decide ((i:Int)+1 < (n:Int)))) (.bool false) (by rw[decide_eq_false (by omega)]) (by kernel_rfl) (fun _ _=>by kernel_rfl) (fun _ _ _ h=>h) hS ?_
  refine ai 11 (some 16) (.bool false) (by kernel_rfl) (fun _ _=>by kernel_rfl) (fun _ _ _ h=>h) hS ?_
  refine ai 12 (some 17) (.bool false) (by kernel_rfl) (fun _ _=>by kernel_rfl) (fun _ _ _ h=>h) hS ?_
  refine cQ 13 (some 18) (by kernel_rfl) (fun _ _ _ h=>h) hS ?_
  refine cQ 14 (some 19) (by kernel_rfl) (fun _ _ _ h=>h) hS ?_
  refine cQ 15 (some 20) (by kernel_rfl) (fun _ _ _ h=>h) hS ?_
  refine cQ 16 (some 21) (by kernel_rfl) (fun _ _ _ h=>h) hS ?_
  refine cQ 17 (some 22) (by kernel_rfl) (fun _ _ _ h=>h) hS ?_
  refine cQ 18 (some 23) (by kernel_rfl) (fun _ _ _ h=>h) hS ?_
  refine cQ 19 (some 24) (by kernel_rfl) (fun _ _ _ h=>h) hS ?_
  refine cQ 20 (some 25) (by kernel_rfl) (fun _ _ _ h=>h) hS ?_
  refine cQ 21 (some 26) (by kernel_rfl) (fun _ _ _ h=>h) hS ?_
  refine cQ 22 (some 27) (by kernel_rfl) (fun _ _ _ h=>h) hS ?_
  refine cQ 23 (some 28) (by kernel_rfl) (fun _ _ _ h=>h) hS ?_
  refine cQ 24 (some 29) (by kernel_rfl) (fun _ _ _ h=>h) hS ?_
  refine cQ 25 (some 30) (by kernel_rfl) (fun _ _ _ h=>h) hS ?_
  refine cQ 26 (some 31) (by kernel_rfl) (fun _ _ _ h=>h) hS ?_
  refine cQ 27 (some 32) (by kernel_rfl) (fun _ _ _ h=>h) hS ?_
  refine cQ 28 (some 33) (by kernel_rfl) (fun _ _ _ h=>h) hS ?_
  refine cQ 29 (some 34) (by kernel_rfl) (fun _ _ _ h=>h) hS ?_
  refine cQ 30 (some 35) (by kernel_rfl) (fun _ _ _ h=>h) hS ?_
  refine cQ 31 (some 36) (by kernel_rfl) (fun _ _ _ h=>h) hS ?_
  refine ai 32 (some 37) (.bool false) (by kernel_rfl) (fun _ _=>by kernel_rfl) (fun _ _ _ h=>h) hS ?_
  refine ai 33 (some 4) (.bool false) (by kernel_rfl) (fun _ _=>by kernel_rfl) (fun _ _ _ h=>h) hS ?_
  refine bQ (by kernel_rfl) ?_
  simp only[Act.put,List.setIfInBounds_toArray,List.set_cons_zero,List.set_cons_succ];go_wp2;go_ret;exact⟨by rw[u.out];rfl,cC w⟩
end
end Pg
end
section
namespace Pg
open Go.RowKit Go.Lib
section
variable {L:List Pg}{i:Nat}{p p2:Pg}{w:World}{F D:Nat->Prop}
theorem ens_jn{q:Pg}(c:L[i]?=some p)(b:L[i+1]?=some p2)(d:q.es=p.es ++ p2.es):ens ((L.set i q).take (i+1) ++ (L.set i q).drop (i+2))=jnQ (ens L) i:=by
 have a:=(List.getElem?_eq_some_iff.1 c).1;unfold jnQ;rw[fk c,fk b,<- d]
 have e1:(L.set i q).take (i+1)=L.take i ++ [q]:=by
  rw[List.take_add_one,List.take_set_of_le (Nat.le_refl _),List.getElem?_set_self a];rfl
 rw[e1,List.drop_set_of_lt (by omega)];simp[ens,List.map_take,List.map_drop]
theorem zu{g:Nat}(A:bU w F D g L)(R:L[i]?=some p)(P:L[i+1]?=some p2)(hn:L.length<=100000000)(h0:0 < p.es.length)(hs1:p.es.length<=1000)(hs2:p2.es.length<=1000) :
  Calls Tryz.prog 205 #[.pointer (some ⟨g,0,none⟩),.int .i64 i] w fun e w'=>∃ F' L',e=.returned (.tuple #[])/\ens L'=jnQ (ens L) i/\bU w' F' D g L'/\(∀ b,F' b->F b\/w.heap.size<=b)/\Chg F w w':=by
 have hil:=(List.getElem?_eq_some_iff.1 R).1;have hil2:=(List.getElem?_eq_some_iff.1 P).1
 have hL:L≠[]:=fun e=>by subst e;simp at hil
 obtain⟨G,C,hg,hFg,hFG,hR⟩:=A.opn hL;have Z:=A.cI p (List.mem_of_getElem? R);have r:=A.cI p2 (List.mem_of_getElem? P);have cg:=hg.cell (i:=0) rfl;have cG:=hR.cell (i:=i) (v:=p.v) (by simp[R]);have t:=hR.cell (i:=i+1) (v:=p2.v) (by simp[P]);have hCC:=hR.le;simp only[maxLen] at hCC;obtain⟨n,d⟩:∃ n,Hid (L.length=n):=⟨_,rfl⟩
 obtain⟨x,u⟩:∃ m,Hid (p.es.length=m):=⟨_,rfl⟩
 obtain⟨y,Q⟩:∃ m,Hid (p2.es.length=m):=⟨_,rfl⟩
 simp only[Pg.v] at cG t;rw[d.out] at cg;rw[u.out] at cG;rw[Q.out] at t
 have z1:(i:Int) < n:=by have:=d.out;omega
 have z2:(i:Int)+1 < n:=by have:=d.out;omega
 have w1:IntKind.i64.wrap ((i:Int)+1)=(i:Int)+1:=by rw[IntKind.wrap_i64];have:=d.out;omega
 have z3:((i:Int)+1).toNat=i+1:=by omega
 have z4:(0:Int)<=(i:Int)+1:=by omega
 have cgd:w.drew.cell? ⟨g,0,none⟩=some (.slice (some ⟨G,0,none⟩) n C):=cg
 have cGd:w.drew.cell? ⟨G,i,none⟩=some (.slice (some ⟨p.b,0,none⟩) x p.c):=cG
 have U:w.drew.cell? ⟨G,i+1,none⟩=some (.slice (some ⟨p2.b,0,none⟩) y p2.c):=t
 have s:g≠G:=fun e=>hR.fq hg e.symm
 obtain⟨K,O⟩:∃ K,Hid (K=w.drew.alloc (.cells #[.slice (some ⟨p.b,0,none⟩) x p.c,.slice (some ⟨p2.b,0,none⟩) y p2.c] 188)):=⟨_,rfl⟩
 have M:Below w.heap.size w K:=by rw[O.out];exact aB (cC w) (ae w.drew _)
 have V1:Blk K w.heap.size [.slice (some ⟨p.b,0,none⟩) x p.c,.slice (some ⟨p2.b,0,none⟩) y p2.c] 188:=by rw[O.out];exact aE w.drew _ _
 have t1:=Ex V1 ((u.out▸Z.1.row).keep M) ((Q.out▸r.1.row).keep M) (by have:=u.out;omega) (by have:=u.out;omega) (by have:=Q.out;omega) Z.1.one r.1.one
 have E:K.cell? ⟨g,0,none⟩=_:=(M.cell (p:=⟨g,0,none⟩) (aL cg)).trans cg
 have S:K.cell? ⟨G,i,none⟩=_:=(M.cell (p:=⟨G,i,none⟩) (aL cG)).trans cG
 have f:K.cell? ⟨G,i+1,none⟩=_:=(M.cell (p:=⟨G,i+1,none⟩) (aL t)).trans t
 have hin:i < n:=by have:=d.out;omega
 have hin2:i+1 < n:=by have:=d.out;omega
 have hS1:=(show _/\_ from⟨E,f⟩)
 rw[O.out] at hS1 t1;go_enter Tryz.func205,Tryz.ntmps205;go_wp2
 have ab:Tryz.prog.underlying 146=some (.slice 188):=by kernel_rfl
 refine qx (X:=Nat × Nat) (fun z=>[(some 4,.pointer (some ⟨g,0,none⟩)),(some 5,.pointer (some ⟨g,0,none⟩)),(some 6,.pointer (some ⟨g,0,none⟩)),(some 7,.slice (some ⟨G,0,none⟩) n C),(some 8,.int .i64 i),(some 9,.pointer (some ⟨g,0,none⟩)),(some 10,.pointer (some ⟨g,0,none⟩)),(some 11,.pointer (some ⟨g,0,none⟩)),(some 12,.slice (some ⟨G,0,none⟩) n C),(some 13,.int .i64 i),(some 14,.pointer (some ⟨G,i,none⟩)),(some 15,.slice (some ⟨p.b,0,none⟩) x p.c),(some 16,.pointer (some ⟨g,0,none⟩)),(some 17,.pointer (some ⟨g,0,none⟩)),(some 18,.pointer (some ⟨g,0,none⟩)),(some 19,.slice (some ⟨G,0,none⟩) n C),(some 20,.int .i64 i),(some 21,.int .i64 ((i:Int)+1)),(some 22,.pointer (some ⟨G,i+1,none⟩)),(some 23,.slice (some ⟨p2.b,0,none⟩) y p2.c),(some 24,.slice (some ⟨w.heap.size,0,none⟩) 2 2),(some 25,.slice (some ⟨z.1,0,none⟩) (x+y) z.2),(some 26,.pointer (some ⟨G,i,none⟩))]) (fun z w'=>∃ j,w'=j.setCell ⟨G,i,none⟩ (.slice (some ⟨z.1,0,none⟩) (x+y) z.2)/\K.heap.size<=z.1/\Rw j 185 2 z.1 (x+y) z.2 (flat p.es ++ flat p2.es)/\Below K.heap.size K j) (fun w'=>w'.cell? ⟨g,0,none⟩=some (.slice (some ⟨G,0,none⟩) n C)/\w'.cell? ⟨G,i+1,none⟩=some (.slice (some ⟨p2.b,0,none⟩) y p2.c)) (by kernel_rfl) ⟨cgd,U⟩ ?_ ?_
 ·have hS:=(show _/\_ from⟨cgd,U⟩)
  refine ai 0 (some 4) (.pointer (some ⟨g,0,none⟩)) (by kernel_rfl) (fun _ _=>by kernel_rfl) (fun _ _ _ h=>h) hS ?_
  refine ai 1 (some 5) (.pointer (some ⟨g,0,none⟩)) (by kernel_rfl) (fun _ _=>by kernel_rfl) (fun _ _ _ h=>h) hS ?_
  refine ai 2 (some 6) (.pointer (some ⟨g,0,none⟩)) (by kernel_rfl) (fun _ _=>by kernel_rfl) (fun _ _ _ h=>h) hS ?_
  refine aU 3 (some 7) (.slice (some ⟨G,0,none⟩) n C) 146 6 (g) (0) (by kernel_rfl) (by kernel_rfl) (by kernel_rfl) (fun w' h=>gE h.1) (fun _ _ _ h=>h) hS ?_
  refine ai 4 (some 8) (.int .i64 i) (by kernel_rfl) (fun _ _=>by kernel_rfl) (fun _ _ _ h=>h) hS ?_
  refine ai 5 (some 9) (.pointer (some ⟨g,0,none⟩)) (by kernel_rfl) (fun _ _=>by kernel_rfl) (fun _ _ _ h=>h) hS ?_
  refine ai 6 (some 10) (.pointer (some ⟨g,0,none⟩)) (by kernel_rfl) (fun _ _=>by kernel_rfl) (fun _ _ _ h=>h) hS ?_
  refine ai 7 (some 11) (.pointer (some ⟨g,0,none⟩)) (by kernel_rfl) (fun _ _=>by kernel_rfl) (fun _ _ _ h=>h) hS ?_
  refine aU 8 (some 12) (.slice (some ⟨G,0,none⟩) n C) 146 11 (g) (0) (by kernel_rfl) (by kernel_rfl) (by kernel_rfl) (fun w' h=>gE h.1) (fun _ _ _ h=>h) hS ?_
  refine ai 9 (some 13) (.int .i64 i) (by kernel_rfl) (fun _ _=>by kernel_rfl) (fun _ _ _ h=>h) hS ?_
  refine ai 10 (some 14) (.pointer (some ⟨G,i,none⟩)) (by kernel_rfl) (fun _ _=>eX (x:=12) (y:=13) (n:=n) (c:=C) (by kernel_rfl) ab (by kernel_rfl) (by kernel_rfl) (rfl) (hin)) (fun _ _ _ h=>h) hS ?_
  refine ai 12 (some 16) (.pointer (some ⟨g,0,none⟩)) (by kernel_rfl) (fun _ _=>by kernel_rfl) (fun _ _ _ h=>h) hS ?_
  refine ai 13 (some 17) (.pointer (some ⟨g,0,none⟩)) (by kernel_rfl) (fun _ _=>by kernel_rfl) (fun _ _ _ h=>h) hS ?_
  refine ai 14 (some 18) (.pointer (some ⟨g,0,none⟩)) (by kernel_rfl) (fun _ _=>by kernel_rfl) (fun _ _ _ h=>h) hS ?_
  refine aU 15 (some 19) (.slice (some ⟨G,0,none⟩) n C) 146 18 (g) (0) (by kernel_rfl) (by kernel_rfl) (by kernel_rfl) (fun w' h=>gE h.1) (fun _ _ _ h=>h) hS ?_
  refine ai 16 (some 20) (.int .i64 i) (by kernel_rfl) (fun _ _=>by kernel_rfl) (fun _ _ _ h=>h) hS ?_
  refine jq 17 (some 21) (.int .i64 (IntKind.i64.wrap ((i:Int)+1))) (.int .i64 ((i:Int)+1)) (by rw[w1]) (by kernel_rfl) (fun _ _=>by kernel_rfl) (fun _ _ _ h=>h) hS ?_
  refine ai 18 (some 22) (.pointer (some ⟨G,i+1,none⟩)) (by kernel_rfl) (fun _ _=>eX (x:=19) (y:=21) (n:=n) (c:=C) (by kernel_rfl) ab (by kernel_rfl) (by kernel_rfl) (show ((i:Int)+1)=((i+1:Nat):Int) from by omega) (hin2)) (fun _ _ _ h=>h) hS ?_
  refine aU 19 (some 23) (.slice (some ⟨p2.b,0,none⟩) y p2.c) 188 22 (G) (i+1) (by kernel_rfl) (by kernel_rfl) (by kernel_rfl) (fun w' h=>pQ h.2) (fun _ _ _ h=>h) hS ?_
  refine aN [11] (by kernel_rfl) (by simp) ?_
  refine bH 11 (some 15) (.slice (some ⟨p.b,0,none⟩) x p.c) _ (by kernel_rfl) (jx 14 (by kernel_rfl) (by kernel_rfl) (pQ cGd)) hS ?_ bj;refine aN [20] (by kernel_rfl) (by simp) ?_
  refine bH 20 (some 24) (.slice (some ⟨w.heap.size,0,none⟩) 2 2) _ (by kernel_rfl) (CQ (x:=15) (y:=23) (by kernel_rfl) (by kernel_rfl) (by kernel_rfl)) hS1 ?_ bj;refine bS 21 (some 25) 235 #[.slice (some ⟨w.heap.size,0,none⟩) 2 2] (by kernel_rfl) (by kernel_rfl) t1 ?_
  rintro e' j ⟨J,c2,rfl,o,R2,V⟩;rw[<- O.out] at V o
  have aa:j.cell? ⟨g,0,none⟩=_:=(V.cell (p:=⟨g,0,none⟩) (aL E)).trans E
  have cGi2:j.cell? ⟨G,i,none⟩=_:=(V.cell (p:=⟨G,i,none⟩) (aL S)).trans S
  have B:j.cell? ⟨G,i+1,none⟩=_:=(V.cell (p:=⟨G,i+1,none⟩) (aL f)).trans f
  have fG2:j.frozen? ⟨G,i,none⟩=false:=((hR.keep M).keep V).free i;refine⟨_,rfl,⟨aa,B⟩,?_⟩;replace hS:=(show _/\_ from⟨aa,B⟩)
  refine ai 22 (some 26) (.pointer (some ⟨G,i,none⟩)) (by kernel_rfl) (fun _ _=>eX (x:=7) (y:=8) (n:=n) (c:=C) (by kernel_rfl) ab (by kernel_rfl) (by kernel_rfl) (rfl) (hin)) (fun _ _ _ h=>h) hS ?_
  refine aN [23] (by kernel_rfl) (by simp) ?_
  refine dD 23 (j.setCell ⟨G,i,none⟩ (.slice (some ⟨J,0,none⟩) (x+y) c2)) (by kernel_rfl) (kZ 26 25 (by kernel_rfl) (by kernel_rfl) (by kernel_rfl) cGi2 fG2) ⟨b8 s aa,Aq (by omega) B⟩ ?_ bj;refine bQ (by kernel_rfl) ?_
  exact⟨(J,c2),by kernel_rfl,j,rfl,o,R2,V⟩
 rintro⟨J,c2⟩ w' ⟨j,rfl,o,R2,V⟩;dsimp only at o R2;simp only[jC,Act.put,List.setIfInBounds_toArray,List.set_cons_zero,List.set_cons_succ]
 have N:Below w.heap.size w j:=aB M V;obtain⟨q,hq⟩:∃ q:Pg,Hid (q=⟨J,c2,p.es ++ p2.es⟩):=⟨_,rfl⟩
 have hlen:(p.es ++ p2.es).length=x+y:=by rw[List.length_append,u.out,Q.out]
 have hA':PgA j D q:=by
  rw[hq.out];refine⟨?_,fun e he=>?_⟩
  ·show Rw j _ 2 J (p.es ++ p2.es).length c2 _
   rw[hlen,eE];exact R2
  ·rcases List.mem_append.1 he with h | h
   ·exact(Z.1.dW e h).keep N
   ·exact(r.1.dW e h).keep N
 have hv':q.v=.slice (some ⟨J,0,none⟩) (x+y) c2:=by rw[hq.out];simp only[Pg.v];rw[hlen]
 have hqb:q.b=J:=by rw[hq.out]
 have hqe:q.es=p.es ++ p2.es:=by rw[hq.out]
 obtain⟨Y,C3⟩:=A.put (p':=q) (D':=D) hg hFg hFG hR R (Chg.of N) (.inr (by rw[hqb];exact Nat.le_trans M.size o)) hA' (fun _ _ h=>h);rw[hv',hqb] at Y;rw[hv'] at C3
 have hF3:∀ b,((F b/\b≠p.b)\/b=J)->F b\/w.heap.size<=b:=fun b h=>h.imp (fun h=>h.1) (fun h=>by rw[h];exact Nat.le_trans M.size o)
 have l:=(hg.keep N).off s (i:=i) (.slice (some ⟨J,0,none⟩) (x+y) c2);generalize (j.setCell ⟨G,i,none⟩ (.slice (some ⟨J,0,none⟩) (x+y) c2))=W3 at *;generalize hF3d:(fun x=>(F x/\x≠p.b)\/x=J)=F3 at Y
 have I:∀ b,F3 b->F b\/w.heap.size<=b:=fun b h=>hF3 b (by rw[<- hF3d] at h;exact h)
 obtain⟨G2,D3,hg3,hFg3,W,hR3⟩:=Y.opn (by simp[hL]);obtain⟨rfl,rfl⟩:G2=G/\D3=C:=by
  have:=(hg3.eq l).1;simp at this;exact⟨this.1,this.2⟩
 have cg3:W3.cell? ⟨g,0,none⟩=some (.slice (some ⟨G2,0,none⟩) n D3):=by
  have:=l.cell (i:=0) rfl;rwa [d.out] at this
 have T:=hR3;rw[List.length_set,d.out] at T;have t4:=delP (i:=i+1) T (by have:=d.out;omega) (uf _);rw[show ((i+1:Nat):Int)=(i:Int)+1 by omega,show (i:Int)+1+1=(i:Int)+2 by omega] at t4
 have w2':IntKind.i64.wrap ((i:Int)+2)=(i:Int)+2:=by rw[IntKind.wrap_i64];have:=d.out;omega
 go_wp2_with (go_at_call 203;refine t4.mono ?_;rintro e' w5 ⟨rfl,R5,C5⟩;have cg5:w5.cell? ⟨g,0,none⟩=_:=(World.cell?_of_block (a:=⟨g,0,none⟩) (C5.same g (aL cg3) s)).trans cg3;have fg5:w5.frozen? ⟨g,0,none⟩=false:=(l.chg C5 s).free 0);go_end0
 have H:((L.set i q).take (i+1) ++ (L.set i q).drop (i+2)).Sublist (L.set i q):=by
  have h:=List.Sublist.append (List.Sublist.refl ((L.set i q).take (i+1))) (List.drop_sublist 1 ((L.set i q).drop (i+1)));rw[List.drop_drop,List.take_append_drop] at h;exact h
 obtain⟨A6,C6⟩:=lp (w:=W3) (w1:=w5) (F:=F3) (D:=D) (g:=g) (G:=G2) (G':=G2) (C':=D3) (n:=n - 1) (L':=(L.set i q).take (i+1) ++ (L.set i q).drop (i+2))
  (fun p R=>Y.cI p (H.mem R)) (Y.apart.sublist (H.map _)) Y.kind l hFg3 W (fun e=>s e.symm) C5 (fun p R=>(Y.cI p (H.mem R)).1.fx hR3)
  (by simp;have:=d.out;omega) (by simpa[List.map_take,List.map_drop] using R5)
 refine⟨_,_,rfl,ens_jn R P hqe,A6,fun b hb=>?_,C3.trans C6 fun b hb h=>(I b h).resolve_right (by omega)⟩;rcases hb with⟨h,_⟩ | rfl
 ·exact I b h
 ·exact I _ W
end
end Pg
end
section
namespace Pg
open Go.RowKit Go.Lib
def rmQ (P:List (List En)) (i q:Nat):List (List En) :=
 let es:=(P.getD i []).take q ++ (P.getD i []).drop (q+1)
 if es=[] then P.take i ++ P.drop (i+1)
 else
  let P1:=P.set i es
  if jnb P1 i then jnQ P1 i else if 1<=i/\jnb P1 (i - 1) then jnQ P1 (i - 1) else P1
def iy (P:List (List En)) (k:List Int):List (List En) :=
 if has P k then rmQ P (pgi P k) (plc (kys (P.getD (pgi P k) [])) k) else P
theorem DJ (es:List En) (q:Nat):(flat es).take (q * 2) ++ (flat es).drop ((q+1) * 2)=flat (es.take q ++ es.drop (q+1)):=by
 rw[je,iV,eE]
theorem vy {w:World} {F D:Nat->Prop} {g i q:Nat} {L:List Pg} {p:Pg} (A:bU w F D g L) (hi:L[i]?=some p) (hq:q < p.es.length) (hs:∀ es∈ens L,es.length<=32) (hf:∀ es∈ens L,es≠[]) (hn:L.length<=100000000) :
  Calls Tryz.prog 166 #[.pointer (some ⟨g,0,none⟩),.int .i64 i,.int .i64 q] w fun e' w'=>∃ F' L',e'=.returned (.tuple #[])/\ens L'=rmQ (ens L) i q/\bU w' F' D g L'/\(∀ b,F' b->F b\/w.heap.size<=b)/\Chg F w w':=by
 have hil:=(List.getElem?_eq_some_iff.1 hi).1
 have hL:L≠[]:=fun e=>by subst e;simp at hil
 obtain⟨G,C,hg,hFg,hFG,hR⟩:=A.opn hL;have U:=A.cI p (List.mem_of_getElem? hi);have h2:=hs p.es (List.mem_map.2 ⟨p,List.mem_of_getElem? hi,rfl⟩);have cg:=hg.cell (i:=0) rfl;have cG:=hR.cell (i:=i) (v:=p.v) (by simp[hi]);obtain⟨n,u⟩:∃ n,Hid (L.length=n):=⟨_,rfl⟩
 obtain⟨m,S⟩:∃ m,Hid (p.es.length=m):=⟨_,rfl⟩
 simp only[Pg.v] at cG;rw[u.out] at cg;rw[S.out] at cG
 have cgd:w.drew.cell? ⟨g,0,none⟩=some (.slice (some ⟨G,0,none⟩) n C):=cg
 have cGd:w.drew.cell? ⟨G,i,none⟩=some (.slice (some ⟨p.b,0,none⟩) m p.c):=cG
 have E:g≠G:=fun e=>hR.fq hg e.symm
 have ng:g≠p.b:=fun e=>U.1.fq hg e.symm
 have nG:G≠p.b:=fun e=>U.1.fx hR e.symm
 have hin:i < n:=by have:=u.out;omega
 have w1:IntKind.i64.wrap ((q:Int)+1)=(q:Int)+1:=by rw[IntKind.wrap_i64];omega
 have t1:=delE (i:=q) U.1.row.drew hq U.1.one;rw[S.out] at t1;go_enter Tryz.func166,Tryz.ntmps166;go_wp2
 have hpp:Tryz.prog.underlying 146=some (.slice 188):=by kernel_rfl
 refine qx (X:=Unit) (fun _=>[(some 6,.pointer (some ⟨g,0,none⟩)),(some 7,.pointer (some ⟨g,0,none⟩)),(some 8,.pointer (some ⟨g,0,none⟩)),(some 9,.slice (some ⟨G,0,none⟩) n C),(some 10,.int .i64 i),(some 11,.pointer (some ⟨g,0,none⟩)),(some 12,.pointer (some ⟨g,0,none⟩)),(some 13,.pointer (some ⟨g,0,none⟩)),(some 14,.slice (some ⟨G,0,none⟩) n C),(some 15,.int .i64 i),(some 16,.pointer (some ⟨G,i,none⟩)),(some 17,.slice (some ⟨p.b,0,none⟩) m p.c),(some 18,.int .i64 q),(some 19,.int .i64 q),(some 20,.int .i64 ((q:Int)+1)),(some 21,.slice (some ⟨p.b,0,none⟩) (m - 1) p.c),(some 22,.pointer (some ⟨G,i,none⟩))]) (fun _ w'=>∃ t,w'=t.setCell ⟨G,i,none⟩ (.slice (some ⟨p.b,0,none⟩) (m - 1) p.c)/\Rw t 185 2 p.b (m - 1) p.c ((flat p.es).take (q * 2) ++ (flat p.es).drop ((q+1) * 2))/\Chg (·=p.b) w.drew t) (fun w'=>w'.cell? ⟨g,0,none⟩=some (.slice (some ⟨G,0,none⟩) n C)) (by kernel_rfl) cgd ?_ ?_
 ·have hS:=cgd;refine ai 0 (some 6) (.pointer (some ⟨g,0,none⟩)) (by kernel_rfl) (fun _ _=>by kernel_rfl) (fun _ _ _ h=>h) hS ?_
  refine ai 1 (some 7) (.pointer (some ⟨g,0,none⟩)) (by kernel_rfl) (fun _ _=>by kernel_rfl) (fun _ _ _ h=>h) hS ?_
  refine ai 2 (some 8) (.pointer (some ⟨g,0,none⟩)) (by kernel_rfl) (fun _ _=>by kernel_rfl) (fun _ _ _ h=>h) hS ?_
  refine aU 3 (some 9) (.slice (some ⟨G,0,none⟩) n C) 146 8 (g) (0) (by kernel_rfl) (by kernel_rfl) (by kernel_rfl) (fun w' h=>gE h) (fun _ _ _ h=>h) hS ?_
  refine ai 4 (some 10) (.int .i64 i) (by kernel_rfl) (fun _ _=>by kernel_rfl) (fun _ _ _ h=>h) hS ?_
  refine ai 5 (some 11) (.pointer (some ⟨g,0,none⟩)) (by kernel_rfl) (fun _ _=>by kernel_rfl) (fun _ _ _ h=>h) hS ?_
  refine ai 6 (some 12) (.pointer (some ⟨g,0,none⟩)) (by kernel_rfl) (fun _ _=>by kernel_rfl) (fun _ _ _ h=>h) hS ?_
  refine ai 7 (some 13) (.pointer (some ⟨g,0,none⟩)) (by kernel_rfl) (fun _ _=>by kernel_rfl) (fun _ _ _ h=>h) hS ?_
  refine aU 8 (some 14) (.slice (some ⟨G,0,none⟩) n C) 146 13 (g) (0) (by kernel_rfl) (by kernel_rfl) (by kernel_rfl) (fun w' h=>gE h) (fun _ _ _ h=>h) hS ?_
  refine ai 9 (some 15) (.int .i64 i) (by kernel_rfl) (fun _ _=>by kernel_rfl) (fun _ _ _ h=>h) hS ?_
  refine ai 10 (some 16) (.pointer (some ⟨G,i,none⟩)) (by kernel_rfl) (fun _ _=>eX (x:=14) (y:=15) (n:=n) (c:=C) (by kernel_rfl) hpp (by kernel_rfl) (by kernel_rfl) (rfl) (hin)) (fun _ _ _ h=>h) hS ?_
  refine ai 12 (some 18) (.int .i64 q) (by kernel_rfl) (fun _ _=>by kernel_rfl) (fun _ _ _ h=>h) hS ?_
  refine ai 13 (some 19) (.int .i64 q) (by kernel_rfl) (fun _ _=>by kernel_rfl) (fun _ _ _ h=>h) hS ?_
  refine jq 14 (some 20) (.int .i64 (IntKind.i64.wrap ((q:Int)+1))) (.int .i64 ((q:Int)+1)) (by rw[w1]) (by kernel_rfl) (fun _ _=>by kernel_rfl) (fun _ _ _ h=>h) hS ?_
  refine aN [11] (by kernel_rfl) (by simp) ?_
  refine bH 11 (some 17) (.slice (some ⟨p.b,0,none⟩) m p.c) _ (by kernel_rfl) (jx 16 (by kernel_rfl) (by kernel_rfl) (pQ cGd)) hS ?_ bj;refine bS 15 (some 21) 202 #[.slice (some ⟨p.b,0,none⟩) m p.c,.int .i64 q,.int .i64 ((q:Int)+1)] (by kernel_rfl) (by kernel_rfl) t1 ?_
  rintro e' t ⟨rfl,R2,C2⟩
  have R:t.cell? ⟨g,0,none⟩=_:=(World.cell?_of_block (a:=⟨g,0,none⟩) (C2.same g (aL cgd) ng)).trans cgd
  have cG2:t.cell? ⟨G,i,none⟩=_:=(World.cell?_of_block (a:=⟨G,i,none⟩) (C2.same _ (aL cGd) nG)).trans cGd
  have fG2:t.frozen? ⟨G,i,none⟩=false:=(hR.drew.chg C2 nG).free i;refine⟨_,rfl,R,?_⟩;replace hS:=R;refine ai 16 (some 22) (.pointer (some ⟨G,i,none⟩)) (by kernel_rfl) (fun _ _=>eX (x:=9) (y:=10) (n:=n) (c:=C) (by kernel_rfl) hpp (by kernel_rfl) (by kernel_rfl) (rfl) (hin)) (fun _ _ _ h=>h) hS ?_
  refine aN [17] (by kernel_rfl) (by simp) ?_
  refine dD 17 (t.setCell ⟨G,i,none⟩ (.slice (some ⟨p.b,0,none⟩) (m - 1) p.c)) (by kernel_rfl) (kZ 22 21 (by kernel_rfl) (by kernel_rfl) (by kernel_rfl) cG2 fG2) (b8 E R) ?_ bj;refine bQ (by kernel_rfl) ?_
  exact⟨(),by kernel_rfl,t,rfl,R2,C2⟩
 rintro - w' ⟨t,rfl,R2,C2⟩;simp only[jC,Act.put,List.setIfInBounds_toArray,List.set_cons_zero,List.set_cons_succ]
 have M:Chg (·=p.b) w t:=(Chg.of (F:=(·=p.b)) (cC w)).trans C2 (fun _ _ h=>h);obtain⟨p',aa⟩:∃ p':Pg,Hid (p'=⟨p.b,p.c,p.es.take q ++ p.es.drop (q+1)⟩):=⟨_,rfl⟩
 have hlen:(p.es.take q ++ p.es.drop (q+1)).length=m - 1:=by have:=S.out;simp;omega
 have hA':PgA t D p':=by
  rw[aa.out];refine⟨?_,fun e he=>?_⟩
  ·show Rw t _ 2 p.b (p.es.take q ++ p.es.drop (q+1)).length p.c _
   rw[hlen];exact R2.to (DJ p.es q)
  ·have he':e∈p.es:=by
    rcases List.mem_append.1 he with h | h
    ·exact List.mem_of_mem_take h
    ·exact List.mem_of_mem_drop h
   refine(U.1.dW e he').off fun b hb hk=>M.same b hb fun f=>?_
   subst f;obtain⟨cs,k⟩:=hk;obtain⟨ds,k'⟩:=U.1.row.kind;exact eR k k' (by decide) rfl
 have hv':p'.v=.slice (some ⟨p.b,0,none⟩) (m - 1) p.c:=by rw[aa.out];simp only[Pg.v];rw[hlen]
 have hb':p'.b=p.b:=by rw[aa.out]
 have he':p'.es=p.es.take q ++ p.es.drop (q+1):=by rw[aa.out]
 obtain⟨z,V⟩:=A.put (p':=p') (D':=D) hg hFg hFG hR hi M (.inl hb') hA' (fun _ _ h=>h);rw[hv',hb'] at z;rw[hv'] at V
 have hF3:∀ b,((F b/\b≠p.b)\/b=p.b)->F b:=fun b h=>h.elim (fun h=>h.1) (fun h=>by rw[h];exact U.2)
 have R:t.cell? ⟨g,0,none⟩=_:=(World.cell?_of_block (a:=⟨g,0,none⟩) (M.same g (aL cg) ng)).trans cg
 have cG2:t.cell? ⟨G,i,none⟩=_:=(World.cell?_of_block (a:=⟨G,i,none⟩) (M.same _ (aL cG) nG)).trans cG
 have cg3:(t.setCell ⟨G,i,none⟩ (.slice (some ⟨p.b,0,none⟩) (m - 1) p.c)).cell? ⟨g,0,none⟩=some (.slice (some ⟨G,0,none⟩) n C):=b8 E R
 have ab:(t.setCell ⟨G,i,none⟩ (.slice (some ⟨p.b,0,none⟩) (m - 1) p.c)).cell? ⟨G,i,none⟩=some (.slice (some ⟨p.b,0,none⟩) (m - 1) p.c):=World.cell?_setCell_same' _ _ _ (by rw[cG2];rfl);have P:=(hg.chg M ng).off E (i:=i) (.slice (some ⟨p.b,0,none⟩) (m - 1) p.c);generalize (t.setCell ⟨G,i,none⟩ (.slice (some ⟨p.b,0,none⟩) (m - 1) p.c))=W3 at *;generalize hF3d:(fun x=>(F x/\x≠p.b)\/x=p.b)=F3 at z
 have d:∀ b,F3 b->F b:=fun b h=>hF3 b (by rw[<- hF3d] at h;exact h)
 have hi3:(L.set i p')[i]?=some p':=by rw[List.getElem?_set_self hil]
 have hE3:ens (L.set i p')=(ens L).set i (p.es.take q ++ p.es.drop (q+1)):=by rw[pU,he']
 have Z:∀ es∈ens (L.set i p'),es.length<=32:=fun es he=>by
  rw[hE3] at he;rcases List.mem_or_eq_of_mem_set he with h | h
  ·exact hs es h
  ·rw[h,hlen];have:=S.out;omega
 have B:(L.set i p').length=n:=by rw[List.length_set];exact u.out
 have hX:p.es.take q ++ p.es.drop (q+1)=[]\/p.es.take q ++ p.es.drop (q+1)≠[]:=Classical.em _
 have l:Hid (rmQ (ens L) i q=if p.es.take q ++ p.es.drop (q+1)=[] then (ens L).take i ++ (ens L).drop (i+1) else if jnb (ens (L.set i p')) i then jnQ (ens (L.set i p')) i else if 1<=i/\jnb (ens (L.set i p')) (i - 1) then jnQ (ens (L.set i p')) (i - 1) else ens (L.set i p')):=by
  show _=_
  unfold rmQ;rw[fk hi,hE3]
 rcases hX with hX | hX
 ·have hm1:m=1:=by rw[hX] at hlen; simp at hlen; have:=S.out; omega
  obtain⟨G2,D3,hg3,hFg3,hFG3,hR3⟩:=z.opn (by simp[hL]);obtain⟨rfl,rfl⟩:G2=G/\D3=C:=by
   have:=(hg3.eq P).1;simp at this;exact⟨this.1,this.2⟩
  have hR3':=hR3;rw[B] at hR3';have t4:=delP (i:=i) hR3' (by omega) (uf _)
  have w3:IntKind.i64.wrap ((i:Int)+1)=(i:Int)+1:=by rw[IntKind.wrap_i64];have:=u.out;omega
  have cG3':W3.cell? ⟨G2,i,none⟩=some (.slice (some ⟨p.b,0,none⟩) 0 p.c):=by rw[hm1] at ab;exact ab
  have z1:(i:Int) < n:=by omega
  have N:((L.set i p').take i ++ (L.set i p').drop (i+1)).Sublist (L.set i p'):=by
   have h:=List.Sublist.append (List.Sublist.refl ((L.set i p').take i)) (List.drop_sublist 1 ((L.set i p').drop i));rw[List.drop_drop,List.take_append_drop] at h;exact h
  have o:Hid (ens ((L.set i p').take i ++ (L.set i p').drop (i+1))=rmQ (ens L) i q):=by
   show _=_
   rw[l.out,if_pos hX,List.take_set_of_le (Nat.le_refl _),List.drop_set_of_lt (by omega)];simp[ens,List.map_take,List.map_drop]
  have HX:Hid _:=hX;clear hX l ab hm1;go_wp2_with (go_at_call 203;refine t4.mono ?_;rintro e' Y ⟨rfl,R5,C5⟩;have cg5:Y.cell? ⟨g,0,none⟩=_:=(World.cell?_of_block (a:=⟨g,0,none⟩) (C5.same g (aL cg3) E)).trans cg3;have fg5:Y.frozen? ⟨g,0,none⟩=false:=(P.chg C5 E).free 0);go_end0;obtain⟨A6,C6⟩:=lp (w:=W3) (w1:=Y) (F:=F3) (D:=D) (g:=g) (G:=G2) (G':=G2) (C':=D3) (n:=n - 1) (L':=(L.set i p').take i ++ (L.set i p').drop (i+1))
   (fun p U=>z.cI p (N.mem U)) (z.apart.sublist (N.map _)) z.kind P hFg3 hFG3 (fun e=>E e.symm) C5 (fun p U=>(z.cI p (N.mem U)).1.fx hR3)
   (by simp;have:=u.out;omega) (by simpa[List.map_take,List.map_drop] using R5)
  refine⟨_,_,rfl,o.out,A6,fun b hb=>?_,V.trans C6 fun b _ h=>d b h⟩;rcases hb with⟨h,_⟩ | rfl
  ·exact .inl (d b h)
  ·exact .inl (d _ hFG3)
 ·have hm1:0 < m - 1:=by
   rw[<- hlen];exact List.length_pos_iff.2 hX
  obtain⟨m1,hm2⟩:∃ m1,Hid (m - 1=m1):=⟨_,rfl⟩
  rw[hm2.out] at ab hm1
  have z0:¬ ((m1:Int)=0):=by omega
  have z1:(i:Int) < n:=by omega
  have w3:IntKind.i64.wrap ((i:Int) - 1)=(i:Int) - 1:=by rw[IntKind.wrap_i64];omega
  have J:=l.out;rw[if_neg hX] at J
  have l:Hid _:=J;clear J
  have HX:Hid _:=hX;clear hX
  have hf3:∀ es∈ens (L.set i p'),es≠[]:=fun es he=>by
   rw[hE3] at he;rcases List.mem_or_eq_of_mem_set he with h | h
   ·exact hf es h
   ·rw[h];exact HX.out
  have H:∀ (W:World) (j:Nat),bU W F3 D g (L.set i p')->jnb (ens (L.set i p')) j=true->Calls Tryz.prog 205 #[.pointer (some ⟨g,0,none⟩),.int .i64 j] W fun e' w'=>∃ F' L',e'=.returned (.tuple #[])/\ens L'=jnQ (ens (L.set i p')) j/\bU w' F' D g L'/\(∀ b,F' b->F3 b\/W.heap.size<=b)/\Chg F3 W w':=fun W j AW hj=>by
   unfold jnb at hj;simp only[Bool.and_eq_true,decide_eq_true_eq] at hj
   have hl:j+1 < (L.set i p').length:=by have:=hj.1;simpa[ens] using this
   obtain⟨a,ha⟩:∃ a,(L.set i p')[j]?=some a:=⟨_,List.getElem?_eq_getElem (by omega)⟩
   obtain⟨c,hc⟩:∃ c,(L.set i p')[j+1]?=some c:=⟨_,List.getElem?_eq_getElem hl⟩
   have ma:a.es∈ens (L.set i p'):=List.mem_map.2 ⟨a,List.mem_of_getElem? ha,rfl⟩
   have mc:c.es∈ens (L.set i p'):=List.mem_map.2 ⟨c,List.mem_of_getElem? hc,rfl⟩;have s1:=Z _ ma;have s2:=Z _ mc;exact zu AW ha hc (by rw[B];have:=u.out;omega) (List.length_pos_iff.2 (hf3 _ ma)) (by omega) (by omega)
  have Q:=AJ z (i:=i) (by omega) (by rw[B];have:=u.out;omega) (fun es he=>by have:=Z es he;omega);by_cases T:jnb (ens (L.set i p')) i=true
  ·have o:Hid (rmQ (ens L) i q=jnQ (ens (L.set i p')) i):=by show _=_; rw[l.out,if_pos T]
   have t5:∀ W,Below W3.heap.size W3 W->_:=fun W s=>H W i (z.keep s) T
   rw[T] at Q;clear H T l
   go_wp2_with (first
    | (go_at_call 204;refine Q.mono ?_;rintro e' Y ⟨rfl,r⟩;have t6:=t5 Y r;clear t5 Q)
    | (go_at_call 205;refine t6.mono ?_;rintro e' w6 ⟨F6,L6,rfl,hE6,A6,hF6,C6⟩))
   go_end0;refine⟨F6,L6,rfl,hE6.trans o.out.symm,A6,fun b hb=>?_,(V.trans (Chg.of (F:=F) r) (fun _ _ h=>h)).trans C6 fun b _ h=>d b h⟩;rcases hF6 b hb with h | h
   ·exact .inl (d b h)
   ·exact .inr (by have:=V.size;have:=r.size;omega)
  ·have O:jnb (ens (L.set i p')) i=false:=by simpa using T
   by_cases hi0:i=0
   ·have o:Hid (rmQ (ens L) i q=ens (L.set i p')):=by show _=_; rw[l.out,if_neg T,if_neg (by omega)]
    rw[O] at Q
    have tn:∀ W:World,Calls Tryz.prog 204 #[.pointer (some ⟨g,0,none⟩),.int .i64 (-1)] W _:=fun W=>jn_neg
    have mk:True:=trivial;clear H T l O;subst hi0
    go_wp2_with (first
     | (go_at_call 204;clear mk;refine Q.mono ?_;rintro e' Y ⟨rfl,r⟩;clear Q)
     | (go_at_call 204;refine(tn _).mono ?_;rintro e' w6 ⟨rfl,K⟩))
    go_end0;have s:=aB r K
    first
     | exact⟨F3,_,rfl,o.out.symm,z.keep s,fun b hb=>.inl (d b hb),V.trans (Chg.of (F:=F) s) (fun _ _ h=>h)⟩
     | exact⟨rfl,F3,_,o.out.symm,z.keep s,fun b hb=>.inl (d b hb),V.trans (Chg.of (F:=F) s) (fun _ _ h=>h)⟩
   ·obtain⟨j,rfl⟩:∃ j,i=j+1:=⟨i - 1,by omega⟩
    have tk:∀ W,Below W3.heap.size W3 W->Calls Tryz.prog 204 #[.pointer (some ⟨g,0,none⟩),.int .i64 j] W _:=fun W s=>AJ (z.keep s) (i:=j) (by omega) (by rw[B];have:=u.out;omega) (fun es he=>by have:=Z es he;omega)
    have e1:((j+1:Nat):Int) - 1=(j:Int):=by omega
    have e2:(j:Int)+1 - 1=(j:Int):=by omega
    rw[O] at Q
    have mk:True:=trivial
    have mk2:True:=trivial;by_cases h3:jnb (ens (L.set (j+1) p')) j=true
    ·have o:Hid (rmQ (ens L) (j + 1) q=jnQ (ens (L.set (j + 1) p')) j):=by show _=_; rw[l.out,if_neg T,if_pos ⟨by omega,by simpa using h3⟩]; rfl
     have t5:∀ W,Below W3.heap.size W3 W->_:=fun W s=>H W j (z.keep s) h3
     rw[h3] at tk;clear H T l O h3
     go_wp2_with (first
      | (go_at_call 204;clear mk;refine Q.mono ?_;rintro e' Y ⟨rfl,r⟩;have I:=tk Y r;clear Q tk)
      | (go_at_call 204;refine I.mono ?_;rintro e' w6 ⟨rfl,K⟩;have s:=aB r K;have t6:=t5 w6 s;clear t5 I)
      | (go_at_call 205;refine t6.mono ?_;rintro e' w7 ⟨F6,L6,rfl,hE6,A6,hF6,C6⟩))
     go_end0;refine⟨F6,L6,rfl,hE6.trans o.out.symm,A6,fun b hb=>?_,(V.trans (Chg.of (F:=F) s) (fun _ _ h=>h)).trans C6 fun b _ h=>d b h⟩;rcases hF6 b hb with h | h
     ·exact .inl (d b h)
     ·exact .inr (by have:=V.size;have:=s.size;omega)
    ·have h3':jnb (ens (L.set (j + 1) p')) j=false:=by simpa using h3
     have o:Hid (rmQ (ens L) (j+1) q=ens (L.set (j+1) p')):=by show _=_;rw[l.out,if_neg T,if_neg (fun h=>h3 (by simpa using h.2))]
     rw[h3'] at tk;clear H T l O h3 h3'
     go_wp2_with (first
      | (go_at_call 204;clear mk;refine Q.mono ?_;rintro e' Y ⟨rfl,r⟩;have I:=tk Y r;clear Q tk)
      | (go_at_call 204;refine I.mono ?_;rintro e' w6 ⟨rfl,K⟩;have s:=aB r K;clear I))
     go_end0
     first
      | exact⟨F3,_,rfl,o.out.symm,z.keep s,fun b hb=>.inl (d b hb),V.trans (Chg.of (F:=F) s) (fun _ _ h=>h)⟩
      | exact⟨rfl,F3,_,o.out.symm,z.keep s,fun b hb=>.inl (d b hb),V.trans (Chg.of (F:=F) s) (fun _ _ h=>h)⟩
end Pg
end
section
namespace Pg
open Go.RowKit Go.Lib
theorem uT {w:World} {F D:Nat->Prop} {g:Nat} {L:List Pg} {kv:Value} {k:List Int} (A:bU w F D g L) (O:Ord (ens L)) (hs:∀ es∈ens L,es.length<=32) (hn:L.length<=100000000) (h:By w kv k) :
  Calls Tryz.prog 113 #[.pointer (some ⟨g,0,none⟩),kv] w fun e w'=>e=.returned (.bool (has (ens L) k))/\∃ F' L',ens L'=iy (ens L) k/\bU w' F' D g L'/\(∀ b,F' b->F b\/w.heap.size<=b)/\Chg F w w':=by
 by_cases hL:L=[]
 ·subst hL;have t:=oq (v:=kv) A
  have e1:has (ens []) k=false:=rfl
  have e2:Hid (iy (ens []) k=ens []):=rfl;rw[e1];have n:=(show Hid _ from A)
  clear A O hs h;go_enter Tryz.func113,Tryz.ntmps113;go_wp2_with (go_at_call 147;refine t.mono ?_;rintro x s ⟨rfl,rfl⟩);go_ret;exact⟨rfl,F,[],e2.out.symm,n.out,fun b hb=>.inl hb,Chg.refl _ _⟩
 ·obtain⟨p,y,j⟩:=pW hL k;have o:=List.mem_of_getElem? y;have E:=hs p.es (List.mem_map.2 ⟨p,o,rfl⟩);have t:=mh A O h (by omega) y (by omega)
  have l:has (ens L) k=thr (kys p.es) k:=by
   unfold has;rw[j];have:(ens L).isEmpty=false:=by simp[ens,hL]
   simp[this]
  rw[l];by_cases f:thr (kys p.es) k=true
  ·obtain⟨e,he,B⟩:=mg f;have r:=(List.getElem?_eq_some_iff.1 he).1
   have m:Hid (iy (ens L) k=rmQ (ens L) (pgi (ens L) k) (plc (kys p.es) k)):=by
    show _=_
    unfold iy;rw[l,f,if_pos rfl,j]
   have z:∀ w',Below w.heap.size w w'->_:=fun w' c=>vy (A.keep c) y r hs O.full hn
   rw[f] at t ⊢;generalize pgi (ens L) k=i at *;generalize plc (kys p.es) k=q at *;clear A O hs h f l;go_enter Tryz.func113,Tryz.ntmps113
   go_wp2_with (first
    | (go_at_call 147;refine t.mono ?_;rintro x s ⟨rfl,c⟩;have u:=z s c;clear t z)
    | (go_at_call 166;refine u.mono ?_;rintro x G ⟨F',L',rfl,C,hA,hF,hC⟩))
   go_ret;exact⟨rfl,F',L',C.trans m.out.symm,hA,fun b hb=>(hF b hb).imp id (fun h=>Nat.le_trans c.size h),(Chg.of (F:=F) c).trans hC (fun _ _ h=>h)⟩
  ·have d:thr (kys p.es) k=false:=by simpa using f
   have m:Hid (iy (ens L) k=ens L):=by
    show _=_
    unfold iy;rw[l,d,if_neg (by decide)]
   rw[d] at t ⊢;generalize pgi (ens L) k=i at *;generalize plc (kys p.es) k=q at *;have n:=(show Hid _ from A)
   clear A O hs h f d l;go_enter Tryz.func113,Tryz.ntmps113;go_wp2_with (go_at_call 147;refine t.mono ?_;rintro x s ⟨rfl,c⟩);go_ret;exact⟨rfl,F,L,m.out.symm,n.out.keep c,fun b hb=>.inl hb,Chg.of c⟩
theorem Dd {w:World}:Calls Tryz.prog 42 #[] w fun e w'=>∃ g,e=.returned (.pointer (some ⟨g,0,none⟩))/\g=w.heap.size/\bU w' (· = g) (fun _=>False) g []/\Below w.heap.size w w':=by
 go_enter Tryz.func42,Tryz.ntmps42;go_wp2;go_ret;refine⟨_,rfl,rfl,⟨⟨_,aE w [.slice none 0 0] 148,rfl,.inl ⟨rfl,rfl⟩⟩,fun p c=>by simp at c,by simp,fun b hb=>?_⟩,ae w _⟩;subst hb;exact⟨_,_,aE w [.slice none 0 0] 148,by decide⟩
end Pg
end
section
namespace Pg
open Go.RowKit Go.Lib
end Pg
end
section
namespace Pg
open Go.RowKit Go.Lib
section
variable {B l B' g n:Nat}{W W' w:World}{cs:List Value}{fn:FuncId}{tmps args lb:Array Value}{ps:Array Tmp}{assign body:Code}{I:Nat->World->Prop}{Ix:Code->Nat->World->Prop}{Ar:Nat->Array Value->Nat->World->Prop}{Rd:World->Prop}
structure Rec(B:Nat)(W W':World):Prop where
 os:W'.os=W.os
 tape:W'.tape=W.tape
 output:W'.output=W.output
 size:W.heap.size<=W'.heap.size
 same:∀ (k:Nat) (o:Obj),W.heap[k]?=some o->(k < B\/o.isCells=true)->W'.heap[k]?=some o
def St(B:Nat)(I:World->Prop):Prop:=∀ W W',I W->Rec B W W'->I W'
theorem Rec.of(h:Below W.heap.size W W'):Rec B W W':=⟨h.os,h.tape,h.output,h.size,fun k _ hk _=>(h.block k (lt_of_block hk)).trans hk⟩
theorem Rec.put{o:Obj}(h:W.heap[l]?=some o)(c:o.isCells=false)(f:B<=l)(d:Obj):Rec B W (W.putObj l d) :=
 ⟨rfl,rfl,rfl,by simp,fun k x b hx=>by
  have a:k≠l:=fun e=>by
   subst e;rw[h] at b
   cases b;rcases hx with hx | hx
   ·omega
   ·rw[c] at hx;cases hx
  exact(World.putObj_heap_other a).trans b⟩
theorem Rec.mono(h:Rec B W W')(hB:B'<=B):Rec B' W W':=⟨h.os,h.tape,h.output,h.size,fun k o hk ho=>h.same k o hk (ho.imp (fun h=>by omega) id)⟩
theorem Rec.blk(h:Rec B W W'){t:TypeId}(hb:Blk W g cs t):Blk W' g cs t:=⟨h.same g _ hb.blk (.inr rfl)⟩
theorem xr(hb:Below W.heap.size W W')(b:l < W.heap.size)(o:Obj):Below (W.putObj l o).heap.size (W.putObj l o) (W'.putObj l o):=by
 refine⟨hb.os,hb.tape,hb.output,by simpa using hb.size,fun k a=>?_⟩;simp at a;by_cases e:k=l
 ·subst e;have:=hb.size;rw[World.putObj_heap_same (by omega),World.putObj_heap_same b]
 ·rw[World.putObj_heap_other e,World.putObj_heap_other e];exact hb.block k a
structure Cel(W W':World):Prop where
 size:W.heap.size<=W'.heap.size
 same:∀ (k:Nat) (o:Obj),W.heap[k]?=some o->o.isCells=true->W'.heap[k]?=some o
theorem Rec.cel(h:Rec B W W'):Cel W W':=⟨h.size,fun k o hk ho=>h.same k o hk (.inr ho)⟩
def Safe(Tp:TypeId->Prop)(o:Obj):Prop:=∀ cs t fz,o=.cells cs t fz->¬ Tp t
theorem xA{Tp:TypeId->Prop}{r:Loop}:Safe Tp (.loop r):=fun _ _ _ e=>by cases e
theorem mP{Tp:TypeId->Prop}{d:Option (List Deferred)}:Safe Tp (.deferred d):=fun _ _ _ e=>by cases e
structure bL(Tp:TypeId->Prop)(B:Nat)(W W':World):Prop where
 size:W.heap.size<=W'.heap.size
 same:∀ (k:Nat) (o:Obj),B<=k->W.heap[k]?=some o->Safe Tp o->W'.heap[k]?=some o
theorem bL.of{Tp:TypeId->Prop}(h:Below W.heap.size W W'):bL Tp B W W':=⟨h.size,fun k _ _ hk _=>(h.block k (lt_of_block hk)).trans hk⟩
theorem bL.trans{Tp:TypeId->Prop}{W'':World}(h:bL Tp B W W')(h':bL Tp B W' W''):bL Tp B W W'':=⟨Nat.le_trans h.size h'.size,fun k o hB hk ho=>h'.same k o hB (h.same k o hB hk ho) ho⟩
theorem bL.mono{Tp:TypeId->Prop}(h:bL Tp B W W')(hB:B<=B'):bL Tp B' W W':=⟨h.size,fun k o hk h0 ho=>h.same k o (Nat.le_trans hB hk) h0 ho⟩
theorem bL.blk{Tp:TypeId->Prop}(h:bL Tp B W W'){t:TypeId}(hb:Blk W g cs t)(hg:B<=g)(ht:¬ Tp t):Blk W' g cs t:=⟨h.same g _ hg hb.blk (fun _ _ _ e=>by cases e;exact ht)⟩
def Itr(Tp:TypeId->Prop)(gf:Nat)(lb:Array Value)(N:Nat)(Ar:Nat->Array Value->Nat->World->Prop)(Rd:World->Prop):Prop :=
 ∀ (l:Nat) (J Jx:Nat->World->Prop) (W:World),(∀ i,St W.heap.size (J i))->(∀ i,St W.heap.size (Jx i))->(∀ i V,J i V->Rd V) ->
  (∀ i args V V',i < N->J i V->W.heap.size<=V.heap.size->Below V.heap.size V V'->Ar i args V.heap.size V'->YieldAt Fence.wide 0 Tryz.prog l args V' fun e V''=>bL Tp W.heap.size V' V''/\((e=.returned (.bool true)/\J (i+1) V'')\/(e=.returned (.bool false)/\Jx (i+1) V''))) ->
  J 0 W ->
  Calls Tryz.prog gf (#[.func (.yield l) #[] #[]] ++ lb) W fun e W'=>(∃ v,e=.returned v)/\W.heap.size<=W'.heap.size/\(J N W'\/∃ i,i < N/\Jx (i+1) W')
def pH(Tp:TypeId->Prop)(B:Nat)(I:Nat->World->Prop)(Ix:Code->Nat->World->Prop)(i:Nat)(W:World):Exit->Act->World->Prop
 | .normal,_,W'=>bL Tp B W W'/\I i W'
 | .ret,_,W'=>bL Tp B W W'/\Ix .ret i W'
 | .exit id,_,W'=>bL Tp B W W'/\Ix (.exit id) i W'
 | .goto t,_,W'=>bL Tp B W W'/\Ix (.goto t) i W'
 | .panic _,_,_=>False
 | .outgrown,_,_=>False
def dv(fn:FuncId)(tmps:Array Value)(ps:Array Tmp)(assign body:Code)(dd:Nat)(st:LoopState)(pe:Option Code):Loop:={ state:=st,pending:=pe,fn,tmps,params:=ps,assign,body,defers:=dd }
structure gF(Tp:TypeId->Prop)(B l:Nat)(W W':World):Prop where
 size:W.heap.size<=W'.heap.size
 same:∀ (k:Nat) (o:Obj),B<=k->k≠l->W.heap[k]?=some o->Safe Tp o->W'.heap[k]?=some o
theorem gF.from{Tp:TypeId->Prop}{B1:Nat}(h:gF Tp B l W W')(hB:B<=B1)(hl:l < B1):bL Tp B1 W W':=⟨h.size,fun k o hk h0 ho=>h.same k o (by omega) (by omega) h0 ho⟩
theorem jB{Tp:TypeId->Prop}{i:Nat}{dd:Nat}{V:World}(A:∀ i args n V W,Ar i args n V->Cel V W->Ar i args n W)(S:∀ i,St B (I i))(C:∀ c i,St B (Ix c i))(q:B<=l)(hL:V.heap[l]?=some (.loop (dv fn tmps ps assign body dd .ready none)))(hi:I i V)(hb:Below V.heap.size V W)(U:Ar i args V.heap.size W)(N:args.size=ps.size)(y:assign.wpIn (Fence.wide.inRound l) n Tryz.prog (Exit.then (fun a1 W1=>Below W.heap.size W W1/\∀ V2 W2,I i V2->Below V2.heap.size V2 W2->Ar i args V2.heap.size W2->(∀ b,b≠l->W2.heap[b]?=W1.heap[b]?)->W2.heap.size=W1.heap.size->V2.heap.size=V.heap.size->(∃ r,W2.heap[l]?=some (.loop r))->body.wpIn (Fence.wide.inRound l) n Tryz.prog (pH Tp B I Ix (i+1) W2) a1 W2) (fun _ _ _=>False)) { tmps:=(ps.zip args).foldl (fun t (p,v)=>t.setIfInBounds p v) tmps,defers:=[] } W) :
  YieldAt Fence.wide 0 Tryz.prog l args W fun e W'=>gF Tp B l W W'/\((e=.returned (.bool true)/\I (i+1) W'/\W'.heap[l]?=some (.loop (dv fn tmps ps assign body dd .ready none)))\/(e=.returned (.bool false)/\∃ c,Ix c (i+1) W'/\W'.heap[l]?=some (.loop (dv fn tmps ps assign body dd .done (some c))))):=by
 have L:l < V.heap.size:=lt_of_block hL
 have H:W.heap[l]?=some (.loop (dv fn tmps ps assign body dd .ready none)):=(hb.block l L).trans hL;have hy:=run_yield (P:=Tryz.prog) (args:=args) H N
 have w:assign.wpIn (Fence.wide.inRound l) n Tryz.prog (Exit.then (fun Y T=>∃ w₂,(Instr.beginRound l).run Tryz.prog T=.ok () w₂/\body.wpIn (Fence.wide.inRound l) n Tryz.prog (roundPost Tryz.prog l fun e W'=>gF Tp B l W W'/\((e=.returned (.bool true)/\I (i+1) W'/\W'.heap[l]?=some (.loop (dv fn tmps ps assign body dd .ready none)))\/(e=.returned (.bool false)/\∃ c,Ix c (i+1) W'/\W'.heap[l]?=some (.loop (dv fn tmps ps assign body dd .done (some c)))))) Y w₂) (fun _ _ _=>False)) { tmps:=(ps.zip args).foldl (fun t (p,v)=>t.setIfInBounds p v) tmps,defers:=[] } W:=by
  refine wpIn_mono y ?_
  intro e a1 W1 h
  cases e with
  | normal =>
   obtain⟨u,D⟩:=h
   have E:W1.heap[l]?=some (.loop (dv fn tmps ps assign body dd .ready none)):=(u.block l (lt_of_block H)).trans H
   have z:l < W1.heap.size:=lt_of_block E;refine⟨_,run_beginRound E rfl,?_⟩
   have Q:Below V.heap.size V W1:=aB hb u;have X:=D (V.putObj l (.loop { dv fn tmps ps assign body dd .ready none with state:=.busy })) (W1.putObj l (.loop { dv fn tmps ps assign body dd .ready none with state:=.busy }))
    (S i _ _ hi (Rec.put hL rfl q _)) (xr Q L _) (by simpa using A i args _ _ _ (A i args _ _ _ U (Rec.of (B:=0) u).cel) (Rec.put E rfl (Nat.zero_le _) _).cel)
    (fun b hb=>World.putObj_heap_other hb) (by simp) (by simp) ⟨_,World.putObj_heap_same z⟩
   have O:(W1.putObj l (.loop { dv fn tmps ps assign body dd .ready none with state:=.busy })).heap[l]?=some (.loop { dv fn tmps ps assign body dd .ready none with state:=.busy }):=World.putObj_heap_same z;generalize hW2:W1.putObj l (.loop { dv fn tmps ps assign body dd .ready none with state:=.busy })=W2 at *
   have K:gF Tp B l W W2:=by
    rw[<- hW2];refine⟨by simpa using u.size,fun k _ M x h0 _=>?_⟩;rw[World.putObj_heap_other x];exact(u.block k (lt_of_block h0)).trans h0
   have fin:∀ (jump:Option Code) (s:World),bL Tp B W2 s ->
     (Instr.endRound l jump).run Tryz.prog s=.ok (.bool jump.isNone) (s.putObj l (.loop (dv fn tmps ps assign body dd (if jump.isNone then .ready else .done) jump)))/\s.heap[l]?=some (.loop { dv fn tmps ps assign body dd .ready none with state:=.busy }) /\
     (s.putObj l (.loop (dv fn tmps ps assign body dd (if jump.isNone then .ready else .done) jump))).heap[l]?=some (.loop (dv fn tmps ps assign body dd (if jump.isNone then .ready else .done) jump)) /\
     gF Tp B l W (s.putObj l (.loop (dv fn tmps ps assign body dd (if jump.isNone then .ready else .done) jump))):=fun jump s d=>by
    have a:=d.same _ _ q O xA;refine⟨run_endRound (P:=Tryz.prog) jump a,a,World.putObj_heap_same (lt_of_block a),⟨by simpa using Nat.le_trans K.size d.size,fun k o M x h0 R=>?_⟩⟩;rw[World.putObj_heap_other x];exact d.same k o M (K.same k o M x h0 R) R
   refine wpIn_mono X ?_
   intro e a3 s J
   cases e with
   | normal =>
    obtain⟨d,m⟩:=J;obtain⟨G,a,g,j⟩:=fin none s d;exact⟨_,_,G,j,.inl ⟨rfl,S _ _ _ m (Rec.put a rfl q _),g⟩⟩
   | ret =>
    obtain⟨d,m⟩:=J;obtain⟨G,a,g,j⟩:=fin (some .ret) s d;exact⟨_,_,G,j,.inr ⟨rfl,.ret,C _ _ _ _ m (Rec.put a rfl q _),g⟩⟩
   | exit id =>
    obtain⟨d,m⟩:=J;obtain⟨G,a,g,j⟩:=fin (some (.exit id)) s d;exact⟨_,_,G,j,.inr ⟨rfl,.exit id,C _ _ _ _ m (Rec.put a rfl q _),g⟩⟩
   | goto t =>
    obtain⟨d,m⟩:=J;obtain⟨G,a,g,j⟩:=fin (some (.goto t)) s d;exact⟨_,_,G,j,.inr ⟨rfl,.goto t,C _ _ _ _ m (Rec.put a rfl q _),g⟩⟩
   | panic ch=>exact J.elim
   | outgrown=>exact J.elim
  | ret=>exact h.elim
  | exit id=>exact h.elim
  | goto t=>exact h.elim
  | panic ch=>exact h.elim
  | outgrown=>exact h.elim
 exact⟨fn,_,assign,body,hy,by
  have:=roundIn_of_wpIn (F:=Fence.wide) (n:=n) (P:=Tryz.prog) (f:=fn) trivial w
  exact⟨this.1,fun c cs _=>this.2 c cs (fun _ h=>by cases h)⟩⟩
def RoundW(Tp:TypeId->Prop)(w:World)(N n:Nat)(ps:Array Tmp)(assign body:Code)(tmps:Array Value)(Ar:Nat->Array Value->Nat->World->Prop)(I:Nat->World->Prop)(Ix:Code->Nat->World->Prop):Prop :=
 ∀ (l i:Nat) (args:Array Value) (V W:World),w.heap.size<=l->l < V.heap.size->(∃ r,V.heap[l]?=some (.loop r))->i < N->I i V->Below V.heap.size V W->Ar i args V.heap.size W ->
  assign.wpIn (Fence.wide.inRound l) n Tryz.prog (Exit.then (fun a1 W1=>Below W.heap.size W W1/\∀ V2 W2,I i V2->Below V2.heap.size V2 W2->Ar i args V2.heap.size W2->(∀ b,b≠l->W2.heap[b]?=W1.heap[b]?)->W2.heap.size=W1.heap.size->V2.heap.size=V.heap.size->(∃ r,W2.heap[l]?=some (.loop r))->body.wpIn (Fence.wide.inRound l) n Tryz.prog (pH Tp w.heap.size I Ix (i+1) W2) a1 W2) (fun _ _ _=>False)) { tmps:=(ps.zip args).foldl (fun t (p,v)=>t.setIfInBounds p v) tmps,defers:=[] } W
theorem iK{Tp:TypeId->Prop}{s N:Nat}(U:Itr Tp s lb N Ar Rd){g:Operand}{Q:Exit->Act->World->Prop}{a:Act}(T:a.eval g=.func (.func s) #[] lb)(O:∀ args w,(callFunc s args).run Tryz.prog w=.ok (.enter s args) w)(t:∀ i args n V W,Ar i args n V->Cel V W->Ar i args n W)(L:∀ i args n V,Ar i args n V->args.size=ps.size)(I:Nat->World->Prop)(Ix:Code->Nat->World->Prop)(y:∀ i,St w.heap.size (I i))(l:∀ c i,St w.heap.size (Ix c i))(H:∀ i V,I i V->Rd V)(h0:I 0 w)(j:RoundW Tp w N n ps assign body a.tmps Ar I Ix)(m:∀ D W,w.heap.size<=D->W.heap[D]?=some (.deferred (some []))->I N W->Q .normal { a with defers:={ target:=.collected D,args:=#[] } :: a.defers } W)(p:∀ D c i W,w.heap.size<=D->W.heap[D]?=some (.deferred (some []))->i < N->Ix c (i+1) W->c.wpIn Fence.wide n Tryz.prog Q { a with defers:={ target:=.collected D,args:=#[] } :: a.defers } W) :
  (Code.rangeFunc g ps assign body).wpIn Fence.wide n Tryz.prog Q a w:=by
 refine wpIn_rangeFunc ?_
 intro fn _;obtain⟨d,b⟩:∃ d,(w.alloc (.deferred (some []))).alloc (.loop (dv fn a.tmps ps assign body w.heap.size .ready none))=d:=⟨_,rfl⟩
 have A:Below w.heap.size w d:=by rw[<- b];exact aB (ae w _) (ae _ _)
 have S:d.heap.size=w.heap.size+1+1:=by rw[<- b];simp
 have K:d.heap[w.heap.size+1]?=some (.loop (dv fn a.tmps ps assign body w.heap.size .ready none)):=by
  rw[<- b];have:=World.alloc_heap_new (w.alloc (.deferred (some []))) (.loop (dv fn a.tmps ps assign body w.heap.size .ready none));rwa [World.size_alloc] at this
 have G:d.heap[w.heap.size]?=some (.deferred (some [])):=by
  rw[<- b];exact(Below.heap_alloc _ _ _ (by simp)).trans (World.alloc_heap_new w _)
 refine⟨w.heap.size + 1,[{ target:=.collected w.heap.size,args:=#[] }],d,{ target:=.fn (.func s) lb,args:=#[.func (.yield (w.heap.size + 1)) #[] #[]] },d,s,
  #[.func (.yield (w.heap.size+1)) #[] #[]] ++ lb,d,?_,?_,?_,?_,fun h=>(by cases h),?_⟩
 ·rw[<- b];exact run_enterLoop_outer _ _ _ _ _
 ·simp only[resolve,T];simp[go_sem]
 ·intro Z _;trivial
 ·simp[invoke,go_sem,O]
 ·refine callsIn_wide.2 ?_
  refine(U (w.heap.size + 1)
   (fun i W=>I i W/\W.heap[w.heap.size+1]?=some (.loop (dv fn a.tmps ps assign body w.heap.size .ready none))/\W.heap[w.heap.size]?=some (.deferred (some [])))
   (fun i W=>∃ c,Ix c i W/\W.heap[w.heap.size+1]?=some (.loop (dv fn a.tmps ps assign body w.heap.size .done (some c)))/\W.heap[w.heap.size]?=some (.deferred (some [])))
   d (fun i X Y hx o=>⟨y i X Y hx.1 (o.mono (by omega)),o.same _ _ hx.2.1 (.inl (by omega)),o.same _ _ hx.2.2 (.inl (by omega))⟩)
   (fun i X Y hx o=>by obtain⟨c,J,z,E⟩:=hx;exact⟨c,l c i X Y J (o.mono (by omega)),o.same _ _ z (.inl (by omega)),o.same _ _ E (.inl (by omega))⟩)
   (fun i V hv=>H i V hv.1) ?_ ⟨y 0 _ _ h0 (Rec.of A),K,G⟩).mono ?_
  ·rintro i args V R q ⟨hi,f,r⟩ C hb F;refine(jB (B:=w.heap.size) t y l (by omega) f hi hb F (L _ _ _ _ F) (j _ i args V R (by omega) (lt_of_block f) ⟨_,f⟩ q hi hb F)).mono ?_
   rintro e M ⟨u,h⟩;have x:=u.same _ _ (Nat.le_refl _) (by omega) ((hb.block _ (lt_of_block r)).trans r) mP;refine⟨u.from (by omega) (by omega),h.imp (fun h=>⟨h.1,h.2.1,h.2.2,x⟩) (fun h=>?_)⟩;obtain⟨J,c,z,E⟩:=h;exact⟨J,c,z,E,x⟩
  ·rintro e W2 ⟨⟨v,rfl⟩,C,⟨hi,f,r⟩ | ⟨i,q,c,hi,f,r⟩⟩
   ·exact⟨none,_,run_endLoop (P:=Tryz.prog) f (by simp[dv]),m _ _ (Nat.le_refl _) ((World.putObj_heap_other (by omega)).trans r) (y _ _ _ hi (Rec.put f rfl (by omega) _))⟩
   ·exact⟨some c,_,run_endLoop (P:=Tryz.prog) f (by simp[dv]),p _ c i _ (Nat.le_refl _) ((World.putObj_heap_other (by omega)).trans r) q (l c _ _ _ hi (Rec.put f rfl (by omega) _))⟩
end
end Pg
end
section
namespace Pg
open Go.RowKit Go.Lib
section
variable {a b:Nat}{w:World}{v fv tv:Value}{t f:List Int}{D:Nat->Prop}{P:List (List En)}{F:Nat→Prop}{L:List Pg}
def cut{α:Type}(l:List α)(a b:Nat):List α:=(l.drop a).take (max a b - a)
theorem wS{α:Type}{l:List α}{j:Nat}{x:α}(h:(cut l a b)[j]?=some x):l[a+j]?=some x:=by
 unfold cut at h;rw[List.getElem?_take] at h;split at h
 ·rw[List.getElem?_drop] at h;exact h
 ·cases h
theorem wK{α:Type}{l:List α}(ha:a<=l.length)(hb:b<=l.length):(cut l a b).length=max a b - a:=by
 unfold cut;rw[List.length_take,List.length_drop];omega
def fp(P:List (List En))(t:List Int):Nat:=if t=[] then P.length else min (pgi P t+1) P.length
def uV(es:List En)(t:List Int):Nat:=if t=[] then es.length else plc (kys es) t
def wth(es:List En)(f t:List Int):List En:=cut es (plc (kys es) f) (uV es t)
def wlk(P:List (List En))(f t:List Int):List En:=(cut P (pgi P f) (fp P t)).flatMap fun es=>wth es f t
theorem nZ(h:By w v t):Calls Tryz.prog 168 #[v] w fun e w'=>e=.returned (.bool (decide (t≠[])))/\w'=w:=by
 obtain⟨i,c,rfl,g,n,j,m,f⟩:=h.ex
 have d:(decide (t≠[]))=decide ((0:Int) < (t.length:Int)):=by
  cases t with
  | nil=>rfl
  | cons a l=>simp
 rw[d];clear h f
 have b:decide ((0:Int) < (t.length:Int))=decide (0 < t.length):=by congr 1;exact propext ⟨fun h=>by omega,fun h=>by omega⟩
 rw[b];go_enter Tryz.func168,Tryz.ntmps168;go_wp2;go_ret;exact⟨rfl,rfl⟩
structure SpA(w:World)(F:Nat->Prop)(v:Value)(Q:List Pg):Prop where
 ex:∃ ao c,v=.slice ao Q.length c/\Q.length<=c/\c<=9223372036854775807/\∀ j p,Q[j]?=some p->∃ b o,ao=some ⟨b,o,none⟩/\F b/\w.cell? ⟨b,o+j,none⟩=some p.v
structure ESl(w:World)(q:Nat)(v:Value)(es:List En):Prop where
 ex:∃ ao c,v=.slice ao es.length c/\es.length<=c/\c<=9223372036854775807/\∀ j e,es[j]?=some e->∃ o,ao=some ⟨q,o,none⟩/\w.cell? ⟨q,o+j * 2,none⟩=some e.kv/\w.cell? ⟨q,o+j * 2+1,none⟩=some e.vv
theorem vI{p:Pg}(A:PgA w D p)(S:Srt (kys p.es))(hf:By w fv f)(F:By w tv t)(hn:p.es.length<=1000000) :
  Calls Tryz.prog 117 #[p.v,fv,tv] w fun e w'=>∃ v,e=.returned v/\ESl w' p.b v (wth p.es f t)/\Below w.heap.size w w':=by
 have t1:=im A S hf hn
 have r:∀ w',Below w.heap.size w w'->Calls Tryz.prog 168 #[tv] w' _:=fun w' l=>nZ (F.keep l)
 have t2:∀ w',Below w.heap.size w w'->Calls Tryz.prog 169 #[p.v,tv] w' _:=fun w' l=>im (A.keep l) S (F.keep l) hn
 have i:=A.row;have n:=i.le;simp only[maxLen] at n;have P:=n.1;have O:=n.2;have s:=qv (kys p.es) f;have K:=qv (kys p.es) t
 have u:(kys p.es).length=p.es.length:=by simp[kys]
 rw[u] at s K
 have g:∀ (B:Option Addr) (k c y:Nat) (w':World),uV p.es t=y->y<=p.es.length->Below w.heap.size w w'->k=max (plc (kys p.es) f) y - plc (kys p.es) f->k<=c->c<=9223372036854775807->(k=0\/B=some ⟨p.b,plc (kys p.es) f * 2,none⟩)->ESl w' p.b (.slice B k c) (wth p.es f t):=fun B k c y w' he hy l I J hc M=>by
  have L:(wth p.es f t).length=k:=by
   unfold wth;rw[he,wK s hy,I]
  refine⟨B,c,by rw[L],by rw[L];exact J,hc,fun j e N=>?_⟩;have H:=(List.getElem?_eq_some_iff.1 N).1;rw[L] at H
  have z:=wS (show (cut p.es (plc (kys p.es) f) (uV p.es t))[j]?=some e from N);have I:=(i.keep l).cell (rj z);have hv:=(i.keep l).cell (kX z);refine⟨plc (kys p.es) f * 2,M.resolve_left (by omega),?_,?_⟩
  ·rw[<- Nat.add_mul];exact I
  ·rw[<- Nat.add_mul];exact hv
 have g:Hid _:=g
 have o:Hid (uV p.es t=if t=[] then p.es.length else plc (kys p.es) t):=rfl;generalize hx:plc (kys p.es) f=x at *
 have W:Hid _:=hx;generalize hy:plc (kys p.es) t=y at *
 have V:Hid _:=hy;generalize thr (kys p.es) f=bx at *;generalize thr (kys p.es) t=Q at *
 simp only[Pg.v] at t1 t2 ⊢;generalize hm:p.es.length=m at *
 have T:Hid _:=hm
 have z0:(0:Int)<=(x:Int):=by omega
 have z1:(x:Int)<=(m:Int):=by omega
 clear A S hf F i n u hx hy hm;by_cases h0:t=[]
 ·have hd:decide (t≠[])=false:=by simp[h0]
  rw[hd] at r
  have he:Hid (uV p.es t=m):=by show _=_;rw[o.out,if_pos h0]
  clear h0 hd t2 o;go_enter Tryz.func117,Tryz.ntmps117
  go_wp2_with (first
   | (go_at_call 169;refine t1.mono ?_;rintro E C ⟨rfl,d⟩;have q:=r C d;clear t1 r)
   | (go_at_call 168;refine q.mono ?_;rintro E R ⟨rfl,rfl⟩))
  all_goals (
   go_ret
   exact⟨_,rfl,g.out _ _ _ m _ he.out (Nat.le_refl _) d (by omega) (by omega) (by omega) (by first | exact .inr rfl | exact .inl (by omega) | exact .inl rfl),d⟩)
 ·have hd:decide (t≠[])=true:=by simp[h0]
  rw[hd] at r
  have he:Hid (uV p.es t=y):=by show _=_;rw[o.out,if_neg h0]
  have mk:True:=trivial;clear h0 hd o;go_enter Tryz.func117,Tryz.ntmps117
  go_wp2_with (first
   | (go_at_call 169;clear mk;refine t1.mono ?_;rintro E C ⟨rfl,d⟩;have q:=r C d;have t21:=t2 C d;clear t1 r t2)
   | (go_at_call 168;refine q.mono ?_;rintro E R ⟨rfl,rfl⟩)
   | (go_at_call 169;refine t21.mono ?_;rintro E U ⟨rfl,G⟩;have l:=aB d G))
  all_goals (
   go_ret
   exact⟨_,rfl,g.out _ _ _ y _ he.out (by omega) l (by omega) (by omega) (by omega) (by first | exact .inr rfl | exact .inl (by omega) | exact .inl rfl),l⟩)
theorem AU(k:List Int):pgi P k<=P.length:=by
 have h1:=pR (fks P) k;simp only[fks,List.length_map] at h1;unfold pgi fks;omega
theorem Ac{D:Nat→Prop}{g:Nat}(A:bU w F D g L)(O:Ord (ens L))(hf:By w fv f)(W:By w tv t)(hn:L.length≤100000000) :
    Calls Tryz.prog 116 #[.pointer (some ⟨g,0,none⟩),fv,tv] w fun e w'=>∃ v,e=.returned v∧SpA w' F v (cut L (pgi (ens L) f) (fp (ens L) t))∧Below w.heap.size w w':=by
  have t1:=jA A.drew O hf.drew (by omega)
  have H:∀ w',Below w.heap.size w w'→Calls Tryz.prog 168 #[tv] w' _:=fun w' z=>nZ (W.keep z)
  have t2:∀ w',Below w.heap.size w w'→Calls Tryz.prog 167 #[.pointer (some ⟨g,0,none⟩),tv] w' _:=fun w' z=>jA (A.keep z) O (W.keep z) (by omega)
  obtain⟨R,c,hc,hc1,hc2,Q⟩:= A.rd
  have M:(ens L).length=L.length:=by simp[ens]
  have T:pgi (ens L) f≤L.length:=by rw[← M];exact AU f
  have ac:pgi (ens L) t≤L.length:=by rw[← M];exact AU t
  have U : ∀ G, R = some ⟨G, 0, none⟩ → F G := fun G e => by
    obtain⟨pv,hb,hg,⟨rfl,rfl⟩ | ⟨G',C,rfl,Y,hR⟩⟩:= A.top
    · have:=hb.cell (i:=0) rfl
      rw[hc] at this
      cases this
      cases e
    · have:=hb.cell (i:=0) rfl
      rw[hc] at this
      cases this
      cases e;exact Y
  have q : ∀ (V : Option Addr) (k d y : Nat) (w' : World), fp (ens L) t = y → y ≤ L.length → Below w.heap.size w w' → k = max (pgi (ens L) f) y - pgi (ens L) f → k ≤ d → d ≤ 9223372036854775807 → (k = 0 ∨ ∀ b o, R = some ⟨b, o, none⟩ → V = some ⟨b, o + pgi (ens L) f, none⟩) → SpA w' F (.slice V k d) (cut L (pgi (ens L) f) (fp (ens L) t)) := fun V k d y w' he hy z hk ad hd aa => by
    have hl:(cut L (pgi (ens L) f) (fp (ens L) t)).length=k:=by rw[he,wK T hy,hk]
    refine⟨V,d,by rw[hl],by rw[hl];exact ad,hd,fun j p hj=>?_⟩;have ab:=(List.getElem?_eq_some_iff.1 hj).1;rw[hl] at ab
    have hj':=wS hj;obtain⟨G,rfl,cG⟩:= Q _ p hj'
    exact⟨G, 0 + pgi (ens L) f, (aa.resolve_left (by omega)) G 0 rfl, U G rfl, by
      rw[Nat.zero_add,z.cell (p:=⟨G,pgi (ens L) f+j,none⟩) (aL cG)];exact cG⟩
  have q:Hid _:=q
  have E:Hid (fp (ens L) t=if t=[] then L.length else min (pgi (ens L) t+1) L.length):=by show _=_;unfold fp;rw[M]
  have I:=aL hc
  have Q:Hid _:=Q
  have S:Hid (R=none∨∃ G,R=some ⟨G,0,none⟩):=by
    obtain⟨pv,hb,hg,⟨rfl,rfl⟩ | ⟨G,C,rfl,Y,hR⟩⟩:= A.top
    · have:=hb.cell (i:=0) rfl
      rw[hc] at this
      cases this;exact .inl rfl
    · have:=hb.cell (i:=0) rfl
      rw[hc] at this
      cases this;exact .inr ⟨G,rfl⟩
  have K:R=none→c=0:=by
    intro e;obtain⟨pv,hb,hg,⟨rfl,rfl⟩ | ⟨G,C,rfl,Y,hR⟩⟩:= A.top
    · have:=hb.cell (i:=0) rfl
      rw[hc] at this
      cases this;rfl
    · have:=hb.cell (i:=0) rfl
      rw[hc] at this
      cases this
      cases e
  generalize hx:pgi (ens L) f=x at *
  have HX:Hid _:=hx;generalize hy:pgi (ens L) t=y at *
  have HY:Hid _:=hy;obtain⟨n,hnn⟩:∃ n,Hid (L.length=n):=⟨_,rfl⟩;rw[hnn.out] at hc hc1 T ac hn q E
  have P:w.drew.cell? ⟨g,0,none⟩=some (.slice R n c):=hc
  have z0:(0:Int)≤(x:Int):=by omega
  have z1:(x:Int)≤(n:Int):=by omega
  have zw:IntKind.i64.wrap ((y:Int)+1)=(y:Int)+1:=by rw[IntKind.wrap_i64];omega
  have J:=cC w;have HN:=S.out;clear A O hf W hx hy M U;by_cases h0:t=[]
  · have hd : decide (t ≠ []) = false := by simp[h0]
    rw[hd] at H
    have he:Hid (fp (ens L) t=n):=by show _=_;rw[E.out,if_pos h0]
    clear h0 hd t2 E;rcases HN with rfl | ⟨G,rfl⟩
    · obtain rfl:c=0:=K rfl
      obtain rfl:n=0:=by omega
      obtain rfl:x=0:=by omega
      go_enter Tryz.func116,Tryz.ntmps116;go_wp2;go_region_held3 (fun w'=>w'.cell? ⟨g,0,none⟩=some (.slice none 0 0)) (assumption)
        (first
          | (go_at_call 167;refine t1.mono ?_;rintro N u ⟨rfl,m⟩;have r:u.cell? ⟨g,0,none⟩=_:=(m.cell (p:=⟨g,0,none⟩) I).trans P;have l:=aB J m))
      have s:=H u l;clear t1 H;go_wp2_with (go_at_call 168;refine s.mono ?_;rintro N w2 ⟨rfl,rfl⟩)
      all_goals (
        go_ret
        exact⟨_,rfl,q.out _ _ _ 0 _ he.out (by omega) l (by omega) (by omega) (by omega) (by first | exact .inl (by omega) | exact .inr (fun b o e=>by cases e;simp)),l⟩)
    · clear K
      go_enter Tryz.func116,Tryz.ntmps116;go_wp2;go_region_held3 (fun w'=>w'.cell? ⟨g,0,none⟩=some (.slice (some ⟨G,0,none⟩) n c)) (assumption)
        (first
          | (go_at_call 167;refine t1.mono ?_;rintro N u ⟨rfl,m⟩;have r:u.cell? ⟨g,0,none⟩=_:=(m.cell (p:=⟨g,0,none⟩) I).trans P;have l:=aB J m))
      have s:=H u l;clear t1 H;go_wp2_with (go_at_call 168;refine s.mono ?_;rintro N w2 ⟨rfl,rfl⟩)
      all_goals (
        go_ret
        exact⟨_,rfl,q.out _ _ _ n _ he.out (by omega) l (by omega) (by omega) (by omega) (by first | exact .inl (by omega) | exact .inr (fun b o e=>by cases e;simp)),l⟩)
  · have hd : decide (t ≠ []) = true := by simp[h0]
    rw[hd] at H
    have he:Hid (fp (ens L) t=min (y+1) n):=by show _=_;rw[E.out,if_neg h0]
    clear h0 hd E;rcases HN with rfl | ⟨G,rfl⟩
    · obtain rfl:c=0:=K rfl
      obtain rfl:n=0:=by omega
      obtain rfl:x=0:=by omega
      go_enter Tryz.func116,Tryz.ntmps116;go_wp2;go_region_held3 (fun w'=>w'.cell? ⟨g,0,none⟩=some (.slice none 0 0)) (assumption)
        (first
          | (go_at_call 167;refine t1.mono ?_;rintro N u ⟨rfl,m⟩;have r:u.cell? ⟨g,0,none⟩=_:=(m.cell (p:=⟨g,0,none⟩) I).trans P;have l:=aB J m))
      have s:=H u l;have t21:=t2 u l;clear t1 H t2
      go_wp2_with (first
        | (go_at_call 168;refine s.mono ?_;rintro N w2 ⟨rfl,rfl⟩)
        | (go_at_call 167;refine t21.mono ?_;rintro N Z ⟨rfl,B⟩;have X:Z.cell? ⟨g,0,none⟩=_:=(B.cell (p:=⟨g,0,none⟩) (aL r)).trans r;have z:=aB l B))
      all_goals (
        go_ret
        exact⟨_,rfl,q.out _ _ _ (min (y+1) 0) _ he.out (by omega) z (by omega) (by omega) (by omega) (by first | exact .inl (by omega) | exact .inr (fun b o e=>by cases e;simp)),z⟩)
    · clear K
      go_enter Tryz.func116,Tryz.ntmps116;go_wp2;go_region_held3 (fun w'=>w'.cell? ⟨g,0,none⟩=some (.slice (some ⟨G,0,none⟩) n c)) (assumption)
        (first
          | (go_at_call 167;refine t1.mono ?_;rintro N u ⟨rfl,m⟩;have r:u.cell? ⟨g,0,none⟩=_:=(m.cell (p:=⟨g,0,none⟩) I).trans P;have l:=aB J m))
      have s:=H u l;have t21:=t2 u l;clear t1 H t2
      go_wp2_with (first
        | (go_at_call 168;refine s.mono ?_;rintro N w2 ⟨rfl,rfl⟩)
        | (go_at_call 167;refine t21.mono ?_;rintro N Z ⟨rfl,B⟩;have X:Z.cell? ⟨g,0,none⟩=_:=(B.cell (p:=⟨g,0,none⟩) (aL r)).trans r;have z:=aB l B))
      all_goals (
        go_ret
        exact⟨_,rfl,q.out _ _ _ (min (y+1) n) _ he.out (by omega) z (by omega) (by omega) (by omega) (by first | exact .inl (by omega) | exact .inr (fun b o e=>by cases e;simp)),z⟩)
end
end Pg
end
end Go.Proofs.YtjejmkcjflhoiaaGreatDoor
