import Derived.Test.YthfepflplbahkaaGreatDoorJac
import Derived.Lib.BytesEntry
import Derived.WalkMore
import Derived.Deep.RegionHeld3
import Derived.Deep.RegionWith
import Derived.RangeFuncNested
import Derived.RangeFuncBound
import Derived.RangeFuncCalls
import Derived.RangeFuncLeaves
set_option maxRecDepth 100000
set_option maxHeartbeats 8000000
namespace Go.Proofs.YthfepflplbahkaaGreatDoor
section
namespace Pg
open Go.RowKit Go.Lib
section
variable {w w':World}{k b n c m:Nat}{xs ys:List Value}{F:Nat->Prop}{v:Value}
structure Rw(w:World)(E:TypeId)(k b n c:Nat)(xs:List Value):Prop where
 ex:∃ sp,Blk w b (xs ++ sp) E/\xs.length=n * k/\(xs ++ sp).length=c * k/\n<=c/\c<=maxLen
theorem Rw.lt{E:TypeId}(h:Rw w E k b n c xs):b < w.heap.size:=by
 obtain⟨sp,h,_⟩:=h.ex; exact h.lt
theorem Rw.same{E:TypeId}(h:Rw w E k b n c xs)(hb:w'.heap[b]? = w.heap[b]?):Rw w' E k b n c xs:=by
 obtain⟨sp,h,h'⟩:=h.ex; exact⟨sp,h.same hb,h'⟩
theorem Rw.keep{E:TypeId}(h:Rw w E k b n c xs)(hb:Below w.heap.size w w'):Rw w' E k b n c xs:=h.same (hb.block b h.lt)
theorem Rw.chg{E:TypeId}(h:Rw w E k b n c xs)(hb:Chg F w w')(hg:¬ F b):Rw w' E k b n c xs:=h.same (hb.same b h.lt hg)
theorem Rw.drew{E:TypeId}(h:Rw w E k b n c xs):Rw w.drew E k b n c xs:=h.same rfl
theorem Rw.len{E:TypeId}(h:Rw w E k b n c xs):xs.length=n * k:=by
 obtain⟨sp,h,h',_⟩:=h.ex; exact h'
theorem Rw.le{E:TypeId}(h:Rw w E k b n c xs):n<=c/\c<=maxLen:=by
 obtain⟨sp,h,_,_,h'⟩:=h.ex; exact h'
theorem Rw.cell{E:TypeId}(h:Rw w E k b n c xs){i:Nat}(hi:xs[i]? = some v):w.cell? ⟨b,i,none⟩=some v:=by
 obtain⟨sp,h,_⟩:=h.ex;exact h.cell (by rw[List.getElem?_append_left (List.getElem?_eq_some_iff.1 hi).1]; exact hi)
theorem Rw.free{E:TypeId}(h:Rw w E k b n c xs)(i:Nat):w.frozen? ⟨b,i,none⟩=false:=by
 obtain⟨sp,h,_⟩:=h.ex; exact h.free i
theorem Rw.kind{E:TypeId}(h:Rw w E k b n c xs):∃ cs,Blk w b cs E:=by
 obtain⟨sp,h,_⟩:=h.ex; exact⟨_,h⟩
theorem Rw.set{E:TypeId}(h:Rw w E k b n c xs)(i:Nat)(hi:i < xs.length)(v:Value):Rw (w.setCell ⟨b,i,none⟩ v) E k b n c (xs.set i v):=by
 obtain⟨sp,h,d,e,a⟩:=h.ex;refine⟨sp,?_,by simpa using d,by simpa using e,a⟩;have:=h.setCell (i:=i) v;rwa [List.set_append_left _ _ hi] at this
theorem yn{E:TypeId}(h:Blk w b xs E)(hx:xs.length=n * k)(hn:n<=maxLen):Rw w E k b n n xs:=⟨[],by simpa using h,hx,by simpa using hx,Nat.le_refl _,hn⟩
theorem Rw.front{E:TypeId}(h:Rw w E k b n c xs)(hm:m<=n):Rw w E k b m c (xs.take (m * k)):=by
 obtain⟨sp,h,f,d,e,a⟩:=h.ex
 have g:m * k<=n * k:=Nat.mul_le_mul_right _ hm;refine⟨xs.drop (m * k) ++ sp,by rw[<- List.append_assoc,List.take_append_drop]; exact h,by rw[List.length_take]; omega,by rw[<- List.append_assoc,List.take_append_drop]; exact d,by omega,a⟩
theorem Rw.more{E:TypeId}(h:Rw w E k b n c xs)(hm:n + m<=c):∃ s,s.length=m * k/\Rw w E k b (n + m) c (xs ++ s):=by
 obtain⟨sp,h,f,a,e,d⟩:=h.ex
 have g:n * k + m * k<=c * k:=by rw[<- Nat.add_mul]; exact Nat.mul_le_mul_right _ hm
 rw[List.length_append] at a;refine⟨sp.take (m * k),by rw[List.length_take]; omega,sp.drop (m * k),?_,?_,?_,hm,d⟩
 ·rw[List.append_assoc,List.take_append_drop]; exact h
 ·rw[List.length_append,List.length_take,Nat.add_mul]; omega
 ·rw[List.append_assoc,List.take_append_drop,List.length_append]; exact a
theorem Rw.to{E:TypeId}(h:Rw w E k b n c xs)(e:xs=ys):Rw w E k b n c ys:=e▸h
end
section
variable {P:Program} {w:World} {T E:TypeId} {k bytes:Nat} {z:Value}
section
variable {b n c g:Nat}{xs:List Value}
structure Kd(P:Program)(T E:TypeId)(k bytes:Nat)(z:Value):Prop where
 und:P.underlying T=some (.slice E)
 inf:(P.info? E).map (fun i=>(i.zero,i.size,i.bytes))=some (some z,k,bytes)
 zs:z.cells.size=k
 z1:∀ v∈z.cells,v.oneCell'=true
 k0:0 < k
theorem Kd.size(h:Kd P T E k bytes z):(P.info? E).map (·.size)=some k:=by
 obtain⟨i,hi,hz,hs,hb⟩:=info_parts h.inf;rw[hi]; simp[hs]
theorem Kd.sizeOf(h:Kd P T E k bytes z)(w:World):(Go.sizeOf E).run P w=.ok k w:=by
 obtain⟨i,hi,hz,hs,hb⟩:=info_parts h.inf;simp[Go.sizeOf,typeInfo,hi,hs]
theorem Kd.zero(h:Kd P T E k bytes z)(w:World):(zeroValue E).run P w=.ok z w:=by
 obtain⟨i,hi,hz,hs,hb⟩:=info_parts h.inf;simp[zeroValue,typeInfo,hi,hz]
theorem lE(w:World)(E:TypeId)(zc:Array Value)(k n c:Nat)(xs:List Value)(a:zc.size=k)(hx:xs.length=n * k)(hn:n<=c)(hc:c<=maxLen) :
  Rw (w.drew.alloc (.cells (xs.toArray ++ Builtin.zeroCells zc (c - n)) E)) E k w.heap.size n c xs :=
 ⟨(Builtin.zeroCells zc (c - n)).toList,⟨by
  have:=(aC w.drew (xs ++ (Builtin.zeroCells zc (c - n)).toList) E).blk;rw[show (xs ++ (Builtin.zeroCells zc (c - n)).toList).toArray=xs.toArray ++ Builtin.zeroCells zc (c - n) by apply Array.ext'; simp] at this ⊢
  exact this⟩,hx,by
  rw[List.length_append,hx,Array.length_toList,size_zeroCells,a,<- Nat.add_mul]; congr 1; omega,hn,hc⟩
theorem dz(H:Kd P T E k bytes z)(ty:TypeId)(R:Rw w E k b n c xs)(a:Addr)(m cc:Nat)(news:List Value)(l:news.length=m * k)(f:∀ j u,news[j]? = some u->w.cell? (a.add j)=some u)(x:∀ u∈news,u.oneCell'=true)(o:(n + m) * bytes<=140737488355328)(hm:n + m<=140737488355328) :
  ∃ b' c' w',(Builtin.append_ #[T,T] ty #[.slice (some ⟨b,0,none⟩) n c,.slice (some a) m cc]).run P w=.ok (.slice (some ⟨b',0,none⟩) (n + m) c') w'/\(b'=b\/b'=w.heap.size)/\Rw w' E k b' (n + m) c' (xs ++ news)/\Chg (· = b) w w':=by
 obtain⟨i,hi,t,hs,hb⟩:=info_parts H.inf;obtain⟨sp,s,hx,hc,v,p⟩:=R.ex;subst hs hb
 have q:n + m<=maxLen:=by simp only[maxLen]; omega
 by_cases d:n + m<=c
 ·have h:n * i.size + news.length<=(xs ++ sp).toArray.size:=by
   rw[List.size_toArray,hc,l,<- Nat.add_mul]; exact Nat.mul_le_mul_right _ d
  have r:=run_append_room (P:=P) w T ty E i H.und hi b n c (xs ++ sp).toArray s.blk a m cc news l f x d h;refine⟨b,c,_,r,.inl rfl,⟨sp.drop news.length,?_,by rw[List.length_append,hx,l,Nat.add_mul],?_,d,p⟩,(Chg.refl (· = b) w).row (g:=b) (.inl rfl) _⟩
  ·have:=s.row (xs ++ news ++ sp.drop news.length)
   have e:(xs ++ sp).toArray.toList.take (n * i.size) ++ news ++ (xs ++ sp).toArray.toList.drop (n * i.size + news.length)=xs ++ news ++ sp.drop news.length:=by
    rw[show (xs ++ sp).toArray.toList=xs ++ sp from rfl,<- hx,List.take_left,<- List.drop_drop,List.drop_left]
   rw[e]; exact this
  ·have A:xs.length + sp.length=c * i.size:=by rw[<- List.length_append]; exact hc
   have B:n * i.size + m * i.size<=c * i.size:=by rw[<- Nat.add_mul]; exact Nat.mul_le_mul_right _ d
   rw[List.length_append,List.length_append,List.length_drop]; omega
 ·have holds:∀ j u,xs[j]? = some u->w.cell? ((⟨b,0,none⟩:Addr).add j)=some u:=fun j u y=>by rw[Addr.add_lit,Nat.zero_add]; exact R.cell y
  have r:=run_append_grow (P:=P) w T ty E i z H.und hi t ⟨b,0,none⟩ n c xs hx holds a m cc news l f (by omega) (by omega) (growslice_fits (by omega) o);refine⟨w.heap.size,_,_,r,.inr rfl,?_,(Chg.refl _ w).drew.alloc _⟩;have:=lE w E z.cells i.size (n + m) (grownCap w (n + m) c E) (xs ++ news) H.zs (by rw[List.length_append,hx,l,Nat.add_mul]) (grownCap_ge w _ _ _) (grownCap_le_maxLen w _ _ _ q);simpa using this
theorem fi(H:Kd P T E k bytes z)(ty:TypeId)(a:Addr)(m cc:Nat)(news:List Value)(d:news.length=m * k)(c:∀ j u,news[j]? = some u->w.cell? (a.add j)=some u)(g:0 < m)(e:m * bytes<=140737488355328)(hm:m<=140737488355328) :
  ∃ c' w',(Builtin.append_ #[T,T] ty #[.slice none 0 0,.slice (some a) m cc]).run P w=.ok (.slice (some ⟨w.heap.size,0,none⟩) m c') w'/\Rw w' E k w.heap.size m c' news/\Below w.heap.size w w':=by
 obtain⟨i,hi,f,hs,hb⟩:=info_parts H.inf;subst hs hb;have h:=run_append_nil (P:=P) w T ty E i z H.und hi f a m cc news d c g (by omega) (by omega);refine⟨_,_,h,?_,?_⟩
 ·exact lE w E z.cells i.size m (grownCap w m 0 E) news H.zs d (grownCap_ge w _ _ _) (grownCap_le_maxLen w _ _ _ (by simp only[maxLen]; omega))
 ·exact(Below.refl _ w).trans ⟨rfl,rfl,rfl,by simp,fun b hb=>by
   have:=(ae w.drew (.cells (news.toArray ++ Builtin.zeroCells z.cells (grownCap w m 0 E - m)) E)).block b hb
   exact this⟩
theorem oA(H:Kd P T E k bytes z)(tn ty:TypeId)(hn:P.underlying tn=some (.int .i64))(R:Rw w E k b n c xs)(m:Nat)(e:0 < m)(hc:c < n + m)(a:(n + m) * bytes<=140737488355328)(hm:n + m<=140737488355328) :
  ∃ c' w',(Builtin.append_ #[T,tn] ty #[.slice (some ⟨b,0,none⟩) n c,.int .i64 m]).run P w=.ok (.slice (some ⟨w.heap.size,0,none⟩) (n + m) c') w'/\Rw w' E k w.heap.size (n + m) c' (xs ++ (Builtin.zeroCells z.cells m).toList)/\Below w.heap.size w w':=by
 obtain⟨i,hi,d,hs,hb⟩:=info_parts H.inf;have hx:=R.len;subst hs hb
 have hold:(Builtin.firstCells i.size n (.slice (some ⟨b,0,none⟩) n c)).run P w.drew=.ok xs.toArray w.drew :=
  run_firstCells_some w.drew i.size n ⟨b,0,none⟩ n c xs hx (fun j v g=>by rw[Addr.add_lit,Nat.zero_add]; exact R.cell g)
 have f:m * i.bytes<=(n + m) * i.bytes:=Nat.mul_le_mul_right _ (by omega);have h:=run_append_grow_zeros w T tn ty E i z .i64 .i64 H.und hn hi d (some ⟨b,0,none⟩) n c xs hold m e H.k0 hc (by omega) (by omega) (growslice_fits hc a);refine⟨_,_,h,?_,?_⟩
 ·have:=lE w E z.cells i.size (n + m) (grownCap w (n + m) c E) (xs ++ (Builtin.zeroCells z.cells m).toList) H.zs (by rw[List.length_append,hx,Array.length_toList,size_zeroCells,H.zs,Nat.add_mul]) (grownCap_ge w _ _ _) (grownCap_le_maxLen w _ _ _ (by simp only[maxLen]; omega));rw[show (xs ++ (Builtin.zeroCells z.cells m).toList).toArray=xs.toArray ++ Builtin.zeroCells z.cells m by apply Array.ext'; simp] at this;exact this
 ·exact⟨rfl,rfl,rfl,by simp,fun b hb=>(ae w.drew (.cells (xs.toArray ++ Builtin.zeroCells z.cells m ++ Builtin.zeroCells z.cells (grownCap w (n + m) c E - (n + m))) E)).block b hb⟩
theorem nu(H:Kd P T E k bytes z)(tn ty:TypeId)(hn:P.underlying tn=some (.int .i64))(m:Nat)(d:0 < m)(a:m * bytes<=140737488355328)(hm:m<=140737488355328) :
  ∃ c' w',(Builtin.append_ #[T,tn] ty #[.slice none 0 0,.int .i64 m]).run P w=.ok (.slice (some ⟨w.heap.size,0,none⟩) m c') w'/\Rw w' E k w.heap.size m c' (Builtin.zeroCells z.cells m).toList/\Below w.heap.size w w':=by
 obtain⟨i,hi,c,hs,hb⟩:=info_parts H.inf;subst hs hb;have e:=run_append_nil_zeros w T tn ty E i z .i64 .i64 H.und hn hi c m d H.k0 (by omega) (by omega);refine⟨_,_,e,?_,?_⟩
 ·have:=lE w E z.cells i.size m (grownCap w m 0 E) (Builtin.zeroCells z.cells m).toList H.zs (by rw[Array.length_toList,size_zeroCells,H.zs]) (grownCap_ge w _ _ _) (grownCap_le_maxLen w _ _ _ (by simp only[maxLen]; omega));simpa using this
 ·exact⟨rfl,rfl,rfl,by simp,fun b hb=>(ae w.drew (.cells (Builtin.zeroCells z.cells m ++ Builtin.zeroCells z.cells (grownCap w m 0 E - m)) E)).block b hb⟩
theorem eJ(H:Kd P T E k bytes z)(ty:TypeId)(R:Rw w E k g n c xs)(o dLen dCap:Nat)(a:Addr)(sLen sCap:Nat)(cs:List Value)(m:Nat)(hm:Nat.min sLen dLen=m)(hn:cs.length=m * k)(d:∀ j v,cs[j]? = some v->w.cell? (a.add j)=some v)(b:o + cs.length<=xs.length)(p:∀ v∈cs,v.oneCell'=true) :
  ∃ w',(Builtin.copy_ #[T,T] ty #[.slice (some ⟨g,o,none⟩) dLen dCap,.slice (some a) sLen sCap]).run P w=.ok (goInt m) w'/\Rw w' E k g n c (splice xs o cs)/\Chg (· = g) w w':=by
 obtain⟨sp,l,hx,hc,h,f⟩:=R.ex;have q:=wN (P:=P) w T T ty E k g o dLen dCap a sLen sCap (xs ++ sp) cs E H.und H.size l m hm hn d (by rw[List.length_append]; omega) p
 have e:splice (xs ++ sp) o cs=splice xs o cs ++ sp:=by
  rw[eu,eu,List.take_append_of_le_length (by omega),List.drop_append_of_le_length (by omega),List.append_assoc,List.append_assoc,List.append_assoc]
 have i:=length_splice xs o cs b;refine⟨_,q,⟨sp,by rw[e]; exact l.row _,by rw[i]; exact hx,by rw[List.length_append,i,<- List.length_append]; exact hc,h,f⟩,(Chg.refl (· = g) w).row (g:=g) (.inl rfl) _⟩
theorem jC(H:Kd P T E k bytes z)(ty:TypeId)(R:Rw w E k b n c xs)(a:Addr)(m cc:Nat)(news:List Value)(o:news.length=m * k)(f:∀ j u,news[j]? = some u->w.cell? (a.add j)=some u)(s:∀ u∈news,u.oneCell'=true)(d:n + m<=c) :
  ∃ w',(Builtin.append_ #[T,T] ty #[.slice (some ⟨b,0,none⟩) n c,.slice (some a) m cc]).run P w=.ok (.slice (some ⟨b,0,none⟩) (n + m) c) w'/\Rw w' E k b (n + m) c (xs ++ news)/\Chg (· = b) w w':=by
 obtain⟨i,hi,t,hs,hb⟩:=info_parts H.inf;obtain⟨sp,p,hx,hc,r,l⟩:=R.ex;subst hs hb
 have h:n * i.size + news.length<=(xs ++ sp).toArray.size:=by
  rw[List.size_toArray,hc,o,<- Nat.add_mul]; exact Nat.mul_le_mul_right _ d
 have q:=run_append_room (P:=P) w T ty E i H.und hi b n c (xs ++ sp).toArray p.blk a m cc news o f s d h;refine⟨_,q,⟨sp.drop news.length,?_,by rw[List.length_append,hx,o,Nat.add_mul],?_,d,l⟩,(Chg.refl (· = b) w).row (g:=b) (.inl rfl) _⟩
 ·have:=p.row (xs ++ news ++ sp.drop news.length)
  have e:(xs ++ sp).toArray.toList.take (n * i.size) ++ news ++ (xs ++ sp).toArray.toList.drop (n * i.size + news.length)=xs ++ news ++ sp.drop news.length:=by
   rw[show (xs ++ sp).toArray.toList=xs ++ sp from rfl,<- hx,List.take_left,<- List.drop_drop,List.drop_left]
  rw[e]; exact this
 ·have v:xs.length + sp.length=c * i.size:=by rw[<- List.length_append]; exact hc
  have x:n * i.size + m * i.size<=c * i.size:=by rw[<- Nat.add_mul]; exact Nat.mul_le_mul_right _ d
  rw[List.length_append,List.length_append,List.length_drop]; omega
theorem iz(H:Kd P T E k bytes z)(ty:TypeId)(R:Rw w E k g n c xs)(m cc:Nat)(hm:0 < m)(a:n + m<=c) :
  ∃ w',(Builtin.clear_ #[T] ty #[.slice (some ⟨g,n * k,none⟩) m cc]).run P w=.ok (.tuple #[]) w'/\Rw w' E k g n c xs/\Chg (· = g) w w':=by
 obtain⟨sp,f,hx,hc,d,b⟩:=R.ex
 have j:n * k + m * k<=c * k:=by rw[<- Nat.add_mul]; exact Nat.mul_le_mul_right _ a
 have i:=sc (P:=P) w T ty E z k g (n * k) m cc (xs ++ sp) E H.und H.zero H.zs H.z1 f hm H.k0 (by omega)
 have e:splice (xs ++ sp) (n * k) (Builtin.zeroCells z.cells m).toList=xs ++ ((Builtin.zeroCells z.cells m).toList ++ sp.drop (Builtin.zeroCells z.cells m).toList.length):=by
  rw[eu,<- hx,List.take_left,<- List.drop_drop,List.drop_left,List.append_assoc]
 have h:((Builtin.zeroCells z.cells m).toList).length=m * k:=by rw[Array.length_toList,size_zeroCells,H.zs]
 refine⟨_,i,⟨_,by rw[e]; exact f.row _,hx,?_,d,b⟩,(Chg.refl (· = g) w).row (g:=g) (.inl rfl) _⟩;rw[List.length_append] at hc ⊢;rw[List.length_append,List.length_drop,h];omega
end
end
end Pg
end
section
namespace Pg
open Go.RowKit Go.Lib
theorem KE:Kd Tryz.prog 199 196 2 48 (.agg #[.slice none 0 0,.slice none 0 0]):=⟨by kernel_rfl,by kernel_rfl,rfl,by simp[Value.cells,Value.oneCell'],by decide⟩
theorem KP:Kd Tryz.prog 142 199 1 24 (.slice none 0 0):=⟨by kernel_rfl,by kernel_rfl,rfl,by simp[Value.cells,Value.oneCell'],by decide⟩
theorem jR:Tryz.prog.underlying 3=some (.int .i64):=by kernel_rfl
theorem mixed:Tryz.prog.follows .mixedOrders=true:=by kernel_rfl
section
variable {w:World} {b n c i vb:Nat} {xs:List Value} {e1 e2:Value}
theorem yh (R:Rw w 196 2 b n c xs) (f:Blk w vb [e1,e2] 196) (hn:n<=1000000000) (g:∀ v∈[e1,e2],v.oneCell'=true) :
  Calls Tryz.prog 193 #[.slice (some ⟨b,0,none⟩) n c,.int .i64 n,.slice (some ⟨vb,0,none⟩) 1 1] w fun e w'=>∃ b' c',e=.returned (.slice (some ⟨b',0,none⟩) (n + 1) c')/\(b'=b\/w.heap.size<=b')/\Rw w' 196 2 b' (n + 1) c' (xs ++ [e1,e2])/\Chg (· = b) w w':=by
 obtain⟨b',c',W,p,m,l,hC⟩:=dz KE 199 R ⟨vb,0,none⟩ 1 1 [e1,e2] rfl (fun j u o=>by rw[Addr.add_lit,Nat.zero_add]; exact f.cell o) g (by omega) (by omega);have d:=R.le;simp only[maxLen] at d;have ac:=d.1;have i:=d.2;clear d R f g;go_enter Tryz.func193,Tryz.ntmps193;go_wp2_with (at_builtin; refine Lib.wpList_append_run _ rfl _ _ _ _ rfl _ _ rfl rfl _ _ p ?_)
 all_goals (
  go_ret
  exact⟨b',c',rfl,m.imp id (fun e=>by omega),l,hC⟩)
theorem zB (b:Blk w vb [e1,e2] 196) :
  Calls Tryz.prog 193 #[.slice none 0 0,.int .i64 0,.slice (some ⟨vb,0,none⟩) 1 1] w fun e w'=>∃ c',e=.returned (.slice (some ⟨w.heap.size,0,none⟩) 1 c')/\Rw w' 196 2 w.heap.size 1 c' [e1,e2]/\Below w.heap.size w w':=by
 obtain⟨c',W,f,c,hC⟩:=fi (w:=w) KE 199 ⟨vb,0,none⟩ 1 1 [e1,e2] rfl (fun j u d=>by rw[Addr.add_lit,Nat.zero_add]; exact b.cell d) (by decide) (by decide) (by decide);clear b;go_enter Tryz.func193,Tryz.ntmps193;go_wp2_with (at_builtin; refine Lib.wpList_append_run _ rfl _ _ _ _ rfl _ _ rfl rfl _ _ f ?_);go_ret;exact⟨c',rfl,c,hC⟩
theorem sf (R : Rw w 196 2 b n c xs) (d : Blk w vb [e1, e2] 196) (g : vb ≠ b) (hi : i < n) (ad : n + 1 ≤ c) (A : ∀ v ∈ xs, v.oneCell' = true) (C : ∀ v ∈ [e1, e2], v.oneCell' = true) :
    Calls Tryz.prog 193 #[.slice (some ⟨b, 0, none⟩) n c, .int .i64 i, .slice (some ⟨vb, 0, none⟩) 1 1] w fun e w' => e = .returned (.slice (some ⟨b, 0, none⟩) (n + 1) c) ∧ Rw w' 196 2 b (n + 1) c (xs.take (i * 2) ++ [e1, e2] ++ xs.drop (i * 2)) ∧ Chg (· = b) w w' := by
  have hx := R.len;have l := R.le;simp only[maxLen] at l;have y := l.1;have D := l.2
  have ae : ∃ cs, Blk w b cs 196 ∧ cs.length = c * 2 := by
    obtain⟨sp, h, _, S, _⟩:= R.ex;exact⟨_, h, S⟩
  have u : ∀ (p q : Nat), (callFunc 224 #[.slice (some ⟨vb, 0, none⟩) 1 1, .slice (some ⟨b, (i + 1) * 2, none⟩) p q]).run Tryz.prog w = .ok (.value (.bool false)) w := fun p q => by
    obtain⟨cs, h, I⟩:= ae
    rw[run_callFunc_extern Tryz.func224 (by kernel_rfl) (by kernel_rfl) (by kernel_rfl) (e := Extern.SlicesOverlaps.overlaps #[199, 199] #[4]) (by kernel_rfl),
      Lib.run_overlaps_apart w 199 4 196 KE.und 2 KE.sizeOf ⟨vb, 0, none⟩ ⟨b, (i + 1) * 2, none⟩ 1 1 p q g 196 196 2 (c * 2) (by simp[World.shape?, d.blk]) (by simp[World.shape?, h.blk]; simpa using I) (by omega) (d.free _) (d.free _)]
    rfl
  have ac : (xs.drop (i * 2)).length = (n - i) * 2 := by rw[List.length_drop, hx]; omega
  obtain⟨s, hs, t⟩:= R.drew.more (m := 1) ad;obtain⟨F, K, x, r⟩:= eJ (w := w.drew) KE 3 t ((i + 1) * 2) (n - i) (c - (i + 1)) ⟨b, i * 2, none⟩ (n + 1 - i) (c - i) (xs.drop (i * 2)) (n - i) (by simp only[Nat.min_def]; split <;> omega) ac
    (fun j v o => by
      rw[List.getElem?_drop] at o;rw[Addr.add_lit]
      exact R.cell (w := w) (by simpa using o)) (by rw[ac, t.len]; omega) (fun v hv => A v (List.mem_of_mem_drop hv))
  have f : Blk F vb [e1, e2] 196 := d.drew.chg r g;obtain⟨N, H, B, z⟩:= eJ (w := F) KE 3 x (i * 2) (n + 1 - i) (c - i) ⟨vb, 0, none⟩ 1 1 [e1, e2] 1 (by simp only[Nat.min_def]; split <;> omega) rfl
    (fun j v o => by rw[Addr.add_lit, Nat.zero_add]; exact f.cell o) (by rw[x.len]; simp; omega) C
  have E : splice (splice (xs ++ s) ((i + 1) * 2) (xs.drop (i * 2))) (i * 2) [e1, e2] = xs.take (i * 2) ++ [e1, e2] ++ xs.drop (i * 2) := by
    have h := qY xs s [e1, e2] (i * 2) (by omega) (by simp[hs])
    have q0 : s.drop ([e1, e2] : List Value).length = [] := List.drop_of_length_le (by simp[hs]);rw[q0, List.append_nil] at h;simpa[Nat.add_mul] using h
  have Q := B.to E
  have O : Chg (· = b) w N := ((Chg.refl _ w).drew.trans r (fun _ _ h => h)).trans z (fun _ _ h => h)
  have J : ¬ ((i : Int) = (n : Int)) := by omega
  have V : IntKind.i64.wrap ((i : Int) + 1) = (i : Int) + 1 := by rw[IntKind.wrap_i64]; omega
  have P : (0 : Int) ≤ (i : Int) + 1 := by omega
  have T : i ≤ n := by omega
  have M : ((i : Int) + 1).toNat = i + 1 := by omega
  have G : ¬ (c = i + 1) := by omega
  have L : (i : Int) ≤ (n : Int) + 1 := by omega
  have U : ¬ (c = i) := by omega
  clear l R ae t x B r z E d f hs ac A C;have mixed := mixed;go_enter Tryz.func193, Tryz.ntmps193;go_wp2_with (simp only[u]);go_region;go_wp2;go_ret;exact⟨rfl, Q, O⟩
theorem wU (R : Rw w 196 2 b n c xs) (t : Blk w vb [e1, e2] 196) (hi : i < n) (z : c < n + 1) (hn : n ≤ 1000000000) (H : ∀ v ∈ xs, v.oneCell' = true) (K : ∀ v ∈ [e1, e2], v.oneCell' = true) :
    Calls Tryz.prog 193 #[.slice (some ⟨b, 0, none⟩) n c, .int .i64 i, .slice (some ⟨vb, 0, none⟩) 1 1] w fun e w' => ∃ c', e = .returned (.slice (some ⟨w.heap.size, 0, none⟩) (n + 1) c') ∧ Rw w' 196 2 w.heap.size (n + 1) c' (xs.take (i * 2) ++ [e1, e2] ++ xs.drop (i * 2)) ∧ Below w.heap.size w w' := by
  have hx := R.len;have q := R.le;simp only[maxLen] at q;have D := q.1;have L := q.2;have C := R.lt;have B := t.lt;obtain⟨c', y, g, l, f⟩:= oA KE 3 199 jR (R.front (m := i) (by omega)) (n + 1 - i) (by omega) (by omega) (by omega) (by omega);rw[show ((n + 1 - i : Nat) : Int) = (n : Int) + 1 - (i : Int) by omega, show i + (n + 1 - i) = n + 1 by omega] at g;rw[show i + (n + 1 - i) = n + 1 by omega] at l;have s := l.le;simp only[maxLen] at s;have G := s.1;have J := s.2
  have o : Blk y vb [e1, e2] 196 := t.keep f;obtain⟨d, S, u, p⟩:= eJ (w := y) KE 3 l (i * 2) (n + 1 - i) (c' - i) ⟨vb, 0, none⟩ 1 1 [e1, e2] 1 (by simp only[Nat.min_def]; split <;> omega) rfl
    (fun j v r => by rw[Addr.add_lit, Nat.zero_add]; exact o.cell r) (by rw[l.len]; simp; omega) K
  have ac : (xs.drop (i * 2)).length = (n - i) * 2 := by rw[List.length_drop, hx]; omega
  have N : Rw d.drew 196 2 b n c xs := ((R.keep f).chg p (by show ¬ b = w.heap.size; omega)).drew;obtain⟨F, Y, M, I⟩:= eJ (w := d.drew) KE 3 u.drew ((i + 1) * 2) (n - i) (c' - (i + 1)) ⟨b, i * 2, none⟩ (n - i) (c - i) (xs.drop (i * 2)) (n - i) (by simp) ac
    (fun j v r => by
      rw[List.getElem?_drop] at r;rw[Addr.add_lit]
      exact N.cell (by simpa using r)) (by rw[ac, u.len]; omega) (fun v hv => H v (List.mem_of_mem_drop hv))
  have E : splice (splice (xs.take (i * 2) ++ (Builtin.zeroCells (.agg #[.slice none 0 0, .slice none 0 0] : Value).cells (n + 1 - i)).toList) (i * 2) [e1, e2]) ((i + 1) * 2) (xs.drop (i * 2)) = xs.take (i * 2) ++ [e1, e2] ++ xs.drop (i * 2) := by
    have hA : (xs.take (i * 2)).length = i * 2 := by rw[List.length_take, hx]; omega
    generalize hZ : (Builtin.zeroCells (.agg #[.slice none 0 0, .slice none 0 0] : Value).cells (n + 1 - i)).toList = Z
    have A : Z.length = (n + 1 - i) * 2 := by rw[← hZ, Array.length_toList, size_zeroCells]; rfl
    have q1 : xs.take (i * 2) ++ Z = xs.take (i * 2) ++ Z.take 2 ++ Z.drop 2 := by rw[List.append_assoc, List.take_append_drop]
    rw[q1, fm _ (Z.take 2) [e1, e2] _ _ hA (by rw[List.length_take]; simp; omega)];have q2 := fm (xs.take (i * 2) ++ [e1, e2]) (Z.drop 2) (xs.drop (i * 2)) [] ((i + 1) * 2) (by rw[List.length_append, hA]; simp <;> omega) (by rw[List.length_drop, A, ac]; omega);simpa using q2
  have U := M.to E
  have x : Below w.heap.size w F := by
    have k2 : Below w.heap.size y d := p.below (fun b hb => by omega) (f.size)
    have k3 : Below w.heap.size d.drew F := I.below (fun b hb => by omega) (by have := f.size; have := p.size; show w.heap.size ≤ d.heap.size; omega);exact(f.trans k2).trans ((⟨rfl, rfl, rfl, Nat.le_refl _, fun _ _ => rfl⟩ : Below w.heap.size d d.drew).trans k3)
  have T : ¬ ((i : Int) = (n : Int)) := by omega
  have aa : IntKind.i64.wrap ((i : Int) + 1) = (i : Int) + 1 := by rw[IntKind.wrap_i64]; omega
  have X : (0 : Int) ≤ (i : Int) + 1 := by omega
  have hin : i ≤ n := by omega
  have W : ((i : Int) + 1).toNat = i + 1 := by omega
  have P : ¬ (c' = i + 1) := by omega
  have O : i + 1 ≤ n + 1 := by omega
  have V : (i : Int) ≤ (n : Int) + 1 := by omega
  have hb4 : ¬ (c' = i) := by omega
  have Q : ¬ (c = i) := by omega
  clear q s R l u M N p I f E t o ac H K;have mixed := mixed;go_enter Tryz.func193, Tryz.ntmps193;go_wp2_with (at_builtin; refine Lib.wpList_append_run _ rfl _ _ _ _ rfl _ _ rfl rfl _ _ g ?_);go_region;go_wp2;go_ret;exact⟨c', rfl, U, x⟩
theorem insE (R:Rw w 196 2 b n c xs) (g:Blk w vb [e1,e2] 196) (f:vb≠b) (hi:i<=n) (hn:n<=1000000000) (j:∀ v∈xs,v.oneCell'=true) (d:∀ v∈[e1,e2],v.oneCell'=true) :
  Calls Tryz.prog 193 #[.slice (some ⟨b,0,none⟩) n c,.int .i64 i,.slice (some ⟨vb,0,none⟩) 1 1] w fun e w'=>∃ b' c',e=.returned (.slice (some ⟨b',0,none⟩) (n + 1) c')/\(b'=b\/w.heap.size<=b')/\Rw w' 196 2 b' (n + 1) c' (xs.take (i * 2) ++ [e1,e2] ++ xs.drop (i * 2))/\Chg (· = b) w w':=by
 by_cases h:i=n
 ·subst h;refine(yh R g hn d).mono ?_
  rintro e w' ⟨b',c',rfl,hb,a,hC⟩;exact⟨b',c',rfl,hb,a.to (by rw[List.take_of_length_le (by rw[R.len]; omega),List.drop_of_length_le (by rw[R.len]; omega),List.append_nil]),hC⟩
 ·by_cases k:n + 1<=c
  ·refine(sf R g f (by omega) k j d).mono ?_
   rintro e w' ⟨rfl,a,hC⟩;exact⟨b,c,rfl,.inl rfl,a,hC⟩
  ·refine(wU R g (by omega) (by omega) hn j d).mono ?_
   rintro e w' ⟨c',rfl,a,hC⟩;exact⟨_,c',rfl,.inr (Nat.le_refl _),a,Chg.of hC⟩
end
section
variable {w:World} {b n c i vb:Nat} {xs:List Value} {e1:Value}
theorem Ab (R:Rw w 199 1 b n c xs) (f:Blk w vb [e1] 199) (hn:n<=1000000000) (g:∀ v∈[e1],v.oneCell'=true) :
  Calls Tryz.prog 227 #[.slice (some ⟨b,0,none⟩) n c,.int .i64 n,.slice (some ⟨vb,0,none⟩) 1 1] w fun e w'=>∃ b' c',e=.returned (.slice (some ⟨b',0,none⟩) (n + 1) c')/\(b'=b\/w.heap.size<=b')/\Rw w' 199 1 b' (n + 1) c' (xs ++ [e1])/\Chg (· = b) w w':=by
 obtain⟨b',c',W,p,m,l,hC⟩:=dz KP 142 R ⟨vb,0,none⟩ 1 1 [e1] rfl (fun j u o=>by rw[Addr.add_lit,Nat.zero_add]; exact f.cell o) g (by omega) (by omega);have d:=R.le;simp only[maxLen] at d;have ac:=d.1;have i:=d.2;clear d R f g;go_enter Tryz.func227,Tryz.ntmps227;go_wp2_with (at_builtin; refine Lib.wpList_append_run _ rfl _ _ _ _ rfl _ _ rfl rfl _ _ p ?_)
 all_goals (
  go_ret
  exact⟨b',c',rfl,m.imp id (fun e=>by omega),l,hC⟩)
theorem sG (R : Rw w 199 1 b n c xs) (d : Blk w vb [e1] 199) (g : vb ≠ b) (hi : i < n) (ad : n + 1 ≤ c) (A : ∀ v ∈ xs, v.oneCell' = true) (C : ∀ v ∈ [e1], v.oneCell' = true) :
    Calls Tryz.prog 227 #[.slice (some ⟨b, 0, none⟩) n c, .int .i64 i, .slice (some ⟨vb, 0, none⟩) 1 1] w fun e w' => e = .returned (.slice (some ⟨b, 0, none⟩) (n + 1) c) ∧ Rw w' 199 1 b (n + 1) c (xs.take (i * 1) ++ [e1] ++ xs.drop (i * 1)) ∧ Chg (· = b) w w' := by
  have hx := R.len;have l := R.le;simp only[maxLen] at l;have y := l.1;have D := l.2
  have ae : ∃ cs, Blk w b cs 199 ∧ cs.length = c * 1 := by
    obtain⟨sp, h, _, S, _⟩:= R.ex;exact⟨_, h, S⟩
  have u : ∀ (p q : Nat), (callFunc 248 #[.slice (some ⟨vb, 0, none⟩) 1 1, .slice (some ⟨b, i + 1, none⟩) p q]).run Tryz.prog w = .ok (.value (.bool false)) w := fun p q => by
    obtain⟨cs, h, I⟩:= ae
    rw[run_callFunc_extern Tryz.func248 (by kernel_rfl) (by kernel_rfl) (by kernel_rfl) (e := Extern.SlicesOverlaps.overlaps #[142, 142] #[4]) (by kernel_rfl),
      Lib.run_overlaps_apart w 142 4 199 KP.und 1 KP.sizeOf ⟨vb, 0, none⟩ ⟨b, i + 1, none⟩ 1 1 p q g 199 199 1 (c * 1) (by simp[World.shape?, d.blk]) (by simp[World.shape?, h.blk]; simpa using I) (by omega) (d.free _) (d.free _)]
    rfl
  have ac : (xs.drop (i * 1)).length = (n - i) * 1 := by rw[List.length_drop, hx]; omega
  obtain⟨s, hs, t⟩:= R.drew.more (m := 1) ad;obtain⟨F, K, x, r⟩:= eJ (w := w.drew) KP 3 t (i + 1) (n - i) (c - (i + 1)) ⟨b, i, none⟩ (n + 1 - i) (c - i) (xs.drop (i * 1)) (n - i) (by simp only[Nat.min_def]; split <;> omega) ac
    (fun j v o => by
      rw[List.getElem?_drop] at o;rw[Addr.add_lit]
      exact R.cell (w := w) (by simpa using o)) (by rw[ac, t.len]; omega) (fun v hv => A v (List.mem_of_mem_drop hv))
  have f : Blk F vb [e1] 199 := d.drew.chg r g;obtain⟨N, H, B, z⟩:= eJ (w := F) KP 3 x (i) (n + 1 - i) (c - i) ⟨vb, 0, none⟩ 1 1 [e1] 1 (by simp only[Nat.min_def]; split <;> omega) rfl
    (fun j v o => by rw[Addr.add_lit, Nat.zero_add]; exact f.cell o) (by rw[x.len]; simp; omega) C
  have E : splice (splice (xs ++ s) (i + 1) (xs.drop (i * 1))) (i) [e1] = xs.take (i * 1) ++ [e1] ++ xs.drop (i * 1) := by
    have h := qY xs s [e1] (i * 1) (by omega) (by simp[hs])
    have q0 : s.drop ([e1] : List Value).length = [] := List.drop_of_length_le (by simp[hs]);rw[q0, List.append_nil] at h;simpa[Nat.add_mul] using h
  have Q := B.to E
  have O : Chg (· = b) w N := ((Chg.refl _ w).drew.trans r (fun _ _ h => h)).trans z (fun _ _ h => h)
  have J : ¬ ((i : Int) = (n : Int)) := by omega
  have V : IntKind.i64.wrap ((i : Int) + 1) = (i : Int) + 1 := by rw[IntKind.wrap_i64]; omega
  have P : (0 : Int) ≤ (i : Int) + 1 := by omega
  have T : i ≤ n := by omega
  have M : ((i : Int) + 1).toNat = i + 1 := by omega
  have G : ¬ (c = i + 1) := by omega
  have L : (i : Int) ≤ (n : Int) + 1 := by omega
  have U : ¬ (c = i) := by omega
  clear l R ae t x B r z E d f hs ac A C;have mixed := mixed;go_enter Tryz.func227, Tryz.ntmps227;go_wp2_with (simp only[u]);go_region;go_wp2;go_ret;exact⟨rfl, Q, O⟩
theorem wA (R : Rw w 199 1 b n c xs) (t : Blk w vb [e1] 199) (hi : i < n) (z : c < n + 1) (hn : n ≤ 1000000000) (H : ∀ v ∈ xs, v.oneCell' = true) (K : ∀ v ∈ [e1], v.oneCell' = true) :
    Calls Tryz.prog 227 #[.slice (some ⟨b, 0, none⟩) n c, .int .i64 i, .slice (some ⟨vb, 0, none⟩) 1 1] w fun e w' => ∃ c', e = .returned (.slice (some ⟨w.heap.size, 0, none⟩) (n + 1) c') ∧ Rw w' 199 1 w.heap.size (n + 1) c' (xs.take (i * 1) ++ [e1] ++ xs.drop (i * 1)) ∧ Below w.heap.size w w' := by
  have hx := R.len;have q := R.le;simp only[maxLen] at q;have D := q.1;have L := q.2;have C := R.lt;have B := t.lt;obtain⟨c', y, g, l, f⟩:= oA KP 3 142 jR (R.front (m := i) (by omega)) (n + 1 - i) (by omega) (by omega) (by omega) (by omega);rw[show ((n + 1 - i : Nat) : Int) = (n : Int) + 1 - (i : Int) by omega, show i + (n + 1 - i) = n + 1 by omega] at g;rw[show i + (n + 1 - i) = n + 1 by omega] at l;have s := l.le;simp only[maxLen] at s;have G := s.1;have J := s.2
  have o : Blk y vb [e1] 199 := t.keep f;obtain⟨d, S, u, p⟩:= eJ (w := y) KP 3 l (i) (n + 1 - i) (c' - i) ⟨vb, 0, none⟩ 1 1 [e1] 1 (by simp only[Nat.min_def]; split <;> omega) rfl
    (fun j v r => by rw[Addr.add_lit, Nat.zero_add]; exact o.cell r) (by rw[l.len]; simp; omega) K
  have ac : (xs.drop (i * 1)).length = (n - i) * 1 := by rw[List.length_drop, hx]; omega
  have N : Rw d.drew 199 1 b n c xs := ((R.keep f).chg p (by show ¬ b = w.heap.size; omega)).drew;obtain⟨F, Y, M, I⟩:= eJ (w := d.drew) KP 3 u.drew (i + 1) (n - i) (c' - (i + 1)) ⟨b, i, none⟩ (n - i) (c - i) (xs.drop (i * 1)) (n - i) (by simp) ac
    (fun j v r => by
      rw[List.getElem?_drop] at r;rw[Addr.add_lit]
      exact N.cell (by simpa using r)) (by rw[ac, u.len]; omega) (fun v hv => H v (List.mem_of_mem_drop hv))
  have E : splice (splice (xs.take (i * 1) ++ (Builtin.zeroCells (.slice none 0 0 : Value).cells (n + 1 - i)).toList) (i) [e1]) (i + 1) (xs.drop (i * 1)) = xs.take (i * 1) ++ [e1] ++ xs.drop (i * 1) := by
    have hA : (xs.take (i * 1)).length = i := by rw[List.length_take, hx]; omega
    generalize hZ : (Builtin.zeroCells (.slice none 0 0 : Value).cells (n + 1 - i)).toList = Z
    have A : Z.length = (n + 1 - i) * 1 := by rw[← hZ, Array.length_toList, size_zeroCells]; rfl
    have q1 : xs.take (i * 1) ++ Z = xs.take (i * 1) ++ Z.take 1 ++ Z.drop 1 := by rw[List.append_assoc, List.take_append_drop]
    rw[q1, fm _ (Z.take 1) [e1] _ _ hA (by rw[List.length_take]; simp; omega)];have q2 := fm (xs.take (i * 1) ++ [e1]) (Z.drop 1) (xs.drop (i * 1)) [] (i + 1) (by rw[List.length_append, hA]; simp <;> omega) (by rw[List.length_drop, A, ac]; omega);simpa using q2
  have U := M.to E
  have x : Below w.heap.size w F := by
    have k2 : Below w.heap.size y d := p.below (fun b hb => by omega) (f.size)
    have k3 : Below w.heap.size d.drew F := I.below (fun b hb => by omega) (by have := f.size; have := p.size; show w.heap.size ≤ d.heap.size; omega);exact(f.trans k2).trans ((⟨rfl, rfl, rfl, Nat.le_refl _, fun _ _ => rfl⟩ : Below w.heap.size d d.drew).trans k3)
  have T : ¬ ((i : Int) = (n : Int)) := by omega
  have aa : IntKind.i64.wrap ((i : Int) + 1) = (i : Int) + 1 := by rw[IntKind.wrap_i64]; omega
  have X : (0 : Int) ≤ (i : Int) + 1 := by omega
  have hin : i ≤ n := by omega
  have W : ((i : Int) + 1).toNat = i + 1 := by omega
  have P : ¬ (c' = i + 1) := by omega
  have O : i + 1 ≤ n + 1 := by omega
  have V : (i : Int) ≤ (n : Int) + 1 := by omega
  have hb4 : ¬ (c' = i) := by omega
  have Q : ¬ (c = i) := by omega
  clear q s R l u M N p I f E t o ac H K;have mixed := mixed;go_enter Tryz.func227, Tryz.ntmps227;go_wp2_with (at_builtin; refine Lib.wpList_append_run _ rfl _ _ _ _ rfl _ _ rfl rfl _ _ g ?_);go_region;go_wp2;go_ret;exact⟨c', rfl, U, x⟩
theorem insP (R:Rw w 199 1 b n c xs) (g:Blk w vb [e1] 199) (f:vb≠b) (hi:i<=n) (hn:n<=1000000000) (j:∀ v∈xs,v.oneCell'=true) (d:∀ v∈[e1],v.oneCell'=true) :
  Calls Tryz.prog 227 #[.slice (some ⟨b,0,none⟩) n c,.int .i64 i,.slice (some ⟨vb,0,none⟩) 1 1] w fun e w'=>∃ b' c',e=.returned (.slice (some ⟨b',0,none⟩) (n + 1) c')/\(b'=b\/w.heap.size<=b')/\Rw w' 199 1 b' (n + 1) c' (xs.take (i * 1) ++ [e1] ++ xs.drop (i * 1))/\Chg (· = b) w w':=by
 by_cases h:i=n
 ·subst h;refine(Ab R g hn d).mono ?_
  rintro e w' ⟨b',c',rfl,hb,a,hC⟩;exact⟨b',c',rfl,hb,a.to (by rw[List.take_of_length_le (by rw[R.len]; omega),List.drop_of_length_le (by rw[R.len]; omega),List.append_nil]),hC⟩
 ·by_cases k:n + 1<=c
  ·refine(sG R g f (by omega) k j d).mono ?_
   rintro e w' ⟨rfl,a,hC⟩;exact⟨b,c,rfl,.inl rfl,a,hC⟩
  ·refine(wA R g (by omega) (by omega) hn j d).mono ?_
   rintro e w' ⟨c',rfl,a,hC⟩;exact⟨_,c',rfl,.inr (Nat.le_refl _),a,Chg.of hC⟩
end
end Pg
end
section
namespace Pg
open Go.RowKit Go.Lib
section
variable {w:World} {b n c i:Nat} {xs:List Value}
theorem As (R : Rw w 196 2 b n c xs) (hi : i < n) (g : c ≠ i + 1) (r : ∀ v ∈ xs, v.oneCell' = true) :
    Calls Tryz.prog 207 #[.slice (some ⟨b, 0, none⟩) n c, .int .i64 i, .int .i64 (i + 1)] w fun e w' => e = .returned (.slice (some ⟨b, 0, none⟩) (n - 1) c) ∧ Rw w' 196 2 b (n - 1) c (xs.take (i * 2) ++ xs.drop ((i + 1) * 2)) ∧ Chg (· = b) w w' := by
  have hx := R.len;have d := R.le;simp only[maxLen] at d;have o := d.1;have x := d.2
  have y : (xs.drop ((i + 1) * 2)).length = (n - (i + 1)) * 2 := by rw[List.length_drop, hx]; omega
  obtain⟨N, ac, f, u⟩:= jC KE 199 (R.drew.front (m := i) (by omega)) ⟨b, (i + 1) * 2, none⟩ (n - (i + 1)) (c - (i + 1)) (xs.drop ((i + 1) * 2)) y
    (fun j v t => by
      rw[List.getElem?_drop] at t;rw[Addr.add_lit]
      exact R.drew.cell (by simpa using t)) (fun v hv => r v (List.mem_of_mem_drop hv)) (by omega)
  rw[show i + (n - (i + 1)) = n - 1 by omega] at f;obtain⟨F, B, s, p⟩:= iz KE 0 f (n - (n - 1)) (c - (n - 1)) (by omega) (by omega)
  have G : Chg (· = b) w F := ((Chg.refl _ w).drew.trans u (fun _ _ h => h)).trans p (fun _ _ h => h);obtain⟨q, I⟩ : ∃ q, n = i + 1 + q := ⟨n - (i + 1), by omega⟩;subst I;rw[show i + 1 + q - (i + 1) = q by omega] at ac;rw[show i + 1 + q - 1 = i + q by omega] at B s ⊢
  have C : ¬ ((i : Int) = (i : Int) + 1) := by omega
  have K : i ≤ i + 1 + q := by omega
  have z : ¬ (c = i + 1) := g
  have H : (0 : Int) ≤ (i : Int) + 1 := by omega
  have A : i ≤ c := by omega
  have E : ((i : Int) + 1).toNat = i + 1 := by omega
  have L : ¬ (c = i + q) := by omega
  have M : (i : Int) + 1 ≤ ((i + 1 + q : Nat) : Int) := by omega
  have D : i + 1 ≤ i + 1 + q := by omega
  have l : (i : Int) + 1 ≤ (i : Int) + 1 + (q : Int) := by omega
  have J : ((i + 1 + q : Nat) : Int) ≤ (c : Int) := by omega
  clear d R f u p y r;have mixed := mixed;go_enter Tryz.func207, Tryz.ntmps207;go_wp2;go_region_law_o (refine jy rfl (.tmp 22) (.tmp 25) 199 199 rfl _ _ (by simp[Act.eval, Act.put]) (by simp[Act.eval, Act.put]) ac ?_);go_wp2;go_ret;exact⟨rfl, s, G⟩
theorem vN (R:Rw w 196 2 b (i + 1) (i + 1) xs) :
  Calls Tryz.prog 207 #[.slice (some ⟨b,0,none⟩) (i + 1) (i + 1),.int .i64 i,.int .i64 (i + 1)] w fun e w'=>e=.returned (.slice (some ⟨b,0,none⟩) i (i + 1))/\Rw w' 196 2 b i (i + 1) (xs.take (i * 2))/\Chg (· = b) w w':=by
 have d:=R.le;simp only[maxLen] at d;have g:=d.2;obtain⟨A,l,c,n⟩:=jC KE 199 (R.drew.front (m:=i) (by omega)) ⟨b,0,none⟩ 0 0 [] (by simp) (fun j v y=>by simp at y) (fun v hv=>by simp at hv) (by omega);rw[Nat.add_zero] at c l;rw[List.append_nil] at c;obtain⟨o,r,x,f⟩:=iz KE 0 c 1 1 (by omega) (by omega)
 have p:Chg (· = b) w o:=((Chg.refl _ w).drew.trans n (fun _ _ h=>h)).trans f (fun _ _ h=>h)
 have t:¬ ((i:Int)=(i:Int) + 1):=by omega
 have u:i<=i + 1:=by omega
 have q:(0:Int)<=(i:Int) + 1:=by omega
 have z:((i:Int) + 1).toNat=i + 1:=by omega
 have e1:i + 1 - i=1:=by omega
 have s:(i:Int)<=(i:Int) + 1:=by omega
 clear d R c n f;have mixed:=mixed;go_enter Tryz.func207,Tryz.ntmps207;go_wp2;go_region_law_o (refine jy rfl (.tmp 22) (.tmp 25) 199 199 rfl _ _ (by simp[Act.eval,Act.put]) (by simp[Act.eval,Act.put]) l ?_);go_wp2;go_ret;exact⟨rfl,x,p⟩
theorem delE (R:Rw w 196 2 b n c xs) (hi:i < n) (a:∀ v∈xs,v.oneCell'=true) :
  Calls Tryz.prog 207 #[.slice (some ⟨b,0,none⟩) n c,.int .i64 i,.int .i64 (i + 1)] w fun e w'=>e=.returned (.slice (some ⟨b,0,none⟩) (n - 1) c)/\Rw w' 196 2 b (n - 1) c (xs.take (i * 2) ++ xs.drop ((i + 1) * 2))/\Chg (· = b) w w':=by
 by_cases h:c=i + 1
 ·have f:=R.le;obtain rfl:n=i + 1:=by omega
  subst h;refine(vN R).mono ?_
  rintro e w' ⟨rfl,d,hC⟩;exact⟨by simp,d.to (by rw[List.drop_of_length_le (by rw[R.len]; omega),List.append_nil]),hC⟩
 ·exact As R hi h a
end
section
variable {w:World} {b n c i:Nat} {xs:List Value}
theorem yO (R : Rw w 199 1 b n c xs) (hi : i < n) (g : c ≠ i + 1) (s : ∀ v ∈ xs, v.oneCell' = true) :
    Calls Tryz.prog 208 #[.slice (some ⟨b, 0, none⟩) n c, .int .i64 i, .int .i64 (i + 1)] w fun e w' => e = .returned (.slice (some ⟨b, 0, none⟩) (n - 1) c) ∧ Rw w' 199 1 b (n - 1) c (xs.take (i * 1) ++ xs.drop ((i + 1) * 1)) ∧ Chg (· = b) w w' := by
  have hx := R.len;have d := R.le;simp only[maxLen] at d;have o := d.1;have y := d.2
  have z : (xs.drop ((i + 1) * 1)).length = (n - (i + 1)) * 1 := by rw[List.length_drop, hx]; omega
  obtain⟨N, p, f, x⟩:= jC KP 142 (R.drew.front (m := i) (by omega)) ⟨b, i + 1, none⟩ (n - (i + 1)) (c - (i + 1)) (xs.drop ((i + 1) * 1)) z
    (fun j v u => by
      rw[List.getElem?_drop] at u;rw[Addr.add_lit]
      exact R.drew.cell (by simpa using u)) (fun v hv => s v (List.mem_of_mem_drop hv)) (by omega)
  rw[show i + (n - (i + 1)) = n - 1 by omega] at f;obtain⟨F, ac, t, r⟩:= iz KP 0 f (n - (n - 1)) (c - (n - 1)) (by omega) (by omega)
  have G : Chg (· = b) w F := ((Chg.refl _ w).drew.trans x (fun _ _ h => h)).trans r (fun _ _ h => h);obtain⟨q, I⟩ : ∃ q, n = i + 1 + q := ⟨n - (i + 1), by omega⟩;subst I;rw[show i + 1 + q - (i + 1) = q by omega] at p;rw[show i + 1 + q - 1 = i + q by omega] at ac t ⊢;simp only[Nat.mul_one] at ac
  have C : ¬ ((i : Int) = (i : Int) + 1) := by omega
  have K : i ≤ i + 1 + q := by omega
  have A : ¬ (c = i + 1) := g
  have H : (0 : Int) ≤ (i : Int) + 1 := by omega
  have B : i ≤ c := by omega
  have E : ((i : Int) + 1).toNat = i + 1 := by omega
  have L : ¬ (c = i + q) := by omega
  have M : (i : Int) + 1 ≤ ((i + 1 + q : Nat) : Int) := by omega
  have D : i + 1 ≤ i + 1 + q := by omega
  have l : (i : Int) + 1 ≤ (i : Int) + 1 + (q : Int) := by omega
  have J : ((i + 1 + q : Nat) : Int) ≤ (c : Int) := by omega
  clear d R f x r z s;have mixed := mixed;go_enter Tryz.func208, Tryz.ntmps208;go_wp2;go_region_law_o (refine jy rfl (.tmp 22) (.tmp 25) 142 142 rfl _ _ (by simp[Act.eval, Act.put]) (by simp[Act.eval, Act.put]) p ?_);go_wp2;go_ret;exact⟨rfl, t, G⟩
theorem vL (R:Rw w 199 1 b (i + 1) (i + 1) xs) :
  Calls Tryz.prog 208 #[.slice (some ⟨b,0,none⟩) (i + 1) (i + 1),.int .i64 i,.int .i64 (i + 1)] w fun e w'=>e=.returned (.slice (some ⟨b,0,none⟩) i (i + 1))/\Rw w' 199 1 b i (i + 1) (xs.take (i * 1))/\Chg (· = b) w w':=by
 have f:=R.le;simp only[maxLen] at f;have l:=f.2;obtain⟨A,n,c,o⟩:=jC KP 142 (R.drew.front (m:=i) (by omega)) ⟨b,0,none⟩ 0 0 [] (by simp) (fun j v y=>by simp at y) (fun v hv=>by simp at hv) (by omega);rw[Nat.add_zero] at c n;rw[List.append_nil] at c;obtain⟨p,d,x,g⟩:=iz KP 0 c 1 1 (by omega) (by omega)
 have q:Chg (· = b) w p:=((Chg.refl _ w).drew.trans o (fun _ _ h=>h)).trans g (fun _ _ h=>h);simp only[Nat.mul_one] at d
 have t:¬ ((i:Int)=(i:Int) + 1):=by omega
 have u:i<=i + 1:=by omega
 have r:(0:Int)<=(i:Int) + 1:=by omega
 have z:((i:Int) + 1).toNat=i + 1:=by omega
 have e1:i + 1 - i=1:=by omega
 have s:(i:Int)<=(i:Int) + 1:=by omega
 clear f R c o g;have mixed:=mixed;go_enter Tryz.func208,Tryz.ntmps208;go_wp2;go_region_law_o (refine jy rfl (.tmp 22) (.tmp 25) 142 142 rfl _ _ (by simp[Act.eval,Act.put]) (by simp[Act.eval,Act.put]) n ?_);go_wp2;go_ret;exact⟨rfl,x,q⟩
theorem delP (R:Rw w 199 1 b n c xs) (hi:i < n) (a:∀ v∈xs,v.oneCell'=true) :
  Calls Tryz.prog 208 #[.slice (some ⟨b,0,none⟩) n c,.int .i64 i,.int .i64 (i + 1)] w fun e w'=>e=.returned (.slice (some ⟨b,0,none⟩) (n - 1) c)/\Rw w' 199 1 b (n - 1) c (xs.take (i * 1) ++ xs.drop ((i + 1) * 1))/\Chg (· = b) w w':=by
 by_cases h:c=i + 1
 ·have f:=R.le;obtain rfl:n=i + 1:=by omega
  subst h;refine(vL R).mono ?_
  rintro e w' ⟨rfl,d,hC⟩;exact⟨by simp,d.to (by rw[List.drop_of_length_le (by rw[R.len]; omega),List.append_nil]),hC⟩
 ·exact yO R hi h a
end
end Pg
end
section
namespace Pg
open Go.RowKit Go.Lib
section
variable {w w':World}{v:Value}{l:List Int}{D D':Nat->Prop}{a:Addr}{n:Nat}{xs:List Value}
def Oct(l:List Int):Prop:=∀ x∈l,0<=x/\x < 256
structure By(w:World)(v:Value)(l:List Int):Prop where
 ex:∃ ao c,v=.slice ao l.length c/\l.length<=c/\c<=9223372036854775807/\(ao=none->c=0)/\Oct l/\(l=[]\/∃ b o,ao=some ⟨b,o,none⟩/\b < w.heap.size/\∀ i x,l[i]? = some x->w.cell? ⟨b,o + i,none⟩=some (.int .u8 x))
theorem By.keep(h:By w v l)(hb:Below w.heap.size w w'):By w' v l:=by
 obtain⟨j,c,f,m,d,g,k,n⟩:=h.ex;refine⟨j,c,f,m,d,g,k,n.imp id ?_⟩;rintro⟨b,o,e,a,hc⟩;exact⟨b,o,e,Nat.lt_of_lt_of_le a hb.size,fun i x hi=>by rw[hb.cell (p:=⟨b,o + i,none⟩) a]; exact hc i x hi⟩
theorem By.drew(h:By w v l):By w.drew v l:=h.keep ⟨rfl,rfl,rfl,Nat.le_refl _,fun _ _=>rfl⟩
theorem By.oct(h:By w v l):Oct l:=by
 obtain⟨ao,c,h1,h2,h3,h4,h5,h6⟩:=h.ex; exact h5
theorem By.nil(w:World):By w (.slice none 0 0) []:=⟨none,0,rfl,by decide,by decide,fun _=>rfl,fun _ h=>by simp at h,.inl rfl⟩
structure OB(w:World)(D:Nat->Prop)(v:Value)(l:List Int):Prop where
 oct:Oct l
 ex:(v=.slice none 0 0/\l=[])\/∃ b c,v=.slice (some ⟨b,0,none⟩) l.length c/\D b/\Rw w 5 1 b l.length c (l.map (Value.int .u8))
theorem OB.by(h:OB w D v l):By w v l:=by
 rcases h.ex with⟨rfl,rfl⟩ | ⟨b,c,rfl,hd,hR⟩
 ·exact By.nil w
 ·have a:=hR.le;simp only[maxLen] at a;exact⟨_,c,rfl,by omega,by omega,(fun e=>by cases e),h.oct,.inr ⟨b,0,rfl,hR.lt,fun i x hi=>by rw[Nat.zero_add]; exact hR.cell (by simp[hi])⟩⟩
theorem OB.mono(h:OB w D v l)(hD:∀ b,b < w.heap.size->D b->D' b):OB w D' v l:=by
 refine⟨h.oct,h.ex.imp id ?_⟩;rintro⟨b,c,e,hd,hR⟩;exact⟨b,c,e,hD b hR.lt hd,hR⟩
theorem OB.same(h:OB w D v l)(hD:∀ b,b < w.heap.size->D b->w'.heap[b]? = w.heap[b]?):OB w' D v l:=by
 refine⟨h.oct,h.ex.imp id ?_⟩;rintro⟨b,c,e,hd,hR⟩;exact⟨b,c,e,hd,hR.same (hD b hR.lt hd)⟩
theorem OB.keep(h:OB w D v l)(hb:Below w.heap.size w w'):OB w' D v l:=h.same fun b hb' _=>hb.block b hb'
theorem OB.one(h:OB w D v l):v.oneCell'=true:=by
 rcases h.ex with⟨rfl,rfl⟩ | ⟨b,c,rfl,hd,hR⟩<;>rfl
def cY:List Int->List Int->Int
 | [],[]=>0
 | [],_ :: _ => -1
 | _ :: _,[]=>1
 | x :: a,y :: b=>if x < y then -1 else if y < x then 1 else cY a b
theorem DM{x y:Int}(hx:0<=x/\x < 256)(hy:0<=y/\y < 256):(UInt8.ofNat x.toNat < UInt8.ofNat y.toNat)<->x < y:=by
 rw[UInt8.lt_iff_toNat_lt,UInt8.toNat_ofNat_of_lt' (by show x.toNat < 256; omega),UInt8.toNat_ofNat_of_lt' (by show y.toNat < 256; omega)];omega
theorem jx:∀ (l l':List Int),Oct l->Oct l'->compareBytes (bytesOf l) (bytesOf l')=cY l l'
 | [],[],_,_=>rfl
 | [],_ :: _,_,_=>rfl
 | _ :: _,[],_,_=>rfl
 | x :: a,y :: b,h,h'=>by
  have ih:=jx a b (fun z c=>h z (List.mem_cons_of_mem _ c)) (fun z c=>h' z (List.mem_cons_of_mem _ c));have hx:=h x List.mem_cons_self;have hy:=h' y List.mem_cons_self
  show (if UInt8.ofNat x.toNat < UInt8.ofNat y.toNat then _ else if UInt8.ofNat y.toNat < UInt8.ofNat x.toNat then _ else compareBytes (bytesOf a) (bytesOf b))=_
  rw[cY];simp only[DM hx hy,DM hy hx,ih]
theorem kL{P:Program}(h:By w v l):(Extern.Bytes.bytesOf v).run P w=.ok ⟨(bytesOf l).toArray⟩ w:=by
 obtain⟨d,c,rfl,m,n,i,p,f⟩:=h.ex
 cases d with
 | none =>
  have:l=[]:=List.eq_nil_of_length_eq_zero (by have:=i rfl; omega);subst this;rfl
 | some a =>
  rcases f with rfl | ⟨b,o,e,k,hc⟩
  ·rfl
  ·cases e;have:=run_loadBytesX (P:=P) w l ⟨b,o,none⟩ .empty (fun j x g=>by rw[Addr.add_lit]; exact hc j x g)
   show (Extern.Bytes.loadBytes ⟨b,o,none⟩ l.length .empty).run P w=_
   rw[this];congr 1
   apply ByteArray.ext;simp
theorem kM{c:Value}{b:List Int}(h:By w v l)(d:By w c b) :
  Calls Tryz.prog 211 #[v,c] w fun e w'=>e=.returned (.int .i64 (cY l b))/\w'=w:=by
 have f:(callFunc 241 #[v,c]).run Tryz.prog w=.ok (.value (.int .i64 (cY l b))) w:=by
  rw[run_callFunc_extern Tryz.func241 (by kernel_rfl) (by kernel_rfl) (by kernel_rfl) (e:=Extern.BytealgCompare.compare) (by kernel_rfl)];have:(Extern.BytealgCompare.compare #[v,c]).run Tryz.prog w=.ok (.int .i64 (cY l b)) w:=by
   change Sem.run Tryz.prog (do pure (goInt (Extern.BytealgCompare.cmp (<- Extern.Bytes.bytesOf v) (<- Extern.Bytes.bytesOf c)))) w=_
   simp only[Sem.run_bind,kL h,kL d,Sem.run_pure,Result.andThen];rw[cmp_eq,jx l b h.oct d.oct];rfl
  rw[this]; rfl
 clear h d;generalize cY l b=x at *;go_enter Tryz.func211,Tryz.ntmps211;go_wp2_with (simp only[f]);go_ret;exact⟨rfl,rfl⟩
theorem KB:Kd Tryz.prog 96 5 1 1 (.int .u8 0):=⟨by kernel_rfl,by kernel_rfl,rfl,by simp[Value.cells,Value.oneCell'],by decide⟩
theorem mM(h:w.cell? a=some v)(o:Obj):(w.alloc o).cell? a=some v:=by
 have b:a.block < w.heap.size:=by
  unfold World.cell? at h
  cases hh:w.heap[a.block]? with
  | none=>simp[hh] at h
  | some ob=>exact lt_of_block hh
 rw[(ae w o).cell b]; exact h
theorem map_u8(l:List Int):∀ v∈l.map (Value.int .u8),v.oneCell'=true:=by
 intro v hv;obtain⟨x,_,rfl⟩:=List.mem_map.1 hv;rfl
theorem cC(h:By w v l)(m:l.length<=1000000000) :
  Calls Tryz.prog 78 #[v] w fun e w'=>∃ v',e=.returned v'/\OB w' (w.heap.size <= ·) v' l/\Below w.heap.size w w':=by
 have t:=h.oct;obtain⟨D,c,rfl,H,G,E,z,y⟩:=h.ex
 cases D with
 | none =>
  have B:l=[]:=List.eq_nil_of_length_eq_zero (by have:=E rfl; omega);subst B;have C:=fun(w:World) (a:Option Addr) (n c:Nat)=>Go.Lib.run_eql_slice_nil (P:=Tryz.prog) w 96 _ a n c 0 0 KB.und
  go_enter Tryz.func78,Tryz.ntmps78;go_wp2;go_ret;exact⟨_,rfl,⟨t,.inl ⟨rfl,rfl⟩⟩,Below.refl _ _⟩
 | some a =>
  have q:Rw (w.alloc (.cells #[] 5)) 5 1 w.heap.size 0 0 []:=yn (aC w [] _) rfl (by decide)
  have ac:∀ j u,(l.map (Value.int .u8))[j]? = some u->(w.alloc (.cells #[] 5)).cell? (a.add j)=some u:=fun j u g=>by
   rcases y with rfl | ⟨b,o,e,A,hc⟩
   ·simp at g
   ·cases e;rw[List.getElem?_map] at g;obtain⟨x,hx,rfl⟩:=Option.map_eq_some_iff.1 g;exact mM (by rw[Addr.add_lit]; exact hc j x hx) _
  obtain⟨f,r,W,s,p,i,hC⟩:=dz KB 96 q a l.length c (l.map (Value.int .u8)) (by simp) ac (map_u8 l) (by omega) (by omega);rw[Nat.zero_add] at s i
  have F:Below w.heap.size w W:=(ae w (.cells #[] 5)).trans (hC.below (fun b hb=>by omega) (ae w _).size)
  have d:w.heap.size<=f:=by rcases p with e | e; omega; rw[World.size_alloc] at e; omega
  have hF:OB W (w.heap.size <= ·) (.slice (some ⟨f,0,none⟩) l.length r) l:=⟨t,.inr ⟨f,r,rfl,d,i.to (by simp)⟩⟩
  clear q ac y h i hC z p;have C:=fun(w:World) (a:Option Addr) (n c:Nat)=>Go.Lib.run_eql_slice_nil (P:=Tryz.prog) w 96 _ a n c 0 0 KB.und
  go_enter Tryz.func78,Tryz.ntmps78;go_wp2_with (at_builtin; refine Lib.wpList_append_run _ rfl _ _ _ _ rfl _ _ rfl rfl _ _ s ?_);go_ret;exact⟨_,rfl,hF,F⟩
theorem Ak{c:Nat}(hn:n<=1000000000)(hx:xs.length=n * 2)(hc:∀ j v,xs[j]? = some v->w.cell? (a.add j)=some v)(m:∀ v∈xs,v.oneCell'=true) :
  Calls Tryz.prog 226 #[.slice (some a) n c] w fun e w'=>∃ b' c',e=.returned (.slice (some ⟨b',0,none⟩) n c')/\w.heap.size<=b'/\Rw w' 196 2 b' n c' xs/\Below w.heap.size w w':=by
 have l:Rw (w.alloc (.cells #[] 196)) 196 2 w.heap.size 0 0 []:=yn (aC w [] _) rfl (by decide);obtain⟨b',c',W,o,i,f,hC⟩:=dz KE 199 l a n c xs hx (fun j v q=>mM (hc j v q) _) m (by omega) (by omega);rw[Nat.zero_add] at o f;rw[List.nil_append] at f
 have p:Below w.heap.size w W:=(ae w (.cells #[] 196)).trans (hC.below (fun b hb=>by omega) (ae w _).size)
 have d:w.heap.size<=b':=by rcases i with e | e; omega; rw[World.size_alloc] at e; omega
 clear l hc m hC i;have g:=fun(w:World) (a:Option Addr) (n c:Nat)=>Go.Lib.run_eql_slice_nil (P:=Tryz.prog) w 199 _ a n c 0 0 KE.und
 go_enter Tryz.func226,Tryz.ntmps226;go_wp2_with (at_builtin; refine Lib.wpList_append_run _ rfl _ _ _ _ rfl _ _ rfl rfl _ _ o ?_);go_ret;exact⟨b',c',rfl,d,f,p⟩
theorem growE(f:0 < n)(hn:n<=1000000000) :
  Calls Tryz.prog 254 #[.slice none 0 0,.int .i64 n] w fun e w'=>∃ b' c',e=.returned (.slice (some ⟨b',0,none⟩) 0 c')/\w.heap.size<=b'/\Rw w' 196 2 b' 0 c' []/\Below w.heap.size w w':=by
 obtain⟨c',W,j,b,g⟩:=nu (w:=w) KE 3 199 jR n f (by omega) (by omega)
 have i:Rw W 196 2 w.heap.size 0 c' []:=(b.front (m:=0) (by omega)).to (by simp)
 have d:¬ ((n:Int) < 0):=by omega
 have c:(0:Int) < n:=by omega
 clear b;go_enter Tryz.func254,Tryz.ntmps254;go_wp2_with (at_builtin; refine Lib.wpList_append_run _ rfl _ _ _ _ rfl _ _ rfl rfl _ _ j ?_);go_ret;exact⟨_,c',rfl,Nat.le_refl _,i,g⟩
end
end Pg
end
section
namespace Pg
open Go.RowKit Go.Lib
theorem Dn {w:World} {vb b1 n1 c1 b2 n2 c2:Nat} {xs ys:List Value} (p:Blk w vb [.slice (some ⟨b1,0,none⟩) n1 c1,.slice (some ⟨b2,0,none⟩) n2 c2] 199)
  (E:Rw w 196 2 b1 n1 c1 xs) (D:Rw w 196 2 b2 n2 c2 ys) (K:0 < n1 + n2) (I:n1<=1000000) (F:n2<=1000000) (H:∀ v∈xs,v.oneCell'=true) (J:∀ v∈ys,v.oneCell'=true) :
  Calls Tryz.prog 240 #[.slice (some ⟨vb,0,none⟩) 2 2] w fun e w'=>∃ b' c',e=.returned (.slice (some ⟨b',0,none⟩) (n1 + n2) c')/\w.heap.size<=b'/\Rw w' 196 2 b' (n1 + n2) c' (xs ++ ys)/\Below w.heap.size w w':=by
 have B:=growE (w:=w) (n:=n1 + n2) K (by omega);rw[show ((n1 + n2:Nat):Int)=(n1:Int) + (n2:Int) by omega] at B;have q0:=p.cell (i:=0) rfl;have q1:=p.cell (i:=1) rfl;go_enter Tryz.func240,Tryz.ntmps240;go_wp2;go_loopw [3,11] (fun ts f wr=>wr=w/\((f=.int .i64 0/\ts=.int .i64 0)\/(f=.int .i64 1/\ts=.int .i64 n1)\/(f=.int .i64 2/\ts=.int .i64 (n1 + n2)))) (fun _ f _=>2 - (intOf f).toNat)
 case atStart=>exact⟨rfl,.inl ⟨rfl,rfl⟩⟩
 case round =>
  obtain⟨rfl,⟨rfl,rfl⟩ | ⟨rfl,rfl⟩ | ⟨rfl,rfl⟩⟩:=hrel
  ·have G:¬ ((n1:Int) < 0):=by omega
   go_wp2;go_roundw
   case rel=>exact⟨trivial,.inr (.inl ⟨rfl,rfl⟩)⟩
   case measure=>simp[intOf]
  ·have G:¬ ((n1:Int) + (n2:Int) < 0):=by omega
   go_wp2;go_roundw
   case rel=>exact⟨trivial,.inr (.inr ⟨rfl,rfl⟩)⟩
   case measure=>simp[intOf]
  ·rename World=>W0
   go_wp2_with (go_at_call 254; refine B.mono ?_; rintro e L ⟨b,c,rfl,hb,g,y⟩);clear B
   have z:=(p.keep y).cell (i:=0) rfl
   have C:=(p.keep y).cell (i:=1) rfl;have q:=y;clear y q0 q1;go_loopw [6,27] (fun ts f t=>Below W0.heap.size W0 t/\∃ b c,W0.heap.size<=b/\((f=.int .i64 0/\ts=.slice (some ⟨b,0,none⟩) 0 c/\Rw t 196 2 b 0 c [])\/(f=.int .i64 1/\ts=.slice (some ⟨b,0,none⟩) n1 c/\Rw t 196 2 b n1 c xs)\/(f=.int .i64 2/\ts=.slice (some ⟨b,0,none⟩) (n1 + n2) c/\Rw t 196 2 b (n1 + n2) c (xs ++ ys)))) (fun _ f _=>2 - (intOf f).toNat)
   case atStart=>exact⟨q,b,c,hb,.inl ⟨rfl,rfl,g⟩⟩
   case round =>
    clear g q hb z C;obtain⟨d,b,c,hb,⟨rfl,rfl,g⟩ | ⟨rfl,rfl,g⟩ | ⟨rfl,rfl,g⟩⟩:=hrel
    ·have q0:=(p.keep d).cell (i:=0) rfl;have S:=E.keep d;obtain⟨b',c',W,s,r,l,hC⟩:=dz KE 199 g ⟨b1,0,none⟩ n1 c1 xs E.len (fun j u A=>by rw[Addr.add_lit,Nat.zero_add]; exact S.cell A) H (by omega) (by omega);rw[Nat.zero_add] at s l
     have o:Below W0.heap.size W0 W:=d.trans (hC.below (fun x hx=>by omega) d.size)
     have m:W0.heap.size<=b':=by
      have:=d.size;rcases r with e | e<;>omega
     clear hC r g S;go_wp2_with (at_builtin; refine Lib.wpList_append_run _ rfl _ _ _ _ rfl _ _ rfl rfl _ _ s ?_);go_roundw
     case rel=>exact⟨o,b',c',m,.inr (.inl ⟨rfl,rfl,l⟩)⟩
     case measure=>simp[intOf]
    ·have q1:=(p.keep d).cell (i:=1) rfl;have S:=D.keep d;obtain⟨b',c',W,s,r,l,hC⟩:=dz KE 199 g ⟨b2,0,none⟩ n2 c2 ys D.len (fun j u A=>by rw[Addr.add_lit,Nat.zero_add]; exact S.cell A) J (by omega) (by omega)
     have o:Below W0.heap.size W0 W:=d.trans (hC.below (fun x hx=>by omega) d.size)
     have m:W0.heap.size<=b':=by
      have:=d.size;rcases r with e | e<;>omega
     clear hC r g S;go_wp2_with (at_builtin; refine Lib.wpList_append_run _ rfl _ _ _ _ rfl _ _ rfl rfl _ _ s ?_);go_roundw
     case rel=>exact⟨o,b',c',m,.inr (.inr ⟨rfl,rfl,l⟩)⟩
     case measure=>simp[intOf]
    ·go_wp2;go_ret;exact⟨b,c,rfl,hb,g,d⟩
end Pg
end
section
namespace Pg
section
variable {a b k:List Int}{l:List (List Int)}
theorem iZ:∀ (a b:List Int),cY a b = -1\/cY a b=0\/cY a b=1
 | [],[]=>.inr (.inl rfl)
 | [],_ :: _=>.inl rfl
 | _ :: _,[]=>.inr (.inr rfl)
 | x :: a,y :: b=>by
  rw[cY];split
  ·exact .inl rfl
  ·split
   ·exact .inr (.inr rfl)
   ·exact iZ a b
theorem iv:∀ (a:List Int),cY a a=0
 | []=>rfl
 | x :: a=>by rw[cY,if_neg (by omega),if_neg (by omega)]; exact iv a
theorem oZ:∀ {a b:List Int},cY a b=0->a=b
 | [],[],_=>rfl
 | [],_ :: _,h=>by simp[cY] at h
 | _ :: _,[],h=>by simp[cY] at h
 | x :: a,y :: b,h=>by
  rw[cY] at h;split at h
  ·omega
  ·split at h
   ·omega
   ·rw[oZ h,show x=y by omega]
theorem jV:∀ (a b:List Int),cY b a = - cY a b
 | [],[]=>rfl
 | [],_ :: _=>rfl
 | _ :: _,[]=>rfl
 | x :: a,y :: b=>by
  rw[cY,cY];by_cases h1:x < y
  ·rw[if_neg (by omega),if_pos h1,if_pos h1]; rfl
  ·by_cases h2:y < x
   ·rw[if_pos h2,if_neg h1,if_pos h2]
   ·rw[if_neg h2,if_neg h1,if_neg h1,if_neg h2]; exact jV a b
def Lt(a b:List Int):Prop:=cY a b = -1
instance (a b:List Int):Decidable (Lt a b):=inferInstanceAs (Decidable (_=_))
theorem Lt.trans:∀ {a b c:List Int},Lt a b->Lt b c->Lt a c
 | [],[],_,h,_=>by simp[Lt,cY] at h
 | [],_ :: _,[],_,h=>by simp[Lt,cY] at h
 | [],_ :: _,_ :: _,_,_=>rfl
 | _ :: _,[],_,h,_=>by simp[Lt,cY] at h
 | _ :: _,_ :: _,[],_,h=>by simp[Lt,cY] at h
 | x :: a,y :: b,z :: c,h,h'=>by
  simp only[Lt] at h h' ⊢;rw[cY] at h h' ⊢;by_cases h1:x < z
  ·rw[if_pos h1]
  ·rw[if_neg h1];split at h
   ·split at h'
    ·omega
    ·split at h'
     ·omega
     ·omega
   ·split at h
    ·omega
    ·split at h'
     ·omega
     ·split at h'
      ·omega
      ·rw[if_neg (by omega)]; exact Lt.trans (a:=a) (b:=b) (c:=c) h h'
theorem lt_irrefl(a:List Int):¬ Lt a a:=by simp[Lt,iv]
theorem Lt.not(h:Lt a b):¬ Lt b a:=fun h'=>lt_irrefl a (h.trans h')
theorem pK(a b:List Int):Lt a b\/a=b\/Lt b a:=by
 rcases iZ a b with h | h | h
 ·exact .inl h
 ·exact .inr (.inl (oZ h))
 ·exact .inr (.inr (by simp only[Lt]; rw[jV,h]))
theorem pW(h:Lt a b):cY a b = -1:=h
theorem Ds(h:Lt b a):cY a b=1:=by rw[jV,pW h]; rfl
theorem not_lt:¬ Lt a b<->a=b\/Lt b a:=by
 constructor
 ·intro h;rcases pK a b with k | k | k
  ·exact absurd k h
  ·exact .inl k
  ·exact .inr k
 ·rintro(h | h)
  ·subst h; exact lt_irrefl a
  ·exact h.not
theorem Lt.of_le{c:List Int}(h:Lt a b)(h':¬ Lt c b):Lt a c:=by
 rcases not_lt.1 h' with k | k
 ·subst k; exact h
 ·exact h.trans k
def plc:List (List Int)->List Int->Nat
 | [],_=>0
 | x :: l,k=>if Lt x k then plc l k + 1 else 0
theorem pR:∀ (l:List (List Int)) (k:List Int),plc l k<=l.length
 | [],_=>Nat.le_refl _
 | x :: l,k=>by
  rw[plc];split
  ·have:=pR l k; simp; omega
  ·simp
theorem tK:∀ {l:List (List Int)} {k:List Int} {i:Nat},i<=l.length->(∀ j x,j < i->l[j]? = some x->Lt x k)->(∀ x,l[i]? = some x->¬ Lt x k)->plc l k=i
 | [],_,i,h,_,_=>by simp at h; subst h; rfl
 | x :: l,k,0,_,_,h3=>by rw[plc,if_neg (h3 x rfl)]
 | x :: l,k,i + 1,h1,h2,h3=>by
  rw[plc,if_pos (h2 0 x (by omega) rfl),tK (l:=l) (i:=i) (by simpa using h1) (fun j y hj hy=>h2 (j + 1) y (by omega) (by simpa using hy)) (fun y hy=>h3 y (by simpa using hy))]
theorem xN:∀ {l:List (List Int)} {k:List Int} {j:Nat} {x:List Int},j < plc l k->l[j]? = some x->Lt x k
 | [],_,_,_,h,_=>by simp[plc] at h
 | y :: l,k,j,x,h,hx=>by
  rw[plc] at h;split at h
  ·cases j with
   | zero=>simp at hx; subst hx; assumption
   | succ j=>exact xN (l:=l) (j:=j) (by omega) (by simpa using hx)
  ·omega
theorem xE:∀ {l:List (List Int)} {k:List Int} {x:List Int},l[plc l k]? = some x->¬ Lt x k
 | [],_,_,h=>by simp at h
 | y :: l,k,x,h=>by
  rw[plc] at h;split at h
  ·exact xE (l:=l) (by simpa using h)
  ·simp at h; subst h; assumption
def Srt(l:List (List Int)):Prop:=l.Pairwise Lt
theorem Srt.get(h:Srt l){i j:Nat}{x y:List Int}(a:i < j)(hi:l[i]? = some x)(b:l[j]? = some y):Lt x y:=by
 obtain⟨c,rfl⟩:=List.getElem?_eq_some_iff.1 hi;obtain⟨d,rfl⟩:=List.getElem?_eq_some_iff.1 b;exact List.pairwise_iff_getElem.1 h i j c d a
def thr(l:List (List Int))(k:List Int):Bool:=decide (l[plc l k]? = some k)
theorem Da(h:Srt l):thr l k=true<->k∈l:=by
 simp only[thr,decide_eq_true_eq];constructor
 ·intro e; exact List.mem_of_getElem? e
 ·intro e;obtain⟨j,a⟩:=List.getElem?_of_mem e;have:plc l k=j:=tK (by have:=(List.getElem?_eq_some_iff.1 a).1; omega) (fun i x hi hx=>h.get hi hx a) (fun x hx=>by rw[a] at hx; cases hx; exact lt_irrefl k);rw[this]; exact a
end
end Pg
end
section
namespace Pg
open Go.RowKit Go.Lib
section
variable {w w':World}{D D':Nat->Prop}
structure En where
 kv:Value
 kl:List Int
 vv:Value
 vl:List Int
structure EnA(w:World)(D:Nat->Prop)(e:En):Prop where
 k:OB w D e.kv e.kl
 v:OB w D e.vv e.vl
theorem EnA.keep{e:En}(h:EnA w D e)(hb:Below w.heap.size w w'):EnA w' D e:=⟨h.k.keep hb,h.v.keep hb⟩
theorem EnA.mono{e:En}(h:EnA w D e)(hD:∀ b,b < w.heap.size->D b->D' b):EnA w D' e:=⟨h.k.mono hD,h.v.mono hD⟩
def flat:List En->List Value
 | []=>[]
 | e :: l=>e.kv :: e.vv :: flat l
theorem jo:∀ (l:List En),(flat l).length=l.length * 2
 | []=>rfl
 | e :: l=>by simp[flat,jo l]; omega
theorem ea:∀ (a b:List En),flat (a ++ b)=flat a ++ flat b
 | [],b=>rfl
 | e :: a,b=>by simp[flat,ea a b]
theorem pV:∀ {l:List En} {i:Nat} {e:En},l[i]? = some e->(flat l)[i * 2]? = some e.kv
 | [],_,_,h=>by simp at h
 | x :: l,0,e,h=>by simp at h; subst h; rfl
 | x :: l,i + 1,e,h=>by
  rw[show (i + 1) * 2=i * 2 + 1 + 1 by omega,flat,List.getElem?_cons_succ,List.getElem?_cons_succ];exact pV (l:=l) (by simpa using h)
theorem jT:∀ {l:List En} {i:Nat} {e:En},l[i]? = some e->(flat l)[i * 2 + 1]? = some e.vv
 | [],_,_,h=>by simp at h
 | x :: l,0,e,h=>by simp at h; subst h; rfl
 | x :: l,i + 1,e,h=>by
  rw[show (i + 1) * 2 + 1=i * 2 + 1 + 1 + 1 by omega,flat,List.getElem?_cons_succ,List.getElem?_cons_succ];exact jT (l:=l) (by simpa using h)
theorem ig:∀ (l:List En) (i:Nat),(flat l).take (i * 2)=flat (l.take i)
 | [],i=>by simp[flat]
 | x :: l,0=>by simp[flat]
 | x :: l,i + 1=>by
  rw[show (i + 1) * 2=i * 2 + 1 + 1 by omega,flat,List.take_succ_cons,List.take_succ_cons,ig l i,List.take_succ_cons,flat]
theorem im:∀ (l:List En) (i:Nat),(flat l).drop (i * 2)=flat (l.drop i)
 | [],i=>by simp[flat]
 | x :: l,0=>by simp
 | x :: l,i + 1=>by
  rw[show (i + 1) * 2=i * 2 + 1 + 1 by omega,flat,List.drop_succ_cons,List.drop_succ_cons,im l i,List.drop_succ_cons]
theorem jF:∀ {l:List En},(∀ e∈l,EnA w D e)->∀ v∈flat l,v.oneCell'=true
 | [],_,v,h=>by simp[flat] at h
 | x :: l,h,v,hv=>by
  have hx:=h x List.mem_cons_self;rcases List.mem_cons.1 hv with rfl | hv
  ·exact hx.k.one
  ·rcases List.mem_cons.1 hv with rfl | hv
   ·exact hx.v.one
   ·exact jF (l:=l) (fun e he=>h e (List.mem_cons_of_mem _ he)) v hv
theorem lW:∀ {l:List En} {i:Nat} {e:En} (u:Value) (ul:List Int),l[i]? = some e->(flat l).set (i * 2 + 1) u=flat (l.set i { e with vv:=u,vl:=ul })
 | [],_,_,_,_,h=>by simp at h
 | x :: l,0,e,u,ul,h=>by simp at h; subst h; simp[flat]
 | x :: l,i + 1,e,u,ul,h=>by
  rw[show (i + 1) * 2 + 1=i * 2 + 1 + 1 + 1 by omega,flat,List.set_cons_succ,List.set_cons_succ,lW (l:=l) u ul (by simpa using h),List.set_cons_succ,flat]
def kys(l:List En):List (List Int):=l.map En.kl
structure Pg where
 b:Nat
 c:Nat
 es:List En
def Pg.v(p:Pg):Value:=.slice (some ⟨p.b,0,none⟩) p.es.length p.c
structure PgA(w:World)(D:Nat->Prop)(p:Pg):Prop where
 row:Rw w 196 2 p.b p.es.length p.c (flat p.es)
 dH:∀ e∈p.es,EnA w D e
theorem PgA.keep{p:Pg}(h:PgA w D p)(hb:Below w.heap.size w w'):PgA w' D p:=⟨h.row.keep hb,fun e he=>(h.dH e he).keep hb⟩
theorem PgA.one{p:Pg}(h:PgA w D p):∀ v∈flat p.es,v.oneCell'=true:=jF h.dH
theorem cmpE{kv vv v:Value}{l b:List Int}(h:By w kv l)(c:By w v b) :
  Calls Tryz.prog 213 #[.agg #[kv,vv],v] w fun e w'=>e=.returned (.int .i64 (cY l b))/\Below w.heap.size w w':=by
 have hb:=ae w (.cells #[kv,vv] 196);have d:=kM (h.keep hb) (c.keep hb);have B:=aC w [kv,vv] 196;have q0:=B.cell (i:=0) rfl;clear h c B;generalize cY l b=x at *;go_enter Tryz.func213,Tryz.ntmps213;go_wp2_with (go_at_call 211; refine d.mono ?_; rintro e f ⟨rfl,rfl⟩);go_ret;exact⟨rfl,hb⟩
end
end Pg
end
section
namespace Pg
open Go.RowKit Go.Lib
section
variable {w:World}{D:Nat->Prop}{p:Pg}{v:Value}{k:List Int}
theorem bsE(A:PgA w D p)(S:Srt (kys p.es))(h:By w v k)(hn:p.es.length<=1000000) :
  Calls Tryz.prog 212 #[p.v,v,.func (.func 213) #[] #[]] w fun e w'=>e=.returned (.tuple #[.int .i64 (plc (kys p.es) k),.bool (thr (kys p.es) k)])/\Below w.heap.size w w':=by
 obtain⟨b,c,es⟩:=p;simp only[Pg.v] at *;have l:=A.row.le;simp only[maxLen] at l;have u:=l.1;have O:=l.2;obtain⟨n,J⟩:∃ n,es.length=n:=⟨_,rfl⟩
 rw[J] at hn u ⊢;go_enter Tryz.func212,Tryz.ntmps212;go_wp2;go_loopw [9,10] (fun G F wr=>∃ i j:Nat,G=.int .i64 i/\F=.int .i64 j/\i<=j/\j<=n/\Hid (∀ q x,q < i->(kys es)[q]? = some x->Lt x k)/\Hid (∀ q x,j<=q->(kys es)[q]? = some x->¬ Lt x k)/\Below w.heap.size w wr) (fun G F _=>(intOf F).toNat - (intOf G).toNat)
 case atStart=>exact⟨0,n,rfl,rfl,Nat.zero_le _,Nat.le_refl _,fun q x t=>by omega,fun q x t hx=>by
  have:=(List.getElem?_eq_some_iff.1 hx).1;simp[kys] at this
  omega,Below.refl _ _⟩
 case round =>
  obtain⟨i,j,rfl,rfl,X,H,H1,M,f⟩:=hrel;by_cases Q:i < j
  ·obtain⟨m,hm⟩:∃ m,m=(i + j) / 2:=⟨_,rfl⟩
   have R:i<=m:=by omega
   have W:m < j:=by omega
   obtain⟨e,he⟩:∃ e,es[m]? = some e:=⟨es[m],List.getElem?_eq_getElem (by omega)⟩
   have d:=A.keep f;have q0:=d.row.cell (pV he);have q1:=d.row.cell (jT he)
   have Z:IntKind.i64.wrap ((i:Int) + (j:Int))=(i:Int) + (j:Int):=by rw[IntKind.wrap_i64]; omega
   have T:((i:Int) + (j:Int)) / 2 < n:=by omega
   have Y:(0:Int)<=((i:Int) + (j:Int)) / 2:=by omega
   have U:IntKind.i64.wrap (((i:Int) + (j:Int)) / 2)=((i:Int) + (j:Int)) / 2:=by rw[IntKind.wrap_i64]; omega
   have o:=cmpE (vv:=e.vv) ((d.dH e (List.mem_of_getElem? he)).k.by) (h.keep f)
   have r:(kys es)[m]? = some e.kl:=by simp[kys,he]
   rw[hm] at q0 q1
   have B:Hid (m=(i + j) / 2):=hm;clear d hm;by_cases hc:Lt e.kl k
   ·rw[pW hc] at o;go_wp2_with (go_at_call 213; refine o.mono ?_; rintro P N ⟨rfl,s⟩);go_roundw
    case rel=>exact⟨m + 1,j,by have:=B.out; congr 1; omega,rfl,by omega,H,fun q x t hx=>by
     by_cases g:q=m
     ·subst g; rw[r] at hx; cases hx; exact hc
     ·exact S.get (by omega) hx r |>.trans hc,M.out,aj f s⟩
    case measure=>have:=B.out; simp[intOf]; omega
   ·have K:¬ (cY e.kl k < 0):=by
     rcases iZ e.kl k with q | q | q
     ·exact absurd q hc
     ·rw[q]; decide
     ·rw[q]; decide
    generalize cY e.kl k=x at o K;go_wp2_with (go_at_call 213; refine o.mono ?_; rintro P N ⟨rfl,s⟩);go_roundw
    case rel=>exact⟨i,m,rfl,by have:=B.out; congr 1; omega,by omega,by omega,H1.out,fun q x t hx=>by
     by_cases g:q=m
     ·subst g; rw[r] at hx; cases hx; exact hc
     ·intro L
      exact hc ((S.get (by omega) r hx).trans L),aj f s⟩
    case measure=>have:=B.out; simp[intOf]; omega
  ·have I:i=j:=by omega
   subst I
   have E:Hid (plc (kys es) k=i):=tK (by simp[kys]; omega) (fun q x t hx=>H1.out q x t hx) (fun x hx=>M.out i x (Nat.le_refl _) hx)
   have d:=A.keep f;by_cases V:i < n
   ·obtain⟨e,he⟩:∃ e,es[i]? = some e:=⟨es[i],List.getElem?_eq_getElem (by omega)⟩
    have q0:=d.row.cell (pV he);have q1:=d.row.cell (jT he)
    have r:(kys es)[i]? = some e.kl:=by simp[kys,he]
    have o:=cmpE (vv:=e.vv) ((d.dH e (List.mem_of_getElem? he)).k.by) (h.keep f)
    have C:Hid (thr (kys es) k=(cY e.kl k == 0)):=by
     show _=_
     unfold thr;rw[E.out,r];by_cases q:e.kl=k
     ·subst q; simp[iv]
     ·have:cY e.kl k≠0:=fun z=>q (oZ z)
      simp[q,this]
    have y:(i:Int) < n:=by omega
    generalize cY e.kl k=x at o C;clear d;go_wp2_with (go_at_call 213; refine o.mono ?_; rintro P N ⟨rfl,s⟩)
    all_goals (
     go_ret2;refine⟨?_,aj f s⟩;rw[C.out,E.out]
     rfl)
   ·have C:Hid (thr (kys es) k=false):=by
     show _=_
     unfold thr;rw[E.out,List.getElem?_eq_none (by simp[kys]; omega)];rfl
    have y:¬ ((i:Int) < n):=by omega
    go_wp2;go_ret2;refine⟨?_,f⟩;rw[C.out,E.out];rfl
theorem gJ(A:PgA w D p)(S:Srt (kys p.es))(h:By w v k)(hn:p.es.length<=1000000) :
  Calls Tryz.prog 174 #[p.v,v] w fun e w'=>e=.returned (.tuple #[.int .i64 (plc (kys p.es) k),.bool (thr (kys p.es) k)])/\Below w.heap.size w w':=by
 have t:=bsE A S h hn;generalize plc (kys p.es) k=x at *;generalize thr (kys p.es) k=y at *;simp only[Pg.v] at *;clear A S h;go_enter Tryz.func174,Tryz.ntmps174;go_wp2_with (go_at_call 212; refine t.mono ?_; rintro d c ⟨rfl,b⟩);go_ret2;exact⟨rfl,b⟩
end
end Pg
end
section
namespace Pg
open Go.RowKit Go.Lib
section
variable {w w':World}{F D:Nat->Prop}{g b:Nat}{L:List Pg}{P:List (List En)}{es:List En}
structure bJ(w:World)(F D:Nat->Prop)(g:Nat)(L:List Pg):Prop where
 top:∃ pv,Blk w g [pv] 144/\F g/\((pv=.slice none 0 0/\L=[])\/∃ G C,pv=.slice (some ⟨G,0,none⟩) L.length C/\F G/\Rw w 199 1 G L.length C (L.map Pg.v))
 bX:∀ p∈L,PgA w D p/\F p.b
 apart:(L.map Pg.b).Nodup
 kind:∀ b,F b->∃ cs t,Blk w b cs t/\t≠5
theorem bJ.lt(h:bJ w F D g L)(hb:F b):b < w.heap.size:=by
 obtain⟨cs,t,h,_⟩:=h.kind b hb;exact h.lt
theorem bJ.same(h:bJ w F D g L)(f:∀ b,F b->w'.heap[b]? = w.heap[b]?)(r:∀ b,b < w.heap.size->D b->(∃ cs,Blk w b cs 5)->w'.heap[b]? = w.heap[b]?):bJ w' F D g L:=by
 obtain⟨q,hb,m,i⟩:=h.top
 have d:∀ {v:Value} {l:List Int},OB w D v l->OB w' D v l:=fun h=>⟨h.oct,h.ex.imp id (by
  rintro⟨b,c,e,j,a⟩
  exact⟨b,c,e,j,a.same (r b a.lt j a.kind)⟩)⟩
 refine⟨⟨q,hb.same (f g m),m,i.imp id ?_⟩,fun p i => ?_,h.apart,fun b hb => ?_⟩
 ·rintro⟨G,C,e,n,a⟩;exact⟨G,C,e,n,a.same (f G n)⟩
 ·obtain⟨hA,hF⟩:=h.bX p i;exact⟨⟨hA.row.same (f _ hF),fun e he=>⟨d (hA.dH e he).k,d (hA.dH e he).v⟩⟩,hF⟩
 ·obtain⟨cs,t,s,o⟩:=h.kind b hb;exact⟨cs,t,s.same (f b hb),o⟩
theorem bJ.keep(h:bJ w F D g L)(hb:Below w.heap.size w w'):bJ w' F D g L:=h.same (fun b hF=>hb.block b (h.lt hF)) (fun b hl _ _=>hb.block b hl)
theorem bJ.drew(h:bJ w F D g L):bJ w.drew F D g L:=h.same (fun _ _=>rfl) (fun _ _ _ _=>rfl)
theorem bJ.chg{F':Nat->Prop}(h:bJ w F D g L)(hc:Chg F' w w')(a:∀ b,F' b->¬ F b)(e:∀ b,F' b->∀ cs,¬ Blk w b cs 5):bJ w' F D g L :=
 h.same (fun b hF=>hc.same b (h.lt hF) fun f=>a b f hF) (fun b c _ d=>hc.same b c fun f=>by obtain⟨cs,k⟩:=d; exact e b f cs k)
theorem bJ.noU(h:bJ w F D g L)(hb:F b)(cs:List Value):¬ Blk w b cs 5:=fun k=>by
 obtain⟨cs',t,hk,ht⟩:=h.kind b hb;exact ht (hk.eq k).2
theorem bJ.mono{D':Nat->Prop}(h:bJ w F D g L)(c:∀ b,b < w.heap.size->D b->D' b):bJ w F D' g L :=
 ⟨h.top,fun p a=>⟨⟨(h.bX p a).1.row,fun e he=>((h.bX p a).1.dH e he).mono c⟩,(h.bX p a).2⟩,h.apart,h.kind⟩
def ens(L:List Pg):List (List En):=L.map Pg.es
def fks(P:List (List En)):List (List Int):=P.map fun es=>(kys es).headD []
def plq:List (List Int)->List Int->Nat
 | [],_=>0
 | x :: l,k=>if Lt k x then 0 else plq l k + 1
theorem ph:∀ (l:List (List Int)) (k:List Int),plq l k<=l.length
 | [],_=>Nat.le_refl _
 | x :: l,k=>by
  rw[plq];split
  ·simp
  ·have:=ph l k; simp; omega
theorem xA:∀ {l:List (List Int)} {k:List Int} {i:Nat},i<=l.length->(∀ j x,j < i->l[j]? = some x->¬ Lt k x)->(∀ x,l[i]? = some x->Lt k x)->plq l k=i
 | [],_,i,h,_,_=>by simp at h; subst h; rfl
 | x :: l,k,0,_,_,h3=>by rw[plq,if_pos (h3 x rfl)]
 | x :: l,k,i + 1,h1,h2,h3=>by
  rw[plq,if_neg (h2 0 x (by omega) rfl),xA (l:=l) (i:=i) (by simpa using h1) (fun j y hj hy=>h2 (j + 1) y (by omega) (by simpa using hy)) (fun y hy=>h3 y (by simpa using hy))]
theorem yD:∀ {l:List (List Int)} {k:List Int} {j:Nat} {x:List Int},j < plq l k->l[j]? = some x->¬ Lt k x
 | [],_,_,_,h,_=>by simp[plq] at h
 | y :: l,k,j,x,h,hx=>by
  rw[plq] at h;split at h
  ·omega
  ·cases j with
   | zero=>simp at hx; subst hx; assumption
   | succ j=>exact yD (l:=l) (j:=j) (by omega) (by simpa using hx)
theorem AH:∀ {l:List (List Int)} {k:List Int} {x:List Int},l[plq l k]? = some x->Lt k x
 | [],_,_,h=>by simp at h
 | y :: l,k,x,h=>by
  rw[plq] at h;split at h
  ·simp at h; subst h; assumption
  ·exact AH (l:=l) (by simpa using h)
def pgi(P:List (List En))(k:List Int):Nat:=plq (fks P) k - 1
structure Ord(P:List (List En)):Prop where
 full:∀ es∈P,es≠[]
 iH:Srt (kys P.flatten)
theorem Ord.page(h:Ord P){i:Nat}(hi:P[i]? = some es):Srt (kys es):=by
 have hm:=List.mem_of_getElem? hi;have:(kys es).Sublist (kys P.flatten):=(List.sublist_flatten_of_mem hm).map _;exact h.iH.sublist this
theorem jm(h:es≠[]):∃ e l,es=e :: l/\(kys es).headD []=e.kl:=by
 cases es with
 | nil=>exact absurd rfl h
 | cons e l=>exact⟨e,l,rfl,rfl⟩
theorem Ord.zN:∀ {P:List (List En)},Ord P->Srt (fks P)
 | [],_=>List.Pairwise.nil
 | es :: P,h=>by
  have h2:Ord P:=⟨fun x hx=>h.full x (List.mem_cons_of_mem _ hx),by
   have:=h.iH;simp only[Srt,kys,List.flatten_cons,List.map_append,List.pairwise_append] at this
   exact this.2.1⟩
  refine List.Pairwise.cons (fun x hx => ?_) (Ord.zN h2);obtain⟨fs,a,rfl⟩:=List.mem_map.1 hx;obtain⟨e,l,rfl,he⟩:=jm (h.full es List.mem_cons_self);obtain⟨f,m,rfl,hf⟩:=jm (h2.full fs a)
  show Lt e.kl f.kl
  have:=h.iH;simp only[Srt,kys,List.flatten_cons,List.map_append,List.pairwise_append] at this;exact this.2.2 e.kl (by simp) f.kl (List.mem_map.2 ⟨f,List.mem_flatten.2 ⟨_,a,List.mem_cons_self⟩,rfl⟩)
end
end Pg
end
section
namespace Pg
open Go.RowKit Go.Lib
section
variable {L:List Pg}{i g:Nat}{p:Pg}{w:World}{F D:Nat->Prop}{v:Value}{k:List Int}{P:List (List En)}
theorem oL(h:L[i]? = some p):(ens L)[i]? = some p.es:=by simp[ens,h]
theorem Dh(h:L[i]? = some p):(fks (ens L))[i]? = some ((kys p.es).headD []):=by simp[ens,fks,h]
theorem bJ.head(A:bJ w F D g L)(O:Ord (ens L))(h:L[i]? = some p):∃ kv,w.cell? ⟨p.b,0,none⟩=some kv/\By w kv ((kys p.es).headD []):=by
 have a:=List.mem_of_getElem? h
 have hm:p.es∈ens L:=List.mem_map.2 ⟨p,a,rfl⟩;obtain⟨e,l,he,c⟩:=jm (O.full _ hm);obtain⟨hA,_⟩:=A.bX p a;have q:=hA.row.cell (i:=0) (v:=e.kv) (by rw[he]; rfl);exact⟨e.kv,q,by rw[c]; exact(hA.dH e (by rw[he]; exact List.mem_cons_self)).k.by⟩
theorem bJ.rd(A:bJ w F D g L):∃ ao c,w.cell? ⟨g,0,none⟩=some (.slice ao L.length c)/\L.length<=c/\c<=9223372036854775807/\(∀ i p,L[i]? = some p->∃ G,ao=some ⟨G,0,none⟩/\w.cell? ⟨G,i,none⟩=some p.v):=by
 obtain⟨f,hb,d,⟨rfl,rfl⟩ | ⟨G,C,rfl,e,a⟩⟩:=A.top
 ·exact⟨_,_,hb.cell (i:=0) rfl,by decide,by decide,fun i p h=>by simp at h⟩
 ·have b:=a.le;simp only[maxLen] at b;exact⟨_,C,hb.cell (i:=0) rfl,by omega,by omega,fun i p h=>⟨G,rfl,a.cell (by simp[h])⟩⟩
theorem jd(A:bJ w F D g L)(O:Ord (ens L))(h:By w v k)(hn:L.length<=1000000000) :
  Calls Tryz.prog 172 #[.pointer (some ⟨g,0,none⟩),v] w fun e w'=>e=.returned (.int .i64 (pgi (ens L) k))/\Below w.heap.size w w':=by
 obtain⟨X,c,hc,C,hc2,J⟩:=A.rd;have ac:=O.zN;obtain⟨d,ae⟩:∃ d,Hid (fks (ens L)=d):=⟨_,rfl⟩
 rw[ae.out] at ac;obtain⟨n,l⟩:∃ n,Hid (L.length=n):=⟨_,rfl⟩
 rw[l.out] at hc C hn
 have hkl:d.length=n:=by rw[<- ae.out,<- l.out]; simp[fks,ens]
 have K:Below w.heap.size w w.drew:=⟨rfl,rfl,rfl,Nat.le_refl _,fun _ _=>rfl⟩
 have aa:w.drew.cell? ⟨g,0,none⟩=some (.slice X n c):=hc
 have z:∀ (i:Nat),i<=n->(∀ q x,q < i->d[q]? = some x->¬ Lt k x)->(∀ q x,i<=q->d[q]? = some x->Lt k x)->pgi (ens L) k=i - 1:=fun i hi h1 h2=>by
  unfold pgi;rw[ae.out,xA (i:=i) (by omega) (fun j x hj hx=>h1 j x hj hx) (fun x hx=>h2 i x (Nat.le_refl _) hx)]
 have z:Hid _:=z;have mixed:=mixed;go_enter Tryz.func172,Tryz.ntmps172;go_wp2;go_step3;go_wp2;go_region;go_wp2;go_step3;go_wp2;go_loopw [5,6] (fun H E wr=>∃ i j:Nat,H=.int .i64 i/\E=.int .i64 j/\i<=j/\j<=n/\Hid (∀ q x,q < i->d[q]? = some x->¬ Lt k x)/\Hid (∀ q x,j<=q->d[q]? = some x->Lt k x)/\Below w.heap.size w wr) (fun H E _=>(intOf E).toNat - (intOf H).toNat)
 case atStart=>exact⟨0,n,rfl,rfl,Nat.zero_le _,Nat.le_refl _,fun q x s=>by omega,fun q x s hx=>by
  have:=(List.getElem?_eq_some_iff.1 hx).1
  omega,K⟩
 case round =>
  obtain⟨i,j,rfl,rfl,hij,I,H1,Q,b⟩:=hrel;by_cases ag:i < j
  ·obtain⟨m,hm⟩:∃ m,m=i + (j - i) / 2:=⟨_,rfl⟩
   have ah:i<=m:=by omega
   have hm2:m < j:=by omega
   obtain⟨p,B⟩:∃ p,L[m]? = some p:=⟨L[m]'(by have:=l.out; omega),List.getElem?_eq_getElem _⟩
   have W:=A.keep b
   have c0:wr.cell? ⟨g,0,none⟩=some (.slice X n c):=by
    rw[b.cell (p:=⟨g,0,none⟩) (by obtain⟨_,hb,_⟩:=A.top; exact hb.lt)]; exact hc
   obtain⟨G,rfl,T⟩:=J m p B
   have t:wr.cell? ⟨G,m,none⟩=some p.v:=by
    rw[b.cell (p:=⟨G,m,none⟩) (aI T)]; exact T
   obtain⟨kv,cK,S⟩:=W.head O B
   have f:d[m]? = some ((kys p.es).headD []):=by rw[<- ae.out]; exact Dh B
   have Y:0 < p.es.length:=by
    have:=O.full p.es (List.mem_map.2 ⟨p,List.mem_of_getElem? B,rfl⟩);exact List.length_pos_iff.2 this
   simp only[Pg.v] at t;rw[hm] at t;have o:=kM S (h.keep b);generalize (kys p.es).headD []=R at *
   have r:Hid (m=i + (j - i) / 2):=hm
   have af:(0:Int)<=(i:Int) + ((j:Int) - (i:Int)) / 2:=by omega
   have ab:(i:Int) + ((j:Int) - (i:Int)) / 2 < n:=by omega
   have ai:((i:Int) + ((j:Int) - (i:Int)) / 2).toNat=i + (j - i) / 2:=by omega
   generalize p.es.length=pn at *;clear W hm S;rcases pK R k with hc | hc | hc
   ·rw[pW hc] at o;go_wp2_with (go_at_call 211; refine o.mono ?_; rintro V U ⟨rfl,rfl⟩);go_roundw
    case rel=>exact⟨m + 1,j,by have:=r.out; congr 1; omega,rfl,by omega,I,fun q x s hx=>by
     by_cases u:q=m
     ·subst u; rw[f] at hx; cases hx; exact hc.not
     ·exact((ac.get (by omega) hx f).trans hc).not,Q.out,b⟩
    case measure=>have:=r.out; simp[intOf]; omega
   ·have hF:=z.out (m + 1) (by omega) (fun q x s hx=>by
     subst hc;by_cases u:q=m
     ·subst u; rw[f] at hx; cases hx; exact lt_irrefl _
     ·exact(ac.get (by omega) hx f).not) (fun q x s hx=>by subst hc; exact ac.get (by omega) f hx)
    have y:Hid (pgi (ens L) k=m):=by show _=_; rw[hF]; omega
    have HC:Hid (R=k):=hc;rw[hc,iv] at o
    have hx0:(i:Int) + ((j:Int) - (i:Int)) / 2 + 1 - 1=(i:Int) + ((j:Int) - (i:Int)) / 2:=by omega
    have M:¬ ((i:Int) + ((j:Int) - (i:Int)) / 2 < 0):=by omega
    clear hF hc;go_wp2_with (go_at_call 211; refine o.mono ?_; rintro V U ⟨rfl,rfl⟩);simp only[Exit.noGoto_ret];go_ret;refine⟨?_,b⟩;rw[y.out];have:=r.out
    show Ending.returned (Value.int .i64 ((i:Int) + ((j:Int) - (i:Int)) / 2))=_
    rw[show (i:Int) + ((j:Int) - (i:Int)) / 2=(m:Int) by omega]
   ·rw[Ds hc] at o;go_wp2_with (go_at_call 211; refine o.mono ?_; rintro V U ⟨rfl,rfl⟩);go_roundw
    case rel=>exact⟨i,m,rfl,by have:=r.out; congr 1; omega,by omega,by omega,H1.out,fun q x s hx=>by
     by_cases u:q=m
     ·subst u; rw[f] at hx; cases hx; exact hc
     ·exact hc.trans (ac.get (by omega) f hx),b⟩
    case measure=>have:=r.out; simp[intOf]; omega
  ·have P:i=j:=by omega
   subst P
   have y:Hid (pgi (ens L) k=i - 1):=z.out i (by omega) H1.out Q.out;by_cases N:i=0
   ·subst N;go_wp2
    try simp only[Exit.noGoto_ret]
    go_ret;refine⟨?_,b⟩;rw[y.out];rfl
   ·have M:¬ ((i:Int) - 1 < 0):=by omega
    have Z:(0:Int)<=(i:Int) - 1:=by omega
    go_wp2
    try simp only[Exit.noGoto_ret]
    go_ret;refine⟨?_,b⟩;rw[y.out]
    show Ending.returned (Value.int .i64 ((i:Int) - 1))=_
    rw[show (i:Int) - 1=((i - 1:Nat):Int) by omega]
theorem pgi_lt(h:P≠[])(k:List Int):pgi P k < P.length:=by
 have h1:=ph (fks P) k
 have h2:0 < P.length:=List.length_pos_iff.2 h;simp only[fks,List.length_map] at h1;unfold pgi fks;omega
theorem mZ(A:bJ w F D g []) :
  Calls Tryz.prog 146 #[.pointer (some ⟨g,0,none⟩),v] w fun e w'=>e=.returned (.tuple #[.int .i64 0,.int .i64 0,.bool false])/\w'=w:=by
 obtain⟨f,c,hc,d,ac,b⟩:=A.rd;simp only[List.length_nil] at hc;clear A b;go_enter Tryz.func146,Tryz.ntmps146;go_wp2;go_ret3;exact⟨rfl,rfl⟩
theorem lD(A:bJ w F D g L)(O:Ord (ens L))(h:By w v k)(hn:L.length<=1000000000)(d:L[pgi (ens L) k]? = some p)(hs:p.es.length<=1000000) :
  Calls Tryz.prog 146 #[.pointer (some ⟨g,0,none⟩),v] w fun e w'=>e=.returned (.tuple #[.int .i64 (pgi (ens L) k),.int .i64 (plc (kys p.es) k),.bool (thr (kys p.es) k)])/\Below w.heap.size w w':=by
 have C:=jd A O h hn;have q:=(List.getElem?_eq_some_iff.1 d).1;have H:=List.mem_of_getElem? d
 have E:∀ w',Below w.heap.size w w'->Calls Tryz.prog 174 #[p.v,v] w' fun e z=>e=.returned (.tuple #[.int .i64 (plc (kys p.es) k),.bool (thr (kys p.es) k)])/\Below w'.heap.size w' z:=fun w' hb =>
  gJ ((A.bX p H).1.keep hb) (O.page (oL d)) (h.keep hb) hs
 obtain⟨P,c,hc,l,K,f⟩:=A.rd;obtain⟨G,rfl,B⟩:=f _ p d;have t:=aI hc;have m:=aI B;generalize pgi (ens L) k=i at *;generalize plc (kys p.es) k=x at *;generalize thr (kys p.es) k=y at *;obtain⟨n,u⟩:∃ n,L.length=n:=⟨_,rfl⟩
 rw[u] at hc l q
 have I:¬ ((n:Int)=0):=by omega
 have J:(i:Int) < n:=by omega
 simp only[Pg.v] at *;clear A O h f d H;go_enter Tryz.func146,Tryz.ntmps146;go_wp2_with (first | (go_at_call 172; refine C.mono ?_; rintro M s ⟨rfl,j⟩; have c1:s.cell? ⟨g,0,none⟩=some (.slice (some ⟨G,0,none⟩) n c):=(j.cell (p:=⟨g,0,none⟩) t).trans hc; have c2:s.cell? ⟨G,i,none⟩=some (.slice (some ⟨p.b,0,none⟩) p.es.length p.c):=(j.cell (p:=⟨G,i,none⟩) m).trans B; have r:=E s j; clear C E) | (go_at_call 174; refine r.mono ?_; rintro M N ⟨rfl,o⟩));go_ret3;exact⟨rfl,aj j o⟩
end
end Pg
end
section
namespace Pg
open Go.RowKit Go.Lib
section
variable {w w1:World}{F D:Nat->Prop}{g G n c i j:Nat}{L L':List Pg}{cs ds xs:List Value}{p q:Pg}{c0:Value}
theorem bJ.opn(A:bJ w F D g L)(h:L≠[]):∃ G C,Blk w g [.slice (some ⟨G,0,none⟩) L.length C] 144/\F g/\F G/\Rw w 199 1 G L.length C (L.map Pg.v):=by
 obtain⟨d,hb,c,⟨rfl,rfl⟩ | ⟨G,C,rfl,a,b⟩⟩:=A.top
 ·exact absurd rfl h
 ·exact⟨G,C,hb,c,a,b⟩
theorem ez{a b:Nat}{t u:TypeId}(h:Blk w a cs t)(h':Blk w b ds u)(ht:t≠u):a≠b:=fun e=>by subst e; exact ht (h.eq h').2
theorem PgA.eQ(h:PgA w D p)(hg:Blk w g cs 144):p.b≠g:=by
 obtain⟨ds,k⟩:=h.row.kind;exact ez k hg (by decide)
theorem PgA.eU(h:PgA w D p)(hG:Rw w 199 1 G n c xs):p.b≠G:=by
 obtain⟨ds,k⟩:=h.row.kind;obtain⟨es,k'⟩:=hG.kind;exact ez k k' (by decide)
theorem Rw.eQ(hG:Rw w 199 1 G n c xs)(hg:Blk w g cs 144):G≠g:=by
 obtain⟨es,k'⟩:=hG.kind;exact ez k' hg (by decide)
theorem l7(h:(L.map Pg.b).Nodup)(hi:L[i]? = some p)(c:L[j]? = some q)(a:i < j):p.b≠q.b:=by
 obtain⟨l1,e1⟩:=List.getElem?_eq_some_iff.1 hi;obtain⟨d,e2⟩:=List.getElem?_eq_some_iff.1 c;have:=List.pairwise_iff_getElem.1 h i j (by simpa using l1) (by simpa using d) a;simpa[e1,e2] using this
theorem rv(h:(L.map Pg.b).Nodup)(hi:L[i]? = some p)(hj:L[j]? = some q)(hij:i≠j):p.b≠q.b:=by
 rcases Nat.lt_or_gt_of_ne hij with k | k
 ·exact l7 h hi hj k
 ·exact(l7 h hj hi k).symm
theorem yf(h:∀ (i j:Nat) (p q:Pg),L[i]? = some p->L[j]? = some q->i < j->p.b≠q.b):(L.map Pg.b).Nodup:=by
 refine List.pairwise_iff_getElem.2 fun i j c e a => ?_
 have l1:i < L.length:=by simpa using c
 have d:j < L.length:=by simpa using e
 simpa using h i j _ _ (List.getElem?_eq_getElem l1) (List.getElem?_eq_getElem d) a
theorem EnA.off{w':World}{e:En}(h:EnA w D e)(g:∀ b,b < w.heap.size->(∃ cs,Blk w b cs 5)->w'.heap[b]? = w.heap[b]?):EnA w' D e:=by
 have a:∀ {v:Value} {l:List Int},OB w D v l->OB w' D v l:=fun h=>⟨h.oct,h.ex.imp id (by
  rintro⟨b,c,e,f,d⟩
  exact⟨b,c,e,f,d.same (g b d.lt d.kind)⟩)⟩
 exact⟨a h.k,a h.v⟩
theorem bJ.put{D':Nat->Prop}{C:Nat}{p':Pg}(A:bJ w F D g L)(E:Blk w g [.slice (some ⟨G,0,none⟩) L.length C] 144)(I:F g)(o:F G)(B:Rw w 199 1 G L.length C (L.map Pg.v))(hi:L[i]? = some p)(hC:Chg (· = p.b) w w1)(hb:p'.b=p.b\/w.heap.size<=p'.b)(hA:PgA w1 D' p')(W:∀ b,b < w.heap.size->D b->D' b) :
  bJ (w1.setCell ⟨G,i,none⟩ p'.v) (fun x=>(F x/\x≠p.b)\/x=p'.b) D' g (L.set i p')/\Chg F w (w1.setCell ⟨G,i,none⟩ p'.v):=by
 have h:=(List.getElem?_eq_some_iff.1 hi).1;have J:=A.bX p (List.mem_of_getElem? hi);have S:=J.1.eQ E;have P:=J.1.eU B;have U:=B.eQ E
 have H:Blk w1 g _ _:=E.chg hC (fun e=>S e.symm);have l:=B.chg hC (fun e=>P e.symm);have u:=l.set i (by simpa using h) p'.v
 have Q:p'.b≠G:=hA.eU l
 have z:Chg F w (w1.setCell ⟨G,i,none⟩ p'.v):=(hC.mono (F':=F) (fun b _ e=>by subst e; exact J.2)).cell (.inl o) _
 have K:∀ b,b < w.heap.size->(∃ cs,Blk w b cs 5)->(w1.setCell ⟨G,i,none⟩ p'.v).heap[b]? = w.heap[b]? := fun b hb N=>by
  obtain⟨cs,k⟩:=N;exact z.same b hb fun f=>A.noU f cs k
 have c:∀ b,b≠G->(w1.setCell ⟨G,i,none⟩ p'.v).heap[b]? = w1.heap[b]? := fun b hb=>Below.heap_setCell w1 _ _ b hb
 refine⟨⟨⟨_,H.off (fun e=>U e.symm) _,.inl ⟨I,fun e=>S e.symm⟩,.inr ⟨G,C,?_,.inl ⟨o,fun e=>P e.symm⟩,?_⟩⟩,fun q T => ?_,yf fun x y a b hx hy M => ?_,fun b hb => ?_⟩,z⟩
 ·rw[List.length_set]
 ·rw[List.length_set];refine u.to ?_
  rw[List.map_set]
 ·obtain⟨j,m⟩:=List.getElem?_of_mem T;rw[List.getElem?_set] at m;by_cases e:i=j
  ·subst e;rw[if_pos rfl,if_pos h] at m
   cases m;refine⟨⟨hA.row.same (c _ Q),fun e he=>(hA.dH e he).off fun b _ N => ?_⟩,.inr rfl⟩;obtain⟨cs,k⟩:=N;obtain⟨R,O⟩:=l.kind;exact c b (ez k O (by decide))
  ·rw[if_neg e] at m;have d:=A.bX q (List.mem_of_getElem? m)
   have s:q.b≠p.b:=fun n=>rv A.apart hi m e n.symm
   exact⟨⟨(d.1.row.chg hC s).same (c _ (d.1.eU B)),fun e he=>((d.1.dH e he).mono W).off K⟩,.inl ⟨d.2,s⟩⟩
 ·have key:∀ (y:Nat) (b:Pg),y≠i->L[y]? = some b->p'.b≠b.b:=fun y b hy r=>by
   rcases hb with e | e
   ·rw[e]; exact rv A.apart hi r (fun n=>hy n.symm)
   ·have:=(A.bX b (List.mem_of_getElem? r)).1.row.lt;omega
  rw[List.getElem?_set] at hx hy;by_cases e:i=x
  ·subst e;rw[if_pos rfl,if_pos h] at hx
   cases hx;rw[if_neg (by omega)] at hy;exact key y b (by omega) hy
  ·rw[if_neg e] at hx;by_cases n:i=y
   ·subst n;rw[if_pos rfl,if_pos h] at hy
    cases hy;exact(key x a (by omega) hx).symm
   ·rw[if_neg n] at hy;exact l7 A.apart hx hy M
 ·by_cases e:b=p'.b
  ·subst e;obtain⟨cs,k⟩:=hA.row.kind;exact⟨cs,_,k.same (c _ Q),by decide⟩
  ·obtain⟨hF,e2⟩:=hb.resolve_right e;obtain⟨cs,t,k,V⟩:=A.kind b hF;by_cases e1:b=G
   ·subst e1;obtain⟨R,O⟩:=u.kind;exact⟨R,_,O,by decide⟩
   ·exact⟨cs,t,(k.chg hC e2).same (c b e1),V⟩
theorem j1{G' C':Nat}(L:∀ p∈L',PgA w D p/\F p.b)(y:(L'.map Pg.b).Nodup)(J:∀ b,F b->∃ cs t,Blk w b cs t/\t≠5)(I:Blk w g [c0] 144)(l:F g)(z:F G)(d:G≠g)(hC:Chg (· = G) w w1)(m:∀ p∈L',p.b≠G)(hn:L'.length=n)(A:Rw w1 199 1 G' n C' (L'.map Pg.v)) :
  bJ (w1.setCell ⟨g,0,none⟩ (.slice (some ⟨G',0,none⟩) n C')) (fun x=>(F x/\x≠G)\/x=G') D g L'/\Chg F w (w1.setCell ⟨g,0,none⟩ (.slice (some ⟨G',0,none⟩) n C')):=by
 subst hn
 have j:Blk w1 g [c0] 144:=I.chg hC (fun e=>d e.symm);have o:=j.setCell (i:=0) (.slice (some ⟨G',0,none⟩) L'.length C')
 have r:G'≠g:=A.eQ j
 have a:∀ b,b≠g->(w1.setCell ⟨g,0,none⟩ (.slice (some ⟨G',0,none⟩) L'.length C')).heap[b]? = w1.heap[b]? := fun b hb=>Below.heap_setCell w1 _ _ b hb
 have h:Chg F w (w1.setCell ⟨g,0,none⟩ (.slice (some ⟨G',0,none⟩) L'.length C')):=(hC.mono (F':=F) (fun b _ e=>by subst e; exact z)).cell (.inl l) _
 have C:∀ b,b < w.heap.size->(∃ cs,Blk w b cs 5)->(w1.setCell ⟨g,0,none⟩ (.slice (some ⟨G',0,none⟩) L'.length C')).heap[b]? = w.heap[b]? := fun b hb H=>by
  obtain⟨cs,k⟩:=H;exact h.same b hb fun f=>by
   obtain⟨K,t,E,s⟩:=J b f;exact s (E.eq k).2
 refine⟨⟨⟨_,o,.inl ⟨l,fun e=>d e.symm⟩,.inr ⟨G',C',rfl,.inr rfl,A.same (a _ r)⟩⟩,fun q u => ?_,y,fun b hb => ?_⟩,h⟩
 ·have c:=L q u;exact⟨⟨(c.1.row.chg hC (m q u)).same (a _ (c.1.eQ I)),fun e he=>(c.1.dH e he).off C⟩,.inl ⟨c.2,m q u⟩⟩
 ·by_cases e:b=G'
  ·subst e;obtain⟨B,k⟩:=A.kind;exact⟨B,_,k.same (a _ r),by decide⟩
  ·obtain⟨hF,e2⟩:=hb.resolve_right e;obtain⟨B,t,k,s⟩:=J b hF;by_cases e1:b=g
   ·subst e1;exact⟨_,_,o,by decide⟩
   ·exact⟨B,t,(k.chg hC e2).same (a b e1),s⟩
theorem sK(L:List Pg):∀ v∈L.map Pg.v,v.oneCell'=true:=fun v hv=>by
 obtain⟨p,_,rfl⟩:=List.mem_map.1 hv;rfl
end
end Pg
end
section
namespace Pg
open Go.RowKit Go.Lib
section
variable {ops:Array Oper} {Q:Exit->Act->World->Prop} {S:World->Prop} {fuel:Nat} {listed:Array Bool} {a:Act} {w:World}
section
variable {Qc:Ending->World->Prop}
def ia(ops:Array Oper)(listed:Array Bool)(a:Act)(i:Nat)(d:Option Tmp):Bool :=
 Region.noSelect ops && Region.free .any ops listed i && (Region.ready .any ops listed).contains i && decide (i < ops.size) && Region.wanted (ops.getD i default) (yielded ops a.tmps) && decide ((ops.getD i default).dst=d)
def DO(ops:Array Oper)(listed:Array Bool)(a:Act)(i:Nat)(d:Option Tmp):Bool :=
 Region.noSelect ops && Region.free .any ops listed i && (Region.ready .any ops listed).contains i && decide (i < ops.size) && !Region.wanted (ops.getD i default) (yielded ops a.tmps) && decide ((ops.getD i default).dst=d)
def gC(ops:Array Oper)(listed:Array Bool)(a:Act)(i:Nat)(d:Option Tmp):Bool :=
 decide (Region.ready .any ops listed=[i]) && decide (i < ops.size) && Region.wanted (ops.getD i default) (yielded ops a.tmps) && decide ((ops.getD i default).dst=d)
theorem bM{i:Nat}(h:i < ops.size):ops[i]? = some (ops.getD i default):=by
 simp[Array.getD,h]
theorem ai(i:Nat)(d:Option Tmp)(v:Value)(hc:ia ops listed a i d=true)(hy:∀ w',S w'->(execOp a.eval (ops.getD i default)).run Tryz.prog w'=.ok (.value v) w')(j:∀ c a w,Q (.panic c) (a.put d v) w->Q (.panic c) a w)(hS:S w)(h:wpAnyH Tryz.prog .any ops Q S fuel (listed.setIfInBounds i true) (a.put d v) w):wpAnyH Tryz.prog .any ops Q S (fuel + 1) listed a w:=by
 simp only[ia,Bool.and_eq_true,decide_eq_true_eq] at hc;obtain⟨⟨⟨⟨⟨e,k⟩,b⟩,f⟩,g⟩,l⟩:=hc;subst l;exact wpAnyH_take (bM f) e k b j (.inl ⟨g,hy⟩) hS h
theorem iM(i:Nat)(d:Option Tmp)(v b:Value)(hv:v=b)(hc:ia ops listed a i d=true)(hy:∀ w',S w'->(execOp a.eval (ops.getD i default)).run Tryz.prog w'=.ok (.value v) w')(e:∀ c a w,Q (.panic c) (a.put d b) w->Q (.panic c) a w)(hS:S w)(h:wpAnyH Tryz.prog .any ops Q S fuel (listed.setIfInBounds i true) (a.put d b) w):wpAnyH Tryz.prog .any ops Q S (fuel + 1) listed a w:=by
 subst hv;exact ai i d v hc hy e hS h
theorem cj(i:Nat)(d:Option Tmp)(hc:DO ops listed a i d=true)(j:∀ c a w,Q (.panic c) (a.put d undef) w->Q (.panic c) a w)(hS:S w)(h:wpAnyH Tryz.prog .any ops Q S fuel (listed.setIfInBounds i true) (a.put d undef) w):wpAnyH Tryz.prog .any ops Q S (fuel + 1) listed a w:=by
 simp only[DO,Bool.and_eq_true,decide_eq_true_eq,Bool.not_eq_true'] at hc;obtain⟨⟨⟨⟨⟨e,k⟩,b⟩,f⟩,g⟩,l⟩:=hc;subst l;exact wpAnyH_take (bM f) e k b j (.inr ⟨g,rfl⟩) hS h
theorem aO(i:Nat)(d:Option Tmp)(v:Value)(T:TypeId)(k g o:Nat)(hc:ia ops listed a i d=true)(e:(ops.getD i default).op=.load T (.tmp k))(j:a.eval (.tmp k)=.pointer (some ⟨g,o,none⟩))(l:∀ w',S w'->(loadVar T ⟨g,o,none⟩).run Tryz.prog w'=.ok v w')(f:∀ c a w,Q (.panic c) (a.put d v) w->Q (.panic c) a w)(hS:S w)(h:wpAnyH Tryz.prog .any ops Q S fuel (listed.setIfInBounds i true) (a.put d v) w):wpAnyH Tryz.prog .any ops Q S (fuel + 1) listed a w :=
 ai i d v hc (fun w' b=>by
  have:=l w' b;simp only[execOp,e,j]
  simp[Instr.loadAt,Instr.sureAddr,Result.andThen,this]) f hS h
theorem bN(i:Nat)(d:Option Tmp)(f:FuncId)(args:Array Value)(hc:gC ops listed a i d=true)(c:(execOp a.eval (ops.getD i default)).run Tryz.prog w=.ok (.enter f args) w)(b:Calls Tryz.prog f args w Qc)(p:∀ e w',Qc e w'->∃ v,e=.returned v/\S w'/\wpAnyH Tryz.prog .any ops Q S fuel (listed.setIfInBounds i true) (a.put d v) w') :
  wpAnyH Tryz.prog .any ops Q S (fuel + 1) listed a w:=by
 simp only[gC,Bool.and_eq_true,decide_eq_true_eq] at hc;obtain⟨⟨⟨l,n⟩,o⟩,h⟩:=hc;subst h;refine wpAnyH_all l (by simp) fun j k => ?_
 obtain rfl:j=i:=by simpa using k
 refine wpOp_step (bM n) fun K m => ?_
 rw[if_pos o];unfold Oper.wp;rw[c];refine b.mono fun e w' he => ?_
 obtain⟨v,rfl,g,hw⟩:=p e w' he;exact m _ _ ⟨g,hw⟩
theorem bF(hr:Region.ready .any ops listed=[])(h:Q .normal a w):wpAnyH Tryz.prog .any ops Q S fuel listed a w:=wpAnyH_done hr h fuel
theorem bT{id:Nat}(hm:Tryz.prog.follows .mixedOrders=true)(hS:S w.drew)(h:wpAnyH Tryz.prog .any ops Q S ops.size (Array.replicate ops.size false) a w.drew):(Code.region id ops true).wp Tryz.prog Q a w :=
 wp_region_held_drew hm hS fun _=>h
end
end
def iV (a:Act):List (Option Tmp × Value)->Act
 | []=>a
 | p :: l=>iV (a.put p.1 p.2) l
section
variable {ops:Array Oper} {Q:Exit->Act->World->Prop} {S:World->Prop} {fuel:Nat} {listed:Array Bool} {a:Act} {w:World}
section
variable {K:Act->World->Prop}{rs:List Nat}{Qc:Ending->World->Prop}
theorem qu{X:Type}{id:Nat}{c:Exit->Act->World->Prop}(upd:X->List (Option Tmp × Value))(F:X->World->Prop)(S:World->Prop)(hm:Tryz.prog.follows .mixedOrders=true)(hS:S w.drew)(b:wpAnyH Tryz.prog .any ops (Exit.then (fun a' w'=>∃ x,a'=iV a (upd x)/\F x w') (fun _ _ _=>False)) S ops.size (Array.replicate ops.size false) a w.drew)(d:∀ x w',F x w'->K (iV a (upd x)) w'):(Code.region id ops true).wp Tryz.prog (Exit.then K c) a w :=
 Code.wp_mono (fun e a' w' h=>by
  cases e<;>first
   | (obtain⟨x,rfl,hF⟩:=h; exact d x w' hF)
   | exact h.elim) (wp_region_held_drew (S:=S) hm hS fun _=>b)
def eW(ops:Array Oper)(a:Act)(i:Nat)(d:Option Tmp):Bool :=
 decide (i < ops.size) && Region.wanted (ops.getD i default) (yielded ops a.tmps) && decide ((ops.getD i default).dst=d)
theorem aK(rs:List Nat)(hr:Region.ready .any ops listed=rs)(hne:rs≠[])(h:AllReadyH Tryz.prog .any ops Q S fuel listed a w rs):wpAnyH Tryz.prog .any ops Q S (fuel + 1) listed a w:=wpAnyH_ready hr hne h
theorem aW:AllReadyH Tryz.prog .any ops Q S fuel listed a w []:=AllReadyH.nil
theorem uO(i:Nat)(d:Option Tmp)(f:FuncId)(args:Array Value)(hc:eW ops a i d=true)(c:(execOp a.eval (ops.getD i default)).run Tryz.prog w=.ok (.enter f args) w)(b:Calls Tryz.prog f args w Qc)(m:∀ e w',Qc e w'->∃ v,e=.returned v/\S w'/\wpAnyH Tryz.prog .any ops Q S fuel (listed.setIfInBounds i true) (a.put d v) w')(hs:AllReadyH Tryz.prog .any ops Q S fuel listed a w rs):AllReadyH Tryz.prog .any ops Q S fuel listed a w (i :: rs):=by
 simp only[eW,Bool.and_eq_true,decide_eq_true_eq] at hc;obtain⟨⟨k,l⟩,h⟩:=hc;subst h;refine AllReadyH.cons (bM k) (fun K j => ?_) hs;rw[if_pos l];unfold Oper.wp;rw[c];refine b.mono fun e w' he => ?_
 obtain⟨v,rfl,g,hw⟩:=m e w' he;exact j.out _ _ g fun _=>hw
theorem bH(i:Nat)(d:Option Tmp)(v:Value)(w1:World)(hc:eW ops a i d=true)(b:(execOp a.eval (ops.getD i default)).run Tryz.prog w=.ok (.value v) w1)(c:S w1)(h:wpAnyH Tryz.prog .any ops Q S fuel (listed.setIfInBounds i true) (a.put d v) w1)(hs:AllReadyH Tryz.prog .any ops Q S fuel listed a w rs):AllReadyH Tryz.prog .any ops Q S fuel listed a w (i :: rs):=by
 simp only[eW,Bool.and_eq_true,decide_eq_true_eq] at hc;obtain⟨⟨g,j⟩,e⟩:=hc;subst e;refine AllReadyH.cons (bM g) (fun K f => ?_) hs;rw[if_pos j];unfold Oper.wp;rw[b]
 show K (a.put (ops.getD i default).dst v) w1
 exact f.out _ _ c fun _=>h
theorem dk(i:Nat)(w1:World)(hc:eW ops a i none=true)(b:(execOp a.eval (ops.getD i default)).run Tryz.prog w=.ok .skip w1)(c:S w1)(h:wpAnyH Tryz.prog .any ops Q S fuel (listed.setIfInBounds i true) (a.put none undef) w1)(hs:AllReadyH Tryz.prog .any ops Q S fuel listed a w rs):AllReadyH Tryz.prog .any ops Q S fuel listed a w (i :: rs):=by
 simp only[eW,Bool.and_eq_true,decide_eq_true_eq] at hc;obtain⟨⟨f,g⟩,d⟩:=hc;refine AllReadyH.cons (bM f) (fun K e => ?_) hs;rw[if_pos g];unfold Oper.wp;rw[b]
 show K (a.put (ops.getD i default).dst undef) w1
 rw[d];exact e.out _ _ c fun _=>h
end
end
section
variable {a:Act}{w:World}{x y k n c g off:Nat}{o:Oper}{v u:Value}{ao bo:Option Addr}
theorem eB{op:Oper}{T:TypeId}{b:Nat}(l:op.op=.indexAddr T (.tmp x) (.tmp y))(q:Tryz.prog.underlying T=some (.slice 199))(hx:a.eval (.tmp x)=.slice (some ⟨b,0,none⟩) n c){z:Int}(hy:a.eval (.tmp y)=.int .i64 z)(g:z=(k:Int))(o:k < n):(execOp a.eval op).run Tryz.prog w=.ok (.value (.pointer (some ⟨b,k,none⟩))) w:=by
 subst g
 have p:(k:Int) < n:=by omega
 have m:¬ ((k:Int) < 0):=by omega
 obtain⟨i0,hi,f,d,j⟩:=info_parts (P:=Tryz.prog) (show (Tryz.prog.info? 199).map (fun i=>(i.zero,i.size,i.bytes))=some (some (.slice none 0 0),1,24) by kernel_rfl);simp only[execOp,l,hx,hy];go_simp
theorem fX{o:Nat}(c:w.cell? ⟨g,o,none⟩=some v):(loadVar 142 ⟨g,o,none⟩).run Tryz.prog w=.ok v w:=by go_simp
theorem p8{o:Nat}(c:w.cell? ⟨g,o,none⟩=some v):(loadVar 199 ⟨g,o,none⟩).run Tryz.prog w=.ok v w:=by go_simp
theorem ld_e(c:w.cell? ⟨g,0,none⟩=some v)(d:w.cell? ⟨g,1,none⟩=some u):(loadVar 196 ⟨g,0,none⟩).run Tryz.prog w=.ok (.agg #[v,u]) w:=by go_simp
theorem iW{T:TypeId}(k:Nat)(b:o.op=.load T (.tmp k))(c:a.eval (.tmp k)=.pointer (some ⟨g,off,none⟩))(d:(loadVar T ⟨g,off,none⟩).run Tryz.prog w=.ok v w):(execOp a.eval o).run Tryz.prog w=.ok (.value v) w:=by
 simp only[execOp,b,c];simp[Instr.loadAt,Instr.sureAddr,Result.andThen,d]
theorem jX(k q:Nat)(d:o.op=.store 199 (.tmp k) (.tmp q))(b:a.eval (.tmp k)=.pointer (some ⟨g,off,none⟩))(f:a.eval (.tmp q)=.slice ao n c)(hc:w.cell? ⟨g,off,none⟩=some u)(hf:w.frozen? ⟨g,off,none⟩=false) :
  (execOp a.eval o).run Tryz.prog w=.ok .skip (w.setCell ⟨g,off,none⟩ (.slice ao n c)):=by
 simp only[execOp,d,b,f];go_simp
theorem qq{kv vv:Value}(b:o.op=.buildSlice 199 1 #[(0,.tmp k)])(c:a.eval (.tmp k)=.agg #[kv,vv]):(execOp a.eval o).run Tryz.prog w=.ok (.value (.slice (some ⟨w.heap.size,0,none⟩) 1 1)) (w.alloc (.cells #[kv,vv] 196)):=by
 have d:a.tmps[k]?.getD undef=.agg #[kv,vv]:=by simpa[Act.eval] using c
 simp only[execOp,b];go_simp
theorem Cr{m d:Nat}(b:o.op=.buildSlice 142 2 #[(0,.tmp x),(1,.tmp y)])(hx:a.eval (.tmp x)=.slice ao n c)(hy:a.eval (.tmp y)=.slice bo m d):(execOp a.eval o).run Tryz.prog w=.ok (.value (.slice (some ⟨w.heap.size,0,none⟩) 2 2)) (w.alloc (.cells #[.slice ao n c,.slice bo m d] 199)):=by
 have f:a.tmps[x]?.getD undef=.slice ao n c:=by simpa[Act.eval] using hx
 have g:a.tmps[y]?.getD undef=.slice bo m d:=by simpa[Act.eval] using hy
 simp only[execOp,b];go_simp
end
end Pg
end
section
namespace Pg
open Go.RowKit Go.Lib
section
variable {w:World}{D F:Nat → Prop}{p:Pg}{es:List En}{g G i j:Nat}{v u c0:Value}{L:List Pg}
theorem Dp{D:Nat->Prop}(h:PgA w D p)(hs:∀ e∈es,e∈p.es):∀ e∈es,EnA w D e:=fun e he=>h.dH e (hs e he)
theorem bV(w:World):Below w.heap.size w w.drew:=⟨rfl,rfl,rfl,Nat.le_refl _,fun _ _=>rfl⟩
theorem bQ(h:g≠G)(hc:w.cell? ⟨g,j,none⟩=some u):(w.setCell ⟨G,i,none⟩ v).cell? ⟨g,j,none⟩=some u:=by
 rw[World.cell?_of_block (w:=w) (a:=⟨g,j,none⟩) (Below.heap_setCell w _ v g h)]; exact hc
theorem Cn{α:Type}(L:List α)(i:Nat)(a b:α)(h:i < L.length):(L.set i a).take (i + 1) ++ [b] ++ (L.set i a).drop (i + 1)=L.take i ++ [a,b] ++ L.drop (i + 1):=by
 have e1:(L.set i a).take (i + 1)=L.take i ++ [a]:=by
  rw[List.take_add_one,List.take_set_of_le (Nat.le_refl _),List.getElem?_set_self h]; rfl
 rw[e1,List.drop_set_of_lt (by omega)];simp
theorem wM{c f t:World}{E:Nat → Prop}{n m C b2 c2 s I:Nat}{q1:Pg}(M : bJ c E D g (L.set i q1))(l : ∀ b, E b → F b ∨ w.heap.size ≤ b)(K : Chg F w c)(hgx : Blk c g [.slice (some ⟨G, 0, none⟩) (L.set i q1).length C] 144)(V : Blk f g [c0] 144)(Q : E g)(u : E G)(A : Rw c 199 1 G (L.set i q1).length C ((L.set i q1).map Pg.v))(S : g ≠ G)(U : i < L.length)(R : q1.es = es.take 16)(z : (es.drop 16).length = m - 16)(hnn : L.length = n)(P : Below c.drew.heap.size c.drew f)(T : c.drew.heap.size ≤ b2)(R3 : Rw f 196 2 b2 (m - 16) c2 (flat (es.drop 16)))(E0 : ∀ e ∈ es, EnA c.drew D e)(O : s = G ∨ f.heap.size + 1 ≤ s)(R5 : Rw t 199 1 s (n + 1) I (((L.set i q1).map Pg.v).take (i + 1) ++ [.slice (some ⟨b2, 0, none⟩) (m - 16) c2] ++ ((L.set i q1).map Pg.v).drop (i + 1)))(B : Chg (· = G) (f.alloc (.cells #[.slice (some ⟨b2, 0, none⟩) (m - 16) c2] 199)) t) :
    ∃ F' p1 p2, Ending.returned (.tuple #[]) = Ending.returned (.tuple #[]) ∧ p1.es = es.take 16 ∧ p2.es = es.drop 16 ∧ bJ (t.setCell ⟨g, 0, none⟩ (.slice (some ⟨s, 0, none⟩) (n + 1) I)) F' D g (L.take i ++ [p1, p2] ++ L.drop (i + 1)) ∧ (∀ b, F' b → F b ∨ w.heap.size ≤ b) ∧ Chg F w (t.setCell ⟨g, 0, none⟩ (.slice (some ⟨s, 0, none⟩) (n + 1) I)) := by
  obtain⟨q, o⟩ : ∃ q, q = f.alloc (.cells #[.slice (some ⟨b2, 0, none⟩) (m - 16) c2] 199) := ⟨_, rfl⟩
  have H : Below c.heap.size c q := by rw[o]; exact aj (aj (bV c) P) (ae f _)
  have j : Below f.heap.size f q := by rw[o]; exact ae f _
  rw[← o] at B;have J := M.keep H
  have r : PgA q D ⟨b2, c2, es.drop 16⟩:= by
    refine⟨?_, fun e he => ((E0 e (List.mem_of_mem_drop he)).keep P).keep j⟩
    show Rw q _ 2 b2 (es.drop 16).length c2 _
    rw[z]; exact R3.keep j
  have Y : c.heap.size ≤ b2 := T
  have N : (⟨b2, c2, es.drop 16⟩ : Pg).v = .slice (some ⟨b2, 0, none⟩) (m - 16) c2 := by simp only[Pg.v]; rw[z]
  have y : ∀ p ∈ (L.set i q1).take (i + 1) ++ [(⟨b2, c2, es.drop 16⟩ : Pg)] ++ (L.set i q1).drop (i + 1), p ∈ L.set i q1 ∨ p = ⟨b2, c2, es.drop 16⟩:= fun p d => by
    rcases List.mem_append.1 d with h | h
    · rcases List.mem_append.1 h with h | h
      · exact .inl (List.mem_of_mem_take h)
      · exact .inr (by simpa using h)
    · exact .inl (List.mem_of_mem_drop h)
  have hlen : ((L.set i q1).take (i + 1) ++ [(⟨b2, c2, es.drop 16⟩ : Pg)] ++ (L.set i q1).drop (i + 1)).length = n + 1 := by
    simp; omega
  have hold : ∀ p ∈ L.set i q1, p.b ≠ b2 := fun p d => by
    have := (M.bX p d).1.row.lt;omega
  obtain⟨A5, C6⟩:= j1 (w := q) (w1 := t) (F := fun x => E x ∨ x = b2) (D := D) (g := g) (G := G) (G' := s) (C' := I) (n := n + 1) (L' := (L.set i q1).take (i + 1) ++ [(⟨b2, c2, es.drop 16⟩ : Pg)] ++ (L.set i q1).drop (i + 1))
    (fun p d => by
      rcases y p d with h | rfl
      · exact⟨(J.bX p h).1, .inl (J.bX p h).2⟩
      · exact⟨r, .inr rfl⟩)
    (by
      have hn := M.apart
      have e : (L.set i q1).map Pg.b = ((L.set i q1).take (i + 1)).map Pg.b ++ ((L.set i q1).drop (i + 1)).map Pg.b := by rw[← List.map_append, List.take_append_drop]
      rw[e] at hn
      have X : ∀ x ∈ ((L.set i q1).take (i + 1)).map Pg.b, x ≠ b2 := fun x hx => by
        obtain⟨p, d, rfl⟩:= List.mem_map.1 hx;exact hold p (List.mem_of_mem_take d)
      have Z : ∀ x ∈ ((L.set i q1).drop (i + 1)).map Pg.b, x ≠ b2 := fun x hx => by
        obtain⟨p, d, rfl⟩:= List.mem_map.1 hx;exact hold p (List.mem_of_mem_drop d)
      simp only[List.map_append, List.map_cons, List.map_nil];rw[List.nodup_append] at hn;rw[List.append_assoc, List.nodup_append];refine⟨hn.1, ?_, ?_⟩
      · rw[List.singleton_append, List.nodup_cons]
        exact⟨fun h => Z b2 h rfl, hn.2.1⟩
      · intro a W b hb
        rcases List.mem_append.1 hb with hb | hb
        · simp at hb; subst hb; exact X a W
        · exact hn.2.2 a W b hb)
    (fun b hb => by
      rcases hb with h | rfl
      · exact J.kind b h
      · obtain⟨ds, k⟩:= r.row.kind
        exact⟨ds, _, k, by decide⟩)
    (V.keep j) (.inl Q) (.inl u) (fun e => S e.symm) B
    (fun p d => by
      rcases y p d with h | rfl
      · exact(J.bX p h).1.eU (A.keep H)
      · exact r.eU (A.keep H)) hlen
    (by simpa[List.map_take, List.map_drop, N] using R5)
  rw[Cn L i q1 _ U] at A5;refine⟨_, q1, ⟨b2, c2, es.drop 16⟩, rfl, R, rfl, A5, fun b hb => ?_, (K.trans (Chg.of (F := F) H) (fun _ _ h => h)).trans C6 fun b hb h => ?_⟩
  · rcases hb with⟨h | rfl, _⟩ | rfl
    · exact l b h
    · exact .inr (by have := K.size; omega)
    · rcases O with rfl | h
      · exact l _ u
      · have Z := P.size
        have X := K.size
        have : c.drew.heap.size = c.heap.size := rfl;exact .inr (by omega)
  · rcases h with h | rfl
    · exact(l b h).resolve_right (by omega)
    · have := K.size; omega
theorem xK(h:j≠i)(hc:w.cell? ⟨G,j,none⟩=some u):(w.setCell ⟨G,i,none⟩ v).cell? ⟨G,j,none⟩=some u:=by
 have a:=aI hc;simp only[World.cell?,World.setCell,Array.getElem?_modify,if_true] at hc ⊢
 cases hh:w.heap[G]? with
 | none=>rw[hh] at hc; simp at hc
 | some ob =>
  rw[hh] at hc
  cases ob with
  | cells c e f =>
   simp at hc ⊢;rw[Array.getElem?_setIfInBounds,if_neg (by omega)]; exact hc
  | _=>simp at hc
theorem jU(A : bJ w F D g L)(hi : L[i]? = some p)(h1 : 17 ≤ p.es.length)(h2 : p.es.length ≤ 1000)(hn : L.length ≤ 100000000) :
    Calls Tryz.prog 194 #[.pointer (some ⟨g, 0, none⟩), .int .i64 i] w fun e w' => ∃ F' p1 p2, e = .returned (.tuple #[]) ∧ p1.es = p.es.take 16 ∧ p2.es = p.es.drop 16 ∧ bJ w' F' D g (L.take i ++ [p1, p2] ++ L.drop (i + 1)) ∧ (∀ b, F' b → F b ∨ w.heap.size ≤ b) ∧ Chg F w w' := by
  have U := (List.getElem?_eq_some_iff.1 hi).1
  have hL : L ≠ [] := fun e => by subst e; simp at U
  obtain⟨G, C, hg, hFg, hFG, J⟩:= A.opn hL;have M := A.bX p (List.mem_of_getElem? hi);have cg := hg.cell (i := 0) rfl;have cG := J.cell (i := i) (v := p.v) (by simp[hi]);have hpc := M.1.row.le;have hCC := J.le;simp only[maxLen] at hpc hCC
  have N : w.drew.cell? ⟨g, 0, none⟩ = some (.slice (some ⟨G, 0, none⟩) L.length C) := cg
  have t1 := Ak (w := w.drew) (a := ⟨p.b, 0, none⟩) (n := 16) (c := p.c) (xs := flat (p.es.take 16)) (by decide) (by rw[jo, List.length_take]; omega) (fun j v H => by
    rw[Addr.add_lit, Nat.zero_add]
    have : (flat p.es)[j]? = some v := by
      rw[← ig, List.getElem?_take] at H;split at H
      · exact H
      · cases H
    exact M.1.row.drew.cell this) (jF (Dp M.1 fun e he => List.mem_of_mem_take he))
  obtain⟨n, u⟩ : ∃ n, Hid (L.length = n) := ⟨_, rfl⟩;obtain⟨m, o⟩ : ∃ m, Hid (p.es.length = m) := ⟨_, rfl⟩;simp only[Pg.v] at cG;rw[u.out] at cg N;rw[o.out] at cG
  have z1 : (i : Int) < n := by have := u.out; omega
  have z2 : m ≤ p.c := by have := o.out; omega
  have z3 : p.c ≤ 9223372036854775807 := by omega
  have z4 : 17 ≤ m := by have := o.out; omega
  have z5 : 16 ≤ p.c := by omega
  have z6 : (16 : Int) ≤ (p.c : Int) := by omega
  have r : g ≠ G := fun e => J.eQ hg e.symm
  have mixed := mixed;go_enter Tryz.func194, Tryz.ntmps194;go_wp2;go_region_held3 (fun w' => w'.cell? ⟨g, 0, none⟩ = some (.slice (some ⟨G, 0, none⟩) n C)) (first | assumption | exact bQ r (by assumption))
    (first
    | (go_at_call 226; refine t1.mono ?_; rintro e' q ⟨b1, c1, rfl, V, R1, s⟩; have cg1 : q.cell? ⟨g, 0, none⟩ = some (.slice (some ⟨G, 0, none⟩) n C) := (s.cell (p := ⟨g, 0, none⟩) (aI N)).trans N; have cG1 : q.cell? ⟨G, i, none⟩ = some (.slice (some ⟨p.b, 0, none⟩) m p.c) := (s.cell (p := ⟨G, i, none⟩) (aI (w := w.drew) cG)).trans cG; have fG1 : q.frozen? ⟨G, i, none⟩ = false := (J.drew.keep s).free i))
  obtain⟨q1, l⟩ : ∃ q1 : Pg, Hid (q1 = ⟨b1, c1, p.es.take 16⟩) := ⟨_, rfl⟩
  have y : (p.es.take 16).length = 16 := by rw[List.length_take]; omega
  have R : q1.v = .slice (some ⟨b1, 0, none⟩) 16 c1 := by rw[l.out]; simp only[Pg.v]; rw[y]
  have ab : PgA q D q1 := by
    rw[l.out];refine⟨?_, fun e he => ((M.1.dH e (List.mem_of_mem_take he)).keep (bV w)).keep s⟩
    show Rw q _ 2 b1 (p.es.take 16).length c1 _
    rw[y]; exact R1
  obtain⟨A2, C2⟩:= A.put (p' := q1) (D' := D) hg hFg hFG J hi (Chg.of (aj (bV w) s)) (.inr (by rw[l.out]; exact V)) ab (fun _ _ h => h);rw[R] at A2 C2
  have R0 : Rw (q.setCell ⟨G, i, none⟩ (.slice (some ⟨b1, 0, none⟩) 16 c1)) 196 2 p.b p.es.length p.c (flat p.es) := ((M.1.row.keep (bV w)).keep s).same (Below.heap_setCell q _ _ _ (M.1.eU J))
  have E0 : ∀ e ∈ p.es, EnA (q.setCell ⟨G, i, none⟩ (.slice (some ⟨b1, 0, none⟩) 16 c1)) D e := fun e he => (((M.1.dH e he).keep (bV w)).keep s).off fun b hb hk => by
    obtain⟨cs, k⟩:= hk;obtain⟨ds, k'⟩:= (J.drew.keep s).kind;exact Below.heap_setCell q _ _ b (ez k k' (by decide))
  have hw1l : w.heap.size ≤ (q.setCell ⟨G, i, none⟩ (.slice (some ⟨b1, 0, none⟩) 16 c1)).heap.size := C2.size
  have Y : q1.b = b1 := by rw[l.out]
  have S : q1.es = p.es.take 16 := by rw[l.out]
  have d := (hg.drew.keep s).off r (i := i) (.slice (some ⟨b1, 0, none⟩) 16 c1)
  have hF2 : ∀ b, ((F b ∧ b ≠ p.b) ∨ b = q1.b) → F b ∨ w.heap.size ≤ b := fun b h => h.imp (fun h => h.1) (fun h => by rw[h, Y]; exact V)
  generalize (q.setCell ⟨G, i, none⟩ (.slice (some ⟨b1, 0, none⟩) 16 c1)) = O at *;generalize hF2d : (fun x => (F x ∧ x ≠ p.b) ∨ x = q1.b) = F2 at A2;obtain⟨t, P, X, Q, T, K⟩:= A2.opn (by simp[hL]);obtain⟨rfl, rfl⟩ : t = G ∧ P = C := by
    have := (X.eq d).1;simp at this;exact⟨this.1, this.2⟩
  have W : ∀ b, F2 b → F b ∨ w.heap.size ≤ b := fun b h => hF2 b (by rw[← hF2d] at h; exact h)
  have cg2 : O.cell? ⟨g, 0, none⟩ = some (.slice (some ⟨t, 0, none⟩) n P) := by
    have := d.cell (i := 0) rfl;rwa [u.out] at this
  have B : O.drew.cell? ⟨g, 0, none⟩ = some (.slice (some ⟨t, 0, none⟩) n P) := cg2
  have Z : (p.es.drop 16).length = m - 16 := by rw[List.length_drop, o.out]
  have t2 := Ak (w := O.drew) (a := ⟨p.b, 32, none⟩) (n := m - 16) (c := p.c - 16) (xs := flat (p.es.drop 16)) (by have := o.out; omega) (by rw[jo, Z]) (fun j v H => by
    rw[Addr.add_lit]
    have : (flat p.es)[32 + j]? = some v := by
      rw[← im, List.getElem?_drop] at H;exact H
    exact R0.drew.cell this) (jF (w := O) (D := D) (fun e he => E0 e (List.mem_of_mem_drop he)))
  have zz1 : IntKind.i64.wrap ((i : Int) + 1) = (i : Int) + 1 := by rw[IntKind.wrap_i64]; have := u.out; omega
  have zz2 : ¬ (p.c = 16) := by omega
  have zz3 : (16 : Int) ≤ m := by omega
  have t3 : ∀ (f : World) (b2 c2 : Nat), Below O.drew.heap.size O.drew f → Calls Tryz.prog 227 #[.slice (some ⟨t, 0, none⟩) n P, .int .i64 ((i : Int) + 1), .slice (some ⟨f.heap.size, 0, none⟩) 1 1] (f.alloc (.cells #[.slice (some ⟨b2, 0, none⟩) (m - 16) c2] 199)) fun e w' => ∃ b' c', e = .returned (.slice (some ⟨b', 0, none⟩) (n + 1) c') ∧ (b' = t ∨ f.heap.size + 1 ≤ b') ∧ Rw w' 199 1 b' (n + 1) c' (((L.set i q1).map Pg.v).take (i + 1) ++ [.slice (some ⟨b2, 0, none⟩) (m - 16) c2] ++ ((L.set i q1).map Pg.v).drop (i + 1)) ∧ Chg (· = t) (f.alloc (.cells #[.slice (some ⟨b2, 0, none⟩) (m - 16) c2] 199)) w' := fun f b2 c2 z => by
    have hk := (K.drew.keep z).keep (ae f (.cells #[.slice (some ⟨b2, 0, none⟩) (m - 16) c2] 199));rw[List.length_set, u.out] at hk
    have hGl : t < f.heap.size := (K.drew.keep z).lt;have := insP (i := i + 1) hk (aC f [.slice (some ⟨b2, 0, none⟩) (m - 16) c2] 199) (by omega) (by have := u.out; omega) (by have := u.out; omega) (sK _) (by simp[Value.oneCell']);rw[World.size_alloc] at this;simpa using this
  go_wp2
  go_region_with (first
    | (go_at_call 226; refine t2.mono ?_; rintro e' f ⟨b2, c2, rfl, hb2, R3, z⟩; have cg3 : f.cell? ⟨g, 0, none⟩ = some (.slice (some ⟨t, 0, none⟩) n P) := (z.cell (p := ⟨g, 0, none⟩) (aI B)).trans B; have E := mM cg3 (.cells #[.slice (some ⟨b2, 0, none⟩) (m - 16) c2] 199))
    | (go_at_call 227; refine(t3 f b2 c2 z).mono ?_; rintro e' w5 ⟨G5, C5, rfl, hb5, R5, I⟩; have cg5 : w5.cell? ⟨g, 0, none⟩ = some (.slice (some ⟨t, 0, none⟩) n P) := (World.cell?_of_block (w := f.alloc (.cells #[.slice (some ⟨b2, 0, none⟩) (m - 16) c2] 199)) (a := ⟨g, 0, none⟩) (I.same g (aI E) r)).trans E; have fg5 : w5.frozen? ⟨g, 0, none⟩ = false := (((d.drew.keep z).keep (ae f _)).chg I r).free 0))
  all_goals go_wp2
  all_goals go_end0
  all_goals exact wM A2 W C2 X (d.drew.keep z) Q T K r U S Z u.out z hb2 R3 (fun e he => (E0 e he).keep (bV O)) hb5 R5 I
end
end Pg
end
section
namespace Pg
open Go.RowKit Go.Lib
section
variable {L:List Pg}{i:Nat}{p:Pg}{w:World}{F D:Nat->Prop}
def qE(P:List (List En))(i q:Nat)(e:En):List (List En) :=
 let es:=(P.getD i []).take q ++ [e] ++ (P.getD i []).drop q
 if 32 < es.length then P.take i ++ [es.take 16,es.drop 16] ++ P.drop (i + 1) else P.set i es
theorem qd(L:List Pg)(i:Nat)(p:Pg):ens (L.set i p)=(ens L).set i p.es:=by simp[ens,List.map_set]
theorem eI(h:L[i]? = some p):(ens L).getD i []=p.es:=by simp[ens,h]
theorem yP(es:List En)(q:Nat)(e:En):(flat es).take (q * 2) ++ [e.kv,e.vv] ++ (flat es).drop (q * 2)=flat (es.take q ++ [e] ++ es.drop q):=by
 rw[ig,im,ea,ea]; rfl
theorem s8{g q:Nat}{e:En}(A:bJ w F D g L)(hi:L[i]? = some p)(hq:q<=p.es.length)(h2:p.es.length<=32)(hn:L.length<=100000000)(hE:EnA w D e) :
  Calls Tryz.prog 147 #[.pointer (some ⟨g,0,none⟩),.int .i64 i,.int .i64 q,.agg #[e.kv,e.vv]] w fun e' w'=>∃ F' L',e'=.returned (.tuple #[])/\ens L'=qE (ens L) i q e/\bJ w' F' D g L'/\(∀ b,F' b->F b\/w.heap.size<=b)/\Chg F w w':=by
 have hil:=(List.getElem?_eq_some_iff.1 hi).1
 have hL:L≠[]:=fun e=>by subst e; simp at hil
 obtain⟨kv,kl,vv,vl⟩:=e;obtain⟨l,N⟩:∃ l,Hid (l=w.alloc (.cells #[kv,vv] 196)):=⟨_,rfl⟩
 have B0:Below w.heap.size w l:=by rw[N.out]; exact ae w _
 have X0:Blk l w.heap.size [kv,vv] 196:=by rw[N.out]; exact aC w [kv,vv] _
 have A0:=A.keep B0;obtain⟨G,C,hg,hFg,hFG,Y⟩:=A0.opn hL;have S:=A0.bX p (List.mem_of_getElem? hi);have cg:=hg.cell (i:=0) rfl;have cG:=Y.cell (i:=i) (v:=p.v) (by simp[hi]);have x0:=X0.cell (i:=0) rfl;have x1:=X0.cell (i:=1) rfl;have hpc:=S.1.row.le;have hCC:=Y.le;simp only[maxLen] at hpc hCC;obtain⟨n,V⟩:∃ n,Hid (L.length=n):=⟨_,rfl⟩
 obtain⟨m,T⟩:∃ m,Hid (p.es.length=m):=⟨_,rfl⟩
 simp only[Pg.v] at cG;rw[V.out] at cg;rw[T.out] at cG
 have z0:¬ ((n:Int)=0):=by have:=V.out; omega
 have z1:(i:Int) < n:=by have:=V.out; omega
 have cgd:l.drew.cell? ⟨g,0,none⟩=some (.slice (some ⟨G,0,none⟩) n C):=cg
 have x0d:l.drew.cell? ⟨w.heap.size,0,none⟩=some kv:=x0
 have x1d:l.drew.cell? ⟨w.heap.size,1,none⟩=some vv:=x1
 have cGd:l.drew.cell? ⟨G,i,none⟩=some (.slice (some ⟨p.b,0,none⟩) m p.c):=cG
 have af:g≠G:=fun e=>Y.eQ hg e.symm
 have U:w.heap.size≠G:=by have:=A.lt hFG; omega
 obtain⟨Q,M⟩:∃ Q,Hid (Q=l.drew.alloc (.cells #[kv,vv] 196)):=⟨_,rfl⟩
 have I:Below l.heap.size l Q:=by rw[M.out]; exact aj (bV l) (ae l.drew _)
 have hs0:l.heap.size=w.heap.size + 1:=by rw[N.out]; simp
 have V1:Blk Q l.heap.size [kv,vv] 196:=by rw[M.out]; exact aC l.drew [kv,vv] _
 have t1:=insE (i:=q) (S.1.row.keep I) V1 (by have:=S.1.row.lt; omega) hq (by omega) S.1.one (by have:=hE.k.one; have:=hE.v.one; simp_all);rw[T.out] at t1
 have j:Q.cell? ⟨g,0,none⟩=some (.slice (some ⟨G,0,none⟩) n C):=(I.cell (p:=⟨g,0,none⟩) (aI cg)).trans cg
 have u:Q.cell? ⟨w.heap.size,0,none⟩=some kv:=(I.cell (p:=⟨w.heap.size,0,none⟩) (aI x0)).trans x0
 have z:Q.cell? ⟨w.heap.size,1,none⟩=some vv:=(I.cell (p:=⟨w.heap.size,1,none⟩) (aI x1)).trans x1
 have r:Q.cell? ⟨G,i,none⟩=some (.slice (some ⟨p.b,0,none⟩) m p.c):=(I.cell (p:=⟨G,i,none⟩) (aI cG)).trans cG
 have ng:g≠p.b:=fun e=>S.1.eQ hg e.symm
 have nG:G≠p.b:=fun e=>S.1.eU Y e.symm
 have nx:w.heap.size≠p.b:=by have:=A.lt S.2; omega
 have mixed:=mixed
 have ad:i < n:=by have:=V.out; omega
 go_enter Tryz.func147,Tryz.ntmps147;have cgw:=cg;rw[N.out] at cgw;go_wp2;rw[<- N.out];have W:=(show _/\_/\_ from⟨j,u,z⟩)
 have J:=r;rw[M.out] at W J t1
 have ab:Tryz.prog.underlying 142=some (.slice 199):=by kernel_rfl
 refine qu (X:=Nat × Nat) (fun x=>[(some 23,.pointer (some ⟨g,0,none⟩)),(some 24,.pointer (some ⟨g,0,none⟩)),(some 25,.pointer (some ⟨g,0,none⟩)),(some 26,.slice (some ⟨G,0,none⟩) n C),(some 27,.int .i64 i),(some 28,.pointer (some ⟨g,0,none⟩)),(some 29,.pointer (some ⟨g,0,none⟩)),(some 30,.pointer (some ⟨g,0,none⟩)),(some 31,.slice (some ⟨G,0,none⟩) n C),(some 32,.int .i64 i),(some 33,.pointer (some ⟨G,i,none⟩)),(some 34,.slice (some ⟨p.b,0,none⟩) m p.c),(some 35,.int .i64 q),(some 36,.agg #[kv,vv]),(some 37,.slice (some ⟨l.heap.size,0,none⟩) 1 1),(some 38,.slice (some ⟨x.1,0,none⟩) (m + 1) x.2),(some 39,.pointer (some ⟨G,i,none⟩))]) (fun x w'=>∃ d,w'=d.setCell ⟨G,i,none⟩ (.slice (some ⟨x.1,0,none⟩) (m + 1) x.2)/\(x.1=p.b\/Q.heap.size<=x.1)/\Rw d 196 2 x.1 (m + 1) x.2 ((flat p.es).take (q * 2) ++ [kv,vv] ++ (flat p.es).drop (q * 2))/\Chg (· = p.b) Q d) (fun w'=>w'.cell? ⟨g,0,none⟩=some (.slice (some ⟨G,0,none⟩) n C)/\w'.cell? ⟨w.heap.size,0,none⟩=some kv/\w'.cell? ⟨w.heap.size,1,none⟩=some vv) (by kernel_rfl) ⟨cgd,x0d,x1d⟩ ?_ ?_
 ·have hS:=(show _/\_/\_ from⟨cgd,x0d,x1d⟩)
  refine ai 0 (some 23) (.pointer (some ⟨g,0,none⟩)) (by kernel_rfl) (fun _ _=>by kernel_rfl) (fun _ _ _ h=>h) hS ?_
  refine ai 1 (some 24) (.pointer (some ⟨g,0,none⟩)) (by kernel_rfl) (fun _ _=>by kernel_rfl) (fun _ _ _ h=>h) hS ?_
  refine ai 2 (some 25) (.pointer (some ⟨g,0,none⟩)) (by kernel_rfl) (fun _ _=>by kernel_rfl) (fun _ _ _ h=>h) hS ?_
  refine aO 3 (some 26) (.slice (some ⟨G,0,none⟩) n C) 142 25 (g) (0) (by kernel_rfl) (by kernel_rfl) (by kernel_rfl) (fun w' h=>fX h.1) (fun _ _ _ h=>h) hS ?_
  refine ai 4 (some 27) (.int .i64 i) (by kernel_rfl) (fun _ _=>by kernel_rfl) (fun _ _ _ h=>h) hS ?_
  refine ai 5 (some 28) (.pointer (some ⟨g,0,none⟩)) (by kernel_rfl) (fun _ _=>by kernel_rfl) (fun _ _ _ h=>h) hS ?_
  refine ai 6 (some 29) (.pointer (some ⟨g,0,none⟩)) (by kernel_rfl) (fun _ _=>by kernel_rfl) (fun _ _ _ h=>h) hS ?_
  refine ai 7 (some 30) (.pointer (some ⟨g,0,none⟩)) (by kernel_rfl) (fun _ _=>by kernel_rfl) (fun _ _ _ h=>h) hS ?_
  refine aO 8 (some 31) (.slice (some ⟨G,0,none⟩) n C) 142 30 (g) (0) (by kernel_rfl) (by kernel_rfl) (by kernel_rfl) (fun w' h=>fX h.1) (fun _ _ _ h=>h) hS ?_
  refine ai 9 (some 32) (.int .i64 i) (by kernel_rfl) (fun _ _=>by kernel_rfl) (fun _ _ _ h=>h) hS ?_
  refine ai 10 (some 33) (.pointer (some ⟨G,i,none⟩)) (by kernel_rfl) (fun _ _=>eB (x:=31) (y:=32) (n:=n) (c:=C) (by kernel_rfl) ab (by kernel_rfl) (by kernel_rfl) (rfl) (ad)) (fun _ _ _ h=>h) hS ?_
  refine ai 12 (some 35) (.int .i64 q) (by kernel_rfl) (fun _ _=>by kernel_rfl) (fun _ _ _ h=>h) hS ?_
  refine aO 13 (some 36) (.agg #[kv,vv]) 196 7 (w.heap.size) (0) (by kernel_rfl) (by kernel_rfl) (by kernel_rfl) (fun w' h=>ld_e h.2.1 h.2.2) (fun _ _ _ h=>h) hS ?_
  refine aK [11,14] (by kernel_rfl) (by simp) ?_
  refine bH 11 (some 34) (.slice (some ⟨p.b,0,none⟩) m p.c) _ (by kernel_rfl) (iW 33 (by kernel_rfl) (by kernel_rfl) (p8 cGd)) hS ?_ (bH 14 (some 37) (.slice (some ⟨l.heap.size,0,none⟩) 1 1) _ (by kernel_rfl) (qq (k:=36) (by kernel_rfl) (by kernel_rfl)) W ?_ aW)
  ·refine aK [14] (by kernel_rfl) (by simp) ?_
   refine bH 14 (some 37) (.slice (some ⟨l.heap.size,0,none⟩) 1 1) _ (by kernel_rfl) (qq (k:=36) (by kernel_rfl) (by kernel_rfl)) W ?_ aW;refine bN 15 (some 38) 193 #[.slice (some ⟨p.b,0,none⟩) m p.c,.int .i64 q,.slice (some ⟨l.heap.size,0,none⟩) 1 1] (by kernel_rfl) (by kernel_rfl) t1 ?_
   rintro e' d ⟨b2,c2,rfl,s,R2,o⟩;rw[<- M.out] at o s
   have t:d.cell? ⟨g,0,none⟩=_:=(World.cell?_of_block (a:=⟨g,0,none⟩) (o.same g (aI j) ng)).trans j
   have B:d.cell? ⟨w.heap.size,0,none⟩=_:=(World.cell?_of_block (a:=⟨w.heap.size,0,none⟩) (o.same _ (aI u) nx)).trans u
   have E:d.cell? ⟨w.heap.size,1,none⟩=_:=(World.cell?_of_block (a:=⟨w.heap.size,1,none⟩) (o.same _ (aI z) nx)).trans z
   have O:d.cell? ⟨G,i,none⟩=_:=(World.cell?_of_block (a:=⟨G,i,none⟩) (o.same _ (aI r) nG)).trans r
   have aa:d.frozen? ⟨G,i,none⟩=false:=((Y.keep I).chg o nG).free i;refine⟨_,rfl,⟨t,B,E⟩,?_⟩;replace hS:=(show _/\_/\_ from⟨t,B,E⟩)
   refine ai 16 (some 39) (.pointer (some ⟨G,i,none⟩)) (by kernel_rfl) (fun _ _=>eB (x:=26) (y:=27) (n:=n) (c:=C) (by kernel_rfl) ab (by kernel_rfl) (by kernel_rfl) (rfl) (ad)) (fun _ _ _ h=>h) hS ?_
   refine aK [17] (by kernel_rfl) (by simp) ?_
   refine dk 17 (d.setCell ⟨G,i,none⟩ (.slice (some ⟨b2,0,none⟩) (m + 1) c2)) (by kernel_rfl) (jX 39 38 (by kernel_rfl) (by kernel_rfl) (by kernel_rfl) O aa) ⟨bQ af t,bQ U B,bQ U E⟩ ?_ aW;refine bF (by kernel_rfl) ?_
   exact⟨(b2,c2),by kernel_rfl,d,rfl,s,R2,o⟩
  ·refine aK [11] (by kernel_rfl) (by simp) ?_
   refine bH 11 (some 34) (.slice (some ⟨p.b,0,none⟩) m p.c) _ (by kernel_rfl) (iW 33 (by kernel_rfl) (by kernel_rfl) (p8 J)) W ?_ aW;refine bN 15 (some 38) 193 #[.slice (some ⟨p.b,0,none⟩) m p.c,.int .i64 q,.slice (some ⟨l.heap.size,0,none⟩) 1 1] (by kernel_rfl) (by kernel_rfl) t1 ?_
   rintro e' d ⟨b2,c2,rfl,s,R2,o⟩;rw[<- M.out] at o s
   have t:d.cell? ⟨g,0,none⟩=_:=(World.cell?_of_block (a:=⟨g,0,none⟩) (o.same g (aI j) ng)).trans j
   have B:d.cell? ⟨w.heap.size,0,none⟩=_:=(World.cell?_of_block (a:=⟨w.heap.size,0,none⟩) (o.same _ (aI u) nx)).trans u
   have E:d.cell? ⟨w.heap.size,1,none⟩=_:=(World.cell?_of_block (a:=⟨w.heap.size,1,none⟩) (o.same _ (aI z) nx)).trans z
   have O:d.cell? ⟨G,i,none⟩=_:=(World.cell?_of_block (a:=⟨G,i,none⟩) (o.same _ (aI r) nG)).trans r
   have aa:d.frozen? ⟨G,i,none⟩=false:=((Y.keep I).chg o nG).free i;refine⟨_,rfl,⟨t,B,E⟩,?_⟩;replace hS:=(show _/\_/\_ from⟨t,B,E⟩)
   refine ai 16 (some 39) (.pointer (some ⟨G,i,none⟩)) (by kernel_rfl) (fun _ _=>eB (x:=26) (y:=27) (n:=n) (c:=C) (by kernel_rfl) ab (by kernel_rfl) (by kernel_rfl) (rfl) (ad)) (fun _ _ _ h=>h) hS ?_
   refine aK [17] (by kernel_rfl) (by simp) ?_
   refine dk 17 (d.setCell ⟨G,i,none⟩ (.slice (some ⟨b2,0,none⟩) (m + 1) c2)) (by kernel_rfl) (jX 39 38 (by kernel_rfl) (by kernel_rfl) (by kernel_rfl) O aa) ⟨bQ af t,bQ U B,bQ U E⟩ ?_ aW;refine bF (by kernel_rfl) ?_
   exact⟨(b2,c2),by kernel_rfl,d,rfl,s,R2,o⟩
 rintro⟨b2,c2⟩ w' ⟨d,rfl,s,R2,o⟩;dsimp only at s R2;simp only[iV,Act.put,List.setIfInBounds_toArray,List.set_cons_zero,List.set_cons_succ]
 have t:d.cell? ⟨g,0,none⟩=_:=(World.cell?_of_block (a:=⟨g,0,none⟩) (o.same g (aI j) ng)).trans j
 have O:d.cell? ⟨G,i,none⟩=_:=(World.cell?_of_block (a:=⟨G,i,none⟩) (o.same _ (by exact(Y.keep I).lt) nG)).trans r
 have C02:Chg (· = p.b) l d:=(Chg.of (F:=(· = p.b)) I).trans o (fun _ _ h=>h);obtain⟨p',R⟩:∃ p':Pg,Hid (p'=⟨b2,c2,p.es.take q ++ [(⟨kv,kl,vv,vl⟩:En)] ++ p.es.drop q⟩):=⟨_,rfl⟩
 have hlen:(p.es.take q ++ [(⟨kv,kl,vv,vl⟩:En)] ++ p.es.drop q).length=m + 1:=by have:=T.out; simp; omega
 have P:∀ e,EnA w D e->EnA d D e:=fun e he=>((he.keep B0).keep I).off fun b hb hk=>o.same b hb fun f=>by
  subst f;obtain⟨cs,k⟩:=hk;obtain⟨ds,k'⟩:=(S.1.row.keep I).kind;exact ez k k' (by decide) rfl
 have hA':PgA d D p':=by
  rw[R.out];refine⟨?_,fun e he => ?_⟩
  ·show Rw d _ 2 b2 (p.es.take q ++ [(⟨kv,kl,vv,vl⟩:En)] ++ p.es.drop q).length c2 _
   rw[hlen]; exact R2.to (yP p.es q ⟨kv,kl,vv,vl⟩)
  ·rcases List.mem_append.1 he with h | h
   ·rcases List.mem_append.1 h with h | h
    ·exact P e ((A.bX p (List.mem_of_getElem? hi)).1.dH e (List.mem_of_mem_take h))
    ·simp at h; subst h; exact P _ hE
   ·exact P e ((A.bX p (List.mem_of_getElem? hi)).1.dH e (List.mem_of_mem_drop h))
 have hv':p'.v=.slice (some ⟨b2,0,none⟩) (m + 1) c2:=by rw[R.out]; simp only[Pg.v]; rw[hlen]
 have hb':p'.b=b2:=by rw[R.out]
 have H:p'.es=p.es.take q ++ [⟨kv,kl,vv,vl⟩] ++ p.es.drop q:=by rw[R.out]
 obtain⟨A3,C3⟩:=A0.put (p':=p') (D':=D) hg hFg hFG Y hi C02 (by rw[hb']; exact s.imp id (fun h=>Nat.le_trans I.size h)) hA' (fun _ _ h=>h);rw[hv',hb'] at A3;rw[hv'] at C3;have ac:=(Chg.of (F:=F) B0).trans C3 (fun _ _ h=>h)
 have hF3:∀ b,((F b/\b≠p.b)\/b=b2)->F b\/w.heap.size<=b:=fun b h=>by
  have h0:=B0.size;have h1:=I.size;rcases h with h | h
  ·exact .inl h.1
  ·subst h;rcases s with h | h
   ·rw[h]; exact .inl S.2
   ·exact .inr (by omega)
 have cg3:(d.setCell ⟨G,i,none⟩ (.slice (some ⟨b2,0,none⟩) (m + 1) c2)).cell? ⟨g,0,none⟩=some (.slice (some ⟨G,0,none⟩) n C):=bQ af t
 have cG3:(d.setCell ⟨G,i,none⟩ (.slice (some ⟨b2,0,none⟩) (m + 1) c2)).cell? ⟨G,i,none⟩=some (.slice (some ⟨b2,0,none⟩) (m + 1) c2):=World.cell?_setCell_same' _ _ _ (by rw[O]; rfl);generalize (d.setCell ⟨G,i,none⟩ (.slice (some ⟨b2,0,none⟩) (m + 1) c2))=W3 at *;generalize hF3d:(fun x=>(F x/\x≠p.b)\/x=b2)=F3 at A3
 have K:∀ b,F3 b->F b\/w.heap.size<=b:=fun b h=>hF3 b (by rw[<- hF3d] at h; exact h)
 have hi3:(L.set i p')[i]? = some p':=by rw[List.getElem?_set_self hil]
 by_cases Z:32 < m + 1
 ·have hbi:(32:Int) < (m:Int) + 1:=by omega
  have t5:=jU A3 hi3 (by rw[H,hlen]; omega) (by rw[H,hlen]; have:=T.out; omega) (by rw[List.length_set]; exact hn);go_wp2_with (go_at_call 194; refine t5.mono ?_; rintro e' w6 ⟨F6,p1,p2,rfl,e1,e2,A6,hF6,C6⟩);go_end0;refine⟨F6,_,rfl,?_,A6,fun b hb => ?_,ac.trans C6 fun b hb h=>(K b h).resolve_right (by omega)⟩
  ·unfold qE;rw[eI hi,<- H,if_pos (by rw[H,hlen]; exact Z)];simp only[ens,List.map_append,List.map_take,List.map_drop,List.map_cons,List.map_nil,List.map_set,e1,e2];rw[List.take_set_of_le (Nat.le_refl _),List.drop_set_of_lt (by omega)]
  ·rcases hF6 b hb with h | h
   ·exact K b h
   ·exact .inr (by have:=ac.size; omega)
 ·have hbi:¬ ((32:Int) < (m:Int) + 1):=by omega
  go_wp2;go_end0;refine⟨rfl,F3,_,?_,A3,K,ac⟩;unfold qE;rw[eI hi,<- H,if_neg (by rw[H,hlen]; exact Z),qd]
end
end Pg
end
section
namespace Pg
open Go.RowKit Go.Lib
section
variable {w w1:World}{F D:Nat->Prop}{g:Nat}{pv:Value}
theorem Av(A:bJ w F D g [])(o:w.cell? ⟨g,0,none⟩=some pv)(n:Below w.heap.size w w1){vb:Nat}(V:Blk w1 vb [.slice none 0 0] 199) :
  ∃ b' c' w',(Builtin.append_ #[142,142] 142 #[pv,.slice (some ⟨vb,0,none⟩) 1 1]).run Tryz.prog w1=.ok (.slice (some ⟨b',0,none⟩) 1 c') w'/\(F b'\/w.heap.size<=b')/\Rw w' 199 1 b' 1 c' [.slice none 0 0]/\Chg F w1 w'/\b'≠g/\(∀ b cs,Blk w1 b cs 144\/Blk w1 b cs 196->Blk w' b cs 144\/Blk w' b cs 196)/\(Blk w g [pv] 144/\F g/\Blk w' g [pv] 144):=by
 obtain⟨t,hb,r,h⟩:=A.top;have e:=hb.cell (i:=0) rfl;rw[o] at e
 cases e;have a:=hb.keep n;rcases h with⟨rfl,_⟩ | ⟨G,C,rfl,hG,hR⟩
 ·obtain⟨c',W,p,c,hC⟩:=fi (w:=w1) KP 142 ⟨vb,0,none⟩ 1 1 [.slice none 0 0] rfl (fun j u q=>by rw[Addr.add_lit,Nat.zero_add]; exact V.cell q) (by decide) (by decide) (by decide);refine⟨_,c',W,p,.inr n.size,c,Chg.of hC,?_,fun b cs h=>h.imp (fun k=>k.keep hC) (fun k=>k.keep hC),hb,r,a.keep hC⟩;have:=a.lt;omega
 ·have f:=hR.keep n;obtain⟨b',c',W,p,l,c,hC⟩:=dz KP 142 f ⟨vb,0,none⟩ 1 1 [.slice none 0 0] rfl (fun j u q=>by rw[Addr.add_lit,Nat.zero_add]; exact V.cell q) (by simp[Value.oneCell']) (by simp) (by simp)
  have d:∀ b cs,Blk w1 b cs 144\/Blk w1 b cs 196->b≠G:=fun b cs h=>by
   obtain⟨v,s⟩:=f.kind;rcases h with k | k
   ·exact ez k s (by decide)
   ·exact ez k s (by decide)
  have m:=d g _ (.inl a);refine⟨b',c',W,p,?_,c,hC.mono (fun b _ e=>by subst e; exact hG),?_,fun b cs h=>h.imp (fun k=>k.chg hC (d b cs h)) (fun k=>k.chg hC (d b cs h)),hb,r,a.chg hC m⟩
  ·rcases l with h | h
   ·rw[h]; exact .inl hG
   ·rw[h]; exact .inr n.size
  ·rcases l with h | h
   ·rw[h]; exact fun e=>m e.symm
   ·have:=a.lt; omega
theorem pI{e:En}(A:bJ w F D g [])(hE:EnA w D e) :
  Calls Tryz.prog 147 #[.pointer (some ⟨g,0,none⟩),.int .i64 0,.int .i64 0,.agg #[e.kv,e.vv]] w fun e' w'=>∃ F' L',e'=.returned (.tuple #[])/\ens L'=[[e]]/\bJ w' F' D g L'/\(∀ b,F' b->F b\/w.heap.size<=b)/\Chg F w w':=by
 obtain⟨kv,kl,vv,vl⟩:=e;have B0:=ae w (.cells #[kv,vv] 196);have X0:=aC w [kv,vv] 196;obtain⟨ao,c,hc,hc1,hc2,hat⟩:=A.rd;simp only[List.length_nil] at hc hc1;have hgl:=aI hc;obtain⟨w1,E⟩:∃ w1,Hid (w1=(w.alloc (.cells #[kv,vv] 196)).alloc (.cells #[.slice none 0 0] 199)):=⟨_,rfl⟩
 have B1:Below w.heap.size w w1:=by rw[E.out]; exact aj B0 (ae _ _)
 have V1:Blk w1 (w.heap.size + 1) [.slice none 0 0] 199:=by
  have:=aC (w.alloc (.cells #[kv,vv] 196)) [.slice none 0 0] 199;rw[World.size_alloc] at this;rw[E.out]; exact this
 have X1:Blk w1 w.heap.size [kv,vv] 196:=by rw[E.out]; exact X0.keep (ae _ _)
 obtain⟨G,C,j,hr,hFG,R2,l,hGg,hkp,hgb,hFg,Z⟩:=Av A hc B1 V1
 have X2:Blk j w.heap.size [kv,vv] 196:=X1.chg l (fun f=>by have:=A.lt f; omega);have hg3:=Z.setCell (i:=0) (.slice (some ⟨G,0,none⟩) 1 C)
 have S:Rw (j.setCell ⟨g,0,none⟩ (.slice (some ⟨G,0,none⟩) 1 C)) 199 1 G 1 C [.slice none 0 0]:=R2.same (Below.heap_setCell j _ _ _ hGg)
 have X3:Blk (j.setCell ⟨g,0,none⟩ (.slice (some ⟨G,0,none⟩) 1 C)) w.heap.size [kv,vv] 196:=X2.off (by omega) _
 have W:∀ e,EnA w D e->EnA (j.setCell ⟨g,0,none⟩ (.slice (some ⟨G,0,none⟩) 1 C)) D e:=fun e he=>(he.keep B1).off fun b hb hk=>by
  obtain⟨cs,k⟩:=hk
  have n1:b≠g:=ez k (hgb.keep B1) (by decide);rw[Below.heap_setCell j _ _ b n1];refine l.same b hb fun f=>A.noU f cs ?_
  exact⟨by rw[<- B1.block b (A.lt f)]; exact k.blk⟩
 have c2g:=Z.cell (i:=0) rfl;have f2g:=Z.free 0
 have hsz3:w.heap.size + 1 + 1<=(j.setCell ⟨g,0,none⟩ (.slice (some ⟨G,0,none⟩) 1 C)).heap.size:=by
  have h1:=l.size
  have h2:w1.heap.size=w.heap.size + 1 + 1:=by rw[E.out]; simp
  have h3:(j.setCell ⟨g,0,none⟩ (.slice (some ⟨G,0,none⟩) 1 C)).heap.size=j.heap.size:=by simp[World.setCell]
  omega
 have C03:Chg F w (j.setCell ⟨g,0,none⟩ (.slice (some ⟨G,0,none⟩) 1 C)):=((Chg.of (F:=F) B1).trans l (fun _ _ h=>h)).cell (.inl hFg) _;have mixed:=mixed;obtain rfl:=E.out;clear E;go_enter Tryz.func147,Tryz.ntmps147;go_wp2_with (at_builtin; refine Lib.wpList_append_run _ rfl _ _ _ _ rfl _ _ rfl rfl _ _ hr ?_);generalize (j.setCell ⟨g,0,none⟩ (.slice (some ⟨G,0,none⟩) 1 C))=d at *
 have O:d.cell? ⟨g,0,none⟩=some (.slice (some ⟨G,0,none⟩) 1 C):=hg3.cell (i:=0) rfl;have Y:=X3.cell (i:=0) rfl;have R:=X3.cell (i:=1) rfl;have P:=S.cell (i:=0) rfl;obtain⟨z,H⟩:∃ z,Hid (z=d.drew.alloc (.cells #[kv,vv] 196)):=⟨_,rfl⟩
 have U:Below d.heap.size d z:=by rw[H.out]; exact aj (bV d) (ae d.drew _)
 have V4:Blk z d.heap.size [kv,vv] 196:=by rw[H.out]; exact aC d.drew [kv,vv] _
 have hs4:z.heap.size=d.heap.size + 1:=by rw[H.out]; simp
 have t1:Calls Tryz.prog 193 #[.slice none 0 0,.int .i64 0,.slice (some ⟨d.heap.size,0,none⟩) 1 1] z fun e w'=>∃ b2 c2,e=.returned (.slice (some ⟨b2,0,none⟩) 1 c2)/\b2=d.heap.size + 1/\Rw w' 196 2 b2 1 c2 [kv,vv]/\Below z.heap.size z w':=(zB V4).mono (by
  rintro e w' ⟨c',rfl,h1,h2⟩
  exact⟨_,c',rfl,hs4,h1,h2⟩)
 have q:z.cell? ⟨g,0,none⟩=_:=(U.cell (p:=⟨g,0,none⟩) (aI O)).trans O
 have m:z.cell? ⟨w.heap.size,0,none⟩=_:=(U.cell (p:=⟨w.heap.size,0,none⟩) (aI Y)).trans Y
 have o:z.cell? ⟨w.heap.size,1,none⟩=_:=(U.cell (p:=⟨w.heap.size,1,none⟩) (aI R)).trans R
 have r:z.cell? ⟨G,0,none⟩=_:=(U.cell (p:=⟨G,0,none⟩) (aI P)).trans P
 have cgd:d.drew.cell? ⟨g,0,none⟩=_:=O
 have x0d:d.drew.cell? ⟨w.heap.size,0,none⟩=_:=Y
 have x1d:d.drew.cell? ⟨w.heap.size,1,none⟩=_:=R
 have cGd:d.drew.cell? ⟨G,0,none⟩=_:=P
 have aa:g≠G:=fun e=>hGg e.symm
 have K:w.heap.size≠G:=fun e=>by
  obtain⟨ds,k⟩:=S.kind;exact ez X3 k (by decide) e
 have T:0 < 1:=by decide
 have L:=(show _/\_/\_ from⟨q,m,o⟩)
 have I:=r;rw[H.out] at L I t1
 have Q:Tryz.prog.underlying 142=some (.slice 199):=by kernel_rfl
 refine qu (X:=Nat × Nat) (fun x=>[(some 23,.pointer (some ⟨g,0,none⟩)),(some 24,.pointer (some ⟨g,0,none⟩)),(some 25,.pointer (some ⟨g,0,none⟩)),(some 26,.slice (some ⟨G,0,none⟩) 1 C),(some 27,.int .i64 0),(some 28,.pointer (some ⟨g,0,none⟩)),(some 29,.pointer (some ⟨g,0,none⟩)),(some 30,.pointer (some ⟨g,0,none⟩)),(some 31,.slice (some ⟨G,0,none⟩) 1 C),(some 32,.int .i64 0),(some 33,.pointer (some ⟨G,0,none⟩)),(some 34,.slice none 0 0),(some 35,.int .i64 0),(some 36,.agg #[kv,vv]),(some 37,.slice (some ⟨d.heap.size,0,none⟩) 1 1),(some 38,.slice (some ⟨x.1,0,none⟩) 1 x.2),(some 39,.pointer (some ⟨G,0,none⟩))]) (fun x w'=>∃ j,w'=j.setCell ⟨G,0,none⟩ (.slice (some ⟨x.1,0,none⟩) 1 x.2)/\x.1=d.heap.size + 1/\Rw j 196 2 x.1 1 x.2 [kv,vv]/\Below z.heap.size z j) (fun w'=>w'.cell? ⟨g,0,none⟩=some (.slice (some ⟨G,0,none⟩) 1 C)/\w'.cell? ⟨w.heap.size,0,none⟩=some kv/\w'.cell? ⟨w.heap.size,1,none⟩=some vv) (by kernel_rfl) ⟨cgd,x0d,x1d⟩ ?_ ?_
 ·have hS:=(show _/\_/\_ from⟨cgd,x0d,x1d⟩)
  refine ai 0 (some 23) (.pointer (some ⟨g,0,none⟩)) (by kernel_rfl) (fun _ _=>by kernel_rfl) (fun _ _ _ h=>h) hS ?_
  refine ai 1 (some 24) (.pointer (some ⟨g,0,none⟩)) (by kernel_rfl) (fun _ _=>by kernel_rfl) (fun _ _ _ h=>h) hS ?_
  refine ai 2 (some 25) (.pointer (some ⟨g,0,none⟩)) (by kernel_rfl) (fun _ _=>by kernel_rfl) (fun _ _ _ h=>h) hS ?_
  refine aO 3 (some 26) (.slice (some ⟨G,0,none⟩) 1 C) 142 25 (g) (0) (by kernel_rfl) (by kernel_rfl) (by kernel_rfl) (fun w' h=>fX h.1) (fun _ _ _ h=>h) hS ?_
  refine ai 4 (some 27) (.int .i64 0) (by kernel_rfl) (fun _ _=>by kernel_rfl) (fun _ _ _ h=>h) hS ?_
  refine ai 5 (some 28) (.pointer (some ⟨g,0,none⟩)) (by kernel_rfl) (fun _ _=>by kernel_rfl) (fun _ _ _ h=>h) hS ?_
  refine ai 6 (some 29) (.pointer (some ⟨g,0,none⟩)) (by kernel_rfl) (fun _ _=>by kernel_rfl) (fun _ _ _ h=>h) hS ?_
  refine ai 7 (some 30) (.pointer (some ⟨g,0,none⟩)) (by kernel_rfl) (fun _ _=>by kernel_rfl) (fun _ _ _ h=>h) hS ?_
  refine aO 8 (some 31) (.slice (some ⟨G,0,none⟩) 1 C) 142 30 (g) (0) (by kernel_rfl) (by kernel_rfl) (by kernel_rfl) (fun w' h=>fX h.1) (fun _ _ _ h=>h) hS ?_
  refine ai 9 (some 32) (.int .i64 0) (by kernel_rfl) (fun _ _=>by kernel_rfl) (fun _ _ _ h=>h) hS ?_
  refine ai 10 (some 33) (.pointer (some ⟨G,0,none⟩)) (by kernel_rfl) (fun _ _=>eB (x:=31) (y:=32) (n:=1) (c:=C) (by kernel_rfl) Q (by kernel_rfl) (by kernel_rfl) (rfl) (T)) (fun _ _ _ h=>h) hS ?_
  refine ai 12 (some 35) (.int .i64 0) (by kernel_rfl) (fun _ _=>by kernel_rfl) (fun _ _ _ h=>h) hS ?_
  refine aO 13 (some 36) (.agg #[kv,vv]) 196 7 (w.heap.size) (0) (by kernel_rfl) (by kernel_rfl) (by kernel_rfl) (fun w' h=>ld_e h.2.1 h.2.2) (fun _ _ _ h=>h) hS ?_
  refine aK [11,14] (by kernel_rfl) (by simp) ?_
  refine bH 11 (some 34) (.slice none 0 0) _ (by kernel_rfl) (iW 33 (by kernel_rfl) (by kernel_rfl) (p8 cGd)) hS ?_ (bH 14 (some 37) (.slice (some ⟨d.heap.size,0,none⟩) 1 1) _ (by kernel_rfl) (qq (k:=36) (by kernel_rfl) (by kernel_rfl)) L ?_ aW)
  ·refine aK [14] (by kernel_rfl) (by simp) ?_
   refine bH 14 (some 37) (.slice (some ⟨d.heap.size,0,none⟩) 1 1) _ (by kernel_rfl) (qq (k:=36) (by kernel_rfl) (by kernel_rfl)) L ?_ aW;refine bN 15 (some 38) 193 #[.slice none 0 0,.int .i64 0,.slice (some ⟨d.heap.size,0,none⟩) 1 1] (by kernel_rfl) (by kernel_rfl) t1 ?_
   rintro e' j ⟨b2,c2,rfl,B,R2,l⟩;rw[<- H.out] at l
   have t:j.cell? ⟨g,0,none⟩=_:=(l.cell (p:=⟨g,0,none⟩) (aI q)).trans q
   have u:j.cell? ⟨w.heap.size,0,none⟩=_:=(l.cell (p:=⟨w.heap.size,0,none⟩) (aI m)).trans m
   have v:j.cell? ⟨w.heap.size,1,none⟩=_:=(l.cell (p:=⟨w.heap.size,1,none⟩) (aI o)).trans o
   have V:j.cell? ⟨G,0,none⟩=_:=(l.cell (p:=⟨G,0,none⟩) (aI r)).trans r
   have N:j.frozen? ⟨G,0,none⟩=false:=((S.keep U).keep l).free 0;refine⟨_,rfl,⟨t,u,v⟩,?_⟩;replace hS:=(show _/\_/\_ from⟨t,u,v⟩)
   refine ai 16 (some 39) (.pointer (some ⟨G,0,none⟩)) (by kernel_rfl) (fun _ _=>eB (x:=26) (y:=27) (n:=1) (c:=C) (by kernel_rfl) Q (by kernel_rfl) (by kernel_rfl) (rfl) (T)) (fun _ _ _ h=>h) hS ?_
   refine aK [17] (by kernel_rfl) (by simp) ?_
   refine dk 17 (j.setCell ⟨G,0,none⟩ (.slice (some ⟨b2,0,none⟩) 1 c2)) (by kernel_rfl) (jX 39 38 (by kernel_rfl) (by kernel_rfl) (by kernel_rfl) V N) ⟨bQ aa t,bQ K u,bQ K v⟩ ?_ aW;refine bF (by kernel_rfl) ?_
   exact⟨(b2,c2),by kernel_rfl,j,rfl,B,R2,l⟩
  ·refine aK [11] (by kernel_rfl) (by simp) ?_
   refine bH 11 (some 34) (.slice none 0 0) _ (by kernel_rfl) (iW 33 (by kernel_rfl) (by kernel_rfl) (p8 I)) L ?_ aW;refine bN 15 (some 38) 193 #[.slice none 0 0,.int .i64 0,.slice (some ⟨d.heap.size,0,none⟩) 1 1] (by kernel_rfl) (by kernel_rfl) t1 ?_
   rintro e' j ⟨b2,c2,rfl,B,R2,l⟩;rw[<- H.out] at l
   have t:j.cell? ⟨g,0,none⟩=_:=(l.cell (p:=⟨g,0,none⟩) (aI q)).trans q
   have u:j.cell? ⟨w.heap.size,0,none⟩=_:=(l.cell (p:=⟨w.heap.size,0,none⟩) (aI m)).trans m
   have v:j.cell? ⟨w.heap.size,1,none⟩=_:=(l.cell (p:=⟨w.heap.size,1,none⟩) (aI o)).trans o
   have V:j.cell? ⟨G,0,none⟩=_:=(l.cell (p:=⟨G,0,none⟩) (aI r)).trans r
   have N:j.frozen? ⟨G,0,none⟩=false:=((S.keep U).keep l).free 0;refine⟨_,rfl,⟨t,u,v⟩,?_⟩;replace hS:=(show _/\_/\_ from⟨t,u,v⟩)
   refine ai 16 (some 39) (.pointer (some ⟨G,0,none⟩)) (by kernel_rfl) (fun _ _=>eB (x:=26) (y:=27) (n:=1) (c:=C) (by kernel_rfl) Q (by kernel_rfl) (by kernel_rfl) (rfl) (T)) (fun _ _ _ h=>h) hS ?_
   refine aK [17] (by kernel_rfl) (by simp) ?_
   refine dk 17 (j.setCell ⟨G,0,none⟩ (.slice (some ⟨b2,0,none⟩) 1 c2)) (by kernel_rfl) (jX 39 38 (by kernel_rfl) (by kernel_rfl) (by kernel_rfl) V N) ⟨bQ aa t,bQ K u,bQ K v⟩ ?_ aW;refine bF (by kernel_rfl) ?_
   exact⟨(b2,c2),by kernel_rfl,j,rfl,B,R2,l⟩
 rintro⟨b2,J⟩ w' ⟨M,rfl,B,R4,D4⟩;dsimp only at B R4;simp only[iV,Act.put,List.setIfInBounds_toArray,List.set_cons_zero,List.set_cons_succ]
 have s:Below d.heap.size d M:=aj U D4;subst B;have ab:=(hg3.keep s).off aa (i:=0) (.slice (some ⟨d.heap.size + 1,0,none⟩) 1 J);have R5:=(S.keep s).set 0 (by simp) (.slice (some ⟨d.heap.size + 1,0,none⟩) 1 J)
 have hNG:d.heap.size + 1≠G:=by have:=S.lt; omega
 have R6:Rw (M.setCell ⟨G,0,none⟩ (.slice (some ⟨d.heap.size + 1,0,none⟩) 1 J)) 196 2 (d.heap.size + 1) 1 J [kv,vv]:=R4.same (Below.heap_setCell M _ _ _ hNG)
 have E6:EnA (M.setCell ⟨G,0,none⟩ (.slice (some ⟨d.heap.size + 1,0,none⟩) 1 J)) D ⟨kv,kl,vv,vl⟩:=((W _ hE).keep s).off fun b hb hk=>by
  obtain⟨cs,k⟩:=hk;obtain⟨ds,k'⟩:=(S.keep s).kind;exact Below.heap_setCell M _ _ b (ez k k' (by decide))
 have C6:Chg F w (M.setCell ⟨G,0,none⟩ (.slice (some ⟨d.heap.size + 1,0,none⟩) 1 J)):=(C03.trans (Chg.of (F:=F) s) (fun _ _ h=>h)).cell hFG _;have cg5:=ab.cell (i:=0) rfl;have cG5:=R5.cell (i:=0) rfl
 have hfin:bJ (M.setCell ⟨G,0,none⟩ (.slice (some ⟨d.heap.size + 1,0,none⟩) 1 J)) (fun x=>x=g\/x=G\/x=d.heap.size + 1) D g [⟨d.heap.size + 1,J,[⟨kv,kl,vv,vl⟩]⟩]:=by
  refine⟨⟨_,ab,.inl rfl,.inr ⟨G,C,rfl,.inr (.inl rfl),R5⟩⟩,fun p hp => ?_,by simp,fun b hb => ?_⟩
  ·simp at hp;subst hp;exact⟨⟨R6,fun e he=>by simp at he; subst he; exact E6⟩,.inr (.inr rfl)⟩
  ·rcases hb with rfl | rfl | rfl
   ·exact⟨_,_,ab,by decide⟩
   ·obtain⟨ds,k⟩:=R5.kind;exact⟨ds,_,k,by decide⟩
   ·obtain⟨ds,k⟩:=R6.kind;exact⟨ds,_,k,by decide⟩
 generalize (M.setCell ⟨G,0,none⟩ (.slice (some ⟨d.heap.size + 1,0,none⟩) 1 J))=W6 at *;go_wp2;go_end0;refine⟨_,_,rfl,?_,hfin,fun b hb => ?_,C6⟩
 ·rfl
 ·rcases hb with rfl | rfl | rfl
  ·exact .inl hFg
  ·exact hFG
  ·exact .inr (by omega)
end
end Pg
end
section
namespace Pg
open Go.RowKit Go.Lib
section
variable {es:List En}{k ul:List Int}{L:List Pg}{w:World}{i g:Nat}{cs:List Value}{v u kv:Value}{F D:Nat->Prop}
def has(P:List (List En))(k:List Int):Bool := !P.isEmpty && thr (kys (P.getD (pgi P k) [])) k
def got(P:List (List En))(k:List Int):List Int:=((P.getD (pgi P k) [])[plc (kys (P.getD (pgi P k) [])) k]?.map En.vl).getD []
def fq(P:List (List En))(e:En):List (List En) :=
 if P=[] then [[e]]
 else
  let i:=pgi P e.kl
  let es:=P.getD i []
  let q:=plc (kys es) e.kl
  if thr (kys es) e.kl then P.set i (es.modify q fun x=>{ x with vv:=e.vv,vl:=e.vl }) else qE P i q e
theorem lI(h:thr (kys es) k=true):∃ e,es[plc (kys es) k]? = some e/\e.kl=k:=by
 simp only[thr,decide_eq_true_eq,kys,List.getElem?_map] at h;obtain⟨e,he,hk⟩:=Option.map_eq_some_iff.1 h;exact⟨e,he,hk⟩
theorem sE(h:L≠[]):ens L≠[]:=fun e=>h (by simpa[ens] using e)
theorem px(h:L≠[])(k:List Int):∃ p,L[pgi (ens L) k]? = some p/\(ens L).getD (pgi (ens L) k) []=p.es:=by
 have:=pgi_lt (sE h) k;simp only[ens,List.length_map] at this;refine⟨L[pgi (ens L) k]'this,List.getElem?_eq_getElem _,?_⟩;exact eI (List.getElem?_eq_getElem _)
theorem Aq{G:Nat}{t:TypeId}(h:Blk w G cs t)(hi:cs[i]? = some v)(b:Nat):(w.setCell ⟨G,i,none⟩ v).heap[b]? = w.heap[b]? := by
 by_cases e:b=G
 ·subst e;have a:=(h.setCell (i:=i) v).blk;rw[a,h.blk];have:cs.set i v=cs:=by
   obtain⟨c,rfl⟩:=List.getElem?_eq_some_iff.1 hi;exact List.set_getElem_self c
  rw[this]
 ·exact Below.heap_setCell w _ v b e
theorem bJ.upd{w1:World}{q:Nat}{p:Pg}{e:En}(A:bJ w F D g L)(hi:L[i]? = some p)(he:p.es[q]? = some e)(B:Below w.heap.size w w1)(hu:OB w1 (w.heap.size <= ·) u ul) :
  bJ (w1.setCell ⟨p.b,q * 2 + 1,none⟩ u) F (fun b=>D b\/w.heap.size<=b) g (L.set i ⟨p.b,p.c,p.es.set q { e with vv:=u,vl:=ul }⟩)/\Chg F w (w1.setCell ⟨p.b,q * 2 + 1,none⟩ u):=by
 have r:=(List.getElem?_eq_some_iff.1 hi).1
 have hL:L≠[]:=fun e=>by subst e; simp at r
 obtain⟨G,C,O,z,t,H⟩:=A.opn hL;have m:=A.bX p (List.mem_of_getElem? hi);have y:=(List.getElem?_eq_some_iff.1 he).1
 have hC:Chg (· = p.b) w (w1.setCell ⟨p.b,q * 2 + 1,none⟩ u):=(Chg.of (F:=(· = p.b)) B).cell (.inl rfl) _
 have a:∀ {v:Value} {l:List Int} {D':Nat->Prop},OB w1 D' v l->OB (w1.setCell ⟨p.b,q * 2 + 1,none⟩ u) D' v l:=fun h=>⟨h.oct,h.ex.imp id (by
  rintro⟨b,c,e,Q,s⟩;refine⟨b,c,e,Q,s.same (Below.heap_setCell w1 _ _ b ?_)⟩;obtain⟨U,k⟩:=s.kind;obtain⟨P,T⟩:=(m.1.row.keep B).kind
  exact ez k T (by decide))⟩
 have n:Rw (w1.setCell ⟨p.b,q * 2 + 1,none⟩ u) 196 2 p.b p.es.length p.c (flat (p.es.set q { e with vv:=u,vl:=ul })) :=
  ((m.1.row.keep B).set (q * 2 + 1) (by rw[jo]; omega) u).to (lW u ul he)
 have hA:PgA (w1.setCell ⟨p.b,q * 2 + 1,none⟩ u) (fun b=>D b\/w.heap.size<=b) ⟨p.b,p.c,p.es.set q { e with vv:=u,vl:=ul }⟩:=by
  refine⟨by simpa using n,fun R I => ?_⟩;obtain⟨j,o⟩:=List.getElem?_of_mem I;rw[List.getElem?_set] at o;by_cases M:q=j
  ·subst M;rw[if_pos rfl,if_pos y] at o
   cases o;have f:=m.1.dH e (List.mem_of_getElem? he);exact⟨(a (f.k.keep B)).mono (fun _ _ h=>.inl h),(a hu).mono (fun _ _ h=>.inr h)⟩
  ·rw[if_neg M] at o;have f:=m.1.dH R (List.mem_of_getElem? o);exact⟨(a (f.k.keep B)).mono (fun _ _ h=>.inl h),(a (f.v.keep B)).mono (fun _ _ h=>.inl h)⟩
 obtain⟨K,S⟩:=A.put (p':=⟨p.b,p.c,p.es.set q { e with vv:=u,vl:=ul }⟩) (D':=fun b=>D b\/w.heap.size<=b) O z t H hi hC (.inl rfl) hA (fun _ _ h=>.inl h)
 have hv:(⟨p.b,p.c,p.es.set q { e with vv:=u,vl:=ul }⟩:Pg).v=p.v:=by simp[Pg.v]
 rw[hv] at K S
 have J:Rw (w1.setCell ⟨p.b,q * 2 + 1,none⟩ u) 199 1 G L.length C (L.map Pg.v):=H.chg hC (fun e=>m.1.eU H e.symm)
 have d:∀ b,((w1.setCell ⟨p.b,q * 2 + 1,none⟩ u).setCell ⟨G,i,none⟩ p.v).heap[b]? = (w1.setCell ⟨p.b,q * 2 + 1,none⟩ u).heap[b]? := fun b=>by
  obtain⟨sp,h,_⟩:=J.ex;exact Aq h (by rw[List.getElem?_append_left (by simpa using r)]; simp[hi]) b
 have E:∀ x,((F x/\x≠p.b)\/x=p.b)<->F x:=fun x=>⟨fun h=>h.elim (fun h=>h.1) (fun h=>by subst h; exact m.2),fun h=>by
  by_cases ex:x=p.b
  ·exact .inr ex
  ·exact .inl ⟨h,ex⟩⟩
 have N:=K.same (w':=w1.setCell ⟨p.b,q * 2 + 1,none⟩ u) (fun b _=>(d b).symm) (fun b _ _ _=>(d b).symm);rw[show (fun x=>(F x/\x≠p.b)\/x=p.b)=F from funext fun x=>propext (E x)] at N;exact⟨N,⟨hC.os,hC.tape,hC.output,hC.size,fun b hb hf=>hC.same b hb fun e=>hf (by subst e; exact m.2)⟩⟩
theorem CH(A:bJ w F D g L)(O:Ord (ens L))(hs:∀ es∈ens L,es.length<=1000)(hn:L.length<=100000000)(h:By w kv k)(hb:∀ p∈L,∀ e∈p.es,e.vl.length<=1000000000) :
  Calls Tryz.prog 170 #[.pointer (some ⟨g,0,none⟩),kv] w fun e w'=>∃ v,e=.returned (.tuple #[v,.bool (has (ens L) k)])/\OB w' (w.heap.size <= ·) v (if has (ens L) k then got (ens L) k else [])/\Below w.heap.size w w':=by
 by_cases hL:L=[]
 ·subst hL;have t:=mZ (v:=kv) A
  have e1:has (ens []) k=false:=rfl;rw[e1];clear A O hs hb h;go_enter Tryz.func170,Tryz.ntmps170;go_wp2_with (go_at_call 146; refine t.mono ?_; rintro E j ⟨rfl,rfl⟩);go_ret2;exact⟨_,rfl,⟨fun _ h=>by simp at h,.inl ⟨rfl,rfl⟩⟩,Below.refl _ _⟩
 ·obtain⟨p,s,o⟩:=px hL k;have f:=List.mem_of_getElem? s;have t:=lD A O h (by omega) s (by have:=hs p.es (List.mem_map.2 ⟨p,f,rfl⟩); omega);obtain⟨G,C,B,Q,T,z⟩:=A.opn hL;have M:=(List.getElem?_eq_some_iff.1 s).1
  have J:has (ens L) k=thr (kys p.es) k:=by
   unfold has;rw[o];have:(ens L).isEmpty=false:=by simp[ens,hL]
   simp[this]
  have d:got (ens L) k=((p.es)[plc (kys p.es) k]?.map En.vl).getD []:=by unfold got; rw[o]
  rw[J];by_cases l:thr (kys p.es) k=true
  ·obtain⟨e,he,K⟩:=lI l;rw[he] at d;simp only[Option.map_some,Option.getD_some] at d;rw[l,if_pos rfl,d];rw[l] at t;have cg:=B.cell (i:=0) rfl;have x:=z.cell (i:=pgi (ens L) k) (v:=p.v) (by simp[s]);have H:=(A.bX p f).1.dH e (List.mem_of_getElem? he);have cv:=(A.bX p f).1.row.cell (jT he)
   have I:∀ w',Below w.heap.size w w'->Calls Tryz.prog 78 #[e.vv] w' _:=fun w' c=>cC (H.v.keep c).by (hb p f e (List.mem_of_getElem? he))
   have S:=(List.getElem?_eq_some_iff.1 he).1;generalize pgi (ens L) k=i at *;generalize plc (kys p.es) k=q at *
   have z1:(i:Int) < L.length:=by omega
   have z2:(q:Int) < p.es.length:=by omega
   simp only[Pg.v] at x;generalize L.length=n at *;generalize p.es.length=m at *;clear A O hs hb h z B H l;go_enter Tryz.func170,Tryz.ntmps170;go_wp2_with (first | (go_at_call 146; refine t.mono ?_; rintro E j ⟨rfl,c⟩; have N:j.cell? ⟨g,0,none⟩=_:=(c.cell (p:=⟨g,0,none⟩) (aI cg)).trans cg; have U:j.cell? ⟨G,i,none⟩=_:=(c.cell (p:=⟨G,i,none⟩) (aI x)).trans x; have P:j.cell? ⟨p.b,q * 2 + 1,none⟩=_:=(c.cell (p:=⟨p.b,q * 2 + 1,none⟩) (aI cv)).trans cv; have y:=I j c; clear t I) | (go_at_call 78; refine y.mono ?_; rintro E W ⟨V,rfl,R,u⟩));go_ret2;exact⟨V,rfl,R.mono (fun b _ hb=>Nat.le_trans c.size hb),aj c u⟩
  ·have r:thr (kys p.es) k=false:=by simpa using l
   rw[r] at t ⊢;generalize pgi (ens L) k=i at *;generalize plc (kys p.es) k=q at *;clear A O hs hb h z B l r J d;go_enter Tryz.func170,Tryz.ntmps170;go_wp2_with (go_at_call 146; refine t.mono ?_; rintro E j ⟨rfl,c⟩);go_ret2;exact⟨_,rfl,⟨fun _ h=>by simp at h,.inl ⟨rfl,rfl⟩⟩,c⟩
end
end Pg
end
section
namespace Pg
open Go.RowKit Go.Lib
section
variable {es:List En}{q g:Nat}{w:World}{D F:Nat->Prop}{v l k:List Int}{L:List Pg}{kv vv:Value}
theorem wR{e:En}(h:es[q]? = some e)(f:En->En):es.modify q f=es.set q (f e):=by
 have a:=(List.getElem?_eq_some_iff.1 h).1;apply List.ext_getElem?;intro j;rw[List.getElem?_modify,List.getElem?_set];by_cases e:q=j
 ·subst e; rw[if_pos rfl,if_pos a,h]; simp
 ·rw[if_neg e]; simp[e]
theorem OB.shape{v:Value}(h:OB w D v l):∃ ao c,v=.slice ao l.length c:=by
 rcases h.ex with⟨rfl,rfl⟩ | ⟨b,c,rfl,_⟩
 ·exact⟨none,0,rfl⟩
 ·exact⟨_,c,rfl⟩
def SetR(w w':World)(F D:Nat->Prop)(g:Nat)(L:List Pg)(k v:List Int):Prop :=
 ∃ F' L' nk nv,ens L'=fq (ens L) ⟨nk,k,nv,v⟩/\bJ w' F' (fun b=>D b\/w.heap.size<=b) g L'/\(∀ b,F' b->F b\/w.heap.size<=b)/\Chg F w w'
theorem wC{F D:Nat → Prop}{p:Pg}(A : bJ w F D g L)(O : Ord (ens L))(hs : p.es.length ≤ 1000)(hn : L.length ≤ 100000000)(h : By w kv k)(hv : By w vv v)(P : v.length ≤ 1000000000)(hL : L ≠ [])(s : L[pgi (ens L) k]? = some p)(f : (ens L).getD (pgi (ens L) k) [] = p.es)(H : thr (kys p.es) k = true) :
    Calls Tryz.prog 97 #[.pointer (some ⟨g, 0, none⟩), kv, vv] w fun e w' => e = .returned (.bool false) ∧ SetR w w' F D g L k v := by
  have t := lD A O h (by omega) s (by omega);obtain⟨G, C, U, hFg, hFG, T⟩:= A.opn hL;obtain⟨e, he, X⟩:= lI H;have J := List.mem_of_getElem? s;have Z := (List.getElem?_eq_some_iff.1 s).1;have hql := (List.getElem?_eq_some_iff.1 he).1
  have hS : ∀ u, fq (ens L) ⟨e.kv, k, u, v⟩ = (ens L).set (pgi (ens L) k) (p.es.set (plc (kys p.es) k) { e with vv := u, vl := v }) := fun u => by
    unfold fq;rw[if_neg (sE hL)];simp only[f];rw[if_pos H, wR he]
  have hS : Hid _ := hS;rw[H] at t;have cg := U.cell (i := 0) rfl;have R := T.cell (i := pgi (ens L) k) (v := p.v) (by simp[s])
  have tC : ∀ w', Below w.heap.size w w' → Calls Tryz.prog 78 #[vv] w' _ := fun w' r => cC (hv.keep r) P
  have j := (A.bX p J).1;have cv := j.row.cell (jT he);have fv := j.row.free (plc (kys p.es) k * 2 + 1)
  have n1 : g ≠ p.b := fun e => j.eQ U e.symm
  have W : G ≠ p.b := fun e => j.eU T e.symm
  generalize E : pgi (ens L) k = i at *;generalize l : plc (kys p.es) k = q at *
  have E : Hid _ := E
  have l : Hid _ := l
  have z1 : (i : Int) < L.length := by omega
  have z2 : (q : Int) < p.es.length := by omega
  simp only[Pg.v] at R;generalize x : L.length = n at *;generalize B : p.es.length = m at *
  have x : Hid _ := x
  have B : Hid _ := B;clear H f;have mixed := mixed;go_enter Tryz.func97, Tryz.ntmps97;go_wp2_with (first | (go_at_call 146; refine t.mono ?_; rintro e' y ⟨rfl, r⟩))
  have z : y.drew.cell? ⟨g, 0, none⟩ = some (.slice (some ⟨G, 0, none⟩) n C) := (r.cell (p := ⟨g, 0, none⟩) (aI cg)).trans cg
  have o : y.drew.cell? ⟨G, i, none⟩ = some (.slice (some ⟨p.b, 0, none⟩) m p.c) := (r.cell (p := ⟨G, i, none⟩) (aI R)).trans R
  have Q : Below w.heap.size w y.drew := aj r (bV y);have S := tC y.drew Q;go_region_held3 (fun w' => w'.cell? ⟨g, 0, none⟩ = some (.slice (some ⟨G, 0, none⟩) n C) ∧ w'.cell? ⟨G, i, none⟩ = some (.slice (some ⟨p.b, 0, none⟩) m p.c)) (first | exact⟨by assumption, by assumption⟩ | exact⟨bQ n1 (by assumption), bQ W (by assumption)⟩)
    (first
    | (go_at_call 78; refine S.mono ?_; rintro e' d ⟨v', rfl, V, ac⟩; obtain⟨I, N, rfl⟩:= V.shape; have ae : d.cell? ⟨g, 0, none⟩ = _ := (ac.cell (p := ⟨g, 0, none⟩) (aI z)).trans z; have cG2 : d.cell? ⟨G, i, none⟩ = _ := (ac.cell (p := ⟨G, i, none⟩) (aI o)).trans o; have M := aj Q ac; have Y : d.cell? ⟨p.b, q * 2 + 1, none⟩ = _ := (M.cell (p := ⟨p.b, q * 2 + 1, none⟩) (aI cv)).trans cv; have fv2 : d.frozen? ⟨p.b, q * 2 + 1, none⟩ = false := (j.row.keep M).free _))
  all_goals (
    have K : OB d (w.heap.size ≤ ·) (.slice I v.length N) v := V.mono (fun b _ hb => Nat.le_trans Q.size hb);obtain⟨A2, C2⟩:= A.upd s he M K;generalize (d.setCell ⟨p.b, q * 2 + 1, none⟩ (.slice I v.length N)) = W3 at *;go_wp2;go_ret
    exact⟨rfl, F, _, e.kv, .slice I v.length N, by rw[hS.out, qd], A2, fun b hb => .inl hb, C2⟩)
theorem ij{i:Nat}(A:bJ w F D g L)(h:By w kv k)(hv:By w vv v)(p:k.length<=1000000000)(n:v.length<=1000000000)(t:Calls Tryz.prog 146 #[.pointer (some ⟨g,0,none⟩),kv] w fun e w'=>e=.returned (.tuple #[.int .i64 i,.int .i64 q,.bool false])/\Below w.heap.size w w')(z:∀ (w':World) (nk nv:Value),bJ w' F (fun b=>D b\/w.heap.size<=b) g L->EnA w' (fun b=>D b\/w.heap.size<=b) ⟨nk,k,nv,v⟩->Calls Tryz.prog 147 #[.pointer (some ⟨g,0,none⟩),.int .i64 i,.int .i64 q,.agg #[nk,nv]] w' fun e' w''=>∃ F' L',e'=.returned (.tuple #[])/\ens L'=fq (ens L) ⟨nk,k,nv,v⟩/\bJ w'' F' (fun b=>D b\/w.heap.size<=b) g L'/\(∀ b,F' b->F b\/w'.heap.size<=b)/\Chg F w' w'') :
  Calls Tryz.prog 97 #[.pointer (some ⟨g,0,none⟩),kv,vv] w fun e w'=>e=.returned (.bool true)/\SetR w w' F D g L k v:=by
 have x:∀ w',Below w.heap.size w w'->Calls Tryz.prog 78 #[kv] w' _:=fun w' c=>cC (h.keep c) p
 have u:∀ w',Below w.heap.size w w'->Calls Tryz.prog 78 #[vv] w' _:=fun w' c=>cC (hv.keep c) n
 have mk:True:=trivial;clear h hv;go_enter Tryz.func97,Tryz.ntmps97
 go_wp2_with (first
  | (go_at_call 146; refine t.mono ?_; rintro e' C ⟨rfl,c⟩; have j:=x C c; clear t x)
  | (go_at_call 78; clear mk; refine j.mono ?_; rintro e' E ⟨nk,rfl,y,m⟩; have s:=aj c m; have f:=u E s; clear j u; obtain⟨J,H,rfl⟩:=y.shape)
  | (go_at_call 78; refine f.mono ?_; rintro e' G ⟨nv,rfl,l,d⟩; clear f; obtain⟨I,M,rfl⟩:=l.shape; have o:=aj s d; have r:=z G _ _ ((A.keep o).mono (fun _ _ h=>.inl h)) ⟨(y.keep d).mono (fun b _ hb=>.inr (Nat.le_trans c.size hb)),l.mono (fun b _ hb=>.inr (Nat.le_trans s.size hb))⟩)
  | (go_at_call 147; refine r.mono ?_; rintro e' K ⟨F',L',rfl,B,hA,hF,hC⟩))
 go_ret;exact⟨rfl,F',L',_,_,B,hA,fun b hb=>(hF b hb).imp id (fun h=>Nat.le_trans o.size h),(Chg.of (F:=F) o).trans hC (fun _ _ h=>h)⟩
theorem BR(A:bJ w F D g L)(O:Ord (ens L))(hs:∀ es∈ens L,es.length<=32)(hn:L.length<=100000000)(h:By w kv k)(hv:By w vv v)(d:k.length<=1000000000)(a:v.length<=1000000000) :
  Calls Tryz.prog 97 #[.pointer (some ⟨g,0,none⟩),kv,vv] w fun e w'=>e=.returned (.bool (!has (ens L) k))/\SetR w w' F D g L k v:=by
 by_cases hL:L=[]
 ·subst hL;refine ij (i:=0) (q:=0) A h hv d a ((mZ A).mono ?_) (fun w' nk B n l=>(pI n l).mono ?_)
  ·rintro e w' ⟨rfl,rfl⟩; exact⟨rfl,Below.refl _ _⟩
  ·rintro e x ⟨u,m,rfl,s,hA,hF,hC⟩;exact⟨u,m,rfl,s,hA,hF,hC⟩
 ·obtain⟨p,j,b⟩:=px hL k;have o:=List.mem_of_getElem? j;have y:=hs p.es (List.mem_map.2 ⟨p,o,rfl⟩)
  have z:has (ens L) k=thr (kys p.es) k:=by
   unfold has;rw[b];have:(ens L).isEmpty=false:=by simp[ens,hL]
   simp[this]
  rw[z];by_cases r:thr (kys p.es) k=true
  ·rw[r];exact wC A O (by omega) hn h hv a hL j b r
  ·have f:thr (kys p.es) k=false:=by simpa using r
   have t:=lD A O h (by omega) j (by omega);rw[f] at t ⊢;have c:=pR (kys p.es) k;simp only[kys,List.length_map] at c;refine ij A h hv d a t (fun w' nk B n l=>(s8 n j (q:=plc (kys p.es) k) c y hn l).mono ?_);rintro e x ⟨u,m,rfl,s,hA,hF,hC⟩;refine⟨u,m,rfl,?_,hA,hF,hC⟩;rw[s];unfold fq;rw[if_neg (sE hL)];simp only[b];rw[if_neg (by rw[f]; decide)]
end
end Pg
end
section
namespace Pg
open Go.RowKit Go.Lib
section
variable {w:World}{v:Value}{F D:Nat->Prop}{L:List Pg}
def jnb(P:List (List En))(i:Nat):Bool:=decide (i + 1 < P.length) && decide ((P.getD i []).length + (P.getD (i + 1) []).length<=16)
def jnQ(P:List (List En))(i:Nat):List (List En):=P.take i ++ [P.getD i [] ++ P.getD (i + 1) []] ++ P.drop (i + 2)
theorem jn_neg:Calls Tryz.prog 209 #[v,.int .i64 (-1)] w fun e w'=>e=.returned (.bool false)/\Below w.heap.size w w':=by
 have mixed:=mixed;go_enter Tryz.func209,Tryz.ntmps209;go_wp2;go_region;go_wp2;go_ret;exact⟨rfl,bV w⟩
theorem yZ{g i:Nat}(A:bJ w F D g L)(hi:i < L.length)(hn:L.length<=100000000)(hs:∀ es∈ens L,es.length<=1000) :
  Calls Tryz.prog 209 #[.pointer (some ⟨g,0,none⟩),.int .i64 i] w fun e w'=>e=.returned (.bool (jnb (ens L) i))/\Below w.heap.size w w':=by
 have hL:L≠[]:=fun e=>by subst e; simp at hi
 obtain⟨G,C,H,K,M,t⟩:=A.opn hL;have cg:=H.cell (i:=0) rfl
 have r:(ens L).length=L.length:=by simp[ens]
 have mixed:=mixed
 have z:IntKind.i64.wrap ((i:Int) + 1)=(i:Int) + 1:=by rw[IntKind.wrap_i64]; omega
 have I:(0:Int)<=(i:Int):=by omega
 by_cases s:i + 1 < L.length
 ·obtain⟨p,u⟩:∃ p,L[i]? = some p:=⟨L[i],List.getElem?_eq_getElem hi⟩
  obtain⟨d,l⟩:∃ d,L[i + 1]? = some d:=⟨L[i + 1],List.getElem?_eq_getElem s⟩
  have J:=t.cell (i:=i) (v:=p.v) (by simp[u]);have o:=t.cell (i:=i + 1) (v:=d.v) (by simp[l]);have s1:=hs p.es (List.mem_map.2 ⟨p,List.mem_of_getElem? u,rfl⟩);have s2:=hs d.es (List.mem_map.2 ⟨d,List.mem_of_getElem? l,rfl⟩)
  have B:Hid (jnb (ens L) i=decide ((p.es.length:Int) + (d.es.length:Int)<=16)):=by
   show _=_
   unfold jnb;rw[r,decide_eq_true s,eI u,eI l,Bool.true_and];congr 1
   exact propext ⟨fun h=>by omega,fun h=>by omega⟩
  simp only[Pg.v] at J o;generalize hln:L.length=n at *;generalize p.es.length=x at *;generalize d.es.length=y at *
  have z1:(i:Int) + 1 < n:=by omega
  have z2:(i:Int) < n:=by omega
  have z3:((i:Int) + 1).toNat=i + 1:=by omega
  have z4:(0:Int)<=(i:Int) + 1:=by omega
  have z5:IntKind.i64.wrap ((x:Int) + (y:Int))=(x:Int) + (y:Int):=by rw[IntKind.wrap_i64]; omega
  have f:w.drew.cell? ⟨g,0,none⟩=some (.slice (some ⟨G,0,none⟩) n C):=cg
  have q:w.drew.cell? ⟨G,i,none⟩=some (.slice (some ⟨p.b,0,none⟩) x p.c):=J
  have j:w.drew.cell? ⟨G,i + 1,none⟩=some (.slice (some ⟨d.b,0,none⟩) y d.c):=o;clear A hs t H hln;go_enter Tryz.func209,Tryz.ntmps209;go_wp2
  have m:Tryz.prog.underlying 142=some (.slice 199):=by kernel_rfl
  have E:i < n:=hi;refine bT (S:=fun w'=>w'.cell? ⟨g,0,none⟩=some (.slice (some ⟨G,0,none⟩) n C)/\w'.cell? ⟨G,i,none⟩=some (.slice (some ⟨p.b,0,none⟩) x p.c)/\w'.cell? ⟨G,i + 1,none⟩=some (.slice (some ⟨d.b,0,none⟩) y d.c)) (by kernel_rfl) ⟨f,q,j⟩ ?_
  have hS:=(show _/\_/\_ from⟨f,q,j⟩)
  refine ai 0 (some 5) (.int .i64 i) (by kernel_rfl) (fun _ _=>by kernel_rfl) (fun _ _ _ h=>h) hS ?_
  refine iM 1 (some 6) (.bool (decide ((0:Int)<=(i:Int)))) (.bool true) (by rw[decide_eq_true I]) (by kernel_rfl) (fun _ _=>by kernel_rfl) (fun _ _ _ h=>h) hS ?_
  refine ai 2 (some 7) (.bool true) (by kernel_rfl) (fun _ _=>by kernel_rfl) (fun _ _ _ h=>h) hS ?_
  refine ai 3 (some 8) (.int .i64 i) (by kernel_rfl) (fun _ _=>by kernel_rfl) (fun _ _ _ h=>h) hS ?_
  refine iM 4 (some 9) (.int .i64 (IntKind.i64.wrap ((i:Int) + 1))) (.int .i64 ((i:Int) + 1)) (by rw[z]) (by kernel_rfl) (fun _ _=>by kernel_rfl) (fun _ _ _ h=>h) hS ?_
  refine ai 5 (some 10) (.pointer (some ⟨g,0,none⟩)) (by kernel_rfl) (fun _ _=>by kernel_rfl) (fun _ _ _ h=>h) hS ?_
  refine ai 6 (some 11) (.pointer (some ⟨g,0,none⟩)) (by kernel_rfl) (fun _ _=>by kernel_rfl) (fun _ _ _ h=>h) hS ?_
  refine ai 7 (some 12) (.pointer (some ⟨g,0,none⟩)) (by kernel_rfl) (fun _ _=>by kernel_rfl) (fun _ _ _ h=>h) hS ?_
  refine aO 8 (some 13) (.slice (some ⟨G,0,none⟩) n C) 142 12 (g) (0) (by kernel_rfl) (by kernel_rfl) (by kernel_rfl) (fun w' h=>fX h.1) (fun _ _ _ h=>h) hS ?_
  refine ai 9 (some 14) (.int .i64 n) (by kernel_rfl) (fun _ _=>by kernel_rfl) (fun _ _ _ h=>h) hS ?_
  refine iM 10 (some 15) (.bool (decide ((i:Int) + 1 < (n:Int)))) (.bool true) (by rw[decide_eq_true (by omega)]) (by kernel_rfl) (fun _ _=>by kernel_rfl) (fun _ _ _ h=>h) hS ?_
  refine ai 11 (some 16) (.bool true) (by kernel_rfl) (fun _ _=>by kernel_rfl) (fun _ _ _ h=>h) hS ?_
  refine ai 12 (some 17) (.bool true) (by kernel_rfl) (fun _ _=>by kernel_rfl) (fun _ _ _ h=>h) hS ?_
  refine ai 13 (some 18) (.pointer (some ⟨g,0,none⟩)) (by kernel_rfl) (fun _ _=>by kernel_rfl) (fun _ _ _ h=>h) hS ?_
  refine ai 14 (some 19) (.pointer (some ⟨g,0,none⟩)) (by kernel_rfl) (fun _ _=>by kernel_rfl) (fun _ _ _ h=>h) hS ?_
  refine ai 15 (some 20) (.pointer (some ⟨g,0,none⟩)) (by kernel_rfl) (fun _ _=>by kernel_rfl) (fun _ _ _ h=>h) hS ?_
  refine aO 16 (some 21) (.slice (some ⟨G,0,none⟩) n C) 142 20 (g) (0) (by kernel_rfl) (by kernel_rfl) (by kernel_rfl) (fun w' h=>fX h.1) (fun _ _ _ h=>h) hS ?_
  refine ai 17 (some 22) (.int .i64 i) (by kernel_rfl) (fun _ _=>by kernel_rfl) (fun _ _ _ h=>h) hS ?_
  refine ai 18 (some 23) (.pointer (some ⟨G,i,none⟩)) (by kernel_rfl) (fun _ _=>eB (x:=21) (y:=22) (n:=n) (c:=C) (by kernel_rfl) m (by kernel_rfl) (by kernel_rfl) (rfl) (E)) (fun _ _ _ h=>h) hS ?_
  refine aO 19 (some 24) (.slice (some ⟨p.b,0,none⟩) x p.c) 199 23 (G) (i) (by kernel_rfl) (by kernel_rfl) (by kernel_rfl) (fun w' h=>p8 h.2.1) (fun _ _ _ h=>h) hS ?_
  refine ai 20 (some 25) (.int .i64 x) (by kernel_rfl) (fun _ _=>by kernel_rfl) (fun _ _ _ h=>h) hS ?_
  refine ai 21 (some 26) (.pointer (some ⟨g,0,none⟩)) (by kernel_rfl) (fun _ _=>by kernel_rfl) (fun _ _ _ h=>h) hS ?_
  refine ai 22 (some 27) (.pointer (some ⟨g,0,none⟩)) (by kernel_rfl) (fun _ _=>by kernel_rfl) (fun _ _ _ h=>h) hS ?_
  refine ai 23 (some 28) (.pointer (some ⟨g,0,none⟩)) (by kernel_rfl) (fun _ _=>by kernel_rfl) (fun _ _ _ h=>h) hS ?_
  refine aO 24 (some 29) (.slice (some ⟨G,0,none⟩) n C) 142 28 (g) (0) (by kernel_rfl) (by kernel_rfl) (by kernel_rfl) (fun w' h=>fX h.1) (fun _ _ _ h=>h) hS ?_
  refine ai 25 (some 30) (.int .i64 i) (by kernel_rfl) (fun _ _=>by kernel_rfl) (fun _ _ _ h=>h) hS ?_
  refine iM 26 (some 31) (.int .i64 (IntKind.i64.wrap ((i:Int) + 1))) (.int .i64 ((i:Int) + 1)) (by rw[z]) (by kernel_rfl) (fun _ _=>by kernel_rfl) (fun _ _ _ h=>h) hS ?_
  refine ai 27 (some 32) (.pointer (some ⟨G,i + 1,none⟩)) (by kernel_rfl) (fun _ _=>eB (x:=29) (y:=31) (n:=n) (c:=C) (by kernel_rfl) m (by kernel_rfl) (by kernel_rfl) (show ((i:Int) + 1)=((i + 1:Nat):Int) from by omega) (s)) (fun _ _ _ h=>h) hS ?_
  refine aO 28 (some 33) (.slice (some ⟨d.b,0,none⟩) y d.c) 199 32 (G) (i + 1) (by kernel_rfl) (by kernel_rfl) (by kernel_rfl) (fun w' h=>p8 h.2.2) (fun _ _ _ h=>h) hS ?_
  refine ai 29 (some 34) (.int .i64 y) (by kernel_rfl) (fun _ _=>by kernel_rfl) (fun _ _ _ h=>h) hS ?_
  refine iM 30 (some 35) (.int .i64 (IntKind.i64.wrap ((x:Int) + (y:Int)))) (.int .i64 ((x:Int) + (y:Int))) (by rw[z5]) (by kernel_rfl) (fun _ _=>by kernel_rfl) (fun _ _ _ h=>h) hS ?_
  refine ai 31 (some 36) (.bool (decide ((x:Int) + (y:Int)<=16))) (by kernel_rfl) (fun _ _=>by kernel_rfl) (fun _ _ _ h=>h) hS ?_
  refine ai 32 (some 37) (.bool (decide ((x:Int) + (y:Int)<=16))) (by kernel_rfl) (fun _ _=>by kernel_rfl) (fun _ _ _ h=>h) hS ?_
  refine ai 33 (some 4) (.bool (decide ((x:Int) + (y:Int)<=16))) (by kernel_rfl) (fun _ _=>by kernel_rfl) (fun _ _ _ h=>h) hS ?_
  refine bF (by kernel_rfl) ?_
  simp only[Act.put,List.setIfInBounds_toArray,List.set_cons_zero,List.set_cons_succ];go_wp2;go_ret;exact⟨by rw[B.out]; rfl,bV w⟩
 ·have B:Hid (jnb (ens L) i=false):=by
   show _=_
   unfold jnb;rw[r,decide_eq_false s,Bool.false_and]
  generalize hln:L.length=n at *
  have z1:¬ ((i:Int) + 1 < n):=by omega
  have f:w.drew.cell? ⟨g,0,none⟩=some (.slice (some ⟨G,0,none⟩) n C):=cg;clear A hs t H hln;go_enter Tryz.func209,Tryz.ntmps209;go_wp2;refine bT (S:=fun w'=>w'.cell? ⟨g,0,none⟩=some (.slice (some ⟨G,0,none⟩) n C)) (by kernel_rfl) f ?_
  have hS:=f;refine ai 0 (some 5) (.int .i64 i) (by kernel_rfl) (fun _ _=>by kernel_rfl) (fun _ _ _ h=>h) hS ?_
  refine iM 1 (some 6) (.bool (decide ((0:Int)<=(i:Int)))) (.bool true) (by rw[decide_eq_true I]) (by kernel_rfl) (fun _ _=>by kernel_rfl) (fun _ _ _ h=>h) hS ?_
  refine ai 2 (some 7) (.bool true) (by kernel_rfl) (fun _ _=>by kernel_rfl) (fun _ _ _ h=>h) hS ?_
  refine ai 3 (some 8) (.int .i64 i) (by kernel_rfl) (fun _ _=>by kernel_rfl) (fun _ _ _ h=>h) hS ?_
  refine iM 4 (some 9) (.int .i64 (IntKind.i64.wrap ((i:Int) + 1))) (.int .i64 ((i:Int) + 1)) (by rw[z]) (by kernel_rfl) (fun _ _=>by kernel_rfl) (fun _ _ _ h=>h) hS ?_
  refine ai 5 (some 10) (.pointer (some ⟨g,0,none⟩)) (by kernel_rfl) (fun _ _=>by kernel_rfl) (fun _ _ _ h=>h) hS ?_
  refine ai 6 (some 11) (.pointer (some ⟨g,0,none⟩)) (by kernel_rfl) (fun _ _=>by kernel_rfl) (fun _ _ _ h=>h) hS ?_
  refine ai 7 (some 12) (.pointer (some ⟨g,0,none⟩)) (by kernel_rfl) (fun _ _=>by kernel_rfl) (fun _ _ _ h=>h) hS ?_
  refine aO 8 (some 13) (.slice (some ⟨G,0,none⟩) n C) 142 12 (g) (0) (by kernel_rfl) (by kernel_rfl) (by kernel_rfl) (fun w' h=>fX h) (fun _ _ _ h=>h) hS ?_
  refine ai 9 (some 14) (.int .i64 n) (by kernel_rfl) (fun _ _=>by kernel_rfl) (fun _ _ _ h=>h) hS ?_
  refine iM 10 (some 15) (.bool (decide ((i:Int) + 1 < (n:Int)))) (.bool false) (by rw[decide_eq_false (by omega)]) (by kernel_rfl) (fun _ _=>by kernel_rfl) (fun _ _ _ h=>h) hS ?_
  refine ai 11 (some 16) (.bool false) (by kernel_rfl) (fun _ _=>by kernel_rfl) (fun _ _ _ h=>h) hS ?_
  refine ai 12 (some 17) (.bool false) (by kernel_rfl) (fun _ _=>by kernel_rfl) (fun _ _ _ h=>h) hS ?_
  refine cj 13 (some 18) (by kernel_rfl) (fun _ _ _ h=>h) hS ?_
  refine cj 14 (some 19) (by kernel_rfl) (fun _ _ _ h=>h) hS ?_
  refine cj 15 (some 20) (by kernel_rfl) (fun _ _ _ h=>h) hS ?_
  refine cj 16 (some 21) (by kernel_rfl) (fun _ _ _ h=>h) hS ?_
  refine cj 17 (some 22) (by kernel_rfl) (fun _ _ _ h=>h) hS ?_
  refine cj 18 (some 23) (by kernel_rfl) (fun _ _ _ h=>h) hS ?_
  refine cj 19 (some 24) (by kernel_rfl) (fun _ _ _ h=>h) hS ?_
  refine cj 20 (some 25) (by kernel_rfl) (fun _ _ _ h=>h) hS ?_
  refine cj 21 (some 26) (by kernel_rfl) (fun _ _ _ h=>h) hS ?_
  refine cj 22 (some 27) (by kernel_rfl) (fun _ _ _ h=>h) hS ?_
  refine cj 23 (some 28) (by kernel_rfl) (fun _ _ _ h=>h) hS ?_
  refine cj 24 (some 29) (by kernel_rfl) (fun _ _ _ h=>h) hS ?_
  refine cj 25 (some 30) (by kernel_rfl) (fun _ _ _ h=>h) hS ?_
  refine cj 26 (some 31) (by kernel_rfl) (fun _ _ _ h=>h) hS ?_
  refine cj 27 (some 32) (by kernel_rfl) (fun _ _ _ h=>h) hS ?_
  refine cj 28 (some 33) (by kernel_rfl) (fun _ _ _ h=>h) hS ?_
  refine cj 29 (some 34) (by kernel_rfl) (fun _ _ _ h=>h) hS ?_
  refine cj 30 (some 35) (by kernel_rfl) (fun _ _ _ h=>h) hS ?_
  refine cj 31 (some 36) (by kernel_rfl) (fun _ _ _ h=>h) hS ?_
  refine ai 32 (some 37) (.bool false) (by kernel_rfl) (fun _ _=>by kernel_rfl) (fun _ _ _ h=>h) hS ?_
  refine ai 33 (some 4) (.bool false) (by kernel_rfl) (fun _ _=>by kernel_rfl) (fun _ _ _ h=>h) hS ?_
  refine bF (by kernel_rfl) ?_
  simp only[Act.put,List.setIfInBounds_toArray,List.set_cons_zero,List.set_cons_succ];go_wp2;go_ret;exact⟨by rw[B.out]; rfl,bV w⟩
end
end Pg
end
section
namespace Pg
open Go.RowKit Go.Lib
section
variable {L:List Pg}{i:Nat}{p p2:Pg}{w:World}{F D:Nat->Prop}
theorem ens_jn{q:Pg}(c:L[i]? = some p)(a:L[i + 1]? = some p2)(d:q.es=p.es ++ p2.es):ens ((L.set i q).take (i + 1) ++ (L.set i q).drop (i + 2))=jnQ (ens L) i:=by
 have b:=(List.getElem?_eq_some_iff.1 c).1;unfold jnQ;rw[eI c,eI a,<- d]
 have e1:(L.set i q).take (i + 1)=L.take i ++ [q]:=by
  rw[List.take_add_one,List.take_set_of_le (Nat.le_refl _),List.getElem?_set_self b]; rfl
 rw[e1,List.drop_set_of_lt (by omega)];simp[ens,List.map_take,List.map_drop]
theorem yo{g:Nat}(A:bJ w F D g L)(Q:L[i]? = some p)(M:L[i + 1]? = some p2)(hn:L.length<=100000000)(h0:0 < p.es.length)(hs1:p.es.length<=1000)(hs2:p2.es.length<=1000) :
  Calls Tryz.prog 210 #[.pointer (some ⟨g,0,none⟩),.int .i64 i] w fun e w'=>∃ F' L',e=.returned (.tuple #[])/\ens L'=jnQ (ens L) i/\bJ w' F' D g L'/\(∀ b,F' b->F b\/w.heap.size<=b)/\Chg F w w':=by
 have hil:=(List.getElem?_eq_some_iff.1 Q).1;have hil2:=(List.getElem?_eq_some_iff.1 M).1
 have hL:L≠[]:=fun e=>by subst e; simp at hil
 obtain⟨G,C,hg,hFg,hFG,hR⟩:=A.opn hL;have ab:=A.bX p (List.mem_of_getElem? Q);have E:=A.bX p2 (List.mem_of_getElem? M);have cg:=hg.cell (i:=0) rfl;have cG:=hR.cell (i:=i) (v:=p.v) (by simp[Q]);have H:=hR.cell (i:=i + 1) (v:=p2.v) (by simp[M]);have hCC:=hR.le;simp only[maxLen] at hCC;obtain⟨n,s⟩:∃ n,Hid (L.length=n):=⟨_,rfl⟩
 obtain⟨x,r⟩:∃ m,Hid (p.es.length=m):=⟨_,rfl⟩
 obtain⟨y,N⟩:∃ m,Hid (p2.es.length=m):=⟨_,rfl⟩
 simp only[Pg.v] at cG H;rw[s.out] at cg;rw[r.out] at cG;rw[N.out] at H
 have z1:(i:Int) < n:=by have:=s.out; omega
 have z2:(i:Int) + 1 < n:=by have:=s.out; omega
 have w1:IntKind.i64.wrap ((i:Int) + 1)=(i:Int) + 1:=by rw[IntKind.wrap_i64]; have:=s.out; omega
 have z3:((i:Int) + 1).toNat=i + 1:=by omega
 have z4:(0:Int)<=(i:Int) + 1:=by omega
 have cgd:w.drew.cell? ⟨g,0,none⟩=some (.slice (some ⟨G,0,none⟩) n C):=cg
 have cGd:w.drew.cell? ⟨G,i,none⟩=some (.slice (some ⟨p.b,0,none⟩) x p.c):=cG
 have S:w.drew.cell? ⟨G,i + 1,none⟩=some (.slice (some ⟨p2.b,0,none⟩) y p2.c):=H
 have I:g≠G:=fun e=>hR.eQ hg e.symm
 obtain⟨J,P⟩:∃ J,Hid (J=w.drew.alloc (.cells #[.slice (some ⟨p.b,0,none⟩) x p.c,.slice (some ⟨p2.b,0,none⟩) y p2.c] 199)):=⟨_,rfl⟩
 have O:Below w.heap.size w J:=by rw[P.out]; exact aj (bV w) (ae w.drew _)
 have V1:Blk J w.heap.size [.slice (some ⟨p.b,0,none⟩) x p.c,.slice (some ⟨p2.b,0,none⟩) y p2.c] 199:=by rw[P.out]; exact aC w.drew _ _
 have t1:=Dn V1 ((r.out▸ab.1.row).keep O) ((N.out▸E.1.row).keep O) (by have:=r.out; omega) (by have:=r.out; omega) (by have:=N.out; omega) ab.1.one E.1.one
 have t:J.cell? ⟨g,0,none⟩=_:=(O.cell (p:=⟨g,0,none⟩) (aI cg)).trans cg
 have R:J.cell? ⟨G,i,none⟩=_:=(O.cell (p:=⟨G,i,none⟩) (aI cG)).trans cG
 have d:J.cell? ⟨G,i + 1,none⟩=_:=(O.cell (p:=⟨G,i + 1,none⟩) (aI H)).trans H
 have hin:i < n:=by have:=s.out; omega
 have hin2:i + 1 < n:=by have:=s.out; omega
 have hS1:=(show _/\_ from⟨t,d⟩)
 rw[P.out] at hS1 t1;go_enter Tryz.func210,Tryz.ntmps210;go_wp2
 have W:Tryz.prog.underlying 142=some (.slice 199):=by kernel_rfl
 refine qu (X:=Nat × Nat) (fun z=>[(some 4,.pointer (some ⟨g,0,none⟩)),(some 5,.pointer (some ⟨g,0,none⟩)),(some 6,.pointer (some ⟨g,0,none⟩)),(some 7,.slice (some ⟨G,0,none⟩) n C),(some 8,.int .i64 i),(some 9,.pointer (some ⟨g,0,none⟩)),(some 10,.pointer (some ⟨g,0,none⟩)),(some 11,.pointer (some ⟨g,0,none⟩)),(some 12,.slice (some ⟨G,0,none⟩) n C),(some 13,.int .i64 i),(some 14,.pointer (some ⟨G,i,none⟩)),(some 15,.slice (some ⟨p.b,0,none⟩) x p.c),(some 16,.pointer (some ⟨g,0,none⟩)),(some 17,.pointer (some ⟨g,0,none⟩)),(some 18,.pointer (some ⟨g,0,none⟩)),(some 19,.slice (some ⟨G,0,none⟩) n C),(some 20,.int .i64 i),(some 21,.int .i64 ((i:Int) + 1)),(some 22,.pointer (some ⟨G,i + 1,none⟩)),(some 23,.slice (some ⟨p2.b,0,none⟩) y p2.c),(some 24,.slice (some ⟨w.heap.size,0,none⟩) 2 2),(some 25,.slice (some ⟨z.1,0,none⟩) (x + y) z.2),(some 26,.pointer (some ⟨G,i,none⟩))]) (fun z w'=>∃ f,w'=f.setCell ⟨G,i,none⟩ (.slice (some ⟨z.1,0,none⟩) (x + y) z.2)/\J.heap.size<=z.1/\Rw f 196 2 z.1 (x + y) z.2 (flat p.es ++ flat p2.es)/\Below J.heap.size J f) (fun w'=>w'.cell? ⟨g,0,none⟩=some (.slice (some ⟨G,0,none⟩) n C)/\w'.cell? ⟨G,i + 1,none⟩=some (.slice (some ⟨p2.b,0,none⟩) y p2.c)) (by kernel_rfl) ⟨cgd,S⟩ ?_ ?_
 ·have hS:=(show _/\_ from⟨cgd,S⟩)
  refine ai 0 (some 4) (.pointer (some ⟨g,0,none⟩)) (by kernel_rfl) (fun _ _=>by kernel_rfl) (fun _ _ _ h=>h) hS ?_
  refine ai 1 (some 5) (.pointer (some ⟨g,0,none⟩)) (by kernel_rfl) (fun _ _=>by kernel_rfl) (fun _ _ _ h=>h) hS ?_
  refine ai 2 (some 6) (.pointer (some ⟨g,0,none⟩)) (by kernel_rfl) (fun _ _=>by kernel_rfl) (fun _ _ _ h=>h) hS ?_
  refine aO 3 (some 7) (.slice (some ⟨G,0,none⟩) n C) 142 6 (g) (0) (by kernel_rfl) (by kernel_rfl) (by kernel_rfl) (fun w' h=>fX h.1) (fun _ _ _ h=>h) hS ?_
  refine ai 4 (some 8) (.int .i64 i) (by kernel_rfl) (fun _ _=>by kernel_rfl) (fun _ _ _ h=>h) hS ?_
  refine ai 5 (some 9) (.pointer (some ⟨g,0,none⟩)) (by kernel_rfl) (fun _ _=>by kernel_rfl) (fun _ _ _ h=>h) hS ?_
  refine ai 6 (some 10) (.pointer (some ⟨g,0,none⟩)) (by kernel_rfl) (fun _ _=>by kernel_rfl) (fun _ _ _ h=>h) hS ?_
  refine ai 7 (some 11) (.pointer (some ⟨g,0,none⟩)) (by kernel_rfl) (fun _ _=>by kernel_rfl) (fun _ _ _ h=>h) hS ?_
  refine aO 8 (some 12) (.slice (some ⟨G,0,none⟩) n C) 142 11 (g) (0) (by kernel_rfl) (by kernel_rfl) (by kernel_rfl) (fun w' h=>fX h.1) (fun _ _ _ h=>h) hS ?_
  refine ai 9 (some 13) (.int .i64 i) (by kernel_rfl) (fun _ _=>by kernel_rfl) (fun _ _ _ h=>h) hS ?_
  refine ai 10 (some 14) (.pointer (some ⟨G,i,none⟩)) (by kernel_rfl) (fun _ _=>eB (x:=12) (y:=13) (n:=n) (c:=C) (by kernel_rfl) W (by kernel_rfl) (by kernel_rfl) (rfl) (hin)) (fun _ _ _ h=>h) hS ?_
  refine ai 12 (some 16) (.pointer (some ⟨g,0,none⟩)) (by kernel_rfl) (fun _ _=>by kernel_rfl) (fun _ _ _ h=>h) hS ?_
  refine ai 13 (some 17) (.pointer (some ⟨g,0,none⟩)) (by kernel_rfl) (fun _ _=>by kernel_rfl) (fun _ _ _ h=>h) hS ?_
  refine ai 14 (some 18) (.pointer (some ⟨g,0,none⟩)) (by kernel_rfl) (fun _ _=>by kernel_rfl) (fun _ _ _ h=>h) hS ?_
  refine aO 15 (some 19) (.slice (some ⟨G,0,none⟩) n C) 142 18 (g) (0) (by kernel_rfl) (by kernel_rfl) (by kernel_rfl) (fun w' h=>fX h.1) (fun _ _ _ h=>h) hS ?_
  refine ai 16 (some 20) (.int .i64 i) (by kernel_rfl) (fun _ _=>by kernel_rfl) (fun _ _ _ h=>h) hS ?_
  refine iM 17 (some 21) (.int .i64 (IntKind.i64.wrap ((i:Int) + 1))) (.int .i64 ((i:Int) + 1)) (by rw[w1]) (by kernel_rfl) (fun _ _=>by kernel_rfl) (fun _ _ _ h=>h) hS ?_
  refine ai 18 (some 22) (.pointer (some ⟨G,i + 1,none⟩)) (by kernel_rfl) (fun _ _=>eB (x:=19) (y:=21) (n:=n) (c:=C) (by kernel_rfl) W (by kernel_rfl) (by kernel_rfl) (show ((i:Int) + 1)=((i + 1:Nat):Int) from by omega) (hin2)) (fun _ _ _ h=>h) hS ?_
  refine aO 19 (some 23) (.slice (some ⟨p2.b,0,none⟩) y p2.c) 199 22 (G) (i + 1) (by kernel_rfl) (by kernel_rfl) (by kernel_rfl) (fun w' h=>p8 h.2) (fun _ _ _ h=>h) hS ?_
  refine aK [11] (by kernel_rfl) (by simp) ?_
  refine bH 11 (some 15) (.slice (some ⟨p.b,0,none⟩) x p.c) _ (by kernel_rfl) (iW 14 (by kernel_rfl) (by kernel_rfl) (p8 cGd)) hS ?_ aW;refine aK [20] (by kernel_rfl) (by simp) ?_
  refine bH 20 (some 24) (.slice (some ⟨w.heap.size,0,none⟩) 2 2) _ (by kernel_rfl) (Cr (x:=15) (y:=23) (by kernel_rfl) (by kernel_rfl) (by kernel_rfl)) hS1 ?_ aW;refine bN 21 (some 25) 240 #[.slice (some ⟨w.heap.size,0,none⟩) 2 2] (by kernel_rfl) (by kernel_rfl) t1 ?_
  rintro e' f ⟨b2,c2,rfl,l,R2,V⟩;rw[<- P.out] at V l
  have Y:f.cell? ⟨g,0,none⟩=_:=(V.cell (p:=⟨g,0,none⟩) (aI t)).trans t
  have cGi2:f.cell? ⟨G,i,none⟩=_:=(V.cell (p:=⟨G,i,none⟩) (aI R)).trans R
  have o:f.cell? ⟨G,i + 1,none⟩=_:=(V.cell (p:=⟨G,i + 1,none⟩) (aI d)).trans d
  have fG2:f.frozen? ⟨G,i,none⟩=false:=((hR.keep O).keep V).free i;refine⟨_,rfl,⟨Y,o⟩,?_⟩;replace hS:=(show _/\_ from⟨Y,o⟩)
  refine ai 22 (some 26) (.pointer (some ⟨G,i,none⟩)) (by kernel_rfl) (fun _ _=>eB (x:=7) (y:=8) (n:=n) (c:=C) (by kernel_rfl) W (by kernel_rfl) (by kernel_rfl) (rfl) (hin)) (fun _ _ _ h=>h) hS ?_
  refine aK [23] (by kernel_rfl) (by simp) ?_
  refine dk 23 (f.setCell ⟨G,i,none⟩ (.slice (some ⟨b2,0,none⟩) (x + y) c2)) (by kernel_rfl) (jX 26 25 (by kernel_rfl) (by kernel_rfl) (by kernel_rfl) cGi2 fG2) ⟨bQ I Y,xK (by omega) o⟩ ?_ aW;refine bF (by kernel_rfl) ?_
  exact⟨(b2,c2),by kernel_rfl,f,rfl,l,R2,V⟩
 rintro⟨b2,c2⟩ w' ⟨f,rfl,l,R2,V⟩;dsimp only at l R2;simp only[iV,Act.put,List.setIfInBounds_toArray,List.set_cons_zero,List.set_cons_succ]
 have K:Below w.heap.size w f:=aj O V;obtain⟨q,hq⟩:∃ q:Pg,Hid (q=⟨b2,c2,p.es ++ p2.es⟩):=⟨_,rfl⟩
 have hlen:(p.es ++ p2.es).length=x + y:=by rw[List.length_append,r.out,N.out]
 have hA':PgA f D q:=by
  rw[hq.out];refine⟨?_,fun e he => ?_⟩
  ·show Rw f _ 2 b2 (p.es ++ p2.es).length c2 _
   rw[hlen,ea]; exact R2
  ·rcases List.mem_append.1 he with h | h
   ·exact(ab.1.dH e h).keep K
   ·exact(E.1.dH e h).keep K
 have hv':q.v=.slice (some ⟨b2,0,none⟩) (x + y) c2:=by rw[hq.out]; simp only[Pg.v]; rw[hlen]
 have hqb:q.b=b2:=by rw[hq.out]
 have hqe:q.es=p.es ++ p2.es:=by rw[hq.out]
 obtain⟨Z,C3⟩:=A.put (p':=q) (D':=D) hg hFg hFG hR Q (Chg.of K) (.inr (by rw[hqb]; exact Nat.le_trans O.size l)) hA' (fun _ _ h=>h);rw[hv',hqb] at Z;rw[hv'] at C3
 have hF3:∀ b,((F b/\b≠p.b)\/b=b2)->F b\/w.heap.size<=b:=fun b h=>h.imp (fun h=>h.1) (fun h=>by rw[h]; exact Nat.le_trans O.size l)
 have j:=(hg.keep K).off I (i:=i) (.slice (some ⟨b2,0,none⟩) (x + y) c2);generalize (f.setCell ⟨G,i,none⟩ (.slice (some ⟨b2,0,none⟩) (x + y) c2))=W3 at *;generalize hF3d:(fun x=>(F x/\x≠p.b)\/x=b2)=F3 at Z
 have B:∀ b,F3 b->F b\/w.heap.size<=b:=fun b h=>hF3 b (by rw[<- hF3d] at h; exact h)
 obtain⟨G2,D3,hg3,hFg3,T,hR3⟩:=Z.opn (by simp[hL]);obtain⟨rfl,rfl⟩:G2=G/\D3=C:=by
  have:=(hg3.eq j).1;simp at this;exact⟨this.1,this.2⟩
 have cg3:W3.cell? ⟨g,0,none⟩=some (.slice (some ⟨G2,0,none⟩) n D3):=by
  have:=j.cell (i:=0) rfl;rwa [s.out] at this
 have U:=hR3;rw[List.length_set,s.out] at U;have t4:=delP (i:=i + 1) U (by have:=s.out; omega) (sK _);rw[show ((i + 1:Nat):Int)=(i:Int) + 1 by omega,show (i:Int) + 1 + 1=(i:Int) + 2 by omega] at t4
 have w2':IntKind.i64.wrap ((i:Int) + 2)=(i:Int) + 2:=by rw[IntKind.wrap_i64]; have:=s.out; omega
 go_wp2_with (go_at_call 208; refine t4.mono ?_; rintro e' w5 ⟨rfl,R5,C5⟩; have cg5:w5.cell? ⟨g,0,none⟩=_:=(World.cell?_of_block (a:=⟨g,0,none⟩) (C5.same g (aI cg3) I)).trans cg3; have fg5:w5.frozen? ⟨g,0,none⟩=false:=(j.chg C5 I).free 0);go_end0
 have u:((L.set i q).take (i + 1) ++ (L.set i q).drop (i + 2)).Sublist (L.set i q):=by
  have h:=List.Sublist.append (List.Sublist.refl ((L.set i q).take (i + 1))) (List.drop_sublist 1 ((L.set i q).drop (i + 1)));rw[List.drop_drop,List.take_append_drop] at h;exact h
 obtain⟨A6,C6⟩:=j1 (w:=W3) (w1:=w5) (F:=F3) (D:=D) (g:=g) (G:=G2) (G':=G2) (C':=D3) (n:=n - 1) (L':=(L.set i q).take (i + 1) ++ (L.set i q).drop (i + 2))
  (fun p Q=>Z.bX p (u.mem Q)) (Z.apart.sublist (u.map _)) Z.kind j hFg3 T (fun e=>I e.symm) C5 (fun p Q=>(Z.bX p (u.mem Q)).1.eU hR3)
  (by simp; have:=s.out; omega) (by simpa[List.map_take,List.map_drop] using R5)
 refine⟨_,_,rfl,ens_jn Q M hqe,A6,fun b hb => ?_,C3.trans C6 fun b hb h=>(B b h).resolve_right (by omega)⟩;rcases hb with⟨h,_⟩ | rfl
 ·exact B b h
 ·exact B _ T
end
end Pg
end
section
namespace Pg
open Go.RowKit Go.Lib
def rmQ (P:List (List En)) (i q:Nat):List (List En) :=
 let es:=(P.getD i []).take q ++ (P.getD i []).drop (q + 1)
 if es=[] then P.take i ++ P.drop (i + 1)
 else
  let P1:=P.set i es
  if jnb P1 i then jnQ P1 i else if 1<=i/\jnb P1 (i - 1) then jnQ P1 (i - 1) else P1
def gW (P:List (List En)) (k:List Int):List (List En) :=
 if has P k then rmQ P (pgi P k) (plc (kys (P.getD (pgi P k) [])) k) else P
theorem CF (es:List En) (q:Nat):(flat es).take (q * 2) ++ (flat es).drop ((q + 1) * 2)=flat (es.take q ++ es.drop (q + 1)):=by
 rw[ig,im,ea]
theorem sk {w:World} {F D:Nat->Prop} {g i q:Nat} {L:List Pg} {p:Pg} (A:bJ w F D g L) (hi:L[i]? = some p) (hq:q < p.es.length) (hs:∀ es∈ens L,es.length<=32) (hf:∀ es∈ens L,es≠[]) (hn:L.length<=100000000) :
  Calls Tryz.prog 171 #[.pointer (some ⟨g,0,none⟩),.int .i64 i,.int .i64 q] w fun e' w'=>∃ F' L',e'=.returned (.tuple #[])/\ens L'=rmQ (ens L) i q/\bJ w' F' D g L'/\(∀ b,F' b->F b\/w.heap.size<=b)/\Chg F w w':=by
 have hil:=(List.getElem?_eq_some_iff.1 hi).1
 have hL:L≠[]:=fun e=>by subst e; simp at hil
 obtain⟨G,C,hg,hFg,hFG,hR⟩:=A.opn hL;have K:=A.bX p (List.mem_of_getElem? hi);have h2:=hs p.es (List.mem_map.2 ⟨p,List.mem_of_getElem? hi,rfl⟩);have cg:=hg.cell (i:=0) rfl;have cG:=hR.cell (i:=i) (v:=p.v) (by simp[hi]);obtain⟨n,o⟩:∃ n,Hid (L.length=n):=⟨_,rfl⟩
 obtain⟨m,M⟩:∃ m,Hid (p.es.length=m):=⟨_,rfl⟩
 simp only[Pg.v] at cG;rw[o.out] at cg;rw[M.out] at cG
 have Z:w.drew.cell? ⟨g,0,none⟩=some (.slice (some ⟨G,0,none⟩) n C):=cg
 have cGd:w.drew.cell? ⟨G,i,none⟩=some (.slice (some ⟨p.b,0,none⟩) m p.c):=cG
 have t:g≠G:=fun e=>hR.eQ hg e.symm
 have ng:g≠p.b:=fun e=>K.1.eQ hg e.symm
 have nG:G≠p.b:=fun e=>K.1.eU hR e.symm
 have hin:i < n:=by have:=o.out; omega
 have w1:IntKind.i64.wrap ((q:Int) + 1)=(q:Int) + 1:=by rw[IntKind.wrap_i64]; omega
 have t1:=delE (i:=q) K.1.row.drew hq K.1.one;rw[M.out] at t1;go_enter Tryz.func171,Tryz.ntmps171;go_wp2
 have hpp:Tryz.prog.underlying 142=some (.slice 199):=by kernel_rfl
 refine qu (X:=Unit) (fun _=>[(some 6,.pointer (some ⟨g,0,none⟩)),(some 7,.pointer (some ⟨g,0,none⟩)),(some 8,.pointer (some ⟨g,0,none⟩)),(some 9,.slice (some ⟨G,0,none⟩) n C),(some 10,.int .i64 i),(some 11,.pointer (some ⟨g,0,none⟩)),(some 12,.pointer (some ⟨g,0,none⟩)),(some 13,.pointer (some ⟨g,0,none⟩)),(some 14,.slice (some ⟨G,0,none⟩) n C),(some 15,.int .i64 i),(some 16,.pointer (some ⟨G,i,none⟩)),(some 17,.slice (some ⟨p.b,0,none⟩) m p.c),(some 18,.int .i64 q),(some 19,.int .i64 q),(some 20,.int .i64 ((q:Int) + 1)),(some 21,.slice (some ⟨p.b,0,none⟩) (m - 1) p.c),(some 22,.pointer (some ⟨G,i,none⟩))]) (fun _ w'=>∃ l,w'=l.setCell ⟨G,i,none⟩ (.slice (some ⟨p.b,0,none⟩) (m - 1) p.c)/\Rw l 196 2 p.b (m - 1) p.c ((flat p.es).take (q * 2) ++ (flat p.es).drop ((q + 1) * 2))/\Chg (· = p.b) w.drew l) (fun w'=>w'.cell? ⟨g,0,none⟩=some (.slice (some ⟨G,0,none⟩) n C)) (by kernel_rfl) Z ?_ ?_
 ·have hS:=Z;refine ai 0 (some 6) (.pointer (some ⟨g,0,none⟩)) (by kernel_rfl) (fun _ _=>by kernel_rfl) (fun _ _ _ h=>h) hS ?_
  refine ai 1 (some 7) (.pointer (some ⟨g,0,none⟩)) (by kernel_rfl) (fun _ _=>by kernel_rfl) (fun _ _ _ h=>h) hS ?_
  refine ai 2 (some 8) (.pointer (some ⟨g,0,none⟩)) (by kernel_rfl) (fun _ _=>by kernel_rfl) (fun _ _ _ h=>h) hS ?_
  refine aO 3 (some 9) (.slice (some ⟨G,0,none⟩) n C) 142 8 (g) (0) (by kernel_rfl) (by kernel_rfl) (by kernel_rfl) (fun w' h=>fX h) (fun _ _ _ h=>h) hS ?_
  refine ai 4 (some 10) (.int .i64 i) (by kernel_rfl) (fun _ _=>by kernel_rfl) (fun _ _ _ h=>h) hS ?_
  refine ai 5 (some 11) (.pointer (some ⟨g,0,none⟩)) (by kernel_rfl) (fun _ _=>by kernel_rfl) (fun _ _ _ h=>h) hS ?_
  refine ai 6 (some 12) (.pointer (some ⟨g,0,none⟩)) (by kernel_rfl) (fun _ _=>by kernel_rfl) (fun _ _ _ h=>h) hS ?_
  refine ai 7 (some 13) (.pointer (some ⟨g,0,none⟩)) (by kernel_rfl) (fun _ _=>by kernel_rfl) (fun _ _ _ h=>h) hS ?_
  refine aO 8 (some 14) (.slice (some ⟨G,0,none⟩) n C) 142 13 (g) (0) (by kernel_rfl) (by kernel_rfl) (by kernel_rfl) (fun w' h=>fX h) (fun _ _ _ h=>h) hS ?_
  refine ai 9 (some 15) (.int .i64 i) (by kernel_rfl) (fun _ _=>by kernel_rfl) (fun _ _ _ h=>h) hS ?_
  refine ai 10 (some 16) (.pointer (some ⟨G,i,none⟩)) (by kernel_rfl) (fun _ _=>eB (x:=14) (y:=15) (n:=n) (c:=C) (by kernel_rfl) hpp (by kernel_rfl) (by kernel_rfl) (rfl) (hin)) (fun _ _ _ h=>h) hS ?_
  refine ai 12 (some 18) (.int .i64 q) (by kernel_rfl) (fun _ _=>by kernel_rfl) (fun _ _ _ h=>h) hS ?_
  refine ai 13 (some 19) (.int .i64 q) (by kernel_rfl) (fun _ _=>by kernel_rfl) (fun _ _ _ h=>h) hS ?_
  refine iM 14 (some 20) (.int .i64 (IntKind.i64.wrap ((q:Int) + 1))) (.int .i64 ((q:Int) + 1)) (by rw[w1]) (by kernel_rfl) (fun _ _=>by kernel_rfl) (fun _ _ _ h=>h) hS ?_
  refine aK [11] (by kernel_rfl) (by simp) ?_
  refine bH 11 (some 17) (.slice (some ⟨p.b,0,none⟩) m p.c) _ (by kernel_rfl) (iW 16 (by kernel_rfl) (by kernel_rfl) (p8 cGd)) hS ?_ aW;refine bN 15 (some 21) 207 #[.slice (some ⟨p.b,0,none⟩) m p.c,.int .i64 q,.int .i64 ((q:Int) + 1)] (by kernel_rfl) (by kernel_rfl) t1 ?_
  rintro e' l ⟨rfl,R2,C2⟩
  have P:l.cell? ⟨g,0,none⟩=_:=(World.cell?_of_block (a:=⟨g,0,none⟩) (C2.same g (aI Z) ng)).trans Z
  have cG2:l.cell? ⟨G,i,none⟩=_:=(World.cell?_of_block (a:=⟨G,i,none⟩) (C2.same _ (aI cGd) nG)).trans cGd
  have fG2:l.frozen? ⟨G,i,none⟩=false:=(hR.drew.chg C2 nG).free i;refine⟨_,rfl,P,?_⟩;replace hS:=P;refine ai 16 (some 22) (.pointer (some ⟨G,i,none⟩)) (by kernel_rfl) (fun _ _=>eB (x:=9) (y:=10) (n:=n) (c:=C) (by kernel_rfl) hpp (by kernel_rfl) (by kernel_rfl) (rfl) (hin)) (fun _ _ _ h=>h) hS ?_
  refine aK [17] (by kernel_rfl) (by simp) ?_
  refine dk 17 (l.setCell ⟨G,i,none⟩ (.slice (some ⟨p.b,0,none⟩) (m - 1) p.c)) (by kernel_rfl) (jX 22 21 (by kernel_rfl) (by kernel_rfl) (by kernel_rfl) cG2 fG2) (bQ t P) ?_ aW;refine bF (by kernel_rfl) ?_
  exact⟨(),by kernel_rfl,l,rfl,R2,C2⟩
 rintro - w' ⟨l,rfl,R2,C2⟩;simp only[iV,Act.put,List.setIfInBounds_toArray,List.set_cons_zero,List.set_cons_succ]
 have S:Chg (· = p.b) w l:=(Chg.of (F:=(· = p.b)) (bV w)).trans C2 (fun _ _ h=>h);obtain⟨p',aa⟩:∃ p':Pg,Hid (p'=⟨p.b,p.c,p.es.take q ++ p.es.drop (q + 1)⟩):=⟨_,rfl⟩
 have hlen:(p.es.take q ++ p.es.drop (q + 1)).length=m - 1:=by have:=M.out; simp; omega
 have hA':PgA l D p':=by
  rw[aa.out];refine⟨?_,fun e he => ?_⟩
  ·show Rw l _ 2 p.b (p.es.take q ++ p.es.drop (q + 1)).length p.c _
   rw[hlen]; exact R2.to (CF p.es q)
  ·have he':e∈p.es:=by
    rcases List.mem_append.1 he with h | h
    ·exact List.mem_of_mem_take h
    ·exact List.mem_of_mem_drop h
   refine(K.1.dH e he').off fun b hb hk=>S.same b hb fun f => ?_
   subst f;obtain⟨cs,k⟩:=hk;obtain⟨ds,k'⟩:=K.1.row.kind;exact ez k k' (by decide) rfl
 have hv':p'.v=.slice (some ⟨p.b,0,none⟩) (m - 1) p.c:=by rw[aa.out]; simp only[Pg.v]; rw[hlen]
 have hb':p'.b=p.b:=by rw[aa.out]
 have he':p'.es=p.es.take q ++ p.es.drop (q + 1):=by rw[aa.out]
 obtain⟨r,U⟩:=A.put (p':=p') (D':=D) hg hFg hFG hR hi S (.inl hb') hA' (fun _ _ h=>h);rw[hv',hb'] at r;rw[hv'] at U
 have hF3:∀ b,((F b/\b≠p.b)\/b=p.b)->F b:=fun b h=>h.elim (fun h=>h.1) (fun h=>by rw[h]; exact K.2)
 have P:l.cell? ⟨g,0,none⟩=_:=(World.cell?_of_block (a:=⟨g,0,none⟩) (S.same g (aI cg) ng)).trans cg
 have cG2:l.cell? ⟨G,i,none⟩=_:=(World.cell?_of_block (a:=⟨G,i,none⟩) (S.same _ (aI cG) nG)).trans cG
 have cg3:(l.setCell ⟨G,i,none⟩ (.slice (some ⟨p.b,0,none⟩) (m - 1) p.c)).cell? ⟨g,0,none⟩=some (.slice (some ⟨G,0,none⟩) n C):=bQ t P
 have ae:(l.setCell ⟨G,i,none⟩ (.slice (some ⟨p.b,0,none⟩) (m - 1) p.c)).cell? ⟨G,i,none⟩=some (.slice (some ⟨p.b,0,none⟩) (m - 1) p.c):=World.cell?_setCell_same' _ _ _ (by rw[cG2]; rfl);have B:=(hg.chg S ng).off t (i:=i) (.slice (some ⟨p.b,0,none⟩) (m - 1) p.c);generalize (l.setCell ⟨G,i,none⟩ (.slice (some ⟨p.b,0,none⟩) (m - 1) p.c))=W3 at *;generalize hF3d:(fun x=>(F x/\x≠p.b)\/x=p.b)=F3 at r
 have E:∀ b,F3 b->F b:=fun b h=>hF3 b (by rw[<- hF3d] at h; exact h)
 have hi3:(L.set i p')[i]? = some p':=by rw[List.getElem?_set_self hil]
 have hE3:ens (L.set i p')=(ens L).set i (p.es.take q ++ p.es.drop (q + 1)):=by rw[qd,he']
 have ab:∀ es∈ens (L.set i p'),es.length<=32:=fun es he=>by
  rw[hE3] at he;rcases List.mem_or_eq_of_mem_set he with h | h
  ·exact hs es h
  ·rw[h,hlen]; have:=M.out; omega
 have s:(L.set i p').length=n:=by rw[List.length_set]; exact o.out
 have hX:p.es.take q ++ p.es.drop (q + 1)=[]\/p.es.take q ++ p.es.drop (q + 1)≠[]:=Classical.em _
 have z:Hid (rmQ (ens L) i q=if p.es.take q ++ p.es.drop (q + 1)=[] then (ens L).take i ++ (ens L).drop (i + 1) else if jnb (ens (L.set i p')) i then jnQ (ens (L.set i p')) i else if 1<=i/\jnb (ens (L.set i p')) (i - 1) then jnQ (ens (L.set i p')) (i - 1) else ens (L.set i p')):=by
  show _=_
  unfold rmQ;rw[eI hi,hE3]
 rcases hX with hX | hX
 ·have Y:m=1:=by rw[hX] at hlen; simp at hlen; have:=M.out; omega
  obtain⟨G2,D3,hg3,hFg3,hFG3,hR3⟩:=r.opn (by simp[hL]);obtain⟨rfl,rfl⟩:G2=G/\D3=C:=by
   have:=(hg3.eq B).1;simp at this;exact⟨this.1,this.2⟩
  have hR3':=hR3;rw[s] at hR3';have t4:=delP (i:=i) hR3' (by omega) (sK _)
  have w3:IntKind.i64.wrap ((i:Int) + 1)=(i:Int) + 1:=by rw[IntKind.wrap_i64]; have:=o.out; omega
  have cG3':W3.cell? ⟨G2,i,none⟩=some (.slice (some ⟨p.b,0,none⟩) 0 p.c):=by rw[Y] at ae; exact ae
  have z1:(i:Int) < n:=by omega
  have H:((L.set i p').take i ++ (L.set i p').drop (i + 1)).Sublist (L.set i p'):=by
   have h:=List.Sublist.append (List.Sublist.refl ((L.set i p').take i)) (List.drop_sublist 1 ((L.set i p').drop i));rw[List.drop_drop,List.take_append_drop] at h;exact h
  have ac:Hid (ens ((L.set i p').take i ++ (L.set i p').drop (i + 1))=rmQ (ens L) i q):=by
   show _=_
   rw[z.out,if_pos hX,List.take_set_of_le (Nat.le_refl _),List.drop_set_of_lt (by omega)];simp[ens,List.map_take,List.map_drop]
  have HX:Hid _:=hX;clear hX z ae Y;go_wp2_with (go_at_call 208; refine t4.mono ?_; rintro e' V ⟨rfl,R5,C5⟩; have cg5:V.cell? ⟨g,0,none⟩=_:=(World.cell?_of_block (a:=⟨g,0,none⟩) (C5.same g (aI cg3) t)).trans cg3; have fg5:V.frozen? ⟨g,0,none⟩=false:=(B.chg C5 t).free 0);go_end0;obtain⟨A6,C6⟩:=j1 (w:=W3) (w1:=V) (F:=F3) (D:=D) (g:=g) (G:=G2) (G':=G2) (C':=D3) (n:=n - 1) (L':=(L.set i p').take i ++ (L.set i p').drop (i + 1))
   (fun p K=>r.bX p (H.mem K)) (r.apart.sublist (H.map _)) r.kind B hFg3 hFG3 (fun e=>t e.symm) C5 (fun p K=>(r.bX p (H.mem K)).1.eU hR3)
   (by simp; have:=o.out; omega) (by simpa[List.map_take,List.map_drop] using R5)
  refine⟨_,_,rfl,ac.out,A6,fun b hb => ?_,U.trans C6 fun b _ h=>E b h⟩;rcases hb with⟨h,_⟩ | rfl
  ·exact .inl (E b h)
  ·exact .inl (E _ hFG3)
 ·have Y:0 < m - 1:=by
   rw[<- hlen]; exact List.length_pos_iff.2 hX
  obtain⟨m1,hm2⟩:∃ m1,Hid (m - 1=m1):=⟨_,rfl⟩
  rw[hm2.out] at ae Y
  have z0:¬ ((m1:Int)=0):=by omega
  have z1:(i:Int) < n:=by omega
  have w3:IntKind.i64.wrap ((i:Int) - 1)=(i:Int) - 1:=by rw[IntKind.wrap_i64]; omega
  have N:=z.out;rw[if_neg hX] at N
  have z:Hid _:=N;clear N
  have HX:Hid _:=hX;clear hX
  have hf3:∀ es∈ens (L.set i p'),es≠[]:=fun es he=>by
   rw[hE3] at he;rcases List.mem_or_eq_of_mem_set he with h | h
   ·exact hf es h
   ·rw[h]; exact HX.out
  have u:∀ (W:World) (j:Nat),bJ W F3 D g (L.set i p')->jnb (ens (L.set i p')) j=true->Calls Tryz.prog 210 #[.pointer (some ⟨g,0,none⟩),.int .i64 j] W fun e' w'=>∃ F' L',e'=.returned (.tuple #[])/\ens L'=jnQ (ens (L.set i p')) j/\bJ w' F' D g L'/\(∀ b,F' b->F3 b\/W.heap.size<=b)/\Chg F3 W w':=fun W j AW hj=>by
   unfold jnb at hj;simp only[Bool.and_eq_true,decide_eq_true_eq] at hj
   have hl:j + 1 < (L.set i p').length:=by have:=hj.1; simpa[ens] using this
   obtain⟨a,ha⟩:∃ a,(L.set i p')[j]? = some a:=⟨_,List.getElem?_eq_getElem (by omega)⟩
   obtain⟨c,hc⟩:∃ c,(L.set i p')[j + 1]? = some c:=⟨_,List.getElem?_eq_getElem hl⟩
   have ma:a.es∈ens (L.set i p'):=List.mem_map.2 ⟨a,List.mem_of_getElem? ha,rfl⟩
   have mc:c.es∈ens (L.set i p'):=List.mem_map.2 ⟨c,List.mem_of_getElem? hc,rfl⟩;have s1:=ab _ ma;have s2:=ab _ mc;exact yo AW ha hc (by rw[s]; have:=o.out; omega) (List.length_pos_iff.2 (hf3 _ ma)) (by omega) (by omega)
  have O:=yZ r (i:=i) (by omega) (by rw[s]; have:=o.out; omega) (fun es he=>by have:=ab es he; omega);by_cases Q:jnb (ens (L.set i p')) i=true
  ·have ac:Hid (rmQ (ens L) i q=jnQ (ens (L.set i p')) i):=by show _=_; rw[z.out,if_pos Q]
   have t5:∀ W,Below W3.heap.size W3 W->_:=fun W d=>u W i (r.keep d) Q
   rw[Q] at O;clear u Q z
   go_wp2_with (first
    | (go_at_call 209; refine O.mono ?_; rintro e' V ⟨rfl,R⟩; have t6:=t5 V R; clear t5 O)
    | (go_at_call 210; refine t6.mono ?_; rintro e' w6 ⟨F6,L6,rfl,hE6,A6,hF6,C6⟩))
   go_end0;refine⟨F6,L6,rfl,hE6.trans ac.out.symm,A6,fun b hb => ?_,(U.trans (Chg.of (F:=F) R) (fun _ _ h=>h)).trans C6 fun b _ h=>E b h⟩;rcases hF6 b hb with h | h
   ·exact .inl (E b h)
   ·exact .inr (by have:=U.size; have:=R.size; omega)
  ·have T:jnb (ens (L.set i p')) i=false:=by simpa using Q
   by_cases hi0:i=0
   ·have ac:Hid (rmQ (ens L) i q=ens (L.set i p')):=by show _=_; rw[z.out,if_neg Q,if_neg (by omega)]
    rw[T] at O
    have tn:∀ W:World,Calls Tryz.prog 209 #[.pointer (some ⟨g,0,none⟩),.int .i64 (-1)] W _:=fun W=>jn_neg
    have mk:True:=trivial;clear u Q z T;subst hi0
    go_wp2_with (first
     | (go_at_call 209; clear mk; refine O.mono ?_; rintro e' V ⟨rfl,R⟩; clear O)
     | (go_at_call 209; refine(tn _).mono ?_; rintro e' w6 ⟨rfl,I⟩))
    go_end0;have d:=aj R I
    first
     | exact⟨F3,_,rfl,ac.out.symm,r.keep d,fun b hb=>.inl (E b hb),U.trans (Chg.of (F:=F) d) (fun _ _ h=>h)⟩
     | exact⟨rfl,F3,_,ac.out.symm,r.keep d,fun b hb=>.inl (E b hb),U.trans (Chg.of (F:=F) d) (fun _ _ h=>h)⟩
   ·obtain⟨j,rfl⟩:∃ j,i=j + 1:=⟨i - 1,by omega⟩
    have tk:∀ W,Below W3.heap.size W3 W->Calls Tryz.prog 209 #[.pointer (some ⟨g,0,none⟩),.int .i64 j] W _:=fun W d=>yZ (r.keep d) (i:=j) (by omega) (by rw[s]; have:=o.out; omega) (fun es he=>by have:=ab es he; omega)
    have e1:((j + 1:Nat):Int) - 1=(j:Int):=by omega
    have e2:(j:Int) + 1 - 1=(j:Int):=by omega
    rw[T] at O
    have mk:True:=trivial
    have mk2:True:=trivial;by_cases h3:jnb (ens (L.set (j + 1) p')) j=true
    ·have ac:Hid (rmQ (ens L) (j + 1) q=jnQ (ens (L.set (j + 1) p')) j):=by show _=_; rw[z.out,if_neg Q,if_pos ⟨by omega,by simpa using h3⟩]; rfl
     have t5:∀ W,Below W3.heap.size W3 W->_:=fun W d=>u W j (r.keep d) h3
     rw[h3] at tk;clear u Q z T h3
     go_wp2_with (first
      | (go_at_call 209; clear mk; refine O.mono ?_; rintro e' V ⟨rfl,R⟩; have J:=tk V R; clear O tk)
      | (go_at_call 209; refine J.mono ?_; rintro e' w6 ⟨rfl,I⟩; have d:=aj R I; have t6:=t5 w6 d; clear t5 J)
      | (go_at_call 210; refine t6.mono ?_; rintro e' w7 ⟨F6,L6,rfl,hE6,A6,hF6,C6⟩))
     go_end0;refine⟨F6,L6,rfl,hE6.trans ac.out.symm,A6,fun b hb => ?_,(U.trans (Chg.of (F:=F) d) (fun _ _ h=>h)).trans C6 fun b _ h=>E b h⟩;rcases hF6 b hb with h | h
     ·exact .inl (E b h)
     ·exact .inr (by have:=U.size; have:=d.size; omega)
    ·have h3':jnb (ens (L.set (j + 1) p')) j=false:=by simpa using h3
     have ac:Hid (rmQ (ens L) (j + 1) q=ens (L.set (j + 1) p')):=by show _=_; rw[z.out,if_neg Q,if_neg (fun h=>h3 (by simpa using h.2))]
     rw[h3'] at tk;clear u Q z T h3 h3'
     go_wp2_with (first
      | (go_at_call 209; clear mk; refine O.mono ?_; rintro e' V ⟨rfl,R⟩; have J:=tk V R; clear O tk)
      | (go_at_call 209; refine J.mono ?_; rintro e' w6 ⟨rfl,I⟩; have d:=aj R I; clear J))
     go_end0
     first
      | exact⟨F3,_,rfl,ac.out.symm,r.keep d,fun b hb=>.inl (E b hb),U.trans (Chg.of (F:=F) d) (fun _ _ h=>h)⟩
      | exact⟨rfl,F3,_,ac.out.symm,r.keep d,fun b hb=>.inl (E b hb),U.trans (Chg.of (F:=F) d) (fun _ _ h=>h)⟩
end Pg
end
section
namespace Pg
open Go.RowKit Go.Lib
theorem sI {w:World} {F D:Nat->Prop} {g:Nat} {L:List Pg} {kv:Value} {k:List Int} (A:bJ w F D g L) (O:Ord (ens L)) (hs:∀ es∈ens L,es.length<=32) (hn:L.length<=100000000) (h:By w kv k) :
  Calls Tryz.prog 122 #[.pointer (some ⟨g,0,none⟩),kv] w fun e w'=>e=.returned (.bool (has (ens L) k))/\∃ F' L',ens L'=gW (ens L) k/\bJ w' F' D g L'/\(∀ b,F' b->F b\/w.heap.size<=b)/\Chg F w w':=by
 by_cases hL:L=[]
 ·subst hL;have t:=mZ (v:=kv) A
  have e1:has (ens []) k=false:=rfl
  have e2:Hid (gW (ens []) k=ens []):=rfl;rw[e1];have s:=(show Hid _ from A)
  clear A O hs h;go_enter Tryz.func122,Tryz.ntmps122;go_wp2_with (go_at_call 146; refine t.mono ?_; rintro y r ⟨rfl,rfl⟩);go_ret;exact⟨rfl,F,[],e2.out.symm,s.out,fun b hb=>.inl hb,Chg.refl _ _⟩
 ·obtain⟨p,n,j⟩:=px hL k;have x:=List.mem_of_getElem? n;have B:=hs p.es (List.mem_map.2 ⟨p,x,rfl⟩);have t:=lD A O h (by omega) n (by omega)
  have l:has (ens L) k=thr (kys p.es) k:=by
   unfold has;rw[j];have:(ens L).isEmpty=false:=by simp[ens,hL]
   simp[this]
  rw[l];by_cases f:thr (kys p.es) k=true
  ·obtain⟨e,he,C⟩:=lI f;have u:=(List.getElem?_eq_some_iff.1 he).1
   have m:Hid (gW (ens L) k=rmQ (ens L) (pgi (ens L) k) (plc (kys p.es) k)):=by
    show _=_
    unfold gW;rw[l,f,if_pos rfl,j]
   have z:∀ w',Below w.heap.size w w'->_:=fun w' c=>sk (A.keep c) n u hs O.full hn
   rw[f] at t ⊢;generalize pgi (ens L) k=i at *;generalize plc (kys p.es) k=q at *;clear A O hs h f l;go_enter Tryz.func122,Tryz.ntmps122
   go_wp2_with (first
    | (go_at_call 146; refine t.mono ?_; rintro y r ⟨rfl,c⟩; have o:=z r c; clear t z)
    | (go_at_call 171; refine o.mono ?_; rintro y G ⟨F',L',rfl,E,hA,hF,hC⟩))
   go_ret;exact⟨rfl,F',L',E.trans m.out.symm,hA,fun b hb=>(hF b hb).imp id (fun h=>Nat.le_trans c.size h),(Chg.of (F:=F) c).trans hC (fun _ _ h=>h)⟩
  ·have d:thr (kys p.es) k=false:=by simpa using f
   have m:Hid (gW (ens L) k=ens L):=by
    show _=_
    unfold gW;rw[l,d,if_neg (by decide)]
   rw[d] at t ⊢;generalize pgi (ens L) k=i at *;generalize plc (kys p.es) k=q at *;have s:=(show Hid _ from A)
   clear A O hs h f d l;go_enter Tryz.func122,Tryz.ntmps122;go_wp2_with (go_at_call 146; refine t.mono ?_; rintro y r ⟨rfl,c⟩);go_ret;exact⟨rfl,F,L,m.out.symm,s.out.keep c,fun b hb=>.inl hb,Chg.of c⟩
theorem Ch {w:World}:Calls Tryz.prog 43 #[] w fun e w'=>∃ g,e=.returned (.pointer (some ⟨g,0,none⟩))/\g=w.heap.size/\bJ w' (· = g) (fun _=>False) g []/\Below w.heap.size w w':=by
 go_enter Tryz.func43,Tryz.ntmps43;go_wp2;go_ret;refine⟨_,rfl,rfl,⟨⟨_,aC w [.slice none 0 0] 144,rfl,.inl ⟨rfl,rfl⟩⟩,fun p c=>by simp at c,by simp,fun b hb => ?_⟩,ae w _⟩;subst hb;exact⟨_,_,aC w [.slice none 0 0] 144,by decide⟩
end Pg
end
section
namespace Pg
open Go.RowKit Go.Lib
end Pg
end
section
namespace Pg
open Go.RowKit Go.Lib
section
variable {B l B' g n:Nat}{W W' w:World}{cs:List Value}{fn:FuncId}{tmps args lb:Array Value}{ps:Array Tmp}{assign body:Code}{I:Nat->World->Prop}{Ix:Code->Nat->World->Prop}{Ar:Nat->Array Value->Nat->World->Prop}{Rd:World->Prop}
structure Rec(B:Nat)(W W':World):Prop where
 os:W'.os=W.os
 tape:W'.tape=W.tape
 output:W'.output=W.output
 size:W.heap.size<=W'.heap.size
 same:∀ (k:Nat) (o:Obj),W.heap[k]? = some o->(k < B\/o.isCells=true)->W'.heap[k]? = some o
def St(B:Nat)(I:World->Prop):Prop:=∀ W W',I W->Rec B W W'->I W'
theorem Rec.of(h:Below W.heap.size W W'):Rec B W W':=⟨h.os,h.tape,h.output,h.size,fun k _ hk _=>(h.block k (lt_of_block hk)).trans hk⟩
theorem Rec.put{o:Obj}(h:W.heap[l]? = some o)(d:o.isCells=false)(f:B<=l)(c:Obj):Rec B W (W.putObj l c) :=
 ⟨rfl,rfl,rfl,by simp,fun k x a hx=>by
  have b:k≠l:=fun e=>by
   subst e;rw[h] at a
   cases a;rcases hx with hx | hx
   ·omega
   ·rw[d] at hx; cases hx
  exact(World.putObj_heap_other b).trans a⟩
theorem Rec.mono(h:Rec B W W')(hB:B'<=B):Rec B' W W':=⟨h.os,h.tape,h.output,h.size,fun k o hk ho=>h.same k o hk (ho.imp (fun h=>by omega) id)⟩
theorem Rec.blk(h:Rec B W W'){t:TypeId}(hb:Blk W g cs t):Blk W' g cs t:=⟨h.same g _ hb.blk (.inr rfl)⟩
theorem vP(hb:Below W.heap.size W W')(b:l < W.heap.size)(o:Obj):Below (W.putObj l o).heap.size (W.putObj l o) (W'.putObj l o):=by
 refine⟨hb.os,hb.tape,hb.output,by simpa using hb.size,fun k a => ?_⟩;simp at a;by_cases e:k=l
 ·subst e;have:=hb.size;rw[World.putObj_heap_same (by omega),World.putObj_heap_same b]
 ·rw[World.putObj_heap_other e,World.putObj_heap_other e]; exact hb.block k a
structure Cel(W W':World):Prop where
 size:W.heap.size<=W'.heap.size
 same:∀ (k:Nat) (o:Obj),W.heap[k]? = some o->o.isCells=true->W'.heap[k]? = some o
theorem Rec.cel(h:Rec B W W'):Cel W W':=⟨h.size,fun k o hk ho=>h.same k o hk (.inr ho)⟩
def Safe(Tp:TypeId->Prop)(o:Obj):Prop:=∀ cs t fz,o=.cells cs t fz->¬ Tp t
theorem xd{Tp:TypeId->Prop}{r:Loop}:Safe Tp (.loop r):=fun _ _ _ e=>by cases e
theorem mu{Tp:TypeId->Prop}{d:Option (List Deferred)}:Safe Tp (.deferred d):=fun _ _ _ e=>by cases e
structure bj(Tp:TypeId->Prop)(B:Nat)(W W':World):Prop where
 size:W.heap.size<=W'.heap.size
 same:∀ (k:Nat) (o:Obj),B<=k->W.heap[k]? = some o->Safe Tp o->W'.heap[k]? = some o
theorem bj.of{Tp:TypeId->Prop}(h:Below W.heap.size W W'):bj Tp B W W':=⟨h.size,fun k _ _ hk _=>(h.block k (lt_of_block hk)).trans hk⟩
theorem bj.trans{Tp:TypeId->Prop}{W'':World}(h:bj Tp B W W')(h':bj Tp B W' W''):bj Tp B W W'':=⟨Nat.le_trans h.size h'.size,fun k o hB hk ho=>h'.same k o hB (h.same k o hB hk ho) ho⟩
theorem bj.mono{Tp:TypeId->Prop}(h:bj Tp B W W')(hB:B<=B'):bj Tp B' W W':=⟨h.size,fun k o hk h0 ho=>h.same k o (Nat.le_trans hB hk) h0 ho⟩
theorem bj.blk{Tp:TypeId->Prop}(h:bj Tp B W W'){t:TypeId}(hb:Blk W g cs t)(hg:B<=g)(ht:¬ Tp t):Blk W' g cs t:=⟨h.same g _ hg hb.blk (fun _ _ _ e=>by cases e; exact ht)⟩
def Itr(Tp:TypeId->Prop)(gf:Nat)(lb:Array Value)(N:Nat)(Ar:Nat->Array Value->Nat->World->Prop)(Rd:World->Prop):Prop :=
 ∀ (l:Nat) (J Jx:Nat->World->Prop) (W:World),(∀ i,St W.heap.size (J i))->(∀ i,St W.heap.size (Jx i))->(∀ i V,J i V->Rd V) ->
  (∀ i args V V',i < N->J i V->W.heap.size<=V.heap.size->Below V.heap.size V V'->Ar i args V.heap.size V'->YieldAt Fence.wide 0 Tryz.prog l args V' fun e V''=>bj Tp W.heap.size V' V''/\((e=.returned (.bool true)/\J (i + 1) V'')\/(e=.returned (.bool false)/\Jx (i + 1) V''))) ->
  J 0 W ->
  Calls Tryz.prog gf (#[.func (.yield l) #[] #[]] ++ lb) W fun e W'=>(∃ v,e=.returned v)/\W.heap.size<=W'.heap.size/\(J N W'\/∃ i,i < N/\Jx (i + 1) W')
def nY(Tp:TypeId->Prop)(B:Nat)(I:Nat->World->Prop)(Ix:Code->Nat->World->Prop)(i:Nat)(W:World):Exit->Act->World->Prop
 | .normal,_,W'=>bj Tp B W W'/\I i W'
 | .ret,_,W'=>bj Tp B W W'/\Ix .ret i W'
 | .exit id,_,W'=>bj Tp B W W'/\Ix (.exit id) i W'
 | .goto t,_,W'=>bj Tp B W W'/\Ix (.goto t) i W'
 | .panic _,_,_=>False
 | .outgrown,_,_=>False
def db(fn:FuncId)(tmps:Array Value)(ps:Array Tmp)(assign body:Code)(dd:Nat)(st:LoopState)(pe:Option Code):Loop:={ state:=st,pending:=pe,fn,tmps,params:=ps,assign,body,defers:=dd }
structure gh(Tp:TypeId->Prop)(B l:Nat)(W W':World):Prop where
 size:W.heap.size<=W'.heap.size
 same:∀ (k:Nat) (o:Obj),B<=k->k≠l->W.heap[k]? = some o->Safe Tp o->W'.heap[k]? = some o
theorem gh.from{Tp:TypeId->Prop}{B1:Nat}(h:gh Tp B l W W')(hB:B<=B1)(hl:l < B1):bj Tp B1 W W':=⟨h.size,fun k o hk h0 ho=>h.same k o (by omega) (by omega) h0 ho⟩
theorem iP{Tp:TypeId->Prop}{i:Nat}{g:Nat}{V:World}(A:∀ i args n V W,Ar i args n V->Cel V W->Ar i args n W)(T:∀ i,St B (I i))(D:∀ c i,St B (Ix c i))(s:B<=l)(hL:V.heap[l]? = some (.loop (db fn tmps ps assign body g .ready none)))(hi:I i V)(hb:Below V.heap.size V W)(Z:Ar i args V.heap.size W)(S:args.size=ps.size)(y:assign.wpIn (Fence.wide.inRound l) n Tryz.prog (Exit.then (fun a1 W1=>Below W.heap.size W W1/\∀ V2 W2,I i V2->Below V2.heap.size V2 W2->Ar i args V2.heap.size W2->(∀ b,b≠l->W2.heap[b]? = W1.heap[b]?)->W2.heap.size=W1.heap.size->V2.heap.size=V.heap.size->(∃ r,W2.heap[l]? = some (.loop r))->body.wpIn (Fence.wide.inRound l) n Tryz.prog (nY Tp B I Ix (i + 1) W2) a1 W2) (fun _ _ _=>False)) { tmps:=(ps.zip args).foldl (fun t (p,v)=>t.setIfInBounds p v) tmps,defers:=[] } W) :
  YieldAt Fence.wide 0 Tryz.prog l args W fun e W'=>gh Tp B l W W'/\((e=.returned (.bool true)/\I (i + 1) W'/\W'.heap[l]? = some (.loop (db fn tmps ps assign body g .ready none)))\/(e=.returned (.bool false)/\∃ c,Ix c (i + 1) W'/\W'.heap[l]? = some (.loop (db fn tmps ps assign body g .done (some c))))):=by
 have M:l < V.heap.size:=lt_of_block hL
 have H:W.heap[l]? = some (.loop (db fn tmps ps assign body g .ready none)):=(hb.block l M).trans hL;have hy:=run_yield (P:=Tryz.prog) (args:=args) H S
 have x:assign.wpIn (Fence.wide.inRound l) n Tryz.prog (Exit.then (fun a₁ Y=>∃ w₂,(Instr.beginRound l).run Tryz.prog Y=.ok () w₂/\body.wpIn (Fence.wide.inRound l) n Tryz.prog (roundPost Tryz.prog l fun e W'=>gh Tp B l W W'/\((e=.returned (.bool true)/\I (i + 1) W'/\W'.heap[l]? = some (.loop (db fn tmps ps assign body g .ready none)))\/(e=.returned (.bool false)/\∃ c,Ix c (i + 1) W'/\W'.heap[l]? = some (.loop (db fn tmps ps assign body g .done (some c)))))) a₁ w₂) (fun _ _ _=>False)) { tmps:=(ps.zip args).foldl (fun t (p,v)=>t.setIfInBounds p v) tmps,defers:=[] } W:=by
  refine wpIn_mono y ?_
  intro e a1 W1 h
  cases e with
  | normal =>
   obtain⟨w,E⟩:=h
   have J:W1.heap[l]? = some (.loop (db fn tmps ps assign body g .ready none)):=(w.block l (lt_of_block H)).trans H
   have C:l < W1.heap.size:=lt_of_block J;refine⟨_,run_beginRound J rfl,?_⟩
   have O:Below V.heap.size V W1:=aj hb w;have X:=E (V.putObj l (.loop { db fn tmps ps assign body g .ready none with state:=.busy })) (W1.putObj l (.loop { db fn tmps ps assign body g .ready none with state:=.busy }))
    (T i _ _ hi (Rec.put hL rfl s _)) (vP O M _) (by simpa using A i args _ _ _ (A i args _ _ _ Z (Rec.of (B:=0) w).cel) (Rec.put J rfl (Nat.zero_le _) _).cel)
    (fun b hb=>World.putObj_heap_other hb) (by simp) (by simp) ⟨_,World.putObj_heap_same C⟩
   have R:(W1.putObj l (.loop { db fn tmps ps assign body g .ready none with state:=.busy })).heap[l]? = some (.loop { db fn tmps ps assign body g .ready none with state:=.busy }):=World.putObj_heap_same C;generalize hW2:W1.putObj l (.loop { db fn tmps ps assign body g .ready none with state:=.busy })=W2 at *
   have L:gh Tp B l W W2:=by
    rw[<- hW2];refine⟨by simpa using w.size,fun k _ Q z N _ => ?_⟩;rw[World.putObj_heap_other z];exact(w.block k (lt_of_block N)).trans N
   have fin:∀ (jump:Option Code) (u:World),bj Tp B W2 u ->
     (Instr.endRound l jump).run Tryz.prog u=.ok (.bool jump.isNone) (u.putObj l (.loop (db fn tmps ps assign body g (if jump.isNone then .ready else .done) jump)))/\u.heap[l]? = some (.loop { db fn tmps ps assign body g .ready none with state:=.busy }) /\
     (u.putObj l (.loop (db fn tmps ps assign body g (if jump.isNone then .ready else .done) jump))).heap[l]? = some (.loop (db fn tmps ps assign body g (if jump.isNone then .ready else .done) jump)) /\
     gh Tp B l W (u.putObj l (.loop (db fn tmps ps assign body g (if jump.isNone then .ready else .done) jump))):=fun jump u d=>by
    have a:=d.same _ _ s R xd;refine⟨run_endRound (P:=Tryz.prog) jump a,a,World.putObj_heap_same (lt_of_block a),⟨by simpa using Nat.le_trans L.size d.size,fun k o Q z N U => ?_⟩⟩;rw[World.putObj_heap_other z];exact d.same k o Q (L.same k o Q z N U) U
   refine wpIn_mono X ?_
   intro e a3 u K
   cases e with
   | normal =>
    obtain⟨d,m⟩:=K;obtain⟨G,a,q,j⟩:=fin none u d;exact⟨_,_,G,j,.inl ⟨rfl,T _ _ _ m (Rec.put a rfl s _),q⟩⟩
   | ret =>
    obtain⟨d,m⟩:=K;obtain⟨G,a,q,j⟩:=fin (some .ret) u d;exact⟨_,_,G,j,.inr ⟨rfl,.ret,D _ _ _ _ m (Rec.put a rfl s _),q⟩⟩
   | exit id =>
    obtain⟨d,m⟩:=K;obtain⟨G,a,q,j⟩:=fin (some (.exit id)) u d;exact⟨_,_,G,j,.inr ⟨rfl,.exit id,D _ _ _ _ m (Rec.put a rfl s _),q⟩⟩
   | goto t =>
    obtain⟨d,m⟩:=K;obtain⟨G,a,q,j⟩:=fin (some (.goto t)) u d;exact⟨_,_,G,j,.inr ⟨rfl,.goto t,D _ _ _ _ m (Rec.put a rfl s _),q⟩⟩
   | panic ch=>exact K.elim
   | outgrown=>exact K.elim
  | ret=>exact h.elim
  | exit id=>exact h.elim
  | goto t=>exact h.elim
  | panic ch=>exact h.elim
  | outgrown=>exact h.elim
 exact⟨fn,_,assign,body,hy,by
  have:=roundIn_of_wpIn (F:=Fence.wide) (n:=n) (P:=Tryz.prog) (f:=fn) trivial x
  exact⟨this.1,fun c cs _=>this.2 c cs (fun _ h=>by cases h)⟩⟩
def RoundW(Tp:TypeId->Prop)(w:World)(N n:Nat)(ps:Array Tmp)(assign body:Code)(tmps:Array Value)(Ar:Nat->Array Value->Nat->World->Prop)(I:Nat->World->Prop)(Ix:Code->Nat->World->Prop):Prop :=
 ∀ (l i:Nat) (args:Array Value) (V W:World),w.heap.size<=l->l < V.heap.size->(∃ r,V.heap[l]? = some (.loop r))->i < N->I i V->Below V.heap.size V W->Ar i args V.heap.size W ->
  assign.wpIn (Fence.wide.inRound l) n Tryz.prog (Exit.then (fun a1 W1=>Below W.heap.size W W1/\∀ V2 W2,I i V2->Below V2.heap.size V2 W2->Ar i args V2.heap.size W2->(∀ b,b≠l->W2.heap[b]? = W1.heap[b]?)->W2.heap.size=W1.heap.size->V2.heap.size=V.heap.size->(∃ r,W2.heap[l]? = some (.loop r))->body.wpIn (Fence.wide.inRound l) n Tryz.prog (nY Tp w.heap.size I Ix (i + 1) W2) a1 W2) (fun _ _ _=>False)) { tmps:=(ps.zip args).foldl (fun t (p,v)=>t.setIfInBounds p v) tmps,defers:=[] } W
theorem gN{Tp:TypeId->Prop}{q N:Nat}(O:Itr Tp q lb N Ar Rd){g:Operand}{Q:Exit->Act->World->Prop}{a:Act}(Z:a.eval g=.func (.func q) #[] lb)(M:∀ args w,(callFunc q args).run Tryz.prog w=.ok (.enter q args) w)(s:∀ i args n V W,Ar i args n V->Cel V W->Ar i args n W)(L:∀ i args n V,Ar i args n V->args.size=ps.size)(I:Nat->World->Prop)(Ix:Code->Nat->World->Prop)(y:∀ i,St w.heap.size (I i))(o:∀ c i,St w.heap.size (Ix c i))(C:∀ i V,I i V->Rd V)(U:I 0 w)(f:RoundW Tp w N n ps assign body a.tmps Ar I Ix)(j:∀ D W,w.heap.size<=D->W.heap[D]? = some (.deferred (some []))->I N W->Q .normal { a with defers:={ target:=.collected D,args:=#[] } :: a.defers } W)(p:∀ D c i W,w.heap.size<=D->W.heap[D]? = some (.deferred (some []))->i < N->Ix c (i + 1) W->c.wpIn Fence.wide n Tryz.prog Q { a with defers:={ target:=.collected D,args:=#[] } :: a.defers } W) :
  (Code.rangeFunc g ps assign body).wpIn Fence.wide n Tryz.prog Q a w:=by
 refine wpIn_rangeFunc ?_
 intro fn _;obtain⟨b,u⟩:∃ b,(w.alloc (.deferred (some []))).alloc (.loop (db fn a.tmps ps assign body w.heap.size .ready none))=b:=⟨_,rfl⟩
 have K:Below w.heap.size w b:=by rw[<- u]; exact aj (ae w _) (ae _ _)
 have T:b.heap.size=w.heap.size + 1 + 1:=by rw[<- u]; simp
 have z:b.heap[w.heap.size + 1]? = some (.loop (db fn a.tmps ps assign body w.heap.size .ready none)):=by
  rw[<- u]; have:=World.alloc_heap_new (w.alloc (.deferred (some []))) (.loop (db fn a.tmps ps assign body w.heap.size .ready none)); rwa [World.size_alloc] at this
 have J:b.heap[w.heap.size]? = some (.deferred (some [])):=by
  rw[<- u]; exact(Below.heap_alloc _ _ _ (by simp)).trans (World.alloc_heap_new w _)
 refine⟨w.heap.size + 1,[{ target:=.collected w.heap.size,args:=#[] }],b,{ target:=.fn (.func q) lb,args:=#[.func (.yield (w.heap.size + 1)) #[] #[]] },b,q,
  #[.func (.yield (w.heap.size + 1)) #[] #[]] ++ lb,b,?_,?_,?_,?_,fun h=>(by cases h),?_⟩
 ·rw[<- u]; exact run_enterLoop_outer _ _ _ _ _
 ·simp only[resolve,Z];simp[go_sem]
 ·intro f' _; trivial
 ·simp[invoke,go_sem,M]
 ·refine callsIn_wide.2 ?_
  refine(O (w.heap.size + 1)
   (fun i W=>I i W/\W.heap[w.heap.size + 1]? = some (.loop (db fn a.tmps ps assign body w.heap.size .ready none))/\W.heap[w.heap.size]? = some (.deferred (some [])))
   (fun i W=>∃ c,Ix c i W/\W.heap[w.heap.size + 1]? = some (.loop (db fn a.tmps ps assign body w.heap.size .done (some c)))/\W.heap[w.heap.size]? = some (.deferred (some [])))
   b (fun i X Y hx l=>⟨y i X Y hx.1 (l.mono (by omega)),l.same _ _ hx.2.1 (.inl (by omega)),l.same _ _ hx.2.2 (.inl (by omega))⟩)
   (fun i X Y hx l=>by obtain⟨c,E,H,G⟩:=hx; exact⟨c,o c i X Y E (l.mono (by omega)),l.same _ _ H (.inl (by omega)),l.same _ _ G (.inl (by omega))⟩)
   (fun i V hv=>C i V hv.1) ?_ ⟨y 0 _ _ U (Rec.of K),z,J⟩).mono ?_
  ·rintro i args V S m ⟨hi,d,r⟩ F hb A;refine(iP (B:=w.heap.size) s y o (by omega) d hi hb A (L _ _ _ _ A) (f _ i args V S (by omega) (lt_of_block d) ⟨_,d⟩ m hi hb A)).mono ?_
   rintro e R ⟨t,h⟩;have x:=t.same _ _ (Nat.le_refl _) (by omega) ((hb.block _ (lt_of_block r)).trans r) mu;refine⟨t.from (by omega) (by omega),h.imp (fun h=>⟨h.1,h.2.1,h.2.2,x⟩) (fun h => ?_)⟩;obtain⟨E,c,H,G⟩:=h;exact⟨E,c,H,G,x⟩
  ·rintro e W2 ⟨⟨v,rfl⟩,F,⟨hi,d,r⟩ | ⟨i,m,c,hi,d,r⟩⟩
   ·exact⟨none,_,run_endLoop (P:=Tryz.prog) d (by simp[db]),j _ _ (Nat.le_refl _) ((World.putObj_heap_other (by omega)).trans r) (y _ _ _ hi (Rec.put d rfl (by omega) _))⟩
   ·exact⟨some c,_,run_endLoop (P:=Tryz.prog) d (by simp[db]),p _ c i _ (Nat.le_refl _) ((World.putObj_heap_other (by omega)).trans r) m (o c _ _ _ hi (Rec.put d rfl (by omega) _))⟩
end
end Pg
end
section
namespace Pg
open Go.RowKit Go.Lib
section
variable {a b:Nat}{w:World}{v fv tv:Value}{t f:List Int}{D:Nat->Prop}{P:List (List En)}{F:Nat → Prop}{L:List Pg}
def cut{α:Type}(l:List α)(a b:Nat):List α:=(l.drop a).take (max a b - a)
theorem uM{α:Type}{l:List α}{j:Nat}{x:α}(h:(cut l a b)[j]? = some x):l[a + j]? = some x:=by
 unfold cut at h;rw[List.getElem?_take] at h;split at h
 ·rw[List.getElem?_drop] at h; exact h
 ·cases h
theorem uT{α:Type}{l:List α}(ha:a<=l.length)(hb:b<=l.length):(cut l a b).length=max a b - a:=by
 unfold cut;rw[List.length_take,List.length_drop]; omega
def eH(P:List (List En))(t:List Int):Nat:=if t=[] then P.length else min (pgi P t + 1) P.length
def tY(es:List En)(t:List Int):Nat:=if t=[] then es.length else plc (kys es) t
def wth(es:List En)(f t:List Int):List En:=cut es (plc (kys es) f) (tY es t)
def wlk(P:List (List En))(f t:List Int):List En:=(cut P (pgi P f) (eH P t)).flatMap fun es=>wth es f t
theorem mz(h:By w v t):Calls Tryz.prog 173 #[v] w fun e w'=>e=.returned (.bool (decide (t≠[])))/\w'=w:=by
 obtain⟨m,c,rfl,j,g,n,i,f⟩:=h.ex
 have b:(decide (t≠[]))=decide ((0:Int) < (t.length:Int)):=by
  cases t with
  | nil=>rfl
  | cons a l=>simp
 rw[b];clear h f
 have d:decide ((0:Int) < (t.length:Int))=decide (0 < t.length):=by congr 1; exact propext ⟨fun h=>by omega,fun h=>by omega⟩
 rw[d];go_enter Tryz.func173,Tryz.ntmps173;go_wp2;go_ret;exact⟨rfl,rfl⟩
structure SpA(w:World)(F:Nat->Prop)(v:Value)(Q:List Pg):Prop where
 ex:∃ ao c,v=.slice ao Q.length c/\Q.length<=c/\c<=9223372036854775807/\∀ j p,Q[j]? = some p->∃ b o,ao=some ⟨b,o,none⟩/\F b/\w.cell? ⟨b,o + j,none⟩=some p.v
structure ESl(w:World)(q:Nat)(v:Value)(es:List En):Prop where
 ex:∃ ao c,v=.slice ao es.length c/\es.length<=c/\c<=9223372036854775807/\∀ j e,es[j]? = some e->∃ o,ao=some ⟨q,o,none⟩/\w.cell? ⟨q,o + j * 2,none⟩=some e.kv/\w.cell? ⟨q,o + j * 2 + 1,none⟩=some e.vv
theorem sB{p:Pg}(A:PgA w D p)(S:Srt (kys p.es))(hf:By w fv f)(I:By w tv t)(hn:p.es.length<=1000000) :
  Calls Tryz.prog 126 #[p.v,fv,tv] w fun e w'=>∃ v,e=.returned v/\ESl w' p.b v (wth p.es f t)/\Below w.heap.size w w':=by
 have t1:=gJ A S hf hn
 have o:∀ w',Below w.heap.size w w'->Calls Tryz.prog 173 #[tv] w' _:=fun w' d=>mz (I.keep d)
 have t2:∀ w',Below w.heap.size w w'->Calls Tryz.prog 174 #[p.v,tv] w' _:=fun w' d=>gJ (A.keep d) S (I.keep d) hn
 have B:=A.row;have g:=B.le;simp only[maxLen] at g;have P:=g.1;have Q:=g.2;have r:=pR (kys p.es) f;have H:=pR (kys p.es) t
 have u:(kys p.es).length=p.es.length:=by simp[kys]
 rw[u] at r H
 have ac:∀ (E:Option Addr) (k c y:Nat) (w':World),tY p.es t=y->y<=p.es.length->Below w.heap.size w w'->k=max (plc (kys p.es) f) y - plc (kys p.es) f->k<=c->c<=9223372036854775807->(k=0\/E=some ⟨p.b,plc (kys p.es) f * 2,none⟩)->ESl w' p.b (.slice E k c) (wth p.es f t):=fun E k c y w' he hy d M K hc J=>by
  have L:(wth p.es f t).length=k:=by
   unfold wth; rw[he,uT r hy,M]
  refine⟨E,c,by rw[L],by rw[L]; exact K,hc,fun j e O => ?_⟩;have N:=(List.getElem?_eq_some_iff.1 O).1;rw[L] at N
  have z:=uM (show (cut p.es (plc (kys p.es) f) (tY p.es t))[j]? = some e from O);have M:=(B.keep d).cell (pV z);have hv:=(B.keep d).cell (jT z);refine⟨plc (kys p.es) f * 2,J.resolve_left (by omega),?_,?_⟩
  ·rw[<- Nat.add_mul]; exact M
  ·rw[<- Nat.add_mul]; exact hv
 have ac:Hid _:=ac
 have i:Hid (tY p.es t=if t=[] then p.es.length else plc (kys p.es) t):=rfl;generalize hx:plc (kys p.es) f=x at *
 have W:Hid _:=hx;generalize hy:plc (kys p.es) t=y at *
 have U:Hid _:=hy;generalize thr (kys p.es) f=bx at *;generalize thr (kys p.es) t=R at *
 simp only[Pg.v] at t1 t2 ⊢;generalize hm:p.es.length=m at *
 have V:Hid _:=hm
 have z0:(0:Int)<=(x:Int):=by omega
 have z1:(x:Int)<=(m:Int):=by omega
 clear A S hf I B g u hx hy hm;by_cases q:t=[]
 ·have s:decide (t≠[])=false:=by simp[q]
  rw[s] at o
  have he:Hid (tY p.es t=m):=by show _=_; rw[i.out,if_pos q]
  clear q s t2 i;go_enter Tryz.func126,Tryz.ntmps126
  go_wp2_with (first
   | (go_at_call 174; refine t1.mono ?_; rintro F C ⟨rfl,l⟩; have n:=o C l; clear t1 o)
   | (go_at_call 173; refine n.mono ?_; rintro F T ⟨rfl,rfl⟩))
  all_goals (
   go_ret
   exact⟨_,rfl,ac.out _ _ _ m _ he.out (Nat.le_refl _) l (by omega) (by omega) (by omega) (by first | exact .inr rfl | exact .inl (by omega) | exact .inl rfl),l⟩)
 ·have s:decide (t≠[])=true:=by simp[q]
  rw[s] at o
  have he:Hid (tY p.es t=y):=by show _=_; rw[i.out,if_neg q]
  have mk:True:=trivial;clear q s i;go_enter Tryz.func126,Tryz.ntmps126
  go_wp2_with (first
   | (go_at_call 174; clear mk; refine t1.mono ?_; rintro F C ⟨rfl,l⟩; have n:=o C l; have t21:=t2 C l; clear t1 o t2)
   | (go_at_call 173; refine n.mono ?_; rintro F T ⟨rfl,rfl⟩)
   | (go_at_call 174; refine t21.mono ?_; rintro F X ⟨rfl,G⟩; have d:=aj l G))
  all_goals (
   go_ret
   exact⟨_,rfl,ac.out _ _ _ y _ he.out (by omega) d (by omega) (by omega) (by omega) (by first | exact .inr rfl | exact .inl (by omega) | exact .inl rfl),d⟩)
theorem zI(k:List Int):pgi P k<=P.length:=by
 have h1:=ph (fks P) k;simp only[fks,List.length_map] at h1;unfold pgi fks;omega
theorem xZ{D:Nat → Prop}{g:Nat}(A : bJ w F D g L)(O : Ord (ens L))(hf : By w fv f)(Z : By w tv t)(hn : L.length ≤ 100000000) :
    Calls Tryz.prog 125 #[.pointer (some ⟨g, 0, none⟩), fv, tv] w fun e w' => ∃ v, e = .returned v ∧ SpA w' F v (cut L (pgi (ens L) f) (eH (ens L) t)) ∧ Below w.heap.size w w' := by
  have t1 := jd A.drew O hf.drew (by omega)
  have z : ∀ w', Below w.heap.size w w' → Calls Tryz.prog 173 #[tv] w' _ := fun w' q => mz (Z.keep q)
  have t2 : ∀ w', Below w.heap.size w w' → Calls Tryz.prog 172 #[.pointer (some ⟨g, 0, none⟩), tv] w' _ := fun w' q => jd (A.keep q) O (Z.keep q) (by omega)
  obtain⟨R, c, hc, W, hc2, M⟩:= A.rd
  have E : (ens L).length = L.length := by simp[ens]
  have S : pgi (ens L) f ≤ L.length := by rw[← E]; exact zI f
  have Y : pgi (ens L) t ≤ L.length := by rw[← E]; exact zI t
  have U : ∀ G, R = some ⟨G, 0, none⟩ → F G := fun G e => by
    obtain⟨pv, hb, hg, ⟨rfl, rfl⟩ | ⟨G', C, rfl, hG, hR⟩⟩:= A.top
    · have := hb.cell (i := 0) rfl
      rw[hc] at this
      cases this
      cases e
    · have := hb.cell (i := 0) rfl
      rw[hc] at this
      cases this
      cases e;exact hG
  have ac : ∀ (V : Option Addr) (k d y : Nat) (w' : World), eH (ens L) t = y → y ≤ L.length → Below w.heap.size w w' → k = max (pgi (ens L) f) y - pgi (ens L) f → k ≤ d → d ≤ 9223372036854775807 → (k = 0 ∨ ∀ b o, R = some ⟨b, o, none⟩ → V = some ⟨b, o + pgi (ens L) f, none⟩) → SpA w' F (.slice V k d) (cut L (pgi (ens L) f) (eH (ens L) t)) := fun V k d y w' he hy q hk hkd P hbo => by
    have hl : (cut L (pgi (ens L) f) (eH (ens L) t)).length = k := by rw[he, uT S hy, hk]
    refine⟨V, d, by rw[hl], by rw[hl]; exact hkd, P, fun j p hj => ?_⟩;have hjk := (List.getElem?_eq_some_iff.1 hj).1;rw[hl] at hjk
    have hj' := uM hj;obtain⟨G, rfl, cG⟩:= M _ p hj'
    exact⟨G, 0 + pgi (ens L) f, (hbo.resolve_left (by omega)) G 0 rfl, U G rfl, by
      rw[Nat.zero_add, q.cell (p := ⟨G, pgi (ens L) f + j, none⟩) (aI cG)]; exact cG⟩
  have ac : Hid _ := ac
  have u : Hid (eH (ens L) t = if t = [] then L.length else min (pgi (ens L) t + 1) L.length) := by show _ = _; unfold eH; rw[E]
  have I := aI hc
  have M : Hid _ := M
  have T : Hid (R = none ∨ ∃ G, R = some ⟨G, 0, none⟩) := by
    obtain⟨pv, hb, hg, ⟨rfl, rfl⟩ | ⟨G, C, rfl, hG, hR⟩⟩:= A.top
    · have := hb.cell (i := 0) rfl
      rw[hc] at this
      cases this;exact .inl rfl
    · have := hb.cell (i := 0) rfl
      rw[hc] at this
      cases this;exact .inr ⟨G, rfl⟩
  have B : R = none → c = 0 := by
    intro e;obtain⟨pv, hb, hg, ⟨rfl, rfl⟩ | ⟨G, C, rfl, hG, hR⟩⟩:= A.top
    · have := hb.cell (i := 0) rfl
      rw[hc] at this
      cases this;rfl
    · have := hb.cell (i := 0) rfl
      rw[hc] at this
      cases this
      cases e
  generalize hx : pgi (ens L) f = x at *
  have HX : Hid _ := hx;generalize hy : pgi (ens L) t = y at *
  have HY : Hid _ := hy;obtain⟨n, hnn⟩ : ∃ n, Hid (L.length = n) := ⟨_, rfl⟩;rw[hnn.out] at hc W S Y hn ac u
  have J : w.drew.cell? ⟨g, 0, none⟩ = some (.slice R n c) := hc
  have z0 : (0 : Int) ≤ (x : Int) := by omega
  have z1 : (x : Int) ≤ (n : Int) := by omega
  have zw : IntKind.i64.wrap ((y : Int) + 1) = (y : Int) + 1 := by rw[IntKind.wrap_i64]; omega
  have H := bV w;have HN := T.out;clear A O hf Z hx hy E U;by_cases Q : t = []
  · have P : decide (t ≠ []) = false := by simp[Q]
    rw[P] at z
    have he : Hid (eH (ens L) t = n) := by show _ = _; rw[u.out, if_pos Q]
    clear Q P t2 u;rcases HN with rfl | ⟨G, rfl⟩
    · obtain rfl : c = 0 := B rfl
      obtain rfl : n = 0 := by omega
      obtain rfl : x = 0 := by omega
      go_enter Tryz.func125, Tryz.ntmps125;go_wp2;go_region_held3 (fun w' => w'.cell? ⟨g, 0, none⟩ = some (.slice none 0 0)) (assumption)
        (first
          | (go_at_call 172; refine t1.mono ?_; rintro K m ⟨rfl, s⟩; have ae : m.cell? ⟨g, 0, none⟩ = _ := (s.cell (p := ⟨g, 0, none⟩) I).trans J; have l := aj H s))
      have N := z m l;clear t1 z;go_wp2_with (go_at_call 173; refine N.mono ?_; rintro K w2 ⟨rfl, rfl⟩)
      all_goals (
        go_ret
        exact⟨_, rfl, ac.out _ _ _ 0 _ he.out (by omega) l (by omega) (by omega) (by omega) (by first | exact .inl (by omega) | exact .inr (fun b o e => by cases e; simp)), l⟩)
    · clear B
      go_enter Tryz.func125, Tryz.ntmps125;go_wp2;go_region_held3 (fun w' => w'.cell? ⟨g, 0, none⟩ = some (.slice (some ⟨G, 0, none⟩) n c)) (assumption)
        (first
          | (go_at_call 172; refine t1.mono ?_; rintro K m ⟨rfl, s⟩; have ae : m.cell? ⟨g, 0, none⟩ = _ := (s.cell (p := ⟨g, 0, none⟩) I).trans J; have l := aj H s))
      have N := z m l;clear t1 z;go_wp2_with (go_at_call 173; refine N.mono ?_; rintro K w2 ⟨rfl, rfl⟩)
      all_goals (
        go_ret
        exact⟨_, rfl, ac.out _ _ _ n _ he.out (by omega) l (by omega) (by omega) (by omega) (by first | exact .inl (by omega) | exact .inr (fun b o e => by cases e; simp)), l⟩)
  · have P : decide (t ≠ []) = true := by simp[Q]
    rw[P] at z
    have he : Hid (eH (ens L) t = min (y + 1) n) := by show _ = _; rw[u.out, if_neg Q]
    clear Q P u;rcases HN with rfl | ⟨G, rfl⟩
    · obtain rfl : c = 0 := B rfl
      obtain rfl : n = 0 := by omega
      obtain rfl : x = 0 := by omega
      go_enter Tryz.func125, Tryz.ntmps125;go_wp2;go_region_held3 (fun w' => w'.cell? ⟨g, 0, none⟩ = some (.slice none 0 0)) (assumption)
        (first
          | (go_at_call 172; refine t1.mono ?_; rintro K m ⟨rfl, s⟩; have ae : m.cell? ⟨g, 0, none⟩ = _ := (s.cell (p := ⟨g, 0, none⟩) I).trans J; have l := aj H s))
      have N := z m l;have t21 := t2 m l;clear t1 z t2
      go_wp2_with (first
        | (go_at_call 173; refine N.mono ?_; rintro K w2 ⟨rfl, rfl⟩)
        | (go_at_call 172; refine t21.mono ?_; rintro K w3 ⟨rfl, r⟩; have X : w3.cell? ⟨g, 0, none⟩ = _ := (r.cell (p := ⟨g, 0, none⟩) (aI ae)).trans ae; have q := aj l r))
      all_goals (
        go_ret
        exact⟨_, rfl, ac.out _ _ _ (min (y + 1) 0) _ he.out (by omega) q (by omega) (by omega) (by omega) (by first | exact .inl (by omega) | exact .inr (fun b o e => by cases e; simp)), q⟩)
    · clear B
      go_enter Tryz.func125, Tryz.ntmps125;go_wp2;go_region_held3 (fun w' => w'.cell? ⟨g, 0, none⟩ = some (.slice (some ⟨G, 0, none⟩) n c)) (assumption)
        (first
          | (go_at_call 172; refine t1.mono ?_; rintro K m ⟨rfl, s⟩; have ae : m.cell? ⟨g, 0, none⟩ = _ := (s.cell (p := ⟨g, 0, none⟩) I).trans J; have l := aj H s))
      have N := z m l;have t21 := t2 m l;clear t1 z t2
      go_wp2_with (first
        | (go_at_call 173; refine N.mono ?_; rintro K w2 ⟨rfl, rfl⟩)
        | (go_at_call 172; refine t21.mono ?_; rintro K w3 ⟨rfl, r⟩; have X : w3.cell? ⟨g, 0, none⟩ = _ := (r.cell (p := ⟨g, 0, none⟩) (aI ae)).trans ae; have q := aj l r))
      all_goals (
        go_ret
        exact⟨_, rfl, ac.out _ _ _ (min (y + 1) n) _ he.out (by omega) q (by omega) (by omega) (by omega) (by first | exact .inl (by omega) | exact .inr (fun b o e => by cases e; simp)), q⟩)
end
end Pg
end
end Go.Proofs.YthfepflplbahkaaGreatDoor
