import Derived.Test.YthfepflplbahkaaGreatDoorJac
import Derived.Lib.BytesEntry
import Derived.WalkMore
import Derived.Deep.RegionHeld3
import Derived.Deep.RegionWith
import Derived.RangeFuncNested
import Derived.RangeFuncBound
import Derived.RangeFuncCalls
import Derived.RangeFuncLeaves
set_option maxRecDepth 100000
set_option maxHeartbeats 8000000
namespace Go.Proofs.YthfepflplbahkaaGreatDoor
section
namespace Pg
open Go.RowKit Go.Lib
section
variable {w w':World}{k b n c m:Nat}{xs ys:List Value}{F:Nat->Prop}{v:Value}
structure Rw(w:World)(E:TypeId)(k b n c:Nat)(xs:List Value):Prop where
 ex:∃ sp,Blk w b (xs ++ sp) E/\xs.length=n * k/\(xs ++ sp).length=c * k/\n<=c/\c<=maxLen
theorem Rw.lt{E:TypeId}(h:Rw w E k b n c xs):b < w.heap.size:=by
 obtain⟨sp,h,_⟩:=h.ex; exact h.lt
theorem Rw.same{E:TypeId}(h:Rw w E k b n c xs)(hb:w'.heap[b]? = w.heap[b]?):Rw w' E k b n c xs:=by
 obtain⟨sp,h,h'⟩:=h.ex; exact⟨sp,h.same hb,h'⟩
theorem Rw.keep{E:TypeId}(h:Rw w E k b n c xs)(hb:Below w.heap.size w w'):Rw w' E k b n c xs:=h.same (hb.block b h.lt)
theorem Rw.chg{E:TypeId}(h:Rw w E k b n c xs)(hb:Chg F w w')(hg:¬ F b):Rw w' E k b n c xs:=h.same (hb.same b h.lt hg)
theorem Rw.drew{E:TypeId}(h:Rw w E k b n c xs):Rw w.drew E k b n c xs:=h.same rfl
theorem Rw.len{E:TypeId}(h:Rw w E k b n c xs):xs.length=n * k:=by
 obtain⟨sp,h,h',_⟩:=h.ex; exact h'
theorem Rw.le{E:TypeId}(h:Rw w E k b n c xs):n<=c/\c<=maxLen:=by
 obtain⟨sp,h,_,_,h'⟩:=h.ex; exact h'
theorem Rw.cell{E:TypeId}(h:Rw w E k b n c xs){i:Nat}(hi:xs[i]? = some v):w.cell? ⟨b,i,none⟩=some v:=by
 obtain⟨sp,h,_⟩:=h.ex;exact h.cell (by rw[List.getElem?_append_left (List.getElem?_eq_some_iff.1 hi).1]; exact hi)
theorem Rw.free{E:TypeId}(h:Rw w E k b n c xs)(i:Nat):w.frozen? ⟨b,i,none⟩=false:=by
 obtain⟨sp,h,_⟩:=h.ex; exact h.free i
theorem Rw.kind{E:TypeId}(h:Rw w E k b n c xs):∃ cs,Blk w b cs E:=by
 obtain⟨sp,h,_⟩:=h.ex; exact⟨_,h⟩
theorem Rw.set{E:TypeId}(h:Rw w E k b n c xs)(i:Nat)(hi:i < xs.length)(v:Value):Rw (w.setCell ⟨b,i,none⟩ v) E k b n c (xs.set i v):=by
 obtain⟨sp,h,d,a,e⟩:=h.ex;refine⟨sp,?_,by simpa using d,by simpa using a,e⟩;have:=h.setCell (i:=i) v;rwa [List.set_append_left _ _ hi] at this
theorem yr{E:TypeId}(h:Blk w b xs E)(hx:xs.length=n * k)(hn:n<=maxLen):Rw w E k b n n xs:=⟨[],by simpa using h,hx,by simpa using hx,Nat.le_refl _,hn⟩
theorem Rw.front{E:TypeId}(h:Rw w E k b n c xs)(hm:m<=n):Rw w E k b m c (xs.take (m * k)):=by
 obtain⟨sp,h,g,a,e,d⟩:=h.ex
 have f:m * k<=n * k:=Nat.mul_le_mul_right _ hm;refine⟨xs.drop (m * k) ++ sp,by rw[<- List.append_assoc,List.take_append_drop]; exact h,by rw[List.length_take]; omega,by rw[<- List.append_assoc,List.take_append_drop]; exact a,by omega,d⟩
theorem Rw.more{E:TypeId}(h:Rw w E k b n c xs)(hm:n + m<=c):∃ s,s.length=m * k/\Rw w E k b (n + m) c (xs ++ s):=by
 obtain⟨sp,h,g,a,f,d⟩:=h.ex
 have e:n * k + m * k<=c * k:=by rw[<- Nat.add_mul]; exact Nat.mul_le_mul_right _ hm
 rw[List.length_append] at a;refine⟨sp.take (m * k),by rw[List.length_take]; omega,sp.drop (m * k),?_,?_,?_,hm,d⟩
 ·rw[List.append_assoc,List.take_append_drop]; exact h
 ·rw[List.length_append,List.length_take,Nat.add_mul]; omega
 ·rw[List.append_assoc,List.take_append_drop,List.length_append]; exact a
theorem Rw.to{E:TypeId}(h:Rw w E k b n c xs)(e:xs=ys):Rw w E k b n c ys:=e▸h
end
section
variable {P:Program} {w:World} {T E:TypeId} {k bytes:Nat} {z:Value}
section
variable {b n c g:Nat}{xs:List Value}
structure Kd(P:Program)(T E:TypeId)(k bytes:Nat)(z:Value):Prop where
 und:P.underlying T=some (.slice E)
 inf:(P.info? E).map (fun i=>(i.zero,i.size,i.bytes))=some (some z,k,bytes)
 zs:z.cells.size=k
 z1:∀ v∈z.cells,v.oneCell'=true
 k0:0 < k
theorem Kd.size(h:Kd P T E k bytes z):(P.info? E).map (·.size)=some k:=by
 obtain⟨i,hi,hz,hs,hb⟩:=info_parts h.inf;rw[hi]; simp[hs]
theorem Kd.sizeOf(h:Kd P T E k bytes z)(w:World):(Go.sizeOf E).run P w=.ok k w:=by
 obtain⟨i,hi,hz,hs,hb⟩:=info_parts h.inf;simp[Go.sizeOf,typeInfo,hi,hs]
theorem Kd.zero(h:Kd P T E k bytes z)(w:World):(zeroValue E).run P w=.ok z w:=by
 obtain⟨i,hi,hz,hs,hb⟩:=info_parts h.inf;simp[zeroValue,typeInfo,hi,hz]
theorem lD(w:World)(E:TypeId)(zc:Array Value)(k n c:Nat)(xs:List Value)(a:zc.size=k)(hx:xs.length=n * k)(hn:n<=c)(hc:c<=maxLen) :
  Rw (w.drew.alloc (.cells (xs.toArray ++ Builtin.zeroCells zc (c - n)) E)) E k w.heap.size n c xs :=
 ⟨(Builtin.zeroCells zc (c - n)).toList,⟨by
  have:=(aC w.drew (xs ++ (Builtin.zeroCells zc (c - n)).toList) E).blk;rw[show (xs ++ (Builtin.zeroCells zc (c - n)).toList).toArray=xs.toArray ++ Builtin.zeroCells zc (c - n) by apply Array.ext'; simp] at this ⊢
  exact this⟩,hx,by
  rw[List.length_append,hx,Array.length_toList,size_zeroCells,a,<- Nat.add_mul]; congr 1; omega,hn,hc⟩
theorem dB(H:Kd P T E k bytes z)(ty:TypeId)(R:Rw w E k b n c xs)(a:Addr)(m cc:Nat)(news:List Value)(h:news.length=m * k)(f:∀ j u,news[j]? = some u->w.cell? (a.add j)=some u)(x:∀ u∈news,u.oneCell'=true)(l:(n + m) * bytes<=140737488355328)(hm:n + m<=140737488355328) :
  ∃ b' c' w',(Builtin.append_ #[T,T] ty #[.slice (some ⟨b,0,none⟩) n c,.slice (some a) m cc]).run P w=.ok (.slice (some ⟨b',0,none⟩) (n + m) c') w'/\(b'=b\/b'=w.heap.size)/\Rw w' E k b' (n + m) c' (xs ++ news)/\Chg (· = b) w w':=by
 obtain⟨i,hi,y,hs,hb⟩:=info_parts H.inf;obtain⟨sp,s,hx,hc,t,q⟩:=R.ex;subst hs hb
 have p:n + m<=maxLen:=by simp only[maxLen]; omega
 by_cases d:n + m<=c
 ·have o:n * i.size + news.length<=(xs ++ sp).toArray.size:=by
   rw[List.size_toArray,hc,h,<- Nat.add_mul]; exact Nat.mul_le_mul_right _ d
  have r:=run_append_room (P:=P) w T ty E i H.und hi b n c (xs ++ sp).toArray s.blk a m cc news h f x d o;refine⟨b,c,_,r,.inl rfl,⟨sp.drop news.length,?_,by rw[List.length_append,hx,h,Nat.add_mul],?_,d,q⟩,(Chg.refl (· = b) w).row (g:=b) (.inl rfl) _⟩
  ·have:=s.row (xs ++ news ++ sp.drop news.length)
   have e:(xs ++ sp).toArray.toList.take (n * i.size) ++ news ++ (xs ++ sp).toArray.toList.drop (n * i.size + news.length)=xs ++ news ++ sp.drop news.length:=by
    rw[show (xs ++ sp).toArray.toList=xs ++ sp from rfl,<- hx,List.take_left,<- List.drop_drop,List.drop_left]
   rw[e]; exact this
  ·have A:xs.length + sp.length=c * i.size:=by rw[<- List.length_append]; exact hc
   have B:n * i.size + m * i.size<=c * i.size:=by rw[<- Nat.add_mul]; exact Nat.mul_le_mul_right _ d
   rw[List.length_append,List.length_append,List.length_drop]; omega
 ·have holds:∀ j u,xs[j]? = some u->w.cell? ((⟨b,0,none⟩:Addr).add j)=some u:=fun j u v=>by rw[Addr.add_lit,Nat.zero_add]; exact R.cell v
  have r:=run_append_grow (P:=P) w T ty E i z H.und hi y ⟨b,0,none⟩ n c xs hx holds a m cc news h f (by omega) (by omega) (growslice_fits (by omega) l);refine⟨w.heap.size,_,_,r,.inr rfl,?_,(Chg.refl _ w).drew.alloc _⟩;have:=lD w E z.cells i.size (n + m) (grownCap w (n + m) c E) (xs ++ news) H.zs (by rw[List.length_append,hx,h,Nat.add_mul]) (grownCap_ge w _ _ _) (grownCap_le_maxLen w _ _ _ p);simpa using this
theorem fe(H:Kd P T E k bytes z)(ty:TypeId)(a:Addr)(m cc:Nat)(news:List Value)(d:news.length=m * k)(c:∀ j u,news[j]? = some u->w.cell? (a.add j)=some u)(g:0 < m)(e:m * bytes<=140737488355328)(hm:m<=140737488355328) :
  ∃ c' w',(Builtin.append_ #[T,T] ty #[.slice none 0 0,.slice (some a) m cc]).run P w=.ok (.slice (some ⟨w.heap.size,0,none⟩) m c') w'/\Rw w' E k w.heap.size m c' news/\Below w.heap.size w w':=by
 obtain⟨i,hi,f,hs,hb⟩:=info_parts H.inf;subst hs hb;have h:=run_append_nil (P:=P) w T ty E i z H.und hi f a m cc news d c g (by omega) (by omega);refine⟨_,_,h,?_,?_⟩
 ·exact lD w E z.cells i.size m (grownCap w m 0 E) news H.zs d (grownCap_ge w _ _ _) (grownCap_le_maxLen w _ _ _ (by simp only[maxLen]; omega))
 ·exact(Below.refl _ w).trans ⟨rfl,rfl,rfl,by simp,fun b hb=>by
   have:=(ae w.drew (.cells (news.toArray ++ Builtin.zeroCells z.cells (grownCap w m 0 E - m)) E)).block b hb
   exact this⟩
theorem n6(H:Kd P T E k bytes z)(tn ty:TypeId)(hn:P.underlying tn=some (.int .i64))(R:Rw w E k b n c xs)(m:Nat)(f:0 < m)(hc:c < n + m)(a:(n + m) * bytes<=140737488355328)(hm:n + m<=140737488355328) :
  ∃ c' w',(Builtin.append_ #[T,tn] ty #[.slice (some ⟨b,0,none⟩) n c,.int .i64 m]).run P w=.ok (.slice (some ⟨w.heap.size,0,none⟩) (n + m) c') w'/\Rw w' E k w.heap.size (n + m) c' (xs ++ (Builtin.zeroCells z.cells m).toList)/\Below w.heap.size w w':=by
 obtain⟨i,hi,g,hs,hb⟩:=info_parts H.inf;have hx:=R.len;subst hs hb
 have hold:(Builtin.firstCells i.size n (.slice (some ⟨b,0,none⟩) n c)).run P w.drew=.ok xs.toArray w.drew :=
  run_firstCells_some w.drew i.size n ⟨b,0,none⟩ n c xs hx (fun j v e=>by rw[Addr.add_lit,Nat.zero_add]; exact R.cell e)
 have d:m * i.bytes<=(n + m) * i.bytes:=Nat.mul_le_mul_right _ (by omega);have h:=run_append_grow_zeros w T tn ty E i z .i64 .i64 H.und hn hi g (some ⟨b,0,none⟩) n c xs hold m f H.k0 hc (by omega) (by omega) (growslice_fits hc a);refine⟨_,_,h,?_,?_⟩
 ·have:=lD w E z.cells i.size (n + m) (grownCap w (n + m) c E) (xs ++ (Builtin.zeroCells z.cells m).toList) H.zs (by rw[List.length_append,hx,Array.length_toList,size_zeroCells,H.zs,Nat.add_mul]) (grownCap_ge w _ _ _) (grownCap_le_maxLen w _ _ _ (by simp only[maxLen]; omega));rw[show (xs ++ (Builtin.zeroCells z.cells m).toList).toArray=xs.toArray ++ Builtin.zeroCells z.cells m by apply Array.ext'; simp] at this;exact this
 ·exact⟨rfl,rfl,rfl,by simp,fun b hb=>(ae w.drew (.cells (xs.toArray ++ Builtin.zeroCells z.cells m ++ Builtin.zeroCells z.cells (grownCap w (n + m) c E - (n + m))) E)).block b hb⟩
theorem np(H:Kd P T E k bytes z)(tn ty:TypeId)(hn:P.underlying tn=some (.int .i64))(m:Nat)(d:0 < m)(a:m * bytes<=140737488355328)(hm:m<=140737488355328) :
  ∃ c' w',(Builtin.append_ #[T,tn] ty #[.slice none 0 0,.int .i64 m]).run P w=.ok (.slice (some ⟨w.heap.size,0,none⟩) m c') w'/\Rw w' E k w.heap.size m c' (Builtin.zeroCells z.cells m).toList/\Below w.heap.size w w':=by
 obtain⟨i,hi,c,hs,hb⟩:=info_parts H.inf;subst hs hb;have e:=run_append_nil_zeros w T tn ty E i z .i64 .i64 H.und hn hi c m d H.k0 (by omega) (by omega);refine⟨_,_,e,?_,?_⟩
 ·have:=lD w E z.cells i.size m (grownCap w m 0 E) (Builtin.zeroCells z.cells m).toList H.zs (by rw[Array.length_toList,size_zeroCells,H.zs]) (grownCap_ge w _ _ _) (grownCap_le_maxLen w _ _ _ (by simp only[maxLen]; omega));simpa using this
 ·exact⟨rfl,rfl,rfl,by simp,fun b hb=>(ae w.drew (.cells (Builtin.zeroCells z.cells m ++ Builtin.zeroCells z.cells (grownCap w m 0 E - m)) E)).block b hb⟩
theorem eR(H:Kd P T E k bytes z)(ty:TypeId)(R:Rw w E k g n c xs)(o dLen dCap:Nat)(a:Addr)(sLen sCap:Nat)(cs:List Value)(m:Nat)(hm:Nat.min sLen dLen=m)(hn:cs.length=m * k)(d:∀ j v,cs[j]? = some v->w.cell? (a.add j)=some v)(b:o + cs.length<=xs.length)(p:∀ v∈cs,v.oneCell'=true) :
  ∃ w',(Builtin.copy_ #[T,T] ty #[.slice (some ⟨g,o,none⟩) dLen dCap,.slice (some a) sLen sCap]).run P w=.ok (goInt m) w'/\Rw w' E k g n c (splice xs o cs)/\Chg (· = g) w w':=by
 obtain⟨sp,l,hx,hc,f,h⟩:=R.ex;have q:=vM (P:=P) w T T ty E k g o dLen dCap a sLen sCap (xs ++ sp) cs E H.und H.size l m hm hn d (by rw[List.length_append]; omega) p
 have e:splice (xs ++ sp) o cs=splice xs o cs ++ sp:=by
  rw[ez,ez,List.take_append_of_le_length (by omega),List.drop_append_of_le_length (by omega),List.append_assoc,List.append_assoc,List.append_assoc]
 have i:=length_splice xs o cs b;refine⟨_,q,⟨sp,by rw[e]; exact l.row _,by rw[i]; exact hx,by rw[List.length_append,i,<- List.length_append]; exact hc,f,h⟩,(Chg.refl (· = g) w).row (g:=g) (.inl rfl) _⟩
theorem jx(H:Kd P T E k bytes z)(ty:TypeId)(R:Rw w E k b n c xs)(a:Addr)(m cc:Nat)(news:List Value)(l:news.length=m * k)(f:∀ j u,news[j]? = some u->w.cell? (a.add j)=some u)(r:∀ u∈news,u.oneCell'=true)(d:n + m<=c) :
  ∃ w',(Builtin.append_ #[T,T] ty #[.slice (some ⟨b,0,none⟩) n c,.slice (some a) m cc]).run P w=.ok (.slice (some ⟨b,0,none⟩) (n + m) c) w'/\Rw w' E k b (n + m) c (xs ++ news)/\Chg (· = b) w w':=by
 obtain⟨i,hi,v,hs,hb⟩:=info_parts H.inf;obtain⟨sp,p,hx,hc,q,o⟩:=R.ex;subst hs hb
 have h:n * i.size + news.length<=(xs ++ sp).toArray.size:=by
  rw[List.size_toArray,hc,l,<- Nat.add_mul]; exact Nat.mul_le_mul_right _ d
 have s:=run_append_room (P:=P) w T ty E i H.und hi b n c (xs ++ sp).toArray p.blk a m cc news l f r d h;refine⟨_,s,⟨sp.drop news.length,?_,by rw[List.length_append,hx,l,Nat.add_mul],?_,d,o⟩,(Chg.refl (· = b) w).row (g:=b) (.inl rfl) _⟩
 ·have:=p.row (xs ++ news ++ sp.drop news.length)
  have e:(xs ++ sp).toArray.toList.take (n * i.size) ++ news ++ (xs ++ sp).toArray.toList.drop (n * i.size + news.length)=xs ++ news ++ sp.drop news.length:=by
   rw[show (xs ++ sp).toArray.toList=xs ++ sp from rfl,<- hx,List.take_left,<- List.drop_drop,List.drop_left]
  rw[e]; exact this
 ·have t:xs.length + sp.length=c * i.size:=by rw[<- List.length_append]; exact hc
  have x:n * i.size + m * i.size<=c * i.size:=by rw[<- Nat.add_mul]; exact Nat.mul_le_mul_right _ d
  rw[List.length_append,List.length_append,List.length_drop]; omega
theorem ik(H:Kd P T E k bytes z)(ty:TypeId)(R:Rw w E k g n c xs)(m cc:Nat)(hm:0 < m)(a:n + m<=c) :
  ∃ w',(Builtin.clear_ #[T] ty #[.slice (some ⟨g,n * k,none⟩) m cc]).run P w=.ok (.tuple #[]) w'/\Rw w' E k g n c xs/\Chg (· = g) w w':=by
 obtain⟨sp,f,hx,hc,b,d⟩:=R.ex
 have j:n * k + m * k<=c * k:=by rw[<- Nat.add_mul]; exact Nat.mul_le_mul_right _ a
 have i:=sX (P:=P) w T ty E z k g (n * k) m cc (xs ++ sp) E H.und H.zero H.zs H.z1 f hm H.k0 (by omega)
 have e:splice (xs ++ sp) (n * k) (Builtin.zeroCells z.cells m).toList=xs ++ ((Builtin.zeroCells z.cells m).toList ++ sp.drop (Builtin.zeroCells z.cells m).toList.length):=by
  rw[ez,<- hx,List.take_left,<- List.drop_drop,List.drop_left,List.append_assoc]
 have h:((Builtin.zeroCells z.cells m).toList).length=m * k:=by rw[Array.length_toList,size_zeroCells,H.zs]
 refine⟨_,i,⟨_,by rw[e]; exact f.row _,hx,?_,b,d⟩,(Chg.refl (· = g) w).row (g:=g) (.inl rfl) _⟩;rw[List.length_append] at hc ⊢;rw[List.length_append,List.length_drop,h];omega
end
end
end Pg
end
section
namespace Pg
open Go.RowKit Go.Lib
theorem KE:Kd Tryz.prog 199 196 2 48 (.agg #[.slice none 0 0,.slice none 0 0]):=⟨by kernel_rfl,by kernel_rfl,rfl,by simp[Value.cells,Value.oneCell'],by decide⟩
theorem KP:Kd Tryz.prog 142 199 1 24 (.slice none 0 0):=⟨by kernel_rfl,by kernel_rfl,rfl,by simp[Value.cells,Value.oneCell'],by decide⟩
theorem jU:Tryz.prog.underlying 3=some (.int .i64):=by kernel_rfl
theorem mixed:Tryz.prog.follows .mixedOrders=true:=by kernel_rfl
section
variable {w:World} {b n c i vb:Nat} {xs:List Value} {e1 e2:Value}
theorem yM (R:Rw w 196 2 b n c xs) (m:Blk w vb [e1,e2] 196) (hn:n<=1000000000) (g:∀ v∈[e1,e2],v.oneCell'=true) :
  Calls Tryz.prog 193 #[.slice (some ⟨b,0,none⟩) n c,.int .i64 n,.slice (some ⟨vb,0,none⟩) 1 1] w fun e w'=>∃ b' c',e=.returned (.slice (some ⟨b',0,none⟩) (n + 1) c')/\(b'=b\/w.heap.size<=b')/\Rw w' 196 2 b' (n + 1) c' (xs ++ [e1,e2])/\Chg (· = b) w w':=by
 obtain⟨b',c',W,q,f,o,hC⟩:=dB KE 199 R ⟨vb,0,none⟩ 1 1 [e1,e2] rfl (fun j u p=>by rw[Addr.add_lit,Nat.zero_add]; exact m.cell p) g (by omega) (by omega);have d:=R.le;simp only[maxLen] at d;have l:=d.1;have i:=d.2;clear d R m g;go_enter Tryz.func193,Tryz.ntmps193;go_wp2_with (at_builtin; refine Lib.wpList_append_run _ rfl _ _ _ _ rfl _ _ rfl rfl _ _ q ?_)
 all_goals (
  go_ret
  exact⟨b',c',rfl,f.imp id (fun e=>by omega),o,hC⟩)
theorem xh (b:Blk w vb [e1,e2] 196) :
  Calls Tryz.prog 193 #[.slice none 0 0,.int .i64 0,.slice (some ⟨vb,0,none⟩) 1 1] w fun e w'=>∃ c',e=.returned (.slice (some ⟨w.heap.size,0,none⟩) 1 c')/\Rw w' 196 2 w.heap.size 1 c' [e1,e2]/\Below w.heap.size w w':=by
 obtain⟨c',W,f,c,hC⟩:=fe (w:=w) KE 199 ⟨vb,0,none⟩ 1 1 [e1,e2] rfl (fun j u d=>by rw[Addr.add_lit,Nat.zero_add]; exact b.cell d) (by decide) (by decide) (by decide);clear b;go_enter Tryz.func193,Tryz.ntmps193;go_wp2_with (at_builtin; refine Lib.wpList_append_run _ rfl _ _ _ _ rfl _ _ rfl rfl _ _ f ?_);go_ret;exact⟨c',rfl,c,hC⟩
theorem sl (R : Rw w 196 2 b n c xs) (q : Blk w vb [e1, e2] 196) (o : vb ≠ b) (hi : i < n) (l : n + 1 ≤ c) (D : ∀ v ∈ xs, v.oneCell' = true) (G : ∀ v ∈ [e1, e2], v.oneCell' = true) :
    Calls Tryz.prog 193 #[.slice (some ⟨b, 0, none⟩) n c, .int .i64 i, .slice (some ⟨vb, 0, none⟩) 1 1] w fun e w' => e = .returned (.slice (some ⟨b, 0, none⟩) (n + 1) c) ∧ Rw w' 196 2 b (n + 1) c (xs.take (i * 2) ++ [e1, e2] ++ xs.drop (i * 2)) ∧ Chg (· = b) w w' := by
  have hx := R.len;have d := R.le;simp only[maxLen] at d;have H := d.1;have E := d.2
  have r : ∃ cs, Blk w b cs 196 ∧ cs.length = c * 2 := by
    obtain⟨sp, h, _, W, _⟩:= R.ex;exact⟨_, h, W⟩
  have A : ∀ (B u : Nat), (callFunc 224 #[.slice (some ⟨vb, 0, none⟩) 1 1, .slice (some ⟨b, (i + 1) * 2, none⟩) B u]).run Tryz.prog w = .ok (.value (.bool false)) w := fun B u => by
    obtain⟨cs, h, J⟩:= r
    rw[run_callFunc_extern Tryz.func224 (by kernel_rfl) (by kernel_rfl) (by kernel_rfl) (e := Extern.SlicesOverlaps.overlaps #[199, 199] #[4]) (by kernel_rfl),
      Lib.run_overlaps_apart w 199 4 196 KE.und 2 KE.sizeOf ⟨vb, 0, none⟩ ⟨b, (i + 1) * 2, none⟩ 1 1 B u o 196 196 2 (c * 2) (by simp[World.shape?, q.blk]) (by simp[World.shape?, h.blk]; simpa using J) (by omega) (q.free _) (q.free _)]
    rfl
  have g : (xs.drop (i * 2)).length = (n - i) * 2 := by rw[List.length_drop, hx]; omega
  obtain⟨s, hs, z⟩:= R.drew.more (m := 1) l;obtain⟨C, Y, x, y⟩:= eR (w := w.drew) KE 3 z ((i + 1) * 2) (n - i) (c - (i + 1)) ⟨b, i * 2, none⟩ (n + 1 - i) (c - i) (xs.drop (i * 2)) (n - i) (by simp only[Nat.min_def]; split <;> omega) g
    (fun j v t => by
      rw[List.getElem?_drop] at t;rw[Addr.add_lit]
      exact R.cell (w := w) (by simpa using t)) (by rw[g, z.len]; omega) (fun v hv => D v (List.mem_of_mem_drop hv))
  have p : Blk C vb [e1, e2] 196 := q.drew.chg y o;obtain⟨Q, M, I, F⟩:= eR (w := C) KE 3 x (i * 2) (n + 1 - i) (c - i) ⟨vb, 0, none⟩ 1 1 [e1, e2] 1 (by simp only[Nat.min_def]; split <;> omega) rfl
    (fun j v t => by rw[Addr.add_lit, Nat.zero_add]; exact p.cell t) (by rw[x.len]; simp; omega) G
  have f : splice (splice (xs ++ s) ((i + 1) * 2) (xs.drop (i * 2))) (i * 2) [e1, e2] = xs.take (i * 2) ++ [e1, e2] ++ xs.drop (i * 2) := by
    have h := qQ xs s [e1, e2] (i * 2) (by omega) (by simp[hs])
    have q0 : s.drop ([e1, e2] : List Value).length = [] := List.drop_of_length_le (by simp[hs]);rw[q0, List.append_nil] at h;simpa[Nat.add_mul] using h
  have K := I.to f
  have U : Chg (· = b) w Q := ((Chg.refl _ w).drew.trans y (fun _ _ h => h)).trans F (fun _ _ h => h)
  have L : ¬ ((i : Int) = (n : Int)) := by omega
  have N : IntKind.i64.wrap ((i : Int) + 1) = (i : Int) + 1 := by rw[IntKind.wrap_i64]; omega
  have S : (0 : Int) ≤ (i : Int) + 1 := by omega
  have O : i ≤ n := by omega
  have T : ((i : Int) + 1).toNat = i + 1 := by omega
  have V : ¬ (c = i + 1) := by omega
  have X : (i : Int) ≤ (n : Int) + 1 := by omega
  have P : ¬ (c = i) := by omega
  clear d R r z x I y F f q p hs g D G;have mixed := mixed;go_enter Tryz.func193, Tryz.ntmps193;go_wp2_with (simp only[A]);go_region;go_wp2;go_ret;exact⟨rfl, K, U⟩
theorem vD (R : Rw w 196 2 b n c xs) (z : Blk w vb [e1, e2] 196) (hi : i < n) (C : c < n + 1) (hn : n ≤ 1000000000) (G : ∀ v ∈ xs, v.oneCell' = true) (M : ∀ v ∈ [e1, e2], v.oneCell' = true) :
    Calls Tryz.prog 193 #[.slice (some ⟨b, 0, none⟩) n c, .int .i64 i, .slice (some ⟨vb, 0, none⟩) 1 1] w fun e w' => ∃ c', e = .returned (.slice (some ⟨w.heap.size, 0, none⟩) (n + 1) c') ∧ Rw w' 196 2 w.heap.size (n + 1) c' (xs.take (i * 2) ++ [e1, e2] ++ xs.drop (i * 2)) ∧ Below w.heap.size w w' := by
  have hx := R.len;have f := R.le;simp only[maxLen] at f;have P := f.1;have I := f.2;have K := R.lt;have E := z.lt;obtain⟨c', y, s, q, p⟩:= n6 KE 3 199 jU (R.front (m := i) (by omega)) (n + 1 - i) (by omega) (by omega) (by omega) (by omega);rw[show ((n + 1 - i : Nat) : Int) = (n : Int) + 1 - (i : Int) by omega, show i + (n + 1 - i) = n + 1 by omega] at s;rw[show i + (n + 1 - i) = n + 1 by omega] at q;have d := q.le;simp only[maxLen] at d;have N := d.1;have J := d.2
  have r : Blk y vb [e1, e2] 196 := z.keep p;obtain⟨o, T, A, u⟩:= eR (w := y) KE 3 q (i * 2) (n + 1 - i) (c' - i) ⟨vb, 0, none⟩ 1 1 [e1, e2] 1 (by simp only[Nat.min_def]; split <;> omega) rfl
    (fun j v t => by rw[Addr.add_lit, Nat.zero_add]; exact r.cell t) (by rw[q.len]; simp; omega) M
  have g : (xs.drop (i * 2)).length = (n - i) * 2 := by rw[List.length_drop, hx]; omega
  have H : Rw o.drew 196 2 b n c xs := ((R.keep p).chg u (by show ¬ b = w.heap.size; omega)).drew;obtain⟨F, U, D, L⟩:= eR (w := o.drew) KE 3 A.drew ((i + 1) * 2) (n - i) (c' - (i + 1)) ⟨b, i * 2, none⟩ (n - i) (c - i) (xs.drop (i * 2)) (n - i) (by simp) g
    (fun j v t => by
      rw[List.getElem?_drop] at t;rw[Addr.add_lit]
      exact H.cell (by simpa using t)) (by rw[g, A.len]; omega) (fun v hv => G v (List.mem_of_mem_drop hv))
  have l : splice (splice (xs.take (i * 2) ++ (Builtin.zeroCells (.agg #[.slice none 0 0, .slice none 0 0] : Value).cells (n + 1 - i)).toList) (i * 2) [e1, e2]) ((i + 1) * 2) (xs.drop (i * 2)) = xs.take (i * 2) ++ [e1, e2] ++ xs.drop (i * 2) := by
    have hA : (xs.take (i * 2)).length = i * 2 := by rw[List.length_take, hx]; omega
    generalize hZ : (Builtin.zeroCells (.agg #[.slice none 0 0, .slice none 0 0] : Value).cells (n + 1 - i)).toList = Z
    have B : Z.length = (n + 1 - i) * 2 := by rw[← hZ, Array.length_toList, size_zeroCells]; rfl
    have q1 : xs.take (i * 2) ++ Z = xs.take (i * 2) ++ Z.take 2 ++ Z.drop 2 := by rw[List.append_assoc, List.take_append_drop]
    rw[q1, fp _ (Z.take 2) [e1, e2] _ _ hA (by rw[List.length_take]; simp; omega)];have q2 := fp (xs.take (i * 2) ++ [e1, e2]) (Z.drop 2) (xs.drop (i * 2)) [] ((i + 1) * 2) (by rw[List.length_append, hA]; simp <;> omega) (by rw[List.length_drop, B, g]; omega);simpa using q2
  have R4 := D.to l
  have x : Below w.heap.size w F := by
    have k2 : Below w.heap.size y o := u.below (fun b hb => by omega) (p.size)
    have k3 : Below w.heap.size o.drew F := L.below (fun b hb => by omega) (by have := p.size; have := u.size; show w.heap.size ≤ o.heap.size; omega);exact(p.trans k2).trans ((⟨rfl, rfl, rfl, Nat.le_refl _, fun _ _ => rfl⟩ : Below w.heap.size o o.drew).trans k3)
  have S : ¬ ((i : Int) = (n : Int)) := by omega
  have V : IntKind.i64.wrap ((i : Int) + 1) = (i : Int) + 1 := by rw[IntKind.wrap_i64]; omega
  have Y : (0 : Int) ≤ (i : Int) + 1 := by omega
  have W : i ≤ n := by omega
  have aa : ((i : Int) + 1).toNat = i + 1 := by omega
  have hb2 : ¬ (c' = i + 1) := by omega
  have O : i + 1 ≤ n + 1 := by omega
  have hb3 : (i : Int) ≤ (n : Int) + 1 := by omega
  have X : ¬ (c' = i) := by omega
  have Q : ¬ (c = i) := by omega
  clear f d R q A D H u L p l z r g G M;have mixed := mixed;go_enter Tryz.func193, Tryz.ntmps193;go_wp2_with (at_builtin; refine Lib.wpList_append_run _ rfl _ _ _ _ rfl _ _ rfl rfl _ _ s ?_);go_region;go_wp2;go_ret;exact⟨c', rfl, R4, x⟩
theorem insE (R:Rw w 196 2 b n c xs) (g:Blk w vb [e1,e2] 196) (f:vb≠b) (hi:i<=n) (hn:n<=1000000000) (j:∀ v∈xs,v.oneCell'=true) (d:∀ v∈[e1,e2],v.oneCell'=true) :
  Calls Tryz.prog 193 #[.slice (some ⟨b,0,none⟩) n c,.int .i64 i,.slice (some ⟨vb,0,none⟩) 1 1] w fun e w'=>∃ b' c',e=.returned (.slice (some ⟨b',0,none⟩) (n + 1) c')/\(b'=b\/w.heap.size<=b')/\Rw w' 196 2 b' (n + 1) c' (xs.take (i * 2) ++ [e1,e2] ++ xs.drop (i * 2))/\Chg (· = b) w w':=by
 by_cases h:i=n
 ·subst h;refine(yM R g hn d).mono ?_
  rintro e w' ⟨b',c',rfl,hb,a,hC⟩;exact⟨b',c',rfl,hb,a.to (by rw[List.take_of_length_le (by rw[R.len]; omega),List.drop_of_length_le (by rw[R.len]; omega),List.append_nil]),hC⟩
 ·by_cases k:n + 1<=c
  ·refine(sl R g f (by omega) k j d).mono ?_
   rintro e w' ⟨rfl,a,hC⟩;exact⟨b,c,rfl,.inl rfl,a,hC⟩
  ·refine(vD R g (by omega) (by omega) hn j d).mono ?_
   rintro e w' ⟨c',rfl,a,hC⟩;exact⟨_,c',rfl,.inr (Nat.le_refl _),a,Chg.of hC⟩
end
section
variable {w:World} {b n c i vb:Nat} {xs:List Value} {e1:Value}
theorem zn (R:Rw w 199 1 b n c xs) (m:Blk w vb [e1] 199) (hn:n<=1000000000) (g:∀ v∈[e1],v.oneCell'=true) :
  Calls Tryz.prog 227 #[.slice (some ⟨b,0,none⟩) n c,.int .i64 n,.slice (some ⟨vb,0,none⟩) 1 1] w fun e w'=>∃ b' c',e=.returned (.slice (some ⟨b',0,none⟩) (n + 1) c')/\(b'=b\/w.heap.size<=b')/\Rw w' 199 1 b' (n + 1) c' (xs ++ [e1])/\Chg (· = b) w w':=by
 obtain⟨b',c',W,q,f,o,hC⟩:=dB KP 142 R ⟨vb,0,none⟩ 1 1 [e1] rfl (fun j u p=>by rw[Addr.add_lit,Nat.zero_add]; exact m.cell p) g (by omega) (by omega);have d:=R.le;simp only[maxLen] at d;have l:=d.1;have i:=d.2;clear d R m g;go_enter Tryz.func227,Tryz.ntmps227;go_wp2_with (at_builtin; refine Lib.wpList_append_run _ rfl _ _ _ _ rfl _ _ rfl rfl _ _ q ?_)
 all_goals (
  go_ret
  exact⟨b',c',rfl,f.imp id (fun e=>by omega),o,hC⟩)
theorem r7 (R : Rw w 199 1 b n c xs) (q : Blk w vb [e1] 199) (o : vb ≠ b) (hi : i < n) (l : n + 1 ≤ c) (D : ∀ v ∈ xs, v.oneCell' = true) (G : ∀ v ∈ [e1], v.oneCell' = true) :
    Calls Tryz.prog 227 #[.slice (some ⟨b, 0, none⟩) n c, .int .i64 i, .slice (some ⟨vb, 0, none⟩) 1 1] w fun e w' => e = .returned (.slice (some ⟨b, 0, none⟩) (n + 1) c) ∧ Rw w' 199 1 b (n + 1) c (xs.take (i * 1) ++ [e1] ++ xs.drop (i * 1)) ∧ Chg (· = b) w w' := by
  have hx := R.len;have d := R.le;simp only[maxLen] at d;have H := d.1;have E := d.2
  have r : ∃ cs, Blk w b cs 199 ∧ cs.length = c * 1 := by
    obtain⟨sp, h, _, W, _⟩:= R.ex;exact⟨_, h, W⟩
  have A : ∀ (B u : Nat), (callFunc 248 #[.slice (some ⟨vb, 0, none⟩) 1 1, .slice (some ⟨b, i + 1, none⟩) B u]).run Tryz.prog w = .ok (.value (.bool false)) w := fun B u => by
    obtain⟨cs, h, J⟩:= r
    rw[run_callFunc_extern Tryz.func248 (by kernel_rfl) (by kernel_rfl) (by kernel_rfl) (e := Extern.SlicesOverlaps.overlaps #[142, 142] #[4]) (by kernel_rfl),
      Lib.run_overlaps_apart w 142 4 199 KP.und 1 KP.sizeOf ⟨vb, 0, none⟩ ⟨b, i + 1, none⟩ 1 1 B u o 199 199 1 (c * 1) (by simp[World.shape?, q.blk]) (by simp[World.shape?, h.blk]; simpa using J) (by omega) (q.free _) (q.free _)]
    rfl
  have g : (xs.drop (i * 1)).length = (n - i) * 1 := by rw[List.length_drop, hx]; omega
  obtain⟨s, hs, z⟩:= R.drew.more (m := 1) l;obtain⟨C, Y, x, y⟩:= eR (w := w.drew) KP 3 z (i + 1) (n - i) (c - (i + 1)) ⟨b, i, none⟩ (n + 1 - i) (c - i) (xs.drop (i * 1)) (n - i) (by simp only[Nat.min_def]; split <;> omega) g
    (fun j v t => by
      rw[List.getElem?_drop] at t;rw[Addr.add_lit]
      exact R.cell (w := w) (by simpa using t)) (by rw[g, z.len]; omega) (fun v hv => D v (List.mem_of_mem_drop hv))
  have p : Blk C vb [e1] 199 := q.drew.chg y o;obtain⟨Q, M, I, F⟩:= eR (w := C) KP 3 x (i) (n + 1 - i) (c - i) ⟨vb, 0, none⟩ 1 1 [e1] 1 (by simp only[Nat.min_def]; split <;> omega) rfl
    (fun j v t => by rw[Addr.add_lit, Nat.zero_add]; exact p.cell t) (by rw[x.len]; simp; omega) G
  have f : splice (splice (xs ++ s) (i + 1) (xs.drop (i * 1))) (i) [e1] = xs.take (i * 1) ++ [e1] ++ xs.drop (i * 1) := by
    have h := qQ xs s [e1] (i * 1) (by omega) (by simp[hs])
    have q0 : s.drop ([e1] : List Value).length = [] := List.drop_of_length_le (by simp[hs]);rw[q0, List.append_nil] at h;simpa[Nat.add_mul] using h
  have K := I.to f
  have U : Chg (· = b) w Q := ((Chg.refl _ w).drew.trans y (fun _ _ h => h)).trans F (fun _ _ h => h)
  have L : ¬ ((i : Int) = (n : Int)) := by omega
  have N : IntKind.i64.wrap ((i : Int) + 1) = (i : Int) + 1 := by rw[IntKind.wrap_i64]; omega
  have S : (0 : Int) ≤ (i : Int) + 1 := by omega
  have O : i ≤ n := by omega
  have T : ((i : Int) + 1).toNat = i + 1 := by omega
  have V : ¬ (c = i + 1) := by omega
  have X : (i : Int) ≤ (n : Int) + 1 := by omega
  have P : ¬ (c = i) := by omega
  clear d R r z x I y F f q p hs g D G;have mixed := mixed;go_enter Tryz.func227, Tryz.ntmps227;go_wp2_with (simp only[A]);go_region;go_wp2;go_ret;exact⟨rfl, K, U⟩
theorem wG (R : Rw w 199 1 b n c xs) (z : Blk w vb [e1] 199) (hi : i < n) (C : c < n + 1) (hn : n ≤ 1000000000) (G : ∀ v ∈ xs, v.oneCell' = true) (M : ∀ v ∈ [e1], v.oneCell' = true) :
    Calls Tryz.prog 227 #[.slice (some ⟨b, 0, none⟩) n c, .int .i64 i, .slice (some ⟨vb, 0, none⟩) 1 1] w fun e w' => ∃ c', e = .returned (.slice (some ⟨w.heap.size, 0, none⟩) (n + 1) c') ∧ Rw w' 199 1 w.heap.size (n + 1) c' (xs.take (i * 1) ++ [e1] ++ xs.drop (i * 1)) ∧ Below w.heap.size w w' := by
  have hx := R.len;have f := R.le;simp only[maxLen] at f;have P := f.1;have I := f.2;have K := R.lt;have E := z.lt;obtain⟨c', y, s, q, p⟩:= n6 KP 3 142 jU (R.front (m := i) (by omega)) (n + 1 - i) (by omega) (by omega) (by omega) (by omega);rw[show ((n + 1 - i : Nat) : Int) = (n : Int) + 1 - (i : Int) by omega, show i + (n + 1 - i) = n + 1 by omega] at s;rw[show i + (n + 1 - i) = n + 1 by omega] at q;have d := q.le;simp only[maxLen] at d;have N := d.1;have J := d.2
  have r : Blk y vb [e1] 199 := z.keep p;obtain⟨o, T, A, u⟩:= eR (w := y) KP 3 q (i) (n + 1 - i) (c' - i) ⟨vb, 0, none⟩ 1 1 [e1] 1 (by simp only[Nat.min_def]; split <;> omega) rfl
    (fun j v t => by rw[Addr.add_lit, Nat.zero_add]; exact r.cell t) (by rw[q.len]; simp; omega) M
  have g : (xs.drop (i * 1)).length = (n - i) * 1 := by rw[List.length_drop, hx]; omega
  have H : Rw o.drew 199 1 b n c xs := ((R.keep p).chg u (by show ¬ b = w.heap.size; omega)).drew;obtain⟨F, U, D, L⟩:= eR (w := o.drew) KP 3 A.drew (i + 1) (n - i) (c' - (i + 1)) ⟨b, i, none⟩ (n - i) (c - i) (xs.drop (i * 1)) (n - i) (by simp) g
    (fun j v t => by
      rw[List.getElem?_drop] at t;rw[Addr.add_lit]
      exact H.cell (by simpa using t)) (by rw[g, A.len]; omega) (fun v hv => G v (List.mem_of_mem_drop hv))
  have l : splice (splice (xs.take (i * 1) ++ (Builtin.zeroCells (.slice none 0 0 : Value).cells (n + 1 - i)).toList) (i) [e1]) (i + 1) (xs.drop (i * 1)) = xs.take (i * 1) ++ [e1] ++ xs.drop (i * 1) := by
    have hA : (xs.take (i * 1)).length = i := by rw[List.length_take, hx]; omega
    generalize hZ : (Builtin.zeroCells (.slice none 0 0 : Value).cells (n + 1 - i)).toList = Z
    have B : Z.length = (n + 1 - i) * 1 := by rw[← hZ, Array.length_toList, size_zeroCells]; rfl
    have q1 : xs.take (i * 1) ++ Z = xs.take (i * 1) ++ Z.take 1 ++ Z.drop 1 := by rw[List.append_assoc, List.take_append_drop]
    rw[q1, fp _ (Z.take 1) [e1] _ _ hA (by rw[List.length_take]; simp; omega)];have q2 := fp (xs.take (i * 1) ++ [e1]) (Z.drop 1) (xs.drop (i * 1)) [] (i + 1) (by rw[List.length_append, hA]; simp <;> omega) (by rw[List.length_drop, B, g]; omega);simpa using q2
  have R4 := D.to l
  have x : Below w.heap.size w F := by
    have k2 : Below w.heap.size y o := u.below (fun b hb => by omega) (p.size)
    have k3 : Below w.heap.size o.drew F := L.below (fun b hb => by omega) (by have := p.size; have := u.size; show w.heap.size ≤ o.heap.size; omega);exact(p.trans k2).trans ((⟨rfl, rfl, rfl, Nat.le_refl _, fun _ _ => rfl⟩ : Below w.heap.size o o.drew).trans k3)
  have S : ¬ ((i : Int) = (n : Int)) := by omega
  have V : IntKind.i64.wrap ((i : Int) + 1) = (i : Int) + 1 := by rw[IntKind.wrap_i64]; omega
  have Y : (0 : Int) ≤ (i : Int) + 1 := by omega
  have W : i ≤ n := by omega
  have aa : ((i : Int) + 1).toNat = i + 1 := by omega
  have hb2 : ¬ (c' = i + 1) := by omega
  have O : i + 1 ≤ n + 1 := by omega
  have hb3 : (i : Int) ≤ (n : Int) + 1 := by omega
  have X : ¬ (c' = i) := by omega
  have Q : ¬ (c = i) := by omega
  clear f d R q A D H u L p l z r g G M;have mixed := mixed;go_enter Tryz.func227, Tryz.ntmps227;go_wp2_with (at_builtin; refine Lib.wpList_append_run _ rfl _ _ _ _ rfl _ _ rfl rfl _ _ s ?_);go_region;go_wp2;go_ret;exact⟨c', rfl, R4, x⟩
theorem insP (R:Rw w 199 1 b n c xs) (g:Blk w vb [e1] 199) (f:vb≠b) (hi:i<=n) (hn:n<=1000000000) (j:∀ v∈xs,v.oneCell'=true) (d:∀ v∈[e1],v.oneCell'=true) :
  Calls Tryz.prog 227 #[.slice (some ⟨b,0,none⟩) n c,.int .i64 i,.slice (some ⟨vb,0,none⟩) 1 1] w fun e w'=>∃ b' c',e=.returned (.slice (some ⟨b',0,none⟩) (n + 1) c')/\(b'=b\/w.heap.size<=b')/\Rw w' 199 1 b' (n + 1) c' (xs.take (i * 1) ++ [e1] ++ xs.drop (i * 1))/\Chg (· = b) w w':=by
 by_cases h:i=n
 ·subst h;refine(zn R g hn d).mono ?_
  rintro e w' ⟨b',c',rfl,hb,a,hC⟩;exact⟨b',c',rfl,hb,a.to (by rw[List.take_of_length_le (by rw[R.len]; omega),List.drop_of_length_le (by rw[R.len]; omega),List.append_nil]),hC⟩
 ·by_cases k:n + 1<=c
  ·refine(r7 R g f (by omega) k j d).mono ?_
   rintro e w' ⟨rfl,a,hC⟩;exact⟨b,c,rfl,.inl rfl,a,hC⟩
  ·refine(wG R g (by omega) (by omega) hn j d).mono ?_
   rintro e w' ⟨c',rfl,a,hC⟩;exact⟨_,c',rfl,.inr (Nat.le_refl _),a,Chg.of hC⟩
end
end Pg
end
section
namespace Pg
open Go.RowKit Go.Lib
section
variable {w:World} {b n c i:Nat} {xs:List Value}
theorem zx (R : Rw w 196 2 b n c xs) (hi : i < n) (p : c ≠ i + 1) (t : ∀ v ∈ xs, v.oneCell' = true) :
    Calls Tryz.prog 207 #[.slice (some ⟨b, 0, none⟩) n c, .int .i64 i, .int .i64 (i + 1)] w fun e w' => e = .returned (.slice (some ⟨b, 0, none⟩) (n - 1) c) ∧ Rw w' 196 2 b (n - 1) c (xs.take (i * 2) ++ xs.drop ((i + 1) * 2)) ∧ Chg (· = b) w w' := by
  have hx := R.len;have d := R.le;simp only[maxLen] at d;have y := d.1;have u := d.2
  have f : (xs.drop ((i + 1) * 2)).length = (n - (i + 1)) * 2 := by rw[List.length_drop, hx]; omega
  obtain⟨O, g, l, r⟩:= jx KE 199 (R.drew.front (m := i) (by omega)) ⟨b, (i + 1) * 2, none⟩ (n - (i + 1)) (c - (i + 1)) (xs.drop ((i + 1) * 2)) f
    (fun j v s => by
      rw[List.getElem?_drop] at s;rw[Addr.add_lit]
      exact R.drew.cell (by simpa using s)) (fun v hv => t v (List.mem_of_mem_drop hv)) (by omega)
  rw[show i + (n - (i + 1)) = n - 1 by omega] at l;obtain⟨F, o, A, x⟩:= ik KE 0 l (n - (n - 1)) (c - (n - 1)) (by omega) (by omega)
  have K : Chg (· = b) w F := ((Chg.refl _ w).drew.trans r (fun _ _ h => h)).trans x (fun _ _ h => h);obtain⟨q, M⟩ : ∃ q, n = i + 1 + q := ⟨n - (i + 1), by omega⟩;subst M;rw[show i + 1 + q - (i + 1) = q by omega] at g;rw[show i + 1 + q - 1 = i + q by omega] at o A ⊢
  have C : ¬ ((i : Int) = (i : Int) + 1) := by omega
  have D : i ≤ i + 1 + q := by omega
  have L : ¬ (c = i + 1) := p
  have H : (0 : Int) ≤ (i : Int) + 1 := by omega
  have E : i ≤ c := by omega
  have J : ((i : Int) + 1).toNat = i + 1 := by omega
  have I : ¬ (c = i + q) := by omega
  have G : (i : Int) + 1 ≤ ((i + 1 + q : Nat) : Int) := by omega
  have N : i + 1 ≤ i + 1 + q := by omega
  have z : (i : Int) + 1 ≤ (i : Int) + 1 + (q : Int) := by omega
  have B : ((i + 1 + q : Nat) : Int) ≤ (c : Int) := by omega
  clear d R l r x f t;have mixed := mixed;go_enter Tryz.func207, Tryz.ntmps207;go_wp2;go_region_law_o (refine jC rfl (.tmp 22) (.tmp 25) 199 199 rfl _ _ (by simp[Act.eval, Act.put]) (by simp[Act.eval, Act.put]) g ?_);go_wp2;go_ret;exact⟨rfl, A, K⟩
theorem wW (R:Rw w 196 2 b (i + 1) (i + 1) xs) :
  Calls Tryz.prog 207 #[.slice (some ⟨b,0,none⟩) (i + 1) (i + 1),.int .i64 i,.int .i64 (i + 1)] w fun e w'=>e=.returned (.slice (some ⟨b,0,none⟩) i (i + 1))/\Rw w' 196 2 b i (i + 1) (xs.take (i * 2))/\Chg (· = b) w w':=by
 have c:=R.le;simp only[maxLen] at c;have l:=c.2;obtain⟨A,d,f,g⟩:=jx KE 199 (R.drew.front (m:=i) (by omega)) ⟨b,0,none⟩ 0 0 [] (by simp) (fun j v q=>by simp at q) (fun v hv=>by simp at hv) (by omega);rw[Nat.add_zero] at f d;rw[List.append_nil] at f;obtain⟨s,p,t,n⟩:=ik KE 0 f 1 1 (by omega) (by omega)
 have z:Chg (· = b) w s:=((Chg.refl _ w).drew.trans g (fun _ _ h=>h)).trans n (fun _ _ h=>h)
 have o:¬ ((i:Int)=(i:Int) + 1):=by omega
 have r:i<=i + 1:=by omega
 have u:(0:Int)<=(i:Int) + 1:=by omega
 have y:((i:Int) + 1).toNat=i + 1:=by omega
 have e1:i + 1 - i=1:=by omega
 have x:(i:Int)<=(i:Int) + 1:=by omega
 clear c R f g n;have mixed:=mixed;go_enter Tryz.func207,Tryz.ntmps207;go_wp2;go_region_law_o (refine jC rfl (.tmp 22) (.tmp 25) 199 199 rfl _ _ (by simp[Act.eval,Act.put]) (by simp[Act.eval,Act.put]) d ?_);go_wp2;go_ret;exact⟨rfl,t,z⟩
theorem delE (R:Rw w 196 2 b n c xs) (hi:i < n) (d:∀ v∈xs,v.oneCell'=true) :
  Calls Tryz.prog 207 #[.slice (some ⟨b,0,none⟩) n c,.int .i64 i,.int .i64 (i + 1)] w fun e w'=>e=.returned (.slice (some ⟨b,0,none⟩) (n - 1) c)/\Rw w' 196 2 b (n - 1) c (xs.take (i * 2) ++ xs.drop ((i + 1) * 2))/\Chg (· = b) w w':=by
 by_cases h:c=i + 1
 ·have f:=R.le;obtain rfl:n=i + 1:=by omega
  subst h;refine(wW R).mono ?_
  rintro e w' ⟨rfl,a,hC⟩;exact⟨by simp,a.to (by rw[List.drop_of_length_le (by rw[R.len]; omega),List.append_nil]),hC⟩
 ·exact zx R hi h d
end
section
variable {w:World} {b n c i:Nat} {xs:List Value}
theorem Ag (R : Rw w 199 1 b n c xs) (hi : i < n) (p : c ≠ i + 1) (t : ∀ v ∈ xs, v.oneCell' = true) :
    Calls Tryz.prog 208 #[.slice (some ⟨b, 0, none⟩) n c, .int .i64 i, .int .i64 (i + 1)] w fun e w' => e = .returned (.slice (some ⟨b, 0, none⟩) (n - 1) c) ∧ Rw w' 199 1 b (n - 1) c (xs.take (i * 1) ++ xs.drop ((i + 1) * 1)) ∧ Chg (· = b) w w' := by
  have hx := R.len;have d := R.le;simp only[maxLen] at d;have y := d.1;have u := d.2
  have g : (xs.drop ((i + 1) * 1)).length = (n - (i + 1)) * 1 := by rw[List.length_drop, hx]; omega
  obtain⟨O, l, o, r⟩:= jx KP 142 (R.drew.front (m := i) (by omega)) ⟨b, i + 1, none⟩ (n - (i + 1)) (c - (i + 1)) (xs.drop ((i + 1) * 1)) g
    (fun j v s => by
      rw[List.getElem?_drop] at s;rw[Addr.add_lit]
      exact R.drew.cell (by simpa using s)) (fun v hv => t v (List.mem_of_mem_drop hv)) (by omega)
  rw[show i + (n - (i + 1)) = n - 1 by omega] at o;obtain⟨F, f, A, x⟩:= ik KP 0 o (n - (n - 1)) (c - (n - 1)) (by omega) (by omega)
  have K : Chg (· = b) w F := ((Chg.refl _ w).drew.trans r (fun _ _ h => h)).trans x (fun _ _ h => h);obtain⟨q, M⟩ : ∃ q, n = i + 1 + q := ⟨n - (i + 1), by omega⟩;subst M;rw[show i + 1 + q - (i + 1) = q by omega] at l;rw[show i + 1 + q - 1 = i + q by omega] at f A ⊢;simp only[Nat.mul_one] at f
  have C : ¬ ((i : Int) = (i : Int) + 1) := by omega
  have D : i ≤ i + 1 + q := by omega
  have L : ¬ (c = i + 1) := p
  have H : (0 : Int) ≤ (i : Int) + 1 := by omega
  have E : i ≤ c := by omega
  have J : ((i : Int) + 1).toNat = i + 1 := by omega
  have I : ¬ (c = i + q) := by omega
  have G : (i : Int) + 1 ≤ ((i + 1 + q : Nat) : Int) := by omega
  have N : i + 1 ≤ i + 1 + q := by omega
  have z : (i : Int) + 1 ≤ (i : Int) + 1 + (q : Int) := by omega
  have B : ((i + 1 + q : Nat) : Int) ≤ (c : Int) := by omega
  clear d R o r x g t;have mixed := mixed;go_enter Tryz.func208, Tryz.ntmps208;go_wp2;go_region_law_o (refine jC rfl (.tmp 22) (.tmp 25) 142 142 rfl _ _ (by simp[Act.eval, Act.put]) (by simp[Act.eval, Act.put]) l ?_);go_wp2;go_ret;exact⟨rfl, A, K⟩
theorem wV (R:Rw w 199 1 b (i + 1) (i + 1) xs) :
  Calls Tryz.prog 208 #[.slice (some ⟨b,0,none⟩) (i + 1) (i + 1),.int .i64 i,.int .i64 (i + 1)] w fun e w'=>e=.returned (.slice (some ⟨b,0,none⟩) i (i + 1))/\Rw w' 199 1 b i (i + 1) (xs.take (i * 1))/\Chg (· = b) w w':=by
 have c:=R.le;simp only[maxLen] at c;have n:=c.2;obtain⟨A,d,f,l⟩:=jx KP 142 (R.drew.front (m:=i) (by omega)) ⟨b,0,none⟩ 0 0 [] (by simp) (fun j v q=>by simp at q) (fun v hv=>by simp at hv) (by omega);rw[Nat.add_zero] at f d;rw[List.append_nil] at f;obtain⟨s,g,t,o⟩:=ik KP 0 f 1 1 (by omega) (by omega)
 have z:Chg (· = b) w s:=((Chg.refl _ w).drew.trans l (fun _ _ h=>h)).trans o (fun _ _ h=>h);simp only[Nat.mul_one] at g
 have p:¬ ((i:Int)=(i:Int) + 1):=by omega
 have r:i<=i + 1:=by omega
 have u:(0:Int)<=(i:Int) + 1:=by omega
 have y:((i:Int) + 1).toNat=i + 1:=by omega
 have e1:i + 1 - i=1:=by omega
 have x:(i:Int)<=(i:Int) + 1:=by omega
 clear c R f l o;have mixed:=mixed;go_enter Tryz.func208,Tryz.ntmps208;go_wp2;go_region_law_o (refine jC rfl (.tmp 22) (.tmp 25) 142 142 rfl _ _ (by simp[Act.eval,Act.put]) (by simp[Act.eval,Act.put]) d ?_);go_wp2;go_ret;exact⟨rfl,t,z⟩
theorem delP (R:Rw w 199 1 b n c xs) (hi:i < n) (d:∀ v∈xs,v.oneCell'=true) :
  Calls Tryz.prog 208 #[.slice (some ⟨b,0,none⟩) n c,.int .i64 i,.int .i64 (i + 1)] w fun e w'=>e=.returned (.slice (some ⟨b,0,none⟩) (n - 1) c)/\Rw w' 199 1 b (n - 1) c (xs.take (i * 1) ++ xs.drop ((i + 1) * 1))/\Chg (· = b) w w':=by
 by_cases h:c=i + 1
 ·have f:=R.le;obtain rfl:n=i + 1:=by omega
  subst h;refine(wV R).mono ?_
  rintro e w' ⟨rfl,a,hC⟩;exact⟨by simp,a.to (by rw[List.drop_of_length_le (by rw[R.len]; omega),List.append_nil]),hC⟩
 ·exact Ag R hi h d
end
end Pg
end
section
namespace Pg
open Go.RowKit Go.Lib
section
variable {w w':World}{v:Value}{l:List Int}{D D':Nat->Prop}{a:Addr}{n:Nat}{xs:List Value}
abbrev Oct(l:List Int):Prop:=∀ x∈l,0<=x/\x < 256
structure By(w:World)(v:Value)(l:List Int):Prop where
 ex:∃ ao c,v=.slice ao l.length c/\l.length<=c/\c<=9223372036854775807/\(ao=none->c=0)/\Oct l/\(l=[]\/∃ b o,ao=some ⟨b,o,none⟩/\b < w.heap.size/\∀ i x,l[i]? = some x->w.cell? ⟨b,o + i,none⟩=some (.int .u8 x))
theorem By.keep(h:By w v l)(hb:Below w.heap.size w w'):By w' v l:=by
 obtain⟨g,c,m,d,n,j,f,k⟩:=h.ex;refine⟨g,c,m,d,n,j,f,k.imp id ?_⟩;rintro⟨b,o,e,a,hc⟩;exact⟨b,o,e,Nat.lt_of_lt_of_le a hb.size,fun i x hi=>by rw[hb.cell (p:=⟨b,o + i,none⟩) a]; exact hc i x hi⟩
theorem By.drew(h:By w v l):By w.drew v l:=h.keep ⟨rfl,rfl,rfl,Nat.le_refl _,fun _ _=>rfl⟩
theorem By.oct(h:By w v l):Oct l:=by
 obtain⟨ao,c,h1,h2,h3,h4,h5,h6⟩:=h.ex; exact h5
theorem By.nil(w:World):By w (.slice none 0 0) []:=⟨none,0,rfl,by decide,by decide,fun _=>rfl,fun _ h=>by simp at h,.inl rfl⟩
structure OB(w:World)(D:Nat->Prop)(v:Value)(l:List Int):Prop where
 oct:Oct l
 ex:(v=.slice none 0 0/\l=[])\/∃ b c,v=.slice (some ⟨b,0,none⟩) l.length c/\D b/\Rw w 5 1 b l.length c (l.map (Value.int .u8))
theorem OB.by(h:OB w D v l):By w v l:=by
 rcases h.ex with⟨rfl,rfl⟩ | ⟨b,c,rfl,hd,hR⟩
 ·exact By.nil w
 ·have a:=hR.le;simp only[maxLen] at a;exact⟨_,c,rfl,by omega,by omega,(fun e=>by cases e),h.oct,.inr ⟨b,0,rfl,hR.lt,fun i x hi=>by rw[Nat.zero_add]; exact hR.cell (by simp[hi])⟩⟩
theorem OB.mono(h:OB w D v l)(hD:∀ b,b < w.heap.size->D b->D' b):OB w D' v l:=by
 refine⟨h.oct,h.ex.imp id ?_⟩;rintro⟨b,c,e,hd,hR⟩;exact⟨b,c,e,hD b hR.lt hd,hR⟩
theorem OB.same(h:OB w D v l)(hD:∀ b,b < w.heap.size->D b->w'.heap[b]? = w.heap[b]?):OB w' D v l:=by
 refine⟨h.oct,h.ex.imp id ?_⟩;rintro⟨b,c,e,hd,hR⟩;exact⟨b,c,e,hd,hR.same (hD b hR.lt hd)⟩
theorem OB.keep(h:OB w D v l)(hb:Below w.heap.size w w'):OB w' D v l:=h.same fun b hb' _=>hb.block b hb'
theorem OB.one(h:OB w D v l):v.oneCell'=true:=by
 rcases h.ex with⟨rfl,rfl⟩ | ⟨b,c,rfl,hd,hR⟩<;>rfl
def cZ:List Int->List Int->Int
 | [],[]=>0
 | [],_ :: _ => -1
 | _ :: _,[]=>1
 | x :: a,y :: b=>if x < y then -1 else if y < x then 1 else cZ a b
theorem DT{x y:Int}(hx:0<=x/\x < 256)(hy:0<=y/\y < 256):(UInt8.ofNat x.toNat < UInt8.ofNat y.toNat)<->x < y:=by
 rw[UInt8.lt_iff_toNat_lt,UInt8.toNat_ofNat_of_lt' (by show x.toNat < 256; omega),UInt8.toNat_ofNat_of_lt' (by show y.toNat < 256; omega)];omega
theorem jO:∀ (l l':List Int),Oct l->Oct l'->compareBytes (bytesOf l) (bytesOf l')=cZ l l'
 | [],[],_,_=>rfl
 | [],_ :: _,_,_=>rfl
 | _ :: _,[],_,_=>rfl
 | x :: a,y :: b,h,h'=>by
  have ih:=jO a b (fun z c=>h z (List.mem_cons_of_mem _ c)) (fun z c=>h' z (List.mem_cons_of_mem _ c));have hx:=h x List.mem_cons_self;have hy:=h' y List.mem_cons_self
  show (if UInt8.ofNat x.toNat < UInt8.ofNat y.toNat then _ else if UInt8.ofNat y.toNat < UInt8.ofNat x.toNat then _ else compareBytes (bytesOf a) (bytesOf b))=_
  rw[cZ];simp only[DT hx hy,DT hy hx,ih]
theorem kQ{P:Program}(h:By w v l):(Extern.Bytes.bytesOf v).run P w=.ok ⟨(bytesOf l).toArray⟩ w:=by
 obtain⟨d,c,rfl,m,p,i,n,k⟩:=h.ex
 cases d with
 | none =>
  have:l=[]:=List.eq_nil_of_length_eq_zero (by have:=i rfl; omega);subst this;rfl
 | some a =>
  rcases k with rfl | ⟨b,o,e,f,hc⟩
  ·rfl
  ·cases e;have:=run_loadBytesX (P:=P) w l ⟨b,o,none⟩ .empty (fun j x g=>by rw[Addr.add_lit]; exact hc j x g)
   show (Extern.Bytes.loadBytes ⟨b,o,none⟩ l.length .empty).run P w=_
   rw[this];congr 1
   apply ByteArray.ext;simp
theorem kK{c:Value}{b:List Int}(h:By w v l)(d:By w c b) :
  Calls Tryz.prog 211 #[v,c] w fun e w'=>e=.returned (.int .i64 (cZ l b))/\w'=w:=by
 have f:(callFunc 241 #[v,c]).run Tryz.prog w=.ok (.value (.int .i64 (cZ l b))) w:=by
  rw[run_callFunc_extern Tryz.func241 (by kernel_rfl) (by kernel_rfl) (by kernel_rfl) (e:=Extern.BytealgCompare.compare) (by kernel_rfl)];have:(Extern.BytealgCompare.compare #[v,c]).run Tryz.prog w=.ok (.int .i64 (cZ l b)) w:=by
   change Sem.run Tryz.prog (do pure (goInt (Extern.BytealgCompare.cmp (<- Extern.Bytes.bytesOf v) (<- Extern.Bytes.bytesOf c)))) w=_
   simp only[Sem.run_bind,kQ h,kQ d,Sem.run_pure,Result.andThen];rw[cmp_eq,jO l b h.oct d.oct];rfl
  rw[this]; rfl
 clear h d;generalize cZ l b=x at *;go_enter Tryz.func211,Tryz.ntmps211;go_wp2_with (simp only[f]);go_ret;exact⟨rfl,rfl⟩
theorem KB:Kd Tryz.prog 96 5 1 1 (.int .u8 0):=⟨by kernel_rfl,by kernel_rfl,rfl,by simp[Value.cells,Value.oneCell'],by decide⟩
theorem mi(h:w.cell? a=some v)(o:Obj):(w.alloc o).cell? a=some v:=by
 have b:a.block < w.heap.size:=by
  unfold World.cell? at h
  cases hh:w.heap[a.block]? with
  | none=>simp[hh] at h
  | some ob=>exact lt_of_block hh
 rw[(ae w o).cell b]; exact h
theorem map_u8(l:List Int):∀ v∈l.map (Value.int .u8),v.oneCell'=true:=by
 intro v hv;obtain⟨x,_,rfl⟩:=List.mem_map.1 hv;rfl
theorem cE(h:By w v l)(s:l.length<=1000000000) :
  Calls Tryz.prog 78 #[v] w fun e w'=>∃ v',e=.returned v'/\OB w' (w.heap.size <= ·) v' l/\Below w.heap.size w w':=by
 have A:=h.oct;obtain⟨D,c,rfl,H,I,F,C,z⟩:=h.ex
 cases D with
 | none =>
  have B:l=[]:=List.eq_nil_of_length_eq_zero (by have:=F rfl; omega);subst B;have g:=fun(w:World) (a:Option Addr) (n c:Nat)=>Go.Lib.run_eql_slice_nil (P:=Tryz.prog) w 96 _ a n c 0 0 KB.und
  go_enter Tryz.func78,Tryz.ntmps78;go_wp2;go_ret;exact⟨_,rfl,⟨A,.inl ⟨rfl,rfl⟩⟩,Below.refl _ _⟩
 | some a =>
  have r:Rw (w.alloc (.cells #[] 5)) 5 1 w.heap.size 0 0 []:=yr (aC w [] _) rfl (by decide)
  have f:∀ j u,(l.map (Value.int .u8))[j]? = some u->(w.alloc (.cells #[] 5)).cell? (a.add j)=some u:=fun j u m=>by
   rcases z with rfl | ⟨b,o,e,E,hc⟩
   ·simp at m
   ·cases e;rw[List.getElem?_map] at m;obtain⟨x,hx,rfl⟩:=Option.map_eq_some_iff.1 m;exact mi (by rw[Addr.add_lit]; exact hc j x hx) _
  obtain⟨q,t,W,y,d,i,hC⟩:=dB KB 96 r a l.length c (l.map (Value.int .u8)) (by simp) f (map_u8 l) (by omega) (by omega);rw[Nat.zero_add] at y i
  have G:Below w.heap.size w W:=(ae w (.cells #[] 5)).trans (hC.below (fun b hb=>by omega) (ae w _).size)
  have p:w.heap.size<=q:=by rcases d with e | e; omega; rw[World.size_alloc] at e; omega
  have hF:OB W (w.heap.size <= ·) (.slice (some ⟨q,0,none⟩) l.length t) l:=⟨A,.inr ⟨q,t,rfl,p,i.to (by simp)⟩⟩
  clear r f z h i hC C d;have g:=fun(w:World) (a:Option Addr) (n c:Nat)=>Go.Lib.run_eql_slice_nil (P:=Tryz.prog) w 96 _ a n c 0 0 KB.und
  go_enter Tryz.func78,Tryz.ntmps78;go_wp2_with (at_builtin; refine Lib.wpList_append_run _ rfl _ _ _ _ rfl _ _ rfl rfl _ _ y ?_);go_ret;exact⟨_,rfl,hF,G⟩
theorem zp{c:Nat}(hn:n<=1000000000)(hx:xs.length=n * 2)(hc:∀ j v,xs[j]? = some v->w.cell? (a.add j)=some v)(m:∀ v∈xs,v.oneCell'=true) :
  Calls Tryz.prog 226 #[.slice (some a) n c] w fun e w'=>∃ b' c',e=.returned (.slice (some ⟨b',0,none⟩) n c')/\w.heap.size<=b'/\Rw w' 196 2 b' n c' xs/\Below w.heap.size w w':=by
 have i:Rw (w.alloc (.cells #[] 196)) 196 2 w.heap.size 0 0 []:=yr (aC w [] _) rfl (by decide);obtain⟨b',c',W,o,d,f,hC⟩:=dB KE 199 i a n c xs hx (fun j v p=>mi (hc j v p) _) m (by omega) (by omega);rw[Nat.zero_add] at o f;rw[List.nil_append] at f
 have q:Below w.heap.size w W:=(ae w (.cells #[] 196)).trans (hC.below (fun b hb=>by omega) (ae w _).size)
 have g:w.heap.size<=b':=by rcases d with e | e; omega; rw[World.size_alloc] at e; omega
 clear i hc m hC d;have l:=fun(w:World) (a:Option Addr) (n c:Nat)=>Go.Lib.run_eql_slice_nil (P:=Tryz.prog) w 199 _ a n c 0 0 KE.und
 go_enter Tryz.func226,Tryz.ntmps226;go_wp2_with (at_builtin; refine Lib.wpList_append_run _ rfl _ _ _ _ rfl _ _ rfl rfl _ _ o ?_);go_ret;exact⟨b',c',rfl,g,f,q⟩
theorem growE(g:0 < n)(hn:n<=1000000000) :
  Calls Tryz.prog 254 #[.slice none 0 0,.int .i64 n] w fun e w'=>∃ b' c',e=.returned (.slice (some ⟨b',0,none⟩) 0 c')/\w.heap.size<=b'/\Rw w' 196 2 b' 0 c' []/\Below w.heap.size w w':=by
 obtain⟨c',W,j,c,i⟩:=np (w:=w) KE 3 199 jU n g (by omega) (by omega)
 have b:Rw W 196 2 w.heap.size 0 c' []:=(c.front (m:=0) (by omega)).to (by simp)
 have f:¬ ((n:Int) < 0):=by omega
 have d:(0:Int) < n:=by omega
 clear c;go_enter Tryz.func254,Tryz.ntmps254;go_wp2_with (at_builtin; refine Lib.wpList_append_run _ rfl _ _ _ _ rfl _ _ rfl rfl _ _ j ?_);go_ret;exact⟨_,c',rfl,Nat.le_refl _,b,i⟩
end
end Pg
end
section
namespace Pg
open Go.RowKit Go.Lib
theorem CD {w:World} {vb C n1 c1 b2 n2 c2:Nat} {xs ys:List Value} (q:Blk w vb [.slice (some ⟨C,0,none⟩) n1 c1,.slice (some ⟨b2,0,none⟩) n2 c2] 199)
  (E:Rw w 196 2 C n1 c1 xs) (F:Rw w 196 2 b2 n2 c2 ys) (I:0 < n1 + n2) (G:n1<=1000000) (L:n2<=1000000) (H:∀ v∈xs,v.oneCell'=true) (J:∀ v∈ys,v.oneCell'=true) :
  Calls Tryz.prog 240 #[.slice (some ⟨vb,0,none⟩) 2 2] w fun e w'=>∃ b' c',e=.returned (.slice (some ⟨b',0,none⟩) (n1 + n2) c')/\w.heap.size<=b'/\Rw w' 196 2 b' (n1 + n2) c' (xs ++ ys)/\Below w.heap.size w w':=by
 have B:=growE (w:=w) (n:=n1 + n2) I (by omega);rw[show ((n1 + n2:Nat):Int)=(n1:Int) + (n2:Int) by omega] at B;have q0:=q.cell (i:=0) rfl;have q1:=q.cell (i:=1) rfl;go_enter Tryz.func240,Tryz.ntmps240;go_wp2;go_loopw [3,11] (fun ts g wr=>wr=w/\((g=.int .i64 0/\ts=.int .i64 0)\/(g=.int .i64 1/\ts=.int .i64 n1)\/(g=.int .i64 2/\ts=.int .i64 (n1 + n2)))) (fun _ g _=>2 - (intOf g).toNat)
 case atStart=>exact⟨rfl,.inl ⟨rfl,rfl⟩⟩
 case round =>
  obtain⟨rfl,⟨rfl,rfl⟩ | ⟨rfl,rfl⟩ | ⟨rfl,rfl⟩⟩:=hrel
  ·have K:¬ ((n1:Int) < 0):=by omega
   go_wp2;go_roundw
   case rel=>exact⟨trivial,.inr (.inl ⟨rfl,rfl⟩)⟩
   case measure=>simp[intOf]
  ·have K:¬ ((n1:Int) + (n2:Int) < 0):=by omega
   go_wp2;go_roundw
   case rel=>exact⟨trivial,.inr (.inr ⟨rfl,rfl⟩)⟩
   case measure=>simp[intOf]
  ·rename World=>W0
   go_wp2_with (go_at_call 254; refine B.mono ?_; rintro e M ⟨b,c,rfl,hb,l,s⟩);clear B
   have D:=(q.keep s).cell (i:=0) rfl
   have A:=(q.keep s).cell (i:=1) rfl;have r:=s;clear s q0 q1;go_loopw [6,27] (fun ts g t=>Below W0.heap.size W0 t/\∃ b c,W0.heap.size<=b/\((g=.int .i64 0/\ts=.slice (some ⟨b,0,none⟩) 0 c/\Rw t 196 2 b 0 c [])\/(g=.int .i64 1/\ts=.slice (some ⟨b,0,none⟩) n1 c/\Rw t 196 2 b n1 c xs)\/(g=.int .i64 2/\ts=.slice (some ⟨b,0,none⟩) (n1 + n2) c/\Rw t 196 2 b (n1 + n2) c (xs ++ ys)))) (fun _ g _=>2 - (intOf g).toNat)
   case atStart=>exact⟨r,b,c,hb,.inl ⟨rfl,rfl,l⟩⟩
   case round =>
    clear l r hb D A;obtain⟨d,b,c,hb,⟨rfl,rfl,l⟩ | ⟨rfl,rfl,l⟩ | ⟨rfl,rfl,l⟩⟩:=hrel
    ·have q0:=(q.keep d).cell (i:=0) rfl;have S:=E.keep d;obtain⟨b',c',W,y,f,m,hC⟩:=dB KE 199 l ⟨C,0,none⟩ n1 c1 xs E.len (fun j u z=>by rw[Addr.add_lit,Nat.zero_add]; exact S.cell z) H (by omega) (by omega);rw[Nat.zero_add] at y m
     have o:Below W0.heap.size W0 W:=d.trans (hC.below (fun x hx=>by omega) d.size)
     have p:W0.heap.size<=b':=by
      have:=d.size;rcases f with e | e<;>omega
     clear hC f l S;go_wp2_with (at_builtin; refine Lib.wpList_append_run _ rfl _ _ _ _ rfl _ _ rfl rfl _ _ y ?_);go_roundw
     case rel=>exact⟨o,b',c',p,.inr (.inl ⟨rfl,rfl,m⟩)⟩
     case measure=>simp[intOf]
    ·have q1:=(q.keep d).cell (i:=1) rfl;have S:=F.keep d;obtain⟨b',c',W,y,f,m,hC⟩:=dB KE 199 l ⟨b2,0,none⟩ n2 c2 ys F.len (fun j u z=>by rw[Addr.add_lit,Nat.zero_add]; exact S.cell z) J (by omega) (by omega)
     have o:Below W0.heap.size W0 W:=d.trans (hC.below (fun x hx=>by omega) d.size)
     have p:W0.heap.size<=b':=by
      have:=d.size;rcases f with e | e<;>omega
     clear hC f l S;go_wp2_with (at_builtin; refine Lib.wpList_append_run _ rfl _ _ _ _ rfl _ _ rfl rfl _ _ y ?_);go_roundw
     case rel=>exact⟨o,b',c',p,.inr (.inr ⟨rfl,rfl,m⟩)⟩
     case measure=>simp[intOf]
    ·go_wp2;go_ret;exact⟨b,c,rfl,hb,l,d⟩
end Pg
end
section
namespace Pg
section
variable {a b k:List Int}{l:List (List Int)}
theorem iR:∀ (a b:List Int),cZ a b = -1\/cZ a b=0\/cZ a b=1
 | [],[]=>.inr (.inl rfl)
 | [],_ :: _=>.inl rfl
 | _ :: _,[]=>.inr (.inr rfl)
 | x :: a,y :: b=>by
  rw[cZ];split
  ·exact .inl rfl
  ·split
   ·exact .inr (.inr rfl)
   ·exact iR a b
theorem iw:∀ (a:List Int),cZ a a=0
 | []=>rfl
 | x :: a=>by rw[cZ,if_neg (by omega),if_neg (by omega)]; exact iw a
theorem qi:∀ {a b:List Int},cZ a b=0->a=b
 | [],[],_=>rfl
 | [],_ :: _,h=>by simp[cZ] at h
 | _ :: _,[],h=>by simp[cZ] at h
 | x :: a,y :: b,h=>by
  rw[cZ] at h;split at h
  ·omega
  ·split at h
   ·omega
   ·rw[qi h,show x=y by omega]
theorem jV:∀ (a b:List Int),cZ b a = - cZ a b
 | [],[]=>rfl
 | [],_ :: _=>rfl
 | _ :: _,[]=>rfl
 | x :: a,y :: b=>by
  rw[cZ,cZ];by_cases h1:x < y
  ·rw[if_neg (by omega),if_pos h1,if_pos h1]; rfl
  ·by_cases h2:y < x
   ·rw[if_pos h2,if_neg h1,if_pos h2]
   ·rw[if_neg h2,if_neg h1,if_neg h1,if_neg h2]; exact jV a b
abbrev Lt(a b:List Int):Prop:=cZ a b = -1
theorem Lt.trans:∀ {a b c:List Int},Lt a b->Lt b c->Lt a c
 | [],[],_,h,_=>by simp[Lt,cZ] at h
 | [],_ :: _,[],_,h=>by simp[Lt,cZ] at h
 | [],_ :: _,_ :: _,_,_=>rfl
 | _ :: _,[],_,h,_=>by simp[Lt,cZ] at h
 | _ :: _,_ :: _,[],_,h=>by simp[Lt,cZ] at h
 | x :: a,y :: b,z :: c,h,h'=>by
  simp only[Lt] at h h' ⊢;rw[cZ] at h h' ⊢;by_cases h1:x < z
  ·rw[if_pos h1]
  ·rw[if_neg h1];split at h
   ·split at h'
    ·omega
    ·split at h'
     ·omega
     ·omega
   ·split at h
    ·omega
    ·split at h'
     ·omega
     ·split at h'
      ·omega
      ·rw[if_neg (by omega)]; exact Lt.trans (a:=a) (b:=b) (c:=c) h h'
theorem lt_irrefl(a:List Int):¬ Lt a a:=by simp[Lt,iw]
theorem Lt.not(h:Lt a b):¬ Lt b a:=fun h'=>lt_irrefl a (h.trans h')
theorem qp(a b:List Int):Lt a b\/a=b\/Lt b a:=by
 rcases iR a b with h | h | h
 ·exact .inl h
 ·exact .inr (.inl (qi h))
 ·exact .inr (.inr (by simp only[Lt]; rw[jV,h]))
theorem pA(h:Lt a b):cZ a b = -1:=h
theorem Dc(h:Lt b a):cZ a b=1:=by rw[jV,pA h]; rfl
theorem not_lt:¬ Lt a b<->a=b\/Lt b a:=by
 constructor
 ·intro h;rcases qp a b with k | k | k
  ·exact absurd k h
  ·exact .inl k
  ·exact .inr k
 ·rintro(h | h)
  ·subst h; exact lt_irrefl a
  ·exact h.not
theorem Lt.of_le{c:List Int}(h:Lt a b)(h':¬ Lt c b):Lt a c:=by
 rcases not_lt.1 h' with k | k
 ·subst k; exact h
 ·exact h.trans k
def plc:List (List Int)->List Int->Nat
 | [],_=>0
 | x :: l,k=>if Lt x k then plc l k + 1 else 0
theorem oW:∀ (l:List (List Int)) (k:List Int),plc l k<=l.length
 | [],_=>Nat.le_refl _
 | x :: l,k=>by
  rw[plc];split
  ·have:=oW l k; simp; omega
  ·simp
theorem th:∀ {l:List (List Int)} {k:List Int} {i:Nat},i<=l.length->(∀ j x,j < i->l[j]? = some x->Lt x k)->(∀ x,l[i]? = some x->¬ Lt x k)->plc l k=i
 | [],_,i,h,_,_=>by simp at h; subst h; rfl
 | x :: l,k,0,_,_,h3=>by rw[plc,if_neg (h3 x rfl)]
 | x :: l,k,i + 1,h1,h2,h3=>by
  rw[plc,if_pos (h2 0 x (by omega) rfl),th (l:=l) (i:=i) (by simpa using h1) (fun j y hj hy=>h2 (j + 1) y (by omega) (by simpa using hy)) (fun y hy=>h3 y (by simpa using hy))]
theorem AH:∀ {l:List (List Int)} {k:List Int} {j:Nat} {x:List Int},j < plc l k->l[j]? = some x->Lt x k
 | [],_,_,_,h,_=>by simp[plc] at h
 | y :: l,k,j,x,h,hx=>by
  rw[plc] at h;split at h
  ·cases j with
   | zero=>simp at hx; subst hx; assumption
   | succ j=>exact AH (l:=l) (j:=j) (by omega) (by simpa using hx)
  ·omega
theorem zO:∀ {l:List (List Int)} {k:List Int} {x:List Int},l[plc l k]? = some x->¬ Lt x k
 | [],_,_,h=>by simp at h
 | y :: l,k,x,h=>by
  rw[plc] at h;split at h
  ·exact zO (l:=l) (by simpa using h)
  ·simp at h; subst h; assumption
def Srt(l:List (List Int)):Prop:=l.Pairwise Lt
theorem Srt.get(h:Srt l){i j:Nat}{x y:List Int}(a:i < j)(hi:l[i]? = some x)(c:l[j]? = some y):Lt x y:=by
 obtain⟨d,rfl⟩:=List.getElem?_eq_some_iff.1 hi;obtain⟨b,rfl⟩:=List.getElem?_eq_some_iff.1 c;exact List.pairwise_iff_getElem.1 h i j d b a
def thr(l:List (List Int))(k:List Int):Bool:=decide (l[plc l k]? = some k)
theorem C9(h:Srt l):thr l k=true<->k∈l:=by
 simp only[thr,decide_eq_true_eq];constructor
 ·intro e; exact List.mem_of_getElem? e
 ·intro e;obtain⟨j,a⟩:=List.getElem?_of_mem e;have:plc l k=j:=th (by have:=(List.getElem?_eq_some_iff.1 a).1; omega) (fun i x hi hx=>h.get hi hx a) (fun x hx=>by rw[a] at hx; cases hx; exact lt_irrefl k);rw[this]; exact a
end
end Pg
end
section
namespace Pg
open Go.RowKit Go.Lib
section
variable {w w':World}{D D':Nat->Prop}
structure En where
 kv:Value
 kl:List Int
 vv:Value
 vl:List Int
structure EnA(w:World)(D:Nat->Prop)(e:En):Prop where
 k:OB w D e.kv e.kl
 v:OB w D e.vv e.vl
theorem EnA.keep{e:En}(h:EnA w D e)(hb:Below w.heap.size w w'):EnA w' D e:=⟨h.k.keep hb,h.v.keep hb⟩
theorem EnA.mono{e:En}(h:EnA w D e)(hD:∀ b,b < w.heap.size->D b->D' b):EnA w D' e:=⟨h.k.mono hD,h.v.mono hD⟩
def flat:List En->List Value
 | []=>[]
 | e :: l=>e.kv :: e.vv :: flat l
theorem jz:∀ (l:List En),(flat l).length=l.length * 2
 | []=>rfl
 | e :: l=>by simp[flat,jz l]; omega
theorem ed:∀ (a b:List En),flat (a ++ b)=flat a ++ flat b
 | [],b=>rfl
 | e :: a,b=>by simp[flat,ed a b]
theorem pM:∀ {l:List En} {i:Nat} {e:En},l[i]? = some e->(flat l)[i * 2]? = some e.kv
 | [],_,_,h=>by simp at h
 | x :: l,0,e,h=>by simp at h; subst h; rfl
 | x :: l,i + 1,e,h=>by
  rw[show (i + 1) * 2=i * 2 + 1 + 1 by omega,flat,List.getElem?_cons_succ,List.getElem?_cons_succ];exact pM (l:=l) (by simpa using h)
theorem kx:∀ {l:List En} {i:Nat} {e:En},l[i]? = some e->(flat l)[i * 2 + 1]? = some e.vv
 | [],_,_,h=>by simp at h
 | x :: l,0,e,h=>by simp at h; subst h; rfl
 | x :: l,i + 1,e,h=>by
  rw[show (i + 1) * 2 + 1=i * 2 + 1 + 1 + 1 by omega,flat,List.getElem?_cons_succ,List.getElem?_cons_succ];exact kx (l:=l) (by simpa using h)
theorem ie:∀ (l:List En) (i:Nat),(flat l).take (i * 2)=flat (l.take i)
 | [],i=>by simp[flat]
 | x :: l,0=>by simp[flat]
 | x :: l,i + 1=>by
  rw[show (i + 1) * 2=i * 2 + 1 + 1 by omega,flat,List.take_succ_cons,List.take_succ_cons,ie l i,List.take_succ_cons,flat]
theorem ia:∀ (l:List En) (i:Nat),(flat l).drop (i * 2)=flat (l.drop i)
 | [],i=>by simp[flat]
 | x :: l,0=>by simp
 | x :: l,i + 1=>by
  rw[show (i + 1) * 2=i * 2 + 1 + 1 by omega,flat,List.drop_succ_cons,List.drop_succ_cons,ia l i,List.drop_succ_cons]
theorem jo:∀ {l:List En},(∀ e∈l,EnA w D e)->∀ v∈flat l,v.oneCell'=true
 | [],_,v,h=>by simp[flat] at h
 | x :: l,h,v,hv=>by
  have hx:=h x List.mem_cons_self;rcases List.mem_cons.1 hv with rfl | hv
  ·exact hx.k.one
  ·rcases List.mem_cons.1 hv with rfl | hv
   ·exact hx.v.one
   ·exact jo (l:=l) (fun e he=>h e (List.mem_cons_of_mem _ he)) v hv
theorem mU:∀ {l:List En} {i:Nat} {e:En} (u:Value) (ul:List Int),l[i]? = some e->(flat l).set (i * 2 + 1) u=flat (l.set i { e with vv:=u,vl:=ul })
 | [],_,_,_,_,h=>by simp at h
 | x :: l,0,e,u,ul,h=>by simp at h; subst h; simp[flat]
 | x :: l,i + 1,e,u,ul,h=>by
  rw[show (i + 1) * 2 + 1=i * 2 + 1 + 1 + 1 by omega,flat,List.set_cons_succ,List.set_cons_succ,mU (l:=l) u ul (by simpa using h),List.set_cons_succ,flat]
def kys(l:List En):List (List Int):=l.map En.kl
structure Pg where
 b:Nat
 c:Nat
 es:List En
def Pg.v(p:Pg):Value:=.slice (some ⟨p.b,0,none⟩) p.es.length p.c
structure PgA(w:World)(D:Nat->Prop)(p:Pg):Prop where
 row:Rw w 196 2 p.b p.es.length p.c (flat p.es)
 dJ:∀ e∈p.es,EnA w D e
theorem PgA.keep{p:Pg}(h:PgA w D p)(hb:Below w.heap.size w w'):PgA w' D p:=⟨h.row.keep hb,fun e he=>(h.dJ e he).keep hb⟩
theorem PgA.one{p:Pg}(h:PgA w D p):∀ v∈flat p.es,v.oneCell'=true:=jo h.dJ
theorem cmpE{kv vv v:Value}{l b:List Int}(h:By w kv l)(c:By w v b) :
  Calls Tryz.prog 213 #[.agg #[kv,vv],v] w fun e w'=>e=.returned (.int .i64 (cZ l b))/\Below w.heap.size w w':=by
 have hb:=ae w (.cells #[kv,vv] 196);have d:=kK (h.keep hb) (c.keep hb);have B:=aC w [kv,vv] 196;have q0:=B.cell (i:=0) rfl;clear h c B;generalize cZ l b=x at *;go_enter Tryz.func213,Tryz.ntmps213;go_wp2_with (go_at_call 211; refine d.mono ?_; rintro e f ⟨rfl,rfl⟩);go_ret;exact⟨rfl,hb⟩
end
end Pg
end
section
namespace Pg
open Go.RowKit Go.Lib
section
variable {w:World}{D:Nat->Prop}{p:Pg}{v:Value}{k:List Int}
theorem bsE(A:PgA w D p)(S:Srt (kys p.es))(h:By w v k)(hn:p.es.length<=1000000) :
  Calls Tryz.prog 212 #[p.v,v,.func (.func 213) #[] #[]] w fun e w'=>e=.returned (.tuple #[.int .i64 (plc (kys p.es) k),.bool (thr (kys p.es) k)])/\Below w.heap.size w w':=by
 obtain⟨b,c,es⟩:=p;simp only[Pg.v] at *;have o:=A.row.le;simp only[maxLen] at o;have u:=o.1;have O:=o.2;obtain⟨n,F⟩:∃ n,es.length=n:=⟨_,rfl⟩
 rw[F] at hn u ⊢;go_enter Tryz.func212,Tryz.ntmps212;go_wp2;go_loopw [9,10] (fun H J wr=>∃ i j:Nat,H=.int .i64 i/\J=.int .i64 j/\i<=j/\j<=n/\Hid (∀ q x,q < i->(kys es)[q]? = some x->Lt x k)/\Hid (∀ q x,j<=q->(kys es)[q]? = some x->¬ Lt x k)/\Below w.heap.size w wr) (fun H J _=>(intOf J).toNat - (intOf H).toNat)
 case atStart=>exact⟨0,n,rfl,rfl,Nat.zero_le _,Nat.le_refl _,fun q x y=>by omega,fun q x y hx=>by
  have:=(List.getElem?_eq_some_iff.1 hx).1;simp[kys] at this
  omega,Below.refl _ _⟩
 case round =>
  obtain⟨i,j,rfl,rfl,Z,L,H1,M,g⟩:=hrel;by_cases U:i < j
  ·obtain⟨m,hm⟩:∃ m,m=(i + j) / 2:=⟨_,rfl⟩
   have X:i<=m:=by omega
   have V:m < j:=by omega
   obtain⟨e,he⟩:∃ e,es[m]? = some e:=⟨es[m],List.getElem?_eq_getElem (by omega)⟩
   have f:=A.keep g;have q0:=f.row.cell (pM he);have q1:=f.row.cell (kx he)
   have T:IntKind.i64.wrap ((i:Int) + (j:Int))=(i:Int) + (j:Int):=by rw[IntKind.wrap_i64]; omega
   have Y:((i:Int) + (j:Int)) / 2 < n:=by omega
   have R:(0:Int)<=((i:Int) + (j:Int)) / 2:=by omega
   have Q:IntKind.i64.wrap (((i:Int) + (j:Int)) / 2)=((i:Int) + (j:Int)) / 2:=by rw[IntKind.wrap_i64]; omega
   have l:=cmpE (vv:=e.vv) ((f.dJ e (List.mem_of_getElem? he)).k.by) (h.keep g)
   have s:(kys es)[m]? = some e.kl:=by simp[kys,he]
   rw[hm] at q0 q1
   have B:Hid (m=(i + j) / 2):=hm;clear f hm;by_cases hc:Lt e.kl k
   ·rw[pA hc] at l;go_wp2_with (go_at_call 213; refine l.mono ?_; rintro N P ⟨rfl,d⟩);go_roundw
    case rel=>exact⟨m + 1,j,by have:=B.out; congr 1; omega,rfl,by omega,L,fun q x y hx=>by
     by_cases r:q=m
     ·subst r; rw[s] at hx; cases hx; exact hc
     ·exact S.get (by omega) hx s |>.trans hc,M.out,aj g d⟩
    case measure=>have:=B.out; simp[intOf]; omega
   ·have K:¬ (cZ e.kl k < 0):=by
     rcases iR e.kl k with q | q | q
     ·exact absurd q hc
     ·rw[q]; decide
     ·rw[q]; decide
    generalize cZ e.kl k=x at l K;go_wp2_with (go_at_call 213; refine l.mono ?_; rintro N P ⟨rfl,d⟩);go_roundw
    case rel=>exact⟨i,m,rfl,by have:=B.out; congr 1; omega,by omega,by omega,H1.out,fun q x y hx=>by
     by_cases r:q=m
     ·subst r; rw[s] at hx; cases hx; exact hc
     ·intro I
      exact hc ((S.get (by omega) s hx).trans I),aj g d⟩
    case measure=>have:=B.out; simp[intOf]; omega
  ·have G:i=j:=by omega
   subst G
   have C:Hid (plc (kys es) k=i):=th (by simp[kys]; omega) (fun q x y hx=>H1.out q x y hx) (fun x hx=>M.out i x (Nat.le_refl _) hx)
   have f:=A.keep g;by_cases W:i < n
   ·obtain⟨e,he⟩:∃ e,es[i]? = some e:=⟨es[i],List.getElem?_eq_getElem (by omega)⟩
    have q0:=f.row.cell (pM he);have q1:=f.row.cell (kx he)
    have s:(kys es)[i]? = some e.kl:=by simp[kys,he]
    have l:=cmpE (vv:=e.vv) ((f.dJ e (List.mem_of_getElem? he)).k.by) (h.keep g)
    have E:Hid (thr (kys es) k=(cZ e.kl k == 0)):=by
     show _=_
     unfold thr;rw[C.out,s];by_cases q:e.kl=k
     ·subst q; simp[iw]
     ·have:cZ e.kl k≠0:=fun z=>q (qi z)
      simp[q,this]
    have t:(i:Int) < n:=by omega
    generalize cZ e.kl k=x at l E;clear f;go_wp2_with (go_at_call 213; refine l.mono ?_; rintro N P ⟨rfl,d⟩)
    all_goals (
     go_ret2;refine⟨?_,aj g d⟩;rw[E.out,C.out]
     rfl)
   ·have E:Hid (thr (kys es) k=false):=by
     show _=_
     unfold thr;rw[C.out,List.getElem?_eq_none (by simp[kys]; omega)];rfl
    have t:¬ ((i:Int) < n):=by omega
    go_wp2;go_ret2;refine⟨?_,g⟩;rw[E.out,C.out];rfl
theorem gM(A:PgA w D p)(S:Srt (kys p.es))(h:By w v k)(hn:p.es.length<=1000000) :
  Calls Tryz.prog 174 #[p.v,v] w fun e w'=>e=.returned (.tuple #[.int .i64 (plc (kys p.es) k),.bool (thr (kys p.es) k)])/\Below w.heap.size w w':=by
 have t:=bsE A S h hn;generalize plc (kys p.es) k=x at *;generalize thr (kys p.es) k=y at *;simp only[Pg.v] at *;clear A S h;go_enter Tryz.func174,Tryz.ntmps174;go_wp2_with (go_at_call 212; refine t.mono ?_; rintro d c ⟨rfl,b⟩);go_ret2;exact⟨rfl,b⟩
end
end Pg
end
section
namespace Pg
open Go.RowKit Go.Lib
section
variable {w w':World}{F D:Nat->Prop}{g b:Nat}{L:List Pg}{P:List (List En)}{es:List En}
structure bL(w:World)(F D:Nat->Prop)(g:Nat)(L:List Pg):Prop where
 top:∃ pv,Blk w g [pv] 144/\F g/\((pv=.slice none 0 0/\L=[])\/∃ G C,pv=.slice (some ⟨G,0,none⟩) L.length C/\F G/\Rw w 199 1 G L.length C (L.map Pg.v))
 b8:∀ p∈L,PgA w D p/\F p.b
 apart:(L.map Pg.b).Nodup
 kind:∀ b,F b->∃ cs t,Blk w b cs t/\t≠5
theorem bL.lt(h:bL w F D g L)(hb:F b):b < w.heap.size:=by
 obtain⟨cs,t,h,_⟩:=h.kind b hb;exact h.lt
theorem bL.same(h:bL w F D g L)(f:∀ b,F b->w'.heap[b]? = w.heap[b]?)(o:∀ b,b < w.heap.size->D b->(∃ cs,Blk w b cs 5)->w'.heap[b]? = w.heap[b]?):bL w' F D g L:=by
 obtain⟨r,hb,j,i⟩:=h.top
 have d:∀ {v:Value} {l:List Int},OB w D v l->OB w' D v l:=fun h=>⟨h.oct,h.ex.imp id (by
  rintro⟨b,c,e,m,a⟩
  exact⟨b,c,e,m,a.same (o b a.lt m a.kind)⟩)⟩
 refine⟨⟨r,hb.same (f g j),j,i.imp id ?_⟩,fun p i => ?_,h.apart,fun b hb => ?_⟩
 ·rintro⟨G,C,e,n,a⟩;exact⟨G,C,e,n,a.same (f G n)⟩
 ·obtain⟨hA,hF⟩:=h.b8 p i;exact⟨⟨hA.row.same (f _ hF),fun e he=>⟨d (hA.dJ e he).k,d (hA.dJ e he).v⟩⟩,hF⟩
 ·obtain⟨cs,t,s,q⟩:=h.kind b hb;exact⟨cs,t,s.same (f b hb),q⟩
theorem bL.keep(h:bL w F D g L)(hb:Below w.heap.size w w'):bL w' F D g L:=h.same (fun b hF=>hb.block b (h.lt hF)) (fun b hl _ _=>hb.block b hl)
theorem bL.drew(h:bL w F D g L):bL w.drew F D g L:=h.same (fun _ _=>rfl) (fun _ _ _ _=>rfl)
theorem bL.chg{F':Nat->Prop}(h:bL w F D g L)(hc:Chg F' w w')(e:∀ b,F' b->¬ F b)(c:∀ b,F' b->∀ cs,¬ Blk w b cs 5):bL w' F D g L :=
 h.same (fun b hF=>hc.same b (h.lt hF) fun f=>e b f hF) (fun b a _ d=>hc.same b a fun f=>by obtain⟨cs,k⟩:=d; exact c b f cs k)
theorem bL.noU(h:bL w F D g L)(hb:F b)(cs:List Value):¬ Blk w b cs 5:=fun k=>by
 obtain⟨cs',t,hk,ht⟩:=h.kind b hb;exact ht (hk.eq k).2
theorem bL.mono{D':Nat->Prop}(h:bL w F D g L)(c:∀ b,b < w.heap.size->D b->D' b):bL w F D' g L :=
 ⟨h.top,fun p a=>⟨⟨(h.b8 p a).1.row,fun e he=>((h.b8 p a).1.dJ e he).mono c⟩,(h.b8 p a).2⟩,h.apart,h.kind⟩
def ens(L:List Pg):List (List En):=L.map Pg.es
def fks(P:List (List En)):List (List Int):=P.map fun es=>(kys es).headD []
def plq:List (List Int)->List Int->Nat
 | [],_=>0
 | x :: l,k=>if Lt k x then 0 else plq l k + 1
theorem qc:∀ (l:List (List Int)) (k:List Int),plq l k<=l.length
 | [],_=>Nat.le_refl _
 | x :: l,k=>by
  rw[plq];split
  ·simp
  ·have:=qc l k; simp; omega
theorem xZ:∀ {l:List (List Int)} {k:List Int} {i:Nat},i<=l.length->(∀ j x,j < i->l[j]? = some x->¬ Lt k x)->(∀ x,l[i]? = some x->Lt k x)->plq l k=i
 | [],_,i,h,_,_=>by simp at h; subst h; rfl
 | x :: l,k,0,_,_,h3=>by rw[plq,if_pos (h3 x rfl)]
 | x :: l,k,i + 1,h1,h2,h3=>by
  rw[plq,if_neg (h2 0 x (by omega) rfl),xZ (l:=l) (i:=i) (by simpa using h1) (fun j y hj hy=>h2 (j + 1) y (by omega) (by simpa using hy)) (fun y hy=>h3 y (by simpa using hy))]
theorem yA:∀ {l:List (List Int)} {k:List Int} {j:Nat} {x:List Int},j < plq l k->l[j]? = some x->¬ Lt k x
 | [],_,_,_,h,_=>by simp[plq] at h
 | y :: l,k,j,x,h,hx=>by
  rw[plq] at h;split at h
  ·omega
  ·cases j with
   | zero=>simp at hx; subst hx; assumption
   | succ j=>exact yA (l:=l) (j:=j) (by omega) (by simpa using hx)
theorem AB:∀ {l:List (List Int)} {k:List Int} {x:List Int},l[plq l k]? = some x->Lt k x
 | [],_,_,h=>by simp at h
 | y :: l,k,x,h=>by
  rw[plq] at h;split at h
  ·simp at h; subst h; assumption
  ·exact AB (l:=l) (by simpa using h)
def pgi(P:List (List En))(k:List Int):Nat:=plq (fks P) k - 1
structure Ord(P:List (List En)):Prop where
 full:∀ es∈P,es≠[]
 iD:Srt (kys P.flatten)
theorem Ord.page(h:Ord P){i:Nat}(hi:P[i]? = some es):Srt (kys es):=by
 have hm:=List.mem_of_getElem? hi;have:(kys es).Sublist (kys P.flatten):=(List.sublist_flatten_of_mem hm).map _;exact h.iD.sublist this
theorem jG(h:es≠[]):∃ e l,es=e :: l/\(kys es).headD []=e.kl:=by
 cases es with
 | nil=>exact absurd rfl h
 | cons e l=>exact⟨e,l,rfl,rfl⟩
theorem Ord.Aw:∀ {P:List (List En)},Ord P->Srt (fks P)
 | [],_=>List.Pairwise.nil
 | es :: P,h=>by
  have h2:Ord P:=⟨fun x hx=>h.full x (List.mem_cons_of_mem _ hx),by
   have:=h.iD;simp only[Srt,kys,List.flatten_cons,List.map_append,List.pairwise_append] at this
   exact this.2.1⟩
  refine List.Pairwise.cons (fun x hx => ?_) (Ord.Aw h2);obtain⟨fs,a,rfl⟩:=List.mem_map.1 hx;obtain⟨e,l,rfl,he⟩:=jG (h.full es List.mem_cons_self);obtain⟨f,m,rfl,hf⟩:=jG (h2.full fs a)
  show Lt e.kl f.kl
  have:=h.iD;simp only[Srt,kys,List.flatten_cons,List.map_append,List.pairwise_append] at this;exact this.2.2 e.kl (by simp) f.kl (List.mem_map.2 ⟨f,List.mem_flatten.2 ⟨_,a,List.mem_cons_self⟩,rfl⟩)
end
end Pg
end
section
namespace Pg
open Go.RowKit Go.Lib
section
variable {L:List Pg}{i g:Nat}{p:Pg}{w:World}{F D:Nat->Prop}{v:Value}{k:List Int}{P:List (List En)}
theorem pB(h:L[i]? = some p):(ens L)[i]? = some p.es:=by simp[ens,h]
theorem CO(h:L[i]? = some p):(fks (ens L))[i]? = some ((kys p.es).headD []):=by simp[ens,fks,h]
theorem bL.head(A:bL w F D g L)(O:Ord (ens L))(h:L[i]? = some p):∃ kv,w.cell? ⟨p.b,0,none⟩=some kv/\By w kv ((kys p.es).headD []):=by
 have a:=List.mem_of_getElem? h
 have hm:p.es∈ens L:=List.mem_map.2 ⟨p,a,rfl⟩;obtain⟨e,l,he,c⟩:=jG (O.full _ hm);obtain⟨hA,_⟩:=A.b8 p a;have q:=hA.row.cell (i:=0) (v:=e.kv) (by rw[he]; rfl);exact⟨e.kv,q,by rw[c]; exact(hA.dJ e (by rw[he]; exact List.mem_cons_self)).k.by⟩
theorem bL.rd(A:bL w F D g L):∃ ao c,w.cell? ⟨g,0,none⟩=some (.slice ao L.length c)/\L.length<=c/\c<=9223372036854775807/\(∀ i p,L[i]? = some p->∃ G,ao=some ⟨G,0,none⟩/\w.cell? ⟨G,i,none⟩=some p.v):=by
 obtain⟨f,hb,d,⟨rfl,rfl⟩ | ⟨G,C,rfl,e,a⟩⟩:=A.top
 ·exact⟨_,_,hb.cell (i:=0) rfl,by decide,by decide,fun i p h=>by simp at h⟩
 ·have b:=a.le;simp only[maxLen] at b;exact⟨_,C,hb.cell (i:=0) rfl,by omega,by omega,fun i p h=>⟨G,rfl,a.cell (by simp[h])⟩⟩
theorem iY(A:bL w F D g L)(O:Ord (ens L))(h:By w v k)(hn:L.length<=1000000000) :
  Calls Tryz.prog 172 #[.pointer (some ⟨g,0,none⟩),v] w fun e w'=>e=.returned (.int .i64 (pgi (ens L) k))/\Below w.heap.size w w':=by
 obtain⟨X,c,hc,K,hc2,I⟩:=A.rd;have l:=O.Aw;obtain⟨s,o⟩:∃ s,Hid (fks (ens L)=s):=⟨_,rfl⟩
 rw[o.out] at l;obtain⟨n,t⟩:∃ n,Hid (L.length=n):=⟨_,rfl⟩
 rw[t.out] at hc K hn
 have ab:s.length=n:=by rw[<- o.out,<- t.out]; simp[fks,ens]
 have J:Below w.heap.size w w.drew:=⟨rfl,rfl,rfl,Nat.le_refl _,fun _ _=>rfl⟩
 have hcd:w.drew.cell? ⟨g,0,none⟩=some (.slice X n c):=hc
 have d:∀ (i:Nat),i<=n->(∀ q x,q < i->s[q]? = some x->¬ Lt k x)->(∀ q x,i<=q->s[q]? = some x->Lt k x)->pgi (ens L) k=i - 1:=fun i hi h1 h2=>by
  unfold pgi;rw[o.out,xZ (i:=i) (by omega) (fun j x hj hx=>h1 j x hj hx) (fun x hx=>h2 i x (Nat.le_refl _) hx)]
 have d:Hid _:=d;have mixed:=mixed;go_enter Tryz.func172,Tryz.ntmps172;go_wp2;go_step3;go_wp2;go_region;go_wp2;go_step3;go_wp2;go_loopw [5,6] (fun M N wr=>∃ i j:Nat,M=.int .i64 i/\N=.int .i64 j/\i<=j/\j<=n/\Hid (∀ q x,q < i->s[q]? = some x->¬ Lt k x)/\Hid (∀ q x,j<=q->s[q]? = some x->Lt k x)/\Below w.heap.size w wr) (fun M N _=>(intOf N).toNat - (intOf M).toNat)
 case atStart=>exact⟨0,n,rfl,rfl,Nat.zero_le _,Nat.le_refl _,fun q x B=>by omega,fun q x B hx=>by
  have:=(List.getElem?_eq_some_iff.1 hx).1
  omega,J⟩
 case round =>
  obtain⟨i,j,rfl,rfl,hij,Q,H1,S,r⟩:=hrel;by_cases hlt:i < j
  ·obtain⟨m,hm⟩:∃ m,m=i + (j - i) / 2:=⟨_,rfl⟩
   have hm1:i<=m:=by omega
   have hm2:m < j:=by omega
   obtain⟨p,C⟩:∃ p,L[m]? = some p:=⟨L[m]'(by have:=t.out; omega),List.getElem?_eq_getElem _⟩
   have T:=A.keep r
   have c0:wr.cell? ⟨g,0,none⟩=some (.slice X n c):=by
    rw[r.cell (p:=⟨g,0,none⟩) (by obtain⟨_,hb,_⟩:=A.top; exact hb.lt)]; exact hc
   obtain⟨G,rfl,Y⟩:=I m p C
   have z:wr.cell? ⟨G,m,none⟩=some p.v:=by
    rw[r.cell (p:=⟨G,m,none⟩) (aJ Y)]; exact Y
   obtain⟨kv,cK,W⟩:=T.head O C
   have b:s[m]? = some ((kys p.es).headD []):=by rw[<- o.out]; exact CO C
   have aa:0 < p.es.length:=by
    have:=O.full p.es (List.mem_map.2 ⟨p,List.mem_of_getElem? C,rfl⟩);exact List.length_pos_iff.2 this
   simp only[Pg.v] at z;rw[hm] at z;have u:=kK W (h.keep r);generalize (kys p.es).headD []=V at *
   have y:Hid (m=i + (j - i) / 2):=hm
   have hz0:(0:Int)<=(i:Int) + ((j:Int) - (i:Int)) / 2:=by omega
   have ac:(i:Int) + ((j:Int) - (i:Int)) / 2 < n:=by omega
   have hz2:((i:Int) + ((j:Int) - (i:Int)) / 2).toNat=i + (j - i) / 2:=by omega
   generalize p.es.length=pn at *;clear T hm W;rcases qp V k with hc | hc | hc
   ·rw[pA hc] at u;go_wp2_with (go_at_call 211; refine u.mono ?_; rintro U Z ⟨rfl,rfl⟩);go_roundw
    case rel=>exact⟨m + 1,j,by have:=y.out; congr 1; omega,rfl,by omega,Q,fun q x B hx=>by
     by_cases f:q=m
     ·subst f; rw[b] at hx; cases hx; exact hc.not
     ·exact((l.get (by omega) hx b).trans hc).not,S.out,r⟩
    case measure=>have:=y.out; simp[intOf]; omega
   ·have hF:=d.out (m + 1) (by omega) (fun q x B hx=>by
     subst hc;by_cases f:q=m
     ·subst f; rw[b] at hx; cases hx; exact lt_irrefl _
     ·exact(l.get (by omega) hx b).not) (fun q x B hx=>by subst hc; exact l.get (by omega) b hx)
    have E:Hid (pgi (ens L) k=m):=by show _=_; rw[hF]; omega
    have HC:Hid (V=k):=hc;rw[hc,iw] at u
    have hx0:(i:Int) + ((j:Int) - (i:Int)) / 2 + 1 - 1=(i:Int) + ((j:Int) - (i:Int)) / 2:=by omega
    have R:¬ ((i:Int) + ((j:Int) - (i:Int)) / 2 < 0):=by omega
    clear hF hc;go_wp2_with (go_at_call 211; refine u.mono ?_; rintro U Z ⟨rfl,rfl⟩);simp only[Exit.noGoto_ret];go_ret;refine⟨?_,r⟩;rw[E.out];have:=y.out
    show Ending.returned (Value.int .i64 ((i:Int) + ((j:Int) - (i:Int)) / 2))=_
    rw[show (i:Int) + ((j:Int) - (i:Int)) / 2=(m:Int) by omega]
   ·rw[Dc hc] at u;go_wp2_with (go_at_call 211; refine u.mono ?_; rintro U Z ⟨rfl,rfl⟩);go_roundw
    case rel=>exact⟨i,m,rfl,by have:=y.out; congr 1; omega,by omega,by omega,H1.out,fun q x B hx=>by
     by_cases f:q=m
     ·subst f; rw[b] at hx; cases hx; exact hc
     ·exact hc.trans (l.get (by omega) b hx),r⟩
    case measure=>have:=y.out; simp[intOf]; omega
  ·have H:i=j:=by omega
   subst H
   have E:Hid (pgi (ens L) k=i - 1):=d.out i (by omega) H1.out S.out;by_cases P:i=0
   ·subst P;go_wp2
    try simp only[Exit.noGoto_ret]
    go_ret;refine⟨?_,r⟩;rw[E.out];rfl
   ·have R:¬ ((i:Int) - 1 < 0):=by omega
    have hx2:(0:Int)<=(i:Int) - 1:=by omega
    go_wp2
    try simp only[Exit.noGoto_ret]
    go_ret;refine⟨?_,r⟩;rw[E.out]
    show Ending.returned (Value.int .i64 ((i:Int) - 1))=_
    rw[show (i:Int) - 1=((i - 1:Nat):Int) by omega]
theorem pgi_lt(h:P≠[])(k:List Int):pgi P k < P.length:=by
 have h1:=qc (fks P) k
 have h2:0 < P.length:=List.length_pos_iff.2 h;simp only[fks,List.length_map] at h1;unfold pgi fks;omega
theorem my(A:bL w F D g []) :
  Calls Tryz.prog 146 #[.pointer (some ⟨g,0,none⟩),v] w fun e w'=>e=.returned (.tuple #[.int .i64 0,.int .i64 0,.bool false])/\w'=w:=by
 obtain⟨i,c,hc,f,d,b⟩:=A.rd;simp only[List.length_nil] at hc;clear A b;go_enter Tryz.func146,Tryz.ntmps146;go_wp2;go_ret3;exact⟨rfl,rfl⟩
theorem lA(A:bL w F D g L)(O:Ord (ens L))(h:By w v k)(hn:L.length<=1000000000)(f:L[pgi (ens L) k]? = some p)(hs:p.es.length<=1000000) :
  Calls Tryz.prog 146 #[.pointer (some ⟨g,0,none⟩),v] w fun e w'=>e=.returned (.tuple #[.int .i64 (pgi (ens L) k),.int .i64 (plc (kys p.es) k),.bool (thr (kys p.es) k)])/\Below w.heap.size w w':=by
 have C:=iY A O h hn;have t:=(List.getElem?_eq_some_iff.1 f).1;have j:=List.mem_of_getElem? f
 have E:∀ w',Below w.heap.size w w'->Calls Tryz.prog 174 #[p.v,v] w' fun e z=>e=.returned (.tuple #[.int .i64 (plc (kys p.es) k),.bool (thr (kys p.es) k)])/\Below w'.heap.size w' z:=fun w' hb =>
  gM ((A.b8 p j).1.keep hb) (O.page (pB f)) (h.keep hb) hs
 obtain⟨N,c,hc,q,M,l⟩:=A.rd;obtain⟨G,rfl,H⟩:=l _ p f;have s:=aJ hc;have r:=aJ H;generalize pgi (ens L) k=i at *;generalize plc (kys p.es) k=x at *;generalize thr (kys p.es) k=y at *;obtain⟨n,o⟩:∃ n,L.length=n:=⟨_,rfl⟩
 rw[o] at hc q t
 have I:¬ ((n:Int)=0):=by omega
 have J:(i:Int) < n:=by omega
 simp only[Pg.v] at *;clear A O h l f j;go_enter Tryz.func146,Tryz.ntmps146;go_wp2_with (first | (go_at_call 172; refine C.mono ?_; rintro K u ⟨rfl,d⟩; have c1:u.cell? ⟨g,0,none⟩=some (.slice (some ⟨G,0,none⟩) n c):=(d.cell (p:=⟨g,0,none⟩) s).trans hc; have c2:u.cell? ⟨G,i,none⟩=some (.slice (some ⟨p.b,0,none⟩) p.es.length p.c):=(d.cell (p:=⟨G,i,none⟩) r).trans H; have B:=E u d; clear C E) | (go_at_call 174; refine B.mono ?_; rintro K P ⟨rfl,m⟩));go_ret3;exact⟨rfl,aj d m⟩
end
end Pg
end
section
namespace Pg
open Go.RowKit Go.Lib
section
variable {w w1:World}{F D:Nat->Prop}{g G n c i j:Nat}{L L':List Pg}{cs ds xs:List Value}{p q:Pg}{c0:Value}
theorem bL.opn(A:bL w F D g L)(h:L≠[]):∃ G C,Blk w g [.slice (some ⟨G,0,none⟩) L.length C] 144/\F g/\F G/\Rw w 199 1 G L.length C (L.map Pg.v):=by
 obtain⟨d,hb,a,⟨rfl,rfl⟩ | ⟨G,C,rfl,b,c⟩⟩:=A.top
 ·exact absurd rfl h
 ·exact⟨G,C,hb,a,b,c⟩
theorem eB{a b:Nat}{t u:TypeId}(h:Blk w a cs t)(h':Blk w b ds u)(ht:t≠u):a≠b:=fun e=>by subst e; exact ht (h.eq h').2
theorem PgA.eX(h:PgA w D p)(hg:Blk w g cs 144):p.b≠g:=by
 obtain⟨ds,k⟩:=h.row.kind;exact eB k hg (by decide)
theorem PgA.eV(h:PgA w D p)(hG:Rw w 199 1 G n c xs):p.b≠G:=by
 obtain⟨ds,k⟩:=h.row.kind;obtain⟨es,k'⟩:=hG.kind;exact eB k k' (by decide)
theorem Rw.eX(hG:Rw w 199 1 G n c xs)(hg:Blk w g cs 144):G≠g:=by
 obtain⟨es,k'⟩:=hG.kind;exact eB k' hg (by decide)
theorem nh(h:(L.map Pg.b).Nodup)(hi:L[i]? = some p)(d:L[j]? = some q)(a:i < j):p.b≠q.b:=by
 obtain⟨l1,e1⟩:=List.getElem?_eq_some_iff.1 hi;obtain⟨c,e2⟩:=List.getElem?_eq_some_iff.1 d;have:=List.pairwise_iff_getElem.1 h i j (by simpa using l1) (by simpa using c) a;simpa[e1,e2] using this
theorem qv(h:(L.map Pg.b).Nodup)(hi:L[i]? = some p)(hj:L[j]? = some q)(hij:i≠j):p.b≠q.b:=by
 rcases Nat.lt_or_gt_of_ne hij with k | k
 ·exact nh h hi hj k
 ·exact(nh h hj hi k).symm
theorem yD(h:∀ (i j:Nat) (p q:Pg),L[i]? = some p->L[j]? = some q->i < j->p.b≠q.b):(L.map Pg.b).Nodup:=by
 refine List.pairwise_iff_getElem.2 fun i j e c a => ?_
 have l1:i < L.length:=by simpa using e
 have d:j < L.length:=by simpa using c
 simpa using h i j _ _ (List.getElem?_eq_getElem l1) (List.getElem?_eq_getElem d) a
theorem EnA.off{w':World}{e:En}(h:EnA w D e)(f:∀ b,b < w.heap.size->(∃ cs,Blk w b cs 5)->w'.heap[b]? = w.heap[b]?):EnA w' D e:=by
 have a:∀ {v:Value} {l:List Int},OB w D v l->OB w' D v l:=fun h=>⟨h.oct,h.ex.imp id (by
  rintro⟨b,c,e,g,d⟩
  exact⟨b,c,e,g,d.same (f b d.lt d.kind)⟩)⟩
 exact⟨a h.k,a h.v⟩
theorem bL.put{D':Nat->Prop}{C:Nat}{p':Pg}(A:bL w F D g L)(H:Blk w g [.slice (some ⟨G,0,none⟩) L.length C] 144)(K:F g)(u:F G)(B:Rw w 199 1 G L.length C (L.map Pg.v))(hi:L[i]? = some p)(hC:Chg (· = p.b) w w1)(hb:p'.b=p.b\/w.heap.size<=p'.b)(hA:PgA w1 D' p')(T:∀ b,b < w.heap.size->D b->D' b) :
  bL (w1.setCell ⟨G,i,none⟩ p'.v) (fun x=>(F x/\x≠p.b)\/x=p'.b) D' g (L.set i p')/\Chg F w (w1.setCell ⟨G,i,none⟩ p'.v):=by
 have h:=(List.getElem?_eq_some_iff.1 hi).1;have I:=A.b8 p (List.mem_of_getElem? hi);have P:=I.1.eX H;have R:=I.1.eV B;have U:=B.eX H
 have N:Blk w1 g _ _:=H.chg hC (fun e=>P e.symm);have l:=B.chg hC (fun e=>R e.symm);have s:=l.set i (by simpa using h) p'.v
 have S:p'.b≠G:=hA.eV l
 have z:Chg F w (w1.setCell ⟨G,i,none⟩ p'.v):=(hC.mono (F':=F) (fun b _ e=>by subst e; exact I.2)).cell (.inl u) _
 have O:∀ b,b < w.heap.size->(∃ cs,Blk w b cs 5)->(w1.setCell ⟨G,i,none⟩ p'.v).heap[b]? = w.heap[b]? := fun b hb M=>by
  obtain⟨cs,k⟩:=M;exact z.same b hb fun f=>A.noU f cs k
 have c:∀ b,b≠G->(w1.setCell ⟨G,i,none⟩ p'.v).heap[b]? = w1.heap[b]? := fun b hb=>Below.heap_setCell w1 _ _ b hb
 refine⟨⟨⟨_,N.off (fun e=>U e.symm) _,.inl ⟨K,fun e=>P e.symm⟩,.inr ⟨G,C,?_,.inl ⟨u,fun e=>R e.symm⟩,?_⟩⟩,fun q W => ?_,yD fun x y a b hx hy E => ?_,fun b hb => ?_⟩,z⟩
 ·rw[List.length_set]
 ·rw[List.length_set];refine s.to ?_
  rw[List.map_set]
 ·obtain⟨j,m⟩:=List.getElem?_of_mem W;rw[List.getElem?_set] at m;by_cases e:i=j
  ·subst e;rw[if_pos rfl,if_pos h] at m
   cases m;refine⟨⟨hA.row.same (c _ S),fun e he=>(hA.dJ e he).off fun b _ M => ?_⟩,.inr rfl⟩;obtain⟨cs,k⟩:=M;obtain⟨Q,J⟩:=l.kind;exact c b (eB k J (by decide))
  ·rw[if_neg e] at m;have d:=A.b8 q (List.mem_of_getElem? m)
   have r:q.b≠p.b:=fun n=>qv A.apart hi m e n.symm
   exact⟨⟨(d.1.row.chg hC r).same (c _ (d.1.eV B)),fun e he=>((d.1.dJ e he).mono T).off O⟩,.inl ⟨d.2,r⟩⟩
 ·have key:∀ (y:Nat) (b:Pg),y≠i->L[y]? = some b->p'.b≠b.b:=fun y b hy o=>by
   rcases hb with e | e
   ·rw[e]; exact qv A.apart hi o (fun n=>hy n.symm)
   ·have:=(A.b8 b (List.mem_of_getElem? o)).1.row.lt;omega
  rw[List.getElem?_set] at hx hy;by_cases e:i=x
  ·subst e;rw[if_pos rfl,if_pos h] at hx
   cases hx;rw[if_neg (by omega)] at hy;exact key y b (by omega) hy
  ·rw[if_neg e] at hx;by_cases n:i=y
   ·subst n;rw[if_pos rfl,if_pos h] at hy
    cases hy;exact(key x a (by omega) hx).symm
   ·rw[if_neg n] at hy;exact nh A.apart hx hy E
 ·by_cases e:b=p'.b
  ·subst e;obtain⟨cs,k⟩:=hA.row.kind;exact⟨cs,_,k.same (c _ S),by decide⟩
  ·obtain⟨hF,e2⟩:=hb.resolve_right e;obtain⟨cs,t,k,V⟩:=A.kind b hF;by_cases e1:b=G
   ·subst e1;obtain⟨Q,J⟩:=s.kind;exact⟨Q,_,J,by decide⟩
   ·exact⟨cs,t,(k.chg hC e2).same (c b e1),V⟩
theorem jX{G' C':Nat}(L:∀ p∈L',PgA w D p/\F p.b)(s:(L'.map Pg.b).Nodup)(I:∀ b,F b->∃ cs t,Blk w b cs t/\t≠5)(J:Blk w g [c0] 144)(d:F g)(u:F G)(h:G≠g)(hC:Chg (· = G) w w1)(l:∀ p∈L',p.b≠G)(hn:L'.length=n)(y:Rw w1 199 1 G' n C' (L'.map Pg.v)) :
  bL (w1.setCell ⟨g,0,none⟩ (.slice (some ⟨G',0,none⟩) n C')) (fun x=>(F x/\x≠G)\/x=G') D g L'/\Chg F w (w1.setCell ⟨g,0,none⟩ (.slice (some ⟨G',0,none⟩) n C')):=by
 subst hn
 have o:Blk w1 g [c0] 144:=J.chg hC (fun e=>h e.symm);have r:=o.setCell (i:=0) (.slice (some ⟨G',0,none⟩) L'.length C')
 have j:G'≠g:=y.eX o
 have a:∀ b,b≠g->(w1.setCell ⟨g,0,none⟩ (.slice (some ⟨G',0,none⟩) L'.length C')).heap[b]? = w1.heap[b]? := fun b hb=>Below.heap_setCell w1 _ _ b hb
 have m:Chg F w (w1.setCell ⟨g,0,none⟩ (.slice (some ⟨G',0,none⟩) L'.length C')):=(hC.mono (F':=F) (fun b _ e=>by subst e; exact u)).cell (.inl d) _
 have H:∀ b,b < w.heap.size->(∃ cs,Blk w b cs 5)->(w1.setCell ⟨g,0,none⟩ (.slice (some ⟨G',0,none⟩) L'.length C')).heap[b]? = w.heap[b]? := fun b hb z=>by
  obtain⟨cs,k⟩:=z;exact m.same b hb fun f=>by
   obtain⟨K,t,C,A⟩:=I b f;exact A (C.eq k).2
 refine⟨⟨⟨_,r,.inl ⟨d,fun e=>h e.symm⟩,.inr ⟨G',C',rfl,.inr rfl,y.same (a _ j)⟩⟩,fun q E => ?_,s,fun b hb => ?_⟩,m⟩
 ·have c:=L q E;exact⟨⟨(c.1.row.chg hC (l q E)).same (a _ (c.1.eX J)),fun e he=>(c.1.dJ e he).off H⟩,.inl ⟨c.2,l q E⟩⟩
 ·by_cases e:b=G'
  ·subst e;obtain⟨B,k⟩:=y.kind;exact⟨B,_,k.same (a _ j),by decide⟩
  ·obtain⟨hF,e2⟩:=hb.resolve_right e;obtain⟨B,t,k,A⟩:=I b hF;by_cases e1:b=g
   ·subst e1;exact⟨_,_,r,by decide⟩
   ·exact⟨B,t,(k.chg hC e2).same (a b e1),A⟩
theorem tw(L:List Pg):∀ v∈L.map Pg.v,v.oneCell'=true:=fun v hv=>by
 obtain⟨p,_,rfl⟩:=List.mem_map.1 hv;rfl
end
end Pg
end
section
namespace Pg
open Go.RowKit Go.Lib
section
variable {ops:Array Oper} {Q:Exit->Act->World->Prop} {S:World->Prop} {fuel:Nat} {listed:Array Bool} {a:Act} {w:World}
section
variable {Qc:Ending->World->Prop}
def gT(ops:Array Oper)(listed:Array Bool)(a:Act)(i:Nat)(d:Option Tmp):Bool :=
 Region.noSelect ops && Region.free .any ops listed i && (Region.ready .any ops listed).contains i && decide (i < ops.size) && Region.wanted (ops.getD i default) (yielded ops a.tmps) && decide ((ops.getD i default).dst=d)
def DO(ops:Array Oper)(listed:Array Bool)(a:Act)(i:Nat)(d:Option Tmp):Bool :=
 Region.noSelect ops && Region.free .any ops listed i && (Region.ready .any ops listed).contains i && decide (i < ops.size) && !Region.wanted (ops.getD i default) (yielded ops a.tmps) && decide ((ops.getD i default).dst=d)
def gB(ops:Array Oper)(listed:Array Bool)(a:Act)(i:Nat)(d:Option Tmp):Bool :=
 decide (Region.ready .any ops listed=[i]) && decide (i < ops.size) && Region.wanted (ops.getD i default) (yielded ops a.tmps) && decide ((ops.getD i default).dst=d)
theorem bN{i:Nat}(h:i < ops.size):ops[i]? = some (ops.getD i default):=by
 simp[Array.getD,h]
theorem ai(i:Nat)(d:Option Tmp)(v:Value)(hc:gT ops listed a i d=true)(hy:∀ w',S w'->(execOp a.eval (ops.getD i default)).run Tryz.prog w'=.ok (.value v) w')(e:∀ c a w,Q (.panic c) (a.put d v) w->Q (.panic c) a w)(hS:S w)(h:wpAnyH Tryz.prog .any ops Q S fuel (listed.setIfInBounds i true) (a.put d v) w):wpAnyH Tryz.prog .any ops Q S (fuel + 1) listed a w:=by
 simp only[gT,Bool.and_eq_true,decide_eq_true_eq] at hc;obtain⟨⟨⟨⟨⟨k,b⟩,l⟩,g⟩,f⟩,j⟩:=hc;subst j;exact wpAnyH_take (bN g) k b l e (.inl ⟨f,hy⟩) hS h
theorem iM(i:Nat)(d:Option Tmp)(v b:Value)(hv:v=b)(hc:gT ops listed a i d=true)(hy:∀ w',S w'->(execOp a.eval (ops.getD i default)).run Tryz.prog w'=.ok (.value v) w')(e:∀ c a w,Q (.panic c) (a.put d b) w->Q (.panic c) a w)(hS:S w)(h:wpAnyH Tryz.prog .any ops Q S fuel (listed.setIfInBounds i true) (a.put d b) w):wpAnyH Tryz.prog .any ops Q S (fuel + 1) listed a w:=by
 subst hv;exact ai i d v hc hy e hS h
theorem cA(i:Nat)(d:Option Tmp)(hc:DO ops listed a i d=true)(e:∀ c a w,Q (.panic c) (a.put d undef) w->Q (.panic c) a w)(hS:S w)(h:wpAnyH Tryz.prog .any ops Q S fuel (listed.setIfInBounds i true) (a.put d undef) w):wpAnyH Tryz.prog .any ops Q S (fuel + 1) listed a w:=by
 simp only[DO,Bool.and_eq_true,decide_eq_true_eq,Bool.not_eq_true'] at hc;obtain⟨⟨⟨⟨⟨k,b⟩,l⟩,g⟩,f⟩,j⟩:=hc;subst j;exact wpAnyH_take (bN g) k b l e (.inr ⟨f,rfl⟩) hS h
theorem aP(i:Nat)(d:Option Tmp)(v:Value)(T:TypeId)(k g o:Nat)(hc:gT ops listed a i d=true)(l:(ops.getD i default).op=.load T (.tmp k))(j:a.eval (.tmp k)=.pointer (some ⟨g,o,none⟩))(e:∀ w',S w'->(loadVar T ⟨g,o,none⟩).run Tryz.prog w'=.ok v w')(f:∀ c a w,Q (.panic c) (a.put d v) w->Q (.panic c) a w)(hS:S w)(h:wpAnyH Tryz.prog .any ops Q S fuel (listed.setIfInBounds i true) (a.put d v) w):wpAnyH Tryz.prog .any ops Q S (fuel + 1) listed a w :=
 ai i d v hc (fun w' b=>by
  have:=e w' b;simp only[execOp,l,j]
  simp[Instr.loadAt,Instr.sureAddr,Result.andThen,this]) f hS h
theorem bP(i:Nat)(d:Option Tmp)(f:FuncId)(args:Array Value)(hc:gB ops listed a i d=true)(c:(execOp a.eval (ops.getD i default)).run Tryz.prog w=.ok (.enter f args) w)(b:Calls Tryz.prog f args w Qc)(l:∀ e w',Qc e w'->∃ v,e=.returned v/\S w'/\wpAnyH Tryz.prog .any ops Q S fuel (listed.setIfInBounds i true) (a.put d v) w') :
  wpAnyH Tryz.prog .any ops Q S (fuel + 1) listed a w:=by
 simp only[gB,Bool.and_eq_true,decide_eq_true_eq] at hc;obtain⟨⟨⟨p,m⟩,h⟩,n⟩:=hc;subst n;refine wpAnyH_all p (by simp) fun j k => ?_
 obtain rfl:j=i:=by simpa using k
 refine wpOp_step (bN m) fun K o => ?_
 rw[if_pos h];unfold Oper.wp;rw[c];refine b.mono fun e w' he => ?_
 obtain⟨v,rfl,g,hw⟩:=l e w' he;exact o _ _ ⟨g,hw⟩
theorem bH(hr:Region.ready .any ops listed=[])(h:Q .normal a w):wpAnyH Tryz.prog .any ops Q S fuel listed a w:=wpAnyH_done hr h fuel
theorem bU{id:Nat}(hm:Tryz.prog.follows .mixedOrders=true)(hS:S w.drew)(h:wpAnyH Tryz.prog .any ops Q S ops.size (Array.replicate ops.size false) a w.drew):(Code.region id ops true).wp Tryz.prog Q a w :=
 wp_region_held_drew hm hS fun _=>h
end
end
def iZ (a:Act):List (Option Tmp × Value)->Act
 | []=>a
 | p :: l=>iZ (a.put p.1 p.2) l
section
variable {ops:Array Oper} {Q:Exit->Act->World->Prop} {S:World->Prop} {fuel:Nat} {listed:Array Bool} {a:Act} {w:World}
section
variable {K:Act->World->Prop}{rs:List Nat}{Qc:Ending->World->Prop}
theorem ph{X:Type}{id:Nat}{c:Exit->Act->World->Prop}(upd:X->List (Option Tmp × Value))(F:X->World->Prop)(S:World->Prop)(hm:Tryz.prog.follows .mixedOrders=true)(hS:S w.drew)(d:wpAnyH Tryz.prog .any ops (Exit.then (fun a' w'=>∃ x,a'=iZ a (upd x)/\F x w') (fun _ _ _=>False)) S ops.size (Array.replicate ops.size false) a w.drew)(b:∀ x w',F x w'->K (iZ a (upd x)) w'):(Code.region id ops true).wp Tryz.prog (Exit.then K c) a w :=
 Code.wp_mono (fun e a' w' h=>by
  cases e<;>first
   | (obtain⟨x,rfl,hF⟩:=h; exact b x w' hF)
   | exact h.elim) (wp_region_held_drew (S:=S) hm hS fun _=>d)
def eZ(ops:Array Oper)(a:Act)(i:Nat)(d:Option Tmp):Bool :=
 decide (i < ops.size) && Region.wanted (ops.getD i default) (yielded ops a.tmps) && decide ((ops.getD i default).dst=d)
theorem aL(rs:List Nat)(hr:Region.ready .any ops listed=rs)(hne:rs≠[])(h:AllReadyH Tryz.prog .any ops Q S fuel listed a w rs):wpAnyH Tryz.prog .any ops Q S (fuel + 1) listed a w:=wpAnyH_ready hr hne h
theorem aU:AllReadyH Tryz.prog .any ops Q S fuel listed a w []:=AllReadyH.nil
theorem vi(i:Nat)(d:Option Tmp)(f:FuncId)(args:Array Value)(hc:eZ ops a i d=true)(c:(execOp a.eval (ops.getD i default)).run Tryz.prog w=.ok (.enter f args) w)(b:Calls Tryz.prog f args w Qc)(j:∀ e w',Qc e w'->∃ v,e=.returned v/\S w'/\wpAnyH Tryz.prog .any ops Q S fuel (listed.setIfInBounds i true) (a.put d v) w')(hs:AllReadyH Tryz.prog .any ops Q S fuel listed a w rs):AllReadyH Tryz.prog .any ops Q S fuel listed a w (i :: rs):=by
 simp only[eZ,Bool.and_eq_true,decide_eq_true_eq] at hc;obtain⟨⟨k,h⟩,l⟩:=hc;subst l;refine AllReadyH.cons (bN k) (fun K m => ?_) hs;rw[if_pos h];unfold Oper.wp;rw[c];refine b.mono fun e w' he => ?_
 obtain⟨v,rfl,g,hw⟩:=j e w' he;exact m.out _ _ g fun _=>hw
theorem bI(i:Nat)(d:Option Tmp)(v:Value)(w1:World)(hc:eZ ops a i d=true)(b:(execOp a.eval (ops.getD i default)).run Tryz.prog w=.ok (.value v) w1)(c:S w1)(h:wpAnyH Tryz.prog .any ops Q S fuel (listed.setIfInBounds i true) (a.put d v) w1)(hs:AllReadyH Tryz.prog .any ops Q S fuel listed a w rs):AllReadyH Tryz.prog .any ops Q S fuel listed a w (i :: rs):=by
 simp only[eZ,Bool.and_eq_true,decide_eq_true_eq] at hc;obtain⟨⟨f,e⟩,g⟩:=hc;subst g;refine AllReadyH.cons (bN f) (fun K j => ?_) hs;rw[if_pos e];unfold Oper.wp;rw[b]
 show K (a.put (ops.getD i default).dst v) w1
 exact j.out _ _ c fun _=>h
theorem dn(i:Nat)(w1:World)(hc:eZ ops a i none=true)(b:(execOp a.eval (ops.getD i default)).run Tryz.prog w=.ok .skip w1)(c:S w1)(h:wpAnyH Tryz.prog .any ops Q S fuel (listed.setIfInBounds i true) (a.put none undef) w1)(hs:AllReadyH Tryz.prog .any ops Q S fuel listed a w rs):AllReadyH Tryz.prog .any ops Q S fuel listed a w (i :: rs):=by
 simp only[eZ,Bool.and_eq_true,decide_eq_true_eq] at hc;obtain⟨⟨e,d⟩,f⟩:=hc;refine AllReadyH.cons (bN e) (fun K g => ?_) hs;rw[if_pos d];unfold Oper.wp;rw[b]
 show K (a.put (ops.getD i default).dst undef) w1
 rw[f];exact g.out _ _ c fun _=>h
end
end
section
variable {a:Act}{w:World}{x y k n c g off:Nat}{o:Oper}{v u:Value}{ao bo:Option Addr}
theorem ey{op:Oper}{T:TypeId}{b:Nat}(l:op.op=.indexAddr T (.tmp x) (.tmp y))(o:Tryz.prog.underlying T=some (.slice 199))(hx:a.eval (.tmp x)=.slice (some ⟨b,0,none⟩) n c){z:Int}(hy:a.eval (.tmp y)=.int .i64 z)(f:z=(k:Int))(p:k < n):(execOp a.eval op).run Tryz.prog w=.ok (.value (.pointer (some ⟨b,k,none⟩))) w:=by
 subst f
 have q:(k:Int) < n:=by omega
 have m:¬ ((k:Int) < 0):=by omega
 obtain⟨i0,hi,g,d,j⟩:=info_parts (P:=Tryz.prog) (show (Tryz.prog.info? 199).map (fun i=>(i.zero,i.size,i.bytes))=some (some (.slice none 0 0),1,24) by kernel_rfl);simp only[execOp,l,hx,hy];go_simp
theorem fV{o:Nat}(c:w.cell? ⟨g,o,none⟩=some v):(loadVar 142 ⟨g,o,none⟩).run Tryz.prog w=.ok v w:=by go_simp
theorem p5{o:Nat}(c:w.cell? ⟨g,o,none⟩=some v):(loadVar 199 ⟨g,o,none⟩).run Tryz.prog w=.ok v w:=by go_simp
theorem ld_e(c:w.cell? ⟨g,0,none⟩=some v)(d:w.cell? ⟨g,1,none⟩=some u):(loadVar 196 ⟨g,0,none⟩).run Tryz.prog w=.ok (.agg #[v,u]) w:=by go_simp
theorem iQ{T:TypeId}(k:Nat)(c:o.op=.load T (.tmp k))(d:a.eval (.tmp k)=.pointer (some ⟨g,off,none⟩))(b:(loadVar T ⟨g,off,none⟩).run Tryz.prog w=.ok v w):(execOp a.eval o).run Tryz.prog w=.ok (.value v) w:=by
 simp only[execOp,c,d];simp[Instr.loadAt,Instr.sureAddr,Result.andThen,b]
theorem kt(k q:Nat)(b:o.op=.store 199 (.tmp k) (.tmp q))(d:a.eval (.tmp k)=.pointer (some ⟨g,off,none⟩))(f:a.eval (.tmp q)=.slice ao n c)(hc:w.cell? ⟨g,off,none⟩=some u)(hf:w.frozen? ⟨g,off,none⟩=false) :
  (execOp a.eval o).run Tryz.prog w=.ok .skip (w.setCell ⟨g,off,none⟩ (.slice ao n c)):=by
 simp only[execOp,b,d,f];go_simp
theorem oK{kv vv:Value}(d:o.op=.buildSlice 199 1 #[(0,.tmp k)])(c:a.eval (.tmp k)=.agg #[kv,vv]):(execOp a.eval o).run Tryz.prog w=.ok (.value (.slice (some ⟨w.heap.size,0,none⟩) 1 1)) (w.alloc (.cells #[kv,vv] 196)):=by
 have b:a.tmps[k]?.getD undef=.agg #[kv,vv]:=by simpa[Act.eval] using c
 simp only[execOp,d];go_simp
theorem Dm{m d:Nat}(f:o.op=.buildSlice 142 2 #[(0,.tmp x),(1,.tmp y)])(hx:a.eval (.tmp x)=.slice ao n c)(hy:a.eval (.tmp y)=.slice bo m d):(execOp a.eval o).run Tryz.prog w=.ok (.value (.slice (some ⟨w.heap.size,0,none⟩) 2 2)) (w.alloc (.cells #[.slice ao n c,.slice bo m d] 199)):=by
 have b:a.tmps[x]?.getD undef=.slice ao n c:=by simpa[Act.eval] using hx
 have g:a.tmps[y]?.getD undef=.slice bo m d:=by simpa[Act.eval] using hy
 simp only[execOp,f];go_simp
end
end Pg
end
section
namespace Pg
open Go.RowKit Go.Lib
section
variable {w:World}{D F:Nat → Prop}{p:Pg}{es:List En}{g G i j:Nat}{v u c0:Value}{L:List Pg}
theorem Dq{D:Nat->Prop}(h:PgA w D p)(hs:∀ e∈es,e∈p.es):∀ e∈es,EnA w D e:=fun e he=>h.dJ e (hs e he)
theorem bX(w:World):Below w.heap.size w w.drew:=⟨rfl,rfl,rfl,Nat.le_refl _,fun _ _=>rfl⟩
theorem bR(h:g≠G)(hc:w.cell? ⟨g,j,none⟩=some u):(w.setCell ⟨G,i,none⟩ v).cell? ⟨g,j,none⟩=some u:=by
 rw[World.cell?_of_block (w:=w) (a:=⟨g,j,none⟩) (Below.heap_setCell w _ v g h)]; exact hc
theorem Dk{α:Type}(L:List α)(i:Nat)(a b:α)(h:i < L.length):(L.set i a).take (i + 1) ++ [b] ++ (L.set i a).drop (i + 1)=L.take i ++ [a,b] ++ L.drop (i + 1):=by
 have e1:(L.set i a).take (i + 1)=L.take i ++ [a]:=by
  rw[List.take_add_one,List.take_set_of_le (Nat.le_refl _),List.getElem?_set_self h]; rfl
 rw[e1,List.drop_set_of_lt (by omega)];simp
theorem wU{c f z:World}{u:Nat → Prop}{n m C b2 c2 s J:Nat}{q1:Pg}(N : bL c u D g (L.set i q1))(r : ∀ b, u b → F b ∨ w.heap.size ≤ b)(I : Chg F w c)(hgx : Blk c g [.slice (some ⟨G, 0, none⟩) (L.set i q1).length C] 144)(P : Blk f g [c0] 144)(S : u g)(B : u G)(y : Rw c 199 1 G (L.set i q1).length C ((L.set i q1).map Pg.v))(T : g ≠ G)(U : i < L.length)(V : q1.es = es.take 16)(A : (es.drop 16).length = m - 16)(hnn : L.length = n)(O : Below c.drew.heap.size c.drew f)(R : c.drew.heap.size ≤ b2)(R3 : Rw f 196 2 b2 (m - 16) c2 (flat (es.drop 16)))(E0 : ∀ e ∈ es, EnA c.drew D e)(M : s = G ∨ f.heap.size + 1 ≤ s)(R5 : Rw z 199 1 s (n + 1) J (((L.set i q1).map Pg.v).take (i + 1) ++ [.slice (some ⟨b2, 0, none⟩) (m - 16) c2] ++ ((L.set i q1).map Pg.v).drop (i + 1)))(t : Chg (· = G) (f.alloc (.cells #[.slice (some ⟨b2, 0, none⟩) (m - 16) c2] 199)) z) :
    ∃ F' p1 p2, Ending.returned (.tuple #[]) = Ending.returned (.tuple #[]) ∧ p1.es = es.take 16 ∧ p2.es = es.drop 16 ∧ bL (z.setCell ⟨g, 0, none⟩ (.slice (some ⟨s, 0, none⟩) (n + 1) J)) F' D g (L.take i ++ [p1, p2] ++ L.drop (i + 1)) ∧ (∀ b, F' b → F b ∨ w.heap.size ≤ b) ∧ Chg F w (z.setCell ⟨g, 0, none⟩ (.slice (some ⟨s, 0, none⟩) (n + 1) J)) := by
  obtain⟨l, q⟩ : ∃ l, l = f.alloc (.cells #[.slice (some ⟨b2, 0, none⟩) (m - 16) c2] 199) := ⟨_, rfl⟩
  have K : Below c.heap.size c l := by rw[q]; exact aj (aj (bX c) O) (ae f _)
  have j : Below f.heap.size f l := by rw[q]; exact ae f _
  rw[← q] at t;have H := N.keep K
  have o : PgA l D ⟨b2, c2, es.drop 16⟩:= by
    refine⟨?_, fun e he => ((E0 e (List.mem_of_mem_drop he)).keep O).keep j⟩
    show Rw l _ 2 b2 (es.drop 16).length c2 _
    rw[A]; exact R3.keep j
  have Y : c.heap.size ≤ b2 := R
  have Q : (⟨b2, c2, es.drop 16⟩ : Pg).v = .slice (some ⟨b2, 0, none⟩) (m - 16) c2 := by simp only[Pg.v]; rw[A]
  have E : ∀ p ∈ (L.set i q1).take (i + 1) ++ [(⟨b2, c2, es.drop 16⟩ : Pg)] ++ (L.set i q1).drop (i + 1), p ∈ L.set i q1 ∨ p = ⟨b2, c2, es.drop 16⟩:= fun p d => by
    rcases List.mem_append.1 d with h | h
    · rcases List.mem_append.1 h with h | h
      · exact .inl (List.mem_of_mem_take h)
      · exact .inr (by simpa using h)
    · exact .inl (List.mem_of_mem_drop h)
  have hlen : ((L.set i q1).take (i + 1) ++ [(⟨b2, c2, es.drop 16⟩ : Pg)] ++ (L.set i q1).drop (i + 1)).length = n + 1 := by
    simp; omega
  have hold : ∀ p ∈ L.set i q1, p.b ≠ b2 := fun p d => by
    have := (N.b8 p d).1.row.lt;omega
  obtain⟨X, C6⟩:= jX (w := l) (w1 := z) (F := fun x => u x ∨ x = b2) (D := D) (g := g) (G := G) (G' := s) (C' := J) (n := n + 1) (L' := (L.set i q1).take (i + 1) ++ [(⟨b2, c2, es.drop 16⟩ : Pg)] ++ (L.set i q1).drop (i + 1))
    (fun p d => by
      rcases E p d with h | rfl
      · exact⟨(H.b8 p h).1, .inl (H.b8 p h).2⟩
      · exact⟨o, .inr rfl⟩)
    (by
      have hn := N.apart
      have e : (L.set i q1).map Pg.b = ((L.set i q1).take (i + 1)).map Pg.b ++ ((L.set i q1).drop (i + 1)).map Pg.b := by rw[← List.map_append, List.take_append_drop]
      rw[e] at hn
      have W : ∀ x ∈ ((L.set i q1).take (i + 1)).map Pg.b, x ≠ b2 := fun x hx => by
        obtain⟨p, d, rfl⟩:= List.mem_map.1 hx;exact hold p (List.mem_of_mem_take d)
      have h3 : ∀ x ∈ ((L.set i q1).drop (i + 1)).map Pg.b, x ≠ b2 := fun x hx => by
        obtain⟨p, d, rfl⟩:= List.mem_map.1 hx;exact hold p (List.mem_of_mem_drop d)
      simp only[List.map_append, List.map_cons, List.map_nil];rw[List.nodup_append] at hn;rw[List.append_assoc, List.nodup_append];refine⟨hn.1, ?_, ?_⟩
      · rw[List.singleton_append, List.nodup_cons]
        exact⟨fun h => h3 b2 h rfl, hn.2.1⟩
      · intro a Z b hb
        rcases List.mem_append.1 hb with hb | hb
        · simp at hb; subst hb; exact W a Z
        · exact hn.2.2 a Z b hb)
    (fun b hb => by
      rcases hb with h | rfl
      · exact H.kind b h
      · obtain⟨ds, k⟩:= o.row.kind
        exact⟨ds, _, k, by decide⟩)
    (P.keep j) (.inl S) (.inl B) (fun e => T e.symm) t
    (fun p d => by
      rcases E p d with h | rfl
      · exact(H.b8 p h).1.eV (y.keep K)
      · exact o.eV (y.keep K)) hlen
    (by simpa[List.map_take, List.map_drop, Q] using R5)
  rw[Dk L i q1 _ U] at X;refine⟨_, q1, ⟨b2, c2, es.drop 16⟩, rfl, V, rfl, X, fun b hb => ?_, (I.trans (Chg.of (F := F) K) (fun _ _ h => h)).trans C6 fun b hb h => ?_⟩
  · rcases hb with⟨h | rfl, _⟩ | rfl
    · exact r b h
    · exact .inr (by have := I.size; omega)
    · rcases M with rfl | h
      · exact r _ B
      · have h3 := O.size
        have W := I.size
        have : c.drew.heap.size = c.heap.size := rfl;exact .inr (by omega)
  · rcases h with h | rfl
    · exact(r b h).resolve_right (by omega)
    · have := I.size; omega
theorem yN(h:j≠i)(hc:w.cell? ⟨G,j,none⟩=some u):(w.setCell ⟨G,i,none⟩ v).cell? ⟨G,j,none⟩=some u:=by
 have a:=aJ hc;simp only[World.cell?,World.setCell,Array.getElem?_modify,if_true] at hc ⊢
 cases hh:w.heap[G]? with
 | none=>rw[hh] at hc; simp at hc
 | some ob =>
  rw[hh] at hc
  cases ob with
  | cells c e f =>
   simp at hc ⊢;rw[Array.getElem?_setIfInBounds,if_neg (by omega)]; exact hc
  | _=>simp at hc
theorem kA(A : bL w F D g L)(hi : L[i]? = some p)(h1 : 17 ≤ p.es.length)(h2 : p.es.length ≤ 1000)(hn : L.length ≤ 100000000) :
    Calls Tryz.prog 194 #[.pointer (some ⟨g, 0, none⟩), .int .i64 i] w fun e w' => ∃ F' p1 p2, e = .returned (.tuple #[]) ∧ p1.es = p.es.take 16 ∧ p2.es = p.es.drop 16 ∧ bL w' F' D g (L.take i ++ [p1, p2] ++ L.drop (i + 1)) ∧ (∀ b, F' b → F b ∨ w.heap.size ≤ b) ∧ Chg F w w' := by
  have Y := (List.getElem?_eq_some_iff.1 hi).1
  have hL : L ≠ [] := fun e => by subst e; simp at Y
  obtain⟨G, C, hg, hFg, hFG, M⟩:= A.opn hL;have J := A.b8 p (List.mem_of_getElem? hi);have cg := hg.cell (i := 0) rfl;have cG := M.cell (i := i) (v := p.v) (by simp[hi]);have hpc := J.1.row.le;have hCC := M.le;simp only[maxLen] at hpc hCC
  have P : w.drew.cell? ⟨g, 0, none⟩ = some (.slice (some ⟨G, 0, none⟩) L.length C) := cg
  have t1 := zp (w := w.drew) (a := ⟨p.b, 0, none⟩) (n := 16) (c := p.c) (xs := flat (p.es.take 16)) (by decide) (by rw[jz, List.length_take]; omega) (fun j v N => by
    rw[Addr.add_lit, Nat.zero_add]
    have : (flat p.es)[j]? = some v := by
      rw[← ie, List.getElem?_take] at N;split at N
      · exact N
      · cases N
    exact J.1.row.drew.cell this) (jo (Dq J.1 fun e he => List.mem_of_mem_take he))
  obtain⟨n, d⟩ : ∃ n, Hid (L.length = n) := ⟨_, rfl⟩;obtain⟨m, r⟩ : ∃ m, Hid (p.es.length = m) := ⟨_, rfl⟩;simp only[Pg.v] at cG;rw[d.out] at cg P;rw[r.out] at cG
  have z1 : (i : Int) < n := by have := d.out; omega
  have z2 : m ≤ p.c := by have := r.out; omega
  have z3 : p.c ≤ 9223372036854775807 := by omega
  have z4 : 17 ≤ m := by have := r.out; omega
  have z5 : 16 ≤ p.c := by omega
  have z6 : (16 : Int) ≤ (p.c : Int) := by omega
  have o : g ≠ G := fun e => M.eX hg e.symm
  have mixed := mixed;go_enter Tryz.func194, Tryz.ntmps194;go_wp2;go_region_held3 (fun w' => w'.cell? ⟨g, 0, none⟩ = some (.slice (some ⟨G, 0, none⟩) n C)) (first | assumption | exact bR o (by assumption))
    (first
    | (go_at_call 226; refine t1.mono ?_; rintro e' s ⟨y, c1, rfl, R, R1, u⟩; have cg1 : s.cell? ⟨g, 0, none⟩ = some (.slice (some ⟨G, 0, none⟩) n C) := (u.cell (p := ⟨g, 0, none⟩) (aJ P)).trans P; have cG1 : s.cell? ⟨G, i, none⟩ = some (.slice (some ⟨p.b, 0, none⟩) m p.c) := (u.cell (p := ⟨G, i, none⟩) (aJ (w := w.drew) cG)).trans cG; have fG1 : s.frozen? ⟨G, i, none⟩ = false := (M.drew.keep u).free i))
  obtain⟨q1, q⟩ : ∃ q1 : Pg, Hid (q1 = ⟨y, c1, p.es.take 16⟩) := ⟨_, rfl⟩
  have H : (p.es.take 16).length = 16 := by rw[List.length_take]; omega
  have V : q1.v = .slice (some ⟨y, 0, none⟩) 16 c1 := by rw[q.out]; simp only[Pg.v]; rw[H]
  have ab : PgA s D q1 := by
    rw[q.out];refine⟨?_, fun e he => ((J.1.dJ e (List.mem_of_mem_take he)).keep (bX w)).keep u⟩
    show Rw s _ 2 y (p.es.take 16).length c1 _
    rw[H]; exact R1
  obtain⟨A2, C2⟩:= A.put (p' := q1) (D' := D) hg hFg hFG M hi (Chg.of (aj (bX w) u)) (.inr (by rw[q.out]; exact R)) ab (fun _ _ h => h);rw[V] at A2 C2
  have R0 : Rw (s.setCell ⟨G, i, none⟩ (.slice (some ⟨y, 0, none⟩) 16 c1)) 196 2 p.b p.es.length p.c (flat p.es) := ((J.1.row.keep (bX w)).keep u).same (Below.heap_setCell s _ _ _ (J.1.eV M))
  have E0 : ∀ e ∈ p.es, EnA (s.setCell ⟨G, i, none⟩ (.slice (some ⟨y, 0, none⟩) 16 c1)) D e := fun e he => (((J.1.dJ e he).keep (bX w)).keep u).off fun b hb hk => by
    obtain⟨cs, k⟩:= hk;obtain⟨ds, k'⟩:= (M.drew.keep u).kind;exact Below.heap_setCell s _ _ b (eB k k' (by decide))
  have hw1l : w.heap.size ≤ (s.setCell ⟨G, i, none⟩ (.slice (some ⟨y, 0, none⟩) 16 c1)).heap.size := C2.size
  have aa : q1.b = y := by rw[q.out]
  have Z : q1.es = p.es.take 16 := by rw[q.out]
  have l := (hg.drew.keep u).off o (i := i) (.slice (some ⟨y, 0, none⟩) 16 c1)
  have hF2 : ∀ b, ((F b ∧ b ≠ p.b) ∨ b = q1.b) → F b ∨ w.heap.size ≤ b := fun b h => h.imp (fun h => h.1) (fun h => by rw[h, aa]; exact R)
  generalize (s.setCell ⟨G, i, none⟩ (.slice (some ⟨y, 0, none⟩) 16 c1)) = K at *;generalize hF2d : (fun x => (F x ∧ x ≠ p.b) ∨ x = q1.b) = F2 at A2;obtain⟨t, Q, W, U, S, O⟩:= A2.opn (by simp[hL]);obtain⟨rfl, rfl⟩ : t = G ∧ Q = C := by
    have := (W.eq l).1;simp at this;exact⟨this.1, this.2⟩
  have X : ∀ b, F2 b → F b ∨ w.heap.size ≤ b := fun b h => hF2 b (by rw[← hF2d] at h; exact h)
  have cg2 : K.cell? ⟨g, 0, none⟩ = some (.slice (some ⟨t, 0, none⟩) n Q) := by
    have := l.cell (i := 0) rfl;rwa [d.out] at this
  have E : K.drew.cell? ⟨g, 0, none⟩ = some (.slice (some ⟨t, 0, none⟩) n Q) := cg2
  have T : (p.es.drop 16).length = m - 16 := by rw[List.length_drop, r.out]
  have t2 := zp (w := K.drew) (a := ⟨p.b, 32, none⟩) (n := m - 16) (c := p.c - 16) (xs := flat (p.es.drop 16)) (by have := r.out; omega) (by rw[jz, T]) (fun j v N => by
    rw[Addr.add_lit]
    have : (flat p.es)[32 + j]? = some v := by
      rw[← ia, List.getElem?_drop] at N;exact N
    exact R0.drew.cell this) (jo (w := K) (D := D) (fun e he => E0 e (List.mem_of_mem_drop he)))
  have zz1 : IntKind.i64.wrap ((i : Int) + 1) = (i : Int) + 1 := by rw[IntKind.wrap_i64]; have := d.out; omega
  have zz2 : ¬ (p.c = 16) := by omega
  have zz3 : (16 : Int) ≤ m := by omega
  have t3 : ∀ (f : World) (b2 c2 : Nat), Below K.drew.heap.size K.drew f → Calls Tryz.prog 227 #[.slice (some ⟨t, 0, none⟩) n Q, .int .i64 ((i : Int) + 1), .slice (some ⟨f.heap.size, 0, none⟩) 1 1] (f.alloc (.cells #[.slice (some ⟨b2, 0, none⟩) (m - 16) c2] 199)) fun e w' => ∃ b' c', e = .returned (.slice (some ⟨b', 0, none⟩) (n + 1) c') ∧ (b' = t ∨ f.heap.size + 1 ≤ b') ∧ Rw w' 199 1 b' (n + 1) c' (((L.set i q1).map Pg.v).take (i + 1) ++ [.slice (some ⟨b2, 0, none⟩) (m - 16) c2] ++ ((L.set i q1).map Pg.v).drop (i + 1)) ∧ Chg (· = t) (f.alloc (.cells #[.slice (some ⟨b2, 0, none⟩) (m - 16) c2] 199)) w' := fun f b2 c2 z => by
    have hk := (O.drew.keep z).keep (ae f (.cells #[.slice (some ⟨b2, 0, none⟩) (m - 16) c2] 199));rw[List.length_set, d.out] at hk
    have hGl : t < f.heap.size := (O.drew.keep z).lt;have := insP (i := i + 1) hk (aC f [.slice (some ⟨b2, 0, none⟩) (m - 16) c2] 199) (by omega) (by have := d.out; omega) (by have := d.out; omega) (tw _) (by simp[Value.oneCell']);rw[World.size_alloc] at this;simpa using this
  go_wp2
  go_region_with (first
    | (go_at_call 226; refine t2.mono ?_; rintro e' f ⟨b2, c2, rfl, hb2, R3, z⟩; have cg3 : f.cell? ⟨g, 0, none⟩ = some (.slice (some ⟨t, 0, none⟩) n Q) := (z.cell (p := ⟨g, 0, none⟩) (aJ E)).trans E; have B := mi cg3 (.cells #[.slice (some ⟨b2, 0, none⟩) (m - 16) c2] 199))
    | (go_at_call 227; refine(t3 f b2 c2 z).mono ?_; rintro e' w5 ⟨G5, C5, rfl, hb5, R5, I⟩; have cg5 : w5.cell? ⟨g, 0, none⟩ = some (.slice (some ⟨t, 0, none⟩) n Q) := (World.cell?_of_block (w := f.alloc (.cells #[.slice (some ⟨b2, 0, none⟩) (m - 16) c2] 199)) (a := ⟨g, 0, none⟩) (I.same g (aJ B) o)).trans B; have fg5 : w5.frozen? ⟨g, 0, none⟩ = false := (((l.drew.keep z).keep (ae f _)).chg I o).free 0))
  all_goals go_wp2
  all_goals go_end0
  all_goals exact wU A2 X C2 W (l.drew.keep z) U S O o Y Z T d.out z hb2 R3 (fun e he => (E0 e he).keep (bX K)) hb5 R5 I
end
end Pg
end
section
namespace Pg
open Go.RowKit Go.Lib
section
variable {L:List Pg}{i:Nat}{p:Pg}{w:World}{F D:Nat->Prop}
def rE(P:List (List En))(i q:Nat)(e:En):List (List En) :=
 let es:=(P.getD i []).take q ++ [e] ++ (P.getD i []).drop q
 if 32 < es.length then P.take i ++ [es.take 16,es.drop 16] ++ P.drop (i + 1) else P.set i es
theorem qg(L:List Pg)(i:Nat)(p:Pg):ens (L.set i p)=(ens L).set i p.es:=by simp[ens,List.map_set]
theorem eN(h:L[i]? = some p):(ens L).getD i []=p.es:=by simp[ens,h]
theorem xY(es:List En)(q:Nat)(e:En):(flat es).take (q * 2) ++ [e.kv,e.vv] ++ (flat es).drop (q * 2)=flat (es.take q ++ [e] ++ es.drop q):=by
 rw[ie,ia,ed,ed]; rfl
theorem sW{g q:Nat}{e:En}(A:bL w F D g L)(hi:L[i]? = some p)(hq:q<=p.es.length)(h2:p.es.length<=32)(hn:L.length<=100000000)(hE:EnA w D e) :
  Calls Tryz.prog 147 #[.pointer (some ⟨g,0,none⟩),.int .i64 i,.int .i64 q,.agg #[e.kv,e.vv]] w fun e' w'=>∃ F' L',e'=.returned (.tuple #[])/\ens L'=rE (ens L) i q e/\bL w' F' D g L'/\(∀ b,F' b->F b\/w.heap.size<=b)/\Chg F w w':=by
 have hil:=(List.getElem?_eq_some_iff.1 hi).1
 have hL:L≠[]:=fun e=>by subst e; simp at hil
 obtain⟨kv,kl,vv,vl⟩:=e;obtain⟨l,K⟩:∃ l,Hid (l=w.alloc (.cells #[kv,vv] 196)):=⟨_,rfl⟩
 have B0:Below w.heap.size w l:=by rw[K.out]; exact ae w _
 have X0:Blk l w.heap.size [kv,vv] 196:=by rw[K.out]; exact aC w [kv,vv] _
 have A0:=A.keep B0;obtain⟨G,C,hg,hFg,hFG,Y⟩:=A0.opn hL;have S:=A0.b8 p (List.mem_of_getElem? hi);have cg:=hg.cell (i:=0) rfl;have cG:=Y.cell (i:=i) (v:=p.v) (by simp[hi]);have x0:=X0.cell (i:=0) rfl;have x1:=X0.cell (i:=1) rfl;have hpc:=S.1.row.le;have hCC:=Y.le;simp only[maxLen] at hpc hCC;obtain⟨n,R⟩:∃ n,Hid (L.length=n):=⟨_,rfl⟩
 obtain⟨m,V⟩:∃ m,Hid (p.es.length=m):=⟨_,rfl⟩
 simp only[Pg.v] at cG;rw[R.out] at cg;rw[V.out] at cG
 have z0:¬ ((n:Int)=0):=by have:=R.out; omega
 have z1:(i:Int) < n:=by have:=R.out; omega
 have cgd:l.drew.cell? ⟨g,0,none⟩=some (.slice (some ⟨G,0,none⟩) n C):=cg
 have x0d:l.drew.cell? ⟨w.heap.size,0,none⟩=some kv:=x0
 have x1d:l.drew.cell? ⟨w.heap.size,1,none⟩=some vv:=x1
 have cGd:l.drew.cell? ⟨G,i,none⟩=some (.slice (some ⟨p.b,0,none⟩) m p.c):=cG
 have ab:g≠G:=fun e=>Y.eX hg e.symm
 have U:w.heap.size≠G:=by have:=A.lt hFG; omega
 obtain⟨Q,O⟩:∃ Q,Hid (Q=l.drew.alloc (.cells #[kv,vv] 196)):=⟨_,rfl⟩
 have I:Below l.heap.size l Q:=by rw[O.out]; exact aj (bX l) (ae l.drew _)
 have hs0:l.heap.size=w.heap.size + 1:=by rw[K.out]; simp
 have V1:Blk Q l.heap.size [kv,vv] 196:=by rw[O.out]; exact aC l.drew [kv,vv] _
 have t1:=insE (i:=q) (S.1.row.keep I) V1 (by have:=S.1.row.lt; omega) hq (by omega) S.1.one (by have:=hE.k.one; have:=hE.v.one; simp_all);rw[V.out] at t1
 have j:Q.cell? ⟨g,0,none⟩=some (.slice (some ⟨G,0,none⟩) n C):=(I.cell (p:=⟨g,0,none⟩) (aJ cg)).trans cg
 have z:Q.cell? ⟨w.heap.size,0,none⟩=some kv:=(I.cell (p:=⟨w.heap.size,0,none⟩) (aJ x0)).trans x0
 have u:Q.cell? ⟨w.heap.size,1,none⟩=some vv:=(I.cell (p:=⟨w.heap.size,1,none⟩) (aJ x1)).trans x1
 have r:Q.cell? ⟨G,i,none⟩=some (.slice (some ⟨p.b,0,none⟩) m p.c):=(I.cell (p:=⟨G,i,none⟩) (aJ cG)).trans cG
 have ng:g≠p.b:=fun e=>S.1.eX hg e.symm
 have nG:G≠p.b:=fun e=>S.1.eV Y e.symm
 have nx:w.heap.size≠p.b:=by have:=A.lt S.2; omega
 have mixed:=mixed
 have ad:i < n:=by have:=R.out; omega
 go_enter Tryz.func147,Tryz.ntmps147;have cgw:=cg;rw[K.out] at cgw;go_wp2;rw[<- K.out];have W:=(show _/\_/\_ from⟨j,z,u⟩)
 have P:=r;rw[O.out] at W P t1
 have af:Tryz.prog.underlying 142=some (.slice 199):=by kernel_rfl
 refine ph (X:=Nat × Nat) (fun x=>[(some 23,.pointer (some ⟨g,0,none⟩)),(some 24,.pointer (some ⟨g,0,none⟩)),(some 25,.pointer (some ⟨g,0,none⟩)),(some 26,.slice (some ⟨G,0,none⟩) n C),(some 27,.int .i64 i),(some 28,.pointer (some ⟨g,0,none⟩)),(some 29,.pointer (some ⟨g,0,none⟩)),(some 30,.pointer (some ⟨g,0,none⟩)),(some 31,.slice (some ⟨G,0,none⟩) n C),(some 32,.int .i64 i),(some 33,.pointer (some ⟨G,i,none⟩)),(some 34,.slice (some ⟨p.b,0,none⟩) m p.c),(some 35,.int .i64 q),(some 36,.agg #[kv,vv]),(some 37,.slice (some ⟨l.heap.size,0,none⟩) 1 1),(some 38,.slice (some ⟨x.1,0,none⟩) (m + 1) x.2),(some 39,.pointer (some ⟨G,i,none⟩))]) (fun x w'=>∃ d,w'=d.setCell ⟨G,i,none⟩ (.slice (some ⟨x.1,0,none⟩) (m + 1) x.2)/\(x.1=p.b\/Q.heap.size<=x.1)/\Rw d 196 2 x.1 (m + 1) x.2 ((flat p.es).take (q * 2) ++ [kv,vv] ++ (flat p.es).drop (q * 2))/\Chg (· = p.b) Q d) (fun w'=>w'.cell? ⟨g,0,none⟩=some (.slice (some ⟨G,0,none⟩) n C)/\w'.cell? ⟨w.heap.size,0,none⟩=some kv/\w'.cell? ⟨w.heap.size,1,none⟩=some vv) (by kernel_rfl) ⟨cgd,x0d,x1d⟩ ?_ ?_
 ·have hS:=(show _/\_/\_ from⟨cgd,x0d,x1d⟩)
  refine ai 0 (some 23) (.pointer (some ⟨g,0,none⟩)) (by kernel_rfl) (fun _ _=>by kernel_rfl) (fun _ _ _ h=>h) hS ?_
  refine ai 1 (some 24) (.pointer (some ⟨g,0,none⟩)) (by kernel_rfl) (fun _ _=>by kernel_rfl) (fun _ _ _ h=>h) hS ?_
  refine ai 2 (some 25) (.pointer (some ⟨g,0,none⟩)) (by kernel_rfl) (fun _ _=>by kernel_rfl) (fun _ _ _ h=>h) hS ?_
  refine aP 3 (some 26) (.slice (some ⟨G,0,none⟩) n C) 142 25 (g) (0) (by kernel_rfl) (by kernel_rfl) (by kernel_rfl) (fun w' h=>fV h.1) (fun _ _ _ h=>h) hS ?_
  refine ai 4 (some 27) (.int .i64 i) (by kernel_rfl) (fun _ _=>by kernel_rfl) (fun _ _ _ h=>h) hS ?_
  refine ai 5 (some 28) (.pointer (some ⟨g,0,none⟩)) (by kernel_rfl) (fun _ _=>by kernel_rfl) (fun _ _ _ h=>h) hS ?_
  refine ai 6 (some 29) (.pointer (some ⟨g,0,none⟩)) (by kernel_rfl) (fun _ _=>by kernel_rfl) (fun _ _ _ h=>h) hS ?_
  refine ai 7 (some 30) (.pointer (some ⟨g,0,none⟩)) (by kernel_rfl) (fun _ _=>by kernel_rfl) (fun _ _ _ h=>h) hS ?_
  refine aP 8 (some 31) (.slice (some ⟨G,0,none⟩) n C) 142 30 (g) (0) (by kernel_rfl) (by kernel_rfl) (by kernel_rfl) (fun w' h=>fV h.1) (fun _ _ _ h=>h) hS ?_
  refine ai 9 (some 32) (.int .i64 i) (by kernel_rfl) (fun _ _=>by kernel_rfl) (fun _ _ _ h=>h) hS ?_
  refine ai 10 (some 33) (.pointer (some ⟨G,i,none⟩)) (by kernel_rfl) (fun _ _=>ey (x:=31) (y:=32) (n:=n) (c:=C) (by kernel_rfl) af (by kernel_rfl) (by kernel_rfl) (rfl) (ad)) (fun _ _ _ h=>h) hS ?_
  refine ai 12 (some 35) (.int .i64 q) (by kernel_rfl) (fun _ _=>by kernel_rfl) (fun _ _ _ h=>h) hS ?_
  refine aP 13 (some 36) (.agg #[kv,vv]) 196 7 (w.heap.size) (0) (by kernel_rfl) (by kernel_rfl) (by kernel_rfl) (fun w' h=>ld_e h.2.1 h.2.2) (fun _ _ _ h=>h) hS ?_
  refine aL [11,14] (by kernel_rfl) (by simp) ?_
  refine bI 11 (some 34) (.slice (some ⟨p.b,0,none⟩) m p.c) _ (by kernel_rfl) (iQ 33 (by kernel_rfl) (by kernel_rfl) (p5 cGd)) hS ?_ (bI 14 (some 37) (.slice (some ⟨l.heap.size,0,none⟩) 1 1) _ (by kernel_rfl) (oK (k:=36) (by kernel_rfl) (by kernel_rfl)) W ?_ aU)
  ·refine aL [14] (by kernel_rfl) (by simp) ?_
   refine bI 14 (some 37) (.slice (some ⟨l.heap.size,0,none⟩) 1 1) _ (by kernel_rfl) (oK (k:=36) (by kernel_rfl) (by kernel_rfl)) W ?_ aU;refine bP 15 (some 38) 193 #[.slice (some ⟨p.b,0,none⟩) m p.c,.int .i64 q,.slice (some ⟨l.heap.size,0,none⟩) 1 1] (by kernel_rfl) (by kernel_rfl) t1 ?_
   rintro e' d ⟨b2,c2,rfl,t,R2,o⟩;rw[<- O.out] at o t
   have s:d.cell? ⟨g,0,none⟩=_:=(World.cell?_of_block (a:=⟨g,0,none⟩) (o.same g (aJ j) ng)).trans j
   have E:d.cell? ⟨w.heap.size,0,none⟩=_:=(World.cell?_of_block (a:=⟨w.heap.size,0,none⟩) (o.same _ (aJ z) nx)).trans z
   have B:d.cell? ⟨w.heap.size,1,none⟩=_:=(World.cell?_of_block (a:=⟨w.heap.size,1,none⟩) (o.same _ (aJ u) nx)).trans u
   have J:d.cell? ⟨G,i,none⟩=_:=(World.cell?_of_block (a:=⟨G,i,none⟩) (o.same _ (aJ r) nG)).trans r
   have aa:d.frozen? ⟨G,i,none⟩=false:=((Y.keep I).chg o nG).free i;refine⟨_,rfl,⟨s,E,B⟩,?_⟩;replace hS:=(show _/\_/\_ from⟨s,E,B⟩)
   refine ai 16 (some 39) (.pointer (some ⟨G,i,none⟩)) (by kernel_rfl) (fun _ _=>ey (x:=26) (y:=27) (n:=n) (c:=C) (by kernel_rfl) af (by kernel_rfl) (by kernel_rfl) (rfl) (ad)) (fun _ _ _ h=>h) hS ?_
   refine aL [17] (by kernel_rfl) (by simp) ?_
   refine dn 17 (d.setCell ⟨G,i,none⟩ (.slice (some ⟨b2,0,none⟩) (m + 1) c2)) (by kernel_rfl) (kt 39 38 (by kernel_rfl) (by kernel_rfl) (by kernel_rfl) J aa) ⟨bR ab s,bR U E,bR U B⟩ ?_ aU;refine bH (by kernel_rfl) ?_
   exact⟨(b2,c2),by kernel_rfl,d,rfl,t,R2,o⟩
  ·refine aL [11] (by kernel_rfl) (by simp) ?_
   refine bI 11 (some 34) (.slice (some ⟨p.b,0,none⟩) m p.c) _ (by kernel_rfl) (iQ 33 (by kernel_rfl) (by kernel_rfl) (p5 P)) W ?_ aU;refine bP 15 (some 38) 193 #[.slice (some ⟨p.b,0,none⟩) m p.c,.int .i64 q,.slice (some ⟨l.heap.size,0,none⟩) 1 1] (by kernel_rfl) (by kernel_rfl) t1 ?_
   rintro e' d ⟨b2,c2,rfl,t,R2,o⟩;rw[<- O.out] at o t
   have s:d.cell? ⟨g,0,none⟩=_:=(World.cell?_of_block (a:=⟨g,0,none⟩) (o.same g (aJ j) ng)).trans j
   have E:d.cell? ⟨w.heap.size,0,none⟩=_:=(World.cell?_of_block (a:=⟨w.heap.size,0,none⟩) (o.same _ (aJ z) nx)).trans z
   have B:d.cell? ⟨w.heap.size,1,none⟩=_:=(World.cell?_of_block (a:=⟨w.heap.size,1,none⟩) (o.same _ (aJ u) nx)).trans u
   have J:d.cell? ⟨G,i,none⟩=_:=(World.cell?_of_block (a:=⟨G,i,none⟩) (o.same _ (aJ r) nG)).trans r
   have aa:d.frozen? ⟨G,i,none⟩=false:=((Y.keep I).chg o nG).free i;refine⟨_,rfl,⟨s,E,B⟩,?_⟩;replace hS:=(show _/\_/\_ from⟨s,E,B⟩)
   refine ai 16 (some 39) (.pointer (some ⟨G,i,none⟩)) (by kernel_rfl) (fun _ _=>ey (x:=26) (y:=27) (n:=n) (c:=C) (by kernel_rfl) af (by kernel_rfl) (by kernel_rfl) (rfl) (ad)) (fun _ _ _ h=>h) hS ?_
   refine aL [17] (by kernel_rfl) (by simp) ?_
   refine dn 17 (d.setCell ⟨G,i,none⟩ (.slice (some ⟨b2,0,none⟩) (m + 1) c2)) (by kernel_rfl) (kt 39 38 (by kernel_rfl) (by kernel_rfl) (by kernel_rfl) J aa) ⟨bR ab s,bR U E,bR U B⟩ ?_ aU;refine bH (by kernel_rfl) ?_
   exact⟨(b2,c2),by kernel_rfl,d,rfl,t,R2,o⟩
 rintro⟨b2,c2⟩ w' ⟨d,rfl,t,R2,o⟩;dsimp only at t R2;simp only[iZ,Act.put,List.setIfInBounds_toArray,List.set_cons_zero,List.set_cons_succ]
 have s:d.cell? ⟨g,0,none⟩=_:=(World.cell?_of_block (a:=⟨g,0,none⟩) (o.same g (aJ j) ng)).trans j
 have J:d.cell? ⟨G,i,none⟩=_:=(World.cell?_of_block (a:=⟨G,i,none⟩) (o.same _ (by exact(Y.keep I).lt) nG)).trans r
 have C02:Chg (· = p.b) l d:=(Chg.of (F:=(· = p.b)) I).trans o (fun _ _ h=>h);obtain⟨p',T⟩:∃ p':Pg,Hid (p'=⟨b2,c2,p.es.take q ++ [(⟨kv,kl,vv,vl⟩:En)] ++ p.es.drop q⟩):=⟨_,rfl⟩
 have hlen:(p.es.take q ++ [(⟨kv,kl,vv,vl⟩:En)] ++ p.es.drop q).length=m + 1:=by have:=V.out; simp; omega
 have M:∀ e,EnA w D e->EnA d D e:=fun e he=>((he.keep B0).keep I).off fun b hb hk=>o.same b hb fun f=>by
  subst f;obtain⟨cs,k⟩:=hk;obtain⟨ds,k'⟩:=(S.1.row.keep I).kind;exact eB k k' (by decide) rfl
 have hA':PgA d D p':=by
  rw[T.out];refine⟨?_,fun e he => ?_⟩
  ·show Rw d _ 2 b2 (p.es.take q ++ [(⟨kv,kl,vv,vl⟩:En)] ++ p.es.drop q).length c2 _
   rw[hlen]; exact R2.to (xY p.es q ⟨kv,kl,vv,vl⟩)
  ·rcases List.mem_append.1 he with h | h
   ·rcases List.mem_append.1 h with h | h
    ·exact M e ((A.b8 p (List.mem_of_getElem? hi)).1.dJ e (List.mem_of_mem_take h))
    ·simp at h; subst h; exact M _ hE
   ·exact M e ((A.b8 p (List.mem_of_getElem? hi)).1.dJ e (List.mem_of_mem_drop h))
 have hv':p'.v=.slice (some ⟨b2,0,none⟩) (m + 1) c2:=by rw[T.out]; simp only[Pg.v]; rw[hlen]
 have hb':p'.b=b2:=by rw[T.out]
 have H:p'.es=p.es.take q ++ [⟨kv,kl,vv,vl⟩] ++ p.es.drop q:=by rw[T.out]
 obtain⟨A3,C3⟩:=A0.put (p':=p') (D':=D) hg hFg hFG Y hi C02 (by rw[hb']; exact t.imp id (fun h=>Nat.le_trans I.size h)) hA' (fun _ _ h=>h);rw[hv',hb'] at A3;rw[hv'] at C3;have ac:=(Chg.of (F:=F) B0).trans C3 (fun _ _ h=>h)
 have hF3:∀ b,((F b/\b≠p.b)\/b=b2)->F b\/w.heap.size<=b:=fun b h=>by
  have h0:=B0.size;have h1:=I.size;rcases h with h | h
  ·exact .inl h.1
  ·subst h;rcases t with h | h
   ·rw[h]; exact .inl S.2
   ·exact .inr (by omega)
 have cg3:(d.setCell ⟨G,i,none⟩ (.slice (some ⟨b2,0,none⟩) (m + 1) c2)).cell? ⟨g,0,none⟩=some (.slice (some ⟨G,0,none⟩) n C):=bR ab s
 have cG3:(d.setCell ⟨G,i,none⟩ (.slice (some ⟨b2,0,none⟩) (m + 1) c2)).cell? ⟨G,i,none⟩=some (.slice (some ⟨b2,0,none⟩) (m + 1) c2):=World.cell?_setCell_same' _ _ _ (by rw[J]; rfl);generalize (d.setCell ⟨G,i,none⟩ (.slice (some ⟨b2,0,none⟩) (m + 1) c2))=W3 at *;generalize hF3d:(fun x=>(F x/\x≠p.b)\/x=b2)=F3 at A3
 have N:∀ b,F3 b->F b\/w.heap.size<=b:=fun b h=>hF3 b (by rw[<- hF3d] at h; exact h)
 have hi3:(L.set i p')[i]? = some p':=by rw[List.getElem?_set_self hil]
 by_cases Z:32 < m + 1
 ·have hbi:(32:Int) < (m:Int) + 1:=by omega
  have t5:=kA A3 hi3 (by rw[H,hlen]; omega) (by rw[H,hlen]; have:=V.out; omega) (by rw[List.length_set]; exact hn);go_wp2_with (go_at_call 194; refine t5.mono ?_; rintro e' w6 ⟨F6,p1,p2,rfl,e1,e2,A6,hF6,C6⟩);go_end0;refine⟨F6,_,rfl,?_,A6,fun b hb => ?_,ac.trans C6 fun b hb h=>(N b h).resolve_right (by omega)⟩
  ·unfold rE;rw[eN hi,<- H,if_pos (by rw[H,hlen]; exact Z)];simp only[ens,List.map_append,List.map_take,List.map_drop,List.map_cons,List.map_nil,List.map_set,e1,e2];rw[List.take_set_of_le (Nat.le_refl _),List.drop_set_of_lt (by omega)]
  ·rcases hF6 b hb with h | h
   ·exact N b h
   ·exact .inr (by have:=ac.size; omega)
 ·have hbi:¬ ((32:Int) < (m:Int) + 1):=by omega
  go_wp2;go_end0;refine⟨rfl,F3,_,?_,A3,N,ac⟩;unfold rE;rw[eN hi,<- H,if_neg (by rw[H,hlen]; exact Z),qg]
end
end Pg
end
section
namespace Pg
open Go.RowKit Go.Lib
section
variable {w w1:World}{F D:Nat->Prop}{g:Nat}{pv:Value}
theorem xP(A:bL w F D g [])(p:w.cell? ⟨g,0,none⟩=some pv)(n:Below w.heap.size w w1){vb:Nat}(V:Blk w1 vb [.slice none 0 0] 199) :
  ∃ b' c' w',(Builtin.append_ #[142,142] 142 #[pv,.slice (some ⟨vb,0,none⟩) 1 1]).run Tryz.prog w1=.ok (.slice (some ⟨b',0,none⟩) 1 c') w'/\(F b'\/w.heap.size<=b')/\Rw w' 199 1 b' 1 c' [.slice none 0 0]/\Chg F w1 w'/\b'≠g/\(∀ b cs,Blk w1 b cs 144\/Blk w1 b cs 196->Blk w' b cs 144\/Blk w' b cs 196)/\(Blk w g [pv] 144/\F g/\Blk w' g [pv] 144):=by
 obtain⟨t,hb,r,h⟩:=A.top;have e:=hb.cell (i:=0) rfl;rw[p] at e
 cases e;have a:=hb.keep n;rcases h with⟨rfl,_⟩ | ⟨G,C,rfl,hG,hR⟩
 ·obtain⟨c',W,q,d,hC⟩:=fe (w:=w1) KP 142 ⟨vb,0,none⟩ 1 1 [.slice none 0 0] rfl (fun j u o=>by rw[Addr.add_lit,Nat.zero_add]; exact V.cell o) (by decide) (by decide) (by decide);refine⟨_,c',W,q,.inr n.size,d,Chg.of hC,?_,fun b cs h=>h.imp (fun k=>k.keep hC) (fun k=>k.keep hC),hb,r,a.keep hC⟩;have:=a.lt;omega
 ·have l:=hR.keep n;obtain⟨b',c',W,q,f,d,hC⟩:=dB KP 142 l ⟨vb,0,none⟩ 1 1 [.slice none 0 0] rfl (fun j u o=>by rw[Addr.add_lit,Nat.zero_add]; exact V.cell o) (by simp[Value.oneCell']) (by simp) (by simp)
  have c:∀ b cs,Blk w1 b cs 144\/Blk w1 b cs 196->b≠G:=fun b cs h=>by
   obtain⟨v,s⟩:=l.kind;rcases h with k | k
   ·exact eB k s (by decide)
   ·exact eB k s (by decide)
  have m:=c g _ (.inl a);refine⟨b',c',W,q,?_,d,hC.mono (fun b _ e=>by subst e; exact hG),?_,fun b cs h=>h.imp (fun k=>k.chg hC (c b cs h)) (fun k=>k.chg hC (c b cs h)),hb,r,a.chg hC m⟩
  ·rcases f with h | h
   ·rw[h]; exact .inl hG
   ·rw[h]; exact .inr n.size
  ·rcases f with h | h
   ·rw[h]; exact fun e=>m e.symm
   ·have:=a.lt; omega
theorem pz{e:En}(A:bL w F D g [])(hE:EnA w D e) :
  Calls Tryz.prog 147 #[.pointer (some ⟨g,0,none⟩),.int .i64 0,.int .i64 0,.agg #[e.kv,e.vv]] w fun e' w'=>∃ F' L',e'=.returned (.tuple #[])/\ens L'=[[e]]/\bL w' F' D g L'/\(∀ b,F' b->F b\/w.heap.size<=b)/\Chg F w w':=by
 obtain⟨kv,kl,vv,vl⟩:=e;have B0:=ae w (.cells #[kv,vv] 196);have X0:=aC w [kv,vv] 196;obtain⟨ao,c,hc,hc1,hc2,hat⟩:=A.rd;simp only[List.length_nil] at hc hc1;have hgl:=aJ hc;obtain⟨w1,B⟩:∃ w1,Hid (w1=(w.alloc (.cells #[kv,vv] 196)).alloc (.cells #[.slice none 0 0] 199)):=⟨_,rfl⟩
 have B1:Below w.heap.size w w1:=by rw[B.out]; exact aj B0 (ae _ _)
 have V1:Blk w1 (w.heap.size + 1) [.slice none 0 0] 199:=by
  have:=aC (w.alloc (.cells #[kv,vv] 196)) [.slice none 0 0] 199;rw[World.size_alloc] at this;rw[B.out]; exact this
 have X1:Blk w1 w.heap.size [kv,vv] 196:=by rw[B.out]; exact X0.keep (ae _ _)
 obtain⟨G,C,j,hr,hFG,R2,l,hGg,hkp,hgb,hFg,Y⟩:=xP A hc B1 V1
 have X2:Blk j w.heap.size [kv,vv] 196:=X1.chg l (fun f=>by have:=A.lt f; omega);have hg3:=Y.setCell (i:=0) (.slice (some ⟨G,0,none⟩) 1 C)
 have N:Rw (j.setCell ⟨g,0,none⟩ (.slice (some ⟨G,0,none⟩) 1 C)) 199 1 G 1 C [.slice none 0 0]:=R2.same (Below.heap_setCell j _ _ _ hGg)
 have X3:Blk (j.setCell ⟨g,0,none⟩ (.slice (some ⟨G,0,none⟩) 1 C)) w.heap.size [kv,vv] 196:=X2.off (by omega) _
 have T:∀ e,EnA w D e->EnA (j.setCell ⟨g,0,none⟩ (.slice (some ⟨G,0,none⟩) 1 C)) D e:=fun e he=>(he.keep B1).off fun b hb hk=>by
  obtain⟨cs,k⟩:=hk
  have n1:b≠g:=eB k (hgb.keep B1) (by decide);rw[Below.heap_setCell j _ _ b n1];refine l.same b hb fun f=>A.noU f cs ?_
  exact⟨by rw[<- B1.block b (A.lt f)]; exact k.blk⟩
 have c2g:=Y.cell (i:=0) rfl;have f2g:=Y.free 0
 have hsz3:w.heap.size + 1 + 1<=(j.setCell ⟨g,0,none⟩ (.slice (some ⟨G,0,none⟩) 1 C)).heap.size:=by
  have h1:=l.size
  have h2:w1.heap.size=w.heap.size + 1 + 1:=by rw[B.out]; simp
  have h3:(j.setCell ⟨g,0,none⟩ (.slice (some ⟨G,0,none⟩) 1 C)).heap.size=j.heap.size:=by simp[World.setCell]
  omega
 have C03:Chg F w (j.setCell ⟨g,0,none⟩ (.slice (some ⟨G,0,none⟩) 1 C)):=((Chg.of (F:=F) B1).trans l (fun _ _ h=>h)).cell (.inl hFg) _;have mixed:=mixed;obtain rfl:=B.out;clear B;go_enter Tryz.func147,Tryz.ntmps147;go_wp2_with (at_builtin; refine Lib.wpList_append_run _ rfl _ _ _ _ rfl _ _ rfl rfl _ _ hr ?_);generalize (j.setCell ⟨g,0,none⟩ (.slice (some ⟨G,0,none⟩) 1 C))=d at *
 have O:d.cell? ⟨g,0,none⟩=some (.slice (some ⟨G,0,none⟩) 1 C):=hg3.cell (i:=0) rfl;have ab:=X3.cell (i:=0) rfl;have Q:=X3.cell (i:=1) rfl;have R:=N.cell (i:=0) rfl;obtain⟨z,H⟩:∃ z,Hid (z=d.drew.alloc (.cells #[kv,vv] 196)):=⟨_,rfl⟩
 have V:Below d.heap.size d z:=by rw[H.out]; exact aj (bX d) (ae d.drew _)
 have V4:Blk z d.heap.size [kv,vv] 196:=by rw[H.out]; exact aC d.drew [kv,vv] _
 have hs4:z.heap.size=d.heap.size + 1:=by rw[H.out]; simp
 have t1:Calls Tryz.prog 193 #[.slice none 0 0,.int .i64 0,.slice (some ⟨d.heap.size,0,none⟩) 1 1] z fun e w'=>∃ b2 c2,e=.returned (.slice (some ⟨b2,0,none⟩) 1 c2)/\b2=d.heap.size + 1/\Rw w' 196 2 b2 1 c2 [kv,vv]/\Below z.heap.size z w':=(xh V4).mono (by
  rintro e w' ⟨c',rfl,h1,h2⟩
  exact⟨_,c',rfl,hs4,h1,h2⟩)
 have o:z.cell? ⟨g,0,none⟩=_:=(V.cell (p:=⟨g,0,none⟩) (aJ O)).trans O
 have r:z.cell? ⟨w.heap.size,0,none⟩=_:=(V.cell (p:=⟨w.heap.size,0,none⟩) (aJ ab)).trans ab
 have m:z.cell? ⟨w.heap.size,1,none⟩=_:=(V.cell (p:=⟨w.heap.size,1,none⟩) (aJ Q)).trans Q
 have q:z.cell? ⟨G,0,none⟩=_:=(V.cell (p:=⟨G,0,none⟩) (aJ R)).trans R
 have cgd:d.drew.cell? ⟨g,0,none⟩=_:=O
 have x0d:d.drew.cell? ⟨w.heap.size,0,none⟩=_:=ab
 have x1d:d.drew.cell? ⟨w.heap.size,1,none⟩=_:=Q
 have cGd:d.drew.cell? ⟨G,0,none⟩=_:=R
 have U:g≠G:=fun e=>hGg e.symm
 have K:w.heap.size≠G:=fun e=>by
  obtain⟨ds,k⟩:=N.kind;exact eB X3 k (by decide) e
 have Z:0 < 1:=by decide
 have L:=(show _/\_/\_ from⟨o,r,m⟩)
 have I:=q;rw[H.out] at L I t1
 have aa:Tryz.prog.underlying 142=some (.slice 199):=by kernel_rfl
 refine ph (X:=Nat × Nat) (fun x=>[(some 23,.pointer (some ⟨g,0,none⟩)),(some 24,.pointer (some ⟨g,0,none⟩)),(some 25,.pointer (some ⟨g,0,none⟩)),(some 26,.slice (some ⟨G,0,none⟩) 1 C),(some 27,.int .i64 0),(some 28,.pointer (some ⟨g,0,none⟩)),(some 29,.pointer (some ⟨g,0,none⟩)),(some 30,.pointer (some ⟨g,0,none⟩)),(some 31,.slice (some ⟨G,0,none⟩) 1 C),(some 32,.int .i64 0),(some 33,.pointer (some ⟨G,0,none⟩)),(some 34,.slice none 0 0),(some 35,.int .i64 0),(some 36,.agg #[kv,vv]),(some 37,.slice (some ⟨d.heap.size,0,none⟩) 1 1),(some 38,.slice (some ⟨x.1,0,none⟩) 1 x.2),(some 39,.pointer (some ⟨G,0,none⟩))]) (fun x w'=>∃ j,w'=j.setCell ⟨G,0,none⟩ (.slice (some ⟨x.1,0,none⟩) 1 x.2)/\x.1=d.heap.size + 1/\Rw j 196 2 x.1 1 x.2 [kv,vv]/\Below z.heap.size z j) (fun w'=>w'.cell? ⟨g,0,none⟩=some (.slice (some ⟨G,0,none⟩) 1 C)/\w'.cell? ⟨w.heap.size,0,none⟩=some kv/\w'.cell? ⟨w.heap.size,1,none⟩=some vv) (by kernel_rfl) ⟨cgd,x0d,x1d⟩ ?_ ?_
 ·have hS:=(show _/\_/\_ from⟨cgd,x0d,x1d⟩)
  refine ai 0 (some 23) (.pointer (some ⟨g,0,none⟩)) (by kernel_rfl) (fun _ _=>by kernel_rfl) (fun _ _ _ h=>h) hS ?_
  refine ai 1 (some 24) (.pointer (some ⟨g,0,none⟩)) (by kernel_rfl) (fun _ _=>by kernel_rfl) (fun _ _ _ h=>h) hS ?_
  refine ai 2 (some 25) (.pointer (some ⟨g,0,none⟩)) (by kernel_rfl) (fun _ _=>by kernel_rfl) (fun _ _ _ h=>h) hS ?_
  refine aP 3 (some 26) (.slice (some ⟨G,0,none⟩) 1 C) 142 25 (g) (0) (by kernel_rfl) (by kernel_rfl) (by kernel_rfl) (fun w' h=>fV h.1) (fun _ _ _ h=>h) hS ?_
  refine ai 4 (some 27) (.int .i64 0) (by kernel_rfl) (fun _ _=>by kernel_rfl) (fun _ _ _ h=>h) hS ?_
  refine ai 5 (some 28) (.pointer (some ⟨g,0,none⟩)) (by kernel_rfl) (fun _ _=>by kernel_rfl) (fun _ _ _ h=>h) hS ?_
  refine ai 6 (some 29) (.pointer (some ⟨g,0,none⟩)) (by kernel_rfl) (fun _ _=>by kernel_rfl) (fun _ _ _ h=>h) hS ?_
  refine ai 7 (some 30) (.pointer (some ⟨g,0,none⟩)) (by kernel_rfl) (fun _ _=>by kernel_rfl) (fun _ _ _ h=>h) hS ?_
  refine aP 8 (some 31) (.slice (some ⟨G,0,none⟩) 1 C) 142 30 (g) (0) (by kernel_rfl) (by kernel_rfl) (by kernel_rfl) (fun w' h=>fV h.1) (fun _ _ _ h=>h) hS ?_
  refine ai 9 (some 32) (.int .i64 0) (by kernel_rfl) (fun _ _=>by kernel_rfl) (fun _ _ _ h=>h) hS ?_
  refine ai 10 (some 33) (.pointer (some ⟨G,0,none⟩)) (by kernel_rfl) (fun _ _=>ey (x:=31) (y:=32) (n:=1) (c:=C) (by kernel_rfl) aa (by kernel_rfl) (by kernel_rfl) (rfl) (Z)) (fun _ _ _ h=>h) hS ?_
  refine ai 12 (some 35) (.int .i64 0) (by kernel_rfl) (fun _ _=>by kernel_rfl) (fun _ _ _ h=>h) hS ?_
  refine aP 13 (some 36) (.agg #[kv,vv]) 196 7 (w.heap.size) (0) (by kernel_rfl) (by kernel_rfl) (by kernel_rfl) (fun w' h=>ld_e h.2.1 h.2.2) (fun _ _ _ h=>h) hS ?_
  refine aL [11,14] (by kernel_rfl) (by simp) ?_
  refine bI 11 (some 34) (.slice none 0 0) _ (by kernel_rfl) (iQ 33 (by kernel_rfl) (by kernel_rfl) (p5 cGd)) hS ?_ (bI 14 (some 37) (.slice (some ⟨d.heap.size,0,none⟩) 1 1) _ (by kernel_rfl) (oK (k:=36) (by kernel_rfl) (by kernel_rfl)) L ?_ aU)
  ·refine aL [14] (by kernel_rfl) (by simp) ?_
   refine bI 14 (some 37) (.slice (some ⟨d.heap.size,0,none⟩) 1 1) _ (by kernel_rfl) (oK (k:=36) (by kernel_rfl) (by kernel_rfl)) L ?_ aU;refine bP 15 (some 38) 193 #[.slice none 0 0,.int .i64 0,.slice (some ⟨d.heap.size,0,none⟩) 1 1] (by kernel_rfl) (by kernel_rfl) t1 ?_
   rintro e' j ⟨b2,c2,rfl,E,R2,l⟩;rw[<- H.out] at l
   have u:j.cell? ⟨g,0,none⟩=_:=(l.cell (p:=⟨g,0,none⟩) (aJ o)).trans o
   have v:j.cell? ⟨w.heap.size,0,none⟩=_:=(l.cell (p:=⟨w.heap.size,0,none⟩) (aJ r)).trans r
   have t:j.cell? ⟨w.heap.size,1,none⟩=_:=(l.cell (p:=⟨w.heap.size,1,none⟩) (aJ m)).trans m
   have P:j.cell? ⟨G,0,none⟩=_:=(l.cell (p:=⟨G,0,none⟩) (aJ q)).trans q
   have S:j.frozen? ⟨G,0,none⟩=false:=((N.keep V).keep l).free 0;refine⟨_,rfl,⟨u,v,t⟩,?_⟩;replace hS:=(show _/\_/\_ from⟨u,v,t⟩)
   refine ai 16 (some 39) (.pointer (some ⟨G,0,none⟩)) (by kernel_rfl) (fun _ _=>ey (x:=26) (y:=27) (n:=1) (c:=C) (by kernel_rfl) aa (by kernel_rfl) (by kernel_rfl) (rfl) (Z)) (fun _ _ _ h=>h) hS ?_
   refine aL [17] (by kernel_rfl) (by simp) ?_
   refine dn 17 (j.setCell ⟨G,0,none⟩ (.slice (some ⟨b2,0,none⟩) 1 c2)) (by kernel_rfl) (kt 39 38 (by kernel_rfl) (by kernel_rfl) (by kernel_rfl) P S) ⟨bR U u,bR K v,bR K t⟩ ?_ aU;refine bH (by kernel_rfl) ?_
   exact⟨(b2,c2),by kernel_rfl,j,rfl,E,R2,l⟩
  ·refine aL [11] (by kernel_rfl) (by simp) ?_
   refine bI 11 (some 34) (.slice none 0 0) _ (by kernel_rfl) (iQ 33 (by kernel_rfl) (by kernel_rfl) (p5 I)) L ?_ aU;refine bP 15 (some 38) 193 #[.slice none 0 0,.int .i64 0,.slice (some ⟨d.heap.size,0,none⟩) 1 1] (by kernel_rfl) (by kernel_rfl) t1 ?_
   rintro e' j ⟨b2,c2,rfl,E,R2,l⟩;rw[<- H.out] at l
   have u:j.cell? ⟨g,0,none⟩=_:=(l.cell (p:=⟨g,0,none⟩) (aJ o)).trans o
   have v:j.cell? ⟨w.heap.size,0,none⟩=_:=(l.cell (p:=⟨w.heap.size,0,none⟩) (aJ r)).trans r
   have t:j.cell? ⟨w.heap.size,1,none⟩=_:=(l.cell (p:=⟨w.heap.size,1,none⟩) (aJ m)).trans m
   have P:j.cell? ⟨G,0,none⟩=_:=(l.cell (p:=⟨G,0,none⟩) (aJ q)).trans q
   have S:j.frozen? ⟨G,0,none⟩=false:=((N.keep V).keep l).free 0;refine⟨_,rfl,⟨u,v,t⟩,?_⟩;replace hS:=(show _/\_/\_ from⟨u,v,t⟩)
   refine ai 16 (some 39) (.pointer (some ⟨G,0,none⟩)) (by kernel_rfl) (fun _ _=>ey (x:=26) (y:=27) (n:=1) (c:=C) (by kernel_rfl) aa (by kernel_rfl) (by kernel_rfl) (rfl) (Z)) (fun _ _ _ h=>h) hS ?_
   refine aL [17] (by kernel_rfl) (by simp) ?_
   refine dn 17 (j.setCell ⟨G,0,none⟩ (.slice (some ⟨b2,0,none⟩) 1 c2)) (by kernel_rfl) (kt 39 38 (by kernel_rfl) (by kernel_rfl) (by kernel_rfl) P S) ⟨bR U u,bR K v,bR K t⟩ ?_ aU;refine bH (by kernel_rfl) ?_
   exact⟨(b2,c2),by kernel_rfl,j,rfl,E,R2,l⟩
 rintro⟨b2,J⟩ w' ⟨M,rfl,E,R4,D4⟩;dsimp only at E R4;simp only[iZ,Act.put,List.setIfInBounds_toArray,List.set_cons_zero,List.set_cons_succ]
 have s:Below d.heap.size d M:=aj V D4;subst E;have W:=(hg3.keep s).off U (i:=0) (.slice (some ⟨d.heap.size + 1,0,none⟩) 1 J);have R5:=(N.keep s).set 0 (by simp) (.slice (some ⟨d.heap.size + 1,0,none⟩) 1 J)
 have hNG:d.heap.size + 1≠G:=by have:=N.lt; omega
 have R6:Rw (M.setCell ⟨G,0,none⟩ (.slice (some ⟨d.heap.size + 1,0,none⟩) 1 J)) 196 2 (d.heap.size + 1) 1 J [kv,vv]:=R4.same (Below.heap_setCell M _ _ _ hNG)
 have E6:EnA (M.setCell ⟨G,0,none⟩ (.slice (some ⟨d.heap.size + 1,0,none⟩) 1 J)) D ⟨kv,kl,vv,vl⟩:=((T _ hE).keep s).off fun b hb hk=>by
  obtain⟨cs,k⟩:=hk;obtain⟨ds,k'⟩:=(N.keep s).kind;exact Below.heap_setCell M _ _ b (eB k k' (by decide))
 have C6:Chg F w (M.setCell ⟨G,0,none⟩ (.slice (some ⟨d.heap.size + 1,0,none⟩) 1 J)):=(C03.trans (Chg.of (F:=F) s) (fun _ _ h=>h)).cell hFG _;have cg5:=W.cell (i:=0) rfl;have cG5:=R5.cell (i:=0) rfl
 have hfin:bL (M.setCell ⟨G,0,none⟩ (.slice (some ⟨d.heap.size + 1,0,none⟩) 1 J)) (fun x=>x=g\/x=G\/x=d.heap.size + 1) D g [⟨d.heap.size + 1,J,[⟨kv,kl,vv,vl⟩]⟩]:=by
  refine⟨⟨_,W,.inl rfl,.inr ⟨G,C,rfl,.inr (.inl rfl),R5⟩⟩,fun p hp => ?_,by simp,fun b hb => ?_⟩
  ·simp at hp;subst hp;exact⟨⟨R6,fun e he=>by simp at he; subst he; exact E6⟩,.inr (.inr rfl)⟩
  ·rcases hb with rfl | rfl | rfl
   ·exact⟨_,_,W,by decide⟩
   ·obtain⟨ds,k⟩:=R5.kind;exact⟨ds,_,k,by decide⟩
   ·obtain⟨ds,k⟩:=R6.kind;exact⟨ds,_,k,by decide⟩
 generalize (M.setCell ⟨G,0,none⟩ (.slice (some ⟨d.heap.size + 1,0,none⟩) 1 J))=W6 at *;go_wp2;go_end0;refine⟨_,_,rfl,?_,hfin,fun b hb => ?_,C6⟩
 ·rfl
 ·rcases hb with rfl | rfl | rfl
  ·exact .inl hFg
  ·exact hFG
  ·exact .inr (by omega)
end
end Pg
end
section
namespace Pg
open Go.RowKit Go.Lib
section
variable {es:List En}{k ul:List Int}{L:List Pg}{w:World}{i g:Nat}{cs:List Value}{v u kv:Value}{F D:Nat->Prop}
def has(P:List (List En))(k:List Int):Bool := !P.isEmpty && thr (kys (P.getD (pgi P k) [])) k
def got(P:List (List En))(k:List Int):List Int:=((P.getD (pgi P k) [])[plc (kys (P.getD (pgi P k) [])) k]?.map En.vl).getD []
def fy(P:List (List En))(e:En):List (List En) :=
 if P=[] then [[e]]
 else
  let i:=pgi P e.kl
  let es:=P.getD i []
  let q:=plc (kys es) e.kl
  if thr (kys es) e.kl then P.set i (es.modify q fun x=>{ x with vv:=e.vv,vl:=e.vl }) else rE P i q e
theorem lx(h:thr (kys es) k=true):∃ e,es[plc (kys es) k]? = some e/\e.kl=k:=by
 simp only[thr,decide_eq_true_eq,kys,List.getElem?_map] at h;obtain⟨e,he,hk⟩:=Option.map_eq_some_iff.1 h;exact⟨e,he,hk⟩
theorem so(h:L≠[]):ens L≠[]:=fun e=>h (by simpa[ens] using e)
theorem pT(h:L≠[])(k:List Int):∃ p,L[pgi (ens L) k]? = some p/\(ens L).getD (pgi (ens L) k) []=p.es:=by
 have:=pgi_lt (so h) k;simp only[ens,List.length_map] at this;refine⟨L[pgi (ens L) k]'this,List.getElem?_eq_getElem _,?_⟩;exact eN (List.getElem?_eq_getElem _)
theorem yf{G:Nat}{t:TypeId}(h:Blk w G cs t)(hi:cs[i]? = some v)(b:Nat):(w.setCell ⟨G,i,none⟩ v).heap[b]? = w.heap[b]? := by
 by_cases e:b=G
 ·subst e;have c:=(h.setCell (i:=i) v).blk;rw[c,h.blk];have:cs.set i v=cs:=by
   obtain⟨a,rfl⟩:=List.getElem?_eq_some_iff.1 hi;exact List.set_getElem_self a
  rw[this]
 ·exact Below.heap_setCell w _ v b e
theorem bL.upd{w1:World}{q:Nat}{p:Pg}{e:En}(A:bL w F D g L)(hi:L[i]? = some p)(he:p.es[q]? = some e)(B:Below w.heap.size w w1)(hu:OB w1 (w.heap.size <= ·) u ul) :
  bL (w1.setCell ⟨p.b,q * 2 + 1,none⟩ u) F (fun b=>D b\/w.heap.size<=b) g (L.set i ⟨p.b,p.c,p.es.set q { e with vv:=u,vl:=ul }⟩)/\Chg F w (w1.setCell ⟨p.b,q * 2 + 1,none⟩ u):=by
 have r:=(List.getElem?_eq_some_iff.1 hi).1
 have hL:L≠[]:=fun e=>by subst e; simp at r
 obtain⟨G,C,P,I,E,t⟩:=A.opn hL;have m:=A.b8 p (List.mem_of_getElem? hi);have z:=(List.getElem?_eq_some_iff.1 he).1
 have hC:Chg (· = p.b) w (w1.setCell ⟨p.b,q * 2 + 1,none⟩ u):=(Chg.of (F:=(· = p.b)) B).cell (.inl rfl) _
 have a:∀ {v:Value} {l:List Int} {D':Nat->Prop},OB w1 D' v l->OB (w1.setCell ⟨p.b,q * 2 + 1,none⟩ u) D' v l:=fun h=>⟨h.oct,h.ex.imp id (by
  rintro⟨b,c,e,T,s⟩;refine⟨b,c,e,T,s.same (Below.heap_setCell w1 _ _ b ?_)⟩;obtain⟨U,k⟩:=s.kind;obtain⟨O,R⟩:=(m.1.row.keep B).kind
  exact eB k R (by decide))⟩
 have o:Rw (w1.setCell ⟨p.b,q * 2 + 1,none⟩ u) 196 2 p.b p.es.length p.c (flat (p.es.set q { e with vv:=u,vl:=ul })) :=
  ((m.1.row.keep B).set (q * 2 + 1) (by rw[jz]; omega) u).to (mU u ul he)
 have hA:PgA (w1.setCell ⟨p.b,q * 2 + 1,none⟩ u) (fun b=>D b\/w.heap.size<=b) ⟨p.b,p.c,p.es.set q { e with vv:=u,vl:=ul }⟩:=by
  refine⟨by simpa using o,fun S y => ?_⟩;obtain⟨j,n⟩:=List.getElem?_of_mem y;rw[List.getElem?_set] at n;by_cases M:q=j
  ·subst M;rw[if_pos rfl,if_pos z] at n
   cases n;have f:=m.1.dJ e (List.mem_of_getElem? he);exact⟨(a (f.k.keep B)).mono (fun _ _ h=>.inl h),(a hu).mono (fun _ _ h=>.inr h)⟩
  ·rw[if_neg M] at n;have f:=m.1.dJ S (List.mem_of_getElem? n);exact⟨(a (f.k.keep B)).mono (fun _ _ h=>.inl h),(a (f.v.keep B)).mono (fun _ _ h=>.inl h)⟩
 obtain⟨K,Q⟩:=A.put (p':=⟨p.b,p.c,p.es.set q { e with vv:=u,vl:=ul }⟩) (D':=fun b=>D b\/w.heap.size<=b) P I E t hi hC (.inl rfl) hA (fun _ _ h=>.inl h)
 have hv:(⟨p.b,p.c,p.es.set q { e with vv:=u,vl:=ul }⟩:Pg).v=p.v:=by simp[Pg.v]
 rw[hv] at K Q
 have J:Rw (w1.setCell ⟨p.b,q * 2 + 1,none⟩ u) 199 1 G L.length C (L.map Pg.v):=t.chg hC (fun e=>m.1.eV t e.symm)
 have d:∀ b,((w1.setCell ⟨p.b,q * 2 + 1,none⟩ u).setCell ⟨G,i,none⟩ p.v).heap[b]? = (w1.setCell ⟨p.b,q * 2 + 1,none⟩ u).heap[b]? := fun b=>by
  obtain⟨sp,h,_⟩:=J.ex;exact yf h (by rw[List.getElem?_append_left (by simpa using r)]; simp[hi]) b
 have H:∀ x,((F x/\x≠p.b)\/x=p.b)<->F x:=fun x=>⟨fun h=>h.elim (fun h=>h.1) (fun h=>by subst h; exact m.2),fun h=>by
  by_cases ex:x=p.b
  ·exact .inr ex
  ·exact .inl ⟨h,ex⟩⟩
 have N:=K.same (w':=w1.setCell ⟨p.b,q * 2 + 1,none⟩ u) (fun b _=>(d b).symm) (fun b _ _ _=>(d b).symm);rw[show (fun x=>(F x/\x≠p.b)\/x=p.b)=F from funext fun x=>propext (H x)] at N;exact⟨N,⟨hC.os,hC.tape,hC.output,hC.size,fun b hb hf=>hC.same b hb fun e=>hf (by subst e; exact m.2)⟩⟩
theorem Cw(A:bL w F D g L)(O:Ord (ens L))(hs:∀ es∈ens L,es.length<=1000)(hn:L.length<=100000000)(h:By w kv k)(hb:∀ p∈L,∀ e∈p.es,e.vl.length<=1000000000) :
  Calls Tryz.prog 170 #[.pointer (some ⟨g,0,none⟩),kv] w fun e w'=>∃ v,e=.returned (.tuple #[v,.bool (has (ens L) k)])/\OB w' (w.heap.size <= ·) v (if has (ens L) k then got (ens L) k else [])/\Below w.heap.size w w':=by
 by_cases hL:L=[]
 ·subst hL;have t:=my (v:=kv) A
  have e1:has (ens []) k=false:=rfl;rw[e1];clear A O hs hb h;go_enter Tryz.func170,Tryz.ntmps170;go_wp2_with (go_at_call 146; refine t.mono ?_; rintro z l ⟨rfl,rfl⟩);go_ret2;exact⟨_,rfl,⟨fun _ h=>by simp at h,.inl ⟨rfl,rfl⟩⟩,Below.refl _ _⟩
 ·obtain⟨p,s,o⟩:=pT hL k;have f:=List.mem_of_getElem? s;have t:=lA A O h (by omega) s (by have:=hs p.es (List.mem_map.2 ⟨p,f,rfl⟩); omega);obtain⟨G,C,y,T,R,x⟩:=A.opn hL;have S:=(List.getElem?_eq_some_iff.1 s).1
  have I:has (ens L) k=thr (kys p.es) k:=by
   unfold has;rw[o];have:(ens L).isEmpty=false:=by simp[ens,hL]
   simp[this]
  have d:got (ens L) k=((p.es)[plc (kys p.es) k]?.map En.vl).getD []:=by unfold got; rw[o]
  rw[I];by_cases j:thr (kys p.es) k=true
  ·obtain⟨e,he,P⟩:=lx j;rw[he] at d;simp only[Option.map_some,Option.getD_some] at d;rw[j,if_pos rfl,d];rw[j] at t;have cg:=y.cell (i:=0) rfl;have B:=x.cell (i:=pgi (ens L) k) (v:=p.v) (by simp[s]);have J:=(A.b8 p f).1.dJ e (List.mem_of_getElem? he);have cv:=(A.b8 p f).1.row.cell (kx he)
   have H:∀ w',Below w.heap.size w w'->Calls Tryz.prog 78 #[e.vv] w' _:=fun w' c=>cE (J.v.keep c).by (hb p f e (List.mem_of_getElem? he))
   have M:=(List.getElem?_eq_some_iff.1 he).1;generalize pgi (ens L) k=i at *;generalize plc (kys p.es) k=q at *
   have z1:(i:Int) < L.length:=by omega
   have z2:(q:Int) < p.es.length:=by omega
   simp only[Pg.v] at B;generalize L.length=n at *;generalize p.es.length=m at *;clear A O hs hb h x y J j;go_enter Tryz.func170,Tryz.ntmps170;go_wp2_with (first | (go_at_call 146; refine t.mono ?_; rintro z l ⟨rfl,c⟩; have U:l.cell? ⟨g,0,none⟩=_:=(c.cell (p:=⟨g,0,none⟩) (aJ cg)).trans cg; have V:l.cell? ⟨G,i,none⟩=_:=(c.cell (p:=⟨G,i,none⟩) (aJ B)).trans B; have K:l.cell? ⟨p.b,q * 2 + 1,none⟩=_:=(c.cell (p:=⟨p.b,q * 2 + 1,none⟩) (aJ cv)).trans cv; have E:=H l c; clear t H) | (go_at_call 78; refine E.mono ?_; rintro z W ⟨Q,rfl,N,u⟩));go_ret2;exact⟨Q,rfl,N.mono (fun b _ hb=>Nat.le_trans c.size hb),aj c u⟩
  ·have r:thr (kys p.es) k=false:=by simpa using j
   rw[r] at t ⊢;generalize pgi (ens L) k=i at *;generalize plc (kys p.es) k=q at *;clear A O hs hb h x y j r I d;go_enter Tryz.func170,Tryz.ntmps170;go_wp2_with (go_at_call 146; refine t.mono ?_; rintro z l ⟨rfl,c⟩);go_ret2;exact⟨_,rfl,⟨fun _ h=>by simp at h,.inl ⟨rfl,rfl⟩⟩,c⟩
end
end Pg
end
section
namespace Pg
open Go.RowKit Go.Lib
section
variable {es:List En}{q g:Nat}{w:World}{D F:Nat->Prop}{v l k:List Int}{L:List Pg}{kv vv:Value}
theorem xa{e:En}(h:es[q]? = some e)(f:En->En):es.modify q f=es.set q (f e):=by
 have a:=(List.getElem?_eq_some_iff.1 h).1;apply List.ext_getElem?;intro j;rw[List.getElem?_modify,List.getElem?_set];by_cases e:q=j
 ·subst e; rw[if_pos rfl,if_pos a,h]; simp
 ·rw[if_neg e]; simp[e]
theorem OB.shape{v:Value}(h:OB w D v l):∃ ao c,v=.slice ao l.length c:=by
 rcases h.ex with⟨rfl,rfl⟩ | ⟨b,c,rfl,_⟩
 ·exact⟨none,0,rfl⟩
 ·exact⟨_,c,rfl⟩
def SetR(w w':World)(F D:Nat->Prop)(g:Nat)(L:List Pg)(k v:List Int):Prop :=
 ∃ F' L' nk nv,ens L'=fy (ens L) ⟨nk,k,nv,v⟩/\bL w' F' (fun b=>D b\/w.heap.size<=b) g L'/\(∀ b,F' b->F b\/w.heap.size<=b)/\Chg F w w'
theorem wX{F D:Nat → Prop}{p:Pg}(A : bL w F D g L)(O : Ord (ens L))(hs : p.es.length ≤ 1000)(hn : L.length ≤ 100000000)(h : By w kv k)(hv : By w vv v)(R : v.length ≤ 1000000000)(hL : L ≠ [])(y : L[pgi (ens L) k]? = some p)(r : (ens L).getD (pgi (ens L) k) [] = p.es)(K : thr (kys p.es) k = true) :
    Calls Tryz.prog 97 #[.pointer (some ⟨g, 0, none⟩), kv, vv] w fun e w' => e = .returned (.bool false) ∧ SetR w w' F D g L k v := by
  have t := lA A O h (by omega) y (by omega);obtain⟨G, C, V, hFg, hFG, U⟩:= A.opn hL;obtain⟨e, he, hek⟩:= lx K;have P := List.mem_of_getElem? y;have hlt := (List.getElem?_eq_some_iff.1 y).1;have hql := (List.getElem?_eq_some_iff.1 he).1
  have hS : ∀ u, fy (ens L) ⟨e.kv, k, u, v⟩ = (ens L).set (pgi (ens L) k) (p.es.set (plc (kys p.es) k) { e with vv := u, vl := v }) := fun u => by
    unfold fy;rw[if_neg (so hL)];simp only[r];rw[if_pos K, xa he]
  have hS : Hid _ := hS;rw[K] at t;have cg := V.cell (i := 0) rfl;have S := U.cell (i := pgi (ens L) k) (v := p.v) (by simp[y])
  have X : ∀ w', Below w.heap.size w w' → Calls Tryz.prog 78 #[vv] w' _ := fun w' J => cE (hv.keep J) R
  have d := (A.b8 p P).1;have cv := d.row.cell (kx he);have fv := d.row.free (plc (kys p.es) k * 2 + 1)
  have n1 : g ≠ p.b := fun e => d.eX V e.symm
  have n2 : G ≠ p.b := fun e => d.eV U e.symm
  generalize x : pgi (ens L) k = i at *;generalize s : plc (kys p.es) k = q at *
  have x : Hid _ := x
  have s : Hid _ := s
  have z1 : (i : Int) < L.length := by omega
  have z2 : (q : Int) < p.es.length := by omega
  simp only[Pg.v] at S;generalize z : L.length = n at *;generalize E : p.es.length = m at *
  have z : Hid _ := z
  have E : Hid _ := E;clear K r;have mixed := mixed;go_enter Tryz.func97, Tryz.ntmps97;go_wp2_with (first | (go_at_call 146; refine t.mono ?_; rintro e' I ⟨rfl, J⟩))
  have H : I.drew.cell? ⟨g, 0, none⟩ = some (.slice (some ⟨G, 0, none⟩) n C) := (J.cell (p := ⟨g, 0, none⟩) (aJ cg)).trans cg
  have B : I.drew.cell? ⟨G, i, none⟩ = some (.slice (some ⟨p.b, 0, none⟩) m p.c) := (J.cell (p := ⟨G, i, none⟩) (aJ S)).trans S
  have j : Below w.heap.size w I.drew := aj J (bX I);have Q := X I.drew j;go_region_held3 (fun w' => w'.cell? ⟨g, 0, none⟩ = some (.slice (some ⟨G, 0, none⟩) n C) ∧ w'.cell? ⟨G, i, none⟩ = some (.slice (some ⟨p.b, 0, none⟩) m p.c)) (first | exact⟨by assumption, by assumption⟩ | exact⟨bR n1 (by assumption), bR n2 (by assumption)⟩)
    (first
    | (go_at_call 78; refine Q.mono ?_; rintro e' o ⟨v', rfl, W, f⟩; obtain⟨N, M, rfl⟩:= W.shape; have cg2 : o.cell? ⟨g, 0, none⟩ = _ := (f.cell (p := ⟨g, 0, none⟩) (aJ H)).trans H; have Y : o.cell? ⟨G, i, none⟩ = _ := (f.cell (p := ⟨G, i, none⟩) (aJ B)).trans B; have l := aj j f; have cv2 : o.cell? ⟨p.b, q * 2 + 1, none⟩ = _ := (l.cell (p := ⟨p.b, q * 2 + 1, none⟩) (aJ cv)).trans cv; have fv2 : o.frozen? ⟨p.b, q * 2 + 1, none⟩ = false := (d.row.keep l).free _))
  all_goals (
    have T : OB o (w.heap.size ≤ ·) (.slice N v.length M) v := W.mono (fun b _ hb => Nat.le_trans j.size hb);obtain⟨A2, Z⟩:= A.upd y he l T;generalize (o.setCell ⟨p.b, q * 2 + 1, none⟩ (.slice N v.length M)) = W3 at *;go_wp2;go_ret
    exact⟨rfl, F, _, e.kv, .slice N v.length M, by rw[hS.out, qg], A2, fun b hb => .inl hb, Z⟩)
theorem ig{i:Nat}(A:bL w F D g L)(h:By w kv k)(hv:By w vv v)(p:k.length<=1000000000)(r:v.length<=1000000000)(t:Calls Tryz.prog 146 #[.pointer (some ⟨g,0,none⟩),kv] w fun e w'=>e=.returned (.tuple #[.int .i64 i,.int .i64 q,.bool false])/\Below w.heap.size w w')(z:∀ (w':World) (nk nv:Value),bL w' F (fun b=>D b\/w.heap.size<=b) g L->EnA w' (fun b=>D b\/w.heap.size<=b) ⟨nk,k,nv,v⟩->Calls Tryz.prog 147 #[.pointer (some ⟨g,0,none⟩),.int .i64 i,.int .i64 q,.agg #[nk,nv]] w' fun e' w''=>∃ F' L',e'=.returned (.tuple #[])/\ens L'=fy (ens L) ⟨nk,k,nv,v⟩/\bL w'' F' (fun b=>D b\/w.heap.size<=b) g L'/\(∀ b,F' b->F b\/w'.heap.size<=b)/\Chg F w' w'') :
  Calls Tryz.prog 97 #[.pointer (some ⟨g,0,none⟩),kv,vv] w fun e w'=>e=.returned (.bool true)/\SetR w w' F D g L k v:=by
 have u:∀ w',Below w.heap.size w w'->Calls Tryz.prog 78 #[kv] w' _:=fun w' f=>cE (h.keep f) p
 have y:∀ w',Below w.heap.size w w'->Calls Tryz.prog 78 #[vv] w' _:=fun w' f=>cE (hv.keep f) r
 have mk:True:=trivial;clear h hv;go_enter Tryz.func97,Tryz.ntmps97
 go_wp2_with (first
  | (go_at_call 146; refine t.mono ?_; rintro e' G ⟨rfl,f⟩; have m:=u G f; clear t u)
  | (go_at_call 78; clear mk; refine m.mono ?_; rintro e' B ⟨nk,rfl,x,o⟩; have d:=aj f o; have n:=y B d; clear m y; obtain⟨K,H,rfl⟩:=x.shape)
  | (go_at_call 78; refine n.mono ?_; rintro e' C ⟨nv,rfl,j,l⟩; clear n; obtain⟨M,I,rfl⟩:=j.shape; have c:=aj d l; have s:=z C _ _ ((A.keep c).mono (fun _ _ h=>.inl h)) ⟨(x.keep l).mono (fun b _ hb=>.inr (Nat.le_trans f.size hb)),j.mono (fun b _ hb=>.inr (Nat.le_trans d.size hb))⟩)
  | (go_at_call 147; refine s.mono ?_; rintro e' J ⟨F',L',rfl,E,hA,hF,hC⟩))
 go_ret;exact⟨rfl,F',L',_,_,E,hA,fun b hb=>(hF b hb).imp id (fun h=>Nat.le_trans c.size h),(Chg.of (F:=F) c).trans hC (fun _ _ h=>h)⟩
theorem CA(A:bL w F D g L)(O:Ord (ens L))(hs:∀ es∈ens L,es.length<=32)(hn:L.length<=100000000)(h:By w kv k)(hv:By w vv v)(c:k.length<=1000000000)(b:v.length<=1000000000) :
  Calls Tryz.prog 97 #[.pointer (some ⟨g,0,none⟩),kv,vv] w fun e w'=>e=.returned (.bool (!has (ens L) k))/\SetR w w' F D g L k v:=by
 by_cases hL:L=[]
 ·subst hL;refine ig (i:=0) (q:=0) A h hv c b ((my A).mono ?_) (fun w' nk z m y=>(pz m y).mono ?_)
  ·rintro e w' ⟨rfl,rfl⟩; exact⟨rfl,Below.refl _ _⟩
  ·rintro e x ⟨n,l,rfl,r,hA,hF,hC⟩;exact⟨n,l,rfl,r,hA,hF,hC⟩
 ·obtain⟨p,j,a⟩:=pT hL k;have u:=List.mem_of_getElem? j;have s:=hs p.es (List.mem_map.2 ⟨p,u,rfl⟩)
  have B:has (ens L) k=thr (kys p.es) k:=by
   unfold has;rw[a];have:(ens L).isEmpty=false:=by simp[ens,hL]
   simp[this]
  rw[B];by_cases o:thr (kys p.es) k=true
  ·rw[o];exact wX A O (by omega) hn h hv b hL j a o
  ·have f:thr (kys p.es) k=false:=by simpa using o
   have t:=lA A O h (by omega) j (by omega);rw[f] at t ⊢;have d:=oW (kys p.es) k;simp only[kys,List.length_map] at d;refine ig A h hv c b t (fun w' nk z m y=>(sW m j (q:=plc (kys p.es) k) d s hn y).mono ?_);rintro e x ⟨n,l,rfl,r,hA,hF,hC⟩;refine⟨n,l,rfl,?_,hA,hF,hC⟩;rw[r];unfold fy;rw[if_neg (so hL)];simp only[a];rw[if_neg (by rw[f]; decide)]
end
end Pg
end
section
namespace Pg
open Go.RowKit Go.Lib
section
variable {w:World}{v:Value}{F D:Nat->Prop}{L:List Pg}
def jnb(P:List (List En))(i:Nat):Bool:=decide (i + 1 < P.length) && decide ((P.getD i []).length + (P.getD (i + 1) []).length<=16)
def jnQ(P:List (List En))(i:Nat):List (List En):=P.take i ++ [P.getD i [] ++ P.getD (i + 1) []] ++ P.drop (i + 2)
theorem jn_neg:Calls Tryz.prog 209 #[v,.int .i64 (-1)] w fun e w'=>e=.returned (.bool false)/\Below w.heap.size w w':=by
 have mixed:=mixed;go_enter Tryz.func209,Tryz.ntmps209;go_wp2;go_region;go_wp2;go_ret;exact⟨rfl,bX w⟩
theorem zt{g i:Nat}(A:bL w F D g L)(hi:i < L.length)(hn:L.length<=100000000)(hs:∀ es∈ens L,es.length<=1000) :
  Calls Tryz.prog 209 #[.pointer (some ⟨g,0,none⟩),.int .i64 i] w fun e w'=>e=.returned (.bool (jnb (ens L) i))/\Below w.heap.size w w':=by
 have hL:L≠[]:=fun e=>by subst e; simp at hi
 obtain⟨G,C,B,M,K,s⟩:=A.opn hL;have cg:=B.cell (i:=0) rfl
 have r:(ens L).length=L.length:=by simp[ens]
 have mixed:=mixed
 have H:IntKind.i64.wrap ((i:Int) + 1)=(i:Int) + 1:=by rw[IntKind.wrap_i64]; omega
 have J:(0:Int)<=(i:Int):=by omega
 by_cases t:i + 1 < L.length
 ·obtain⟨p,E⟩:∃ p,L[i]? = some p:=⟨L[i],List.getElem?_eq_getElem hi⟩
  obtain⟨d,l⟩:∃ d,L[i + 1]? = some d:=⟨L[i + 1],List.getElem?_eq_getElem t⟩
  have I:=s.cell (i:=i) (v:=p.v) (by simp[E]);have m:=s.cell (i:=i + 1) (v:=d.v) (by simp[l]);have s1:=hs p.es (List.mem_map.2 ⟨p,List.mem_of_getElem? E,rfl⟩);have s2:=hs d.es (List.mem_map.2 ⟨d,List.mem_of_getElem? l,rfl⟩)
  have u:Hid (jnb (ens L) i=decide ((p.es.length:Int) + (d.es.length:Int)<=16)):=by
   show _=_
   unfold jnb;rw[r,decide_eq_true t,eN E,eN l,Bool.true_and];congr 1
   exact propext ⟨fun h=>by omega,fun h=>by omega⟩
  simp only[Pg.v] at I m;generalize hln:L.length=n at *;generalize p.es.length=x at *;generalize d.es.length=y at *
  have z1:(i:Int) + 1 < n:=by omega
  have z2:(i:Int) < n:=by omega
  have z3:((i:Int) + 1).toNat=i + 1:=by omega
  have z4:(0:Int)<=(i:Int) + 1:=by omega
  have z5:IntKind.i64.wrap ((x:Int) + (y:Int))=(x:Int) + (y:Int):=by rw[IntKind.wrap_i64]; omega
  have f:w.drew.cell? ⟨g,0,none⟩=some (.slice (some ⟨G,0,none⟩) n C):=cg
  have q:w.drew.cell? ⟨G,i,none⟩=some (.slice (some ⟨p.b,0,none⟩) x p.c):=I
  have j:w.drew.cell? ⟨G,i + 1,none⟩=some (.slice (some ⟨d.b,0,none⟩) y d.c):=m;clear A hs s B hln;go_enter Tryz.func209,Tryz.ntmps209;go_wp2
  have o:Tryz.prog.underlying 142=some (.slice 199):=by kernel_rfl
  have z:i < n:=hi;refine bU (S:=fun w'=>w'.cell? ⟨g,0,none⟩=some (.slice (some ⟨G,0,none⟩) n C)/\w'.cell? ⟨G,i,none⟩=some (.slice (some ⟨p.b,0,none⟩) x p.c)/\w'.cell? ⟨G,i + 1,none⟩=some (.slice (some ⟨d.b,0,none⟩) y d.c)) (by kernel_rfl) ⟨f,q,j⟩ ?_
  have hS:=(show _/\_/\_ from⟨f,q,j⟩)
  refine ai 0 (some 5) (.int .i64 i) (by kernel_rfl) (fun _ _=>by kernel_rfl) (fun _ _ _ h=>h) hS ?_
  refine iM 1 (some 6) (.bool (decide ((0:Int)<=(i:Int)))) (.bool true) (by rw[decide_eq_true J]) (by kernel_rfl) (fun _ _=>by kernel_rfl) (fun _ _ _ h=>h) hS ?_
  refine ai 2 (some 7) (.bool true) (by kernel_rfl) (fun _ _=>by kernel_rfl) (fun _ _ _ h=>h) hS ?_
  refine ai 3 (some 8) (.int .i64 i) (by kernel_rfl) (fun _ _=>by kernel_rfl) (fun _ _ _ h=>h) hS ?_
  refine iM 4 (some 9) (.int .i64 (IntKind.i64.wrap ((i:Int) + 1))) (.int .i64 ((i:Int) + 1)) (by rw[H]) (by kernel_rfl) (fun _ _=>by kernel_rfl) (fun _ _ _ h=>h) hS ?_
  refine ai 5 (some 10) (.pointer (some ⟨g,0,none⟩)) (by kernel_rfl) (fun _ _=>by kernel_rfl) (fun _ _ _ h=>h) hS ?_
  refine ai 6 (some 11) (.pointer (some ⟨g,0,none⟩)) (by kernel_rfl) (fun _ _=>by kernel_rfl) (fun _ _ _ h=>h) hS ?_
  refine ai 7 (some 12) (.pointer (some ⟨g,0,none⟩)) (by kernel_rfl) (fun _ _=>by kernel_rfl) (fun _ _ _ h=>h) hS ?_
  refine aP 8 (some 13) (.slice (some ⟨G,0,none⟩) n C) 142 12 (g) (0) (by kernel_rfl) (by kernel_rfl) (by kernel_rfl) (fun w' h=>fV h.1) (fun _ _ _ h=>h) hS ?_
  refine ai 9 (some 14) (.int .i64 n) (by kernel_rfl) (fun _ _=>by kernel_rfl) (fun _ _ _ h=>h) hS ?_
  refine iM 10 (some 15) (.bool (decide ((i:Int) + 1 < (n:Int)))) (.bool true) (by rw[decide_eq_true (by omega)]) (by kernel_rfl) (fun _ _=>by kernel_rfl) (fun _ _ _ h=>h) hS ?_
  refine ai 11 (some 16) (.bool true) (by kernel_rfl) (fun _ _=>by kernel_rfl) (fun _ _ _ h=>h) hS ?_
  refine ai 12 (some 17) (.bool true) (by kernel_rfl) (fun _ _=>by kernel_rfl) (fun _ _ _ h=>h) hS ?_
  refine ai 13 (some 18) (.pointer (some ⟨g,0,none⟩)) (by kernel_rfl) (fun _ _=>by kernel_rfl) (fun _ _ _ h=>h) hS ?_
  refine ai 14 (some 19) (.pointer (some ⟨g,0,none⟩)) (by kernel_rfl) (fun _ _=>by kernel_rfl) (fun _ _ _ h=>h) hS ?_
  refine ai 15 (some 20) (.pointer (some ⟨g,0,none⟩)) (by kernel_rfl) (fun _ _=>by kernel_rfl) (fun _ _ _ h=>h) hS ?_
  refine aP 16 (some 21) (.slice (some ⟨G,0,none⟩) n C) 142 20 (g) (0) (by kernel_rfl) (by kernel_rfl) (by kernel_rfl) (fun w' h=>fV h.1) (fun _ _ _ h=>h) hS ?_
  refine ai 17 (some 22) (.int .i64 i) (by kernel_rfl) (fun _ _=>by kernel_rfl) (fun _ _ _ h=>h) hS ?_
  refine ai 18 (some 23) (.pointer (some ⟨G,i,none⟩)) (by kernel_rfl) (fun _ _=>ey (x:=21) (y:=22) (n:=n) (c:=C) (by kernel_rfl) o (by kernel_rfl) (by kernel_rfl) (rfl) (z)) (fun _ _ _ h=>h) hS ?_
  refine aP 19 (some 24) (.slice (some ⟨p.b,0,none⟩) x p.c) 199 23 (G) (i) (by kernel_rfl) (by kernel_rfl) (by kernel_rfl) (fun w' h=>p5 h.2.1) (fun _ _ _ h=>h) hS ?_
  refine ai 20 (some 25) (.int .i64 x) (by kernel_rfl) (fun _ _=>by kernel_rfl) (fun _ _ _ h=>h) hS ?_
  refine ai 21 (some 26) (.pointer (some ⟨g,0,none⟩)) (by kernel_rfl) (fun _ _=>by kernel_rfl) (fun _ _ _ h=>h) hS ?_
  refine ai 22 (some 27) (.pointer (some ⟨g,0,none⟩)) (by kernel_rfl) (fun _ _=>by kernel_rfl) (fun _ _ _ h=>h) hS ?_
  refine ai 23 (some 28) (.pointer (some ⟨g,0,none⟩)) (by kernel_rfl) (fun _ _=>by kernel_rfl) (fun _ _ _ h=>h) hS ?_
  refine aP 24 (some 29) (.slice (some ⟨G,0,none⟩) n C) 142 28 (g) (0) (by kernel_rfl) (by kernel_rfl) (by kernel_rfl) (fun w' h=>fV h.1) (fun _ _ _ h=>h) hS ?_
  refine ai 25 (some 30) (.int .i64 i) (by kernel_rfl) (fun _ _=>by kernel_rfl) (fun _ _ _ h=>h) hS ?_
  refine iM 26 (some 31) (.int .i64 (IntKind.i64.wrap ((i:Int) + 1))) (.int .i64 ((i:Int) + 1)) (by rw[H]) (by kernel_rfl) (fun _ _=>by kernel_rfl) (fun _ _ _ h=>h) hS ?_
  refine ai 27 (some 32) (.pointer (some ⟨G,i + 1,none⟩)) (by kernel_rfl) (fun _ _=>ey (x:=29) (y:=31) (n:=n) (c:=C) (by kernel_rfl) o (by kernel_rfl) (by kernel_rfl) (show ((i:Int) + 1)=((i + 1:Nat):Int) from by omega) (t)) (fun _ _ _ h=>h) hS ?_
  refine aP 28 (some 33) (.slice (some ⟨d.b,0,none⟩) y d.c) 199 32 (G) (i + 1) (by kernel_rfl) (by kernel_rfl) (by kernel_rfl) (fun w' h=>p5 h.2.2) (fun _ _ _ h=>h) hS ?_
  refine ai 29 (some 34) (.int .i64 y) (by kernel_rfl) (fun _ _=>by kernel_rfl) (fun _ _ _ h=>h) hS ?_
  refine iM 30 (some 35) (.int .i64 (IntKind.i64.wrap ((x:Int) + (y:Int)))) (.int .i64 ((x:Int) + (y:Int))) (by rw[z5]) (by kernel_rfl) (fun _ _=>by kernel_rfl) (fun _ _ _ h=>h) hS ?_
  refine ai 31 (some 36) (.bool (decide ((x:Int) + (y:Int)<=16))) (by kernel_rfl) (fun _ _=>by kernel_rfl) (fun _ _ _ h=>h) hS ?_
  refine ai 32 (some 37) (.bool (decide ((x:Int) + (y:Int)<=16))) (by kernel_rfl) (fun _ _=>by kernel_rfl) (fun _ _ _ h=>h) hS ?_
  refine ai 33 (some 4) (.bool (decide ((x:Int) + (y:Int)<=16))) (by kernel_rfl) (fun _ _=>by kernel_rfl) (fun _ _ _ h=>h) hS ?_
  refine bH (by kernel_rfl) ?_
  simp only[Act.put,List.setIfInBounds_toArray,List.set_cons_zero,List.set_cons_succ];go_wp2;go_ret;exact⟨by rw[u.out]; rfl,bX w⟩
 ·have u:Hid (jnb (ens L) i=false):=by
   show _=_
   unfold jnb;rw[r,decide_eq_false t,Bool.false_and]
  generalize hln:L.length=n at *
  have z1:¬ ((i:Int) + 1 < n):=by omega
  have f:w.drew.cell? ⟨g,0,none⟩=some (.slice (some ⟨G,0,none⟩) n C):=cg;clear A hs s B hln;go_enter Tryz.func209,Tryz.ntmps209;go_wp2;refine bU (S:=fun w'=>w'.cell? ⟨g,0,none⟩=some (.slice (some ⟨G,0,none⟩) n C)) (by kernel_rfl) f ?_
  have hS:=f;refine ai 0 (some 5) (.int .i64 i) (by kernel_rfl) (fun _ _=>by kernel_rfl) (fun _ _ _ h=>h) hS ?_
  refine iM 1 (some 6) (.bool (decide ((0:Int)<=(i:Int)))) (.bool true) (by rw[decide_eq_true J]) (by kernel_rfl) (fun _ _=>by kernel_rfl) (fun _ _ _ h=>h) hS ?_
  refine ai 2 (some 7) (.bool true) (by kernel_rfl) (fun _ _=>by kernel_rfl) (fun _ _ _ h=>h) hS ?_
  refine ai 3 (some 8) (.int .i64 i) (by kernel_rfl) (fun _ _=>by kernel_rfl) (fun _ _ _ h=>h) hS ?_
  refine iM 4 (some 9) (.int .i64 (IntKind.i64.wrap ((i:Int) + 1))) (.int .i64 ((i:Int) + 1)) (by rw[H]) (by kernel_rfl) (fun _ _=>by kernel_rfl) (fun _ _ _ h=>h) hS ?_
  refine ai 5 (some 10) (.pointer (some ⟨g,0,none⟩)) (by kernel_rfl) (fun _ _=>by kernel_rfl) (fun _ _ _ h=>h) hS ?_
  refine ai 6 (some 11) (.pointer (some ⟨g,0,none⟩)) (by kernel_rfl) (fun _ _=>by kernel_rfl) (fun _ _ _ h=>h) hS ?_
  refine ai 7 (some 12) (.pointer (some ⟨g,0,none⟩)) (by kernel_rfl) (fun _ _=>by kernel_rfl) (fun _ _ _ h=>h) hS ?_
  refine aP 8 (some 13) (.slice (some ⟨G,0,none⟩) n C) 142 12 (g) (0) (by kernel_rfl) (by kernel_rfl) (by kernel_rfl) (fun w' h=>fV h) (fun _ _ _ h=>h) hS ?_
  refine ai 9 (some 14) (.int .i64 n) (by kernel_rfl) (fun _ _=>by kernel_rfl) (fun _ _ _ h=>h) hS ?_
  refine iM 10 (some 15) (.bool (decide ((i:Int) + 1 < (n:Int)))) (.bool false) (by rw[decide_eq_false (by omega)]) (by kernel_rfl) (fun _ _=>by kernel_rfl) (fun _ _ _ h=>h) hS ?_
  refine ai 11 (some 16) (.bool false) (by kernel_rfl) (fun _ _=>by kernel_rfl) (fun _ _ _ h=>h) hS ?_
  refine ai 12 (some 17) (.bool false) (by kernel_rfl) (fun _ _=>by kernel_rfl) (fun _ _ _ h=>h) hS ?_
  refine cA 13 (some 18) (by kernel_rfl) (fun _ _ _ h=>h) hS ?_
  refine cA 14 (some 19) (by kernel_rfl) (fun _ _ _ h=>h) hS ?_
  refine cA 15 (some 20) (by kernel_rfl) (fun _ _ _ h=>h) hS ?_
  refine cA 16 (some 21) (by kernel_rfl) (fun _ _ _ h=>h) hS ?_
  refine cA 17 (some 22) (by kernel_rfl) (fun _ _ _ h=>h) hS ?_
  refine cA 18 (some 23) (by kernel_rfl) (fun _ _ _ h=>h) hS ?_
  refine cA 19 (some 24) (by kernel_rfl) (fun _ _ _ h=>h) hS ?_
  refine cA 20 (some 25) (by kernel_rfl) (fun _ _ _ h=>h) hS ?_
  refine cA 21 (some 26) (by kernel_rfl) (fun _ _ _ h=>h) hS ?_
  refine cA 22 (some 27) (by kernel_rfl) (fun _ _ _ h=>h) hS ?_
  refine cA 23 (some 28) (by kernel_rfl) (fun _ _ _ h=>h) hS ?_
  refine cA 24 (some 29) (by kernel_rfl) (fun _ _ _ h=>h) hS ?_
  refine cA 25 (some 30) (by kernel_rfl) (fun _ _ _ h=>h) hS ?_
  refine cA 26 (some 31) (by kernel_rfl) (fun _ _ _ h=>h) hS ?_
  refine cA 27 (some 32) (by kernel_rfl) (fun _ _ _ h=>h) hS ?_
  refine cA 28 (some 33) (by kernel_rfl) (fun _ _ _ h=>h) hS ?_
  refine cA 29 (some 34) (by kernel_rfl) (fun _ _ _ h=>h) hS ?_
  refine cA 30 (some 35) (by kernel_rfl) (fun _ _ _ h=>h) hS ?_
  refine cA 31 (some 36) (by kernel_rfl) (fun _ _ _ h=>h) hS ?_
  refine ai 32 (some 37) (.bool false) (by kernel_rfl) (fun _ _=>by kernel_rfl) (fun _ _ _ h=>h) hS ?_
  refine ai 33 (some 4) (.bool false) (by kernel_rfl) (fun _ _=>by kernel_rfl) (fun _ _ _ h=>h) hS ?_
  refine bH (by kernel_rfl) ?_
  simp only[Act.put,List.setIfInBounds_toArray,List.set_cons_zero,List.set_cons_succ];go_wp2;go_ret;exact⟨by rw[u.out]; rfl,bX w⟩
end
end Pg
end
section
namespace Pg
open Go.RowKit Go.Lib
section
variable {L:List Pg}{i:Nat}{p p2:Pg}{w:World}{F D:Nat->Prop}
theorem ens_jn{q:Pg}(c:L[i]? = some p)(a:L[i + 1]? = some p2)(d:q.es=p.es ++ p2.es):ens ((L.set i q).take (i + 1) ++ (L.set i q).drop (i + 2))=jnQ (ens L) i:=by
 have b:=(List.getElem?_eq_some_iff.1 c).1;unfold jnQ;rw[eN c,eN a,<- d]
 have e1:(L.set i q).take (i + 1)=L.take i ++ [q]:=by
  rw[List.take_add_one,List.take_set_of_le (Nat.le_refl _),List.getElem?_set_self b]; rfl
 rw[e1,List.drop_set_of_lt (by omega)];simp[ens,List.map_take,List.map_drop]
theorem Ab{g:Nat}(A:bL w F D g L)(M:L[i]? = some p)(P:L[i + 1]? = some p2)(hn:L.length<=100000000)(h0:0 < p.es.length)(hs1:p.es.length<=1000)(hs2:p2.es.length<=1000) :
  Calls Tryz.prog 210 #[.pointer (some ⟨g,0,none⟩),.int .i64 i] w fun e w'=>∃ F' L',e=.returned (.tuple #[])/\ens L'=jnQ (ens L) i/\bL w' F' D g L'/\(∀ b,F' b->F b\/w.heap.size<=b)/\Chg F w w':=by
 have hil:=(List.getElem?_eq_some_iff.1 M).1;have hil2:=(List.getElem?_eq_some_iff.1 P).1
 have hL:L≠[]:=fun e=>by subst e; simp at hil
 obtain⟨G,C,hg,hFg,hFG,hR⟩:=A.opn hL;have W:=A.b8 p (List.mem_of_getElem? M);have s:=A.b8 p2 (List.mem_of_getElem? P);have cg:=hg.cell (i:=0) rfl;have cG:=hR.cell (i:=i) (v:=p.v) (by simp[M]);have r:=hR.cell (i:=i + 1) (v:=p2.v) (by simp[P]);have hCC:=hR.le;simp only[maxLen] at hCC;obtain⟨n,d⟩:∃ n,Hid (L.length=n):=⟨_,rfl⟩
 obtain⟨x,H⟩:∃ m,Hid (p.es.length=m):=⟨_,rfl⟩
 obtain⟨y,O⟩:∃ m,Hid (p2.es.length=m):=⟨_,rfl⟩
 simp only[Pg.v] at cG r;rw[d.out] at cg;rw[H.out] at cG;rw[O.out] at r
 have z1:(i:Int) < n:=by have:=d.out; omega
 have z2:(i:Int) + 1 < n:=by have:=d.out; omega
 have w1:IntKind.i64.wrap ((i:Int) + 1)=(i:Int) + 1:=by rw[IntKind.wrap_i64]; have:=d.out; omega
 have z3:((i:Int) + 1).toNat=i + 1:=by omega
 have z4:(0:Int)<=(i:Int) + 1:=by omega
 have cgd:w.drew.cell? ⟨g,0,none⟩=some (.slice (some ⟨G,0,none⟩) n C):=cg
 have cGd:w.drew.cell? ⟨G,i,none⟩=some (.slice (some ⟨p.b,0,none⟩) x p.c):=cG
 have V:w.drew.cell? ⟨G,i + 1,none⟩=some (.slice (some ⟨p2.b,0,none⟩) y p2.c):=r
 have t:g≠G:=fun e=>hR.eX hg e.symm
 obtain⟨J,N⟩:∃ J,Hid (J=w.drew.alloc (.cells #[.slice (some ⟨p.b,0,none⟩) x p.c,.slice (some ⟨p2.b,0,none⟩) y p2.c] 199)):=⟨_,rfl⟩
 have Q:Below w.heap.size w J:=by rw[N.out]; exact aj (bX w) (ae w.drew _)
 have V1:Blk J w.heap.size [.slice (some ⟨p.b,0,none⟩) x p.c,.slice (some ⟨p2.b,0,none⟩) y p2.c] 199:=by rw[N.out]; exact aC w.drew _ _
 have t1:=CD V1 ((H.out▸W.1.row).keep Q) ((O.out▸s.1.row).keep Q) (by have:=H.out; omega) (by have:=H.out; omega) (by have:=O.out; omega) W.1.one s.1.one
 have B:J.cell? ⟨g,0,none⟩=_:=(Q.cell (p:=⟨g,0,none⟩) (aJ cg)).trans cg
 have R:J.cell? ⟨G,i,none⟩=_:=(Q.cell (p:=⟨G,i,none⟩) (aJ cG)).trans cG
 have f:J.cell? ⟨G,i + 1,none⟩=_:=(Q.cell (p:=⟨G,i + 1,none⟩) (aJ r)).trans r
 have hin:i < n:=by have:=d.out; omega
 have hin2:i + 1 < n:=by have:=d.out; omega
 have hS1:=(show _/\_ from⟨B,f⟩)
 rw[N.out] at hS1 t1;go_enter Tryz.func210,Tryz.ntmps210;go_wp2
 have aa:Tryz.prog.underlying 142=some (.slice 199):=by kernel_rfl
 refine ph (X:=Nat × Nat) (fun z=>[(some 4,.pointer (some ⟨g,0,none⟩)),(some 5,.pointer (some ⟨g,0,none⟩)),(some 6,.pointer (some ⟨g,0,none⟩)),(some 7,.slice (some ⟨G,0,none⟩) n C),(some 8,.int .i64 i),(some 9,.pointer (some ⟨g,0,none⟩)),(some 10,.pointer (some ⟨g,0,none⟩)),(some 11,.pointer (some ⟨g,0,none⟩)),(some 12,.slice (some ⟨G,0,none⟩) n C),(some 13,.int .i64 i),(some 14,.pointer (some ⟨G,i,none⟩)),(some 15,.slice (some ⟨p.b,0,none⟩) x p.c),(some 16,.pointer (some ⟨g,0,none⟩)),(some 17,.pointer (some ⟨g,0,none⟩)),(some 18,.pointer (some ⟨g,0,none⟩)),(some 19,.slice (some ⟨G,0,none⟩) n C),(some 20,.int .i64 i),(some 21,.int .i64 ((i:Int) + 1)),(some 22,.pointer (some ⟨G,i + 1,none⟩)),(some 23,.slice (some ⟨p2.b,0,none⟩) y p2.c),(some 24,.slice (some ⟨w.heap.size,0,none⟩) 2 2),(some 25,.slice (some ⟨z.1,0,none⟩) (x + y) z.2),(some 26,.pointer (some ⟨G,i,none⟩))]) (fun z w'=>∃ j,w'=j.setCell ⟨G,i,none⟩ (.slice (some ⟨z.1,0,none⟩) (x + y) z.2)/\J.heap.size<=z.1/\Rw j 196 2 z.1 (x + y) z.2 (flat p.es ++ flat p2.es)/\Below J.heap.size J j) (fun w'=>w'.cell? ⟨g,0,none⟩=some (.slice (some ⟨G,0,none⟩) n C)/\w'.cell? ⟨G,i + 1,none⟩=some (.slice (some ⟨p2.b,0,none⟩) y p2.c)) (by kernel_rfl) ⟨cgd,V⟩ ?_ ?_
 ·have hS:=(show _/\_ from⟨cgd,V⟩)
  refine ai 0 (some 4) (.pointer (some ⟨g,0,none⟩)) (by kernel_rfl) (fun _ _=>by kernel_rfl) (fun _ _ _ h=>h) hS ?_
  refine ai 1 (some 5) (.pointer (some ⟨g,0,none⟩)) (by kernel_rfl) (fun _ _=>by kernel_rfl) (fun _ _ _ h=>h) hS ?_
  refine ai 2 (some 6) (.pointer (some ⟨g,0,none⟩)) (by kernel_rfl) (fun _ _=>by kernel_rfl) (fun _ _ _ h=>h) hS ?_
  refine aP 3 (some 7) (.slice (some ⟨G,0,none⟩) n C) 142 6 (g) (0) (by kernel_rfl) (by kernel_rfl) (by kernel_rfl) (fun w' h=>fV h.1) (fun _ _ _ h=>h) hS ?_
  refine ai 4 (some 8) (.int .i64 i) (by kernel_rfl) (fun _ _=>by kernel_rfl) (fun _ _ _ h=>h) hS ?_
  refine ai 5 (some 9) (.pointer (some ⟨g,0,none⟩)) (by kernel_rfl) (fun _ _=>by kernel_rfl) (fun _ _ _ h=>h) hS ?_
  refine ai 6 (some 10) (.pointer (some ⟨g,0,none⟩)) (by kernel_rfl) (fun _ _=>by kernel_rfl) (fun _ _ _ h=>h) hS ?_
  refine ai 7 (some 11) (.pointer (some ⟨g,0,none⟩)) (by kernel_rfl) (fun _ _=>by kernel_rfl) (fun _ _ _ h=>h) hS ?_
  refine aP 8 (some 12) (.slice (some ⟨G,0,none⟩) n C) 142 11 (g) (0) (by kernel_rfl) (by kernel_rfl) (by kernel_rfl) (fun w' h=>fV h.1) (fun _ _ _ h=>h) hS ?_
  refine ai 9 (some 13) (.int .i64 i) (by kernel_rfl) (fun _ _=>by kernel_rfl) (fun _ _ _ h=>h) hS ?_
  refine ai 10 (some 14) (.pointer (some ⟨G,i,none⟩)) (by kernel_rfl) (fun _ _=>ey (x:=12) (y:=13) (n:=n) (c:=C) (by kernel_rfl) aa (by kernel_rfl) (by kernel_rfl) (rfl) (hin)) (fun _ _ _ h=>h) hS ?_
  refine ai 12 (some 16) (.pointer (some ⟨g,0,none⟩)) (by kernel_rfl) (fun _ _=>by kernel_rfl) (fun _ _ _ h=>h) hS ?_
  refine ai 13 (some 17) (.pointer (some ⟨g,0,none⟩)) (by kernel_rfl) (fun _ _=>by kernel_rfl) (fun _ _ _ h=>h) hS ?_
  refine ai 14 (some 18) (.pointer (some ⟨g,0,none⟩)) (by kernel_rfl) (fun _ _=>by kernel_rfl) (fun _ _ _ h=>h) hS ?_
  refine aP 15 (some 19) (.slice (some ⟨G,0,none⟩) n C) 142 18 (g) (0) (by kernel_rfl) (by kernel_rfl) (by kernel_rfl) (fun w' h=>fV h.1) (fun _ _ _ h=>h) hS ?_
  refine ai 16 (some 20) (.int .i64 i) (by kernel_rfl) (fun _ _=>by kernel_rfl) (fun _ _ _ h=>h) hS ?_
  refine iM 17 (some 21) (.int .i64 (IntKind.i64.wrap ((i:Int) + 1))) (.int .i64 ((i:Int) + 1)) (by rw[w1]) (by kernel_rfl) (fun _ _=>by kernel_rfl) (fun _ _ _ h=>h) hS ?_
  refine ai 18 (some 22) (.pointer (some ⟨G,i + 1,none⟩)) (by kernel_rfl) (fun _ _=>ey (x:=19) (y:=21) (n:=n) (c:=C) (by kernel_rfl) aa (by kernel_rfl) (by kernel_rfl) (show ((i:Int) + 1)=((i + 1:Nat):Int) from by omega) (hin2)) (fun _ _ _ h=>h) hS ?_
  refine aP 19 (some 23) (.slice (some ⟨p2.b,0,none⟩) y p2.c) 199 22 (G) (i + 1) (by kernel_rfl) (by kernel_rfl) (by kernel_rfl) (fun w' h=>p5 h.2) (fun _ _ _ h=>h) hS ?_
  refine aL [11] (by kernel_rfl) (by simp) ?_
  refine bI 11 (some 15) (.slice (some ⟨p.b,0,none⟩) x p.c) _ (by kernel_rfl) (iQ 14 (by kernel_rfl) (by kernel_rfl) (p5 cGd)) hS ?_ aU;refine aL [20] (by kernel_rfl) (by simp) ?_
  refine bI 20 (some 24) (.slice (some ⟨w.heap.size,0,none⟩) 2 2) _ (by kernel_rfl) (Dm (x:=15) (y:=23) (by kernel_rfl) (by kernel_rfl) (by kernel_rfl)) hS1 ?_ aU;refine bP 21 (some 25) 240 #[.slice (some ⟨w.heap.size,0,none⟩) 2 2] (by kernel_rfl) (by kernel_rfl) t1 ?_
  rintro e' j ⟨b2,c2,rfl,o,R2,T⟩;rw[<- N.out] at T o
  have Z:j.cell? ⟨g,0,none⟩=_:=(T.cell (p:=⟨g,0,none⟩) (aJ B)).trans B
  have cGi2:j.cell? ⟨G,i,none⟩=_:=(T.cell (p:=⟨G,i,none⟩) (aJ R)).trans R
  have I:j.cell? ⟨G,i + 1,none⟩=_:=(T.cell (p:=⟨G,i + 1,none⟩) (aJ f)).trans f
  have fG2:j.frozen? ⟨G,i,none⟩=false:=((hR.keep Q).keep T).free i;refine⟨_,rfl,⟨Z,I⟩,?_⟩;replace hS:=(show _/\_ from⟨Z,I⟩)
  refine ai 22 (some 26) (.pointer (some ⟨G,i,none⟩)) (by kernel_rfl) (fun _ _=>ey (x:=7) (y:=8) (n:=n) (c:=C) (by kernel_rfl) aa (by kernel_rfl) (by kernel_rfl) (rfl) (hin)) (fun _ _ _ h=>h) hS ?_
  refine aL [23] (by kernel_rfl) (by simp) ?_
  refine dn 23 (j.setCell ⟨G,i,none⟩ (.slice (some ⟨b2,0,none⟩) (x + y) c2)) (by kernel_rfl) (kt 26 25 (by kernel_rfl) (by kernel_rfl) (by kernel_rfl) cGi2 fG2) ⟨bR t Z,yN (by omega) I⟩ ?_ aU;refine bH (by kernel_rfl) ?_
  exact⟨(b2,c2),by kernel_rfl,j,rfl,o,R2,T⟩
 rintro⟨b2,c2⟩ w' ⟨j,rfl,o,R2,T⟩;dsimp only at o R2;simp only[iZ,Act.put,List.setIfInBounds_toArray,List.set_cons_zero,List.set_cons_succ]
 have K:Below w.heap.size w j:=aj Q T;obtain⟨q,hq⟩:∃ q:Pg,Hid (q=⟨b2,c2,p.es ++ p2.es⟩):=⟨_,rfl⟩
 have hlen:(p.es ++ p2.es).length=x + y:=by rw[List.length_append,H.out,O.out]
 have hA':PgA j D q:=by
  rw[hq.out];refine⟨?_,fun e he => ?_⟩
  ·show Rw j _ 2 b2 (p.es ++ p2.es).length c2 _
   rw[hlen,ed]; exact R2
  ·rcases List.mem_append.1 he with h | h
   ·exact(W.1.dJ e h).keep K
   ·exact(s.1.dJ e h).keep K
 have hv':q.v=.slice (some ⟨b2,0,none⟩) (x + y) c2:=by rw[hq.out]; simp only[Pg.v]; rw[hlen]
 have hqb:q.b=b2:=by rw[hq.out]
 have hqe:q.es=p.es ++ p2.es:=by rw[hq.out]
 obtain⟨Y,C3⟩:=A.put (p':=q) (D':=D) hg hFg hFG hR M (Chg.of K) (.inr (by rw[hqb]; exact Nat.le_trans Q.size o)) hA' (fun _ _ h=>h);rw[hv',hqb] at Y;rw[hv'] at C3
 have hF3:∀ b,((F b/\b≠p.b)\/b=b2)->F b\/w.heap.size<=b:=fun b h=>h.imp (fun h=>h.1) (fun h=>by rw[h]; exact Nat.le_trans Q.size o)
 have l:=(hg.keep K).off t (i:=i) (.slice (some ⟨b2,0,none⟩) (x + y) c2);generalize (j.setCell ⟨G,i,none⟩ (.slice (some ⟨b2,0,none⟩) (x + y) c2))=W3 at *;generalize hF3d:(fun x=>(F x/\x≠p.b)\/x=b2)=F3 at Y
 have E:∀ b,F3 b->F b\/w.heap.size<=b:=fun b h=>hF3 b (by rw[<- hF3d] at h; exact h)
 obtain⟨G2,D3,hg3,hFg3,U,hR3⟩:=Y.opn (by simp[hL]);obtain⟨rfl,rfl⟩:G2=G/\D3=C:=by
  have:=(hg3.eq l).1;simp at this;exact⟨this.1,this.2⟩
 have cg3:W3.cell? ⟨g,0,none⟩=some (.slice (some ⟨G2,0,none⟩) n D3):=by
  have:=l.cell (i:=0) rfl;rwa [d.out] at this
 have S:=hR3;rw[List.length_set,d.out] at S;have t4:=delP (i:=i + 1) S (by have:=d.out; omega) (tw _);rw[show ((i + 1:Nat):Int)=(i:Int) + 1 by omega,show (i:Int) + 1 + 1=(i:Int) + 2 by omega] at t4
 have w2':IntKind.i64.wrap ((i:Int) + 2)=(i:Int) + 2:=by rw[IntKind.wrap_i64]; have:=d.out; omega
 go_wp2_with (go_at_call 208; refine t4.mono ?_; rintro e' w5 ⟨rfl,R5,C5⟩; have cg5:w5.cell? ⟨g,0,none⟩=_:=(World.cell?_of_block (a:=⟨g,0,none⟩) (C5.same g (aJ cg3) t)).trans cg3; have fg5:w5.frozen? ⟨g,0,none⟩=false:=(l.chg C5 t).free 0);go_end0
 have u:((L.set i q).take (i + 1) ++ (L.set i q).drop (i + 2)).Sublist (L.set i q):=by
  have h:=List.Sublist.append (List.Sublist.refl ((L.set i q).take (i + 1))) (List.drop_sublist 1 ((L.set i q).drop (i + 1)));rw[List.drop_drop,List.take_append_drop] at h;exact h
 obtain⟨A6,C6⟩:=jX (w:=W3) (w1:=w5) (F:=F3) (D:=D) (g:=g) (G:=G2) (G':=G2) (C':=D3) (n:=n - 1) (L':=(L.set i q).take (i + 1) ++ (L.set i q).drop (i + 2))
  (fun p M=>Y.b8 p (u.mem M)) (Y.apart.sublist (u.map _)) Y.kind l hFg3 U (fun e=>t e.symm) C5 (fun p M=>(Y.b8 p (u.mem M)).1.eV hR3)
  (by simp; have:=d.out; omega) (by simpa[List.map_take,List.map_drop] using R5)
 refine⟨_,_,rfl,ens_jn M P hqe,A6,fun b hb => ?_,C3.trans C6 fun b hb h=>(E b h).resolve_right (by omega)⟩;rcases hb with⟨h,_⟩ | rfl
 ·exact E b h
 ·exact E _ U
end
end Pg
end
section
namespace Pg
open Go.RowKit Go.Lib
def rmQ (P:List (List En)) (i q:Nat):List (List En) :=
 let es:=(P.getD i []).take q ++ (P.getD i []).drop (q + 1)
 if es=[] then P.take i ++ P.drop (i + 1)
 else
  let P1:=P.set i es
  if jnb P1 i then jnQ P1 i else if 1<=i/\jnb P1 (i - 1) then jnQ P1 (i - 1) else P1
def gQ (P:List (List En)) (k:List Int):List (List En) :=
 if has P k then rmQ P (pgi P k) (plc (kys (P.getD (pgi P k) [])) k) else P
theorem Cr (es:List En) (q:Nat):(flat es).take (q * 2) ++ (flat es).drop ((q + 1) * 2)=flat (es.take q ++ es.drop (q + 1)):=by
 rw[ie,ia,ed]
theorem sd {w:World} {F D:Nat->Prop} {g i q:Nat} {L:List Pg} {p:Pg} (A:bL w F D g L) (hi:L[i]? = some p) (hq:q < p.es.length) (hs:∀ es∈ens L,es.length<=32) (hf:∀ es∈ens L,es≠[]) (hn:L.length<=100000000) :
  Calls Tryz.prog 171 #[.pointer (some ⟨g,0,none⟩),.int .i64 i,.int .i64 q] w fun e' w'=>∃ F' L',e'=.returned (.tuple #[])/\ens L'=rmQ (ens L) i q/\bL w' F' D g L'/\(∀ b,F' b->F b\/w.heap.size<=b)/\Chg F w w':=by
 have hil:=(List.getElem?_eq_some_iff.1 hi).1
 have hL:L≠[]:=fun e=>by subst e; simp at hil
 obtain⟨G,C,hg,hFg,hFG,hR⟩:=A.opn hL;have R:=A.b8 p (List.mem_of_getElem? hi);have h2:=hs p.es (List.mem_map.2 ⟨p,List.mem_of_getElem? hi,rfl⟩);have cg:=hg.cell (i:=0) rfl;have cG:=hR.cell (i:=i) (v:=p.v) (by simp[hi]);obtain⟨n,u⟩:∃ n,Hid (L.length=n):=⟨_,rfl⟩
 obtain⟨m,T⟩:∃ m,Hid (p.es.length=m):=⟨_,rfl⟩
 simp only[Pg.v] at cG;rw[u.out] at cg;rw[T.out] at cG
 have cgd:w.drew.cell? ⟨g,0,none⟩=some (.slice (some ⟨G,0,none⟩) n C):=cg
 have cGd:w.drew.cell? ⟨G,i,none⟩=some (.slice (some ⟨p.b,0,none⟩) m p.c):=cG
 have H:g≠G:=fun e=>hR.eX hg e.symm
 have ng:g≠p.b:=fun e=>R.1.eX hg e.symm
 have nG:G≠p.b:=fun e=>R.1.eV hR e.symm
 have hin:i < n:=by have:=u.out; omega
 have w1:IntKind.i64.wrap ((q:Int) + 1)=(q:Int) + 1:=by rw[IntKind.wrap_i64]; omega
 have t1:=delE (i:=q) R.1.row.drew hq R.1.one;rw[T.out] at t1;go_enter Tryz.func171,Tryz.ntmps171;go_wp2
 have hpp:Tryz.prog.underlying 142=some (.slice 199):=by kernel_rfl
 refine ph (X:=Unit) (fun _=>[(some 6,.pointer (some ⟨g,0,none⟩)),(some 7,.pointer (some ⟨g,0,none⟩)),(some 8,.pointer (some ⟨g,0,none⟩)),(some 9,.slice (some ⟨G,0,none⟩) n C),(some 10,.int .i64 i),(some 11,.pointer (some ⟨g,0,none⟩)),(some 12,.pointer (some ⟨g,0,none⟩)),(some 13,.pointer (some ⟨g,0,none⟩)),(some 14,.slice (some ⟨G,0,none⟩) n C),(some 15,.int .i64 i),(some 16,.pointer (some ⟨G,i,none⟩)),(some 17,.slice (some ⟨p.b,0,none⟩) m p.c),(some 18,.int .i64 q),(some 19,.int .i64 q),(some 20,.int .i64 ((q:Int) + 1)),(some 21,.slice (some ⟨p.b,0,none⟩) (m - 1) p.c),(some 22,.pointer (some ⟨G,i,none⟩))]) (fun _ w'=>∃ t,w'=t.setCell ⟨G,i,none⟩ (.slice (some ⟨p.b,0,none⟩) (m - 1) p.c)/\Rw t 196 2 p.b (m - 1) p.c ((flat p.es).take (q * 2) ++ (flat p.es).drop ((q + 1) * 2))/\Chg (· = p.b) w.drew t) (fun w'=>w'.cell? ⟨g,0,none⟩=some (.slice (some ⟨G,0,none⟩) n C)) (by kernel_rfl) cgd ?_ ?_
 ·have hS:=cgd;refine ai 0 (some 6) (.pointer (some ⟨g,0,none⟩)) (by kernel_rfl) (fun _ _=>by kernel_rfl) (fun _ _ _ h=>h) hS ?_
  refine ai 1 (some 7) (.pointer (some ⟨g,0,none⟩)) (by kernel_rfl) (fun _ _=>by kernel_rfl) (fun _ _ _ h=>h) hS ?_
  refine ai 2 (some 8) (.pointer (some ⟨g,0,none⟩)) (by kernel_rfl) (fun _ _=>by kernel_rfl) (fun _ _ _ h=>h) hS ?_
  refine aP 3 (some 9) (.slice (some ⟨G,0,none⟩) n C) 142 8 (g) (0) (by kernel_rfl) (by kernel_rfl) (by kernel_rfl) (fun w' h=>fV h) (fun _ _ _ h=>h) hS ?_
  refine ai 4 (some 10) (.int .i64 i) (by kernel_rfl) (fun _ _=>by kernel_rfl) (fun _ _ _ h=>h) hS ?_
  refine ai 5 (some 11) (.pointer (some ⟨g,0,none⟩)) (by kernel_rfl) (fun _ _=>by kernel_rfl) (fun _ _ _ h=>h) hS ?_
  refine ai 6 (some 12) (.pointer (some ⟨g,0,none⟩)) (by kernel_rfl) (fun _ _=>by kernel_rfl) (fun _ _ _ h=>h) hS ?_
  refine ai 7 (some 13) (.pointer (some ⟨g,0,none⟩)) (by kernel_rfl) (fun _ _=>by kernel_rfl) (fun _ _ _ h=>h) hS ?_
  refine aP 8 (some 14) (.slice (some ⟨G,0,none⟩) n C) 142 13 (g) (0) (by kernel_rfl) (by kernel_rfl) (by kernel_rfl) (fun w' h=>fV h) (fun _ _ _ h=>h) hS ?_
  refine ai 9 (some 15) (.int .i64 i) (by kernel_rfl) (fun _ _=>by kernel_rfl) (fun _ _ _ h=>h) hS ?_
  refine ai 10 (some 16) (.pointer (some ⟨G,i,none⟩)) (by kernel_rfl) (fun _ _=>ey (x:=14) (y:=15) (n:=n) (c:=C) (by kernel_rfl) hpp (by kernel_rfl) (by kernel_rfl) (rfl) (hin)) (fun _ _ _ h=>h) hS ?_
  refine ai 12 (some 18) (.int .i64 q) (by kernel_rfl) (fun _ _=>by kernel_rfl) (fun _ _ _ h=>h) hS ?_
  refine ai 13 (some 19) (.int .i64 q) (by kernel_rfl) (fun _ _=>by kernel_rfl) (fun _ _ _ h=>h) hS ?_
  refine iM 14 (some 20) (.int .i64 (IntKind.i64.wrap ((q:Int) + 1))) (.int .i64 ((q:Int) + 1)) (by rw[w1]) (by kernel_rfl) (fun _ _=>by kernel_rfl) (fun _ _ _ h=>h) hS ?_
  refine aL [11] (by kernel_rfl) (by simp) ?_
  refine bI 11 (some 17) (.slice (some ⟨p.b,0,none⟩) m p.c) _ (by kernel_rfl) (iQ 16 (by kernel_rfl) (by kernel_rfl) (p5 cGd)) hS ?_ aU;refine bP 15 (some 21) 207 #[.slice (some ⟨p.b,0,none⟩) m p.c,.int .i64 q,.int .i64 ((q:Int) + 1)] (by kernel_rfl) (by kernel_rfl) t1 ?_
  rintro e' t ⟨rfl,R2,C2⟩
  have M:t.cell? ⟨g,0,none⟩=_:=(World.cell?_of_block (a:=⟨g,0,none⟩) (C2.same g (aJ cgd) ng)).trans cgd
  have cG2:t.cell? ⟨G,i,none⟩=_:=(World.cell?_of_block (a:=⟨G,i,none⟩) (C2.same _ (aJ cGd) nG)).trans cGd
  have fG2:t.frozen? ⟨G,i,none⟩=false:=(hR.drew.chg C2 nG).free i;refine⟨_,rfl,M,?_⟩;replace hS:=M;refine ai 16 (some 22) (.pointer (some ⟨G,i,none⟩)) (by kernel_rfl) (fun _ _=>ey (x:=9) (y:=10) (n:=n) (c:=C) (by kernel_rfl) hpp (by kernel_rfl) (by kernel_rfl) (rfl) (hin)) (fun _ _ _ h=>h) hS ?_
  refine aL [17] (by kernel_rfl) (by simp) ?_
  refine dn 17 (t.setCell ⟨G,i,none⟩ (.slice (some ⟨p.b,0,none⟩) (m - 1) p.c)) (by kernel_rfl) (kt 22 21 (by kernel_rfl) (by kernel_rfl) (by kernel_rfl) cG2 fG2) (bR H M) ?_ aU;refine bH (by kernel_rfl) ?_
  exact⟨(),by kernel_rfl,t,rfl,R2,C2⟩
 rintro - w' ⟨t,rfl,R2,C2⟩;simp only[iZ,Act.put,List.setIfInBounds_toArray,List.set_cons_zero,List.set_cons_succ]
 have Q:Chg (· = p.b) w t:=(Chg.of (F:=(· = p.b)) (bX w)).trans C2 (fun _ _ h=>h);obtain⟨p',hp'⟩:∃ p':Pg,Hid (p'=⟨p.b,p.c,p.es.take q ++ p.es.drop (q + 1)⟩):=⟨_,rfl⟩
 have hlen:(p.es.take q ++ p.es.drop (q + 1)).length=m - 1:=by have:=T.out; simp; omega
 have hA':PgA t D p':=by
  rw[hp'.out];refine⟨?_,fun e he => ?_⟩
  ·show Rw t _ 2 p.b (p.es.take q ++ p.es.drop (q + 1)).length p.c _
   rw[hlen]; exact R2.to (Cr p.es q)
  ·have he':e∈p.es:=by
    rcases List.mem_append.1 he with h | h
    ·exact List.mem_of_mem_take h
    ·exact List.mem_of_mem_drop h
   refine(R.1.dJ e he').off fun b hb hk=>Q.same b hb fun f => ?_
   subst f;obtain⟨cs,k⟩:=hk;obtain⟨ds,k'⟩:=R.1.row.kind;exact eB k k' (by decide) rfl
 have hv':p'.v=.slice (some ⟨p.b,0,none⟩) (m - 1) p.c:=by rw[hp'.out]; simp only[Pg.v]; rw[hlen]
 have hb':p'.b=p.b:=by rw[hp'.out]
 have he':p'.es=p.es.take q ++ p.es.drop (q + 1):=by rw[hp'.out]
 obtain⟨z,Y⟩:=A.put (p':=p') (D':=D) hg hFg hFG hR hi Q (.inl hb') hA' (fun _ _ h=>h);rw[hv',hb'] at z;rw[hv'] at Y
 have hF3:∀ b,((F b/\b≠p.b)\/b=p.b)->F b:=fun b h=>h.elim (fun h=>h.1) (fun h=>by rw[h]; exact R.2)
 have M:t.cell? ⟨g,0,none⟩=_:=(World.cell?_of_block (a:=⟨g,0,none⟩) (Q.same g (aJ cg) ng)).trans cg
 have cG2:t.cell? ⟨G,i,none⟩=_:=(World.cell?_of_block (a:=⟨G,i,none⟩) (Q.same _ (aJ cG) nG)).trans cG
 have cg3:(t.setCell ⟨G,i,none⟩ (.slice (some ⟨p.b,0,none⟩) (m - 1) p.c)).cell? ⟨g,0,none⟩=some (.slice (some ⟨G,0,none⟩) n C):=bR H M
 have cG3:(t.setCell ⟨G,i,none⟩ (.slice (some ⟨p.b,0,none⟩) (m - 1) p.c)).cell? ⟨G,i,none⟩=some (.slice (some ⟨p.b,0,none⟩) (m - 1) p.c):=World.cell?_setCell_same' _ _ _ (by rw[cG2]; rfl);have U:=(hg.chg Q ng).off H (i:=i) (.slice (some ⟨p.b,0,none⟩) (m - 1) p.c);generalize (t.setCell ⟨G,i,none⟩ (.slice (some ⟨p.b,0,none⟩) (m - 1) p.c))=W3 at *;generalize hF3d:(fun x=>(F x/\x≠p.b)\/x=p.b)=F3 at z
 have d:∀ b,F3 b->F b:=fun b h=>hF3 b (by rw[<- hF3d] at h; exact h)
 have hi3:(L.set i p')[i]? = some p':=by rw[List.getElem?_set_self hil]
 have hE3:ens (L.set i p')=(ens L).set i (p.es.take q ++ p.es.drop (q + 1)):=by rw[qg,he']
 have aa:∀ es∈ens (L.set i p'),es.length<=32:=fun es he=>by
  rw[hE3] at he;rcases List.mem_or_eq_of_mem_set he with h | h
  ·exact hs es h
  ·rw[h,hlen]; have:=T.out; omega
 have B:(L.set i p').length=n:=by rw[List.length_set]; exact u.out
 have hX:p.es.take q ++ p.es.drop (q + 1)=[]\/p.es.take q ++ p.es.drop (q + 1)≠[]:=Classical.em _
 have l:Hid (rmQ (ens L) i q=if p.es.take q ++ p.es.drop (q + 1)=[] then (ens L).take i ++ (ens L).drop (i + 1) else if jnb (ens (L.set i p')) i then jnQ (ens (L.set i p')) i else if 1<=i/\jnb (ens (L.set i p')) (i - 1) then jnQ (ens (L.set i p')) (i - 1) else ens (L.set i p')):=by
  show _=_
  unfold rmQ;rw[eN hi,hE3]
 rcases hX with hX | hX
 ·have Z:m=1:=by rw[hX] at hlen; simp at hlen; have:=T.out; omega
  obtain⟨G2,D3,hg3,hFg3,hFG3,hR3⟩:=z.opn (by simp[hL]);obtain⟨rfl,rfl⟩:G2=G/\D3=C:=by
   have:=(hg3.eq U).1;simp at this;exact⟨this.1,this.2⟩
  have hR3':=hR3;rw[B] at hR3';have t4:=delP (i:=i) hR3' (by omega) (tw _)
  have w3:IntKind.i64.wrap ((i:Int) + 1)=(i:Int) + 1:=by rw[IntKind.wrap_i64]; have:=u.out; omega
  have cG3':W3.cell? ⟨G2,i,none⟩=some (.slice (some ⟨p.b,0,none⟩) 0 p.c):=by rw[Z] at cG3; exact cG3
  have z1:(i:Int) < n:=by omega
  have N:((L.set i p').take i ++ (L.set i p').drop (i + 1)).Sublist (L.set i p'):=by
   have h:=List.Sublist.append (List.Sublist.refl ((L.set i p').take i)) (List.drop_sublist 1 ((L.set i p').drop i));rw[List.drop_drop,List.take_append_drop] at h;exact h
  have r:Hid (ens ((L.set i p').take i ++ (L.set i p').drop (i + 1))=rmQ (ens L) i q):=by
   show _=_
   rw[l.out,if_pos hX,List.take_set_of_le (Nat.le_refl _),List.drop_set_of_lt (by omega)];simp[ens,List.map_take,List.map_drop]
  have HX:Hid _:=hX;clear hX l cG3 Z;go_wp2_with (go_at_call 208; refine t4.mono ?_; rintro e' V ⟨rfl,R5,C5⟩; have cg5:V.cell? ⟨g,0,none⟩=_:=(World.cell?_of_block (a:=⟨g,0,none⟩) (C5.same g (aJ cg3) H)).trans cg3; have fg5:V.frozen? ⟨g,0,none⟩=false:=(U.chg C5 H).free 0);go_end0;obtain⟨A6,C6⟩:=jX (w:=W3) (w1:=V) (F:=F3) (D:=D) (g:=g) (G:=G2) (G':=G2) (C':=D3) (n:=n - 1) (L':=(L.set i p').take i ++ (L.set i p').drop (i + 1))
   (fun p R=>z.b8 p (N.mem R)) (z.apart.sublist (N.map _)) z.kind U hFg3 hFG3 (fun e=>H e.symm) C5 (fun p R=>(z.b8 p (N.mem R)).1.eV hR3)
   (by simp; have:=u.out; omega) (by simpa[List.map_take,List.map_drop] using R5)
  refine⟨_,_,rfl,r.out,A6,fun b hb => ?_,Y.trans C6 fun b _ h=>d b h⟩;rcases hb with⟨h,_⟩ | rfl
  ·exact .inl (d b h)
  ·exact .inl (d _ hFG3)
 ·have Z:0 < m - 1:=by
   rw[<- hlen]; exact List.length_pos_iff.2 hX
  obtain⟨m1,hm2⟩:∃ m1,Hid (m - 1=m1):=⟨_,rfl⟩
  rw[hm2.out] at cG3 Z
  have z0:¬ ((m1:Int)=0):=by omega
  have z1:(i:Int) < n:=by omega
  have w3:IntKind.i64.wrap ((i:Int) - 1)=(i:Int) - 1:=by rw[IntKind.wrap_i64]; omega
  have O:=l.out;rw[if_neg hX] at O
  have l:Hid _:=O;clear O
  have HX:Hid _:=hX;clear hX
  have hf3:∀ es∈ens (L.set i p'),es≠[]:=fun es he=>by
   rw[hE3] at he;rcases List.mem_or_eq_of_mem_set he with h | h
   ·exact hf es h
   ·rw[h]; exact HX.out
  have E:∀ (W:World) (j:Nat),bL W F3 D g (L.set i p')->jnb (ens (L.set i p')) j=true->Calls Tryz.prog 210 #[.pointer (some ⟨g,0,none⟩),.int .i64 j] W fun e' w'=>∃ F' L',e'=.returned (.tuple #[])/\ens L'=jnQ (ens (L.set i p')) j/\bL w' F' D g L'/\(∀ b,F' b->F3 b\/W.heap.size<=b)/\Chg F3 W w':=fun W j AW hj=>by
   unfold jnb at hj;simp only[Bool.and_eq_true,decide_eq_true_eq] at hj
   have hl:j + 1 < (L.set i p').length:=by have:=hj.1; simpa[ens] using this
   obtain⟨a,ha⟩:∃ a,(L.set i p')[j]? = some a:=⟨_,List.getElem?_eq_getElem (by omega)⟩
   obtain⟨c,hc⟩:∃ c,(L.set i p')[j + 1]? = some c:=⟨_,List.getElem?_eq_getElem hl⟩
   have ma:a.es∈ens (L.set i p'):=List.mem_map.2 ⟨a,List.mem_of_getElem? ha,rfl⟩
   have mc:c.es∈ens (L.set i p'):=List.mem_map.2 ⟨c,List.mem_of_getElem? hc,rfl⟩;have s1:=aa _ ma;have s2:=aa _ mc;exact Ab AW ha hc (by rw[B]; have:=u.out; omega) (List.length_pos_iff.2 (hf3 _ ma)) (by omega) (by omega)
  have P:=zt z (i:=i) (by omega) (by rw[B]; have:=u.out; omega) (fun es he=>by have:=aa es he; omega);by_cases S:jnb (ens (L.set i p')) i=true
  ·have r:Hid (rmQ (ens L) i q=jnQ (ens (L.set i p')) i):=by show _=_; rw[l.out,if_pos S]
   have t5:∀ W,Below W3.heap.size W3 W->_:=fun W s=>E W i (z.keep s) S
   rw[S] at P;clear E S l
   go_wp2_with (first
    | (go_at_call 209; refine P.mono ?_; rintro e' V ⟨rfl,o⟩; have t6:=t5 V o; clear t5 P)
    | (go_at_call 210; refine t6.mono ?_; rintro e' w6 ⟨F6,L6,rfl,hE6,A6,hF6,C6⟩))
   go_end0;refine⟨F6,L6,rfl,hE6.trans r.out.symm,A6,fun b hb => ?_,(Y.trans (Chg.of (F:=F) o) (fun _ _ h=>h)).trans C6 fun b _ h=>d b h⟩;rcases hF6 b hb with h | h
   ·exact .inl (d b h)
   ·exact .inr (by have:=Y.size; have:=o.size; omega)
  ·have J:jnb (ens (L.set i p')) i=false:=by simpa using S
   by_cases hi0:i=0
   ·have r:Hid (rmQ (ens L) i q=ens (L.set i p')):=by show _=_; rw[l.out,if_neg S,if_neg (by omega)]
    rw[J] at P
    have tn:∀ W:World,Calls Tryz.prog 209 #[.pointer (some ⟨g,0,none⟩),.int .i64 (-1)] W _:=fun W=>jn_neg
    have mk:True:=trivial;clear E S l J;subst hi0
    go_wp2_with (first
     | (go_at_call 209; clear mk; refine P.mono ?_; rintro e' V ⟨rfl,o⟩; clear P)
     | (go_at_call 209; refine(tn _).mono ?_; rintro e' w6 ⟨rfl,K⟩))
    go_end0;have s:=aj o K
    first
     | exact⟨F3,_,rfl,r.out.symm,z.keep s,fun b hb=>.inl (d b hb),Y.trans (Chg.of (F:=F) s) (fun _ _ h=>h)⟩
     | exact⟨rfl,F3,_,r.out.symm,z.keep s,fun b hb=>.inl (d b hb),Y.trans (Chg.of (F:=F) s) (fun _ _ h=>h)⟩
   ·obtain⟨j,rfl⟩:∃ j,i=j + 1:=⟨i - 1,by omega⟩
    have tk:∀ W,Below W3.heap.size W3 W->Calls Tryz.prog 209 #[.pointer (some ⟨g,0,none⟩),.int .i64 j] W _:=fun W s=>zt (z.keep s) (i:=j) (by omega) (by rw[B]; have:=u.out; omega) (fun es he=>by have:=aa es he; omega)
    have e1:((j + 1:Nat):Int) - 1=(j:Int):=by omega
    have e2:(j:Int) + 1 - 1=(j:Int):=by omega
    rw[J] at P
    have mk:True:=trivial
    have mk2:True:=trivial;by_cases h3:jnb (ens (L.set (j + 1) p')) j=true
    ·have r:Hid (rmQ (ens L) (j + 1) q=jnQ (ens (L.set (j + 1) p')) j):=by show _=_; rw[l.out,if_neg S,if_pos ⟨by omega,by simpa using h3⟩]; rfl
     have t5:∀ W,Below W3.heap.size W3 W->_:=fun W s=>E W j (z.keep s) h3
     rw[h3] at tk;clear E S l J h3
     go_wp2_with (first
      | (go_at_call 209; clear mk; refine P.mono ?_; rintro e' V ⟨rfl,o⟩; have I:=tk V o; clear P tk)
      | (go_at_call 209; refine I.mono ?_; rintro e' w6 ⟨rfl,K⟩; have s:=aj o K; have t6:=t5 w6 s; clear t5 I)
      | (go_at_call 210; refine t6.mono ?_; rintro e' w7 ⟨F6,L6,rfl,hE6,A6,hF6,C6⟩))
     go_end0;refine⟨F6,L6,rfl,hE6.trans r.out.symm,A6,fun b hb => ?_,(Y.trans (Chg.of (F:=F) s) (fun _ _ h=>h)).trans C6 fun b _ h=>d b h⟩;rcases hF6 b hb with h | h
     ·exact .inl (d b h)
     ·exact .inr (by have:=Y.size; have:=s.size; omega)
    ·have h3':jnb (ens (L.set (j + 1) p')) j=false:=by simpa using h3
     have r:Hid (rmQ (ens L) (j + 1) q=ens (L.set (j + 1) p')):=by show _=_; rw[l.out,if_neg S,if_neg (fun h=>h3 (by simpa using h.2))]
     rw[h3'] at tk;clear E S l J h3 h3'
     go_wp2_with (first
      | (go_at_call 209; clear mk; refine P.mono ?_; rintro e' V ⟨rfl,o⟩; have I:=tk V o; clear P tk)
      | (go_at_call 209; refine I.mono ?_; rintro e' w6 ⟨rfl,K⟩; have s:=aj o K; clear I))
     go_end0
     first
      | exact⟨F3,_,rfl,r.out.symm,z.keep s,fun b hb=>.inl (d b hb),Y.trans (Chg.of (F:=F) s) (fun _ _ h=>h)⟩
      | exact⟨rfl,F3,_,r.out.symm,z.keep s,fun b hb=>.inl (d b hb),Y.trans (Chg.of (F:=F) s) (fun _ _ h=>h)⟩
end Pg
end
section
namespace Pg
open Go.RowKit Go.Lib
theorem r6 {w:World} {F D:Nat->Prop} {g:Nat} {L:List Pg} {kv:Value} {k:List Int} (A:bL w F D g L) (O:Ord (ens L)) (hs:∀ es∈ens L,es.length<=32) (hn:L.length<=100000000) (h:By w kv k) :
  Calls Tryz.prog 122 #[.pointer (some ⟨g,0,none⟩),kv] w fun e w'=>e=.returned (.bool (has (ens L) k))/\∃ F' L',ens L'=gQ (ens L) k/\bL w' F' D g L'/\(∀ b,F' b->F b\/w.heap.size<=b)/\Chg F w w':=by
 by_cases hL:L=[]
 ·subst hL;have t:=my (v:=kv) A
  have e1:has (ens []) k=false:=rfl
  have e2:Hid (gQ (ens []) k=ens []):=rfl;rw[e1];have n:=(show Hid _ from A)
  clear A O hs h;go_enter Tryz.func122,Tryz.ntmps122;go_wp2_with (go_at_call 146; refine t.mono ?_; rintro s x ⟨rfl,rfl⟩);go_ret;exact⟨rfl,F,[],e2.out.symm,n.out,fun b hb=>.inl hb,Chg.refl _ _⟩
 ·obtain⟨p,o,j⟩:=pT hL k;have y:=List.mem_of_getElem? o;have E:=hs p.es (List.mem_map.2 ⟨p,y,rfl⟩);have t:=lA A O h (by omega) o (by omega)
  have l:has (ens L) k=thr (kys p.es) k:=by
   unfold has;rw[j];have:(ens L).isEmpty=false:=by simp[ens,hL]
   simp[this]
  rw[l];by_cases f:thr (kys p.es) k=true
  ·obtain⟨e,he,B⟩:=lx f;have r:=(List.getElem?_eq_some_iff.1 he).1
   have m:Hid (gQ (ens L) k=rmQ (ens L) (pgi (ens L) k) (plc (kys p.es) k)):=by
    show _=_
    unfold gQ;rw[l,f,if_pos rfl,j]
   have z:∀ w',Below w.heap.size w w'->_:=fun w' c=>sd (A.keep c) o r hs O.full hn
   rw[f] at t ⊢;generalize pgi (ens L) k=i at *;generalize plc (kys p.es) k=q at *;clear A O hs h f l;go_enter Tryz.func122,Tryz.ntmps122
   go_wp2_with (first
    | (go_at_call 146; refine t.mono ?_; rintro s x ⟨rfl,c⟩; have u:=z x c; clear t z)
    | (go_at_call 171; refine u.mono ?_; rintro s G ⟨F',L',rfl,C,hA,hF,hC⟩))
   go_ret;exact⟨rfl,F',L',C.trans m.out.symm,hA,fun b hb=>(hF b hb).imp id (fun h=>Nat.le_trans c.size h),(Chg.of (F:=F) c).trans hC (fun _ _ h=>h)⟩
  ·have d:thr (kys p.es) k=false:=by simpa using f
   have m:Hid (gQ (ens L) k=ens L):=by
    show _=_
    unfold gQ;rw[l,d,if_neg (by decide)]
   rw[d] at t ⊢;generalize pgi (ens L) k=i at *;generalize plc (kys p.es) k=q at *;have n:=(show Hid _ from A)
   clear A O hs h f d l;go_enter Tryz.func122,Tryz.ntmps122;go_wp2_with (go_at_call 146; refine t.mono ?_; rintro s x ⟨rfl,c⟩);go_ret;exact⟨rfl,F,L,m.out.symm,n.out.keep c,fun b hb=>.inl hb,Chg.of c⟩
theorem Bd {w:World}:Calls Tryz.prog 43 #[] w fun e w'=>∃ g,e=.returned (.pointer (some ⟨g,0,none⟩))/\g=w.heap.size/\bL w' (· = g) (fun _=>False) g []/\Below w.heap.size w w':=by
 go_enter Tryz.func43,Tryz.ntmps43;go_wp2;go_ret;refine⟨_,rfl,rfl,⟨⟨_,aC w [.slice none 0 0] 144,rfl,.inl ⟨rfl,rfl⟩⟩,fun p c=>by simp at c,by simp,fun b hb => ?_⟩,ae w _⟩;subst hb;exact⟨_,_,aC w [.slice none 0 0] 144,by decide⟩
end Pg
end
section
namespace Pg
open Go.RowKit Go.Lib
end Pg
end
section
namespace Pg
open Go.RowKit Go.Lib
section
variable {B l B' g n:Nat}{W W' w:World}{cs:List Value}{fn:FuncId}{tmps args lb:Array Value}{ps:Array Tmp}{assign body:Code}{I:Nat->World->Prop}{Ix:Code->Nat->World->Prop}{Ar:Nat->Array Value->Nat->World->Prop}{Rd:World->Prop}
structure Rec(B:Nat)(W W':World):Prop where
 os:W'.os=W.os
 tape:W'.tape=W.tape
 output:W'.output=W.output
 size:W.heap.size<=W'.heap.size
 same:∀ (k:Nat) (o:Obj),W.heap[k]? = some o->(k < B\/o.isCells=true)->W'.heap[k]? = some o
def St(B:Nat)(I:World->Prop):Prop:=∀ W W',I W->Rec B W W'->I W'
theorem Rec.of(h:Below W.heap.size W W'):Rec B W W':=⟨h.os,h.tape,h.output,h.size,fun k _ hk _=>(h.block k (lt_of_block hk)).trans hk⟩
theorem Rec.put{o:Obj}(h:W.heap[l]? = some o)(d:o.isCells=false)(f:B<=l)(c:Obj):Rec B W (W.putObj l c) :=
 ⟨rfl,rfl,rfl,by simp,fun k x a hx=>by
  have b:k≠l:=fun e=>by
   subst e;rw[h] at a
   cases a;rcases hx with hx | hx
   ·omega
   ·rw[d] at hx; cases hx
  exact(World.putObj_heap_other b).trans a⟩
theorem Rec.mono(h:Rec B W W')(hB:B'<=B):Rec B' W W':=⟨h.os,h.tape,h.output,h.size,fun k o hk ho=>h.same k o hk (ho.imp (fun h=>by omega) id)⟩
theorem Rec.blk(h:Rec B W W'){t:TypeId}(hb:Blk W g cs t):Blk W' g cs t:=⟨h.same g _ hb.blk (.inr rfl)⟩
theorem vH(hb:Below W.heap.size W W')(b:l < W.heap.size)(o:Obj):Below (W.putObj l o).heap.size (W.putObj l o) (W'.putObj l o):=by
 refine⟨hb.os,hb.tape,hb.output,by simpa using hb.size,fun k a => ?_⟩;simp at a;by_cases e:k=l
 ·subst e;have:=hb.size;rw[World.putObj_heap_same (by omega),World.putObj_heap_same b]
 ·rw[World.putObj_heap_other e,World.putObj_heap_other e]; exact hb.block k a
structure Cel(W W':World):Prop where
 size:W.heap.size<=W'.heap.size
 same:∀ (k:Nat) (o:Obj),W.heap[k]? = some o->o.isCells=true->W'.heap[k]? = some o
theorem Rec.cel(h:Rec B W W'):Cel W W':=⟨h.size,fun k o hk ho=>h.same k o hk (.inr ho)⟩
def Safe(Tp:TypeId->Prop)(o:Obj):Prop:=∀ cs t fz,o=.cells cs t fz->¬ Tp t
theorem wI{Tp:TypeId->Prop}{r:Loop}:Safe Tp (.loop r):=fun _ _ _ e=>by cases e
theorem lV{Tp:TypeId->Prop}{d:Option (List Deferred)}:Safe Tp (.deferred d):=fun _ _ _ e=>by cases e
structure bp(Tp:TypeId->Prop)(B:Nat)(W W':World):Prop where
 size:W.heap.size<=W'.heap.size
 same:∀ (k:Nat) (o:Obj),B<=k->W.heap[k]? = some o->Safe Tp o->W'.heap[k]? = some o
theorem bp.of{Tp:TypeId->Prop}(h:Below W.heap.size W W'):bp Tp B W W':=⟨h.size,fun k _ _ hk _=>(h.block k (lt_of_block hk)).trans hk⟩
theorem bp.trans{Tp:TypeId->Prop}{W'':World}(h:bp Tp B W W')(h':bp Tp B W' W''):bp Tp B W W'':=⟨Nat.le_trans h.size h'.size,fun k o hB hk ho=>h'.same k o hB (h.same k o hB hk ho) ho⟩
theorem bp.mono{Tp:TypeId->Prop}(h:bp Tp B W W')(hB:B<=B'):bp Tp B' W W':=⟨h.size,fun k o hk h0 ho=>h.same k o (Nat.le_trans hB hk) h0 ho⟩
theorem bp.blk{Tp:TypeId->Prop}(h:bp Tp B W W'){t:TypeId}(hb:Blk W g cs t)(hg:B<=g)(ht:¬ Tp t):Blk W' g cs t:=⟨h.same g _ hg hb.blk (fun _ _ _ e=>by cases e; exact ht)⟩
def Itr(Tp:TypeId->Prop)(gf:Nat)(lb:Array Value)(N:Nat)(Ar:Nat->Array Value->Nat->World->Prop)(Rd:World->Prop):Prop :=
 ∀ (l:Nat) (J Jx:Nat->World->Prop) (W:World),(∀ i,St W.heap.size (J i))->(∀ i,St W.heap.size (Jx i))->(∀ i V,J i V->Rd V) ->
  (∀ i args V V',i < N->J i V->W.heap.size<=V.heap.size->Below V.heap.size V V'->Ar i args V.heap.size V'->YieldAt Fence.wide 0 Tryz.prog l args V' fun e V''=>bp Tp W.heap.size V' V''/\((e=.returned (.bool true)/\J (i + 1) V'')\/(e=.returned (.bool false)/\Jx (i + 1) V''))) ->
  J 0 W ->
  Calls Tryz.prog gf (#[.func (.yield l) #[] #[]] ++ lb) W fun e W'=>(∃ v,e=.returned v)/\W.heap.size<=W'.heap.size/\(J N W'\/∃ i,i < N/\Jx (i + 1) W')
def ow(Tp:TypeId->Prop)(B:Nat)(I:Nat->World->Prop)(Ix:Code->Nat->World->Prop)(i:Nat)(W:World):Exit->Act->World->Prop
 | .normal,_,W'=>bp Tp B W W'/\I i W'
 | .ret,_,W'=>bp Tp B W W'/\Ix .ret i W'
 | .exit id,_,W'=>bp Tp B W W'/\Ix (.exit id) i W'
 | .goto t,_,W'=>bp Tp B W W'/\Ix (.goto t) i W'
 | .panic _,_,_=>False
 | .outgrown,_,_=>False
def de(fn:FuncId)(tmps:Array Value)(ps:Array Tmp)(assign body:Code)(dd:Nat)(st:LoopState)(pe:Option Code):Loop:={ state:=st,pending:=pe,fn,tmps,params:=ps,assign,body,defers:=dd }
structure gh(Tp:TypeId->Prop)(B l:Nat)(W W':World):Prop where
 size:W.heap.size<=W'.heap.size
 same:∀ (k:Nat) (o:Obj),B<=k->k≠l->W.heap[k]? = some o->Safe Tp o->W'.heap[k]? = some o
theorem gh.from{Tp:TypeId->Prop}{B1:Nat}(h:gh Tp B l W W')(hB:B<=B1)(hl:l < B1):bp Tp B1 W W':=⟨h.size,fun k o hk h0 ho=>h.same k o (by omega) (by omega) h0 ho⟩
theorem iV{Tp:TypeId->Prop}{i:Nat}{dd:Nat}{V:World}(z:∀ i args n V W,Ar i args n V->Cel V W->Ar i args n W)(S:∀ i,St B (I i))(G:∀ c i,St B (Ix c i))(q:B<=l)(hL:V.heap[l]? = some (.loop (de fn tmps ps assign body dd .ready none)))(hi:I i V)(hb:Below V.heap.size V W)(X:Ar i args V.heap.size W)(R:args.size=ps.size)(x:assign.wpIn (Fence.wide.inRound l) n Tryz.prog (Exit.then (fun a1 W1=>Below W.heap.size W W1/\∀ V2 W2,I i V2->Below V2.heap.size V2 W2->Ar i args V2.heap.size W2->(∀ b,b≠l->W2.heap[b]? = W1.heap[b]?)->W2.heap.size=W1.heap.size->V2.heap.size=V.heap.size->(∃ r,W2.heap[l]? = some (.loop r))->body.wpIn (Fence.wide.inRound l) n Tryz.prog (ow Tp B I Ix (i + 1) W2) a1 W2) (fun _ _ _=>False)) { tmps:=(ps.zip args).foldl (fun t (p,v)=>t.setIfInBounds p v) tmps,defers:=[] } W) :
  YieldAt Fence.wide 0 Tryz.prog l args W fun e W'=>gh Tp B l W W'/\((e=.returned (.bool true)/\I (i + 1) W'/\W'.heap[l]? = some (.loop (de fn tmps ps assign body dd .ready none)))\/(e=.returned (.bool false)/\∃ c,Ix c (i + 1) W'/\W'.heap[l]? = some (.loop (de fn tmps ps assign body dd .done (some c))))):=by
 have L:l < V.heap.size:=lt_of_block hL
 have C:W.heap[l]? = some (.loop (de fn tmps ps assign body dd .ready none)):=(hb.block l L).trans hL;have hy:=run_yield (P:=Tryz.prog) (args:=args) C R
 have u:assign.wpIn (Fence.wide.inRound l) n Tryz.prog (Exit.then (fun Z U=>∃ w₂,(Instr.beginRound l).run Tryz.prog U=.ok () w₂/\body.wpIn (Fence.wide.inRound l) n Tryz.prog (roundPost Tryz.prog l fun e W'=>gh Tp B l W W'/\((e=.returned (.bool true)/\I (i + 1) W'/\W'.heap[l]? = some (.loop (de fn tmps ps assign body dd .ready none)))\/(e=.returned (.bool false)/\∃ c,Ix c (i + 1) W'/\W'.heap[l]? = some (.loop (de fn tmps ps assign body dd .done (some c)))))) Z w₂) (fun _ _ _=>False)) { tmps:=(ps.zip args).foldl (fun t (p,v)=>t.setIfInBounds p v) tmps,defers:=[] } W:=by
  refine wpIn_mono x ?_
  intro e a1 W1 h
  cases e with
  | normal =>
   obtain⟨w,E⟩:=h
   have H:W1.heap[l]? = some (.loop (de fn tmps ps assign body dd .ready none)):=(w.block l (lt_of_block C)).trans C
   have A:l < W1.heap.size:=lt_of_block H;refine⟨_,run_beginRound H rfl,?_⟩
   have N:Below V.heap.size V W1:=aj hb w;have Y:=E (V.putObj l (.loop { de fn tmps ps assign body dd .ready none with state:=.busy })) (W1.putObj l (.loop { de fn tmps ps assign body dd .ready none with state:=.busy }))
    (S i _ _ hi (Rec.put hL rfl q _)) (vH N L _) (by simpa using z i args _ _ _ (z i args _ _ _ X (Rec.of (B:=0) w).cel) (Rec.put H rfl (Nat.zero_le _) _).cel)
    (fun b hb=>World.putObj_heap_other hb) (by simp) (by simp) ⟨_,World.putObj_heap_same A⟩
   have Q:(W1.putObj l (.loop { de fn tmps ps assign body dd .ready none with state:=.busy })).heap[l]? = some (.loop { de fn tmps ps assign body dd .ready none with state:=.busy }):=World.putObj_heap_same A;generalize hW2:W1.putObj l (.loop { de fn tmps ps assign body dd .ready none with state:=.busy })=W2 at *
   have K:gh Tp B l W W2:=by
    rw[<- hW2];refine⟨by simpa using w.size,fun k _ O y M _ => ?_⟩;rw[World.putObj_heap_other y];exact(w.block k (lt_of_block M)).trans M
   have fin:∀ (jump:Option Code) (s:World),bp Tp B W2 s ->
     (Instr.endRound l jump).run Tryz.prog s=.ok (.bool jump.isNone) (s.putObj l (.loop (de fn tmps ps assign body dd (if jump.isNone then .ready else .done) jump)))/\s.heap[l]? = some (.loop { de fn tmps ps assign body dd .ready none with state:=.busy }) /\
     (s.putObj l (.loop (de fn tmps ps assign body dd (if jump.isNone then .ready else .done) jump))).heap[l]? = some (.loop (de fn tmps ps assign body dd (if jump.isNone then .ready else .done) jump)) /\
     gh Tp B l W (s.putObj l (.loop (de fn tmps ps assign body dd (if jump.isNone then .ready else .done) jump))):=fun jump s a=>by
    have d:=a.same _ _ q Q wI;refine⟨run_endRound (P:=Tryz.prog) jump d,d,World.putObj_heap_same (lt_of_block d),⟨by simpa using Nat.le_trans K.size a.size,fun k o O y M T => ?_⟩⟩;rw[World.putObj_heap_other y];exact a.same k o O (K.same k o O y M T) T
   refine wpIn_mono Y ?_
   intro e a3 s J
   cases e with
   | normal =>
    obtain⟨a,g⟩:=J;obtain⟨D,d,j,m⟩:=fin none s a;exact⟨_,_,D,m,.inl ⟨rfl,S _ _ _ g (Rec.put d rfl q _),j⟩⟩
   | ret =>
    obtain⟨a,g⟩:=J;obtain⟨D,d,j,m⟩:=fin (some .ret) s a;exact⟨_,_,D,m,.inr ⟨rfl,.ret,G _ _ _ _ g (Rec.put d rfl q _),j⟩⟩
   | exit id =>
    obtain⟨a,g⟩:=J;obtain⟨D,d,j,m⟩:=fin (some (.exit id)) s a;exact⟨_,_,D,m,.inr ⟨rfl,.exit id,G _ _ _ _ g (Rec.put d rfl q _),j⟩⟩
   | goto t =>
    obtain⟨a,g⟩:=J;obtain⟨D,d,j,m⟩:=fin (some (.goto t)) s a;exact⟨_,_,D,m,.inr ⟨rfl,.goto t,G _ _ _ _ g (Rec.put d rfl q _),j⟩⟩
   | panic ch=>exact J.elim
   | outgrown=>exact J.elim
  | ret=>exact h.elim
  | exit id=>exact h.elim
  | goto t=>exact h.elim
  | panic ch=>exact h.elim
  | outgrown=>exact h.elim
 exact⟨fn,_,assign,body,hy,by
  have:=roundIn_of_wpIn (F:=Fence.wide) (n:=n) (P:=Tryz.prog) (f:=fn) trivial u
  exact⟨this.1,fun c cs _=>this.2 c cs (fun _ h=>by cases h)⟩⟩
def RoundW(Tp:TypeId->Prop)(w:World)(N n:Nat)(ps:Array Tmp)(assign body:Code)(tmps:Array Value)(Ar:Nat->Array Value->Nat->World->Prop)(I:Nat->World->Prop)(Ix:Code->Nat->World->Prop):Prop :=
 ∀ (l i:Nat) (args:Array Value) (V W:World),w.heap.size<=l->l < V.heap.size->(∃ r,V.heap[l]? = some (.loop r))->i < N->I i V->Below V.heap.size V W->Ar i args V.heap.size W ->
  assign.wpIn (Fence.wide.inRound l) n Tryz.prog (Exit.then (fun a1 W1=>Below W.heap.size W W1/\∀ V2 W2,I i V2->Below V2.heap.size V2 W2->Ar i args V2.heap.size W2->(∀ b,b≠l->W2.heap[b]? = W1.heap[b]?)->W2.heap.size=W1.heap.size->V2.heap.size=V.heap.size->(∃ r,W2.heap[l]? = some (.loop r))->body.wpIn (Fence.wide.inRound l) n Tryz.prog (ow Tp w.heap.size I Ix (i + 1) W2) a1 W2) (fun _ _ _=>False)) { tmps:=(ps.zip args).foldl (fun t (p,v)=>t.setIfInBounds p v) tmps,defers:=[] } W
theorem gS{Tp:TypeId->Prop}{r N:Nat}(U:Itr Tp r lb N Ar Rd){g:Operand}{Q:Exit->Act->World->Prop}{a:Act}(O:a.eval g=.func (.func r) #[] lb)(M:∀ args w,(callFunc r args).run Tryz.prog w=.ok (.enter r args) w)(t:∀ i args n V W,Ar i args n V->Cel V W->Ar i args n W)(z:∀ i args n V,Ar i args n V->args.size=ps.size)(I:Nat->World->Prop)(Ix:Code->Nat->World->Prop)(y:∀ i,St w.heap.size (I i))(o:∀ c i,St w.heap.size (Ix c i))(K:∀ i V,I i V->Rd V)(S:I 0 w)(j:RoundW Tp w N n ps assign body a.tmps Ar I Ix)(m:∀ D W,w.heap.size<=D->W.heap[D]? = some (.deferred (some []))->I N W->Q .normal { a with defers:={ target:=.collected D,args:=#[] } :: a.defers } W)(l:∀ D c i W,w.heap.size<=D->W.heap[D]? = some (.deferred (some []))->i < N->Ix c (i + 1) W->c.wpIn Fence.wide n Tryz.prog Q { a with defers:={ target:=.collected D,args:=#[] } :: a.defers } W) :
  (Code.rangeFunc g ps assign body).wpIn Fence.wide n Tryz.prog Q a w:=by
 refine wpIn_rangeFunc ?_
 intro fn _;obtain⟨d,b⟩:∃ d,(w.alloc (.deferred (some []))).alloc (.loop (de fn a.tmps ps assign body w.heap.size .ready none))=d:=⟨_,rfl⟩
 have C:Below w.heap.size w d:=by rw[<- b]; exact aj (ae w _) (ae _ _)
 have T:d.heap.size=w.heap.size + 1 + 1:=by rw[<- b]; simp
 have E:d.heap[w.heap.size + 1]? = some (.loop (de fn a.tmps ps assign body w.heap.size .ready none)):=by
  rw[<- b]; have:=World.alloc_heap_new (w.alloc (.deferred (some []))) (.loop (de fn a.tmps ps assign body w.heap.size .ready none)); rwa [World.size_alloc] at this
 have G:d.heap[w.heap.size]? = some (.deferred (some [])):=by
  rw[<- b]; exact(Below.heap_alloc _ _ _ (by simp)).trans (World.alloc_heap_new w _)
 refine⟨w.heap.size + 1,[{ target:=.collected w.heap.size,args:=#[] }],d,{ target:=.fn (.func r) lb,args:=#[.func (.yield (w.heap.size + 1)) #[] #[]] },d,r,
  #[.func (.yield (w.heap.size + 1)) #[] #[]] ++ lb,d,?_,?_,?_,?_,fun h=>(by cases h),?_⟩
 ·rw[<- b]; exact run_enterLoop_outer _ _ _ _ _
 ·simp only[resolve,O];simp[go_sem]
 ·intro f' _; trivial
 ·simp[invoke,go_sem,M]
 ·refine callsIn_wide.2 ?_
  refine(U (w.heap.size + 1)
   (fun i W=>I i W/\W.heap[w.heap.size + 1]? = some (.loop (de fn a.tmps ps assign body w.heap.size .ready none))/\W.heap[w.heap.size]? = some (.deferred (some [])))
   (fun i W=>∃ c,Ix c i W/\W.heap[w.heap.size + 1]? = some (.loop (de fn a.tmps ps assign body w.heap.size .done (some c)))/\W.heap[w.heap.size]? = some (.deferred (some [])))
   d (fun i X Y hx q=>⟨y i X Y hx.1 (q.mono (by omega)),q.same _ _ hx.2.1 (.inl (by omega)),q.same _ _ hx.2.2 (.inl (by omega))⟩)
   (fun i X Y hx q=>by obtain⟨c,A,F,L⟩:=hx; exact⟨c,o c i X Y A (q.mono (by omega)),q.same _ _ F (.inl (by omega)),q.same _ _ L (.inl (by omega))⟩)
   (fun i V hv=>K i V hv.1) ?_ ⟨y 0 _ _ S (Rec.of C),E,G⟩).mono ?_
  ·rintro i args V R p ⟨hi,f,s⟩ H hb J;refine(iV (B:=w.heap.size) t y o (by omega) f hi hb J (z _ _ _ _ J) (j _ i args V R (by omega) (lt_of_block f) ⟨_,f⟩ p hi hb J)).mono ?_
   rintro e Z ⟨x,h⟩;have u:=x.same _ _ (Nat.le_refl _) (by omega) ((hb.block _ (lt_of_block s)).trans s) lV;refine⟨x.from (by omega) (by omega),h.imp (fun h=>⟨h.1,h.2.1,h.2.2,u⟩) (fun h => ?_)⟩;obtain⟨A,c,F,L⟩:=h;exact⟨A,c,F,L,u⟩
  ·rintro e W2 ⟨⟨v,rfl⟩,H,⟨hi,f,s⟩ | ⟨i,p,c,hi,f,s⟩⟩
   ·exact⟨none,_,run_endLoop (P:=Tryz.prog) f (by simp[de]),m _ _ (Nat.le_refl _) ((World.putObj_heap_other (by omega)).trans s) (y _ _ _ hi (Rec.put f rfl (by omega) _))⟩
   ·exact⟨some c,_,run_endLoop (P:=Tryz.prog) f (by simp[de]),l _ c i _ (Nat.le_refl _) ((World.putObj_heap_other (by omega)).trans s) p (o c _ _ _ hi (Rec.put f rfl (by omega) _))⟩
end
end Pg
end
section
namespace Pg
open Go.RowKit Go.Lib
section
variable {a b:Nat}{w:World}{v fv tv:Value}{t f:List Int}{D:Nat->Prop}{P:List (List En)}{F:Nat → Prop}{L:List Pg}
def cut{α:Type}(l:List α)(a b:Nat):List α:=(l.drop a).take (max a b - a)
theorem uZ{α:Type}{l:List α}{j:Nat}{x:α}(h:(cut l a b)[j]? = some x):l[a + j]? = some x:=by
 unfold cut at h;rw[List.getElem?_take] at h;split at h
 ·rw[List.getElem?_drop] at h; exact h
 ·cases h
theorem vC{α:Type}{l:List α}(ha:a<=l.length)(hb:b<=l.length):(cut l a b).length=max a b - a:=by
 unfold cut;rw[List.length_take,List.length_drop]; omega
def eQ(P:List (List En))(t:List Int):Nat:=if t=[] then P.length else min (pgi P t + 1) P.length
def tH(es:List En)(t:List Int):Nat:=if t=[] then es.length else plc (kys es) t
def wth(es:List En)(f t:List Int):List En:=cut es (plc (kys es) f) (tH es t)
def wlk(P:List (List En))(f t:List Int):List En:=(cut P (pgi P f) (eQ P t)).flatMap fun es=>wth es f t
theorem lZ(h:By w v t):Calls Tryz.prog 173 #[v] w fun e w'=>e=.returned (.bool (decide (t≠[])))/\w'=w:=by
 obtain⟨j,c,rfl,g,n,m,i,f⟩:=h.ex
 have d:(decide (t≠[]))=decide ((0:Int) < (t.length:Int)):=by
  cases t with
  | nil=>rfl
  | cons a l=>simp
 rw[d];clear h f
 have b:decide ((0:Int) < (t.length:Int))=decide (0 < t.length):=by congr 1; exact propext ⟨fun h=>by omega,fun h=>by omega⟩
 rw[b];go_enter Tryz.func173,Tryz.ntmps173;go_wp2;go_ret;exact⟨rfl,rfl⟩
structure SpA(w:World)(F:Nat->Prop)(v:Value)(Q:List Pg):Prop where
 ex:∃ ao c,v=.slice ao Q.length c/\Q.length<=c/\c<=9223372036854775807/\∀ j p,Q[j]? = some p->∃ b o,ao=some ⟨b,o,none⟩/\F b/\w.cell? ⟨b,o + j,none⟩=some p.v
structure ESl(w:World)(q:Nat)(v:Value)(es:List En):Prop where
 ex:∃ ao c,v=.slice ao es.length c/\es.length<=c/\c<=9223372036854775807/\∀ j e,es[j]? = some e->∃ o,ao=some ⟨q,o,none⟩/\w.cell? ⟨q,o + j * 2,none⟩=some e.kv/\w.cell? ⟨q,o + j * 2 + 1,none⟩=some e.vv
theorem ui{p:Pg}(A:PgA w D p)(S:Srt (kys p.es))(hf:By w fv f)(H:By w tv t)(hn:p.es.length<=1000000) :
  Calls Tryz.prog 126 #[p.v,fv,tv] w fun e w'=>∃ v,e=.returned v/\ESl w' p.b v (wth p.es f t)/\Below w.heap.size w w':=by
 have t1:=gM A S hf hn
 have s:∀ w',Below w.heap.size w w'->Calls Tryz.prog 173 #[tv] w' _:=fun w' l=>lZ (H.keep l)
 have t2:∀ w',Below w.heap.size w w'->Calls Tryz.prog 174 #[p.v,tv] w' _:=fun w' l=>gM (A.keep l) S (H.keep l) hn
 have i:=A.row;have n:=i.le;simp only[maxLen] at n;have R:=n.1;have Q:=n.2;have z:=oW (kys p.es) f;have L:=oW (kys p.es) t
 have u:(kys p.es).length=p.es.length:=by simp[kys]
 rw[u] at z L
 have g:∀ (F:Option Addr) (k c y:Nat) (w':World),tH p.es t=y->y<=p.es.length->Below w.heap.size w w'->k=max (plc (kys p.es) f) y - plc (kys p.es) f->k<=c->c<=9223372036854775807->(k=0\/F=some ⟨p.b,plc (kys p.es) f * 2,none⟩)->ESl w' p.b (.slice F k c) (wth p.es f t):=fun F k c y w' he hy l I N hc K=>by
  have J:(wth p.es f t).length=k:=by
   unfold wth; rw[he,vC z hy,I]
  refine⟨F,c,by rw[J],by rw[J]; exact N,hc,fun j e P => ?_⟩;have O:=(List.getElem?_eq_some_iff.1 P).1;rw[J] at O
  have C:=uZ (show (cut p.es (plc (kys p.es) f) (tH p.es t))[j]? = some e from P);have I:=(i.keep l).cell (pM C);have hv:=(i.keep l).cell (kx C);refine⟨plc (kys p.es) f * 2,K.resolve_left (by omega),?_,?_⟩
  ·rw[<- Nat.add_mul]; exact I
  ·rw[<- Nat.add_mul]; exact hv
 have g:Hid _:=g
 have o:Hid (tH p.es t=if t=[] then p.es.length else plc (kys p.es) t):=rfl;generalize hx:plc (kys p.es) f=x at *
 have X:Hid _:=hx;generalize hy:plc (kys p.es) t=y at *
 have W:Hid _:=hy;generalize thr (kys p.es) f=bx at *;generalize thr (kys p.es) t=T at *
 simp only[Pg.v] at t1 t2 ⊢;generalize hm:p.es.length=m at *
 have V:Hid _:=hm
 have z0:(0:Int)<=(x:Int):=by omega
 have z1:(x:Int)<=(m:Int):=by omega
 clear A S hf H i n u hx hy hm;by_cases r:t=[]
 ·have B:decide (t≠[])=false:=by simp[r]
  rw[B] at s
  have he:Hid (tH p.es t=m):=by show _=_; rw[o.out,if_pos r]
  clear r B t2 o;go_enter Tryz.func126,Tryz.ntmps126
  go_wp2_with (first
   | (go_at_call 174; refine t1.mono ?_; rintro E G ⟨rfl,d⟩; have q:=s G d; clear t1 s)
   | (go_at_call 173; refine q.mono ?_; rintro E U ⟨rfl,rfl⟩))
  all_goals (
   go_ret
   exact⟨_,rfl,g.out _ _ _ m _ he.out (Nat.le_refl _) d (by omega) (by omega) (by omega) (by first | exact .inr rfl | exact .inl (by omega) | exact .inl rfl),d⟩)
 ·have B:decide (t≠[])=true:=by simp[r]
  rw[B] at s
  have he:Hid (tH p.es t=y):=by show _=_; rw[o.out,if_neg r]
  have mk:True:=trivial;clear r B o;go_enter Tryz.func126,Tryz.ntmps126
  go_wp2_with (first
   | (go_at_call 174; clear mk; refine t1.mono ?_; rintro E G ⟨rfl,d⟩; have q:=s G d; have t21:=t2 G d; clear t1 s t2)
   | (go_at_call 173; refine q.mono ?_; rintro E U ⟨rfl,rfl⟩)
   | (go_at_call 174; refine t21.mono ?_; rintro E Y ⟨rfl,M⟩; have l:=aj d M))
  all_goals (
   go_ret
   exact⟨_,rfl,g.out _ _ _ y _ he.out (by omega) l (by omega) (by omega) (by omega) (by first | exact .inr rfl | exact .inl (by omega) | exact .inl rfl),l⟩)
theorem yW(k:List Int):pgi P k<=P.length:=by
 have h1:=qc (fks P) k;simp only[fks,List.length_map] at h1;unfold pgi fks;omega
theorem xJ{D:Nat → Prop}{g:Nat}(A : bL w F D g L)(O : Ord (ens L))(hf : By w fv f)(ht : By w tv t)(hn : L.length ≤ 100000000) :
    Calls Tryz.prog 125 #[.pointer (some ⟨g, 0, none⟩), fv, tv] w fun e w' => ∃ v, e = .returned v ∧ SpA w' F v (cut L (pgi (ens L) f) (eQ (ens L) t)) ∧ Below w.heap.size w w' := by
  have t1 := iY A.drew O hf.drew (by omega)
  have H : ∀ w', Below w.heap.size w w' → Calls Tryz.prog 173 #[tv] w' _ := fun w' z => lZ (ht.keep z)
  have t2 : ∀ w', Below w.heap.size w w' → Calls Tryz.prog 172 #[.pointer (some ⟨g, 0, none⟩), tv] w' _ := fun w' z => iY (A.keep z) O (ht.keep z) (by omega)
  obtain⟨T, c, hc, hc1, hc2, R⟩:= A.rd
  have N : (ens L).length = L.length := by simp[ens]
  have V : pgi (ens L) f ≤ L.length := by rw[← N]; exact yW f
  have hl2 : pgi (ens L) t ≤ L.length := by rw[← N]; exact yW t
  have U : ∀ G, T = some ⟨G, 0, none⟩ → F G := fun G e => by
    obtain⟨pv, hb, hg, ⟨rfl, rfl⟩ | ⟨G', C, rfl, hG, hR⟩⟩:= A.top
    · have := hb.cell (i := 0) rfl
      rw[hc] at this
      cases this
      cases e
    · have := hb.cell (i := 0) rfl
      rw[hc] at this
      cases this
      cases e;exact hG
  have m : ∀ (X : Option Addr) (k d y : Nat) (w' : World), eQ (ens L) t = y → y ≤ L.length → Below w.heap.size w w' → k = max (pgi (ens L) f) y - pgi (ens L) f → k ≤ d → d ≤ 9223372036854775807 → (k = 0 ∨ ∀ b o, T = some ⟨b, o, none⟩ → X = some ⟨b, o + pgi (ens L) f, none⟩) → SpA w' F (.slice X k d) (cut L (pgi (ens L) f) (eQ (ens L) t)) := fun X k d y w' he hy z hk aa Q ab => by
    have hl : (cut L (pgi (ens L) f) (eQ (ens L) t)).length = k := by rw[he, vC V hy, hk]
    refine⟨X, d, by rw[hl], by rw[hl]; exact aa, Q, fun j p hj => ?_⟩;have hjk := (List.getElem?_eq_some_iff.1 hj).1;rw[hl] at hjk
    have hj' := uZ hj;obtain⟨G, rfl, cG⟩:= R _ p hj'
    exact⟨G, 0 + pgi (ens L) f, (ab.resolve_left (by omega)) G 0 rfl, U G rfl, by
      rw[Nat.zero_add, z.cell (p := ⟨G, pgi (ens L) f + j, none⟩) (aJ cG)]; exact cG⟩
  have m : Hid _ := m
  have B : Hid (eQ (ens L) t = if t = [] then L.length else min (pgi (ens L) t + 1) L.length) := by show _ = _; unfold eQ; rw[N]
  have J := aJ hc
  have R : Hid _ := R
  have W : Hid (T = none ∨ ∃ G, T = some ⟨G, 0, none⟩) := by
    obtain⟨pv, hb, hg, ⟨rfl, rfl⟩ | ⟨G, C, rfl, hG, hR⟩⟩:= A.top
    · have := hb.cell (i := 0) rfl
      rw[hc] at this
      cases this;exact .inl rfl
    · have := hb.cell (i := 0) rfl
      rw[hc] at this
      cases this;exact .inr ⟨G, rfl⟩
  have I : T = none → c = 0 := by
    intro e;obtain⟨pv, hb, hg, ⟨rfl, rfl⟩ | ⟨G, C, rfl, hG, hR⟩⟩:= A.top
    · have := hb.cell (i := 0) rfl
      rw[hc] at this
      cases this;rfl
    · have := hb.cell (i := 0) rfl
      rw[hc] at this
      cases this
      cases e
  generalize hx : pgi (ens L) f = x at *
  have HX : Hid _ := hx;generalize hy : pgi (ens L) t = y at *
  have HY : Hid _ := hy;obtain⟨n, Y⟩ : ∃ n, Hid (L.length = n) := ⟨_, rfl⟩;rw[Y.out] at hc hc1 V hl2 hn m B
  have P : w.drew.cell? ⟨g, 0, none⟩ = some (.slice T n c) := hc
  have z0 : (0 : Int) ≤ (x : Int) := by omega
  have z1 : (x : Int) ≤ (n : Int) := by omega
  have zw : IntKind.i64.wrap ((y : Int) + 1) = (y : Int) + 1 := by rw[IntKind.wrap_i64]; omega
  have M := bX w;have HN := W.out;clear A O hf ht hx hy N U;by_cases S : t = []
  · have Q : decide (t ≠ []) = false := by simp[S]
    rw[Q] at H
    have he : Hid (eQ (ens L) t = n) := by show _ = _; rw[B.out, if_pos S]
    clear S Q t2 B;rcases HN with rfl | ⟨G, rfl⟩
    · obtain rfl : c = 0 := I rfl
      obtain rfl : n = 0 := by omega
      obtain rfl : x = 0 := by omega
      go_enter Tryz.func125, Tryz.ntmps125;go_wp2;go_region_held3 (fun w' => w'.cell? ⟨g, 0, none⟩ = some (.slice none 0 0)) (assumption)
        (first
          | (go_at_call 172; refine t1.mono ?_; rintro K u ⟨rfl, q⟩; have r : u.cell? ⟨g, 0, none⟩ = _ := (q.cell (p := ⟨g, 0, none⟩) J).trans P; have l := aj M q))
      have s := H u l;clear t1 H;go_wp2_with (go_at_call 173; refine s.mono ?_; rintro K w2 ⟨rfl, rfl⟩)
      all_goals (
        go_ret
        exact⟨_, rfl, m.out _ _ _ 0 _ he.out (by omega) l (by omega) (by omega) (by omega) (by first | exact .inl (by omega) | exact .inr (fun b o e => by cases e; simp)), l⟩)
    · clear I
      go_enter Tryz.func125, Tryz.ntmps125;go_wp2;go_region_held3 (fun w' => w'.cell? ⟨g, 0, none⟩ = some (.slice (some ⟨G, 0, none⟩) n c)) (assumption)
        (first
          | (go_at_call 172; refine t1.mono ?_; rintro K u ⟨rfl, q⟩; have r : u.cell? ⟨g, 0, none⟩ = _ := (q.cell (p := ⟨g, 0, none⟩) J).trans P; have l := aj M q))
      have s := H u l;clear t1 H;go_wp2_with (go_at_call 173; refine s.mono ?_; rintro K w2 ⟨rfl, rfl⟩)
      all_goals (
        go_ret
        exact⟨_, rfl, m.out _ _ _ n _ he.out (by omega) l (by omega) (by omega) (by omega) (by first | exact .inl (by omega) | exact .inr (fun b o e => by cases e; simp)), l⟩)
  · have Q : decide (t ≠ []) = true := by simp[S]
    rw[Q] at H
    have he : Hid (eQ (ens L) t = min (y + 1) n) := by show _ = _; rw[B.out, if_neg S]
    clear S Q B;rcases HN with rfl | ⟨G, rfl⟩
    · obtain rfl : c = 0 := I rfl
      obtain rfl : n = 0 := by omega
      obtain rfl : x = 0 := by omega
      go_enter Tryz.func125, Tryz.ntmps125;go_wp2;go_region_held3 (fun w' => w'.cell? ⟨g, 0, none⟩ = some (.slice none 0 0)) (assumption)
        (first
          | (go_at_call 172; refine t1.mono ?_; rintro K u ⟨rfl, q⟩; have r : u.cell? ⟨g, 0, none⟩ = _ := (q.cell (p := ⟨g, 0, none⟩) J).trans P; have l := aj M q))
      have s := H u l;have t21 := t2 u l;clear t1 H t2
      go_wp2_with (first
        | (go_at_call 173; refine s.mono ?_; rintro K w2 ⟨rfl, rfl⟩)
        | (go_at_call 172; refine t21.mono ?_; rintro K w3 ⟨rfl, E⟩; have Z : w3.cell? ⟨g, 0, none⟩ = _ := (E.cell (p := ⟨g, 0, none⟩) (aJ r)).trans r; have z := aj l E))
      all_goals (
        go_ret
        exact⟨_, rfl, m.out _ _ _ (min (y + 1) 0) _ he.out (by omega) z (by omega) (by omega) (by omega) (by first | exact .inl (by omega) | exact .inr (fun b o e => by cases e; simp)), z⟩)
    · clear I
      go_enter Tryz.func125, Tryz.ntmps125;go_wp2;go_region_held3 (fun w' => w'.cell? ⟨g, 0, none⟩ = some (.slice (some ⟨G, 0, none⟩) n c)) (assumption)
        (first
          | (go_at_call 172; refine t1.mono ?_; rintro K u ⟨rfl, q⟩; have r : u.cell? ⟨g, 0, none⟩ = _ := (q.cell (p := ⟨g, 0, none⟩) J).trans P; have l := aj M q))
      have s := H u l;have t21 := t2 u l;clear t1 H t2
      go_wp2_with (first
        | (go_at_call 173; refine s.mono ?_; rintro K w2 ⟨rfl, rfl⟩)
        | (go_at_call 172; refine t21.mono ?_; rintro K w3 ⟨rfl, E⟩; have Z : w3.cell? ⟨g, 0, none⟩ = _ := (E.cell (p := ⟨g, 0, none⟩) (aJ r)).trans r; have z := aj l E))
      all_goals (
        go_ret
        exact⟨_, rfl, m.out _ _ _ (min (y + 1) n) _ he.out (by omega) z (by omega) (by omega) (by omega) (by first | exact .inl (by omega) | exact .inr (fun b o e => by cases e; simp)), z⟩)
end
end Pg
end
end Go.Proofs.YthfepflplbahkaaGreatDoor
