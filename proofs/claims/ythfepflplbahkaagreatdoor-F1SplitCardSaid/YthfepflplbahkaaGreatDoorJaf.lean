import Derived.Test.YthfepflplbahkaaGreatDoorJac
import Derived.Lib.BytesEntry
import Derived.WalkMore
import Derived.Deep.RegionHeld3
import Derived.Deep.RegionWith
import Derived.RangeFuncNested
import Derived.RangeFuncBound
import Derived.RangeFuncCalls
import Derived.RangeFuncLeaves
set_option maxRecDepth 100000
set_option maxHeartbeats 8000000
namespace Go.Proofs.YthfepflplbahkaaGreatDoor
section
namespace Pg
open Go.RowKit Go.Lib
section
variable {w w':World}{k b n c m:Nat}{xs ys:List Value}{F:Nat->Prop}{v:Value}
structure Rw(w:World)(E:TypeId)(k b n c:Nat)(xs:List Value):Prop where
 ex:∃ sp,Blk w b (xs ++ sp) E/\xs.length=n * k/\(xs ++ sp).length=c * k/\n<=c/\c<=maxLen
theorem Rw.lt{E:TypeId}(h:Rw w E k b n c xs):b < w.heap.size:=by
 obtain⟨sp,h,_⟩:=h.ex; exact h.lt
theorem Rw.same{E:TypeId}(h:Rw w E k b n c xs)(hb:w'.heap[b]? = w.heap[b]?):Rw w' E k b n c xs:=by
 obtain⟨sp,h,h'⟩:=h.ex; exact⟨sp,h.same hb,h'⟩
theorem Rw.keep{E:TypeId}(h:Rw w E k b n c xs)(hb:Below w.heap.size w w'):Rw w' E k b n c xs:=h.same (hb.block b h.lt)
theorem Rw.chg{E:TypeId}(h:Rw w E k b n c xs)(hb:Chg F w w')(hg:¬ F b):Rw w' E k b n c xs:=h.same (hb.same b h.lt hg)
theorem Rw.drew{E:TypeId}(h:Rw w E k b n c xs):Rw w.drew E k b n c xs:=h.same rfl
theorem Rw.len{E:TypeId}(h:Rw w E k b n c xs):xs.length=n * k:=by
 obtain⟨sp,h,h',_⟩:=h.ex; exact h'
theorem Rw.le{E:TypeId}(h:Rw w E k b n c xs):n<=c/\c<=maxLen:=by
 obtain⟨sp,h,_,_,h'⟩:=h.ex; exact h'
theorem Rw.cell{E:TypeId}(h:Rw w E k b n c xs){i:Nat}(hi:xs[i]? = some v):w.cell? ⟨b,i,none⟩=some v:=by
 obtain⟨sp,h,_⟩:=h.ex;exact h.cell (by rw[List.getElem?_append_left (List.getElem?_eq_some_iff.1 hi).1]; exact hi)
theorem Rw.free{E:TypeId}(h:Rw w E k b n c xs)(i:Nat):w.frozen? ⟨b,i,none⟩=false:=by
 obtain⟨sp,h,_⟩:=h.ex; exact h.free i
theorem Rw.kind{E:TypeId}(h:Rw w E k b n c xs):∃ cs,Blk w b cs E:=by
 obtain⟨sp,h,_⟩:=h.ex; exact⟨_,h⟩
theorem Rw.set{E:TypeId}(h:Rw w E k b n c xs)(i:Nat)(hi:i < xs.length)(v:Value):Rw (w.setCell ⟨b,i,none⟩ v) E k b n c (xs.set i v):=by
 obtain⟨sp,h,a,e,d⟩:=h.ex;refine⟨sp,?_,by simpa using a,by simpa using e,d⟩;have:=h.setCell (i:=i) v;rwa [List.set_append_left _ _ hi] at this
theorem Aq{E:TypeId}(h:Blk w b xs E)(hx:xs.length=n * k)(hn:n<=maxLen):Rw w E k b n n xs:=⟨[],by simpa using h,hx,by simpa using hx,Nat.le_refl _,hn⟩
theorem Rw.front{E:TypeId}(h:Rw w E k b n c xs)(hm:m<=n):Rw w E k b m c (xs.take (m * k)):=by
 obtain⟨sp,h,e,d,f,a⟩:=h.ex
 have g:m * k<=n * k:=Nat.mul_le_mul_right _ hm;refine⟨xs.drop (m * k) ++ sp,by rw[<- List.append_assoc,List.take_append_drop]; exact h,by rw[List.length_take]; omega,by rw[<- List.append_assoc,List.take_append_drop]; exact d,by omega,a⟩
theorem Rw.more{E:TypeId}(h:Rw w E k b n c xs)(hm:n + m<=c):∃ s,s.length=m * k/\Rw w E k b (n + m) c (xs ++ s):=by
 obtain⟨sp,h,e,a,f,d⟩:=h.ex
 have g:n * k + m * k<=c * k:=by rw[<- Nat.add_mul]; exact Nat.mul_le_mul_right _ hm
 rw[List.length_append] at a;refine⟨sp.take (m * k),by rw[List.length_take]; omega,sp.drop (m * k),?_,?_,?_,hm,d⟩
 ·rw[List.append_assoc,List.take_append_drop]; exact h
 ·rw[List.length_append,List.length_take,Nat.add_mul]; omega
 ·rw[List.append_assoc,List.take_append_drop,List.length_append]; exact a
theorem Rw.to{E:TypeId}(h:Rw w E k b n c xs)(e:xs=ys):Rw w E k b n c ys:=e▸h
end
section
variable {P:Program} {w:World} {T E:TypeId} {k bytes:Nat} {z:Value}
section
variable {b n c g:Nat}{xs:List Value}
structure Kd(P:Program)(T E:TypeId)(k bytes:Nat)(z:Value):Prop where
 und:P.underlying T=some (.slice E)
 inf:(P.info? E).map (fun i=>(i.zero,i.size,i.bytes))=some (some z,k,bytes)
 zs:z.cells.size=k
 z1:∀ v∈z.cells,v.oneCell'=true
 k0:0 < k
theorem Kd.size(h:Kd P T E k bytes z):(P.info? E).map (·.size)=some k:=by
 obtain⟨i,hi,hz,hs,hb⟩:=info_parts h.inf;rw[hi]; simp[hs]
theorem Kd.sizeOf(h:Kd P T E k bytes z)(w:World):(Go.sizeOf E).run P w=.ok k w:=by
 obtain⟨i,hi,hz,hs,hb⟩:=info_parts h.inf;simp[Go.sizeOf,typeInfo,hi,hs]
theorem Kd.zero(h:Kd P T E k bytes z)(w:World):(zeroValue E).run P w=.ok z w:=by
 obtain⟨i,hi,hz,hs,hb⟩:=info_parts h.inf;simp[zeroValue,typeInfo,hi,hz]
theorem lE(w:World)(E:TypeId)(zc:Array Value)(k n c:Nat)(xs:List Value)(a:zc.size=k)(hx:xs.length=n * k)(hn:n<=c)(hc:c<=maxLen) :
  Rw (w.drew.alloc (.cells (xs.toArray ++ Builtin.zeroCells zc (c - n)) E)) E k w.heap.size n c xs :=
 ⟨(Builtin.zeroCells zc (c - n)).toList,⟨by
  have:=(aC w.drew (xs ++ (Builtin.zeroCells zc (c - n)).toList) E).blk;rw[show (xs ++ (Builtin.zeroCells zc (c - n)).toList).toArray=xs.toArray ++ Builtin.zeroCells zc (c - n) by apply Array.ext'; simp] at this ⊢
  exact this⟩,hx,by
  rw[List.length_append,hx,Array.length_toList,size_zeroCells,a,<- Nat.add_mul]; congr 1; omega,hn,hc⟩
theorem dA(H:Kd P T E k bytes z)(ty:TypeId)(R:Rw w E k b n c xs)(a:Addr)(m cc:Nat)(news:List Value)(l:news.length=m * k)(f:∀ j u,news[j]? = some u->w.cell? (a.add j)=some u)(t:∀ u∈news,u.oneCell'=true)(o:(n + m) * bytes<=140737488355328)(hm:n + m<=140737488355328) :
  ∃ b' c' w',(Builtin.append_ #[T,T] ty #[.slice (some ⟨b,0,none⟩) n c,.slice (some a) m cc]).run P w=.ok (.slice (some ⟨b',0,none⟩) (n + m) c') w'/\(b'=b\/b'=w.heap.size)/\Rw w' E k b' (n + m) c' (xs ++ news)/\Chg (· = b) w w':=by
 obtain⟨i,hi,v,hs,hb⟩:=info_parts H.inf;obtain⟨sp,s,hx,hc,y,q⟩:=R.ex;subst hs hb
 have p:n + m<=maxLen:=by simp only[maxLen]; omega
 by_cases d:n + m<=c
 ·have h:n * i.size + news.length<=(xs ++ sp).toArray.size:=by
   rw[List.size_toArray,hc,l,<- Nat.add_mul]; exact Nat.mul_le_mul_right _ d
  have r:=run_append_room (P:=P) w T ty E i H.und hi b n c (xs ++ sp).toArray s.blk a m cc news l f t d h;refine⟨b,c,_,r,.inl rfl,⟨sp.drop news.length,?_,by rw[List.length_append,hx,l,Nat.add_mul],?_,d,q⟩,(Chg.refl (· = b) w).row (g:=b) (.inl rfl) _⟩
  ·have:=s.row (xs ++ news ++ sp.drop news.length)
   have e:(xs ++ sp).toArray.toList.take (n * i.size) ++ news ++ (xs ++ sp).toArray.toList.drop (n * i.size + news.length)=xs ++ news ++ sp.drop news.length:=by
    rw[show (xs ++ sp).toArray.toList=xs ++ sp from rfl,<- hx,List.take_left,<- List.drop_drop,List.drop_left]
   rw[e]; exact this
  ·have B:xs.length + sp.length=c * i.size:=by rw[<- List.length_append]; exact hc
   have A:n * i.size + m * i.size<=c * i.size:=by rw[<- Nat.add_mul]; exact Nat.mul_le_mul_right _ d
   rw[List.length_append,List.length_append,List.length_drop]; omega
 ·have holds:∀ j u,xs[j]? = some u->w.cell? ((⟨b,0,none⟩:Addr).add j)=some u:=fun j u x=>by rw[Addr.add_lit,Nat.zero_add]; exact R.cell x
  have r:=run_append_grow (P:=P) w T ty E i z H.und hi v ⟨b,0,none⟩ n c xs hx holds a m cc news l f (by omega) (by omega) (growslice_fits (by omega) o);refine⟨w.heap.size,_,_,r,.inr rfl,?_,(Chg.refl _ w).drew.alloc _⟩;have:=lE w E z.cells i.size (n + m) (grownCap w (n + m) c E) (xs ++ news) H.zs (by rw[List.length_append,hx,l,Nat.add_mul]) (grownCap_ge w _ _ _) (grownCap_le_maxLen w _ _ _ p);simpa using this
theorem fi(H:Kd P T E k bytes z)(ty:TypeId)(a:Addr)(m cc:Nat)(news:List Value)(d:news.length=m * k)(c:∀ j u,news[j]? = some u->w.cell? (a.add j)=some u)(h:0 < m)(e:m * bytes<=140737488355328)(hm:m<=140737488355328) :
  ∃ c' w',(Builtin.append_ #[T,T] ty #[.slice none 0 0,.slice (some a) m cc]).run P w=.ok (.slice (some ⟨w.heap.size,0,none⟩) m c') w'/\Rw w' E k w.heap.size m c' news/\Below w.heap.size w w':=by
 obtain⟨i,hi,f,hs,hb⟩:=info_parts H.inf;subst hs hb;have g:=run_append_nil (P:=P) w T ty E i z H.und hi f a m cc news d c h (by omega) (by omega);refine⟨_,_,g,?_,?_⟩
 ·exact lE w E z.cells i.size m (grownCap w m 0 E) news H.zs d (grownCap_ge w _ _ _) (grownCap_le_maxLen w _ _ _ (by simp only[maxLen]; omega))
 ·exact(Below.refl _ w).trans ⟨rfl,rfl,rfl,by simp,fun b hb=>by
   have:=(ae w.drew (.cells (news.toArray ++ Builtin.zeroCells z.cells (grownCap w m 0 E - m)) E)).block b hb
   exact this⟩
theorem om(H:Kd P T E k bytes z)(tn ty:TypeId)(hn:P.underlying tn=some (.int .i64))(R:Rw w E k b n c xs)(m:Nat)(h:0 < m)(hc:c < n + m)(a:(n + m) * bytes<=140737488355328)(hm:n + m<=140737488355328) :
  ∃ c' w',(Builtin.append_ #[T,tn] ty #[.slice (some ⟨b,0,none⟩) n c,.int .i64 m]).run P w=.ok (.slice (some ⟨w.heap.size,0,none⟩) (n + m) c') w'/\Rw w' E k w.heap.size (n + m) c' (xs ++ (Builtin.zeroCells z.cells m).toList)/\Below w.heap.size w w':=by
 obtain⟨i,hi,d,hs,hb⟩:=info_parts H.inf;have hx:=R.len;subst hs hb
 have hold:(Builtin.firstCells i.size n (.slice (some ⟨b,0,none⟩) n c)).run P w.drew=.ok xs.toArray w.drew :=
  run_firstCells_some w.drew i.size n ⟨b,0,none⟩ n c xs hx (fun j v f=>by rw[Addr.add_lit,Nat.zero_add]; exact R.cell f)
 have e:m * i.bytes<=(n + m) * i.bytes:=Nat.mul_le_mul_right _ (by omega);have g:=run_append_grow_zeros w T tn ty E i z .i64 .i64 H.und hn hi d (some ⟨b,0,none⟩) n c xs hold m h H.k0 hc (by omega) (by omega) (growslice_fits hc a);refine⟨_,_,g,?_,?_⟩
 ·have:=lE w E z.cells i.size (n + m) (grownCap w (n + m) c E) (xs ++ (Builtin.zeroCells z.cells m).toList) H.zs (by rw[List.length_append,hx,Array.length_toList,size_zeroCells,H.zs,Nat.add_mul]) (grownCap_ge w _ _ _) (grownCap_le_maxLen w _ _ _ (by simp only[maxLen]; omega));rw[show (xs ++ (Builtin.zeroCells z.cells m).toList).toArray=xs.toArray ++ Builtin.zeroCells z.cells m by apply Array.ext'; simp] at this;exact this
 ·exact⟨rfl,rfl,rfl,by simp,fun b hb=>(ae w.drew (.cells (xs.toArray ++ Builtin.zeroCells z.cells m ++ Builtin.zeroCells z.cells (grownCap w (n + m) c E - (n + m))) E)).block b hb⟩
theorem nu(H:Kd P T E k bytes z)(tn ty:TypeId)(hn:P.underlying tn=some (.int .i64))(m:Nat)(e:0 < m)(a:m * bytes<=140737488355328)(hm:m<=140737488355328) :
  ∃ c' w',(Builtin.append_ #[T,tn] ty #[.slice none 0 0,.int .i64 m]).run P w=.ok (.slice (some ⟨w.heap.size,0,none⟩) m c') w'/\Rw w' E k w.heap.size m c' (Builtin.zeroCells z.cells m).toList/\Below w.heap.size w w':=by
 obtain⟨i,hi,c,hs,hb⟩:=info_parts H.inf;subst hs hb;have d:=run_append_nil_zeros w T tn ty E i z .i64 .i64 H.und hn hi c m e H.k0 (by omega) (by omega);refine⟨_,_,d,?_,?_⟩
 ·have:=lE w E z.cells i.size m (grownCap w m 0 E) (Builtin.zeroCells z.cells m).toList H.zs (by rw[Array.length_toList,size_zeroCells,H.zs]) (grownCap_ge w _ _ _) (grownCap_le_maxLen w _ _ _ (by simp only[maxLen]; omega));simpa using this
 ·exact⟨rfl,rfl,rfl,by simp,fun b hb=>(ae w.drew (.cells (Builtin.zeroCells z.cells m ++ Builtin.zeroCells z.cells (grownCap w m 0 E - m)) E)).block b hb⟩
theorem eQ(H:Kd P T E k bytes z)(ty:TypeId)(R:Rw w E k g n c xs)(o dLen dCap:Nat)(a:Addr)(sLen sCap:Nat)(cs:List Value)(m:Nat)(hm:Nat.min sLen dLen=m)(hn:cs.length=m * k)(d:∀ j v,cs[j]? = some v->w.cell? (a.add j)=some v)(b:o + cs.length<=xs.length)(p:∀ v∈cs,v.oneCell'=true) :
  ∃ w',(Builtin.copy_ #[T,T] ty #[.slice (some ⟨g,o,none⟩) dLen dCap,.slice (some a) sLen sCap]).run P w=.ok (goInt m) w'/\Rw w' E k g n c (splice xs o cs)/\Chg (· = g) w w':=by
 obtain⟨sp,i,hx,hc,h,f⟩:=R.ex;have q:=wD (P:=P) w T T ty E k g o dLen dCap a sLen sCap (xs ++ sp) cs E H.und H.size i m hm hn d (by rw[List.length_append]; omega) p
 have e:splice (xs ++ sp) o cs=splice xs o cs ++ sp:=by
  rw[eC,eC,List.take_append_of_le_length (by omega),List.drop_append_of_le_length (by omega),List.append_assoc,List.append_assoc,List.append_assoc]
 have l:=length_splice xs o cs b;refine⟨_,q,⟨sp,by rw[e]; exact i.row _,by rw[l]; exact hx,by rw[List.length_append,l,<- List.length_append]; exact hc,h,f⟩,(Chg.refl (· = g) w).row (g:=g) (.inl rfl) _⟩
theorem jf(H:Kd P T E k bytes z)(ty:TypeId)(R:Rw w E k b n c xs)(a:Addr)(m cc:Nat)(news:List Value)(o:news.length=m * k)(f:∀ j u,news[j]? = some u->w.cell? (a.add j)=some u)(q:∀ u∈news,u.oneCell'=true)(d:n + m<=c) :
  ∃ w',(Builtin.append_ #[T,T] ty #[.slice (some ⟨b,0,none⟩) n c,.slice (some a) m cc]).run P w=.ok (.slice (some ⟨b,0,none⟩) (n + m) c) w'/\Rw w' E k b (n + m) c (xs ++ news)/\Chg (· = b) w w':=by
 obtain⟨i,hi,t,hs,hb⟩:=info_parts H.inf;obtain⟨sp,p,hx,hc,s,l⟩:=R.ex;subst hs hb
 have h:n * i.size + news.length<=(xs ++ sp).toArray.size:=by
  rw[List.size_toArray,hc,o,<- Nat.add_mul]; exact Nat.mul_le_mul_right _ d
 have r:=run_append_room (P:=P) w T ty E i H.und hi b n c (xs ++ sp).toArray p.blk a m cc news o f q d h;refine⟨_,r,⟨sp.drop news.length,?_,by rw[List.length_append,hx,o,Nat.add_mul],?_,d,l⟩,(Chg.refl (· = b) w).row (g:=b) (.inl rfl) _⟩
 ·have:=p.row (xs ++ news ++ sp.drop news.length)
  have e:(xs ++ sp).toArray.toList.take (n * i.size) ++ news ++ (xs ++ sp).toArray.toList.drop (n * i.size + news.length)=xs ++ news ++ sp.drop news.length:=by
   rw[show (xs ++ sp).toArray.toList=xs ++ sp from rfl,<- hx,List.take_left,<- List.drop_drop,List.drop_left]
  rw[e]; exact this
 ·have x:xs.length + sp.length=c * i.size:=by rw[<- List.length_append]; exact hc
  have v:n * i.size + m * i.size<=c * i.size:=by rw[<- Nat.add_mul]; exact Nat.mul_le_mul_right _ d
  rw[List.length_append,List.length_append,List.length_drop]; omega
theorem iy(H:Kd P T E k bytes z)(ty:TypeId)(R:Rw w E k g n c xs)(m cc:Nat)(hm:0 < m)(a:n + m<=c) :
  ∃ w',(Builtin.clear_ #[T] ty #[.slice (some ⟨g,n * k,none⟩) m cc]).run P w=.ok (.tuple #[]) w'/\Rw w' E k g n c xs/\Chg (· = g) w w':=by
 obtain⟨sp,f,hx,hc,d,b⟩:=R.ex
 have j:n * k + m * k<=c * k:=by rw[<- Nat.add_mul]; exact Nat.mul_le_mul_right _ a
 have h:=s8 (P:=P) w T ty E z k g (n * k) m cc (xs ++ sp) E H.und H.zero H.zs H.z1 f hm H.k0 (by omega)
 have e:splice (xs ++ sp) (n * k) (Builtin.zeroCells z.cells m).toList=xs ++ ((Builtin.zeroCells z.cells m).toList ++ sp.drop (Builtin.zeroCells z.cells m).toList.length):=by
  rw[eC,<- hx,List.take_left,<- List.drop_drop,List.drop_left,List.append_assoc]
 have i:((Builtin.zeroCells z.cells m).toList).length=m * k:=by rw[Array.length_toList,size_zeroCells,H.zs]
 refine⟨_,h,⟨_,by rw[e]; exact f.row _,hx,?_,d,b⟩,(Chg.refl (· = g) w).row (g:=g) (.inl rfl) _⟩;rw[List.length_append] at hc ⊢;rw[List.length_append,List.length_drop,i];omega
end
end
end Pg
end
section
namespace Pg
open Go.RowKit Go.Lib
theorem KE:Kd Tryz.prog 199 196 2 48 (.agg #[.slice none 0 0,.slice none 0 0]):=⟨by kernel_rfl,by kernel_rfl,rfl,by simp[Value.cells,Value.oneCell'],by decide⟩
theorem KP:Kd Tryz.prog 142 199 1 24 (.slice none 0 0):=⟨by kernel_rfl,by kernel_rfl,rfl,by simp[Value.cells,Value.oneCell'],by decide⟩
theorem kD:Tryz.prog.underlying 3=some (.int .i64):=by kernel_rfl
theorem mixed:Tryz.prog.follows .mixedOrders=true:=by kernel_rfl
section
variable {w:World} {b n c i vb:Nat} {xs:List Value} {e1 e2:Value}
theorem xK (R:Rw w 196 2 b n c xs) (m:Blk w vb [e1,e2] 196) (hn:n<=1000000000) (i:∀ v∈[e1,e2],v.oneCell'=true) :
  Calls Tryz.prog 193 #[.slice (some ⟨b,0,none⟩) n c,.int .i64 n,.slice (some ⟨vb,0,none⟩) 1 1] w fun e w'=>∃ b' c',e=.returned (.slice (some ⟨b',0,none⟩) (n + 1) c')/\(b'=b\/w.heap.size<=b')/\Rw w' 196 2 b' (n + 1) c' (xs ++ [e1,e2])/\Chg (· = b) w w':=by
 obtain⟨b',c',W,p,f,o,hC⟩:=dA KE 199 R ⟨vb,0,none⟩ 1 1 [e1,e2] rfl (fun j u q=>by rw[Addr.add_lit,Nat.zero_add]; exact m.cell q) i (by omega) (by omega);have d:=R.le;simp only[maxLen] at d;have l:=d.1;have g:=d.2;clear d R m i;go_enter Tryz.func193,Tryz.ntmps193;go_wp2_with (at_builtin; refine Lib.wpList_append_run _ rfl _ _ _ _ rfl _ _ rfl rfl _ _ p ?_)
 all_goals (
  go_ret
  exact⟨b',c',rfl,f.imp id (fun e=>by omega),o,hC⟩)
theorem AP (b:Blk w vb [e1,e2] 196) :
  Calls Tryz.prog 193 #[.slice none 0 0,.int .i64 0,.slice (some ⟨vb,0,none⟩) 1 1] w fun e w'=>∃ c',e=.returned (.slice (some ⟨w.heap.size,0,none⟩) 1 c')/\Rw w' 196 2 w.heap.size 1 c' [e1,e2]/\Below w.heap.size w w':=by
 obtain⟨c',W,d,c,hC⟩:=fi (w:=w) KE 199 ⟨vb,0,none⟩ 1 1 [e1,e2] rfl (fun j u f=>by rw[Addr.add_lit,Nat.zero_add]; exact b.cell f) (by decide) (by decide) (by decide);clear b;go_enter Tryz.func193,Tryz.ntmps193;go_wp2_with (at_builtin; refine Lib.wpList_append_run _ rfl _ _ _ _ rfl _ _ rfl rfl _ _ d ?_);go_ret;exact⟨c',rfl,c,hC⟩
theorem tX (R : Rw w 196 2 b n c xs) (o : Blk w vb [e1, e2] 196) (q : vb ≠ b) (hi : i < n) (l : n + 1 ≤ c) (E : ∀ v ∈ xs, v.oneCell' = true) (F : ∀ v ∈ [e1, e2], v.oneCell' = true) :
    Calls Tryz.prog 193 #[.slice (some ⟨b, 0, none⟩) n c, .int .i64 i, .slice (some ⟨vb, 0, none⟩) 1 1] w fun e w' => e = .returned (.slice (some ⟨b, 0, none⟩) (n + 1) c) ∧ Rw w' 196 2 b (n + 1) c (xs.take (i * 2) ++ [e1, e2] ++ xs.drop (i * 2)) ∧ Chg (· = b) w w' := by
  have hx := R.len;have d := R.le;simp only[maxLen] at d;have G := d.1;have C := d.2
  have p : ∃ cs, Blk w b cs 196 ∧ cs.length = c * 2 := by
    obtain⟨sp, h, _, S, _⟩:= R.ex;exact⟨_, h, S⟩
  have y : ∀ (A x : Nat), (callFunc 224 #[.slice (some ⟨vb, 0, none⟩) 1 1, .slice (some ⟨b, (i + 1) * 2, none⟩) A x]).run Tryz.prog w = .ok (.value (.bool false)) w := fun A x => by
    obtain⟨cs, h, W⟩:= p
    rw[run_callFunc_extern Tryz.func224 (by kernel_rfl) (by kernel_rfl) (by kernel_rfl) (e := Extern.SlicesOverlaps.overlaps #[199, 199] #[4]) (by kernel_rfl),
      Lib.run_overlaps_apart w 199 4 196 KE.und 2 KE.sizeOf ⟨vb, 0, none⟩ ⟨b, (i + 1) * 2, none⟩ 1 1 A x q 196 196 2 (c * 2) (by simp[World.shape?, o.blk]) (by simp[World.shape?, h.blk]; simpa using W) (by omega) (o.free _) (o.free _)]
    rfl
  have g : (xs.drop (i * 2)).length = (n - i) * 2 := by rw[List.length_drop, hx]; omega
  obtain⟨s, hs, B⟩:= R.drew.more (m := 1) l;obtain⟨D, O, z, u⟩:= eQ (w := w.drew) KE 3 B ((i + 1) * 2) (n - i) (c - (i + 1)) ⟨b, i * 2, none⟩ (n + 1 - i) (c - i) (xs.drop (i * 2)) (n - i) (by simp only[Nat.min_def]; split <;> omega) g
    (fun j v t => by
      rw[List.getElem?_drop] at t;rw[Addr.add_lit]
      exact R.cell (w := w) (by simpa using t)) (by rw[g, B.len]; omega) (fun v hv => E v (List.mem_of_mem_drop hv))
  have r : Blk D vb [e1, e2] 196 := o.drew.chg u q;obtain⟨N, J, I, H⟩:= eQ (w := D) KE 3 z (i * 2) (n + 1 - i) (c - i) ⟨vb, 0, none⟩ 1 1 [e1, e2] 1 (by simp only[Nat.min_def]; split <;> omega) rfl
    (fun j v t => by rw[Addr.add_lit, Nat.zero_add]; exact r.cell t) (by rw[z.len]; simp; omega) F
  have f : splice (splice (xs ++ s) ((i + 1) * 2) (xs.drop (i * 2))) (i * 2) [e1, e2] = xs.take (i * 2) ++ [e1, e2] ++ xs.drop (i * 2) := by
    have h := qL xs s [e1, e2] (i * 2) (by omega) (by simp[hs])
    have q0 : s.drop ([e1, e2] : List Value).length = [] := List.drop_of_length_le (by simp[hs]);rw[q0, List.append_nil] at h;simpa[Nat.add_mul] using h
  have T := I.to f
  have V : Chg (· = b) w N := ((Chg.refl _ w).drew.trans u (fun _ _ h => h)).trans H (fun _ _ h => h)
  have Q : ¬ ((i : Int) = (n : Int)) := by omega
  have L : IntKind.i64.wrap ((i : Int) + 1) = (i : Int) + 1 := by rw[IntKind.wrap_i64]; omega
  have M : (0 : Int) ≤ (i : Int) + 1 := by omega
  have K : i ≤ n := by omega
  have P : ((i : Int) + 1).toNat = i + 1 := by omega
  have U : ¬ (c = i + 1) := by omega
  have Y : (i : Int) ≤ (n : Int) + 1 := by omega
  have X : ¬ (c = i) := by omega
  clear d R p B z I u H f o r hs g E F;have mixed := mixed;go_enter Tryz.func193, Tryz.ntmps193;go_wp2_with (simp only[y]);go_region;go_wp2;go_ret;exact⟨rfl, T, V⟩
theorem vV (R : Rw w 196 2 b n c xs) (A : Blk w vb [e1, e2] 196) (hi : i < n) (z : c < n + 1) (hn : n ≤ 1000000000) (G : ∀ v ∈ xs, v.oneCell' = true) (H : ∀ v ∈ [e1, e2], v.oneCell' = true) :
    Calls Tryz.prog 193 #[.slice (some ⟨b, 0, none⟩) n c, .int .i64 i, .slice (some ⟨vb, 0, none⟩) 1 1] w fun e w' => ∃ c', e = .returned (.slice (some ⟨w.heap.size, 0, none⟩) (n + 1) c') ∧ Rw w' 196 2 w.heap.size (n + 1) c' (xs.take (i * 2) ++ [e1, e2] ++ xs.drop (i * 2)) ∧ Below w.heap.size w w' := by
  have hx := R.len;have g := R.le;simp only[maxLen] at g;have I := g.1;have E := g.2;have O := R.lt;have K := A.lt;obtain⟨c', x, r, q, p⟩:= om KE 3 199 kD (R.front (m := i) (by omega)) (n + 1 - i) (by omega) (by omega) (by omega) (by omega);rw[show ((n + 1 - i : Nat) : Int) = (n : Int) + 1 - (i : Int) by omega, show i + (n + 1 - i) = n + 1 by omega] at r;rw[show i + (n + 1 - i) = n + 1 by omega] at q;have d := q.le;simp only[maxLen] at d;have F := d.1;have P := d.2
  have s : Blk x vb [e1, e2] 196 := A.keep p;obtain⟨o, Q, C, u⟩:= eQ (w := x) KE 3 q (i * 2) (n + 1 - i) (c' - i) ⟨vb, 0, none⟩ 1 1 [e1, e2] 1 (by simp only[Nat.min_def]; split <;> omega) rfl
    (fun j v t => by rw[Addr.add_lit, Nat.zero_add]; exact s.cell t) (by rw[q.len]; simp; omega) H
  have f : (xs.drop (i * 2)).length = (n - i) * 2 := by rw[List.length_drop, hx]; omega
  have J : Rw o.drew 196 2 b n c xs := ((R.keep p).chg u (by show ¬ b = w.heap.size; omega)).drew;obtain⟨D, V, M, N⟩:= eQ (w := o.drew) KE 3 C.drew ((i + 1) * 2) (n - i) (c' - (i + 1)) ⟨b, i * 2, none⟩ (n - i) (c - i) (xs.drop (i * 2)) (n - i) (by simp) f
    (fun j v t => by
      rw[List.getElem?_drop] at t;rw[Addr.add_lit]
      exact J.cell (by simpa using t)) (by rw[f, C.len]; omega) (fun v hv => G v (List.mem_of_mem_drop hv))
  have l : splice (splice (xs.take (i * 2) ++ (Builtin.zeroCells (.agg #[.slice none 0 0, .slice none 0 0] : Value).cells (n + 1 - i)).toList) (i * 2) [e1, e2]) ((i + 1) * 2) (xs.drop (i * 2)) = xs.take (i * 2) ++ [e1, e2] ++ xs.drop (i * 2) := by
    have hA : (xs.take (i * 2)).length = i * 2 := by rw[List.length_take, hx]; omega
    generalize hZ : (Builtin.zeroCells (.agg #[.slice none 0 0, .slice none 0 0] : Value).cells (n + 1 - i)).toList = Z
    have B : Z.length = (n + 1 - i) * 2 := by rw[← hZ, Array.length_toList, size_zeroCells]; rfl
    have q1 : xs.take (i * 2) ++ Z = xs.take (i * 2) ++ Z.take 2 ++ Z.drop 2 := by rw[List.append_assoc, List.take_append_drop]
    rw[q1, fp _ (Z.take 2) [e1, e2] _ _ hA (by rw[List.length_take]; simp; omega)];have Y := fp (xs.take (i * 2) ++ [e1, e2]) (Z.drop 2) (xs.drop (i * 2)) [] ((i + 1) * 2) (by rw[List.length_append, hA]; simp <;> omega) (by rw[List.length_drop, B, f]; omega);simpa using Y
  have T := M.to l
  have y : Below w.heap.size w D := by
    have k2 : Below w.heap.size x o := u.below (fun b hb => by omega) (p.size)
    have k3 : Below w.heap.size o.drew D := N.below (fun b hb => by omega) (by have := p.size; have := u.size; show w.heap.size ≤ o.heap.size; omega);exact(p.trans k2).trans ((⟨rfl, rfl, rfl, Nat.le_refl _, fun _ _ => rfl⟩ : Below w.heap.size o o.drew).trans k3)
  have aa : ¬ ((i : Int) = (n : Int)) := by omega
  have U : IntKind.i64.wrap ((i : Int) + 1) = (i : Int) + 1 := by rw[IntKind.wrap_i64]; omega
  have W : (0 : Int) ≤ (i : Int) + 1 := by omega
  have S : i ≤ n := by omega
  have X : ((i : Int) + 1).toNat = i + 1 := by omega
  have ab : ¬ (c' = i + 1) := by omega
  have L : i + 1 ≤ n + 1 := by omega
  have ad : (i : Int) ≤ (n : Int) + 1 := by omega
  have ac : ¬ (c' = i) := by omega
  have ae : ¬ (c = i) := by omega
  clear g d R q C M J u N p l A s f G H;have mixed := mixed;go_enter Tryz.func193, Tryz.ntmps193;go_wp2_with (at_builtin; refine Lib.wpList_append_run _ rfl _ _ _ _ rfl _ _ rfl rfl _ _ r ?_);go_region;go_wp2;go_ret;exact⟨c', rfl, T, y⟩
theorem insE (R:Rw w 196 2 b n c xs) (f:Blk w vb [e1,e2] 196) (g:vb≠b) (hi:i<=n) (hn:n<=1000000000) (j:∀ v∈xs,v.oneCell'=true) (d:∀ v∈[e1,e2],v.oneCell'=true) :
  Calls Tryz.prog 193 #[.slice (some ⟨b,0,none⟩) n c,.int .i64 i,.slice (some ⟨vb,0,none⟩) 1 1] w fun e w'=>∃ b' c',e=.returned (.slice (some ⟨b',0,none⟩) (n + 1) c')/\(b'=b\/w.heap.size<=b')/\Rw w' 196 2 b' (n + 1) c' (xs.take (i * 2) ++ [e1,e2] ++ xs.drop (i * 2))/\Chg (· = b) w w':=by
 by_cases h:i=n
 ·subst h;refine(xK R f hn d).mono ?_
  rintro e w' ⟨b',c',rfl,hb,a,hC⟩;exact⟨b',c',rfl,hb,a.to (by rw[List.take_of_length_le (by rw[R.len]; omega),List.drop_of_length_le (by rw[R.len]; omega),List.append_nil]),hC⟩
 ·by_cases k:n + 1<=c
  ·refine(tX R f g (by omega) k j d).mono ?_
   rintro e w' ⟨rfl,a,hC⟩;exact⟨b,c,rfl,.inl rfl,a,hC⟩
  ·refine(vV R f (by omega) (by omega) hn j d).mono ?_
   rintro e w' ⟨c',rfl,a,hC⟩;exact⟨_,c',rfl,.inr (Nat.le_refl _),a,Chg.of hC⟩
end
section
variable {w:World} {b n c i vb:Nat} {xs:List Value} {e1:Value}
theorem yD (R:Rw w 199 1 b n c xs) (m:Blk w vb [e1] 199) (hn:n<=1000000000) (i:∀ v∈[e1],v.oneCell'=true) :
  Calls Tryz.prog 227 #[.slice (some ⟨b,0,none⟩) n c,.int .i64 n,.slice (some ⟨vb,0,none⟩) 1 1] w fun e w'=>∃ b' c',e=.returned (.slice (some ⟨b',0,none⟩) (n + 1) c')/\(b'=b\/w.heap.size<=b')/\Rw w' 199 1 b' (n + 1) c' (xs ++ [e1])/\Chg (· = b) w w':=by
 obtain⟨b',c',W,p,f,o,hC⟩:=dA KP 142 R ⟨vb,0,none⟩ 1 1 [e1] rfl (fun j u q=>by rw[Addr.add_lit,Nat.zero_add]; exact m.cell q) i (by omega) (by omega);have d:=R.le;simp only[maxLen] at d;have l:=d.1;have g:=d.2;clear d R m i;go_enter Tryz.func227,Tryz.ntmps227;go_wp2_with (at_builtin; refine Lib.wpList_append_run _ rfl _ _ _ _ rfl _ _ rfl rfl _ _ p ?_)
 all_goals (
  go_ret
  exact⟨b',c',rfl,f.imp id (fun e=>by omega),o,hC⟩)
theorem th (R : Rw w 199 1 b n c xs) (o : Blk w vb [e1] 199) (q : vb ≠ b) (hi : i < n) (l : n + 1 ≤ c) (E : ∀ v ∈ xs, v.oneCell' = true) (F : ∀ v ∈ [e1], v.oneCell' = true) :
    Calls Tryz.prog 227 #[.slice (some ⟨b, 0, none⟩) n c, .int .i64 i, .slice (some ⟨vb, 0, none⟩) 1 1] w fun e w' => e = .returned (.slice (some ⟨b, 0, none⟩) (n + 1) c) ∧ Rw w' 199 1 b (n + 1) c (xs.take (i * 1) ++ [e1] ++ xs.drop (i * 1)) ∧ Chg (· = b) w w' := by
  have hx := R.len;have d := R.le;simp only[maxLen] at d;have G := d.1;have C := d.2
  have p : ∃ cs, Blk w b cs 199 ∧ cs.length = c * 1 := by
    obtain⟨sp, h, _, S, _⟩:= R.ex;exact⟨_, h, S⟩
  have y : ∀ (A x : Nat), (callFunc 248 #[.slice (some ⟨vb, 0, none⟩) 1 1, .slice (some ⟨b, i + 1, none⟩) A x]).run Tryz.prog w = .ok (.value (.bool false)) w := fun A x => by
    obtain⟨cs, h, W⟩:= p
    rw[run_callFunc_extern Tryz.func248 (by kernel_rfl) (by kernel_rfl) (by kernel_rfl) (e := Extern.SlicesOverlaps.overlaps #[142, 142] #[4]) (by kernel_rfl),
      Lib.run_overlaps_apart w 142 4 199 KP.und 1 KP.sizeOf ⟨vb, 0, none⟩ ⟨b, i + 1, none⟩ 1 1 A x q 199 199 1 (c * 1) (by simp[World.shape?, o.blk]) (by simp[World.shape?, h.blk]; simpa using W) (by omega) (o.free _) (o.free _)]
    rfl
  have g : (xs.drop (i * 1)).length = (n - i) * 1 := by rw[List.length_drop, hx]; omega
  obtain⟨s, hs, B⟩:= R.drew.more (m := 1) l;obtain⟨D, O, z, u⟩:= eQ (w := w.drew) KP 3 B (i + 1) (n - i) (c - (i + 1)) ⟨b, i, none⟩ (n + 1 - i) (c - i) (xs.drop (i * 1)) (n - i) (by simp only[Nat.min_def]; split <;> omega) g
    (fun j v t => by
      rw[List.getElem?_drop] at t;rw[Addr.add_lit]
      exact R.cell (w := w) (by simpa using t)) (by rw[g, B.len]; omega) (fun v hv => E v (List.mem_of_mem_drop hv))
  have r : Blk D vb [e1] 199 := o.drew.chg u q;obtain⟨N, J, I, H⟩:= eQ (w := D) KP 3 z (i) (n + 1 - i) (c - i) ⟨vb, 0, none⟩ 1 1 [e1] 1 (by simp only[Nat.min_def]; split <;> omega) rfl
    (fun j v t => by rw[Addr.add_lit, Nat.zero_add]; exact r.cell t) (by rw[z.len]; simp; omega) F
  have f : splice (splice (xs ++ s) (i + 1) (xs.drop (i * 1))) (i) [e1] = xs.take (i * 1) ++ [e1] ++ xs.drop (i * 1) := by
    have h := qL xs s [e1] (i * 1) (by omega) (by simp[hs])
    have q0 : s.drop ([e1] : List Value).length = [] := List.drop_of_length_le (by simp[hs]);rw[q0, List.append_nil] at h;simpa[Nat.add_mul] using h
  have T := I.to f
  have V : Chg (· = b) w N := ((Chg.refl _ w).drew.trans u (fun _ _ h => h)).trans H (fun _ _ h => h)
  have Q : ¬ ((i : Int) = (n : Int)) := by omega
  have L : IntKind.i64.wrap ((i : Int) + 1) = (i : Int) + 1 := by rw[IntKind.wrap_i64]; omega
  have M : (0 : Int) ≤ (i : Int) + 1 := by omega
  have K : i ≤ n := by omega
  have P : ((i : Int) + 1).toNat = i + 1 := by omega
  have U : ¬ (c = i + 1) := by omega
  have Y : (i : Int) ≤ (n : Int) + 1 := by omega
  have X : ¬ (c = i) := by omega
  clear d R p B z I u H f o r hs g E F;have mixed := mixed;go_enter Tryz.func227, Tryz.ntmps227;go_wp2_with (simp only[y]);go_region;go_wp2;go_ret;exact⟨rfl, T, V⟩
theorem vS (R : Rw w 199 1 b n c xs) (A : Blk w vb [e1] 199) (hi : i < n) (z : c < n + 1) (hn : n ≤ 1000000000) (G : ∀ v ∈ xs, v.oneCell' = true) (H : ∀ v ∈ [e1], v.oneCell' = true) :
    Calls Tryz.prog 227 #[.slice (some ⟨b, 0, none⟩) n c, .int .i64 i, .slice (some ⟨vb, 0, none⟩) 1 1] w fun e w' => ∃ c', e = .returned (.slice (some ⟨w.heap.size, 0, none⟩) (n + 1) c') ∧ Rw w' 199 1 w.heap.size (n + 1) c' (xs.take (i * 1) ++ [e1] ++ xs.drop (i * 1)) ∧ Below w.heap.size w w' := by
  have hx := R.len;have g := R.le;simp only[maxLen] at g;have I := g.1;have E := g.2;have O := R.lt;have K := A.lt;obtain⟨c', x, r, q, p⟩:= om KP 3 142 kD (R.front (m := i) (by omega)) (n + 1 - i) (by omega) (by omega) (by omega) (by omega);rw[show ((n + 1 - i : Nat) : Int) = (n : Int) + 1 - (i : Int) by omega, show i + (n + 1 - i) = n + 1 by omega] at r;rw[show i + (n + 1 - i) = n + 1 by omega] at q;have d := q.le;simp only[maxLen] at d;have F := d.1;have P := d.2
  have s : Blk x vb [e1] 199 := A.keep p;obtain⟨o, Q, C, u⟩:= eQ (w := x) KP 3 q (i) (n + 1 - i) (c' - i) ⟨vb, 0, none⟩ 1 1 [e1] 1 (by simp only[Nat.min_def]; split <;> omega) rfl
    (fun j v t => by rw[Addr.add_lit, Nat.zero_add]; exact s.cell t) (by rw[q.len]; simp; omega) H
  have f : (xs.drop (i * 1)).length = (n - i) * 1 := by rw[List.length_drop, hx]; omega
  have J : Rw o.drew 199 1 b n c xs := ((R.keep p).chg u (by show ¬ b = w.heap.size; omega)).drew;obtain⟨D, V, M, N⟩:= eQ (w := o.drew) KP 3 C.drew (i + 1) (n - i) (c' - (i + 1)) ⟨b, i, none⟩ (n - i) (c - i) (xs.drop (i * 1)) (n - i) (by simp) f
    (fun j v t => by
      rw[List.getElem?_drop] at t;rw[Addr.add_lit]
      exact J.cell (by simpa using t)) (by rw[f, C.len]; omega) (fun v hv => G v (List.mem_of_mem_drop hv))
  have l : splice (splice (xs.take (i * 1) ++ (Builtin.zeroCells (.slice none 0 0 : Value).cells (n + 1 - i)).toList) (i) [e1]) (i + 1) (xs.drop (i * 1)) = xs.take (i * 1) ++ [e1] ++ xs.drop (i * 1) := by
    have hA : (xs.take (i * 1)).length = i := by rw[List.length_take, hx]; omega
    generalize hZ : (Builtin.zeroCells (.slice none 0 0 : Value).cells (n + 1 - i)).toList = Z
    have B : Z.length = (n + 1 - i) * 1 := by rw[← hZ, Array.length_toList, size_zeroCells]; rfl
    have q1 : xs.take (i * 1) ++ Z = xs.take (i * 1) ++ Z.take 1 ++ Z.drop 1 := by rw[List.append_assoc, List.take_append_drop]
    rw[q1, fp _ (Z.take 1) [e1] _ _ hA (by rw[List.length_take]; simp; omega)];have Y := fp (xs.take (i * 1) ++ [e1]) (Z.drop 1) (xs.drop (i * 1)) [] (i + 1) (by rw[List.length_append, hA]; simp <;> omega) (by rw[List.length_drop, B, f]; omega);simpa using Y
  have T := M.to l
  have y : Below w.heap.size w D := by
    have k2 : Below w.heap.size x o := u.below (fun b hb => by omega) (p.size)
    have k3 : Below w.heap.size o.drew D := N.below (fun b hb => by omega) (by have := p.size; have := u.size; show w.heap.size ≤ o.heap.size; omega);exact(p.trans k2).trans ((⟨rfl, rfl, rfl, Nat.le_refl _, fun _ _ => rfl⟩ : Below w.heap.size o o.drew).trans k3)
  have aa : ¬ ((i : Int) = (n : Int)) := by omega
  have U : IntKind.i64.wrap ((i : Int) + 1) = (i : Int) + 1 := by rw[IntKind.wrap_i64]; omega
  have W : (0 : Int) ≤ (i : Int) + 1 := by omega
  have S : i ≤ n := by omega
  have X : ((i : Int) + 1).toNat = i + 1 := by omega
  have ab : ¬ (c' = i + 1) := by omega
  have L : i + 1 ≤ n + 1 := by omega
  have ad : (i : Int) ≤ (n : Int) + 1 := by omega
  have ac : ¬ (c' = i) := by omega
  have ae : ¬ (c = i) := by omega
  clear g d R q C M J u N p l A s f G H;have mixed := mixed;go_enter Tryz.func227, Tryz.ntmps227;go_wp2_with (at_builtin; refine Lib.wpList_append_run _ rfl _ _ _ _ rfl _ _ rfl rfl _ _ r ?_);go_region;go_wp2;go_ret;exact⟨c', rfl, T, y⟩
theorem insP (R:Rw w 199 1 b n c xs) (f:Blk w vb [e1] 199) (g:vb≠b) (hi:i<=n) (hn:n<=1000000000) (j:∀ v∈xs,v.oneCell'=true) (d:∀ v∈[e1],v.oneCell'=true) :
  Calls Tryz.prog 227 #[.slice (some ⟨b,0,none⟩) n c,.int .i64 i,.slice (some ⟨vb,0,none⟩) 1 1] w fun e w'=>∃ b' c',e=.returned (.slice (some ⟨b',0,none⟩) (n + 1) c')/\(b'=b\/w.heap.size<=b')/\Rw w' 199 1 b' (n + 1) c' (xs.take (i * 1) ++ [e1] ++ xs.drop (i * 1))/\Chg (· = b) w w':=by
 by_cases h:i=n
 ·subst h;refine(yD R f hn d).mono ?_
  rintro e w' ⟨b',c',rfl,hb,a,hC⟩;exact⟨b',c',rfl,hb,a.to (by rw[List.take_of_length_le (by rw[R.len]; omega),List.drop_of_length_le (by rw[R.len]; omega),List.append_nil]),hC⟩
 ·by_cases k:n + 1<=c
  ·refine(th R f g (by omega) k j d).mono ?_
   rintro e w' ⟨rfl,a,hC⟩;exact⟨b,c,rfl,.inl rfl,a,hC⟩
  ·refine(vS R f (by omega) (by omega) hn j d).mono ?_
   rintro e w' ⟨c',rfl,a,hC⟩;exact⟨_,c',rfl,.inr (Nat.le_refl _),a,Chg.of hC⟩
end
end Pg
end
section
namespace Pg
open Go.RowKit Go.Lib
section
variable {w:World} {b n c i:Nat} {xs:List Value}
theorem yr (R : Rw w 196 2 b n c xs) (hi : i < n) (p : c ≠ i + 1) (s : ∀ v ∈ xs, v.oneCell' = true) :
    Calls Tryz.prog 207 #[.slice (some ⟨b, 0, none⟩) n c, .int .i64 i, .int .i64 (i + 1)] w fun e w' => e = .returned (.slice (some ⟨b, 0, none⟩) (n - 1) c) ∧ Rw w' 196 2 b (n - 1) c (xs.take (i * 2) ++ xs.drop ((i + 1) * 2)) ∧ Chg (· = b) w w' := by
  have hx := R.len;have d := R.le;simp only[maxLen] at d;have u := d.1;have r := d.2
  have f : (xs.drop ((i + 1) * 2)).length = (n - (i + 1)) * 2 := by rw[List.length_drop, hx]; omega
  obtain⟨O, g, o, t⟩:= jf KE 199 (R.drew.front (m := i) (by omega)) ⟨b, (i + 1) * 2, none⟩ (n - (i + 1)) (c - (i + 1)) (xs.drop ((i + 1) * 2)) f
    (fun j v x => by
      rw[List.getElem?_drop] at x;rw[Addr.add_lit]
      exact R.drew.cell (by simpa using x)) (fun v hv => s v (List.mem_of_mem_drop hv)) (by omega)
  rw[show i + (n - (i + 1)) = n - 1 by omega] at o;obtain⟨E, l, z, y⟩:= iy KE 0 o (n - (n - 1)) (c - (n - 1)) (by omega) (by omega)
  have L : Chg (· = b) w E := ((Chg.refl _ w).drew.trans t (fun _ _ h => h)).trans y (fun _ _ h => h);obtain⟨q, F⟩ : ∃ q, n = i + 1 + q := ⟨n - (i + 1), by omega⟩;subst F;rw[show i + 1 + q - (i + 1) = q by omega] at g;rw[show i + 1 + q - 1 = i + q by omega] at l z ⊢
  have J : ¬ ((i : Int) = (i : Int) + 1) := by omega
  have B : i ≤ i + 1 + q := by omega
  have K : ¬ (c = i + 1) := p
  have D : (0 : Int) ≤ (i : Int) + 1 := by omega
  have M : i ≤ c := by omega
  have G : ((i : Int) + 1).toNat = i + 1 := by omega
  have H : ¬ (c = i + q) := by omega
  have N : (i : Int) + 1 ≤ ((i + 1 + q : Nat) : Int) := by omega
  have I : i + 1 ≤ i + 1 + q := by omega
  have A : (i : Int) + 1 ≤ (i : Int) + 1 + (q : Int) := by omega
  have C : ((i + 1 + q : Nat) : Int) ≤ (c : Int) := by omega
  clear d R o t y f s;have mixed := mixed;go_enter Tryz.func207, Tryz.ntmps207;go_wp2;go_region_law_o (refine jr rfl (.tmp 22) (.tmp 25) 199 199 rfl _ _ (by simp[Act.eval, Act.put]) (by simp[Act.eval, Act.put]) g ?_);go_wp2;go_ret;exact⟨rfl, z, L⟩
theorem xb (R:Rw w 196 2 b (i + 1) (i + 1) xs) :
  Calls Tryz.prog 207 #[.slice (some ⟨b,0,none⟩) (i + 1) (i + 1),.int .i64 i,.int .i64 (i + 1)] w fun e w'=>e=.returned (.slice (some ⟨b,0,none⟩) i (i + 1))/\Rw w' 196 2 b i (i + 1) (xs.take (i * 2))/\Chg (· = b) w w':=by
 have c:=R.le;simp only[maxLen] at c;have g:=c.2;obtain⟨A,d,f,n⟩:=jf KE 199 (R.drew.front (m:=i) (by omega)) ⟨b,0,none⟩ 0 0 [] (by simp) (fun j v z=>by simp at z) (fun v hv=>by simp at hv) (by omega);rw[Nat.add_zero] at f d;rw[List.append_nil] at f;obtain⟨y,p,s,l⟩:=iy KE 0 f 1 1 (by omega) (by omega)
 have x:Chg (· = b) w y:=((Chg.refl _ w).drew.trans n (fun _ _ h=>h)).trans l (fun _ _ h=>h)
 have r:¬ ((i:Int)=(i:Int) + 1):=by omega
 have q:i<=i + 1:=by omega
 have u:(0:Int)<=(i:Int) + 1:=by omega
 have o:((i:Int) + 1).toNat=i + 1:=by omega
 have e1:i + 1 - i=1:=by omega
 have t:(i:Int)<=(i:Int) + 1:=by omega
 clear c R f n l;have mixed:=mixed;go_enter Tryz.func207,Tryz.ntmps207;go_wp2;go_region_law_o (refine jr rfl (.tmp 22) (.tmp 25) 199 199 rfl _ _ (by simp[Act.eval,Act.put]) (by simp[Act.eval,Act.put]) d ?_);go_wp2;go_ret;exact⟨rfl,s,x⟩
theorem delE (R:Rw w 196 2 b n c xs) (hi:i < n) (a:∀ v∈xs,v.oneCell'=true) :
  Calls Tryz.prog 207 #[.slice (some ⟨b,0,none⟩) n c,.int .i64 i,.int .i64 (i + 1)] w fun e w'=>e=.returned (.slice (some ⟨b,0,none⟩) (n - 1) c)/\Rw w' 196 2 b (n - 1) c (xs.take (i * 2) ++ xs.drop ((i + 1) * 2))/\Chg (· = b) w w':=by
 by_cases h:c=i + 1
 ·have f:=R.le;obtain rfl:n=i + 1:=by omega
  subst h;refine(xb R).mono ?_
  rintro e w' ⟨rfl,d,hC⟩;exact⟨by simp,d.to (by rw[List.drop_of_length_le (by rw[R.len]; omega),List.append_nil]),hC⟩
 ·exact yr R hi h a
end
section
variable {w:World} {b n c i:Nat} {xs:List Value}
theorem ze (R : Rw w 199 1 b n c xs) (hi : i < n) (p : c ≠ i + 1) (s : ∀ v ∈ xs, v.oneCell' = true) :
    Calls Tryz.prog 208 #[.slice (some ⟨b, 0, none⟩) n c, .int .i64 i, .int .i64 (i + 1)] w fun e w' => e = .returned (.slice (some ⟨b, 0, none⟩) (n - 1) c) ∧ Rw w' 199 1 b (n - 1) c (xs.take (i * 1) ++ xs.drop ((i + 1) * 1)) ∧ Chg (· = b) w w' := by
  have hx := R.len;have d := R.le;simp only[maxLen] at d;have u := d.1;have r := d.2
  have g : (xs.drop ((i + 1) * 1)).length = (n - (i + 1)) * 1 := by rw[List.length_drop, hx]; omega
  obtain⟨O, l, o, t⟩:= jf KP 142 (R.drew.front (m := i) (by omega)) ⟨b, i + 1, none⟩ (n - (i + 1)) (c - (i + 1)) (xs.drop ((i + 1) * 1)) g
    (fun j v x => by
      rw[List.getElem?_drop] at x;rw[Addr.add_lit]
      exact R.drew.cell (by simpa using x)) (fun v hv => s v (List.mem_of_mem_drop hv)) (by omega)
  rw[show i + (n - (i + 1)) = n - 1 by omega] at o;obtain⟨E, f, z, y⟩:= iy KP 0 o (n - (n - 1)) (c - (n - 1)) (by omega) (by omega)
  have L : Chg (· = b) w E := ((Chg.refl _ w).drew.trans t (fun _ _ h => h)).trans y (fun _ _ h => h);obtain⟨q, F⟩ : ∃ q, n = i + 1 + q := ⟨n - (i + 1), by omega⟩;subst F;rw[show i + 1 + q - (i + 1) = q by omega] at l;rw[show i + 1 + q - 1 = i + q by omega] at f z ⊢;simp only[Nat.mul_one] at f
  have J : ¬ ((i : Int) = (i : Int) + 1) := by omega
  have B : i ≤ i + 1 + q := by omega
  have K : ¬ (c = i + 1) := p
  have D : (0 : Int) ≤ (i : Int) + 1 := by omega
  have M : i ≤ c := by omega
  have G : ((i : Int) + 1).toNat = i + 1 := by omega
  have H : ¬ (c = i + q) := by omega
  have N : (i : Int) + 1 ≤ ((i + 1 + q : Nat) : Int) := by omega
  have I : i + 1 ≤ i + 1 + q := by omega
  have A : (i : Int) + 1 ≤ (i : Int) + 1 + (q : Int) := by omega
  have C : ((i + 1 + q : Nat) : Int) ≤ (c : Int) := by omega
  clear d R o t y g s;have mixed := mixed;go_enter Tryz.func208, Tryz.ntmps208;go_wp2;go_region_law_o (refine jr rfl (.tmp 22) (.tmp 25) 142 142 rfl _ _ (by simp[Act.eval, Act.put]) (by simp[Act.eval, Act.put]) l ?_);go_wp2;go_ret;exact⟨rfl, z, L⟩
theorem vX (R:Rw w 199 1 b (i + 1) (i + 1) xs) :
  Calls Tryz.prog 208 #[.slice (some ⟨b,0,none⟩) (i + 1) (i + 1),.int .i64 i,.int .i64 (i + 1)] w fun e w'=>e=.returned (.slice (some ⟨b,0,none⟩) i (i + 1))/\Rw w' 199 1 b i (i + 1) (xs.take (i * 1))/\Chg (· = b) w w':=by
 have c:=R.le;simp only[maxLen] at c;have l:=c.2;obtain⟨A,d,f,o⟩:=jf KP 142 (R.drew.front (m:=i) (by omega)) ⟨b,0,none⟩ 0 0 [] (by simp) (fun j v z=>by simp at z) (fun v hv=>by simp at hv) (by omega);rw[Nat.add_zero] at f d;rw[List.append_nil] at f;obtain⟨y,g,s,n⟩:=iy KP 0 f 1 1 (by omega) (by omega)
 have x:Chg (· = b) w y:=((Chg.refl _ w).drew.trans o (fun _ _ h=>h)).trans n (fun _ _ h=>h);simp only[Nat.mul_one] at g
 have r:¬ ((i:Int)=(i:Int) + 1):=by omega
 have q:i<=i + 1:=by omega
 have u:(0:Int)<=(i:Int) + 1:=by omega
 have p:((i:Int) + 1).toNat=i + 1:=by omega
 have e1:i + 1 - i=1:=by omega
 have t:(i:Int)<=(i:Int) + 1:=by omega
 clear c R f o n;have mixed:=mixed;go_enter Tryz.func208,Tryz.ntmps208;go_wp2;go_region_law_o (refine jr rfl (.tmp 22) (.tmp 25) 142 142 rfl _ _ (by simp[Act.eval,Act.put]) (by simp[Act.eval,Act.put]) d ?_);go_wp2;go_ret;exact⟨rfl,s,x⟩
theorem delP (R:Rw w 199 1 b n c xs) (hi:i < n) (a:∀ v∈xs,v.oneCell'=true) :
  Calls Tryz.prog 208 #[.slice (some ⟨b,0,none⟩) n c,.int .i64 i,.int .i64 (i + 1)] w fun e w'=>e=.returned (.slice (some ⟨b,0,none⟩) (n - 1) c)/\Rw w' 199 1 b (n - 1) c (xs.take (i * 1) ++ xs.drop ((i + 1) * 1))/\Chg (· = b) w w':=by
 by_cases h:c=i + 1
 ·have f:=R.le;obtain rfl:n=i + 1:=by omega
  subst h;refine(vX R).mono ?_
  rintro e w' ⟨rfl,d,hC⟩;exact⟨by simp,d.to (by rw[List.drop_of_length_le (by rw[R.len]; omega),List.append_nil]),hC⟩
 ·exact ze R hi h a
end
end Pg
end
section
namespace Pg
open Go.RowKit Go.Lib
section
variable {w w':World}{v:Value}{l:List Int}{D D':Nat->Prop}{a:Addr}{n:Nat}{xs:List Value}
abbrev Oct(l:List Int):Prop:=∀ x∈l,0<=x/\x < 256
structure By(w:World)(v:Value)(l:List Int):Prop where
 ex:∃ ao c,v=.slice ao l.length c/\l.length<=c/\c<=9223372036854775807/\(ao=none->c=0)/\Oct l/\(l=[]\/∃ b o,ao=some ⟨b,o,none⟩/\b < w.heap.size/\∀ i x,l[i]? = some x->w.cell? ⟨b,o + i,none⟩=some (.int .u8 x))
theorem By.keep(h:By w v l)(hb:Below w.heap.size w w'):By w' v l:=by
 obtain⟨k,c,f,m,g,j,n,d⟩:=h.ex;refine⟨k,c,f,m,g,j,n,d.imp id ?_⟩;rintro⟨b,o,e,a,hc⟩;exact⟨b,o,e,Nat.lt_of_lt_of_le a hb.size,fun i x hi=>by rw[hb.cell (p:=⟨b,o + i,none⟩) a]; exact hc i x hi⟩
theorem By.drew(h:By w v l):By w.drew v l:=h.keep ⟨rfl,rfl,rfl,Nat.le_refl _,fun _ _=>rfl⟩
theorem By.oct(h:By w v l):Oct l:=by
 obtain⟨ao,c,h1,h2,h3,h4,h5,h6⟩:=h.ex; exact h5
theorem By.nil(w:World):By w (.slice none 0 0) []:=⟨none,0,rfl,by decide,by decide,fun _=>rfl,fun _ h=>by simp at h,.inl rfl⟩
structure OB(w:World)(D:Nat->Prop)(v:Value)(l:List Int):Prop where
 oct:Oct l
 ex:(v=.slice none 0 0/\l=[])\/∃ b c,v=.slice (some ⟨b,0,none⟩) l.length c/\D b/\Rw w 5 1 b l.length c (l.map (Value.int .u8))
theorem OB.by(h:OB w D v l):By w v l:=by
 rcases h.ex with⟨rfl,rfl⟩ | ⟨b,c,rfl,hd,hR⟩
 ·exact By.nil w
 ·have a:=hR.le;simp only[maxLen] at a;exact⟨_,c,rfl,by omega,by omega,(fun e=>by cases e),h.oct,.inr ⟨b,0,rfl,hR.lt,fun i x hi=>by rw[Nat.zero_add]; exact hR.cell (by simp[hi])⟩⟩
theorem OB.mono(h:OB w D v l)(hD:∀ b,b < w.heap.size->D b->D' b):OB w D' v l:=by
 refine⟨h.oct,h.ex.imp id ?_⟩;rintro⟨b,c,e,hd,hR⟩;exact⟨b,c,e,hD b hR.lt hd,hR⟩
theorem OB.same(h:OB w D v l)(hD:∀ b,b < w.heap.size->D b->w'.heap[b]? = w.heap[b]?):OB w' D v l:=by
 refine⟨h.oct,h.ex.imp id ?_⟩;rintro⟨b,c,e,hd,hR⟩;exact⟨b,c,e,hd,hR.same (hD b hR.lt hd)⟩
theorem OB.keep(h:OB w D v l)(hb:Below w.heap.size w w'):OB w' D v l:=h.same fun b hb' _=>hb.block b hb'
theorem OB.one(h:OB w D v l):v.oneCell'=true:=by
 rcases h.ex with⟨rfl,rfl⟩ | ⟨b,c,rfl,hd,hR⟩<;>rfl
def cY:List Int->List Int->Int
 | [],[]=>0
 | [],_ :: _ => -1
 | _ :: _,[]=>1
 | x :: a,y :: b=>if x < y then -1 else if y < x then 1 else cY a b
theorem DU{x y:Int}(hx:0<=x/\x < 256)(hy:0<=y/\y < 256):(UInt8.ofNat x.toNat < UInt8.ofNat y.toNat)<->x < y:=by
 rw[UInt8.lt_iff_toNat_lt,UInt8.toNat_ofNat_of_lt' (by show x.toNat < 256; omega),UInt8.toNat_ofNat_of_lt' (by show y.toNat < 256; omega)];omega
theorem jB:∀ (l l':List Int),Oct l->Oct l'->compareBytes (bytesOf l) (bytesOf l')=cY l l'
 | [],[],_,_=>rfl
 | [],_ :: _,_,_=>rfl
 | _ :: _,[],_,_=>rfl
 | x :: a,y :: b,h,h'=>by
  have ih:=jB a b (fun z c=>h z (List.mem_cons_of_mem _ c)) (fun z c=>h' z (List.mem_cons_of_mem _ c));have hx:=h x List.mem_cons_self;have hy:=h' y List.mem_cons_self
  show (if UInt8.ofNat x.toNat < UInt8.ofNat y.toNat then _ else if UInt8.ofNat y.toNat < UInt8.ofNat x.toNat then _ else compareBytes (bytesOf a) (bytesOf b))=_
  rw[cY];simp only[DU hx hy,DU hy hx,ih]
theorem kN{P:Program}(h:By w v l):(Extern.Bytes.bytesOf v).run P w=.ok ⟨(bytesOf l).toArray⟩ w:=by
 obtain⟨i,c,rfl,n,m,f,p,d⟩:=h.ex
 cases i with
 | none =>
  have:l=[]:=List.eq_nil_of_length_eq_zero (by have:=f rfl; omega);subst this;rfl
 | some a =>
  rcases d with rfl | ⟨b,o,e,g,hc⟩
  ·rfl
  ·cases e;have:=run_loadBytesX (P:=P) w l ⟨b,o,none⟩ .empty (fun j x k=>by rw[Addr.add_lit]; exact hc j x k)
   show (Extern.Bytes.loadBytes ⟨b,o,none⟩ l.length .empty).run P w=_
   rw[this];congr 1
   apply ByteArray.ext;simp
theorem kU{c:Value}{b:List Int}(h:By w v l)(d:By w c b) :
  Calls Tryz.prog 211 #[v,c] w fun e w'=>e=.returned (.int .i64 (cY l b))/\w'=w:=by
 have f:(callFunc 241 #[v,c]).run Tryz.prog w=.ok (.value (.int .i64 (cY l b))) w:=by
  rw[run_callFunc_extern Tryz.func241 (by kernel_rfl) (by kernel_rfl) (by kernel_rfl) (e:=Extern.BytealgCompare.compare) (by kernel_rfl)];have:(Extern.BytealgCompare.compare #[v,c]).run Tryz.prog w=.ok (.int .i64 (cY l b)) w:=by
   change Sem.run Tryz.prog (do pure (goInt (Extern.BytealgCompare.cmp (<- Extern.Bytes.bytesOf v) (<- Extern.Bytes.bytesOf c)))) w=_
   simp only[Sem.run_bind,kN h,kN d,Sem.run_pure,Result.andThen];rw[cmp_eq,jB l b h.oct d.oct];rfl
  rw[this]; rfl
 clear h d;generalize cY l b=x at *;go_enter Tryz.func211,Tryz.ntmps211;go_wp2_with (simp only[f]);go_ret;exact⟨rfl,rfl⟩
theorem KB:Kd Tryz.prog 96 5 1 1 (.int .u8 0):=⟨by kernel_rfl,by kernel_rfl,rfl,by simp[Value.cells,Value.oneCell'],by decide⟩
theorem my(h:w.cell? a=some v)(o:Obj):(w.alloc o).cell? a=some v:=by
 have b:a.block < w.heap.size:=by
  unfold World.cell? at h
  cases hh:w.heap[a.block]? with
  | none=>simp[hh] at h
  | some ob=>exact lt_of_block hh
 rw[(ae w o).cell b]; exact h
theorem map_u8(l:List Int):∀ v∈l.map (Value.int .u8),v.oneCell'=true:=by
 intro v hv;obtain⟨x,_,rfl⟩:=List.mem_map.1 hv;rfl
theorem cC(h:By w v l)(A:l.length<=1000000000) :
  Calls Tryz.prog 78 #[v] w fun e w'=>∃ v',e=.returned v'/\OB w' (w.heap.size <= ·) v' l/\Below w.heap.size w w':=by
 have t:=h.oct;obtain⟨F,c,rfl,I,H,E,D,r⟩:=h.ex
 cases F with
 | none =>
  have G:l=[]:=List.eq_nil_of_length_eq_zero (by have:=E rfl; omega);subst G;have f:=fun(w:World) (a:Option Addr) (n c:Nat)=>Go.Lib.run_eql_slice_nil (P:=Tryz.prog) w 96 _ a n c 0 0 KB.und
  go_enter Tryz.func78,Tryz.ntmps78;go_wp2;go_ret;exact⟨_,rfl,⟨t,.inl ⟨rfl,rfl⟩⟩,Below.refl _ _⟩
 | some a =>
  have y:Rw (w.alloc (.cells #[] 5)) 5 1 w.heap.size 0 0 []:=Aq (aC w [] _) rfl (by decide)
  have d:∀ j u,(l.map (Value.int .u8))[j]? = some u->(w.alloc (.cells #[] 5)).cell? (a.add j)=some u:=fun j u i=>by
   rcases r with rfl | ⟨b,o,e,B,hc⟩
   ·simp at i
   ·cases e;rw[List.getElem?_map] at i;obtain⟨x,hx,rfl⟩:=Option.map_eq_some_iff.1 i;exact my (by rw[Addr.add_lit]; exact hc j x hx) _
  obtain⟨q,s,W,z,g,p,hC⟩:=dA KB 96 y a l.length c (l.map (Value.int .u8)) (by simp) d (map_u8 l) (by omega) (by omega);rw[Nat.zero_add] at z p
  have C:Below w.heap.size w W:=(ae w (.cells #[] 5)).trans (hC.below (fun b hb=>by omega) (ae w _).size)
  have m:w.heap.size<=q:=by rcases g with e | e; omega; rw[World.size_alloc] at e; omega
  have hF:OB W (w.heap.size <= ·) (.slice (some ⟨q,0,none⟩) l.length s) l:=⟨t,.inr ⟨q,s,rfl,m,p.to (by simp)⟩⟩
  clear y d r h p hC D g;have f:=fun(w:World) (a:Option Addr) (n c:Nat)=>Go.Lib.run_eql_slice_nil (P:=Tryz.prog) w 96 _ a n c 0 0 KB.und
  go_enter Tryz.func78,Tryz.ntmps78;go_wp2_with (at_builtin; refine Lib.wpList_append_run _ rfl _ _ _ _ rfl _ _ rfl rfl _ _ z ?_);go_ret;exact⟨_,rfl,hF,C⟩
theorem yO{c:Nat}(hn:n<=1000000000)(hx:xs.length=n * 2)(hc:∀ j v,xs[j]? = some v->w.cell? (a.add j)=some v)(i:∀ v∈xs,v.oneCell'=true) :
  Calls Tryz.prog 226 #[.slice (some a) n c] w fun e w'=>∃ b' c',e=.returned (.slice (some ⟨b',0,none⟩) n c')/\w.heap.size<=b'/\Rw w' 196 2 b' n c' xs/\Below w.heap.size w w':=by
 have m:Rw (w.alloc (.cells #[] 196)) 196 2 w.heap.size 0 0 []:=Aq (aC w [] _) rfl (by decide);obtain⟨b',c',W,o,d,g,hC⟩:=dA KE 199 m a n c xs hx (fun j v q=>my (hc j v q) _) i (by omega) (by omega);rw[Nat.zero_add] at o g;rw[List.nil_append] at g
 have p:Below w.heap.size w W:=(ae w (.cells #[] 196)).trans (hC.below (fun b hb=>by omega) (ae w _).size)
 have f:w.heap.size<=b':=by rcases d with e | e; omega; rw[World.size_alloc] at e; omega
 clear m hc i hC d;have l:=fun(w:World) (a:Option Addr) (n c:Nat)=>Go.Lib.run_eql_slice_nil (P:=Tryz.prog) w 199 _ a n c 0 0 KE.und
 go_enter Tryz.func226,Tryz.ntmps226;go_wp2_with (at_builtin; refine Lib.wpList_append_run _ rfl _ _ _ _ rfl _ _ rfl rfl _ _ o ?_);go_ret;exact⟨b',c',rfl,f,g,p⟩
theorem growE(j:0 < n)(hn:n<=1000000000) :
  Calls Tryz.prog 254 #[.slice none 0 0,.int .i64 n] w fun e w'=>∃ b' c',e=.returned (.slice (some ⟨b',0,none⟩) 0 c')/\w.heap.size<=b'/\Rw w' 196 2 b' 0 c' []/\Below w.heap.size w w':=by
 obtain⟨c',W,i,c,g⟩:=nu (w:=w) KE 3 199 kD n j (by omega) (by omega)
 have b:Rw W 196 2 w.heap.size 0 c' []:=(c.front (m:=0) (by omega)).to (by simp)
 have f:¬ ((n:Int) < 0):=by omega
 have d:(0:Int) < n:=by omega
 clear c;go_enter Tryz.func254,Tryz.ntmps254;go_wp2_with (at_builtin; refine Lib.wpList_append_run _ rfl _ _ _ _ rfl _ _ rfl rfl _ _ i ?_);go_ret;exact⟨_,c',rfl,Nat.le_refl _,b,g⟩
end
end Pg
end
section
namespace Pg
open Go.RowKit Go.Lib
theorem BR {w:World} {vb b1 n1 c1 b2 n2 c2:Nat} {xs ys:List Value} (q:Blk w vb [.slice (some ⟨b1,0,none⟩) n1 c1,.slice (some ⟨b2,0,none⟩) n2 c2] 199)
  (D:Rw w 196 2 b1 n1 c1 xs) (E:Rw w 196 2 b2 n2 c2 ys) (K:0 < n1 + n2) (I:n1<=1000000) (J:n2<=1000000) (F:∀ v∈xs,v.oneCell'=true) (H:∀ v∈ys,v.oneCell'=true) :
  Calls Tryz.prog 240 #[.slice (some ⟨vb,0,none⟩) 2 2] w fun e w'=>∃ b' c',e=.returned (.slice (some ⟨b',0,none⟩) (n1 + n2) c')/\w.heap.size<=b'/\Rw w' 196 2 b' (n1 + n2) c' (xs ++ ys)/\Below w.heap.size w w':=by
 have z:=growE (w:=w) (n:=n1 + n2) K (by omega);rw[show ((n1 + n2:Nat):Int)=(n1:Int) + (n2:Int) by omega] at z;have q0:=q.cell (i:=0) rfl;have q1:=q.cell (i:=1) rfl;go_enter Tryz.func240,Tryz.ntmps240;go_wp2;go_loopw [3,11] (fun ts f wr=>wr=w/\((f=.int .i64 0/\ts=.int .i64 0)\/(f=.int .i64 1/\ts=.int .i64 n1)\/(f=.int .i64 2/\ts=.int .i64 (n1 + n2)))) (fun _ f _=>2 - (intOf f).toNat)
 case atStart=>exact⟨rfl,.inl ⟨rfl,rfl⟩⟩
 case round =>
  obtain⟨rfl,⟨rfl,rfl⟩ | ⟨rfl,rfl⟩ | ⟨rfl,rfl⟩⟩:=hrel
  ·have G:¬ ((n1:Int) < 0):=by omega
   go_wp2;go_roundw
   case rel=>exact⟨trivial,.inr (.inl ⟨rfl,rfl⟩)⟩
   case measure=>simp[intOf]
  ·have G:¬ ((n1:Int) + (n2:Int) < 0):=by omega
   go_wp2;go_roundw
   case rel=>exact⟨trivial,.inr (.inr ⟨rfl,rfl⟩)⟩
   case measure=>simp[intOf]
  ·rename World=>W0
   go_wp2_with (go_at_call 254; refine z.mono ?_; rintro e L ⟨b,c,rfl,hb,l,s⟩);clear z
   have C:=(q.keep s).cell (i:=0) rfl
   have A:=(q.keep s).cell (i:=1) rfl;have r:=s;clear s q0 q1;go_loopw [6,27] (fun ts f t=>Below W0.heap.size W0 t/\∃ b c,W0.heap.size<=b/\((f=.int .i64 0/\ts=.slice (some ⟨b,0,none⟩) 0 c/\Rw t 196 2 b 0 c [])\/(f=.int .i64 1/\ts=.slice (some ⟨b,0,none⟩) n1 c/\Rw t 196 2 b n1 c xs)\/(f=.int .i64 2/\ts=.slice (some ⟨b,0,none⟩) (n1 + n2) c/\Rw t 196 2 b (n1 + n2) c (xs ++ ys)))) (fun _ f _=>2 - (intOf f).toNat)
   case atStart=>exact⟨r,b,c,hb,.inl ⟨rfl,rfl,l⟩⟩
   case round =>
    clear l r hb C A;obtain⟨d,b,c,hb,⟨rfl,rfl,l⟩ | ⟨rfl,rfl,l⟩ | ⟨rfl,rfl,l⟩⟩:=hrel
    ·have q0:=(q.keep d).cell (i:=0) rfl;have S:=D.keep d;obtain⟨b',c',W,y,g,m,hC⟩:=dA KE 199 l ⟨b1,0,none⟩ n1 c1 xs D.len (fun j u B=>by rw[Addr.add_lit,Nat.zero_add]; exact S.cell B) F (by omega) (by omega);rw[Nat.zero_add] at y m
     have o:Below W0.heap.size W0 W:=d.trans (hC.below (fun x hx=>by omega) d.size)
     have p:W0.heap.size<=b':=by
      have:=d.size;rcases g with e | e<;>omega
     clear hC g l S;go_wp2_with (at_builtin; refine Lib.wpList_append_run _ rfl _ _ _ _ rfl _ _ rfl rfl _ _ y ?_);go_roundw
     case rel=>exact⟨o,b',c',p,.inr (.inl ⟨rfl,rfl,m⟩)⟩
     case measure=>simp[intOf]
    ·have q1:=(q.keep d).cell (i:=1) rfl;have S:=E.keep d;obtain⟨b',c',W,y,g,m,hC⟩:=dA KE 199 l ⟨b2,0,none⟩ n2 c2 ys E.len (fun j u B=>by rw[Addr.add_lit,Nat.zero_add]; exact S.cell B) H (by omega) (by omega)
     have o:Below W0.heap.size W0 W:=d.trans (hC.below (fun x hx=>by omega) d.size)
     have p:W0.heap.size<=b':=by
      have:=d.size;rcases g with e | e<;>omega
     clear hC g l S;go_wp2_with (at_builtin; refine Lib.wpList_append_run _ rfl _ _ _ _ rfl _ _ rfl rfl _ _ y ?_);go_roundw
     case rel=>exact⟨o,b',c',p,.inr (.inr ⟨rfl,rfl,m⟩)⟩
     case measure=>simp[intOf]
    ·go_wp2;go_ret;exact⟨b,c,rfl,hb,l,d⟩
end Pg
end
section
namespace Pg
section
variable {a b k:List Int}{l:List (List Int)}
theorem iQ:∀ (a b:List Int),cY a b = -1\/cY a b=0\/cY a b=1
 | [],[]=>.inr (.inl rfl)
 | [],_ :: _=>.inl rfl
 | _ :: _,[]=>.inr (.inr rfl)
 | x :: a,y :: b=>by
  rw[cY];split
  ·exact .inl rfl
  ·split
   ·exact .inr (.inr rfl)
   ·exact iQ a b
theorem ix:∀ (a:List Int),cY a a=0
 | []=>rfl
 | x :: a=>by rw[cY,if_neg (by omega),if_neg (by omega)]; exact ix a
theorem o4:∀ {a b:List Int},cY a b=0->a=b
 | [],[],_=>rfl
 | [],_ :: _,h=>by simp[cY] at h
 | _ :: _,[],h=>by simp[cY] at h
 | x :: a,y :: b,h=>by
  rw[cY] at h;split at h
  ·omega
  ·split at h
   ·omega
   ·rw[o4 h,show x=y by omega]
theorem j6:∀ (a b:List Int),cY b a = - cY a b
 | [],[]=>rfl
 | [],_ :: _=>rfl
 | _ :: _,[]=>rfl
 | x :: a,y :: b=>by
  rw[cY,cY];by_cases h1:x < y
  ·rw[if_neg (by omega),if_pos h1,if_pos h1]; rfl
  ·by_cases h2:y < x
   ·rw[if_pos h2,if_neg h1,if_pos h2]
   ·rw[if_neg h2,if_neg h1,if_neg h1,if_neg h2]; exact j6 a b
abbrev Lt(a b:List Int):Prop:=cY a b = -1
theorem Lt.trans:∀ {a b c:List Int},Lt a b->Lt b c->Lt a c
 | [],[],_,h,_=>by simp[Lt,cY] at h
 | [],_ :: _,[],_,h=>by simp[Lt,cY] at h
 | [],_ :: _,_ :: _,_,_=>rfl
 | _ :: _,[],_,h,_=>by simp[Lt,cY] at h
 | _ :: _,_ :: _,[],_,h=>by simp[Lt,cY] at h
 | x :: a,y :: b,z :: c,h,h'=>by
  simp only[Lt] at h h' ⊢;rw[cY] at h h' ⊢;by_cases h1:x < z
  ·rw[if_pos h1]
  ·rw[if_neg h1];split at h
   ·split at h'
    ·omega
    ·split at h'
     ·omega
     ·omega
   ·split at h
    ·omega
    ·split at h'
     ·omega
     ·split at h'
      ·omega
      ·rw[if_neg (by omega)]; exact Lt.trans (a:=a) (b:=b) (c:=c) h h'
theorem lt_irrefl(a:List Int):¬ Lt a a:=by simp[Lt,ix]
theorem Lt.not(h:Lt a b):¬ Lt b a:=fun h'=>lt_irrefl a (h.trans h')
theorem oV(a b:List Int):Lt a b\/a=b\/Lt b a:=by
 rcases iQ a b with h | h | h
 ·exact .inl h
 ·exact .inr (.inl (o4 h))
 ·exact .inr (.inr (by simp only[Lt]; rw[j6,h]))
theorem pX(h:Lt a b):cY a b = -1:=h
theorem CH(h:Lt b a):cY a b=1:=by rw[j6,pX h]; rfl
theorem not_lt:¬ Lt a b<->a=b\/Lt b a:=by
 constructor
 ·intro h;rcases oV a b with k | k | k
  ·exact absurd k h
  ·exact .inl k
  ·exact .inr k
 ·rintro(h | h)
  ·subst h; exact lt_irrefl a
  ·exact h.not
theorem Lt.of_le{c:List Int}(h:Lt a b)(h':¬ Lt c b):Lt a c:=by
 rcases not_lt.1 h' with k | k
 ·subst k; exact h
 ·exact h.trans k
def plc:List (List Int)->List Int->Nat
 | [],_=>0
 | x :: l,k=>if Lt x k then plc l k + 1 else 0
theorem o9:∀ (l:List (List Int)) (k:List Int),plc l k<=l.length
 | [],_=>Nat.le_refl _
 | x :: l,k=>by
  rw[plc];split
  ·have:=o9 l k; simp; omega
  ·simp
theorem sr:∀ {l:List (List Int)} {k:List Int} {i:Nat},i<=l.length->(∀ j x,j < i->l[j]? = some x->Lt x k)->(∀ x,l[i]? = some x->¬ Lt x k)->plc l k=i
 | [],_,i,h,_,_=>by simp at h; subst h; rfl
 | x :: l,k,0,_,_,h3=>by rw[plc,if_neg (h3 x rfl)]
 | x :: l,k,i + 1,h1,h2,h3=>by
  rw[plc,if_pos (h2 0 x (by omega) rfl),sr (l:=l) (i:=i) (by simpa using h1) (fun j y hj hy=>h2 (j + 1) y (by omega) (by simpa using hy)) (fun y hy=>h3 y (by simpa using hy))]
theorem yo:∀ {l:List (List Int)} {k:List Int} {j:Nat} {x:List Int},j < plc l k->l[j]? = some x->Lt x k
 | [],_,_,_,h,_=>by simp[plc] at h
 | y :: l,k,j,x,h,hx=>by
  rw[plc] at h;split at h
  ·cases j with
   | zero=>simp at hx; subst hx; assumption
   | succ j=>exact yo (l:=l) (j:=j) (by omega) (by simpa using hx)
  ·omega
theorem zZ:∀ {l:List (List Int)} {k:List Int} {x:List Int},l[plc l k]? = some x->¬ Lt x k
 | [],_,_,h=>by simp at h
 | y :: l,k,x,h=>by
  rw[plc] at h;split at h
  ·exact zZ (l:=l) (by simpa using h)
  ·simp at h; subst h; assumption
def Srt(l:List (List Int)):Prop:=l.Pairwise Lt
theorem Srt.get(h:Srt l){i j:Nat}{x y:List Int}(a:i < j)(hi:l[i]? = some x)(d:l[j]? = some y):Lt x y:=by
 obtain⟨b,rfl⟩:=List.getElem?_eq_some_iff.1 hi;obtain⟨c,rfl⟩:=List.getElem?_eq_some_iff.1 d;exact List.pairwise_iff_getElem.1 h i j b c a
def thr(l:List (List Int))(k:List Int):Bool:=decide (l[plc l k]? = some k)
theorem CT(h:Srt l):thr l k=true<->k∈l:=by
 simp only[thr,decide_eq_true_eq];constructor
 ·intro e; exact List.mem_of_getElem? e
 ·intro e;obtain⟨j,a⟩:=List.getElem?_of_mem e;have:plc l k=j:=sr (by have:=(List.getElem?_eq_some_iff.1 a).1; omega) (fun i x hi hx=>h.get hi hx a) (fun x hx=>by rw[a] at hx; cases hx; exact lt_irrefl k);rw[this]; exact a
end
end Pg
end
section
namespace Pg
open Go.RowKit Go.Lib
section
variable {w w':World}{D D':Nat->Prop}
structure En where
 kv:Value
 kl:List Int
 vv:Value
 vl:List Int
structure EnA(w:World)(D:Nat->Prop)(e:En):Prop where
 k:OB w D e.kv e.kl
 v:OB w D e.vv e.vl
theorem EnA.keep{e:En}(h:EnA w D e)(hb:Below w.heap.size w w'):EnA w' D e:=⟨h.k.keep hb,h.v.keep hb⟩
theorem EnA.mono{e:En}(h:EnA w D e)(hD:∀ b,b < w.heap.size->D b->D' b):EnA w D' e:=⟨h.k.mono hD,h.v.mono hD⟩
def flat:List En->List Value
 | []=>[]
 | e :: l=>e.kv :: e.vv :: flat l
theorem jk:∀ (l:List En),(flat l).length=l.length * 2
 | []=>rfl
 | e :: l=>by simp[flat,jk l]; omega
theorem eb:∀ (a b:List En),flat (a ++ b)=flat a ++ flat b
 | [],b=>rfl
 | e :: a,b=>by simp[flat,eb a b]
theorem qd:∀ {l:List En} {i:Nat} {e:En},l[i]? = some e->(flat l)[i * 2]? = some e.kv
 | [],_,_,h=>by simp at h
 | x :: l,0,e,h=>by simp at h; subst h; rfl
 | x :: l,i + 1,e,h=>by
  rw[show (i + 1) * 2=i * 2 + 1 + 1 by omega,flat,List.getElem?_cons_succ,List.getElem?_cons_succ];exact qd (l:=l) (by simpa using h)
theorem ki:∀ {l:List En} {i:Nat} {e:En},l[i]? = some e->(flat l)[i * 2 + 1]? = some e.vv
 | [],_,_,h=>by simp at h
 | x :: l,0,e,h=>by simp at h; subst h; rfl
 | x :: l,i + 1,e,h=>by
  rw[show (i + 1) * 2 + 1=i * 2 + 1 + 1 + 1 by omega,flat,List.getElem?_cons_succ,List.getElem?_cons_succ];exact ki (l:=l) (by simpa using h)
theorem ij:∀ (l:List En) (i:Nat),(flat l).take (i * 2)=flat (l.take i)
 | [],i=>by simp[flat]
 | x :: l,0=>by simp[flat]
 | x :: l,i + 1=>by
  rw[show (i + 1) * 2=i * 2 + 1 + 1 by omega,flat,List.take_succ_cons,List.take_succ_cons,ij l i,List.take_succ_cons,flat]
theorem iv:∀ (l:List En) (i:Nat),(flat l).drop (i * 2)=flat (l.drop i)
 | [],i=>by simp[flat]
 | x :: l,0=>by simp
 | x :: l,i + 1=>by
  rw[show (i + 1) * 2=i * 2 + 1 + 1 by omega,flat,List.drop_succ_cons,List.drop_succ_cons,iv l i,List.drop_succ_cons]
theorem jQ:∀ {l:List En},(∀ e∈l,EnA w D e)->∀ v∈flat l,v.oneCell'=true
 | [],_,v,h=>by simp[flat] at h
 | x :: l,h,v,hv=>by
  have hx:=h x List.mem_cons_self;rcases List.mem_cons.1 hv with rfl | hv
  ·exact hx.k.one
  ·rcases List.mem_cons.1 hv with rfl | hv
   ·exact hx.v.one
   ·exact jQ (l:=l) (fun e he=>h e (List.mem_cons_of_mem _ he)) v hv
theorem lY:∀ {l:List En} {i:Nat} {e:En} (u:Value) (ul:List Int),l[i]? = some e->(flat l).set (i * 2 + 1) u=flat (l.set i { e with vv:=u,vl:=ul })
 | [],_,_,_,_,h=>by simp at h
 | x :: l,0,e,u,ul,h=>by simp at h; subst h; simp[flat]
 | x :: l,i + 1,e,u,ul,h=>by
  rw[show (i + 1) * 2 + 1=i * 2 + 1 + 1 + 1 by omega,flat,List.set_cons_succ,List.set_cons_succ,lY (l:=l) u ul (by simpa using h),List.set_cons_succ,flat]
def kys(l:List En):List (List Int):=l.map En.kl
structure Pg where
 b:Nat
 c:Nat
 es:List En
def Pg.v(p:Pg):Value:=.slice (some ⟨p.b,0,none⟩) p.es.length p.c
structure PgA(w:World)(D:Nat->Prop)(p:Pg):Prop where
 row:Rw w 196 2 p.b p.es.length p.c (flat p.es)
 dH:∀ e∈p.es,EnA w D e
theorem PgA.keep{p:Pg}(h:PgA w D p)(hb:Below w.heap.size w w'):PgA w' D p:=⟨h.row.keep hb,fun e he=>(h.dH e he).keep hb⟩
theorem PgA.one{p:Pg}(h:PgA w D p):∀ v∈flat p.es,v.oneCell'=true:=jQ h.dH
theorem cmpE{kv vv v:Value}{l b:List Int}(h:By w kv l)(c:By w v b) :
  Calls Tryz.prog 213 #[.agg #[kv,vv],v] w fun e w'=>e=.returned (.int .i64 (cY l b))/\Below w.heap.size w w':=by
 have hb:=ae w (.cells #[kv,vv] 196);have d:=kU (h.keep hb) (c.keep hb);have B:=aC w [kv,vv] 196;have q0:=B.cell (i:=0) rfl;clear h c B;generalize cY l b=x at *;go_enter Tryz.func213,Tryz.ntmps213;go_wp2_with (go_at_call 211; refine d.mono ?_; rintro e f ⟨rfl,rfl⟩);go_ret;exact⟨rfl,hb⟩
end
end Pg
end
section
namespace Pg
open Go.RowKit Go.Lib
section
variable {w:World}{D:Nat->Prop}{p:Pg}{v:Value}{k:List Int}
theorem bsE(A:PgA w D p)(S:Srt (kys p.es))(h:By w v k)(hn:p.es.length<=1000000) :
  Calls Tryz.prog 212 #[p.v,v,.func (.func 213) #[] #[]] w fun e w'=>e=.returned (.tuple #[.int .i64 (plc (kys p.es) k),.bool (thr (kys p.es) k)])/\Below w.heap.size w w':=by
 obtain⟨b,c,es⟩:=p;simp only[Pg.v] at *;have r:=A.row.le;simp only[maxLen] at r;have u:=r.1;have M:=r.2;obtain⟨n,J⟩:∃ n,es.length=n:=⟨_,rfl⟩
 rw[J] at hn u ⊢;go_enter Tryz.func212,Tryz.ntmps212;go_wp2;go_loopw [9,10] (fun I K wr=>∃ i j:Nat,I=.int .i64 i/\K=.int .i64 j/\i<=j/\j<=n/\Hid (∀ q x,q < i->(kys es)[q]? = some x->Lt x k)/\Hid (∀ q x,j<=q->(kys es)[q]? = some x->¬ Lt x k)/\Below w.heap.size w wr) (fun I K _=>(intOf K).toNat - (intOf I).toNat)
 case atStart=>exact⟨0,n,rfl,rfl,Nat.zero_le _,Nat.le_refl _,fun q x y=>by omega,fun q x y hx=>by
  have:=(List.getElem?_eq_some_iff.1 hx).1;simp[kys] at this
  omega,Below.refl _ _⟩
 case round =>
  obtain⟨i,j,rfl,rfl,Z,F,H1,P,g⟩:=hrel;by_cases Y:i < j
  ·obtain⟨m,hm⟩:∃ m,m=(i + j) / 2:=⟨_,rfl⟩
   have W:i<=m:=by omega
   have U:m < j:=by omega
   obtain⟨e,he⟩:∃ e,es[m]? = some e:=⟨es[m],List.getElem?_eq_getElem (by omega)⟩
   have f:=A.keep g;have q0:=f.row.cell (qd he);have q1:=f.row.cell (ki he)
   have X:IntKind.i64.wrap ((i:Int) + (j:Int))=(i:Int) + (j:Int):=by rw[IntKind.wrap_i64]; omega
   have V:((i:Int) + (j:Int)) / 2 < n:=by omega
   have R:(0:Int)<=((i:Int) + (j:Int)) / 2:=by omega
   have T:IntKind.i64.wrap (((i:Int) + (j:Int)) / 2)=((i:Int) + (j:Int)) / 2:=by rw[IntKind.wrap_i64]; omega
   have l:=cmpE (vv:=e.vv) ((f.dH e (List.mem_of_getElem? he)).k.by) (h.keep g)
   have s:(kys es)[m]? = some e.kl:=by simp[kys,he]
   rw[hm] at q0 q1
   have C:Hid (m=(i + j) / 2):=hm;clear f hm;by_cases hc:Lt e.kl k
   ·rw[pX hc] at l;go_wp2_with (go_at_call 213; refine l.mono ?_; rintro O N ⟨rfl,d⟩);go_roundw
    case rel=>exact⟨m + 1,j,by have:=C.out; congr 1; omega,rfl,by omega,F,fun q x y hx=>by
     by_cases o:q=m
     ·subst o; rw[s] at hx; cases hx; exact hc
     ·exact S.get (by omega) hx s |>.trans hc,P.out,aj g d⟩
    case measure=>have:=C.out; simp[intOf]; omega
   ·have L:¬ (cY e.kl k < 0):=by
     rcases iQ e.kl k with q | q | q
     ·exact absurd q hc
     ·rw[q]; decide
     ·rw[q]; decide
    generalize cY e.kl k=x at l L;go_wp2_with (go_at_call 213; refine l.mono ?_; rintro O N ⟨rfl,d⟩);go_roundw
    case rel=>exact⟨i,m,rfl,by have:=C.out; congr 1; omega,by omega,by omega,H1.out,fun q x y hx=>by
     by_cases o:q=m
     ·subst o; rw[s] at hx; cases hx; exact hc
     ·intro H
      exact hc ((S.get (by omega) s hx).trans H),aj g d⟩
    case measure=>have:=C.out; simp[intOf]; omega
  ·have G:i=j:=by omega
   subst G
   have E:Hid (plc (kys es) k=i):=sr (by simp[kys]; omega) (fun q x y hx=>H1.out q x y hx) (fun x hx=>P.out i x (Nat.le_refl _) hx)
   have f:=A.keep g;by_cases Q:i < n
   ·obtain⟨e,he⟩:∃ e,es[i]? = some e:=⟨es[i],List.getElem?_eq_getElem (by omega)⟩
    have q0:=f.row.cell (qd he);have q1:=f.row.cell (ki he)
    have s:(kys es)[i]? = some e.kl:=by simp[kys,he]
    have l:=cmpE (vv:=e.vv) ((f.dH e (List.mem_of_getElem? he)).k.by) (h.keep g)
    have B:Hid (thr (kys es) k=(cY e.kl k == 0)):=by
     show _=_
     unfold thr;rw[E.out,s];by_cases q:e.kl=k
     ·subst q; simp[ix]
     ·have:cY e.kl k≠0:=fun z=>q (o4 z)
      simp[q,this]
    have t:(i:Int) < n:=by omega
    generalize cY e.kl k=x at l B;clear f;go_wp2_with (go_at_call 213; refine l.mono ?_; rintro O N ⟨rfl,d⟩)
    all_goals (
     go_ret2;refine⟨?_,aj g d⟩;rw[B.out,E.out]
     rfl)
   ·have B:Hid (thr (kys es) k=false):=by
     show _=_
     unfold thr;rw[E.out,List.getElem?_eq_none (by simp[kys]; omega)];rfl
    have t:¬ ((i:Int) < n):=by omega
    go_wp2;go_ret2;refine⟨?_,g⟩;rw[B.out,E.out];rfl
theorem gY(A:PgA w D p)(S:Srt (kys p.es))(h:By w v k)(hn:p.es.length<=1000000) :
  Calls Tryz.prog 174 #[p.v,v] w fun e w'=>e=.returned (.tuple #[.int .i64 (plc (kys p.es) k),.bool (thr (kys p.es) k)])/\Below w.heap.size w w':=by
 have t:=bsE A S h hn;generalize plc (kys p.es) k=x at *;generalize thr (kys p.es) k=y at *;simp only[Pg.v] at *;clear A S h;go_enter Tryz.func174,Tryz.ntmps174;go_wp2_with (go_at_call 212; refine t.mono ?_; rintro d c ⟨rfl,b⟩);go_ret2;exact⟨rfl,b⟩
end
end Pg
end
section
namespace Pg
open Go.RowKit Go.Lib
section
variable {w w':World}{F D:Nat->Prop}{g b:Nat}{L:List Pg}{P:List (List En)}{es:List En}
structure bJ(w:World)(F D:Nat->Prop)(g:Nat)(L:List Pg):Prop where
 top:∃ pv,Blk w g [pv] 144/\F g/\((pv=.slice none 0 0/\L=[])\/∃ G C,pv=.slice (some ⟨G,0,none⟩) L.length C/\F G/\Rw w 199 1 G L.length C (L.map Pg.v))
 bZ:∀ p∈L,PgA w D p/\F p.b
 apart:(L.map Pg.b).Nodup
 kind:∀ b,F b->∃ cs t,Blk w b cs t/\t≠5
theorem bJ.lt(h:bJ w F D g L)(hb:F b):b < w.heap.size:=by
 obtain⟨cs,t,h,_⟩:=h.kind b hb;exact h.lt
theorem bJ.same(h:bJ w F D g L)(f:∀ b,F b->w'.heap[b]? = w.heap[b]?)(q:∀ b,b < w.heap.size->D b->(∃ cs,Blk w b cs 5)->w'.heap[b]? = w.heap[b]?):bJ w' F D g L:=by
 obtain⟨s,hb,m,i⟩:=h.top
 have d:∀ {v:Value} {l:List Int},OB w D v l->OB w' D v l:=fun h=>⟨h.oct,h.ex.imp id (by
  rintro⟨b,c,e,n,a⟩
  exact⟨b,c,e,n,a.same (q b a.lt n a.kind)⟩)⟩
 refine⟨⟨s,hb.same (f g m),m,i.imp id ?_⟩,fun p i => ?_,h.apart,fun b hb => ?_⟩
 ·rintro⟨G,C,e,j,a⟩;exact⟨G,C,e,j,a.same (f G j)⟩
 ·obtain⟨hA,hF⟩:=h.bZ p i;exact⟨⟨hA.row.same (f _ hF),fun e he=>⟨d (hA.dH e he).k,d (hA.dH e he).v⟩⟩,hF⟩
 ·obtain⟨cs,t,r,o⟩:=h.kind b hb;exact⟨cs,t,r.same (f b hb),o⟩
theorem bJ.keep(h:bJ w F D g L)(hb:Below w.heap.size w w'):bJ w' F D g L:=h.same (fun b hF=>hb.block b (h.lt hF)) (fun b hl _ _=>hb.block b hl)
theorem bJ.drew(h:bJ w F D g L):bJ w.drew F D g L:=h.same (fun _ _=>rfl) (fun _ _ _ _=>rfl)
theorem bJ.chg{F':Nat->Prop}(h:bJ w F D g L)(hc:Chg F' w w')(a:∀ b,F' b->¬ F b)(e:∀ b,F' b->∀ cs,¬ Blk w b cs 5):bJ w' F D g L :=
 h.same (fun b hF=>hc.same b (h.lt hF) fun f=>a b f hF) (fun b d _ c=>hc.same b d fun f=>by obtain⟨cs,k⟩:=c; exact e b f cs k)
theorem bJ.noU(h:bJ w F D g L)(hb:F b)(cs:List Value):¬ Blk w b cs 5:=fun k=>by
 obtain⟨cs',t,hk,ht⟩:=h.kind b hb;exact ht (hk.eq k).2
theorem bJ.mono{D':Nat->Prop}(h:bJ w F D g L)(c:∀ b,b < w.heap.size->D b->D' b):bJ w F D' g L :=
 ⟨h.top,fun p a=>⟨⟨(h.bZ p a).1.row,fun e he=>((h.bZ p a).1.dH e he).mono c⟩,(h.bZ p a).2⟩,h.apart,h.kind⟩
def ens(L:List Pg):List (List En):=L.map Pg.es
def fks(P:List (List En)):List (List Int):=P.map fun es=>(kys es).headD []
def plq:List (List Int)->List Int->Nat
 | [],_=>0
 | x :: l,k=>if Lt k x then 0 else plq l k + 1
theorem pN:∀ (l:List (List Int)) (k:List Int),plq l k<=l.length
 | [],_=>Nat.le_refl _
 | x :: l,k=>by
  rw[plq];split
  ·simp
  ·have:=pN l k; simp; omega
theorem AY:∀ {l:List (List Int)} {k:List Int} {i:Nat},i<=l.length->(∀ j x,j < i->l[j]? = some x->¬ Lt k x)->(∀ x,l[i]? = some x->Lt k x)->plq l k=i
 | [],_,i,h,_,_=>by simp at h; subst h; rfl
 | x :: l,k,0,_,_,h3=>by rw[plq,if_pos (h3 x rfl)]
 | x :: l,k,i + 1,h1,h2,h3=>by
  rw[plq,if_neg (h2 0 x (by omega) rfl),AY (l:=l) (i:=i) (by simpa using h1) (fun j y hj hy=>h2 (j + 1) y (by omega) (by simpa using hy)) (fun y hy=>h3 y (by simpa using hy))]
theorem zt:∀ {l:List (List Int)} {k:List Int} {j:Nat} {x:List Int},j < plq l k->l[j]? = some x->¬ Lt k x
 | [],_,_,_,h,_=>by simp[plq] at h
 | y :: l,k,j,x,h,hx=>by
  rw[plq] at h;split at h
  ·omega
  ·cases j with
   | zero=>simp at hx; subst hx; assumption
   | succ j=>exact zt (l:=l) (j:=j) (by omega) (by simpa using hx)
theorem yL:∀ {l:List (List Int)} {k:List Int} {x:List Int},l[plq l k]? = some x->Lt k x
 | [],_,_,h=>by simp at h
 | y :: l,k,x,h=>by
  rw[plq] at h;split at h
  ·simp at h; subst h; assumption
  ·exact yL (l:=l) (by simpa using h)
def pgi(P:List (List En))(k:List Int):Nat:=plq (fks P) k - 1
structure Ord(P:List (List En)):Prop where
 full:∀ es∈P,es≠[]
 iH:Srt (kys P.flatten)
theorem Ord.page(h:Ord P){i:Nat}(hi:P[i]? = some es):Srt (kys es):=by
 have hm:=List.mem_of_getElem? hi;have:(kys es).Sublist (kys P.flatten):=(List.sublist_flatten_of_mem hm).map _;exact h.iH.sublist this
theorem jx(h:es≠[]):∃ e l,es=e :: l/\(kys es).headD []=e.kl:=by
 cases es with
 | nil=>exact absurd rfl h
 | cons e l=>exact⟨e,l,rfl,rfl⟩
theorem Ord.Ae:∀ {P:List (List En)},Ord P->Srt (fks P)
 | [],_=>List.Pairwise.nil
 | es :: P,h=>by
  have h2:Ord P:=⟨fun x hx=>h.full x (List.mem_cons_of_mem _ hx),by
   have:=h.iH;simp only[Srt,kys,List.flatten_cons,List.map_append,List.pairwise_append] at this
   exact this.2.1⟩
  refine List.Pairwise.cons (fun x hx => ?_) (Ord.Ae h2);obtain⟨fs,a,rfl⟩:=List.mem_map.1 hx;obtain⟨e,l,rfl,he⟩:=jx (h.full es List.mem_cons_self);obtain⟨f,m,rfl,hf⟩:=jx (h2.full fs a)
  show Lt e.kl f.kl
  have:=h.iH;simp only[Srt,kys,List.flatten_cons,List.map_append,List.pairwise_append] at this;exact this.2.2 e.kl (by simp) f.kl (List.mem_map.2 ⟨f,List.mem_flatten.2 ⟨_,a,List.mem_cons_self⟩,rfl⟩)
end
end Pg
end
section
namespace Pg
open Go.RowKit Go.Lib
section
variable {L:List Pg}{i g:Nat}{p:Pg}{w:World}{F D:Nat->Prop}{v:Value}{k:List Int}{P:List (List En)}
theorem oO(h:L[i]? = some p):(ens L)[i]? = some p.es:=by simp[ens,h]
theorem CG(h:L[i]? = some p):(fks (ens L))[i]? = some ((kys p.es).headD []):=by simp[ens,fks,h]
theorem bJ.head(A:bJ w F D g L)(O:Ord (ens L))(h:L[i]? = some p):∃ kv,w.cell? ⟨p.b,0,none⟩=some kv/\By w kv ((kys p.es).headD []):=by
 have a:=List.mem_of_getElem? h
 have hm:p.es∈ens L:=List.mem_map.2 ⟨p,a,rfl⟩;obtain⟨e,l,he,c⟩:=jx (O.full _ hm);obtain⟨hA,_⟩:=A.bZ p a;have q:=hA.row.cell (i:=0) (v:=e.kv) (by rw[he]; rfl);exact⟨e.kv,q,by rw[c]; exact(hA.dH e (by rw[he]; exact List.mem_cons_self)).k.by⟩
theorem bJ.rd(A:bJ w F D g L):∃ ao c,w.cell? ⟨g,0,none⟩=some (.slice ao L.length c)/\L.length<=c/\c<=9223372036854775807/\(∀ i p,L[i]? = some p->∃ G,ao=some ⟨G,0,none⟩/\w.cell? ⟨G,i,none⟩=some p.v):=by
 obtain⟨f,hb,e,⟨rfl,rfl⟩ | ⟨G,C,rfl,d,a⟩⟩:=A.top
 ·exact⟨_,_,hb.cell (i:=0) rfl,by decide,by decide,fun i p h=>by simp at h⟩
 ·have b:=a.le;simp only[maxLen] at b;exact⟨_,C,hb.cell (i:=0) rfl,by omega,by omega,fun i p h=>⟨G,rfl,a.cell (by simp[h])⟩⟩
theorem iO(A:bJ w F D g L)(O:Ord (ens L))(h:By w v k)(hn:L.length<=1000000000) :
  Calls Tryz.prog 172 #[.pointer (some ⟨g,0,none⟩),v] w fun e w'=>e=.returned (.int .i64 (pgi (ens L) k))/\Below w.heap.size w w':=by
 obtain⟨V,c,hc,I,hc2,J⟩:=A.rd;have l:=O.Ae;obtain⟨s,r⟩:∃ s,Hid (fks (ens L)=s):=⟨_,rfl⟩
 rw[r.out] at l;obtain⟨n,t⟩:∃ n,Hid (L.length=n):=⟨_,rfl⟩
 rw[t.out] at hc I hn
 have hkl:s.length=n:=by rw[<- r.out,<- t.out]; simp[fks,ens]
 have M:Below w.heap.size w w.drew:=⟨rfl,rfl,rfl,Nat.le_refl _,fun _ _=>rfl⟩
 have hcd:w.drew.cell? ⟨g,0,none⟩=some (.slice V n c):=hc
 have d:∀ (i:Nat),i<=n->(∀ q x,q < i->s[q]? = some x->¬ Lt k x)->(∀ q x,i<=q->s[q]? = some x->Lt k x)->pgi (ens L) k=i - 1:=fun i hi h1 h2=>by
  unfold pgi;rw[r.out,AY (i:=i) (by omega) (fun j x hj hx=>h1 j x hj hx) (fun x hx=>h2 i x (Nat.le_refl _) hx)]
 have d:Hid _:=d;have mixed:=mixed;go_enter Tryz.func172,Tryz.ntmps172;go_wp2;go_step3;go_wp2;go_region;go_wp2;go_step3;go_wp2;go_loopw [5,6] (fun N Q wr=>∃ i j:Nat,N=.int .i64 i/\Q=.int .i64 j/\i<=j/\j<=n/\Hid (∀ q x,q < i->s[q]? = some x->¬ Lt k x)/\Hid (∀ q x,j<=q->s[q]? = some x->Lt k x)/\Below w.heap.size w wr) (fun N Q _=>(intOf Q).toNat - (intOf N).toNat)
 case atStart=>exact⟨0,n,rfl,rfl,Nat.zero_le _,Nat.le_refl _,fun q x B=>by omega,fun q x B hx=>by
  have:=(List.getElem?_eq_some_iff.1 hx).1
  omega,M⟩
 case round =>
  obtain⟨i,j,rfl,rfl,hij,H,H1,Y,o⟩:=hrel;by_cases hlt:i < j
  ·obtain⟨m,hm⟩:∃ m,m=i + (j - i) / 2:=⟨_,rfl⟩
   have hm1:i<=m:=by omega
   have hm2:m < j:=by omega
   obtain⟨p,C⟩:∃ p,L[m]? = some p:=⟨L[m]'(by have:=t.out; omega),List.getElem?_eq_getElem _⟩
   have W:=A.keep o
   have c0:wr.cell? ⟨g,0,none⟩=some (.slice V n c):=by
    rw[o.cell (p:=⟨g,0,none⟩) (by obtain⟨_,hb,_⟩:=A.top; exact hb.lt)]; exact hc
   obtain⟨G,rfl,T⟩:=J m p C
   have z:wr.cell? ⟨G,m,none⟩=some p.v:=by
    rw[o.cell (p:=⟨G,m,none⟩) (aI T)]; exact T
   obtain⟨kv,cK,S⟩:=W.head O C
   have b:s[m]? = some ((kys p.es).headD []):=by rw[<- r.out]; exact CG C
   have hpe:0 < p.es.length:=by
    have:=O.full p.es (List.mem_map.2 ⟨p,List.mem_of_getElem? C,rfl⟩);exact List.length_pos_iff.2 this
   simp only[Pg.v] at z;rw[hm] at z;have u:=kU S (h.keep o);generalize (kys p.es).headD []=Z at *
   have y:Hid (m=i + (j - i) / 2):=hm
   have hz0:(0:Int)<=(i:Int) + ((j:Int) - (i:Int)) / 2:=by omega
   have hz1:(i:Int) + ((j:Int) - (i:Int)) / 2 < n:=by omega
   have hz2:((i:Int) + ((j:Int) - (i:Int)) / 2).toNat=i + (j - i) / 2:=by omega
   generalize p.es.length=pn at *;clear W hm S;rcases oV Z k with hc | hc | hc
   ·rw[pX hc] at u;go_wp2_with (go_at_call 211; refine u.mono ?_; rintro X U ⟨rfl,rfl⟩);go_roundw
    case rel=>exact⟨m + 1,j,by have:=y.out; congr 1; omega,rfl,by omega,H,fun q x B hx=>by
     by_cases f:q=m
     ·subst f; rw[b] at hx; cases hx; exact hc.not
     ·exact((l.get (by omega) hx b).trans hc).not,Y.out,o⟩
    case measure=>have:=y.out; simp[intOf]; omega
   ·have hF:=d.out (m + 1) (by omega) (fun q x B hx=>by
     subst hc;by_cases f:q=m
     ·subst f; rw[b] at hx; cases hx; exact lt_irrefl _
     ·exact(l.get (by omega) hx b).not) (fun q x B hx=>by subst hc; exact l.get (by omega) b hx)
    have E:Hid (pgi (ens L) k=m):=by show _=_; rw[hF]; omega
    have HC:Hid (Z=k):=hc;rw[hc,ix] at u
    have hx0:(i:Int) + ((j:Int) - (i:Int)) / 2 + 1 - 1=(i:Int) + ((j:Int) - (i:Int)) / 2:=by omega
    have R:¬ ((i:Int) + ((j:Int) - (i:Int)) / 2 < 0):=by omega
    clear hF hc;go_wp2_with (go_at_call 211; refine u.mono ?_; rintro X U ⟨rfl,rfl⟩);simp only[Exit.noGoto_ret];go_ret;refine⟨?_,o⟩;rw[E.out];have:=y.out
    show Ending.returned (Value.int .i64 ((i:Int) + ((j:Int) - (i:Int)) / 2))=_
    rw[show (i:Int) + ((j:Int) - (i:Int)) / 2=(m:Int) by omega]
   ·rw[CH hc] at u;go_wp2_with (go_at_call 211; refine u.mono ?_; rintro X U ⟨rfl,rfl⟩);go_roundw
    case rel=>exact⟨i,m,rfl,by have:=y.out; congr 1; omega,by omega,by omega,H1.out,fun q x B hx=>by
     by_cases f:q=m
     ·subst f; rw[b] at hx; cases hx; exact hc
     ·exact hc.trans (l.get (by omega) b hx),o⟩
    case measure=>have:=y.out; simp[intOf]; omega
  ·have K:i=j:=by omega
   subst K
   have E:Hid (pgi (ens L) k=i - 1):=d.out i (by omega) H1.out Y.out;by_cases P:i=0
   ·subst P;go_wp2
    try simp only[Exit.noGoto_ret]
    go_ret;refine⟨?_,o⟩;rw[E.out];rfl
   ·have R:¬ ((i:Int) - 1 < 0):=by omega
    have hx2:(0:Int)<=(i:Int) - 1:=by omega
    go_wp2
    try simp only[Exit.noGoto_ret]
    go_ret;refine⟨?_,o⟩;rw[E.out]
    show Ending.returned (Value.int .i64 ((i:Int) - 1))=_
    rw[show (i:Int) - 1=((i - 1:Nat):Int) by omega]
theorem pgi_lt(h:P≠[])(k:List Int):pgi P k < P.length:=by
 have h1:=pN (fks P) k
 have h2:0 < P.length:=List.length_pos_iff.2 h;simp only[fks,List.length_map] at h1;unfold pgi fks;omega
theorem mC(A:bJ w F D g []) :
  Calls Tryz.prog 146 #[.pointer (some ⟨g,0,none⟩),v] w fun e w'=>e=.returned (.tuple #[.int .i64 0,.int .i64 0,.bool false])/\w'=w:=by
 obtain⟨i,c,hc,f,d,b⟩:=A.rd;simp only[List.length_nil] at hc;clear A b;go_enter Tryz.func146,Tryz.ntmps146;go_wp2;go_ret3;exact⟨rfl,rfl⟩
theorem kY(A:bJ w F D g L)(O:Ord (ens L))(h:By w v k)(hn:L.length<=1000000000)(l:L[pgi (ens L) k]? = some p)(hs:p.es.length<=1000000) :
  Calls Tryz.prog 146 #[.pointer (some ⟨g,0,none⟩),v] w fun e w'=>e=.returned (.tuple #[.int .i64 (pgi (ens L) k),.int .i64 (plc (kys p.es) k),.bool (thr (kys p.es) k)])/\Below w.heap.size w w':=by
 have H:=iO A O h hn;have o:=(List.getElem?_eq_some_iff.1 l).1;have f:=List.mem_of_getElem? l
 have E:∀ w',Below w.heap.size w w'->Calls Tryz.prog 174 #[p.v,v] w' fun e t=>e=.returned (.tuple #[.int .i64 (plc (kys p.es) k),.bool (thr (kys p.es) k)])/\Below w'.heap.size w' t:=fun w' hb =>
  gY ((A.bZ p f).1.keep hb) (O.page (oO l)) (h.keep hb) hs
 obtain⟨P,c,hc,q,M,j⟩:=A.rd;obtain⟨G,rfl,C⟩:=j _ p l;have r:=aI hc;have u:=aI C;generalize pgi (ens L) k=i at *;generalize plc (kys p.es) k=x at *;generalize thr (kys p.es) k=y at *;obtain⟨n,m⟩:∃ n,L.length=n:=⟨_,rfl⟩
 rw[m] at hc q o
 have I:¬ ((n:Int)=0):=by omega
 have K:(i:Int) < n:=by omega
 simp only[Pg.v] at *;clear A O h j l f;go_enter Tryz.func146,Tryz.ntmps146;go_wp2_with (first | (go_at_call 172; refine H.mono ?_; rintro J B ⟨rfl,d⟩; have c1:B.cell? ⟨g,0,none⟩=some (.slice (some ⟨G,0,none⟩) n c):=(d.cell (p:=⟨g,0,none⟩) r).trans hc; have c2:B.cell? ⟨G,i,none⟩=some (.slice (some ⟨p.b,0,none⟩) p.es.length p.c):=(d.cell (p:=⟨G,i,none⟩) u).trans C; have z:=E B d; clear H E) | (go_at_call 174; refine z.mono ?_; rintro J N ⟨rfl,s⟩));go_ret3;exact⟨rfl,aj d s⟩
end
end Pg
end
section
namespace Pg
open Go.RowKit Go.Lib
section
variable {w w1:World}{F D:Nat->Prop}{g G n c i j:Nat}{L L':List Pg}{cs ds xs:List Value}{p q:Pg}{c0:Value}
theorem bJ.opn(A:bJ w F D g L)(h:L≠[]):∃ G C,Blk w g [.slice (some ⟨G,0,none⟩) L.length C] 144/\F g/\F G/\Rw w 199 1 G L.length C (L.map Pg.v):=by
 obtain⟨d,hb,a,⟨rfl,rfl⟩ | ⟨G,C,rfl,c,b⟩⟩:=A.top
 ·exact absurd rfl h
 ·exact⟨G,C,hb,a,c,b⟩
theorem et{a b:Nat}{t u:TypeId}(h:Blk w a cs t)(h':Blk w b ds u)(ht:t≠u):a≠b:=fun e=>by subst e; exact ht (h.eq h').2
theorem PgA.eW(h:PgA w D p)(hg:Blk w g cs 144):p.b≠g:=by
 obtain⟨ds,k⟩:=h.row.kind;exact et k hg (by decide)
theorem PgA.eR(h:PgA w D p)(hG:Rw w 199 1 G n c xs):p.b≠G:=by
 obtain⟨ds,k⟩:=h.row.kind;obtain⟨es,k'⟩:=hG.kind;exact et k k' (by decide)
theorem Rw.eW(hG:Rw w 199 1 G n c xs)(hg:Blk w g cs 144):G≠g:=by
 obtain⟨es,k'⟩:=hG.kind;exact et k' hg (by decide)
theorem mV(h:(L.map Pg.b).Nodup)(hi:L[i]? = some p)(d:L[j]? = some q)(a:i < j):p.b≠q.b:=by
 obtain⟨l1,e1⟩:=List.getElem?_eq_some_iff.1 hi;obtain⟨c,e2⟩:=List.getElem?_eq_some_iff.1 d;have:=List.pairwise_iff_getElem.1 h i j (by simpa using l1) (by simpa using c) a;simpa[e1,e2] using this
theorem rM(h:(L.map Pg.b).Nodup)(hi:L[i]? = some p)(hj:L[j]? = some q)(hij:i≠j):p.b≠q.b:=by
 rcases Nat.lt_or_gt_of_ne hij with k | k
 ·exact mV h hi hj k
 ·exact(mV h hj hi k).symm
theorem Ad(h:∀ (i j:Nat) (p q:Pg),L[i]? = some p->L[j]? = some q->i < j->p.b≠q.b):(L.map Pg.b).Nodup:=by
 refine List.pairwise_iff_getElem.2 fun i j d e a => ?_
 have l1:i < L.length:=by simpa using d
 have c:j < L.length:=by simpa using e
 simpa using h i j _ _ (List.getElem?_eq_getElem l1) (List.getElem?_eq_getElem c) a
theorem EnA.off{w':World}{e:En}(h:EnA w D e)(f:∀ b,b < w.heap.size->(∃ cs,Blk w b cs 5)->w'.heap[b]? = w.heap[b]?):EnA w' D e:=by
 have a:∀ {v:Value} {l:List Int},OB w D v l->OB w' D v l:=fun h=>⟨h.oct,h.ex.imp id (by
  rintro⟨b,c,e,g,d⟩
  exact⟨b,c,e,g,d.same (f b d.lt d.kind)⟩)⟩
 exact⟨a h.k,a h.v⟩
theorem bJ.put{D':Nat->Prop}{C:Nat}{p':Pg}(A:bJ w F D g L)(K:Blk w g [.slice (some ⟨G,0,none⟩) L.length C] 144)(O:F g)(r:F G)(B:Rw w 199 1 G L.length C (L.map Pg.v))(hi:L[i]? = some p)(hC:Chg (· = p.b) w w1)(hb:p'.b=p.b\/w.heap.size<=p'.b)(hA:PgA w1 D' p')(V:∀ b,b < w.heap.size->D b->D' b) :
  bJ (w1.setCell ⟨G,i,none⟩ p'.v) (fun x=>(F x/\x≠p.b)\/x=p'.b) D' g (L.set i p')/\Chg F w (w1.setCell ⟨G,i,none⟩ p'.v):=by
 have d:=(List.getElem?_eq_some_iff.1 hi).1;have M:=A.bZ p (List.mem_of_getElem? hi);have R:=M.1.eW K;have P:=M.1.eR B;have W:=B.eW K
 have I:Blk w1 g _ _:=K.chg hC (fun e=>R e.symm);have l:=B.chg hC (fun e=>P e.symm);have o:=l.set i (by simpa using d) p'.v
 have Q:p'.b≠G:=hA.eR l
 have s:Chg F w (w1.setCell ⟨G,i,none⟩ p'.v):=(hC.mono (F':=F) (fun b _ e=>by subst e; exact M.2)).cell (.inl r) _
 have N:∀ b,b < w.heap.size->(∃ cs,Blk w b cs 5)->(w1.setCell ⟨G,i,none⟩ p'.v).heap[b]? = w.heap[b]? := fun b hb J=>by
  obtain⟨cs,k⟩:=J;exact s.same b hb fun f=>A.noU f cs k
 have c:∀ b,b≠G->(w1.setCell ⟨G,i,none⟩ p'.v).heap[b]? = w1.heap[b]? := fun b hb=>Below.heap_setCell w1 _ _ b hb
 refine⟨⟨⟨_,I.off (fun e=>W e.symm) _,.inl ⟨O,fun e=>R e.symm⟩,.inr ⟨G,C,?_,.inl ⟨r,fun e=>P e.symm⟩,?_⟩⟩,fun q U => ?_,Ad fun x y a b hx hy H => ?_,fun b hb => ?_⟩,s⟩
 ·rw[List.length_set]
 ·rw[List.length_set];refine o.to ?_
  rw[List.map_set]
 ·obtain⟨j,n⟩:=List.getElem?_of_mem U;rw[List.getElem?_set] at n;by_cases e:i=j
  ·subst e;rw[if_pos rfl,if_pos d] at n
   cases n;refine⟨⟨hA.row.same (c _ Q),fun e he=>(hA.dH e he).off fun b _ J => ?_⟩,.inr rfl⟩;obtain⟨cs,k⟩:=J;obtain⟨S,E⟩:=l.kind;exact c b (et k E (by decide))
  ·rw[if_neg e] at n;have h:=A.bZ q (List.mem_of_getElem? n)
   have u:q.b≠p.b:=fun m=>rM A.apart hi n e m.symm
   exact⟨⟨(h.1.row.chg hC u).same (c _ (h.1.eR B)),fun e he=>((h.1.dH e he).mono V).off N⟩,.inl ⟨h.2,u⟩⟩
 ·have key:∀ (y:Nat) (b:Pg),y≠i->L[y]? = some b->p'.b≠b.b:=fun y b hy z=>by
   rcases hb with e | e
   ·rw[e]; exact rM A.apart hi z (fun m=>hy m.symm)
   ·have:=(A.bZ b (List.mem_of_getElem? z)).1.row.lt;omega
  rw[List.getElem?_set] at hx hy;by_cases e:i=x
  ·subst e;rw[if_pos rfl,if_pos d] at hx
   cases hx;rw[if_neg (by omega)] at hy;exact key y b (by omega) hy
  ·rw[if_neg e] at hx;by_cases m:i=y
   ·subst m;rw[if_pos rfl,if_pos d] at hy
    cases hy;exact(key x a (by omega) hx).symm
   ·rw[if_neg m] at hy;exact mV A.apart hx hy H
 ·by_cases e:b=p'.b
  ·subst e;obtain⟨cs,k⟩:=hA.row.kind;exact⟨cs,_,k.same (c _ Q),by decide⟩
  ·obtain⟨hF,e2⟩:=hb.resolve_right e;obtain⟨cs,t,k,T⟩:=A.kind b hF;by_cases e1:b=G
   ·subst e1;obtain⟨S,E⟩:=o.kind;exact⟨S,_,E,by decide⟩
   ·exact⟨cs,t,(k.chg hC e2).same (c b e1),T⟩
theorem j5{G' C':Nat}(L:∀ p∈L',PgA w D p/\F p.b)(C:(L'.map Pg.b).Nodup)(J:∀ b,F b->∃ cs t,Blk w b cs t/\t≠5)(I:Blk w g [c0] 144)(r:F g)(y:F G)(h:G≠g)(hC:Chg (· = G) w w1)(o:∀ p∈L',p.b≠G)(hn:L'.length=n)(A:Rw w1 199 1 G' n C' (L'.map Pg.v)) :
  bJ (w1.setCell ⟨g,0,none⟩ (.slice (some ⟨G',0,none⟩) n C')) (fun x=>(F x/\x≠G)\/x=G') D g L'/\Chg F w (w1.setCell ⟨g,0,none⟩ (.slice (some ⟨G',0,none⟩) n C')):=by
 subst hn
 have m:Blk w1 g [c0] 144:=I.chg hC (fun e=>h e.symm);have d:=m.setCell (i:=0) (.slice (some ⟨G',0,none⟩) L'.length C')
 have l:G'≠g:=A.eW m
 have a:∀ b,b≠g->(w1.setCell ⟨g,0,none⟩ (.slice (some ⟨G',0,none⟩) L'.length C')).heap[b]? = w1.heap[b]? := fun b hb=>Below.heap_setCell w1 _ _ b hb
 have j:Chg F w (w1.setCell ⟨g,0,none⟩ (.slice (some ⟨G',0,none⟩) L'.length C')):=(hC.mono (F':=F) (fun b _ e=>by subst e; exact y)).cell (.inl r) _
 have H:∀ b,b < w.heap.size->(∃ cs,Blk w b cs 5)->(w1.setCell ⟨g,0,none⟩ (.slice (some ⟨G',0,none⟩) L'.length C')).heap[b]? = w.heap[b]? := fun b hb u=>by
  obtain⟨cs,k⟩:=u;exact j.same b hb fun f=>by
   obtain⟨K,t,B,s⟩:=J b f;exact s (B.eq k).2
 refine⟨⟨⟨_,d,.inl ⟨r,fun e=>h e.symm⟩,.inr ⟨G',C',rfl,.inr rfl,A.same (a _ l)⟩⟩,fun q E => ?_,C,fun b hb => ?_⟩,j⟩
 ·have c:=L q E;exact⟨⟨(c.1.row.chg hC (o q E)).same (a _ (c.1.eW I)),fun e he=>(c.1.dH e he).off H⟩,.inl ⟨c.2,o q E⟩⟩
 ·by_cases e:b=G'
  ·subst e;obtain⟨z,k⟩:=A.kind;exact⟨z,_,k.same (a _ l),by decide⟩
  ·obtain⟨hF,e2⟩:=hb.resolve_right e;obtain⟨z,t,k,s⟩:=J b hF;by_cases e1:b=g
   ·subst e1;exact⟨_,_,d,by decide⟩
   ·exact⟨z,t,(k.chg hC e2).same (a b e1),s⟩
theorem sV(L:List Pg):∀ v∈L.map Pg.v,v.oneCell'=true:=fun v hv=>by
 obtain⟨p,_,rfl⟩:=List.mem_map.1 hv;rfl
end
end Pg
end
section
namespace Pg
open Go.RowKit Go.Lib
section
variable {ops:Array Oper} {Q:Exit->Act->World->Prop} {S:World->Prop} {fuel:Nat} {listed:Array Bool} {a:Act} {w:World}
section
variable {Qc:Ending->World->Prop}
def gP(ops:Array Oper)(listed:Array Bool)(a:Act)(i:Nat)(d:Option Tmp):Bool :=
 Region.noSelect ops && Region.free .any ops listed i && (Region.ready .any ops listed).contains i && decide (i < ops.size) && Region.wanted (ops.getD i default) (yielded ops a.tmps) && decide ((ops.getD i default).dst=d)
def DW(ops:Array Oper)(listed:Array Bool)(a:Act)(i:Nat)(d:Option Tmp):Bool :=
 Region.noSelect ops && Region.free .any ops listed i && (Region.ready .any ops listed).contains i && decide (i < ops.size) && !Region.wanted (ops.getD i default) (yielded ops a.tmps) && decide ((ops.getD i default).dst=d)
def gw(ops:Array Oper)(listed:Array Bool)(a:Act)(i:Nat)(d:Option Tmp):Bool :=
 decide (Region.ready .any ops listed=[i]) && decide (i < ops.size) && Region.wanted (ops.getD i default) (yielded ops a.tmps) && decide ((ops.getD i default).dst=d)
theorem bN{i:Nat}(h:i < ops.size):ops[i]? = some (ops.getD i default):=by
 simp[Array.getD,h]
theorem ai(i:Nat)(d:Option Tmp)(v:Value)(hc:gP ops listed a i d=true)(hy:∀ w',S w'->(execOp a.eval (ops.getD i default)).run Tryz.prog w'=.ok (.value v) w')(g:∀ c a w,Q (.panic c) (a.put d v) w->Q (.panic c) a w)(hS:S w)(h:wpAnyH Tryz.prog .any ops Q S fuel (listed.setIfInBounds i true) (a.put d v) w):wpAnyH Tryz.prog .any ops Q S (fuel + 1) listed a w:=by
 simp only[gP,Bool.and_eq_true,decide_eq_true_eq] at hc;obtain⟨⟨⟨⟨⟨e,k⟩,f⟩,j⟩,l⟩,b⟩:=hc;subst b;exact wpAnyH_take (bN j) e k f g (.inl ⟨l,hy⟩) hS h
theorem iK(i:Nat)(d:Option Tmp)(v b:Value)(hv:v=b)(hc:gP ops listed a i d=true)(hy:∀ w',S w'->(execOp a.eval (ops.getD i default)).run Tryz.prog w'=.ok (.value v) w')(e:∀ c a w,Q (.panic c) (a.put d b) w->Q (.panic c) a w)(hS:S w)(h:wpAnyH Tryz.prog .any ops Q S fuel (listed.setIfInBounds i true) (a.put d b) w):wpAnyH Tryz.prog .any ops Q S (fuel + 1) listed a w:=by
 subst hv;exact ai i d v hc hy e hS h
theorem cy(i:Nat)(d:Option Tmp)(hc:DW ops listed a i d=true)(g:∀ c a w,Q (.panic c) (a.put d undef) w->Q (.panic c) a w)(hS:S w)(h:wpAnyH Tryz.prog .any ops Q S fuel (listed.setIfInBounds i true) (a.put d undef) w):wpAnyH Tryz.prog .any ops Q S (fuel + 1) listed a w:=by
 simp only[DW,Bool.and_eq_true,decide_eq_true_eq,Bool.not_eq_true'] at hc;obtain⟨⟨⟨⟨⟨e,k⟩,f⟩,j⟩,l⟩,b⟩:=hc;subst b;exact wpAnyH_take (bN j) e k f g (.inr ⟨l,rfl⟩) hS h
theorem aO(i:Nat)(d:Option Tmp)(v:Value)(T:TypeId)(k g o:Nat)(hc:gP ops listed a i d=true)(l:(ops.getD i default).op=.load T (.tmp k))(f:a.eval (.tmp k)=.pointer (some ⟨g,o,none⟩))(j:∀ w',S w'->(loadVar T ⟨g,o,none⟩).run Tryz.prog w'=.ok v w')(e:∀ c a w,Q (.panic c) (a.put d v) w->Q (.panic c) a w)(hS:S w)(h:wpAnyH Tryz.prog .any ops Q S fuel (listed.setIfInBounds i true) (a.put d v) w):wpAnyH Tryz.prog .any ops Q S (fuel + 1) listed a w :=
 ai i d v hc (fun w' b=>by
  have:=j w' b;simp only[execOp,l,f]
  simp[Instr.loadAt,Instr.sureAddr,Result.andThen,this]) e hS h
theorem bO(i:Nat)(d:Option Tmp)(f:FuncId)(args:Array Value)(hc:gw ops listed a i d=true)(c:(execOp a.eval (ops.getD i default)).run Tryz.prog w=.ok (.enter f args) w)(b:Calls Tryz.prog f args w Qc)(n:∀ e w',Qc e w'->∃ v,e=.returned v/\S w'/\wpAnyH Tryz.prog .any ops Q S fuel (listed.setIfInBounds i true) (a.put d v) w') :
  wpAnyH Tryz.prog .any ops Q S (fuel + 1) listed a w:=by
 simp only[gw,Bool.and_eq_true,decide_eq_true_eq] at hc;obtain⟨⟨⟨k,l⟩,p⟩,h⟩:=hc;subst h;refine wpAnyH_all k (by simp) fun j o => ?_
 obtain rfl:j=i:=by simpa using o
 refine wpOp_step (bN l) fun K m => ?_
 rw[if_pos p];unfold Oper.wp;rw[c];refine b.mono fun e w' he => ?_
 obtain⟨v,rfl,g,hw⟩:=n e w' he;exact m _ _ ⟨g,hw⟩
theorem bG(hr:Region.ready .any ops listed=[])(h:Q .normal a w):wpAnyH Tryz.prog .any ops Q S fuel listed a w:=wpAnyH_done hr h fuel
theorem bT{id:Nat}(hm:Tryz.prog.follows .mixedOrders=true)(hS:S w.drew)(h:wpAnyH Tryz.prog .any ops Q S ops.size (Array.replicate ops.size false) a w.drew):(Code.region id ops true).wp Tryz.prog Q a w :=
 wp_region_held_drew hm hS fun _=>h
end
end
def iS (a:Act):List (Option Tmp × Value)->Act
 | []=>a
 | p :: l=>iS (a.put p.1 p.2) l
section
variable {ops:Array Oper} {Q:Exit->Act->World->Prop} {S:World->Prop} {fuel:Nat} {listed:Array Bool} {a:Act} {w:World}
section
variable {K:Act->World->Prop}{rs:List Nat}{Qc:Ending->World->Prop}
theorem oX{X:Type}{id:Nat}{c:Exit->Act->World->Prop}(upd:X->List (Option Tmp × Value))(F:X->World->Prop)(S:World->Prop)(hm:Tryz.prog.follows .mixedOrders=true)(hS:S w.drew)(b:wpAnyH Tryz.prog .any ops (Exit.then (fun a' w'=>∃ x,a'=iS a (upd x)/\F x w') (fun _ _ _=>False)) S ops.size (Array.replicate ops.size false) a w.drew)(d:∀ x w',F x w'->K (iS a (upd x)) w'):(Code.region id ops true).wp Tryz.prog (Exit.then K c) a w :=
 Code.wp_mono (fun e a' w' h=>by
  cases e<;>first
   | (obtain⟨x,rfl,hF⟩:=h; exact d x w' hF)
   | exact h.elim) (wp_region_held_drew (S:=S) hm hS fun _=>b)
def eX(ops:Array Oper)(a:Act)(i:Nat)(d:Option Tmp):Bool :=
 decide (i < ops.size) && Region.wanted (ops.getD i default) (yielded ops a.tmps) && decide ((ops.getD i default).dst=d)
theorem aK(rs:List Nat)(hr:Region.ready .any ops listed=rs)(hne:rs≠[])(h:AllReadyH Tryz.prog .any ops Q S fuel listed a w rs):wpAnyH Tryz.prog .any ops Q S (fuel + 1) listed a w:=wpAnyH_ready hr hne h
theorem aW:AllReadyH Tryz.prog .any ops Q S fuel listed a w []:=AllReadyH.nil
theorem vh(i:Nat)(d:Option Tmp)(f:FuncId)(args:Array Value)(hc:eX ops a i d=true)(c:(execOp a.eval (ops.getD i default)).run Tryz.prog w=.ok (.enter f args) w)(b:Calls Tryz.prog f args w Qc)(l:∀ e w',Qc e w'->∃ v,e=.returned v/\S w'/\wpAnyH Tryz.prog .any ops Q S fuel (listed.setIfInBounds i true) (a.put d v) w')(hs:AllReadyH Tryz.prog .any ops Q S fuel listed a w rs):AllReadyH Tryz.prog .any ops Q S fuel listed a w (i :: rs):=by
 simp only[eX,Bool.and_eq_true,decide_eq_true_eq] at hc;obtain⟨⟨j,m⟩,h⟩:=hc;subst h;refine AllReadyH.cons (bN j) (fun K k => ?_) hs;rw[if_pos m];unfold Oper.wp;rw[c];refine b.mono fun e w' he => ?_
 obtain⟨v,rfl,g,hw⟩:=l e w' he;exact k.out _ _ g fun _=>hw
theorem bH(i:Nat)(d:Option Tmp)(v:Value)(w1:World)(hc:eX ops a i d=true)(b:(execOp a.eval (ops.getD i default)).run Tryz.prog w=.ok (.value v) w1)(c:S w1)(h:wpAnyH Tryz.prog .any ops Q S fuel (listed.setIfInBounds i true) (a.put d v) w1)(hs:AllReadyH Tryz.prog .any ops Q S fuel listed a w rs):AllReadyH Tryz.prog .any ops Q S fuel listed a w (i :: rs):=by
 simp only[eX,Bool.and_eq_true,decide_eq_true_eq] at hc;obtain⟨⟨f,j⟩,e⟩:=hc;subst e;refine AllReadyH.cons (bN f) (fun K g => ?_) hs;rw[if_pos j];unfold Oper.wp;rw[b]
 show K (a.put (ops.getD i default).dst v) w1
 exact g.out _ _ c fun _=>h
theorem dk(i:Nat)(w1:World)(hc:eX ops a i none=true)(b:(execOp a.eval (ops.getD i default)).run Tryz.prog w=.ok .skip w1)(c:S w1)(h:wpAnyH Tryz.prog .any ops Q S fuel (listed.setIfInBounds i true) (a.put none undef) w1)(hs:AllReadyH Tryz.prog .any ops Q S fuel listed a w rs):AllReadyH Tryz.prog .any ops Q S fuel listed a w (i :: rs):=by
 simp only[eX,Bool.and_eq_true,decide_eq_true_eq] at hc;obtain⟨⟨e,g⟩,d⟩:=hc;refine AllReadyH.cons (bN e) (fun K f => ?_) hs;rw[if_pos g];unfold Oper.wp;rw[b]
 show K (a.put (ops.getD i default).dst undef) w1
 rw[d];exact f.out _ _ c fun _=>h
end
end
section
variable {a:Act}{w:World}{x y k n c g off:Nat}{o:Oper}{v u:Value}{ao bo:Option Addr}
theorem eB{op:Oper}{T:TypeId}{b:Nat}(f:op.op=.indexAddr T (.tmp x) (.tmp y))(m:Tryz.prog.underlying T=some (.slice 199))(hx:a.eval (.tmp x)=.slice (some ⟨b,0,none⟩) n c){z:Int}(hy:a.eval (.tmp y)=.int .i64 z)(d:z=(k:Int))(q:k < n):(execOp a.eval op).run Tryz.prog w=.ok (.value (.pointer (some ⟨b,k,none⟩))) w:=by
 subst d
 have o:(k:Int) < n:=by omega
 have p:¬ ((k:Int) < 0):=by omega
 obtain⟨i0,hi,j,l,g⟩:=info_parts (P:=Tryz.prog) (show (Tryz.prog.info? 199).map (fun i=>(i.zero,i.size,i.bytes))=some (some (.slice none 0 0),1,24) by kernel_rfl);simp only[execOp,f,hx,hy];go_simp
theorem ga{o:Nat}(c:w.cell? ⟨g,o,none⟩=some v):(loadVar 142 ⟨g,o,none⟩).run Tryz.prog w=.ok v w:=by go_simp
theorem pz{o:Nat}(c:w.cell? ⟨g,o,none⟩=some v):(loadVar 199 ⟨g,o,none⟩).run Tryz.prog w=.ok v w:=by go_simp
theorem ld_e(c:w.cell? ⟨g,0,none⟩=some v)(d:w.cell? ⟨g,1,none⟩=some u):(loadVar 196 ⟨g,0,none⟩).run Tryz.prog w=.ok (.agg #[v,u]) w:=by go_simp
theorem iV{T:TypeId}(k:Nat)(d:o.op=.load T (.tmp k))(b:a.eval (.tmp k)=.pointer (some ⟨g,off,none⟩))(c:(loadVar T ⟨g,off,none⟩).run Tryz.prog w=.ok v w):(execOp a.eval o).run Tryz.prog w=.ok (.value v) w:=by
 simp only[execOp,d,b];simp[Instr.loadAt,Instr.sureAddr,Result.andThen,c]
theorem ky(k q:Nat)(d:o.op=.store 199 (.tmp k) (.tmp q))(b:a.eval (.tmp k)=.pointer (some ⟨g,off,none⟩))(f:a.eval (.tmp q)=.slice ao n c)(hc:w.cell? ⟨g,off,none⟩=some u)(hf:w.frozen? ⟨g,off,none⟩=false) :
  (execOp a.eval o).run Tryz.prog w=.ok .skip (w.setCell ⟨g,off,none⟩ (.slice ao n c)):=by
 simp only[execOp,d,b,f];go_simp
theorem qa{kv vv:Value}(d:o.op=.buildSlice 199 1 #[(0,.tmp k)])(c:a.eval (.tmp k)=.agg #[kv,vv]):(execOp a.eval o).run Tryz.prog w=.ok (.value (.slice (some ⟨w.heap.size,0,none⟩) 1 1)) (w.alloc (.cells #[kv,vv] 196)):=by
 have b:a.tmps[k]?.getD undef=.agg #[kv,vv]:=by simpa[Act.eval] using c
 simp only[execOp,d];go_simp
theorem BV{m d:Nat}(g:o.op=.buildSlice 142 2 #[(0,.tmp x),(1,.tmp y)])(hx:a.eval (.tmp x)=.slice ao n c)(hy:a.eval (.tmp y)=.slice bo m d):(execOp a.eval o).run Tryz.prog w=.ok (.value (.slice (some ⟨w.heap.size,0,none⟩) 2 2)) (w.alloc (.cells #[.slice ao n c,.slice bo m d] 199)):=by
 have b:a.tmps[x]?.getD undef=.slice ao n c:=by simpa[Act.eval] using hx
 have f:a.tmps[y]?.getD undef=.slice bo m d:=by simpa[Act.eval] using hy
 simp only[execOp,g];go_simp
end
end Pg
end
section
namespace Pg
open Go.RowKit Go.Lib
section
variable {w:World}{D F:Nat → Prop}{p:Pg}{es:List En}{g G i j:Nat}{v u c0:Value}{L:List Pg}
theorem Bp{D:Nat->Prop}(h:PgA w D p)(hs:∀ e∈es,e∈p.es):∀ e∈es,EnA w D e:=fun e he=>h.dH e (hs e he)
theorem bV(w:World):Below w.heap.size w w.drew:=⟨rfl,rfl,rfl,Nat.le_refl _,fun _ _=>rfl⟩
theorem bQ(h:g≠G)(hc:w.cell? ⟨g,j,none⟩=some u):(w.setCell ⟨G,i,none⟩ v).cell? ⟨g,j,none⟩=some u:=by
 rw[World.cell?_of_block (w:=w) (a:=⟨g,j,none⟩) (Below.heap_setCell w _ v g h)]; exact hc
theorem Bn{α:Type}(L:List α)(i:Nat)(a b:α)(h:i < L.length):(L.set i a).take (i + 1) ++ [b] ++ (L.set i a).drop (i + 1)=L.take i ++ [a,b] ++ L.drop (i + 1):=by
 have e1:(L.set i a).take (i + 1)=L.take i ++ [a]:=by
  rw[List.take_add_one,List.take_set_of_le (Nat.le_refl _),List.getElem?_set_self h]; rfl
 rw[e1,List.drop_set_of_lt (by omega)];simp
theorem vW{c f E:World}{z:Nat → Prop}{n m C b2 c2 s H:Nat}{q1:Pg}(T : bJ c z D g (L.set i q1))(r : ∀ b, z b → F b ∨ w.heap.size ≤ b)(I : Chg F w c)(hgx : Blk c g [.slice (some ⟨G, 0, none⟩) (L.set i q1).length C] 144)(S : Blk f g [c0] 144)(V : z g)(B : z G)(t : Rw c 199 1 G (L.set i q1).length C ((L.set i q1).map Pg.v))(N : g ≠ G)(M : i < L.length)(U : q1.es = es.take 16)(y : (es.drop 16).length = m - 16)(hnn : L.length = n)(P : Below c.drew.heap.size c.drew f)(R : c.drew.heap.size ≤ b2)(R3 : Rw f 196 2 b2 (m - 16) c2 (flat (es.drop 16)))(E0 : ∀ e ∈ es, EnA c.drew D e)(O : s = G ∨ f.heap.size + 1 ≤ s)(R5 : Rw E 199 1 s (n + 1) H (((L.set i q1).map Pg.v).take (i + 1) ++ [.slice (some ⟨b2, 0, none⟩) (m - 16) c2] ++ ((L.set i q1).map Pg.v).drop (i + 1)))(A : Chg (· = G) (f.alloc (.cells #[.slice (some ⟨b2, 0, none⟩) (m - 16) c2] 199)) E) :
    ∃ F' p1 p2, Ending.returned (.tuple #[]) = Ending.returned (.tuple #[]) ∧ p1.es = es.take 16 ∧ p2.es = es.drop 16 ∧ bJ (E.setCell ⟨g, 0, none⟩ (.slice (some ⟨s, 0, none⟩) (n + 1) H)) F' D g (L.take i ++ [p1, p2] ++ L.drop (i + 1)) ∧ (∀ b, F' b → F b ∨ w.heap.size ≤ b) ∧ Chg F w (E.setCell ⟨g, 0, none⟩ (.slice (some ⟨s, 0, none⟩) (n + 1) H)) := by
  obtain⟨o, j⟩ : ∃ o, o = f.alloc (.cells #[.slice (some ⟨b2, 0, none⟩) (m - 16) c2] 199) := ⟨_, rfl⟩
  have K : Below c.heap.size c o := by rw[j]; exact aj (aj (bV c) P) (ae f _)
  have q : Below f.heap.size f o := by rw[j]; exact ae f _
  rw[← j] at A;have J := T.keep K
  have l : PgA o D ⟨b2, c2, es.drop 16⟩:= by
    refine⟨?_, fun e he => ((E0 e (List.mem_of_mem_drop he)).keep P).keep q⟩
    show Rw o _ 2 b2 (es.drop 16).length c2 _
    rw[y]; exact R3.keep q
  have Z : c.heap.size ≤ b2 := R
  have Q : (⟨b2, c2, es.drop 16⟩ : Pg).v = .slice (some ⟨b2, 0, none⟩) (m - 16) c2 := by simp only[Pg.v]; rw[y]
  have u : ∀ p ∈ (L.set i q1).take (i + 1) ++ [(⟨b2, c2, es.drop 16⟩ : Pg)] ++ (L.set i q1).drop (i + 1), p ∈ L.set i q1 ∨ p = ⟨b2, c2, es.drop 16⟩:= fun p d => by
    rcases List.mem_append.1 d with h | h
    · rcases List.mem_append.1 h with h | h
      · exact .inl (List.mem_of_mem_take h)
      · exact .inr (by simpa using h)
    · exact .inl (List.mem_of_mem_drop h)
  have hlen : ((L.set i q1).take (i + 1) ++ [(⟨b2, c2, es.drop 16⟩ : Pg)] ++ (L.set i q1).drop (i + 1)).length = n + 1 := by
    simp; omega
  have hold : ∀ p ∈ L.set i q1, p.b ≠ b2 := fun p d => by
    have := (T.bZ p d).1.row.lt;omega
  obtain⟨X, C6⟩:= j5 (w := o) (w1 := E) (F := fun x => z x ∨ x = b2) (D := D) (g := g) (G := G) (G' := s) (C' := H) (n := n + 1) (L' := (L.set i q1).take (i + 1) ++ [(⟨b2, c2, es.drop 16⟩ : Pg)] ++ (L.set i q1).drop (i + 1))
    (fun p d => by
      rcases u p d with h | rfl
      · exact⟨(J.bZ p h).1, .inl (J.bZ p h).2⟩
      · exact⟨l, .inr rfl⟩)
    (by
      have hn := T.apart
      have e : (L.set i q1).map Pg.b = ((L.set i q1).take (i + 1)).map Pg.b ++ ((L.set i q1).drop (i + 1)).map Pg.b := by rw[← List.map_append, List.take_append_drop]
      rw[e] at hn
      have Y : ∀ x ∈ ((L.set i q1).take (i + 1)).map Pg.b, x ≠ b2 := fun x hx => by
        obtain⟨p, d, rfl⟩:= List.mem_map.1 hx;exact hold p (List.mem_of_mem_take d)
      have W : ∀ x ∈ ((L.set i q1).drop (i + 1)).map Pg.b, x ≠ b2 := fun x hx => by
        obtain⟨p, d, rfl⟩:= List.mem_map.1 hx;exact hold p (List.mem_of_mem_drop d)
      simp only[List.map_append, List.map_cons, List.map_nil];rw[List.nodup_append] at hn;rw[List.append_assoc, List.nodup_append];refine⟨hn.1, ?_, ?_⟩
      · rw[List.singleton_append, List.nodup_cons]
        exact⟨fun h => W b2 h rfl, hn.2.1⟩
      · intro a ha b hb
        rcases List.mem_append.1 hb with hb | hb
        · simp at hb; subst hb; exact Y a ha
        · exact hn.2.2 a ha b hb)
    (fun b hb => by
      rcases hb with h | rfl
      · exact J.kind b h
      · obtain⟨ds, k⟩:= l.row.kind
        exact⟨ds, _, k, by decide⟩)
    (S.keep q) (.inl V) (.inl B) (fun e => N e.symm) A
    (fun p d => by
      rcases u p d with h | rfl
      · exact(J.bZ p h).1.eR (t.keep K)
      · exact l.eR (t.keep K)) hlen
    (by simpa[List.map_take, List.map_drop, Q] using R5)
  rw[Bn L i q1 _ M] at X;refine⟨_, q1, ⟨b2, c2, es.drop 16⟩, rfl, U, rfl, X, fun b hb => ?_, (I.trans (Chg.of (F := F) K) (fun _ _ h => h)).trans C6 fun b hb h => ?_⟩
  · rcases hb with⟨h | rfl, _⟩ | rfl
    · exact r b h
    · exact .inr (by have := I.size; omega)
    · rcases O with rfl | h
      · exact r _ B
      · have W := P.size
        have Y := I.size
        have : c.drew.heap.size = c.heap.size := rfl;exact .inr (by omega)
  · rcases h with h | rfl
    · exact(r b h).resolve_right (by omega)
    · have := I.size; omega
theorem AJ(h:j≠i)(hc:w.cell? ⟨G,j,none⟩=some u):(w.setCell ⟨G,i,none⟩ v).cell? ⟨G,j,none⟩=some u:=by
 have a:=aI hc;simp only[World.cell?,World.setCell,Array.getElem?_modify,if_true] at hc ⊢
 cases hh:w.heap[G]? with
 | none=>rw[hh] at hc; simp at hc
 | some ob =>
  rw[hh] at hc
  cases ob with
  | cells c e f =>
   simp at hc ⊢;rw[Array.getElem?_setIfInBounds,if_neg (by omega)]; exact hc
  | _=>simp at hc
theorem kz(A : bJ w F D g L)(hi : L[i]? = some p)(h1 : 17 ≤ p.es.length)(h2 : p.es.length ≤ 1000)(hn : L.length ≤ 100000000) :
    Calls Tryz.prog 194 #[.pointer (some ⟨g, 0, none⟩), .int .i64 i] w fun e w' => ∃ F' p1 p2, e = .returned (.tuple #[]) ∧ p1.es = p.es.take 16 ∧ p2.es = p.es.drop 16 ∧ bJ w' F' D g (L.take i ++ [p1, p2] ++ L.drop (i + 1)) ∧ (∀ b, F' b → F b ∨ w.heap.size ≤ b) ∧ Chg F w w' := by
  have Q := (List.getElem?_eq_some_iff.1 hi).1
  have hL : L ≠ [] := fun e => by subst e; simp at Q
  obtain⟨G, C, hg, hFg, hFG, N⟩:= A.opn hL;have J := A.bZ p (List.mem_of_getElem? hi);have cg := hg.cell (i := 0) rfl;have cG := N.cell (i := i) (v := p.v) (by simp[hi]);have hpc := J.1.row.le;have hCC := N.le;simp only[maxLen] at hpc hCC
  have O : w.drew.cell? ⟨g, 0, none⟩ = some (.slice (some ⟨G, 0, none⟩) L.length C) := cg
  have t1 := yO (w := w.drew) (a := ⟨p.b, 0, none⟩) (n := 16) (c := p.c) (xs := flat (p.es.take 16)) (by decide) (by rw[jk, List.length_take]; omega) (fun j v I => by
    rw[Addr.add_lit, Nat.zero_add]
    have : (flat p.es)[j]? = some v := by
      rw[← ij, List.getElem?_take] at I;split at I
      · exact I
      · cases I
    exact J.1.row.drew.cell this) (jQ (Bp J.1 fun e he => List.mem_of_mem_take he))
  obtain⟨n, d⟩ : ∃ n, Hid (L.length = n) := ⟨_, rfl⟩;obtain⟨m, s⟩ : ∃ m, Hid (p.es.length = m) := ⟨_, rfl⟩;simp only[Pg.v] at cG;rw[d.out] at cg O;rw[s.out] at cG
  have z1 : (i : Int) < n := by have := d.out; omega
  have z2 : m ≤ p.c := by have := s.out; omega
  have z3 : p.c ≤ 9223372036854775807 := by omega
  have z4 : 17 ≤ m := by have := s.out; omega
  have z5 : 16 ≤ p.c := by omega
  have z6 : (16 : Int) ≤ (p.c : Int) := by omega
  have o : g ≠ G := fun e => N.eW hg e.symm
  have mixed := mixed;go_enter Tryz.func194, Tryz.ntmps194;go_wp2;go_region_held3 (fun w' => w'.cell? ⟨g, 0, none⟩ = some (.slice (some ⟨G, 0, none⟩) n C)) (first | assumption | exact bQ o (by assumption))
    (first
    | (go_at_call 226; refine t1.mono ?_; rintro e' q ⟨b1, c1, rfl, V, R1, t⟩; have cg1 : q.cell? ⟨g, 0, none⟩ = some (.slice (some ⟨G, 0, none⟩) n C) := (t.cell (p := ⟨g, 0, none⟩) (aI O)).trans O; have cG1 : q.cell? ⟨G, i, none⟩ = some (.slice (some ⟨p.b, 0, none⟩) m p.c) := (t.cell (p := ⟨G, i, none⟩) (aI (w := w.drew) cG)).trans cG; have fG1 : q.frozen? ⟨G, i, none⟩ = false := (N.drew.keep t).free i))
  obtain⟨q1, r⟩ : ∃ q1 : Pg, Hid (q1 = ⟨b1, c1, p.es.take 16⟩) := ⟨_, rfl⟩
  have E : (p.es.take 16).length = 16 := by rw[List.length_take]; omega
  have R : q1.v = .slice (some ⟨b1, 0, none⟩) 16 c1 := by rw[r.out]; simp only[Pg.v]; rw[E]
  have T : PgA q D q1 := by
    rw[r.out];refine⟨?_, fun e he => ((J.1.dH e (List.mem_of_mem_take he)).keep (bV w)).keep t⟩
    show Rw q _ 2 b1 (p.es.take 16).length c1 _
    rw[E]; exact R1
  obtain⟨A2, C2⟩:= A.put (p' := q1) (D' := D) hg hFg hFG N hi (Chg.of (aj (bV w) t)) (.inr (by rw[r.out]; exact V)) T (fun _ _ h => h);rw[R] at A2 C2
  have R0 : Rw (q.setCell ⟨G, i, none⟩ (.slice (some ⟨b1, 0, none⟩) 16 c1)) 196 2 p.b p.es.length p.c (flat p.es) := ((J.1.row.keep (bV w)).keep t).same (Below.heap_setCell q _ _ _ (J.1.eR N))
  have E0 : ∀ e ∈ p.es, EnA (q.setCell ⟨G, i, none⟩ (.slice (some ⟨b1, 0, none⟩) 16 c1)) D e := fun e he => (((J.1.dH e he).keep (bV w)).keep t).off fun b hb hk => by
    obtain⟨cs, k⟩:= hk;obtain⟨ds, k'⟩:= (N.drew.keep t).kind;exact Below.heap_setCell q _ _ b (et k k' (by decide))
  have hw1l : w.heap.size ≤ (q.setCell ⟨G, i, none⟩ (.slice (some ⟨b1, 0, none⟩) 16 c1)).heap.size := C2.size
  have aa : q1.b = b1 := by rw[r.out]
  have Y : q1.es = p.es.take 16 := by rw[r.out]
  have l := (hg.drew.keep t).off o (i := i) (.slice (some ⟨b1, 0, none⟩) 16 c1)
  have hF2 : ∀ b, ((F b ∧ b ≠ p.b) ∨ b = q1.b) → F b ∨ w.heap.size ≤ b := fun b h => h.imp (fun h => h.1) (fun h => by rw[h, aa]; exact V)
  generalize (q.setCell ⟨G, i, none⟩ (.slice (some ⟨b1, 0, none⟩) 16 c1)) = H at *;generalize hF2d : (fun x => (F x ∧ x ≠ p.b) ∨ x = q1.b) = F2 at A2;obtain⟨u, P, W, Z, S, K⟩:= A2.opn (by simp[hL]);obtain⟨rfl, rfl⟩ : u = G ∧ P = C := by
    have := (W.eq l).1;simp at this;exact⟨this.1, this.2⟩
  have X : ∀ b, F2 b → F b ∨ w.heap.size ≤ b := fun b h => hF2 b (by rw[← hF2d] at h; exact h)
  have cg2 : H.cell? ⟨g, 0, none⟩ = some (.slice (some ⟨u, 0, none⟩) n P) := by
    have := l.cell (i := 0) rfl;rwa [d.out] at this
  have z : H.drew.cell? ⟨g, 0, none⟩ = some (.slice (some ⟨u, 0, none⟩) n P) := cg2
  have U : (p.es.drop 16).length = m - 16 := by rw[List.length_drop, s.out]
  have t2 := yO (w := H.drew) (a := ⟨p.b, 32, none⟩) (n := m - 16) (c := p.c - 16) (xs := flat (p.es.drop 16)) (by have := s.out; omega) (by rw[jk, U]) (fun j v I => by
    rw[Addr.add_lit]
    have : (flat p.es)[32 + j]? = some v := by
      rw[← iv, List.getElem?_drop] at I;exact I
    exact R0.drew.cell this) (jQ (w := H) (D := D) (fun e he => E0 e (List.mem_of_mem_drop he)))
  have zz1 : IntKind.i64.wrap ((i : Int) + 1) = (i : Int) + 1 := by rw[IntKind.wrap_i64]; have := d.out; omega
  have zz2 : ¬ (p.c = 16) := by omega
  have zz3 : (16 : Int) ≤ m := by omega
  have t3 : ∀ (f : World) (b2 c2 : Nat), Below H.drew.heap.size H.drew f → Calls Tryz.prog 227 #[.slice (some ⟨u, 0, none⟩) n P, .int .i64 ((i : Int) + 1), .slice (some ⟨f.heap.size, 0, none⟩) 1 1] (f.alloc (.cells #[.slice (some ⟨b2, 0, none⟩) (m - 16) c2] 199)) fun e w' => ∃ b' c', e = .returned (.slice (some ⟨b', 0, none⟩) (n + 1) c') ∧ (b' = u ∨ f.heap.size + 1 ≤ b') ∧ Rw w' 199 1 b' (n + 1) c' (((L.set i q1).map Pg.v).take (i + 1) ++ [.slice (some ⟨b2, 0, none⟩) (m - 16) c2] ++ ((L.set i q1).map Pg.v).drop (i + 1)) ∧ Chg (· = u) (f.alloc (.cells #[.slice (some ⟨b2, 0, none⟩) (m - 16) c2] 199)) w' := fun f b2 c2 B => by
    have hk := (K.drew.keep B).keep (ae f (.cells #[.slice (some ⟨b2, 0, none⟩) (m - 16) c2] 199));rw[List.length_set, d.out] at hk
    have hGl : u < f.heap.size := (K.drew.keep B).lt;have := insP (i := i + 1) hk (aC f [.slice (some ⟨b2, 0, none⟩) (m - 16) c2] 199) (by omega) (by have := d.out; omega) (by have := d.out; omega) (sV _) (by simp[Value.oneCell']);rw[World.size_alloc] at this;simpa using this
  go_wp2
  go_region_with (first
    | (go_at_call 226; refine t2.mono ?_; rintro e' f ⟨b2, c2, rfl, hb2, R3, B⟩; have cg3 : f.cell? ⟨g, 0, none⟩ = some (.slice (some ⟨u, 0, none⟩) n P) := (B.cell (p := ⟨g, 0, none⟩) (aI z)).trans z; have y := my cg3 (.cells #[.slice (some ⟨b2, 0, none⟩) (m - 16) c2] 199))
    | (go_at_call 227; refine(t3 f b2 c2 B).mono ?_; rintro e' w5 ⟨G5, C5, rfl, hb5, R5, M⟩; have cg5 : w5.cell? ⟨g, 0, none⟩ = some (.slice (some ⟨u, 0, none⟩) n P) := (World.cell?_of_block (w := f.alloc (.cells #[.slice (some ⟨b2, 0, none⟩) (m - 16) c2] 199)) (a := ⟨g, 0, none⟩) (M.same g (aI y) o)).trans y; have fg5 : w5.frozen? ⟨g, 0, none⟩ = false := (((l.drew.keep B).keep (ae f _)).chg M o).free 0))
  all_goals go_wp2
  all_goals go_end0
  all_goals exact vW A2 X C2 W (l.drew.keep B) Z S K o Q Y U d.out B hb2 R3 (fun e he => (E0 e he).keep (bV H)) hb5 R5 M
end
end Pg
end
section
namespace Pg
open Go.RowKit Go.Lib
section
variable {L:List Pg}{i:Nat}{p:Pg}{w:World}{F D:Nat->Prop}
def rQ(P:List (List En))(i q:Nat)(e:En):List (List En) :=
 let es:=(P.getD i []).take q ++ [e] ++ (P.getD i []).drop q
 if 32 < es.length then P.take i ++ [es.take 16,es.drop 16] ++ P.drop (i + 1) else P.set i es
theorem oQ(L:List Pg)(i:Nat)(p:Pg):ens (L.set i p)=(ens L).set i p.es:=by simp[ens,List.map_set]
theorem eO(h:L[i]? = some p):(ens L).getD i []=p.es:=by simp[ens,h]
theorem xt(es:List En)(q:Nat)(e:En):(flat es).take (q * 2) ++ [e.kv,e.vv] ++ (flat es).drop (q * 2)=flat (es.take q ++ [e] ++ es.drop q):=by
 rw[ij,iv,eb,eb]; rfl
theorem sI{g q:Nat}{e:En}(A:bJ w F D g L)(hi:L[i]? = some p)(hq:q<=p.es.length)(h2:p.es.length<=32)(hn:L.length<=100000000)(hE:EnA w D e) :
  Calls Tryz.prog 147 #[.pointer (some ⟨g,0,none⟩),.int .i64 i,.int .i64 q,.agg #[e.kv,e.vv]] w fun e' w'=>∃ F' L',e'=.returned (.tuple #[])/\ens L'=rQ (ens L) i q e/\bJ w' F' D g L'/\(∀ b,F' b->F b\/w.heap.size<=b)/\Chg F w w':=by
 have hil:=(List.getElem?_eq_some_iff.1 hi).1
 have hL:L≠[]:=fun e=>by subst e; simp at hil
 obtain⟨kv,kl,vv,vl⟩:=e;obtain⟨l,N⟩:∃ l,Hid (l=w.alloc (.cells #[kv,vv] 196)):=⟨_,rfl⟩
 have B0:Below w.heap.size w l:=by rw[N.out]; exact ae w _
 have X0:Blk l w.heap.size [kv,vv] 196:=by rw[N.out]; exact aC w [kv,vv] _
 have A0:=A.keep B0;obtain⟨G,C,hg,hFg,hFG,Z⟩:=A0.opn hL;have U:=A0.bZ p (List.mem_of_getElem? hi);have cg:=hg.cell (i:=0) rfl;have cG:=Z.cell (i:=i) (v:=p.v) (by simp[hi]);have x0:=X0.cell (i:=0) rfl;have x1:=X0.cell (i:=1) rfl;have hpc:=U.1.row.le;have hCC:=Z.le;simp only[maxLen] at hpc hCC;obtain⟨n,V⟩:∃ n,Hid (L.length=n):=⟨_,rfl⟩
 obtain⟨m,W⟩:∃ m,Hid (p.es.length=m):=⟨_,rfl⟩
 simp only[Pg.v] at cG;rw[V.out] at cg;rw[W.out] at cG
 have z0:¬ ((n:Int)=0):=by have:=V.out; omega
 have z1:(i:Int) < n:=by have:=V.out; omega
 have cgd:l.drew.cell? ⟨g,0,none⟩=some (.slice (some ⟨G,0,none⟩) n C):=cg
 have x0d:l.drew.cell? ⟨w.heap.size,0,none⟩=some kv:=x0
 have x1d:l.drew.cell? ⟨w.heap.size,1,none⟩=some vv:=x1
 have cGd:l.drew.cell? ⟨G,i,none⟩=some (.slice (some ⟨p.b,0,none⟩) m p.c):=cG
 have ab:g≠G:=fun e=>Z.eW hg e.symm
 have R:w.heap.size≠G:=by have:=A.lt hFG; omega
 obtain⟨Q,M⟩:∃ Q,Hid (Q=l.drew.alloc (.cells #[kv,vv] 196)):=⟨_,rfl⟩
 have H:Below l.heap.size l Q:=by rw[M.out]; exact aj (bV l) (ae l.drew _)
 have hs0:l.heap.size=w.heap.size + 1:=by rw[N.out]; simp
 have V1:Blk Q l.heap.size [kv,vv] 196:=by rw[M.out]; exact aC l.drew [kv,vv] _
 have t1:=insE (i:=q) (U.1.row.keep H) V1 (by have:=U.1.row.lt; omega) hq (by omega) U.1.one (by have:=hE.k.one; have:=hE.v.one; simp_all);rw[W.out] at t1
 have j:Q.cell? ⟨g,0,none⟩=some (.slice (some ⟨G,0,none⟩) n C):=(H.cell (p:=⟨g,0,none⟩) (aI cg)).trans cg
 have u:Q.cell? ⟨w.heap.size,0,none⟩=some kv:=(H.cell (p:=⟨w.heap.size,0,none⟩) (aI x0)).trans x0
 have z:Q.cell? ⟨w.heap.size,1,none⟩=some vv:=(H.cell (p:=⟨w.heap.size,1,none⟩) (aI x1)).trans x1
 have o:Q.cell? ⟨G,i,none⟩=some (.slice (some ⟨p.b,0,none⟩) m p.c):=(H.cell (p:=⟨G,i,none⟩) (aI cG)).trans cG
 have ng:g≠p.b:=fun e=>U.1.eW hg e.symm
 have nG:G≠p.b:=fun e=>U.1.eR Z e.symm
 have nx:w.heap.size≠p.b:=by have:=A.lt U.2; omega
 have mixed:=mixed
 have aa:i < n:=by have:=V.out; omega
 go_enter Tryz.func147,Tryz.ntmps147;have cgw:=cg;rw[N.out] at cgw;go_wp2;rw[<- N.out];have S:=(show _/\_/\_ from⟨j,u,z⟩)
 have O:=o;rw[M.out] at S O t1
 have af:Tryz.prog.underlying 142=some (.slice 199):=by kernel_rfl
 refine oX (X:=Nat × Nat) (fun x=>[(some 23,.pointer (some ⟨g,0,none⟩)),(some 24,.pointer (some ⟨g,0,none⟩)),(some 25,.pointer (some ⟨g,0,none⟩)),(some 26,.slice (some ⟨G,0,none⟩) n C),(some 27,.int .i64 i),(some 28,.pointer (some ⟨g,0,none⟩)),(some 29,.pointer (some ⟨g,0,none⟩)),(some 30,.pointer (some ⟨g,0,none⟩)),(some 31,.slice (some ⟨G,0,none⟩) n C),(some 32,.int .i64 i),(some 33,.pointer (some ⟨G,i,none⟩)),(some 34,.slice (some ⟨p.b,0,none⟩) m p.c),(some 35,.int .i64 q),(some 36,.agg #[kv,vv]),(some 37,.slice (some ⟨l.heap.size,0,none⟩) 1 1),(some 38,.slice (some ⟨x.1,0,none⟩) (m + 1) x.2),(some 39,.pointer (some ⟨G,i,none⟩))]) (fun x w'=>∃ d,w'=d.setCell ⟨G,i,none⟩ (.slice (some ⟨x.1,0,none⟩) (m + 1) x.2)/\(x.1=p.b\/Q.heap.size<=x.1)/\Rw d 196 2 x.1 (m + 1) x.2 ((flat p.es).take (q * 2) ++ [kv,vv] ++ (flat p.es).drop (q * 2))/\Chg (· = p.b) Q d) (fun w'=>w'.cell? ⟨g,0,none⟩=some (.slice (some ⟨G,0,none⟩) n C)/\w'.cell? ⟨w.heap.size,0,none⟩=some kv/\w'.cell? ⟨w.heap.size,1,none⟩=some vv) (by kernel_rfl) ⟨cgd,x0d,x1d⟩ ?_ ?_
 ·have hS:=(show _/\_/\_ from⟨cgd,x0d,x1d⟩)
  refine ai 0 (some 23) (.pointer (some ⟨g,0,none⟩)) (by kernel_rfl) (fun _ _=>by kernel_rfl) (fun _ _ _ h=>h) hS ?_
  refine ai 1 (some 24) (.pointer (some ⟨g,0,none⟩)) (by kernel_rfl) (fun _ _=>by kernel_rfl) (fun _ _ _ h=>h) hS ?_
  refine ai 2 (some 25) (.pointer (some ⟨g,0,none⟩)) (by kernel_rfl) (fun _ _=>by kernel_rfl) (fun _ _ _ h=>h) hS ?_
  refine aO 3 (some 26) (.slice (some ⟨G,0,none⟩) n C) 142 25 (g) (0) (by kernel_rfl) (by kernel_rfl) (by kernel_rfl) (fun w' h=>ga h.1) (fun _ _ _ h=>h) hS ?_
  refine ai 4 (some 27) (.int .i64 i) (by kernel_rfl) (fun _ _=>by kernel_rfl) (fun _ _ _ h=>h) hS ?_
  refine ai 5 (some 28) (.pointer (some ⟨g,0,none⟩)) (by kernel_rfl) (fun _ _=>by kernel_rfl) (fun _ _ _ h=>h) hS ?_
  refine ai 6 (some 29) (.pointer (some ⟨g,0,none⟩)) (by kernel_rfl) (fun _ _=>by kernel_rfl) (fun _ _ _ h=>h) hS ?_
  refine ai 7 (some 30) (.pointer (some ⟨g,0,none⟩)) (by kernel_rfl) (fun _ _=>by kernel_rfl) (fun _ _ _ h=>h) hS ?_
  refine aO 8 (some 31) (.slice (some ⟨G,0,none⟩) n C) 142 30 (g) (0) (by kernel_rfl) (by kernel_rfl) (by kernel_rfl) (fun w' h=>ga h.1) (fun _ _ _ h=>h) hS ?_
  refine ai 9 (some 32) (.int .i64 i) (by kernel_rfl) (fun _ _=>by kernel_rfl) (fun _ _ _ h=>h) hS ?_
  refine ai 10 (some 33) (.pointer (some ⟨G,i,none⟩)) (by kernel_rfl) (fun _ _=>eB (x:=31) (y:=32) (n:=n) (c:=C) (by kernel_rfl) af (by kernel_rfl) (by kernel_rfl) (rfl) (aa)) (fun _ _ _ h=>h) hS ?_
  refine ai 12 (some 35) (.int .i64 q) (by kernel_rfl) (fun _ _=>by kernel_rfl) (fun _ _ _ h=>h) hS ?_
  refine aO 13 (some 36) (.agg #[kv,vv]) 196 7 (w.heap.size) (0) (by kernel_rfl) (by kernel_rfl) (by kernel_rfl) (fun w' h=>ld_e h.2.1 h.2.2) (fun _ _ _ h=>h) hS ?_
  refine aK [11,14] (by kernel_rfl) (by simp) ?_
  refine bH 11 (some 34) (.slice (some ⟨p.b,0,none⟩) m p.c) _ (by kernel_rfl) (iV 33 (by kernel_rfl) (by kernel_rfl) (pz cGd)) hS ?_ (bH 14 (some 37) (.slice (some ⟨l.heap.size,0,none⟩) 1 1) _ (by kernel_rfl) (qa (k:=36) (by kernel_rfl) (by kernel_rfl)) S ?_ aW)
  ·refine aK [14] (by kernel_rfl) (by simp) ?_
   refine bH 14 (some 37) (.slice (some ⟨l.heap.size,0,none⟩) 1 1) _ (by kernel_rfl) (qa (k:=36) (by kernel_rfl) (by kernel_rfl)) S ?_ aW;refine bO 15 (some 38) 193 #[.slice (some ⟨p.b,0,none⟩) m p.c,.int .i64 q,.slice (some ⟨l.heap.size,0,none⟩) 1 1] (by kernel_rfl) (by kernel_rfl) t1 ?_
   rintro e' d ⟨b2,c2,rfl,t,R2,r⟩;rw[<- M.out] at r t
   have s:d.cell? ⟨g,0,none⟩=_:=(World.cell?_of_block (a:=⟨g,0,none⟩) (r.same g (aI j) ng)).trans j
   have E:d.cell? ⟨w.heap.size,0,none⟩=_:=(World.cell?_of_block (a:=⟨w.heap.size,0,none⟩) (r.same _ (aI u) nx)).trans u
   have B:d.cell? ⟨w.heap.size,1,none⟩=_:=(World.cell?_of_block (a:=⟨w.heap.size,1,none⟩) (r.same _ (aI z) nx)).trans z
   have J:d.cell? ⟨G,i,none⟩=_:=(World.cell?_of_block (a:=⟨G,i,none⟩) (r.same _ (aI o) nG)).trans o
   have ad:d.frozen? ⟨G,i,none⟩=false:=((Z.keep H).chg r nG).free i;refine⟨_,rfl,⟨s,E,B⟩,?_⟩;replace hS:=(show _/\_/\_ from⟨s,E,B⟩)
   refine ai 16 (some 39) (.pointer (some ⟨G,i,none⟩)) (by kernel_rfl) (fun _ _=>eB (x:=26) (y:=27) (n:=n) (c:=C) (by kernel_rfl) af (by kernel_rfl) (by kernel_rfl) (rfl) (aa)) (fun _ _ _ h=>h) hS ?_
   refine aK [17] (by kernel_rfl) (by simp) ?_
   refine dk 17 (d.setCell ⟨G,i,none⟩ (.slice (some ⟨b2,0,none⟩) (m + 1) c2)) (by kernel_rfl) (ky 39 38 (by kernel_rfl) (by kernel_rfl) (by kernel_rfl) J ad) ⟨bQ ab s,bQ R E,bQ R B⟩ ?_ aW;refine bG (by kernel_rfl) ?_
   exact⟨(b2,c2),by kernel_rfl,d,rfl,t,R2,r⟩
  ·refine aK [11] (by kernel_rfl) (by simp) ?_
   refine bH 11 (some 34) (.slice (some ⟨p.b,0,none⟩) m p.c) _ (by kernel_rfl) (iV 33 (by kernel_rfl) (by kernel_rfl) (pz O)) S ?_ aW;refine bO 15 (some 38) 193 #[.slice (some ⟨p.b,0,none⟩) m p.c,.int .i64 q,.slice (some ⟨l.heap.size,0,none⟩) 1 1] (by kernel_rfl) (by kernel_rfl) t1 ?_
   rintro e' d ⟨b2,c2,rfl,t,R2,r⟩;rw[<- M.out] at r t
   have s:d.cell? ⟨g,0,none⟩=_:=(World.cell?_of_block (a:=⟨g,0,none⟩) (r.same g (aI j) ng)).trans j
   have E:d.cell? ⟨w.heap.size,0,none⟩=_:=(World.cell?_of_block (a:=⟨w.heap.size,0,none⟩) (r.same _ (aI u) nx)).trans u
   have B:d.cell? ⟨w.heap.size,1,none⟩=_:=(World.cell?_of_block (a:=⟨w.heap.size,1,none⟩) (r.same _ (aI z) nx)).trans z
   have J:d.cell? ⟨G,i,none⟩=_:=(World.cell?_of_block (a:=⟨G,i,none⟩) (r.same _ (aI o) nG)).trans o
   have ad:d.frozen? ⟨G,i,none⟩=false:=((Z.keep H).chg r nG).free i;refine⟨_,rfl,⟨s,E,B⟩,?_⟩;replace hS:=(show _/\_/\_ from⟨s,E,B⟩)
   refine ai 16 (some 39) (.pointer (some ⟨G,i,none⟩)) (by kernel_rfl) (fun _ _=>eB (x:=26) (y:=27) (n:=n) (c:=C) (by kernel_rfl) af (by kernel_rfl) (by kernel_rfl) (rfl) (aa)) (fun _ _ _ h=>h) hS ?_
   refine aK [17] (by kernel_rfl) (by simp) ?_
   refine dk 17 (d.setCell ⟨G,i,none⟩ (.slice (some ⟨b2,0,none⟩) (m + 1) c2)) (by kernel_rfl) (ky 39 38 (by kernel_rfl) (by kernel_rfl) (by kernel_rfl) J ad) ⟨bQ ab s,bQ R E,bQ R B⟩ ?_ aW;refine bG (by kernel_rfl) ?_
   exact⟨(b2,c2),by kernel_rfl,d,rfl,t,R2,r⟩
 rintro⟨b2,c2⟩ w' ⟨d,rfl,t,R2,r⟩;dsimp only at t R2;simp only[iS,Act.put,List.setIfInBounds_toArray,List.set_cons_zero,List.set_cons_succ]
 have s:d.cell? ⟨g,0,none⟩=_:=(World.cell?_of_block (a:=⟨g,0,none⟩) (r.same g (aI j) ng)).trans j
 have J:d.cell? ⟨G,i,none⟩=_:=(World.cell?_of_block (a:=⟨G,i,none⟩) (r.same _ (by exact(Z.keep H).lt) nG)).trans o
 have C02:Chg (· = p.b) l d:=(Chg.of (F:=(· = p.b)) H).trans r (fun _ _ h=>h);obtain⟨p',T⟩:∃ p':Pg,Hid (p'=⟨b2,c2,p.es.take q ++ [(⟨kv,kl,vv,vl⟩:En)] ++ p.es.drop q⟩):=⟨_,rfl⟩
 have hlen:(p.es.take q ++ [(⟨kv,kl,vv,vl⟩:En)] ++ p.es.drop q).length=m + 1:=by have:=W.out; simp; omega
 have K:∀ e,EnA w D e->EnA d D e:=fun e he=>((he.keep B0).keep H).off fun b hb hk=>r.same b hb fun f=>by
  subst f;obtain⟨cs,k⟩:=hk;obtain⟨ds,k'⟩:=(U.1.row.keep H).kind;exact et k k' (by decide) rfl
 have hA':PgA d D p':=by
  rw[T.out];refine⟨?_,fun e he => ?_⟩
  ·show Rw d _ 2 b2 (p.es.take q ++ [(⟨kv,kl,vv,vl⟩:En)] ++ p.es.drop q).length c2 _
   rw[hlen]; exact R2.to (xt p.es q ⟨kv,kl,vv,vl⟩)
  ·rcases List.mem_append.1 he with h | h
   ·rcases List.mem_append.1 h with h | h
    ·exact K e ((A.bZ p (List.mem_of_getElem? hi)).1.dH e (List.mem_of_mem_take h))
    ·simp at h; subst h; exact K _ hE
   ·exact K e ((A.bZ p (List.mem_of_getElem? hi)).1.dH e (List.mem_of_mem_drop h))
 have hv':p'.v=.slice (some ⟨b2,0,none⟩) (m + 1) c2:=by rw[T.out]; simp only[Pg.v]; rw[hlen]
 have hb':p'.b=b2:=by rw[T.out]
 have I:p'.es=p.es.take q ++ [⟨kv,kl,vv,vl⟩] ++ p.es.drop q:=by rw[T.out]
 obtain⟨A3,C3⟩:=A0.put (p':=p') (D':=D) hg hFg hFG Z hi C02 (by rw[hb']; exact t.imp id (fun h=>Nat.le_trans H.size h)) hA' (fun _ _ h=>h);rw[hv',hb'] at A3;rw[hv'] at C3;have ac:=(Chg.of (F:=F) B0).trans C3 (fun _ _ h=>h)
 have hF3:∀ b,((F b/\b≠p.b)\/b=b2)->F b\/w.heap.size<=b:=fun b h=>by
  have h0:=B0.size;have h1:=H.size;rcases h with h | h
  ·exact .inl h.1
  ·subst h;rcases t with h | h
   ·rw[h]; exact .inl U.2
   ·exact .inr (by omega)
 have cg3:(d.setCell ⟨G,i,none⟩ (.slice (some ⟨b2,0,none⟩) (m + 1) c2)).cell? ⟨g,0,none⟩=some (.slice (some ⟨G,0,none⟩) n C):=bQ ab s
 have cG3:(d.setCell ⟨G,i,none⟩ (.slice (some ⟨b2,0,none⟩) (m + 1) c2)).cell? ⟨G,i,none⟩=some (.slice (some ⟨b2,0,none⟩) (m + 1) c2):=World.cell?_setCell_same' _ _ _ (by rw[J]; rfl);generalize (d.setCell ⟨G,i,none⟩ (.slice (some ⟨b2,0,none⟩) (m + 1) c2))=W3 at *;generalize hF3d:(fun x=>(F x/\x≠p.b)\/x=b2)=F3 at A3
 have P:∀ b,F3 b->F b\/w.heap.size<=b:=fun b h=>hF3 b (by rw[<- hF3d] at h; exact h)
 have hi3:(L.set i p')[i]? = some p':=by rw[List.getElem?_set_self hil]
 by_cases Y:32 < m + 1
 ·have hbi:(32:Int) < (m:Int) + 1:=by omega
  have t5:=kz A3 hi3 (by rw[I,hlen]; omega) (by rw[I,hlen]; have:=W.out; omega) (by rw[List.length_set]; exact hn);go_wp2_with (go_at_call 194; refine t5.mono ?_; rintro e' w6 ⟨F6,p1,p2,rfl,e1,e2,A6,hF6,C6⟩);go_end0;refine⟨F6,_,rfl,?_,A6,fun b hb => ?_,ac.trans C6 fun b hb h=>(P b h).resolve_right (by omega)⟩
  ·unfold rQ;rw[eO hi,<- I,if_pos (by rw[I,hlen]; exact Y)];simp only[ens,List.map_append,List.map_take,List.map_drop,List.map_cons,List.map_nil,List.map_set,e1,e2];rw[List.take_set_of_le (Nat.le_refl _),List.drop_set_of_lt (by omega)]
  ·rcases hF6 b hb with h | h
   ·exact P b h
   ·exact .inr (by have:=ac.size; omega)
 ·have hbi:¬ ((32:Int) < (m:Int) + 1):=by omega
  go_wp2;go_end0;refine⟨rfl,F3,_,?_,A3,P,ac⟩;unfold rQ;rw[eO hi,<- I,if_neg (by rw[I,hlen]; exact Y),oQ]
end
end Pg
end
section
namespace Pg
open Go.RowKit Go.Lib
section
variable {w w1:World}{F D:Nat->Prop}{g:Nat}{pv:Value}
theorem xI(A:bJ w F D g [])(o:w.cell? ⟨g,0,none⟩=some pv)(n:Below w.heap.size w w1){vb:Nat}(V:Blk w1 vb [.slice none 0 0] 199) :
  ∃ b' c' w',(Builtin.append_ #[142,142] 142 #[pv,.slice (some ⟨vb,0,none⟩) 1 1]).run Tryz.prog w1=.ok (.slice (some ⟨b',0,none⟩) 1 c') w'/\(F b'\/w.heap.size<=b')/\Rw w' 199 1 b' 1 c' [.slice none 0 0]/\Chg F w1 w'/\b'≠g/\(∀ b cs,Blk w1 b cs 144\/Blk w1 b cs 196->Blk w' b cs 144\/Blk w' b cs 196)/\(Blk w g [pv] 144/\F g/\Blk w' g [pv] 144):=by
 obtain⟨t,hb,s,h⟩:=A.top;have e:=hb.cell (i:=0) rfl;rw[o] at e
 cases e;have a:=hb.keep n;rcases h with⟨rfl,_⟩ | ⟨G,C,rfl,hG,hR⟩
 ·obtain⟨c',W,q,d,hC⟩:=fi (w:=w1) KP 142 ⟨vb,0,none⟩ 1 1 [.slice none 0 0] rfl (fun j u p=>by rw[Addr.add_lit,Nat.zero_add]; exact V.cell p) (by decide) (by decide) (by decide);refine⟨_,c',W,q,.inr n.size,d,Chg.of hC,?_,fun b cs h=>h.imp (fun k=>k.keep hC) (fun k=>k.keep hC),hb,s,a.keep hC⟩;have:=a.lt;omega
 ·have m:=hR.keep n;obtain⟨b',c',W,q,l,d,hC⟩:=dA KP 142 m ⟨vb,0,none⟩ 1 1 [.slice none 0 0] rfl (fun j u p=>by rw[Addr.add_lit,Nat.zero_add]; exact V.cell p) (by simp[Value.oneCell']) (by simp) (by simp)
  have c:∀ b cs,Blk w1 b cs 144\/Blk w1 b cs 196->b≠G:=fun b cs h=>by
   obtain⟨v,r⟩:=m.kind;rcases h with k | k
   ·exact et k r (by decide)
   ·exact et k r (by decide)
  have f:=c g _ (.inl a);refine⟨b',c',W,q,?_,d,hC.mono (fun b _ e=>by subst e; exact hG),?_,fun b cs h=>h.imp (fun k=>k.chg hC (c b cs h)) (fun k=>k.chg hC (c b cs h)),hb,s,a.chg hC f⟩
  ·rcases l with h | h
   ·rw[h]; exact .inl hG
   ·rw[h]; exact .inr n.size
  ·rcases l with h | h
   ·rw[h]; exact fun e=>f e.symm
   ·have:=a.lt; omega
theorem py{e:En}(A:bJ w F D g [])(hE:EnA w D e) :
  Calls Tryz.prog 147 #[.pointer (some ⟨g,0,none⟩),.int .i64 0,.int .i64 0,.agg #[e.kv,e.vv]] w fun e' w'=>∃ F' L',e'=.returned (.tuple #[])/\ens L'=[[e]]/\bJ w' F' D g L'/\(∀ b,F' b->F b\/w.heap.size<=b)/\Chg F w w':=by
 obtain⟨kv,kl,vv,vl⟩:=e;have B0:=ae w (.cells #[kv,vv] 196);have X0:=aC w [kv,vv] 196;obtain⟨ao,c,hc,hc1,hc2,hat⟩:=A.rd;simp only[List.length_nil] at hc hc1;have hgl:=aI hc;obtain⟨w1,E⟩:∃ w1,Hid (w1=(w.alloc (.cells #[kv,vv] 196)).alloc (.cells #[.slice none 0 0] 199)):=⟨_,rfl⟩
 have B1:Below w.heap.size w w1:=by rw[E.out]; exact aj B0 (ae _ _)
 have V1:Blk w1 (w.heap.size + 1) [.slice none 0 0] 199:=by
  have:=aC (w.alloc (.cells #[kv,vv] 196)) [.slice none 0 0] 199;rw[World.size_alloc] at this;rw[E.out]; exact this
 have X1:Blk w1 w.heap.size [kv,vv] 196:=by rw[E.out]; exact X0.keep (ae _ _)
 obtain⟨G,C,j,hr,hFG,R2,l,hGg,hkp,hgb,hFg,Y⟩:=xI A hc B1 V1
 have X2:Blk j w.heap.size [kv,vv] 196:=X1.chg l (fun f=>by have:=A.lt f; omega);have hg3:=Y.setCell (i:=0) (.slice (some ⟨G,0,none⟩) 1 C)
 have Z:Rw (j.setCell ⟨g,0,none⟩ (.slice (some ⟨G,0,none⟩) 1 C)) 199 1 G 1 C [.slice none 0 0]:=R2.same (Below.heap_setCell j _ _ _ hGg)
 have X3:Blk (j.setCell ⟨g,0,none⟩ (.slice (some ⟨G,0,none⟩) 1 C)) w.heap.size [kv,vv] 196:=X2.off (by omega) _
 have T:∀ e,EnA w D e->EnA (j.setCell ⟨g,0,none⟩ (.slice (some ⟨G,0,none⟩) 1 C)) D e:=fun e he=>(he.keep B1).off fun b hb hk=>by
  obtain⟨cs,k⟩:=hk
  have n1:b≠g:=et k (hgb.keep B1) (by decide);rw[Below.heap_setCell j _ _ b n1];refine l.same b hb fun f=>A.noU f cs ?_
  exact⟨by rw[<- B1.block b (A.lt f)]; exact k.blk⟩
 have c2g:=Y.cell (i:=0) rfl;have f2g:=Y.free 0
 have hsz3:w.heap.size + 1 + 1<=(j.setCell ⟨g,0,none⟩ (.slice (some ⟨G,0,none⟩) 1 C)).heap.size:=by
  have h1:=l.size
  have h2:w1.heap.size=w.heap.size + 1 + 1:=by rw[E.out]; simp
  have h3:(j.setCell ⟨g,0,none⟩ (.slice (some ⟨G,0,none⟩) 1 C)).heap.size=j.heap.size:=by simp[World.setCell]
  omega
 have C03:Chg F w (j.setCell ⟨g,0,none⟩ (.slice (some ⟨G,0,none⟩) 1 C)):=((Chg.of (F:=F) B1).trans l (fun _ _ h=>h)).cell (.inl hFg) _;have mixed:=mixed;obtain rfl:=E.out;clear E;go_enter Tryz.func147,Tryz.ntmps147;go_wp2_with (at_builtin; refine Lib.wpList_append_run _ rfl _ _ _ _ rfl _ _ rfl rfl _ _ hr ?_);generalize (j.setCell ⟨g,0,none⟩ (.slice (some ⟨G,0,none⟩) 1 C))=d at *
 have W:d.cell? ⟨g,0,none⟩=some (.slice (some ⟨G,0,none⟩) 1 C):=hg3.cell (i:=0) rfl;have S:=X3.cell (i:=0) rfl;have R:=X3.cell (i:=1) rfl;have P:=Z.cell (i:=0) rfl;obtain⟨z,B⟩:∃ z,Hid (z=d.drew.alloc (.cells #[kv,vv] 196)):=⟨_,rfl⟩
 have U:Below d.heap.size d z:=by rw[B.out]; exact aj (bV d) (ae d.drew _)
 have V4:Blk z d.heap.size [kv,vv] 196:=by rw[B.out]; exact aC d.drew [kv,vv] _
 have hs4:z.heap.size=d.heap.size + 1:=by rw[B.out]; simp
 have t1:Calls Tryz.prog 193 #[.slice none 0 0,.int .i64 0,.slice (some ⟨d.heap.size,0,none⟩) 1 1] z fun e w'=>∃ b2 c2,e=.returned (.slice (some ⟨b2,0,none⟩) 1 c2)/\b2=d.heap.size + 1/\Rw w' 196 2 b2 1 c2 [kv,vv]/\Below z.heap.size z w':=(AP V4).mono (by
  rintro e w' ⟨c',rfl,h1,h2⟩
  exact⟨_,c',rfl,hs4,h1,h2⟩)
 have m:z.cell? ⟨g,0,none⟩=_:=(U.cell (p:=⟨g,0,none⟩) (aI W)).trans W
 have q:z.cell? ⟨w.heap.size,0,none⟩=_:=(U.cell (p:=⟨w.heap.size,0,none⟩) (aI S)).trans S
 have s:z.cell? ⟨w.heap.size,1,none⟩=_:=(U.cell (p:=⟨w.heap.size,1,none⟩) (aI R)).trans R
 have o:z.cell? ⟨G,0,none⟩=_:=(U.cell (p:=⟨G,0,none⟩) (aI P)).trans P
 have cgd:d.drew.cell? ⟨g,0,none⟩=_:=W
 have x0d:d.drew.cell? ⟨w.heap.size,0,none⟩=_:=S
 have x1d:d.drew.cell? ⟨w.heap.size,1,none⟩=_:=R
 have cGd:d.drew.cell? ⟨G,0,none⟩=_:=P
 have O:g≠G:=fun e=>hGg e.symm
 have J:w.heap.size≠G:=fun e=>by
  obtain⟨ds,k⟩:=Z.kind;exact et X3 k (by decide) e
 have N:0 < 1:=by decide
 have K:=(show _/\_/\_ from⟨m,q,s⟩)
 have I:=o;rw[B.out] at K I t1
 have ab:Tryz.prog.underlying 142=some (.slice 199):=by kernel_rfl
 refine oX (X:=Nat × Nat) (fun x=>[(some 23,.pointer (some ⟨g,0,none⟩)),(some 24,.pointer (some ⟨g,0,none⟩)),(some 25,.pointer (some ⟨g,0,none⟩)),(some 26,.slice (some ⟨G,0,none⟩) 1 C),(some 27,.int .i64 0),(some 28,.pointer (some ⟨g,0,none⟩)),(some 29,.pointer (some ⟨g,0,none⟩)),(some 30,.pointer (some ⟨g,0,none⟩)),(some 31,.slice (some ⟨G,0,none⟩) 1 C),(some 32,.int .i64 0),(some 33,.pointer (some ⟨G,0,none⟩)),(some 34,.slice none 0 0),(some 35,.int .i64 0),(some 36,.agg #[kv,vv]),(some 37,.slice (some ⟨d.heap.size,0,none⟩) 1 1),(some 38,.slice (some ⟨x.1,0,none⟩) 1 x.2),(some 39,.pointer (some ⟨G,0,none⟩))]) (fun x w'=>∃ j,w'=j.setCell ⟨G,0,none⟩ (.slice (some ⟨x.1,0,none⟩) 1 x.2)/\x.1=d.heap.size + 1/\Rw j 196 2 x.1 1 x.2 [kv,vv]/\Below z.heap.size z j) (fun w'=>w'.cell? ⟨g,0,none⟩=some (.slice (some ⟨G,0,none⟩) 1 C)/\w'.cell? ⟨w.heap.size,0,none⟩=some kv/\w'.cell? ⟨w.heap.size,1,none⟩=some vv) (by kernel_rfl) ⟨cgd,x0d,x1d⟩ ?_ ?_
 ·have hS:=(show _/\_/\_ from⟨cgd,x0d,x1d⟩)
  refine ai 0 (some 23) (.pointer (some ⟨g,0,none⟩)) (by kernel_rfl) (fun _ _=>by kernel_rfl) (fun _ _ _ h=>h) hS ?_
  refine ai 1 (some 24) (.pointer (some ⟨g,0,none⟩)) (by kernel_rfl) (fun _ _=>by kernel_rfl) (fun _ _ _ h=>h) hS ?_
  refine ai 2 (some 25) (.pointer (some ⟨g,0,none⟩)) (by kernel_rfl) (fun _ _=>by kernel_rfl) (fun _ _ _ h=>h) hS ?_
  refine aO 3 (some 26) (.slice (some ⟨G,0,none⟩) 1 C) 142 25 (g) (0) (by kernel_rfl) (by kernel_rfl) (by kernel_rfl) (fun w' h=>ga h.1) (fun _ _ _ h=>h) hS ?_
  refine ai 4 (some 27) (.int .i64 0) (by kernel_rfl) (fun _ _=>by kernel_rfl) (fun _ _ _ h=>h) hS ?_
  refine ai 5 (some 28) (.pointer (some ⟨g,0,none⟩)) (by kernel_rfl) (fun _ _=>by kernel_rfl) (fun _ _ _ h=>h) hS ?_
  refine ai 6 (some 29) (.pointer (some ⟨g,0,none⟩)) (by kernel_rfl) (fun _ _=>by kernel_rfl) (fun _ _ _ h=>h) hS ?_
  refine ai 7 (some 30) (.pointer (some ⟨g,0,none⟩)) (by kernel_rfl) (fun _ _=>by kernel_rfl) (fun _ _ _ h=>h) hS ?_
  refine aO 8 (some 31) (.slice (some ⟨G,0,none⟩) 1 C) 142 30 (g) (0) (by kernel_rfl) (by kernel_rfl) (by kernel_rfl) (fun w' h=>ga h.1) (fun _ _ _ h=>h) hS ?_
  refine ai 9 (some 32) (.int .i64 0) (by kernel_rfl) (fun _ _=>by kernel_rfl) (fun _ _ _ h=>h) hS ?_
  refine ai 10 (some 33) (.pointer (some ⟨G,0,none⟩)) (by kernel_rfl) (fun _ _=>eB (x:=31) (y:=32) (n:=1) (c:=C) (by kernel_rfl) ab (by kernel_rfl) (by kernel_rfl) (rfl) (N)) (fun _ _ _ h=>h) hS ?_
  refine ai 12 (some 35) (.int .i64 0) (by kernel_rfl) (fun _ _=>by kernel_rfl) (fun _ _ _ h=>h) hS ?_
  refine aO 13 (some 36) (.agg #[kv,vv]) 196 7 (w.heap.size) (0) (by kernel_rfl) (by kernel_rfl) (by kernel_rfl) (fun w' h=>ld_e h.2.1 h.2.2) (fun _ _ _ h=>h) hS ?_
  refine aK [11,14] (by kernel_rfl) (by simp) ?_
  refine bH 11 (some 34) (.slice none 0 0) _ (by kernel_rfl) (iV 33 (by kernel_rfl) (by kernel_rfl) (pz cGd)) hS ?_ (bH 14 (some 37) (.slice (some ⟨d.heap.size,0,none⟩) 1 1) _ (by kernel_rfl) (qa (k:=36) (by kernel_rfl) (by kernel_rfl)) K ?_ aW)
  ·refine aK [14] (by kernel_rfl) (by simp) ?_
   refine bH 14 (some 37) (.slice (some ⟨d.heap.size,0,none⟩) 1 1) _ (by kernel_rfl) (qa (k:=36) (by kernel_rfl) (by kernel_rfl)) K ?_ aW;refine bO 15 (some 38) 193 #[.slice none 0 0,.int .i64 0,.slice (some ⟨d.heap.size,0,none⟩) 1 1] (by kernel_rfl) (by kernel_rfl) t1 ?_
   rintro e' j ⟨b2,c2,rfl,H,R2,l⟩;rw[<- B.out] at l
   have u:j.cell? ⟨g,0,none⟩=_:=(l.cell (p:=⟨g,0,none⟩) (aI m)).trans m
   have v:j.cell? ⟨w.heap.size,0,none⟩=_:=(l.cell (p:=⟨w.heap.size,0,none⟩) (aI q)).trans q
   have t:j.cell? ⟨w.heap.size,1,none⟩=_:=(l.cell (p:=⟨w.heap.size,1,none⟩) (aI s)).trans s
   have Q:j.cell? ⟨G,0,none⟩=_:=(l.cell (p:=⟨G,0,none⟩) (aI o)).trans o
   have aa:j.frozen? ⟨G,0,none⟩=false:=((Z.keep U).keep l).free 0;refine⟨_,rfl,⟨u,v,t⟩,?_⟩;replace hS:=(show _/\_/\_ from⟨u,v,t⟩)
   refine ai 16 (some 39) (.pointer (some ⟨G,0,none⟩)) (by kernel_rfl) (fun _ _=>eB (x:=26) (y:=27) (n:=1) (c:=C) (by kernel_rfl) ab (by kernel_rfl) (by kernel_rfl) (rfl) (N)) (fun _ _ _ h=>h) hS ?_
   refine aK [17] (by kernel_rfl) (by simp) ?_
   refine dk 17 (j.setCell ⟨G,0,none⟩ (.slice (some ⟨b2,0,none⟩) 1 c2)) (by kernel_rfl) (ky 39 38 (by kernel_rfl) (by kernel_rfl) (by kernel_rfl) Q aa) ⟨bQ O u,bQ J v,bQ J t⟩ ?_ aW;refine bG (by kernel_rfl) ?_
   exact⟨(b2,c2),by kernel_rfl,j,rfl,H,R2,l⟩
  ·refine aK [11] (by kernel_rfl) (by simp) ?_
   refine bH 11 (some 34) (.slice none 0 0) _ (by kernel_rfl) (iV 33 (by kernel_rfl) (by kernel_rfl) (pz I)) K ?_ aW;refine bO 15 (some 38) 193 #[.slice none 0 0,.int .i64 0,.slice (some ⟨d.heap.size,0,none⟩) 1 1] (by kernel_rfl) (by kernel_rfl) t1 ?_
   rintro e' j ⟨b2,c2,rfl,H,R2,l⟩;rw[<- B.out] at l
   have u:j.cell? ⟨g,0,none⟩=_:=(l.cell (p:=⟨g,0,none⟩) (aI m)).trans m
   have v:j.cell? ⟨w.heap.size,0,none⟩=_:=(l.cell (p:=⟨w.heap.size,0,none⟩) (aI q)).trans q
   have t:j.cell? ⟨w.heap.size,1,none⟩=_:=(l.cell (p:=⟨w.heap.size,1,none⟩) (aI s)).trans s
   have Q:j.cell? ⟨G,0,none⟩=_:=(l.cell (p:=⟨G,0,none⟩) (aI o)).trans o
   have aa:j.frozen? ⟨G,0,none⟩=false:=((Z.keep U).keep l).free 0;refine⟨_,rfl,⟨u,v,t⟩,?_⟩;replace hS:=(show _/\_/\_ from⟨u,v,t⟩)
   refine ai 16 (some 39) (.pointer (some ⟨G,0,none⟩)) (by kernel_rfl) (fun _ _=>eB (x:=26) (y:=27) (n:=1) (c:=C) (by kernel_rfl) ab (by kernel_rfl) (by kernel_rfl) (rfl) (N)) (fun _ _ _ h=>h) hS ?_
   refine aK [17] (by kernel_rfl) (by simp) ?_
   refine dk 17 (j.setCell ⟨G,0,none⟩ (.slice (some ⟨b2,0,none⟩) 1 c2)) (by kernel_rfl) (ky 39 38 (by kernel_rfl) (by kernel_rfl) (by kernel_rfl) Q aa) ⟨bQ O u,bQ J v,bQ J t⟩ ?_ aW;refine bG (by kernel_rfl) ?_
   exact⟨(b2,c2),by kernel_rfl,j,rfl,H,R2,l⟩
 rintro⟨b2,L⟩ w' ⟨M,rfl,H,R4,D4⟩;dsimp only at H R4;simp only[iS,Act.put,List.setIfInBounds_toArray,List.set_cons_zero,List.set_cons_succ]
 have r:Below d.heap.size d M:=aj U D4;subst H;have V:=(hg3.keep r).off O (i:=0) (.slice (some ⟨d.heap.size + 1,0,none⟩) 1 L);have R5:=(Z.keep r).set 0 (by simp) (.slice (some ⟨d.heap.size + 1,0,none⟩) 1 L)
 have hNG:d.heap.size + 1≠G:=by have:=Z.lt; omega
 have R6:Rw (M.setCell ⟨G,0,none⟩ (.slice (some ⟨d.heap.size + 1,0,none⟩) 1 L)) 196 2 (d.heap.size + 1) 1 L [kv,vv]:=R4.same (Below.heap_setCell M _ _ _ hNG)
 have E6:EnA (M.setCell ⟨G,0,none⟩ (.slice (some ⟨d.heap.size + 1,0,none⟩) 1 L)) D ⟨kv,kl,vv,vl⟩:=((T _ hE).keep r).off fun b hb hk=>by
  obtain⟨cs,k⟩:=hk;obtain⟨ds,k'⟩:=(Z.keep r).kind;exact Below.heap_setCell M _ _ b (et k k' (by decide))
 have C6:Chg F w (M.setCell ⟨G,0,none⟩ (.slice (some ⟨d.heap.size + 1,0,none⟩) 1 L)):=(C03.trans (Chg.of (F:=F) r) (fun _ _ h=>h)).cell hFG _;have cg5:=V.cell (i:=0) rfl;have cG5:=R5.cell (i:=0) rfl
 have hfin:bJ (M.setCell ⟨G,0,none⟩ (.slice (some ⟨d.heap.size + 1,0,none⟩) 1 L)) (fun x=>x=g\/x=G\/x=d.heap.size + 1) D g [⟨d.heap.size + 1,L,[⟨kv,kl,vv,vl⟩]⟩]:=by
  refine⟨⟨_,V,.inl rfl,.inr ⟨G,C,rfl,.inr (.inl rfl),R5⟩⟩,fun p hp => ?_,by simp,fun b hb => ?_⟩
  ·simp at hp;subst hp;exact⟨⟨R6,fun e he=>by simp at he; subst he; exact E6⟩,.inr (.inr rfl)⟩
  ·rcases hb with rfl | rfl | rfl
   ·exact⟨_,_,V,by decide⟩
   ·obtain⟨ds,k⟩:=R5.kind;exact⟨ds,_,k,by decide⟩
   ·obtain⟨ds,k⟩:=R6.kind;exact⟨ds,_,k,by decide⟩
 generalize (M.setCell ⟨G,0,none⟩ (.slice (some ⟨d.heap.size + 1,0,none⟩) 1 L))=W6 at *;go_wp2;go_end0;refine⟨_,_,rfl,?_,hfin,fun b hb => ?_,C6⟩
 ·rfl
 ·rcases hb with rfl | rfl | rfl
  ·exact .inl hFg
  ·exact hFG
  ·exact .inr (by omega)
end
end Pg
end
section
namespace Pg
open Go.RowKit Go.Lib
section
variable {es:List En}{k ul:List Int}{L:List Pg}{w:World}{i g:Nat}{cs:List Value}{v u kv:Value}{F D:Nat->Prop}
def has(P:List (List En))(k:List Int):Bool := !P.isEmpty && thr (kys (P.getD (pgi P k) [])) k
def got(P:List (List En))(k:List Int):List Int:=((P.getD (pgi P k) [])[plc (kys (P.getD (pgi P k) [])) k]?.map En.vl).getD []
def fI(P:List (List En))(e:En):List (List En) :=
 if P=[] then [[e]]
 else
  let i:=pgi P e.kl
  let es:=P.getD i []
  let q:=plc (kys es) e.kl
  if thr (kys es) e.kl then P.set i (es.modify q fun x=>{ x with vv:=e.vv,vl:=e.vl }) else rQ P i q e
theorem lB(h:thr (kys es) k=true):∃ e,es[plc (kys es) k]? = some e/\e.kl=k:=by
 simp only[thr,decide_eq_true_eq,kys,List.getElem?_map] at h;obtain⟨e,he,hk⟩:=Option.map_eq_some_iff.1 h;exact⟨e,he,hk⟩
theorem so(h:L≠[]):ens L≠[]:=fun e=>h (by simpa[ens] using e)
theorem pH(h:L≠[])(k:List Int):∃ p,L[pgi (ens L) k]? = some p/\(ens L).getD (pgi (ens L) k) []=p.es:=by
 have:=pgi_lt (so h) k;simp only[ens,List.length_map] at this;refine⟨L[pgi (ens L) k]'this,List.getElem?_eq_getElem _,?_⟩;exact eO (List.getElem?_eq_getElem _)
theorem yT{G:Nat}{t:TypeId}(h:Blk w G cs t)(hi:cs[i]? = some v)(b:Nat):(w.setCell ⟨G,i,none⟩ v).heap[b]? = w.heap[b]? := by
 by_cases e:b=G
 ·subst e;have a:=(h.setCell (i:=i) v).blk;rw[a,h.blk];have:cs.set i v=cs:=by
   obtain⟨c,rfl⟩:=List.getElem?_eq_some_iff.1 hi;exact List.set_getElem_self c
  rw[this]
 ·exact Below.heap_setCell w _ v b e
theorem bJ.upd{w1:World}{q:Nat}{p:Pg}{e:En}(A:bJ w F D g L)(hi:L[i]? = some p)(he:p.es[q]? = some e)(B:Below w.heap.size w w1)(hu:OB w1 (w.heap.size <= ·) u ul) :
  bJ (w1.setCell ⟨p.b,q * 2 + 1,none⟩ u) F (fun b=>D b\/w.heap.size<=b) g (L.set i ⟨p.b,p.c,p.es.set q { e with vv:=u,vl:=ul }⟩)/\Chg F w (w1.setCell ⟨p.b,q * 2 + 1,none⟩ u):=by
 have n:=(List.getElem?_eq_some_iff.1 hi).1
 have hL:L≠[]:=fun e=>by subst e; simp at n
 obtain⟨G,C,S,H,z,E⟩:=A.opn hL;have m:=A.bZ p (List.mem_of_getElem? hi);have t:=(List.getElem?_eq_some_iff.1 he).1
 have hC:Chg (· = p.b) w (w1.setCell ⟨p.b,q * 2 + 1,none⟩ u):=(Chg.of (F:=(· = p.b)) B).cell (.inl rfl) _
 have a:∀ {v:Value} {l:List Int} {D':Nat->Prop},OB w1 D' v l->OB (w1.setCell ⟨p.b,q * 2 + 1,none⟩ u) D' v l:=fun h=>⟨h.oct,h.ex.imp id (by
  rintro⟨b,c,e,T,s⟩;refine⟨b,c,e,T,s.same (Below.heap_setCell w1 _ _ b ?_)⟩;obtain⟨U,k⟩:=s.kind;obtain⟨Q,O⟩:=(m.1.row.keep B).kind
  exact et k O (by decide))⟩
 have r:Rw (w1.setCell ⟨p.b,q * 2 + 1,none⟩ u) 196 2 p.b p.es.length p.c (flat (p.es.set q { e with vv:=u,vl:=ul })) :=
  ((m.1.row.keep B).set (q * 2 + 1) (by rw[jk]; omega) u).to (lY u ul he)
 have hA:PgA (w1.setCell ⟨p.b,q * 2 + 1,none⟩ u) (fun b=>D b\/w.heap.size<=b) ⟨p.b,p.c,p.es.set q { e with vv:=u,vl:=ul }⟩:=by
  refine⟨by simpa using r,fun P y => ?_⟩;obtain⟨j,o⟩:=List.getElem?_of_mem y;rw[List.getElem?_set] at o;by_cases K:q=j
  ·subst K;rw[if_pos rfl,if_pos t] at o
   cases o;have f:=m.1.dH e (List.mem_of_getElem? he);exact⟨(a (f.k.keep B)).mono (fun _ _ h=>.inl h),(a hu).mono (fun _ _ h=>.inr h)⟩
  ·rw[if_neg K] at o;have f:=m.1.dH P (List.mem_of_getElem? o);exact⟨(a (f.k.keep B)).mono (fun _ _ h=>.inl h),(a (f.v.keep B)).mono (fun _ _ h=>.inl h)⟩
 obtain⟨N,R⟩:=A.put (p':=⟨p.b,p.c,p.es.set q { e with vv:=u,vl:=ul }⟩) (D':=fun b=>D b\/w.heap.size<=b) S H z E hi hC (.inl rfl) hA (fun _ _ h=>.inl h)
 have hv:(⟨p.b,p.c,p.es.set q { e with vv:=u,vl:=ul }⟩:Pg).v=p.v:=by simp[Pg.v]
 rw[hv] at N R
 have J:Rw (w1.setCell ⟨p.b,q * 2 + 1,none⟩ u) 199 1 G L.length C (L.map Pg.v):=E.chg hC (fun e=>m.1.eR E e.symm)
 have d:∀ b,((w1.setCell ⟨p.b,q * 2 + 1,none⟩ u).setCell ⟨G,i,none⟩ p.v).heap[b]? = (w1.setCell ⟨p.b,q * 2 + 1,none⟩ u).heap[b]? := fun b=>by
  obtain⟨sp,h,_⟩:=J.ex;exact yT h (by rw[List.getElem?_append_left (by simpa using n)]; simp[hi]) b
 have I:∀ x,((F x/\x≠p.b)\/x=p.b)<->F x:=fun x=>⟨fun h=>h.elim (fun h=>h.1) (fun h=>by subst h; exact m.2),fun h=>by
  by_cases ex:x=p.b
  ·exact .inr ex
  ·exact .inl ⟨h,ex⟩⟩
 have M:=N.same (w':=w1.setCell ⟨p.b,q * 2 + 1,none⟩ u) (fun b _=>(d b).symm) (fun b _ _ _=>(d b).symm);rw[show (fun x=>(F x/\x≠p.b)\/x=p.b)=F from funext fun x=>propext (I x)] at M;exact⟨M,⟨hC.os,hC.tape,hC.output,hC.size,fun b hb hf=>hC.same b hb fun e=>hf (by subst e; exact m.2)⟩⟩
theorem Di(A:bJ w F D g L)(O:Ord (ens L))(hs:∀ es∈ens L,es.length<=1000)(hn:L.length<=100000000)(h:By w kv k)(hb:∀ p∈L,∀ e∈p.es,e.vl.length<=1000000000) :
  Calls Tryz.prog 170 #[.pointer (some ⟨g,0,none⟩),kv] w fun e w'=>∃ v,e=.returned (.tuple #[v,.bool (has (ens L) k)])/\OB w' (w.heap.size <= ·) v (if has (ens L) k then got (ens L) k else [])/\Below w.heap.size w w':=by
 by_cases hL:L=[]
 ·subst hL;have t:=mC (v:=kv) A
  have e1:has (ens []) k=false:=rfl;rw[e1];clear A O hs hb h;go_enter Tryz.func170,Tryz.ntmps170;go_wp2_with (go_at_call 146; refine t.mono ?_; rintro x l ⟨rfl,rfl⟩);go_ret2;exact⟨_,rfl,⟨fun _ h=>by simp at h,.inl ⟨rfl,rfl⟩⟩,Below.refl _ _⟩
 ·obtain⟨p,s,r⟩:=pH hL k;have f:=List.mem_of_getElem? s;have t:=kY A O h (by omega) s (by have:=hs p.es (List.mem_map.2 ⟨p,f,rfl⟩); omega);obtain⟨G,C,B,V,T,E⟩:=A.opn hL;have M:=(List.getElem?_eq_some_iff.1 s).1
  have H:has (ens L) k=thr (kys p.es) k:=by
   unfold has;rw[r];have:(ens L).isEmpty=false:=by simp[ens,hL]
   simp[this]
  have d:got (ens L) k=((p.es)[plc (kys p.es) k]?.map En.vl).getD []:=by unfold got; rw[r]
  rw[H];by_cases j:thr (kys p.es) k=true
  ·obtain⟨e,he,R⟩:=lB j;rw[he] at d;simp only[Option.map_some,Option.getD_some] at d;rw[j,if_pos rfl,d];rw[j] at t;have cg:=B.cell (i:=0) rfl;have z:=E.cell (i:=pgi (ens L) k) (v:=p.v) (by simp[s]);have I:=(A.bZ p f).1.dH e (List.mem_of_getElem? he);have cv:=(A.bZ p f).1.row.cell (ki he)
   have J:∀ w',Below w.heap.size w w'->Calls Tryz.prog 78 #[e.vv] w' _:=fun w' c=>cC (I.v.keep c).by (hb p f e (List.mem_of_getElem? he))
   have N:=(List.getElem?_eq_some_iff.1 he).1;generalize pgi (ens L) k=i at *;generalize plc (kys p.es) k=q at *
   have z1:(i:Int) < L.length:=by omega
   have z2:(q:Int) < p.es.length:=by omega
   simp only[Pg.v] at z;generalize L.length=n at *;generalize p.es.length=m at *;clear A O hs hb h E B I j;go_enter Tryz.func170,Tryz.ntmps170;go_wp2_with (first | (go_at_call 146; refine t.mono ?_; rintro x l ⟨rfl,c⟩; have U:l.cell? ⟨g,0,none⟩=_:=(c.cell (p:=⟨g,0,none⟩) (aI cg)).trans cg; have P:l.cell? ⟨G,i,none⟩=_:=(c.cell (p:=⟨G,i,none⟩) (aI z)).trans z; have Q:l.cell? ⟨p.b,q * 2 + 1,none⟩=_:=(c.cell (p:=⟨p.b,q * 2 + 1,none⟩) (aI cv)).trans cv; have y:=J l c; clear t J) | (go_at_call 78; refine y.mono ?_; rintro x W ⟨S,rfl,K,u⟩));go_ret2;exact⟨S,rfl,K.mono (fun b _ hb=>Nat.le_trans c.size hb),aj c u⟩
  ·have o:thr (kys p.es) k=false:=by simpa using j
   rw[o] at t ⊢;generalize pgi (ens L) k=i at *;generalize plc (kys p.es) k=q at *;clear A O hs hb h E B j o H d;go_enter Tryz.func170,Tryz.ntmps170;go_wp2_with (go_at_call 146; refine t.mono ?_; rintro x l ⟨rfl,c⟩);go_ret2;exact⟨_,rfl,⟨fun _ h=>by simp at h,.inl ⟨rfl,rfl⟩⟩,c⟩
end
end Pg
end
section
namespace Pg
open Go.RowKit Go.Lib
section
variable {es:List En}{q g:Nat}{w:World}{D F:Nat->Prop}{v l k:List Int}{L:List Pg}{kv vv:Value}
theorem wS{e:En}(h:es[q]? = some e)(f:En->En):es.modify q f=es.set q (f e):=by
 have a:=(List.getElem?_eq_some_iff.1 h).1;apply List.ext_getElem?;intro j;rw[List.getElem?_modify,List.getElem?_set];by_cases e:q=j
 ·subst e; rw[if_pos rfl,if_pos a,h]; simp
 ·rw[if_neg e]; simp[e]
theorem OB.shape{v:Value}(h:OB w D v l):∃ ao c,v=.slice ao l.length c:=by
 rcases h.ex with⟨rfl,rfl⟩ | ⟨b,c,rfl,_⟩
 ·exact⟨none,0,rfl⟩
 ·exact⟨_,c,rfl⟩
def SetR(w w':World)(F D:Nat->Prop)(g:Nat)(L:List Pg)(k v:List Int):Prop :=
 ∃ F' L' nk nv,ens L'=fI (ens L) ⟨nk,k,nv,v⟩/\bJ w' F' (fun b=>D b\/w.heap.size<=b) g L'/\(∀ b,F' b->F b\/w.heap.size<=b)/\Chg F w w'
theorem wy{F D:Nat → Prop}{p:Pg}(A : bJ w F D g L)(O : Ord (ens L))(hs : p.es.length ≤ 1000)(hn : L.length ≤ 100000000)(h : By w kv k)(hv : By w vv v)(R : v.length ≤ 1000000000)(hL : L ≠ [])(y : L[pgi (ens L) k]? = some p)(J : (ens L).getD (pgi (ens L) k) [] = p.es)(K : thr (kys p.es) k = true) :
    Calls Tryz.prog 97 #[.pointer (some ⟨g, 0, none⟩), kv, vv] w fun e w' => e = .returned (.bool false) ∧ SetR w w' F D g L k v := by
  have t := kY A O h (by omega) y (by omega);obtain⟨G, C, V, hFg, hFG, W⟩:= A.opn hL;obtain⟨e, he, hek⟩:= lB K;have T := List.mem_of_getElem? y;have hlt := (List.getElem?_eq_some_iff.1 y).1;have hql := (List.getElem?_eq_some_iff.1 he).1
  have hS : ∀ u, fI (ens L) ⟨e.kv, k, u, v⟩ = (ens L).set (pgi (ens L) k) (p.es.set (plc (kys p.es) k) { e with vv := u, vl := v }) := fun u => by
    unfold fI;rw[if_neg (so hL)];simp only[J];rw[if_pos K, wS he]
  have hS : Hid _ := hS;rw[K] at t;have cg := V.cell (i := 0) rfl;have N := W.cell (i := pgi (ens L) k) (v := p.v) (by simp[y])
  have tC : ∀ w', Below w.heap.size w w' → Calls Tryz.prog 78 #[vv] w' _ := fun w' I => cC (hv.keep I) R
  have d := (A.bZ p T).1;have cv := d.row.cell (ki he);have fv := d.row.free (plc (kys p.es) k * 2 + 1)
  have n1 : g ≠ p.b := fun e => d.eW V e.symm
  have X : G ≠ p.b := fun e => d.eR W e.symm
  generalize E : pgi (ens L) k = i at *;generalize z : plc (kys p.es) k = q at *
  have E : Hid _ := E
  have z : Hid _ := z
  have z1 : (i : Int) < L.length := by omega
  have z2 : (q : Int) < p.es.length := by omega
  simp only[Pg.v] at N;generalize H : L.length = n at *;generalize s : p.es.length = m at *
  have H : Hid _ := H
  have s : Hid _ := s;clear K J;have mixed := mixed;go_enter Tryz.func97, Tryz.ntmps97;go_wp2_with (first | (go_at_call 146; refine t.mono ?_; rintro e' B ⟨rfl, I⟩))
  have x : B.drew.cell? ⟨g, 0, none⟩ = some (.slice (some ⟨G, 0, none⟩) n C) := (I.cell (p := ⟨g, 0, none⟩) (aI cg)).trans cg
  have r : B.drew.cell? ⟨G, i, none⟩ = some (.slice (some ⟨p.b, 0, none⟩) m p.c) := (I.cell (p := ⟨G, i, none⟩) (aI N)).trans N
  have j : Below w.heap.size w B.drew := aj I (bV B);have S := tC B.drew j;go_region_held3 (fun w' => w'.cell? ⟨g, 0, none⟩ = some (.slice (some ⟨G, 0, none⟩) n C) ∧ w'.cell? ⟨G, i, none⟩ = some (.slice (some ⟨p.b, 0, none⟩) m p.c)) (first | exact⟨by assumption, by assumption⟩ | exact⟨bQ n1 (by assumption), bQ X (by assumption)⟩)
    (first
    | (go_at_call 78; refine S.mono ?_; rintro e' o ⟨v', rfl, U, l⟩; obtain⟨P, M, rfl⟩:= U.shape; have Z : o.cell? ⟨g, 0, none⟩ = _ := (l.cell (p := ⟨g, 0, none⟩) (aI x)).trans x; have Y : o.cell? ⟨G, i, none⟩ = _ := (l.cell (p := ⟨G, i, none⟩) (aI r)).trans r; have f := aj j l; have cv2 : o.cell? ⟨p.b, q * 2 + 1, none⟩ = _ := (f.cell (p := ⟨p.b, q * 2 + 1, none⟩) (aI cv)).trans cv; have fv2 : o.frozen? ⟨p.b, q * 2 + 1, none⟩ = false := (d.row.keep f).free _))
  all_goals (
    have Q : OB o (w.heap.size ≤ ·) (.slice P v.length M) v := U.mono (fun b _ hb => Nat.le_trans j.size hb);obtain⟨A2, C2⟩:= A.upd y he f Q;generalize (o.setCell ⟨p.b, q * 2 + 1, none⟩ (.slice P v.length M)) = W3 at *;go_wp2;go_ret
    exact⟨rfl, F, _, e.kv, .slice P v.length M, by rw[hS.out, oQ], A2, fun b hb => .inl hb, C2⟩)
theorem ik{i:Nat}(A:bJ w F D g L)(h:By w kv k)(hv:By w vv v)(r:k.length<=1000000000)(p:v.length<=1000000000)(t:Calls Tryz.prog 146 #[.pointer (some ⟨g,0,none⟩),kv] w fun e w'=>e=.returned (.tuple #[.int .i64 i,.int .i64 q,.bool false])/\Below w.heap.size w w')(z:∀ (w':World) (nk nv:Value),bJ w' F (fun b=>D b\/w.heap.size<=b) g L->EnA w' (fun b=>D b\/w.heap.size<=b) ⟨nk,k,nv,v⟩->Calls Tryz.prog 147 #[.pointer (some ⟨g,0,none⟩),.int .i64 i,.int .i64 q,.agg #[nk,nv]] w' fun e' w''=>∃ F' L',e'=.returned (.tuple #[])/\ens L'=fI (ens L) ⟨nk,k,nv,v⟩/\bJ w'' F' (fun b=>D b\/w.heap.size<=b) g L'/\(∀ b,F' b->F b\/w'.heap.size<=b)/\Chg F w' w'') :
  Calls Tryz.prog 97 #[.pointer (some ⟨g,0,none⟩),kv,vv] w fun e w'=>e=.returned (.bool true)/\SetR w w' F D g L k v:=by
 have x:∀ w',Below w.heap.size w w'->Calls Tryz.prog 78 #[kv] w' _:=fun w' d=>cC (h.keep d) r
 have y:∀ w',Below w.heap.size w w'->Calls Tryz.prog 78 #[vv] w' _:=fun w' d=>cC (hv.keep d) p
 have mk:True:=trivial;clear h hv;go_enter Tryz.func97,Tryz.ntmps97
 go_wp2_with (first
  | (go_at_call 146; refine t.mono ?_; rintro e' G ⟨rfl,d⟩; have l:=x G d; clear t x)
  | (go_at_call 78; clear mk; refine l.mono ?_; rintro e' B ⟨nk,rfl,u,s⟩; have c:=aj d s; have n:=y B c; clear l y; obtain⟨M,J,rfl⟩:=u.shape)
  | (go_at_call 78; refine n.mono ?_; rintro e' C ⟨nv,rfl,m,j⟩; clear n; obtain⟨H,I,rfl⟩:=m.shape; have f:=aj c j; have o:=z C _ _ ((A.keep f).mono (fun _ _ h=>.inl h)) ⟨(u.keep j).mono (fun b _ hb=>.inr (Nat.le_trans d.size hb)),m.mono (fun b _ hb=>.inr (Nat.le_trans c.size hb))⟩)
  | (go_at_call 147; refine o.mono ?_; rintro e' K ⟨F',L',rfl,E,hA,hF,hC⟩))
 go_ret;exact⟨rfl,F',L',_,_,E,hA,fun b hb=>(hF b hb).imp id (fun h=>Nat.le_trans f.size h),(Chg.of (F:=F) f).trans hC (fun _ _ h=>h)⟩
theorem Ct(A:bJ w F D g L)(O:Ord (ens L))(hs:∀ es∈ens L,es.length<=32)(hn:L.length<=100000000)(h:By w kv k)(hv:By w vv v)(c:k.length<=1000000000)(a:v.length<=1000000000) :
  Calls Tryz.prog 97 #[.pointer (some ⟨g,0,none⟩),kv,vv] w fun e w'=>e=.returned (.bool (!has (ens L) k))/\SetR w w' F D g L k v:=by
 by_cases hL:L=[]
 ·subst hL;refine ik (i:=0) (q:=0) A h hv c a ((mC A).mono ?_) (fun w' nk B y n=>(py y n).mono ?_)
  ·rintro e w' ⟨rfl,rfl⟩; exact⟨rfl,Below.refl _ _⟩
  ·rintro e u ⟨s,m,rfl,o,hA,hF,hC⟩;exact⟨s,m,rfl,o,hA,hF,hC⟩
 ·obtain⟨p,j,b⟩:=pH hL k;have r:=List.mem_of_getElem? j;have x:=hs p.es (List.mem_map.2 ⟨p,r,rfl⟩)
  have z:has (ens L) k=thr (kys p.es) k:=by
   unfold has;rw[b];have:(ens L).isEmpty=false:=by simp[ens,hL]
   simp[this]
  rw[z];by_cases l:thr (kys p.es) k=true
  ·rw[l];exact wy A O (by omega) hn h hv a hL j b l
  ·have f:thr (kys p.es) k=false:=by simpa using l
   have t:=kY A O h (by omega) j (by omega);rw[f] at t ⊢;have d:=o9 (kys p.es) k;simp only[kys,List.length_map] at d;refine ik A h hv c a t (fun w' nk B y n=>(sI y j (q:=plc (kys p.es) k) d x hn n).mono ?_);rintro e u ⟨s,m,rfl,o,hA,hF,hC⟩;refine⟨s,m,rfl,?_,hA,hF,hC⟩;rw[o];unfold fI;rw[if_neg (so hL)];simp only[b];rw[if_neg (by rw[f]; decide)]
end
end Pg
end
section
namespace Pg
open Go.RowKit Go.Lib
section
variable {w:World}{v:Value}{F D:Nat->Prop}{L:List Pg}
def jnb(P:List (List En))(i:Nat):Bool:=decide (i + 1 < P.length) && decide ((P.getD i []).length + (P.getD (i + 1) []).length<=16)
def jnQ(P:List (List En))(i:Nat):List (List En):=P.take i ++ [P.getD i [] ++ P.getD (i + 1) []] ++ P.drop (i + 2)
theorem jn_neg:Calls Tryz.prog 209 #[v,.int .i64 (-1)] w fun e w'=>e=.returned (.bool false)/\Below w.heap.size w w':=by
 have mixed:=mixed;go_enter Tryz.func209,Tryz.ntmps209;go_wp2;go_region;go_wp2;go_ret;exact⟨rfl,bV w⟩
theorem x8{g i:Nat}(A:bJ w F D g L)(hi:i < L.length)(hn:L.length<=100000000)(hs:∀ es∈ens L,es.length<=1000) :
  Calls Tryz.prog 209 #[.pointer (some ⟨g,0,none⟩),.int .i64 i] w fun e w'=>e=.returned (.bool (jnb (ens L) i))/\Below w.heap.size w w':=by
 have hL:L≠[]:=fun e=>by subst e; simp at hi
 obtain⟨G,C,B,M,K,t⟩:=A.opn hL;have cg:=B.cell (i:=0) rfl
 have m:(ens L).length=L.length:=by simp[ens]
 have mixed:=mixed
 have H:IntKind.i64.wrap ((i:Int) + 1)=(i:Int) + 1:=by rw[IntKind.wrap_i64]; omega
 have J:(0:Int)<=(i:Int):=by omega
 by_cases s:i + 1 < L.length
 ·obtain⟨p,E⟩:∃ p,L[i]? = some p:=⟨L[i],List.getElem?_eq_getElem hi⟩
  obtain⟨d,l⟩:∃ d,L[i + 1]? = some d:=⟨L[i + 1],List.getElem?_eq_getElem s⟩
  have I:=t.cell (i:=i) (v:=p.v) (by simp[E]);have q:=t.cell (i:=i + 1) (v:=d.v) (by simp[l]);have s1:=hs p.es (List.mem_map.2 ⟨p,List.mem_of_getElem? E,rfl⟩);have s2:=hs d.es (List.mem_map.2 ⟨d,List.mem_of_getElem? l,rfl⟩)
  have z:Hid (jnb (ens L) i=decide ((p.es.length:Int) + (d.es.length:Int)<=16)):=by
   show _=_
   unfold jnb;rw[m,decide_eq_true s,eO E,eO l,Bool.true_and];congr 1
   exact propext ⟨fun h=>by omega,fun h=>by omega⟩
  simp only[Pg.v] at I q;generalize hln:L.length=n at *;generalize p.es.length=x at *;generalize d.es.length=y at *
  have z1:(i:Int) + 1 < n:=by omega
  have z2:(i:Int) < n:=by omega
  have z3:((i:Int) + 1).toNat=i + 1:=by omega
  have z4:(0:Int)<=(i:Int) + 1:=by omega
  have z5:IntKind.i64.wrap ((x:Int) + (y:Int))=(x:Int) + (y:Int):=by rw[IntKind.wrap_i64]; omega
  have f:w.drew.cell? ⟨g,0,none⟩=some (.slice (some ⟨G,0,none⟩) n C):=cg
  have o:w.drew.cell? ⟨G,i,none⟩=some (.slice (some ⟨p.b,0,none⟩) x p.c):=I
  have j:w.drew.cell? ⟨G,i + 1,none⟩=some (.slice (some ⟨d.b,0,none⟩) y d.c):=q;clear A hs t B hln;go_enter Tryz.func209,Tryz.ntmps209;go_wp2
  have r:Tryz.prog.underlying 142=some (.slice 199):=by kernel_rfl
  have u:i < n:=hi;refine bT (S:=fun w'=>w'.cell? ⟨g,0,none⟩=some (.slice (some ⟨G,0,none⟩) n C)/\w'.cell? ⟨G,i,none⟩=some (.slice (some ⟨p.b,0,none⟩) x p.c)/\w'.cell? ⟨G,i + 1,none⟩=some (.slice (some ⟨d.b,0,none⟩) y d.c)) (by kernel_rfl) ⟨f,o,j⟩ ?_
  have hS:=(show _/\_/\_ from⟨f,o,j⟩)
  refine ai 0 (some 5) (.int .i64 i) (by kernel_rfl) (fun _ _=>by kernel_rfl) (fun _ _ _ h=>h) hS ?_
  refine iK 1 (some 6) (.bool (decide ((0:Int)<=(i:Int)))) (.bool true) (by rw[decide_eq_true J]) (by kernel_rfl) (fun _ _=>by kernel_rfl) (fun _ _ _ h=>h) hS ?_
  refine ai 2 (some 7) (.bool true) (by kernel_rfl) (fun _ _=>by kernel_rfl) (fun _ _ _ h=>h) hS ?_
  refine ai 3 (some 8) (.int .i64 i) (by kernel_rfl) (fun _ _=>by kernel_rfl) (fun _ _ _ h=>h) hS ?_
  refine iK 4 (some 9) (.int .i64 (IntKind.i64.wrap ((i:Int) + 1))) (.int .i64 ((i:Int) + 1)) (by rw[H]) (by kernel_rfl) (fun _ _=>by kernel_rfl) (fun _ _ _ h=>h) hS ?_
  refine ai 5 (some 10) (.pointer (some ⟨g,0,none⟩)) (by kernel_rfl) (fun _ _=>by kernel_rfl) (fun _ _ _ h=>h) hS ?_
  refine ai 6 (some 11) (.pointer (some ⟨g,0,none⟩)) (by kernel_rfl) (fun _ _=>by kernel_rfl) (fun _ _ _ h=>h) hS ?_
  refine ai 7 (some 12) (.pointer (some ⟨g,0,none⟩)) (by kernel_rfl) (fun _ _=>by kernel_rfl) (fun _ _ _ h=>h) hS ?_
  refine aO 8 (some 13) (.slice (some ⟨G,0,none⟩) n C) 142 12 (g) (0) (by kernel_rfl) (by kernel_rfl) (by kernel_rfl) (fun w' h=>ga h.1) (fun _ _ _ h=>h) hS ?_
  refine ai 9 (some 14) (.int .i64 n) (by kernel_rfl) (fun _ _=>by kernel_rfl) (fun _ _ _ h=>h) hS ?_
  refine iK 10 (some 15) (.bool (decide ((i:Int) + 1 < (n:Int)))) (.bool true) (by rw[decide_eq_true (by omega)]) (by kernel_rfl) (fun _ _=>by kernel_rfl) (fun _ _ _ h=>h) hS ?_
  refine ai 11 (some 16) (.bool true) (by kernel_rfl) (fun _ _=>by kernel_rfl) (fun _ _ _ h=>h) hS ?_
  refine ai 12 (some 17) (.bool true) (by kernel_rfl) (fun _ _=>by kernel_rfl) (fun _ _ _ h=>h) hS ?_
  refine ai 13 (some 18) (.pointer (some ⟨g,0,none⟩)) (by kernel_rfl) (fun _ _=>by kernel_rfl) (fun _ _ _ h=>h) hS ?_
  refine ai 14 (some 19) (.pointer (some ⟨g,0,none⟩)) (by kernel_rfl) (fun _ _=>by kernel_rfl) (fun _ _ _ h=>h) hS ?_
  refine ai 15 (some 20) (.pointer (some ⟨g,0,none⟩)) (by kernel_rfl) (fun _ _=>by kernel_rfl) (fun _ _ _ h=>h) hS ?_
  refine aO 16 (some 21) (.slice (some ⟨G,0,none⟩) n C) 142 20 (g) (0) (by kernel_rfl) (by kernel_rfl) (by kernel_rfl) (fun w' h=>ga h.1) (fun _ _ _ h=>h) hS ?_
  refine ai 17 (some 22) (.int .i64 i) (by kernel_rfl) (fun _ _=>by kernel_rfl) (fun _ _ _ h=>h) hS ?_
  refine ai 18 (some 23) (.pointer (some ⟨G,i,none⟩)) (by kernel_rfl) (fun _ _=>eB (x:=21) (y:=22) (n:=n) (c:=C) (by kernel_rfl) r (by kernel_rfl) (by kernel_rfl) (rfl) (u)) (fun _ _ _ h=>h) hS ?_
  refine aO 19 (some 24) (.slice (some ⟨p.b,0,none⟩) x p.c) 199 23 (G) (i) (by kernel_rfl) (by kernel_rfl) (by kernel_rfl) (fun w' h=>pz h.2.1) (fun _ _ _ h=>h) hS ?_
  refine ai 20 (some 25) (.int .i64 x) (by kernel_rfl) (fun _ _=>by kernel_rfl) (fun _ _ _ h=>h) hS ?_
  refine ai 21 (some 26) (.pointer (some ⟨g,0,none⟩)) (by kernel_rfl) (fun _ _=>by kernel_rfl) (fun _ _ _ h=>h) hS ?_
  refine ai 22 (some 27) (.pointer (some ⟨g,0,none⟩)) (by kernel_rfl) (fun _ _=>by kernel_rfl) (fun _ _ _ h=>h) hS ?_
  refine ai 23 (some 28) (.pointer (some ⟨g,0,none⟩)) (by kernel_rfl) (fun _ _=>by kernel_rfl) (fun _ _ _ h=>h) hS ?_
  refine aO 24 (some 29) (.slice (some ⟨G,0,none⟩) n C) 142 28 (g) (0) (by kernel_rfl) (by kernel_rfl) (by kernel_rfl) (fun w' h=>ga h.1) (fun _ _ _ h=>h) hS ?_
  refine ai 25 (some 30) (.int .i64 i) (by kernel_rfl) (fun _ _=>by kernel_rfl) (fun _ _ _ h=>h) hS ?_
  refine iK 26 (some 31) (.int .i64 (IntKind.i64.wrap ((i:Int) + 1))) (.int .i64 ((i:Int) + 1)) (by rw[H]) (by kernel_rfl) (fun _ _=>by kernel_rfl) (fun _ _ _ h=>h) hS ?_
  refine ai 27 (some 32) (.pointer (some ⟨G,i + 1,none⟩)) (by kernel_rfl) (fun _ _=>eB (x:=29) (y:=31) (n:=n) (c:=C) (by kernel_rfl) r (by kernel_rfl) (by kernel_rfl) (show ((i:Int) + 1)=((i + 1:Nat):Int) from by omega) (s)) (fun _ _ _ h=>h) hS ?_
  refine aO 28 (some 33) (.slice (some ⟨d.b,0,none⟩) y d.c) 199 32 (G) (i + 1) (by kernel_rfl) (by kernel_rfl) (by kernel_rfl) (fun w' h=>pz h.2.2) (fun _ _ _ h=>h) hS ?_
  refine ai 29 (some 34) (.int .i64 y) (by kernel_rfl) (fun _ _=>by kernel_rfl) (fun _ _ _ h=>h) hS ?_
  refine iK 30 (some 35) (.int .i64 (IntKind.i64.wrap ((x:Int) + (y:Int)))) (.int .i64 ((x:Int) + (y:Int))) (by rw[z5]) (by kernel_rfl) (fun _ _=>by kernel_rfl) (fun _ _ _ h=>h) hS ?_
  refine ai 31 (some 36) (.bool (decide ((x:Int) + (y:Int)<=16))) (by kernel_rfl) (fun _ _=>by kernel_rfl) (fun _ _ _ h=>h) hS ?_
  refine ai 32 (some 37) (.bool (decide ((x:Int) + (y:Int)<=16))) (by kernel_rfl) (fun _ _=>by kernel_rfl) (fun _ _ _ h=>h) hS ?_
  refine ai 33 (some 4) (.bool (decide ((x:Int) + (y:Int)<=16))) (by kernel_rfl) (fun _ _=>by kernel_rfl) (fun _ _ _ h=>h) hS ?_
  refine bG (by kernel_rfl) ?_
  simp only[Act.put,List.setIfInBounds_toArray,List.set_cons_zero,List.set_cons_succ];go_wp2;go_ret;exact⟨by rw[z.out]; rfl,bV w⟩
 ·have z:Hid (jnb (ens L) i=false):=by
   show _=_
   unfold jnb;rw[m,decide_eq_false s,Bool.false_and]
  generalize hln:L.length=n at *
  have z1:¬ ((i:Int) + 1 < n):=by omega
  have f:w.drew.cell? ⟨g,0,none⟩=some (.slice (some ⟨G,0,none⟩) n C):=cg;clear A hs t B hln;go_enter Tryz.func209,Tryz.ntmps209;go_wp2;refine bT (S:=fun w'=>w'.cell? ⟨g,0,none⟩=some (.slice (some ⟨G,0,none⟩) n C)) (by kernel_rfl) f ?_
  have hS:=f;refine ai 0 (some 5) (.int .i64 i) (by kernel_rfl) (fun _ _=>by kernel_rfl) (fun _ _ _ h=>h) hS ?_
  refine iK 1 (some 6) (.bool (decide ((0:Int)<=(i:Int)))) (.bool true) (by rw[decide_eq_true J]) (by kernel_rfl) (fun _ _=>by kernel_rfl) (fun _ _ _ h=>h) hS ?_
  refine ai 2 (some 7) (.bool true) (by kernel_rfl) (fun _ _=>by kernel_rfl) (fun _ _ _ h=>h) hS ?_
  refine ai 3 (some 8) (.int .i64 i) (by kernel_rfl) (fun _ _=>by kernel_rfl) (fun _ _ _ h=>h) hS ?_
  refine iK 4 (some 9) (.int .i64 (IntKind.i64.wrap ((i:Int) + 1))) (.int .i64 ((i:Int) + 1)) (by rw[H]) (by kernel_rfl) (fun _ _=>by kernel_rfl) (fun _ _ _ h=>h) hS ?_
  refine ai 5 (some 10) (.pointer (some ⟨g,0,none⟩)) (by kernel_rfl) (fun _ _=>by kernel_rfl) (fun _ _ _ h=>h) hS ?_
  refine ai 6 (some 11) (.pointer (some ⟨g,0,none⟩)) (by kernel_rfl) (fun _ _=>by kernel_rfl) (fun _ _ _ h=>h) hS ?_
  refine ai 7 (some 12) (.pointer (some ⟨g,0,none⟩)) (by kernel_rfl) (fun _ _=>by kernel_rfl) (fun _ _ _ h=>h) hS ?_
  refine aO 8 (some 13) (.slice (some ⟨G,0,none⟩) n C) 142 12 (g) (0) (by kernel_rfl) (by kernel_rfl) (by kernel_rfl) (fun w' h=>ga h) (fun _ _ _ h=>h) hS ?_
  refine ai 9 (some 14) (.int .i64 n) (by kernel_rfl) (fun _ _=>by kernel_rfl) (fun _ _ _ h=>h) hS ?_
  refine iK 10 (some 15) (.bool (decide ((i:Int) + 1 < (n:Int)))) (.bool false) (by rw[decide_eq_false (by omega)]) (by kernel_rfl) (fun _ _=>by kernel_rfl) (fun _ _ _ h=>h) hS ?_
  refine ai 11 (some 16) (.bool false) (by kernel_rfl) (fun _ _=>by kernel_rfl) (fun _ _ _ h=>h) hS ?_
  refine ai 12 (some 17) (.bool false) (by kernel_rfl) (fun _ _=>by kernel_rfl) (fun _ _ _ h=>h) hS ?_
  refine cy 13 (some 18) (by kernel_rfl) (fun _ _ _ h=>h) hS ?_
  refine cy 14 (some 19) (by kernel_rfl) (fun _ _ _ h=>h) hS ?_
  refine cy 15 (some 20) (by kernel_rfl) (fun _ _ _ h=>h) hS ?_
  refine cy 16 (some 21) (by kernel_rfl) (fun _ _ _ h=>h) hS ?_
  refine cy 17 (some 22) (by kernel_rfl) (fun _ _ _ h=>h) hS ?_
  refine cy 18 (some 23) (by kernel_rfl) (fun _ _ _ h=>h) hS ?_
  refine cy 19 (some 24) (by kernel_rfl) (fun _ _ _ h=>h) hS ?_
  refine cy 20 (some 25) (by kernel_rfl) (fun _ _ _ h=>h) hS ?_
  refine cy 21 (some 26) (by kernel_rfl) (fun _ _ _ h=>h) hS ?_
  refine cy 22 (some 27) (by kernel_rfl) (fun _ _ _ h=>h) hS ?_
  refine cy 23 (some 28) (by kernel_rfl) (fun _ _ _ h=>h) hS ?_
  refine cy 24 (some 29) (by kernel_rfl) (fun _ _ _ h=>h) hS ?_
  refine cy 25 (some 30) (by kernel_rfl) (fun _ _ _ h=>h) hS ?_
  refine cy 26 (some 31) (by kernel_rfl) (fun _ _ _ h=>h) hS ?_
  refine cy 27 (some 32) (by kernel_rfl) (fun _ _ _ h=>h) hS ?_
  refine cy 28 (some 33) (by kernel_rfl) (fun _ _ _ h=>h) hS ?_
  refine cy 29 (some 34) (by kernel_rfl) (fun _ _ _ h=>h) hS ?_
  refine cy 30 (some 35) (by kernel_rfl) (fun _ _ _ h=>h) hS ?_
  refine cy 31 (some 36) (by kernel_rfl) (fun _ _ _ h=>h) hS ?_
  refine ai 32 (some 37) (.bool false) (by kernel_rfl) (fun _ _=>by kernel_rfl) (fun _ _ _ h=>h) hS ?_
  refine ai 33 (some 4) (.bool false) (by kernel_rfl) (fun _ _=>by kernel_rfl) (fun _ _ _ h=>h) hS ?_
  refine bG (by kernel_rfl) ?_
  simp only[Act.put,List.setIfInBounds_toArray,List.set_cons_zero,List.set_cons_succ];go_wp2;go_ret;exact⟨by rw[z.out]; rfl,bV w⟩
end
end Pg
end
section
namespace Pg
open Go.RowKit Go.Lib
section
variable {L:List Pg}{i:Nat}{p p2:Pg}{w:World}{F D:Nat->Prop}
theorem ens_jn{q:Pg}(c:L[i]? = some p)(a:L[i + 1]? = some p2)(d:q.es=p.es ++ p2.es):ens ((L.set i q).take (i + 1) ++ (L.set i q).drop (i + 2))=jnQ (ens L) i:=by
 have b:=(List.getElem?_eq_some_iff.1 c).1;unfold jnQ;rw[eO c,eO a,<- d]
 have e1:(L.set i q).take (i + 1)=L.take i ++ [q]:=by
  rw[List.take_add_one,List.take_set_of_le (Nat.le_refl _),List.getElem?_set_self b]; rfl
 rw[e1,List.drop_set_of_lt (by omega)];simp[ens,List.map_take,List.map_drop]
theorem As{g:Nat}(A:bJ w F D g L)(M:L[i]? = some p)(K:L[i + 1]? = some p2)(hn:L.length<=100000000)(h0:0 < p.es.length)(hs1:p.es.length<=1000)(hs2:p2.es.length<=1000) :
  Calls Tryz.prog 210 #[.pointer (some ⟨g,0,none⟩),.int .i64 i] w fun e w'=>∃ F' L',e=.returned (.tuple #[])/\ens L'=jnQ (ens L) i/\bJ w' F' D g L'/\(∀ b,F' b->F b\/w.heap.size<=b)/\Chg F w w':=by
 have hil:=(List.getElem?_eq_some_iff.1 M).1;have hil2:=(List.getElem?_eq_some_iff.1 K).1
 have hL:L≠[]:=fun e=>by subst e; simp at hil
 obtain⟨G,C,hg,hFg,hFG,hR⟩:=A.opn hL;have Y:=A.bZ p (List.mem_of_getElem? M);have E:=A.bZ p2 (List.mem_of_getElem? K);have cg:=hg.cell (i:=0) rfl;have cG:=hR.cell (i:=i) (v:=p.v) (by simp[M]);have t:=hR.cell (i:=i + 1) (v:=p2.v) (by simp[K]);have hCC:=hR.le;simp only[maxLen] at hCC;obtain⟨n,d⟩:∃ n,Hid (L.length=n):=⟨_,rfl⟩
 obtain⟨x,B⟩:∃ m,Hid (p.es.length=m):=⟨_,rfl⟩
 obtain⟨y,Q⟩:∃ m,Hid (p2.es.length=m):=⟨_,rfl⟩
 simp only[Pg.v] at cG t;rw[d.out] at cg;rw[B.out] at cG;rw[Q.out] at t
 have z1:(i:Int) < n:=by have:=d.out; omega
 have z2:(i:Int) + 1 < n:=by have:=d.out; omega
 have w1:IntKind.i64.wrap ((i:Int) + 1)=(i:Int) + 1:=by rw[IntKind.wrap_i64]; have:=d.out; omega
 have z3:((i:Int) + 1).toNat=i + 1:=by omega
 have z4:(0:Int)<=(i:Int) + 1:=by omega
 have cgd:w.drew.cell? ⟨g,0,none⟩=some (.slice (some ⟨G,0,none⟩) n C):=cg
 have cGd:w.drew.cell? ⟨G,i,none⟩=some (.slice (some ⟨p.b,0,none⟩) x p.c):=cG
 have U:w.drew.cell? ⟨G,i + 1,none⟩=some (.slice (some ⟨p2.b,0,none⟩) y p2.c):=t
 have r:g≠G:=fun e=>hR.eW hg e.symm
 obtain⟨J,O⟩:∃ J,Hid (J=w.drew.alloc (.cells #[.slice (some ⟨p.b,0,none⟩) x p.c,.slice (some ⟨p2.b,0,none⟩) y p2.c] 199)):=⟨_,rfl⟩
 have N:Below w.heap.size w J:=by rw[O.out]; exact aj (bV w) (ae w.drew _)
 have V1:Blk J w.heap.size [.slice (some ⟨p.b,0,none⟩) x p.c,.slice (some ⟨p2.b,0,none⟩) y p2.c] 199:=by rw[O.out]; exact aC w.drew _ _
 have t1:=BR V1 ((B.out▸Y.1.row).keep N) ((Q.out▸E.1.row).keep N) (by have:=B.out; omega) (by have:=B.out; omega) (by have:=Q.out; omega) Y.1.one E.1.one
 have s:J.cell? ⟨g,0,none⟩=_:=(N.cell (p:=⟨g,0,none⟩) (aI cg)).trans cg
 have S:J.cell? ⟨G,i,none⟩=_:=(N.cell (p:=⟨G,i,none⟩) (aI cG)).trans cG
 have j:J.cell? ⟨G,i + 1,none⟩=_:=(N.cell (p:=⟨G,i + 1,none⟩) (aI t)).trans t
 have hin:i < n:=by have:=d.out; omega
 have hin2:i + 1 < n:=by have:=d.out; omega
 have hS1:=(show _/\_ from⟨s,j⟩)
 rw[O.out] at hS1 t1;go_enter Tryz.func210,Tryz.ntmps210;go_wp2
 have aa:Tryz.prog.underlying 142=some (.slice 199):=by kernel_rfl
 refine oX (X:=Nat × Nat) (fun z=>[(some 4,.pointer (some ⟨g,0,none⟩)),(some 5,.pointer (some ⟨g,0,none⟩)),(some 6,.pointer (some ⟨g,0,none⟩)),(some 7,.slice (some ⟨G,0,none⟩) n C),(some 8,.int .i64 i),(some 9,.pointer (some ⟨g,0,none⟩)),(some 10,.pointer (some ⟨g,0,none⟩)),(some 11,.pointer (some ⟨g,0,none⟩)),(some 12,.slice (some ⟨G,0,none⟩) n C),(some 13,.int .i64 i),(some 14,.pointer (some ⟨G,i,none⟩)),(some 15,.slice (some ⟨p.b,0,none⟩) x p.c),(some 16,.pointer (some ⟨g,0,none⟩)),(some 17,.pointer (some ⟨g,0,none⟩)),(some 18,.pointer (some ⟨g,0,none⟩)),(some 19,.slice (some ⟨G,0,none⟩) n C),(some 20,.int .i64 i),(some 21,.int .i64 ((i:Int) + 1)),(some 22,.pointer (some ⟨G,i + 1,none⟩)),(some 23,.slice (some ⟨p2.b,0,none⟩) y p2.c),(some 24,.slice (some ⟨w.heap.size,0,none⟩) 2 2),(some 25,.slice (some ⟨z.1,0,none⟩) (x + y) z.2),(some 26,.pointer (some ⟨G,i,none⟩))]) (fun z w'=>∃ f,w'=f.setCell ⟨G,i,none⟩ (.slice (some ⟨z.1,0,none⟩) (x + y) z.2)/\J.heap.size<=z.1/\Rw f 196 2 z.1 (x + y) z.2 (flat p.es ++ flat p2.es)/\Below J.heap.size J f) (fun w'=>w'.cell? ⟨g,0,none⟩=some (.slice (some ⟨G,0,none⟩) n C)/\w'.cell? ⟨G,i + 1,none⟩=some (.slice (some ⟨p2.b,0,none⟩) y p2.c)) (by kernel_rfl) ⟨cgd,U⟩ ?_ ?_
 ·have hS:=(show _/\_ from⟨cgd,U⟩)
  refine ai 0 (some 4) (.pointer (some ⟨g,0,none⟩)) (by kernel_rfl) (fun _ _=>by kernel_rfl) (fun _ _ _ h=>h) hS ?_
  refine ai 1 (some 5) (.pointer (some ⟨g,0,none⟩)) (by kernel_rfl) (fun _ _=>by kernel_rfl) (fun _ _ _ h=>h) hS ?_
  refine ai 2 (some 6) (.pointer (some ⟨g,0,none⟩)) (by kernel_rfl) (fun _ _=>by kernel_rfl) (fun _ _ _ h=>h) hS ?_
  refine aO 3 (some 7) (.slice (some ⟨G,0,none⟩) n C) 142 6 (g) (0) (by kernel_rfl) (by kernel_rfl) (by kernel_rfl) (fun w' h=>ga h.1) (fun _ _ _ h=>h) hS ?_
  refine ai 4 (some 8) (.int .i64 i) (by kernel_rfl) (fun _ _=>by kernel_rfl) (fun _ _ _ h=>h) hS ?_
  refine ai 5 (some 9) (.pointer (some ⟨g,0,none⟩)) (by kernel_rfl) (fun _ _=>by kernel_rfl) (fun _ _ _ h=>h) hS ?_
  refine ai 6 (some 10) (.pointer (some ⟨g,0,none⟩)) (by kernel_rfl) (fun _ _=>by kernel_rfl) (fun _ _ _ h=>h) hS ?_
  refine ai 7 (some 11) (.pointer (some ⟨g,0,none⟩)) (by kernel_rfl) (fun _ _=>by kernel_rfl) (fun _ _ _ h=>h) hS ?_
  refine aO 8 (some 12) (.slice (some ⟨G,0,none⟩) n C) 142 11 (g) (0) (by kernel_rfl) (by kernel_rfl) (by kernel_rfl) (fun w' h=>ga h.1) (fun _ _ _ h=>h) hS ?_
  refine ai 9 (some 13) (.int .i64 i) (by kernel_rfl) (fun _ _=>by kernel_rfl) (fun _ _ _ h=>h) hS ?_
  refine ai 10 (some 14) (.pointer (some ⟨G,i,none⟩)) (by kernel_rfl) (fun _ _=>eB (x:=12) (y:=13) (n:=n) (c:=C) (by kernel_rfl) aa (by kernel_rfl) (by kernel_rfl) (rfl) (hin)) (fun _ _ _ h=>h) hS ?_
  refine ai 12 (some 16) (.pointer (some ⟨g,0,none⟩)) (by kernel_rfl) (fun _ _=>by kernel_rfl) (fun _ _ _ h=>h) hS ?_
  refine ai 13 (some 17) (.pointer (some ⟨g,0,none⟩)) (by kernel_rfl) (fun _ _=>by kernel_rfl) (fun _ _ _ h=>h) hS ?_
  refine ai 14 (some 18) (.pointer (some ⟨g,0,none⟩)) (by kernel_rfl) (fun _ _=>by kernel_rfl) (fun _ _ _ h=>h) hS ?_
  refine aO 15 (some 19) (.slice (some ⟨G,0,none⟩) n C) 142 18 (g) (0) (by kernel_rfl) (by kernel_rfl) (by kernel_rfl) (fun w' h=>ga h.1) (fun _ _ _ h=>h) hS ?_
  refine ai 16 (some 20) (.int .i64 i) (by kernel_rfl) (fun _ _=>by kernel_rfl) (fun _ _ _ h=>h) hS ?_
  refine iK 17 (some 21) (.int .i64 (IntKind.i64.wrap ((i:Int) + 1))) (.int .i64 ((i:Int) + 1)) (by rw[w1]) (by kernel_rfl) (fun _ _=>by kernel_rfl) (fun _ _ _ h=>h) hS ?_
  refine ai 18 (some 22) (.pointer (some ⟨G,i + 1,none⟩)) (by kernel_rfl) (fun _ _=>eB (x:=19) (y:=21) (n:=n) (c:=C) (by kernel_rfl) aa (by kernel_rfl) (by kernel_rfl) (show ((i:Int) + 1)=((i + 1:Nat):Int) from by omega) (hin2)) (fun _ _ _ h=>h) hS ?_
  refine aO 19 (some 23) (.slice (some ⟨p2.b,0,none⟩) y p2.c) 199 22 (G) (i + 1) (by kernel_rfl) (by kernel_rfl) (by kernel_rfl) (fun w' h=>pz h.2) (fun _ _ _ h=>h) hS ?_
  refine aK [11] (by kernel_rfl) (by simp) ?_
  refine bH 11 (some 15) (.slice (some ⟨p.b,0,none⟩) x p.c) _ (by kernel_rfl) (iV 14 (by kernel_rfl) (by kernel_rfl) (pz cGd)) hS ?_ aW;refine aK [20] (by kernel_rfl) (by simp) ?_
  refine bH 20 (some 24) (.slice (some ⟨w.heap.size,0,none⟩) 2 2) _ (by kernel_rfl) (BV (x:=15) (y:=23) (by kernel_rfl) (by kernel_rfl) (by kernel_rfl)) hS1 ?_ aW;refine bO 21 (some 25) 240 #[.slice (some ⟨w.heap.size,0,none⟩) 2 2] (by kernel_rfl) (by kernel_rfl) t1 ?_
  rintro e' f ⟨b2,c2,rfl,o,R2,V⟩;rw[<- O.out] at V o
  have W:f.cell? ⟨g,0,none⟩=_:=(V.cell (p:=⟨g,0,none⟩) (aI s)).trans s
  have cGi2:f.cell? ⟨G,i,none⟩=_:=(V.cell (p:=⟨G,i,none⟩) (aI S)).trans S
  have u:f.cell? ⟨G,i + 1,none⟩=_:=(V.cell (p:=⟨G,i + 1,none⟩) (aI j)).trans j
  have fG2:f.frozen? ⟨G,i,none⟩=false:=((hR.keep N).keep V).free i;refine⟨_,rfl,⟨W,u⟩,?_⟩;replace hS:=(show _/\_ from⟨W,u⟩)
  refine ai 22 (some 26) (.pointer (some ⟨G,i,none⟩)) (by kernel_rfl) (fun _ _=>eB (x:=7) (y:=8) (n:=n) (c:=C) (by kernel_rfl) aa (by kernel_rfl) (by kernel_rfl) (rfl) (hin)) (fun _ _ _ h=>h) hS ?_
  refine aK [23] (by kernel_rfl) (by simp) ?_
  refine dk 23 (f.setCell ⟨G,i,none⟩ (.slice (some ⟨b2,0,none⟩) (x + y) c2)) (by kernel_rfl) (ky 26 25 (by kernel_rfl) (by kernel_rfl) (by kernel_rfl) cGi2 fG2) ⟨bQ r W,AJ (by omega) u⟩ ?_ aW;refine bG (by kernel_rfl) ?_
  exact⟨(b2,c2),by kernel_rfl,f,rfl,o,R2,V⟩
 rintro⟨b2,c2⟩ w' ⟨f,rfl,o,R2,V⟩;dsimp only at o R2;simp only[iS,Act.put,List.setIfInBounds_toArray,List.set_cons_zero,List.set_cons_succ]
 have P:Below w.heap.size w f:=aj N V;obtain⟨q,hq⟩:∃ q:Pg,Hid (q=⟨b2,c2,p.es ++ p2.es⟩):=⟨_,rfl⟩
 have hlen:(p.es ++ p2.es).length=x + y:=by rw[List.length_append,B.out,Q.out]
 have hA':PgA f D q:=by
  rw[hq.out];refine⟨?_,fun e he => ?_⟩
  ·show Rw f _ 2 b2 (p.es ++ p2.es).length c2 _
   rw[hlen,eb]; exact R2
  ·rcases List.mem_append.1 he with h | h
   ·exact(Y.1.dH e h).keep P
   ·exact(E.1.dH e h).keep P
 have hv':q.v=.slice (some ⟨b2,0,none⟩) (x + y) c2:=by rw[hq.out]; simp only[Pg.v]; rw[hlen]
 have hqb:q.b=b2:=by rw[hq.out]
 have hqe:q.es=p.es ++ p2.es:=by rw[hq.out]
 obtain⟨Z,C3⟩:=A.put (p':=q) (D':=D) hg hFg hFG hR M (Chg.of P) (.inr (by rw[hqb]; exact Nat.le_trans N.size o)) hA' (fun _ _ h=>h);rw[hv',hqb] at Z;rw[hv'] at C3
 have hF3:∀ b,((F b/\b≠p.b)\/b=b2)->F b\/w.heap.size<=b:=fun b h=>h.imp (fun h=>h.1) (fun h=>by rw[h]; exact Nat.le_trans N.size o)
 have l:=(hg.keep P).off r (i:=i) (.slice (some ⟨b2,0,none⟩) (x + y) c2);generalize (f.setCell ⟨G,i,none⟩ (.slice (some ⟨b2,0,none⟩) (x + y) c2))=W3 at *;generalize hF3d:(fun x=>(F x/\x≠p.b)\/x=b2)=F3 at Z
 have I:∀ b,F3 b->F b\/w.heap.size<=b:=fun b h=>hF3 b (by rw[<- hF3d] at h; exact h)
 obtain⟨G2,D3,hg3,hFg3,R,hR3⟩:=Z.opn (by simp[hL]);obtain⟨rfl,rfl⟩:G2=G/\D3=C:=by
  have:=(hg3.eq l).1;simp at this;exact⟨this.1,this.2⟩
 have cg3:W3.cell? ⟨g,0,none⟩=some (.slice (some ⟨G2,0,none⟩) n D3):=by
  have:=l.cell (i:=0) rfl;rwa [d.out] at this
 have T:=hR3;rw[List.length_set,d.out] at T;have t4:=delP (i:=i + 1) T (by have:=d.out; omega) (sV _);rw[show ((i + 1:Nat):Int)=(i:Int) + 1 by omega,show (i:Int) + 1 + 1=(i:Int) + 2 by omega] at t4
 have w2':IntKind.i64.wrap ((i:Int) + 2)=(i:Int) + 2:=by rw[IntKind.wrap_i64]; have:=d.out; omega
 go_wp2_with (go_at_call 208; refine t4.mono ?_; rintro e' w5 ⟨rfl,R5,C5⟩; have cg5:w5.cell? ⟨g,0,none⟩=_:=(World.cell?_of_block (a:=⟨g,0,none⟩) (C5.same g (aI cg3) r)).trans cg3; have fg5:w5.frozen? ⟨g,0,none⟩=false:=(l.chg C5 r).free 0);go_end0
 have H:((L.set i q).take (i + 1) ++ (L.set i q).drop (i + 2)).Sublist (L.set i q):=by
  have h:=List.Sublist.append (List.Sublist.refl ((L.set i q).take (i + 1))) (List.drop_sublist 1 ((L.set i q).drop (i + 1)));rw[List.drop_drop,List.take_append_drop] at h;exact h
 obtain⟨A6,C6⟩:=j5 (w:=W3) (w1:=w5) (F:=F3) (D:=D) (g:=g) (G:=G2) (G':=G2) (C':=D3) (n:=n - 1) (L':=(L.set i q).take (i + 1) ++ (L.set i q).drop (i + 2))
  (fun p M=>Z.bZ p (H.mem M)) (Z.apart.sublist (H.map _)) Z.kind l hFg3 R (fun e=>r e.symm) C5 (fun p M=>(Z.bZ p (H.mem M)).1.eR hR3)
  (by simp; have:=d.out; omega) (by simpa[List.map_take,List.map_drop] using R5)
 refine⟨_,_,rfl,ens_jn M K hqe,A6,fun b hb => ?_,C3.trans C6 fun b hb h=>(I b h).resolve_right (by omega)⟩;rcases hb with⟨h,_⟩ | rfl
 ·exact I b h
 ·exact I _ R
end
end Pg
end
section
namespace Pg
open Go.RowKit Go.Lib
def rmQ (P:List (List En)) (i q:Nat):List (List En) :=
 let es:=(P.getD i []).take q ++ (P.getD i []).drop (q + 1)
 if es=[] then P.take i ++ P.drop (i + 1)
 else
  let P1:=P.set i es
  if jnb P1 i then jnQ P1 i else if 1<=i/\jnb P1 (i - 1) then jnQ P1 (i - 1) else P1
def gR (P:List (List En)) (k:List Int):List (List En) :=
 if has P k then rmQ P (pgi P k) (plc (kys (P.getD (pgi P k) [])) k) else P
theorem Dj (es:List En) (q:Nat):(flat es).take (q * 2) ++ (flat es).drop ((q + 1) * 2)=flat (es.take q ++ es.drop (q + 1)):=by
 rw[ij,iv,eb]
theorem sk {w:World} {F D:Nat->Prop} {g i q:Nat} {L:List Pg} {p:Pg} (A:bJ w F D g L) (hi:L[i]? = some p) (hq:q < p.es.length) (hs:∀ es∈ens L,es.length<=32) (hf:∀ es∈ens L,es≠[]) (hn:L.length<=100000000) :
  Calls Tryz.prog 171 #[.pointer (some ⟨g,0,none⟩),.int .i64 i,.int .i64 q] w fun e' w'=>∃ F' L',e'=.returned (.tuple #[])/\ens L'=rmQ (ens L) i q/\bJ w' F' D g L'/\(∀ b,F' b->F b\/w.heap.size<=b)/\Chg F w w':=by
 have hil:=(List.getElem?_eq_some_iff.1 hi).1
 have hL:L≠[]:=fun e=>by subst e; simp at hil
 obtain⟨G,C,hg,hFg,hFG,hR⟩:=A.opn hL;have R:=A.bZ p (List.mem_of_getElem? hi);have h2:=hs p.es (List.mem_map.2 ⟨p,List.mem_of_getElem? hi,rfl⟩);have cg:=hg.cell (i:=0) rfl;have cG:=hR.cell (i:=i) (v:=p.v) (by simp[hi]);obtain⟨n,u⟩:∃ n,Hid (L.length=n):=⟨_,rfl⟩
 obtain⟨m,N⟩:∃ m,Hid (p.es.length=m):=⟨_,rfl⟩
 simp only[Pg.v] at cG;rw[u.out] at cg;rw[N.out] at cG
 have aa:w.drew.cell? ⟨g,0,none⟩=some (.slice (some ⟨G,0,none⟩) n C):=cg
 have cGd:w.drew.cell? ⟨G,i,none⟩=some (.slice (some ⟨p.b,0,none⟩) m p.c):=cG
 have E:g≠G:=fun e=>hR.eW hg e.symm
 have ng:g≠p.b:=fun e=>R.1.eW hg e.symm
 have nG:G≠p.b:=fun e=>R.1.eR hR e.symm
 have hin:i < n:=by have:=u.out; omega
 have w1:IntKind.i64.wrap ((q:Int) + 1)=(q:Int) + 1:=by rw[IntKind.wrap_i64]; omega
 have t1:=delE (i:=q) R.1.row.drew hq R.1.one;rw[N.out] at t1;go_enter Tryz.func171,Tryz.ntmps171;go_wp2
 have hpp:Tryz.prog.underlying 142=some (.slice 199):=by kernel_rfl
 refine oX (X:=Unit) (fun _=>[(some 6,.pointer (some ⟨g,0,none⟩)),(some 7,.pointer (some ⟨g,0,none⟩)),(some 8,.pointer (some ⟨g,0,none⟩)),(some 9,.slice (some ⟨G,0,none⟩) n C),(some 10,.int .i64 i),(some 11,.pointer (some ⟨g,0,none⟩)),(some 12,.pointer (some ⟨g,0,none⟩)),(some 13,.pointer (some ⟨g,0,none⟩)),(some 14,.slice (some ⟨G,0,none⟩) n C),(some 15,.int .i64 i),(some 16,.pointer (some ⟨G,i,none⟩)),(some 17,.slice (some ⟨p.b,0,none⟩) m p.c),(some 18,.int .i64 q),(some 19,.int .i64 q),(some 20,.int .i64 ((q:Int) + 1)),(some 21,.slice (some ⟨p.b,0,none⟩) (m - 1) p.c),(some 22,.pointer (some ⟨G,i,none⟩))]) (fun _ w'=>∃ t,w'=t.setCell ⟨G,i,none⟩ (.slice (some ⟨p.b,0,none⟩) (m - 1) p.c)/\Rw t 196 2 p.b (m - 1) p.c ((flat p.es).take (q * 2) ++ (flat p.es).drop ((q + 1) * 2))/\Chg (· = p.b) w.drew t) (fun w'=>w'.cell? ⟨g,0,none⟩=some (.slice (some ⟨G,0,none⟩) n C)) (by kernel_rfl) aa ?_ ?_
 ·have hS:=aa;refine ai 0 (some 6) (.pointer (some ⟨g,0,none⟩)) (by kernel_rfl) (fun _ _=>by kernel_rfl) (fun _ _ _ h=>h) hS ?_
  refine ai 1 (some 7) (.pointer (some ⟨g,0,none⟩)) (by kernel_rfl) (fun _ _=>by kernel_rfl) (fun _ _ _ h=>h) hS ?_
  refine ai 2 (some 8) (.pointer (some ⟨g,0,none⟩)) (by kernel_rfl) (fun _ _=>by kernel_rfl) (fun _ _ _ h=>h) hS ?_
  refine aO 3 (some 9) (.slice (some ⟨G,0,none⟩) n C) 142 8 (g) (0) (by kernel_rfl) (by kernel_rfl) (by kernel_rfl) (fun w' h=>ga h) (fun _ _ _ h=>h) hS ?_
  refine ai 4 (some 10) (.int .i64 i) (by kernel_rfl) (fun _ _=>by kernel_rfl) (fun _ _ _ h=>h) hS ?_
  refine ai 5 (some 11) (.pointer (some ⟨g,0,none⟩)) (by kernel_rfl) (fun _ _=>by kernel_rfl) (fun _ _ _ h=>h) hS ?_
  refine ai 6 (some 12) (.pointer (some ⟨g,0,none⟩)) (by kernel_rfl) (fun _ _=>by kernel_rfl) (fun _ _ _ h=>h) hS ?_
  refine ai 7 (some 13) (.pointer (some ⟨g,0,none⟩)) (by kernel_rfl) (fun _ _=>by kernel_rfl) (fun _ _ _ h=>h) hS ?_
  refine aO 8 (some 14) (.slice (some ⟨G,0,none⟩) n C) 142 13 (g) (0) (by kernel_rfl) (by kernel_rfl) (by kernel_rfl) (fun w' h=>ga h) (fun _ _ _ h=>h) hS ?_
  refine ai 9 (some 15) (.int .i64 i) (by kernel_rfl) (fun _ _=>by kernel_rfl) (fun _ _ _ h=>h) hS ?_
  refine ai 10 (some 16) (.pointer (some ⟨G,i,none⟩)) (by kernel_rfl) (fun _ _=>eB (x:=14) (y:=15) (n:=n) (c:=C) (by kernel_rfl) hpp (by kernel_rfl) (by kernel_rfl) (rfl) (hin)) (fun _ _ _ h=>h) hS ?_
  refine ai 12 (some 18) (.int .i64 q) (by kernel_rfl) (fun _ _=>by kernel_rfl) (fun _ _ _ h=>h) hS ?_
  refine ai 13 (some 19) (.int .i64 q) (by kernel_rfl) (fun _ _=>by kernel_rfl) (fun _ _ _ h=>h) hS ?_
  refine iK 14 (some 20) (.int .i64 (IntKind.i64.wrap ((q:Int) + 1))) (.int .i64 ((q:Int) + 1)) (by rw[w1]) (by kernel_rfl) (fun _ _=>by kernel_rfl) (fun _ _ _ h=>h) hS ?_
  refine aK [11] (by kernel_rfl) (by simp) ?_
  refine bH 11 (some 17) (.slice (some ⟨p.b,0,none⟩) m p.c) _ (by kernel_rfl) (iV 16 (by kernel_rfl) (by kernel_rfl) (pz cGd)) hS ?_ aW;refine bO 15 (some 21) 207 #[.slice (some ⟨p.b,0,none⟩) m p.c,.int .i64 q,.int .i64 ((q:Int) + 1)] (by kernel_rfl) (by kernel_rfl) t1 ?_
  rintro e' t ⟨rfl,R2,C2⟩
  have K:t.cell? ⟨g,0,none⟩=_:=(World.cell?_of_block (a:=⟨g,0,none⟩) (C2.same g (aI aa) ng)).trans aa
  have cG2:t.cell? ⟨G,i,none⟩=_:=(World.cell?_of_block (a:=⟨G,i,none⟩) (C2.same _ (aI cGd) nG)).trans cGd
  have fG2:t.frozen? ⟨G,i,none⟩=false:=(hR.drew.chg C2 nG).free i;refine⟨_,rfl,K,?_⟩;replace hS:=K;refine ai 16 (some 22) (.pointer (some ⟨G,i,none⟩)) (by kernel_rfl) (fun _ _=>eB (x:=9) (y:=10) (n:=n) (c:=C) (by kernel_rfl) hpp (by kernel_rfl) (by kernel_rfl) (rfl) (hin)) (fun _ _ _ h=>h) hS ?_
  refine aK [17] (by kernel_rfl) (by simp) ?_
  refine dk 17 (t.setCell ⟨G,i,none⟩ (.slice (some ⟨p.b,0,none⟩) (m - 1) p.c)) (by kernel_rfl) (ky 22 21 (by kernel_rfl) (by kernel_rfl) (by kernel_rfl) cG2 fG2) (bQ E K) ?_ aW;refine bG (by kernel_rfl) ?_
  exact⟨(),by kernel_rfl,t,rfl,R2,C2⟩
 rintro - w' ⟨t,rfl,R2,C2⟩;simp only[iS,Act.put,List.setIfInBounds_toArray,List.set_cons_zero,List.set_cons_succ]
 have M:Chg (· = p.b) w t:=(Chg.of (F:=(· = p.b)) (bV w)).trans C2 (fun _ _ h=>h);obtain⟨p',hp'⟩:∃ p':Pg,Hid (p'=⟨p.b,p.c,p.es.take q ++ p.es.drop (q + 1)⟩):=⟨_,rfl⟩
 have hlen:(p.es.take q ++ p.es.drop (q + 1)).length=m - 1:=by have:=N.out; simp; omega
 have hA':PgA t D p':=by
  rw[hp'.out];refine⟨?_,fun e he => ?_⟩
  ·show Rw t _ 2 p.b (p.es.take q ++ p.es.drop (q + 1)).length p.c _
   rw[hlen]; exact R2.to (Dj p.es q)
  ·have he':e∈p.es:=by
    rcases List.mem_append.1 he with h | h
    ·exact List.mem_of_mem_take h
    ·exact List.mem_of_mem_drop h
   refine(R.1.dH e he').off fun b hb hk=>M.same b hb fun f => ?_
   subst f;obtain⟨cs,k⟩:=hk;obtain⟨ds,k'⟩:=R.1.row.kind;exact et k k' (by decide) rfl
 have hv':p'.v=.slice (some ⟨p.b,0,none⟩) (m - 1) p.c:=by rw[hp'.out]; simp only[Pg.v]; rw[hlen]
 have hb':p'.b=p.b:=by rw[hp'.out]
 have he':p'.es=p.es.take q ++ p.es.drop (q + 1):=by rw[hp'.out]
 obtain⟨z,Y⟩:=A.put (p':=p') (D':=D) hg hFg hFG hR hi M (.inl hb') hA' (fun _ _ h=>h);rw[hv',hb'] at z;rw[hv'] at Y
 have hF3:∀ b,((F b/\b≠p.b)\/b=p.b)->F b:=fun b h=>h.elim (fun h=>h.1) (fun h=>by rw[h]; exact R.2)
 have K:t.cell? ⟨g,0,none⟩=_:=(World.cell?_of_block (a:=⟨g,0,none⟩) (M.same g (aI cg) ng)).trans cg
 have cG2:t.cell? ⟨G,i,none⟩=_:=(World.cell?_of_block (a:=⟨G,i,none⟩) (M.same _ (aI cG) nG)).trans cG
 have cg3:(t.setCell ⟨G,i,none⟩ (.slice (some ⟨p.b,0,none⟩) (m - 1) p.c)).cell? ⟨g,0,none⟩=some (.slice (some ⟨G,0,none⟩) n C):=bQ E K
 have Z:(t.setCell ⟨G,i,none⟩ (.slice (some ⟨p.b,0,none⟩) (m - 1) p.c)).cell? ⟨G,i,none⟩=some (.slice (some ⟨p.b,0,none⟩) (m - 1) p.c):=World.cell?_setCell_same' _ _ _ (by rw[cG2]; rfl);have J:=(hg.chg M ng).off E (i:=i) (.slice (some ⟨p.b,0,none⟩) (m - 1) p.c);generalize (t.setCell ⟨G,i,none⟩ (.slice (some ⟨p.b,0,none⟩) (m - 1) p.c))=W3 at *;generalize hF3d:(fun x=>(F x/\x≠p.b)\/x=p.b)=F3 at z
 have d:∀ b,F3 b->F b:=fun b h=>hF3 b (by rw[<- hF3d] at h; exact h)
 have hi3:(L.set i p')[i]? = some p':=by rw[List.getElem?_set_self hil]
 have hE3:ens (L.set i p')=(ens L).set i (p.es.take q ++ p.es.drop (q + 1)):=by rw[oQ,he']
 have hs3:∀ es∈ens (L.set i p'),es.length<=32:=fun es he=>by
  rw[hE3] at he;rcases List.mem_or_eq_of_mem_set he with h | h
  ·exact hs es h
  ·rw[h,hlen]; have:=N.out; omega
 have B:(L.set i p').length=n:=by rw[List.length_set]; exact u.out
 have hX:p.es.take q ++ p.es.drop (q + 1)=[]\/p.es.take q ++ p.es.drop (q + 1)≠[]:=Classical.em _
 have l:Hid (rmQ (ens L) i q=if p.es.take q ++ p.es.drop (q + 1)=[] then (ens L).take i ++ (ens L).drop (i + 1) else if jnb (ens (L.set i p')) i then jnQ (ens (L.set i p')) i else if 1<=i/\jnb (ens (L.set i p')) (i - 1) then jnQ (ens (L.set i p')) (i - 1) else ens (L.set i p')):=by
  show _=_
  unfold rmQ;rw[eO hi,hE3]
 rcases hX with hX | hX
 ·have hm1:m=1:=by rw[hX] at hlen; simp at hlen; have:=N.out; omega
  obtain⟨G2,D3,hg3,hFg3,hFG3,hR3⟩:=z.opn (by simp[hL]);obtain⟨rfl,rfl⟩:G2=G/\D3=C:=by
   have:=(hg3.eq J).1;simp at this;exact⟨this.1,this.2⟩
  have hR3':=hR3;rw[B] at hR3';have t4:=delP (i:=i) hR3' (by omega) (sV _)
  have w3:IntKind.i64.wrap ((i:Int) + 1)=(i:Int) + 1:=by rw[IntKind.wrap_i64]; have:=u.out; omega
  have cG3':W3.cell? ⟨G2,i,none⟩=some (.slice (some ⟨p.b,0,none⟩) 0 p.c):=by rw[hm1] at Z; exact Z
  have z1:(i:Int) < n:=by omega
  have U:((L.set i p').take i ++ (L.set i p').drop (i + 1)).Sublist (L.set i p'):=by
   have h:=List.Sublist.append (List.Sublist.refl ((L.set i p').take i)) (List.drop_sublist 1 ((L.set i p').drop i));rw[List.drop_drop,List.take_append_drop] at h;exact h
  have r:Hid (ens ((L.set i p').take i ++ (L.set i p').drop (i + 1))=rmQ (ens L) i q):=by
   show _=_
   rw[l.out,if_pos hX,List.take_set_of_le (Nat.le_refl _),List.drop_set_of_lt (by omega)];simp[ens,List.map_take,List.map_drop]
  have HX:Hid _:=hX;clear hX l Z hm1;go_wp2_with (go_at_call 208; refine t4.mono ?_; rintro e' V ⟨rfl,R5,C5⟩; have cg5:V.cell? ⟨g,0,none⟩=_:=(World.cell?_of_block (a:=⟨g,0,none⟩) (C5.same g (aI cg3) E)).trans cg3; have fg5:V.frozen? ⟨g,0,none⟩=false:=(J.chg C5 E).free 0);go_end0;obtain⟨A6,C6⟩:=j5 (w:=W3) (w1:=V) (F:=F3) (D:=D) (g:=g) (G:=G2) (G':=G2) (C':=D3) (n:=n - 1) (L':=(L.set i p').take i ++ (L.set i p').drop (i + 1))
   (fun p R=>z.bZ p (U.mem R)) (z.apart.sublist (U.map _)) z.kind J hFg3 hFG3 (fun e=>E e.symm) C5 (fun p R=>(z.bZ p (U.mem R)).1.eR hR3)
   (by simp; have:=u.out; omega) (by simpa[List.map_take,List.map_drop] using R5)
  refine⟨_,_,rfl,r.out,A6,fun b hb => ?_,Y.trans C6 fun b _ h=>d b h⟩;rcases hb with⟨h,_⟩ | rfl
  ·exact .inl (d b h)
  ·exact .inl (d _ hFG3)
 ·have hm1:0 < m - 1:=by
   rw[<- hlen]; exact List.length_pos_iff.2 hX
  obtain⟨m1,hm2⟩:∃ m1,Hid (m - 1=m1):=⟨_,rfl⟩
  rw[hm2.out] at Z hm1
  have z0:¬ ((m1:Int)=0):=by omega
  have z1:(i:Int) < n:=by omega
  have w3:IntKind.i64.wrap ((i:Int) - 1)=(i:Int) - 1:=by rw[IntKind.wrap_i64]; omega
  have S:=l.out;rw[if_neg hX] at S
  have l:Hid _:=S;clear S
  have HX:Hid _:=hX;clear hX
  have hf3:∀ es∈ens (L.set i p'),es≠[]:=fun es he=>by
   rw[hE3] at he;rcases List.mem_or_eq_of_mem_set he with h | h
   ·exact hf es h
   ·rw[h]; exact HX.out
  have H:∀ (W:World) (j:Nat),bJ W F3 D g (L.set i p')->jnb (ens (L.set i p')) j=true->Calls Tryz.prog 210 #[.pointer (some ⟨g,0,none⟩),.int .i64 j] W fun e' w'=>∃ F' L',e'=.returned (.tuple #[])/\ens L'=jnQ (ens (L.set i p')) j/\bJ w' F' D g L'/\(∀ b,F' b->F3 b\/W.heap.size<=b)/\Chg F3 W w':=fun W j AW hj=>by
   unfold jnb at hj;simp only[Bool.and_eq_true,decide_eq_true_eq] at hj
   have hl:j + 1 < (L.set i p').length:=by have:=hj.1; simpa[ens] using this
   obtain⟨a,ha⟩:∃ a,(L.set i p')[j]? = some a:=⟨_,List.getElem?_eq_getElem (by omega)⟩
   obtain⟨c,hc⟩:∃ c,(L.set i p')[j + 1]? = some c:=⟨_,List.getElem?_eq_getElem hl⟩
   have ma:a.es∈ens (L.set i p'):=List.mem_map.2 ⟨a,List.mem_of_getElem? ha,rfl⟩
   have mc:c.es∈ens (L.set i p'):=List.mem_map.2 ⟨c,List.mem_of_getElem? hc,rfl⟩;have s1:=hs3 _ ma;have s2:=hs3 _ mc;exact As AW ha hc (by rw[B]; have:=u.out; omega) (List.length_pos_iff.2 (hf3 _ ma)) (by omega) (by omega)
  have O:=x8 z (i:=i) (by omega) (by rw[B]; have:=u.out; omega) (fun es he=>by have:=hs3 es he; omega);by_cases I:jnb (ens (L.set i p')) i=true
  ·have r:Hid (rmQ (ens L) i q=jnQ (ens (L.set i p')) i):=by show _=_; rw[l.out,if_pos I]
   have t5:∀ W,Below W3.heap.size W3 W->_:=fun W s=>H W i (z.keep s) I
   rw[I] at O;clear H I l
   go_wp2_with (first
    | (go_at_call 209; refine O.mono ?_; rintro e' V ⟨rfl,o⟩; have t6:=t5 V o; clear t5 O)
    | (go_at_call 210; refine t6.mono ?_; rintro e' w6 ⟨F6,L6,rfl,hE6,A6,hF6,C6⟩))
   go_end0;refine⟨F6,L6,rfl,hE6.trans r.out.symm,A6,fun b hb => ?_,(Y.trans (Chg.of (F:=F) o) (fun _ _ h=>h)).trans C6 fun b _ h=>d b h⟩;rcases hF6 b hb with h | h
   ·exact .inl (d b h)
   ·exact .inr (by have:=Y.size; have:=o.size; omega)
  ·have Q:jnb (ens (L.set i p')) i=false:=by simpa using I
   by_cases hi0:i=0
   ·have r:Hid (rmQ (ens L) i q=ens (L.set i p')):=by show _=_; rw[l.out,if_neg I,if_neg (by omega)]
    rw[Q] at O
    have tn:∀ W:World,Calls Tryz.prog 209 #[.pointer (some ⟨g,0,none⟩),.int .i64 (-1)] W _:=fun W=>jn_neg
    have mk:True:=trivial;clear H I l Q;subst hi0
    go_wp2_with (first
     | (go_at_call 209; clear mk; refine O.mono ?_; rintro e' V ⟨rfl,o⟩; clear O)
     | (go_at_call 209; refine(tn _).mono ?_; rintro e' w6 ⟨rfl,T⟩))
    go_end0;have s:=aj o T
    first
     | exact⟨F3,_,rfl,r.out.symm,z.keep s,fun b hb=>.inl (d b hb),Y.trans (Chg.of (F:=F) s) (fun _ _ h=>h)⟩
     | exact⟨rfl,F3,_,r.out.symm,z.keep s,fun b hb=>.inl (d b hb),Y.trans (Chg.of (F:=F) s) (fun _ _ h=>h)⟩
   ·obtain⟨j,rfl⟩:∃ j,i=j + 1:=⟨i - 1,by omega⟩
    have tk:∀ W,Below W3.heap.size W3 W->Calls Tryz.prog 209 #[.pointer (some ⟨g,0,none⟩),.int .i64 j] W _:=fun W s=>x8 (z.keep s) (i:=j) (by omega) (by rw[B]; have:=u.out; omega) (fun es he=>by have:=hs3 es he; omega)
    have e1:((j + 1:Nat):Int) - 1=(j:Int):=by omega
    have e2:(j:Int) + 1 - 1=(j:Int):=by omega
    rw[Q] at O
    have mk:True:=trivial
    have mk2:True:=trivial;by_cases h3:jnb (ens (L.set (j + 1) p')) j=true
    ·have r:Hid (rmQ (ens L) (j + 1) q=jnQ (ens (L.set (j + 1) p')) j):=by show _=_; rw[l.out,if_neg I,if_pos ⟨by omega,by simpa using h3⟩]; rfl
     have t5:∀ W,Below W3.heap.size W3 W->_:=fun W s=>H W j (z.keep s) h3
     rw[h3] at tk;clear H I l Q h3
     go_wp2_with (first
      | (go_at_call 209; clear mk; refine O.mono ?_; rintro e' V ⟨rfl,o⟩; have P:=tk V o; clear O tk)
      | (go_at_call 209; refine P.mono ?_; rintro e' w6 ⟨rfl,T⟩; have s:=aj o T; have t6:=t5 w6 s; clear t5 P)
      | (go_at_call 210; refine t6.mono ?_; rintro e' w7 ⟨F6,L6,rfl,hE6,A6,hF6,C6⟩))
     go_end0;refine⟨F6,L6,rfl,hE6.trans r.out.symm,A6,fun b hb => ?_,(Y.trans (Chg.of (F:=F) s) (fun _ _ h=>h)).trans C6 fun b _ h=>d b h⟩;rcases hF6 b hb with h | h
     ·exact .inl (d b h)
     ·exact .inr (by have:=Y.size; have:=s.size; omega)
    ·have h3':jnb (ens (L.set (j + 1) p')) j=false:=by simpa using h3
     have r:Hid (rmQ (ens L) (j + 1) q=ens (L.set (j + 1) p')):=by show _=_; rw[l.out,if_neg I,if_neg (fun h=>h3 (by simpa using h.2))]
     rw[h3'] at tk;clear H I l Q h3 h3'
     go_wp2_with (first
      | (go_at_call 209; clear mk; refine O.mono ?_; rintro e' V ⟨rfl,o⟩; have P:=tk V o; clear O tk)
      | (go_at_call 209; refine P.mono ?_; rintro e' w6 ⟨rfl,T⟩; have s:=aj o T; clear P))
     go_end0
     first
      | exact⟨F3,_,rfl,r.out.symm,z.keep s,fun b hb=>.inl (d b hb),Y.trans (Chg.of (F:=F) s) (fun _ _ h=>h)⟩
      | exact⟨rfl,F3,_,r.out.symm,z.keep s,fun b hb=>.inl (d b hb),Y.trans (Chg.of (F:=F) s) (fun _ _ h=>h)⟩
end Pg
end
section
namespace Pg
open Go.RowKit Go.Lib
theorem sK {w:World} {F D:Nat->Prop} {g:Nat} {L:List Pg} {kv:Value} {k:List Int} (A:bJ w F D g L) (O:Ord (ens L)) (hs:∀ es∈ens L,es.length<=32) (hn:L.length<=100000000) (h:By w kv k) :
  Calls Tryz.prog 122 #[.pointer (some ⟨g,0,none⟩),kv] w fun e w'=>e=.returned (.bool (has (ens L) k))/\∃ F' L',ens L'=gR (ens L) k/\bJ w' F' D g L'/\(∀ b,F' b->F b\/w.heap.size<=b)/\Chg F w w':=by
 by_cases hL:L=[]
 ·subst hL;have t:=mC (v:=kv) A
  have e1:has (ens []) k=false:=rfl
  have e2:Hid (gR (ens []) k=ens []):=rfl;rw[e1];have y:=(show Hid _ from A)
  clear A O hs h;go_enter Tryz.func122,Tryz.ntmps122;go_wp2_with (go_at_call 146; refine t.mono ?_; rintro n u ⟨rfl,rfl⟩);go_ret;exact⟨rfl,F,[],e2.out.symm,y.out,fun b hb=>.inl hb,Chg.refl _ _⟩
 ·obtain⟨p,s,l⟩:=pH hL k;have o:=List.mem_of_getElem? s;have E:=hs p.es (List.mem_map.2 ⟨p,o,rfl⟩);have t:=kY A O h (by omega) s (by omega)
  have j:has (ens L) k=thr (kys p.es) k:=by
   unfold has;rw[l];have:(ens L).isEmpty=false:=by simp[ens,hL]
   simp[this]
  rw[j];by_cases f:thr (kys p.es) k=true
  ·obtain⟨e,he,B⟩:=lB f;have m:=(List.getElem?_eq_some_iff.1 he).1
   have r:Hid (gR (ens L) k=rmQ (ens L) (pgi (ens L) k) (plc (kys p.es) k)):=by
    show _=_
    unfold gR;rw[j,f,if_pos rfl,l]
   have z:∀ w',Below w.heap.size w w'->_:=fun w' c=>sk (A.keep c) s m hs O.full hn
   rw[f] at t ⊢;generalize pgi (ens L) k=i at *;generalize plc (kys p.es) k=q at *;clear A O hs h f j;go_enter Tryz.func122,Tryz.ntmps122
   go_wp2_with (first
    | (go_at_call 146; refine t.mono ?_; rintro n u ⟨rfl,c⟩; have x:=z u c; clear t z)
    | (go_at_call 171; refine x.mono ?_; rintro n G ⟨F',L',rfl,C,hA,hF,hC⟩))
   go_ret;exact⟨rfl,F',L',C.trans r.out.symm,hA,fun b hb=>(hF b hb).imp id (fun h=>Nat.le_trans c.size h),(Chg.of (F:=F) c).trans hC (fun _ _ h=>h)⟩
  ·have d:thr (kys p.es) k=false:=by simpa using f
   have r:Hid (gR (ens L) k=ens L):=by
    show _=_
    unfold gR;rw[j,d,if_neg (by decide)]
   rw[d] at t ⊢;generalize pgi (ens L) k=i at *;generalize plc (kys p.es) k=q at *;have y:=(show Hid _ from A)
   clear A O hs h f d j;go_enter Tryz.func122,Tryz.ntmps122;go_wp2_with (go_at_call 146; refine t.mono ?_; rintro n u ⟨rfl,c⟩);go_ret;exact⟨rfl,F,L,r.out.symm,y.out.keep c,fun b hb=>.inl hb,Chg.of c⟩
theorem Cr {w:World}:Calls Tryz.prog 43 #[] w fun e w'=>∃ g,e=.returned (.pointer (some ⟨g,0,none⟩))/\g=w.heap.size/\bJ w' (· = g) (fun _=>False) g []/\Below w.heap.size w w':=by
 go_enter Tryz.func43,Tryz.ntmps43;go_wp2;go_ret;refine⟨_,rfl,rfl,⟨⟨_,aC w [.slice none 0 0] 144,rfl,.inl ⟨rfl,rfl⟩⟩,fun p c=>by simp at c,by simp,fun b hb => ?_⟩,ae w _⟩;subst hb;exact⟨_,_,aC w [.slice none 0 0] 144,by decide⟩
end Pg
end
section
namespace Pg
open Go.RowKit Go.Lib
end Pg
end
section
namespace Pg
open Go.RowKit Go.Lib
section
variable {B l B' g n:Nat}{W W' w:World}{cs:List Value}{fn:FuncId}{tmps args lb:Array Value}{ps:Array Tmp}{assign body:Code}{I:Nat->World->Prop}{Ix:Code->Nat->World->Prop}{Ar:Nat->Array Value->Nat->World->Prop}{Rd:World->Prop}
structure Rec(B:Nat)(W W':World):Prop where
 os:W'.os=W.os
 tape:W'.tape=W.tape
 output:W'.output=W.output
 size:W.heap.size<=W'.heap.size
 same:∀ (k:Nat) (o:Obj),W.heap[k]? = some o->(k < B\/o.isCells=true)->W'.heap[k]? = some o
def St(B:Nat)(I:World->Prop):Prop:=∀ W W',I W->Rec B W W'->I W'
theorem Rec.of(h:Below W.heap.size W W'):Rec B W W':=⟨h.os,h.tape,h.output,h.size,fun k _ hk _=>(h.block k (lt_of_block hk)).trans hk⟩
theorem Rec.put{o:Obj}(h:W.heap[l]? = some o)(d:o.isCells=false)(f:B<=l)(c:Obj):Rec B W (W.putObj l c) :=
 ⟨rfl,rfl,rfl,by simp,fun k x b hx=>by
  have a:k≠l:=fun e=>by
   subst e;rw[h] at b
   cases b;rcases hx with hx | hx
   ·omega
   ·rw[d] at hx; cases hx
  exact(World.putObj_heap_other a).trans b⟩
theorem Rec.mono(h:Rec B W W')(hB:B'<=B):Rec B' W W':=⟨h.os,h.tape,h.output,h.size,fun k o hk ho=>h.same k o hk (ho.imp (fun h=>by omega) id)⟩
theorem Rec.blk(h:Rec B W W'){t:TypeId}(hb:Blk W g cs t):Blk W' g cs t:=⟨h.same g _ hb.blk (.inr rfl)⟩
theorem wc(hb:Below W.heap.size W W')(b:l < W.heap.size)(o:Obj):Below (W.putObj l o).heap.size (W.putObj l o) (W'.putObj l o):=by
 refine⟨hb.os,hb.tape,hb.output,by simpa using hb.size,fun k a => ?_⟩;simp at a;by_cases e:k=l
 ·subst e;have:=hb.size;rw[World.putObj_heap_same (by omega),World.putObj_heap_same b]
 ·rw[World.putObj_heap_other e,World.putObj_heap_other e]; exact hb.block k a
structure Cel(W W':World):Prop where
 size:W.heap.size<=W'.heap.size
 same:∀ (k:Nat) (o:Obj),W.heap[k]? = some o->o.isCells=true->W'.heap[k]? = some o
theorem Rec.cel(h:Rec B W W'):Cel W W':=⟨h.size,fun k o hk ho=>h.same k o hk (.inr ho)⟩
def Safe(Tp:TypeId->Prop)(o:Obj):Prop:=∀ cs t fz,o=.cells cs t fz->¬ Tp t
theorem wO{Tp:TypeId->Prop}{r:Loop}:Safe Tp (.loop r):=fun _ _ _ e=>by cases e
theorem mD{Tp:TypeId->Prop}{d:Option (List Deferred)}:Safe Tp (.deferred d):=fun _ _ _ e=>by cases e
structure bh(Tp:TypeId->Prop)(B:Nat)(W W':World):Prop where
 size:W.heap.size<=W'.heap.size
 same:∀ (k:Nat) (o:Obj),B<=k->W.heap[k]? = some o->Safe Tp o->W'.heap[k]? = some o
theorem bh.of{Tp:TypeId->Prop}(h:Below W.heap.size W W'):bh Tp B W W':=⟨h.size,fun k _ _ hk _=>(h.block k (lt_of_block hk)).trans hk⟩
theorem bh.trans{Tp:TypeId->Prop}{W'':World}(h:bh Tp B W W')(h':bh Tp B W' W''):bh Tp B W W'':=⟨Nat.le_trans h.size h'.size,fun k o hB hk ho=>h'.same k o hB (h.same k o hB hk ho) ho⟩
theorem bh.mono{Tp:TypeId->Prop}(h:bh Tp B W W')(hB:B<=B'):bh Tp B' W W':=⟨h.size,fun k o hk h0 ho=>h.same k o (Nat.le_trans hB hk) h0 ho⟩
theorem bh.blk{Tp:TypeId->Prop}(h:bh Tp B W W'){t:TypeId}(hb:Blk W g cs t)(hg:B<=g)(ht:¬ Tp t):Blk W' g cs t:=⟨h.same g _ hg hb.blk (fun _ _ _ e=>by cases e; exact ht)⟩
def Itr(Tp:TypeId->Prop)(gf:Nat)(lb:Array Value)(N:Nat)(Ar:Nat->Array Value->Nat->World->Prop)(Rd:World->Prop):Prop :=
 ∀ (l:Nat) (J Jx:Nat->World->Prop) (W:World),(∀ i,St W.heap.size (J i))->(∀ i,St W.heap.size (Jx i))->(∀ i V,J i V->Rd V) ->
  (∀ i args V V',i < N->J i V->W.heap.size<=V.heap.size->Below V.heap.size V V'->Ar i args V.heap.size V'->YieldAt Fence.wide 0 Tryz.prog l args V' fun e V''=>bh Tp W.heap.size V' V''/\((e=.returned (.bool true)/\J (i + 1) V'')\/(e=.returned (.bool false)/\Jx (i + 1) V''))) ->
  J 0 W ->
  Calls Tryz.prog gf (#[.func (.yield l) #[] #[]] ++ lb) W fun e W'=>(∃ v,e=.returned v)/\W.heap.size<=W'.heap.size/\(J N W'\/∃ i,i < N/\Jx (i + 1) W')
def oh(Tp:TypeId->Prop)(B:Nat)(I:Nat->World->Prop)(Ix:Code->Nat->World->Prop)(i:Nat)(W:World):Exit->Act->World->Prop
 | .normal,_,W'=>bh Tp B W W'/\I i W'
 | .ret,_,W'=>bh Tp B W W'/\Ix .ret i W'
 | .exit id,_,W'=>bh Tp B W W'/\Ix (.exit id) i W'
 | .goto t,_,W'=>bh Tp B W W'/\Ix (.goto t) i W'
 | .panic _,_,_=>False
 | .outgrown,_,_=>False
def db(fn:FuncId)(tmps:Array Value)(ps:Array Tmp)(assign body:Code)(dd:Nat)(st:LoopState)(pe:Option Code):Loop:={ state:=st,pending:=pe,fn,tmps,params:=ps,assign,body,defers:=dd }
structure fX(Tp:TypeId->Prop)(B l:Nat)(W W':World):Prop where
 size:W.heap.size<=W'.heap.size
 same:∀ (k:Nat) (o:Obj),B<=k->k≠l->W.heap[k]? = some o->Safe Tp o->W'.heap[k]? = some o
theorem fX.from{Tp:TypeId->Prop}{B1:Nat}(h:fX Tp B l W W')(hB:B<=B1)(hl:l < B1):bh Tp B1 W W':=⟨h.size,fun k o hk h0 ho=>h.same k o (by omega) (by omega) h0 ho⟩
theorem jc{Tp:TypeId->Prop}{i:Nat}{dd:Nat}{V:World}(z:∀ i args n V W,Ar i args n V->Cel V W->Ar i args n W)(S:∀ i,St B (I i))(E:∀ c i,St B (Ix c i))(q:B<=l)(hL:V.heap[l]? = some (.loop (db fn tmps ps assign body dd .ready none)))(hi:I i V)(hb:Below V.heap.size V W)(Z:Ar i args V.heap.size W)(R:args.size=ps.size)(x:assign.wpIn (Fence.wide.inRound l) n Tryz.prog (Exit.then (fun a1 W1=>Below W.heap.size W W1/\∀ V2 W2,I i V2->Below V2.heap.size V2 W2->Ar i args V2.heap.size W2->(∀ b,b≠l->W2.heap[b]? = W1.heap[b]?)->W2.heap.size=W1.heap.size->V2.heap.size=V.heap.size->(∃ r,W2.heap[l]? = some (.loop r))->body.wpIn (Fence.wide.inRound l) n Tryz.prog (oh Tp B I Ix (i + 1) W2) a1 W2) (fun _ _ _=>False)) { tmps:=(ps.zip args).foldl (fun t (p,v)=>t.setIfInBounds p v) tmps,defers:=[] } W) :
  YieldAt Fence.wide 0 Tryz.prog l args W fun e W'=>fX Tp B l W W'/\((e=.returned (.bool true)/\I (i + 1) W'/\W'.heap[l]? = some (.loop (db fn tmps ps assign body dd .ready none)))\/(e=.returned (.bool false)/\∃ c,Ix c (i + 1) W'/\W'.heap[l]? = some (.loop (db fn tmps ps assign body dd .done (some c))))):=by
 have L:l < V.heap.size:=lt_of_block hL
 have C:W.heap[l]? = some (.loop (db fn tmps ps assign body dd .ready none)):=(hb.block l L).trans hL;have hy:=run_yield (P:=Tryz.prog) (args:=args) C R
 have u:assign.wpIn (Fence.wide.inRound l) n Tryz.prog (Exit.then (fun Y X=>∃ w₂,(Instr.beginRound l).run Tryz.prog X=.ok () w₂/\body.wpIn (Fence.wide.inRound l) n Tryz.prog (roundPost Tryz.prog l fun e W'=>fX Tp B l W W'/\((e=.returned (.bool true)/\I (i + 1) W'/\W'.heap[l]? = some (.loop (db fn tmps ps assign body dd .ready none)))\/(e=.returned (.bool false)/\∃ c,Ix c (i + 1) W'/\W'.heap[l]? = some (.loop (db fn tmps ps assign body dd .done (some c)))))) Y w₂) (fun _ _ _=>False)) { tmps:=(ps.zip args).foldl (fun t (p,v)=>t.setIfInBounds p v) tmps,defers:=[] } W:=by
  refine wpIn_mono x ?_
  intro e a1 W1 h
  cases e with
  | normal =>
   obtain⟨w,G⟩:=h
   have D:W1.heap[l]? = some (.loop (db fn tmps ps assign body dd .ready none)):=(w.block l (lt_of_block C)).trans C
   have A:l < W1.heap.size:=lt_of_block D;refine⟨_,run_beginRound D rfl,?_⟩
   have O:Below V.heap.size V W1:=aj hb w;have U:=G (V.putObj l (.loop { db fn tmps ps assign body dd .ready none with state:=.busy })) (W1.putObj l (.loop { db fn tmps ps assign body dd .ready none with state:=.busy }))
    (S i _ _ hi (Rec.put hL rfl q _)) (wc O L _) (by simpa using z i args _ _ _ (z i args _ _ _ Z (Rec.of (B:=0) w).cel) (Rec.put D rfl (Nat.zero_le _) _).cel)
    (fun b hb=>World.putObj_heap_other hb) (by simp) (by simp) ⟨_,World.putObj_heap_same A⟩
   have Q:(W1.putObj l (.loop { db fn tmps ps assign body dd .ready none with state:=.busy })).heap[l]? = some (.loop { db fn tmps ps assign body dd .ready none with state:=.busy }):=World.putObj_heap_same A;generalize hW2:W1.putObj l (.loop { db fn tmps ps assign body dd .ready none with state:=.busy })=W2 at *
   have K:fX Tp B l W W2:=by
    rw[<- hW2];refine⟨by simpa using w.size,fun k _ N y M _ => ?_⟩;rw[World.putObj_heap_other y];exact(w.block k (lt_of_block M)).trans M
   have fin:∀ (jump:Option Code) (s:World),bh Tp B W2 s ->
     (Instr.endRound l jump).run Tryz.prog s=.ok (.bool jump.isNone) (s.putObj l (.loop (db fn tmps ps assign body dd (if jump.isNone then .ready else .done) jump)))/\s.heap[l]? = some (.loop { db fn tmps ps assign body dd .ready none with state:=.busy }) /\
     (s.putObj l (.loop (db fn tmps ps assign body dd (if jump.isNone then .ready else .done) jump))).heap[l]? = some (.loop (db fn tmps ps assign body dd (if jump.isNone then .ready else .done) jump)) /\
     fX Tp B l W (s.putObj l (.loop (db fn tmps ps assign body dd (if jump.isNone then .ready else .done) jump))):=fun jump s a=>by
    have d:=a.same _ _ q Q wO;refine⟨run_endRound (P:=Tryz.prog) jump d,d,World.putObj_heap_same (lt_of_block d),⟨by simpa using Nat.le_trans K.size a.size,fun k o N y M T => ?_⟩⟩;rw[World.putObj_heap_other y];exact a.same k o N (K.same k o N y M T) T
   refine wpIn_mono U ?_
   intro e a3 s J
   cases e with
   | normal =>
    obtain⟨a,j⟩:=J;obtain⟨H,d,m,g⟩:=fin none s a;exact⟨_,_,H,g,.inl ⟨rfl,S _ _ _ j (Rec.put d rfl q _),m⟩⟩
   | ret =>
    obtain⟨a,j⟩:=J;obtain⟨H,d,m,g⟩:=fin (some .ret) s a;exact⟨_,_,H,g,.inr ⟨rfl,.ret,E _ _ _ _ j (Rec.put d rfl q _),m⟩⟩
   | exit id =>
    obtain⟨a,j⟩:=J;obtain⟨H,d,m,g⟩:=fin (some (.exit id)) s a;exact⟨_,_,H,g,.inr ⟨rfl,.exit id,E _ _ _ _ j (Rec.put d rfl q _),m⟩⟩
   | goto t =>
    obtain⟨a,j⟩:=J;obtain⟨H,d,m,g⟩:=fin (some (.goto t)) s a;exact⟨_,_,H,g,.inr ⟨rfl,.goto t,E _ _ _ _ j (Rec.put d rfl q _),m⟩⟩
   | panic ch=>exact J.elim
   | outgrown=>exact J.elim
  | ret=>exact h.elim
  | exit id=>exact h.elim
  | goto t=>exact h.elim
  | panic ch=>exact h.elim
  | outgrown=>exact h.elim
 exact⟨fn,_,assign,body,hy,by
  have:=roundIn_of_wpIn (F:=Fence.wide) (n:=n) (P:=Tryz.prog) (f:=fn) trivial u
  exact⟨this.1,fun c cs _=>this.2 c cs (fun _ h=>by cases h)⟩⟩
def RoundW(Tp:TypeId->Prop)(w:World)(N n:Nat)(ps:Array Tmp)(assign body:Code)(tmps:Array Value)(Ar:Nat->Array Value->Nat->World->Prop)(I:Nat->World->Prop)(Ix:Code->Nat->World->Prop):Prop :=
 ∀ (l i:Nat) (args:Array Value) (V W:World),w.heap.size<=l->l < V.heap.size->(∃ r,V.heap[l]? = some (.loop r))->i < N->I i V->Below V.heap.size V W->Ar i args V.heap.size W ->
  assign.wpIn (Fence.wide.inRound l) n Tryz.prog (Exit.then (fun a1 W1=>Below W.heap.size W W1/\∀ V2 W2,I i V2->Below V2.heap.size V2 W2->Ar i args V2.heap.size W2->(∀ b,b≠l->W2.heap[b]? = W1.heap[b]?)->W2.heap.size=W1.heap.size->V2.heap.size=V.heap.size->(∃ r,W2.heap[l]? = some (.loop r))->body.wpIn (Fence.wide.inRound l) n Tryz.prog (oh Tp w.heap.size I Ix (i + 1) W2) a1 W2) (fun _ _ _=>False)) { tmps:=(ps.zip args).foldl (fun t (p,v)=>t.setIfInBounds p v) tmps,defers:=[] } W
theorem hH{Tp:TypeId->Prop}{s N:Nat}(M:Itr Tp s lb N Ar Rd){g:Operand}{Q:Exit->Act->World->Prop}{a:Act}(T:a.eval g=.func (.func s) #[] lb)(R:∀ args w,(callFunc s args).run Tryz.prog w=.ok (.enter s args) w)(t:∀ i args n V W,Ar i args n V->Cel V W->Ar i args n W)(H:∀ i args n V,Ar i args n V->args.size=ps.size)(I:Nat->World->Prop)(Ix:Code->Nat->World->Prop)(y:∀ i,St w.heap.size (I i))(l:∀ c i,St w.heap.size (Ix c i))(z:∀ i V,I i V->Rd V)(Z:I 0 w)(f:RoundW Tp w N n ps assign body a.tmps Ar I Ix)(q:∀ D W,w.heap.size<=D->W.heap[D]? = some (.deferred (some []))->I N W->Q .normal { a with defers:={ target:=.collected D,args:=#[] } :: a.defers } W)(o:∀ D c i W,w.heap.size<=D->W.heap[D]? = some (.deferred (some []))->i < N->Ix c (i + 1) W->c.wpIn Fence.wide n Tryz.prog Q { a with defers:={ target:=.collected D,args:=#[] } :: a.defers } W) :
  (Code.rangeFunc g ps assign body).wpIn Fence.wide n Tryz.prog Q a w:=by
 refine wpIn_rangeFunc ?_
 intro fn _;obtain⟨d,b⟩:∃ d,(w.alloc (.deferred (some []))).alloc (.loop (db fn a.tmps ps assign body w.heap.size .ready none))=d:=⟨_,rfl⟩
 have J:Below w.heap.size w d:=by rw[<- b]; exact aj (ae w _) (ae _ _)
 have S:d.heap.size=w.heap.size + 1 + 1:=by rw[<- b]; simp
 have A:d.heap[w.heap.size + 1]? = some (.loop (db fn a.tmps ps assign body w.heap.size .ready none)):=by
  rw[<- b]; have:=World.alloc_heap_new (w.alloc (.deferred (some []))) (.loop (db fn a.tmps ps assign body w.heap.size .ready none)); rwa [World.size_alloc] at this
 have G:d.heap[w.heap.size]? = some (.deferred (some [])):=by
  rw[<- b]; exact(Below.heap_alloc _ _ _ (by simp)).trans (World.alloc_heap_new w _)
 refine⟨w.heap.size + 1,[{ target:=.collected w.heap.size,args:=#[] }],d,{ target:=.fn (.func s) lb,args:=#[.func (.yield (w.heap.size + 1)) #[] #[]] },d,s,
  #[.func (.yield (w.heap.size + 1)) #[] #[]] ++ lb,d,?_,?_,?_,?_,fun h=>(by cases h),?_⟩
 ·rw[<- b]; exact run_enterLoop_outer _ _ _ _ _
 ·simp only[resolve,T];simp[go_sem]
 ·intro f' _; trivial
 ·simp[invoke,go_sem,R]
 ·refine callsIn_wide.2 ?_
  refine(M (w.heap.size + 1)
   (fun i W=>I i W/\W.heap[w.heap.size + 1]? = some (.loop (db fn a.tmps ps assign body w.heap.size .ready none))/\W.heap[w.heap.size]? = some (.deferred (some [])))
   (fun i W=>∃ c,Ix c i W/\W.heap[w.heap.size + 1]? = some (.loop (db fn a.tmps ps assign body w.heap.size .done (some c)))/\W.heap[w.heap.size]? = some (.deferred (some [])))
   d (fun i X Y hx p=>⟨y i X Y hx.1 (p.mono (by omega)),p.same _ _ hx.2.1 (.inl (by omega)),p.same _ _ hx.2.2 (.inl (by omega))⟩)
   (fun i X Y hx p=>by obtain⟨c,C,F,E⟩:=hx; exact⟨c,l c i X Y C (p.mono (by omega)),p.same _ _ F (.inl (by omega)),p.same _ _ E (.inl (by omega))⟩)
   (fun i V hv=>z i V hv.1) ?_ ⟨y 0 _ _ Z (Rec.of J),A,G⟩).mono ?_
  ·rintro i args V U m ⟨hi,j,r⟩ L hb K;refine(jc (B:=w.heap.size) t y l (by omega) j hi hb K (H _ _ _ _ K) (f _ i args V U (by omega) (lt_of_block j) ⟨_,j⟩ m hi hb K)).mono ?_
   rintro e O ⟨u,h⟩;have x:=u.same _ _ (Nat.le_refl _) (by omega) ((hb.block _ (lt_of_block r)).trans r) mD;refine⟨u.from (by omega) (by omega),h.imp (fun h=>⟨h.1,h.2.1,h.2.2,x⟩) (fun h => ?_)⟩;obtain⟨C,c,F,E⟩:=h;exact⟨C,c,F,E,x⟩
  ·rintro e W2 ⟨⟨v,rfl⟩,L,⟨hi,j,r⟩ | ⟨i,m,c,hi,j,r⟩⟩
   ·exact⟨none,_,run_endLoop (P:=Tryz.prog) j (by simp[db]),q _ _ (Nat.le_refl _) ((World.putObj_heap_other (by omega)).trans r) (y _ _ _ hi (Rec.put j rfl (by omega) _))⟩
   ·exact⟨some c,_,run_endLoop (P:=Tryz.prog) j (by simp[db]),o _ c i _ (Nat.le_refl _) ((World.putObj_heap_other (by omega)).trans r) m (l c _ _ _ hi (Rec.put j rfl (by omega) _))⟩
end
end Pg
end
section
namespace Pg
open Go.RowKit Go.Lib
section
variable {a b:Nat}{w:World}{v fv tv:Value}{t f:List Int}{D:Nat->Prop}{P:List (List En)}{F:Nat → Prop}{L:List Pg}
def cut{α:Type}(l:List α)(a b:Nat):List α:=(l.drop a).take (max a b - a)
theorem uy{α:Type}{l:List α}{j:Nat}{x:α}(h:(cut l a b)[j]? = some x):l[a + j]? = some x:=by
 unfold cut at h;rw[List.getElem?_take] at h;split at h
 ·rw[List.getElem?_drop] at h; exact h
 ·cases h
theorem uN{α:Type}{l:List α}(ha:a<=l.length)(hb:b<=l.length):(cut l a b).length=max a b - a:=by
 unfold cut;rw[List.length_take,List.length_drop]; omega
def eH(P:List (List En))(t:List Int):Nat:=if t=[] then P.length else min (pgi P t + 1) P.length
def ui(es:List En)(t:List Int):Nat:=if t=[] then es.length else plc (kys es) t
def wth(es:List En)(f t:List Int):List En:=cut es (plc (kys es) f) (ui es t)
def wlk(P:List (List En))(f t:List Int):List En:=(cut P (pgi P f) (eH P t)).flatMap fun es=>wth es f t
theorem mL(h:By w v t):Calls Tryz.prog 173 #[v] w fun e w'=>e=.returned (.bool (decide (t≠[])))/\w'=w:=by
 obtain⟨n,c,rfl,m,g,j,i,d⟩:=h.ex
 have f:(decide (t≠[]))=decide ((0:Int) < (t.length:Int)):=by
  cases t with
  | nil=>rfl
  | cons a l=>simp
 rw[f];clear h d
 have b:decide ((0:Int) < (t.length:Int))=decide (0 < t.length):=by congr 1; exact propext ⟨fun h=>by omega,fun h=>by omega⟩
 rw[b];go_enter Tryz.func173,Tryz.ntmps173;go_wp2;go_ret;exact⟨rfl,rfl⟩
structure SpA(w:World)(F:Nat->Prop)(v:Value)(Q:List Pg):Prop where
 ex:∃ ao c,v=.slice ao Q.length c/\Q.length<=c/\c<=9223372036854775807/\∀ j p,Q[j]? = some p->∃ b o,ao=some ⟨b,o,none⟩/\F b/\w.cell? ⟨b,o + j,none⟩=some p.v
structure ESl(w:World)(q:Nat)(v:Value)(es:List En):Prop where
 ex:∃ ao c,v=.slice ao es.length c/\es.length<=c/\c<=9223372036854775807/\∀ j e,es[j]? = some e->∃ o,ao=some ⟨q,o,none⟩/\w.cell? ⟨q,o + j * 2,none⟩=some e.kv/\w.cell? ⟨q,o + j * 2 + 1,none⟩=some e.vv
theorem si{p:Pg}(A:PgA w D p)(S:Srt (kys p.es))(hf:By w fv f)(L:By w tv t)(hn:p.es.length<=1000000) :
  Calls Tryz.prog 126 #[p.v,fv,tv] w fun e w'=>∃ v,e=.returned v/\ESl w' p.b v (wth p.es f t)/\Below w.heap.size w w':=by
 have t1:=gY A S hf hn
 have r:∀ w',Below w.heap.size w w'->Calls Tryz.prog 173 #[tv] w' _:=fun w' l=>mL (L.keep l)
 have t2:∀ w',Below w.heap.size w w'->Calls Tryz.prog 174 #[p.v,tv] w' _:=fun w' l=>gY (A.keep l) S (L.keep l) hn
 have i:=A.row;have o:=i.le;simp only[maxLen] at o;have Q:=o.1;have P:=o.2;have z:=o9 (kys p.es) f;have M:=o9 (kys p.es) t
 have C:(kys p.es).length=p.es.length:=by simp[kys]
 rw[C] at z M
 have g:∀ (F:Option Addr) (k c y:Nat) (w':World),ui p.es t=y->y<=p.es.length->Below w.heap.size w w'->k=max (plc (kys p.es) f) y - plc (kys p.es) f->k<=c->c<=9223372036854775807->(k=0\/F=some ⟨p.b,plc (kys p.es) f * 2,none⟩)->ESl w' p.b (.slice F k c) (wth p.es f t):=fun F k c y w' he hy l J I hc O=>by
  have K:(wth p.es f t).length=k:=by
   unfold wth; rw[he,uN z hy,J]
  refine⟨F,c,by rw[K],by rw[K]; exact I,hc,fun j e R => ?_⟩;have N:=(List.getElem?_eq_some_iff.1 R).1;rw[K] at N
  have u:=uy (show (cut p.es (plc (kys p.es) f) (ui p.es t))[j]? = some e from R);have J:=(i.keep l).cell (qd u);have hv:=(i.keep l).cell (ki u);refine⟨plc (kys p.es) f * 2,O.resolve_left (by omega),?_,?_⟩
  ·rw[<- Nat.add_mul]; exact J
  ·rw[<- Nat.add_mul]; exact hv
 have g:Hid _:=g
 have n:Hid (ui p.es t=if t=[] then p.es.length else plc (kys p.es) t):=rfl;generalize hx:plc (kys p.es) f=x at *
 have W:Hid _:=hx;generalize hy:plc (kys p.es) t=y at *
 have Y:Hid _:=hy;generalize thr (kys p.es) f=bx at *;generalize thr (kys p.es) t=U at *
 simp only[Pg.v] at t1 t2 ⊢;generalize hm:p.es.length=m at *
 have X:Hid _:=hm
 have z0:(0:Int)<=(x:Int):=by omega
 have z1:(x:Int)<=(m:Int):=by omega
 clear A S hf L i o C hx hy hm;by_cases s:t=[]
 ·have B:decide (t≠[])=false:=by simp[s]
  rw[B] at r
  have he:Hid (ui p.es t=m):=by show _=_; rw[n.out,if_pos s]
  clear s B t2 n;go_enter Tryz.func126,Tryz.ntmps126
  go_wp2_with (first
   | (go_at_call 174; refine t1.mono ?_; rintro G E ⟨rfl,d⟩; have q:=r E d; clear t1 r)
   | (go_at_call 173; refine q.mono ?_; rintro G T ⟨rfl,rfl⟩))
  all_goals (
   go_ret
   exact⟨_,rfl,g.out _ _ _ m _ he.out (Nat.le_refl _) d (by omega) (by omega) (by omega) (by first | exact .inr rfl | exact .inl (by omega) | exact .inl rfl),d⟩)
 ·have B:decide (t≠[])=true:=by simp[s]
  rw[B] at r
  have he:Hid (ui p.es t=y):=by show _=_; rw[n.out,if_neg s]
  have mk:True:=trivial;clear s B n;go_enter Tryz.func126,Tryz.ntmps126
  go_wp2_with (first
   | (go_at_call 174; clear mk; refine t1.mono ?_; rintro G E ⟨rfl,d⟩; have q:=r E d; have t21:=t2 E d; clear t1 r t2)
   | (go_at_call 173; refine q.mono ?_; rintro G T ⟨rfl,rfl⟩)
   | (go_at_call 174; refine t21.mono ?_; rintro G V ⟨rfl,H⟩; have l:=aj d H))
  all_goals (
   go_ret
   exact⟨_,rfl,g.out _ _ _ y _ he.out (by omega) l (by omega) (by omega) (by omega) (by first | exact .inr rfl | exact .inl (by omega) | exact .inl rfl),l⟩)
theorem AE(k:List Int):pgi P k<=P.length:=by
 have h1:=pN (fks P) k;simp only[fks,List.length_map] at h1;unfold pgi fks;omega
theorem xL{D:Nat → Prop}{g:Nat}(A : bJ w F D g L)(O : Ord (ens L))(hf : By w fv f)(ht : By w tv t)(hn : L.length ≤ 100000000) :
    Calls Tryz.prog 125 #[.pointer (some ⟨g, 0, none⟩), fv, tv] w fun e w' => ∃ v, e = .returned v ∧ SpA w' F v (cut L (pgi (ens L) f) (eH (ens L) t)) ∧ Below w.heap.size w w' := by
  have t1 := iO A.drew O hf.drew (by omega)
  have H : ∀ w', Below w.heap.size w w' → Calls Tryz.prog 173 #[tv] w' _ := fun w' z => mL (ht.keep z)
  have t2 : ∀ w', Below w.heap.size w w' → Calls Tryz.prog 172 #[.pointer (some ⟨g, 0, none⟩), tv] w' _ := fun w' z => iO (A.keep z) O (ht.keep z) (by omega)
  obtain⟨S, c, hc, hc1, hc2, Q⟩:= A.rd
  have J : (ens L).length = L.length := by simp[ens]
  have V : pgi (ens L) f ≤ L.length := by rw[← J]; exact AE f
  have hl2 : pgi (ens L) t ≤ L.length := by rw[← J]; exact AE t
  have W : ∀ G, S = some ⟨G, 0, none⟩ → F G := fun G e => by
    obtain⟨pv, hb, hg, ⟨rfl, rfl⟩ | ⟨G', C, rfl, Z, hR⟩⟩:= A.top
    · have := hb.cell (i := 0) rfl
      rw[hc] at this
      cases this
      cases e
    · have := hb.cell (i := 0) rfl
      rw[hc] at this
      cases this
      cases e;exact Z
  have m : ∀ (X : Option Addr) (k d y : Nat) (w' : World), eH (ens L) t = y → y ≤ L.length → Below w.heap.size w w' → k = max (pgi (ens L) f) y - pgi (ens L) f → k ≤ d → d ≤ 9223372036854775807 → (k = 0 ∨ ∀ b o, S = some ⟨b, o, none⟩ → X = some ⟨b, o + pgi (ens L) f, none⟩) → SpA w' F (.slice X k d) (cut L (pgi (ens L) f) (eH (ens L) t)) := fun X k d y w' he hy z hk hkd R hbo => by
    have hl : (cut L (pgi (ens L) f) (eH (ens L) t)).length = k := by rw[he, uN V hy, hk]
    refine⟨X, d, by rw[hl], by rw[hl]; exact hkd, R, fun j p hj => ?_⟩;have hjk := (List.getElem?_eq_some_iff.1 hj).1;rw[hl] at hjk
    have Y := uy hj;obtain⟨G, rfl, cG⟩:= Q _ p Y
    exact⟨G, 0 + pgi (ens L) f, (hbo.resolve_left (by omega)) G 0 rfl, W G rfl, by
      rw[Nat.zero_add, z.cell (p := ⟨G, pgi (ens L) f + j, none⟩) (aI cG)]; exact cG⟩
  have m : Hid _ := m
  have E : Hid (eH (ens L) t = if t = [] then L.length else min (pgi (ens L) t + 1) L.length) := by show _ = _; unfold eH; rw[J]
  have K := aI hc
  have Q : Hid _ := Q
  have U : Hid (S = none ∨ ∃ G, S = some ⟨G, 0, none⟩) := by
    obtain⟨pv, hb, hg, ⟨rfl, rfl⟩ | ⟨G, C, rfl, Z, hR⟩⟩:= A.top
    · have := hb.cell (i := 0) rfl
      rw[hc] at this
      cases this;exact .inl rfl
    · have := hb.cell (i := 0) rfl
      rw[hc] at this
      cases this;exact .inr ⟨G, rfl⟩
  have I : S = none → c = 0 := by
    intro e;obtain⟨pv, hb, hg, ⟨rfl, rfl⟩ | ⟨G, C, rfl, Z, hR⟩⟩:= A.top
    · have := hb.cell (i := 0) rfl
      rw[hc] at this
      cases this;rfl
    · have := hb.cell (i := 0) rfl
      rw[hc] at this
      cases this
      cases e
  generalize hx : pgi (ens L) f = x at *
  have HX : Hid _ := hx;generalize hy : pgi (ens L) t = y at *
  have HY : Hid _ := hy;obtain⟨n, hnn⟩ : ∃ n, Hid (L.length = n) := ⟨_, rfl⟩;rw[hnn.out] at hc hc1 V hl2 hn m E
  have P : w.drew.cell? ⟨g, 0, none⟩ = some (.slice S n c) := hc
  have z0 : (0 : Int) ≤ (x : Int) := by omega
  have z1 : (x : Int) ≤ (n : Int) := by omega
  have zw : IntKind.i64.wrap ((y : Int) + 1) = (y : Int) + 1 := by rw[IntKind.wrap_i64]; omega
  have M := bV w;have HN := U.out;clear A O hf ht hx hy J W;by_cases T : t = []
  · have R : decide (t ≠ []) = false := by simp[T]
    rw[R] at H
    have he : Hid (eH (ens L) t = n) := by show _ = _; rw[E.out, if_pos T]
    clear T R t2 E;rcases HN with rfl | ⟨G, rfl⟩
    · obtain rfl : c = 0 := I rfl
      obtain rfl : n = 0 := by omega
      obtain rfl : x = 0 := by omega
      go_enter Tryz.func125, Tryz.ntmps125;go_wp2;go_region_held3 (fun w' => w'.cell? ⟨g, 0, none⟩ = some (.slice none 0 0)) (assumption)
        (first
          | (go_at_call 172; refine t1.mono ?_; rintro N u ⟨rfl, q⟩; have r : u.cell? ⟨g, 0, none⟩ = _ := (q.cell (p := ⟨g, 0, none⟩) K).trans P; have l := aj M q))
      have s := H u l;clear t1 H;go_wp2_with (go_at_call 173; refine s.mono ?_; rintro N w2 ⟨rfl, rfl⟩)
      all_goals (
        go_ret
        exact⟨_, rfl, m.out _ _ _ 0 _ he.out (by omega) l (by omega) (by omega) (by omega) (by first | exact .inl (by omega) | exact .inr (fun b o e => by cases e; simp)), l⟩)
    · clear I
      go_enter Tryz.func125, Tryz.ntmps125;go_wp2;go_region_held3 (fun w' => w'.cell? ⟨g, 0, none⟩ = some (.slice (some ⟨G, 0, none⟩) n c)) (assumption)
        (first
          | (go_at_call 172; refine t1.mono ?_; rintro N u ⟨rfl, q⟩; have r : u.cell? ⟨g, 0, none⟩ = _ := (q.cell (p := ⟨g, 0, none⟩) K).trans P; have l := aj M q))
      have s := H u l;clear t1 H;go_wp2_with (go_at_call 173; refine s.mono ?_; rintro N w2 ⟨rfl, rfl⟩)
      all_goals (
        go_ret
        exact⟨_, rfl, m.out _ _ _ n _ he.out (by omega) l (by omega) (by omega) (by omega) (by first | exact .inl (by omega) | exact .inr (fun b o e => by cases e; simp)), l⟩)
  · have R : decide (t ≠ []) = true := by simp[T]
    rw[R] at H
    have he : Hid (eH (ens L) t = min (y + 1) n) := by show _ = _; rw[E.out, if_neg T]
    clear T R E;rcases HN with rfl | ⟨G, rfl⟩
    · obtain rfl : c = 0 := I rfl
      obtain rfl : n = 0 := by omega
      obtain rfl : x = 0 := by omega
      go_enter Tryz.func125, Tryz.ntmps125;go_wp2;go_region_held3 (fun w' => w'.cell? ⟨g, 0, none⟩ = some (.slice none 0 0)) (assumption)
        (first
          | (go_at_call 172; refine t1.mono ?_; rintro N u ⟨rfl, q⟩; have r : u.cell? ⟨g, 0, none⟩ = _ := (q.cell (p := ⟨g, 0, none⟩) K).trans P; have l := aj M q))
      have s := H u l;have t21 := t2 u l;clear t1 H t2
      go_wp2_with (first
        | (go_at_call 173; refine s.mono ?_; rintro N w2 ⟨rfl, rfl⟩)
        | (go_at_call 172; refine t21.mono ?_; rintro N w3 ⟨rfl, B⟩; have cg3 : w3.cell? ⟨g, 0, none⟩ = _ := (B.cell (p := ⟨g, 0, none⟩) (aI r)).trans r; have z := aj l B))
      all_goals (
        go_ret
        exact⟨_, rfl, m.out _ _ _ (min (y + 1) 0) _ he.out (by omega) z (by omega) (by omega) (by omega) (by first | exact .inl (by omega) | exact .inr (fun b o e => by cases e; simp)), z⟩)
    · clear I
      go_enter Tryz.func125, Tryz.ntmps125;go_wp2;go_region_held3 (fun w' => w'.cell? ⟨g, 0, none⟩ = some (.slice (some ⟨G, 0, none⟩) n c)) (assumption)
        (first
          | (go_at_call 172; refine t1.mono ?_; rintro N u ⟨rfl, q⟩; have r : u.cell? ⟨g, 0, none⟩ = _ := (q.cell (p := ⟨g, 0, none⟩) K).trans P; have l := aj M q))
      have s := H u l;have t21 := t2 u l;clear t1 H t2
      go_wp2_with (first
        | (go_at_call 173; refine s.mono ?_; rintro N w2 ⟨rfl, rfl⟩)
        | (go_at_call 172; refine t21.mono ?_; rintro N w3 ⟨rfl, B⟩; have cg3 : w3.cell? ⟨g, 0, none⟩ = _ := (B.cell (p := ⟨g, 0, none⟩) (aI r)).trans r; have z := aj l B))
      all_goals (
        go_ret
        exact⟨_, rfl, m.out _ _ _ (min (y + 1) n) _ he.out (by omega) z (by omega) (by omega) (by omega) (by first | exact .inl (by omega) | exact .inr (fun b o e => by cases e; simp)), z⟩)
end
end Pg
end
end Go.Proofs.YthfepflplbahkaaGreatDoor
