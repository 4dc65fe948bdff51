import Derived.Test.YtidnifmehnjipaaGreatJaa
import Derived.Lib.BytesEntry
import Derived.WalkMore
import Derived.Deep.RegionWith
import Derived.RangeFuncNested
import Derived.RangeFuncBound
import Derived.RangeFuncCalls
import Derived.RangeFuncLeaves
set_option maxRecDepth 100000
set_option maxHeartbeats 8000000
namespace Go.Proofs.YtidnifmehnjipaaGreat
section
namespace Pg
open Go.RowKit Go.Lib
section
variable {w w':World}{k b n c m:Nat}{xs ys:List Value}{F:Nat->Prop}{v:Value}
structure Rw(w:World)(E:TypeId)(k b n c:Nat)(xs:List Value):Prop where
 ex:∃ sp,Blk w b (xs ++ sp) E/\xs.length=n * k/\(xs ++ sp).length=c * k/\n<=c/\c<=maxLen
theorem Rw.lt{E:TypeId}(h:Rw w E k b n c xs):b < w.heap.size:=by
 obtain⟨sp,h,_⟩:=h.ex;exact h.lt
theorem Rw.same{E:TypeId}(h:Rw w E k b n c xs)(hb:w'.heap[b]?=w.heap[b]?):Rw w' E k b n c xs:=by
 obtain⟨sp,h,h'⟩:=h.ex;exact⟨sp,h.same hb,h'⟩
theorem Rw.keep{E:TypeId}(h:Rw w E k b n c xs)(hb:Below w.heap.size w w'):Rw w' E k b n c xs:=h.same (hb.block b h.lt)
theorem Rw.chg{E:TypeId}(h:Rw w E k b n c xs)(hb:Chg F w w')(hg:¬ F b):Rw w' E k b n c xs:=h.same (hb.same b h.lt hg)
theorem Rw.drew{E:TypeId}(h:Rw w E k b n c xs):Rw w.drew E k b n c xs:=h.same rfl
theorem Rw.len{E:TypeId}(h:Rw w E k b n c xs):xs.length=n * k:=by
 obtain⟨sp,h,h',_⟩:=h.ex;exact h'
theorem Rw.le{E:TypeId}(h:Rw w E k b n c xs):n<=c/\c<=maxLen:=by
 obtain⟨sp,h,_,_,h'⟩:=h.ex;exact h'
theorem Rw.cell{E:TypeId}(h:Rw w E k b n c xs){i:Nat}(hi:xs[i]?=some v):w.cell? ⟨b,i,none⟩=some v:=by
 obtain⟨sp,h,_⟩:=h.ex;exact h.cell (by rw[List.getElem?_append_left (List.getElem?_eq_some_iff.1 hi).1];exact hi)
theorem Rw.free{E:TypeId}(h:Rw w E k b n c xs)(i:Nat):w.frozen? ⟨b,i,none⟩=false:=by
 obtain⟨sp,h,_⟩:=h.ex;exact h.free i
theorem Rw.kind{E:TypeId}(h:Rw w E k b n c xs):∃ cs,Blk w b cs E:=by
 obtain⟨sp,h,_⟩:=h.ex;exact⟨_,h⟩
theorem Rw.set{E:TypeId}(h:Rw w E k b n c xs)(i:Nat)(hi:i < xs.length)(v:Value):Rw (w.setCell ⟨b,i,none⟩ v) E k b n c (xs.set i v):=by
 obtain⟨sp,h,e,a,d⟩:=h.ex;refine⟨sp,?_,by simpa using e,by simpa using a,d⟩;have:=h.setCell (i:=i) v;rwa [List.set_append_left _ _ hi] at this
theorem uR{E:TypeId}(h:Blk w b xs E)(hx:xs.length=n * k)(hn:n<=maxLen):Rw w E k b n n xs:=⟨[],by simpa using h,hx,by simpa using hx,Nat.le_refl _,hn⟩
theorem Rw.front{E:TypeId}(h:Rw w E k b n c xs)(hm:m<=n):Rw w E k b m c (xs.take (m * k)):=by
 obtain⟨sp,h,g,a,e,d⟩:=h.ex
 have f:m * k<=n * k:=Nat.mul_le_mul_right _ hm;refine⟨xs.drop (m * k) ++ sp,by rw[<- List.append_assoc,List.take_append_drop];exact h,by rw[List.length_take];omega,by rw[<- List.append_assoc,List.take_append_drop];exact a,by omega,d⟩
theorem Rw.more{E:TypeId}(h:Rw w E k b n c xs)(hm:n+m<=c):∃ s,s.length=m * k/\Rw w E k b (n+m) c (xs ++ s):=by
 obtain⟨sp,h,f,a,e,d⟩:=h.ex
 have g:n * k+m * k<=c * k:=by rw[<- Nat.add_mul];exact Nat.mul_le_mul_right _ hm
 rw[List.length_append] at a;refine⟨sp.take (m * k),by rw[List.length_take];omega,sp.drop (m * k),?_,?_,?_,hm,d⟩
 ·rw[List.append_assoc,List.take_append_drop];exact h
 ·rw[List.length_append,List.length_take,Nat.add_mul];omega
 ·rw[List.append_assoc,List.take_append_drop,List.length_append];exact a
theorem Rw.to{E:TypeId}(h:Rw w E k b n c xs)(e:xs=ys):Rw w E k b n c ys:=e▸h
end
section
variable {P:Program} {w:World} {T E:TypeId} {k bytes:Nat} {z:Value}
section
variable {b n c g:Nat}{xs:List Value}
structure Kd(P:Program)(T E:TypeId)(k bytes:Nat)(z:Value):Prop where
 und:P.underlying T=some (.slice E)
 inf:(P.info? E).map (fun i=>(i.zero,i.size,i.bytes))=some (some z,k,bytes)
 zs:z.cells.size=k
 z1:∀ v∈z.cells,v.oneCell'=true
 k0:0 < k
theorem Kd.size(h:Kd P T E k bytes z):(P.info? E).map (·.size)=some k:=by
 obtain⟨i,hi,hz,hs,hb⟩:=info_parts h.inf;rw[hi];simp[hs]
theorem Kd.sizeOf(h:Kd P T E k bytes z)(w:World):(Go.sizeOf E).run P w=.ok k w:=by
 obtain⟨i,hi,hz,hs,hb⟩:=info_parts h.inf;simp[Go.sizeOf,typeInfo,hi,hs]
theorem Kd.zero(h:Kd P T E k bytes z)(w:World):(zeroValue E).run P w=.ok z w:=by
 obtain⟨i,hi,hz,hs,hb⟩:=info_parts h.inf;simp[zeroValue,typeInfo,hi,hz]
theorem lH(w:World)(E:TypeId)(zc:Array Value)(k n c:Nat)(xs:List Value)(a:zc.size=k)(hx:xs.length=n * k)(hn:n<=c)(hc:c<=maxLen) :
  Rw (w.drew.alloc (.cells (xs.toArray ++ Builtin.zeroCells zc (c - n)) E)) E k w.heap.size n c xs :=
 ⟨(Builtin.zeroCells zc (c - n)).toList,⟨by
  have:=(aj w.drew (xs ++ (Builtin.zeroCells zc (c - n)).toList) E).blk;rw[show (xs ++ (Builtin.zeroCells zc (c - n)).toList).toArray=xs.toArray ++ Builtin.zeroCells zc (c - n) by apply Array.ext';simp] at this ⊢
  exact this⟩,hx,by
  rw[List.length_append,hx,Array.length_toList,size_zeroCells,a,<- Nat.add_mul];congr 1;omega,hn,hc⟩
theorem dh(H:Kd P T E k bytes z)(ty:TypeId)(R:Rw w E k b n c xs)(a:Addr)(m cc:Nat)(news:List Value)(l:news.length=m * k)(f:∀ j u,news[j]?=some u->w.cell? (a.add j)=some u)(y:∀ u∈news,u.oneCell'=true)(o:(n+m) * bytes<=140737488355328)(hm:n+m<=140737488355328) :
  ∃ b' c' w',(Builtin.append_ #[T,T] ty #[.slice (some ⟨b,0,none⟩) n c,.slice (some a) m cc]).run P w=.ok (.slice (some ⟨b',0,none⟩) (n+m) c') w'/\(b'=b\/b'=w.heap.size)/\Rw w' E k b' (n+m) c' (xs ++ news)/\Chg (·=b) w w':=by
 obtain⟨i,hi,t,A,hb⟩:=info_parts H.inf;obtain⟨sp,s,hx,hc,v,p⟩:=R.ex;subst A hb
 have q:n+m<=maxLen:=by simp only[maxLen];omega
 by_cases d:n+m<=c
 ·have h:n * i.size+news.length<=(xs ++ sp).toArray.size:=by
   rw[List.size_toArray,hc,l,<- Nat.add_mul];exact Nat.mul_le_mul_right _ d
  have r:=run_append_room (P:=P) w T ty E i H.und hi b n c (xs ++ sp).toArray s.blk a m cc news l f y d h;refine⟨b,c,_,r,.inl rfl,⟨sp.drop news.length,?_,by rw[List.length_append,hx,l,Nat.add_mul],?_,d,p⟩,(Chg.refl (·=b) w).row (g:=b) (.inl rfl) _⟩
  ·have:=s.row (xs ++ news ++ sp.drop news.length)
   have e:(xs ++ sp).toArray.toList.take (n * i.size) ++ news ++ (xs ++ sp).toArray.toList.drop (n * i.size+news.length)=xs ++ news ++ sp.drop news.length:=by
    rw[show (xs ++ sp).toArray.toList=xs ++ sp from rfl,<- hx,List.take_left,<- List.drop_drop,List.drop_left]
   rw[e];exact this
  ·have B:xs.length + sp.length=c * i.size:=by rw[<- List.length_append]; exact hc
   have C:n * i.size+m * i.size<=c * i.size:=by rw[<- Nat.add_mul];exact Nat.mul_le_mul_right _ d
   rw[List.length_append,List.length_append,List.length_drop];omega
 ·have holds:∀ j u,xs[j]? = some u->w.cell? ((⟨b,0,none⟩:Addr).add j)=some u:=fun j u x=>by rw[Addr.add_lit,Nat.zero_add]; exact R.cell x
  have r:=run_append_grow (P:=P) w T ty E i z H.und hi t ⟨b,0,none⟩ n c xs hx holds a m cc news l f (by omega) (by omega) (growslice_fits (by omega) o);refine⟨w.heap.size,_,_,r,.inr rfl,?_,(Chg.refl _ w).drew.alloc _⟩;have:=lH w E z.cells i.size (n+m) (grownCap w (n+m) c E) (xs ++ news) H.zs (by rw[List.length_append,hx,l,Nat.add_mul]) (grownCap_ge w _ _ _) (grownCap_le_maxLen w _ _ _ q);simpa using this
theorem er(H:Kd P T E k bytes z)(ty:TypeId)(a:Addr)(m cc:Nat)(news:List Value)(d:news.length=m * k)(c:∀ j u,news[j]?=some u->w.cell? (a.add j)=some u)(f:0 < m)(e:m * bytes<=140737488355328)(hm:m<=140737488355328) :
  ∃ c' w',(Builtin.append_ #[T,T] ty #[.slice none 0 0,.slice (some a) m cc]).run P w=.ok (.slice (some ⟨w.heap.size,0,none⟩) m c') w'/\Rw w' E k w.heap.size m c' news/\Below w.heap.size w w':=by
 obtain⟨i,hi,g,l,hb⟩:=info_parts H.inf;subst l hb;have h:=run_append_nil (P:=P) w T ty E i z H.und hi g a m cc news d c f (by omega) (by omega);refine⟨_,_,h,?_,?_⟩
 ·exact lH w E z.cells i.size m (grownCap w m 0 E) news H.zs d (grownCap_ge w _ _ _) (grownCap_le_maxLen w _ _ _ (by simp only[maxLen];omega))
 ·exact(Below.refl _ w).trans ⟨rfl,rfl,rfl,by simp,fun b hb=>by
   have:=(af w.drew (.cells (news.toArray ++ Builtin.zeroCells z.cells (grownCap w m 0 E - m)) E)).block b hb
   exact this⟩
theorem oL(H:Kd P T E k bytes z)(tn ty:TypeId)(hn:P.underlying tn=some (.int .i64))(R:Rw w E k b n c xs)(m:Nat)(g:0 < m)(hc:c < n+m)(a:(n+m) * bytes<=140737488355328)(hm:n+m<=140737488355328) :
  ∃ c' w',(Builtin.append_ #[T,tn] ty #[.slice (some ⟨b,0,none⟩) n c,.int .i64 m]).run P w=.ok (.slice (some ⟨w.heap.size,0,none⟩) (n+m) c') w'/\Rw w' E k w.heap.size (n+m) c' (xs ++ (Builtin.zeroCells z.cells m).toList)/\Below w.heap.size w w':=by
 obtain⟨i,hi,d,l,hb⟩:=info_parts H.inf;have hx:=R.len;subst l hb
 have hold:(Builtin.firstCells i.size n (.slice (some ⟨b,0,none⟩) n c)).run P w.drew=.ok xs.toArray w.drew :=
  run_firstCells_some w.drew i.size n ⟨b,0,none⟩ n c xs hx (fun j v e=>by rw[Addr.add_lit,Nat.zero_add];exact R.cell e)
 have f:m * i.bytes<=(n+m) * i.bytes:=Nat.mul_le_mul_right _ (by omega);have h:=run_append_grow_zeros w T tn ty E i z .i64 .i64 H.und hn hi d (some ⟨b,0,none⟩) n c xs hold m g H.k0 hc (by omega) (by omega) (growslice_fits hc a);refine⟨_,_,h,?_,?_⟩
 ·have:=lH w E z.cells i.size (n+m) (grownCap w (n+m) c E) (xs ++ (Builtin.zeroCells z.cells m).toList) H.zs (by rw[List.length_append,hx,Array.length_toList,size_zeroCells,H.zs,Nat.add_mul]) (grownCap_ge w _ _ _) (grownCap_le_maxLen w _ _ _ (by simp only[maxLen];omega));rw[show (xs ++ (Builtin.zeroCells z.cells m).toList).toArray=xs.toArray ++ Builtin.zeroCells z.cells m by apply Array.ext';simp] at this;exact this
 ·exact⟨rfl,rfl,rfl,by simp,fun b hb=>(af w.drew (.cells (xs.toArray ++ Builtin.zeroCells z.cells m ++ Builtin.zeroCells z.cells (grownCap w (n+m) c E - (n+m))) E)).block b hb⟩
theorem oy(H:Kd P T E k bytes z)(tn ty:TypeId)(hn:P.underlying tn=some (.int .i64))(m:Nat)(c:0 < m)(a:m * bytes<=140737488355328)(hm:m<=140737488355328) :
  ∃ c' w',(Builtin.append_ #[T,tn] ty #[.slice none 0 0,.int .i64 m]).run P w=.ok (.slice (some ⟨w.heap.size,0,none⟩) m c') w'/\Rw w' E k w.heap.size m c' (Builtin.zeroCells z.cells m).toList/\Below w.heap.size w w':=by
 obtain⟨i,hi,d,f,hb⟩:=info_parts H.inf;subst f hb;have e:=run_append_nil_zeros w T tn ty E i z .i64 .i64 H.und hn hi d m c H.k0 (by omega) (by omega);refine⟨_,_,e,?_,?_⟩
 ·have:=lH w E z.cells i.size m (grownCap w m 0 E) (Builtin.zeroCells z.cells m).toList H.zs (by rw[Array.length_toList,size_zeroCells,H.zs]) (grownCap_ge w _ _ _) (grownCap_le_maxLen w _ _ _ (by simp only[maxLen];omega));simpa using this
 ·exact⟨rfl,rfl,rfl,by simp,fun b hb=>(af w.drew (.cells (Builtin.zeroCells z.cells m ++ Builtin.zeroCells z.cells (grownCap w m 0 E - m)) E)).block b hb⟩
theorem ez(H:Kd P T E k bytes z)(ty:TypeId)(R:Rw w E k g n c xs)(o dLen dCap:Nat)(a:Addr)(sLen sCap:Nat)(cs:List Value)(m:Nat)(hm:Nat.min sLen dLen=m)(hn:cs.length=m * k)(d:∀ j v,cs[j]?=some v->w.cell? (a.add j)=some v)(b:o+cs.length<=xs.length)(p:∀ v∈cs,v.oneCell'=true) :
  ∃ w',(Builtin.copy_ #[T,T] ty #[.slice (some ⟨g,o,none⟩) dLen dCap,.slice (some a) sLen sCap]).run P w=.ok (goInt m) w'/\Rw w' E k g n c (splice xs o cs)/\Chg (·=g) w w':=by
 obtain⟨sp,l,hx,hc,h,f⟩:=R.ex;have q:=yg (P:=P) w T T ty E k g o dLen dCap a sLen sCap (xs ++ sp) cs E H.und H.size l m hm hn d (by rw[List.length_append];omega) p
 have e:splice (xs ++ sp) o cs=splice xs o cs ++ sp:=by
  rw[ep,ep,List.take_append_of_le_length (by omega),List.drop_append_of_le_length (by omega),List.append_assoc,List.append_assoc,List.append_assoc]
 have i:=length_splice xs o cs b;refine⟨_,q,⟨sp,by rw[e];exact l.row _,by rw[i];exact hx,by rw[List.length_append,i,<- List.length_append];exact hc,h,f⟩,(Chg.refl (·=g) w).row (g:=g) (.inl rfl) _⟩
theorem jK(H:Kd P T E k bytes z)(ty:TypeId)(R:Rw w E k b n c xs)(a:Addr)(m cc:Nat)(news:List Value)(o:news.length=m * k)(f:∀ j u,news[j]?=some u->w.cell? (a.add j)=some u)(q:∀ u∈news,u.oneCell'=true)(d:n+m<=c) :
  ∃ w',(Builtin.append_ #[T,T] ty #[.slice (some ⟨b,0,none⟩) n c,.slice (some a) m cc]).run P w=.ok (.slice (some ⟨b,0,none⟩) (n+m) c) w'/\Rw w' E k b (n+m) c (xs ++ news)/\Chg (·=b) w w':=by
 obtain⟨i,hi,x,t,hb⟩:=info_parts H.inf;obtain⟨sp,p,hx,hc,r,l⟩:=R.ex;subst t hb
 have h:n * i.size+news.length<=(xs ++ sp).toArray.size:=by
  rw[List.size_toArray,hc,o,<- Nat.add_mul];exact Nat.mul_le_mul_right _ d
 have s:=run_append_room (P:=P) w T ty E i H.und hi b n c (xs ++ sp).toArray p.blk a m cc news o f q d h;refine⟨_,s,⟨sp.drop news.length,?_,by rw[List.length_append,hx,o,Nat.add_mul],?_,d,l⟩,(Chg.refl (·=b) w).row (g:=b) (.inl rfl) _⟩
 ·have:=p.row (xs ++ news ++ sp.drop news.length)
  have e:(xs ++ sp).toArray.toList.take (n * i.size) ++ news ++ (xs ++ sp).toArray.toList.drop (n * i.size+news.length)=xs ++ news ++ sp.drop news.length:=by
   rw[show (xs ++ sp).toArray.toList=xs ++ sp from rfl,<- hx,List.take_left,<- List.drop_drop,List.drop_left]
  rw[e];exact this
 ·have v:xs.length + sp.length=c * i.size:=by rw[<- List.length_append]; exact hc
  have y:n * i.size+m * i.size<=c * i.size:=by rw[<- Nat.add_mul];exact Nat.mul_le_mul_right _ d
  rw[List.length_append,List.length_append,List.length_drop];omega
theorem ir(H:Kd P T E k bytes z)(ty:TypeId)(R:Rw w E k g n c xs)(m cc:Nat)(hm:0 < m)(a:n+m<=c) :
  ∃ w',(Builtin.clear_ #[T] ty #[.slice (some ⟨g,n * k,none⟩) m cc]).run P w=.ok (.tuple #[]) w'/\Rw w' E k g n c xs/\Chg (·=g) w w':=by
 obtain⟨sp,f,hx,hc,d,b⟩:=R.ex
 have j:n * k+m * k<=c * k:=by rw[<- Nat.add_mul];exact Nat.mul_le_mul_right _ a
 have i:=tB (P:=P) w T ty E z k g (n * k) m cc (xs ++ sp) E H.und H.zero H.zs H.z1 f hm H.k0 (by omega)
 have e:splice (xs ++ sp) (n * k) (Builtin.zeroCells z.cells m).toList=xs ++ ((Builtin.zeroCells z.cells m).toList ++ sp.drop (Builtin.zeroCells z.cells m).toList.length):=by
  rw[ep,<- hx,List.take_left,<- List.drop_drop,List.drop_left,List.append_assoc]
 have h:((Builtin.zeroCells z.cells m).toList).length=m * k:=by rw[Array.length_toList,size_zeroCells,H.zs]
 refine⟨_,i,⟨_,by rw[e];exact f.row _,hx,?_,d,b⟩,(Chg.refl (·=g) w).row (g:=g) (.inl rfl) _⟩;rw[List.length_append] at hc ⊢;rw[List.length_append,List.length_drop,h];omega
end
end
theorem KE:Kd Tryz.prog 212 211 2 48 (.agg #[.slice none 0 0,.slice none 0 0]):=⟨by kernel_rfl,by kernel_rfl,rfl,by simp[Value.cells,Value.oneCell'],by decide⟩
theorem KP:Kd Tryz.prog 149 212 1 24 (.slice none 0 0):=⟨by kernel_rfl,by kernel_rfl,rfl,by simp[Value.cells,Value.oneCell'],by decide⟩
theorem kz:Tryz.prog.underlying 3=some (.int .i64):=by kernel_rfl
theorem mixed:Tryz.prog.follows .mixedOrders=true:=by kernel_rfl
section
variable {w:World} {b n c i vb:Nat} {xs:List Value} {e1 e2:Value}
theorem Aa (R:Rw w 211 2 b n c xs) (m:Blk w vb [e1,e2] 211) (hn:n<=1000000000) (g:∀ v∈[e1,e2],v.oneCell'=true) :
  Calls Tryz.prog 180 #[.slice (some ⟨b,0,none⟩) n c,.int .i64 n,.slice (some ⟨vb,0,none⟩) 1 1] w fun e w'=>∃ b' c',e=.returned (.slice (some ⟨b',0,none⟩) (n+1) c')/\(b'=b\/w.heap.size<=b')/\Rw w' 211 2 b' (n+1) c' (xs ++ [e1,e2])/\Chg (·=b) w w':=by
 obtain⟨b',c',W,p,f,r,o⟩:=dh KE 212 R ⟨vb,0,none⟩ 1 1 [e1,e2] rfl (fun j u q=>by rw[Addr.add_lit,Nat.zero_add];exact m.cell q) g (by omega) (by omega);have d:=R.le;simp only[maxLen] at d;have l:=d.1;have i:=d.2;clear d R m g;go_enter Tryz.func180,Tryz.ntmps180;go_wp2_with (at_builtin;refine Lib.wpList_append_run _ rfl _ _ _ _ rfl _ _ rfl rfl _ _ p ?_)
 all_goals (
  go_ret
  exact⟨b',c',rfl,f.imp id (fun e=>by omega),r,o⟩)
theorem yS (b:Blk w vb [e1,e2] 211) :
  Calls Tryz.prog 180 #[.slice none 0 0,.int .i64 0,.slice (some ⟨vb,0,none⟩) 1 1] w fun e w'=>∃ c',e=.returned (.slice (some ⟨w.heap.size,0,none⟩) 1 c')/\Rw w' 211 2 w.heap.size 1 c' [e1,e2]/\Below w.heap.size w w':=by
 obtain⟨c',W,d,g,c⟩:=er (w:=w) KE 212 ⟨vb,0,none⟩ 1 1 [e1,e2] rfl (fun j u f=>by rw[Addr.add_lit,Nat.zero_add];exact b.cell f) (by decide) (by decide) (by decide);clear b;go_enter Tryz.func180,Tryz.ntmps180;go_wp2_with (at_builtin;refine Lib.wpList_append_run _ rfl _ _ _ _ rfl _ _ rfl rfl _ _ d ?_);go_ret;exact⟨c',rfl,g,c⟩
theorem sL (R:Rw w 211 2 b n c xs) (p:Blk w vb [e1,e2] 211) (r:vb≠b) (hi:i < n) (g:n+1≤c) (H:∀ v ∈ xs,v.oneCell'=true) (D:∀ v ∈ [e1,e2],v.oneCell'=true) :
    Calls Tryz.prog 180 #[.slice (some ⟨b,0,none⟩) n c,.int .i64 i,.slice (some ⟨vb,0,none⟩) 1 1] w fun e w'=>e=.returned (.slice (some ⟨b,0,none⟩) (n+1) c)∧Rw w' 211 2 b (n+1) c (xs.take (i * 2) ++ [e1,e2] ++ xs.drop (i * 2))∧Chg (·=b) w w':=by
  have hx:=R.len;have d:=R.le;simp only[maxLen] at d;have J:=d.1;have F:=d.2
  have o:∃ cs,Blk w b cs 211∧cs.length=c * 2:=by
    obtain⟨sp,h,_,L,_⟩:= R.ex;exact⟨_,h,L⟩
  have y : ∀ (x z : Nat), (callFunc 221 #[.slice (some ⟨vb, 0, none⟩) 1 1, .slice (some ⟨b, (i + 1) * 2, none⟩) x z]).run Tryz.prog w = .ok (.value (.bool false)) w := fun x z => by
    obtain⟨cs,h,O⟩:= o
    rw[run_callFunc_extern Tryz.func221 (by kernel_rfl) (by kernel_rfl) (by kernel_rfl) (e := Extern.SlicesOverlaps.overlaps #[212, 212] #[4]) (by kernel_rfl),
      Lib.run_overlaps_apart w 212 4 211 KE.und 2 KE.sizeOf ⟨vb,0,none⟩ ⟨b,(i+1) * 2,none⟩ 1 1 x z r 211 211 2 (c * 2) (by simp[World.shape?,p.blk]) (by simp[World.shape?,h.blk];simpa using O) (by omega) (p.free _) (p.free _)]
    rfl
  have l:(xs.drop (i * 2)).length=(n - i) * 2:=by rw[List.length_drop,hx];omega
  obtain⟨s,B,C⟩:= R.drew.more (m:=1) g;obtain⟨I,Q,u,A⟩:= ez (w:=w.drew) KE 3 C ((i+1) * 2) (n - i) (c - (i+1)) ⟨b,i * 2,none⟩ (n+1 - i) (c - i) (xs.drop (i * 2)) (n - i) (by simp only[Nat.min_def];split <;> omega) l
    (fun j v t => by
      rw[List.getElem?_drop] at t;rw[Addr.add_lit]
      exact R.cell (w:=w) (by simpa using t)) (by rw[l,C.len];omega) (fun v T=>H v (List.mem_of_mem_drop T))
  have q:Blk I vb [e1,e2] 211:=p.drew.chg A r;obtain⟨S,K,E,G⟩:= ez (w:=I) KE 3 u (i * 2) (n+1 - i) (c - i) ⟨vb,0,none⟩ 1 1 [e1,e2] 1 (by simp only[Nat.min_def];split <;> omega) rfl
    (fun j v t=>by rw[Addr.add_lit,Nat.zero_add];exact q.cell t) (by rw[u.len];simp;omega) D
  have f:splice (splice (xs ++ s) ((i+1) * 2) (xs.drop (i * 2))) (i * 2) [e1,e2]=xs.take (i * 2) ++ [e1,e2] ++ xs.drop (i * 2):=by
    have h:=ry xs s [e1,e2] (i * 2) (by omega) (by simp[B])
    have V:s.drop ([e1,e2]:List Value).length=[]:=List.drop_of_length_le (by simp[B]);rw[V,List.append_nil] at h;simpa[Nat.add_mul] using h
  have U:=E.to f
  have Y:Chg (·=b) w S:=((Chg.refl _ w).drew.trans A (fun _ _ h=>h)).trans G (fun _ _ h=>h)
  have N:¬ ((i:Int)=(n:Int)):=by omega
  have P:IntKind.i64.wrap ((i:Int)+1)=(i:Int)+1:=by rw[IntKind.wrap_i64];omega
  have aa:(0:Int)≤(i:Int)+1:=by omega
  have W:i≤n:=by omega
  have M:((i:Int)+1).toNat=i+1:=by omega
  have X:¬ (c=i+1):=by omega
  have ab:(i:Int)≤(n:Int)+1:=by omega
  have Z:¬ (c=i):=by omega
  clear d R o C u E A G f p q B l H D;have mixed:=mixed;go_enter Tryz.func180,Tryz.ntmps180;go_wp2_with (simp only[y]);go_region;go_wp2;go_ret;exact⟨rfl,U,Y⟩
theorem xO (R:Rw w 211 2 b n c xs) (z:Blk w vb [e1,e2] 211) (hi:i < n) (A:c < n+1) (hn:n≤1000000000) (M:∀ v ∈ xs,v.oneCell'=true) (D:∀ v ∈ [e1,e2],v.oneCell'=true) :
    Calls Tryz.prog 180 #[.slice (some ⟨b,0,none⟩) n c,.int .i64 i,.slice (some ⟨vb,0,none⟩) 1 1] w fun e w'=>∃ c',e=.returned (.slice (some ⟨w.heap.size,0,none⟩) (n+1) c')∧Rw w' 211 2 w.heap.size (n+1) c' (xs.take (i * 2) ++ [e1,e2] ++ xs.drop (i * 2))∧Below w.heap.size w w':=by
  have hx:=R.len;have d:=R.le;simp only[maxLen] at d;have N:=d.1;have F:=d.2;have I:=R.lt;have L:=z.lt;obtain⟨c',B,r,q,p⟩:= oL KE 3 212 kz (R.front (m:=i) (by omega)) (n+1 - i) (by omega) (by omega) (by omega) (by omega);rw[show ((n+1 - i:Nat):Int)=(n:Int)+1 - (i:Int) by omega,show i+(n+1 - i)=n+1 by omega] at r;rw[show i+(n+1 - i)=n+1 by omega] at q;have f:=q.le;simp only[maxLen] at f;have E:=f.1;have K:=f.2
  have s:Blk B vb [e1,e2] 211:=z.keep p;obtain⟨o,Q,x,u⟩:= ez (w:=B) KE 3 q (i * 2) (n+1 - i) (c' - i) ⟨vb,0,none⟩ 1 1 [e1,e2] 1 (by simp only[Nat.min_def];split <;> omega) rfl
    (fun j v t=>by rw[Addr.add_lit,Nat.zero_add];exact s.cell t) (by rw[q.len];simp;omega) D
  have g:(xs.drop (i * 2)).length=(n - i) * 2:=by rw[List.length_drop,hx];omega
  have O:Rw o.drew 211 2 b n c xs:=((R.keep p).chg u (by show ¬ b=w.heap.size;omega)).drew;obtain⟨G,hr3,J,P⟩:= ez (w:=o.drew) KE 3 x.drew ((i+1) * 2) (n - i) (c' - (i+1)) ⟨b,i * 2,none⟩ (n - i) (c - i) (xs.drop (i * 2)) (n - i) (by simp) g
    (fun j v t => by
      rw[List.getElem?_drop] at t;rw[Addr.add_lit]
      exact O.cell (by simpa using t)) (by rw[g,x.len];omega) (fun v X=>M v (List.mem_of_mem_drop X))
  have l:splice (splice (xs.take (i * 2) ++ (Builtin.zeroCells (.agg #[.slice none 0 0,.slice none 0 0]:Value).cells (n+1 - i)).toList) (i * 2) [e1,e2]) ((i+1) * 2) (xs.drop (i * 2))=xs.take (i * 2) ++ [e1,e2] ++ xs.drop (i * 2):=by
    have hA:(xs.take (i * 2)).length=i * 2:=by rw[List.length_take,hx];omega
    generalize hZ:(Builtin.zeroCells (.agg #[.slice none 0 0,.slice none 0 0]:Value).cells (n+1 - i)).toList=Z
    have C:Z.length=(n+1 - i) * 2:=by rw[← hZ,Array.length_toList,size_zeroCells];rfl
    have q1:xs.take (i * 2) ++ Z=xs.take (i * 2) ++ Z.take 2 ++ Z.drop 2:=by rw[List.append_assoc,List.take_append_drop]
    rw[q1,eR _ (Z.take 2) [e1,e2] _ _ hA (by rw[List.length_take];simp;omega)];have Y:=eR (xs.take (i * 2) ++ [e1,e2]) (Z.drop 2) (xs.drop (i * 2)) [] ((i+1) * 2) (by rw[List.length_append,hA];simp <;> omega) (by rw[List.length_drop,C,g];omega);simpa using Y
  have R4:=J.to l
  have y:Below w.heap.size w G:=by
    have W:Below w.heap.size B o:=u.below (fun b hb=>by omega) (p.size)
    have T:Below w.heap.size o.drew G:=P.below (fun b hb=>by omega) (by have:=p.size;have:=u.size;show w.heap.size≤o.heap.size;omega);exact(p.trans W).trans ((⟨rfl,rfl,rfl,Nat.le_refl _,fun _ _=>rfl⟩:Below w.heap.size o o.drew).trans T)
  have U:¬ ((i:Int)=(n:Int)):=by omega
  have V:IntKind.i64.wrap ((i:Int)+1)=(i:Int)+1:=by rw[IntKind.wrap_i64];omega
  have hb1:(0:Int)≤(i:Int)+1:=by omega
  have hin:i≤n:=by omega
  have S:((i:Int)+1).toNat=i+1:=by omega
  have hb2:¬ (c'=i+1):=by omega
  have H:i+1≤n+1:=by omega
  have hb3:(i:Int)≤(n:Int)+1:=by omega
  have hb4:¬ (c'=i):=by omega
  have hb5:¬ (c=i):=by omega
  clear d f R q x J O u P p l z s g M D;have mixed:=mixed;go_enter Tryz.func180,Tryz.ntmps180;go_wp2_with (at_builtin;refine Lib.wpList_append_run _ rfl _ _ _ _ rfl _ _ rfl rfl _ _ r ?_);go_region;go_wp2;go_ret;exact⟨c',rfl,R4,y⟩
theorem insE (R:Rw w 211 2 b n c xs) (j:Blk w vb [e1,e2] 211) (g:vb≠b) (hi:i<=n) (hn:n<=1000000000) (k:∀ v∈xs,v.oneCell'=true) (f:∀ v∈[e1,e2],v.oneCell'=true) :
  Calls Tryz.prog 180 #[.slice (some ⟨b,0,none⟩) n c,.int .i64 i,.slice (some ⟨vb,0,none⟩) 1 1] w fun e w'=>∃ b' c',e=.returned (.slice (some ⟨b',0,none⟩) (n+1) c')/\(b'=b\/w.heap.size<=b')/\Rw w' 211 2 b' (n+1) c' (xs.take (i * 2) ++ [e1,e2] ++ xs.drop (i * 2))/\Chg (·=b) w w':=by
 by_cases h:i=n
 ·subst h;refine(Aa R j hn f).mono ?_
  rintro e w' ⟨b',c',rfl,hb,d,a⟩;exact⟨b',c',rfl,hb,d.to (by rw[List.take_of_length_le (by rw[R.len];omega),List.drop_of_length_le (by rw[R.len];omega),List.append_nil]),a⟩
 ·by_cases l:n+1<=c
  ·refine(sL R j g (by omega) l k f).mono ?_
   rintro e w' ⟨rfl,d,a⟩;exact⟨b,c,rfl,.inl rfl,d,a⟩
  ·refine(xO R j (by omega) (by omega) hn k f).mono ?_
   rintro e w' ⟨c',rfl,d,a⟩;exact⟨_,c',rfl,.inr (Nat.le_refl _),d,Chg.of a⟩
end
section
variable {w:World} {b n c i vb:Nat} {xs:List Value} {e1:Value}
theorem Cg (R:Rw w 212 1 b n c xs) (m:Blk w vb [e1] 212) (hn:n<=1000000000) (g:∀ v∈[e1],v.oneCell'=true) :
  Calls Tryz.prog 224 #[.slice (some ⟨b,0,none⟩) n c,.int .i64 n,.slice (some ⟨vb,0,none⟩) 1 1] w fun e w'=>∃ b' c',e=.returned (.slice (some ⟨b',0,none⟩) (n+1) c')/\(b'=b\/w.heap.size<=b')/\Rw w' 212 1 b' (n+1) c' (xs ++ [e1])/\Chg (·=b) w w':=by
 obtain⟨b',c',W,p,f,r,o⟩:=dh KP 149 R ⟨vb,0,none⟩ 1 1 [e1] rfl (fun j u q=>by rw[Addr.add_lit,Nat.zero_add];exact m.cell q) g (by omega) (by omega);have d:=R.le;simp only[maxLen] at d;have l:=d.1;have i:=d.2;clear d R m g;go_enter Tryz.func224,Tryz.ntmps224;go_wp2_with (at_builtin;refine Lib.wpList_append_run _ rfl _ _ _ _ rfl _ _ rfl rfl _ _ p ?_)
 all_goals (
  go_ret
  exact⟨b',c',rfl,f.imp id (fun e=>by omega),r,o⟩)
theorem tf (R:Rw w 212 1 b n c xs) (p:Blk w vb [e1] 212) (r:vb≠b) (hi:i < n) (g:n+1≤c) (H:∀ v ∈ xs,v.oneCell'=true) (D:∀ v ∈ [e1],v.oneCell'=true) :
    Calls Tryz.prog 224 #[.slice (some ⟨b,0,none⟩) n c,.int .i64 i,.slice (some ⟨vb,0,none⟩) 1 1] w fun e w'=>e=.returned (.slice (some ⟨b,0,none⟩) (n+1) c)∧Rw w' 212 1 b (n+1) c (xs.take (i * 1) ++ [e1] ++ xs.drop (i * 1))∧Chg (·=b) w w':=by
  have hx:=R.len;have d:=R.le;simp only[maxLen] at d;have J:=d.1;have F:=d.2
  have o:∃ cs,Blk w b cs 212∧cs.length=c * 1:=by
    obtain⟨sp,h,_,L,_⟩:= R.ex;exact⟨_,h,L⟩
  have y : ∀ (x z : Nat), (callFunc 244 #[.slice (some ⟨vb, 0, none⟩) 1 1, .slice (some ⟨b, i + 1, none⟩) x z]).run Tryz.prog w = .ok (.value (.bool false)) w := fun x z => by
    obtain⟨cs,h,O⟩:= o
    rw[run_callFunc_extern Tryz.func244 (by kernel_rfl) (by kernel_rfl) (by kernel_rfl) (e := Extern.SlicesOverlaps.overlaps #[149, 149] #[4]) (by kernel_rfl),
      Lib.run_overlaps_apart w 149 4 212 KP.und 1 KP.sizeOf ⟨vb,0,none⟩ ⟨b,i+1,none⟩ 1 1 x z r 212 212 1 (c * 1) (by simp[World.shape?,p.blk]) (by simp[World.shape?,h.blk];simpa using O) (by omega) (p.free _) (p.free _)]
    rfl
  have l:(xs.drop (i * 1)).length=(n - i) * 1:=by rw[List.length_drop,hx];omega
  obtain⟨s,B,C⟩:= R.drew.more (m:=1) g;obtain⟨I,Q,u,A⟩:= ez (w:=w.drew) KP 3 C (i+1) (n - i) (c - (i+1)) ⟨b,i,none⟩ (n+1 - i) (c - i) (xs.drop (i * 1)) (n - i) (by simp only[Nat.min_def];split <;> omega) l
    (fun j v t => by
      rw[List.getElem?_drop] at t;rw[Addr.add_lit]
      exact R.cell (w:=w) (by simpa using t)) (by rw[l,C.len];omega) (fun v T=>H v (List.mem_of_mem_drop T))
  have q:Blk I vb [e1] 212:=p.drew.chg A r;obtain⟨S,K,E,G⟩:= ez (w:=I) KP 3 u (i) (n+1 - i) (c - i) ⟨vb,0,none⟩ 1 1 [e1] 1 (by simp only[Nat.min_def];split <;> omega) rfl
    (fun j v t=>by rw[Addr.add_lit,Nat.zero_add];exact q.cell t) (by rw[u.len];simp;omega) D
  have f:splice (splice (xs ++ s) (i+1) (xs.drop (i * 1))) (i) [e1]=xs.take (i * 1) ++ [e1] ++ xs.drop (i * 1):=by
    have h:=ry xs s [e1] (i * 1) (by omega) (by simp[B])
    have V:s.drop ([e1]:List Value).length=[]:=List.drop_of_length_le (by simp[B]);rw[V,List.append_nil] at h;simpa[Nat.add_mul] using h
  have U:=E.to f
  have Y:Chg (·=b) w S:=((Chg.refl _ w).drew.trans A (fun _ _ h=>h)).trans G (fun _ _ h=>h)
  have N:¬ ((i:Int)=(n:Int)):=by omega
  have P:IntKind.i64.wrap ((i:Int)+1)=(i:Int)+1:=by rw[IntKind.wrap_i64];omega
  have aa:(0:Int)≤(i:Int)+1:=by omega
  have W:i≤n:=by omega
  have M:((i:Int)+1).toNat=i+1:=by omega
  have X:¬ (c=i+1):=by omega
  have ab:(i:Int)≤(n:Int)+1:=by omega
  have Z:¬ (c=i):=by omega
  clear d R o C u E A G f p q B l H D;have mixed:=mixed;go_enter Tryz.func224,Tryz.ntmps224;go_wp2_with (simp only[y]);go_region;go_wp2;go_ret;exact⟨rfl,U,Y⟩
theorem wU (R:Rw w 212 1 b n c xs) (z:Blk w vb [e1] 212) (hi:i < n) (A:c < n+1) (hn:n≤1000000000) (M:∀ v ∈ xs,v.oneCell'=true) (D:∀ v ∈ [e1],v.oneCell'=true) :
    Calls Tryz.prog 224 #[.slice (some ⟨b,0,none⟩) n c,.int .i64 i,.slice (some ⟨vb,0,none⟩) 1 1] w fun e w'=>∃ c',e=.returned (.slice (some ⟨w.heap.size,0,none⟩) (n+1) c')∧Rw w' 212 1 w.heap.size (n+1) c' (xs.take (i * 1) ++ [e1] ++ xs.drop (i * 1))∧Below w.heap.size w w':=by
  have hx:=R.len;have d:=R.le;simp only[maxLen] at d;have N:=d.1;have F:=d.2;have I:=R.lt;have L:=z.lt;obtain⟨c',B,r,q,p⟩:= oL KP 3 149 kz (R.front (m:=i) (by omega)) (n+1 - i) (by omega) (by omega) (by omega) (by omega);rw[show ((n+1 - i:Nat):Int)=(n:Int)+1 - (i:Int) by omega,show i+(n+1 - i)=n+1 by omega] at r;rw[show i+(n+1 - i)=n+1 by omega] at q;have f:=q.le;simp only[maxLen] at f;have E:=f.1;have K:=f.2
  have s:Blk B vb [e1] 212:=z.keep p;obtain⟨o,Q,x,u⟩:= ez (w:=B) KP 3 q (i) (n+1 - i) (c' - i) ⟨vb,0,none⟩ 1 1 [e1] 1 (by simp only[Nat.min_def];split <;> omega) rfl
    (fun j v t=>by rw[Addr.add_lit,Nat.zero_add];exact s.cell t) (by rw[q.len];simp;omega) D
  have g:(xs.drop (i * 1)).length=(n - i) * 1:=by rw[List.length_drop,hx];omega
  have O:Rw o.drew 212 1 b n c xs:=((R.keep p).chg u (by show ¬ b=w.heap.size;omega)).drew;obtain⟨G,hr3,J,P⟩:= ez (w:=o.drew) KP 3 x.drew (i+1) (n - i) (c' - (i+1)) ⟨b,i,none⟩ (n - i) (c - i) (xs.drop (i * 1)) (n - i) (by simp) g
    (fun j v t => by
      rw[List.getElem?_drop] at t;rw[Addr.add_lit]
      exact O.cell (by simpa using t)) (by rw[g,x.len];omega) (fun v X=>M v (List.mem_of_mem_drop X))
  have l:splice (splice (xs.take (i * 1) ++ (Builtin.zeroCells (.slice none 0 0:Value).cells (n+1 - i)).toList) (i) [e1]) (i+1) (xs.drop (i * 1))=xs.take (i * 1) ++ [e1] ++ xs.drop (i * 1):=by
    have hA:(xs.take (i * 1)).length=i:=by rw[List.length_take,hx];omega
    generalize hZ:(Builtin.zeroCells (.slice none 0 0:Value).cells (n+1 - i)).toList=Z
    have C:Z.length=(n+1 - i) * 1:=by rw[← hZ,Array.length_toList,size_zeroCells];rfl
    have q1:xs.take (i * 1) ++ Z=xs.take (i * 1) ++ Z.take 1 ++ Z.drop 1:=by rw[List.append_assoc,List.take_append_drop]
    rw[q1,eR _ (Z.take 1) [e1] _ _ hA (by rw[List.length_take];simp;omega)];have Y:=eR (xs.take (i * 1) ++ [e1]) (Z.drop 1) (xs.drop (i * 1)) [] (i+1) (by rw[List.length_append,hA];simp <;> omega) (by rw[List.length_drop,C,g];omega);simpa using Y
  have R4:=J.to l
  have y:Below w.heap.size w G:=by
    have W:Below w.heap.size B o:=u.below (fun b hb=>by omega) (p.size)
    have T:Below w.heap.size o.drew G:=P.below (fun b hb=>by omega) (by have:=p.size;have:=u.size;show w.heap.size≤o.heap.size;omega);exact(p.trans W).trans ((⟨rfl,rfl,rfl,Nat.le_refl _,fun _ _=>rfl⟩:Below w.heap.size o o.drew).trans T)
  have U:¬ ((i:Int)=(n:Int)):=by omega
  have V:IntKind.i64.wrap ((i:Int)+1)=(i:Int)+1:=by rw[IntKind.wrap_i64];omega
  have hb1:(0:Int)≤(i:Int)+1:=by omega
  have hin:i≤n:=by omega
  have S:((i:Int)+1).toNat=i+1:=by omega
  have hb2:¬ (c'=i+1):=by omega
  have H:i+1≤n+1:=by omega
  have hb3:(i:Int)≤(n:Int)+1:=by omega
  have hb4:¬ (c'=i):=by omega
  have hb5:¬ (c=i):=by omega
  clear d f R q x J O u P p l z s g M D;have mixed:=mixed;go_enter Tryz.func224,Tryz.ntmps224;go_wp2_with (at_builtin;refine Lib.wpList_append_run _ rfl _ _ _ _ rfl _ _ rfl rfl _ _ r ?_);go_region;go_wp2;go_ret;exact⟨c',rfl,R4,y⟩
theorem insP (R:Rw w 212 1 b n c xs) (j:Blk w vb [e1] 212) (g:vb≠b) (hi:i<=n) (hn:n<=1000000000) (k:∀ v∈xs,v.oneCell'=true) (f:∀ v∈[e1],v.oneCell'=true) :
  Calls Tryz.prog 224 #[.slice (some ⟨b,0,none⟩) n c,.int .i64 i,.slice (some ⟨vb,0,none⟩) 1 1] w fun e w'=>∃ b' c',e=.returned (.slice (some ⟨b',0,none⟩) (n+1) c')/\(b'=b\/w.heap.size<=b')/\Rw w' 212 1 b' (n+1) c' (xs.take (i * 1) ++ [e1] ++ xs.drop (i * 1))/\Chg (·=b) w w':=by
 by_cases h:i=n
 ·subst h;refine(Cg R j hn f).mono ?_
  rintro e w' ⟨b',c',rfl,hb,d,a⟩;exact⟨b',c',rfl,hb,d.to (by rw[List.take_of_length_le (by rw[R.len];omega),List.drop_of_length_le (by rw[R.len];omega),List.append_nil]),a⟩
 ·by_cases l:n+1<=c
  ·refine(tf R j g (by omega) l k f).mono ?_
   rintro e w' ⟨rfl,d,a⟩;exact⟨b,c,rfl,.inl rfl,d,a⟩
  ·refine(wU R j (by omega) (by omega) hn k f).mono ?_
   rintro e w' ⟨c',rfl,d,a⟩;exact⟨_,c',rfl,.inr (Nat.le_refl _),d,Chg.of a⟩
end
section
variable {w:World} {b n c i:Nat} {xs:List Value}
theorem ze (R:Rw w 211 2 b n c xs) (hi:i < n) (l:c≠i+1) (x:∀ v ∈ xs,v.oneCell'=true) :
    Calls Tryz.prog 233 #[.slice (some ⟨b,0,none⟩) n c,.int .i64 i,.int .i64 (i+1)] w fun e w'=>e=.returned (.slice (some ⟨b,0,none⟩) (n - 1) c)∧Rw w' 211 2 b (n - 1) c (xs.take (i * 2) ++ xs.drop ((i+1) * 2))∧Chg (·=b) w w':=by
  have hx:=R.len;have d:=R.le;simp only[maxLen] at d;have y:=d.1;have s:=d.2
  have g:(xs.drop ((i+1) * 2)).length=(n - (i+1)) * 2:=by rw[List.length_drop,hx];omega
  obtain⟨P,f,p,z⟩:= jK KE 212 (R.drew.front (m:=i) (by omega)) ⟨b,(i+1) * 2,none⟩ (n - (i+1)) (c - (i+1)) (xs.drop ((i+1) * 2)) g
    (fun j v t => by
      rw[List.getElem?_drop] at t;rw[Addr.add_lit]
      exact R.drew.cell (by simpa using t)) (fun v G=>x v (List.mem_of_mem_drop G)) (by omega)
  rw[show i+(n - (i+1))=n - 1 by omega] at p;obtain⟨E,o,r,u⟩:= ir KE 0 p (n - (n - 1)) (c - (n - 1)) (by omega) (by omega)
  have M:Chg (·=b) w E:=((Chg.refl _ w).drew.trans z (fun _ _ h=>h)).trans u (fun _ _ h=>h);obtain⟨q,H⟩:∃ q,n=i+1+q:=⟨n - (i+1),by omega⟩;subst H;rw[show i+1+q - (i+1)=q by omega] at f;rw[show i+1+q - 1=i+q by omega] at o r ⊢
  have D:¬ ((i:Int)=(i:Int)+1):=by omega
  have K:i≤i+1+q:=by omega
  have L:¬ (c=i+1):=l
  have O:(0:Int)≤(i:Int)+1:=by omega
  have J:i≤c:=by omega
  have B:((i:Int)+1).toNat=i+1:=by omega
  have C:¬ (c=i+q):=by omega
  have N:(i:Int)+1≤((i+1+q:Nat):Int):=by omega
  have F:i+1≤i+1+q:=by omega
  have A:(i:Int)+1≤(i:Int)+1+(q:Int):=by omega
  have I:((i+1+q:Nat):Int)≤(c:Int):=by omega
  clear d R p z u g x;have mixed:=mixed;go_enter Tryz.func233,Tryz.ntmps233;go_wp2;go_region_law_o (refine jY rfl (.tmp 22) (.tmp 25) 212 212 rfl _ _ (by simp[Act.eval,Act.put]) (by simp[Act.eval,Act.put]) f ?_);go_wp2;go_ret;exact⟨rfl,r,M⟩
theorem yd (R:Rw w 211 2 b (i+1) (i+1) xs) :
  Calls Tryz.prog 233 #[.slice (some ⟨b,0,none⟩) (i+1) (i+1),.int .i64 i,.int .i64 (i+1)] w fun e w'=>e=.returned (.slice (some ⟨b,0,none⟩) i (i+1))/\Rw w' 211 2 b i (i+1) (xs.take (i * 2))/\Chg (·=b) w w':=by
 have c:=R.le;simp only[maxLen] at c;have l:=c.2;obtain⟨B,d,f,n⟩:=jK KE 212 (R.drew.front (m:=i) (by omega)) ⟨b,0,none⟩ 0 0 [] (by simp) (fun j v y=>by simp at y) (fun v z=>by simp at z) (by omega);rw[Nat.add_zero] at f d;rw[List.append_nil] at f;obtain⟨u,o,p,g⟩:=ir KE 0 f 1 1 (by omega) (by omega)
 have x:Chg (·=b) w u:=((Chg.refl _ w).drew.trans n (fun _ _ h=>h)).trans g (fun _ _ h=>h)
 have r:¬ ((i:Int)=(i:Int)+1):=by omega
 have s:i<=i+1:=by omega
 have A:(0:Int)<=(i:Int)+1:=by omega
 have q:((i:Int)+1).toNat=i+1:=by omega
 have e1:i+1 - i=1:=by omega
 have t:(i:Int)<=(i:Int)+1:=by omega
 clear c R f n g;have mixed:=mixed;go_enter Tryz.func233,Tryz.ntmps233;go_wp2;go_region_law_o (refine jY rfl (.tmp 22) (.tmp 25) 212 212 rfl _ _ (by simp[Act.eval,Act.put]) (by simp[Act.eval,Act.put]) d ?_);go_wp2;go_ret;exact⟨rfl,p,x⟩
theorem delE (R:Rw w 211 2 b n c xs) (hi:i < n) (f:∀ v∈xs,v.oneCell'=true) :
  Calls Tryz.prog 233 #[.slice (some ⟨b,0,none⟩) n c,.int .i64 i,.int .i64 (i+1)] w fun e w'=>e=.returned (.slice (some ⟨b,0,none⟩) (n - 1) c)/\Rw w' 211 2 b (n - 1) c (xs.take (i * 2) ++ xs.drop ((i+1) * 2))/\Chg (·=b) w w':=by
 by_cases h:c=i+1
 ·have g:=R.le;obtain rfl:n=i + 1:=by omega
  subst h;refine(yd R).mono ?_
  rintro e w' ⟨rfl,d,a⟩;exact⟨by simp,d.to (by rw[List.drop_of_length_le (by rw[R.len];omega),List.append_nil]),a⟩
 ·exact ze R hi h f
end
section
variable {w:World} {b n c i:Nat} {xs:List Value}
theorem Bh (R:Rw w 212 1 b n c xs) (hi:i < n) (o:c≠i+1) (x:∀ v ∈ xs,v.oneCell'=true) :
    Calls Tryz.prog 234 #[.slice (some ⟨b,0,none⟩) n c,.int .i64 i,.int .i64 (i+1)] w fun e w'=>e=.returned (.slice (some ⟨b,0,none⟩) (n - 1) c)∧Rw w' 212 1 b (n - 1) c (xs.take (i * 1) ++ xs.drop ((i+1) * 1))∧Chg (·=b) w w':=by
  have hx:=R.len;have d:=R.le;simp only[maxLen] at d;have y:=d.1;have s:=d.2
  have l:(xs.drop ((i+1) * 1)).length=(n - (i+1)) * 1:=by rw[List.length_drop,hx];omega
  obtain⟨P,g,p,z⟩:= jK KP 149 (R.drew.front (m:=i) (by omega)) ⟨b,i+1,none⟩ (n - (i+1)) (c - (i+1)) (xs.drop ((i+1) * 1)) l
    (fun j v t => by
      rw[List.getElem?_drop] at t;rw[Addr.add_lit]
      exact R.drew.cell (by simpa using t)) (fun v G=>x v (List.mem_of_mem_drop G)) (by omega)
  rw[show i+(n - (i+1))=n - 1 by omega] at p;obtain⟨E,f,r,u⟩:= ir KP 0 p (n - (n - 1)) (c - (n - 1)) (by omega) (by omega)
  have M:Chg (·=b) w E:=((Chg.refl _ w).drew.trans z (fun _ _ h=>h)).trans u (fun _ _ h=>h);obtain⟨q,H⟩:∃ q,n=i+1+q:=⟨n - (i+1),by omega⟩;subst H;rw[show i+1+q - (i+1)=q by omega] at g;rw[show i+1+q - 1=i+q by omega] at f r ⊢;simp only[Nat.mul_one] at f
  have D:¬ ((i:Int)=(i:Int)+1):=by omega
  have K:i≤i+1+q:=by omega
  have L:¬ (c=i+1):=o
  have O:(0:Int)≤(i:Int)+1:=by omega
  have J:i≤c:=by omega
  have B:((i:Int)+1).toNat=i+1:=by omega
  have C:¬ (c=i+q):=by omega
  have N:(i:Int)+1≤((i+1+q:Nat):Int):=by omega
  have F:i+1≤i+1+q:=by omega
  have A:(i:Int)+1≤(i:Int)+1+(q:Int):=by omega
  have I:((i+1+q:Nat):Int)≤(c:Int):=by omega
  clear d R p z u l x;have mixed:=mixed;go_enter Tryz.func234,Tryz.ntmps234;go_wp2;go_region_law_o (refine jY rfl (.tmp 22) (.tmp 25) 149 149 rfl _ _ (by simp[Act.eval,Act.put]) (by simp[Act.eval,Act.put]) g ?_);go_wp2;go_ret;exact⟨rfl,r,M⟩
theorem yv (R:Rw w 212 1 b (i+1) (i+1) xs) :
  Calls Tryz.prog 234 #[.slice (some ⟨b,0,none⟩) (i+1) (i+1),.int .i64 i,.int .i64 (i+1)] w fun e w'=>e=.returned (.slice (some ⟨b,0,none⟩) i (i+1))/\Rw w' 212 1 b i (i+1) (xs.take (i * 1))/\Chg (·=b) w w':=by
 have c:=R.le;simp only[maxLen] at c;have n:=c.2;obtain⟨B,d,f,o⟩:=jK KP 149 (R.drew.front (m:=i) (by omega)) ⟨b,0,none⟩ 0 0 [] (by simp) (fun j v y=>by simp at y) (fun v z=>by simp at z) (by omega);rw[Nat.add_zero] at f d;rw[List.append_nil] at f;obtain⟨u,g,p,l⟩:=ir KP 0 f 1 1 (by omega) (by omega)
 have x:Chg (·=b) w u:=((Chg.refl _ w).drew.trans o (fun _ _ h=>h)).trans l (fun _ _ h=>h);simp only[Nat.mul_one] at g
 have r:¬ ((i:Int)=(i:Int)+1):=by omega
 have s:i<=i+1:=by omega
 have A:(0:Int)<=(i:Int)+1:=by omega
 have q:((i:Int)+1).toNat=i+1:=by omega
 have e1:i+1 - i=1:=by omega
 have t:(i:Int)<=(i:Int)+1:=by omega
 clear c R f o l;have mixed:=mixed;go_enter Tryz.func234,Tryz.ntmps234;go_wp2;go_region_law_o (refine jY rfl (.tmp 22) (.tmp 25) 149 149 rfl _ _ (by simp[Act.eval,Act.put]) (by simp[Act.eval,Act.put]) d ?_);go_wp2;go_ret;exact⟨rfl,p,x⟩
theorem delP (R:Rw w 212 1 b n c xs) (hi:i < n) (f:∀ v∈xs,v.oneCell'=true) :
  Calls Tryz.prog 234 #[.slice (some ⟨b,0,none⟩) n c,.int .i64 i,.int .i64 (i+1)] w fun e w'=>e=.returned (.slice (some ⟨b,0,none⟩) (n - 1) c)/\Rw w' 212 1 b (n - 1) c (xs.take (i * 1) ++ xs.drop ((i+1) * 1))/\Chg (·=b) w w':=by
 by_cases h:c=i+1
 ·have g:=R.le;obtain rfl:n=i + 1:=by omega
  subst h;refine(yv R).mono ?_
  rintro e w' ⟨rfl,d,a⟩;exact⟨by simp,d.to (by rw[List.drop_of_length_le (by rw[R.len];omega),List.append_nil]),a⟩
 ·exact Bh R hi h f
end
section
variable {w w':World}{v:Value}{l:List Int}{D D':Nat->Prop}{a:Addr}{n:Nat}{xs:List Value}
abbrev Oct(l:List Int):Prop:=∀ x∈l,0<=x/\x < 256
structure By(w:World)(v:Value)(l:List Int):Prop where
 ex:∃ ao c,v=.slice ao l.length c/\l.length<=c/\c<=9223372036854775807/\(ao=none->c=0)/\Oct l/\(l=[]\/∃ b o,ao=some ⟨b,o,none⟩/\b < w.heap.size/\∀ i x,l[i]?=some x->w.cell? ⟨b,o+i,none⟩=some (.int .u8 x))
theorem By.keep(h:By w v l)(hb:Below w.heap.size w w'):By w' v l:=by
 obtain⟨j,c,m,d,f,k,n,g⟩:=h.ex;refine⟨j,c,m,d,f,k,n,g.imp id ?_⟩;rintro⟨b,o,e,a,hc⟩;exact⟨b,o,e,Nat.lt_of_lt_of_le a hb.size,fun i x hi=>by rw[hb.cell (p:=⟨b,o+i,none⟩) a];exact hc i x hi⟩
theorem By.drew(h:By w v l):By w.drew v l:=h.keep ⟨rfl,rfl,rfl,Nat.le_refl _,fun _ _=>rfl⟩
theorem By.oct(h:By w v l):Oct l:=by
 obtain⟨ao,c,h1,h2,h3,h4,h5,h6⟩:=h.ex;exact h5
theorem By.nil(w:World):By w (.slice none 0 0) []:=⟨none,0,rfl,by decide,by decide,fun _=>rfl,fun _ h=>by simp at h,.inl rfl⟩
structure OB(w:World)(D:Nat->Prop)(v:Value)(l:List Int):Prop where
 oct:Oct l
 ex:(v=.slice none 0 0/\l=[])\/∃ b c,v=.slice (some ⟨b,0,none⟩) l.length c/\D b/\Rw w 5 1 b l.length c (l.map (Value.int .u8))
theorem OB.by(h:OB w D v l):By w v l:=by
 rcases h.ex with⟨rfl,rfl⟩ | ⟨b,c,rfl,hd,hR⟩
 ·exact By.nil w
 ·have a:=hR.le;simp only[maxLen] at a;exact⟨_,c,rfl,by omega,by omega,(fun e=>by cases e),h.oct,.inr ⟨b,0,rfl,hR.lt,fun i x hi=>by rw[Nat.zero_add];exact hR.cell (by simp[hi])⟩⟩
theorem OB.mono(h:OB w D v l)(hD:∀ b,b < w.heap.size->D b->D' b):OB w D' v l:=by
 refine⟨h.oct,h.ex.imp id ?_⟩;rintro⟨b,c,e,hd,hR⟩;exact⟨b,c,e,hD b hR.lt hd,hR⟩
theorem OB.same(h:OB w D v l)(hD:∀ b,b < w.heap.size->D b->w'.heap[b]?=w.heap[b]?):OB w' D v l:=by
 refine⟨h.oct,h.ex.imp id ?_⟩;rintro⟨b,c,e,hd,hR⟩;exact⟨b,c,e,hd,hR.same (hD b hR.lt hd)⟩
theorem OB.keep(h:OB w D v l)(hb:Below w.heap.size w w'):OB w' D v l:=h.same fun b hb' _=>hb.block b hb'
theorem OB.one(h:OB w D v l):v.oneCell'=true:=by
 rcases h.ex with⟨rfl,rfl⟩ | ⟨b,c,rfl,hd,hR⟩<;>rfl
def cA:List Int->List Int->Int
 | [],[]=>0
 | [],_ :: _=>-1
 | _ :: _,[]=>1
 | x :: a,y :: b=>if x < y then -1 else if y < x then 1 else cA a b
theorem E9{x y:Int}(hx:0<=x/\x < 256)(hy:0<=y/\y < 256):(UInt8.ofNat x.toNat < UInt8.ofNat y.toNat)<->x < y:=by
 rw[UInt8.lt_iff_toNat_lt,UInt8.toNat_ofNat_of_lt' (by show x.toNat < 256;omega),UInt8.toNat_ofNat_of_lt' (by show y.toNat < 256;omega)];omega
theorem jM:∀ (l l':List Int),Oct l->Oct l'->compareBytes (bytesOf l) (bytesOf l')=cA l l'
 | [],[],_,_=>rfl
 | [],_ :: _,_,_=>rfl
 | _ :: _,[],_,_=>rfl
 | x :: a,y :: b,h,h'=>by
  have ih:=jM a b (fun z c=>h z (List.mem_cons_of_mem _ c)) (fun z c=>h' z (List.mem_cons_of_mem _ c));have hx:=h x List.mem_cons_self;have hy:=h' y List.mem_cons_self
  show (if UInt8.ofNat x.toNat < UInt8.ofNat y.toNat then _ else if UInt8.ofNat y.toNat < UInt8.ofNat x.toNat then _ else compareBytes (bytesOf a) (bytesOf b))=_
  rw[cA];simp only[E9 hx hy,E9 hy hx,ih]
theorem kV{P:Program}(h:By w v l):(Extern.Bytes.bytesOf v).run P w=.ok ⟨(bytesOf l).toArray⟩ w:=by
 obtain⟨f,c,rfl,m,p,g,n,i⟩:=h.ex
 cases f with
 | none =>
  have:l=[]:=List.eq_nil_of_length_eq_zero (by have:=g rfl;omega);subst this;rfl
 | some a =>
  rcases i with rfl | ⟨b,o,e,d,hc⟩
  ·rfl
  ·cases e;have:=run_loadBytesX (P:=P) w l ⟨b,o,none⟩ .empty (fun j x k=>by rw[Addr.add_lit];exact hc j x k)
   show (Extern.Bytes.loadBytes ⟨b,o,none⟩ l.length .empty).run P w=_
   rw[this];congr 1
   apply ByteArray.ext;simp
theorem kY{c:Value}{b:List Int}(h:By w v l)(d:By w c b) :
  Calls Tryz.prog 218 #[v,c] w fun e w'=>e=.returned (.int .i64 (cA l b))/\w'=w:=by
 have f:(callFunc 242 #[v,c]).run Tryz.prog w=.ok (.value (.int .i64 (cA l b))) w:=by
  rw[run_callFunc_extern Tryz.func242 (by kernel_rfl) (by kernel_rfl) (by kernel_rfl) (e:=Extern.BytealgCompare.compare) (by kernel_rfl)];have:(Extern.BytealgCompare.compare #[v,c]).run Tryz.prog w=.ok (.int .i64 (cA l b)) w:=by
   change Sem.run Tryz.prog (do pure (goInt (Extern.BytealgCompare.cmp (<- Extern.Bytes.bytesOf v) (<- Extern.Bytes.bytesOf c)))) w=_
   simp only[Sem.run_bind,kV h,kV d,Sem.run_pure,Result.andThen];rw[cmp_eq,jM l b h.oct d.oct];rfl
  rw[this];rfl
 clear h d;generalize cA l b=x at *;go_enter Tryz.func218,Tryz.ntmps218;go_wp2_with (simp only[f]);go_ret;exact⟨rfl,rfl⟩
theorem KB:Kd Tryz.prog 36 5 1 1 (.int .u8 0):=⟨by kernel_rfl,by kernel_rfl,rfl,by simp[Value.cells,Value.oneCell'],by decide⟩
theorem mq(h:w.cell? a=some v)(o:Obj):(w.alloc o).cell? a=some v:=by
 have b:a.block < w.heap.size:=by
  unfold World.cell? at h
  cases hh:w.heap[a.block]? with
  | none=>simp[hh] at h
  | some ob=>exact lt_of_block hh
 rw[(af w o).cell b];exact h
theorem map_u8(l:List Int):∀ v∈l.map (Value.int .u8),v.oneCell'=true:=by
 intro v hv;obtain⟨x,_,rfl⟩:=List.mem_map.1 hv;rfl
theorem cH(h:By w v l)(A:l.length<=1000000000) :
  Calls Tryz.prog 114 #[v] w fun e w'=>∃ v',e=.returned v'/\OB w' (w.heap.size <= ·) v' l/\Below w.heap.size w w':=by
 have r:=h.oct;obtain⟨C,c,rfl,I,J,D,G,B⟩:=h.ex
 cases C with
 | none =>
  have E:l=[]:=List.eq_nil_of_length_eq_zero (by have:=D rfl;omega);subst E;have f:=fun(w:World) (a:Option Addr) (n c:Nat)=>Go.Lib.run_eql_slice_nil (P:=Tryz.prog) w 36 _ a n c 0 0 KB.und
  go_enter Tryz.func114,Tryz.ntmps114;go_wp2;go_ret;exact⟨_,rfl,⟨r,.inl ⟨rfl,rfl⟩⟩,Below.refl _ _⟩
 | some a =>
  have s:Rw (w.alloc (.cells #[] 5)) 5 1 w.heap.size 0 0 []:=uR (aj w [] _) rfl (by decide)
  have d:∀ j u,(l.map (Value.int .u8))[j]? = some u->(w.alloc (.cells #[] 5)).cell? (a.add j)=some u:=fun j u i=>by
   rcases B with rfl | ⟨b,o,e,F,hc⟩
   ·simp at i
   ·cases e;rw[List.getElem?_map] at i;obtain⟨x,hx,rfl⟩:=Option.map_eq_some_iff.1 i;exact mq (by rw[Addr.add_lit];exact hc j x hx) _
  obtain⟨m,y,W,z,g,q,t⟩:=dh KB 36 s a l.length c (l.map (Value.int .u8)) (by simp) d (map_u8 l) (by omega) (by omega);rw[Nat.zero_add] at z q
  have H:Below w.heap.size w W:=(af w (.cells #[] 5)).trans (t.below (fun b hb=>by omega) (af w _).size)
  have p:w.heap.size<=m:=by rcases g with e | e;omega;rw[World.size_alloc] at e;omega
  have hF:OB W (w.heap.size <= ·) (.slice (some ⟨m,0,none⟩) l.length y) l:=⟨r,.inr ⟨m,y,rfl,p,q.to (by simp)⟩⟩
  clear s d B h q t G g;have f:=fun(w:World) (a:Option Addr) (n c:Nat)=>Go.Lib.run_eql_slice_nil (P:=Tryz.prog) w 36 _ a n c 0 0 KB.und
  go_enter Tryz.func114,Tryz.ntmps114;go_wp2_with (at_builtin;refine Lib.wpList_append_run _ rfl _ _ _ _ rfl _ _ rfl rfl _ _ z ?_);go_ret;exact⟨_,rfl,hF,H⟩
theorem fB(h:By w v l)(r:l.length<=1000000000) :
  Calls Tryz.prog 36 #[v] w fun e w'=>∃ v',e=.returned v'/\OB w' (w.heap.size <= ·) v' l/\Below w.heap.size w w':=by
 have p:=h.oct;obtain⟨f,c,rfl,A,D,B,y,n⟩:=h.ex;by_cases g:l=[]
 ·subst g
  have m:(Builtin.append_ #[36,36] 36 #[.slice none 0 0,.slice f 0 c]).run Tryz.prog w=.ok (.slice none 0 0) w:=by
   obtain⟨i,hi,C,E,hb⟩:=info_parts KB.inf;have:(Builtin.firstCells i.size 0 (.slice f 0 c)).run Tryz.prog w=.ok #[] w:=by
    cases f with
    | none=>rfl
    | some a=>exact run_firstCells_some w i.size 0 a 0 c [] (by simp) (fun j v d=>by simp at d)
   simp[Builtin.append_,run_underlying KB.und,sizeOf,typeInfo,hi,Builtin.lenOf,this]
  clear n h;go_enter Tryz.func36,Tryz.ntmps36;go_wp2_with (at_builtin;refine Lib.wpList_append_run _ rfl _ _ _ _ rfl _ _ rfl rfl _ _ m ?_);go_ret;exact⟨_,rfl,⟨p,.inl ⟨rfl,rfl⟩⟩,Below.refl _ _⟩
 ·obtain⟨b,o,rfl,t,hc⟩:=n.resolve_left g
  obtain⟨q,W,m,s,z⟩:=er (w:=w) KB 36 ⟨b,o,none⟩ l.length c (l.map (Value.int .u8)) (by simp) (fun j u d=>by
    rw[List.getElem?_map] at d;obtain⟨x,hx,rfl⟩:=Option.map_eq_some_iff.1 d
    rw[Addr.add_lit];exact hc j x hx) (List.length_pos_iff.2 g) (by omega) (by omega)
  have hF:OB W (w.heap.size <= ·) (.slice (some ⟨w.heap.size,0,none⟩) l.length q) l:=⟨p,.inr ⟨_,q,rfl,Nat.le_refl _,s⟩⟩
  clear n h s y hc;go_enter Tryz.func36,Tryz.ntmps36;go_wp2_with (at_builtin;refine Lib.wpList_append_run _ rfl _ _ _ _ rfl _ _ rfl rfl _ _ m ?_);go_ret;exact⟨_,rfl,hF,z⟩
theorem zQ{c:Nat}(hn:n<=1000000000)(hx:xs.length=n * 2)(hc:∀ j v,xs[j]?=some v->w.cell? (a.add j)=some v)(l:∀ v∈xs,v.oneCell'=true) :
  Calls Tryz.prog 223 #[.slice (some a) n c] w fun e w'=>∃ b' c',e=.returned (.slice (some ⟨b',0,none⟩) n c')/\w.heap.size<=b'/\Rw w' 211 2 b' n c' xs/\Below w.heap.size w w':=by
 have p:Rw (w.alloc (.cells #[] 211)) 211 2 w.heap.size 0 0 []:=uR (aj w [] _) rfl (by decide);obtain⟨b',c',W,o,d,g,i⟩:=dh KE 212 p a n c xs hx (fun j v q=>mq (hc j v q) _) l (by omega) (by omega);rw[Nat.zero_add] at o g;rw[List.nil_append] at g
 have r:Below w.heap.size w W:=(af w (.cells #[] 211)).trans (i.below (fun b hb=>by omega) (af w _).size)
 have f:w.heap.size<=b':=by rcases d with e | e;omega;rw[World.size_alloc] at e;omega
 clear p hc l i d;have m:=fun(w:World) (a:Option Addr) (n c:Nat)=>Go.Lib.run_eql_slice_nil (P:=Tryz.prog) w 212 _ a n c 0 0 KE.und
 go_enter Tryz.func223,Tryz.ntmps223;go_wp2_with (at_builtin;refine Lib.wpList_append_run _ rfl _ _ _ _ rfl _ _ rfl rfl _ _ o ?_);go_ret;exact⟨b',c',rfl,f,g,r⟩
theorem growE(d:0 < n)(hn:n<=1000000000) :
  Calls Tryz.prog 257 #[.slice none 0 0,.int .i64 n] w fun e w'=>∃ b' c',e=.returned (.slice (some ⟨b',0,none⟩) 0 c')/\w.heap.size<=b'/\Rw w' 211 2 b' 0 c' []/\Below w.heap.size w w':=by
 obtain⟨c',W,g,c,j⟩:=oy (w:=w) KE 3 212 kz n d (by omega) (by omega)
 have b:Rw W 211 2 w.heap.size 0 c' []:=(c.front (m:=0) (by omega)).to (by simp)
 have i:¬ ((n:Int) < 0):=by omega
 have f:(0:Int) < n:=by omega
 clear c;go_enter Tryz.func257,Tryz.ntmps257;go_wp2_with (at_builtin;refine Lib.wpList_append_run _ rfl _ _ _ _ rfl _ _ rfl rfl _ _ g ?_);go_ret;exact⟨_,c',rfl,Nat.le_refl _,b,j⟩
end
theorem Ef {w:World} {vb F f c1 H g c2:Nat} {xs ys:List Value} (s:Blk w vb [.slice (some ⟨F,0,none⟩) f c1,.slice (some ⟨H,0,none⟩) g c2] 212)
  (J:Rw w 211 2 F f c1 xs) (I:Rw w 211 2 H g c2 ys) (P:0 < f+g) (N:f<=1000000) (R:g<=1000000) (Q:∀ v∈xs,v.oneCell'=true) (M:∀ v∈ys,v.oneCell'=true) :
  Calls Tryz.prog 249 #[.slice (some ⟨vb,0,none⟩) 2 2] w fun e w'=>∃ b' c',e=.returned (.slice (some ⟨b',0,none⟩) (f+g) c')/\w.heap.size<=b'/\Rw w' 211 2 b' (f+g) c' (xs ++ ys)/\Below w.heap.size w w':=by
 have G:=growE (w:=w) (n:=f+g) P (by omega);rw[show ((f+g:Nat):Int)=(f:Int)+(g:Int) by omega] at G;have K:=s.cell (i:=0) rfl;have L:=s.cell (i:=1) rfl;go_enter Tryz.func249,Tryz.ntmps249;go_wp2;go_loopw [3,11] (fun ts l wr=>wr=w/\((l=.int .i64 0/\ts=.int .i64 0)\/(l=.int .i64 1/\ts=.int .i64 f)\/(l=.int .i64 2/\ts=.int .i64 (f+g)))) (fun _ l _=>2 - (intOf l).toNat)
 case atStart=>exact⟨rfl,.inl ⟨rfl,rfl⟩⟩
 case round =>
  obtain⟨rfl,⟨rfl,rfl⟩ | ⟨rfl,rfl⟩ | ⟨rfl,rfl⟩⟩:=hrel
  ·have O:¬ ((f:Int) < 0):=by omega
   go_wp2;go_roundw
   case rel=>exact⟨trivial,.inr (.inl ⟨rfl,rfl⟩)⟩
   case measure=>simp[intOf]
  ·have O:¬ ((f:Int) + (g:Int) < 0):=by omega
   go_wp2;go_roundw
   case rel=>exact⟨trivial,.inr (.inr ⟨rfl,rfl⟩)⟩
   case measure=>simp[intOf]
  ·rename World=>W0
   go_wp2_with (go_at_call 257;refine G.mono ?_;rintro e T ⟨b,c,rfl,hb,o,B⟩);clear G
   have C:=(s.keep B).cell (i:=0) rfl
   have E:=(s.keep B).cell (i:=1) rfl;have y:=B;clear B K L;go_loopw [6,27] (fun ts l z=>Below W0.heap.size W0 z/\∃ b c,W0.heap.size<=b/\((l=.int .i64 0/\ts=.slice (some ⟨b,0,none⟩) 0 c/\Rw z 211 2 b 0 c [])\/(l=.int .i64 1/\ts=.slice (some ⟨b,0,none⟩) f c/\Rw z 211 2 b f c xs)\/(l=.int .i64 2/\ts=.slice (some ⟨b,0,none⟩) (f+g) c/\Rw z 211 2 b (f+g) c (xs ++ ys)))) (fun _ l _=>2 - (intOf l).toNat)
   case atStart=>exact⟨y,b,c,hb,.inl ⟨rfl,rfl,o⟩⟩
   case round =>
    clear o y hb C E;obtain⟨d,b,c,hb,⟨rfl,rfl,o⟩ | ⟨rfl,rfl,o⟩ | ⟨rfl,rfl,o⟩⟩:=hrel
    ·have K:=(s.keep d).cell (i:=0) rfl;have S:=J.keep d;obtain⟨b',c',W,A,m,p,t⟩:=dh KE 212 o ⟨F,0,none⟩ f c1 xs J.len (fun j u D=>by rw[Addr.add_lit,Nat.zero_add];exact S.cell D) Q (by omega) (by omega);rw[Nat.zero_add] at A p
     have q:Below W0.heap.size W0 W:=d.trans (t.below (fun x hx=>by omega) d.size)
     have r:W0.heap.size<=b':=by
      have:=d.size;rcases m with e | e<;>omega
     clear t m o S;go_wp2_with (at_builtin;refine Lib.wpList_append_run _ rfl _ _ _ _ rfl _ _ rfl rfl _ _ A ?_);go_roundw
     case rel=>exact⟨q,b',c',r,.inr (.inl ⟨rfl,rfl,p⟩)⟩
     case measure=>simp[intOf]
    ·have L:=(s.keep d).cell (i:=1) rfl;have S:=I.keep d;obtain⟨b',c',W,A,m,p,t⟩:=dh KE 212 o ⟨H,0,none⟩ g c2 ys I.len (fun j u D=>by rw[Addr.add_lit,Nat.zero_add];exact S.cell D) M (by omega) (by omega)
     have q:Below W0.heap.size W0 W:=d.trans (t.below (fun x hx=>by omega) d.size)
     have r:W0.heap.size<=b':=by
      have:=d.size;rcases m with e | e<;>omega
     clear t m o S;go_wp2_with (at_builtin;refine Lib.wpList_append_run _ rfl _ _ _ _ rfl _ _ rfl rfl _ _ A ?_);go_roundw
     case rel=>exact⟨q,b',c',r,.inr (.inr ⟨rfl,rfl,p⟩)⟩
     case measure=>simp[intOf]
    ·go_wp2;go_ret;exact⟨b,c,rfl,hb,o,d⟩
end Pg
end
section
namespace Pg
section
variable {a b k:List Int}{l:List (List Int)}
theorem je:∀ (a b:List Int),cA a b=-1\/cA a b=0\/cA a b=1
 | [],[]=>.inr (.inl rfl)
 | [],_ :: _=>.inl rfl
 | _ :: _,[]=>.inr (.inr rfl)
 | x :: a,y :: b=>by
  rw[cA];split
  ·exact .inl rfl
  ·split
   ·exact .inr (.inr rfl)
   ·exact je a b
theorem ij:∀ (a:List Int),cA a a=0
 | []=>rfl
 | x :: a=>by rw[cA,if_neg (by omega),if_neg (by omega)];exact ij a
theorem pZ:∀ {a b:List Int},cA a b=0->a=b
 | [],[],_=>rfl
 | [],_ :: _,h=>by simp[cA] at h
 | _ :: _,[],h=>by simp[cA] at h
 | x :: a,y :: b,h=>by
  rw[cA] at h;split at h
  ·omega
  ·split at h
   ·omega
   ·rw[pZ h,show x=y by omega]
theorem kI:∀ (a b:List Int),cA b a=- cA a b
 | [],[]=>rfl
 | [],_ :: _=>rfl
 | _ :: _,[]=>rfl
 | x :: a,y :: b=>by
  rw[cA,cA];by_cases h1:x < y
  ·rw[if_neg (by omega),if_pos h1,if_pos h1];rfl
  ·by_cases h2:y < x
   ·rw[if_pos h2,if_neg h1,if_pos h2]
   ·rw[if_neg h2,if_neg h1,if_neg h1,if_neg h2];exact kI a b
abbrev Lt(a b:List Int):Prop:=cA a b=-1
theorem Lt.trans:∀ {a b c:List Int},Lt a b->Lt b c->Lt a c
 | [],[],_,h,_=>by simp[Lt,cA] at h
 | [],_ :: _,[],_,h=>by simp[Lt,cA] at h
 | [],_ :: _,_ :: _,_,_=>rfl
 | _ :: _,[],_,h,_=>by simp[Lt,cA] at h
 | _ :: _,_ :: _,[],_,h=>by simp[Lt,cA] at h
 | x :: a,y :: b,z :: c,h,h'=>by
  simp only[Lt] at h h' ⊢;rw[cA] at h h' ⊢;by_cases h1:x < z
  ·rw[if_pos h1]
  ·rw[if_neg h1];split at h
   ·split at h'
    ·omega
    ·split at h'
     ·omega
     ·omega
   ·split at h
    ·omega
    ·split at h'
     ·omega
     ·split at h'
      ·omega
      ·rw[if_neg (by omega)];exact Lt.trans (a:=a) (b:=b) (c:=c) h h'
theorem lt_irrefl(a:List Int):¬ Lt a a:=by simp[Lt,ij]
theorem Lt.not(h:Lt a b):¬ Lt b a:=fun h'=>lt_irrefl a (h.trans h')
theorem qk(a b:List Int):Lt a b\/a=b\/Lt b a:=by
 rcases je a b with h | h | h
 ·exact .inl h
 ·exact .inr (.inl (pZ h))
 ·exact .inr (.inr (by simp only[Lt];rw[kI,h]))
theorem pG(h:Lt a b):cA a b=-1:=h
theorem DT(h:Lt b a):cA a b=1:=by rw[kI,pG h];rfl
theorem not_lt:¬ Lt a b<->a=b\/Lt b a:=by
 constructor
 ·intro h;rcases qk a b with k | k | k
  ·exact absurd k h
  ·exact .inl k
  ·exact .inr k
 ·rintro(h | h)
  ·subst h;exact lt_irrefl a
  ·exact h.not
theorem Lt.of_le{c:List Int}(h:Lt a b)(h':¬ Lt c b):Lt a c:=by
 rcases not_lt.1 h' with k | k
 ·subst k;exact h
 ·exact h.trans k
def plc:List (List Int)->List Int->Nat
 | [],_=>0
 | x :: l,k=>if Lt x k then plc l k+1 else 0
theorem qd:∀ (l:List (List Int)) (k:List Int),plc l k<=l.length
 | [],_=>Nat.le_refl _
 | x :: l,k=>by
  rw[plc];split
  ·have:=qd l k;simp;omega
  ·simp
theorem uE:∀ {l:List (List Int)} {k:List Int} {i:Nat},i<=l.length->(∀ j x,j < i->l[j]?=some x->Lt x k)->(∀ x,l[i]?=some x->¬ Lt x k)->plc l k=i
 | [],_,i,h,_,_=>by simp at h;subst h;rfl
 | x :: l,k,0,_,_,h3=>by rw[plc,if_neg (h3 x rfl)]
 | x :: l,k,i + 1,h1,h2,h3=>by
  rw[plc,if_pos (h2 0 x (by omega) rfl),uE (l:=l) (i:=i) (by simpa using h1) (fun j y hj hy=>h2 (j+1) y (by omega) (by simpa using hy)) (fun y hy=>h3 y (by simpa using hy))]
theorem AR:∀ {l:List (List Int)} {k:List Int} {j:Nat} {x:List Int},j < plc l k->l[j]?=some x->Lt x k
 | [],_,_,_,h,_=>by simp[plc] at h
 | y :: l,k,j,x,h,hx=>by
  rw[plc] at h;split at h
  ·cases j with
   | zero=>simp at hx;subst hx;assumption
   | succ j=>exact AR (l:=l) (j:=j) (by omega) (by simpa using hx)
  ·omega
theorem Ch:∀ {l:List (List Int)} {k:List Int} {x:List Int},l[plc l k]?=some x->¬ Lt x k
 | [],_,_,h=>by simp at h
 | y :: l,k,x,h=>by
  rw[plc] at h;split at h
  ·exact Ch (l:=l) (by simpa using h)
  ·simp at h;subst h;assumption
def Srt(l:List (List Int)):Prop:=l.Pairwise Lt
theorem Srt.get(h:Srt l){i j:Nat}{x y:List Int}(a:i < j)(hi:l[i]?=some x)(c:l[j]?=some y):Lt x y:=by
 obtain⟨d,rfl⟩:=List.getElem?_eq_some_iff.1 hi;obtain⟨b,rfl⟩:=List.getElem?_eq_some_iff.1 c;exact List.pairwise_iff_getElem.1 h i j d b a
def thr(l:List (List Int))(k:List Int):Bool:=decide (l[plc l k]?=some k)
theorem Dl(h:Srt l):thr l k=true<->k∈l:=by
 simp only[thr,decide_eq_true_eq];constructor
 ·intro e;exact List.mem_of_getElem? e
 ·intro e;obtain⟨j,a⟩:=List.getElem?_of_mem e;have:plc l k=j:=uE (by have:=(List.getElem?_eq_some_iff.1 a).1;omega) (fun i x hi hx=>h.get hi hx a) (fun x hx=>by rw[a] at hx;cases hx;exact lt_irrefl k);rw[this];exact a
end
end Pg
end
section
namespace Pg
open Go.RowKit Go.Lib
section
variable {w w':World}{D D':Nat->Prop}
structure En where
 kv:Value
 kl:List Int
 vv:Value
 vl:List Int
structure EnA(w:World)(D:Nat->Prop)(e:En):Prop where
 k:OB w D e.kv e.kl
 v:OB w D e.vv e.vl
theorem EnA.keep{e:En}(h:EnA w D e)(hb:Below w.heap.size w w'):EnA w' D e:=⟨h.k.keep hb,h.v.keep hb⟩
theorem EnA.mono{e:En}(h:EnA w D e)(hD:∀ b,b < w.heap.size->D b->D' b):EnA w D' e:=⟨h.k.mono hD,h.v.mono hD⟩
theorem EnA.same{e:En}(h:EnA w D e)(hD:∀ b,b < w.heap.size->D b->w'.heap[b]?=w.heap[b]?):EnA w' D e:=⟨h.k.same hD,h.v.same hD⟩
def flat:List En->List Value
 | []=>[]
 | e :: l=>e.kv :: e.vv :: flat l
theorem fL:∀ (l:List En),(flat l).length=l.length * 2
 | []=>rfl
 | e :: l=>by simp[flat,fL l];omega
theorem df:∀ (a b:List En),flat (a ++ b)=flat a ++ flat b
 | [],b=>rfl
 | e :: a,b=>by simp[flat,df a b]
theorem rj:∀ {l:List En} {i:Nat} {e:En},l[i]?=some e->(flat l)[i * 2]?=some e.kv
 | [],_,_,h=>by simp at h
 | x :: l,0,e,h=>by simp at h;subst h;rfl
 | x :: l,i + 1,e,h=>by
  rw[show (i+1) * 2=i * 2+1+1 by omega,flat,List.getElem?_cons_succ,List.getElem?_cons_succ];exact rj (l:=l) (by simpa using h)
theorem ky:∀ {l:List En} {i:Nat} {e:En},l[i]?=some e->(flat l)[i * 2+1]?=some e.vv
 | [],_,_,h=>by simp at h
 | x :: l,0,e,h=>by simp at h;subst h;rfl
 | x :: l,i + 1,e,h=>by
  rw[show (i+1) * 2+1=i * 2+1+1+1 by omega,flat,List.getElem?_cons_succ,List.getElem?_cons_succ];exact ky (l:=l) (by simpa using h)
theorem fP:∀ (l:List En) (i:Nat),(flat l).take (i * 2)=flat (l.take i)
 | [],i=>by simp[flat]
 | x :: l,0=>by simp[flat]
 | x :: l,i + 1=>by
  rw[show (i+1) * 2=i * 2+1+1 by omega,flat,List.take_succ_cons,List.take_succ_cons,fP l i,List.take_succ_cons,flat]
theorem fJ:∀ (l:List En) (i:Nat),(flat l).drop (i * 2)=flat (l.drop i)
 | [],i=>by simp[flat]
 | x :: l,0=>by simp
 | x :: l,i + 1=>by
  rw[show (i+1) * 2=i * 2+1+1 by omega,flat,List.drop_succ_cons,List.drop_succ_cons,fJ l i,List.drop_succ_cons]
theorem gG:∀ {l:List En},(∀ e∈l,EnA w D e)->∀ v∈flat l,v.oneCell'=true
 | [],_,v,h=>by simp[flat] at h
 | x :: l,h,v,hv=>by
  have hx:=h x List.mem_cons_self;rcases List.mem_cons.1 hv with rfl | hv
  ·exact hx.k.one
  ·rcases List.mem_cons.1 hv with rfl | hv
   ·exact hx.v.one
   ·exact gG (l:=l) (fun e he=>h e (List.mem_cons_of_mem _ he)) v hv
theorem nL:∀ {l:List En} {i:Nat} {e:En} (u:Value) (ul:List Int),l[i]?=some e->(flat l).set (i * 2+1) u=flat (l.set i { e with vv:=u,vl:=ul })
 | [],_,_,_,_,h=>by simp at h
 | x :: l,0,e,u,ul,h=>by simp at h;subst h;simp[flat]
 | x :: l,i + 1,e,u,ul,h=>by
  rw[show (i+1) * 2+1=i * 2+1+1+1 by omega,flat,List.set_cons_succ,List.set_cons_succ,nL (l:=l) u ul (by simpa using h),List.set_cons_succ,flat]
def kys(l:List En):List (List Int):=l.map En.kl
structure Pg where
 b:Nat
 c:Nat
 es:List En
def Pg.v(p:Pg):Value:=.slice (some ⟨p.b,0,none⟩) p.es.length p.c
structure PgA(w:World)(D:Nat->Prop)(p:Pg):Prop where
 row:Rw w 211 2 p.b p.es.length p.c (flat p.es)
 bX:∀ e∈p.es,EnA w D e
theorem PgA.keep{p:Pg}(h:PgA w D p)(hb:Below w.heap.size w w'):PgA w' D p:=⟨h.row.keep hb,fun e he=>(h.bX e he).keep hb⟩
theorem PgA.one{p:Pg}(h:PgA w D p):∀ v∈flat p.es,v.oneCell'=true:=gG h.bX
theorem cmpE{kv vv v:Value}{l b:List Int}(h:By w kv l)(c:By w v b) :
  Calls Tryz.prog 220 #[.agg #[kv,vv],v] w fun e w'=>e=.returned (.int .i64 (cA l b))/\Below w.heap.size w w':=by
 have hb:=af w (.cells #[kv,vv] 211);have d:=kY (h.keep hb) (c.keep hb);have B:=aj w [kv,vv] 211;have g:=B.cell (i:=0) rfl;clear h c B;generalize cA l b=x at *;go_enter Tryz.func220,Tryz.ntmps220;go_wp2_with (go_at_call 218;refine d.mono ?_;rintro e f ⟨rfl,rfl⟩);go_ret;exact⟨rfl,hb⟩
end
section
variable {w:World}{D:Nat->Prop}{p:Pg}{v:Value}{k:List Int}
theorem bsE(A:PgA w D p)(S:Srt (kys p.es))(h:By w v k)(hn:p.es.length<=1000000) :
  Calls Tryz.prog 219 #[p.v,v,.func (.func 220) #[] #[]] w fun e w'=>e=.returned (.tuple #[.int .i64 (plc (kys p.es) k),.bool (thr (kys p.es) k)])/\Below w.heap.size w w':=by
 obtain⟨b,c,es⟩:=p;simp only[Pg.v] at *;have r:=A.row.le;simp only[maxLen] at r;have y:=r.1;have M:=r.2;obtain⟨n,L⟩:∃ n,es.length=n:=⟨_,rfl⟩
 rw[L] at hn y ⊢;go_enter Tryz.func219,Tryz.ntmps219;go_wp2;go_loopw [9,10] (fun K J wr=>∃ i j:Nat,K=.int .i64 i/\J=.int .i64 j/\i<=j/\j<=n/\Hid (∀ q x,q < i->(kys es)[q]?=some x->Lt x k)/\Hid (∀ q x,j<=q->(kys es)[q]?=some x->¬ Lt x k)/\Below w.heap.size w wr) (fun K J _=>(intOf J).toNat - (intOf K).toNat)
 case atStart=>exact⟨0,n,rfl,rfl,Nat.zero_le _,Nat.le_refl _,fun q x u=>by omega,fun q x u hx=>by
  have:=(List.getElem?_eq_some_iff.1 hx).1;simp[kys] at this
  omega,Below.refl _ _⟩
 case round =>
  obtain⟨i,j,rfl,rfl,U,F,H1,N,g⟩:=hrel;by_cases T:i < j
  ·obtain⟨m,hm⟩:∃ m,m=(i+j) / 2:=⟨_,rfl⟩
   have aa:i<=m:=by omega
   have W:m < j:=by omega
   obtain⟨e,he⟩:∃ e,es[m]?=some e:=⟨es[m],List.getElem?_eq_getElem (by omega)⟩
   have f:=A.keep g;have P:=f.row.cell (rj he);have Q:=f.row.cell (ky he)
   have Y:IntKind.i64.wrap ((i:Int)+(j:Int))=(i:Int)+(j:Int):=by rw[IntKind.wrap_i64];omega
   have V:((i:Int)+(j:Int)) / 2 < n:=by omega
   have Z:(0:Int)<=((i:Int)+(j:Int)) / 2:=by omega
   have X:IntKind.i64.wrap (((i:Int)+(j:Int)) / 2)=((i:Int)+(j:Int)) / 2:=by rw[IntKind.wrap_i64];omega
   have o:=cmpE (vv:=e.vv) ((f.bX e (List.mem_of_getElem? he)).k.by) (h.keep g)
   have s:(kys es)[m]?=some e.kl:=by simp[kys,he]
   rw[hm] at P Q
   have B:Hid (m=(i+j) / 2):=hm;clear f hm;by_cases hc:Lt e.kl k
   ·rw[pG hc] at o;go_wp2_with (go_at_call 220;refine o.mono ?_;rintro R O ⟨rfl,d⟩);go_roundw
    case rel=>exact⟨m + 1,j,by have:=B.out; congr 1; omega,rfl,by omega,F,fun q x u hx=>by
     by_cases l:q=m
     ·subst l;rw[s] at hx;cases hx;exact hc
     ·exact S.get (by omega) hx s |>.trans hc,N.out,ai g d⟩
    case measure=>have:=B.out;simp[intOf];omega
   ·have H:¬ (cA e.kl k < 0):=by
     rcases je e.kl k with q | q | q
     ·exact absurd q hc
     ·rw[q];decide
     ·rw[q];decide
    generalize cA e.kl k=x at o H;go_wp2_with (go_at_call 220;refine o.mono ?_;rintro R O ⟨rfl,d⟩);go_roundw
    case rel=>exact⟨i,m,rfl,by have:=B.out; congr 1; omega,by omega,by omega,H1.out,fun q x u hx=>by
     by_cases l:q=m
     ·subst l;rw[s] at hx;cases hx;exact hc
     ·intro G
      exact hc ((S.get (by omega) s hx).trans G),ai g d⟩
    case measure=>have:=B.out;simp[intOf];omega
  ·have I:i=j:=by omega
   subst I
   have E:Hid (plc (kys es) k=i):=uE (by simp[kys];omega) (fun q x u hx=>H1.out q x u hx) (fun x hx=>N.out i x (Nat.le_refl _) hx)
   have f:=A.keep g;by_cases ab:i < n
   ·obtain⟨e,he⟩:∃ e,es[i]?=some e:=⟨es[i],List.getElem?_eq_getElem (by omega)⟩
    have P:=f.row.cell (rj he);have Q:=f.row.cell (ky he)
    have s:(kys es)[i]?=some e.kl:=by simp[kys,he]
    have o:=cmpE (vv:=e.vv) ((f.bX e (List.mem_of_getElem? he)).k.by) (h.keep g)
    have C:Hid (thr (kys es) k=(cA e.kl k == 0)):=by
     show _=_
     unfold thr;rw[E.out,s];by_cases q:e.kl=k
     ·subst q;simp[ij]
     ·have:cA e.kl k≠0:=fun z=>q (pZ z)
      simp[q,this]
    have t:(i:Int) < n:=by omega
    generalize cA e.kl k=x at o C;clear f;go_wp2_with (go_at_call 220;refine o.mono ?_;rintro R O ⟨rfl,d⟩)
    all_goals (
     go_ret2;refine⟨?_,ai g d⟩;rw[C.out,E.out]
     rfl)
   ·have C:Hid (thr (kys es) k=false):=by
     show _=_
     unfold thr;rw[E.out,List.getElem?_eq_none (by simp[kys];omega)];rfl
    have t:¬ ((i:Int) < n):=by omega
    go_wp2;go_ret2;refine⟨?_,g⟩;rw[C.out,E.out];rfl
theorem gC(A:PgA w D p)(S:Srt (kys p.es))(h:By w v k)(hn:p.es.length<=1000000) :
  Calls Tryz.prog 179 #[p.v,v] w fun e w'=>e=.returned (.tuple #[.int .i64 (plc (kys p.es) k),.bool (thr (kys p.es) k)])/\Below w.heap.size w w':=by
 have t:=bsE A S h hn;generalize plc (kys p.es) k=x at *;generalize thr (kys p.es) k=y at *;simp only[Pg.v] at *;clear A S h;go_enter Tryz.func179,Tryz.ntmps179;go_wp2_with (go_at_call 219;refine t.mono ?_;rintro d c ⟨rfl,b⟩);go_ret2;exact⟨rfl,b⟩
end
section
variable {w w':World}{F D:Nat->Prop}{g b:Nat}{L:List Pg}{P:List (List En)}{es:List En}
structure bO(w:World)(F D:Nat->Prop)(g:Nat)(L:List Pg):Prop where
 top:∃ pv,Blk w g [pv] 151/\F g/\((pv=.slice none 0 0/\L=[])\/∃ G C,pv=.slice (some ⟨G,0,none⟩) L.length C/\F G/\Rw w 212 1 G L.length C (L.map Pg.v))
 cp:∀ p∈L,PgA w D p/\F p.b
 apart:(L.map Pg.b).Nodup
 kind:∀ b,F b->∃ cs t,Blk w b cs t/\t≠5
theorem bO.lt(h:bO w F D g L)(hb:F b):b < w.heap.size:=by
 obtain⟨cs,t,h,_⟩:=h.kind b hb;exact h.lt
theorem bO.same(h:bO w F D g L)(f:∀ b,F b->w'.heap[b]?=w.heap[b]?)(o:∀ b,b < w.heap.size->D b->(∃ cs,Blk w b cs 5)->w'.heap[b]?=w.heap[b]?):bO w' F D g L:=by
 obtain⟨pv,hb,m,i⟩:=h.top
 have a:∀ {v:Value} {l:List Int},OB w D v l->OB w' D v l:=fun h=>⟨h.oct,h.ex.imp id (by
  rintro⟨b,c,e,j,d⟩
  exact⟨b,c,e,j,d.same (o b d.lt j d.kind)⟩)⟩
 refine⟨⟨pv,hb.same (f g m),m,i.imp id ?_⟩,fun p i=>?_,h.apart,fun b hb=>?_⟩
 ·rintro⟨G,C,e,n,d⟩;exact⟨G,C,e,n,d.same (f G n)⟩
 ·obtain⟨hA,hF⟩:=h.cp p i;exact⟨⟨hA.row.same (f _ hF),fun e he=>⟨a (hA.bX e he).k,a (hA.bX e he).v⟩⟩,hF⟩
 ·obtain⟨cs,t,r,q⟩:=h.kind b hb;exact⟨cs,t,r.same (f b hb),q⟩
theorem bO.keep(h:bO w F D g L)(hb:Below w.heap.size w w'):bO w' F D g L:=h.same (fun b hF=>hb.block b (h.lt hF)) (fun b hl _ _=>hb.block b hl)
theorem bO.drew(h:bO w F D g L):bO w.drew F D g L:=h.same (fun _ _=>rfl) (fun _ _ _ _=>rfl)
theorem bO.chg{F':Nat->Prop}(h:bO w F D g L)(hc:Chg F' w w')(e:∀ b,F' b->¬ F b)(c:∀ b,F' b->∀ cs,¬ Blk w b cs 5):bO w' F D g L :=
 h.same (fun b hF=>hc.same b (h.lt hF) fun f=>e b f hF) (fun b a _ d=>hc.same b a fun f=>by obtain⟨cs,k⟩:=d;exact c b f cs k)
theorem bO.noU(h:bO w F D g L)(hb:F b)(cs:List Value):¬ Blk w b cs 5:=fun k=>by
 obtain⟨cs',t,hk,ht⟩:=h.kind b hb;exact ht (hk.eq k).2
theorem bO.mono{D':Nat->Prop}(h:bO w F D g L)(c:∀ b,b < w.heap.size->D b->D' b):bO w F D' g L :=
 ⟨h.top,fun p a=>⟨⟨(h.cp p a).1.row,fun e he=>((h.cp p a).1.bX e he).mono c⟩,(h.cp p a).2⟩,h.apart,h.kind⟩
def ens(L:List Pg):List (List En):=L.map Pg.es
def fks(P:List (List En)):List (List Int):=P.map fun es=>(kys es).headD []
def plq:List (List Int)->List Int->Nat
 | [],_=>0
 | x :: l,k=>if Lt k x then 0 else plq l k+1
theorem pC:∀ (l:List (List Int)) (k:List Int),plq l k<=l.length
 | [],_=>Nat.le_refl _
 | x :: l,k=>by
  rw[plq];split
  ·simp
  ·have:=pC l k;simp;omega
theorem yT:∀ {l:List (List Int)} {k:List Int} {i:Nat},i<=l.length->(∀ j x,j < i->l[j]?=some x->¬ Lt k x)->(∀ x,l[i]?=some x->Lt k x)->plq l k=i
 | [],_,i,h,_,_=>by simp at h;subst h;rfl
 | x :: l,k,0,_,_,h3=>by rw[plq,if_pos (h3 x rfl)]
 | x :: l,k,i + 1,h1,h2,h3=>by
  rw[plq,if_neg (h2 0 x (by omega) rfl),yT (l:=l) (i:=i) (by simpa using h1) (fun j y hj hy=>h2 (j+1) y (by omega) (by simpa using hy)) (fun y hy=>h3 y (by simpa using hy))]
theorem BS:∀ {l:List (List Int)} {k:List Int} {j:Nat} {x:List Int},j < plq l k->l[j]?=some x->¬ Lt k x
 | [],_,_,_,h,_=>by simp[plq] at h
 | y :: l,k,j,x,h,hx=>by
  rw[plq] at h;split at h
  ·omega
  ·cases j with
   | zero=>simp at hx;subst hx;assumption
   | succ j=>exact BS (l:=l) (j:=j) (by omega) (by simpa using hx)
theorem Aq:∀ {l:List (List Int)} {k:List Int} {x:List Int},l[plq l k]?=some x->Lt k x
 | [],_,_,h=>by simp at h
 | y :: l,k,x,h=>by
  rw[plq] at h;split at h
  ·simp at h;subst h;assumption
  ·exact Aq (l:=l) (by simpa using h)
def pgi(P:List (List En))(k:List Int):Nat:=plq (fks P) k - 1
structure Ord(P:List (List En)):Prop where
 full:∀ es∈P,es≠[]
 dA:Srt (kys P.flatten)
theorem Ord.page(h:Ord P){i:Nat}(hi:P[i]?=some es):Srt (kys es):=by
 have hm:=List.mem_of_getElem? hi;have:(kys es).Sublist (kys P.flatten):=(List.sublist_flatten_of_mem hm).map _;exact h.dA.sublist this
theorem jR(h:es≠[]):∃ e l,es=e :: l/\(kys es).headD []=e.kl:=by
 cases es with
 | nil=>exact absurd rfl h
 | cons e l=>exact⟨e,l,rfl,rfl⟩
theorem Ord.yM:∀ {P:List (List En)},Ord P->Srt (fks P)
 | [],_=>List.Pairwise.nil
 | es :: P,h=>by
  have h2:Ord P:=⟨fun x hx=>h.full x (List.mem_cons_of_mem _ hx),by
   have:=h.dA;simp only[Srt,kys,List.flatten_cons,List.map_append,List.pairwise_append] at this
   exact this.2.1⟩
  refine List.Pairwise.cons (fun x hx=>?_) (Ord.yM h2);obtain⟨fs,a,rfl⟩:=List.mem_map.1 hx;obtain⟨e,l,rfl,he⟩:=jR (h.full es List.mem_cons_self);obtain⟨f,m,rfl,hf⟩:=jR (h2.full fs a)
  show Lt e.kl f.kl
  have:=h.dA;simp only[Srt,kys,List.flatten_cons,List.map_append,List.pairwise_append] at this;exact this.2.2 e.kl (by simp) f.kl (List.mem_map.2 ⟨f,List.mem_flatten.2 ⟨_,a,List.mem_cons_self⟩,rfl⟩)
end
section
variable {L:List Pg}{i g:Nat}{p:Pg}{w:World}{F D:Nat->Prop}{v:Value}{k:List Int}{P:List (List En)}
theorem rp(h:L[i]?=some p):(ens L)[i]?=some p.es:=by simp[ens,h]
theorem DM(h:L[i]?=some p):(fks (ens L))[i]?=some ((kys p.es).headD []):=by simp[ens,fks,h]
theorem bO.head(A:bO w F D g L)(O:Ord (ens L))(h:L[i]?=some p):∃ kv,w.cell? ⟨p.b,0,none⟩=some kv/\By w kv ((kys p.es).headD []):=by
 have a:=List.mem_of_getElem? h
 have hm:p.es∈ens L:=List.mem_map.2 ⟨p,a,rfl⟩;obtain⟨e,l,he,c⟩:=jR (O.full _ hm);obtain⟨hA,_⟩:=A.cp p a;have q:=hA.row.cell (i:=0) (v:=e.kv) (by rw[he];rfl);exact⟨e.kv,q,by rw[c];exact(hA.bX e (by rw[he];exact List.mem_cons_self)).k.by⟩
theorem bO.rd(A:bO w F D g L):∃ ao c,w.cell? ⟨g,0,none⟩=some (.slice ao L.length c)/\L.length<=c/\c<=9223372036854775807/\(∀ i p,L[i]?=some p->∃ G,ao=some ⟨G,0,none⟩/\w.cell? ⟨G,i,none⟩=some p.v):=by
 obtain⟨pv,hb,d,⟨rfl,rfl⟩ | ⟨G,C,rfl,e,a⟩⟩:=A.top
 ·exact⟨_,_,hb.cell (i:=0) rfl,by decide,by decide,fun i p h=>by simp at h⟩
 ·have b:=a.le;simp only[maxLen] at b;exact⟨_,C,hb.cell (i:=0) rfl,by omega,by omega,fun i p h=>⟨G,rfl,a.cell (by simp[h])⟩⟩
theorem iT(A:bO w F D g L)(O:Ord (ens L))(h:By w v k)(hn:L.length<=1000000000) :
  Calls Tryz.prog 178 #[.pointer (some ⟨g,0,none⟩),v] w fun e w'=>e=.returned (.int .i64 (pgi (ens L) k))/\Below w.heap.size w w':=by
 obtain⟨S,c,hc,R,hc2,N⟩:=A.rd;have l:=O.yM;obtain⟨s,r⟩:∃ s,Hid (fks (ens L)=s):=⟨_,rfl⟩
 rw[r.out] at l;obtain⟨n,t⟩:∃ n,Hid (L.length=n):=⟨_,rfl⟩
 rw[t.out] at hc R hn
 have hkl:s.length=n:=by rw[<- r.out,<- t.out];simp[fks,ens]
 have Q:Below w.heap.size w w.drew:=⟨rfl,rfl,rfl,Nat.le_refl _,fun _ _=>rfl⟩
 have hcd:w.drew.cell? ⟨g,0,none⟩=some (.slice S n c):=hc
 have d:∀ (i:Nat),i<=n->(∀ q x,q < i->s[q]? = some x->¬ Lt k x)->(∀ q x,i<=q->s[q]? = some x->Lt k x)->pgi (ens L) k=i - 1:=fun i hi h1 h2=>by
  unfold pgi;rw[r.out,yT (i:=i) (by omega) (fun j x hj hx=>h1 j x hj hx) (fun x hx=>h2 i x (Nat.le_refl _) hx)]
 have d:Hid _:=d;have mixed:=mixed;go_enter Tryz.func178,Tryz.ntmps178;go_wp2;go_step3;go_wp2;go_region;go_wp2;go_step3;go_wp2;go_loopw [5,6] (fun K J wr=>∃ i j:Nat,K=.int .i64 i/\J=.int .i64 j/\i<=j/\j<=n/\Hid (∀ q x,q < i->s[q]?=some x->¬ Lt k x)/\Hid (∀ q x,j<=q->s[q]?=some x->Lt k x)/\Below w.heap.size w wr) (fun K J _=>(intOf J).toNat - (intOf K).toNat)
 case atStart=>exact⟨0,n,rfl,rfl,Nat.zero_le _,Nat.le_refl _,fun q x B=>by omega,fun q x B hx=>by
  have:=(List.getElem?_eq_some_iff.1 hx).1
  omega,Q⟩
 case round =>
  obtain⟨i,j,rfl,rfl,hij,H,H1,U,o⟩:=hrel;by_cases hlt:i < j
  ·obtain⟨m,hm⟩:∃ m,m=i+(j - i) / 2:=⟨_,rfl⟩
   have hm1:i<=m:=by omega
   have hm2:m < j:=by omega
   obtain⟨p,E⟩:∃ p,L[m]?=some p:=⟨L[m]'(by have:=t.out;omega),List.getElem?_eq_getElem _⟩
   have Y:=A.keep o
   have c0:wr.cell? ⟨g,0,none⟩=some (.slice S n c):=by
    rw[o.cell (p:=⟨g,0,none⟩) (by obtain⟨_,hb,_⟩:=A.top;exact hb.lt)];exact hc
   obtain⟨G,rfl,Z⟩:=N m p E
   have z:wr.cell? ⟨G,m,none⟩=some p.v:=by
    rw[o.cell (p:=⟨G,m,none⟩) (aH Z)];exact Z
   obtain⟨kv,cK,T⟩:=Y.head O E
   have b:s[m]?=some ((kys p.es).headD []):=by rw[<- r.out];exact DM E
   have hpe:0 < p.es.length:=by
    have:=O.full p.es (List.mem_map.2 ⟨p,List.mem_of_getElem? E,rfl⟩);exact List.length_pos_iff.2 this
   simp only[Pg.v] at z;rw[hm] at z;have u:=kY T (h.keep o);generalize (kys p.es).headD []=W at *
   have y:Hid (m=i+(j - i) / 2):=hm
   have hz0:(0:Int)<=(i:Int)+((j:Int) - (i:Int)) / 2:=by omega
   have hz1:(i:Int)+((j:Int) - (i:Int)) / 2 < n:=by omega
   have hz2:((i:Int)+((j:Int) - (i:Int)) / 2).toNat=i+(j - i) / 2:=by omega
   generalize p.es.length=pn at *;clear Y hm T;rcases qk W k with hc | hc | hc
   ·rw[pG hc] at u;go_wp2_with (go_at_call 218;refine u.mono ?_;rintro X V ⟨rfl,rfl⟩);go_roundw
    case rel=>exact⟨m + 1,j,by have:=y.out; congr 1; omega,rfl,by omega,H,fun q x B hx=>by
     by_cases f:q=m
     ·subst f;rw[b] at hx;cases hx;exact hc.not
     ·exact((l.get (by omega) hx b).trans hc).not,U.out,o⟩
    case measure=>have:=y.out;simp[intOf];omega
   ·have hF:=d.out (m + 1) (by omega) (fun q x B hx=>by
     subst hc;by_cases f:q=m
     ·subst f;rw[b] at hx;cases hx;exact lt_irrefl _
     ·exact(l.get (by omega) hx b).not) (fun q x B hx=>by subst hc;exact l.get (by omega) b hx)
    have C:Hid (pgi (ens L) k=m):=by show _=_;rw[hF];omega
    have HC:Hid (W=k):=hc;rw[hc,ij] at u
    have hx0:(i:Int)+((j:Int) - (i:Int)) / 2+1 - 1=(i:Int)+((j:Int) - (i:Int)) / 2:=by omega
    have P:¬ ((i:Int)+((j:Int) - (i:Int)) / 2 < 0):=by omega
    clear hF hc;go_wp2_with (go_at_call 218;refine u.mono ?_;rintro X V ⟨rfl,rfl⟩);simp only[Exit.noGoto_ret];go_ret;refine⟨?_,o⟩;rw[C.out];have:=y.out
    show Ending.returned (Value.int .i64 ((i:Int)+((j:Int) - (i:Int)) / 2))=_
    rw[show (i:Int)+((j:Int) - (i:Int)) / 2=(m:Int) by omega]
   ·rw[DT hc] at u;go_wp2_with (go_at_call 218;refine u.mono ?_;rintro X V ⟨rfl,rfl⟩);go_roundw
    case rel=>exact⟨i,m,rfl,by have:=y.out; congr 1; omega,by omega,by omega,H1.out,fun q x B hx=>by
     by_cases f:q=m
     ·subst f;rw[b] at hx;cases hx;exact hc
     ·exact hc.trans (l.get (by omega) b hx),o⟩
    case measure=>have:=y.out;simp[intOf];omega
  ·have I:i=j:=by omega
   subst I
   have C:Hid (pgi (ens L) k=i - 1):=d.out i (by omega) H1.out U.out;by_cases M:i=0
   ·subst M;go_wp2
    try simp only[Exit.noGoto_ret]
    go_ret;refine⟨?_,o⟩;rw[C.out];rfl
   ·have P:¬ ((i:Int) - 1 < 0):=by omega
    have aa:(0:Int)<=(i:Int) - 1:=by omega
    go_wp2
    try simp only[Exit.noGoto_ret]
    go_ret;refine⟨?_,o⟩;rw[C.out]
    show Ending.returned (Value.int .i64 ((i:Int) - 1))=_
    rw[show (i:Int) - 1=((i - 1:Nat):Int) by omega]
theorem pgi_lt(h:P≠[])(k:List Int):pgi P k < P.length:=by
 have h1:=pC (fks P) k
 have h2:0 < P.length:=List.length_pos_iff.2 h;simp only[fks,List.length_map] at h1;unfold pgi fks;omega
theorem nN(A:bO w F D g []) :
  Calls Tryz.prog 130 #[.pointer (some ⟨g,0,none⟩),v] w fun e w'=>e=.returned (.tuple #[.int .i64 0,.int .i64 0,.bool false])/\w'=w:=by
 obtain⟨i,c,hc,f,d,b⟩:=A.rd;simp only[List.length_nil] at hc;clear A b;go_enter Tryz.func130,Tryz.ntmps130;go_wp2;go_ret3;exact⟨rfl,rfl⟩
theorem lL(A:bO w F D g L)(O:Ord (ens L))(h:By w v k)(hn:L.length<=1000000000)(l:L[pgi (ens L) k]?=some p)(N:p.es.length<=1000000) :
  Calls Tryz.prog 130 #[.pointer (some ⟨g,0,none⟩),v] w fun e w'=>e=.returned (.tuple #[.int .i64 (pgi (ens L) k),.int .i64 (plc (kys p.es) k),.bool (thr (kys p.es) k)])/\Below w.heap.size w w':=by
 have E:=iT A O h hn;have t:=(List.getElem?_eq_some_iff.1 l).1;have f:=List.mem_of_getElem? l
 have C:∀ w',Below w.heap.size w w'->Calls Tryz.prog 179 #[p.v,v] w' fun e q=>e=.returned (.tuple #[.int .i64 (plc (kys p.es) k),.bool (thr (kys p.es) k)])/\Below w'.heap.size w' q:=fun w' hb =>
  gC ((A.cp p f).1.keep hb) (O.page (rp l)) (h.keep hb) N
 obtain⟨P,c,hc,B,M,j⟩:=A.rd;obtain⟨G,rfl,H⟩:=j _ p l;have r:=aH hc;have m:=aH H;generalize pgi (ens L) k=i at *;generalize plc (kys p.es) k=x at *;generalize thr (kys p.es) k=y at *;obtain⟨n,z⟩:∃ n,L.length=n:=⟨_,rfl⟩
 rw[z] at hc B t
 have I:¬ ((n:Int)=0):=by omega
 have J:(i:Int) < n:=by omega
 simp only[Pg.v] at *;clear A O h j l f;go_enter Tryz.func130,Tryz.ntmps130;go_wp2_with (first | (go_at_call 178;refine E.mono ?_;rintro K s ⟨rfl,d⟩;have c1:s.cell? ⟨g,0,none⟩=some (.slice (some ⟨G,0,none⟩) n c):=(d.cell (p:=⟨g,0,none⟩) r).trans hc;have c2:s.cell? ⟨G,i,none⟩=some (.slice (some ⟨p.b,0,none⟩) p.es.length p.c):=(d.cell (p:=⟨G,i,none⟩) m).trans H;have o:=C s d;clear E C) | (go_at_call 179;refine o.mono ?_;rintro K Q ⟨rfl,u⟩));go_ret3;exact⟨rfl,ai d u⟩
end
section
variable {w w1:World}{F D:Nat->Prop}{g G n c i j:Nat}{L L':List Pg}{cs ds xs:List Value}{p q:Pg}{c0:Value}
theorem bO.opn(A:bO w F D g L)(h:L≠[]):∃ G C,Blk w g [.slice (some ⟨G,0,none⟩) L.length C] 151/\F g/\F G/\Rw w 212 1 G L.length C (L.map Pg.v):=by
 obtain⟨pv,hb,b,⟨rfl,rfl⟩ | ⟨G,C,rfl,c,a⟩⟩:=A.top
 ·exact absurd rfl h
 ·exact⟨G,C,hb,b,c,a⟩
theorem ee{a b:Nat}{t u:TypeId}(h:Blk w a cs t)(h':Blk w b ds u)(ht:t≠u):a≠b:=fun e=>by subst e;exact ht (h.eq h').2
theorem PgA.eK(h:PgA w D p)(hg:Blk w g cs 151):p.b≠g:=by
 obtain⟨ds,k⟩:=h.row.kind;exact ee k hg (by decide)
theorem PgA.eN(h:PgA w D p)(hG:Rw w 212 1 G n c xs):p.b≠G:=by
 obtain⟨ds,k⟩:=h.row.kind;obtain⟨es,k'⟩:=hG.kind;exact ee k k' (by decide)
theorem Rw.eK(hG:Rw w 212 1 G n c xs)(hg:Blk w g cs 151):G≠g:=by
 obtain⟨es,k'⟩:=hG.kind;exact ee k' hg (by decide)
theorem l9(h:(L.map Pg.b).Nodup)(hi:L[i]?=some p)(c:L[j]?=some q)(a:i < j):p.b≠q.b:=by
 obtain⟨l1,e1⟩:=List.getElem?_eq_some_iff.1 hi;obtain⟨d,e2⟩:=List.getElem?_eq_some_iff.1 c;have:=List.pairwise_iff_getElem.1 h i j (by simpa using l1) (by simpa using d) a;simpa[e1,e2] using this
theorem rD(h:(L.map Pg.b).Nodup)(hi:L[i]?=some p)(hj:L[j]?=some q)(hij:i≠j):p.b≠q.b:=by
 rcases Nat.lt_or_gt_of_ne hij with k | k
 ·exact l9 h hi hj k
 ·exact(l9 h hj hi k).symm
theorem Bn(h:∀ (i j:Nat) (p q:Pg),L[i]?=some p->L[j]?=some q->i < j->p.b≠q.b):(L.map Pg.b).Nodup:=by
 refine List.pairwise_iff_getElem.2 fun i j e c a=>?_
 have l1:i < L.length:=by simpa using e
 have d:j < L.length:=by simpa using c
 simpa using h i j _ _ (List.getElem?_eq_getElem l1) (List.getElem?_eq_getElem d) a
theorem EnA.off{w':World}{e:En}(h:EnA w D e)(g:∀ b,b < w.heap.size->(∃ cs,Blk w b cs 5)->w'.heap[b]?=w.heap[b]?):EnA w' D e:=by
 have a:∀ {v:Value} {l:List Int},OB w D v l->OB w' D v l:=fun h=>⟨h.oct,h.ex.imp id (by
  rintro⟨b,c,e,f,d⟩
  exact⟨b,c,e,f,d.same (g b d.lt d.kind)⟩)⟩
 exact⟨a h.k,a h.v⟩
theorem bO.put{D':Nat->Prop}{C:Nat}{p':Pg}(A:bO w F D g L)(K:Blk w g [.slice (some ⟨G,0,none⟩) L.length C] 151)(J:F g)(u:F G)(E:Rw w 212 1 G L.length C (L.map Pg.v))(hi:L[i]?=some p)(r:Chg (·=p.b) w w1)(hb:p'.b=p.b\/w.heap.size<=p'.b)(hA:PgA w1 D' p')(W:∀ b,b < w.heap.size->D b->D' b) :
  bO (w1.setCell ⟨G,i,none⟩ p'.v) (fun x=>(F x/\x≠p.b)\/x=p'.b) D' g (L.set i p')/\Chg F w (w1.setCell ⟨G,i,none⟩ p'.v):=by
 have h:=(List.getElem?_eq_some_iff.1 hi).1;have O:=A.cp p (List.mem_of_getElem? hi);have S:=O.1.eK K;have T:=O.1.eN E;have V:=E.eK K
 have N:Blk w1 g _ _:=K.chg r (fun e=>S e.symm);have l:=E.chg r (fun e=>T e.symm);have B:=l.set i (by simpa using h) p'.v
 have Q:p'.b≠G:=hA.eN l
 have s:Chg F w (w1.setCell ⟨G,i,none⟩ p'.v):=(r.mono (F':=F) (fun b _ e=>by subst e;exact O.2)).cell (.inl u) _
 have I:∀ b,b < w.heap.size->(∃ cs,Blk w b cs 5)->(w1.setCell ⟨G,i,none⟩ p'.v).heap[b]? = w.heap[b]? := fun b hb M=>by
  obtain⟨cs,k⟩:=M;exact s.same b hb fun f=>A.noU f cs k
 have c:∀ b,b≠G->(w1.setCell ⟨G,i,none⟩ p'.v).heap[b]?=w1.heap[b]?:=fun b hb=>Below.heap_setCell w1 _ _ b hb
 refine⟨⟨⟨_,N.off (fun e=>V e.symm) _,.inl ⟨J,fun e=>S e.symm⟩,.inr ⟨G,C,?_,.inl ⟨u,fun e=>T e.symm⟩,?_⟩⟩,fun q X=>?_,Bn fun x y a b hx hy P=>?_,fun b hb=>?_⟩,s⟩
 ·rw[List.length_set]
 ·rw[List.length_set];refine B.to ?_
  rw[List.map_set]
 ·obtain⟨j,m⟩:=List.getElem?_of_mem X;rw[List.getElem?_set] at m;by_cases e:i=j
  ·subst e;rw[if_pos rfl,if_pos h] at m
   cases m;refine⟨⟨hA.row.same (c _ Q),fun e he=>(hA.bX e he).off fun b _ M=>?_⟩,.inr rfl⟩;obtain⟨cs,k⟩:=M;obtain⟨R,H⟩:=l.kind;exact c b (ee k H (by decide))
  ·rw[if_neg e] at m;have d:=A.cp q (List.mem_of_getElem? m)
   have o:q.b≠p.b:=fun n=>rD A.apart hi m e n.symm
   exact⟨⟨(d.1.row.chg r o).same (c _ (d.1.eN E)),fun e he=>((d.1.bX e he).mono W).off I⟩,.inl ⟨d.2,o⟩⟩
 ·have key:∀ (y:Nat) (b:Pg),y≠i->L[y]? = some b->p'.b≠b.b:=fun y b hy z=>by
   rcases hb with e | e
   ·rw[e];exact rD A.apart hi z (fun n=>hy n.symm)
   ·have:=(A.cp b (List.mem_of_getElem? z)).1.row.lt;omega
  rw[List.getElem?_set] at hx hy;by_cases e:i=x
  ·subst e;rw[if_pos rfl,if_pos h] at hx
   cases hx;rw[if_neg (by omega)] at hy;exact key y b (by omega) hy
  ·rw[if_neg e] at hx;by_cases n:i=y
   ·subst n;rw[if_pos rfl,if_pos h] at hy
    cases hy;exact(key x a (by omega) hx).symm
   ·rw[if_neg n] at hy;exact l9 A.apart hx hy P
 ·by_cases e:b=p'.b
  ·subst e;obtain⟨cs,k⟩:=hA.row.kind;exact⟨cs,_,k.same (c _ Q),by decide⟩
  ·obtain⟨hF,e2⟩:=hb.resolve_right e;obtain⟨cs,t,k,U⟩:=A.kind b hF;by_cases e1:b=G
   ·subst e1;obtain⟨R,H⟩:=B.kind;exact⟨R,_,H,by decide⟩
   ·exact⟨cs,t,(k.chg r e2).same (c b e1),U⟩
theorem kF{G' C':Nat}(M:∀ p∈L',PgA w D p/\F p.b)(B:(L'.map Pg.b).Nodup)(K:∀ b,F b->∃ cs t,Blk w b cs t/\t≠5)(J:Blk w g [c0] 151)(r:F g)(C:F G)(h:G≠g)(s:Chg (·=G) w w1)(j:∀ p∈L',p.b≠G)(hn:L'.length=n)(I:Rw w1 212 1 G' n C' (L'.map Pg.v)) :
  bO (w1.setCell ⟨g,0,none⟩ (.slice (some ⟨G',0,none⟩) n C')) (fun x=>(F x/\x≠G)\/x=G') D g L'/\Chg F w (w1.setCell ⟨g,0,none⟩ (.slice (some ⟨G',0,none⟩) n C')):=by
 subst hn
 have m:Blk w1 g [c0] 151:=J.chg s (fun e=>h e.symm);have o:=m.setCell (i:=0) (.slice (some ⟨G',0,none⟩) L'.length C')
 have d:G'≠g:=I.eK m
 have a:∀ b,b≠g->(w1.setCell ⟨g,0,none⟩ (.slice (some ⟨G',0,none⟩) L'.length C')).heap[b]?=w1.heap[b]?:=fun b hb=>Below.heap_setCell w1 _ _ b hb
 have l:Chg F w (w1.setCell ⟨g,0,none⟩ (.slice (some ⟨G',0,none⟩) L'.length C')):=(s.mono (F':=F) (fun b _ e=>by subst e;exact C)).cell (.inl r) _
 have H:∀ b,b < w.heap.size->(∃ cs,Blk w b cs 5)->(w1.setCell ⟨g,0,none⟩ (.slice (some ⟨G',0,none⟩) L'.length C')).heap[b]? = w.heap[b]? := fun b hb y=>by
  obtain⟨cs,k⟩:=y;exact l.same b hb fun f=>by
   obtain⟨L,t,z,u⟩:=K b f;exact u (z.eq k).2
 refine⟨⟨⟨_,o,.inl ⟨r,fun e=>h e.symm⟩,.inr ⟨G',C',rfl,.inr rfl,I.same (a _ d)⟩⟩,fun q A=>?_,B,fun b hb=>?_⟩,l⟩
 ·have c:=M q A;exact⟨⟨(c.1.row.chg s (j q A)).same (a _ (c.1.eK J)),fun e he=>(c.1.bX e he).off H⟩,.inl ⟨c.2,j q A⟩⟩
 ·by_cases e:b=G'
  ·subst e;obtain⟨E,k⟩:=I.kind;exact⟨E,_,k.same (a _ d),by decide⟩
  ·obtain⟨hF,e2⟩:=hb.resolve_right e;obtain⟨E,t,k,u⟩:=K b hF;by_cases e1:b=g
   ·subst e1;exact⟨_,_,o,by decide⟩
   ·exact⟨E,t,(k.chg s e2).same (a b e1),u⟩
theorem sR(L:List Pg):∀ v∈L.map Pg.v,v.oneCell'=true:=fun v hv=>by
 obtain⟨p,_,rfl⟩:=List.mem_map.1 hv;rfl
end
section
variable {ops:Array Oper} {Q:Exit->Act->World->Prop} {S:World->Prop} {fuel:Nat} {listed:Array Bool} {a:Act} {w:World}
section
variable {Qc:Ending->World->Prop}
def lu(ops:Array Oper)(listed:Array Bool)(a:Act)(i:Nat)(d:Option Tmp):Bool :=
 Region.noSelect ops && Region.free .any ops listed i && (Region.ready .any ops listed).contains i && decide (i < ops.size) && Region.wanted (ops.getD i default) (yielded ops a.tmps) && decide ((ops.getD i default).dst=d)
def EX(ops:Array Oper)(listed:Array Bool)(a:Act)(i:Nat)(d:Option Tmp):Bool :=
 Region.noSelect ops && Region.free .any ops listed i && (Region.ready .any ops listed).contains i && decide (i < ops.size) && !Region.wanted (ops.getD i default) (yielded ops a.tmps) && decide ((ops.getD i default).dst=d)
def kK(ops:Array Oper)(listed:Array Bool)(a:Act)(i:Nat)(d:Option Tmp):Bool :=
 decide (Region.ready .any ops listed=[i]) && decide (i < ops.size) && Region.wanted (ops.getD i default) (yielded ops a.tmps) && decide ((ops.getD i default).dst=d)
theorem cC{i:Nat}(h:i < ops.size):ops[i]?=some (ops.getD i default):=by
 simp[Array.getD,h]
theorem qR(i:Nat)(d:Option Tmp)(v:Value)(hc:lu ops listed a i d=true)(hy:∀ w',S w'->(execOp a.eval (ops.getD i default)).run Tryz.prog w'=.ok (.value v) w')(f:∀ c a w,Q (.panic c) (a.put d v) w->Q (.panic c) a w)(hS:S w)(h:wpAnyH Tryz.prog .any ops Q S fuel (listed.setIfInBounds i true) (a.put d v) w):wpAnyH Tryz.prog .any ops Q S (fuel+1) listed a w:=by
 simp only[lu,Bool.and_eq_true,decide_eq_true_eq] at hc;obtain⟨⟨⟨⟨⟨k,b⟩,e⟩,j⟩,l⟩,g⟩:=hc;subst g;exact wpAnyH_take (cC j) k b e f (.inl ⟨l,hy⟩) hS h
theorem i3{α β γ:Type}{p:α->β->γ->Prop}:∀ c a w,p c a w->p c a w:=fun _ _ _ h=>h
theorem ax(i d:Nat)(v:Value)(hc:lu ops listed a i (some d)=true)(hy:∀ w',S w'->(execOp a.eval (ops.getD i default)).run Tryz.prog w'=.ok (.value v) w')(b:∀ c a w,Q (.panic c) (a.put (some d) v) w->Q (.panic c) a w)(hS:S w)(h:wpAnyH Tryz.prog .any ops Q S fuel (listed.setIfInBounds i true) (a.put (some d) v) w):wpAnyH Tryz.prog .any ops Q S (fuel+1) listed a w:=qR i (some d) v hc hy b hS h
theorem iD(i:Nat)(d:Option Tmp)(v b:Value)(f:v=b)(hc:lu ops listed a i d=true)(hy:∀ w',S w'->(execOp a.eval (ops.getD i default)).run Tryz.prog w'=.ok (.value v) w')(e:∀ c a w,Q (.panic c) (a.put d b) w->Q (.panic c) a w)(hS:S w)(h:wpAnyH Tryz.prog .any ops Q S fuel (listed.setIfInBounds i true) (a.put d b) w):wpAnyH Tryz.prog .any ops Q S (fuel+1) listed a w:=by
 subst f;exact qR i d v hc hy e hS h
theorem cD(i:Nat)(d:Option Tmp)(hc:EX ops listed a i d=true)(f:∀ c a w,Q (.panic c) (a.put d undef) w->Q (.panic c) a w)(hS:S w)(h:wpAnyH Tryz.prog .any ops Q S fuel (listed.setIfInBounds i true) (a.put d undef) w):wpAnyH Tryz.prog .any ops Q S (fuel+1) listed a w:=by
 simp only[EX,Bool.and_eq_true,decide_eq_true_eq,Bool.not_eq_true'] at hc;obtain⟨⟨⟨⟨⟨k,b⟩,e⟩,j⟩,l⟩,g⟩:=hc;subst g;exact wpAnyH_take (cC j) k b e f (.inr ⟨l,rfl⟩) hS h
theorem aN(i:Nat)(d:Option Tmp)(v:Value)(T:TypeId)(k g o:Nat)(hc:lu ops listed a i d=true)(f:(ops.getD i default).op=.load T (.tmp k))(e:a.eval (.tmp k)=.pointer (some ⟨g,o,none⟩))(j:∀ w',S w'->(loadVar T ⟨g,o,none⟩).run Tryz.prog w'=.ok v w')(l:∀ c a w,Q (.panic c) (a.put d v) w->Q (.panic c) a w)(hS:S w)(h:wpAnyH Tryz.prog .any ops Q S fuel (listed.setIfInBounds i true) (a.put d v) w):wpAnyH Tryz.prog .any ops Q S (fuel+1) listed a w :=
 qR i d v hc (fun w' b=>by
  have:=j w' b;simp only[execOp,f,e]
  simp[Instr.loadAt,Instr.sureAddr,Result.andThen,this]) l hS h
theorem bQ(i:Nat)(d:Option Tmp)(f:FuncId)(args:Array Value)(hc:kK ops listed a i d=true)(c:(execOp a.eval (ops.getD i default)).run Tryz.prog w=.ok (.enter f args) w)(b:Calls Tryz.prog f args w Qc)(h:∀ e w',Qc e w'->∃ v,e=.returned v/\S w'/\wpAnyH Tryz.prog .any ops Q S fuel (listed.setIfInBounds i true) (a.put d v) w') :
  wpAnyH Tryz.prog .any ops Q S (fuel+1) listed a w:=by
 simp only[kK,Bool.and_eq_true,decide_eq_true_eq] at hc;obtain⟨⟨⟨n,k⟩,m⟩,o⟩:=hc;subst o;refine wpAnyH_all n (by simp) fun j p=>?_
 obtain rfl:j=i:=by simpa using p
 refine wpOp_step (cC k) fun K l=>?_
 rw[if_pos m];unfold Oper.wp;rw[c];refine b.mono fun e w' he=>?_
 obtain⟨v,rfl,g,hw⟩:=h e w' he;exact l _ _ ⟨g,hw⟩
theorem bh(hr:Region.ready .any ops listed=[])(h:Q .normal a w):wpAnyH Tryz.prog .any ops Q S fuel listed a w:=wpAnyH_done hr h fuel
theorem bJ{id:Nat}(hm:Tryz.prog.follows .mixedOrders=true)(hS:S w.drew)(h:wpAnyH Tryz.prog .any ops Q S ops.size (Array.replicate ops.size false) a w.drew):(Code.region id ops true).wp Tryz.prog Q a w :=
 wp_region_held_drew hm hS fun _=>h
end
end
def gQ (a:Act):List (Option Tmp × Value)->Act
 | []=>a
 | p :: l=>gQ (a.put p.1 p.2) l
section
variable {ops:Array Oper} {Q:Exit->Act->World->Prop} {S:World->Prop} {fuel:Nat} {listed:Array Bool} {a:Act} {w:World}
section
variable {K:Act->World->Prop}{rs:List Nat}{Qc:Ending->World->Prop}
theorem mM{X:Type}{id:Nat}{c:Exit->Act->World->Prop}(upd:X->List (Option Tmp × Value))(F:X->World->Prop)(S:World->Prop)(hm:Tryz.prog.follows .mixedOrders=true)(hS:S w.drew)(d:wpAnyH Tryz.prog .any ops (Exit.then (fun a' w'=>∃ x,a'=gQ a (upd x)/\F x w') (fun _ _ _=>False)) S ops.size (Array.replicate ops.size false) a w.drew)(b:∀ x w',F x w'->K (gQ a (upd x)) w'):(Code.region id ops true).wp Tryz.prog (Exit.then K c) a w :=
 Code.wp_mono (fun e a' w' h=>by
  cases e<;>first
   | (obtain⟨x,rfl,hF⟩:=h;exact b x w' hF)
   | exact h.elim) (wp_region_held_drew (S:=S) hm hS fun _=>d)
def gE(ops:Array Oper)(a:Act)(i:Nat)(d:Option Tmp):Bool :=
 decide (i < ops.size) && Region.wanted (ops.getD i default) (yielded ops a.tmps) && decide ((ops.getD i default).dst=d)
theorem aB(rs:List Nat)(hr:Region.ready .any ops listed=rs)(hne:rs≠[])(h:AllReadyH Tryz.prog .any ops Q S fuel listed a w rs):wpAnyH Tryz.prog .any ops Q S (fuel+1) listed a w:=wpAnyH_ready hr hne h
theorem aL:AllReadyH Tryz.prog .any ops Q S fuel listed a w []:=AllReadyH.nil
theorem vV(i:Nat)(d:Option Tmp)(f:FuncId)(args:Array Value)(hc:gE ops a i d=true)(c:(execOp a.eval (ops.getD i default)).run Tryz.prog w=.ok (.enter f args) w)(b:Calls Tryz.prog f args w Qc)(h:∀ e w',Qc e w'->∃ v,e=.returned v/\S w'/\wpAnyH Tryz.prog .any ops Q S fuel (listed.setIfInBounds i true) (a.put d v) w')(m:AllReadyH Tryz.prog .any ops Q S fuel listed a w rs):AllReadyH Tryz.prog .any ops Q S fuel listed a w (i :: rs):=by
 simp only[gE,Bool.and_eq_true,decide_eq_true_eq] at hc;obtain⟨⟨j,l⟩,n⟩:=hc;subst n;refine AllReadyH.cons (cC j) (fun K k=>?_) m;rw[if_pos l];unfold Oper.wp;rw[c];refine b.mono fun e w' he=>?_
 obtain⟨v,rfl,g,hw⟩:=h e w' he;exact k.out _ _ g fun _=>hw
theorem aO(i:Nat)(d:Option Tmp)(v:Value)(w1:World)(hc:gE ops a i d=true)(b:(execOp a.eval (ops.getD i default)).run Tryz.prog w=.ok (.value v) w1)(c:S w1)(h:wpAnyH Tryz.prog .any ops Q S fuel (listed.setIfInBounds i true) (a.put d v) w1)(j:AllReadyH Tryz.prog .any ops Q S fuel listed a w rs):AllReadyH Tryz.prog .any ops Q S fuel listed a w (i :: rs):=by
 simp only[gE,Bool.and_eq_true,decide_eq_true_eq] at hc;obtain⟨⟨e,g⟩,k⟩:=hc;subst k;refine AllReadyH.cons (cC e) (fun K f=>?_) j;rw[if_pos g];unfold Oper.wp;rw[b]
 show K (a.put (ops.getD i default).dst v) w1
 exact f.out _ _ c fun _=>h
theorem cB(i:Nat)(w1:World)(hc:gE ops a i none=true)(b:(execOp a.eval (ops.getD i default)).run Tryz.prog w=.ok .skip w1)(c:S w1)(h:wpAnyH Tryz.prog .any ops Q S fuel (listed.setIfInBounds i true) (a.put none undef) w1)(g:AllReadyH Tryz.prog .any ops Q S fuel listed a w rs):AllReadyH Tryz.prog .any ops Q S fuel listed a w (i :: rs):=by
 simp only[gE,Bool.and_eq_true,decide_eq_true_eq] at hc;obtain⟨⟨d,f⟩,j⟩:=hc;refine AllReadyH.cons (cC d) (fun K e=>?_) g;rw[if_pos f];unfold Oper.wp;rw[b]
 show K (a.put (ops.getD i default).dst undef) w1
 rw[j];exact e.out _ _ c fun _=>h
end
end
section
variable {a:Act}{w:World}{x y k n c g off:Nat}{o:Oper}{v u:Value}{ao bo:Option Addr}
theorem cS{op:Oper}{T:TypeId}{b:Nat}(l:op.op=.indexAddr T (.tmp x) (.tmp y))(p:Tryz.prog.underlying T=some (.slice 212))(hx:a.eval (.tmp x)=.slice (some ⟨b,0,none⟩) n c){z:Int}(hy:a.eval (.tmp y)=.int .i64 z)(g:z=(k:Int))(o:k < n):(execOp a.eval op).run Tryz.prog w=.ok (.value (.pointer (some ⟨b,k,none⟩))) w:=by
 subst g
 have q:(k:Int) < n:=by omega
 have m:¬ ((k:Int) < 0):=by omega
 obtain⟨i0,hi,d,f,j⟩:=info_parts (P:=Tryz.prog) (show (Tryz.prog.info? 212).map (fun i=>(i.zero,i.size,i.bytes))=some (some (.slice none 0 0),1,24) by kernel_rfl);simp only[execOp,l,hx,hy];go_simp
theorem fG{o:Nat}(c:w.cell? ⟨g,o,none⟩=some v):(loadVar 149 ⟨g,o,none⟩).run Tryz.prog w=.ok v w:=by go_simp
theorem pz{o:Nat}(c:w.cell? ⟨g,o,none⟩=some v):(loadVar 212 ⟨g,o,none⟩).run Tryz.prog w=.ok v w:=by go_simp
theorem ld_e(c:w.cell? ⟨g,0,none⟩=some v)(d:w.cell? ⟨g,1,none⟩=some u):(loadVar 211 ⟨g,0,none⟩).run Tryz.prog w=.ok (.agg #[v,u]) w:=by go_simp
theorem dQ{T:TypeId}(k:Nat)(c:o.op=.load T (.tmp k))(b:a.eval (.tmp k)=.pointer (some ⟨g,off,none⟩))(d:(loadVar T ⟨g,off,none⟩).run Tryz.prog w=.ok v w):(execOp a.eval o).run Tryz.prog w=.ok (.value v) w:=by
 simp only[execOp,c,b];simp[Instr.loadAt,Instr.sureAddr,Result.andThen,d]
theorem kA(k q:Nat)(d:o.op=.store 212 (.tmp k) (.tmp q))(b:a.eval (.tmp k)=.pointer (some ⟨g,off,none⟩))(f:a.eval (.tmp q)=.slice ao n c)(hc:w.cell? ⟨g,off,none⟩=some u)(hf:w.frozen? ⟨g,off,none⟩=false) :
  (execOp a.eval o).run Tryz.prog w=.ok .skip (w.setCell ⟨g,off,none⟩ (.slice ao n c)):=by
 simp only[execOp,d,b,f];go_simp
theorem qP{kv vv:Value}(b:o.op=.buildSlice 212 1 #[(0,.tmp k)])(d:a.eval (.tmp k)=.agg #[kv,vv]):(execOp a.eval o).run Tryz.prog w=.ok (.value (.slice (some ⟨w.heap.size,0,none⟩) 1 1)) (w.alloc (.cells #[kv,vv] 211)):=by
 have c:a.tmps[k]?.getD undef=.agg #[kv,vv]:=by simpa[Act.eval] using d
 simp only[execOp,b];go_simp
theorem Cs{m d:Nat}(f:o.op=.buildSlice 149 2 #[(0,.tmp x),(1,.tmp y)])(hx:a.eval (.tmp x)=.slice ao n c)(hy:a.eval (.tmp y)=.slice bo m d):(execOp a.eval o).run Tryz.prog w=.ok (.value (.slice (some ⟨w.heap.size,0,none⟩) 2 2)) (w.alloc (.cells #[.slice ao n c,.slice bo m d] 212)):=by
 have b:a.tmps[x]?.getD undef=.slice ao n c:=by simpa[Act.eval] using hx
 have g:a.tmps[y]?.getD undef=.slice bo m d:=by simpa[Act.eval] using hy
 simp only[execOp,f];go_simp
end
section
variable {w:World}{D F:Nat→Prop}{p:Pg}{es:List En}{g G i j:Nat}{v u c0:Value}{L:List Pg}
theorem Ek{D:Nat->Prop}(h:PgA w D p)(hs:∀ e∈es,e∈p.es):∀ e∈es,EnA w D e:=fun e he=>h.bX e (hs e he)
theorem cy(w:World):Below w.heap.size w w.drew:=⟨rfl,rfl,rfl,Nat.le_refl _,fun _ _=>rfl⟩
theorem bU(h:g≠G)(hc:w.cell? ⟨g,j,none⟩=some u):(w.setCell ⟨G,i,none⟩ v).cell? ⟨g,j,none⟩=some u:=by
 rw[World.cell?_of_block (w:=w) (a:=⟨g,j,none⟩) (Below.heap_setCell w _ v g h)];exact hc
theorem EG{α:Type}(L:List α)(i:Nat)(a b:α)(h:i < L.length):(L.set i a).take (i+1) ++ [b] ++ (L.set i a).drop (i+1)=L.take i ++ [a,b] ++ L.drop (i+1):=by
 have e1:(L.set i a).take (i+1)=L.take i ++ [a]:=by
  rw[List.take_add_one,List.take_set_of_le (Nat.le_refl _),List.getElem?_set_self h];rfl
 rw[e1,List.drop_set_of_lt (by omega)];simp
theorem yq{f l A:World}{y:Nat→Prop}{n m C d c2 u J:Nat}{c:Pg}(X:bO f y D g (L.set i c))(t:∀ b,y b→F b∨w.heap.size≤b)(K:Chg F w f)(hgx:Blk f g [.slice (some ⟨G,0,none⟩) (L.set i c).length C] 151)(T:Blk l g [c0] 151)(R:y g)(B:y G)(I:Rw f 212 1 G (L.set i c).length C ((L.set i c).map Pg.v))(O:g≠G)(V:i < L.length)(S:c.es=es.take 16)(H:(es.drop 16).length=m - 16)(hnn:L.length=n)(Q:Below f.drew.heap.size f.drew l)(W:f.drew.heap.size≤d)(R3:Rw l 211 2 d (m - 16) c2 (flat (es.drop 16)))(E0:∀ e ∈ es,EnA f.drew D e)(U:u=G∨l.heap.size+1≤u)(R5:Rw A 212 1 u (n+1) J (((L.set i c).map Pg.v).take (i+1) ++ [.slice (some ⟨d,0,none⟩) (m - 16) c2] ++ ((L.set i c).map Pg.v).drop (i+1)))(E:Chg (·=G) (l.alloc (.cells #[.slice (some ⟨d,0,none⟩) (m - 16) c2] 212)) A) :
    ∃ F' p1 p2,Ending.returned (.tuple #[])=Ending.returned (.tuple #[])∧p1.es=es.take 16∧p2.es=es.drop 16∧bO (A.setCell ⟨g,0,none⟩ (.slice (some ⟨u,0,none⟩) (n+1) J)) F' D g (L.take i ++ [p1,p2] ++ L.drop (i+1))∧(∀ b,F' b→F b∨w.heap.size≤b)∧Chg F w (A.setCell ⟨g,0,none⟩ (.slice (some ⟨u,0,none⟩) (n+1) J)):=by
  obtain⟨s,q⟩:∃ s,s=l.alloc (.cells #[.slice (some ⟨d,0,none⟩) (m - 16) c2] 212):=⟨_,rfl⟩
  have N:Below f.heap.size f s:=by rw[q];exact ai (ai (cy f) Q) (af l _)
  have o:Below l.heap.size l s:=by rw[q];exact af l _
  rw[← q] at E;have M:=X.keep N
  have r:PgA s D ⟨d,c2,es.drop 16⟩:= by
    refine⟨?_,fun e he=>((E0 e (List.mem_of_mem_drop he)).keep Q).keep o⟩
    show Rw s _ 2 d (es.drop 16).length c2 _
    rw[H];exact R3.keep o
  have hb2':f.heap.size≤d:=W
  have P:(⟨d,c2,es.drop 16⟩:Pg).v=.slice (some ⟨d,0,none⟩) (m - 16) c2:=by simp only[Pg.v];rw[H]
  have z : ∀ p ∈ (L.set i c).take (i + 1) ++ [(⟨d, c2, es.drop 16⟩ : Pg)] ++ (L.set i c).drop (i + 1), p ∈ L.set i c ∨ p = ⟨d, c2, es.drop 16⟩:= fun p j => by
    rcases List.mem_append.1 j with h | h
    · rcases List.mem_append.1 h with h | h
      · exact .inl (List.mem_of_mem_take h)
      · exact .inr (by simpa using h)
    · exact .inl (List.mem_of_mem_drop h)
  have hlen:((L.set i c).take (i+1) ++ [(⟨d,c2,es.drop 16⟩:Pg)] ++ (L.set i c).drop (i+1)).length=n+1:=by
    simp;omega
  have hold : ∀ p ∈ L.set i c, p.b ≠ d := fun p j => by
    have:=(X.cp p j).1.row.lt;omega
  obtain⟨A5,C6⟩:= kF (w:=s) (w1:=A) (F:=fun x=>y x∨x=d) (D:=D) (g:=g) (G:=G) (G':=u) (C':=J) (n:=n+1) (L':=(L.set i c).take (i+1) ++ [(⟨d,c2,es.drop 16⟩:Pg)] ++ (L.set i c).drop (i+1))
    (fun p j => by
      rcases z p j with h | rfl
      · exact⟨(M.cp p h).1,.inl (M.cp p h).2⟩
      · exact⟨r,.inr rfl⟩)
    (by
      have hn:=X.apart
      have e:(L.set i c).map Pg.b=((L.set i c).take (i+1)).map Pg.b ++ ((L.set i c).drop (i+1)).map Pg.b:=by rw[← List.map_append,List.take_append_drop]
      rw[e] at hn
      have Y : ∀ x ∈ ((L.set i c).take (i + 1)).map Pg.b, x ≠ d := fun x hx => by
        obtain⟨p,j,rfl⟩:= List.mem_map.1 hx;exact hold p (List.mem_of_mem_take j)
      have Z : ∀ x ∈ ((L.set i c).drop (i + 1)).map Pg.b, x ≠ d := fun x hx => by
        obtain⟨p,j,rfl⟩:= List.mem_map.1 hx;exact hold p (List.mem_of_mem_drop j)
      simp only[List.map_append,List.map_cons,List.map_nil];rw[List.nodup_append] at hn;rw[List.append_assoc,List.nodup_append];refine⟨hn.1,?_,?_⟩
      · rw[List.singleton_append,List.nodup_cons]
        exact⟨fun h=>Z d h rfl,hn.2.1⟩
      · intro a ha b hb
        rcases List.mem_append.1 hb with hb | hb
        · simp at hb;subst hb;exact Y a ha
        · exact hn.2.2 a ha b hb)
    (fun b hb => by
      rcases hb with h | rfl
      · exact M.kind b h
      · obtain⟨ds,k⟩:= r.row.kind
        exact⟨ds,_,k,by decide⟩)
    (T.keep o) (.inl R) (.inl B) (fun e=>O e.symm) E
    (fun p j => by
      rcases z p j with h | rfl
      · exact(M.cp p h).1.eN (I.keep N)
      · exact r.eN (I.keep N)) hlen
    (by simpa[List.map_take,List.map_drop,P] using R5)
  rw[EG L i c _ V] at A5;refine⟨_,c,⟨d,c2,es.drop 16⟩,rfl,S,rfl,A5,fun b hb=>?_,(K.trans (Chg.of (F:=F) N) (fun _ _ h=>h)).trans C6 fun b hb h=>?_⟩
  · rcases hb with⟨h | rfl, _⟩ | rfl
    · exact t b h
    · exact .inr (by have:=K.size;omega)
    · rcases U with rfl | h
      · exact t _ B
      · have Z:=Q.size
        have Y:=K.size
        have:f.drew.heap.size=f.heap.size:=rfl;exact .inr (by omega)
  · rcases h with h | rfl
    · exact(t b h).resolve_right (by omega)
    · have:=K.size;omega
theorem Ae(h:j≠i)(hc:w.cell? ⟨G,j,none⟩=some u):(w.setCell ⟨G,i,none⟩ v).cell? ⟨G,j,none⟩=some u:=by
 have a:=aH hc;simp only[World.cell?,World.setCell,Array.getElem?_modify,if_true] at hc ⊢
 cases hh:w.heap[G]? with
 | none=>rw[hh] at hc;simp at hc
 | some ob =>
  rw[hh] at hc
  cases ob with
  | cells c e f =>
   simp at hc ⊢;rw[Array.getElem?_setIfInBounds,if_neg (by omega)];exact hc
  | _=>simp at hc
theorem xT(A:bO w F D g L)(hi:L[i]?=some p)(h1:17≤p.es.length)(h2:p.es.length≤1000)(hn:L.length≤100000000) :
    Calls Tryz.prog 181 #[.pointer (some ⟨g,0,none⟩),.int .i64 i] w fun e w'=>∃ F' p1 p2,e=.returned (.tuple #[])∧p1.es=p.es.take 16∧p2.es=p.es.drop 16∧bO w' F' D g (L.take i ++ [p1,p2] ++ L.drop (i+1))∧(∀ b,F' b→F b∨w.heap.size≤b)∧Chg F w w':=by
  have ac:=(List.getElem?_eq_some_iff.1 hi).1
  have hL:L≠[]:=fun e=>by subst e;simp at ac
  obtain⟨G,C,hg,hFg,hFG,R⟩:= A.opn hL;have P:=A.cp p (List.mem_of_getElem? hi);have cg:=hg.cell (i:=0) rfl;have cG:=R.cell (i:=i) (v:=p.v) (by simp[hi]);have hpc:=P.1.row.le;have hCC:=R.le;simp only[maxLen] at hpc hCC
  have Q:w.drew.cell? ⟨g,0,none⟩=some (.slice (some ⟨G,0,none⟩) L.length C):=cg
  have t1 := zQ (w := w.drew) (a := ⟨p.b, 0, none⟩) (n := 16) (c := p.c) (xs := flat (p.es.take 16)) (by decide) (by rw[fL, List.length_take]; omega) (fun j v K => by
    rw[Addr.add_lit,Nat.zero_add]
    have:(flat p.es)[j]?=some v:=by
      rw[← fP,List.getElem?_take] at K;split at K
      · exact K
      · cases K
    exact P.1.row.drew.cell this) (gG (Ek P.1 fun e he=>List.mem_of_mem_take he))
  obtain⟨n,d⟩:∃ n,Hid (L.length=n):=⟨_,rfl⟩;obtain⟨m,s⟩:∃ m,Hid (p.es.length=m):=⟨_,rfl⟩;simp only[Pg.v] at cG;rw[d.out] at cg Q;rw[s.out] at cG
  have z1:(i:Int) < n:=by have:=d.out;omega
  have z2:m≤p.c:=by have:=s.out;omega
  have z3:p.c≤9223372036854775807:=by omega
  have z4:17≤m:=by have:=s.out;omega
  have z5:16≤p.c:=by omega
  have z6:(16:Int)≤(p.c:Int):=by omega
  have o:g≠G:=fun e=>R.eK hg e.symm
  have mixed:=mixed;go_enter Tryz.func181,Tryz.ntmps181;go_wp2;go_region_held3 (fun w'=>w'.cell? ⟨g,0,none⟩=some (.slice (some ⟨G,0,none⟩) n C)) (first | assumption | exact bU o (by assumption))
    (first
    | (go_at_call 223;refine t1.mono ?_;rintro e' q ⟨z,c1,rfl,ad,R1,y⟩;have cg1:q.cell? ⟨g,0,none⟩=some (.slice (some ⟨G,0,none⟩) n C):=(y.cell (p:=⟨g,0,none⟩) (aH Q)).trans Q;have cG1:q.cell? ⟨G,i,none⟩=some (.slice (some ⟨p.b,0,none⟩) m p.c):=(y.cell (p:=⟨G,i,none⟩) (aH (w:=w.drew) cG)).trans cG;have fG1:q.frozen? ⟨G,i,none⟩=false:=(R.drew.keep y).free i))
  obtain⟨t,r⟩:∃ t:Pg,Hid (t=⟨z,c1,p.es.take 16⟩):=⟨_,rfl⟩
  have H:(p.es.take 16).length=16:=by rw[List.length_take];omega
  have aa:t.v=.slice (some ⟨z,0,none⟩) 16 c1:=by rw[r.out];simp only[Pg.v];rw[H]
  have Y:PgA q D t:=by
    rw[r.out];refine⟨?_,fun e he=>((P.1.bX e (List.mem_of_mem_take he)).keep (cy w)).keep y⟩
    show Rw q _ 2 z (p.es.take 16).length c1 _
    rw[H];exact R1
  obtain⟨A2,C2⟩:= A.put (p':=t) (D':=D) hg hFg hFG R hi (Chg.of (ai (cy w) y)) (.inr (by rw[r.out];exact ad)) Y (fun _ _ h=>h);rw[aa] at A2 C2
  have R0:Rw (q.setCell ⟨G,i,none⟩ (.slice (some ⟨z,0,none⟩) 16 c1)) 211 2 p.b p.es.length p.c (flat p.es):=((P.1.row.keep (cy w)).keep y).same (Below.heap_setCell q _ _ _ (P.1.eN R))
  have E0 : ∀ e ∈ p.es, EnA (q.setCell ⟨G, i, none⟩ (.slice (some ⟨z, 0, none⟩) 16 c1)) D e := fun e he => (((P.1.bX e he).keep (cy w)).keep y).off fun b hb hk => by
    obtain⟨cs,k⟩:= hk;obtain⟨ds,k'⟩:= (R.drew.keep y).kind;exact Below.heap_setCell q _ _ b (ee k k' (by decide))
  have hw1l:w.heap.size≤(q.setCell ⟨G,i,none⟩ (.slice (some ⟨z,0,none⟩) 16 c1)).heap.size:=C2.size
  have Z:t.b=z:=by rw[r.out]
  have T:t.es=p.es.take 16:=by rw[r.out]
  have l:=(hg.drew.keep y).off o (i:=i) (.slice (some ⟨z,0,none⟩) 16 c1)
  have hF2:∀ b,((F b∧b≠p.b)∨b=t.b)→F b∨w.heap.size≤b:=fun b h=>h.imp (fun h=>h.1) (fun h=>by rw[h,Z];exact ad)
  generalize (q.setCell ⟨G,i,none⟩ (.slice (some ⟨z,0,none⟩) 16 c1))=O at *;generalize hF2d:(fun x=>(F x∧x≠p.b)∨x=t.b)=F2 at A2;obtain⟨B,S,ab,X,V,N⟩:= A2.opn (by simp[hL]);obtain⟨rfl,rfl⟩:B=G∧S=C:=by
    have:=(ab.eq l).1;simp at this;exact⟨this.1,this.2⟩
  have U:∀ b,F2 b→F b∨w.heap.size≤b:=fun b h=>hF2 b (by rw[← hF2d] at h;exact h)
  have cg2:O.cell? ⟨g,0,none⟩=some (.slice (some ⟨B,0,none⟩) n S):=by
    have:=l.cell (i:=0) rfl;rwa [d.out] at this
  have E:O.drew.cell? ⟨g,0,none⟩=some (.slice (some ⟨B,0,none⟩) n S):=cg2
  have W:(p.es.drop 16).length=m - 16:=by rw[List.length_drop,s.out]
  have t2 := zQ (w := O.drew) (a := ⟨p.b, 32, none⟩) (n := m - 16) (c := p.c - 16) (xs := flat (p.es.drop 16)) (by have := s.out; omega) (by rw[fL, W]) (fun j v K => by
    rw[Addr.add_lit]
    have:(flat p.es)[32+j]?=some v:=by
      rw[← fJ,List.getElem?_drop] at K;exact K
    exact R0.drew.cell this) (gG (w:=O) (D:=D) (fun e he=>E0 e (List.mem_of_mem_drop he)))
  have zz1:IntKind.i64.wrap ((i:Int)+1)=(i:Int)+1:=by rw[IntKind.wrap_i64];have:=d.out;omega
  have zz2:¬ (p.c=16):=by omega
  have zz3:(16:Int)≤m:=by omega
  have t3 : ∀ (f : World) (u c2 : Nat), Below O.drew.heap.size O.drew f → Calls Tryz.prog 224 #[.slice (some ⟨B, 0, none⟩) n S, .int .i64 ((i : Int) + 1), .slice (some ⟨f.heap.size, 0, none⟩) 1 1] (f.alloc (.cells #[.slice (some ⟨u, 0, none⟩) (m - 16) c2] 212)) fun e w' => ∃ b' c', e = .returned (.slice (some ⟨b', 0, none⟩) (n + 1) c') ∧ (b' = B ∨ f.heap.size + 1 ≤ b') ∧ Rw w' 212 1 b' (n + 1) c' (((L.set i t).map Pg.v).take (i + 1) ++ [.slice (some ⟨u, 0, none⟩) (m - 16) c2] ++ ((L.set i t).map Pg.v).drop (i + 1)) ∧ Chg (· = B) (f.alloc (.cells #[.slice (some ⟨u, 0, none⟩) (m - 16) c2] 212)) w' := fun f u c2 J => by
    have hk:=(N.drew.keep J).keep (af f (.cells #[.slice (some ⟨u,0,none⟩) (m - 16) c2] 212));rw[List.length_set,d.out] at hk
    have hGl:B < f.heap.size:=(N.drew.keep J).lt;have:=insP (i:=i+1) hk (aj f [.slice (some ⟨u,0,none⟩) (m - 16) c2] 212) (by omega) (by have:=d.out;omega) (by have:=d.out;omega) (sR _) (by simp[Value.oneCell']);rw[World.size_alloc] at this;simpa using this
  go_wp2
  go_region_with (first
    | (go_at_call 223;refine t2.mono ?_;rintro e' f ⟨u,c2,rfl,hb2,R3,J⟩;have cg3:f.cell? ⟨g,0,none⟩=some (.slice (some ⟨B,0,none⟩) n S):=(J.cell (p:=⟨g,0,none⟩) (aH E)).trans E;have I:=mq cg3 (.cells #[.slice (some ⟨u,0,none⟩) (m - 16) c2] 212))
    | (go_at_call 224;refine(t3 f u c2 J).mono ?_;rintro e' w5 ⟨G5,C5,rfl,hb5,R5,M⟩;have cg5:w5.cell? ⟨g,0,none⟩=some (.slice (some ⟨B,0,none⟩) n S):=(World.cell?_of_block (w:=f.alloc (.cells #[.slice (some ⟨u,0,none⟩) (m - 16) c2] 212)) (a:=⟨g,0,none⟩) (M.same g (aH I) o)).trans I;have fg5:w5.frozen? ⟨g,0,none⟩=false:=(((l.drew.keep J).keep (af f _)).chg M o).free 0))
  all_goals go_wp2
  all_goals go_end0
  all_goals exact yq A2 U C2 ab (l.drew.keep J) X V N o ac T W d.out J hb2 R3 (fun e he=>(E0 e he).keep (cy O)) hb5 R5 M
end
section
variable {L:List Pg}{i:Nat}{p:Pg}{w:World}{F D:Nat->Prop}
def rQ(P:List (List En))(i q:Nat)(e:En):List (List En) :=
 let es:=(P.getD i []).take q ++ [e] ++ (P.getD i []).drop q
 if 32 < es.length then P.take i ++ [es.take 16,es.drop 16] ++ P.drop (i+1) else P.set i es
theorem pF(L:List Pg)(i:Nat)(p:Pg):ens (L.set i p)=(ens L).set i p.es:=by simp[ens,List.map_set]
theorem eC(h:L[i]?=some p):(ens L).getD i []=p.es:=by simp[ens,h]
theorem AU(es:List En)(q:Nat)(e:En):(flat es).take (q * 2) ++ [e.kv,e.vv] ++ (flat es).drop (q * 2)=flat (es.take q ++ [e] ++ es.drop q):=by
 rw[fP,fJ,df,df];rfl
theorem sP{g q:Nat}{e:En}(A:bO w F D g L)(hi:L[i]?=some p)(hq:q<=p.es.length)(h2:p.es.length<=32)(hn:L.length<=100000000)(hE:EnA w D e) :
  Calls Tryz.prog 131 #[.pointer (some ⟨g,0,none⟩),.int .i64 i,.int .i64 q,.agg #[e.kv,e.vv]] w fun e' w'=>∃ F' L',e'=.returned (.tuple #[])/\ens L'=rQ (ens L) i q e/\bO w' F' D g L'/\(∀ b,F' b->F b\/w.heap.size<=b)/\Chg F w w':=by
 have hil:=(List.getElem?_eq_some_iff.1 hi).1
 have hL:L≠[]:=fun e=>by subst e;simp at hil
 obtain⟨kv,kl,vv,vl⟩:=e;obtain⟨l,P⟩:∃ l,Hid (l=w.alloc (.cells #[kv,vv] 211)):=⟨_,rfl⟩
 have B0:Below w.heap.size w l:=by rw[P.out];exact af w _
 have X0:Blk l w.heap.size [kv,vv] 211:=by rw[P.out];exact aj w [kv,vv] _
 have A0:=A.keep B0;obtain⟨G,C,hg,hFg,hFG,hR⟩:=A0.opn hL;have W:=A0.cp p (List.mem_of_getElem? hi);have cg:=hg.cell (i:=0) rfl;have cG:=hR.cell (i:=i) (v:=p.v) (by simp[hi]);have x0:=X0.cell (i:=0) rfl;have x1:=X0.cell (i:=1) rfl;have hpc:=W.1.row.le;have hCC:=hR.le;simp only[maxLen] at hpc hCC;obtain⟨n,Y⟩:∃ n,Hid (L.length=n):=⟨_,rfl⟩
 obtain⟨m,U⟩:∃ m,Hid (p.es.length=m):=⟨_,rfl⟩
 simp only[Pg.v] at cG;rw[Y.out] at cg;rw[U.out] at cG
 have z0:¬ ((n:Int)=0):=by have:=Y.out;omega
 have z1:(i:Int) < n:=by have:=Y.out;omega
 have cgd:l.drew.cell? ⟨g,0,none⟩=some (.slice (some ⟨G,0,none⟩) n C):=cg
 have x0d:l.drew.cell? ⟨w.heap.size,0,none⟩=some kv:=x0
 have x1d:l.drew.cell? ⟨w.heap.size,1,none⟩=some vv:=x1
 have cGd:l.drew.cell? ⟨G,i,none⟩=some (.slice (some ⟨p.b,0,none⟩) m p.c):=cG
 have hgG:g≠G:=fun e=>hR.eK hg e.symm
 have T:w.heap.size≠G:=by have:=A.lt hFG;omega
 obtain⟨R,M⟩:∃ R,Hid (R=l.drew.alloc (.cells #[kv,vv] 211)):=⟨_,rfl⟩
 have J:Below l.heap.size l R:=by rw[M.out];exact ai (cy l) (af l.drew _)
 have hs0:l.heap.size=w.heap.size+1:=by rw[P.out];simp
 have V1:Blk R l.heap.size [kv,vv] 211:=by rw[M.out];exact aj l.drew [kv,vv] _
 have t1:=insE (i:=q) (W.1.row.keep J) V1 (by have:=W.1.row.lt;omega) hq (by omega) W.1.one (by have:=hE.k.one;have:=hE.v.one;simp_all);rw[U.out] at t1
 have j:R.cell? ⟨g,0,none⟩=some (.slice (some ⟨G,0,none⟩) n C):=(J.cell (p:=⟨g,0,none⟩) (aH cg)).trans cg
 have u:R.cell? ⟨w.heap.size,0,none⟩=some kv:=(J.cell (p:=⟨w.heap.size,0,none⟩) (aH x0)).trans x0
 have z:R.cell? ⟨w.heap.size,1,none⟩=some vv:=(J.cell (p:=⟨w.heap.size,1,none⟩) (aH x1)).trans x1
 have r:R.cell? ⟨G,i,none⟩=some (.slice (some ⟨p.b,0,none⟩) m p.c):=(J.cell (p:=⟨G,i,none⟩) (aH cG)).trans cG
 have ng:g≠p.b:=fun e=>W.1.eK hg e.symm
 have nG:G≠p.b:=fun e=>W.1.eN hR e.symm
 have nx:w.heap.size≠p.b:=by have:=A.lt W.2;omega
 have mixed:=mixed
 have hin:i < n:=by have:=Y.out;omega
 go_enter Tryz.func131,Tryz.ntmps131;have cgw:=cg;rw[P.out] at cgw;go_wp2;rw[<- P.out];have V:=(show _/\_/\_ from⟨j,u,z⟩)
 have O:=r;rw[M.out] at V O t1
 have hpp:Tryz.prog.underlying 149=some (.slice 212):=by kernel_rfl
 refine mM (X:=Nat × Nat) (fun x=>[(some 23,.pointer (some ⟨g,0,none⟩)),(some 24,.pointer (some ⟨g,0,none⟩)),(some 25,.pointer (some ⟨g,0,none⟩)),(some 26,.slice (some ⟨G,0,none⟩) n C),(some 27,.int .i64 i),(some 28,.pointer (some ⟨g,0,none⟩)),(some 29,.pointer (some ⟨g,0,none⟩)),(some 30,.pointer (some ⟨g,0,none⟩)),(some 31,.slice (some ⟨G,0,none⟩) n C),(some 32,.int .i64 i),(some 33,.pointer (some ⟨G,i,none⟩)),(some 34,.slice (some ⟨p.b,0,none⟩) m p.c),(some 35,.int .i64 q),(some 36,.agg #[kv,vv]),(some 37,.slice (some ⟨l.heap.size,0,none⟩) 1 1),(some 38,.slice (some ⟨x.1,0,none⟩) (m+1) x.2),(some 39,.pointer (some ⟨G,i,none⟩))]) (fun x w'=>∃ d,w'=d.setCell ⟨G,i,none⟩ (.slice (some ⟨x.1,0,none⟩) (m+1) x.2)/\(x.1=p.b\/R.heap.size<=x.1)/\Rw d 211 2 x.1 (m+1) x.2 ((flat p.es).take (q * 2) ++ [kv,vv] ++ (flat p.es).drop (q * 2))/\Chg (·=p.b) R d) (fun w'=>w'.cell? ⟨g,0,none⟩=some (.slice (some ⟨G,0,none⟩) n C)/\w'.cell? ⟨w.heap.size,0,none⟩=some kv/\w'.cell? ⟨w.heap.size,1,none⟩=some vv) (by kernel_rfl) ⟨cgd,x0d,x1d⟩ ?_ ?_
 ·have hS:=(show _/\_/\_ from⟨cgd,x0d,x1d⟩)
  refine ax 0 23 (.pointer (some ⟨g,0,none⟩)) (by kernel_rfl) (fun _ _=>by kernel_rfl) i3 hS ?_
  refine ax 1 24 (.pointer (some ⟨g,0,none⟩)) (by kernel_rfl) (fun _ _=>by kernel_rfl) i3 hS ?_
  refine ax 2 25 (.pointer (some ⟨g,0,none⟩)) (by kernel_rfl) (fun _ _=>by kernel_rfl) i3 hS ?_
  refine aN 3 (some 26) (.slice (some ⟨G,0,none⟩) n C) 149 25 (g) (0) (by kernel_rfl) (by kernel_rfl) (by kernel_rfl) (fun w' h=>fG h.1) i3 hS ?_
  refine ax 4 27 (.int .i64 i) (by kernel_rfl) (fun _ _=>by kernel_rfl) i3 hS ?_
  refine ax 5 28 (.pointer (some ⟨g,0,none⟩)) (by kernel_rfl) (fun _ _=>by kernel_rfl) i3 hS ?_
  refine ax 6 29 (.pointer (some ⟨g,0,none⟩)) (by kernel_rfl) (fun _ _=>by kernel_rfl) i3 hS ?_
  refine ax 7 30 (.pointer (some ⟨g,0,none⟩)) (by kernel_rfl) (fun _ _=>by kernel_rfl) i3 hS ?_
  refine aN 8 (some 31) (.slice (some ⟨G,0,none⟩) n C) 149 30 (g) (0) (by kernel_rfl) (by kernel_rfl) (by kernel_rfl) (fun w' h=>fG h.1) i3 hS ?_
  refine ax 9 32 (.int .i64 i) (by kernel_rfl) (fun _ _=>by kernel_rfl) i3 hS ?_
  refine ax 10 33 (.pointer (some ⟨G,i,none⟩)) (by kernel_rfl) (fun _ _=>cS (x:=31) (y:=32) (n:=n) (c:=C) (by kernel_rfl) hpp (by kernel_rfl) (by kernel_rfl) (rfl) (hin)) i3 hS ?_
  refine ax 12 35 (.int .i64 q) (by kernel_rfl) (fun _ _=>by kernel_rfl) i3 hS ?_
  refine aN 13 (some 36) (.agg #[kv,vv]) 211 7 (w.heap.size) (0) (by kernel_rfl) (by kernel_rfl) (by kernel_rfl) (fun w' h=>ld_e h.2.1 h.2.2) i3 hS ?_
  refine aB [11,14] (by kernel_rfl) (by simp) ?_
  refine aO 11 (some 34) (.slice (some ⟨p.b,0,none⟩) m p.c) _ (by kernel_rfl) (dQ 33 (by kernel_rfl) (by kernel_rfl) (pz cGd)) hS ?_ (aO 14 (some 37) (.slice (some ⟨l.heap.size,0,none⟩) 1 1) _ (by kernel_rfl) (qP (k:=36) (by kernel_rfl) (by kernel_rfl)) V ?_ aL)
  ·refine aB [14] (by kernel_rfl) (by simp) ?_
   refine aO 14 (some 37) (.slice (some ⟨l.heap.size,0,none⟩) 1 1) _ (by kernel_rfl) (qP (k:=36) (by kernel_rfl) (by kernel_rfl)) V ?_ aL;refine bQ 15 (some 38) 180 #[.slice (some ⟨p.b,0,none⟩) m p.c,.int .i64 q,.slice (some ⟨l.heap.size,0,none⟩) 1 1] (by kernel_rfl) (by kernel_rfl) t1 ?_
   rintro e' d ⟨B,c2,rfl,t,R2,o⟩;rw[<- M.out] at o t
   have s:d.cell? ⟨g,0,none⟩=_:=(World.cell?_of_block (a:=⟨g,0,none⟩) (o.same g (aH j) ng)).trans j
   have E:d.cell? ⟨w.heap.size,0,none⟩=_:=(World.cell?_of_block (a:=⟨w.heap.size,0,none⟩) (o.same _ (aH u) nx)).trans u
   have H:d.cell? ⟨w.heap.size,1,none⟩=_:=(World.cell?_of_block (a:=⟨w.heap.size,1,none⟩) (o.same _ (aH z) nx)).trans z
   have K:d.cell? ⟨G,i,none⟩=_:=(World.cell?_of_block (a:=⟨G,i,none⟩) (o.same _ (aH r) nG)).trans r
   have fG2:d.frozen? ⟨G,i,none⟩=false:=((hR.keep J).chg o nG).free i;refine⟨_,rfl,⟨s,E,H⟩,?_⟩;replace hS:=(show _/\_/\_ from⟨s,E,H⟩)
   refine ax 16 39 (.pointer (some ⟨G,i,none⟩)) (by kernel_rfl) (fun _ _=>cS (x:=26) (y:=27) (n:=n) (c:=C) (by kernel_rfl) hpp (by kernel_rfl) (by kernel_rfl) (rfl) (hin)) i3 hS ?_
   refine aB [17] (by kernel_rfl) (by simp) ?_
   refine cB 17 (d.setCell ⟨G,i,none⟩ (.slice (some ⟨B,0,none⟩) (m+1) c2)) (by kernel_rfl) (kA 39 38 (by kernel_rfl) (by kernel_rfl) (by kernel_rfl) K fG2) ⟨bU hgG s,bU T E,bU T H⟩ ?_ aL;refine bh (by kernel_rfl) ?_
   exact⟨(B,c2),by kernel_rfl,d,rfl,t,R2,o⟩
  ·refine aB [11] (by kernel_rfl) (by simp) ?_
   refine aO 11 (some 34) (.slice (some ⟨p.b,0,none⟩) m p.c) _ (by kernel_rfl) (dQ 33 (by kernel_rfl) (by kernel_rfl) (pz O)) V ?_ aL;refine bQ 15 (some 38) 180 #[.slice (some ⟨p.b,0,none⟩) m p.c,.int .i64 q,.slice (some ⟨l.heap.size,0,none⟩) 1 1] (by kernel_rfl) (by kernel_rfl) t1 ?_
   rintro e' d ⟨B,c2,rfl,t,R2,o⟩;rw[<- M.out] at o t
   have s:d.cell? ⟨g,0,none⟩=_:=(World.cell?_of_block (a:=⟨g,0,none⟩) (o.same g (aH j) ng)).trans j
   have E:d.cell? ⟨w.heap.size,0,none⟩=_:=(World.cell?_of_block (a:=⟨w.heap.size,0,none⟩) (o.same _ (aH u) nx)).trans u
   have H:d.cell? ⟨w.heap.size,1,none⟩=_:=(World.cell?_of_block (a:=⟨w.heap.size,1,none⟩) (o.same _ (aH z) nx)).trans z
   have K:d.cell? ⟨G,i,none⟩=_:=(World.cell?_of_block (a:=⟨G,i,none⟩) (o.same _ (aH r) nG)).trans r
   have fG2:d.frozen? ⟨G,i,none⟩=false:=((hR.keep J).chg o nG).free i;refine⟨_,rfl,⟨s,E,H⟩,?_⟩;replace hS:=(show _/\_/\_ from⟨s,E,H⟩)
   refine ax 16 39 (.pointer (some ⟨G,i,none⟩)) (by kernel_rfl) (fun _ _=>cS (x:=26) (y:=27) (n:=n) (c:=C) (by kernel_rfl) hpp (by kernel_rfl) (by kernel_rfl) (rfl) (hin)) i3 hS ?_
   refine aB [17] (by kernel_rfl) (by simp) ?_
   refine cB 17 (d.setCell ⟨G,i,none⟩ (.slice (some ⟨B,0,none⟩) (m+1) c2)) (by kernel_rfl) (kA 39 38 (by kernel_rfl) (by kernel_rfl) (by kernel_rfl) K fG2) ⟨bU hgG s,bU T E,bU T H⟩ ?_ aL;refine bh (by kernel_rfl) ?_
   exact⟨(B,c2),by kernel_rfl,d,rfl,t,R2,o⟩
 rintro⟨B,c2⟩ w' ⟨d,rfl,t,R2,o⟩;dsimp only at t R2;simp only[gQ,Act.put,List.setIfInBounds_toArray,List.set_cons_zero,List.set_cons_succ]
 have s:d.cell? ⟨g,0,none⟩=_:=(World.cell?_of_block (a:=⟨g,0,none⟩) (o.same g (aH j) ng)).trans j
 have K:d.cell? ⟨G,i,none⟩=_:=(World.cell?_of_block (a:=⟨G,i,none⟩) (o.same _ (by exact(hR.keep J).lt) nG)).trans r
 have C02:Chg (·=p.b) l d:=(Chg.of (F:=(·=p.b)) J).trans o (fun _ _ h=>h);obtain⟨p',S⟩:∃ p':Pg,Hid (p'=⟨B,c2,p.es.take q ++ [(⟨kv,kl,vv,vl⟩:En)] ++ p.es.drop q⟩):=⟨_,rfl⟩
 have hlen:(p.es.take q ++ [(⟨kv,kl,vv,vl⟩:En)] ++ p.es.drop q).length=m+1:=by have:=U.out;simp;omega
 have N:∀ e,EnA w D e->EnA d D e:=fun e he=>((he.keep B0).keep J).off fun b hb hk=>o.same b hb fun f=>by
  subst f;obtain⟨cs,k⟩:=hk;obtain⟨ds,k'⟩:=(W.1.row.keep J).kind;exact ee k k' (by decide) rfl
 have hA':PgA d D p':=by
  rw[S.out];refine⟨?_,fun e he=>?_⟩
  ·show Rw d _ 2 B (p.es.take q ++ [(⟨kv,kl,vv,vl⟩:En)] ++ p.es.drop q).length c2 _
   rw[hlen];exact R2.to (AU p.es q ⟨kv,kl,vv,vl⟩)
  ·rcases List.mem_append.1 he with h | h
   ·rcases List.mem_append.1 h with h | h
    ·exact N e ((A.cp p (List.mem_of_getElem? hi)).1.bX e (List.mem_of_mem_take h))
    ·simp at h;subst h;exact N _ hE
   ·exact N e ((A.cp p (List.mem_of_getElem? hi)).1.bX e (List.mem_of_mem_drop h))
 have hv':p'.v=.slice (some ⟨B,0,none⟩) (m+1) c2:=by rw[S.out];simp only[Pg.v];rw[hlen]
 have hb':p'.b=B:=by rw[S.out]
 have I:p'.es=p.es.take q ++ [⟨kv,kl,vv,vl⟩] ++ p.es.drop q:=by rw[S.out]
 obtain⟨A3,C3⟩:=A0.put (p':=p') (D':=D) hg hFg hFG hR hi C02 (by rw[hb'];exact t.imp id (fun h=>Nat.le_trans J.size h)) hA' (fun _ _ h=>h);rw[hv',hb'] at A3;rw[hv'] at C3;have C03:=(Chg.of (F:=F) B0).trans C3 (fun _ _ h=>h)
 have hF3:∀ b,((F b/\b≠p.b)\/b=B)->F b\/w.heap.size<=b:=fun b h=>by
  have h0:=B0.size;have h1:=J.size;rcases h with h | h
  ·exact .inl h.1
  ·subst h;rcases t with h | h
   ·rw[h];exact .inl W.2
   ·exact .inr (by omega)
 have cg3:(d.setCell ⟨G,i,none⟩ (.slice (some ⟨B,0,none⟩) (m+1) c2)).cell? ⟨g,0,none⟩=some (.slice (some ⟨G,0,none⟩) n C):=bU hgG s
 have cG3:(d.setCell ⟨G,i,none⟩ (.slice (some ⟨B,0,none⟩) (m+1) c2)).cell? ⟨G,i,none⟩=some (.slice (some ⟨B,0,none⟩) (m+1) c2):=World.cell?_setCell_same' _ _ _ (by rw[K];rfl);generalize (d.setCell ⟨G,i,none⟩ (.slice (some ⟨B,0,none⟩) (m+1) c2))=W3 at *;generalize hF3d:(fun x=>(F x/\x≠p.b)\/x=B)=F3 at A3
 have Q:∀ b,F3 b->F b\/w.heap.size<=b:=fun b h=>hF3 b (by rw[<- hF3d] at h;exact h)
 have hi3:(L.set i p')[i]?=some p':=by rw[List.getElem?_set_self hil]
 by_cases Z:32 < m+1
 ·have hbi:(32:Int) < (m:Int) + 1:=by omega
  have t5:=xT A3 hi3 (by rw[I,hlen];omega) (by rw[I,hlen];have:=U.out;omega) (by rw[List.length_set];exact hn);go_wp2_with (go_at_call 181;refine t5.mono ?_;rintro e' w6 ⟨F6,p1,p2,rfl,e1,e2,A6,hF6,C6⟩);go_end0;refine⟨F6,_,rfl,?_,A6,fun b hb=>?_,C03.trans C6 fun b hb h=>(Q b h).resolve_right (by omega)⟩
  ·unfold rQ;rw[eC hi,<- I,if_pos (by rw[I,hlen];exact Z)];simp only[ens,List.map_append,List.map_take,List.map_drop,List.map_cons,List.map_nil,List.map_set,e1,e2];rw[List.take_set_of_le (Nat.le_refl _),List.drop_set_of_lt (by omega)]
  ·rcases hF6 b hb with h | h
   ·exact Q b h
   ·exact .inr (by have:=C03.size;omega)
 ·have hbi:¬ ((32:Int) < (m:Int) + 1):=by omega
  go_wp2;go_end0;refine⟨rfl,F3,_,?_,A3,Q,C03⟩;unfold rQ;rw[eC hi,<- I,if_neg (by rw[I,hlen];exact Z),pF]
end
section
variable {w w1:World}{F D:Nat->Prop}{g:Nat}{pv:Value}
theorem Au(A:bO w F D g [])(r:w.cell? ⟨g,0,none⟩=some pv)(o:Below w.heap.size w w1){vb:Nat}(V:Blk w1 vb [.slice none 0 0] 212) :
  ∃ b' c' w',(Builtin.append_ #[149,149] 149 #[pv,.slice (some ⟨vb,0,none⟩) 1 1]).run Tryz.prog w1=.ok (.slice (some ⟨b',0,none⟩) 1 c') w'/\(F b'\/w.heap.size<=b')/\Rw w' 212 1 b' 1 c' [.slice none 0 0]/\Chg F w1 w'/\b'≠g/\(∀ b cs,Blk w1 b cs 151\/Blk w1 b cs 211->Blk w' b cs 151\/Blk w' b cs 211)/\(Blk w g [pv] 151/\F g/\Blk w' g [pv] 151):=by
 obtain⟨v,hb,t,h⟩:=A.top;have e:=hb.cell (i:=0) rfl;rw[r] at e
 cases e;have a:=hb.keep o;rcases h with⟨rfl,_⟩ | ⟨G,C,rfl,hG,hR⟩
 ·obtain⟨c',W,q,f,c⟩:=er (w:=w1) KP 149 ⟨vb,0,none⟩ 1 1 [.slice none 0 0] rfl (fun j u p=>by rw[Addr.add_lit,Nat.zero_add];exact V.cell p) (by decide) (by decide) (by decide);refine⟨_,c',W,q,.inr o.size,f,Chg.of c,?_,fun b cs h=>h.imp (fun k=>k.keep c) (fun k=>k.keep c),hb,t,a.keep c⟩;have:=a.lt;omega
 ·have n:=hR.keep o;obtain⟨b',c',W,q,m,f,c⟩:=dh KP 149 n ⟨vb,0,none⟩ 1 1 [.slice none 0 0] rfl (fun j u p=>by rw[Addr.add_lit,Nat.zero_add];exact V.cell p) (by simp[Value.oneCell']) (by simp) (by simp)
  have d:∀ b cs,Blk w1 b cs 151\/Blk w1 b cs 211->b≠G:=fun b cs h=>by
   obtain⟨x,s⟩:=n.kind;rcases h with k | k
   ·exact ee k s (by decide)
   ·exact ee k s (by decide)
  have l:=d g _ (.inl a);refine⟨b',c',W,q,?_,f,c.mono (fun b _ e=>by subst e;exact hG),?_,fun b cs h=>h.imp (fun k=>k.chg c (d b cs h)) (fun k=>k.chg c (d b cs h)),hb,t,a.chg c l⟩
  ·rcases m with h | h
   ·rw[h];exact .inl hG
   ·rw[h];exact .inr o.size
  ·rcases m with h | h
   ·rw[h];exact fun e=>l e.symm
   ·have:=a.lt;omega
theorem rv{e:En}(A:bO w F D g [])(hE:EnA w D e) :
  Calls Tryz.prog 131 #[.pointer (some ⟨g,0,none⟩),.int .i64 0,.int .i64 0,.agg #[e.kv,e.vv]] w fun e' w'=>∃ F' L',e'=.returned (.tuple #[])/\ens L'=[[e]]/\bO w' F' D g L'/\(∀ b,F' b->F b\/w.heap.size<=b)/\Chg F w w':=by
 obtain⟨kv,kl,vv,vl⟩:=e;have B0:=af w (.cells #[kv,vv] 211);have X0:=aj w [kv,vv] 211;obtain⟨ao,c,hc,hc1,hc2,hat⟩:=A.rd;simp only[List.length_nil] at hc hc1;have hgl:=aH hc;obtain⟨w1,B⟩:∃ w1,Hid (w1=(w.alloc (.cells #[kv,vv] 211)).alloc (.cells #[.slice none 0 0] 212)):=⟨_,rfl⟩
 have B1:Below w.heap.size w w1:=by rw[B.out];exact ai B0 (af _ _)
 have V1:Blk w1 (w.heap.size+1) [.slice none 0 0] 212:=by
  have:=aj (w.alloc (.cells #[kv,vv] 211)) [.slice none 0 0] 212;rw[World.size_alloc] at this;rw[B.out];exact this
 have X1:Blk w1 w.heap.size [kv,vv] 211:=by rw[B.out];exact X0.keep (af _ _)
 obtain⟨G,C,j,hr,hFG,R2,l,hGg,hkp,hgb,hFg,aa⟩:=Au A hc B1 V1
 have X2:Blk j w.heap.size [kv,vv] 211:=X1.chg l (fun f=>by have:=A.lt f;omega);have hg3:=aa.setCell (i:=0) (.slice (some ⟨G,0,none⟩) 1 C)
 have S:Rw (j.setCell ⟨g,0,none⟩ (.slice (some ⟨G,0,none⟩) 1 C)) 212 1 G 1 C [.slice none 0 0]:=R2.same (Below.heap_setCell j _ _ _ hGg)
 have X3:Blk (j.setCell ⟨g,0,none⟩ (.slice (some ⟨G,0,none⟩) 1 C)) w.heap.size [kv,vv] 211:=X2.off (by omega) _
 have ac:∀ e,EnA w D e->EnA (j.setCell ⟨g,0,none⟩ (.slice (some ⟨G,0,none⟩) 1 C)) D e:=fun e he=>(he.keep B1).off fun b hb hk=>by
  obtain⟨cs,k⟩:=hk
  have n1:b≠g:=ee k (hgb.keep B1) (by decide);rw[Below.heap_setCell j _ _ b n1];refine l.same b hb fun f=>A.noU f cs ?_
  exact⟨by rw[<- B1.block b (A.lt f)];exact k.blk⟩
 have c2g:=aa.cell (i:=0) rfl;have f2g:=aa.free 0
 have hsz3:w.heap.size+1+1<=(j.setCell ⟨g,0,none⟩ (.slice (some ⟨G,0,none⟩) 1 C)).heap.size:=by
  have h1:=l.size
  have h2:w1.heap.size=w.heap.size+1+1:=by rw[B.out];simp
  have h3:(j.setCell ⟨g,0,none⟩ (.slice (some ⟨G,0,none⟩) 1 C)).heap.size=j.heap.size:=by simp[World.setCell]
  omega
 have C03:Chg F w (j.setCell ⟨g,0,none⟩ (.slice (some ⟨G,0,none⟩) 1 C)):=((Chg.of (F:=F) B1).trans l (fun _ _ h=>h)).cell (.inl hFg) _;have mixed:=mixed;obtain rfl:=B.out;clear B;go_enter Tryz.func131,Tryz.ntmps131;go_wp2_with (at_builtin;refine Lib.wpList_append_run _ rfl _ _ _ _ rfl _ _ rfl rfl _ _ hr ?_);generalize (j.setCell ⟨g,0,none⟩ (.slice (some ⟨G,0,none⟩) 1 C))=d at *
 have R:d.cell? ⟨g,0,none⟩=some (.slice (some ⟨G,0,none⟩) 1 C):=hg3.cell (i:=0) rfl;have U:=X3.cell (i:=0) rfl;have W:=X3.cell (i:=1) rfl;have V:=S.cell (i:=0) rfl;obtain⟨z,E⟩:∃ z,Hid (z=d.drew.alloc (.cells #[kv,vv] 211)):=⟨_,rfl⟩
 have T:Below d.heap.size d z:=by rw[E.out];exact ai (cy d) (af d.drew _)
 have V4:Blk z d.heap.size [kv,vv] 211:=by rw[E.out];exact aj d.drew [kv,vv] _
 have hs4:z.heap.size=d.heap.size+1:=by rw[E.out];simp
 have t1:Calls Tryz.prog 180 #[.slice none 0 0,.int .i64 0,.slice (some ⟨d.heap.size,0,none⟩) 1 1] z fun e w'=>∃ J c2,e=.returned (.slice (some ⟨J,0,none⟩) 1 c2)/\J=d.heap.size + 1/\Rw w' 211 2 J 1 c2 [kv,vv]/\Below z.heap.size z w':=(yS V4).mono (by
  rintro e w' ⟨c',rfl,h1,h2⟩
  exact⟨_,c',rfl,hs4,h1,h2⟩)
 have r:z.cell? ⟨g,0,none⟩=_:=(T.cell (p:=⟨g,0,none⟩) (aH R)).trans R
 have m:z.cell? ⟨w.heap.size,0,none⟩=_:=(T.cell (p:=⟨w.heap.size,0,none⟩) (aH U)).trans U
 have s:z.cell? ⟨w.heap.size,1,none⟩=_:=(T.cell (p:=⟨w.heap.size,1,none⟩) (aH W)).trans W
 have q:z.cell? ⟨G,0,none⟩=_:=(T.cell (p:=⟨G,0,none⟩) (aH V)).trans V
 have cgd:d.drew.cell? ⟨g,0,none⟩=_:=R
 have x0d:d.drew.cell? ⟨w.heap.size,0,none⟩=_:=U
 have x1d:d.drew.cell? ⟨w.heap.size,1,none⟩=_:=W
 have cGd:d.drew.cell? ⟨G,0,none⟩=_:=V
 have O:g≠G:=fun e=>hGg e.symm
 have K:w.heap.size≠G:=fun e=>by
  obtain⟨ds,k⟩:=S.kind;exact ee X3 k (by decide) e
 have ab:0 < 1:=by decide
 have M:=(show _/\_/\_ from⟨r,m,s⟩)
 have I:=q;rw[E.out] at M I t1
 have Z:Tryz.prog.underlying 149=some (.slice 212):=by kernel_rfl
 refine mM (X:=Nat × Nat) (fun x=>[(some 23,.pointer (some ⟨g,0,none⟩)),(some 24,.pointer (some ⟨g,0,none⟩)),(some 25,.pointer (some ⟨g,0,none⟩)),(some 26,.slice (some ⟨G,0,none⟩) 1 C),(some 27,.int .i64 0),(some 28,.pointer (some ⟨g,0,none⟩)),(some 29,.pointer (some ⟨g,0,none⟩)),(some 30,.pointer (some ⟨g,0,none⟩)),(some 31,.slice (some ⟨G,0,none⟩) 1 C),(some 32,.int .i64 0),(some 33,.pointer (some ⟨G,0,none⟩)),(some 34,.slice none 0 0),(some 35,.int .i64 0),(some 36,.agg #[kv,vv]),(some 37,.slice (some ⟨d.heap.size,0,none⟩) 1 1),(some 38,.slice (some ⟨x.1,0,none⟩) 1 x.2),(some 39,.pointer (some ⟨G,0,none⟩))]) (fun x w'=>∃ j,w'=j.setCell ⟨G,0,none⟩ (.slice (some ⟨x.1,0,none⟩) 1 x.2)/\x.1=d.heap.size+1/\Rw j 211 2 x.1 1 x.2 [kv,vv]/\Below z.heap.size z j) (fun w'=>w'.cell? ⟨g,0,none⟩=some (.slice (some ⟨G,0,none⟩) 1 C)/\w'.cell? ⟨w.heap.size,0,none⟩=some kv/\w'.cell? ⟨w.heap.size,1,none⟩=some vv) (by kernel_rfl) ⟨cgd,x0d,x1d⟩ ?_ ?_
 ·have hS:=(show _/\_/\_ from⟨cgd,x0d,x1d⟩)
  refine ax 0 23 (.pointer (some ⟨g,0,none⟩)) (by kernel_rfl) (fun _ _=>by kernel_rfl) i3 hS ?_
  refine ax 1 24 (.pointer (some ⟨g,0,none⟩)) (by kernel_rfl) (fun _ _=>by kernel_rfl) i3 hS ?_
  refine ax 2 25 (.pointer (some ⟨g,0,none⟩)) (by kernel_rfl) (fun _ _=>by kernel_rfl) i3 hS ?_
  refine aN 3 (some 26) (.slice (some ⟨G,0,none⟩) 1 C) 149 25 (g) (0) (by kernel_rfl) (by kernel_rfl) (by kernel_rfl) (fun w' h=>fG h.1) i3 hS ?_
  refine ax 4 27 (.int .i64 0) (by kernel_rfl) (fun _ _=>by kernel_rfl) i3 hS ?_
  refine ax 5 28 (.pointer (some ⟨g,0,none⟩)) (by kernel_rfl) (fun _ _=>by kernel_rfl) i3 hS ?_
  refine ax 6 29 (.pointer (some ⟨g,0,none⟩)) (by kernel_rfl) (fun _ _=>by kernel_rfl) i3 hS ?_
  refine ax 7 30 (.pointer (some ⟨g,0,none⟩)) (by kernel_rfl) (fun _ _=>by kernel_rfl) i3 hS ?_
  refine aN 8 (some 31) (.slice (some ⟨G,0,none⟩) 1 C) 149 30 (g) (0) (by kernel_rfl) (by kernel_rfl) (by kernel_rfl) (fun w' h=>fG h.1) i3 hS ?_
  refine ax 9 32 (.int .i64 0) (by kernel_rfl) (fun _ _=>by kernel_rfl) i3 hS ?_
  refine ax 10 33 (.pointer (some ⟨G,0,none⟩)) (by kernel_rfl) (fun _ _=>cS (x:=31) (y:=32) (n:=1) (c:=C) (by kernel_rfl) Z (by kernel_rfl) (by kernel_rfl) (rfl) (ab)) i3 hS ?_
  refine ax 12 35 (.int .i64 0) (by kernel_rfl) (fun _ _=>by kernel_rfl) i3 hS ?_
  refine aN 13 (some 36) (.agg #[kv,vv]) 211 7 (w.heap.size) (0) (by kernel_rfl) (by kernel_rfl) (by kernel_rfl) (fun w' h=>ld_e h.2.1 h.2.2) i3 hS ?_
  refine aB [11,14] (by kernel_rfl) (by simp) ?_
  refine aO 11 (some 34) (.slice none 0 0) _ (by kernel_rfl) (dQ 33 (by kernel_rfl) (by kernel_rfl) (pz cGd)) hS ?_ (aO 14 (some 37) (.slice (some ⟨d.heap.size,0,none⟩) 1 1) _ (by kernel_rfl) (qP (k:=36) (by kernel_rfl) (by kernel_rfl)) M ?_ aL)
  ·refine aB [14] (by kernel_rfl) (by simp) ?_
   refine aO 14 (some 37) (.slice (some ⟨d.heap.size,0,none⟩) 1 1) _ (by kernel_rfl) (qP (k:=36) (by kernel_rfl) (by kernel_rfl)) M ?_ aL;refine bQ 15 (some 38) 180 #[.slice none 0 0,.int .i64 0,.slice (some ⟨d.heap.size,0,none⟩) 1 1] (by kernel_rfl) (by kernel_rfl) t1 ?_
   rintro e' j ⟨J,c2,rfl,H,R2,l⟩;rw[<- E.out] at l
   have u:j.cell? ⟨g,0,none⟩=_:=(l.cell (p:=⟨g,0,none⟩) (aH r)).trans r
   have t:j.cell? ⟨w.heap.size,0,none⟩=_:=(l.cell (p:=⟨w.heap.size,0,none⟩) (aH m)).trans m
   have v:j.cell? ⟨w.heap.size,1,none⟩=_:=(l.cell (p:=⟨w.heap.size,1,none⟩) (aH s)).trans s
   have P:j.cell? ⟨G,0,none⟩=_:=(l.cell (p:=⟨G,0,none⟩) (aH q)).trans q
   have Q:j.frozen? ⟨G,0,none⟩=false:=((S.keep T).keep l).free 0;refine⟨_,rfl,⟨u,t,v⟩,?_⟩;replace hS:=(show _/\_/\_ from⟨u,t,v⟩)
   refine ax 16 39 (.pointer (some ⟨G,0,none⟩)) (by kernel_rfl) (fun _ _=>cS (x:=26) (y:=27) (n:=1) (c:=C) (by kernel_rfl) Z (by kernel_rfl) (by kernel_rfl) (rfl) (ab)) i3 hS ?_
   refine aB [17] (by kernel_rfl) (by simp) ?_
   refine cB 17 (j.setCell ⟨G,0,none⟩ (.slice (some ⟨J,0,none⟩) 1 c2)) (by kernel_rfl) (kA 39 38 (by kernel_rfl) (by kernel_rfl) (by kernel_rfl) P Q) ⟨bU O u,bU K t,bU K v⟩ ?_ aL;refine bh (by kernel_rfl) ?_
   exact⟨(J,c2),by kernel_rfl,j,rfl,H,R2,l⟩
  ·refine aB [11] (by kernel_rfl) (by simp) ?_
   refine aO 11 (some 34) (.slice none 0 0) _ (by kernel_rfl) (dQ 33 (by kernel_rfl) (by kernel_rfl) (pz I)) M ?_ aL;refine bQ 15 (some 38) 180 #[.slice none 0 0,.int .i64 0,.slice (some ⟨d.heap.size,0,none⟩) 1 1] (by kernel_rfl) (by kernel_rfl) t1 ?_
   rintro e' j ⟨J,c2,rfl,H,R2,l⟩;rw[<- E.out] at l
   have u:j.cell? ⟨g,0,none⟩=_:=(l.cell (p:=⟨g,0,none⟩) (aH r)).trans r
   have t:j.cell? ⟨w.heap.size,0,none⟩=_:=(l.cell (p:=⟨w.heap.size,0,none⟩) (aH m)).trans m
   have v:j.cell? ⟨w.heap.size,1,none⟩=_:=(l.cell (p:=⟨w.heap.size,1,none⟩) (aH s)).trans s
   have P:j.cell? ⟨G,0,none⟩=_:=(l.cell (p:=⟨G,0,none⟩) (aH q)).trans q
   have Q:j.frozen? ⟨G,0,none⟩=false:=((S.keep T).keep l).free 0;refine⟨_,rfl,⟨u,t,v⟩,?_⟩;replace hS:=(show _/\_/\_ from⟨u,t,v⟩)
   refine ax 16 39 (.pointer (some ⟨G,0,none⟩)) (by kernel_rfl) (fun _ _=>cS (x:=26) (y:=27) (n:=1) (c:=C) (by kernel_rfl) Z (by kernel_rfl) (by kernel_rfl) (rfl) (ab)) i3 hS ?_
   refine aB [17] (by kernel_rfl) (by simp) ?_
   refine cB 17 (j.setCell ⟨G,0,none⟩ (.slice (some ⟨J,0,none⟩) 1 c2)) (by kernel_rfl) (kA 39 38 (by kernel_rfl) (by kernel_rfl) (by kernel_rfl) P Q) ⟨bU O u,bU K t,bU K v⟩ ?_ aL;refine bh (by kernel_rfl) ?_
   exact⟨(J,c2),by kernel_rfl,j,rfl,H,R2,l⟩
 rintro⟨J,L⟩ w' ⟨N,rfl,H,R4,D4⟩;dsimp only at H R4;simp only[gQ,Act.put,List.setIfInBounds_toArray,List.set_cons_zero,List.set_cons_succ]
 have o:Below d.heap.size d N:=ai T D4;subst H;have Y:=(hg3.keep o).off O (i:=0) (.slice (some ⟨d.heap.size+1,0,none⟩) 1 L);have R5:=(S.keep o).set 0 (by simp) (.slice (some ⟨d.heap.size+1,0,none⟩) 1 L)
 have hNG:d.heap.size+1≠G:=by have:=S.lt;omega
 have R6:Rw (N.setCell ⟨G,0,none⟩ (.slice (some ⟨d.heap.size+1,0,none⟩) 1 L)) 211 2 (d.heap.size+1) 1 L [kv,vv]:=R4.same (Below.heap_setCell N _ _ _ hNG)
 have E6:EnA (N.setCell ⟨G,0,none⟩ (.slice (some ⟨d.heap.size + 1,0,none⟩) 1 L)) D ⟨kv,kl,vv,vl⟩:=((ac _ hE).keep o).off fun b hb hk=>by
  obtain⟨cs,k⟩:=hk;obtain⟨ds,k'⟩:=(S.keep o).kind;exact Below.heap_setCell N _ _ b (ee k k' (by decide))
 have C6:Chg F w (N.setCell ⟨G,0,none⟩ (.slice (some ⟨d.heap.size+1,0,none⟩) 1 L)):=(C03.trans (Chg.of (F:=F) o) (fun _ _ h=>h)).cell hFG _;have cg5:=Y.cell (i:=0) rfl;have cG5:=R5.cell (i:=0) rfl
 have hfin:bO (N.setCell ⟨G,0,none⟩ (.slice (some ⟨d.heap.size+1,0,none⟩) 1 L)) (fun x=>x=g\/x=G\/x=d.heap.size+1) D g [⟨d.heap.size+1,L,[⟨kv,kl,vv,vl⟩]⟩]:=by
  refine⟨⟨_,Y,.inl rfl,.inr ⟨G,C,rfl,.inr (.inl rfl),R5⟩⟩,fun p hp=>?_,by simp,fun b hb=>?_⟩
  ·simp at hp;subst hp;exact⟨⟨R6,fun e he=>by simp at he;subst he;exact E6⟩,.inr (.inr rfl)⟩
  ·rcases hb with rfl | rfl | rfl
   ·exact⟨_,_,Y,by decide⟩
   ·obtain⟨ds,k⟩:=R5.kind;exact⟨ds,_,k,by decide⟩
   ·obtain⟨ds,k⟩:=R6.kind;exact⟨ds,_,k,by decide⟩
 generalize (N.setCell ⟨G,0,none⟩ (.slice (some ⟨d.heap.size+1,0,none⟩) 1 L))=W6 at *;go_wp2;go_end0;refine⟨_,_,rfl,?_,hfin,fun b hb=>?_,C6⟩
 ·rfl
 ·rcases hb with rfl | rfl | rfl
  ·exact .inl hFg
  ·exact hFG
  ·exact .inr (by omega)
end
section
variable {es:List En}{k ul:List Int}{L:List Pg}{w:World}{i g:Nat}{cs:List Value}{v u kv:Value}{F D:Nat->Prop}
def has(P:List (List En))(k:List Int):Bool:=!P.isEmpty && thr (kys (P.getD (pgi P k) [])) k
def got(P:List (List En))(k:List Int):List Int:=((P.getD (pgi P k) [])[plc (kys (P.getD (pgi P k) [])) k]?.map En.vl).getD []
def eU(P:List (List En))(e:En):List (List En) :=
 if P=[] then [[e]]
 else
  let i:=pgi P e.kl
  let es:=P.getD i []
  let q:=plc (kys es) e.kl
  if thr (kys es) e.kl then P.set i (es.modify q fun x=>{ x with vv:=e.vv,vl:=e.vl }) else rQ P i q e
theorem lK(h:thr (kys es) k=true):∃ e,es[plc (kys es) k]?=some e/\e.kl=k:=by
 simp only[thr,decide_eq_true_eq,kys,List.getElem?_map] at h;obtain⟨e,he,hk⟩:=Option.map_eq_some_iff.1 h;exact⟨e,he,hk⟩
theorem tT(h:L≠[]):ens L≠[]:=fun e=>h (by simpa[ens] using e)
theorem pH(h:L≠[])(k:List Int):∃ p,L[pgi (ens L) k]?=some p/\(ens L).getD (pgi (ens L) k) []=p.es:=by
 have:=pgi_lt (tT h) k;simp only[ens,List.length_map] at this;refine⟨L[pgi (ens L) k]'this,List.getElem?_eq_getElem _,?_⟩;exact eC (List.getElem?_eq_getElem _)
theorem zF{G:Nat}{t:TypeId}(h:Blk w G cs t)(hi:cs[i]?=some v)(b:Nat):(w.setCell ⟨G,i,none⟩ v).heap[b]?=w.heap[b]?:=by
 by_cases e:b=G
 ·subst e;have c:=(h.setCell (i:=i) v).blk;rw[c,h.blk];have:cs.set i v=cs:=by
   obtain⟨a,rfl⟩:=List.getElem?_eq_some_iff.1 hi;exact List.set_getElem_self a
  rw[this]
 ·exact Below.heap_setCell w _ v b e
theorem bO.upd{w1:World}{q:Nat}{p:Pg}{e:En}(A:bO w F D g L)(hi:L[i]?=some p)(he:p.es[q]?=some e)(B:Below w.heap.size w w1)(hu:OB w1 (w.heap.size <= ·) u ul) :
  bO (w1.setCell ⟨p.b,q * 2+1,none⟩ u) F (fun b=>D b\/w.heap.size<=b) g (L.set i ⟨p.b,p.c,p.es.set q { e with vv:=u,vl:=ul }⟩)/\Chg F w (w1.setCell ⟨p.b,q * 2+1,none⟩ u):=by
 have t:=(List.getElem?_eq_some_iff.1 hi).1
 have Q:L≠[]:=fun e=>by subst e;simp at t
 obtain⟨G,C,V,z,H,I⟩:=A.opn Q;have n:=A.cp p (List.mem_of_getElem? hi);have E:=(List.getElem?_eq_some_iff.1 he).1
 have m:Chg (·=p.b) w (w1.setCell ⟨p.b,q * 2+1,none⟩ u):=(Chg.of (F:=(·=p.b)) B).cell (.inl rfl) _
 have a:∀ {v:Value} {l:List Int} {D':Nat->Prop},OB w1 D' v l->OB (w1.setCell ⟨p.b,q * 2 + 1,none⟩ u) D' v l:=fun h=>⟨h.oct,h.ex.imp id (by
  rintro⟨b,c,e,T,o⟩;refine⟨b,c,e,T,o.same (Below.heap_setCell w1 _ _ b ?_)⟩;obtain⟨X,k⟩:=o.kind;obtain⟨P,R⟩:=(n.1.row.keep B).kind
  exact ee k R (by decide))⟩
 have s:Rw (w1.setCell ⟨p.b,q * 2+1,none⟩ u) 211 2 p.b p.es.length p.c (flat (p.es.set q { e with vv:=u,vl:=ul })) :=
  ((n.1.row.keep B).set (q * 2+1) (by rw[fL];omega) u).to (nL u ul he)
 have hA:PgA (w1.setCell ⟨p.b,q * 2+1,none⟩ u) (fun b=>D b\/w.heap.size<=b) ⟨p.b,p.c,p.es.set q { e with vv:=u,vl:=ul }⟩:=by
  refine⟨by simpa using s,fun W y=>?_⟩;obtain⟨j,r⟩:=List.getElem?_of_mem y;rw[List.getElem?_set] at r;by_cases N:q=j
  ·subst N;rw[if_pos rfl,if_pos E] at r
   cases r;have f:=n.1.bX e (List.mem_of_getElem? he);exact⟨(a (f.k.keep B)).mono (fun _ _ h=>.inl h),(a hu).mono (fun _ _ h=>.inr h)⟩
  ·rw[if_neg N] at r;have f:=n.1.bX W (List.mem_of_getElem? r);exact⟨(a (f.k.keep B)).mono (fun _ _ h=>.inl h),(a (f.v.keep B)).mono (fun _ _ h=>.inl h)⟩
 obtain⟨O,U⟩:=A.put (p':=⟨p.b,p.c,p.es.set q { e with vv:=u,vl:=ul }⟩) (D':=fun b=>D b\/w.heap.size<=b) V z H I hi m (.inl rfl) hA (fun _ _ h=>.inl h)
 have S:(⟨p.b,p.c,p.es.set q { e with vv:=u,vl:=ul }⟩:Pg).v=p.v:=by simp[Pg.v]
 rw[S] at O U
 have K:Rw (w1.setCell ⟨p.b,q * 2+1,none⟩ u) 212 1 G L.length C (L.map Pg.v):=I.chg m (fun e=>n.1.eN I e.symm)
 have d:∀ b,((w1.setCell ⟨p.b,q * 2 + 1,none⟩ u).setCell ⟨G,i,none⟩ p.v).heap[b]? = (w1.setCell ⟨p.b,q * 2 + 1,none⟩ u).heap[b]? := fun b=>by
  obtain⟨sp,h,_⟩:=K.ex;exact zF h (by rw[List.getElem?_append_left (by simpa using t)];simp[hi]) b
 have J:∀ x,((F x/\x≠p.b)\/x=p.b)<->F x:=fun x=>⟨fun h=>h.elim (fun h=>h.1) (fun h=>by subst h; exact n.2),fun h=>by
  by_cases ex:x=p.b
  ·exact .inr ex
  ·exact .inl ⟨h,ex⟩⟩
 have M:=O.same (w':=w1.setCell ⟨p.b,q * 2+1,none⟩ u) (fun b _=>(d b).symm) (fun b _ _ _=>(d b).symm);rw[show (fun x=>(F x/\x≠p.b)\/x=p.b)=F from funext fun x=>propext (J x)] at M;exact⟨M,⟨m.os,m.tape,m.output,m.size,fun b hb hf=>m.same b hb fun e=>hf (by subst e;exact n.2)⟩⟩
theorem Co(A:bO w F D g L)(O:Ord (ens L))(x:∀ es∈ens L,es.length<=1000)(hn:L.length<=100000000)(h:By w kv k)(hb:∀ p∈L,∀ e∈p.es,e.vl.length<=1000000000) :
  Calls Tryz.prog 115 #[.pointer (some ⟨g,0,none⟩),kv] w fun e w'=>∃ v,e=.returned (.tuple #[v,.bool (has (ens L) k)])/\OB w' (w.heap.size <= ·) v (if has (ens L) k then got (ens L) k else [])/\Below w.heap.size w w':=by
 by_cases s:L=[]
 ·subst s;have t:=nN (v:=kv) A
  have e1:has (ens []) k=false:=rfl;rw[e1];clear A O x hb h;go_enter Tryz.func115,Tryz.ntmps115;go_wp2_with (go_at_call 130;refine t.mono ?_;rintro B l ⟨rfl,rfl⟩);go_ret2;exact⟨_,rfl,⟨fun _ h=>by simp at h,.inl ⟨rfl,rfl⟩⟩,Below.refl _ _⟩
 ·obtain⟨p,u,r⟩:=pH s k;have d:=List.mem_of_getElem? u;have t:=lL A O h (by omega) u (by have:=x p.es (List.mem_map.2 ⟨p,d,rfl⟩);omega);obtain⟨G,C,z,T,Y,I⟩:=A.opn s;have V:=(List.getElem?_eq_some_iff.1 u).1
  have P:has (ens L) k=thr (kys p.es) k:=by
   unfold has;rw[r];have:(ens L).isEmpty=false:=by simp[ens,s]
   simp[this]
  have f:got (ens L) k=((p.es)[plc (kys p.es) k]?.map En.vl).getD []:=by unfold got;rw[r]
  rw[P];by_cases j:thr (kys p.es) k=true
  ·obtain⟨e,he,R⟩:=lK j;rw[he] at f;simp only[Option.map_some,Option.getD_some] at f;rw[j,if_pos rfl,f];rw[j] at t;have M:=z.cell (i:=0) rfl;have E:=I.cell (i:=pgi (ens L) k) (v:=p.v) (by simp[u]);have N:=(A.cp p d).1.bX e (List.mem_of_getElem? he);have J:=(A.cp p d).1.row.cell (ky he)
   have K:∀ w',Below w.heap.size w w'->Calls Tryz.prog 114 #[e.vv] w' _:=fun w' c=>cH (N.v.keep c).by (hb p d e (List.mem_of_getElem? he))
   have U:=(List.getElem?_eq_some_iff.1 he).1;generalize pgi (ens L) k=i at *;generalize plc (kys p.es) k=q at *
   have z1:(i:Int) < L.length:=by omega
   have z2:(q:Int) < p.es.length:=by omega
   simp only[Pg.v] at E;generalize L.length=n at *;generalize p.es.length=m at *;clear A O x hb h I z N j;go_enter Tryz.func115,Tryz.ntmps115;go_wp2_with (first | (go_at_call 130;refine t.mono ?_;rintro B l ⟨rfl,c⟩;have X:l.cell? ⟨g,0,none⟩=_:=(c.cell (p:=⟨g,0,none⟩) (aH M)).trans M;have Z:l.cell? ⟨G,i,none⟩=_:=(c.cell (p:=⟨G,i,none⟩) (aH E)).trans E;have Q:l.cell? ⟨p.b,q * 2+1,none⟩=_:=(c.cell (p:=⟨p.b,q * 2+1,none⟩) (aH J)).trans J;have y:=K l c;clear t K) | (go_at_call 114;refine y.mono ?_;rintro B w2 ⟨W,rfl,S,H⟩));go_ret2;exact⟨W,rfl,S.mono (fun b _ hb=>Nat.le_trans c.size hb),ai c H⟩
  ·have o:thr (kys p.es) k=false:=by simpa using j
   rw[o] at t ⊢;generalize pgi (ens L) k=i at *;generalize plc (kys p.es) k=q at *;clear A O x hb h I z j o P f;go_enter Tryz.func115,Tryz.ntmps115;go_wp2_with (go_at_call 130;refine t.mono ?_;rintro B l ⟨rfl,c⟩);go_ret2;exact⟨_,rfl,⟨fun _ h=>by simp at h,.inl ⟨rfl,rfl⟩⟩,c⟩
end
section
variable {es:List En}{q g:Nat}{w:World}{D F:Nat->Prop}{v l k:List Int}{L:List Pg}{kv vv:Value}
theorem yz{e:En}(h:es[q]?=some e)(f:En->En):es.modify q f=es.set q (f e):=by
 have a:=(List.getElem?_eq_some_iff.1 h).1;apply List.ext_getElem?;intro j;rw[List.getElem?_modify,List.getElem?_set];by_cases e:q=j
 ·subst e;rw[if_pos rfl,if_pos a,h];simp
 ·rw[if_neg e];simp[e]
theorem OB.shape{v:Value}(h:OB w D v l):∃ ao c,v=.slice ao l.length c:=by
 rcases h.ex with⟨rfl,rfl⟩ | ⟨b,c,rfl,_⟩
 ·exact⟨none,0,rfl⟩
 ·exact⟨_,c,rfl⟩
def SetR(w w':World)(F D:Nat->Prop)(g:Nat)(L:List Pg)(k v:List Int):Prop :=
 ∃ F' L' nk nv,ens L'=eU (ens L) ⟨nk,k,nv,v⟩/\bO w' F' (fun b=>D b\/w.heap.size<=b) g L'/\(∀ b,F' b->F b\/w.heap.size<=b)/\Chg F w w'
theorem xi{F D:Nat→Prop}{p:Pg}(A:bO w F D g L)(O:Ord (ens L))(hs:p.es.length≤1000)(hn:L.length≤100000000)(h:By w kv k)(hv:By w vv v)(Q:v.length≤1000000000)(W:L≠[])(I:L[pgi (ens L) k]?=some p)(H:(ens L).getD (pgi (ens L) k) []=p.es)(K:thr (kys p.es) k=true) :
    Calls Tryz.prog 84 #[.pointer (some ⟨g,0,none⟩),kv,vv] w fun e w'=>e=.returned (.bool false)∧SetR w w' F D g L k v:=by
  have t:=lL A O h (by omega) I (by omega);obtain⟨G,C,V,ab,hFG,Z⟩:= A.opn W;obtain⟨e,he,hek⟩:= lK K;have P:=List.mem_of_getElem? I;have ad:=(List.getElem?_eq_some_iff.1 I).1;have hql:=(List.getElem?_eq_some_iff.1 he).1
  have hS : ∀ u, eU (ens L) ⟨e.kv, k, u, v⟩ = (ens L).set (pgi (ens L) k) (p.es.set (plc (kys p.es) k) { e with vv := u, vl := v }) := fun u => by
    unfold eU;rw[if_neg (tT W)];simp only[H];rw[if_pos K,yz he]
  have hS:Hid _:=hS;rw[K] at t;have Y:=V.cell (i:=0) rfl;have R:=Z.cell (i:=pgi (ens L) k) (v:=p.v) (by simp[I])
  have tC:∀ w',Below w.heap.size w w'→Calls Tryz.prog 114 #[vv] w' _:=fun w' B=>cH (hv.keep B) Q
  have d:=(A.cp p P).1;have X:=d.row.cell (ky he);have fv:=d.row.free (plc (kys p.es) k * 2+1)
  have n1:g≠p.b:=fun e=>d.eK V e.symm
  have n2:G≠p.b:=fun e=>d.eN Z e.symm
  generalize x:pgi (ens L) k=i at *;generalize r:plc (kys p.es) k=q at *
  have x:Hid _:=x
  have r:Hid _:=r
  have z1:(i:Int) < L.length:=by omega
  have z2:(q:Int) < p.es.length:=by omega
  simp only[Pg.v] at R;generalize s:L.length=n at *;generalize z:p.es.length=m at *
  have s:Hid _:=s
  have z:Hid _:=z;clear K H;have mixed:=mixed;go_enter Tryz.func84,Tryz.ntmps84;go_wp2_with (first | (go_at_call 130;refine t.mono ?_;rintro e' E ⟨rfl,B⟩))
  have y:E.drew.cell? ⟨g,0,none⟩=some (.slice (some ⟨G,0,none⟩) n C):=(B.cell (p:=⟨g,0,none⟩) (aH Y)).trans Y
  have J:E.drew.cell? ⟨G,i,none⟩=some (.slice (some ⟨p.b,0,none⟩) m p.c):=(B.cell (p:=⟨G,i,none⟩) (aH R)).trans R
  have f:Below w.heap.size w E.drew:=ai B (cy E);have M:=tC E.drew f;go_region_held3 (fun w'=>w'.cell? ⟨g,0,none⟩=some (.slice (some ⟨G,0,none⟩) n C)∧w'.cell? ⟨G,i,none⟩=some (.slice (some ⟨p.b,0,none⟩) m p.c)) (first | exact⟨by assumption,by assumption⟩ | exact⟨bU n1 (by assumption),bU n2 (by assumption)⟩)
    (first
    | (go_at_call 114;refine M.mono ?_;rintro e' o ⟨v',rfl,U,l⟩;obtain⟨N,S,rfl⟩:= U.shape;have cg2:o.cell? ⟨g,0,none⟩=_:=(l.cell (p:=⟨g,0,none⟩) (aH y)).trans y;have aa:o.cell? ⟨G,i,none⟩=_:=(l.cell (p:=⟨G,i,none⟩) (aH J)).trans J;have j:=ai f l;have ac:o.cell? ⟨p.b,q * 2+1,none⟩=_:=(j.cell (p:=⟨p.b,q * 2+1,none⟩) (aH X)).trans X;have fv2:o.frozen? ⟨p.b,q * 2+1,none⟩=false:=(d.row.keep j).free _))
  all_goals (
    have T:OB o (w.heap.size≤·) (.slice N v.length S) v:=U.mono (fun b _ hb=>Nat.le_trans f.size hb);obtain⟨A2,C2⟩:= A.upd I he j T;generalize (o.setCell ⟨p.b,q * 2+1,none⟩ (.slice N v.length S))=W3 at *;go_wp2;go_ret
    exact⟨rfl,F,_,e.kv,.slice N v.length S,by rw[hS.out,pF],A2,fun b hb=>.inl hb,C2⟩)
theorem iw{i:Nat}(A:bO w F D g L)(h:By w kv k)(x:By w vv v)(p:k.length<=1000000000)(r:v.length<=1000000000)(t:Calls Tryz.prog 130 #[.pointer (some ⟨g,0,none⟩),kv] w fun e w'=>e=.returned (.tuple #[.int .i64 i,.int .i64 q,.bool false])/\Below w.heap.size w w')(B:∀ (w':World) (nk nv:Value),bO w' F (fun b=>D b\/w.heap.size<=b) g L->EnA w' (fun b=>D b\/w.heap.size<=b) ⟨nk,k,nv,v⟩->Calls Tryz.prog 131 #[.pointer (some ⟨g,0,none⟩),.int .i64 i,.int .i64 q,.agg #[nk,nv]] w' fun e' w''=>∃ F' L',e'=.returned (.tuple #[])/\ens L'=eU (ens L) ⟨nk,k,nv,v⟩/\bO w'' F' (fun b=>D b\/w.heap.size<=b) g L'/\(∀ b,F' b->F b\/w'.heap.size<=b)/\Chg F w' w'') :
  Calls Tryz.prog 84 #[.pointer (some ⟨g,0,none⟩),kv,vv] w fun e w'=>e=.returned (.bool true)/\SetR w w' F D g L k v:=by
 have z:∀ w',Below w.heap.size w w'->Calls Tryz.prog 114 #[kv] w' _:=fun w' f=>cH (h.keep f) p
 have y:∀ w',Below w.heap.size w w'->Calls Tryz.prog 114 #[vv] w' _:=fun w' f=>cH (x.keep f) r
 have mk:True:=trivial;clear h x;go_enter Tryz.func84,Tryz.ntmps84
 go_wp2_with (first
  | (go_at_call 130;refine t.mono ?_;rintro e' C ⟨rfl,f⟩;have l:=z C f;clear t z)
  | (go_at_call 114;clear mk;refine l.mono ?_;rintro e' I ⟨nk,rfl,u,s⟩;have d:=ai f s;have j:=y I d;clear l y;obtain⟨M,O,rfl⟩:=u.shape)
  | (go_at_call 114;refine j.mono ?_;rintro e' G ⟨nv,rfl,m,n⟩;clear j;obtain⟨K,N,rfl⟩:=m.shape;have c:=ai d n;have o:=B G _ _ ((A.keep c).mono (fun _ _ h=>.inl h)) ⟨(u.keep n).mono (fun b _ hb=>.inr (Nat.le_trans f.size hb)),m.mono (fun b _ hb=>.inr (Nat.le_trans d.size hb))⟩)
  | (go_at_call 131;refine o.mono ?_;rintro e' J ⟨F',L',rfl,H,hA,hF,E⟩))
 go_ret;exact⟨rfl,F',L',_,_,H,hA,fun b hb=>(hF b hb).imp id (fun h=>Nat.le_trans c.size h),(Chg.of (F:=F) c).trans E (fun _ _ h=>h)⟩
theorem CU(A:bO w F D g L)(O:Ord (ens L))(G:∀ es∈ens L,es.length<=32)(hn:L.length<=100000000)(h:By w kv k)(u:By w vv v)(j:k.length<=1000000000)(b:v.length<=1000000000) :
  Calls Tryz.prog 84 #[.pointer (some ⟨g,0,none⟩),kv,vv] w fun e w'=>e=.returned (.bool (!has (ens L) k))/\SetR w w' F D g L k v:=by
 by_cases c:L=[]
 ·subst c;refine iw (i:=0) (q:=0) A h u j b ((nN A).mono ?_) (fun w' nk nv z o=>(rv z o).mono ?_)
  ·rintro e w' ⟨rfl,rfl⟩;exact⟨rfl,Below.refl _ _⟩
  ·rintro e s ⟨y,n,rfl,B,hA,hF,x⟩;exact⟨y,n,rfl,B,hA,hF,x⟩
 ·obtain⟨p,l,a⟩:=pH c k;have r:=List.mem_of_getElem? l;have C:=G p.es (List.mem_map.2 ⟨p,r,rfl⟩)
  have E:has (ens L) k=thr (kys p.es) k:=by
   unfold has;rw[a];have:(ens L).isEmpty=false:=by simp[ens,c]
   simp[this]
  rw[E];by_cases m:thr (kys p.es) k=true
  ·rw[m];exact xi A O (by omega) hn h u b c l a m
  ·have d:thr (kys p.es) k=false:=by simpa using m
   have t:=lL A O h (by omega) l (by omega);rw[d] at t ⊢;have f:=qd (kys p.es) k;simp only[kys,List.length_map] at f;refine iw A h u j b t (fun w' nk nv z o=>(sP z l (q:=plc (kys p.es) k) f C hn o).mono ?_);rintro e s ⟨y,n,rfl,B,hA,hF,x⟩;refine⟨y,n,rfl,?_,hA,hF,x⟩;rw[B];unfold eU;rw[if_neg (tT c)];simp only[a];rw[if_neg (by rw[d];decide)]
end
section
variable {w:World}{v:Value}{F D:Nat->Prop}{L:List Pg}
def jnb(P:List (List En))(i:Nat):Bool:=decide (i+1 < P.length) && decide ((P.getD i []).length+(P.getD (i+1) []).length<=16)
def jnQ(P:List (List En))(i:Nat):List (List En):=P.take i ++ [P.getD i [] ++ P.getD (i+1) []] ++ P.drop (i+2)
theorem jn_neg:Calls Tryz.prog 235 #[v,.int .i64 (-1)] w fun e w'=>e=.returned (.bool false)/\Below w.heap.size w w':=by
 have mixed:=mixed;go_enter Tryz.func235,Tryz.ntmps235;go_wp2;go_region;go_wp2;go_ret;exact⟨rfl,cy w⟩
theorem Ay{g i:Nat}(A:bO w F D g L)(hi:i < L.length)(hn:L.length<=100000000)(t:∀ es∈ens L,es.length<=1000) :
  Calls Tryz.prog 235 #[.pointer (some ⟨g,0,none⟩),.int .i64 i] w fun e w'=>e=.returned (.bool (jnb (ens L) i))/\Below w.heap.size w w':=by
 have N:L≠[]:=fun e=>by subst e;simp at hi
 obtain⟨G,C,E,O,Q,u⟩:=A.opn N;have J:=E.cell (i:=0) rfl
 have q:(ens L).length=L.length:=by simp[ens]
 have mixed:=mixed
 have B:IntKind.i64.wrap ((i:Int)+1)=(i:Int)+1:=by rw[IntKind.wrap_i64];omega
 have M:(0:Int)<=(i:Int):=by omega
 by_cases s:i+1 < L.length
 ·obtain⟨p,H⟩:∃ p,L[i]?=some p:=⟨L[i],List.getElem?_eq_getElem hi⟩
  obtain⟨d,l⟩:∃ d,L[i+1]?=some d:=⟨L[i+1],List.getElem?_eq_getElem s⟩
  have K:=u.cell (i:=i) (v:=p.v) (by simp[H]);have m:=u.cell (i:=i+1) (v:=d.v) (by simp[l]);have s1:=t p.es (List.mem_map.2 ⟨p,List.mem_of_getElem? H,rfl⟩);have s2:=t d.es (List.mem_map.2 ⟨d,List.mem_of_getElem? l,rfl⟩)
  have z:Hid (jnb (ens L) i=decide ((p.es.length:Int)+(d.es.length:Int)<=16)):=by
   show _=_
   unfold jnb;rw[q,decide_eq_true s,eC H,eC l,Bool.true_and];congr 1
   exact propext ⟨fun h=>by omega,fun h=>by omega⟩
  simp only[Pg.v] at K m;generalize hln:L.length=n at *;generalize p.es.length=x at *;generalize d.es.length=y at *
  have z1:(i:Int)+1 < n:=by omega
  have T:(i:Int) < n:=by omega
  have U:((i:Int)+1).toNat=i+1:=by omega
  have R:(0:Int)<=(i:Int)+1:=by omega
  have P:IntKind.i64.wrap ((x:Int)+(y:Int))=(x:Int)+(y:Int):=by rw[IntKind.wrap_i64];omega
  have f:w.drew.cell? ⟨g,0,none⟩=some (.slice (some ⟨G,0,none⟩) n C):=J
  have o:w.drew.cell? ⟨G,i,none⟩=some (.slice (some ⟨p.b,0,none⟩) x p.c):=K
  have j:w.drew.cell? ⟨G,i+1,none⟩=some (.slice (some ⟨d.b,0,none⟩) y d.c):=m;clear A t u E hln;go_enter Tryz.func235,Tryz.ntmps235;go_wp2
  have r:Tryz.prog.underlying 149=some (.slice 212):=by kernel_rfl
  have I:i < n:=hi;refine bJ (S:=fun w'=>w'.cell? ⟨g,0,none⟩=some (.slice (some ⟨G,0,none⟩) n C)/\w'.cell? ⟨G,i,none⟩=some (.slice (some ⟨p.b,0,none⟩) x p.c)/\w'.cell? ⟨G,i+1,none⟩=some (.slice (some ⟨d.b,0,none⟩) y d.c)) (by kernel_rfl) ⟨f,o,j⟩ ?_
  have hS:=(show _/\_/\_ from⟨f,o,j⟩)
  refine ax 0 5 (.int .i64 i) (by kernel_rfl) (fun _ _=>by kernel_rfl) i3 hS ?_
  refine iD 1 (some 6) (.bool (decide ((0:Int)<=(i:Int)))) (.bool true) (by rw[decide_eq_true M]) (by kernel_rfl) (fun _ _=>by kernel_rfl) i3 hS ?_
  refine ax 2 7 (.bool true) (by kernel_rfl) (fun _ _=>by kernel_rfl) i3 hS ?_
  refine ax 3 8 (.int .i64 i) (by kernel_rfl) (fun _ _=>by kernel_rfl) i3 hS ?_
  refine iD 4 (some 9) (.int .i64 (IntKind.i64.wrap ((i:Int)+1))) (.int .i64 ((i:Int)+1)) (by rw[B]) (by kernel_rfl) (fun _ _=>by kernel_rfl) i3 hS ?_
  refine ax 5 10 (.pointer (some ⟨g,0,none⟩)) (by kernel_rfl) (fun _ _=>by kernel_rfl) i3 hS ?_
  refine ax 6 11 (.pointer (some ⟨g,0,none⟩)) (by kernel_rfl) (fun _ _=>by kernel_rfl) i3 hS ?_
  refine ax 7 12 (.pointer (some ⟨g,0,none⟩)) (by kernel_rfl) (fun _ _=>by kernel_rfl) i3 hS ?_
  refine aN 8 (some 13) (.slice (some ⟨G,0,none⟩) n C) 149 12 (g) (0) (by kernel_rfl) (by kernel_rfl) (by kernel_rfl) (fun w' h=>fG h.1) i3 hS ?_
  refine ax 9 14 (.int .i64 n) (by kernel_rfl) (fun _ _=>by kernel_rfl) i3 hS ?_
  refine iD 10 (some 15) (.bool (decide ((i:Int)+1 < (n:Int)))) (.bool true) (by rw[decide_eq_true (by omega)]) (by kernel_rfl) (fun _ _=>by kernel_rfl) i3 hS ?_
  refine ax 11 16 (.bool true) (by kernel_rfl) (fun _ _=>by kernel_rfl) i3 hS ?_
  refine ax 12 17 (.bool true) (by kernel_rfl) (fun _ _=>by kernel_rfl) i3 hS ?_
  refine ax 13 18 (.pointer (some ⟨g,0,none⟩)) (by kernel_rfl) (fun _ _=>by kernel_rfl) i3 hS ?_
  refine ax 14 19 (.pointer (some ⟨g,0,none⟩)) (by kernel_rfl) (fun _ _=>by kernel_rfl) i3 hS ?_
  refine ax 15 20 (.pointer (some ⟨g,0,none⟩)) (by kernel_rfl) (fun _ _=>by kernel_rfl) i3 hS ?_
  refine aN 16 (some 21) (.slice (some ⟨G,0,none⟩) n C) 149 20 (g) (0) (by kernel_rfl) (by kernel_rfl) (by kernel_rfl) (fun w' h=>fG h.1) i3 hS ?_
  refine ax 17 22 (.int .i64 i) (by kernel_rfl) (fun _ _=>by kernel_rfl) i3 hS ?_
  refine ax 18 23 (.pointer (some ⟨G,i,none⟩)) (by kernel_rfl) (fun _ _=>cS (x:=21) (y:=22) (n:=n) (c:=C) (by kernel_rfl) r (by kernel_rfl) (by kernel_rfl) (rfl) (I)) i3 hS ?_
  refine aN 19 (some 24) (.slice (some ⟨p.b,0,none⟩) x p.c) 212 23 (G) (i) (by kernel_rfl) (by kernel_rfl) (by kernel_rfl) (fun w' h=>pz h.2.1) i3 hS ?_
  refine ax 20 25 (.int .i64 x) (by kernel_rfl) (fun _ _=>by kernel_rfl) i3 hS ?_
  refine ax 21 26 (.pointer (some ⟨g,0,none⟩)) (by kernel_rfl) (fun _ _=>by kernel_rfl) i3 hS ?_
  refine ax 22 27 (.pointer (some ⟨g,0,none⟩)) (by kernel_rfl) (fun _ _=>by kernel_rfl) i3 hS ?_
  refine ax 23 28 (.pointer (some ⟨g,0,none⟩)) (by kernel_rfl) (fun _ _=>by kernel_rfl) i3 hS ?_
  refine aN 24 (some 29) (.slice (some ⟨G,0,none⟩) n C) 149 28 (g) (0) (by kernel_rfl) (by kernel_rfl) (by kernel_rfl) (fun w' h=>fG h.1) i3 hS ?_
  refine ax 25 30 (.int .i64 i) (by kernel_rfl) (fun _ _=>by kernel_rfl) i3 hS ?_
  refine iD 26 (some 31) (.int .i64 (IntKind.i64.wrap ((i:Int)+1))) (.int .i64 ((i:Int)+1)) (by rw[B]) (by kernel_rfl) (fun _ _=>by kernel_rfl) i3 hS ?_
  refine ax 27 32 (.pointer (some ⟨G,i+1,none⟩)) (by kernel_rfl) (fun _ _=>cS (x:=29) (y:=31) (n:=n) (c:=C) (by kernel_rfl) r (by kernel_rfl) (by kernel_rfl) (show ((i:Int)+1)=((i+1:Nat):Int) from by omega) (s)) i3 hS ?_
  refine aN 28 (some 33) (.slice (some ⟨d.b,0,none⟩) y d.c) 212 32 (G) (i+1) (by kernel_rfl) (by kernel_rfl) (by kernel_rfl) (fun w' h=>pz h.2.2) i3 hS ?_
  refine ax 29 34 (.int .i64 y) (by kernel_rfl) (fun _ _=>by kernel_rfl) i3 hS ?_
  refine iD 30 (some 35) (.int .i64 (IntKind.i64.wrap ((x:Int)+(y:Int)))) (.int .i64 ((x:Int)+(y:Int))) (by rw[P]) (by kernel_rfl) (fun _ _=>by kernel_rfl) i3 hS ?_
  refine ax 31 36 (.bool (decide ((x:Int)+(y:Int)<=16))) (by kernel_rfl) (fun _ _=>by kernel_rfl) i3 hS ?_
  refine ax 32 37 (.bool (decide ((x:Int)+(y:Int)<=16))) (by kernel_rfl) (fun _ _=>by kernel_rfl) i3 hS ?_
  refine ax 33 4 (.bool (decide ((x:Int)+(y:Int)<=16))) (by kernel_rfl) (fun _ _=>by kernel_rfl) i3 hS ?_
  refine bh (by kernel_rfl) ?_
  simp only[Act.put,List.setIfInBounds_toArray,List.set_cons_zero,List.set_cons_succ];go_wp2;go_ret;exact⟨by rw[z.out];rfl,cy w⟩
 ·have z:Hid (jnb (ens L) i=false):=by
   show _=_
   unfold jnb;rw[q,decide_eq_false s,Bool.false_and]
  generalize hln:L.length=n at *
  have z1:¬ ((i:Int)+1 < n):=by omega
  have f:w.drew.cell? ⟨g,0,none⟩=some (.slice (some ⟨G,0,none⟩) n C):=J;clear A t u E hln;go_enter Tryz.func235,Tryz.ntmps235;go_wp2;refine bJ (S:=fun w'=>w'.cell? ⟨g,0,none⟩=some (.slice (some ⟨G,0,none⟩) n C)) (by kernel_rfl) f ?_
  have hS:=f;refine ax 0 5 (.int .i64 i) (by kernel_rfl) (fun _ _=>by kernel_rfl) i3 hS ?_
  refine iD 1 (some 6) (.bool (decide ((0:Int)<=(i:Int)))) (.bool true) (by rw[decide_eq_true M]) (by kernel_rfl) (fun _ _=>by kernel_rfl) i3 hS ?_
  refine ax 2 7 (.bool true) (by kernel_rfl) (fun _ _=>by kernel_rfl) i3 hS ?_
  refine ax 3 8 (.int .i64 i) (by kernel_rfl) (fun _ _=>by kernel_rfl) i3 hS ?_
  refine iD 4 (some 9) (.int .i64 (IntKind.i64.wrap ((i:Int)+1))) (.int .i64 ((i:Int)+1)) (by rw[B]) (by kernel_rfl) (fun _ _=>by kernel_rfl) i3 hS ?_
  refine ax 5 10 (.pointer (some ⟨g,0,none⟩)) (by kernel_rfl) (fun _ _=>by kernel_rfl) i3 hS ?_
  refine ax 6 11 (.pointer (some ⟨g,0,none⟩)) (by kernel_rfl) (fun _ _=>by kernel_rfl) i3 hS ?_
  refine ax 7 12 (.pointer (some ⟨g,0,none⟩)) (by kernel_rfl) (fun _ _=>by kernel_rfl) i3 hS ?_
  refine aN 8 (some 13) (.slice (some ⟨G,0,none⟩) n C) 149 12 (g) (0) (by kernel_rfl) (by kernel_rfl) (by kernel_rfl) (fun w' h=>fG h) i3 hS ?_
  refine ax 9 14 (.int .i64 n) (by kernel_rfl) (fun _ _=>by kernel_rfl) i3 hS ?_
  refine iD 10 (some 15) (.bool (decide ((i:Int)+1 < (n:Int)))) (.bool false) (by rw[decide_eq_false (by omega)]) (by kernel_rfl) (fun _ _=>by kernel_rfl) i3 hS ?_
  refine ax 11 16 (.bool false) (by kernel_rfl) (fun _ _=>by kernel_rfl) i3 hS ?_
  refine ax 12 17 (.bool false) (by kernel_rfl) (fun _ _=>by kernel_rfl) i3 hS ?_
  refine cD 13 (some 18) (by kernel_rfl) i3 hS ?_
  refine cD 14 (some 19) (by kernel_rfl) i3 hS ?_
  refine cD 15 (some 20) (by kernel_rfl) i3 hS ?_
  refine cD 16 (some 21) (by kernel_rfl) i3 hS ?_
  refine cD 17 (some 22) (by kernel_rfl) i3 hS ?_
  refine cD 18 (some 23) (by kernel_rfl) i3 hS ?_
  refine cD 19 (some 24) (by kernel_rfl) i3 hS ?_
  refine cD 20 (some 25) (by kernel_rfl) i3 hS ?_
  refine cD 21 (some 26) (by kernel_rfl) i3 hS ?_
  refine cD 22 (some 27) (by kernel_rfl) i3 hS ?_
  refine cD 23 (some 28) (by kernel_rfl) i3 hS ?_
  refine cD 24 (some 29) (by kernel_rfl) i3 hS ?_
  refine cD 25 (some 30) (by kernel_rfl) i3 hS ?_
  refine cD 26 (some 31) (by kernel_rfl) i3 hS ?_
  refine cD 27 (some 32) (by kernel_rfl) i3 hS ?_
  refine cD 28 (some 33) (by kernel_rfl) i3 hS ?_
  refine cD 29 (some 34) (by kernel_rfl) i3 hS ?_
  refine cD 30 (some 35) (by kernel_rfl) i3 hS ?_
  refine cD 31 (some 36) (by kernel_rfl) i3 hS ?_
  refine ax 32 37 (.bool false) (by kernel_rfl) (fun _ _=>by kernel_rfl) i3 hS ?_
  refine ax 33 4 (.bool false) (by kernel_rfl) (fun _ _=>by kernel_rfl) i3 hS ?_
  refine bh (by kernel_rfl) ?_
  simp only[Act.put,List.setIfInBounds_toArray,List.set_cons_zero,List.set_cons_succ];go_wp2;go_ret;exact⟨by rw[z.out];rfl,cy w⟩
end
section
variable {L:List Pg}{i:Nat}{p p2:Pg}{w:World}{F D:Nat->Prop}
theorem ens_jn{q:Pg}(c:L[i]?=some p)(b:L[i+1]?=some p2)(d:q.es=p.es ++ p2.es):ens ((L.set i q).take (i+1) ++ (L.set i q).drop (i+2))=jnQ (ens L) i:=by
 have a:=(List.getElem?_eq_some_iff.1 c).1;unfold jnQ;rw[eC c,eC b,<- d]
 have e1:(L.set i q).take (i+1)=L.take i ++ [q]:=by
  rw[List.take_add_one,List.take_set_of_le (Nat.le_refl _),List.getElem?_set_self a];rfl
 rw[e1,List.drop_set_of_lt (by omega)];simp[ens,List.map_take,List.map_drop]
theorem zn{g:Nat}(A:bO w F D g L)(R:L[i]?=some p)(P:L[i+1]?=some p2)(hn:L.length<=100000000)(h0:0 < p.es.length)(hs1:p.es.length<=1000)(hs2:p2.es.length<=1000) :
  Calls Tryz.prog 236 #[.pointer (some ⟨g,0,none⟩),.int .i64 i] w fun e w'=>∃ F' L',e=.returned (.tuple #[])/\ens L'=jnQ (ens L) i/\bO w' F' D g L'/\(∀ b,F' b->F b\/w.heap.size<=b)/\Chg F w w':=by
 have hil:=(List.getElem?_eq_some_iff.1 R).1;have hil2:=(List.getElem?_eq_some_iff.1 P).1
 have hL:L≠[]:=fun e=>by subst e;simp at hil
 obtain⟨G,C,hg,hFg,hFG,hR⟩:=A.opn hL;have Z:=A.cp p (List.mem_of_getElem? R);have r:=A.cp p2 (List.mem_of_getElem? P);have cg:=hg.cell (i:=0) rfl;have cG:=hR.cell (i:=i) (v:=p.v) (by simp[R]);have t:=hR.cell (i:=i+1) (v:=p2.v) (by simp[P]);have hCC:=hR.le;simp only[maxLen] at hCC;obtain⟨n,d⟩:∃ n,Hid (L.length=n):=⟨_,rfl⟩
 obtain⟨x,u⟩:∃ m,Hid (p.es.length=m):=⟨_,rfl⟩
 obtain⟨y,Q⟩:∃ m,Hid (p2.es.length=m):=⟨_,rfl⟩
 simp only[Pg.v] at cG t;rw[d.out] at cg;rw[u.out] at cG;rw[Q.out] at t
 have z1:(i:Int) < n:=by have:=d.out;omega
 have z2:(i:Int)+1 < n:=by have:=d.out;omega
 have w1:IntKind.i64.wrap ((i:Int)+1)=(i:Int)+1:=by rw[IntKind.wrap_i64];have:=d.out;omega
 have z3:((i:Int)+1).toNat=i+1:=by omega
 have z4:(0:Int)<=(i:Int)+1:=by omega
 have cgd:w.drew.cell? ⟨g,0,none⟩=some (.slice (some ⟨G,0,none⟩) n C):=cg
 have cGd:w.drew.cell? ⟨G,i,none⟩=some (.slice (some ⟨p.b,0,none⟩) x p.c):=cG
 have U:w.drew.cell? ⟨G,i+1,none⟩=some (.slice (some ⟨p2.b,0,none⟩) y p2.c):=t
 have s:g≠G:=fun e=>hR.eK hg e.symm
 obtain⟨K,O⟩:∃ K,Hid (K=w.drew.alloc (.cells #[.slice (some ⟨p.b,0,none⟩) x p.c,.slice (some ⟨p2.b,0,none⟩) y p2.c] 212)):=⟨_,rfl⟩
 have M:Below w.heap.size w K:=by rw[O.out];exact ai (cy w) (af w.drew _)
 have V1:Blk K w.heap.size [.slice (some ⟨p.b,0,none⟩) x p.c,.slice (some ⟨p2.b,0,none⟩) y p2.c] 212:=by rw[O.out];exact aj w.drew _ _
 have t1:=Ef V1 ((u.out▸Z.1.row).keep M) ((Q.out▸r.1.row).keep M) (by have:=u.out;omega) (by have:=u.out;omega) (by have:=Q.out;omega) Z.1.one r.1.one
 have E:K.cell? ⟨g,0,none⟩=_:=(M.cell (p:=⟨g,0,none⟩) (aH cg)).trans cg
 have S:K.cell? ⟨G,i,none⟩=_:=(M.cell (p:=⟨G,i,none⟩) (aH cG)).trans cG
 have f:K.cell? ⟨G,i+1,none⟩=_:=(M.cell (p:=⟨G,i+1,none⟩) (aH t)).trans t
 have hin:i < n:=by have:=d.out;omega
 have hin2:i+1 < n:=by have:=d.out;omega
 have hS1:=(show _/\_ from⟨E,f⟩)
 rw[O.out] at hS1 t1;go_enter Tryz.func236,Tryz.ntmps236;go_wp2
 have ab:Tryz.prog.underlying 149=some (.slice 212):=by kernel_rfl
 refine mM (X:=Nat × Nat) (fun z=>[(some 4,.pointer (some ⟨g,0,none⟩)),(some 5,.pointer (some ⟨g,0,none⟩)),(some 6,.pointer (some ⟨g,0,none⟩)),(some 7,.slice (some ⟨G,0,none⟩) n C),(some 8,.int .i64 i),(some 9,.pointer (some ⟨g,0,none⟩)),(some 10,.pointer (some ⟨g,0,none⟩)),(some 11,.pointer (some ⟨g,0,none⟩)),(some 12,.slice (some ⟨G,0,none⟩) n C),(some 13,.int .i64 i),(some 14,.pointer (some ⟨G,i,none⟩)),(some 15,.slice (some ⟨p.b,0,none⟩) x p.c),(some 16,.pointer (some ⟨g,0,none⟩)),(some 17,.pointer (some ⟨g,0,none⟩)),(some 18,.pointer (some ⟨g,0,none⟩)),(some 19,.slice (some ⟨G,0,none⟩) n C),(some 20,.int .i64 i),(some 21,.int .i64 ((i:Int)+1)),(some 22,.pointer (some ⟨G,i+1,none⟩)),(some 23,.slice (some ⟨p2.b,0,none⟩) y p2.c),(some 24,.slice (some ⟨w.heap.size,0,none⟩) 2 2),(some 25,.slice (some ⟨z.1,0,none⟩) (x+y) z.2),(some 26,.pointer (some ⟨G,i,none⟩))]) (fun z w'=>∃ j,w'=j.setCell ⟨G,i,none⟩ (.slice (some ⟨z.1,0,none⟩) (x+y) z.2)/\K.heap.size<=z.1/\Rw j 211 2 z.1 (x+y) z.2 (flat p.es ++ flat p2.es)/\Below K.heap.size K j) (fun w'=>w'.cell? ⟨g,0,none⟩=some (.slice (some ⟨G,0,none⟩) n C)/\w'.cell? ⟨G,i+1,none⟩=some (.slice (some ⟨p2.b,0,none⟩) y p2.c)) (by kernel_rfl) ⟨cgd,U⟩ ?_ ?_
 ·have hS:=(show _/\_ from⟨cgd,U⟩)
  refine ax 0 4 (.pointer (some ⟨g,0,none⟩)) (by kernel_rfl) (fun _ _=>by kernel_rfl) i3 hS ?_
  refine ax 1 5 (.pointer (some ⟨g,0,none⟩)) (by kernel_rfl) (fun _ _=>by kernel_rfl) i3 hS ?_
  refine ax 2 6 (.pointer (some ⟨g,0,none⟩)) (by kernel_rfl) (fun _ _=>by kernel_rfl) i3 hS ?_
  refine aN 3 (some 7) (.slice (some ⟨G,0,none⟩) n C) 149 6 (g) (0) (by kernel_rfl) (by kernel_rfl) (by kernel_rfl) (fun w' h=>fG h.1) i3 hS ?_
  refine ax 4 8 (.int .i64 i) (by kernel_rfl) (fun _ _=>by kernel_rfl) i3 hS ?_
  refine ax 5 9 (.pointer (some ⟨g,0,none⟩)) (by kernel_rfl) (fun _ _=>by kernel_rfl) i3 hS ?_
  refine ax 6 10 (.pointer (some ⟨g,0,none⟩)) (by kernel_rfl) (fun _ _=>by kernel_rfl) i3 hS ?_
  refine ax 7 11 (.pointer (some ⟨g,0,none⟩)) (by kernel_rfl) (fun _ _=>by kernel_rfl) i3 hS ?_
  refine aN 8 (some 12) (.slice (some ⟨G,0,none⟩) n C) 149 11 (g) (0) (by kernel_rfl) (by kernel_rfl) (by kernel_rfl) (fun w' h=>fG h.1) i3 hS ?_
  refine ax 9 13 (.int .i64 i) (by kernel_rfl) (fun _ _=>by kernel_rfl) i3 hS ?_
  refine ax 10 14 (.pointer (some ⟨G,i,none⟩)) (by kernel_rfl) (fun _ _=>cS (x:=12) (y:=13) (n:=n) (c:=C) (by kernel_rfl) ab (by kernel_rfl) (by kernel_rfl) (rfl) (hin)) i3 hS ?_
  refine ax 12 16 (.pointer (some ⟨g,0,none⟩)) (by kernel_rfl) (fun _ _=>by kernel_rfl) i3 hS ?_
  refine ax 13 17 (.pointer (some ⟨g,0,none⟩)) (by kernel_rfl) (fun _ _=>by kernel_rfl) i3 hS ?_
  refine ax 14 18 (.pointer (some ⟨g,0,none⟩)) (by kernel_rfl) (fun _ _=>by kernel_rfl) i3 hS ?_
  refine aN 15 (some 19) (.slice (some ⟨G,0,none⟩) n C) 149 18 (g) (0) (by kernel_rfl) (by kernel_rfl) (by kernel_rfl) (fun w' h=>fG h.1) i3 hS ?_
  refine ax 16 20 (.int .i64 i) (by kernel_rfl) (fun _ _=>by kernel_rfl) i3 hS ?_
  refine iD 17 (some 21) (.int .i64 (IntKind.i64.wrap ((i:Int)+1))) (.int .i64 ((i:Int)+1)) (by rw[w1]) (by kernel_rfl) (fun _ _=>by kernel_rfl) i3 hS ?_
  refine ax 18 22 (.pointer (some ⟨G,i+1,none⟩)) (by kernel_rfl) (fun _ _=>cS (x:=19) (y:=21) (n:=n) (c:=C) (by kernel_rfl) ab (by kernel_rfl) (by kernel_rfl) (show ((i:Int)+1)=((i+1:Nat):Int) from by omega) (hin2)) i3 hS ?_
  refine aN 19 (some 23) (.slice (some ⟨p2.b,0,none⟩) y p2.c) 212 22 (G) (i+1) (by kernel_rfl) (by kernel_rfl) (by kernel_rfl) (fun w' h=>pz h.2) i3 hS ?_
  refine aB [11] (by kernel_rfl) (by simp) ?_
  refine aO 11 (some 15) (.slice (some ⟨p.b,0,none⟩) x p.c) _ (by kernel_rfl) (dQ 14 (by kernel_rfl) (by kernel_rfl) (pz cGd)) hS ?_ aL;refine aB [20] (by kernel_rfl) (by simp) ?_
  refine aO 20 (some 24) (.slice (some ⟨w.heap.size,0,none⟩) 2 2) _ (by kernel_rfl) (Cs (x:=15) (y:=23) (by kernel_rfl) (by kernel_rfl) (by kernel_rfl)) hS1 ?_ aL;refine bQ 21 (some 25) 249 #[.slice (some ⟨w.heap.size,0,none⟩) 2 2] (by kernel_rfl) (by kernel_rfl) t1 ?_
  rintro e' j ⟨J,c2,rfl,o,R2,V⟩;rw[<- O.out] at V o
  have aa:j.cell? ⟨g,0,none⟩=_:=(V.cell (p:=⟨g,0,none⟩) (aH E)).trans E
  have cGi2:j.cell? ⟨G,i,none⟩=_:=(V.cell (p:=⟨G,i,none⟩) (aH S)).trans S
  have B:j.cell? ⟨G,i+1,none⟩=_:=(V.cell (p:=⟨G,i+1,none⟩) (aH f)).trans f
  have fG2:j.frozen? ⟨G,i,none⟩=false:=((hR.keep M).keep V).free i;refine⟨_,rfl,⟨aa,B⟩,?_⟩;replace hS:=(show _/\_ from⟨aa,B⟩)
  refine ax 22 26 (.pointer (some ⟨G,i,none⟩)) (by kernel_rfl) (fun _ _=>cS (x:=7) (y:=8) (n:=n) (c:=C) (by kernel_rfl) ab (by kernel_rfl) (by kernel_rfl) (rfl) (hin)) i3 hS ?_
  refine aB [23] (by kernel_rfl) (by simp) ?_
  refine cB 23 (j.setCell ⟨G,i,none⟩ (.slice (some ⟨J,0,none⟩) (x+y) c2)) (by kernel_rfl) (kA 26 25 (by kernel_rfl) (by kernel_rfl) (by kernel_rfl) cGi2 fG2) ⟨bU s aa,Ae (by omega) B⟩ ?_ aL;refine bh (by kernel_rfl) ?_
  exact⟨(J,c2),by kernel_rfl,j,rfl,o,R2,V⟩
 rintro⟨J,c2⟩ w' ⟨j,rfl,o,R2,V⟩;dsimp only at o R2;simp only[gQ,Act.put,List.setIfInBounds_toArray,List.set_cons_zero,List.set_cons_succ]
 have N:Below w.heap.size w j:=ai M V;obtain⟨q,hq⟩:∃ q:Pg,Hid (q=⟨J,c2,p.es ++ p2.es⟩):=⟨_,rfl⟩
 have hlen:(p.es ++ p2.es).length=x+y:=by rw[List.length_append,u.out,Q.out]
 have hA':PgA j D q:=by
  rw[hq.out];refine⟨?_,fun e he=>?_⟩
  ·show Rw j _ 2 J (p.es ++ p2.es).length c2 _
   rw[hlen,df];exact R2
  ·rcases List.mem_append.1 he with h | h
   ·exact(Z.1.bX e h).keep N
   ·exact(r.1.bX e h).keep N
 have hv':q.v=.slice (some ⟨J,0,none⟩) (x+y) c2:=by rw[hq.out];simp only[Pg.v];rw[hlen]
 have hqb:q.b=J:=by rw[hq.out]
 have hqe:q.es=p.es ++ p2.es:=by rw[hq.out]
 obtain⟨Y,C3⟩:=A.put (p':=q) (D':=D) hg hFg hFG hR R (Chg.of N) (.inr (by rw[hqb];exact Nat.le_trans M.size o)) hA' (fun _ _ h=>h);rw[hv',hqb] at Y;rw[hv'] at C3
 have hF3:∀ b,((F b/\b≠p.b)\/b=J)->F b\/w.heap.size<=b:=fun b h=>h.imp (fun h=>h.1) (fun h=>by rw[h];exact Nat.le_trans M.size o)
 have l:=(hg.keep N).off s (i:=i) (.slice (some ⟨J,0,none⟩) (x+y) c2);generalize (j.setCell ⟨G,i,none⟩ (.slice (some ⟨J,0,none⟩) (x+y) c2))=W3 at *;generalize hF3d:(fun x=>(F x/\x≠p.b)\/x=J)=F3 at Y
 have I:∀ b,F3 b->F b\/w.heap.size<=b:=fun b h=>hF3 b (by rw[<- hF3d] at h;exact h)
 obtain⟨G2,D3,hg3,hFg3,W,hR3⟩:=Y.opn (by simp[hL]);obtain⟨rfl,rfl⟩:G2=G/\D3=C:=by
  have:=(hg3.eq l).1;simp at this;exact⟨this.1,this.2⟩
 have cg3:W3.cell? ⟨g,0,none⟩=some (.slice (some ⟨G2,0,none⟩) n D3):=by
  have:=l.cell (i:=0) rfl;rwa [d.out] at this
 have T:=hR3;rw[List.length_set,d.out] at T;have t4:=delP (i:=i+1) T (by have:=d.out;omega) (sR _);rw[show ((i+1:Nat):Int)=(i:Int)+1 by omega,show (i:Int)+1+1=(i:Int)+2 by omega] at t4
 have w2':IntKind.i64.wrap ((i:Int)+2)=(i:Int)+2:=by rw[IntKind.wrap_i64];have:=d.out;omega
 go_wp2_with (go_at_call 234;refine t4.mono ?_;rintro e' w5 ⟨rfl,R5,C5⟩;have cg5:w5.cell? ⟨g,0,none⟩=_:=(World.cell?_of_block (a:=⟨g,0,none⟩) (C5.same g (aH cg3) s)).trans cg3;have fg5:w5.frozen? ⟨g,0,none⟩=false:=(l.chg C5 s).free 0);go_end0
 have H:((L.set i q).take (i+1) ++ (L.set i q).drop (i+2)).Sublist (L.set i q):=by
  have h:=List.Sublist.append (List.Sublist.refl ((L.set i q).take (i+1))) (List.drop_sublist 1 ((L.set i q).drop (i+1)));rw[List.drop_drop,List.take_append_drop] at h;exact h
 obtain⟨A6,C6⟩:=kF (w:=W3) (w1:=w5) (F:=F3) (D:=D) (g:=g) (G:=G2) (G':=G2) (C':=D3) (n:=n - 1) (L':=(L.set i q).take (i+1) ++ (L.set i q).drop (i+2))
  (fun p R=>Y.cp p (H.mem R)) (Y.apart.sublist (H.map _)) Y.kind l hFg3 W (fun e=>s e.symm) C5 (fun p R=>(Y.cp p (H.mem R)).1.eN hR3)
  (by simp;have:=d.out;omega) (by simpa[List.map_take,List.map_drop] using R5)
 refine⟨_,_,rfl,ens_jn R P hqe,A6,fun b hb=>?_,C3.trans C6 fun b hb h=>(I b h).resolve_right (by omega)⟩;rcases hb with⟨h,_⟩ | rfl
 ·exact I b h
 ·exact I _ W
end
def rmQ (P:List (List En)) (i q:Nat):List (List En) :=
 let es:=(P.getD i []).take q ++ (P.getD i []).drop (q+1)
 if es=[] then P.take i ++ P.drop (i+1)
 else
  let P1:=P.set i es
  if jnb P1 i then jnQ P1 i else if 1<=i/\jnb P1 (i - 1) then jnQ P1 (i - 1) else P1
def gK (P:List (List En)) (k:List Int):List (List En) :=
 if has P k then rmQ P (pgi P k) (plc (kys (P.getD (pgi P k) [])) k) else P
theorem Dv (es:List En) (q:Nat):(flat es).take (q * 2) ++ (flat es).drop ((q+1) * 2)=flat (es.take q ++ es.drop (q+1)):=by
 rw[fP,fJ,df]
theorem uM {w:World} {F D:Nat->Prop} {g i q:Nat} {L:List Pg} {p:Pg} (A:bO w F D g L) (hi:L[i]?=some p) (hq:q < p.es.length) (hs:∀ es∈ens L,es.length<=32) (hf:∀ es∈ens L,es≠[]) (hn:L.length<=100000000) :
  Calls Tryz.prog 208 #[.pointer (some ⟨g,0,none⟩),.int .i64 i,.int .i64 q] w fun e' w'=>∃ F' L',e'=.returned (.tuple #[])/\ens L'=rmQ (ens L) i q/\bO w' F' D g L'/\(∀ b,F' b->F b\/w.heap.size<=b)/\Chg F w w':=by
 have hil:=(List.getElem?_eq_some_iff.1 hi).1
 have hL:L≠[]:=fun e=>by subst e;simp at hil
 obtain⟨G,C,hg,hFg,hFG,hR⟩:=A.opn hL;have V:=A.cp p (List.mem_of_getElem? hi);have h2:=hs p.es (List.mem_map.2 ⟨p,List.mem_of_getElem? hi,rfl⟩);have cg:=hg.cell (i:=0) rfl;have cG:=hR.cell (i:=i) (v:=p.v) (by simp[hi]);obtain⟨n,u⟩:∃ n,Hid (L.length=n):=⟨_,rfl⟩
 obtain⟨m,T⟩:∃ m,Hid (p.es.length=m):=⟨_,rfl⟩
 simp only[Pg.v] at cG;rw[u.out] at cg;rw[T.out] at cG
 have cgd:w.drew.cell? ⟨g,0,none⟩=some (.slice (some ⟨G,0,none⟩) n C):=cg
 have cGd:w.drew.cell? ⟨G,i,none⟩=some (.slice (some ⟨p.b,0,none⟩) m p.c):=cG
 have E:g≠G:=fun e=>hR.eK hg e.symm
 have ng:g≠p.b:=fun e=>V.1.eK hg e.symm
 have nG:G≠p.b:=fun e=>V.1.eN hR e.symm
 have hin:i < n:=by have:=u.out;omega
 have w1:IntKind.i64.wrap ((q:Int)+1)=(q:Int)+1:=by rw[IntKind.wrap_i64];omega
 have t1:=delE (i:=q) V.1.row.drew hq V.1.one;rw[T.out] at t1;go_enter Tryz.func208,Tryz.ntmps208;go_wp2
 have hpp:Tryz.prog.underlying 149=some (.slice 212):=by kernel_rfl
 refine mM (X:=Unit) (fun _=>[(some 6,.pointer (some ⟨g,0,none⟩)),(some 7,.pointer (some ⟨g,0,none⟩)),(some 8,.pointer (some ⟨g,0,none⟩)),(some 9,.slice (some ⟨G,0,none⟩) n C),(some 10,.int .i64 i),(some 11,.pointer (some ⟨g,0,none⟩)),(some 12,.pointer (some ⟨g,0,none⟩)),(some 13,.pointer (some ⟨g,0,none⟩)),(some 14,.slice (some ⟨G,0,none⟩) n C),(some 15,.int .i64 i),(some 16,.pointer (some ⟨G,i,none⟩)),(some 17,.slice (some ⟨p.b,0,none⟩) m p.c),(some 18,.int .i64 q),(some 19,.int .i64 q),(some 20,.int .i64 ((q:Int)+1)),(some 21,.slice (some ⟨p.b,0,none⟩) (m - 1) p.c),(some 22,.pointer (some ⟨G,i,none⟩))]) (fun _ w'=>∃ t,w'=t.setCell ⟨G,i,none⟩ (.slice (some ⟨p.b,0,none⟩) (m - 1) p.c)/\Rw t 211 2 p.b (m - 1) p.c ((flat p.es).take (q * 2) ++ (flat p.es).drop ((q+1) * 2))/\Chg (·=p.b) w.drew t) (fun w'=>w'.cell? ⟨g,0,none⟩=some (.slice (some ⟨G,0,none⟩) n C)) (by kernel_rfl) cgd ?_ ?_
 ·have hS:=cgd;refine ax 0 6 (.pointer (some ⟨g,0,none⟩)) (by kernel_rfl) (fun _ _=>by kernel_rfl) i3 hS ?_
  refine ax 1 7 (.pointer (some ⟨g,0,none⟩)) (by kernel_rfl) (fun _ _=>by kernel_rfl) i3 hS ?_
  refine ax 2 8 (.pointer (some ⟨g,0,none⟩)) (by kernel_rfl) (fun _ _=>by kernel_rfl) i3 hS ?_
  refine aN 3 (some 9) (.slice (some ⟨G,0,none⟩) n C) 149 8 (g) (0) (by kernel_rfl) (by kernel_rfl) (by kernel_rfl) (fun w' h=>fG h) i3 hS ?_
  refine ax 4 10 (.int .i64 i) (by kernel_rfl) (fun _ _=>by kernel_rfl) i3 hS ?_
  refine ax 5 11 (.pointer (some ⟨g,0,none⟩)) (by kernel_rfl) (fun _ _=>by kernel_rfl) i3 hS ?_
  refine ax 6 12 (.pointer (some ⟨g,0,none⟩)) (by kernel_rfl) (fun _ _=>by kernel_rfl) i3 hS ?_
  refine ax 7 13 (.pointer (some ⟨g,0,none⟩)) (by kernel_rfl) (fun _ _=>by kernel_rfl) i3 hS ?_
  refine aN 8 (some 14) (.slice (some ⟨G,0,none⟩) n C) 149 13 (g) (0) (by kernel_rfl) (by kernel_rfl) (by kernel_rfl) (fun w' h=>fG h) i3 hS ?_
  refine ax 9 15 (.int .i64 i) (by kernel_rfl) (fun _ _=>by kernel_rfl) i3 hS ?_
  refine ax 10 16 (.pointer (some ⟨G,i,none⟩)) (by kernel_rfl) (fun _ _=>cS (x:=14) (y:=15) (n:=n) (c:=C) (by kernel_rfl) hpp (by kernel_rfl) (by kernel_rfl) (rfl) (hin)) i3 hS ?_
  refine ax 12 18 (.int .i64 q) (by kernel_rfl) (fun _ _=>by kernel_rfl) i3 hS ?_
  refine ax 13 19 (.int .i64 q) (by kernel_rfl) (fun _ _=>by kernel_rfl) i3 hS ?_
  refine iD 14 (some 20) (.int .i64 (IntKind.i64.wrap ((q:Int)+1))) (.int .i64 ((q:Int)+1)) (by rw[w1]) (by kernel_rfl) (fun _ _=>by kernel_rfl) i3 hS ?_
  refine aB [11] (by kernel_rfl) (by simp) ?_
  refine aO 11 (some 17) (.slice (some ⟨p.b,0,none⟩) m p.c) _ (by kernel_rfl) (dQ 16 (by kernel_rfl) (by kernel_rfl) (pz cGd)) hS ?_ aL;refine bQ 15 (some 21) 233 #[.slice (some ⟨p.b,0,none⟩) m p.c,.int .i64 q,.int .i64 ((q:Int)+1)] (by kernel_rfl) (by kernel_rfl) t1 ?_
  rintro e' t ⟨rfl,R2,C2⟩
  have S:t.cell? ⟨g,0,none⟩=_:=(World.cell?_of_block (a:=⟨g,0,none⟩) (C2.same g (aH cgd) ng)).trans cgd
  have cG2:t.cell? ⟨G,i,none⟩=_:=(World.cell?_of_block (a:=⟨G,i,none⟩) (C2.same _ (aH cGd) nG)).trans cGd
  have fG2:t.frozen? ⟨G,i,none⟩=false:=(hR.drew.chg C2 nG).free i;refine⟨_,rfl,S,?_⟩;replace hS:=S;refine ax 16 22 (.pointer (some ⟨G,i,none⟩)) (by kernel_rfl) (fun _ _=>cS (x:=9) (y:=10) (n:=n) (c:=C) (by kernel_rfl) hpp (by kernel_rfl) (by kernel_rfl) (rfl) (hin)) i3 hS ?_
  refine aB [17] (by kernel_rfl) (by simp) ?_
  refine cB 17 (t.setCell ⟨G,i,none⟩ (.slice (some ⟨p.b,0,none⟩) (m - 1) p.c)) (by kernel_rfl) (kA 22 21 (by kernel_rfl) (by kernel_rfl) (by kernel_rfl) cG2 fG2) (bU E S) ?_ aL;refine bh (by kernel_rfl) ?_
  exact⟨(),by kernel_rfl,t,rfl,R2,C2⟩
 rintro - w' ⟨t,rfl,R2,C2⟩;simp only[gQ,Act.put,List.setIfInBounds_toArray,List.set_cons_zero,List.set_cons_succ]
 have N:Chg (·=p.b) w t:=(Chg.of (F:=(·=p.b)) (cy w)).trans C2 (fun _ _ h=>h);obtain⟨p',ab⟩:∃ p':Pg,Hid (p'=⟨p.b,p.c,p.es.take q ++ p.es.drop (q+1)⟩):=⟨_,rfl⟩
 have hlen:(p.es.take q ++ p.es.drop (q+1)).length=m - 1:=by have:=T.out;simp;omega
 have hA':PgA t D p':=by
  rw[ab.out];refine⟨?_,fun e he=>?_⟩
  ·show Rw t _ 2 p.b (p.es.take q ++ p.es.drop (q+1)).length p.c _
   rw[hlen];exact R2.to (Dv p.es q)
  ·have he':e∈p.es:=by
    rcases List.mem_append.1 he with h | h
    ·exact List.mem_of_mem_take h
    ·exact List.mem_of_mem_drop h
   refine(V.1.bX e he').off fun b hb hk=>N.same b hb fun f=>?_
   subst f;obtain⟨cs,k⟩:=hk;obtain⟨ds,k'⟩:=V.1.row.kind;exact ee k k' (by decide) rfl
 have hv':p'.v=.slice (some ⟨p.b,0,none⟩) (m - 1) p.c:=by rw[ab.out];simp only[Pg.v];rw[hlen]
 have hb':p'.b=p.b:=by rw[ab.out]
 have he':p'.es=p.es.take q ++ p.es.drop (q+1):=by rw[ab.out]
 obtain⟨z,Y⟩:=A.put (p':=p') (D':=D) hg hFg hFG hR hi N (.inl hb') hA' (fun _ _ h=>h);rw[hv',hb'] at z;rw[hv'] at Y
 have hF3:∀ b,((F b/\b≠p.b)\/b=p.b)->F b:=fun b h=>h.elim (fun h=>h.1) (fun h=>by rw[h];exact V.2)
 have S:t.cell? ⟨g,0,none⟩=_:=(World.cell?_of_block (a:=⟨g,0,none⟩) (N.same g (aH cg) ng)).trans cg
 have cG2:t.cell? ⟨G,i,none⟩=_:=(World.cell?_of_block (a:=⟨G,i,none⟩) (N.same _ (aH cG) nG)).trans cG
 have cg3:(t.setCell ⟨G,i,none⟩ (.slice (some ⟨p.b,0,none⟩) (m - 1) p.c)).cell? ⟨g,0,none⟩=some (.slice (some ⟨G,0,none⟩) n C):=bU E S
 have ac:(t.setCell ⟨G,i,none⟩ (.slice (some ⟨p.b,0,none⟩) (m - 1) p.c)).cell? ⟨G,i,none⟩=some (.slice (some ⟨p.b,0,none⟩) (m - 1) p.c):=World.cell?_setCell_same' _ _ _ (by rw[cG2];rfl);have Q:=(hg.chg N ng).off E (i:=i) (.slice (some ⟨p.b,0,none⟩) (m - 1) p.c);generalize (t.setCell ⟨G,i,none⟩ (.slice (some ⟨p.b,0,none⟩) (m - 1) p.c))=W3 at *;generalize hF3d:(fun x=>(F x/\x≠p.b)\/x=p.b)=F3 at z
 have d:∀ b,F3 b->F b:=fun b h=>hF3 b (by rw[<- hF3d] at h;exact h)
 have hi3:(L.set i p')[i]?=some p':=by rw[List.getElem?_set_self hil]
 have hE3:ens (L.set i p')=(ens L).set i (p.es.take q ++ p.es.drop (q+1)):=by rw[pF,he']
 have aa:∀ es∈ens (L.set i p'),es.length<=32:=fun es he=>by
  rw[hE3] at he;rcases List.mem_or_eq_of_mem_set he with h | h
  ·exact hs es h
  ·rw[h,hlen];have:=T.out;omega
 have B:(L.set i p').length=n:=by rw[List.length_set];exact u.out
 have J:p.es.take q ++ p.es.drop (q+1)=[]\/p.es.take q ++ p.es.drop (q+1)≠[]:=Classical.em _
 have l:Hid (rmQ (ens L) i q=if p.es.take q ++ p.es.drop (q+1)=[] then (ens L).take i ++ (ens L).drop (i+1) else if jnb (ens (L.set i p')) i then jnQ (ens (L.set i p')) i else if 1<=i/\jnb (ens (L.set i p')) (i - 1) then jnQ (ens (L.set i p')) (i - 1) else ens (L.set i p')):=by
  show _=_
  unfold rmQ;rw[eC hi,hE3]
 rcases J with J | J
 ·have hm1:m=1:=by rw[J] at hlen; simp at hlen; have:=T.out; omega
  obtain⟨G2,D3,hg3,hFg3,hFG3,hR3⟩:=z.opn (by simp[hL]);obtain⟨rfl,rfl⟩:G2=G/\D3=C:=by
   have:=(hg3.eq Q).1;simp at this;exact⟨this.1,this.2⟩
  have hR3':=hR3;rw[B] at hR3';have t4:=delP (i:=i) hR3' (by omega) (sR _)
  have w3:IntKind.i64.wrap ((i:Int)+1)=(i:Int)+1:=by rw[IntKind.wrap_i64];have:=u.out;omega
  have cG3':W3.cell? ⟨G2,i,none⟩=some (.slice (some ⟨p.b,0,none⟩) 0 p.c):=by rw[hm1] at ac;exact ac
  have z1:(i:Int) < n:=by omega
  have O:((L.set i p').take i ++ (L.set i p').drop (i+1)).Sublist (L.set i p'):=by
   have h:=List.Sublist.append (List.Sublist.refl ((L.set i p').take i)) (List.drop_sublist 1 ((L.set i p').drop i));rw[List.drop_drop,List.take_append_drop] at h;exact h
  have o:Hid (ens ((L.set i p').take i ++ (L.set i p').drop (i+1))=rmQ (ens L) i q):=by
   show _=_
   rw[l.out,if_pos J,List.take_set_of_le (Nat.le_refl _),List.drop_set_of_lt (by omega)];simp[ens,List.map_take,List.map_drop]
  have HX:Hid _:=J;clear J l ac hm1;go_wp2_with (go_at_call 234;refine t4.mono ?_;rintro e' Z ⟨rfl,R5,C5⟩;have cg5:Z.cell? ⟨g,0,none⟩=_:=(World.cell?_of_block (a:=⟨g,0,none⟩) (C5.same g (aH cg3) E)).trans cg3;have fg5:Z.frozen? ⟨g,0,none⟩=false:=(Q.chg C5 E).free 0);go_end0;obtain⟨A6,C6⟩:=kF (w:=W3) (w1:=Z) (F:=F3) (D:=D) (g:=g) (G:=G2) (G':=G2) (C':=D3) (n:=n - 1) (L':=(L.set i p').take i ++ (L.set i p').drop (i+1))
   (fun p V=>z.cp p (O.mem V)) (z.apart.sublist (O.map _)) z.kind Q hFg3 hFG3 (fun e=>E e.symm) C5 (fun p V=>(z.cp p (O.mem V)).1.eN hR3)
   (by simp;have:=u.out;omega) (by simpa[List.map_take,List.map_drop] using R5)
  refine⟨_,_,rfl,o.out,A6,fun b hb=>?_,Y.trans C6 fun b _ h=>d b h⟩;rcases hb with⟨h,_⟩ | rfl
  ·exact .inl (d b h)
  ·exact .inl (d _ hFG3)
 ·have hm1:0 < m - 1:=by
   rw[<- hlen];exact List.length_pos_iff.2 J
  obtain⟨m1,hm2⟩:∃ m1,Hid (m - 1=m1):=⟨_,rfl⟩
  rw[hm2.out] at ac hm1
  have z0:¬ ((m1:Int)=0):=by omega
  have z1:(i:Int) < n:=by omega
  have w3:IntKind.i64.wrap ((i:Int) - 1)=(i:Int) - 1:=by rw[IntKind.wrap_i64];omega
  have K:=l.out;rw[if_neg J] at K
  have l:Hid _:=K;clear K
  have HX:Hid _:=J;clear J
  have hf3:∀ es∈ens (L.set i p'),es≠[]:=fun es he=>by
   rw[hE3] at he;rcases List.mem_or_eq_of_mem_set he with h | h
   ·exact hf es h
   ·rw[h];exact HX.out
  have H:∀ (W:World) (j:Nat),bO W F3 D g (L.set i p')->jnb (ens (L.set i p')) j=true->Calls Tryz.prog 236 #[.pointer (some ⟨g,0,none⟩),.int .i64 j] W fun e' w'=>∃ F' L',e'=.returned (.tuple #[])/\ens L'=jnQ (ens (L.set i p')) j/\bO w' F' D g L'/\(∀ b,F' b->F3 b\/W.heap.size<=b)/\Chg F3 W w':=fun W j AW hj=>by
   unfold jnb at hj;simp only[Bool.and_eq_true,decide_eq_true_eq] at hj
   have hl:j+1 < (L.set i p').length:=by have:=hj.1;simpa[ens] using this
   obtain⟨a,ha⟩:∃ a,(L.set i p')[j]?=some a:=⟨_,List.getElem?_eq_getElem (by omega)⟩
   obtain⟨c,hc⟩:∃ c,(L.set i p')[j+1]?=some c:=⟨_,List.getElem?_eq_getElem hl⟩
   have ma:a.es∈ens (L.set i p'):=List.mem_map.2 ⟨a,List.mem_of_getElem? ha,rfl⟩
   have mc:c.es∈ens (L.set i p'):=List.mem_map.2 ⟨c,List.mem_of_getElem? hc,rfl⟩;have s1:=aa _ ma;have s2:=aa _ mc;exact zn AW ha hc (by rw[B];have:=u.out;omega) (List.length_pos_iff.2 (hf3 _ ma)) (by omega) (by omega)
  have R:=Ay z (i:=i) (by omega) (by rw[B];have:=u.out;omega) (fun es he=>by have:=aa es he;omega);by_cases U:jnb (ens (L.set i p')) i=true
  ·have o:Hid (rmQ (ens L) i q=jnQ (ens (L.set i p')) i):=by show _=_; rw[l.out,if_pos U]
   have t5:∀ W,Below W3.heap.size W3 W->_:=fun W s=>H W i (z.keep s) U
   rw[U] at R;clear H U l
   go_wp2_with (first
    | (go_at_call 235;refine R.mono ?_;rintro e' Z ⟨rfl,r⟩;have t6:=t5 Z r;clear t5 R)
    | (go_at_call 236;refine t6.mono ?_;rintro e' w6 ⟨F6,L6,rfl,hE6,A6,hF6,C6⟩))
   go_end0;refine⟨F6,L6,rfl,hE6.trans o.out.symm,A6,fun b hb=>?_,(Y.trans (Chg.of (F:=F) r) (fun _ _ h=>h)).trans C6 fun b _ h=>d b h⟩;rcases hF6 b hb with h | h
   ·exact .inl (d b h)
   ·exact .inr (by have:=Y.size;have:=r.size;omega)
  ·have P:jnb (ens (L.set i p')) i=false:=by simpa using U
   by_cases hi0:i=0
   ·have o:Hid (rmQ (ens L) i q=ens (L.set i p')):=by show _=_; rw[l.out,if_neg U,if_neg (by omega)]
    rw[P] at R
    have tn:∀ W:World,Calls Tryz.prog 235 #[.pointer (some ⟨g,0,none⟩),.int .i64 (-1)] W _:=fun W=>jn_neg
    have mk:True:=trivial;clear H U l P;subst hi0
    go_wp2_with (first
     | (go_at_call 235;clear mk;refine R.mono ?_;rintro e' Z ⟨rfl,r⟩;clear R)
     | (go_at_call 235;refine(tn _).mono ?_;rintro e' w6 ⟨rfl,M⟩))
    go_end0;have s:=ai r M
    first
     | exact⟨F3,_,rfl,o.out.symm,z.keep s,fun b hb=>.inl (d b hb),Y.trans (Chg.of (F:=F) s) (fun _ _ h=>h)⟩
     | exact⟨rfl,F3,_,o.out.symm,z.keep s,fun b hb=>.inl (d b hb),Y.trans (Chg.of (F:=F) s) (fun _ _ h=>h)⟩
   ·obtain⟨j,rfl⟩:∃ j,i=j+1:=⟨i - 1,by omega⟩
    have tk:∀ W,Below W3.heap.size W3 W->Calls Tryz.prog 235 #[.pointer (some ⟨g,0,none⟩),.int .i64 j] W _:=fun W s=>Ay (z.keep s) (i:=j) (by omega) (by rw[B];have:=u.out;omega) (fun es he=>by have:=aa es he;omega)
    have e1:((j+1:Nat):Int) - 1=(j:Int):=by omega
    have e2:(j:Int)+1 - 1=(j:Int):=by omega
    rw[P] at R
    have mk:True:=trivial
    have mk2:True:=trivial;by_cases h3:jnb (ens (L.set (j+1) p')) j=true
    ·have o:Hid (rmQ (ens L) (j + 1) q=jnQ (ens (L.set (j + 1) p')) j):=by show _=_; rw[l.out,if_neg U,if_pos ⟨by omega,by simpa using h3⟩]; rfl
     have t5:∀ W,Below W3.heap.size W3 W->_:=fun W s=>H W j (z.keep s) h3
     rw[h3] at tk;clear H U l P h3
     go_wp2_with (first
      | (go_at_call 235;clear mk;refine R.mono ?_;rintro e' Z ⟨rfl,r⟩;have I:=tk Z r;clear R tk)
      | (go_at_call 235;refine I.mono ?_;rintro e' w6 ⟨rfl,M⟩;have s:=ai r M;have t6:=t5 w6 s;clear t5 I)
      | (go_at_call 236;refine t6.mono ?_;rintro e' w7 ⟨F6,L6,rfl,hE6,A6,hF6,C6⟩))
     go_end0;refine⟨F6,L6,rfl,hE6.trans o.out.symm,A6,fun b hb=>?_,(Y.trans (Chg.of (F:=F) s) (fun _ _ h=>h)).trans C6 fun b _ h=>d b h⟩;rcases hF6 b hb with h | h
     ·exact .inl (d b h)
     ·exact .inr (by have:=Y.size;have:=s.size;omega)
    ·have h3':jnb (ens (L.set (j + 1) p')) j=false:=by simpa using h3
     have o:Hid (rmQ (ens L) (j+1) q=ens (L.set (j+1) p')):=by show _=_;rw[l.out,if_neg U,if_neg (fun h=>h3 (by simpa using h.2))]
     rw[h3'] at tk;clear H U l P h3 h3'
     go_wp2_with (first
      | (go_at_call 235;clear mk;refine R.mono ?_;rintro e' Z ⟨rfl,r⟩;have I:=tk Z r;clear R tk)
      | (go_at_call 235;refine I.mono ?_;rintro e' w6 ⟨rfl,M⟩;have s:=ai r M;clear I))
     go_end0
     first
      | exact⟨F3,_,rfl,o.out.symm,z.keep s,fun b hb=>.inl (d b hb),Y.trans (Chg.of (F:=F) s) (fun _ _ h=>h)⟩
      | exact⟨rfl,F3,_,o.out.symm,z.keep s,fun b hb=>.inl (d b hb),Y.trans (Chg.of (F:=F) s) (fun _ _ h=>h)⟩
theorem ue {w:World} {F D:Nat->Prop} {g:Nat} {L:List Pg} {kv:Value} {k:List Int} (A:bO w F D g L) (O:Ord (ens L)) (m:∀ es∈ens L,es.length<=32) (hn:L.length<=100000000) (h:By w kv k) :
  Calls Tryz.prog 155 #[.pointer (some ⟨g,0,none⟩),kv] w fun e w'=>e=.returned (.bool (has (ens L) k))/\∃ F' L',ens L'=gK (ens L) k/\bO w' F' D g L'/\(∀ b,F' b->F b\/w.heap.size<=b)/\Chg F w w':=by
 by_cases r:L=[]
 ·subst r;have t:=nN (v:=kv) A
  have e1:has (ens []) k=false:=rfl
  have e2:Hid (gK (ens []) k=ens []):=rfl;rw[e1];have o:=(show Hid _ from A)
  clear A O m h;go_enter Tryz.func155,Tryz.ntmps155;go_wp2_with (go_at_call 130;refine t.mono ?_;rintro z x ⟨rfl,rfl⟩);go_ret;exact⟨rfl,F,[],e2.out.symm,o.out,fun b hb=>.inl hb,Chg.refl _ _⟩
 ·obtain⟨p,B,j⟩:=pH r k;have s:=List.mem_of_getElem? B;have I:=m p.es (List.mem_map.2 ⟨p,s,rfl⟩);have t:=lL A O h (by omega) B (by omega)
  have l:has (ens L) k=thr (kys p.es) k:=by
   unfold has;rw[j];have:(ens L).isEmpty=false:=by simp[ens,r]
   simp[this]
  rw[l];by_cases f:thr (kys p.es) k=true
  ·obtain⟨e,he,E⟩:=lK f;have u:=(List.getElem?_eq_some_iff.1 he).1
   have n:Hid (gK (ens L) k=rmQ (ens L) (pgi (ens L) k) (plc (kys p.es) k)):=by
    show _=_
    unfold gK;rw[l,f,if_pos rfl,j]
   have C:∀ w',Below w.heap.size w w'->_:=fun w' c=>uM (A.keep c) B u m O.full hn
   rw[f] at t ⊢;generalize pgi (ens L) k=i at *;generalize plc (kys p.es) k=q at *;clear A O m h f l;go_enter Tryz.func155,Tryz.ntmps155
   go_wp2_with (first
    | (go_at_call 130;refine t.mono ?_;rintro z x ⟨rfl,c⟩;have y:=C x c;clear t C)
    | (go_at_call 208;refine y.mono ?_;rintro z J ⟨F',L',rfl,H,hA,hF,G⟩))
   go_ret;exact⟨rfl,F',L',H.trans n.out.symm,hA,fun b hb=>(hF b hb).imp id (fun h=>Nat.le_trans c.size h),(Chg.of (F:=F) c).trans G (fun _ _ h=>h)⟩
  ·have d:thr (kys p.es) k=false:=by simpa using f
   have n:Hid (gK (ens L) k=ens L):=by
    show _=_
    unfold gK;rw[l,d,if_neg (by decide)]
   rw[d] at t ⊢;generalize pgi (ens L) k=i at *;generalize plc (kys p.es) k=q at *;have o:=(show Hid _ from A)
   clear A O m h f d l;go_enter Tryz.func155,Tryz.ntmps155;go_wp2_with (go_at_call 130;refine t.mono ?_;rintro z x ⟨rfl,c⟩);go_ret;exact⟨rfl,F,L,n.out.symm,o.out.keep c,fun b hb=>.inl hb,Chg.of c⟩
theorem CI {w:World}:Calls Tryz.prog 31 #[] w fun e w'=>∃ g,e=.returned (.pointer (some ⟨g,0,none⟩))/\g=w.heap.size/\bO w' (· = g) (fun _=>False) g []/\Below w.heap.size w w':=by
 go_enter Tryz.func31,Tryz.ntmps31;go_wp2;go_ret;refine⟨_,rfl,rfl,⟨⟨_,aj w [.slice none 0 0] 151,rfl,.inl ⟨rfl,rfl⟩⟩,fun p c=>by simp at c,by simp,fun b hb=>?_⟩,af w _⟩;subst hb;exact⟨_,_,aj w [.slice none 0 0] 151,by decide⟩
section
variable {B l B' g n:Nat}{W W' w:World}{cs:List Value}{fn:FuncId}{tmps args lb:Array Value}{ps:Array Tmp}{assign body:Code}{I:Nat->World->Prop}{Ix:Code->Nat->World->Prop}{Ar:Nat->Array Value->Nat->World->Prop}{Rd:World->Prop}
structure Rec(B:Nat)(W W':World):Prop where
 os:W'.os=W.os
 tape:W'.tape=W.tape
 output:W'.output=W.output
 size:W.heap.size<=W'.heap.size
 same:∀ (k:Nat) (o:Obj),W.heap[k]?=some o->(k < B\/o.isCells=true)->W'.heap[k]?=some o
def St(B:Nat)(I:World->Prop):Prop:=∀ W W',I W->Rec B W W'->I W'
theorem Rec.of(h:Below W.heap.size W W'):Rec B W W':=⟨h.os,h.tape,h.output,h.size,fun k _ hk _=>(h.block k (lt_of_block hk)).trans hk⟩
theorem Rec.put{o:Obj}(h:W.heap[l]?=some o)(c:o.isCells=false)(f:B<=l)(d:Obj):Rec B W (W.putObj l d) :=
 ⟨rfl,rfl,rfl,by simp,fun k x b hx=>by
  have a:k≠l:=fun e=>by
   subst e;rw[h] at b
   cases b;rcases hx with hx | hx
   ·omega
   ·rw[c] at hx;cases hx
  exact(World.putObj_heap_other a).trans b⟩
theorem Rec.mono(h:Rec B W W')(hB:B'<=B):Rec B' W W':=⟨h.os,h.tape,h.output,h.size,fun k o hk ho=>h.same k o hk (ho.imp (fun h=>by omega) id)⟩
theorem Rec.blk(h:Rec B W W'){t:TypeId}(hb:Blk W g cs t):Blk W' g cs t:=⟨h.same g _ hb.blk (.inr rfl)⟩
theorem wX(hb:Below W.heap.size W W')(b:l < W.heap.size)(o:Obj):Below (W.putObj l o).heap.size (W.putObj l o) (W'.putObj l o):=by
 refine⟨hb.os,hb.tape,hb.output,by simpa using hb.size,fun k a=>?_⟩;simp at a;by_cases e:k=l
 ·subst e;have:=hb.size;rw[World.putObj_heap_same (by omega),World.putObj_heap_same b]
 ·rw[World.putObj_heap_other e,World.putObj_heap_other e];exact hb.block k a
structure Cel(W W':World):Prop where
 size:W.heap.size<=W'.heap.size
 same:∀ (k:Nat) (o:Obj),W.heap[k]?=some o->o.isCells=true->W'.heap[k]?=some o
theorem Rec.cel(h:Rec B W W'):Cel W W':=⟨h.size,fun k o hk ho=>h.same k o hk (.inr ho)⟩
def Safe(Tp:TypeId->Prop)(o:Obj):Prop:=∀ cs t fz,o=.cells cs t fz->¬ Tp t
theorem xg{Tp:TypeId->Prop}{r:Loop}:Safe Tp (.loop r):=fun _ _ _ e=>by cases e
theorem my{Tp:TypeId->Prop}{d:Option (List Deferred)}:Safe Tp (.deferred d):=fun _ _ _ e=>by cases e
structure bH(Tp:TypeId->Prop)(B:Nat)(W W':World):Prop where
 size:W.heap.size<=W'.heap.size
 same:∀ (k:Nat) (o:Obj),B<=k->W.heap[k]?=some o->Safe Tp o->W'.heap[k]?=some o
theorem bH.of{Tp:TypeId->Prop}(h:Below W.heap.size W W'):bH Tp B W W':=⟨h.size,fun k _ _ hk _=>(h.block k (lt_of_block hk)).trans hk⟩
theorem bH.trans{Tp:TypeId->Prop}{W'':World}(h:bH Tp B W W')(h':bH Tp B W' W''):bH Tp B W W'':=⟨Nat.le_trans h.size h'.size,fun k o hB hk ho=>h'.same k o hB (h.same k o hB hk ho) ho⟩
theorem bH.mono{Tp:TypeId->Prop}(h:bH Tp B W W')(hB:B<=B'):bH Tp B' W W':=⟨h.size,fun k o hk h0 ho=>h.same k o (Nat.le_trans hB hk) h0 ho⟩
theorem bH.blk{Tp:TypeId->Prop}(h:bH Tp B W W'){t:TypeId}(hb:Blk W g cs t)(hg:B<=g)(ht:¬ Tp t):Blk W' g cs t:=⟨h.same g _ hg hb.blk (fun _ _ _ e=>by cases e;exact ht)⟩
def Itr(Tp:TypeId->Prop)(gf:Nat)(lb:Array Value)(N:Nat)(Ar:Nat->Array Value->Nat->World->Prop)(Rd:World->Prop):Prop :=
 ∀ (l:Nat) (J Jx:Nat->World->Prop) (W:World),(∀ i,St W.heap.size (J i))->(∀ i,St W.heap.size (Jx i))->(∀ i V,J i V->Rd V) ->
  (∀ i args V V',i < N->J i V->W.heap.size<=V.heap.size->Below V.heap.size V V'->Ar i args V.heap.size V'->YieldAt Fence.wide 0 Tryz.prog l args V' fun e V''=>bH Tp W.heap.size V' V''/\((e=.returned (.bool true)/\J (i+1) V'')\/(e=.returned (.bool false)/\Jx (i+1) V''))) ->
  J 0 W ->
  Calls Tryz.prog gf (#[.func (.yield l) #[] #[]] ++ lb) W fun e W'=>(∃ v,e=.returned v)/\W.heap.size<=W'.heap.size/\(J N W'\/∃ i,i < N/\Jx (i+1) W')
def oX(Tp:TypeId->Prop)(B:Nat)(I:Nat->World->Prop)(Ix:Code->Nat->World->Prop)(i:Nat)(W:World):Exit->Act->World->Prop
 | .normal,_,W'=>bH Tp B W W'/\I i W'
 | .ret,_,W'=>bH Tp B W W'/\Ix .ret i W'
 | .exit id,_,W'=>bH Tp B W W'/\Ix (.exit id) i W'
 | .goto t,_,W'=>bH Tp B W W'/\Ix (.goto t) i W'
 | .panic _,_,_=>False
 | .outgrown,_,_=>False
def cY(fn:FuncId)(tmps:Array Value)(ps:Array Tmp)(assign body:Code)(dd:Nat)(st:LoopState)(pe:Option Code):Loop:={ state:=st,pending:=pe,fn,tmps,params:=ps,assign,body,defers:=dd }
structure fH(Tp:TypeId->Prop)(B l:Nat)(W W':World):Prop where
 size:W.heap.size<=W'.heap.size
 same:∀ (k:Nat) (o:Obj),B<=k->k≠l->W.heap[k]?=some o->Safe Tp o->W'.heap[k]?=some o
theorem fH.from{Tp:TypeId->Prop}{B1:Nat}(h:fH Tp B l W W')(hB:B<=B1)(hl:l < B1):bH Tp B1 W W':=⟨h.size,fun k o hk h0 ho=>h.same k o (by omega) (by omega) h0 ho⟩
theorem iV{Tp:TypeId->Prop}{i:Nat}{g:Nat}{V:World}(C:∀ i args n V W,Ar i args n V->Cel V W->Ar i args n W)(X:∀ i,St B (I i))(D:∀ c i,St B (Ix c i))(s:B<=l)(S:V.heap[l]?=some (.loop (cY fn tmps ps assign body g .ready none)))(hi:I i V)(hb:Below V.heap.size V W)(Z:Ar i args V.heap.size W)(Q:args.size=ps.size)(z:assign.wpIn (Fence.wide.inRound l) n Tryz.prog (Exit.then (fun a1 W1=>Below W.heap.size W W1/\∀ V2 W2,I i V2->Below V2.heap.size V2 W2->Ar i args V2.heap.size W2->(∀ b,b≠l->W2.heap[b]?=W1.heap[b]?)->W2.heap.size=W1.heap.size->V2.heap.size=V.heap.size->(∃ r,W2.heap[l]?=some (.loop r))->body.wpIn (Fence.wide.inRound l) n Tryz.prog (oX Tp B I Ix (i+1) W2) a1 W2) (fun _ _ _=>False)) { tmps:=(ps.zip args).foldl (fun t (p,v)=>t.setIfInBounds p v) tmps,defers:=[] } W) :
  YieldAt Fence.wide 0 Tryz.prog l args W fun e W'=>fH Tp B l W W'/\((e=.returned (.bool true)/\I (i+1) W'/\W'.heap[l]?=some (.loop (cY fn tmps ps assign body g .ready none)))\/(e=.returned (.bool false)/\∃ c,Ix c (i+1) W'/\W'.heap[l]?=some (.loop (cY fn tmps ps assign body g .done (some c))))):=by
 have M:l < V.heap.size:=lt_of_block S
 have J:W.heap[l]?=some (.loop (cY fn tmps ps assign body g .ready none)):=(hb.block l M).trans S;have hy:=run_yield (P:=Tryz.prog) (args:=args) J Q
 have x:assign.wpIn (Fence.wide.inRound l) n Tryz.prog (Exit.then (fun a₁ Y=>∃ w₂,(Instr.beginRound l).run Tryz.prog Y=.ok () w₂/\body.wpIn (Fence.wide.inRound l) n Tryz.prog (roundPost Tryz.prog l fun e W'=>fH Tp B l W W'/\((e=.returned (.bool true)/\I (i+1) W'/\W'.heap[l]?=some (.loop (cY fn tmps ps assign body g .ready none)))\/(e=.returned (.bool false)/\∃ c,Ix c (i+1) W'/\W'.heap[l]?=some (.loop (cY fn tmps ps assign body g .done (some c)))))) a₁ w₂) (fun _ _ _=>False)) { tmps:=(ps.zip args).foldl (fun t (p,v)=>t.setIfInBounds p v) tmps,defers:=[] } W:=by
  refine wpIn_mono z ?_
  intro e a1 W1 h
  cases e with
  | normal =>
   obtain⟨w,E⟩:=h
   have G:W1.heap[l]?=some (.loop (cY fn tmps ps assign body g .ready none)):=(w.block l (lt_of_block J)).trans J
   have A:l < W1.heap.size:=lt_of_block G;refine⟨_,run_beginRound G rfl,?_⟩
   have T:Below V.heap.size V W1:=ai hb w;have h1:=E (V.putObj l (.loop { cY fn tmps ps assign body g .ready none with state:=.busy })) (W1.putObj l (.loop { cY fn tmps ps assign body g .ready none with state:=.busy }))
    (X i _ _ hi (Rec.put S rfl s _)) (wX T M _) (by simpa using C i args _ _ _ (C i args _ _ _ Z (Rec.of (B:=0) w).cel) (Rec.put G rfl (Nat.zero_le _) _).cel)
    (fun b hb=>World.putObj_heap_other hb) (by simp) (by simp) ⟨_,World.putObj_heap_same A⟩
   have R:(W1.putObj l (.loop { cY fn tmps ps assign body g .ready none with state:=.busy })).heap[l]?=some (.loop { cY fn tmps ps assign body g .ready none with state:=.busy }):=World.putObj_heap_same A;generalize hW2:W1.putObj l (.loop { cY fn tmps ps assign body g .ready none with state:=.busy })=W2 at *
   have L:fH Tp B l W W2:=by
    rw[<- hW2];refine⟨by simpa using w.size,fun k _ O y N _=>?_⟩;rw[World.putObj_heap_other y];exact(w.block k (lt_of_block N)).trans N
   have fin:∀ (jump:Option Code) (u:World),bH Tp B W2 u ->
     (Instr.endRound l jump).run Tryz.prog u=.ok (.bool jump.isNone) (u.putObj l (.loop (cY fn tmps ps assign body g (if jump.isNone then .ready else .done) jump)))/\u.heap[l]?=some (.loop { cY fn tmps ps assign body g .ready none with state:=.busy }) /\
     (u.putObj l (.loop (cY fn tmps ps assign body g (if jump.isNone then .ready else .done) jump))).heap[l]?=some (.loop (cY fn tmps ps assign body g (if jump.isNone then .ready else .done) jump)) /\
     fH Tp B l W (u.putObj l (.loop (cY fn tmps ps assign body g (if jump.isNone then .ready else .done) jump))):=fun jump u d=>by
    have a:=d.same _ _ s R xg;refine⟨run_endRound (P:=Tryz.prog) jump a,a,World.putObj_heap_same (lt_of_block a),⟨by simpa using Nat.le_trans L.size d.size,fun k o O y N U=>?_⟩⟩;rw[World.putObj_heap_other y];exact d.same k o O (L.same k o O y N U) U
   refine wpIn_mono h1 ?_
   intro e a3 u K
   cases e with
   | normal =>
    obtain⟨d,q⟩:=K;obtain⟨H,a,j,m⟩:=fin none u d;exact⟨_,_,H,m,.inl ⟨rfl,X _ _ _ q (Rec.put a rfl s _),j⟩⟩
   | ret =>
    obtain⟨d,q⟩:=K;obtain⟨H,a,j,m⟩:=fin (some .ret) u d;exact⟨_,_,H,m,.inr ⟨rfl,.ret,D _ _ _ _ q (Rec.put a rfl s _),j⟩⟩
   | exit id =>
    obtain⟨d,q⟩:=K;obtain⟨H,a,j,m⟩:=fin (some (.exit id)) u d;exact⟨_,_,H,m,.inr ⟨rfl,.exit id,D _ _ _ _ q (Rec.put a rfl s _),j⟩⟩
   | goto t =>
    obtain⟨d,q⟩:=K;obtain⟨H,a,j,m⟩:=fin (some (.goto t)) u d;exact⟨_,_,H,m,.inr ⟨rfl,.goto t,D _ _ _ _ q (Rec.put a rfl s _),j⟩⟩
   | panic ch=>exact K.elim
   | outgrown=>exact K.elim
  | ret=>exact h.elim
  | exit id=>exact h.elim
  | goto t=>exact h.elim
  | panic ch=>exact h.elim
  | outgrown=>exact h.elim
 exact⟨fn,_,assign,body,hy,by
  have:=roundIn_of_wpIn (F:=Fence.wide) (n:=n) (P:=Tryz.prog) (f:=fn) trivial x
  exact⟨this.1,fun c cs _=>this.2 c cs (fun _ h=>by cases h)⟩⟩
def RoundW(Tp:TypeId->Prop)(w:World)(N n:Nat)(ps:Array Tmp)(assign body:Code)(tmps:Array Value)(Ar:Nat->Array Value->Nat->World->Prop)(I:Nat->World->Prop)(Ix:Code->Nat->World->Prop):Prop :=
 ∀ (l i:Nat) (args:Array Value) (V W:World),w.heap.size<=l->l < V.heap.size->(∃ r,V.heap[l]?=some (.loop r))->i < N->I i V->Below V.heap.size V W->Ar i args V.heap.size W ->
  assign.wpIn (Fence.wide.inRound l) n Tryz.prog (Exit.then (fun a1 W1=>Below W.heap.size W W1/\∀ V2 W2,I i V2->Below V2.heap.size V2 W2->Ar i args V2.heap.size W2->(∀ b,b≠l->W2.heap[b]?=W1.heap[b]?)->W2.heap.size=W1.heap.size->V2.heap.size=V.heap.size->(∃ r,W2.heap[l]?=some (.loop r))->body.wpIn (Fence.wide.inRound l) n Tryz.prog (oX Tp w.heap.size I Ix (i+1) W2) a1 W2) (fun _ _ _=>False)) { tmps:=(ps.zip args).foldl (fun t (p,v)=>t.setIfInBounds p v) tmps,defers:=[] } W
theorem gY{Tp:TypeId->Prop}{s N:Nat}(IT:Itr Tp s lb N Ar Rd){g:Operand}{Q:Exit->Act->World->Prop}{a:Act}(Z:a.eval g=.func (.func s) #[] lb)(O:∀ args w,(callFunc s args).run Tryz.prog w=.ok (.enter s args) w)(t:∀ i args n V W,Ar i args n V->Cel V W->Ar i args n W)(L:∀ i args n V,Ar i args n V->args.size=ps.size)(I:Nat->World->Prop)(Ix:Code->Nat->World->Prop)(y:∀ i,St w.heap.size (I i))(l:∀ c i,St w.heap.size (Ix c i))(H:∀ i V,I i V->Rd V)(U:I 0 w)(j:RoundW Tp w N n ps assign body a.tmps Ar I Ix)(m:∀ D W,w.heap.size<=D->W.heap[D]?=some (.deferred (some []))->I N W->Q .normal { a with defers:={ target:=.collected D,args:=#[] } :: a.defers } W)(p:∀ D c i W,w.heap.size<=D->W.heap[D]?=some (.deferred (some []))->i < N->Ix c (i+1) W->c.wpIn Fence.wide n Tryz.prog Q { a with defers:={ target:=.collected D,args:=#[] } :: a.defers } W) :
  (Code.rangeFunc g ps assign body).wpIn Fence.wide n Tryz.prog Q a w:=by
 refine wpIn_rangeFunc ?_
 intro fn _;obtain⟨d,b⟩:∃ d,(w.alloc (.deferred (some []))).alloc (.loop (cY fn a.tmps ps assign body w.heap.size .ready none))=d:=⟨_,rfl⟩
 have A:Below w.heap.size w d:=by rw[<- b];exact ai (af w _) (af _ _)
 have S:d.heap.size=w.heap.size+1+1:=by rw[<- b];simp
 have K:d.heap[w.heap.size+1]?=some (.loop (cY fn a.tmps ps assign body w.heap.size .ready none)):=by
  rw[<- b];have:=World.alloc_heap_new (w.alloc (.deferred (some []))) (.loop (cY fn a.tmps ps assign body w.heap.size .ready none));rwa [World.size_alloc] at this
 have G:d.heap[w.heap.size]?=some (.deferred (some [])):=by
  rw[<- b];exact(Below.heap_alloc _ _ _ (by simp)).trans (World.alloc_heap_new w _)
 refine⟨w.heap.size + 1,[{ target:=.collected w.heap.size,args:=#[] }],d,{ target:=.fn (.func s) lb,args:=#[.func (.yield (w.heap.size + 1)) #[] #[]] },d,s,
  #[.func (.yield (w.heap.size+1)) #[] #[]] ++ lb,d,?_,?_,?_,?_,fun h=>(by cases h),?_⟩
 ·rw[<- b];exact run_enterLoop_outer _ _ _ _ _
 ·simp only[resolve,Z];simp[go_sem]
 ·intro f' _;trivial
 ·simp[invoke,go_sem,O]
 ·refine callsIn_wide.2 ?_
  refine(IT (w.heap.size + 1)
   (fun i W=>I i W/\W.heap[w.heap.size+1]?=some (.loop (cY fn a.tmps ps assign body w.heap.size .ready none))/\W.heap[w.heap.size]?=some (.deferred (some [])))
   (fun i W=>∃ c,Ix c i W/\W.heap[w.heap.size+1]?=some (.loop (cY fn a.tmps ps assign body w.heap.size .done (some c)))/\W.heap[w.heap.size]?=some (.deferred (some [])))
   d (fun i X Y hx o=>⟨y i X Y hx.1 (o.mono (by omega)),o.same _ _ hx.2.1 (.inl (by omega)),o.same _ _ hx.2.2 (.inl (by omega))⟩)
   (fun i X Y hx o=>by obtain⟨c,J,z,E⟩:=hx;exact⟨c,l c i X Y J (o.mono (by omega)),o.same _ _ z (.inl (by omega)),o.same _ _ E (.inl (by omega))⟩)
   (fun i V T=>H i V T.1) ?_ ⟨y 0 _ _ U (Rec.of A),K,G⟩).mono ?_
  ·rintro i args V R q ⟨hi,f,r⟩ C hb F;refine(iV (B:=w.heap.size) t y l (by omega) f hi hb F (L _ _ _ _ F) (j _ i args V R (by omega) (lt_of_block f) ⟨_,f⟩ q hi hb F)).mono ?_
   rintro e M ⟨u,h⟩;have x:=u.same _ _ (Nat.le_refl _) (by omega) ((hb.block _ (lt_of_block r)).trans r) my;refine⟨u.from (by omega) (by omega),h.imp (fun h=>⟨h.1,h.2.1,h.2.2,x⟩) (fun h=>?_)⟩;obtain⟨J,c,z,E⟩:=h;exact⟨J,c,z,E,x⟩
  ·rintro e W2 ⟨⟨v,rfl⟩,C,⟨hi,f,r⟩ | ⟨i,q,c,hi,f,r⟩⟩
   ·exact⟨none,_,run_endLoop (P:=Tryz.prog) f (by simp[cY]),m _ _ (Nat.le_refl _) ((World.putObj_heap_other (by omega)).trans r) (y _ _ _ hi (Rec.put f rfl (by omega) _))⟩
   ·exact⟨some c,_,run_endLoop (P:=Tryz.prog) f (by simp[cY]),p _ c i _ (Nat.le_refl _) ((World.putObj_heap_other (by omega)).trans r) q (l c _ _ _ hi (Rec.put f rfl (by omega) _))⟩
end
section
variable {a b:Nat}{w:World}{v fv tv:Value}{t f:List Int}{D:Nat->Prop}{P:List (List En)}{F:Nat→Prop}{L:List Pg}
def cut{α:Type}(l:List α)(a b:Nat):List α:=(l.drop a).take (max a b - a)
theorem wo{α:Type}{l:List α}{j:Nat}{x:α}(h:(cut l a b)[j]?=some x):l[a+j]?=some x:=by
 unfold cut at h;rw[List.getElem?_take] at h;split at h
 ·rw[List.getElem?_drop] at h;exact h
 ·cases h
theorem wc{α:Type}{l:List α}(ha:a<=l.length)(hb:b<=l.length):(cut l a b).length=max a b - a:=by
 unfold cut;rw[List.length_take,List.length_drop];omega
def eJ(P:List (List En))(t:List Int):Nat:=if t=[] then P.length else min (pgi P t+1) P.length
def uf(es:List En)(t:List Int):Nat:=if t=[] then es.length else plc (kys es) t
def wth(es:List En)(f t:List Int):List En:=cut es (plc (kys es) f) (uf es t)
def wlk(P:List (List En))(f t:List Int):List En:=(cut P (pgi P f) (eJ P t)).flatMap fun es=>wth es f t
theorem nE(h:By w v t):Calls Tryz.prog 210 #[v] w fun e w'=>e=.returned (.bool (decide (t≠[])))/\w'=w:=by
 obtain⟨i,c,rfl,g,n,j,m,f⟩:=h.ex
 have d:(decide (t≠[]))=decide ((0:Int) < (t.length:Int)):=by
  cases t with
  | nil=>rfl
  | cons a l=>simp
 rw[d];clear h f
 have b:decide ((0:Int) < (t.length:Int))=decide (0 < t.length):=by congr 1;exact propext ⟨fun h=>by omega,fun h=>by omega⟩
 rw[b];go_enter Tryz.func210,Tryz.ntmps210;go_wp2;go_ret;exact⟨rfl,rfl⟩
structure SpA(w:World)(F:Nat->Prop)(v:Value)(Q:List Pg):Prop where
 ex:∃ ao c,v=.slice ao Q.length c/\Q.length<=c/\c<=9223372036854775807/\∀ j p,Q[j]?=some p->∃ b o,ao=some ⟨b,o,none⟩/\F b/\w.cell? ⟨b,o+j,none⟩=some p.v
structure ESl(w:World)(q:Nat)(v:Value)(es:List En):Prop where
 ex:∃ ao c,v=.slice ao es.length c/\es.length<=c/\c<=9223372036854775807/\∀ j e,es[j]?=some e->∃ o,ao=some ⟨q,o,none⟩/\w.cell? ⟨q,o+j * 2,none⟩=some e.kv/\w.cell? ⟨q,o+j * 2+1,none⟩=some e.vv
theorem vd{p:Pg}(A:PgA w D p)(S:Srt (kys p.es))(hf:By w fv f)(H:By w tv t)(hn:p.es.length<=1000000) :
  Calls Tryz.prog 161 #[p.v,fv,tv] w fun e w'=>∃ v,e=.returned v/\ESl w' p.b v (wth p.es f t)/\Below w.heap.size w w':=by
 have t1:=gC A S hf hn
 have r:∀ w',Below w.heap.size w w'->Calls Tryz.prog 210 #[tv] w' _:=fun w' l=>nE (H.keep l)
 have t2:∀ w',Below w.heap.size w w'->Calls Tryz.prog 179 #[p.v,tv] w' _:=fun w' l=>gC (A.keep l) S (H.keep l) hn
 have i:=A.row;have n:=i.le;simp only[maxLen] at n;have R:=n.1;have Q:=n.2;have u:=qd (kys p.es) f;have M:=qd (kys p.es) t
 have B:(kys p.es).length=p.es.length:=by simp[kys]
 rw[B] at u M
 have g:∀ (E:Option Addr) (k c y:Nat) (w':World),uf p.es t=y->y<=p.es.length->Below w.heap.size w w'->k=max (plc (kys p.es) f) y - plc (kys p.es) f->k<=c->c<=9223372036854775807->(k=0\/E=some ⟨p.b,plc (kys p.es) f * 2,none⟩)->ESl w' p.b (.slice E k c) (wth p.es f t):=fun E k c y w' he hy l K L hc O=>by
  have N:(wth p.es f t).length=k:=by
   unfold wth;rw[he,wc u hy,K]
  refine⟨E,c,by rw[N],by rw[N];exact L,hc,fun j e P=>?_⟩;have J:=(List.getElem?_eq_some_iff.1 P).1;rw[N] at J
  have C:=wo (show (cut p.es (plc (kys p.es) f) (uf p.es t))[j]?=some e from P);have K:=(i.keep l).cell (rj C);have T:=(i.keep l).cell (ky C);refine⟨plc (kys p.es) f * 2,O.resolve_left (by omega),?_,?_⟩
  ·rw[<- Nat.add_mul];exact K
  ·rw[<- Nat.add_mul];exact T
 have g:Hid _:=g
 have o:Hid (uf p.es t=if t=[] then p.es.length else plc (kys p.es) t):=rfl;generalize hx:plc (kys p.es) f=x at *
 have HX:Hid _:=hx;generalize hy:plc (kys p.es) t=y at *
 have Z:Hid _:=hy;generalize thr (kys p.es) f=bx at *;generalize thr (kys p.es) t=U at *
 simp only[Pg.v] at t1 t2 ⊢;generalize hm:p.es.length=m at *
 have W:Hid _:=hm
 have X:(0:Int)<=(x:Int):=by omega
 have z1:(x:Int)<=(m:Int):=by omega
 clear A S hf H i n B hx hy hm;by_cases s:t=[]
 ·have z:decide (t≠[])=false:=by simp[s]
  rw[z] at r
  have he:Hid (uf p.es t=m):=by show _=_;rw[o.out,if_pos s]
  clear s z t2 o;go_enter Tryz.func161,Tryz.ntmps161
  go_wp2_with (first
   | (go_at_call 179;refine t1.mono ?_;rintro G F ⟨rfl,d⟩;have q:=r F d;clear t1 r)
   | (go_at_call 210;refine q.mono ?_;rintro G V ⟨rfl,rfl⟩))
  all_goals (
   go_ret
   exact⟨_,rfl,g.out _ _ _ m _ he.out (Nat.le_refl _) d (by omega) (by omega) (by omega) (by first | exact .inr rfl | exact .inl (by omega) | exact .inl rfl),d⟩)
 ·have z:decide (t≠[])=true:=by simp[s]
  rw[z] at r
  have he:Hid (uf p.es t=y):=by show _=_;rw[o.out,if_neg s]
  have mk:True:=trivial;clear s z o;go_enter Tryz.func161,Tryz.ntmps161
  go_wp2_with (first
   | (go_at_call 179;clear mk;refine t1.mono ?_;rintro G F ⟨rfl,d⟩;have q:=r F d;have t21:=t2 F d;clear t1 r t2)
   | (go_at_call 210;refine q.mono ?_;rintro G V ⟨rfl,rfl⟩)
   | (go_at_call 179;refine t21.mono ?_;rintro G Y ⟨rfl,I⟩;have l:=ai d I))
  all_goals (
   go_ret
   exact⟨_,rfl,g.out _ _ _ y _ he.out (by omega) l (by omega) (by omega) (by omega) (by first | exact .inr rfl | exact .inl (by omega) | exact .inl rfl),l⟩)
theorem AP(k:List Int):pgi P k<=P.length:=by
 have h1:=pC (fks P) k;simp only[fks,List.length_map] at h1;unfold pgi fks;omega
theorem zO{D:Nat→Prop}{g:Nat}(A:bO w F D g L)(O:Ord (ens L))(hf:By w fv f)(Y:By w tv t)(hn:L.length≤100000000) :
    Calls Tryz.prog 160 #[.pointer (some ⟨g,0,none⟩),fv,tv] w fun e w'=>∃ v,e=.returned v∧SpA w' F v (cut L (pgi (ens L) f) (eJ (ens L) t))∧Below w.heap.size w w':=by
  have t1:=iT A.drew O hf.drew (by omega)
  have H:∀ w',Below w.heap.size w w'→Calls Tryz.prog 210 #[tv] w' _:=fun w' z=>nE (Y.keep z)
  have t2:∀ w',Below w.heap.size w w'→Calls Tryz.prog 178 #[.pointer (some ⟨g,0,none⟩),tv] w' _:=fun w' z=>iT (A.keep z) O (Y.keep z) (by omega)
  obtain⟨S,c,hc,hc1,hc2,R⟩:= A.rd
  have M:(ens L).length=L.length:=by simp[ens]
  have V:pgi (ens L) f≤L.length:=by rw[← M];exact AP f
  have hl2:pgi (ens L) t≤L.length:=by rw[← M];exact AP t
  have W : ∀ G, S = some ⟨G, 0, none⟩ → F G := fun G e => by
    obtain⟨pv,hb,hg,⟨rfl,rfl⟩ | ⟨G',C,rfl,hG,hR⟩⟩:= A.top
    · have:=hb.cell (i:=0) rfl
      rw[hc] at this
      cases this
      cases e
    · have:=hb.cell (i:=0) rfl
      rw[hc] at this
      cases this
      cases e;exact hG
  have q : ∀ (X : Option Addr) (k d y : Nat) (w' : World), eJ (ens L) t = y → y ≤ L.length → Below w.heap.size w w' → k = max (pgi (ens L) f) y - pgi (ens L) f → k ≤ d → d ≤ 9223372036854775807 → (k = 0 ∨ ∀ b o, S = some ⟨b, o, none⟩ → X = some ⟨b, o + pgi (ens L) f, none⟩) → SpA w' F (.slice X k d) (cut L (pgi (ens L) f) (eJ (ens L) t)) := fun X k d y w' he hy z hk hkd Q hbo => by
    have hl:(cut L (pgi (ens L) f) (eJ (ens L) t)).length=k:=by rw[he,wc V hy,hk]
    refine⟨X,d,by rw[hl],by rw[hl];exact hkd,Q,fun j p hj=>?_⟩;have hjk:=(List.getElem?_eq_some_iff.1 hj).1;rw[hl] at hjk
    have hj':=wo hj;obtain⟨G,rfl,cG⟩:= R _ p hj'
    exact⟨G, 0 + pgi (ens L) f, (hbo.resolve_left (by omega)) G 0 rfl, W G rfl, by
      rw[Nat.zero_add,z.cell (p:=⟨G,pgi (ens L) f+j,none⟩) (aH cG)];exact cG⟩
  have q:Hid _:=q
  have E:Hid (eJ (ens L) t=if t=[] then L.length else min (pgi (ens L) t+1) L.length):=by show _=_;unfold eJ;rw[M]
  have I:=aH hc
  have R:Hid _:=R
  have U:Hid (S=none∨∃ G,S=some ⟨G,0,none⟩):=by
    obtain⟨pv,hb,hg,⟨rfl,rfl⟩ | ⟨G,C,rfl,hG,hR⟩⟩:= A.top
    · have:=hb.cell (i:=0) rfl
      rw[hc] at this
      cases this;exact .inl rfl
    · have:=hb.cell (i:=0) rfl
      rw[hc] at this
      cases this;exact .inr ⟨G,rfl⟩
  have K:S=none→c=0:=by
    intro e;obtain⟨pv,hb,hg,⟨rfl,rfl⟩ | ⟨G,C,rfl,hG,hR⟩⟩:= A.top
    · have:=hb.cell (i:=0) rfl
      rw[hc] at this
      cases this;rfl
    · have:=hb.cell (i:=0) rfl
      rw[hc] at this
      cases this
      cases e
  generalize hx:pgi (ens L) f=x at *
  have HX:Hid _:=hx;generalize hy:pgi (ens L) t=y at *
  have HY:Hid _:=hy;obtain⟨n,hnn⟩:∃ n,Hid (L.length=n):=⟨_,rfl⟩;rw[hnn.out] at hc hc1 V hl2 hn q E
  have P:w.drew.cell? ⟨g,0,none⟩=some (.slice S n c):=hc
  have z0:(0:Int)≤(x:Int):=by omega
  have z1:(x:Int)≤(n:Int):=by omega
  have zw:IntKind.i64.wrap ((y:Int)+1)=(y:Int)+1:=by rw[IntKind.wrap_i64];omega
  have J:=cy w;have HN:=U.out;clear A O hf Y hx hy M W;by_cases T:t=[]
  · have Q : decide (t ≠ []) = false := by simp[T]
    rw[Q] at H
    have he:Hid (eJ (ens L) t=n):=by show _=_;rw[E.out,if_pos T]
    clear T Q t2 E;rcases HN with rfl | ⟨G,rfl⟩
    · obtain rfl:c=0:=K rfl
      obtain rfl:n=0:=by omega
      obtain rfl:x=0:=by omega
      go_enter Tryz.func160,Tryz.ntmps160;go_wp2;go_region_held3 (fun w'=>w'.cell? ⟨g,0,none⟩=some (.slice none 0 0)) (assumption)
        (first
          | (go_at_call 178;refine t1.mono ?_;rintro N u ⟨rfl,m⟩;have r:u.cell? ⟨g,0,none⟩=_:=(m.cell (p:=⟨g,0,none⟩) I).trans P;have l:=ai J m))
      have s:=H u l;clear t1 H;go_wp2_with (go_at_call 210;refine s.mono ?_;rintro N w2 ⟨rfl,rfl⟩)
      all_goals (
        go_ret
        exact⟨_,rfl,q.out _ _ _ 0 _ he.out (by omega) l (by omega) (by omega) (by omega) (by first | exact .inl (by omega) | exact .inr (fun b o e=>by cases e;simp)),l⟩)
    · clear K
      go_enter Tryz.func160,Tryz.ntmps160;go_wp2;go_region_held3 (fun w'=>w'.cell? ⟨g,0,none⟩=some (.slice (some ⟨G,0,none⟩) n c)) (assumption)
        (first
          | (go_at_call 178;refine t1.mono ?_;rintro N u ⟨rfl,m⟩;have r:u.cell? ⟨g,0,none⟩=_:=(m.cell (p:=⟨g,0,none⟩) I).trans P;have l:=ai J m))
      have s:=H u l;clear t1 H;go_wp2_with (go_at_call 210;refine s.mono ?_;rintro N w2 ⟨rfl,rfl⟩)
      all_goals (
        go_ret
        exact⟨_,rfl,q.out _ _ _ n _ he.out (by omega) l (by omega) (by omega) (by omega) (by first | exact .inl (by omega) | exact .inr (fun b o e=>by cases e;simp)),l⟩)
  · have Q : decide (t ≠ []) = true := by simp[T]
    rw[Q] at H
    have he:Hid (eJ (ens L) t=min (y+1) n):=by show _=_;rw[E.out,if_neg T]
    clear T Q E;rcases HN with rfl | ⟨G,rfl⟩
    · obtain rfl:c=0:=K rfl
      obtain rfl:n=0:=by omega
      obtain rfl:x=0:=by omega
      go_enter Tryz.func160,Tryz.ntmps160;go_wp2;go_region_held3 (fun w'=>w'.cell? ⟨g,0,none⟩=some (.slice none 0 0)) (assumption)
        (first
          | (go_at_call 178;refine t1.mono ?_;rintro N u ⟨rfl,m⟩;have r:u.cell? ⟨g,0,none⟩=_:=(m.cell (p:=⟨g,0,none⟩) I).trans P;have l:=ai J m))
      have s:=H u l;have t21:=t2 u l;clear t1 H t2
      go_wp2_with (first
        | (go_at_call 210;refine s.mono ?_;rintro N w2 ⟨rfl,rfl⟩)
        | (go_at_call 178;refine t21.mono ?_;rintro N w3 ⟨rfl,B⟩;have Z:w3.cell? ⟨g,0,none⟩=_:=(B.cell (p:=⟨g,0,none⟩) (aH r)).trans r;have z:=ai l B))
      all_goals (
        go_ret
        exact⟨_,rfl,q.out _ _ _ (min (y+1) 0) _ he.out (by omega) z (by omega) (by omega) (by omega) (by first | exact .inl (by omega) | exact .inr (fun b o e=>by cases e;simp)),z⟩)
    · clear K
      go_enter Tryz.func160,Tryz.ntmps160;go_wp2;go_region_held3 (fun w'=>w'.cell? ⟨g,0,none⟩=some (.slice (some ⟨G,0,none⟩) n c)) (assumption)
        (first
          | (go_at_call 178;refine t1.mono ?_;rintro N u ⟨rfl,m⟩;have r:u.cell? ⟨g,0,none⟩=_:=(m.cell (p:=⟨g,0,none⟩) I).trans P;have l:=ai J m))
      have s:=H u l;have t21:=t2 u l;clear t1 H t2
      go_wp2_with (first
        | (go_at_call 210;refine s.mono ?_;rintro N w2 ⟨rfl,rfl⟩)
        | (go_at_call 178;refine t21.mono ?_;rintro N w3 ⟨rfl,B⟩;have Z:w3.cell? ⟨g,0,none⟩=_:=(B.cell (p:=⟨g,0,none⟩) (aH r)).trans r;have z:=ai l B))
      all_goals (
        go_ret
        exact⟨_,rfl,q.out _ _ _ (min (y+1) n) _ he.out (by omega) z (by omega) (by omega) (by omega) (by first | exact .inl (by omega) | exact .inr (fun b o e=>by cases e;simp)),z⟩)
end
end Pg
end
end Go.Proofs.YtidnifmehnjipaaGreat
