/- Several texts, joined: PgR, PgI, PgD, PgC, PgE, PgT, PgM, PgS, PgP, PgQ, PgU, PgZ, PgV, PgW, PgWe, PgG, PgH, PgJ, PgK, PgL, PgN, PgO, PgRf, PgY. -/
import Derived.Test.YthfepflplbahkaaGreatDoorJac
import Derived.Lib.BytesEntry
import Derived.WalkMore
import Derived.Deep.RegionHeld3
import Derived.Deep.RegionWith
import Derived.RangeFuncNested
import Derived.RangeFuncBound
import Derived.RangeFuncCalls
import Derived.RangeFuncLeaves
set_option maxRecDepth 100000
set_option maxHeartbeats 8000000
namespace Go.Proofs.YthfepflplbahkaaGreatDoor
section
namespace Pg
open Go.RowKit Go.Lib
section
variable {w w':World}{k b n c m:Nat}{xs ys:List Value}{F:Nat->Prop}{v:Value}
structure Rw(w:World)(E:TypeId)(k b n c:Nat)(xs:List Value):Prop where
 ex:∃ sp,Blk w b (xs ++ sp) E/\xs.length=n * k/\(xs ++ sp).length=c * k/\n<=c/\c<=maxLen
theorem Rw.lt{E:TypeId}(h:Rw w E k b n c xs):b < w.heap.size:=by
 obtain⟨sp,h,_⟩:=h.ex; exact h.lt
theorem Rw.same{E:TypeId}(h:Rw w E k b n c xs)(hb:w'.heap[b]? = w.heap[b]?):Rw w' E k b n c xs:=by
 obtain⟨sp,h,h'⟩:=h.ex; exact⟨sp,h.same hb,h'⟩
theorem Rw.keep{E:TypeId}(h:Rw w E k b n c xs)(hb:Below w.heap.size w w'):Rw w' E k b n c xs:=h.same (hb.block b h.lt)
theorem Rw.chg{E:TypeId}(h:Rw w E k b n c xs)(hb:Chg F w w')(hg:¬ F b):Rw w' E k b n c xs:=h.same (hb.same b h.lt hg)
theorem Rw.drew{E:TypeId}(h:Rw w E k b n c xs):Rw w.drew E k b n c xs:=h.same rfl
theorem Rw.len{E:TypeId}(h:Rw w E k b n c xs):xs.length=n * k:=by
 obtain⟨sp,h,h',_⟩:=h.ex; exact h'
theorem Rw.le{E:TypeId}(h:Rw w E k b n c xs):n<=c/\c<=maxLen:=by
 obtain⟨sp,h,_,_,h'⟩:=h.ex; exact h'
theorem Rw.cell{E:TypeId}(h:Rw w E k b n c xs){i:Nat}(hi:xs[i]? = some v):w.cell? ⟨b,i,none⟩=some v:=by
 obtain⟨sp,h,_⟩:=h.ex;exact h.cell (by rw[List.getElem?_append_left (List.getElem?_eq_some_iff.1 hi).1]; exact hi)
theorem Rw.free{E:TypeId}(h:Rw w E k b n c xs)(i:Nat):w.frozen? ⟨b,i,none⟩=false:=by
 obtain⟨sp,h,_⟩:=h.ex; exact h.free i
theorem Rw.kind{E:TypeId}(h:Rw w E k b n c xs):∃ cs,Blk w b cs E:=by
 obtain⟨sp,h,_⟩:=h.ex; exact⟨_,h⟩
theorem Rw.set{E:TypeId}(h:Rw w E k b n c xs)(i:Nat)(hi:i < xs.length)(v:Value):Rw (w.setCell ⟨b,i,none⟩ v) E k b n c (xs.set i v):=by
 obtain⟨sp,h,d,a,e⟩:=h.ex;refine⟨sp,?_,by simpa using d,by simpa using a,e⟩;have:=h.setCell (i:=i) v;rwa [List.set_append_left _ _ hi] at this
theorem ya{E:TypeId}(h:Blk w b xs E)(hx:xs.length=n * k)(hn:n<=maxLen):Rw w E k b n n xs:=⟨[],by simpa using h,hx,by simpa using hx,Nat.le_refl _,hn⟩
theorem Rw.front{E:TypeId}(h:Rw w E k b n c xs)(hm:m<=n):Rw w E k b m c (xs.take (m * k)):=by
 obtain⟨sp,h,e,a,g,d⟩:=h.ex
 have f:m * k<=n * k:=Nat.mul_le_mul_right _ hm;refine⟨xs.drop (m * k) ++ sp,by rw[<- List.append_assoc,List.take_append_drop]; exact h,by rw[List.length_take]; omega,by rw[<- List.append_assoc,List.take_append_drop]; exact a,by omega,d⟩
theorem Rw.more{E:TypeId}(h:Rw w E k b n c xs)(hm:n + m<=c):∃ s,s.length=m * k/\Rw w E k b (n + m) c (xs ++ s):=by
 obtain⟨sp,h,f,a,g,d⟩:=h.ex
 have e:n * k + m * k<=c * k:=by rw[<- Nat.add_mul]; exact Nat.mul_le_mul_right _ hm
 rw[List.length_append] at a;refine⟨sp.take (m * k),by rw[List.length_take]; omega,sp.drop (m * k),?_,?_,?_,hm,d⟩
 ·rw[List.append_assoc,List.take_append_drop]; exact h
 ·rw[List.length_append,List.length_take,Nat.add_mul]; omega
 ·rw[List.append_assoc,List.take_append_drop,List.length_append]; exact a
theorem Rw.to{E:TypeId}(h:Rw w E k b n c xs)(e:xs=ys):Rw w E k b n c ys:=e▸h
end
section
variable {P:Program} {w:World} {T E:TypeId} {k bytes:Nat} {z:Value}
section
variable {b n c g:Nat}{xs:List Value}
structure Kd(P:Program)(T E:TypeId)(k bytes:Nat)(z:Value):Prop where
 und:P.underlying T=some (.slice E)
 inf:(P.info? E).map (fun i=>(i.zero,i.size,i.bytes))=some (some z,k,bytes)
 zs:z.cells.size=k
 z1:∀ v∈z.cells,v.oneCell'=true
 k0:0 < k
theorem Kd.size(h:Kd P T E k bytes z):(P.info? E).map (·.size)=some k:=by
 obtain⟨i,hi,hz,hs,hb⟩:=info_parts h.inf;rw[hi]; simp[hs]
theorem Kd.sizeOf(h:Kd P T E k bytes z)(w:World):(Go.sizeOf E).run P w=.ok k w:=by
 obtain⟨i,hi,hz,hs,hb⟩:=info_parts h.inf;simp[Go.sizeOf,typeInfo,hi,hs]
theorem Kd.zero(h:Kd P T E k bytes z)(w:World):(zeroValue E).run P w=.ok z w:=by
 obtain⟨i,hi,hz,hs,hb⟩:=info_parts h.inf;simp[zeroValue,typeInfo,hi,hz]
theorem lC(w:World)(E:TypeId)(zc:Array Value)(k n c:Nat)(xs:List Value)(a:zc.size=k)(hx:xs.length=n * k)(hn:n<=c)(hc:c<=maxLen) :
  Rw (w.drew.alloc (.cells (xs.toArray ++ Builtin.zeroCells zc (c - n)) E)) E k w.heap.size n c xs :=
 ⟨(Builtin.zeroCells zc (c - n)).toList,⟨by
  have:=(aC w.drew (xs ++ (Builtin.zeroCells zc (c - n)).toList) E).blk;rw[show (xs ++ (Builtin.zeroCells zc (c - n)).toList).toArray=xs.toArray ++ Builtin.zeroCells zc (c - n) by apply Array.ext'; simp] at this ⊢;exact this⟩,hx,by
  rw[List.length_append,hx,Array.length_toList,size_zeroCells,a,<- Nat.add_mul]; congr 1; omega,hn,hc⟩
theorem dB(H:Kd P T E k bytes z)(ty:TypeId)(R:Rw w E k b n c xs)(a:Addr)(m cc:Nat)(news:List Value)(o:news.length=m * k)(f:∀ j u,news[j]? = some u->w.cell? (a.add j)=some u)(x:∀ u∈news,u.oneCell'=true)(h:(n + m) * bytes<=140737488355328)(hm:n + m<=140737488355328) :
  ∃ b' c' w',(Builtin.append_ #[T,T] ty #[.slice (some ⟨b,0,none⟩) n c,.slice (some a) m cc]).run P w=.ok (.slice (some ⟨b',0,none⟩) (n + m) c') w'/\(b'=b\/b'=w.heap.size)/\Rw w' E k b' (n + m) c' (xs ++ news)/\Chg (· = b) w w':=by
 obtain⟨i,hi,v,hs,hb⟩:=info_parts H.inf;obtain⟨sp,s,hx,hc,y,p⟩:=R.ex;subst hs hb
 have r:n + m<=maxLen:=by simp only[maxLen]; omega
 by_cases d:n + m<=c
 ·have l:n * i.size + news.length<=(xs ++ sp).toArray.size:=by
   rw[List.size_toArray,hc,o,<- Nat.add_mul]; exact Nat.mul_le_mul_right _ d
  have q:=run_append_room (P:=P) w T ty E i H.und hi b n c (xs ++ sp).toArray s.blk a m cc news o f x d l;refine⟨b,c,_,q,.inl rfl,⟨sp.drop news.length,?_,by rw[List.length_append,hx,o,Nat.add_mul],?_,d,p⟩,(Chg.refl (· = b) w).row (g:=b) (.inl rfl) _⟩
  ·have:=s.row (xs ++ news ++ sp.drop news.length)
   have e:(xs ++ sp).toArray.toList.take (n * i.size) ++ news ++ (xs ++ sp).toArray.toList.drop (n * i.size + news.length)=xs ++ news ++ sp.drop news.length:=by
    rw[show (xs ++ sp).toArray.toList=xs ++ sp from rfl,<- hx,List.take_left,<- List.drop_drop,List.drop_left]
   rw[e]; exact this
  ·have A:xs.length + sp.length=c * i.size:=by rw[<- List.length_append]; exact hc
   have B:n * i.size + m * i.size<=c * i.size:=by rw[<- Nat.add_mul]; exact Nat.mul_le_mul_right _ d
   rw[List.length_append,List.length_append,List.length_drop]; omega
 ·have holds:∀ j u,xs[j]? = some u->w.cell? ((⟨b,0,none⟩:Addr).add j)=some u:=fun j u t=>by rw[Addr.add_lit,Nat.zero_add]; exact R.cell t
  have q:=run_append_grow (P:=P) w T ty E i z H.und hi v ⟨b,0,none⟩ n c xs hx holds a m cc news o f (by omega) (by omega) (growslice_fits (by omega) h);refine⟨w.heap.size,_,_,q,.inr rfl,?_,(Chg.refl _ w).drew.alloc _⟩;have:=lC w E z.cells i.size (n + m) (grownCap w (n + m) c E) (xs ++ news) H.zs (by rw[List.length_append,hx,o,Nat.add_mul]) (grownCap_ge w _ _ _) (grownCap_le_maxLen w _ _ _ r);simpa using this
theorem fg(H:Kd P T E k bytes z)(ty:TypeId)(a:Addr)(m cc:Nat)(news:List Value)(e:news.length=m * k)(c:∀ j u,news[j]? = some u->w.cell? (a.add j)=some u)(h:0 < m)(d:m * bytes<=140737488355328)(hm:m<=140737488355328) :
  ∃ c' w',(Builtin.append_ #[T,T] ty #[.slice none 0 0,.slice (some a) m cc]).run P w=.ok (.slice (some ⟨w.heap.size,0,none⟩) m c') w'/\Rw w' E k w.heap.size m c' news/\Below w.heap.size w w':=by
 obtain⟨i,hi,g,hs,hb⟩:=info_parts H.inf;subst hs hb;have f:=run_append_nil (P:=P) w T ty E i z H.und hi g a m cc news e c h (by omega) (by omega);refine⟨_,_,f,?_,?_⟩
 ·exact lC w E z.cells i.size m (grownCap w m 0 E) news H.zs e (grownCap_ge w _ _ _) (grownCap_le_maxLen w _ _ _ (by simp only[maxLen]; omega))
 ·exact(Below.refl _ w).trans ⟨rfl,rfl,rfl,by simp,fun b hb=>by
   have:=(ae w.drew (.cells (news.toArray ++ Builtin.zeroCells z.cells (grownCap w m 0 E - m)) E)).block b hb;exact this⟩
theorem oF(H:Kd P T E k bytes z)(tn ty:TypeId)(hn:P.underlying tn=some (.int .i64))(R:Rw w E k b n c xs)(m:Nat)(h:0 < m)(hc:c < n + m)(a:(n + m) * bytes<=140737488355328)(hm:n + m<=140737488355328) :
  ∃ c' w',(Builtin.append_ #[T,tn] ty #[.slice (some ⟨b,0,none⟩) n c,.int .i64 m]).run P w=.ok (.slice (some ⟨w.heap.size,0,none⟩) (n + m) c') w'/\Rw w' E k w.heap.size (n + m) c' (xs ++ (Builtin.zeroCells z.cells m).toList)/\Below w.heap.size w w':=by
 obtain⟨i,hi,g,hs,hb⟩:=info_parts H.inf;have hx:=R.len;subst hs hb
 have hold:(Builtin.firstCells i.size n (.slice (some ⟨b,0,none⟩) n c)).run P w.drew=.ok xs.toArray w.drew :=
  run_firstCells_some w.drew i.size n ⟨b,0,none⟩ n c xs hx (fun j v f=>by rw[Addr.add_lit,Nat.zero_add]; exact R.cell f)
 have e:m * i.bytes<=(n + m) * i.bytes:=Nat.mul_le_mul_right _ (by omega);have d:=run_append_grow_zeros w T tn ty E i z .i64 .i64 H.und hn hi g (some ⟨b,0,none⟩) n c xs hold m h H.k0 hc (by omega) (by omega) (growslice_fits hc a);refine⟨_,_,d,?_,?_⟩
 ·have:=lC w E z.cells i.size (n + m) (grownCap w (n + m) c E) (xs ++ (Builtin.zeroCells z.cells m).toList) H.zs (by rw[List.length_append,hx,Array.length_toList,size_zeroCells,H.zs,Nat.add_mul]) (grownCap_ge w _ _ _) (grownCap_le_maxLen w _ _ _ (by simp only[maxLen]; omega));rw[show (xs ++ (Builtin.zeroCells z.cells m).toList).toArray=xs.toArray ++ Builtin.zeroCells z.cells m by apply Array.ext'; simp] at this;exact this
 ·exact⟨rfl,rfl,rfl,by simp,fun b hb=>(ae w.drew (.cells (xs.toArray ++ Builtin.zeroCells z.cells m ++ Builtin.zeroCells z.cells (grownCap w (n + m) c E - (n + m))) E)).block b hb⟩
theorem nC(H:Kd P T E k bytes z)(tn ty:TypeId)(hn:P.underlying tn=some (.int .i64))(m:Nat)(e:0 < m)(a:m * bytes<=140737488355328)(hm:m<=140737488355328) :
  ∃ c' w',(Builtin.append_ #[T,tn] ty #[.slice none 0 0,.int .i64 m]).run P w=.ok (.slice (some ⟨w.heap.size,0,none⟩) m c') w'/\Rw w' E k w.heap.size m c' (Builtin.zeroCells z.cells m).toList/\Below w.heap.size w w':=by
 obtain⟨i,hi,d,hs,hb⟩:=info_parts H.inf;subst hs hb;have c:=run_append_nil_zeros w T tn ty E i z .i64 .i64 H.und hn hi d m e H.k0 (by omega) (by omega);refine⟨_,_,c,?_,?_⟩
 ·have:=lC w E z.cells i.size m (grownCap w m 0 E) (Builtin.zeroCells z.cells m).toList H.zs (by rw[Array.length_toList,size_zeroCells,H.zs]) (grownCap_ge w _ _ _) (grownCap_le_maxLen w _ _ _ (by simp only[maxLen]; omega));simpa using this
 ·exact⟨rfl,rfl,rfl,by simp,fun b hb=>(ae w.drew (.cells (Builtin.zeroCells z.cells m ++ Builtin.zeroCells z.cells (grownCap w m 0 E - m)) E)).block b hb⟩
theorem eO(H:Kd P T E k bytes z)(ty:TypeId)(R:Rw w E k g n c xs)(o dLen dCap:Nat)(a:Addr)(sLen sCap:Nat)(cs:List Value)(m:Nat)(hm:Nat.min sLen dLen=m)(hn:cs.length=m * k)(b:∀ j v,cs[j]? = some v->w.cell? (a.add j)=some v)(d:o + cs.length<=xs.length)(q:∀ v∈cs,v.oneCell'=true) :
  ∃ w',(Builtin.copy_ #[T,T] ty #[.slice (some ⟨g,o,none⟩) dLen dCap,.slice (some a) sLen sCap]).run P w=.ok (goInt m) w'/\Rw w' E k g n c (splice xs o cs)/\Chg (· = g) w w':=by
 obtain⟨sp,i,hx,hc,h,f⟩:=R.ex;have p:=wX (P:=P) w T T ty E k g o dLen dCap a sLen sCap (xs ++ sp) cs E H.und H.size i m hm hn b (by rw[List.length_append]; omega) q
 have e:splice (xs ++ sp) o cs=splice xs o cs ++ sp:=by
  rw[ey,ey,List.take_append_of_le_length (by omega),List.drop_append_of_le_length (by omega),List.append_assoc,List.append_assoc,List.append_assoc]
 have l:=length_splice xs o cs d;refine⟨_,p,⟨sp,by rw[e]; exact i.row _,by rw[l]; exact hx,by rw[List.length_append,l,<- List.length_append]; exact hc,h,f⟩,(Chg.refl (· = g) w).row (g:=g) (.inl rfl) _⟩
theorem jL(H:Kd P T E k bytes z)(ty:TypeId)(R:Rw w E k b n c xs)(a:Addr)(m cc:Nat)(news:List Value)(o:news.length=m * k)(f:∀ j u,news[j]? = some u->w.cell? (a.add j)=some u)(r:∀ u∈news,u.oneCell'=true)(d:n + m<=c) :
  ∃ w',(Builtin.append_ #[T,T] ty #[.slice (some ⟨b,0,none⟩) n c,.slice (some a) m cc]).run P w=.ok (.slice (some ⟨b,0,none⟩) (n + m) c) w'/\Rw w' E k b (n + m) c (xs ++ news)/\Chg (· = b) w w':=by
 obtain⟨i,hi,x,hs,hb⟩:=info_parts H.inf;obtain⟨sp,p,hx,hc,s,l⟩:=R.ex;subst hs hb
 have h:n * i.size + news.length<=(xs ++ sp).toArray.size:=by
  rw[List.size_toArray,hc,o,<- Nat.add_mul]; exact Nat.mul_le_mul_right _ d
 have q:=run_append_room (P:=P) w T ty E i H.und hi b n c (xs ++ sp).toArray p.blk a m cc news o f r d h;refine⟨_,q,⟨sp.drop news.length,?_,by rw[List.length_append,hx,o,Nat.add_mul],?_,d,l⟩,(Chg.refl (· = b) w).row (g:=b) (.inl rfl) _⟩
 ·have:=p.row (xs ++ news ++ sp.drop news.length)
  have e:(xs ++ sp).toArray.toList.take (n * i.size) ++ news ++ (xs ++ sp).toArray.toList.drop (n * i.size + news.length)=xs ++ news ++ sp.drop news.length:=by
   rw[show (xs ++ sp).toArray.toList=xs ++ sp from rfl,<- hx,List.take_left,<- List.drop_drop,List.drop_left]
  rw[e]; exact this
 ·have t:xs.length + sp.length=c * i.size:=by rw[<- List.length_append]; exact hc
  have v:n * i.size + m * i.size<=c * i.size:=by rw[<- Nat.add_mul]; exact Nat.mul_le_mul_right _ d
  rw[List.length_append,List.length_append,List.length_drop]; omega
theorem iv(H:Kd P T E k bytes z)(ty:TypeId)(R:Rw w E k g n c xs)(m cc:Nat)(hm:0 < m)(a:n + m<=c) :
  ∃ w',(Builtin.clear_ #[T] ty #[.slice (some ⟨g,n * k,none⟩) m cc]).run P w=.ok (.tuple #[]) w'/\Rw w' E k g n c xs/\Chg (· = g) w w':=by
 obtain⟨sp,f,hx,hc,d,b⟩:=R.ex
 have j:n * k + m * k<=c * k:=by rw[<- Nat.add_mul]; exact Nat.mul_le_mul_right _ a
 have h:=sL (P:=P) w T ty E z k g (n * k) m cc (xs ++ sp) E H.und H.zero H.zs H.z1 f hm H.k0 (by omega)
 have e:splice (xs ++ sp) (n * k) (Builtin.zeroCells z.cells m).toList=xs ++ ((Builtin.zeroCells z.cells m).toList ++ sp.drop (Builtin.zeroCells z.cells m).toList.length):=by
  rw[ey,<- hx,List.take_left,<- List.drop_drop,List.drop_left,List.append_assoc]
 have i:((Builtin.zeroCells z.cells m).toList).length=m * k:=by rw[Array.length_toList,size_zeroCells,H.zs]
 refine⟨_,h,⟨_,by rw[e]; exact f.row _,hx,?_,d,b⟩,(Chg.refl (· = g) w).row (g:=g) (.inl rfl) _⟩;rw[List.length_append] at hc ⊢;rw[List.length_append,List.length_drop,i];omega
end
end
end Pg
end
section
namespace Pg
open Go.RowKit Go.Lib
theorem KE:Kd Tryz.prog 199 196 2 48 (.agg #[.slice none 0 0,.slice none 0 0]):=⟨by kernel_rfl,by kernel_rfl,rfl,by simp[Value.cells,Value.oneCell'],by decide⟩
theorem KP:Kd Tryz.prog 142 199 1 24 (.slice none 0 0):=⟨by kernel_rfl,by kernel_rfl,rfl,by simp[Value.cells,Value.oneCell'],by decide⟩
theorem j1:Tryz.prog.underlying 3=some (.int .i64):=by kernel_rfl
theorem mixed:Tryz.prog.follows .mixedOrders=true:=by kernel_rfl
section
variable {w:World} {b n c i vb:Nat} {xs:List Value} {e1 e2:Value}
theorem yw (R:Rw w 196 2 b n c xs) (i:Blk w vb [e1,e2] 196) (hn:n<=1000000000) (f:∀ v∈[e1,e2],v.oneCell'=true) :
  Calls Tryz.prog 193 #[.slice (some ⟨b,0,none⟩) n c,.int .i64 n,.slice (some ⟨vb,0,none⟩) 1 1] w fun e w'=>∃ b' c',e=.returned (.slice (some ⟨b',0,none⟩) (n + 1) c')/\(b'=b\/w.heap.size<=b')/\Rw w' 196 2 b' (n + 1) c' (xs ++ [e1,e2])/\Chg (· = b) w w':=by
 obtain⟨b',c',W,l,d,k,hC⟩:=dB KE 199 R ⟨vb,0,none⟩ 1 1 [e1,e2] rfl (fun j u m=>by rw[Addr.add_lit,Nat.zero_add]; exact i.cell m) f (by omega) (by omega);have a:=R.le;simp only[maxLen] at a;have h:=a.1;have g:=a.2;clear a R i f;go_enter Tryz.func193,Tryz.ntmps193;go_wp2_with (at_builtin; refine Lib.wpList_append_run _ rfl _ _ _ _ rfl _ _ rfl rfl _ _ l ?_)
 all_goals (
  go_ret;exact⟨b',c',rfl,d.imp id (fun e=>by omega),k,hC⟩)
theorem Ae (a:Blk w vb [e1,e2] 196) :
  Calls Tryz.prog 193 #[.slice none 0 0,.int .i64 0,.slice (some ⟨vb,0,none⟩) 1 1] w fun e w'=>∃ c',e=.returned (.slice (some ⟨w.heap.size,0,none⟩) 1 c')/\Rw w' 196 2 w.heap.size 1 c' [e1,e2]/\Below w.heap.size w w':=by
 obtain⟨c',W,c,b,hC⟩:=fg (w:=w) KE 199 ⟨vb,0,none⟩ 1 1 [e1,e2] rfl (fun j u d=>by rw[Addr.add_lit,Nat.zero_add]; exact a.cell d) (by decide) (by decide) (by decide);clear a;go_enter Tryz.func193,Tryz.ntmps193;go_wp2_with (at_builtin; refine Lib.wpList_append_run _ rfl _ _ _ _ rfl _ _ rfl rfl _ _ c ?_);go_ret;exact⟨c',rfl,b,hC⟩
theorem su (R : Rw w 196 2 b n c xs) (l : Blk w vb [e1, e2] 196) (o : vb ≠ b) (hi : i < n) (f : n + 1 ≤ c) (B : ∀ v ∈ xs, v.oneCell' = true) (D : ∀ v ∈ [e1, e2], v.oneCell' = true) :
    Calls Tryz.prog 193 #[.slice (some ⟨b, 0, none⟩) n c, .int .i64 i, .slice (some ⟨vb, 0, none⟩) 1 1] w fun e w' => e = .returned (.slice (some ⟨b, 0, none⟩) (n + 1) c) ∧ Rw w' 196 2 b (n + 1) c (xs.take (i * 2) ++ [e1, e2] ++ xs.drop (i * 2)) ∧ Chg (· = b) w w' := by
  have hx := R.len;have a := R.le;simp only[maxLen] at a;have C := a.1;have E := a.2
  have p : ∃ cs, Blk w b cs 196 ∧ cs.length = c * 2 := by
    obtain⟨sp, h, _, N, _⟩:= R.ex;exact⟨_, h, N⟩
  have r : ∀ (t z : Nat), (callFunc 224 #[.slice (some ⟨vb, 0, none⟩) 1 1, .slice (some ⟨b, (i + 1) * 2, none⟩) t z]).run Tryz.prog w = .ok (.value (.bool false)) w := fun t z => by
    obtain⟨cs, h, T⟩:= p;rw[run_callFunc_extern Tryz.func224 (by kernel_rfl) (by kernel_rfl) (by kernel_rfl) (e := Extern.SlicesOverlaps.overlaps #[199, 199] #[4]) (by kernel_rfl),
      Lib.run_overlaps_apart w 199 4 196 KE.und 2 KE.sizeOf ⟨vb, 0, none⟩ ⟨b, (i + 1) * 2, none⟩ 1 1 t z o 196 196 2 (c * 2) (by simp[World.shape?, l.blk]) (by simp[World.shape?, h.blk]; simpa using T) (by omega) (l.free _) (l.free _)]
    rfl
  have g : (xs.drop (i * 2)).length = (n - i) * 2 := by rw[List.length_drop, hx]; omega
  obtain⟨s, hs, u⟩:= R.drew.more (m := 1) f;obtain⟨G, S, x, y⟩:= eO (w := w.drew) KE 3 u ((i + 1) * 2) (n - i) (c - (i + 1)) ⟨b, i * 2, none⟩ (n + 1 - i) (c - i) (xs.drop (i * 2)) (n - i) (by simp only[Nat.min_def]; split <;> omega) g
    (fun j v q => by
      rw[List.getElem?_drop] at q;rw[Addr.add_lit];exact R.cell (w := w) (by simpa using q)) (by rw[g, u.len]; omega) (fun v hv => B v (List.mem_of_mem_drop hv))
  have k : Blk G vb [e1, e2] 196 := l.drew.chg y o;obtain⟨M, Q, A, F⟩:= eO (w := G) KE 3 x (i * 2) (n + 1 - i) (c - i) ⟨vb, 0, none⟩ 1 1 [e1, e2] 1 (by simp only[Nat.min_def]; split <;> omega) rfl
    (fun j v q => by rw[Addr.add_lit, Nat.zero_add]; exact k.cell q) (by rw[x.len]; simp; omega) D
  have d : splice (splice (xs ++ s) ((i + 1) * 2) (xs.drop (i * 2))) (i * 2) [e1, e2] = xs.take (i * 2) ++ [e1, e2] ++ xs.drop (i * 2) := by
    have h := rF xs s [e1, e2] (i * 2) (by omega) (by simp[hs])
    have q0 : s.drop ([e1, e2] : List Value).length = [] := List.drop_of_length_le (by simp[hs]);rw[q0, List.append_nil] at h;simpa[Nat.add_mul] using h
  have W := A.to d
  have K : Chg (· = b) w M := ((Chg.refl _ w).drew.trans y (fun _ _ h => h)).trans F (fun _ _ h => h)
  have H : ¬ ((i : Int) = (n : Int)) := by omega
  have L : IntKind.i64.wrap ((i : Int) + 1) = (i : Int) + 1 := by rw[IntKind.wrap_i64]; omega
  have I : (0 : Int) ≤ (i : Int) + 1 := by omega
  have U : i ≤ n := by omega
  have O : ((i : Int) + 1).toNat = i + 1 := by omega
  have P : ¬ (c = i + 1) := by omega
  have J : (i : Int) ≤ (n : Int) + 1 := by omega
  have V : ¬ (c = i) := by omega
  clear a R p u x A y F d l k hs g B D;have mixed := mixed;go_enter Tryz.func193, Tryz.ntmps193;go_wp2_with (simp only[r]);go_region;go_wp2;go_ret;exact⟨rfl, W, K⟩
theorem vY (R : Rw w 196 2 b n c xs) (u : Blk w vb [e1, e2] 196) (hi : i < n) (y : c < n + 1) (hn : n ≤ 1000000000) (E : ∀ v ∈ xs, v.oneCell' = true) (H : ∀ v ∈ [e1, e2], v.oneCell' = true) :
    Calls Tryz.prog 193 #[.slice (some ⟨b, 0, none⟩) n c, .int .i64 i, .slice (some ⟨vb, 0, none⟩) 1 1] w fun e w' => ∃ c', e = .returned (.slice (some ⟨w.heap.size, 0, none⟩) (n + 1) c') ∧ Rw w' 196 2 w.heap.size (n + 1) c' (xs.take (i * 2) ++ [e1, e2] ++ xs.drop (i * 2)) ∧ Below w.heap.size w w' := by
  have hx := R.len;have a := R.le;simp only[maxLen] at a;have G := a.1;have K := a.2;have B := R.lt;have D := u.lt;obtain⟨c', z, p, o, k⟩:= oF KE 3 199 j1 (R.front (m := i) (by omega)) (n + 1 - i) (by omega) (by omega) (by omega) (by omega);rw[show ((n + 1 - i : Nat) : Int) = (n : Int) + 1 - (i : Int) by omega, show i + (n + 1 - i) = n + 1 by omega] at p;rw[show i + (n + 1 - i) = n + 1 by omega] at o;have f := o.le;simp only[maxLen] at f;have C := f.1;have A := f.2
  have l : Blk z vb [e1, e2] 196 := u.keep k;obtain⟨h, X, x, r⟩:= eO (w := z) KE 3 o (i * 2) (n + 1 - i) (c' - i) ⟨vb, 0, none⟩ 1 1 [e1, e2] 1 (by simp only[Nat.min_def]; split <;> omega) rfl
    (fun j v q => by rw[Addr.add_lit, Nat.zero_add]; exact l.cell q) (by rw[o.len]; simp; omega) H
  have d : (xs.drop (i * 2)).length = (n - i) * 2 := by rw[List.length_drop, hx]; omega
  have L : Rw h.drew 196 2 b n c xs := ((R.keep k).chg r (by show ¬ b = w.heap.size; omega)).drew;obtain⟨J, aa, I, F⟩:= eO (w := h.drew) KE 3 x.drew ((i + 1) * 2) (n - i) (c' - (i + 1)) ⟨b, i * 2, none⟩ (n - i) (c - i) (xs.drop (i * 2)) (n - i) (by simp) d
    (fun j v q => by
      rw[List.getElem?_drop] at q;rw[Addr.add_lit];exact L.cell (by simpa using q)) (by rw[d, x.len]; omega) (fun v hv => E v (List.mem_of_mem_drop hv))
  have g : splice (splice (xs.take (i * 2) ++ (Builtin.zeroCells (.agg #[.slice none 0 0, .slice none 0 0] : Value).cells (n + 1 - i)).toList) (i * 2) [e1, e2]) ((i + 1) * 2) (xs.drop (i * 2)) = xs.take (i * 2) ++ [e1, e2] ++ xs.drop (i * 2) := by
    have hA : (xs.take (i * 2)).length = i * 2 := by rw[List.length_take, hx]; omega
    generalize hZ : (Builtin.zeroCells (.agg #[.slice none 0 0, .slice none 0 0] : Value).cells (n + 1 - i)).toList = Z
    have t : Z.length = (n + 1 - i) * 2 := by rw[← hZ, Array.length_toList, size_zeroCells]; rfl
    have q1 : xs.take (i * 2) ++ Z = xs.take (i * 2) ++ Z.take 2 ++ Z.drop 2 := by rw[List.append_assoc, List.take_append_drop]
    rw[q1, fp _ (Z.take 2) [e1, e2] _ _ hA (by rw[List.length_take]; simp; omega)];have S := fp (xs.take (i * 2) ++ [e1, e2]) (Z.drop 2) (xs.drop (i * 2)) [] ((i + 1) * 2) (by rw[List.length_append, hA]; simp <;> omega) (by rw[List.length_drop, t, d]; omega);simpa using S
  have N := I.to g
  have s : Below w.heap.size w J := by
    have k2 : Below w.heap.size z h := r.below (fun b hb => by omega) (k.size)
    have k3 : Below w.heap.size h.drew J := F.below (fun b hb => by omega) (by have := k.size; have := r.size; show w.heap.size ≤ h.heap.size; omega);exact(k.trans k2).trans ((⟨rfl, rfl, rfl, Nat.le_refl _, fun _ _ => rfl⟩ : Below w.heap.size h h.drew).trans k3)
  have O : ¬ ((i : Int) = (n : Int)) := by omega
  have U : IntKind.i64.wrap ((i : Int) + 1) = (i : Int) + 1 := by rw[IntKind.wrap_i64]; omega
  have P : (0 : Int) ≤ (i : Int) + 1 := by omega
  have Y : i ≤ n := by omega
  have V : ((i : Int) + 1).toNat = i + 1 := by omega
  have W : ¬ (c' = i + 1) := by omega
  have M : i + 1 ≤ n + 1 := by omega
  have Q : (i : Int) ≤ (n : Int) + 1 := by omega
  have ab : ¬ (c' = i) := by omega
  have T : ¬ (c = i) := by omega
  clear a f R o x I L r F k g u l d E H;have mixed := mixed;go_enter Tryz.func193, Tryz.ntmps193;go_wp2_with (at_builtin; refine Lib.wpList_append_run _ rfl _ _ _ _ rfl _ _ rfl rfl _ _ p ?_);go_region;go_wp2;go_ret;exact⟨c', rfl, N, s⟩
theorem insE (R:Rw w 196 2 b n c xs) (g:Blk w vb [e1,e2] 196) (d:vb≠b) (hi:i<=n) (hn:n<=1000000000) (j:∀ v∈xs,v.oneCell'=true) (f:∀ v∈[e1,e2],v.oneCell'=true) :
  Calls Tryz.prog 193 #[.slice (some ⟨b,0,none⟩) n c,.int .i64 i,.slice (some ⟨vb,0,none⟩) 1 1] w fun e w'=>∃ b' c',e=.returned (.slice (some ⟨b',0,none⟩) (n + 1) c')/\(b'=b\/w.heap.size<=b')/\Rw w' 196 2 b' (n + 1) c' (xs.take (i * 2) ++ [e1,e2] ++ xs.drop (i * 2))/\Chg (· = b) w w':=by
 by_cases h:i=n
 ·subst h;refine(yw R g hn f).mono ?_
  rintro e w' ⟨b',c',rfl,hb,a,hC⟩;exact⟨b',c',rfl,hb,a.to (by rw[List.take_of_length_le (by rw[R.len]; omega),List.drop_of_length_le (by rw[R.len]; omega),List.append_nil]),hC⟩
 ·by_cases k:n + 1<=c
  ·refine(su R g d (by omega) k j f).mono ?_
   rintro e w' ⟨rfl,a,hC⟩;exact⟨b,c,rfl,.inl rfl,a,hC⟩
  ·refine(vY R g (by omega) (by omega) hn j f).mono ?_
   rintro e w' ⟨c',rfl,a,hC⟩;exact⟨_,c',rfl,.inr (Nat.le_refl _),a,Chg.of hC⟩
end
section
variable {w:World} {b n c i vb:Nat} {xs:List Value} {e1:Value}
theorem yA (R:Rw w 199 1 b n c xs) (i:Blk w vb [e1] 199) (hn:n<=1000000000) (f:∀ v∈[e1],v.oneCell'=true) :
  Calls Tryz.prog 227 #[.slice (some ⟨b,0,none⟩) n c,.int .i64 n,.slice (some ⟨vb,0,none⟩) 1 1] w fun e w'=>∃ b' c',e=.returned (.slice (some ⟨b',0,none⟩) (n + 1) c')/\(b'=b\/w.heap.size<=b')/\Rw w' 199 1 b' (n + 1) c' (xs ++ [e1])/\Chg (· = b) w w':=by
 obtain⟨b',c',W,l,d,k,hC⟩:=dB KP 142 R ⟨vb,0,none⟩ 1 1 [e1] rfl (fun j u m=>by rw[Addr.add_lit,Nat.zero_add]; exact i.cell m) f (by omega) (by omega);have a:=R.le;simp only[maxLen] at a;have h:=a.1;have g:=a.2;clear a R i f;go_enter Tryz.func227,Tryz.ntmps227;go_wp2_with (at_builtin; refine Lib.wpList_append_run _ rfl _ _ _ _ rfl _ _ rfl rfl _ _ l ?_)
 all_goals (
  go_ret;exact⟨b',c',rfl,d.imp id (fun e=>by omega),k,hC⟩)
theorem sX (R : Rw w 199 1 b n c xs) (l : Blk w vb [e1] 199) (o : vb ≠ b) (hi : i < n) (f : n + 1 ≤ c) (B : ∀ v ∈ xs, v.oneCell' = true) (D : ∀ v ∈ [e1], v.oneCell' = true) :
    Calls Tryz.prog 227 #[.slice (some ⟨b, 0, none⟩) n c, .int .i64 i, .slice (some ⟨vb, 0, none⟩) 1 1] w fun e w' => e = .returned (.slice (some ⟨b, 0, none⟩) (n + 1) c) ∧ Rw w' 199 1 b (n + 1) c (xs.take (i * 1) ++ [e1] ++ xs.drop (i * 1)) ∧ Chg (· = b) w w' := by
  have hx := R.len;have a := R.le;simp only[maxLen] at a;have C := a.1;have E := a.2
  have p : ∃ cs, Blk w b cs 199 ∧ cs.length = c * 1 := by
    obtain⟨sp, h, _, N, _⟩:= R.ex;exact⟨_, h, N⟩
  have r : ∀ (t z : Nat), (callFunc 248 #[.slice (some ⟨vb, 0, none⟩) 1 1, .slice (some ⟨b, i + 1, none⟩) t z]).run Tryz.prog w = .ok (.value (.bool false)) w := fun t z => by
    obtain⟨cs, h, T⟩:= p;rw[run_callFunc_extern Tryz.func248 (by kernel_rfl) (by kernel_rfl) (by kernel_rfl) (e := Extern.SlicesOverlaps.overlaps #[142, 142] #[4]) (by kernel_rfl),
      Lib.run_overlaps_apart w 142 4 199 KP.und 1 KP.sizeOf ⟨vb, 0, none⟩ ⟨b, i + 1, none⟩ 1 1 t z o 199 199 1 (c * 1) (by simp[World.shape?, l.blk]) (by simp[World.shape?, h.blk]; simpa using T) (by omega) (l.free _) (l.free _)]
    rfl
  have g : (xs.drop (i * 1)).length = (n - i) * 1 := by rw[List.length_drop, hx]; omega
  obtain⟨s, hs, u⟩:= R.drew.more (m := 1) f;obtain⟨G, S, x, y⟩:= eO (w := w.drew) KP 3 u (i + 1) (n - i) (c - (i + 1)) ⟨b, i, none⟩ (n + 1 - i) (c - i) (xs.drop (i * 1)) (n - i) (by simp only[Nat.min_def]; split <;> omega) g
    (fun j v q => by
      rw[List.getElem?_drop] at q;rw[Addr.add_lit];exact R.cell (w := w) (by simpa using q)) (by rw[g, u.len]; omega) (fun v hv => B v (List.mem_of_mem_drop hv))
  have k : Blk G vb [e1] 199 := l.drew.chg y o;obtain⟨M, Q, A, F⟩:= eO (w := G) KP 3 x (i) (n + 1 - i) (c - i) ⟨vb, 0, none⟩ 1 1 [e1] 1 (by simp only[Nat.min_def]; split <;> omega) rfl
    (fun j v q => by rw[Addr.add_lit, Nat.zero_add]; exact k.cell q) (by rw[x.len]; simp; omega) D
  have d : splice (splice (xs ++ s) (i + 1) (xs.drop (i * 1))) (i) [e1] = xs.take (i * 1) ++ [e1] ++ xs.drop (i * 1) := by
    have h := rF xs s [e1] (i * 1) (by omega) (by simp[hs])
    have q0 : s.drop ([e1] : List Value).length = [] := List.drop_of_length_le (by simp[hs]);rw[q0, List.append_nil] at h;simpa[Nat.add_mul] using h
  have W := A.to d
  have K : Chg (· = b) w M := ((Chg.refl _ w).drew.trans y (fun _ _ h => h)).trans F (fun _ _ h => h)
  have H : ¬ ((i : Int) = (n : Int)) := by omega
  have L : IntKind.i64.wrap ((i : Int) + 1) = (i : Int) + 1 := by rw[IntKind.wrap_i64]; omega
  have I : (0 : Int) ≤ (i : Int) + 1 := by omega
  have U : i ≤ n := by omega
  have O : ((i : Int) + 1).toNat = i + 1 := by omega
  have P : ¬ (c = i + 1) := by omega
  have J : (i : Int) ≤ (n : Int) + 1 := by omega
  have V : ¬ (c = i) := by omega
  clear a R p u x A y F d l k hs g B D;have mixed := mixed;go_enter Tryz.func227, Tryz.ntmps227;go_wp2_with (simp only[r]);go_region;go_wp2;go_ret;exact⟨rfl, W, K⟩
theorem vP (R : Rw w 199 1 b n c xs) (u : Blk w vb [e1] 199) (hi : i < n) (y : c < n + 1) (hn : n ≤ 1000000000) (E : ∀ v ∈ xs, v.oneCell' = true) (H : ∀ v ∈ [e1], v.oneCell' = true) :
    Calls Tryz.prog 227 #[.slice (some ⟨b, 0, none⟩) n c, .int .i64 i, .slice (some ⟨vb, 0, none⟩) 1 1] w fun e w' => ∃ c', e = .returned (.slice (some ⟨w.heap.size, 0, none⟩) (n + 1) c') ∧ Rw w' 199 1 w.heap.size (n + 1) c' (xs.take (i * 1) ++ [e1] ++ xs.drop (i * 1)) ∧ Below w.heap.size w w' := by
  have hx := R.len;have a := R.le;simp only[maxLen] at a;have G := a.1;have K := a.2;have B := R.lt;have D := u.lt;obtain⟨c', z, p, o, k⟩:= oF KP 3 142 j1 (R.front (m := i) (by omega)) (n + 1 - i) (by omega) (by omega) (by omega) (by omega);rw[show ((n + 1 - i : Nat) : Int) = (n : Int) + 1 - (i : Int) by omega, show i + (n + 1 - i) = n + 1 by omega] at p;rw[show i + (n + 1 - i) = n + 1 by omega] at o;have f := o.le;simp only[maxLen] at f;have C := f.1;have A := f.2
  have l : Blk z vb [e1] 199 := u.keep k;obtain⟨h, X, x, r⟩:= eO (w := z) KP 3 o (i) (n + 1 - i) (c' - i) ⟨vb, 0, none⟩ 1 1 [e1] 1 (by simp only[Nat.min_def]; split <;> omega) rfl
    (fun j v q => by rw[Addr.add_lit, Nat.zero_add]; exact l.cell q) (by rw[o.len]; simp; omega) H
  have d : (xs.drop (i * 1)).length = (n - i) * 1 := by rw[List.length_drop, hx]; omega
  have L : Rw h.drew 199 1 b n c xs := ((R.keep k).chg r (by show ¬ b = w.heap.size; omega)).drew;obtain⟨J, aa, I, F⟩:= eO (w := h.drew) KP 3 x.drew (i + 1) (n - i) (c' - (i + 1)) ⟨b, i, none⟩ (n - i) (c - i) (xs.drop (i * 1)) (n - i) (by simp) d
    (fun j v q => by
      rw[List.getElem?_drop] at q;rw[Addr.add_lit];exact L.cell (by simpa using q)) (by rw[d, x.len]; omega) (fun v hv => E v (List.mem_of_mem_drop hv))
  have g : splice (splice (xs.take (i * 1) ++ (Builtin.zeroCells (.slice none 0 0 : Value).cells (n + 1 - i)).toList) (i) [e1]) (i + 1) (xs.drop (i * 1)) = xs.take (i * 1) ++ [e1] ++ xs.drop (i * 1) := by
    have hA : (xs.take (i * 1)).length = i := by rw[List.length_take, hx]; omega
    generalize hZ : (Builtin.zeroCells (.slice none 0 0 : Value).cells (n + 1 - i)).toList = Z
    have t : Z.length = (n + 1 - i) * 1 := by rw[← hZ, Array.length_toList, size_zeroCells]; rfl
    have q1 : xs.take (i * 1) ++ Z = xs.take (i * 1) ++ Z.take 1 ++ Z.drop 1 := by rw[List.append_assoc, List.take_append_drop]
    rw[q1, fp _ (Z.take 1) [e1] _ _ hA (by rw[List.length_take]; simp; omega)];have S := fp (xs.take (i * 1) ++ [e1]) (Z.drop 1) (xs.drop (i * 1)) [] (i + 1) (by rw[List.length_append, hA]; simp <;> omega) (by rw[List.length_drop, t, d]; omega);simpa using S
  have N := I.to g
  have s : Below w.heap.size w J := by
    have k2 : Below w.heap.size z h := r.below (fun b hb => by omega) (k.size)
    have k3 : Below w.heap.size h.drew J := F.below (fun b hb => by omega) (by have := k.size; have := r.size; show w.heap.size ≤ h.heap.size; omega);exact(k.trans k2).trans ((⟨rfl, rfl, rfl, Nat.le_refl _, fun _ _ => rfl⟩ : Below w.heap.size h h.drew).trans k3)
  have O : ¬ ((i : Int) = (n : Int)) := by omega
  have U : IntKind.i64.wrap ((i : Int) + 1) = (i : Int) + 1 := by rw[IntKind.wrap_i64]; omega
  have P : (0 : Int) ≤ (i : Int) + 1 := by omega
  have Y : i ≤ n := by omega
  have V : ((i : Int) + 1).toNat = i + 1 := by omega
  have W : ¬ (c' = i + 1) := by omega
  have M : i + 1 ≤ n + 1 := by omega
  have Q : (i : Int) ≤ (n : Int) + 1 := by omega
  have ab : ¬ (c' = i) := by omega
  have T : ¬ (c = i) := by omega
  clear a f R o x I L r F k g u l d E H;have mixed := mixed;go_enter Tryz.func227, Tryz.ntmps227;go_wp2_with (at_builtin; refine Lib.wpList_append_run _ rfl _ _ _ _ rfl _ _ rfl rfl _ _ p ?_);go_region;go_wp2;go_ret;exact⟨c', rfl, N, s⟩
theorem insP (R:Rw w 199 1 b n c xs) (g:Blk w vb [e1] 199) (d:vb≠b) (hi:i<=n) (hn:n<=1000000000) (j:∀ v∈xs,v.oneCell'=true) (f:∀ v∈[e1],v.oneCell'=true) :
  Calls Tryz.prog 227 #[.slice (some ⟨b,0,none⟩) n c,.int .i64 i,.slice (some ⟨vb,0,none⟩) 1 1] w fun e w'=>∃ b' c',e=.returned (.slice (some ⟨b',0,none⟩) (n + 1) c')/\(b'=b\/w.heap.size<=b')/\Rw w' 199 1 b' (n + 1) c' (xs.take (i * 1) ++ [e1] ++ xs.drop (i * 1))/\Chg (· = b) w w':=by
 by_cases h:i=n
 ·subst h;refine(yA R g hn f).mono ?_
  rintro e w' ⟨b',c',rfl,hb,a,hC⟩;exact⟨b',c',rfl,hb,a.to (by rw[List.take_of_length_le (by rw[R.len]; omega),List.drop_of_length_le (by rw[R.len]; omega),List.append_nil]),hC⟩
 ·by_cases k:n + 1<=c
  ·refine(sX R g d (by omega) k j f).mono ?_
   rintro e w' ⟨rfl,a,hC⟩;exact⟨b,c,rfl,.inl rfl,a,hC⟩
  ·refine(vP R g (by omega) (by omega) hn j f).mono ?_
   rintro e w' ⟨c',rfl,a,hC⟩;exact⟨_,c',rfl,.inr (Nat.le_refl _),a,Chg.of hC⟩
end
end Pg
end
section
namespace Pg
open Go.RowKit Go.Lib
section
variable {w:World} {b n c i:Nat} {xs:List Value}
theorem AM (R : Rw w 196 2 b n c xs) (hi : i < n) (g : c ≠ i + 1) (r : ∀ v ∈ xs, v.oneCell' = true) :
    Calls Tryz.prog 207 #[.slice (some ⟨b, 0, none⟩) n c, .int .i64 i, .int .i64 (i + 1)] w fun e w' => e = .returned (.slice (some ⟨b, 0, none⟩) (n - 1) c) ∧ Rw w' 196 2 b (n - 1) c (xs.take (i * 2) ++ xs.drop ((i + 1) * 2)) ∧ Chg (· = b) w w' := by
  have hx := R.len;have a := R.le;simp only[maxLen] at a;have t := a.1;have u := a.2
  have f : (xs.drop ((i + 1) * 2)).length = (n - (i + 1)) * 2 := by rw[List.length_drop, hx]; omega
  obtain⟨M, d, k, x⟩:= jL KE 199 (R.drew.front (m := i) (by omega)) ⟨b, (i + 1) * 2, none⟩ (n - (i + 1)) (c - (i + 1)) (xs.drop ((i + 1) * 2)) f
    (fun j v o => by
      rw[List.getElem?_drop] at o;rw[Addr.add_lit];exact R.drew.cell (by simpa using o)) (fun v hv => r v (List.mem_of_mem_drop hv)) (by omega)
  rw[show i + (n - (i + 1)) = n - 1 by omega] at k;obtain⟨E, l, p, y⟩:= iv KE 0 k (n - (n - 1)) (c - (n - 1)) (by omega) (by omega)
  have C : Chg (· = b) w E := ((Chg.refl _ w).drew.trans x (fun _ _ h => h)).trans y (fun _ _ h => h);obtain⟨q, I⟩ : ∃ q, n = i + 1 + q := ⟨n - (i + 1), by omega⟩;subst I;rw[show i + 1 + q - (i + 1) = q by omega] at d;rw[show i + 1 + q - 1 = i + q by omega] at l p ⊢
  have z : ¬ ((i : Int) = (i : Int) + 1) := by omega
  have K : i ≤ i + 1 + q := by omega
  have H : ¬ (c = i + 1) := g
  have B : (0 : Int) ≤ (i : Int) + 1 := by omega
  have D : i ≤ c := by omega
  have G : ((i : Int) + 1).toNat = i + 1 := by omega
  have J : ¬ (c = i + q) := by omega
  have L : (i : Int) + 1 ≤ ((i + 1 + q : Nat) : Int) := by omega
  have A : i + 1 ≤ i + 1 + q := by omega
  have s : (i : Int) + 1 ≤ (i : Int) + 1 + (q : Int) := by omega
  have F : ((i + 1 + q : Nat) : Int) ≤ (c : Int) := by omega
  clear a R k x y f r;have mixed := mixed;go_enter Tryz.func207, Tryz.ntmps207;go_wp2;go_region_law_o (refine jh rfl (.tmp 22) (.tmp 25) 199 199 rfl _ _ (by simp[Act.eval, Act.put]) (by simp[Act.eval, Act.put]) d ?_);go_wp2;go_ret;exact⟨rfl, p, C⟩
theorem wZ (R:Rw w 196 2 b (i + 1) (i + 1) xs) :
  Calls Tryz.prog 207 #[.slice (some ⟨b,0,none⟩) (i + 1) (i + 1),.int .i64 i,.int .i64 (i + 1)] w fun e w'=>e=.returned (.slice (some ⟨b,0,none⟩) i (i + 1))/\Rw w' 196 2 b i (i + 1) (xs.take (i * 2))/\Chg (· = b) w w':=by
 have a:=R.le;simp only[maxLen] at a;have f:=a.2;obtain⟨y,c,d,g⟩:=jL KE 199 (R.drew.front (m:=i) (by omega)) ⟨b,0,none⟩ 0 0 [] (by simp) (fun j v r=>by simp at r) (fun v hv=>by simp at hv) (by omega);rw[Nat.add_zero] at d c;rw[List.append_nil] at d;obtain⟨l,p,t,k⟩:=iv KE 0 d 1 1 (by omega) (by omega)
 have x:Chg (· = b) w l:=((Chg.refl _ w).drew.trans g (fun _ _ h=>h)).trans k (fun _ _ h=>h)
 have o:¬ ((i:Int)=(i:Int) + 1):=by omega
 have s:i<=i + 1:=by omega
 have q:(0:Int)<=(i:Int) + 1:=by omega
 have n:((i:Int) + 1).toNat=i + 1:=by omega
 have e1:i + 1 - i=1:=by omega
 have u:(i:Int)<=(i:Int) + 1:=by omega
 clear a R d g k;have mixed:=mixed;go_enter Tryz.func207,Tryz.ntmps207;go_wp2;go_region_law_o (refine jh rfl (.tmp 22) (.tmp 25) 199 199 rfl _ _ (by simp[Act.eval,Act.put]) (by simp[Act.eval,Act.put]) c ?_);go_wp2;go_ret;exact⟨rfl,t,x⟩
theorem delE (R:Rw w 196 2 b n c xs) (hi:i < n) (d:∀ v∈xs,v.oneCell'=true) :
  Calls Tryz.prog 207 #[.slice (some ⟨b,0,none⟩) n c,.int .i64 i,.int .i64 (i + 1)] w fun e w'=>e=.returned (.slice (some ⟨b,0,none⟩) (n - 1) c)/\Rw w' 196 2 b (n - 1) c (xs.take (i * 2) ++ xs.drop ((i + 1) * 2))/\Chg (· = b) w w':=by
 by_cases h:c=i + 1
 ·have f:=R.le;obtain rfl:n=i + 1:=by omega
  subst h;refine(wZ R).mono ?_
  rintro e w' ⟨rfl,a,hC⟩;exact⟨by simp,a.to (by rw[List.drop_of_length_le (by rw[R.len]; omega),List.append_nil]),hC⟩
 ·exact AM R hi h d
end
section
variable {w:World} {b n c i:Nat} {xs:List Value}
theorem xn (R : Rw w 199 1 b n c xs) (hi : i < n) (k : c ≠ i + 1) (r : ∀ v ∈ xs, v.oneCell' = true) :
    Calls Tryz.prog 208 #[.slice (some ⟨b, 0, none⟩) n c, .int .i64 i, .int .i64 (i + 1)] w fun e w' => e = .returned (.slice (some ⟨b, 0, none⟩) (n - 1) c) ∧ Rw w' 199 1 b (n - 1) c (xs.take (i * 1) ++ xs.drop ((i + 1) * 1)) ∧ Chg (· = b) w w' := by
  have hx := R.len;have a := R.le;simp only[maxLen] at a;have t := a.1;have u := a.2
  have g : (xs.drop ((i + 1) * 1)).length = (n - (i + 1)) * 1 := by rw[List.length_drop, hx]; omega
  obtain⟨M, f, l, x⟩:= jL KP 142 (R.drew.front (m := i) (by omega)) ⟨b, i + 1, none⟩ (n - (i + 1)) (c - (i + 1)) (xs.drop ((i + 1) * 1)) g
    (fun j v o => by
      rw[List.getElem?_drop] at o;rw[Addr.add_lit];exact R.drew.cell (by simpa using o)) (fun v hv => r v (List.mem_of_mem_drop hv)) (by omega)
  rw[show i + (n - (i + 1)) = n - 1 by omega] at l;obtain⟨E, d, p, y⟩:= iv KP 0 l (n - (n - 1)) (c - (n - 1)) (by omega) (by omega)
  have C : Chg (· = b) w E := ((Chg.refl _ w).drew.trans x (fun _ _ h => h)).trans y (fun _ _ h => h);obtain⟨q, I⟩ : ∃ q, n = i + 1 + q := ⟨n - (i + 1), by omega⟩;subst I;rw[show i + 1 + q - (i + 1) = q by omega] at f;rw[show i + 1 + q - 1 = i + q by omega] at d p ⊢;simp only[Nat.mul_one] at d
  have z : ¬ ((i : Int) = (i : Int) + 1) := by omega
  have K : i ≤ i + 1 + q := by omega
  have H : ¬ (c = i + 1) := k
  have B : (0 : Int) ≤ (i : Int) + 1 := by omega
  have D : i ≤ c := by omega
  have G : ((i : Int) + 1).toNat = i + 1 := by omega
  have J : ¬ (c = i + q) := by omega
  have L : (i : Int) + 1 ≤ ((i + 1 + q : Nat) : Int) := by omega
  have A : i + 1 ≤ i + 1 + q := by omega
  have s : (i : Int) + 1 ≤ (i : Int) + 1 + (q : Int) := by omega
  have F : ((i + 1 + q : Nat) : Int) ≤ (c : Int) := by omega
  clear a R l x y g r;have mixed := mixed;go_enter Tryz.func208, Tryz.ntmps208;go_wp2;go_region_law_o (refine jh rfl (.tmp 22) (.tmp 25) 142 142 rfl _ _ (by simp[Act.eval, Act.put]) (by simp[Act.eval, Act.put]) f ?_);go_wp2;go_ret;exact⟨rfl, p, C⟩
theorem wC (R:Rw w 199 1 b (i + 1) (i + 1) xs) :
  Calls Tryz.prog 208 #[.slice (some ⟨b,0,none⟩) (i + 1) (i + 1),.int .i64 i,.int .i64 (i + 1)] w fun e w'=>e=.returned (.slice (some ⟨b,0,none⟩) i (i + 1))/\Rw w' 199 1 b i (i + 1) (xs.take (i * 1))/\Chg (· = b) w w':=by
 have a:=R.le;simp only[maxLen] at a;have g:=a.2;obtain⟨y,c,d,k⟩:=jL KP 142 (R.drew.front (m:=i) (by omega)) ⟨b,0,none⟩ 0 0 [] (by simp) (fun j v r=>by simp at r) (fun v hv=>by simp at hv) (by omega);rw[Nat.add_zero] at d c;rw[List.append_nil] at d;obtain⟨n,f,t,l⟩:=iv KP 0 d 1 1 (by omega) (by omega)
 have x:Chg (· = b) w n:=((Chg.refl _ w).drew.trans k (fun _ _ h=>h)).trans l (fun _ _ h=>h);simp only[Nat.mul_one] at f
 have p:¬ ((i:Int)=(i:Int) + 1):=by omega
 have s:i<=i + 1:=by omega
 have q:(0:Int)<=(i:Int) + 1:=by omega
 have o:((i:Int) + 1).toNat=i + 1:=by omega
 have e1:i + 1 - i=1:=by omega
 have u:(i:Int)<=(i:Int) + 1:=by omega
 clear a R d k l;have mixed:=mixed;go_enter Tryz.func208,Tryz.ntmps208;go_wp2;go_region_law_o (refine jh rfl (.tmp 22) (.tmp 25) 142 142 rfl _ _ (by simp[Act.eval,Act.put]) (by simp[Act.eval,Act.put]) c ?_);go_wp2;go_ret;exact⟨rfl,t,x⟩
theorem delP (R:Rw w 199 1 b n c xs) (hi:i < n) (d:∀ v∈xs,v.oneCell'=true) :
  Calls Tryz.prog 208 #[.slice (some ⟨b,0,none⟩) n c,.int .i64 i,.int .i64 (i + 1)] w fun e w'=>e=.returned (.slice (some ⟨b,0,none⟩) (n - 1) c)/\Rw w' 199 1 b (n - 1) c (xs.take (i * 1) ++ xs.drop ((i + 1) * 1))/\Chg (· = b) w w':=by
 by_cases h:c=i + 1
 ·have f:=R.le;obtain rfl:n=i + 1:=by omega
  subst h;refine(wC R).mono ?_
  rintro e w' ⟨rfl,a,hC⟩;exact⟨by simp,a.to (by rw[List.drop_of_length_le (by rw[R.len]; omega),List.append_nil]),hC⟩
 ·exact xn R hi h d
end
end Pg
end
section
namespace Pg
open Go.RowKit Go.Lib
section
variable {w w':World}{v:Value}{l:List Int}{D D':Nat->Prop}{a:Addr}{n:Nat}{xs:List Value}
def Oct(l:List Int):Prop:=∀ x∈l,0<=x/\x < 256
structure By(w:World)(v:Value)(l:List Int):Prop where
 ex:∃ ao c,v=.slice ao l.length c/\l.length<=c/\c<=9223372036854775807/\(ao=none->c=0)/\Oct l/\(l=[]\/∃ b o,ao=some ⟨b,o,none⟩/\b < w.heap.size/\∀ i x,l[i]? = some x->w.cell? ⟨b,o + i,none⟩=some (.int .u8 x))
theorem By.keep(h:By w v l)(hb:Below w.heap.size w w'):By w' v l:=by
 obtain⟨m,c,k,d,n,f,j,g⟩:=h.ex;refine⟨m,c,k,d,n,f,j,g.imp id ?_⟩;rintro⟨b,o,e,a,hc⟩;exact⟨b,o,e,Nat.lt_of_lt_of_le a hb.size,fun i x hi=>by rw[hb.cell (p:=⟨b,o + i,none⟩) a]; exact hc i x hi⟩
theorem By.drew(h:By w v l):By w.drew v l:=h.keep ⟨rfl,rfl,rfl,Nat.le_refl _,fun _ _=>rfl⟩
theorem By.oct(h:By w v l):Oct l:=by
 obtain⟨ao,c,h1,h2,h3,h4,h5,h6⟩:=h.ex; exact h5
theorem By.nil(w:World):By w (.slice none 0 0) []:=⟨none,0,rfl,by decide,by decide,fun _=>rfl,fun _ h=>by simp at h,.inl rfl⟩
structure OB(w:World)(D:Nat->Prop)(v:Value)(l:List Int):Prop where
 oct:Oct l
 ex:(v=.slice none 0 0/\l=[])\/∃ b c,v=.slice (some ⟨b,0,none⟩) l.length c/\D b/\Rw w 5 1 b l.length c (l.map (Value.int .u8))
theorem OB.by(h:OB w D v l):By w v l:=by
 rcases h.ex with⟨rfl,rfl⟩ | ⟨b,c,rfl,hd,hR⟩
 ·exact By.nil w
 ·have a:=hR.le;simp only[maxLen] at a;exact⟨_,c,rfl,by omega,by omega,(fun e=>by cases e),h.oct,.inr ⟨b,0,rfl,hR.lt,fun i x hi=>by rw[Nat.zero_add]; exact hR.cell (by simp[hi])⟩⟩
theorem OB.mono(h:OB w D v l)(hD:∀ b,b < w.heap.size->D b->D' b):OB w D' v l:=by
 refine⟨h.oct,h.ex.imp id ?_⟩;rintro⟨b,c,e,hd,hR⟩;exact⟨b,c,e,hD b hR.lt hd,hR⟩
theorem OB.same(h:OB w D v l)(hD:∀ b,b < w.heap.size->D b->w'.heap[b]? = w.heap[b]?):OB w' D v l:=by
 refine⟨h.oct,h.ex.imp id ?_⟩;rintro⟨b,c,e,hd,hR⟩;exact⟨b,c,e,hd,hR.same (hD b hR.lt hd)⟩
theorem OB.keep(h:OB w D v l)(hb:Below w.heap.size w w'):OB w' D v l:=h.same fun b hb' _=>hb.block b hb'
theorem OB.one(h:OB w D v l):v.oneCell'=true:=by
 rcases h.ex with⟨rfl,rfl⟩ | ⟨b,c,rfl,hd,hR⟩<;>rfl
def cZ:List Int->List Int->Int
 | [],[]=>0
 | [],_ :: _ => -1
 | _ :: _,[]=>1
 | x :: a,y :: b=>if x < y then -1 else if y < x then 1 else cZ a b
theorem DN{x y:Int}(hx:0<=x/\x < 256)(hy:0<=y/\y < 256):(UInt8.ofNat x.toNat < UInt8.ofNat y.toNat)<->x < y:=by
 rw[UInt8.lt_iff_toNat_lt,UInt8.toNat_ofNat_of_lt' (by show x.toNat < 256; omega),UInt8.toNat_ofNat_of_lt' (by show y.toNat < 256; omega)];omega
theorem jE:∀ (l l':List Int),Oct l->Oct l'->compareBytes (bytesOf l) (bytesOf l')=cZ l l'
 | [],[],_,_=>rfl
 | [],_ :: _,_,_=>rfl
 | _ :: _,[],_,_=>rfl
 | x :: a,y :: b,h,h'=>by
  have ih:=jE a b (fun z c=>h z (List.mem_cons_of_mem _ c)) (fun z c=>h' z (List.mem_cons_of_mem _ c));have hx:=h x List.mem_cons_self;have hy:=h' y List.mem_cons_self
  show (if UInt8.ofNat x.toNat < UInt8.ofNat y.toNat then _ else if UInt8.ofNat y.toNat < UInt8.ofNat x.toNat then _ else compareBytes (bytesOf a) (bytesOf b))=_
  rw[cZ];simp only[DN hx hy,DN hy hx,ih]
theorem kO{P:Program}(h:By w v l):(Extern.Bytes.bytesOf v).run P w=.ok ⟨(bytesOf l).toArray⟩ w:=by
 obtain⟨d,c,rfl,m,n,f,p,k⟩:=h.ex
 cases d with
 | none =>
  have:l=[]:=List.eq_nil_of_length_eq_zero (by have:=f rfl; omega);subst this;rfl
 | some a =>
  rcases k with rfl | ⟨b,o,e,g,hc⟩
  ·rfl
  ·cases e;have:=run_loadBytesX (P:=P) w l ⟨b,o,none⟩ .empty (fun j x i=>by rw[Addr.add_lit]; exact hc j x i)
   show (Extern.Bytes.loadBytes ⟨b,o,none⟩ l.length .empty).run P w=_
   rw[this];congr 1
   apply ByteArray.ext;simp
theorem kU{b:Value}{a:List Int}(h:By w v l)(c:By w b a) :
  Calls Tryz.prog 211 #[v,b] w fun e w'=>e=.returned (.int .i64 (cZ l a))/\w'=w:=by
 have d:(callFunc 241 #[v,b]).run Tryz.prog w=.ok (.value (.int .i64 (cZ l a))) w:=by
  rw[run_callFunc_extern Tryz.func241 (by kernel_rfl) (by kernel_rfl) (by kernel_rfl) (e:=Extern.BytealgCompare.compare) (by kernel_rfl)];have:(Extern.BytealgCompare.compare #[v,b]).run Tryz.prog w=.ok (.int .i64 (cZ l a)) w:=by
   change Sem.run Tryz.prog (do pure (goInt (Extern.BytealgCompare.cmp (<- Extern.Bytes.bytesOf v) (<- Extern.Bytes.bytesOf b)))) w=_
   simp only[Sem.run_bind,kO h,kO c,Sem.run_pure,Result.andThen];rw[cmp_eq,jE l a h.oct c.oct];rfl
  rw[this]; rfl
 clear h c;generalize cZ l a=x at *;go_enter Tryz.func211,Tryz.ntmps211;go_wp2_with (simp only[d]);go_ret;exact⟨rfl,rfl⟩
theorem KB:Kd Tryz.prog 96 5 1 1 (.int .u8 0):=⟨by kernel_rfl,by kernel_rfl,rfl,by simp[Value.cells,Value.oneCell'],by decide⟩
theorem l4(h:w.cell? a=some v)(o:Obj):(w.alloc o).cell? a=some v:=by
 have b:a.block < w.heap.size:=by
  unfold World.cell? at h
  cases hh:w.heap[a.block]? with
  | none=>simp[hh] at h
  | some ob=>exact lt_of_block hh
 rw[(ae w o).cell b]; exact h
theorem map_u8(l:List Int):∀ v∈l.map (Value.int .u8),v.oneCell'=true:=by
 intro v hv;obtain⟨x,_,rfl⟩:=List.mem_map.1 hv;rfl
theorem cE(h:By w v l)(t:l.length<=1000000000) :
  Calls Tryz.prog 78 #[v] w fun e w'=>∃ v',e=.returned v'/\OB w' (w.heap.size <= ·) v' l/\Below w.heap.size w w':=by
 have y:=h.oct;obtain⟨A,c,rfl,G,H,B,F,z⟩:=h.ex
 cases A with
 | none =>
  have E:l=[]:=List.eq_nil_of_length_eq_zero (by have:=B rfl; omega);subst E;have f:=fun(w:World) (a:Option Addr) (n c:Nat)=>Go.Lib.run_eql_slice_nil (P:=Tryz.prog) w 96 _ a n c 0 0 KB.und
  go_enter Tryz.func78,Tryz.ntmps78;go_wp2;go_ret;exact⟨_,rfl,⟨y,.inl ⟨rfl,rfl⟩⟩,Below.refl _ _⟩
 | some a =>
  have r:Rw (w.alloc (.cells #[] 5)) 5 1 w.heap.size 0 0 []:=ya (aC w [] _) rfl (by decide)
  have g:∀ j u,(l.map (Value.int .u8))[j]? = some u->(w.alloc (.cells #[] 5)).cell? (a.add j)=some u:=fun j u k=>by
   rcases z with rfl | ⟨b,o,e,D,hc⟩
   ·simp at k
   ·cases e;rw[List.getElem?_map] at k;obtain⟨x,hx,rfl⟩:=Option.map_eq_some_iff.1 k;exact l4 (by rw[Addr.add_lit]; exact hc j x hx) _
  obtain⟨i,q,W,s,d,m,hC⟩:=dB KB 96 r a l.length c (l.map (Value.int .u8)) (by simp) g (map_u8 l) (by omega) (by omega);rw[Nat.zero_add] at s m
  have C:Below w.heap.size w W:=(ae w (.cells #[] 5)).trans (hC.below (fun b hb=>by omega) (ae w _).size)
  have p:w.heap.size<=i:=by rcases d with e | e; omega; rw[World.size_alloc] at e; omega
  have hF:OB W (w.heap.size <= ·) (.slice (some ⟨i,0,none⟩) l.length q) l:=⟨y,.inr ⟨i,q,rfl,p,m.to (by simp)⟩⟩
  clear r g z h m hC F d;have f:=fun(w:World) (a:Option Addr) (n c:Nat)=>Go.Lib.run_eql_slice_nil (P:=Tryz.prog) w 96 _ a n c 0 0 KB.und
  go_enter Tryz.func78,Tryz.ntmps78;go_wp2_with (at_builtin; refine Lib.wpList_append_run _ rfl _ _ _ _ rfl _ _ rfl rfl _ _ s ?_);go_ret;exact⟨_,rfl,hF,C⟩
theorem xq{c:Nat}(hn:n<=1000000000)(hx:xs.length=n * 2)(hc:∀ j v,xs[j]? = some v->w.cell? (a.add j)=some v)(l:∀ v∈xs,v.oneCell'=true) :
  Calls Tryz.prog 226 #[.slice (some a) n c] w fun e w'=>∃ b' c',e=.returned (.slice (some ⟨b',0,none⟩) n c')/\w.heap.size<=b'/\Rw w' 196 2 b' n c' xs/\Below w.heap.size w w':=by
 have h:Rw (w.alloc (.cells #[] 196)) 196 2 w.heap.size 0 0 []:=ya (aC w [] _) rfl (by decide);obtain⟨b',c',W,i,d,f,hC⟩:=dB KE 199 h a n c xs hx (fun j v o=>l4 (hc j v o) _) l (by omega) (by omega);rw[Nat.zero_add] at i f;rw[List.nil_append] at f
 have m:Below w.heap.size w W:=(ae w (.cells #[] 196)).trans (hC.below (fun b hb=>by omega) (ae w _).size)
 have g:w.heap.size<=b':=by rcases d with e | e; omega; rw[World.size_alloc] at e; omega
 clear h hc l hC d;have k:=fun(w:World) (a:Option Addr) (n c:Nat)=>Go.Lib.run_eql_slice_nil (P:=Tryz.prog) w 199 _ a n c 0 0 KE.und
 go_enter Tryz.func226,Tryz.ntmps226;go_wp2_with (at_builtin; refine Lib.wpList_append_run _ rfl _ _ _ _ rfl _ _ rfl rfl _ _ i ?_);go_ret;exact⟨b',c',rfl,g,f,m⟩
theorem growE(h:0 < n)(hn:n<=1000000000) :
  Calls Tryz.prog 254 #[.slice none 0 0,.int .i64 n] w fun e w'=>∃ b' c',e=.returned (.slice (some ⟨b',0,none⟩) 0 c')/\w.heap.size<=b'/\Rw w' 196 2 b' 0 c' []/\Below w.heap.size w w':=by
 obtain⟨c',W,g,b,c⟩:=nC (w:=w) KE 3 199 j1 n h (by omega) (by omega)
 have a:Rw W 196 2 w.heap.size 0 c' []:=(b.front (m:=0) (by omega)).to (by simp)
 have d:¬ ((n:Int) < 0):=by omega
 have f:(0:Int) < n:=by omega
 clear b;go_enter Tryz.func254,Tryz.ntmps254;go_wp2_with (at_builtin; refine Lib.wpList_append_run _ rfl _ _ _ _ rfl _ _ rfl rfl _ _ g ?_);go_ret;exact⟨_,c',rfl,Nat.le_refl _,a,c⟩
end
end Pg
end
section
namespace Pg
open Go.RowKit Go.Lib
theorem CJ {w:World} {vb s n1 c1 b2 n2 c2:Nat} {xs ys:List Value} (m:Blk w vb [.slice (some ⟨s,0,none⟩) n1 c1,.slice (some ⟨b2,0,none⟩) n2 c2] 199)
  (C:Rw w 196 2 s n1 c1 xs) (B:Rw w 196 2 b2 n2 c2 ys) (F:0 < n1 + n2) (I:n1<=1000000) (H:n2<=1000000) (E:∀ v∈xs,v.oneCell'=true) (G:∀ v∈ys,v.oneCell'=true) :
  Calls Tryz.prog 240 #[.slice (some ⟨vb,0,none⟩) 2 2] w fun e w'=>∃ b' c',e=.returned (.slice (some ⟨b',0,none⟩) (n1 + n2) c')/\w.heap.size<=b'/\Rw w' 196 2 b' (n1 + n2) c' (xs ++ ys)/\Below w.heap.size w w':=by
 have z:=growE (w:=w) (n:=n1 + n2) F (by omega);rw[show ((n1 + n2:Nat):Int)=(n1:Int) + (n2:Int) by omega] at z;have q0:=m.cell (i:=0) rfl;have q1:=m.cell (i:=1) rfl;go_enter Tryz.func240,Tryz.ntmps240;go_wp2;go_loopw [3,11] (fun ts d wr=>wr=w/\((d=.int .i64 0/\ts=.int .i64 0)\/(d=.int .i64 1/\ts=.int .i64 n1)\/(d=.int .i64 2/\ts=.int .i64 (n1 + n2)))) (fun _ d _=>2 - (intOf d).toNat)
 case atStart=>exact⟨rfl,.inl ⟨rfl,rfl⟩⟩
 case round =>
  obtain⟨rfl,⟨rfl,rfl⟩ | ⟨rfl,rfl⟩ | ⟨rfl,rfl⟩⟩:=hrel
  ·have D:¬ ((n1:Int) < 0):=by omega
   go_wp2;go_roundw
   case rel=>exact⟨trivial,.inr (.inl ⟨rfl,rfl⟩)⟩
   case measure=>simp[intOf]
  ·have D:¬ ((n1:Int) + (n2:Int) < 0):=by omega
   go_wp2;go_roundw
   case rel=>exact⟨trivial,.inr (.inr ⟨rfl,rfl⟩)⟩
   case measure=>simp[intOf]
  ·rename World=>W0
   go_wp2_with (go_at_call 254; refine z.mono ?_; rintro e J ⟨b,c,rfl,hb,g,r⟩);clear z
   have t:=(m.keep r).cell (i:=0) rfl
   have A:=(m.keep r).cell (i:=1) rfl;have o:=r;clear r q0 q1;go_loopw [6,27] (fun ts d q=>Below W0.heap.size W0 q/\∃ b c,W0.heap.size<=b/\((d=.int .i64 0/\ts=.slice (some ⟨b,0,none⟩) 0 c/\Rw q 196 2 b 0 c [])\/(d=.int .i64 1/\ts=.slice (some ⟨b,0,none⟩) n1 c/\Rw q 196 2 b n1 c xs)\/(d=.int .i64 2/\ts=.slice (some ⟨b,0,none⟩) (n1 + n2) c/\Rw q 196 2 b (n1 + n2) c (xs ++ ys)))) (fun _ d _=>2 - (intOf d).toNat)
   case atStart=>exact⟨o,b,c,hb,.inl ⟨rfl,rfl,g⟩⟩
   case round =>
    clear g o hb t A;obtain⟨a,b,c,hb,⟨rfl,rfl,g⟩ | ⟨rfl,rfl,g⟩ | ⟨rfl,rfl,g⟩⟩:=hrel
    ·have q0:=(m.keep a).cell (i:=0) rfl;have S:=C.keep a;obtain⟨b',c',W,p,f,h,hC⟩:=dB KE 199 g ⟨s,0,none⟩ n1 c1 xs C.len (fun j u y=>by rw[Addr.add_lit,Nat.zero_add]; exact S.cell y) E (by omega) (by omega);rw[Nat.zero_add] at p h
     have k:Below W0.heap.size W0 W:=a.trans (hC.below (fun x hx=>by omega) a.size)
     have l:W0.heap.size<=b':=by
      have:=a.size;rcases f with e | e<;>omega
     clear hC f g S;go_wp2_with (at_builtin; refine Lib.wpList_append_run _ rfl _ _ _ _ rfl _ _ rfl rfl _ _ p ?_);go_roundw
     case rel=>exact⟨k,b',c',l,.inr (.inl ⟨rfl,rfl,h⟩)⟩
     case measure=>simp[intOf]
    ·have q1:=(m.keep a).cell (i:=1) rfl;have S:=B.keep a;obtain⟨b',c',W,p,f,h,hC⟩:=dB KE 199 g ⟨b2,0,none⟩ n2 c2 ys B.len (fun j u y=>by rw[Addr.add_lit,Nat.zero_add]; exact S.cell y) G (by omega) (by omega)
     have k:Below W0.heap.size W0 W:=a.trans (hC.below (fun x hx=>by omega) a.size)
     have l:W0.heap.size<=b':=by
      have:=a.size;rcases f with e | e<;>omega
     clear hC f g S;go_wp2_with (at_builtin; refine Lib.wpList_append_run _ rfl _ _ _ _ rfl _ _ rfl rfl _ _ p ?_);go_roundw
     case rel=>exact⟨k,b',c',l,.inr (.inr ⟨rfl,rfl,h⟩)⟩
     case measure=>simp[intOf]
    ·go_wp2;go_ret;exact⟨b,c,rfl,hb,g,a⟩
end Pg
end
section
namespace Pg
section
variable {a b k:List Int}{l:List (List Int)}
theorem iR:∀ (a b:List Int),cZ a b = -1\/cZ a b=0\/cZ a b=1
 | [],[]=>.inr (.inl rfl)
 | [],_ :: _=>.inl rfl
 | _ :: _,[]=>.inr (.inr rfl)
 | x :: a,y :: b=>by
  rw[cZ];split
  ·exact .inl rfl
  ·split
   ·exact .inr (.inr rfl)
   ·exact iR a b
theorem hH:∀ (a:List Int),cZ a a=0
 | []=>rfl
 | x :: a=>by rw[cZ,if_neg (by omega),if_neg (by omega)]; exact hH a
theorem qg:∀ {a b:List Int},cZ a b=0->a=b
 | [],[],_=>rfl
 | [],_ :: _,h=>by simp[cZ] at h
 | _ :: _,[],h=>by simp[cZ] at h
 | x :: a,y :: b,h=>by
  rw[cZ] at h;split at h
  ·omega
  ·split at h
   ·omega
   ·rw[qg h,show x=y by omega]
theorem kA:∀ (a b:List Int),cZ b a = - cZ a b
 | [],[]=>rfl
 | [],_ :: _=>rfl
 | _ :: _,[]=>rfl
 | x :: a,y :: b=>by
  rw[cZ,cZ];by_cases h1:x < y
  ·rw[if_neg (by omega),if_pos h1,if_pos h1]; rfl
  ·by_cases h2:y < x
   ·rw[if_pos h2,if_neg h1,if_pos h2]
   ·rw[if_neg h2,if_neg h1,if_neg h1,if_neg h2]; exact kA a b
def Lt(a b:List Int):Prop:=cZ a b = -1
instance (a b:List Int):Decidable (Lt a b):=inferInstanceAs (Decidable (_=_))
theorem Lt.trans:∀ {a b c:List Int},Lt a b->Lt b c->Lt a c
 | [],[],_,h,_=>by simp[Lt,cZ] at h
 | [],_ :: _,[],_,h=>by simp[Lt,cZ] at h
 | [],_ :: _,_ :: _,_,_=>rfl
 | _ :: _,[],_,h,_=>by simp[Lt,cZ] at h
 | _ :: _,_ :: _,[],_,h=>by simp[Lt,cZ] at h
 | x :: a,y :: b,z :: c,h,h'=>by
  simp only[Lt] at h h' ⊢;rw[cZ] at h h' ⊢;by_cases h1:x < z
  ·rw[if_pos h1]
  ·rw[if_neg h1];split at h
   ·split at h'
    ·omega
    ·split at h'
     ·omega
     ·omega
   ·split at h
    ·omega
    ·split at h'
     ·omega
     ·split at h'
      ·omega
      ·rw[if_neg (by omega)]; exact Lt.trans (a:=a) (b:=b) (c:=c) h h'
theorem lt_irrefl(a:List Int):¬ Lt a a:=by simp[Lt,hH]
theorem Lt.not(h:Lt a b):¬ Lt b a:=fun h'=>lt_irrefl a (h.trans h')
theorem o4(a b:List Int):Lt a b\/a=b\/Lt b a:=by
 rcases iR a b with h | h | h
 ·exact .inl h
 ·exact .inr (.inl (qg h))
 ·exact .inr (.inr (by simp only[Lt]; rw[kA,h]))
theorem oQ(h:Lt a b):cZ a b = -1:=h
theorem CP(h:Lt b a):cZ a b=1:=by rw[kA,oQ h]; rfl
theorem not_lt:¬ Lt a b<->a=b\/Lt b a:=by
 constructor
 ·intro h;rcases o4 a b with k | k | k
  ·exact absurd k h
  ·exact .inl k
  ·exact .inr k
 ·rintro(h | h)
  ·subst h; exact lt_irrefl a
  ·exact h.not
theorem Lt.of_le{c:List Int}(h:Lt a b)(h':¬ Lt c b):Lt a c:=by
 rcases not_lt.1 h' with k | k
 ·subst k; exact h
 ·exact h.trans k
def plc:List (List Int)->List Int->Nat
 | [],_=>0
 | x :: l,k=>if Lt x k then plc l k + 1 else 0
theorem oV:∀ (l:List (List Int)) (k:List Int),plc l k<=l.length
 | [],_=>Nat.le_refl _
 | x :: l,k=>by
  rw[plc];split
  ·have:=oV l k; simp; omega
  ·simp
theorem sj:∀ {l:List (List Int)} {k:List Int} {i:Nat},i<=l.length->(∀ j x,j < i->l[j]? = some x->Lt x k)->(∀ x,l[i]? = some x->¬ Lt x k)->plc l k=i
 | [],_,i,h,_,_=>by simp at h; subst h; rfl
 | x :: l,k,0,_,_,h3=>by rw[plc,if_neg (h3 x rfl)]
 | x :: l,k,i + 1,h1,h2,h3=>by
  rw[plc,if_pos (h2 0 x (by omega) rfl),sj (l:=l) (i:=i) (by simpa using h1) (fun j y hj hy=>h2 (j + 1) y (by omega) (by simpa using hy)) (fun y hy=>h3 y (by simpa using hy))]
theorem Aa:∀ {l:List (List Int)} {k:List Int} {j:Nat} {x:List Int},j < plc l k->l[j]? = some x->Lt x k
 | [],_,_,_,h,_=>by simp[plc] at h
 | y :: l,k,j,x,h,hx=>by
  rw[plc] at h;split at h
  ·cases j with
   | zero=>simp at hx; subst hx; assumption
   | succ j=>exact Aa (l:=l) (j:=j) (by omega) (by simpa using hx)
  ·omega
theorem zo:∀ {l:List (List Int)} {k:List Int} {x:List Int},l[plc l k]? = some x->¬ Lt x k
 | [],_,_,h=>by simp at h
 | y :: l,k,x,h=>by
  rw[plc] at h;split at h
  ·exact zo (l:=l) (by simpa using h)
  ·simp at h; subst h; assumption
def Srt(l:List (List Int)):Prop:=l.Pairwise Lt
theorem Srt.get(h:Srt l){i j:Nat}{x y:List Int}(a:i < j)(hi:l[i]? = some x)(c:l[j]? = some y):Lt x y:=by
 obtain⟨d,rfl⟩:=List.getElem?_eq_some_iff.1 hi;obtain⟨b,rfl⟩:=List.getElem?_eq_some_iff.1 c;exact List.pairwise_iff_getElem.1 h i j d b a
def thr(l:List (List Int))(k:List Int):Bool:=decide (l[plc l k]? = some k)
theorem Be(h:Srt l):thr l k=true<->k∈l:=by
 simp only[thr,decide_eq_true_eq];constructor
 ·intro e; exact List.mem_of_getElem? e
 ·intro e;obtain⟨j,a⟩:=List.getElem?_of_mem e;have:plc l k=j:=sj (by have:=(List.getElem?_eq_some_iff.1 a).1; omega) (fun i x hi hx=>h.get hi hx a) (fun x hx=>by rw[a] at hx; cases hx; exact lt_irrefl k);rw[this]; exact a
end
end Pg
end
section
namespace Pg
open Go.RowKit Go.Lib
section
variable {w w':World}{D D':Nat->Prop}
structure En where
 kv:Value
 kl:List Int
 vv:Value
 vl:List Int
structure EnA(w:World)(D:Nat->Prop)(e:En):Prop where
 k:OB w D e.kv e.kl
 v:OB w D e.vv e.vl
theorem EnA.keep{e:En}(h:EnA w D e)(hb:Below w.heap.size w w'):EnA w' D e:=⟨h.k.keep hb,h.v.keep hb⟩
theorem EnA.mono{e:En}(h:EnA w D e)(hD:∀ b,b < w.heap.size->D b->D' b):EnA w D' e:=⟨h.k.mono hD,h.v.mono hD⟩
def flat:List En->List Value
 | []=>[]
 | e :: l=>e.kv :: e.vv :: flat l
theorem jA:∀ (l:List En),(flat l).length=l.length * 2
 | []=>rfl
 | e :: l=>by simp[flat,jA l]; omega
theorem ee:∀ (a b:List En),flat (a ++ b)=flat a ++ flat b
 | [],b=>rfl
 | e :: a,b=>by simp[flat,ee a b]
theorem pV:∀ {l:List En} {i:Nat} {e:En},l[i]? = some e->(flat l)[i * 2]? = some e.kv
 | [],_,_,h=>by simp at h
 | x :: l,0,e,h=>by simp at h; subst h; rfl
 | x :: l,i + 1,e,h=>by
  rw[show (i + 1) * 2=i * 2 + 1 + 1 by omega,flat,List.getElem?_cons_succ,List.getElem?_cons_succ];exact pV (l:=l) (by simpa using h)
theorem jY:∀ {l:List En} {i:Nat} {e:En},l[i]? = some e->(flat l)[i * 2 + 1]? = some e.vv
 | [],_,_,h=>by simp at h
 | x :: l,0,e,h=>by simp at h; subst h; rfl
 | x :: l,i + 1,e,h=>by
  rw[show (i + 1) * 2 + 1=i * 2 + 1 + 1 + 1 by omega,flat,List.getElem?_cons_succ,List.getElem?_cons_succ];exact jY (l:=l) (by simpa using h)
theorem iA:∀ (l:List En) (i:Nat),(flat l).take (i * 2)=flat (l.take i)
 | [],i=>by simp[flat]
 | x :: l,0=>by simp[flat]
 | x :: l,i + 1=>by
  rw[show (i + 1) * 2=i * 2 + 1 + 1 by omega,flat,List.take_succ_cons,List.take_succ_cons,iA l i,List.take_succ_cons,flat]
theorem il:∀ (l:List En) (i:Nat),(flat l).drop (i * 2)=flat (l.drop i)
 | [],i=>by simp[flat]
 | x :: l,0=>by simp
 | x :: l,i + 1=>by
  rw[show (i + 1) * 2=i * 2 + 1 + 1 by omega,flat,List.drop_succ_cons,List.drop_succ_cons,il l i,List.drop_succ_cons]
theorem jB:∀ {l:List En},(∀ e∈l,EnA w D e)->∀ v∈flat l,v.oneCell'=true
 | [],_,v,h=>by simp[flat] at h
 | x :: l,h,v,hv=>by
  have hx:=h x List.mem_cons_self;rcases List.mem_cons.1 hv with rfl | hv
  ·exact hx.k.one
  ·rcases List.mem_cons.1 hv with rfl | hv
   ·exact hx.v.one
   ·exact jB (l:=l) (fun e he=>h e (List.mem_cons_of_mem _ he)) v hv
theorem mV:∀ {l:List En} {i:Nat} {e:En} (u:Value) (ul:List Int),l[i]? = some e->(flat l).set (i * 2 + 1) u=flat (l.set i { e with vv:=u,vl:=ul })
 | [],_,_,_,_,h=>by simp at h
 | x :: l,0,e,u,ul,h=>by simp at h; subst h; simp[flat]
 | x :: l,i + 1,e,u,ul,h=>by
  rw[show (i + 1) * 2 + 1=i * 2 + 1 + 1 + 1 by omega,flat,List.set_cons_succ,List.set_cons_succ,mV (l:=l) u ul (by simpa using h),List.set_cons_succ,flat]
def kys(l:List En):List (List Int):=l.map En.kl
structure Pg where
 b:Nat
 c:Nat
 es:List En
def Pg.v(p:Pg):Value:=.slice (some ⟨p.b,0,none⟩) p.es.length p.c
structure PgA(w:World)(D:Nat->Prop)(p:Pg):Prop where
 row:Rw w 196 2 p.b p.es.length p.c (flat p.es)
 dL:∀ e∈p.es,EnA w D e
theorem PgA.keep{p:Pg}(h:PgA w D p)(hb:Below w.heap.size w w'):PgA w' D p:=⟨h.row.keep hb,fun e he=>(h.dL e he).keep hb⟩
theorem PgA.one{p:Pg}(h:PgA w D p):∀ v∈flat p.es,v.oneCell'=true:=jB h.dL
theorem cmpE{kv vv v:Value}{l a:List Int}(h:By w kv l)(b:By w v a) :
  Calls Tryz.prog 213 #[.agg #[kv,vv],v] w fun e w'=>e=.returned (.int .i64 (cZ l a))/\Below w.heap.size w w':=by
 have hb:=ae w (.cells #[kv,vv] 196);have c:=kU (h.keep hb) (b.keep hb);have B:=aC w [kv,vv] 196;have q0:=B.cell (i:=0) rfl;clear h b B;generalize cZ l a=x at *;go_enter Tryz.func213,Tryz.ntmps213;go_wp2_with (go_at_call 211; refine c.mono ?_; rintro e d ⟨rfl,rfl⟩);go_ret;exact⟨rfl,hb⟩
end
end Pg
end
section
namespace Pg
open Go.RowKit Go.Lib
section
variable {w:World}{D:Nat->Prop}{p:Pg}{v:Value}{k:List Int}
theorem bsE(A:PgA w D p)(S:Srt (kys p.es))(h:By w v k)(hn:p.es.length<=1000000) :
  Calls Tryz.prog 212 #[p.v,v,.func (.func 213) #[] #[]] w fun e w'=>e=.returned (.tuple #[.int .i64 (plc (kys p.es) k),.bool (thr (kys p.es) k)])/\Below w.heap.size w w':=by
 obtain⟨b,c,es⟩:=p;simp only[Pg.v] at *;have g:=A.row.le;simp only[maxLen] at g;have t:=g.1;have M:=g.2;obtain⟨n,H⟩:∃ n,es.length=n:=⟨_,rfl⟩
 rw[H] at hn t ⊢;go_enter Tryz.func212,Tryz.ntmps212;go_wp2;go_loopw [9,10] (fun J F wr=>∃ i j:Nat,J=.int .i64 i/\F=.int .i64 j/\i<=j/\j<=n/\Hid (∀ q x,q < i->(kys es)[q]? = some x->Lt x k)/\Hid (∀ q x,j<=q->(kys es)[q]? = some x->¬ Lt x k)/\Below w.heap.size w wr) (fun J F _=>(intOf F).toNat - (intOf J).toNat)
 case atStart=>exact⟨0,n,rfl,rfl,Nat.zero_le _,Nat.le_refl _,fun q x s=>by omega,fun q x s hx=>by
  have:=(List.getElem?_eq_some_iff.1 hx).1;simp[kys] at this;omega,Below.refl _ _⟩
 case round =>
  obtain⟨i,j,rfl,rfl,V,E,H1,L,f⟩:=hrel;by_cases U:i < j
  ·obtain⟨m,hm⟩:∃ m,m=(i + j) / 2:=⟨_,rfl⟩
   have W:i<=m:=by omega
   have T:m < j:=by omega
   obtain⟨e,he⟩:∃ e,es[m]? = some e:=⟨es[m],List.getElem?_eq_getElem (by omega)⟩
   have d:=A.keep f;have q0:=d.row.cell (pV he);have q1:=d.row.cell (jY he)
   have Y:IntKind.i64.wrap ((i:Int) + (j:Int))=(i:Int) + (j:Int):=by rw[IntKind.wrap_i64]; omega
   have R:((i:Int) + (j:Int)) / 2 < n:=by omega
   have P:(0:Int)<=((i:Int) + (j:Int)) / 2:=by omega
   have Q:IntKind.i64.wrap (((i:Int) + (j:Int)) / 2)=((i:Int) + (j:Int)) / 2:=by rw[IntKind.wrap_i64]; omega
   have o:=cmpE (vv:=e.vv) ((d.dL e (List.mem_of_getElem? he)).k.by) (h.keep f)
   have r:(kys es)[m]? = some e.kl:=by simp[kys,he]
   rw[hm] at q0 q1
   have y:Hid (m=(i + j) / 2):=hm;clear d hm;by_cases hc:Lt e.kl k
   ·rw[oQ hc] at o;go_wp2_with (go_at_call 213; refine o.mono ?_; rintro O N ⟨rfl,a⟩);go_roundw
    case rel=>exact⟨m + 1,j,by have:=y.out; congr 1; omega,rfl,by omega,E,fun q x s hx=>by
     by_cases l:q=m
     ·subst l; rw[r] at hx; cases hx; exact hc
     ·exact S.get (by omega) hx r |>.trans hc,L.out,aj f a⟩
    case measure=>have:=y.out; simp[intOf]; omega
   ·have G:¬ (cZ e.kl k < 0):=by
     rcases iR e.kl k with q | q | q
     ·exact absurd q hc
     ·rw[q]; decide
     ·rw[q]; decide
    generalize cZ e.kl k=x at o G;go_wp2_with (go_at_call 213; refine o.mono ?_; rintro O N ⟨rfl,a⟩);go_roundw
    case rel=>exact⟨i,m,rfl,by have:=y.out; congr 1; omega,by omega,by omega,H1.out,fun q x s hx=>by
     by_cases l:q=m
     ·subst l; rw[r] at hx; cases hx; exact hc
     ·intro I;exact hc ((S.get (by omega) r hx).trans I),aj f a⟩
    case measure=>have:=y.out; simp[intOf]; omega
  ·have K:i=j:=by omega
   subst K
   have C:Hid (plc (kys es) k=i):=sj (by simp[kys]; omega) (fun q x s hx=>H1.out q x s hx) (fun x hx=>L.out i x (Nat.le_refl _) hx)
   have d:=A.keep f;by_cases X:i < n
   ·obtain⟨e,he⟩:∃ e,es[i]? = some e:=⟨es[i],List.getElem?_eq_getElem (by omega)⟩
    have q0:=d.row.cell (pV he);have q1:=d.row.cell (jY he)
    have r:(kys es)[i]? = some e.kl:=by simp[kys,he]
    have o:=cmpE (vv:=e.vv) ((d.dL e (List.mem_of_getElem? he)).k.by) (h.keep f)
    have B:Hid (thr (kys es) k=(cZ e.kl k == 0)):=by
     show _=_
     unfold thr;rw[C.out,r];by_cases q:e.kl=k
     ·subst q; simp[hH]
     ·have:cZ e.kl k≠0:=fun z=>q (qg z)
      simp[q,this]
    have u:(i:Int) < n:=by omega
    generalize cZ e.kl k=x at o B;clear d;go_wp2_with (go_at_call 213; refine o.mono ?_; rintro O N ⟨rfl,a⟩)
    all_goals (
     go_ret2;refine⟨?_,aj f a⟩;rw[B.out,C.out];rfl)
   ·have B:Hid (thr (kys es) k=false):=by
     show _=_
     unfold thr;rw[C.out,List.getElem?_eq_none (by simp[kys]; omega)];rfl
    have u:¬ ((i:Int) < n):=by omega
    go_wp2;go_ret2;refine⟨?_,f⟩;rw[B.out,C.out];rfl
theorem gI(A:PgA w D p)(S:Srt (kys p.es))(h:By w v k)(hn:p.es.length<=1000000) :
  Calls Tryz.prog 174 #[p.v,v] w fun e w'=>e=.returned (.tuple #[.int .i64 (plc (kys p.es) k),.bool (thr (kys p.es) k)])/\Below w.heap.size w w':=by
 have t:=bsE A S h hn;generalize plc (kys p.es) k=x at *;generalize thr (kys p.es) k=y at *;simp only[Pg.v] at *;clear A S h;go_enter Tryz.func174,Tryz.ntmps174;go_wp2_with (go_at_call 212; refine t.mono ?_; rintro c b ⟨rfl,a⟩);go_ret2;exact⟨rfl,a⟩
end
end Pg
end
section
namespace Pg
open Go.RowKit Go.Lib
section
variable {w w':World}{F D:Nat->Prop}{g b:Nat}{L:List Pg}{P:List (List En)}{es:List En}
structure bL(w:World)(F D:Nat->Prop)(g:Nat)(L:List Pg):Prop where
 top:∃ pv,Blk w g [pv] 144/\F g/\((pv=.slice none 0 0/\L=[])\/∃ G C,pv=.slice (some ⟨G,0,none⟩) L.length C/\F G/\Rw w 199 1 G L.length C (L.map Pg.v))
 b8:∀ p∈L,PgA w D p/\F p.b
 apart:(L.map Pg.b).Nodup
 kind:∀ b,F b->∃ cs t,Blk w b cs t/\t≠5
theorem bL.lt(h:bL w F D g L)(hb:F b):b < w.heap.size:=by
 obtain⟨cs,t,h,_⟩:=h.kind b hb;exact h.lt
theorem bL.same(h:bL w F D g L)(f:∀ b,F b->w'.heap[b]? = w.heap[b]?)(o:∀ b,b < w.heap.size->D b->(∃ cs,Blk w b cs 5)->w'.heap[b]? = w.heap[b]?):bL w' F D g L:=by
 obtain⟨q,hb,m,i⟩:=h.top
 have d:∀ {v:Value} {l:List Int},OB w D v l->OB w' D v l:=fun h=>⟨h.oct,h.ex.imp id (by
  rintro⟨b,c,e,j,a⟩;exact⟨b,c,e,j,a.same (o b a.lt j a.kind)⟩)⟩
 refine⟨⟨q,hb.same (f g m),m,i.imp id ?_⟩,fun p i => ?_,h.apart,fun b hb => ?_⟩
 ·rintro⟨G,C,e,n,a⟩;exact⟨G,C,e,n,a.same (f G n)⟩
 ·obtain⟨hA,hF⟩:=h.b8 p i;exact⟨⟨hA.row.same (f _ hF),fun e he=>⟨d (hA.dL e he).k,d (hA.dL e he).v⟩⟩,hF⟩
 ·obtain⟨cs,t,s,r⟩:=h.kind b hb;exact⟨cs,t,s.same (f b hb),r⟩
theorem bL.keep(h:bL w F D g L)(hb:Below w.heap.size w w'):bL w' F D g L:=h.same (fun b hF=>hb.block b (h.lt hF)) (fun b hl _ _=>hb.block b hl)
theorem bL.drew(h:bL w F D g L):bL w.drew F D g L:=h.same (fun _ _=>rfl) (fun _ _ _ _=>rfl)
theorem bL.chg{F':Nat->Prop}(h:bL w F D g L)(hc:Chg F' w w')(d:∀ b,F' b->¬ F b)(a:∀ b,F' b->∀ cs,¬ Blk w b cs 5):bL w' F D g L :=
 h.same (fun b hF=>hc.same b (h.lt hF) fun f=>d b f hF) (fun b c _ e=>hc.same b c fun f=>by obtain⟨cs,k⟩:=e; exact a b f cs k)
theorem bL.noU(h:bL w F D g L)(hb:F b)(cs:List Value):¬ Blk w b cs 5:=fun k=>by
 obtain⟨cs',t,hk,ht⟩:=h.kind b hb;exact ht (hk.eq k).2
theorem bL.mono{D':Nat->Prop}(h:bL w F D g L)(c:∀ b,b < w.heap.size->D b->D' b):bL w F D' g L :=
 ⟨h.top,fun p a=>⟨⟨(h.b8 p a).1.row,fun e he=>((h.b8 p a).1.dL e he).mono c⟩,(h.b8 p a).2⟩,h.apart,h.kind⟩
def ens(L:List Pg):List (List En):=L.map Pg.es
def fks(P:List (List En)):List (List Int):=P.map fun es=>(kys es).headD []
def plq:List (List Int)->List Int->Nat
 | [],_=>0
 | x :: l,k=>if Lt k x then 0 else plq l k + 1
theorem o5:∀ (l:List (List Int)) (k:List Int),plq l k<=l.length
 | [],_=>Nat.le_refl _
 | x :: l,k=>by
  rw[plq];split
  ·simp
  ·have:=o5 l k; simp; omega
theorem xJ:∀ {l:List (List Int)} {k:List Int} {i:Nat},i<=l.length->(∀ j x,j < i->l[j]? = some x->¬ Lt k x)->(∀ x,l[i]? = some x->Lt k x)->plq l k=i
 | [],_,i,h,_,_=>by simp at h; subst h; rfl
 | x :: l,k,0,_,_,h3=>by rw[plq,if_pos (h3 x rfl)]
 | x :: l,k,i + 1,h1,h2,h3=>by
  rw[plq,if_neg (h2 0 x (by omega) rfl),xJ (l:=l) (i:=i) (by simpa using h1) (fun j y hj hy=>h2 (j + 1) y (by omega) (by simpa using hy)) (fun y hy=>h3 y (by simpa using hy))]
theorem yn:∀ {l:List (List Int)} {k:List Int} {j:Nat} {x:List Int},j < plq l k->l[j]? = some x->¬ Lt k x
 | [],_,_,_,h,_=>by simp[plq] at h
 | y :: l,k,j,x,h,hx=>by
  rw[plq] at h;split at h
  ·omega
  ·cases j with
   | zero=>simp at hx; subst hx; assumption
   | succ j=>exact yn (l:=l) (j:=j) (by omega) (by simpa using hx)
theorem xO:∀ {l:List (List Int)} {k:List Int} {x:List Int},l[plq l k]? = some x->Lt k x
 | [],_,_,h=>by simp at h
 | y :: l,k,x,h=>by
  rw[plq] at h;split at h
  ·simp at h; subst h; assumption
  ·exact xO (l:=l) (by simpa using h)
def pgi(P:List (List En))(k:List Int):Nat:=plq (fks P) k - 1
structure Ord(P:List (List En)):Prop where
 full:∀ es∈P,es≠[]
 iF:Srt (kys P.flatten)
theorem Ord.page(h:Ord P){i:Nat}(hi:P[i]? = some es):Srt (kys es):=by
 have hm:=List.mem_of_getElem? hi;have:(kys es).Sublist (kys P.flatten):=(List.sublist_flatten_of_mem hm).map _;exact h.iF.sublist this
theorem jK(h:es≠[]):∃ e l,es=e :: l/\(kys es).headD []=e.kl:=by
 cases es with
 | nil=>exact absurd rfl h
 | cons e l=>exact⟨e,l,rfl,rfl⟩
theorem Ord.Ak:∀ {P:List (List En)},Ord P->Srt (fks P)
 | [],_=>List.Pairwise.nil
 | es :: P,h=>by
  have h2:Ord P:=⟨fun x hx=>h.full x (List.mem_cons_of_mem _ hx),by
   have:=h.iF;simp only[Srt,kys,List.flatten_cons,List.map_append,List.pairwise_append] at this;exact this.2.1⟩
  refine List.Pairwise.cons (fun x hx => ?_) (Ord.Ak h2);obtain⟨fs,a,rfl⟩:=List.mem_map.1 hx;obtain⟨e,l,rfl,he⟩:=jK (h.full es List.mem_cons_self);obtain⟨f,m,rfl,hf⟩:=jK (h2.full fs a)
  show Lt e.kl f.kl
  have:=h.iF;simp only[Srt,kys,List.flatten_cons,List.map_append,List.pairwise_append] at this;exact this.2.2 e.kl (by simp) f.kl (List.mem_map.2 ⟨f,List.mem_flatten.2 ⟨_,a,List.mem_cons_self⟩,rfl⟩)
end
end Pg
end
section
namespace Pg
open Go.RowKit Go.Lib
section
variable {L:List Pg}{i g:Nat}{p:Pg}{w:World}{F D:Nat->Prop}{v:Value}{k:List Int}{P:List (List En)}
theorem pE(h:L[i]? = some p):(ens L)[i]? = some p.es:=by simp[ens,h]
theorem Cn(h:L[i]? = some p):(fks (ens L))[i]? = some ((kys p.es).headD []):=by simp[ens,fks,h]
theorem bL.head(A:bL w F D g L)(O:Ord (ens L))(h:L[i]? = some p):∃ kv,w.cell? ⟨p.b,0,none⟩=some kv/\By w kv ((kys p.es).headD []):=by
 have a:=List.mem_of_getElem? h
 have hm:p.es∈ens L:=List.mem_map.2 ⟨p,a,rfl⟩;obtain⟨e,l,he,c⟩:=jK (O.full _ hm);obtain⟨hA,_⟩:=A.b8 p a;have q:=hA.row.cell (i:=0) (v:=e.kv) (by rw[he]; rfl);exact⟨e.kv,q,by rw[c]; exact(hA.dL e (by rw[he]; exact List.mem_cons_self)).k.by⟩
theorem bL.rd(A:bL w F D g L):∃ ao c,w.cell? ⟨g,0,none⟩=some (.slice ao L.length c)/\L.length<=c/\c<=9223372036854775807/\(∀ i p,L[i]? = some p->∃ G,ao=some ⟨G,0,none⟩/\w.cell? ⟨G,i,none⟩=some p.v):=by
 obtain⟨e,hb,f,⟨rfl,rfl⟩ | ⟨G,C,rfl,d,a⟩⟩:=A.top
 ·exact⟨_,_,hb.cell (i:=0) rfl,by decide,by decide,fun i p h=>by simp at h⟩
 ·have b:=a.le;simp only[maxLen] at b;exact⟨_,C,hb.cell (i:=0) rfl,by omega,by omega,fun i p h=>⟨G,rfl,a.cell (by simp[h])⟩⟩
theorem iQ(A:bL w F D g L)(O:Ord (ens L))(h:By w v k)(hn:L.length<=1000000000) :
  Calls Tryz.prog 172 #[.pointer (some ⟨g,0,none⟩),v] w fun e w'=>e=.returned (.int .i64 (pgi (ens L) k))/\Below w.heap.size w w':=by
 obtain⟨T,c,hc,H,hc2,J⟩:=A.rd;have d:=O.Ak;obtain⟨r,o⟩:∃ r,Hid (fks (ens L)=r):=⟨_,rfl⟩
 rw[o.out] at d;obtain⟨n,s⟩:∃ n,Hid (L.length=n):=⟨_,rfl⟩
 rw[s.out] at hc H hn
 have hkl:r.length=n:=by rw[<- o.out,<- s.out]; simp[fks,ens]
 have N:Below w.heap.size w w.drew:=⟨rfl,rfl,rfl,Nat.le_refl _,fun _ _=>rfl⟩
 have hcd:w.drew.cell? ⟨g,0,none⟩=some (.slice T n c):=hc
 have b:∀ (i:Nat),i<=n->(∀ q x,q < i->r[q]? = some x->¬ Lt k x)->(∀ q x,i<=q->r[q]? = some x->Lt k x)->pgi (ens L) k=i - 1:=fun i hi h1 h2=>by
  unfold pgi;rw[o.out,xJ (i:=i) (by omega) (fun j x hj hx=>h1 j x hj hx) (fun x hx=>h2 i x (Nat.le_refl _) hx)]
 have b:Hid _:=b;have mixed:=mixed;go_enter Tryz.func172,Tryz.ntmps172;go_wp2;go_step3;go_wp2;go_region;go_wp2;go_step3;go_wp2;go_loopw [5,6] (fun P I wr=>∃ i j:Nat,P=.int .i64 i/\I=.int .i64 j/\i<=j/\j<=n/\Hid (∀ q x,q < i->r[q]? = some x->¬ Lt k x)/\Hid (∀ q x,j<=q->r[q]? = some x->Lt k x)/\Below w.heap.size w wr) (fun P I _=>(intOf I).toNat - (intOf P).toNat)
 case atStart=>exact⟨0,n,rfl,rfl,Nat.zero_le _,Nat.le_refl _,fun q x y=>by omega,fun q x y hx=>by
  have:=(List.getElem?_eq_some_iff.1 hx).1;omega,N⟩
 case round =>
  obtain⟨i,j,rfl,rfl,hij,E,H1,U,l⟩:=hrel;by_cases hlt:i < j
  ·obtain⟨m,hm⟩:∃ m,m=i + (j - i) / 2:=⟨_,rfl⟩
   have hm1:i<=m:=by omega
   have hm2:m < j:=by omega
   obtain⟨p,B⟩:∃ p,L[m]? = some p:=⟨L[m]'(by have:=s.out; omega),List.getElem?_eq_getElem _⟩
   have S:=A.keep l
   have c0:wr.cell? ⟨g,0,none⟩=some (.slice T n c):=by
    rw[l.cell (p:=⟨g,0,none⟩) (by obtain⟨_,hb,_⟩:=A.top; exact hb.lt)]; exact hc
   obtain⟨G,rfl,R⟩:=J m p B
   have z:wr.cell? ⟨G,m,none⟩=some p.v:=by
    rw[l.cell (p:=⟨G,m,none⟩) (aJ R)]; exact R
   obtain⟨kv,cK,V⟩:=S.head O B
   have a:r[m]? = some ((kys p.es).headD []):=by rw[<- o.out]; exact Cn B
   have Z:0 < p.es.length:=by
    have:=O.full p.es (List.mem_map.2 ⟨p,List.mem_of_getElem? B,rfl⟩);exact List.length_pos_iff.2 this
   simp only[Pg.v] at z;rw[hm] at z;have t:=kU V (h.keep l);generalize (kys p.es).headD []=Y at *
   have u:Hid (m=i + (j - i) / 2):=hm
   have hz0:(0:Int)<=(i:Int) + ((j:Int) - (i:Int)) / 2:=by omega
   have hz1:(i:Int) + ((j:Int) - (i:Int)) / 2 < n:=by omega
   have hz2:((i:Int) + ((j:Int) - (i:Int)) / 2).toNat=i + (j - i) / 2:=by omega
   generalize p.es.length=pn at *;clear S hm V;rcases o4 Y k with hc | hc | hc
   ·rw[oQ hc] at t;go_wp2_with (go_at_call 211; refine t.mono ?_; rintro X W ⟨rfl,rfl⟩);go_roundw
    case rel=>exact⟨m + 1,j,by have:=u.out; congr 1; omega,rfl,by omega,E,fun q x y hx=>by
     by_cases f:q=m
     ·subst f; rw[a] at hx; cases hx; exact hc.not
     ·exact((d.get (by omega) hx a).trans hc).not,U.out,l⟩
    case measure=>have:=u.out; simp[intOf]; omega
   ·have hF:=b.out (m + 1) (by omega) (fun q x y hx=>by
     subst hc;by_cases f:q=m
     ·subst f; rw[a] at hx; cases hx; exact lt_irrefl _
     ·exact(d.get (by omega) hx a).not) (fun q x y hx=>by subst hc; exact d.get (by omega) a hx)
    have C:Hid (pgi (ens L) k=m):=by show _=_; rw[hF]; omega
    have HC:Hid (Y=k):=hc;rw[hc,hH] at t
    have hx0:(i:Int) + ((j:Int) - (i:Int)) / 2 + 1 - 1=(i:Int) + ((j:Int) - (i:Int)) / 2:=by omega
    have K:¬ ((i:Int) + ((j:Int) - (i:Int)) / 2 < 0):=by omega
    clear hF hc;go_wp2_with (go_at_call 211; refine t.mono ?_; rintro X W ⟨rfl,rfl⟩);simp only[Exit.noGoto_ret];go_ret;refine⟨?_,l⟩;rw[C.out];have:=u.out
    show Ending.returned (Value.int .i64 ((i:Int) + ((j:Int) - (i:Int)) / 2))=_
    rw[show (i:Int) + ((j:Int) - (i:Int)) / 2=(m:Int) by omega]
   ·rw[CP hc] at t;go_wp2_with (go_at_call 211; refine t.mono ?_; rintro X W ⟨rfl,rfl⟩);go_roundw
    case rel=>exact⟨i,m,rfl,by have:=u.out; congr 1; omega,by omega,by omega,H1.out,fun q x y hx=>by
     by_cases f:q=m
     ·subst f; rw[a] at hx; cases hx; exact hc
     ·exact hc.trans (d.get (by omega) a hx),l⟩
    case measure=>have:=u.out; simp[intOf]; omega
  ·have Q:i=j:=by omega
   subst Q
   have C:Hid (pgi (ens L) k=i - 1):=b.out i (by omega) H1.out U.out;by_cases M:i=0
   ·subst M;go_wp2
    try simp only[Exit.noGoto_ret]
    go_ret;refine⟨?_,l⟩;rw[C.out];rfl
   ·have K:¬ ((i:Int) - 1 < 0):=by omega
    have aa:(0:Int)<=(i:Int) - 1:=by omega
    go_wp2
    try simp only[Exit.noGoto_ret]
    go_ret;refine⟨?_,l⟩;rw[C.out]
    show Ending.returned (Value.int .i64 ((i:Int) - 1))=_
    rw[show (i:Int) - 1=((i - 1:Nat):Int) by omega]
theorem pgi_lt(h:P≠[])(k:List Int):pgi P k < P.length:=by
 have h1:=o5 (fks P) k
 have h2:0 < P.length:=List.length_pos_iff.2 h;simp only[fks,List.length_map] at h1;unfold pgi fks;omega
theorem mT(A:bL w F D g []) :
  Calls Tryz.prog 146 #[.pointer (some ⟨g,0,none⟩),v] w fun e w'=>e=.returned (.tuple #[.int .i64 0,.int .i64 0,.bool false])/\w'=w:=by
 obtain⟨f,c,hc,b,d,a⟩:=A.rd;simp only[List.length_nil] at hc;clear A a;go_enter Tryz.func146,Tryz.ntmps146;go_wp2;go_ret3;exact⟨rfl,rfl⟩
theorem kZ(A:bL w F D g L)(O:Ord (ens L))(h:By w v k)(hn:L.length<=1000000000)(d:L[pgi (ens L) k]? = some p)(hs:p.es.length<=1000000) :
  Calls Tryz.prog 146 #[.pointer (some ⟨g,0,none⟩),v] w fun e w'=>e=.returned (.tuple #[.int .i64 (pgi (ens L) k),.int .i64 (plc (kys p.es) k),.bool (thr (kys p.es) k)])/\Below w.heap.size w w':=by
 have E:=iQ A O h hn;have u:=(List.getElem?_eq_some_iff.1 d).1;have f:=List.mem_of_getElem? d
 have B:∀ w',Below w.heap.size w w'->Calls Tryz.prog 174 #[p.v,v] w' fun e r=>e=.returned (.tuple #[.int .i64 (plc (kys p.es) k),.bool (thr (kys p.es) k)])/\Below w'.heap.size w' r:=fun w' hb =>
  gI ((A.b8 p f).1.keep hb) (O.page (pE d)) (h.keep hb) hs
 obtain⟨M,c,hc,q,K,j⟩:=A.rd;obtain⟨G,rfl,C⟩:=j _ p d;have s:=aJ hc;have l:=aJ C;generalize pgi (ens L) k=i at *;generalize plc (kys p.es) k=x at *;generalize thr (kys p.es) k=y at *;obtain⟨n,o⟩:∃ n,L.length=n:=⟨_,rfl⟩
 rw[o] at hc q u
 have H:¬ ((n:Int)=0):=by omega
 have J:(i:Int) < n:=by omega
 simp only[Pg.v] at *;clear A O h j d f;go_enter Tryz.func146,Tryz.ntmps146;go_wp2_with (first | (go_at_call 172; refine E.mono ?_; rintro I t ⟨rfl,a⟩; have c1:t.cell? ⟨g,0,none⟩=some (.slice (some ⟨G,0,none⟩) n c):=(a.cell (p:=⟨g,0,none⟩) s).trans hc; have c2:t.cell? ⟨G,i,none⟩=some (.slice (some ⟨p.b,0,none⟩) p.es.length p.c):=(a.cell (p:=⟨G,i,none⟩) l).trans C; have z:=B t a; clear E B) | (go_at_call 174; refine z.mono ?_; rintro I N ⟨rfl,m⟩));go_ret3;exact⟨rfl,aj a m⟩
end
end Pg
end
section
namespace Pg
open Go.RowKit Go.Lib
section
variable {w w1:World}{F D:Nat->Prop}{g G n c i j:Nat}{L L':List Pg}{cs ds xs:List Value}{p q:Pg}{c0:Value}
theorem bL.opn(A:bL w F D g L)(h:L≠[]):∃ G C,Blk w g [.slice (some ⟨G,0,none⟩) L.length C] 144/\F g/\F G/\Rw w 199 1 G L.length C (L.map Pg.v):=by
 obtain⟨d,hb,b,⟨rfl,rfl⟩ | ⟨G,C,rfl,a,c⟩⟩:=A.top
 ·exact absurd rfl h
 ·exact⟨G,C,hb,b,a,c⟩
theorem eD{a b:Nat}{t u:TypeId}(h:Blk w a cs t)(h':Blk w b ds u)(ht:t≠u):a≠b:=fun e=>by subst e; exact ht (h.eq h').2
theorem PgA.eZ(h:PgA w D p)(hg:Blk w g cs 144):p.b≠g:=by
 obtain⟨ds,k⟩:=h.row.kind;exact eD k hg (by decide)
theorem PgA.eV(h:PgA w D p)(hG:Rw w 199 1 G n c xs):p.b≠G:=by
 obtain⟨ds,k⟩:=h.row.kind;obtain⟨es,k'⟩:=hG.kind;exact eD k k' (by decide)
theorem Rw.eZ(hG:Rw w 199 1 G n c xs)(hg:Blk w g cs 144):G≠g:=by
 obtain⟨es,k'⟩:=hG.kind;exact eD k' hg (by decide)
theorem nh(h:(L.map Pg.b).Nodup)(hi:L[i]? = some p)(c:L[j]? = some q)(a:i < j):p.b≠q.b:=by
 obtain⟨l1,e1⟩:=List.getElem?_eq_some_iff.1 hi;obtain⟨d,e2⟩:=List.getElem?_eq_some_iff.1 c;have:=List.pairwise_iff_getElem.1 h i j (by simpa using l1) (by simpa using d) a;simpa[e1,e2] using this
theorem rV(h:(L.map Pg.b).Nodup)(hi:L[i]? = some p)(hj:L[j]? = some q)(hij:i≠j):p.b≠q.b:=by
 rcases Nat.lt_or_gt_of_ne hij with k | k
 ·exact nh h hi hj k
 ·exact(nh h hj hi k).symm
theorem AG(h:∀ (i j:Nat) (p q:Pg),L[i]? = some p->L[j]? = some q->i < j->p.b≠q.b):(L.map Pg.b).Nodup:=by
 refine List.pairwise_iff_getElem.2 fun i j d c a => ?_
 have l1:i < L.length:=by simpa using d
 have e:j < L.length:=by simpa using c
 simpa using h i j _ _ (List.getElem?_eq_getElem l1) (List.getElem?_eq_getElem e) a
theorem EnA.off{w':World}{e:En}(h:EnA w D e)(f:∀ b,b < w.heap.size->(∃ cs,Blk w b cs 5)->w'.heap[b]? = w.heap[b]?):EnA w' D e:=by
 have a:∀ {v:Value} {l:List Int},OB w D v l->OB w' D v l:=fun h=>⟨h.oct,h.ex.imp id (by
  rintro⟨b,c,e,g,d⟩;exact⟨b,c,e,g,d.same (f b d.lt d.kind)⟩)⟩
 exact⟨a h.k,a h.v⟩
theorem bL.put{D':Nat->Prop}{C:Nat}{p':Pg}(A:bL w F D g L)(H:Blk w g [.slice (some ⟨G,0,none⟩) L.length C] 144)(O:F g)(o:F G)(B:Rw w 199 1 G L.length C (L.map Pg.v))(hi:L[i]? = some p)(hC:Chg (· = p.b) w w1)(hb:p'.b=p.b\/w.heap.size<=p'.b)(hA:PgA w1 D' p')(T:∀ b,b < w.heap.size->D b->D' b) :
  bL (w1.setCell ⟨G,i,none⟩ p'.v) (fun x=>(F x/\x≠p.b)\/x=p'.b) D' g (L.set i p')/\Chg F w (w1.setCell ⟨G,i,none⟩ p'.v):=by
 have d:=(List.getElem?_eq_some_iff.1 hi).1;have E:=A.b8 p (List.mem_of_getElem? hi);have S:=E.1.eZ H;have R:=E.1.eV B;have U:=B.eZ H
 have M:Blk w1 g _ _:=H.chg hC (fun e=>S e.symm);have l:=B.chg hC (fun e=>R e.symm);have u:=l.set i (by simpa using d) p'.v
 have P:p'.b≠G:=hA.eV l
 have s:Chg F w (w1.setCell ⟨G,i,none⟩ p'.v):=(hC.mono (F':=F) (fun b _ e=>by subst e; exact E.2)).cell (.inl o) _
 have I:∀ b,b < w.heap.size->(∃ cs,Blk w b cs 5)->(w1.setCell ⟨G,i,none⟩ p'.v).heap[b]? = w.heap[b]? := fun b hb N=>by
  obtain⟨cs,k⟩:=N;exact s.same b hb fun f=>A.noU f cs k
 have c:∀ b,b≠G->(w1.setCell ⟨G,i,none⟩ p'.v).heap[b]? = w1.heap[b]? := fun b hb=>Below.heap_setCell w1 _ _ b hb
 refine⟨⟨⟨_,M.off (fun e=>U e.symm) _,.inl ⟨O,fun e=>S e.symm⟩,.inr ⟨G,C,?_,.inl ⟨o,fun e=>R e.symm⟩,?_⟩⟩,fun q W => ?_,AG fun x y a b hx hy K => ?_,fun b hb => ?_⟩,s⟩
 ·rw[List.length_set]
 ·rw[List.length_set];refine u.to ?_
  rw[List.map_set]
 ·obtain⟨j,m⟩:=List.getElem?_of_mem W;rw[List.getElem?_set] at m;by_cases e:i=j
  ·subst e;rw[if_pos rfl,if_pos d] at m
   cases m;refine⟨⟨hA.row.same (c _ P),fun e he=>(hA.dL e he).off fun b _ N => ?_⟩,.inr rfl⟩;obtain⟨cs,k⟩:=N;obtain⟨Q,J⟩:=l.kind;exact c b (eD k J (by decide))
  ·rw[if_neg e] at m;have h:=A.b8 q (List.mem_of_getElem? m)
   have r:q.b≠p.b:=fun n=>rV A.apart hi m e n.symm
   exact⟨⟨(h.1.row.chg hC r).same (c _ (h.1.eV B)),fun e he=>((h.1.dL e he).mono T).off I⟩,.inl ⟨h.2,r⟩⟩
 ·have key:∀ (y:Nat) (b:Pg),y≠i->L[y]? = some b->p'.b≠b.b:=fun y b hy z=>by
   rcases hb with e | e
   ·rw[e]; exact rV A.apart hi z (fun n=>hy n.symm)
   ·have:=(A.b8 b (List.mem_of_getElem? z)).1.row.lt;omega
  rw[List.getElem?_set] at hx hy;by_cases e:i=x
  ·subst e;rw[if_pos rfl,if_pos d] at hx
   cases hx;rw[if_neg (by omega)] at hy;exact key y b (by omega) hy
  ·rw[if_neg e] at hx;by_cases n:i=y
   ·subst n;rw[if_pos rfl,if_pos d] at hy
    cases hy;exact(key x a (by omega) hx).symm
   ·rw[if_neg n] at hy;exact nh A.apart hx hy K
 ·by_cases e:b=p'.b
  ·subst e;obtain⟨cs,k⟩:=hA.row.kind;exact⟨cs,_,k.same (c _ P),by decide⟩
  ·obtain⟨hF,e2⟩:=hb.resolve_right e;obtain⟨cs,t,k,V⟩:=A.kind b hF;by_cases e1:b=G
   ·subst e1;obtain⟨Q,J⟩:=u.kind;exact⟨Q,_,J,by decide⟩
   ·exact⟨cs,t,(k.chg hC e2).same (c b e1),V⟩
theorem jT{G' C':Nat}(K:∀ p∈L',PgA w D p/\F p.b)(H:(L'.map Pg.b).Nodup)(J:∀ b,F b->∃ cs t,Blk w b cs t/\t≠5)(I:Blk w g [c0] 144)(r:F g)(s:F G)(h:G≠g)(hC:Chg (· = G) w w1)(l:∀ p∈L',p.b≠G)(hn:L'.length=n)(y:Rw w1 199 1 G' n C' (L'.map Pg.v)) :
  bL (w1.setCell ⟨g,0,none⟩ (.slice (some ⟨G',0,none⟩) n C')) (fun x=>(F x/\x≠G)\/x=G') D g L'/\Chg F w (w1.setCell ⟨g,0,none⟩ (.slice (some ⟨G',0,none⟩) n C')):=by
 subst hn
 have m:Blk w1 g [c0] 144:=I.chg hC (fun e=>h e.symm);have o:=m.setCell (i:=0) (.slice (some ⟨G',0,none⟩) L'.length C')
 have d:G'≠g:=y.eZ m
 have a:∀ b,b≠g->(w1.setCell ⟨g,0,none⟩ (.slice (some ⟨G',0,none⟩) L'.length C')).heap[b]? = w1.heap[b]? := fun b hb=>Below.heap_setCell w1 _ _ b hb
 have j:Chg F w (w1.setCell ⟨g,0,none⟩ (.slice (some ⟨G',0,none⟩) L'.length C')):=(hC.mono (F':=F) (fun b _ e=>by subst e; exact s)).cell (.inl r) _
 have B:∀ b,b < w.heap.size->(∃ cs,Blk w b cs 5)->(w1.setCell ⟨g,0,none⟩ (.slice (some ⟨G',0,none⟩) L'.length C')).heap[b]? = w.heap[b]? := fun b hb C=>by
  obtain⟨cs,k⟩:=C;exact j.same b hb fun f=>by
   obtain⟨L,t,z,A⟩:=J b f;exact A (z.eq k).2
 refine⟨⟨⟨_,o,.inl ⟨r,fun e=>h e.symm⟩,.inr ⟨G',C',rfl,.inr rfl,y.same (a _ d)⟩⟩,fun q E => ?_,H,fun b hb => ?_⟩,j⟩
 ·have c:=K q E;exact⟨⟨(c.1.row.chg hC (l q E)).same (a _ (c.1.eZ I)),fun e he=>(c.1.dL e he).off B⟩,.inl ⟨c.2,l q E⟩⟩
 ·by_cases e:b=G'
  ·subst e;obtain⟨u,k⟩:=y.kind;exact⟨u,_,k.same (a _ d),by decide⟩
  ·obtain⟨hF,e2⟩:=hb.resolve_right e;obtain⟨u,t,k,A⟩:=J b hF;by_cases e1:b=g
   ·subst e1;exact⟨_,_,o,by decide⟩
   ·exact⟨u,t,(k.chg hC e2).same (a b e1),A⟩
theorem tf(L:List Pg):∀ v∈L.map Pg.v,v.oneCell'=true:=fun v hv=>by
 obtain⟨p,_,rfl⟩:=List.mem_map.1 hv;rfl
end
end Pg
end
section
namespace Pg
open Go.RowKit Go.Lib
section
variable {ops:Array Oper} {Q:Exit->Act->World->Prop} {S:World->Prop} {fuel:Nat} {listed:Array Bool} {a:Act} {w:World}
section
variable {Qc:Ending->World->Prop}
def gO(ops:Array Oper)(listed:Array Bool)(a:Act)(i:Nat)(d:Option Tmp):Bool :=
 Region.noSelect ops && Region.free .any ops listed i && (Region.ready .any ops listed).contains i && decide (i < ops.size) && Region.wanted (ops.getD i default) (yielded ops a.tmps) && decide ((ops.getD i default).dst=d)
def DO(ops:Array Oper)(listed:Array Bool)(a:Act)(i:Nat)(d:Option Tmp):Bool :=
 Region.noSelect ops && Region.free .any ops listed i && (Region.ready .any ops listed).contains i && decide (i < ops.size) && !Region.wanted (ops.getD i default) (yielded ops a.tmps) && decide ((ops.getD i default).dst=d)
def gz(ops:Array Oper)(listed:Array Bool)(a:Act)(i:Nat)(d:Option Tmp):Bool :=
 decide (Region.ready .any ops listed=[i]) && decide (i < ops.size) && Region.wanted (ops.getD i default) (yielded ops a.tmps) && decide ((ops.getD i default).dst=d)
theorem bP{i:Nat}(h:i < ops.size):ops[i]? = some (ops.getD i default):=by
 simp[Array.getD,h]
theorem ai(i:Nat)(d:Option Tmp)(v:Value)(hc:gO ops listed a i d=true)(hy:∀ w',S w'->(execOp a.eval (ops.getD i default)).run Tryz.prog w'=.ok (.value v) w')(k:∀ c a w,Q (.panic c) (a.put d v) w->Q (.panic c) a w)(hS:S w)(h:wpAnyH Tryz.prog .any ops Q S fuel (listed.setIfInBounds i true) (a.put d v) w):wpAnyH Tryz.prog .any ops Q S (fuel + 1) listed a w:=by
 simp only[gO,Bool.and_eq_true,decide_eq_true_eq] at hc;obtain⟨⟨⟨⟨⟨j,b⟩,l⟩,e⟩,g⟩,f⟩:=hc;subst f;exact wpAnyH_take (bP e) j b l k (.inl ⟨g,hy⟩) hS h
theorem iL(i:Nat)(d:Option Tmp)(v b:Value)(hv:v=b)(hc:gO ops listed a i d=true)(hy:∀ w',S w'->(execOp a.eval (ops.getD i default)).run Tryz.prog w'=.ok (.value v) w')(e:∀ c a w,Q (.panic c) (a.put d b) w->Q (.panic c) a w)(hS:S w)(h:wpAnyH Tryz.prog .any ops Q S fuel (listed.setIfInBounds i true) (a.put d b) w):wpAnyH Tryz.prog .any ops Q S (fuel + 1) listed a w:=by
 subst hv;exact ai i d v hc hy e hS h
theorem cy(i:Nat)(d:Option Tmp)(hc:DO ops listed a i d=true)(k:∀ c a w,Q (.panic c) (a.put d undef) w->Q (.panic c) a w)(hS:S w)(h:wpAnyH Tryz.prog .any ops Q S fuel (listed.setIfInBounds i true) (a.put d undef) w):wpAnyH Tryz.prog .any ops Q S (fuel + 1) listed a w:=by
 simp only[DO,Bool.and_eq_true,decide_eq_true_eq,Bool.not_eq_true'] at hc;obtain⟨⟨⟨⟨⟨j,b⟩,l⟩,e⟩,g⟩,f⟩:=hc;subst f;exact wpAnyH_take (bP e) j b l k (.inr ⟨g,rfl⟩) hS h
theorem aP(i:Nat)(d:Option Tmp)(v:Value)(T:TypeId)(k g o:Nat)(hc:gO ops listed a i d=true)(l:(ops.getD i default).op=.load T (.tmp k))(e:a.eval (.tmp k)=.pointer (some ⟨g,o,none⟩))(f:∀ w',S w'->(loadVar T ⟨g,o,none⟩).run Tryz.prog w'=.ok v w')(j:∀ c a w,Q (.panic c) (a.put d v) w->Q (.panic c) a w)(hS:S w)(h:wpAnyH Tryz.prog .any ops Q S fuel (listed.setIfInBounds i true) (a.put d v) w):wpAnyH Tryz.prog .any ops Q S (fuel + 1) listed a w :=
 ai i d v hc (fun w' b=>by
  have:=f w' b;simp only[execOp,l,e];simp[Instr.loadAt,Instr.sureAddr,Result.andThen,this]) j hS h
theorem bN(i:Nat)(d:Option Tmp)(f:FuncId)(args:Array Value)(hc:gz ops listed a i d=true)(c:(execOp a.eval (ops.getD i default)).run Tryz.prog w=.ok (.enter f args) w)(b:Calls Tryz.prog f args w Qc)(p:∀ e w',Qc e w'->∃ v,e=.returned v/\S w'/\wpAnyH Tryz.prog .any ops Q S fuel (listed.setIfInBounds i true) (a.put d v) w') :
  wpAnyH Tryz.prog .any ops Q S (fuel + 1) listed a w:=by
 simp only[gz,Bool.and_eq_true,decide_eq_true_eq] at hc;obtain⟨⟨⟨k,l⟩,o⟩,n⟩:=hc;subst n;refine wpAnyH_all k (by simp) fun j m => ?_
 obtain rfl:j=i:=by simpa using m
 refine wpOp_step (bP l) fun K h => ?_
 rw[if_pos o];unfold Oper.wp;rw[c];refine b.mono fun e w' he => ?_
 obtain⟨v,rfl,g,hw⟩:=p e w' he;exact h _ _ ⟨g,hw⟩
theorem bH(hr:Region.ready .any ops listed=[])(h:Q .normal a w):wpAnyH Tryz.prog .any ops Q S fuel listed a w:=wpAnyH_done hr h fuel
theorem bU{id:Nat}(hm:Tryz.prog.follows .mixedOrders=true)(hS:S w.drew)(h:wpAnyH Tryz.prog .any ops Q S ops.size (Array.replicate ops.size false) a w.drew):(Code.region id ops true).wp Tryz.prog Q a w :=
 wp_region_held_drew hm hS fun _=>h
end
end
def jc (a:Act):List (Option Tmp × Value)->Act
 | []=>a
 | p :: l=>jc (a.put p.1 p.2) l
section
variable {ops:Array Oper} {Q:Exit->Act->World->Prop} {S:World->Prop} {fuel:Nat} {listed:Array Bool} {a:Act} {w:World}
section
variable {K:Act->World->Prop}{rs:List Nat}{Qc:Ending->World->Prop}
theorem oW{X:Type}{id:Nat}{d:Exit->Act->World->Prop}(upd:X->List (Option Tmp × Value))(F:X->World->Prop)(S:World->Prop)(hm:Tryz.prog.follows .mixedOrders=true)(hS:S w.drew)(c:wpAnyH Tryz.prog .any ops (Exit.then (fun a' w'=>∃ x,a'=jc a (upd x)/\F x w') (fun _ _ _=>False)) S ops.size (Array.replicate ops.size false) a w.drew)(b:∀ x w',F x w'->K (jc a (upd x)) w'):(Code.region id ops true).wp Tryz.prog (Exit.then K d) a w :=
 Code.wp_mono (fun e a' w' h=>by
  cases e<;>first
   | (obtain⟨x,rfl,hF⟩:=h; exact b x w' hF)
   | exact h.elim) (wp_region_held_drew (S:=S) hm hS fun _=>c)
def eU(ops:Array Oper)(a:Act)(i:Nat)(d:Option Tmp):Bool :=
 decide (i < ops.size) && Region.wanted (ops.getD i default) (yielded ops a.tmps) && decide ((ops.getD i default).dst=d)
theorem aL(rs:List Nat)(hr:Region.ready .any ops listed=rs)(hne:rs≠[])(h:AllReadyH Tryz.prog .any ops Q S fuel listed a w rs):wpAnyH Tryz.prog .any ops Q S (fuel + 1) listed a w:=wpAnyH_ready hr hne h
theorem aV:AllReadyH Tryz.prog .any ops Q S fuel listed a w []:=AllReadyH.nil
theorem uT(i:Nat)(d:Option Tmp)(f:FuncId)(args:Array Value)(hc:eU ops a i d=true)(c:(execOp a.eval (ops.getD i default)).run Tryz.prog w=.ok (.enter f args) w)(b:Calls Tryz.prog f args w Qc)(m:∀ e w',Qc e w'->∃ v,e=.returned v/\S w'/\wpAnyH Tryz.prog .any ops Q S fuel (listed.setIfInBounds i true) (a.put d v) w')(hs:AllReadyH Tryz.prog .any ops Q S fuel listed a w rs):AllReadyH Tryz.prog .any ops Q S fuel listed a w (i :: rs):=by
 simp only[eU,Bool.and_eq_true,decide_eq_true_eq] at hc;obtain⟨⟨j,l⟩,k⟩:=hc;subst k;refine AllReadyH.cons (bP j) (fun K h => ?_) hs;rw[if_pos l];unfold Oper.wp;rw[c];refine b.mono fun e w' he => ?_
 obtain⟨v,rfl,g,hw⟩:=m e w' he;exact h.out _ _ g fun _=>hw
theorem bI(i:Nat)(d:Option Tmp)(v:Value)(w1:World)(hc:eU ops a i d=true)(b:(execOp a.eval (ops.getD i default)).run Tryz.prog w=.ok (.value v) w1)(c:S w1)(h:wpAnyH Tryz.prog .any ops Q S fuel (listed.setIfInBounds i true) (a.put d v) w1)(hs:AllReadyH Tryz.prog .any ops Q S fuel listed a w rs):AllReadyH Tryz.prog .any ops Q S fuel listed a w (i :: rs):=by
 simp only[eU,Bool.and_eq_true,decide_eq_true_eq] at hc;obtain⟨⟨f,j⟩,g⟩:=hc;subst g;refine AllReadyH.cons (bP f) (fun K e => ?_) hs;rw[if_pos j];unfold Oper.wp;rw[b]
 show K (a.put (ops.getD i default).dst v) w1
 exact e.out _ _ c fun _=>h
theorem dq(i:Nat)(w1:World)(hc:eU ops a i none=true)(b:(execOp a.eval (ops.getD i default)).run Tryz.prog w=.ok .skip w1)(c:S w1)(h:wpAnyH Tryz.prog .any ops Q S fuel (listed.setIfInBounds i true) (a.put none undef) w1)(hs:AllReadyH Tryz.prog .any ops Q S fuel listed a w rs):AllReadyH Tryz.prog .any ops Q S fuel listed a w (i :: rs):=by
 simp only[eU,Bool.and_eq_true,decide_eq_true_eq] at hc;obtain⟨⟨e,g⟩,f⟩:=hc;refine AllReadyH.cons (bP e) (fun K d => ?_) hs;rw[if_pos g];unfold Oper.wp;rw[b]
 show K (a.put (ops.getD i default).dst undef) w1
 rw[f];exact d.out _ _ c fun _=>h
end
end
section
variable {a:Act}{w:World}{x y k n c g off:Nat}{o:Oper}{v u:Value}{ao bo:Option Addr}
theorem ez{op:Oper}{T:TypeId}{b:Nat}(e:op.op=.indexAddr T (.tmp x) (.tmp y))(l:Tryz.prog.underlying T=some (.slice 199))(hx:a.eval (.tmp x)=.slice (some ⟨b,0,none⟩) n c){z:Int}(hy:a.eval (.tmp y)=.int .i64 z)(g:z=(k:Int))(o:k < n):(execOp a.eval op).run Tryz.prog w=.ok (.value (.pointer (some ⟨b,k,none⟩))) w:=by
 subst g
 have m:(k:Int) < n:=by omega
 have j:¬ ((k:Int) < 0):=by omega
 obtain⟨i0,hi,d,f,h⟩:=info_parts (P:=Tryz.prog) (show (Tryz.prog.info? 199).map (fun i=>(i.zero,i.size,i.bytes))=some (some (.slice none 0 0),1,24) by kernel_rfl);simp only[execOp,e,hx,hy];go_simp
theorem fS{o:Nat}(c:w.cell? ⟨g,o,none⟩=some v):(loadVar 142 ⟨g,o,none⟩).run Tryz.prog w=.ok v w:=by go_simp
theorem pF{o:Nat}(c:w.cell? ⟨g,o,none⟩=some v):(loadVar 199 ⟨g,o,none⟩).run Tryz.prog w=.ok v w:=by go_simp
theorem ld_e(c:w.cell? ⟨g,0,none⟩=some v)(d:w.cell? ⟨g,1,none⟩=some u):(loadVar 196 ⟨g,0,none⟩).run Tryz.prog w=.ok (.agg #[v,u]) w:=by go_simp
theorem iY{T:TypeId}(k:Nat)(c:o.op=.load T (.tmp k))(b:a.eval (.tmp k)=.pointer (some ⟨g,off,none⟩))(d:(loadVar T ⟨g,off,none⟩).run Tryz.prog w=.ok v w):(execOp a.eval o).run Tryz.prog w=.ok (.value v) w:=by
 simp only[execOp,c,b];simp[Instr.loadAt,Instr.sureAddr,Result.andThen,d]
theorem kt(k q:Nat)(e:o.op=.store 199 (.tmp k) (.tmp q))(d:a.eval (.tmp k)=.pointer (some ⟨g,off,none⟩))(b:a.eval (.tmp q)=.slice ao n c)(hc:w.cell? ⟨g,off,none⟩=some u)(hf:w.frozen? ⟨g,off,none⟩=false) :
  (execOp a.eval o).run Tryz.prog w=.ok .skip (w.setCell ⟨g,off,none⟩ (.slice ao n c)):=by
 simp only[execOp,e,d,b];go_simp
theorem qn{kv vv:Value}(d:o.op=.buildSlice 199 1 #[(0,.tmp k)])(c:a.eval (.tmp k)=.agg #[kv,vv]):(execOp a.eval o).run Tryz.prog w=.ok (.value (.slice (some ⟨w.heap.size,0,none⟩) 1 1)) (w.alloc (.cells #[kv,vv] 196)):=by
 have b:a.tmps[k]?.getD undef=.agg #[kv,vv]:=by simpa[Act.eval] using c
 simp only[execOp,d];go_simp
theorem Bm{m d:Nat}(b:o.op=.buildSlice 142 2 #[(0,.tmp x),(1,.tmp y)])(hx:a.eval (.tmp x)=.slice ao n c)(hy:a.eval (.tmp y)=.slice bo m d):(execOp a.eval o).run Tryz.prog w=.ok (.value (.slice (some ⟨w.heap.size,0,none⟩) 2 2)) (w.alloc (.cells #[.slice ao n c,.slice bo m d] 199)):=by
 have f:a.tmps[x]?.getD undef=.slice ao n c:=by simpa[Act.eval] using hx
 have e:a.tmps[y]?.getD undef=.slice bo m d:=by simpa[Act.eval] using hy
 simp only[execOp,b];go_simp
end
end Pg
end
section
namespace Pg
open Go.RowKit Go.Lib
section
variable {w:World}{D F:Nat → Prop}{p:Pg}{es:List En}{g G i j:Nat}{v u c0:Value}{L:List Pg}
theorem CG{D:Nat->Prop}(h:PgA w D p)(hs:∀ e∈es,e∈p.es):∀ e∈es,EnA w D e:=fun e he=>h.dL e (hs e he)
theorem bZ(w:World):Below w.heap.size w w.drew:=⟨rfl,rfl,rfl,Nat.le_refl _,fun _ _=>rfl⟩
theorem bR(h:g≠G)(hc:w.cell? ⟨g,j,none⟩=some u):(w.setCell ⟨G,i,none⟩ v).cell? ⟨g,j,none⟩=some u:=by
 rw[World.cell?_of_block (w:=w) (a:=⟨g,j,none⟩) (Below.heap_setCell w _ v g h)]; exact hc
theorem Dp{α:Type}(L:List α)(i:Nat)(a b:α)(h:i < L.length):(L.set i a).take (i + 1) ++ [b] ++ (L.set i a).drop (i + 1)=L.take i ++ [a,b] ++ L.drop (i + 1):=by
 have e1:(L.set i a).take (i + 1)=L.take i ++ [a]:=by
  rw[List.take_add_one,List.take_set_of_le (Nat.le_refl _),List.getElem?_set_self h]; rfl
 rw[e1,List.drop_set_of_lt (by omega)];simp
theorem vE{c f E:World}{z:Nat → Prop}{n m C b2 c2 s I:Nat}{q1:Pg}(V : bL c z D g (L.set i q1))(j : ∀ b, z b → F b ∨ w.heap.size ≤ b)(K : Chg F w c)(hgx : Blk c g [.slice (some ⟨G, 0, none⟩) (L.set i q1).length C] 144)(O : Blk f g [c0] 144)(U : z g)(t : z G)(u : Rw c 199 1 G (L.set i q1).length C ((L.set i q1).map Pg.v))(T : g ≠ G)(P : i < L.length)(N : q1.es = es.take 16)(A : (es.drop 16).length = m - 16)(hnn : L.length = n)(S : Below c.drew.heap.size c.drew f)(R : c.drew.heap.size ≤ b2)(R3 : Rw f 196 2 b2 (m - 16) c2 (flat (es.drop 16)))(E0 : ∀ e ∈ es, EnA c.drew D e)(Q : s = G ∨ f.heap.size + 1 ≤ s)(R5 : Rw E 199 1 s (n + 1) I (((L.set i q1).map Pg.v).take (i + 1) ++ [.slice (some ⟨b2, 0, none⟩) (m - 16) c2] ++ ((L.set i q1).map Pg.v).drop (i + 1)))(B : Chg (· = G) (f.alloc (.cells #[.slice (some ⟨b2, 0, none⟩) (m - 16) c2] 199)) E) :
    ∃ F' p1 p2, Ending.returned (.tuple #[]) = Ending.returned (.tuple #[]) ∧ p1.es = es.take 16 ∧ p2.es = es.drop 16 ∧ bL (E.setCell ⟨g, 0, none⟩ (.slice (some ⟨s, 0, none⟩) (n + 1) I)) F' D g (L.take i ++ [p1, p2] ++ L.drop (i + 1)) ∧ (∀ b, F' b → F b ∨ w.heap.size ≤ b) ∧ Chg F w (E.setCell ⟨g, 0, none⟩ (.slice (some ⟨s, 0, none⟩) (n + 1) I)) := by
  obtain⟨q, l⟩ : ∃ q, q = f.alloc (.cells #[.slice (some ⟨b2, 0, none⟩) (m - 16) c2] 199) := ⟨_, rfl⟩
  have H : Below c.heap.size c q := by rw[l]; exact aj (aj (bZ c) S) (ae f _)
  have r : Below f.heap.size f q := by rw[l]; exact ae f _
  rw[← l] at B;have J := V.keep H
  have o : PgA q D ⟨b2, c2, es.drop 16⟩:= by
    refine⟨?_, fun e he => ((E0 e (List.mem_of_mem_drop he)).keep S).keep r⟩
    show Rw q _ 2 b2 (es.drop 16).length c2 _
    rw[A]; exact R3.keep r
  have aa : c.heap.size ≤ b2 := R
  have M : (⟨b2, c2, es.drop 16⟩ : Pg).v = .slice (some ⟨b2, 0, none⟩) (m - 16) c2 := by simp only[Pg.v]; rw[A]
  have y : ∀ p ∈ (L.set i q1).take (i + 1) ++ [(⟨b2, c2, es.drop 16⟩ : Pg)] ++ (L.set i q1).drop (i + 1), p ∈ L.set i q1 ∨ p = ⟨b2, c2, es.drop 16⟩:= fun p d => by
    rcases List.mem_append.1 d with h | h
    · rcases List.mem_append.1 h with h | h
      · exact .inl (List.mem_of_mem_take h)
      · exact .inr (by simpa using h)
    · exact .inl (List.mem_of_mem_drop h)
  have hlen : ((L.set i q1).take (i + 1) ++ [(⟨b2, c2, es.drop 16⟩ : Pg)] ++ (L.set i q1).drop (i + 1)).length = n + 1 := by
    simp; omega
  have hold : ∀ p ∈ L.set i q1, p.b ≠ b2 := fun p d => by
    have := (V.b8 p d).1.row.lt;omega
  obtain⟨W, C6⟩:= jT (w := q) (w1 := E) (F := fun x => z x ∨ x = b2) (D := D) (g := g) (G := G) (G' := s) (C' := I) (n := n + 1) (L' := (L.set i q1).take (i + 1) ++ [(⟨b2, c2, es.drop 16⟩ : Pg)] ++ (L.set i q1).drop (i + 1))
    (fun p d => by
      rcases y p d with h | rfl
      · exact⟨(J.b8 p h).1, .inl (J.b8 p h).2⟩
      · exact⟨o, .inr rfl⟩)
    (by
      have hn := V.apart
      have e : (L.set i q1).map Pg.b = ((L.set i q1).take (i + 1)).map Pg.b ++ ((L.set i q1).drop (i + 1)).map Pg.b := by rw[← List.map_append, List.take_append_drop]
      rw[e] at hn
      have X : ∀ x ∈ ((L.set i q1).take (i + 1)).map Pg.b, x ≠ b2 := fun x hx => by
        obtain⟨p, d, rfl⟩:= List.mem_map.1 hx;exact hold p (List.mem_of_mem_take d)
      have Y : ∀ x ∈ ((L.set i q1).drop (i + 1)).map Pg.b, x ≠ b2 := fun x hx => by
        obtain⟨p, d, rfl⟩:= List.mem_map.1 hx;exact hold p (List.mem_of_mem_drop d)
      simp only[List.map_append, List.map_cons, List.map_nil];rw[List.nodup_append] at hn;rw[List.append_assoc, List.nodup_append];refine⟨hn.1, ?_, ?_⟩
      · rw[List.singleton_append, List.nodup_cons]
        exact⟨fun h => Y b2 h rfl, hn.2.1⟩
      · intro a Z b hb
        rcases List.mem_append.1 hb with hb | hb
        · simp at hb; subst hb; exact X a Z
        · exact hn.2.2 a Z b hb)
    (fun b hb => by
      rcases hb with h | rfl
      · exact J.kind b h
      · obtain⟨ds, k⟩:= o.row.kind
        exact⟨ds, _, k, by decide⟩)
    (O.keep r) (.inl U) (.inl t) (fun e => T e.symm) B
    (fun p d => by
      rcases y p d with h | rfl
      · exact(J.b8 p h).1.eV (u.keep H)
      · exact o.eV (u.keep H)) hlen
    (by simpa[List.map_take, List.map_drop, M] using R5)
  rw[Dp L i q1 _ P] at W;refine⟨_, q1, ⟨b2, c2, es.drop 16⟩, rfl, N, rfl, W, fun b hb => ?_, (K.trans (Chg.of (F := F) H) (fun _ _ h => h)).trans C6 fun b hb h => ?_⟩
  · rcases hb with⟨h | rfl, _⟩ | rfl
    · exact j b h
    · exact .inr (by have := K.size; omega)
    · rcases Q with rfl | h
      · exact j _ t
      · have Y := S.size
        have X := K.size
        have : c.drew.heap.size = c.heap.size := rfl;exact .inr (by omega)
  · rcases h with h | rfl
    · exact(j b h).resolve_right (by omega)
    · have := K.size; omega
theorem Af(h:j≠i)(hc:w.cell? ⟨G,j,none⟩=some u):(w.setCell ⟨G,i,none⟩ v).cell? ⟨G,j,none⟩=some u:=by
 have a:=aJ hc;simp only[World.cell?,World.setCell,Array.getElem?_modify,if_true] at hc ⊢
 cases hh:w.heap[G]? with
 | none=>rw[hh] at hc; simp at hc
 | some ob =>
  rw[hh] at hc
  cases ob with
  | cells c e f =>
   simp at hc ⊢;rw[Array.getElem?_setIfInBounds,if_neg (by omega)]; exact hc
  | _=>simp at hc
theorem jS(A : bL w F D g L)(hi : L[i]? = some p)(h1 : 17 ≤ p.es.length)(h2 : p.es.length ≤ 1000)(hn : L.length ≤ 100000000) :
    Calls Tryz.prog 194 #[.pointer (some ⟨g, 0, none⟩), .int .i64 i] w fun e w' => ∃ F' p1 p2, e = .returned (.tuple #[]) ∧ p1.es = p.es.take 16 ∧ p2.es = p.es.drop 16 ∧ bL w' F' D g (L.take i ++ [p1, p2] ++ L.drop (i + 1)) ∧ (∀ b, F' b → F b ∨ w.heap.size ≤ b) ∧ Chg F w w' := by
  have aa := (List.getElem?_eq_some_iff.1 hi).1
  have hL : L ≠ [] := fun e => by subst e; simp at aa
  obtain⟨G, C, hg, hFg, hFG, P⟩:= A.opn hL;have M := A.b8 p (List.mem_of_getElem? hi);have cg := hg.cell (i := 0) rfl;have cG := P.cell (i := i) (v := p.v) (by simp[hi]);have hpc := M.1.row.le;have hCC := P.le;simp only[maxLen] at hpc hCC
  have J : w.drew.cell? ⟨g, 0, none⟩ = some (.slice (some ⟨G, 0, none⟩) L.length C) := cg;have t1 := xq (w := w.drew) (a := ⟨p.b, 0, none⟩) (n := 16) (c := p.c) (xs := flat (p.es.take 16)) (by decide) (by rw[jA, List.length_take]; omega) (fun j v I => by
    rw[Addr.add_lit, Nat.zero_add]
    have : (flat p.es)[j]? = some v := by
      rw[← iA, List.getElem?_take] at I;split at I
      · exact I
      · cases I
    exact M.1.row.drew.cell this) (jB (CG M.1 fun e he => List.mem_of_mem_take he))
  obtain⟨n, d⟩ : ∃ n, Hid (L.length = n) := ⟨_, rfl⟩;obtain⟨m, q⟩ : ∃ m, Hid (p.es.length = m) := ⟨_, rfl⟩;simp only[Pg.v] at cG;rw[d.out] at cg J;rw[q.out] at cG
  have z1 : (i : Int) < n := by have := d.out; omega
  have z2 : m ≤ p.c := by have := q.out; omega
  have z3 : p.c ≤ 9223372036854775807 := by omega
  have z4 : 17 ≤ m := by have := q.out; omega
  have z5 : 16 ≤ p.c := by omega
  have z6 : (16 : Int) ≤ (p.c : Int) := by omega
  have s : g ≠ G := fun e => P.eZ hg e.symm
  have mixed := mixed;go_enter Tryz.func194, Tryz.ntmps194;go_wp2;go_region_held3 (fun w' => w'.cell? ⟨g, 0, none⟩ = some (.slice (some ⟨G, 0, none⟩) n C)) (first | assumption | exact bR s (by assumption))
    (first
    | (go_at_call 226; refine t1.mono ?_; rintro e' r ⟨t, c1, rfl, U, R1, u⟩; have cg1 : r.cell? ⟨g, 0, none⟩ = some (.slice (some ⟨G, 0, none⟩) n C) := (u.cell (p := ⟨g, 0, none⟩) (aJ J)).trans J; have cG1 : r.cell? ⟨G, i, none⟩ = some (.slice (some ⟨p.b, 0, none⟩) m p.c) := (u.cell (p := ⟨G, i, none⟩) (aJ (w := w.drew) cG)).trans cG; have fG1 : r.frozen? ⟨G, i, none⟩ = false := (P.drew.keep u).free i))
  obtain⟨q1, o⟩ : ∃ q1 : Pg, Hid (q1 = ⟨t, c1, p.es.take 16⟩) := ⟨_, rfl⟩
  have z : (p.es.take 16).length = 16 := by rw[List.length_take]; omega
  have S : q1.v = .slice (some ⟨t, 0, none⟩) 16 c1 := by rw[o.out]; simp only[Pg.v]; rw[z]
  have T : PgA r D q1 := by
    rw[o.out];refine⟨?_, fun e he => ((M.1.dL e (List.mem_of_mem_take he)).keep (bZ w)).keep u⟩
    show Rw r _ 2 t (p.es.take 16).length c1 _
    rw[z]; exact R1
  obtain⟨A2, C2⟩:= A.put (p' := q1) (D' := D) hg hFg hFG P hi (Chg.of (aj (bZ w) u)) (.inr (by rw[o.out]; exact U)) T (fun _ _ h => h);rw[S] at A2 C2
  have R0 : Rw (r.setCell ⟨G, i, none⟩ (.slice (some ⟨t, 0, none⟩) 16 c1)) 196 2 p.b p.es.length p.c (flat p.es) := ((M.1.row.keep (bZ w)).keep u).same (Below.heap_setCell r _ _ _ (M.1.eV P))
  have E0 : ∀ e ∈ p.es, EnA (r.setCell ⟨G, i, none⟩ (.slice (some ⟨t, 0, none⟩) 16 c1)) D e := fun e he => (((M.1.dL e he).keep (bZ w)).keep u).off fun b hb hk => by
    obtain⟨cs, k⟩:= hk;obtain⟨ds, k'⟩:= (P.drew.keep u).kind;exact Below.heap_setCell r _ _ b (eD k k' (by decide))
  have hw1l : w.heap.size ≤ (r.setCell ⟨G, i, none⟩ (.slice (some ⟨t, 0, none⟩) 16 c1)).heap.size := C2.size
  have X : q1.b = t := by rw[o.out]
  have Y : q1.es = p.es.take 16 := by rw[o.out]
  have l := (hg.drew.keep u).off s (i := i) (.slice (some ⟨t, 0, none⟩) 16 c1)
  have hF2 : ∀ b, ((F b ∧ b ≠ p.b) ∨ b = q1.b) → F b ∨ w.heap.size ≤ b := fun b h => h.imp (fun h => h.1) (fun h => by rw[h, X]; exact U)
  generalize (r.setCell ⟨G, i, none⟩ (.slice (some ⟨t, 0, none⟩) 16 c1)) = O at *;generalize hF2d : (fun x => (F x ∧ x ≠ p.b) ∨ x = q1.b) = F2 at A2;obtain⟨y, Q, W, Z, R, N⟩:= A2.opn (by simp[hL]);obtain⟨rfl, rfl⟩ : y = G ∧ Q = C := by
    have := (W.eq l).1;simp at this;exact⟨this.1, this.2⟩
  have V : ∀ b, F2 b → F b ∨ w.heap.size ≤ b := fun b h => hF2 b (by rw[← hF2d] at h; exact h)
  have cg2 : O.cell? ⟨g, 0, none⟩ = some (.slice (some ⟨y, 0, none⟩) n Q) := by
    have := l.cell (i := 0) rfl;rwa [d.out] at this
  have B : O.drew.cell? ⟨g, 0, none⟩ = some (.slice (some ⟨y, 0, none⟩) n Q) := cg2
  have ab : (p.es.drop 16).length = m - 16 := by rw[List.length_drop, q.out]
  have t2 := xq (w := O.drew) (a := ⟨p.b, 32, none⟩) (n := m - 16) (c := p.c - 16) (xs := flat (p.es.drop 16)) (by have := q.out; omega) (by rw[jA, ab]) (fun j v I => by
    rw[Addr.add_lit]
    have : (flat p.es)[32 + j]? = some v := by
      rw[← il, List.getElem?_drop] at I;exact I
    exact R0.drew.cell this) (jB (w := O) (D := D) (fun e he => E0 e (List.mem_of_mem_drop he)))
  have zz1 : IntKind.i64.wrap ((i : Int) + 1) = (i : Int) + 1 := by rw[IntKind.wrap_i64]; have := d.out; omega
  have zz2 : ¬ (p.c = 16) := by omega
  have zz3 : (16 : Int) ≤ m := by omega
  have t3 : ∀ (f : World) (b2 c2 : Nat), Below O.drew.heap.size O.drew f → Calls Tryz.prog 227 #[.slice (some ⟨y, 0, none⟩) n Q, .int .i64 ((i : Int) + 1), .slice (some ⟨f.heap.size, 0, none⟩) 1 1] (f.alloc (.cells #[.slice (some ⟨b2, 0, none⟩) (m - 16) c2] 199)) fun e w' => ∃ b' c', e = .returned (.slice (some ⟨b', 0, none⟩) (n + 1) c') ∧ (b' = y ∨ f.heap.size + 1 ≤ b') ∧ Rw w' 199 1 b' (n + 1) c' (((L.set i q1).map Pg.v).take (i + 1) ++ [.slice (some ⟨b2, 0, none⟩) (m - 16) c2] ++ ((L.set i q1).map Pg.v).drop (i + 1)) ∧ Chg (· = y) (f.alloc (.cells #[.slice (some ⟨b2, 0, none⟩) (m - 16) c2] 199)) w' := fun f b2 c2 E => by
    have hk := (N.drew.keep E).keep (ae f (.cells #[.slice (some ⟨b2, 0, none⟩) (m - 16) c2] 199));rw[List.length_set, d.out] at hk
    have hGl : y < f.heap.size := (N.drew.keep E).lt;have := insP (i := i + 1) hk (aC f [.slice (some ⟨b2, 0, none⟩) (m - 16) c2] 199) (by omega) (by have := d.out; omega) (by have := d.out; omega) (tf _) (by simp[Value.oneCell']);rw[World.size_alloc] at this;simpa using this
  go_wp2;go_region_with (first
    | (go_at_call 226; refine t2.mono ?_; rintro e' f ⟨b2, c2, rfl, hb2, R3, E⟩; have cg3 : f.cell? ⟨g, 0, none⟩ = some (.slice (some ⟨y, 0, none⟩) n Q) := (E.cell (p := ⟨g, 0, none⟩) (aJ B)).trans B; have H := l4 cg3 (.cells #[.slice (some ⟨b2, 0, none⟩) (m - 16) c2] 199))
    | (go_at_call 227; refine(t3 f b2 c2 E).mono ?_; rintro e' w5 ⟨G5, C5, rfl, hb5, R5, K⟩; have cg5 : w5.cell? ⟨g, 0, none⟩ = some (.slice (some ⟨y, 0, none⟩) n Q) := (World.cell?_of_block (w := f.alloc (.cells #[.slice (some ⟨b2, 0, none⟩) (m - 16) c2] 199)) (a := ⟨g, 0, none⟩) (K.same g (aJ H) s)).trans H; have fg5 : w5.frozen? ⟨g, 0, none⟩ = false := (((l.drew.keep E).keep (ae f _)).chg K s).free 0))
  all_goals go_wp2
  all_goals go_end0
  all_goals exact vE A2 V C2 W (l.drew.keep E) Z R N s aa Y ab d.out E hb2 R3 (fun e he => (E0 e he).keep (bZ O)) hb5 R5 K
end
end Pg
end
section
namespace Pg
open Go.RowKit Go.Lib
section
variable {L:List Pg}{i:Nat}{p:Pg}{w:World}{F D:Nat->Prop}
def qE(P:List (List En))(i q:Nat)(e:En):List (List En) :=
 let es:=(P.getD i []).take q ++ [e] ++ (P.getD i []).drop q
 if 32 < es.length then P.take i ++ [es.take 16,es.drop 16] ++ P.drop (i + 1) else P.set i es
theorem pI(L:List Pg)(i:Nat)(p:Pg):ens (L.set i p)=(ens L).set i p.es:=by simp[ens,List.map_set]
theorem eN(h:L[i]? = some p):(ens L).getD i []=p.es:=by simp[ens,h]
theorem yg(es:List En)(q:Nat)(e:En):(flat es).take (q * 2) ++ [e.kv,e.vv] ++ (flat es).drop (q * 2)=flat (es.take q ++ [e] ++ es.drop q):=by
 rw[iA,il,ee,ee]; rfl
theorem sw{g q:Nat}{e:En}(A:bL w F D g L)(hi:L[i]? = some p)(hq:q<=p.es.length)(h2:p.es.length<=32)(hn:L.length<=100000000)(hE:EnA w D e) :
  Calls Tryz.prog 147 #[.pointer (some ⟨g,0,none⟩),.int .i64 i,.int .i64 q,.agg #[e.kv,e.vv]] w fun e' w'=>∃ F' L',e'=.returned (.tuple #[])/\ens L'=qE (ens L) i q e/\bL w' F' D g L'/\(∀ b,F' b->F b\/w.heap.size<=b)/\Chg F w w':=by
 have hil:=(List.getElem?_eq_some_iff.1 hi).1
 have hL:L≠[]:=fun e=>by subst e; simp at hil
 obtain⟨kv,kl,vv,vl⟩:=e;obtain⟨l,O⟩:∃ l,Hid (l=w.alloc (.cells #[kv,vv] 196)):=⟨_,rfl⟩
 have B0:Below w.heap.size w l:=by rw[O.out]; exact ae w _
 have X0:Blk l w.heap.size [kv,vv] 196:=by rw[O.out]; exact aC w [kv,vv] _
 have A0:=A.keep B0;obtain⟨G,C,hg,hFg,hFG,Z⟩:=A0.opn hL;have S:=A0.b8 p (List.mem_of_getElem? hi);have cg:=hg.cell (i:=0) rfl;have cG:=Z.cell (i:=i) (v:=p.v) (by simp[hi]);have x0:=X0.cell (i:=0) rfl;have x1:=X0.cell (i:=1) rfl;have hpc:=S.1.row.le;have hCC:=Z.le;simp only[maxLen] at hpc hCC;obtain⟨n,T⟩:∃ n,Hid (L.length=n):=⟨_,rfl⟩
 obtain⟨m,R⟩:∃ m,Hid (p.es.length=m):=⟨_,rfl⟩
 simp only[Pg.v] at cG;rw[T.out] at cg;rw[R.out] at cG
 have z0:¬ ((n:Int)=0):=by have:=T.out; omega
 have z1:(i:Int) < n:=by have:=T.out; omega
 have cgd:l.drew.cell? ⟨g,0,none⟩=some (.slice (some ⟨G,0,none⟩) n C):=cg
 have x0d:l.drew.cell? ⟨w.heap.size,0,none⟩=some kv:=x0
 have x1d:l.drew.cell? ⟨w.heap.size,1,none⟩=some vv:=x1
 have cGd:l.drew.cell? ⟨G,i,none⟩=some (.slice (some ⟨p.b,0,none⟩) m p.c):=cG
 have af:g≠G:=fun e=>Z.eZ hg e.symm
 have U:w.heap.size≠G:=by have:=A.lt hFG; omega
 obtain⟨Q,K⟩:∃ Q,Hid (Q=l.drew.alloc (.cells #[kv,vv] 196)):=⟨_,rfl⟩
 have H:Below l.heap.size l Q:=by rw[K.out]; exact aj (bZ l) (ae l.drew _)
 have hs0:l.heap.size=w.heap.size + 1:=by rw[O.out]; simp
 have V1:Blk Q l.heap.size [kv,vv] 196:=by rw[K.out]; exact aC l.drew [kv,vv] _
 have t1:=insE (i:=q) (S.1.row.keep H) V1 (by have:=S.1.row.lt; omega) hq (by omega) S.1.one (by have:=hE.k.one; have:=hE.v.one; simp_all);rw[R.out] at t1
 have j:Q.cell? ⟨g,0,none⟩=some (.slice (some ⟨G,0,none⟩) n C):=(H.cell (p:=⟨g,0,none⟩) (aJ cg)).trans cg
 have u:Q.cell? ⟨w.heap.size,0,none⟩=some kv:=(H.cell (p:=⟨w.heap.size,0,none⟩) (aJ x0)).trans x0
 have z:Q.cell? ⟨w.heap.size,1,none⟩=some vv:=(H.cell (p:=⟨w.heap.size,1,none⟩) (aJ x1)).trans x1
 have r:Q.cell? ⟨G,i,none⟩=some (.slice (some ⟨p.b,0,none⟩) m p.c):=(H.cell (p:=⟨G,i,none⟩) (aJ cG)).trans cG
 have ng:g≠p.b:=fun e=>S.1.eZ hg e.symm
 have nG:G≠p.b:=fun e=>S.1.eV Z e.symm
 have nx:w.heap.size≠p.b:=by have:=A.lt S.2; omega
 have mixed:=mixed
 have ab:i < n:=by have:=T.out; omega
 go_enter Tryz.func147,Tryz.ntmps147;have cgw:=cg;rw[O.out] at cgw;go_wp2;rw[<- O.out];have V:=(show _/\_/\_ from⟨j,u,z⟩)
 have M:=r;rw[K.out] at V M t1
 have ac:Tryz.prog.underlying 142=some (.slice 199):=by kernel_rfl
 refine oW (X:=Nat × Nat) (fun x=>[(some 23,.pointer (some ⟨g,0,none⟩)),(some 24,.pointer (some ⟨g,0,none⟩)),(some 25,.pointer (some ⟨g,0,none⟩)),(some 26,.slice (some ⟨G,0,none⟩) n C),(some 27,.int .i64 i),(some 28,.pointer (some ⟨g,0,none⟩)),(some 29,.pointer (some ⟨g,0,none⟩)),(some 30,.pointer (some ⟨g,0,none⟩)),(some 31,.slice (some ⟨G,0,none⟩) n C),(some 32,.int .i64 i),(some 33,.pointer (some ⟨G,i,none⟩)),(some 34,.slice (some ⟨p.b,0,none⟩) m p.c),(some 35,.int .i64 q),(some 36,.agg #[kv,vv]),(some 37,.slice (some ⟨l.heap.size,0,none⟩) 1 1),(some 38,.slice (some ⟨x.1,0,none⟩) (m + 1) x.2),(some 39,.pointer (some ⟨G,i,none⟩))]) (fun x w'=>∃ d,w'=d.setCell ⟨G,i,none⟩ (.slice (some ⟨x.1,0,none⟩) (m + 1) x.2)/\(x.1=p.b\/Q.heap.size<=x.1)/\Rw d 196 2 x.1 (m + 1) x.2 ((flat p.es).take (q * 2) ++ [kv,vv] ++ (flat p.es).drop (q * 2))/\Chg (· = p.b) Q d) (fun w'=>w'.cell? ⟨g,0,none⟩=some (.slice (some ⟨G,0,none⟩) n C)/\w'.cell? ⟨w.heap.size,0,none⟩=some kv/\w'.cell? ⟨w.heap.size,1,none⟩=some vv) (by kernel_rfl) ⟨cgd,x0d,x1d⟩ ?_ ?_
 ·have hS:=(show _/\_/\_ from⟨cgd,x0d,x1d⟩)
  refine ai 0 (some 23) (.pointer (some ⟨g,0,none⟩)) (by kernel_rfl) (fun _ _=>by kernel_rfl) (fun _ _ _ h=>h) hS ?_
  refine ai 1 (some 24) (.pointer (some ⟨g,0,none⟩)) (by kernel_rfl) (fun _ _=>by kernel_rfl) (fun _ _ _ h=>h) hS ?_
  refine ai 2 (some 25) (.pointer (some ⟨g,0,none⟩)) (by kernel_rfl) (fun _ _=>by kernel_rfl) (fun _ _ _ h=>h) hS ?_
  refine aP 3 (some 26) (.slice (some ⟨G,0,none⟩) n C) 142 25 (g) (0) (by kernel_rfl) (by kernel_rfl) (by kernel_rfl) (fun w' h=>fS h.1) (fun _ _ _ h=>h) hS ?_
  refine ai 4 (some 27) (.int .i64 i) (by kernel_rfl) (fun _ _=>by kernel_rfl) (fun _ _ _ h=>h) hS ?_
  refine ai 5 (some 28) (.pointer (some ⟨g,0,none⟩)) (by kernel_rfl) (fun _ _=>by kernel_rfl) (fun _ _ _ h=>h) hS ?_
  refine ai 6 (some 29) (.pointer (some ⟨g,0,none⟩)) (by kernel_rfl) (fun _ _=>by kernel_rfl) (fun _ _ _ h=>h) hS ?_
  refine ai 7 (some 30) (.pointer (some ⟨g,0,none⟩)) (by kernel_rfl) (fun _ _=>by kernel_rfl) (fun _ _ _ h=>h) hS ?_
  refine aP 8 (some 31) (.slice (some ⟨G,0,none⟩) n C) 142 30 (g) (0) (by kernel_rfl) (by kernel_rfl) (by kernel_rfl) (fun w' h=>fS h.1) (fun _ _ _ h=>h) hS ?_
  refine ai 9 (some 32) (.int .i64 i) (by kernel_rfl) (fun _ _=>by kernel_rfl) (fun _ _ _ h=>h) hS ?_
  refine ai 10 (some 33) (.pointer (some ⟨G,i,none⟩)) (by kernel_rfl) (fun _ _=>ez (x:=31) (y:=32) (n:=n) (c:=C) (by kernel_rfl) ac (by kernel_rfl) (by kernel_rfl) (rfl) (ab)) (fun _ _ _ h=>h) hS ?_
  refine ai 12 (some 35) (.int .i64 q) (by kernel_rfl) (fun _ _=>by kernel_rfl) (fun _ _ _ h=>h) hS ?_
  refine aP 13 (some 36) (.agg #[kv,vv]) 196 7 (w.heap.size) (0) (by kernel_rfl) (by kernel_rfl) (by kernel_rfl) (fun w' h=>ld_e h.2.1 h.2.2) (fun _ _ _ h=>h) hS ?_
  refine aL [11,14] (by kernel_rfl) (by simp) ?_
  refine bI 11 (some 34) (.slice (some ⟨p.b,0,none⟩) m p.c) _ (by kernel_rfl) (iY 33 (by kernel_rfl) (by kernel_rfl) (pF cGd)) hS ?_ (bI 14 (some 37) (.slice (some ⟨l.heap.size,0,none⟩) 1 1) _ (by kernel_rfl) (qn (k:=36) (by kernel_rfl) (by kernel_rfl)) V ?_ aV)
  ·refine aL [14] (by kernel_rfl) (by simp) ?_
   refine bI 14 (some 37) (.slice (some ⟨l.heap.size,0,none⟩) 1 1) _ (by kernel_rfl) (qn (k:=36) (by kernel_rfl) (by kernel_rfl)) V ?_ aV;refine bN 15 (some 38) 193 #[.slice (some ⟨p.b,0,none⟩) m p.c,.int .i64 q,.slice (some ⟨l.heap.size,0,none⟩) 1 1] (by kernel_rfl) (by kernel_rfl) t1 ?_
   rintro e' d ⟨b2,c2,rfl,t,R2,o⟩;rw[<- K.out] at o t
   have s:d.cell? ⟨g,0,none⟩=_:=(World.cell?_of_block (a:=⟨g,0,none⟩) (o.same g (aJ j) ng)).trans j
   have E:d.cell? ⟨w.heap.size,0,none⟩=_:=(World.cell?_of_block (a:=⟨w.heap.size,0,none⟩) (o.same _ (aJ u) nx)).trans u
   have B:d.cell? ⟨w.heap.size,1,none⟩=_:=(World.cell?_of_block (a:=⟨w.heap.size,1,none⟩) (o.same _ (aJ z) nx)).trans z
   have J:d.cell? ⟨G,i,none⟩=_:=(World.cell?_of_block (a:=⟨G,i,none⟩) (o.same _ (aJ r) nG)).trans r
   have ad:d.frozen? ⟨G,i,none⟩=false:=((Z.keep H).chg o nG).free i;refine⟨_,rfl,⟨s,E,B⟩,?_⟩;replace hS:=(show _/\_/\_ from⟨s,E,B⟩)
   refine ai 16 (some 39) (.pointer (some ⟨G,i,none⟩)) (by kernel_rfl) (fun _ _=>ez (x:=26) (y:=27) (n:=n) (c:=C) (by kernel_rfl) ac (by kernel_rfl) (by kernel_rfl) (rfl) (ab)) (fun _ _ _ h=>h) hS ?_
   refine aL [17] (by kernel_rfl) (by simp) ?_
   refine dq 17 (d.setCell ⟨G,i,none⟩ (.slice (some ⟨b2,0,none⟩) (m + 1) c2)) (by kernel_rfl) (kt 39 38 (by kernel_rfl) (by kernel_rfl) (by kernel_rfl) J ad) ⟨bR af s,bR U E,bR U B⟩ ?_ aV;refine bH (by kernel_rfl) ?_
   exact⟨(b2,c2),by kernel_rfl,d,rfl,t,R2,o⟩
  ·refine aL [11] (by kernel_rfl) (by simp) ?_
   refine bI 11 (some 34) (.slice (some ⟨p.b,0,none⟩) m p.c) _ (by kernel_rfl) (iY 33 (by kernel_rfl) (by kernel_rfl) (pF M)) V ?_ aV;refine bN 15 (some 38) 193 #[.slice (some ⟨p.b,0,none⟩) m p.c,.int .i64 q,.slice (some ⟨l.heap.size,0,none⟩) 1 1] (by kernel_rfl) (by kernel_rfl) t1 ?_
   rintro e' d ⟨b2,c2,rfl,t,R2,o⟩;rw[<- K.out] at o t
   have s:d.cell? ⟨g,0,none⟩=_:=(World.cell?_of_block (a:=⟨g,0,none⟩) (o.same g (aJ j) ng)).trans j
   have E:d.cell? ⟨w.heap.size,0,none⟩=_:=(World.cell?_of_block (a:=⟨w.heap.size,0,none⟩) (o.same _ (aJ u) nx)).trans u
   have B:d.cell? ⟨w.heap.size,1,none⟩=_:=(World.cell?_of_block (a:=⟨w.heap.size,1,none⟩) (o.same _ (aJ z) nx)).trans z
   have J:d.cell? ⟨G,i,none⟩=_:=(World.cell?_of_block (a:=⟨G,i,none⟩) (o.same _ (aJ r) nG)).trans r
   have ad:d.frozen? ⟨G,i,none⟩=false:=((Z.keep H).chg o nG).free i;refine⟨_,rfl,⟨s,E,B⟩,?_⟩;replace hS:=(show _/\_/\_ from⟨s,E,B⟩)
   refine ai 16 (some 39) (.pointer (some ⟨G,i,none⟩)) (by kernel_rfl) (fun _ _=>ez (x:=26) (y:=27) (n:=n) (c:=C) (by kernel_rfl) ac (by kernel_rfl) (by kernel_rfl) (rfl) (ab)) (fun _ _ _ h=>h) hS ?_
   refine aL [17] (by kernel_rfl) (by simp) ?_
   refine dq 17 (d.setCell ⟨G,i,none⟩ (.slice (some ⟨b2,0,none⟩) (m + 1) c2)) (by kernel_rfl) (kt 39 38 (by kernel_rfl) (by kernel_rfl) (by kernel_rfl) J ad) ⟨bR af s,bR U E,bR U B⟩ ?_ aV;refine bH (by kernel_rfl) ?_
   exact⟨(b2,c2),by kernel_rfl,d,rfl,t,R2,o⟩
 rintro⟨b2,c2⟩ w' ⟨d,rfl,t,R2,o⟩;dsimp only at t R2;simp only[jc,Act.put,List.setIfInBounds_toArray,List.set_cons_zero,List.set_cons_succ]
 have s:d.cell? ⟨g,0,none⟩=_:=(World.cell?_of_block (a:=⟨g,0,none⟩) (o.same g (aJ j) ng)).trans j
 have J:d.cell? ⟨G,i,none⟩=_:=(World.cell?_of_block (a:=⟨G,i,none⟩) (o.same _ (by exact(Z.keep H).lt) nG)).trans r
 have C02:Chg (· = p.b) l d:=(Chg.of (F:=(· = p.b)) H).trans o (fun _ _ h=>h);obtain⟨p',W⟩:∃ p':Pg,Hid (p'=⟨b2,c2,p.es.take q ++ [(⟨kv,kl,vv,vl⟩:En)] ++ p.es.drop q⟩):=⟨_,rfl⟩
 have hlen:(p.es.take q ++ [(⟨kv,kl,vv,vl⟩:En)] ++ p.es.drop q).length=m + 1:=by have:=R.out; simp; omega
 have P:∀ e,EnA w D e->EnA d D e:=fun e he=>((he.keep B0).keep H).off fun b hb hk=>o.same b hb fun f=>by
  subst f;obtain⟨cs,k⟩:=hk;obtain⟨ds,k'⟩:=(S.1.row.keep H).kind;exact eD k k' (by decide) rfl
 have hA':PgA d D p':=by
  rw[W.out];refine⟨?_,fun e he => ?_⟩
  ·show Rw d _ 2 b2 (p.es.take q ++ [(⟨kv,kl,vv,vl⟩:En)] ++ p.es.drop q).length c2 _
   rw[hlen]; exact R2.to (yg p.es q ⟨kv,kl,vv,vl⟩)
  ·rcases List.mem_append.1 he with h | h
   ·rcases List.mem_append.1 h with h | h
    ·exact P e ((A.b8 p (List.mem_of_getElem? hi)).1.dL e (List.mem_of_mem_take h))
    ·simp at h; subst h; exact P _ hE
   ·exact P e ((A.b8 p (List.mem_of_getElem? hi)).1.dL e (List.mem_of_mem_drop h))
 have hv':p'.v=.slice (some ⟨b2,0,none⟩) (m + 1) c2:=by rw[W.out]; simp only[Pg.v]; rw[hlen]
 have hb':p'.b=b2:=by rw[W.out]
 have I:p'.es=p.es.take q ++ [⟨kv,kl,vv,vl⟩] ++ p.es.drop q:=by rw[W.out]
 obtain⟨A3,C3⟩:=A0.put (p':=p') (D':=D) hg hFg hFG Z hi C02 (by rw[hb']; exact t.imp id (fun h=>Nat.le_trans H.size h)) hA' (fun _ _ h=>h);rw[hv',hb'] at A3;rw[hv'] at C3;have aa:=(Chg.of (F:=F) B0).trans C3 (fun _ _ h=>h)
 have hF3:∀ b,((F b/\b≠p.b)\/b=b2)->F b\/w.heap.size<=b:=fun b h=>by
  have h0:=B0.size;have h1:=H.size;rcases h with h | h
  ·exact .inl h.1
  ·subst h;rcases t with h | h
   ·rw[h]; exact .inl S.2
   ·exact .inr (by omega)
 have cg3:(d.setCell ⟨G,i,none⟩ (.slice (some ⟨b2,0,none⟩) (m + 1) c2)).cell? ⟨g,0,none⟩=some (.slice (some ⟨G,0,none⟩) n C):=bR af s
 have cG3:(d.setCell ⟨G,i,none⟩ (.slice (some ⟨b2,0,none⟩) (m + 1) c2)).cell? ⟨G,i,none⟩=some (.slice (some ⟨b2,0,none⟩) (m + 1) c2):=World.cell?_setCell_same' _ _ _ (by rw[J]; rfl);generalize (d.setCell ⟨G,i,none⟩ (.slice (some ⟨b2,0,none⟩) (m + 1) c2))=W3 at *;generalize hF3d:(fun x=>(F x/\x≠p.b)\/x=b2)=F3 at A3
 have N:∀ b,F3 b->F b\/w.heap.size<=b:=fun b h=>hF3 b (by rw[<- hF3d] at h; exact h)
 have hi3:(L.set i p')[i]? = some p':=by rw[List.getElem?_set_self hil]
 by_cases Y:32 < m + 1
 ·have hbi:(32:Int) < (m:Int) + 1:=by omega
  have t5:=jS A3 hi3 (by rw[I,hlen]; omega) (by rw[I,hlen]; have:=R.out; omega) (by rw[List.length_set]; exact hn);go_wp2_with (go_at_call 194; refine t5.mono ?_; rintro e' w6 ⟨F6,p1,p2,rfl,e1,e2,A6,hF6,C6⟩);go_end0;refine⟨F6,_,rfl,?_,A6,fun b hb => ?_,aa.trans C6 fun b hb h=>(N b h).resolve_right (by omega)⟩
  ·unfold qE;rw[eN hi,<- I,if_pos (by rw[I,hlen]; exact Y)];simp only[ens,List.map_append,List.map_take,List.map_drop,List.map_cons,List.map_nil,List.map_set,e1,e2];rw[List.take_set_of_le (Nat.le_refl _),List.drop_set_of_lt (by omega)]
  ·rcases hF6 b hb with h | h
   ·exact N b h
   ·exact .inr (by have:=aa.size; omega)
 ·have hbi:¬ ((32:Int) < (m:Int) + 1):=by omega
  go_wp2;go_end0;refine⟨rfl,F3,_,?_,A3,N,aa⟩;unfold qE;rw[eN hi,<- I,if_neg (by rw[I,hlen]; exact Y),pI]
end
end Pg
end
section
namespace Pg
open Go.RowKit Go.Lib
section
variable {w w1:World}{F D:Nat->Prop}{g:Nat}{pv:Value}
theorem AR(A:bL w F D g [])(o:w.cell? ⟨g,0,none⟩=some pv)(n:Below w.heap.size w w1){vb:Nat}(V:Blk w1 vb [.slice none 0 0] 199) :
  ∃ b' c' w',(Builtin.append_ #[142,142] 142 #[pv,.slice (some ⟨vb,0,none⟩) 1 1]).run Tryz.prog w1=.ok (.slice (some ⟨b',0,none⟩) 1 c') w'/\(F b'\/w.heap.size<=b')/\Rw w' 199 1 b' 1 c' [.slice none 0 0]/\Chg F w1 w'/\b'≠g/\(∀ b cs,Blk w1 b cs 144\/Blk w1 b cs 196->Blk w' b cs 144\/Blk w' b cs 196)/\(Blk w g [pv] 144/\F g/\Blk w' g [pv] 144):=by
 obtain⟨t,hb,r,h⟩:=A.top;have e:=hb.cell (i:=0) rfl;rw[o] at e
 cases e;have a:=hb.keep n;rcases h with⟨rfl,_⟩ | ⟨G,C,rfl,hG,hR⟩
 ·obtain⟨c',W,p,d,hC⟩:=fg (w:=w1) KP 142 ⟨vb,0,none⟩ 1 1 [.slice none 0 0] rfl (fun j u q=>by rw[Addr.add_lit,Nat.zero_add]; exact V.cell q) (by decide) (by decide) (by decide);refine⟨_,c',W,p,.inr n.size,d,Chg.of hC,?_,fun b cs h=>h.imp (fun k=>k.keep hC) (fun k=>k.keep hC),hb,r,a.keep hC⟩;have:=a.lt;omega
 ·have f:=hR.keep n;obtain⟨b',c',W,p,l,d,hC⟩:=dB KP 142 f ⟨vb,0,none⟩ 1 1 [.slice none 0 0] rfl (fun j u q=>by rw[Addr.add_lit,Nat.zero_add]; exact V.cell q) (by simp[Value.oneCell']) (by simp) (by simp)
  have c:∀ b cs,Blk w1 b cs 144\/Blk w1 b cs 196->b≠G:=fun b cs h=>by
   obtain⟨v,s⟩:=f.kind;rcases h with k | k
   ·exact eD k s (by decide)
   ·exact eD k s (by decide)
  have m:=c g _ (.inl a);refine⟨b',c',W,p,?_,d,hC.mono (fun b _ e=>by subst e; exact hG),?_,fun b cs h=>h.imp (fun k=>k.chg hC (c b cs h)) (fun k=>k.chg hC (c b cs h)),hb,r,a.chg hC m⟩
  ·rcases l with h | h
   ·rw[h]; exact .inl hG
   ·rw[h]; exact .inr n.size
  ·rcases l with h | h
   ·rw[h]; exact fun e=>m e.symm
   ·have:=a.lt; omega
theorem pZ{e:En}(A:bL w F D g [])(hE:EnA w D e) :
  Calls Tryz.prog 147 #[.pointer (some ⟨g,0,none⟩),.int .i64 0,.int .i64 0,.agg #[e.kv,e.vv]] w fun e' w'=>∃ F' L',e'=.returned (.tuple #[])/\ens L'=[[e]]/\bL w' F' D g L'/\(∀ b,F' b->F b\/w.heap.size<=b)/\Chg F w w':=by
 obtain⟨kv,kl,vv,vl⟩:=e;have B0:=ae w (.cells #[kv,vv] 196);have X0:=aC w [kv,vv] 196;obtain⟨ao,c,hc,hc1,hc2,hat⟩:=A.rd;simp only[List.length_nil] at hc hc1;have hgl:=aJ hc;obtain⟨w1,B⟩:∃ w1,Hid (w1=(w.alloc (.cells #[kv,vv] 196)).alloc (.cells #[.slice none 0 0] 199)):=⟨_,rfl⟩
 have B1:Below w.heap.size w w1:=by rw[B.out]; exact aj B0 (ae _ _)
 have V1:Blk w1 (w.heap.size + 1) [.slice none 0 0] 199:=by
  have:=aC (w.alloc (.cells #[kv,vv] 196)) [.slice none 0 0] 199;rw[World.size_alloc] at this;rw[B.out]; exact this
 have X1:Blk w1 w.heap.size [kv,vv] 196:=by rw[B.out]; exact X0.keep (ae _ _)
 obtain⟨G,C,d,hr,hFG,R2,j,hGg,hkp,hgb,hFg,R⟩:=AR A hc B1 V1
 have X2:Blk d w.heap.size [kv,vv] 196:=X1.chg j (fun f=>by have:=A.lt f; omega);have hg3:=R.setCell (i:=0) (.slice (some ⟨G,0,none⟩) 1 C)
 have W:Rw (d.setCell ⟨g,0,none⟩ (.slice (some ⟨G,0,none⟩) 1 C)) 199 1 G 1 C [.slice none 0 0]:=R2.same (Below.heap_setCell d _ _ _ hGg)
 have X3:Blk (d.setCell ⟨g,0,none⟩ (.slice (some ⟨G,0,none⟩) 1 C)) w.heap.size [kv,vv] 196:=X2.off (by omega) _
 have Z:∀ e,EnA w D e->EnA (d.setCell ⟨g,0,none⟩ (.slice (some ⟨G,0,none⟩) 1 C)) D e:=fun e he=>(he.keep B1).off fun b hb hk=>by
  obtain⟨cs,k⟩:=hk
  have n1:b≠g:=eD k (hgb.keep B1) (by decide);rw[Below.heap_setCell d _ _ b n1];refine j.same b hb fun f=>A.noU f cs ?_
  exact⟨by rw[<- B1.block b (A.lt f)]; exact k.blk⟩
 have c2g:=R.cell (i:=0) rfl;have f2g:=R.free 0
 have hsz3:w.heap.size + 1 + 1<=(d.setCell ⟨g,0,none⟩ (.slice (some ⟨G,0,none⟩) 1 C)).heap.size:=by
  have h1:=j.size
  have h2:w1.heap.size=w.heap.size + 1 + 1:=by rw[B.out]; simp
  have h3:(d.setCell ⟨g,0,none⟩ (.slice (some ⟨G,0,none⟩) 1 C)).heap.size=d.heap.size:=by simp[World.setCell]
  omega
 have C03:Chg F w (d.setCell ⟨g,0,none⟩ (.slice (some ⟨G,0,none⟩) 1 C)):=((Chg.of (F:=F) B1).trans j (fun _ _ h=>h)).cell (.inl hFg) _;have mixed:=mixed;obtain rfl:=B.out;clear B;go_enter Tryz.func147,Tryz.ntmps147;go_wp2_with (at_builtin; refine Lib.wpList_append_run _ rfl _ _ _ _ rfl _ _ rfl rfl _ _ hr ?_);generalize (d.setCell ⟨g,0,none⟩ (.slice (some ⟨G,0,none⟩) 1 C))=a at *
 have M:a.cell? ⟨g,0,none⟩=some (.slice (some ⟨G,0,none⟩) 1 C):=hg3.cell (i:=0) rfl;have S:=X3.cell (i:=0) rfl;have P:=X3.cell (i:=1) rfl;have O:=W.cell (i:=0) rfl;obtain⟨v,z⟩:∃ v,Hid (v=a.drew.alloc (.cells #[kv,vv] 196)):=⟨_,rfl⟩
 have V:Below a.heap.size a v:=by rw[z.out]; exact aj (bZ a) (ae a.drew _)
 have V4:Blk v a.heap.size [kv,vv] 196:=by rw[z.out]; exact aC a.drew [kv,vv] _
 have hs4:v.heap.size=a.heap.size + 1:=by rw[z.out]; simp
 have t1:Calls Tryz.prog 193 #[.slice none 0 0,.int .i64 0,.slice (some ⟨a.heap.size,0,none⟩) 1 1] v fun e w'=>∃ b2 c2,e=.returned (.slice (some ⟨b2,0,none⟩) 1 c2)/\b2=a.heap.size + 1/\Rw w' 196 2 b2 1 c2 [kv,vv]/\Below v.heap.size v w':=(Ae V4).mono (by
  rintro e w' ⟨c',rfl,h1,h2⟩;exact⟨_,c',rfl,hs4,h1,h2⟩)
 have r:v.cell? ⟨g,0,none⟩=_:=(V.cell (p:=⟨g,0,none⟩) (aJ M)).trans M
 have m:v.cell? ⟨w.heap.size,0,none⟩=_:=(V.cell (p:=⟨w.heap.size,0,none⟩) (aJ S)).trans S
 have o:v.cell? ⟨w.heap.size,1,none⟩=_:=(V.cell (p:=⟨w.heap.size,1,none⟩) (aJ P)).trans P
 have q:v.cell? ⟨G,0,none⟩=_:=(V.cell (p:=⟨G,0,none⟩) (aJ O)).trans O
 have cgd:a.drew.cell? ⟨g,0,none⟩=_:=M
 have x0d:a.drew.cell? ⟨w.heap.size,0,none⟩=_:=S
 have x1d:a.drew.cell? ⟨w.heap.size,1,none⟩=_:=P
 have cGd:a.drew.cell? ⟨G,0,none⟩=_:=O
 have Y:g≠G:=fun e=>hGg e.symm
 have I:w.heap.size≠G:=fun e=>by
  obtain⟨ds,k⟩:=W.kind;exact eD X3 k (by decide) e
 have Q:0 < 1:=by decide
 have K:=(show _/\_/\_ from⟨r,m,o⟩)
 have H:=q;rw[z.out] at K H t1
 have T:Tryz.prog.underlying 142=some (.slice 199):=by kernel_rfl
 refine oW (X:=Nat × Nat) (fun x=>[(some 23,.pointer (some ⟨g,0,none⟩)),(some 24,.pointer (some ⟨g,0,none⟩)),(some 25,.pointer (some ⟨g,0,none⟩)),(some 26,.slice (some ⟨G,0,none⟩) 1 C),(some 27,.int .i64 0),(some 28,.pointer (some ⟨g,0,none⟩)),(some 29,.pointer (some ⟨g,0,none⟩)),(some 30,.pointer (some ⟨g,0,none⟩)),(some 31,.slice (some ⟨G,0,none⟩) 1 C),(some 32,.int .i64 0),(some 33,.pointer (some ⟨G,0,none⟩)),(some 34,.slice none 0 0),(some 35,.int .i64 0),(some 36,.agg #[kv,vv]),(some 37,.slice (some ⟨a.heap.size,0,none⟩) 1 1),(some 38,.slice (some ⟨x.1,0,none⟩) 1 x.2),(some 39,.pointer (some ⟨G,0,none⟩))]) (fun x w'=>∃ d,w'=d.setCell ⟨G,0,none⟩ (.slice (some ⟨x.1,0,none⟩) 1 x.2)/\x.1=a.heap.size + 1/\Rw d 196 2 x.1 1 x.2 [kv,vv]/\Below v.heap.size v d) (fun w'=>w'.cell? ⟨g,0,none⟩=some (.slice (some ⟨G,0,none⟩) 1 C)/\w'.cell? ⟨w.heap.size,0,none⟩=some kv/\w'.cell? ⟨w.heap.size,1,none⟩=some vv) (by kernel_rfl) ⟨cgd,x0d,x1d⟩ ?_ ?_
 ·have hS:=(show _/\_/\_ from⟨cgd,x0d,x1d⟩)
  refine ai 0 (some 23) (.pointer (some ⟨g,0,none⟩)) (by kernel_rfl) (fun _ _=>by kernel_rfl) (fun _ _ _ h=>h) hS ?_
  refine ai 1 (some 24) (.pointer (some ⟨g,0,none⟩)) (by kernel_rfl) (fun _ _=>by kernel_rfl) (fun _ _ _ h=>h) hS ?_
  refine ai 2 (some 25) (.pointer (some ⟨g,0,none⟩)) (by kernel_rfl) (fun _ _=>by kernel_rfl) (fun _ _ _ h=>h) hS ?_
  refine aP 3 (some 26) (.slice (some ⟨G,0,none⟩) 1 C) 142 25 (g) (0) (by kernel_rfl) (by kernel_rfl) (by kernel_rfl) (fun w' h=>fS h.1) (fun _ _ _ h=>h) hS ?_
  refine ai 4 (some 27) (.int .i64 0) (by kernel_rfl) (fun _ _=>by kernel_rfl) (fun _ _ _ h=>h) hS ?_
  refine ai 5 (some 28) (.pointer (some ⟨g,0,none⟩)) (by kernel_rfl) (fun _ _=>by kernel_rfl) (fun _ _ _ h=>h) hS ?_
  refine ai 6 (some 29) (.pointer (some ⟨g,0,none⟩)) (by kernel_rfl) (fun _ _=>by kernel_rfl) (fun _ _ _ h=>h) hS ?_
  refine ai 7 (some 30) (.pointer (some ⟨g,0,none⟩)) (by kernel_rfl) (fun _ _=>by kernel_rfl) (fun _ _ _ h=>h) hS ?_
  refine aP 8 (some 31) (.slice (some ⟨G,0,none⟩) 1 C) 142 30 (g) (0) (by kernel_rfl) (by kernel_rfl) (by kernel_rfl) (fun w' h=>fS h.1) (fun _ _ _ h=>h) hS ?_
  refine ai 9 (some 32) (.int .i64 0) (by kernel_rfl) (fun _ _=>by kernel_rfl) (fun _ _ _ h=>h) hS ?_
  refine ai 10 (some 33) (.pointer (some ⟨G,0,none⟩)) (by kernel_rfl) (fun _ _=>ez (x:=31) (y:=32) (n:=1) (c:=C) (by kernel_rfl) T (by kernel_rfl) (by kernel_rfl) (rfl) (Q)) (fun _ _ _ h=>h) hS ?_
  refine ai 12 (some 35) (.int .i64 0) (by kernel_rfl) (fun _ _=>by kernel_rfl) (fun _ _ _ h=>h) hS ?_
  refine aP 13 (some 36) (.agg #[kv,vv]) 196 7 (w.heap.size) (0) (by kernel_rfl) (by kernel_rfl) (by kernel_rfl) (fun w' h=>ld_e h.2.1 h.2.2) (fun _ _ _ h=>h) hS ?_
  refine aL [11,14] (by kernel_rfl) (by simp) ?_
  refine bI 11 (some 34) (.slice none 0 0) _ (by kernel_rfl) (iY 33 (by kernel_rfl) (by kernel_rfl) (pF cGd)) hS ?_ (bI 14 (some 37) (.slice (some ⟨a.heap.size,0,none⟩) 1 1) _ (by kernel_rfl) (qn (k:=36) (by kernel_rfl) (by kernel_rfl)) K ?_ aV)
  ·refine aL [14] (by kernel_rfl) (by simp) ?_
   refine bI 14 (some 37) (.slice (some ⟨a.heap.size,0,none⟩) 1 1) _ (by kernel_rfl) (qn (k:=36) (by kernel_rfl) (by kernel_rfl)) K ?_ aV;refine bN 15 (some 38) 193 #[.slice none 0 0,.int .i64 0,.slice (some ⟨a.heap.size,0,none⟩) 1 1] (by kernel_rfl) (by kernel_rfl) t1 ?_
   rintro e' d ⟨b2,c2,rfl,E,R2,j⟩;rw[<- z.out] at j
   have u:d.cell? ⟨g,0,none⟩=_:=(j.cell (p:=⟨g,0,none⟩) (aJ r)).trans r
   have t:d.cell? ⟨w.heap.size,0,none⟩=_:=(j.cell (p:=⟨w.heap.size,0,none⟩) (aJ m)).trans m
   have s:d.cell? ⟨w.heap.size,1,none⟩=_:=(j.cell (p:=⟨w.heap.size,1,none⟩) (aJ o)).trans o
   have N:d.cell? ⟨G,0,none⟩=_:=(j.cell (p:=⟨G,0,none⟩) (aJ q)).trans q
   have U:d.frozen? ⟨G,0,none⟩=false:=((W.keep V).keep j).free 0;refine⟨_,rfl,⟨u,t,s⟩,?_⟩;replace hS:=(show _/\_/\_ from⟨u,t,s⟩)
   refine ai 16 (some 39) (.pointer (some ⟨G,0,none⟩)) (by kernel_rfl) (fun _ _=>ez (x:=26) (y:=27) (n:=1) (c:=C) (by kernel_rfl) T (by kernel_rfl) (by kernel_rfl) (rfl) (Q)) (fun _ _ _ h=>h) hS ?_
   refine aL [17] (by kernel_rfl) (by simp) ?_
   refine dq 17 (d.setCell ⟨G,0,none⟩ (.slice (some ⟨b2,0,none⟩) 1 c2)) (by kernel_rfl) (kt 39 38 (by kernel_rfl) (by kernel_rfl) (by kernel_rfl) N U) ⟨bR Y u,bR I t,bR I s⟩ ?_ aV;refine bH (by kernel_rfl) ?_
   exact⟨(b2,c2),by kernel_rfl,d,rfl,E,R2,j⟩
  ·refine aL [11] (by kernel_rfl) (by simp) ?_
   refine bI 11 (some 34) (.slice none 0 0) _ (by kernel_rfl) (iY 33 (by kernel_rfl) (by kernel_rfl) (pF H)) K ?_ aV;refine bN 15 (some 38) 193 #[.slice none 0 0,.int .i64 0,.slice (some ⟨a.heap.size,0,none⟩) 1 1] (by kernel_rfl) (by kernel_rfl) t1 ?_
   rintro e' d ⟨b2,c2,rfl,E,R2,j⟩;rw[<- z.out] at j
   have u:d.cell? ⟨g,0,none⟩=_:=(j.cell (p:=⟨g,0,none⟩) (aJ r)).trans r
   have t:d.cell? ⟨w.heap.size,0,none⟩=_:=(j.cell (p:=⟨w.heap.size,0,none⟩) (aJ m)).trans m
   have s:d.cell? ⟨w.heap.size,1,none⟩=_:=(j.cell (p:=⟨w.heap.size,1,none⟩) (aJ o)).trans o
   have N:d.cell? ⟨G,0,none⟩=_:=(j.cell (p:=⟨G,0,none⟩) (aJ q)).trans q
   have U:d.frozen? ⟨G,0,none⟩=false:=((W.keep V).keep j).free 0;refine⟨_,rfl,⟨u,t,s⟩,?_⟩;replace hS:=(show _/\_/\_ from⟨u,t,s⟩)
   refine ai 16 (some 39) (.pointer (some ⟨G,0,none⟩)) (by kernel_rfl) (fun _ _=>ez (x:=26) (y:=27) (n:=1) (c:=C) (by kernel_rfl) T (by kernel_rfl) (by kernel_rfl) (rfl) (Q)) (fun _ _ _ h=>h) hS ?_
   refine aL [17] (by kernel_rfl) (by simp) ?_
   refine dq 17 (d.setCell ⟨G,0,none⟩ (.slice (some ⟨b2,0,none⟩) 1 c2)) (by kernel_rfl) (kt 39 38 (by kernel_rfl) (by kernel_rfl) (by kernel_rfl) N U) ⟨bR Y u,bR I t,bR I s⟩ ?_ aV;refine bH (by kernel_rfl) ?_
   exact⟨(b2,c2),by kernel_rfl,d,rfl,E,R2,j⟩
 rintro⟨b2,J⟩ w' ⟨L,rfl,E,R4,D4⟩;dsimp only at E R4;simp only[jc,Act.put,List.setIfInBounds_toArray,List.set_cons_zero,List.set_cons_succ]
 have l:Below a.heap.size a L:=aj V D4;subst E;have aa:=(hg3.keep l).off Y (i:=0) (.slice (some ⟨a.heap.size + 1,0,none⟩) 1 J);have R5:=(W.keep l).set 0 (by simp) (.slice (some ⟨a.heap.size + 1,0,none⟩) 1 J)
 have hNG:a.heap.size + 1≠G:=by have:=W.lt; omega
 have R6:Rw (L.setCell ⟨G,0,none⟩ (.slice (some ⟨a.heap.size + 1,0,none⟩) 1 J)) 196 2 (a.heap.size + 1) 1 J [kv,vv]:=R4.same (Below.heap_setCell L _ _ _ hNG)
 have E6:EnA (L.setCell ⟨G,0,none⟩ (.slice (some ⟨a.heap.size + 1,0,none⟩) 1 J)) D ⟨kv,kl,vv,vl⟩:=((Z _ hE).keep l).off fun b hb hk=>by
  obtain⟨cs,k⟩:=hk;obtain⟨ds,k'⟩:=(W.keep l).kind;exact Below.heap_setCell L _ _ b (eD k k' (by decide))
 have C6:Chg F w (L.setCell ⟨G,0,none⟩ (.slice (some ⟨a.heap.size + 1,0,none⟩) 1 J)):=(C03.trans (Chg.of (F:=F) l) (fun _ _ h=>h)).cell hFG _;have cg5:=aa.cell (i:=0) rfl;have cG5:=R5.cell (i:=0) rfl
 have hfin:bL (L.setCell ⟨G,0,none⟩ (.slice (some ⟨a.heap.size + 1,0,none⟩) 1 J)) (fun x=>x=g\/x=G\/x=a.heap.size + 1) D g [⟨a.heap.size + 1,J,[⟨kv,kl,vv,vl⟩]⟩]:=by
  refine⟨⟨_,aa,.inl rfl,.inr ⟨G,C,rfl,.inr (.inl rfl),R5⟩⟩,fun p hp => ?_,by simp,fun b hb => ?_⟩
  ·simp at hp;subst hp;exact⟨⟨R6,fun e he=>by simp at he; subst he; exact E6⟩,.inr (.inr rfl)⟩
  ·rcases hb with rfl | rfl | rfl
   ·exact⟨_,_,aa,by decide⟩
   ·obtain⟨ds,k⟩:=R5.kind;exact⟨ds,_,k,by decide⟩
   ·obtain⟨ds,k⟩:=R6.kind;exact⟨ds,_,k,by decide⟩
 generalize (L.setCell ⟨G,0,none⟩ (.slice (some ⟨a.heap.size + 1,0,none⟩) 1 J))=W6 at *;go_wp2;go_end0;refine⟨_,_,rfl,?_,hfin,fun b hb => ?_,C6⟩
 ·rfl
 ·rcases hb with rfl | rfl | rfl
  ·exact .inl hFg
  ·exact hFG
  ·exact .inr (by omega)
end
end Pg
end
section
namespace Pg
open Go.RowKit Go.Lib
section
variable {es:List En}{k ul:List Int}{L:List Pg}{w:World}{i g:Nat}{cs:List Value}{v u kv:Value}{F D:Nat->Prop}
def has(P:List (List En))(k:List Int):Bool := !P.isEmpty && thr (kys (P.getD (pgi P k) [])) k
def got(P:List (List En))(k:List Int):List Int:=((P.getD (pgi P k) [])[plc (kys (P.getD (pgi P k) [])) k]?.map En.vl).getD []
def fy(P:List (List En))(e:En):List (List En) :=
 if P=[] then [[e]]
 else
  let i:=pgi P e.kl
  let es:=P.getD i []
  let q:=plc (kys es) e.kl
  if thr (kys es) e.kl then P.set i (es.modify q fun x=>{ x with vv:=e.vv,vl:=e.vl }) else qE P i q e
theorem ll(h:thr (kys es) k=true):∃ e,es[plc (kys es) k]? = some e/\e.kl=k:=by
 simp only[thr,decide_eq_true_eq,kys,List.getElem?_map] at h;obtain⟨e,he,hk⟩:=Option.map_eq_some_iff.1 h;exact⟨e,he,hk⟩
theorem ue(h:L≠[]):ens L≠[]:=fun e=>h (by simpa[ens] using e)
theorem pJ(h:L≠[])(k:List Int):∃ p,L[pgi (ens L) k]? = some p/\(ens L).getD (pgi (ens L) k) []=p.es:=by
 have:=pgi_lt (ue h) k;simp only[ens,List.length_map] at this;refine⟨L[pgi (ens L) k]'this,List.getElem?_eq_getElem _,?_⟩;exact eN (List.getElem?_eq_getElem _)
theorem xa{G:Nat}{t:TypeId}(h:Blk w G cs t)(hi:cs[i]? = some v)(b:Nat):(w.setCell ⟨G,i,none⟩ v).heap[b]? = w.heap[b]? := by
 by_cases e:b=G
 ·subst e;have c:=(h.setCell (i:=i) v).blk;rw[c,h.blk];have:cs.set i v=cs:=by
   obtain⟨a,rfl⟩:=List.getElem?_eq_some_iff.1 hi;exact List.set_getElem_self a
  rw[this]
 ·exact Below.heap_setCell w _ v b e
theorem bL.upd{w1:World}{q:Nat}{p:Pg}{e:En}(A:bL w F D g L)(hi:L[i]? = some p)(he:p.es[q]? = some e)(B:Below w.heap.size w w1)(hu:OB w1 (w.heap.size <= ·) u ul) :
  bL (w1.setCell ⟨p.b,q * 2 + 1,none⟩ u) F (fun b=>D b\/w.heap.size<=b) g (L.set i ⟨p.b,p.c,p.es.set q { e with vv:=u,vl:=ul }⟩)/\Chg F w (w1.setCell ⟨p.b,q * 2 + 1,none⟩ u):=by
 have o:=(List.getElem?_eq_some_iff.1 hi).1
 have hL:L≠[]:=fun e=>by subst e; simp at o
 obtain⟨G,C,O,J,t,E⟩:=A.opn hL;have m:=A.b8 p (List.mem_of_getElem? hi);have z:=(List.getElem?_eq_some_iff.1 he).1
 have hC:Chg (· = p.b) w (w1.setCell ⟨p.b,q * 2 + 1,none⟩ u):=(Chg.of (F:=(· = p.b)) B).cell (.inl rfl) _
 have a:∀ {v:Value} {l:List Int} {D':Nat->Prop},OB w1 D' v l->OB (w1.setCell ⟨p.b,q * 2 + 1,none⟩ u) D' v l:=fun h=>⟨h.oct,h.ex.imp id (by
  rintro⟨b,c,e,R,s⟩;refine⟨b,c,e,R,s.same (Below.heap_setCell w1 _ _ b ?_)⟩;obtain⟨U,k⟩:=s.kind;obtain⟨P,Q⟩:=(m.1.row.keep B).kind;exact eD k Q (by decide))⟩
 have r:Rw (w1.setCell ⟨p.b,q * 2 + 1,none⟩ u) 196 2 p.b p.es.length p.c (flat (p.es.set q { e with vv:=u,vl:=ul })) :=
  ((m.1.row.keep B).set (q * 2 + 1) (by rw[jA]; omega) u).to (mV u ul he)
 have hA:PgA (w1.setCell ⟨p.b,q * 2 + 1,none⟩ u) (fun b=>D b\/w.heap.size<=b) ⟨p.b,p.c,p.es.set q { e with vv:=u,vl:=ul }⟩:=by
  refine⟨by simpa using r,fun S I => ?_⟩;obtain⟨j,n⟩:=List.getElem?_of_mem I;rw[List.getElem?_set] at n;by_cases M:q=j
  ·subst M;rw[if_pos rfl,if_pos z] at n
   cases n;have f:=m.1.dL e (List.mem_of_getElem? he);exact⟨(a (f.k.keep B)).mono (fun _ _ h=>.inl h),(a hu).mono (fun _ _ h=>.inr h)⟩
  ·rw[if_neg M] at n;have f:=m.1.dL S (List.mem_of_getElem? n);exact⟨(a (f.k.keep B)).mono (fun _ _ h=>.inl h),(a (f.v.keep B)).mono (fun _ _ h=>.inl h)⟩
 obtain⟨N,T⟩:=A.put (p':=⟨p.b,p.c,p.es.set q { e with vv:=u,vl:=ul }⟩) (D':=fun b=>D b\/w.heap.size<=b) O J t E hi hC (.inl rfl) hA (fun _ _ h=>.inl h)
 have hv:(⟨p.b,p.c,p.es.set q { e with vv:=u,vl:=ul }⟩:Pg).v=p.v:=by simp[Pg.v]
 rw[hv] at N T
 have H:Rw (w1.setCell ⟨p.b,q * 2 + 1,none⟩ u) 199 1 G L.length C (L.map Pg.v):=E.chg hC (fun e=>m.1.eV E e.symm)
 have d:∀ b,((w1.setCell ⟨p.b,q * 2 + 1,none⟩ u).setCell ⟨G,i,none⟩ p.v).heap[b]? = (w1.setCell ⟨p.b,q * 2 + 1,none⟩ u).heap[b]? := fun b=>by
  obtain⟨sp,h,_⟩:=H.ex;exact xa h (by rw[List.getElem?_append_left (by simpa using o)]; simp[hi]) b
 have y:∀ x,((F x/\x≠p.b)\/x=p.b)<->F x:=fun x=>⟨fun h=>h.elim (fun h=>h.1) (fun h=>by subst h; exact m.2),fun h=>by
  by_cases ex:x=p.b
  ·exact .inr ex
  ·exact .inl ⟨h,ex⟩⟩
 have K:=N.same (w':=w1.setCell ⟨p.b,q * 2 + 1,none⟩ u) (fun b _=>(d b).symm) (fun b _ _ _=>(d b).symm);rw[show (fun x=>(F x/\x≠p.b)\/x=p.b)=F from funext fun x=>propext (y x)] at K;exact⟨K,⟨hC.os,hC.tape,hC.output,hC.size,fun b hb hf=>hC.same b hb fun e=>hf (by subst e; exact m.2)⟩⟩
theorem CO(A:bL w F D g L)(O:Ord (ens L))(hs:∀ es∈ens L,es.length<=1000)(hn:L.length<=100000000)(h:By w kv k)(hb:∀ p∈L,∀ e∈p.es,e.vl.length<=1000000000) :
  Calls Tryz.prog 170 #[.pointer (some ⟨g,0,none⟩),kv] w fun e w'=>∃ v,e=.returned (.tuple #[v,.bool (has (ens L) k)])/\OB w' (w.heap.size <= ·) v (if has (ens L) k then got (ens L) k else [])/\Below w.heap.size w w':=by
 by_cases hL:L=[]
 ·subst hL;have t:=mT (v:=kv) A
  have e1:has (ens []) k=false:=rfl;rw[e1];clear A O hs hb h;go_enter Tryz.func170,Tryz.ntmps170;go_wp2_with (go_at_call 146; refine t.mono ?_; rintro B j ⟨rfl,rfl⟩);go_ret2;exact⟨_,rfl,⟨fun _ h=>by simp at h,.inl ⟨rfl,rfl⟩⟩,Below.refl _ _⟩
 ·obtain⟨p,r,l⟩:=pJ hL k;have d:=List.mem_of_getElem? r;have t:=kZ A O h (by omega) r (by have:=hs p.es (List.mem_map.2 ⟨p,d,rfl⟩); omega);obtain⟨G,C,u,U,J,y⟩:=A.opn hL;have R:=(List.getElem?_eq_some_iff.1 r).1
  have H:has (ens L) k=thr (kys p.es) k:=by
   unfold has;rw[l];have:(ens L).isEmpty=false:=by simp[ens,hL]
   simp[this]
  have c:got (ens L) k=((p.es)[plc (kys p.es) k]?.map En.vl).getD []:=by unfold got; rw[l]
  rw[H];by_cases f:thr (kys p.es) k=true
  ·obtain⟨e,he,N⟩:=ll f;rw[he] at c;simp only[Option.map_some,Option.getD_some] at c;rw[f,if_pos rfl,c];rw[f] at t;have cg:=u.cell (i:=0) rfl;have z:=y.cell (i:=pgi (ens L) k) (v:=p.v) (by simp[r]);have E:=(A.b8 p d).1.dL e (List.mem_of_getElem? he);have cv:=(A.b8 p d).1.row.cell (jY he)
   have I:∀ w',Below w.heap.size w w'->Calls Tryz.prog 78 #[e.vv] w' _:=fun w' a=>cE (E.v.keep a).by (hb p d e (List.mem_of_getElem? he))
   have K:=(List.getElem?_eq_some_iff.1 he).1;generalize pgi (ens L) k=i at *;generalize plc (kys p.es) k=q at *
   have z1:(i:Int) < L.length:=by omega
   have z2:(q:Int) < p.es.length:=by omega
   simp only[Pg.v] at z;generalize L.length=n at *;generalize p.es.length=m at *;clear A O hs hb h y u E f;go_enter Tryz.func170,Tryz.ntmps170;go_wp2_with (first | (go_at_call 146; refine t.mono ?_; rintro B j ⟨rfl,a⟩; have S:j.cell? ⟨g,0,none⟩=_:=(a.cell (p:=⟨g,0,none⟩) (aJ cg)).trans cg; have Q:j.cell? ⟨G,i,none⟩=_:=(a.cell (p:=⟨G,i,none⟩) (aJ z)).trans z; have M:j.cell? ⟨p.b,q * 2 + 1,none⟩=_:=(a.cell (p:=⟨p.b,q * 2 + 1,none⟩) (aJ cv)).trans cv; have x:=I j a; clear t I) | (go_at_call 78; refine x.mono ?_; rintro B V ⟨T,rfl,P,s⟩));go_ret2;exact⟨T,rfl,P.mono (fun b _ hb=>Nat.le_trans a.size hb),aj a s⟩
  ·have o:thr (kys p.es) k=false:=by simpa using f
   rw[o] at t ⊢;generalize pgi (ens L) k=i at *;generalize plc (kys p.es) k=q at *;clear A O hs hb h y u f o H c;go_enter Tryz.func170,Tryz.ntmps170;go_wp2_with (go_at_call 146; refine t.mono ?_; rintro B j ⟨rfl,a⟩);go_ret2;exact⟨_,rfl,⟨fun _ h=>by simp at h,.inl ⟨rfl,rfl⟩⟩,a⟩
end
end Pg
end
section
namespace Pg
open Go.RowKit Go.Lib
section
variable {es:List En}{q g:Nat}{w:World}{D F:Nat->Prop}{v l k:List Int}{L:List Pg}{kv vv:Value}
theorem wA{e:En}(h:es[q]? = some e)(f:En->En):es.modify q f=es.set q (f e):=by
 have a:=(List.getElem?_eq_some_iff.1 h).1;apply List.ext_getElem?;intro j;rw[List.getElem?_modify,List.getElem?_set];by_cases e:q=j
 ·subst e; rw[if_pos rfl,if_pos a,h]; simp
 ·rw[if_neg e]; simp[e]
theorem OB.shape{v:Value}(h:OB w D v l):∃ ao c,v=.slice ao l.length c:=by
 rcases h.ex with⟨rfl,rfl⟩ | ⟨b,c,rfl,_⟩
 ·exact⟨none,0,rfl⟩
 ·exact⟨_,c,rfl⟩
def SetR(w w':World)(F D:Nat->Prop)(g:Nat)(L:List Pg)(k v:List Int):Prop :=
 ∃ F' L' nk nv,ens L'=fy (ens L) ⟨nk,k,nv,v⟩/\bL w' F' (fun b=>D b\/w.heap.size<=b) g L'/\(∀ b,F' b->F b\/w.heap.size<=b)/\Chg F w w'
theorem wB{F D:Nat → Prop}{p:Pg}(A : bL w F D g L)(O : Ord (ens L))(hs : p.es.length ≤ 1000)(hn : L.length ≤ 100000000)(h : By w kv k)(hv : By w vv v)(S : v.length ≤ 1000000000)(hL : L ≠ [])(B : L[pgi (ens L) k]? = some p)(o : (ens L).getD (pgi (ens L) k) [] = p.es)(J : thr (kys p.es) k = true) :
    Calls Tryz.prog 97 #[.pointer (some ⟨g, 0, none⟩), kv, vv] w fun e w' => e = .returned (.bool false) ∧ SetR w w' F D g L k v := by
  have t := kZ A O h (by omega) B (by omega);obtain⟨G, C, T, hFg, W, V⟩:= A.opn hL;obtain⟨e, he, aa⟩:= ll J;have N := List.mem_of_getElem? B;have ac := (List.getElem?_eq_some_iff.1 B).1;have X := (List.getElem?_eq_some_iff.1 he).1
  have hS : ∀ u, fy (ens L) ⟨e.kv, k, u, v⟩ = (ens L).set (pgi (ens L) k) (p.es.set (plc (kys p.es) k) { e with vv := u, vl := v }) := fun u => by
    unfold fy;rw[if_neg (ue hL)];simp only[o];rw[if_pos J, wA he]
  have hS : Hid _ := hS;rw[J] at t;have cg := T.cell (i := 0) rfl;have P := V.cell (i := pgi (ens L) k) (v := p.v) (by simp[B])
  have tC : ∀ w', Below w.heap.size w w' → Calls Tryz.prog 78 #[vv] w' _ := fun w' s => cE (hv.keep s) S
  have a := (A.b8 p N).1;have cv := a.row.cell (jY he);have fv := a.row.free (plc (kys p.es) k * 2 + 1)
  have n1 : g ≠ p.b := fun e => a.eZ T e.symm
  have n2 : G ≠ p.b := fun e => a.eV V e.symm
  generalize H : pgi (ens L) k = i at *;generalize x : plc (kys p.es) k = q at *
  have H : Hid _ := H
  have x : Hid _ := x
  have z1 : (i : Int) < L.length := by omega
  have z2 : (q : Int) < p.es.length := by omega
  simp only[Pg.v] at P;generalize r : L.length = n at *;generalize E : p.es.length = m at *
  have r : Hid _ := r
  have E : Hid _ := E;clear J o;have mixed := mixed;go_enter Tryz.func97, Tryz.ntmps97;go_wp2_with (first | (go_at_call 146; refine t.mono ?_; rintro e' I ⟨rfl, s⟩))
  have z : I.drew.cell? ⟨g, 0, none⟩ = some (.slice (some ⟨G, 0, none⟩) n C) := (s.cell (p := ⟨g, 0, none⟩) (aJ cg)).trans cg
  have y : I.drew.cell? ⟨G, i, none⟩ = some (.slice (some ⟨p.b, 0, none⟩) m p.c) := (s.cell (p := ⟨G, i, none⟩) (aJ P)).trans P
  have j : Below w.heap.size w I.drew := aj s (bZ I);have K := tC I.drew j;go_region_held3 (fun w' => w'.cell? ⟨g, 0, none⟩ = some (.slice (some ⟨G, 0, none⟩) n C) ∧ w'.cell? ⟨G, i, none⟩ = some (.slice (some ⟨p.b, 0, none⟩) m p.c)) (first | exact⟨by assumption, by assumption⟩ | exact⟨bR n1 (by assumption), bR n2 (by assumption)⟩)
    (first
    | (go_at_call 78; refine K.mono ?_; rintro e' l ⟨v', rfl, U, d⟩; obtain⟨Q, M, rfl⟩:= U.shape; have ab : l.cell? ⟨g, 0, none⟩ = _ := (d.cell (p := ⟨g, 0, none⟩) (aJ z)).trans z; have Y : l.cell? ⟨G, i, none⟩ = _ := (d.cell (p := ⟨G, i, none⟩) (aJ y)).trans y; have f := aj j d; have Z : l.cell? ⟨p.b, q * 2 + 1, none⟩ = _ := (f.cell (p := ⟨p.b, q * 2 + 1, none⟩) (aJ cv)).trans cv; have fv2 : l.frozen? ⟨p.b, q * 2 + 1, none⟩ = false := (a.row.keep f).free _))
  all_goals (
    have R : OB l (w.heap.size ≤ ·) (.slice Q v.length M) v := U.mono (fun b _ hb => Nat.le_trans j.size hb);obtain⟨A2, C2⟩:= A.upd B he f R;generalize (l.setCell ⟨p.b, q * 2 + 1, none⟩ (.slice Q v.length M)) = W3 at *;go_wp2;go_ret;exact⟨rfl, F, _, e.kv, .slice Q v.length M, by rw[hS.out, pI], A2, fun b hb => .inl hb, C2⟩)
theorem ie{i:Nat}(A:bL w F D g L)(h:By w kv k)(hv:By w vv v)(r:k.length<=1000000000)(p:v.length<=1000000000)(t:Calls Tryz.prog 146 #[.pointer (some ⟨g,0,none⟩),kv] w fun e w'=>e=.returned (.tuple #[.int .i64 i,.int .i64 q,.bool false])/\Below w.heap.size w w')(y:∀ (w':World) (nk nv:Value),bL w' F (fun b=>D b\/w.heap.size<=b) g L->EnA w' (fun b=>D b\/w.heap.size<=b) ⟨nk,k,nv,v⟩->Calls Tryz.prog 147 #[.pointer (some ⟨g,0,none⟩),.int .i64 i,.int .i64 q,.agg #[nk,nv]] w' fun e' w''=>∃ F' L',e'=.returned (.tuple #[])/\ens L'=fy (ens L) ⟨nk,k,nv,v⟩/\bL w'' F' (fun b=>D b\/w.heap.size<=b) g L'/\(∀ b,F' b->F b\/w'.heap.size<=b)/\Chg F w' w'') :
  Calls Tryz.prog 97 #[.pointer (some ⟨g,0,none⟩),kv,vv] w fun e w'=>e=.returned (.bool true)/\SetR w w' F D g L k v:=by
 have u:∀ w',Below w.heap.size w w'->Calls Tryz.prog 78 #[kv] w' _:=fun w' c=>cE (h.keep c) r
 have s:∀ w',Below w.heap.size w w'->Calls Tryz.prog 78 #[vv] w' _:=fun w' c=>cE (hv.keep c) p
 have mk:True:=trivial;clear h hv;go_enter Tryz.func97,Tryz.ntmps97;go_wp2_with (first
  | (go_at_call 146; refine t.mono ?_; rintro e' E ⟨rfl,c⟩; have j:=u E c; clear t u)
  | (go_at_call 78; clear mk; refine j.mono ?_; rintro e' C ⟨nk,rfl,x,n⟩; have a:=aj c n; have f:=s C a; clear j s; obtain⟨K,I,rfl⟩:=x.shape)
  | (go_at_call 78; refine f.mono ?_; rintro e' B ⟨nv,rfl,l,m⟩; clear f; obtain⟨H,J,rfl⟩:=l.shape; have d:=aj a m; have o:=y B _ _ ((A.keep d).mono (fun _ _ h=>.inl h)) ⟨(x.keep m).mono (fun b _ hb=>.inr (Nat.le_trans c.size hb)),l.mono (fun b _ hb=>.inr (Nat.le_trans a.size hb))⟩)
  | (go_at_call 147; refine o.mono ?_; rintro e' G ⟨F',L',rfl,z,hA,hF,hC⟩))
 go_ret;exact⟨rfl,F',L',_,_,z,hA,fun b hb=>(hF b hb).imp id (fun h=>Nat.le_trans d.size h),(Chg.of (F:=F) d).trans hC (fun _ _ h=>h)⟩
theorem C9(A:bL w F D g L)(O:Ord (ens L))(hs:∀ es∈ens L,es.length<=32)(hn:L.length<=100000000)(h:By w kv k)(hv:By w vv v)(d:k.length<=1000000000)(b:v.length<=1000000000) :
  Calls Tryz.prog 97 #[.pointer (some ⟨g,0,none⟩),kv,vv] w fun e w'=>e=.returned (.bool (!has (ens L) k))/\SetR w w' F D g L k v:=by
 by_cases hL:L=[]
 ·subst hL;refine ie (i:=0) (q:=0) A h hv d b ((mT A).mono ?_) (fun w' nk z l x=>(pZ l x).mono ?_)
  ·rintro e w' ⟨rfl,rfl⟩; exact⟨rfl,Below.refl _ _⟩
  ·rintro e o ⟨y,r,rfl,m,hA,hF,hC⟩;exact⟨y,r,rfl,m,hA,hF,hC⟩
 ·obtain⟨p,j,a⟩:=pJ hL k;have u:=List.mem_of_getElem? j;have n:=hs p.es (List.mem_map.2 ⟨p,u,rfl⟩)
  have B:has (ens L) k=thr (kys p.es) k:=by
   unfold has;rw[a];have:(ens L).isEmpty=false:=by simp[ens,hL]
   simp[this]
  rw[B];by_cases s:thr (kys p.es) k=true
  ·rw[s];exact wB A O (by omega) hn h hv b hL j a s
  ·have f:thr (kys p.es) k=false:=by simpa using s
   have t:=kZ A O h (by omega) j (by omega);rw[f] at t ⊢;have c:=oV (kys p.es) k;simp only[kys,List.length_map] at c;refine ie A h hv d b t (fun w' nk z l x=>(sw l j (q:=plc (kys p.es) k) c n hn x).mono ?_);rintro e o ⟨y,r,rfl,m,hA,hF,hC⟩;refine⟨y,r,rfl,?_,hA,hF,hC⟩;rw[m];unfold fy;rw[if_neg (ue hL)];simp only[a];rw[if_neg (by rw[f]; decide)]
end
end Pg
end
section
namespace Pg
open Go.RowKit Go.Lib
section
variable {w:World}{v:Value}{F D:Nat->Prop}{L:List Pg}
def jnb(P:List (List En))(i:Nat):Bool:=decide (i + 1 < P.length) && decide ((P.getD i []).length + (P.getD (i + 1) []).length<=16)
def jnQ(P:List (List En))(i:Nat):List (List En):=P.take i ++ [P.getD i [] ++ P.getD (i + 1) []] ++ P.drop (i + 2)
theorem jn_neg:Calls Tryz.prog 209 #[v,.int .i64 (-1)] w fun e w'=>e=.returned (.bool false)/\Below w.heap.size w w':=by
 have mixed:=mixed;go_enter Tryz.func209,Tryz.ntmps209;go_wp2;go_region;go_wp2;go_ret;exact⟨rfl,bZ w⟩
theorem yq{g i:Nat}(A:bL w F D g L)(hi:i < L.length)(hn:L.length<=100000000)(hs:∀ es∈ens L,es.length<=1000) :
  Calls Tryz.prog 209 #[.pointer (some ⟨g,0,none⟩),.int .i64 i] w fun e w'=>e=.returned (.bool (jnb (ens L) i))/\Below w.heap.size w w':=by
 have hL:L≠[]:=fun e=>by subst e; simp at hi
 obtain⟨G,C,t,J,I,r⟩:=A.opn hL;have cg:=t.cell (i:=0) rfl
 have m:(ens L).length=L.length:=by simp[ens]
 have mixed:=mixed
 have z:IntKind.i64.wrap ((i:Int) + 1)=(i:Int) + 1:=by rw[IntKind.wrap_i64]; omega
 have E:(0:Int)<=(i:Int):=by omega
 by_cases q:i + 1 < L.length
 ·obtain⟨p,s⟩:∃ p,L[i]? = some p:=⟨L[i],List.getElem?_eq_getElem hi⟩
  obtain⟨a,j⟩:∃ a,L[i + 1]? = some a:=⟨L[i + 1],List.getElem?_eq_getElem q⟩
  have H:=r.cell (i:=i) (v:=p.v) (by simp[s]);have l:=r.cell (i:=i + 1) (v:=a.v) (by simp[j]);have s1:=hs p.es (List.mem_map.2 ⟨p,List.mem_of_getElem? s,rfl⟩);have s2:=hs a.es (List.mem_map.2 ⟨a,List.mem_of_getElem? j,rfl⟩)
  have u:Hid (jnb (ens L) i=decide ((p.es.length:Int) + (a.es.length:Int)<=16)):=by
   show _=_
   unfold jnb;rw[m,decide_eq_true q,eN s,eN j,Bool.true_and];congr 1
   exact propext ⟨fun h=>by omega,fun h=>by omega⟩
  simp only[Pg.v] at H l;generalize hln:L.length=n at *;generalize p.es.length=x at *;generalize a.es.length=y at *
  have z1:(i:Int) + 1 < n:=by omega
  have z2:(i:Int) < n:=by omega
  have z3:((i:Int) + 1).toNat=i + 1:=by omega
  have z4:(0:Int)<=(i:Int) + 1:=by omega
  have z5:IntKind.i64.wrap ((x:Int) + (y:Int))=(x:Int) + (y:Int):=by rw[IntKind.wrap_i64]; omega
  have d:w.drew.cell? ⟨g,0,none⟩=some (.slice (some ⟨G,0,none⟩) n C):=cg
  have k:w.drew.cell? ⟨G,i,none⟩=some (.slice (some ⟨p.b,0,none⟩) x p.c):=H
  have f:w.drew.cell? ⟨G,i + 1,none⟩=some (.slice (some ⟨a.b,0,none⟩) y a.c):=l;clear A hs r t hln;go_enter Tryz.func209,Tryz.ntmps209;go_wp2
  have o:Tryz.prog.underlying 142=some (.slice 199):=by kernel_rfl
  have B:i < n:=hi;refine bU (S:=fun w'=>w'.cell? ⟨g,0,none⟩=some (.slice (some ⟨G,0,none⟩) n C)/\w'.cell? ⟨G,i,none⟩=some (.slice (some ⟨p.b,0,none⟩) x p.c)/\w'.cell? ⟨G,i + 1,none⟩=some (.slice (some ⟨a.b,0,none⟩) y a.c)) (by kernel_rfl) ⟨d,k,f⟩ ?_
  have hS:=(show _/\_/\_ from⟨d,k,f⟩)
  refine ai 0 (some 5) (.int .i64 i) (by kernel_rfl) (fun _ _=>by kernel_rfl) (fun _ _ _ h=>h) hS ?_
  refine iL 1 (some 6) (.bool (decide ((0:Int)<=(i:Int)))) (.bool true) (by rw[decide_eq_true E]) (by kernel_rfl) (fun _ _=>by kernel_rfl) (fun _ _ _ h=>h) hS ?_
  refine ai 2 (some 7) (.bool true) (by kernel_rfl) (fun _ _=>by kernel_rfl) (fun _ _ _ h=>h) hS ?_
  refine ai 3 (some 8) (.int .i64 i) (by kernel_rfl) (fun _ _=>by kernel_rfl) (fun _ _ _ h=>h) hS ?_
  refine iL 4 (some 9) (.int .i64 (IntKind.i64.wrap ((i:Int) + 1))) (.int .i64 ((i:Int) + 1)) (by rw[z]) (by kernel_rfl) (fun _ _=>by kernel_rfl) (fun _ _ _ h=>h) hS ?_
  refine ai 5 (some 10) (.pointer (some ⟨g,0,none⟩)) (by kernel_rfl) (fun _ _=>by kernel_rfl) (fun _ _ _ h=>h) hS ?_
  refine ai 6 (some 11) (.pointer (some ⟨g,0,none⟩)) (by kernel_rfl) (fun _ _=>by kernel_rfl) (fun _ _ _ h=>h) hS ?_
  refine ai 7 (some 12) (.pointer (some ⟨g,0,none⟩)) (by kernel_rfl) (fun _ _=>by kernel_rfl) (fun _ _ _ h=>h) hS ?_
  refine aP 8 (some 13) (.slice (some ⟨G,0,none⟩) n C) 142 12 (g) (0) (by kernel_rfl) (by kernel_rfl) (by kernel_rfl) (fun w' h=>fS h.1) (fun _ _ _ h=>h) hS ?_
  refine ai 9 (some 14) (.int .i64 n) (by kernel_rfl) (fun _ _=>by kernel_rfl) (fun _ _ _ h=>h) hS ?_
  refine iL 10 (some 15) (.bool (decide ((i:Int) + 1 < (n:Int)))) (.bool true) (by rw[decide_eq_true (by omega)]) (by kernel_rfl) (fun _ _=>by kernel_rfl) (fun _ _ _ h=>h) hS ?_
  refine ai 11 (some 16) (.bool true) (by kernel_rfl) (fun _ _=>by kernel_rfl) (fun _ _ _ h=>h) hS ?_
  refine ai 12 (some 17) (.bool true) (by kernel_rfl) (fun _ _=>by kernel_rfl) (fun _ _ _ h=>h) hS ?_
  refine ai 13 (some 18) (.pointer (some ⟨g,0,none⟩)) (by kernel_rfl) (fun _ _=>by kernel_rfl) (fun _ _ _ h=>h) hS ?_
  refine ai 14 (some 19) (.pointer (some ⟨g,0,none⟩)) (by kernel_rfl) (fun _ _=>by kernel_rfl) (fun _ _ _ h=>h) hS ?_
  refine ai 15 (some 20) (.pointer (some ⟨g,0,none⟩)) (by kernel_rfl) (fun _ _=>by kernel_rfl) (fun _ _ _ h=>h) hS ?_
  refine aP 16 (some 21) (.slice (some ⟨G,0,none⟩) n C) 142 20 (g) (0) (by kernel_rfl) (by kernel_rfl) (by kernel_rfl) (fun w' h=>fS h.1) (fun _ _ _ h=>h) hS ?_
  refine ai 17 (some 22) (.int .i64 i) (by kernel_rfl) (fun _ _=>by kernel_rfl) (fun _ _ _ h=>h) hS ?_
  refine ai 18 (some 23) (.pointer (some ⟨G,i,none⟩)) (by kernel_rfl) (fun _ _=>ez (x:=21) (y:=22) (n:=n) (c:=C) (by kernel_rfl) o (by kernel_rfl) (by kernel_rfl) (rfl) (B)) (fun _ _ _ h=>h) hS ?_
  refine aP 19 (some 24) (.slice (some ⟨p.b,0,none⟩) x p.c) 199 23 (G) (i) (by kernel_rfl) (by kernel_rfl) (by kernel_rfl) (fun w' h=>pF h.2.1) (fun _ _ _ h=>h) hS ?_
  refine ai 20 (some 25) (.int .i64 x) (by kernel_rfl) (fun _ _=>by kernel_rfl) (fun _ _ _ h=>h) hS ?_
  refine ai 21 (some 26) (.pointer (some ⟨g,0,none⟩)) (by kernel_rfl) (fun _ _=>by kernel_rfl) (fun _ _ _ h=>h) hS ?_
  refine ai 22 (some 27) (.pointer (some ⟨g,0,none⟩)) (by kernel_rfl) (fun _ _=>by kernel_rfl) (fun _ _ _ h=>h) hS ?_
  refine ai 23 (some 28) (.pointer (some ⟨g,0,none⟩)) (by kernel_rfl) (fun _ _=>by kernel_rfl) (fun _ _ _ h=>h) hS ?_
  refine aP 24 (some 29) (.slice (some ⟨G,0,none⟩) n C) 142 28 (g) (0) (by kernel_rfl) (by kernel_rfl) (by kernel_rfl) (fun w' h=>fS h.1) (fun _ _ _ h=>h) hS ?_
  refine ai 25 (some 30) (.int .i64 i) (by kernel_rfl) (fun _ _=>by kernel_rfl) (fun _ _ _ h=>h) hS ?_
  refine iL 26 (some 31) (.int .i64 (IntKind.i64.wrap ((i:Int) + 1))) (.int .i64 ((i:Int) + 1)) (by rw[z]) (by kernel_rfl) (fun _ _=>by kernel_rfl) (fun _ _ _ h=>h) hS ?_
  refine ai 27 (some 32) (.pointer (some ⟨G,i + 1,none⟩)) (by kernel_rfl) (fun _ _=>ez (x:=29) (y:=31) (n:=n) (c:=C) (by kernel_rfl) o (by kernel_rfl) (by kernel_rfl) (show ((i:Int) + 1)=((i + 1:Nat):Int) from by omega) (q)) (fun _ _ _ h=>h) hS ?_
  refine aP 28 (some 33) (.slice (some ⟨a.b,0,none⟩) y a.c) 199 32 (G) (i + 1) (by kernel_rfl) (by kernel_rfl) (by kernel_rfl) (fun w' h=>pF h.2.2) (fun _ _ _ h=>h) hS ?_
  refine ai 29 (some 34) (.int .i64 y) (by kernel_rfl) (fun _ _=>by kernel_rfl) (fun _ _ _ h=>h) hS ?_
  refine iL 30 (some 35) (.int .i64 (IntKind.i64.wrap ((x:Int) + (y:Int)))) (.int .i64 ((x:Int) + (y:Int))) (by rw[z5]) (by kernel_rfl) (fun _ _=>by kernel_rfl) (fun _ _ _ h=>h) hS ?_
  refine ai 31 (some 36) (.bool (decide ((x:Int) + (y:Int)<=16))) (by kernel_rfl) (fun _ _=>by kernel_rfl) (fun _ _ _ h=>h) hS ?_
  refine ai 32 (some 37) (.bool (decide ((x:Int) + (y:Int)<=16))) (by kernel_rfl) (fun _ _=>by kernel_rfl) (fun _ _ _ h=>h) hS ?_
  refine ai 33 (some 4) (.bool (decide ((x:Int) + (y:Int)<=16))) (by kernel_rfl) (fun _ _=>by kernel_rfl) (fun _ _ _ h=>h) hS ?_
  refine bH (by kernel_rfl) ?_
  simp only[Act.put,List.setIfInBounds_toArray,List.set_cons_zero,List.set_cons_succ];go_wp2;go_ret;exact⟨by rw[u.out]; rfl,bZ w⟩
 ·have u:Hid (jnb (ens L) i=false):=by
   show _=_
   unfold jnb;rw[m,decide_eq_false q,Bool.false_and]
  generalize hln:L.length=n at *
  have z1:¬ ((i:Int) + 1 < n):=by omega
  have d:w.drew.cell? ⟨g,0,none⟩=some (.slice (some ⟨G,0,none⟩) n C):=cg;clear A hs r t hln;go_enter Tryz.func209,Tryz.ntmps209;go_wp2;refine bU (S:=fun w'=>w'.cell? ⟨g,0,none⟩=some (.slice (some ⟨G,0,none⟩) n C)) (by kernel_rfl) d ?_
  have hS:=d;refine ai 0 (some 5) (.int .i64 i) (by kernel_rfl) (fun _ _=>by kernel_rfl) (fun _ _ _ h=>h) hS ?_
  refine iL 1 (some 6) (.bool (decide ((0:Int)<=(i:Int)))) (.bool true) (by rw[decide_eq_true E]) (by kernel_rfl) (fun _ _=>by kernel_rfl) (fun _ _ _ h=>h) hS ?_
  refine ai 2 (some 7) (.bool true) (by kernel_rfl) (fun _ _=>by kernel_rfl) (fun _ _ _ h=>h) hS ?_
  refine ai 3 (some 8) (.int .i64 i) (by kernel_rfl) (fun _ _=>by kernel_rfl) (fun _ _ _ h=>h) hS ?_
  refine iL 4 (some 9) (.int .i64 (IntKind.i64.wrap ((i:Int) + 1))) (.int .i64 ((i:Int) + 1)) (by rw[z]) (by kernel_rfl) (fun _ _=>by kernel_rfl) (fun _ _ _ h=>h) hS ?_
  refine ai 5 (some 10) (.pointer (some ⟨g,0,none⟩)) (by kernel_rfl) (fun _ _=>by kernel_rfl) (fun _ _ _ h=>h) hS ?_
  refine ai 6 (some 11) (.pointer (some ⟨g,0,none⟩)) (by kernel_rfl) (fun _ _=>by kernel_rfl) (fun _ _ _ h=>h) hS ?_
  refine ai 7 (some 12) (.pointer (some ⟨g,0,none⟩)) (by kernel_rfl) (fun _ _=>by kernel_rfl) (fun _ _ _ h=>h) hS ?_
  refine aP 8 (some 13) (.slice (some ⟨G,0,none⟩) n C) 142 12 (g) (0) (by kernel_rfl) (by kernel_rfl) (by kernel_rfl) (fun w' h=>fS h) (fun _ _ _ h=>h) hS ?_
  refine ai 9 (some 14) (.int .i64 n) (by kernel_rfl) (fun _ _=>by kernel_rfl) (fun _ _ _ h=>h) hS ?_
  refine iL 10 (some 15) (.bool (decide ((i:Int) + 1 < (n:Int)))) (.bool false) (by rw[decide_eq_false (by omega)]) (by kernel_rfl) (fun _ _=>by kernel_rfl) (fun _ _ _ h=>h) hS ?_
  refine ai 11 (some 16) (.bool false) (by kernel_rfl) (fun _ _=>by kernel_rfl) (fun _ _ _ h=>h) hS ?_
  refine ai 12 (some 17) (.bool false) (by kernel_rfl) (fun _ _=>by kernel_rfl) (fun _ _ _ h=>h) hS ?_
  refine cy 13 (some 18) (by kernel_rfl) (fun _ _ _ h=>h) hS ?_
  refine cy 14 (some 19) (by kernel_rfl) (fun _ _ _ h=>h) hS ?_
  refine cy 15 (some 20) (by kernel_rfl) (fun _ _ _ h=>h) hS ?_
  refine cy 16 (some 21) (by kernel_rfl) (fun _ _ _ h=>h) hS ?_
  refine cy 17 (some 22) (by kernel_rfl) (fun _ _ _ h=>h) hS ?_
  refine cy 18 (some 23) (by kernel_rfl) (fun _ _ _ h=>h) hS ?_
  refine cy 19 (some 24) (by kernel_rfl) (fun _ _ _ h=>h) hS ?_
  refine cy 20 (some 25) (by kernel_rfl) (fun _ _ _ h=>h) hS ?_
  refine cy 21 (some 26) (by kernel_rfl) (fun _ _ _ h=>h) hS ?_
  refine cy 22 (some 27) (by kernel_rfl) (fun _ _ _ h=>h) hS ?_
  refine cy 23 (some 28) (by kernel_rfl) (fun _ _ _ h=>h) hS ?_
  refine cy 24 (some 29) (by kernel_rfl) (fun _ _ _ h=>h) hS ?_
  refine cy 25 (some 30) (by kernel_rfl) (fun _ _ _ h=>h) hS ?_
  refine cy 26 (some 31) (by kernel_rfl) (fun _ _ _ h=>h) hS ?_
  refine cy 27 (some 32) (by kernel_rfl) (fun _ _ _ h=>h) hS ?_
  refine cy 28 (some 33) (by kernel_rfl) (fun _ _ _ h=>h) hS ?_
  refine cy 29 (some 34) (by kernel_rfl) (fun _ _ _ h=>h) hS ?_
  refine cy 30 (some 35) (by kernel_rfl) (fun _ _ _ h=>h) hS ?_
  refine cy 31 (some 36) (by kernel_rfl) (fun _ _ _ h=>h) hS ?_
  refine ai 32 (some 37) (.bool false) (by kernel_rfl) (fun _ _=>by kernel_rfl) (fun _ _ _ h=>h) hS ?_
  refine ai 33 (some 4) (.bool false) (by kernel_rfl) (fun _ _=>by kernel_rfl) (fun _ _ _ h=>h) hS ?_
  refine bH (by kernel_rfl) ?_
  simp only[Act.put,List.setIfInBounds_toArray,List.set_cons_zero,List.set_cons_succ];go_wp2;go_ret;exact⟨by rw[u.out]; rfl,bZ w⟩
end
end Pg
end
section
namespace Pg
open Go.RowKit Go.Lib
section
variable {L:List Pg}{i:Nat}{p p2:Pg}{w:World}{F D:Nat->Prop}
theorem ens_jn{q:Pg}(c:L[i]? = some p)(a:L[i + 1]? = some p2)(d:q.es=p.es ++ p2.es):ens ((L.set i q).take (i + 1) ++ (L.set i q).drop (i + 2))=jnQ (ens L) i:=by
 have b:=(List.getElem?_eq_some_iff.1 c).1;unfold jnQ;rw[eN c,eN a,<- d]
 have e1:(L.set i q).take (i + 1)=L.take i ++ [q]:=by
  rw[List.take_add_one,List.take_set_of_le (Nat.le_refl _),List.getElem?_set_self b]; rfl
 rw[e1,List.drop_set_of_lt (by omega)];simp[ens,List.map_take,List.map_drop]
theorem Ag{g:Nat}(A:bL w F D g L)(N:L[i]? = some p)(O:L[i + 1]? = some p2)(hn:L.length<=100000000)(h0:0 < p.es.length)(hs1:p.es.length<=1000)(hs2:p2.es.length<=1000) :
  Calls Tryz.prog 210 #[.pointer (some ⟨g,0,none⟩),.int .i64 i] w fun e w'=>∃ F' L',e=.returned (.tuple #[])/\ens L'=jnQ (ens L) i/\bL w' F' D g L'/\(∀ b,F' b->F b\/w.heap.size<=b)/\Chg F w w':=by
 have hil:=(List.getElem?_eq_some_iff.1 N).1;have hil2:=(List.getElem?_eq_some_iff.1 O).1
 have hL:L≠[]:=fun e=>by subst e; simp at hil
 obtain⟨G,C,hg,hFg,hFG,hR⟩:=A.opn hL;have Z:=A.b8 p (List.mem_of_getElem? N);have s:=A.b8 p2 (List.mem_of_getElem? O);have cg:=hg.cell (i:=0) rfl;have cG:=hR.cell (i:=i) (v:=p.v) (by simp[N]);have o:=hR.cell (i:=i + 1) (v:=p2.v) (by simp[O]);have hCC:=hR.le;simp only[maxLen] at hCC;obtain⟨n,d⟩:∃ n,Hid (L.length=n):=⟨_,rfl⟩
 obtain⟨x,r⟩:∃ m,Hid (p.es.length=m):=⟨_,rfl⟩
 obtain⟨y,P⟩:∃ m,Hid (p2.es.length=m):=⟨_,rfl⟩
 simp only[Pg.v] at cG o;rw[d.out] at cg;rw[r.out] at cG;rw[P.out] at o
 have z1:(i:Int) < n:=by have:=d.out; omega
 have z2:(i:Int) + 1 < n:=by have:=d.out; omega
 have w1:IntKind.i64.wrap ((i:Int) + 1)=(i:Int) + 1:=by rw[IntKind.wrap_i64]; have:=d.out; omega
 have z3:((i:Int) + 1).toNat=i + 1:=by omega
 have z4:(0:Int)<=(i:Int) + 1:=by omega
 have cgd:w.drew.cell? ⟨g,0,none⟩=some (.slice (some ⟨G,0,none⟩) n C):=cg
 have cGd:w.drew.cell? ⟨G,i,none⟩=some (.slice (some ⟨p.b,0,none⟩) x p.c):=cG
 have Q:w.drew.cell? ⟨G,i + 1,none⟩=some (.slice (some ⟨p2.b,0,none⟩) y p2.c):=o
 have H:g≠G:=fun e=>hR.eZ hg e.symm
 obtain⟨I,M⟩:∃ I,Hid (I=w.drew.alloc (.cells #[.slice (some ⟨p.b,0,none⟩) x p.c,.slice (some ⟨p2.b,0,none⟩) y p2.c] 199)):=⟨_,rfl⟩
 have K:Below w.heap.size w I:=by rw[M.out]; exact aj (bZ w) (ae w.drew _)
 have V1:Blk I w.heap.size [.slice (some ⟨p.b,0,none⟩) x p.c,.slice (some ⟨p2.b,0,none⟩) y p2.c] 199:=by rw[M.out]; exact aC w.drew _ _
 have t1:=CJ V1 ((r.out▸Z.1.row).keep K) ((P.out▸s.1.row).keep K) (by have:=r.out; omega) (by have:=r.out; omega) (by have:=P.out; omega) Z.1.one s.1.one
 have E:I.cell? ⟨g,0,none⟩=_:=(K.cell (p:=⟨g,0,none⟩) (aJ cg)).trans cg
 have T:I.cell? ⟨G,i,none⟩=_:=(K.cell (p:=⟨G,i,none⟩) (aJ cG)).trans cG
 have j:I.cell? ⟨G,i + 1,none⟩=_:=(K.cell (p:=⟨G,i + 1,none⟩) (aJ o)).trans o
 have hin:i < n:=by have:=d.out; omega
 have hin2:i + 1 < n:=by have:=d.out; omega
 have hS1:=(show _/\_ from⟨E,j⟩)
 rw[M.out] at hS1 t1;go_enter Tryz.func210,Tryz.ntmps210;go_wp2
 have W:Tryz.prog.underlying 142=some (.slice 199):=by kernel_rfl
 refine oW (X:=Nat × Nat) (fun z=>[(some 4,.pointer (some ⟨g,0,none⟩)),(some 5,.pointer (some ⟨g,0,none⟩)),(some 6,.pointer (some ⟨g,0,none⟩)),(some 7,.slice (some ⟨G,0,none⟩) n C),(some 8,.int .i64 i),(some 9,.pointer (some ⟨g,0,none⟩)),(some 10,.pointer (some ⟨g,0,none⟩)),(some 11,.pointer (some ⟨g,0,none⟩)),(some 12,.slice (some ⟨G,0,none⟩) n C),(some 13,.int .i64 i),(some 14,.pointer (some ⟨G,i,none⟩)),(some 15,.slice (some ⟨p.b,0,none⟩) x p.c),(some 16,.pointer (some ⟨g,0,none⟩)),(some 17,.pointer (some ⟨g,0,none⟩)),(some 18,.pointer (some ⟨g,0,none⟩)),(some 19,.slice (some ⟨G,0,none⟩) n C),(some 20,.int .i64 i),(some 21,.int .i64 ((i:Int) + 1)),(some 22,.pointer (some ⟨G,i + 1,none⟩)),(some 23,.slice (some ⟨p2.b,0,none⟩) y p2.c),(some 24,.slice (some ⟨w.heap.size,0,none⟩) 2 2),(some 25,.slice (some ⟨z.1,0,none⟩) (x + y) z.2),(some 26,.pointer (some ⟨G,i,none⟩))]) (fun z w'=>∃ f,w'=f.setCell ⟨G,i,none⟩ (.slice (some ⟨z.1,0,none⟩) (x + y) z.2)/\I.heap.size<=z.1/\Rw f 196 2 z.1 (x + y) z.2 (flat p.es ++ flat p2.es)/\Below I.heap.size I f) (fun w'=>w'.cell? ⟨g,0,none⟩=some (.slice (some ⟨G,0,none⟩) n C)/\w'.cell? ⟨G,i + 1,none⟩=some (.slice (some ⟨p2.b,0,none⟩) y p2.c)) (by kernel_rfl) ⟨cgd,Q⟩ ?_ ?_
 ·have hS:=(show _/\_ from⟨cgd,Q⟩)
  refine ai 0 (some 4) (.pointer (some ⟨g,0,none⟩)) (by kernel_rfl) (fun _ _=>by kernel_rfl) (fun _ _ _ h=>h) hS ?_
  refine ai 1 (some 5) (.pointer (some ⟨g,0,none⟩)) (by kernel_rfl) (fun _ _=>by kernel_rfl) (fun _ _ _ h=>h) hS ?_
  refine ai 2 (some 6) (.pointer (some ⟨g,0,none⟩)) (by kernel_rfl) (fun _ _=>by kernel_rfl) (fun _ _ _ h=>h) hS ?_
  refine aP 3 (some 7) (.slice (some ⟨G,0,none⟩) n C) 142 6 (g) (0) (by kernel_rfl) (by kernel_rfl) (by kernel_rfl) (fun w' h=>fS h.1) (fun _ _ _ h=>h) hS ?_
  refine ai 4 (some 8) (.int .i64 i) (by kernel_rfl) (fun _ _=>by kernel_rfl) (fun _ _ _ h=>h) hS ?_
  refine ai 5 (some 9) (.pointer (some ⟨g,0,none⟩)) (by kernel_rfl) (fun _ _=>by kernel_rfl) (fun _ _ _ h=>h) hS ?_
  refine ai 6 (some 10) (.pointer (some ⟨g,0,none⟩)) (by kernel_rfl) (fun _ _=>by kernel_rfl) (fun _ _ _ h=>h) hS ?_
  refine ai 7 (some 11) (.pointer (some ⟨g,0,none⟩)) (by kernel_rfl) (fun _ _=>by kernel_rfl) (fun _ _ _ h=>h) hS ?_
  refine aP 8 (some 12) (.slice (some ⟨G,0,none⟩) n C) 142 11 (g) (0) (by kernel_rfl) (by kernel_rfl) (by kernel_rfl) (fun w' h=>fS h.1) (fun _ _ _ h=>h) hS ?_
  refine ai 9 (some 13) (.int .i64 i) (by kernel_rfl) (fun _ _=>by kernel_rfl) (fun _ _ _ h=>h) hS ?_
  refine ai 10 (some 14) (.pointer (some ⟨G,i,none⟩)) (by kernel_rfl) (fun _ _=>ez (x:=12) (y:=13) (n:=n) (c:=C) (by kernel_rfl) W (by kernel_rfl) (by kernel_rfl) (rfl) (hin)) (fun _ _ _ h=>h) hS ?_
  refine ai 12 (some 16) (.pointer (some ⟨g,0,none⟩)) (by kernel_rfl) (fun _ _=>by kernel_rfl) (fun _ _ _ h=>h) hS ?_
  refine ai 13 (some 17) (.pointer (some ⟨g,0,none⟩)) (by kernel_rfl) (fun _ _=>by kernel_rfl) (fun _ _ _ h=>h) hS ?_
  refine ai 14 (some 18) (.pointer (some ⟨g,0,none⟩)) (by kernel_rfl) (fun _ _=>by kernel_rfl) (fun _ _ _ h=>h) hS ?_
  refine aP 15 (some 19) (.slice (some ⟨G,0,none⟩) n C) 142 18 (g) (0) (by kernel_rfl) (by kernel_rfl) (by kernel_rfl) (fun w' h=>fS h.1) (fun _ _ _ h=>h) hS ?_
  refine ai 16 (some 20) (.int .i64 i) (by kernel_rfl) (fun _ _=>by kernel_rfl) (fun _ _ _ h=>h) hS ?_
  refine iL 17 (some 21) (.int .i64 (IntKind.i64.wrap ((i:Int) + 1))) (.int .i64 ((i:Int) + 1)) (by rw[w1]) (by kernel_rfl) (fun _ _=>by kernel_rfl) (fun _ _ _ h=>h) hS ?_
  refine ai 18 (some 22) (.pointer (some ⟨G,i + 1,none⟩)) (by kernel_rfl) (fun _ _=>ez (x:=19) (y:=21) (n:=n) (c:=C) (by kernel_rfl) W (by kernel_rfl) (by kernel_rfl) (show ((i:Int) + 1)=((i + 1:Nat):Int) from by omega) (hin2)) (fun _ _ _ h=>h) hS ?_
  refine aP 19 (some 23) (.slice (some ⟨p2.b,0,none⟩) y p2.c) 199 22 (G) (i + 1) (by kernel_rfl) (by kernel_rfl) (by kernel_rfl) (fun w' h=>pF h.2) (fun _ _ _ h=>h) hS ?_
  refine aL [11] (by kernel_rfl) (by simp) ?_
  refine bI 11 (some 15) (.slice (some ⟨p.b,0,none⟩) x p.c) _ (by kernel_rfl) (iY 14 (by kernel_rfl) (by kernel_rfl) (pF cGd)) hS ?_ aV;refine aL [20] (by kernel_rfl) (by simp) ?_
  refine bI 20 (some 24) (.slice (some ⟨w.heap.size,0,none⟩) 2 2) _ (by kernel_rfl) (Bm (x:=15) (y:=23) (by kernel_rfl) (by kernel_rfl) (by kernel_rfl)) hS1 ?_ aV;refine bN 21 (some 25) 240 #[.slice (some ⟨w.heap.size,0,none⟩) 2 2] (by kernel_rfl) (by kernel_rfl) t1 ?_
  rintro e' f ⟨b2,c2,rfl,l,R2,U⟩;rw[<- M.out] at U l
  have V:f.cell? ⟨g,0,none⟩=_:=(U.cell (p:=⟨g,0,none⟩) (aJ E)).trans E
  have cGi2:f.cell? ⟨G,i,none⟩=_:=(U.cell (p:=⟨G,i,none⟩) (aJ T)).trans T
  have u:f.cell? ⟨G,i + 1,none⟩=_:=(U.cell (p:=⟨G,i + 1,none⟩) (aJ j)).trans j
  have fG2:f.frozen? ⟨G,i,none⟩=false:=((hR.keep K).keep U).free i;refine⟨_,rfl,⟨V,u⟩,?_⟩;replace hS:=(show _/\_ from⟨V,u⟩)
  refine ai 22 (some 26) (.pointer (some ⟨G,i,none⟩)) (by kernel_rfl) (fun _ _=>ez (x:=7) (y:=8) (n:=n) (c:=C) (by kernel_rfl) W (by kernel_rfl) (by kernel_rfl) (rfl) (hin)) (fun _ _ _ h=>h) hS ?_
  refine aL [23] (by kernel_rfl) (by simp) ?_
  refine dq 23 (f.setCell ⟨G,i,none⟩ (.slice (some ⟨b2,0,none⟩) (x + y) c2)) (by kernel_rfl) (kt 26 25 (by kernel_rfl) (by kernel_rfl) (by kernel_rfl) cGi2 fG2) ⟨bR H V,Af (by omega) u⟩ ?_ aV;refine bH (by kernel_rfl) ?_
  exact⟨(b2,c2),by kernel_rfl,f,rfl,l,R2,U⟩
 rintro⟨b2,c2⟩ w' ⟨f,rfl,l,R2,U⟩;dsimp only at l R2;simp only[jc,Act.put,List.setIfInBounds_toArray,List.set_cons_zero,List.set_cons_succ]
 have J:Below w.heap.size w f:=aj K U;obtain⟨q,hq⟩:∃ q:Pg,Hid (q=⟨b2,c2,p.es ++ p2.es⟩):=⟨_,rfl⟩
 have hlen:(p.es ++ p2.es).length=x + y:=by rw[List.length_append,r.out,P.out]
 have hA':PgA f D q:=by
  rw[hq.out];refine⟨?_,fun e he => ?_⟩
  ·show Rw f _ 2 b2 (p.es ++ p2.es).length c2 _
   rw[hlen,ee]; exact R2
  ·rcases List.mem_append.1 he with h | h
   ·exact(Z.1.dL e h).keep J
   ·exact(s.1.dL e h).keep J
 have hv':q.v=.slice (some ⟨b2,0,none⟩) (x + y) c2:=by rw[hq.out]; simp only[Pg.v]; rw[hlen]
 have hqb:q.b=b2:=by rw[hq.out]
 have hqe:q.es=p.es ++ p2.es:=by rw[hq.out]
 obtain⟨Y,C3⟩:=A.put (p':=q) (D':=D) hg hFg hFG hR N (Chg.of J) (.inr (by rw[hqb]; exact Nat.le_trans K.size l)) hA' (fun _ _ h=>h);rw[hv',hqb] at Y;rw[hv'] at C3
 have hF3:∀ b,((F b/\b≠p.b)\/b=b2)->F b\/w.heap.size<=b:=fun b h=>h.imp (fun h=>h.1) (fun h=>by rw[h]; exact Nat.le_trans K.size l)
 have k:=(hg.keep J).off H (i:=i) (.slice (some ⟨b2,0,none⟩) (x + y) c2);generalize (f.setCell ⟨G,i,none⟩ (.slice (some ⟨b2,0,none⟩) (x + y) c2))=W3 at *;generalize hF3d:(fun x=>(F x/\x≠p.b)\/x=b2)=F3 at Y
 have B:∀ b,F3 b->F b\/w.heap.size<=b:=fun b h=>hF3 b (by rw[<- hF3d] at h; exact h)
 obtain⟨G2,D3,hg3,hFg3,R,hR3⟩:=Y.opn (by simp[hL]);obtain⟨rfl,rfl⟩:G2=G/\D3=C:=by
  have:=(hg3.eq k).1;simp at this;exact⟨this.1,this.2⟩
 have cg3:W3.cell? ⟨g,0,none⟩=some (.slice (some ⟨G2,0,none⟩) n D3):=by
  have:=k.cell (i:=0) rfl;rwa [d.out] at this
 have S:=hR3;rw[List.length_set,d.out] at S;have t4:=delP (i:=i + 1) S (by have:=d.out; omega) (tf _);rw[show ((i + 1:Nat):Int)=(i:Int) + 1 by omega,show (i:Int) + 1 + 1=(i:Int) + 2 by omega] at t4
 have w2':IntKind.i64.wrap ((i:Int) + 2)=(i:Int) + 2:=by rw[IntKind.wrap_i64]; have:=d.out; omega
 go_wp2_with (go_at_call 208; refine t4.mono ?_; rintro e' w5 ⟨rfl,R5,C5⟩; have cg5:w5.cell? ⟨g,0,none⟩=_:=(World.cell?_of_block (a:=⟨g,0,none⟩) (C5.same g (aJ cg3) H)).trans cg3; have fg5:w5.frozen? ⟨g,0,none⟩=false:=(k.chg C5 H).free 0);go_end0
 have t:((L.set i q).take (i + 1) ++ (L.set i q).drop (i + 2)).Sublist (L.set i q):=by
  have h:=List.Sublist.append (List.Sublist.refl ((L.set i q).take (i + 1))) (List.drop_sublist 1 ((L.set i q).drop (i + 1)));rw[List.drop_drop,List.take_append_drop] at h;exact h
 obtain⟨A6,C6⟩:=jT (w:=W3) (w1:=w5) (F:=F3) (D:=D) (g:=g) (G:=G2) (G':=G2) (C':=D3) (n:=n - 1) (L':=(L.set i q).take (i + 1) ++ (L.set i q).drop (i + 2))
  (fun p N=>Y.b8 p (t.mem N)) (Y.apart.sublist (t.map _)) Y.kind k hFg3 R (fun e=>H e.symm) C5 (fun p N=>(Y.b8 p (t.mem N)).1.eV hR3)
  (by simp; have:=d.out; omega) (by simpa[List.map_take,List.map_drop] using R5)
 refine⟨_,_,rfl,ens_jn N O hqe,A6,fun b hb => ?_,C3.trans C6 fun b hb h=>(B b h).resolve_right (by omega)⟩;rcases hb with⟨h,_⟩ | rfl
 ·exact B b h
 ·exact B _ R
end
end Pg
end
section
namespace Pg
open Go.RowKit Go.Lib
def rmQ (P:List (List En)) (i q:Nat):List (List En) :=
 let es:=(P.getD i []).take q ++ (P.getD i []).drop (q + 1)
 if es=[] then P.take i ++ P.drop (i + 1)
 else
  let P1:=P.set i es
  if jnb P1 i then jnQ P1 i else if 1<=i/\jnb P1 (i - 1) then jnQ P1 (i - 1) else P1
def gU (P:List (List En)) (k:List Int):List (List En) :=
 if has P k then rmQ P (pgi P k) (plc (kys (P.getD (pgi P k) [])) k) else P
theorem BH (es:List En) (q:Nat):(flat es).take (q * 2) ++ (flat es).drop ((q + 1) * 2)=flat (es.take q ++ es.drop (q + 1)):=by
 rw[iA,il,ee]
theorem sC {w:World} {F D:Nat->Prop} {g i q:Nat} {L:List Pg} {p:Pg} (A:bL w F D g L) (hi:L[i]? = some p) (hq:q < p.es.length) (hs:∀ es∈ens L,es.length<=32) (hf:∀ es∈ens L,es≠[]) (hn:L.length<=100000000) :
  Calls Tryz.prog 171 #[.pointer (some ⟨g,0,none⟩),.int .i64 i,.int .i64 q] w fun e' w'=>∃ F' L',e'=.returned (.tuple #[])/\ens L'=rmQ (ens L) i q/\bL w' F' D g L'/\(∀ b,F' b->F b\/w.heap.size<=b)/\Chg F w w':=by
 have hil:=(List.getElem?_eq_some_iff.1 hi).1
 have hL:L≠[]:=fun e=>by subst e; simp at hil
 obtain⟨G,C,hg,hFg,hFG,hR⟩:=A.opn hL;have T:=A.b8 p (List.mem_of_getElem? hi);have h2:=hs p.es (List.mem_map.2 ⟨p,List.mem_of_getElem? hi,rfl⟩);have cg:=hg.cell (i:=0) rfl;have cG:=hR.cell (i:=i) (v:=p.v) (by simp[hi]);obtain⟨n,u⟩:∃ n,Hid (L.length=n):=⟨_,rfl⟩
 obtain⟨m,R⟩:∃ m,Hid (p.es.length=m):=⟨_,rfl⟩
 simp only[Pg.v] at cG;rw[u.out] at cg;rw[R.out] at cG
 have cgd:w.drew.cell? ⟨g,0,none⟩=some (.slice (some ⟨G,0,none⟩) n C):=cg
 have cGd:w.drew.cell? ⟨G,i,none⟩=some (.slice (some ⟨p.b,0,none⟩) m p.c):=cG
 have H:g≠G:=fun e=>hR.eZ hg e.symm
 have ng:g≠p.b:=fun e=>T.1.eZ hg e.symm
 have nG:G≠p.b:=fun e=>T.1.eV hR e.symm
 have hin:i < n:=by have:=u.out; omega
 have w1:IntKind.i64.wrap ((q:Int) + 1)=(q:Int) + 1:=by rw[IntKind.wrap_i64]; omega
 have t1:=delE (i:=q) T.1.row.drew hq T.1.one;rw[R.out] at t1;go_enter Tryz.func171,Tryz.ntmps171;go_wp2
 have hpp:Tryz.prog.underlying 142=some (.slice 199):=by kernel_rfl
 refine oW (X:=Unit) (fun _=>[(some 6,.pointer (some ⟨g,0,none⟩)),(some 7,.pointer (some ⟨g,0,none⟩)),(some 8,.pointer (some ⟨g,0,none⟩)),(some 9,.slice (some ⟨G,0,none⟩) n C),(some 10,.int .i64 i),(some 11,.pointer (some ⟨g,0,none⟩)),(some 12,.pointer (some ⟨g,0,none⟩)),(some 13,.pointer (some ⟨g,0,none⟩)),(some 14,.slice (some ⟨G,0,none⟩) n C),(some 15,.int .i64 i),(some 16,.pointer (some ⟨G,i,none⟩)),(some 17,.slice (some ⟨p.b,0,none⟩) m p.c),(some 18,.int .i64 q),(some 19,.int .i64 q),(some 20,.int .i64 ((q:Int) + 1)),(some 21,.slice (some ⟨p.b,0,none⟩) (m - 1) p.c),(some 22,.pointer (some ⟨G,i,none⟩))]) (fun _ w'=>∃ t,w'=t.setCell ⟨G,i,none⟩ (.slice (some ⟨p.b,0,none⟩) (m - 1) p.c)/\Rw t 196 2 p.b (m - 1) p.c ((flat p.es).take (q * 2) ++ (flat p.es).drop ((q + 1) * 2))/\Chg (· = p.b) w.drew t) (fun w'=>w'.cell? ⟨g,0,none⟩=some (.slice (some ⟨G,0,none⟩) n C)) (by kernel_rfl) cgd ?_ ?_
 ·have hS:=cgd;refine ai 0 (some 6) (.pointer (some ⟨g,0,none⟩)) (by kernel_rfl) (fun _ _=>by kernel_rfl) (fun _ _ _ h=>h) hS ?_
  refine ai 1 (some 7) (.pointer (some ⟨g,0,none⟩)) (by kernel_rfl) (fun _ _=>by kernel_rfl) (fun _ _ _ h=>h) hS ?_
  refine ai 2 (some 8) (.pointer (some ⟨g,0,none⟩)) (by kernel_rfl) (fun _ _=>by kernel_rfl) (fun _ _ _ h=>h) hS ?_
  refine aP 3 (some 9) (.slice (some ⟨G,0,none⟩) n C) 142 8 (g) (0) (by kernel_rfl) (by kernel_rfl) (by kernel_rfl) (fun w' h=>fS h) (fun _ _ _ h=>h) hS ?_
  refine ai 4 (some 10) (.int .i64 i) (by kernel_rfl) (fun _ _=>by kernel_rfl) (fun _ _ _ h=>h) hS ?_
  refine ai 5 (some 11) (.pointer (some ⟨g,0,none⟩)) (by kernel_rfl) (fun _ _=>by kernel_rfl) (fun _ _ _ h=>h) hS ?_
  refine ai 6 (some 12) (.pointer (some ⟨g,0,none⟩)) (by kernel_rfl) (fun _ _=>by kernel_rfl) (fun _ _ _ h=>h) hS ?_
  refine ai 7 (some 13) (.pointer (some ⟨g,0,none⟩)) (by kernel_rfl) (fun _ _=>by kernel_rfl) (fun _ _ _ h=>h) hS ?_
  refine aP 8 (some 14) (.slice (some ⟨G,0,none⟩) n C) 142 13 (g) (0) (by kernel_rfl) (by kernel_rfl) (by kernel_rfl) (fun w' h=>fS h) (fun _ _ _ h=>h) hS ?_
  refine ai 9 (some 15) (.int .i64 i) (by kernel_rfl) (fun _ _=>by kernel_rfl) (fun _ _ _ h=>h) hS ?_
  refine ai 10 (some 16) (.pointer (some ⟨G,i,none⟩)) (by kernel_rfl) (fun _ _=>ez (x:=14) (y:=15) (n:=n) (c:=C) (by kernel_rfl) hpp (by kernel_rfl) (by kernel_rfl) (rfl) (hin)) (fun _ _ _ h=>h) hS ?_
  refine ai 12 (some 18) (.int .i64 q) (by kernel_rfl) (fun _ _=>by kernel_rfl) (fun _ _ _ h=>h) hS ?_
  refine ai 13 (some 19) (.int .i64 q) (by kernel_rfl) (fun _ _=>by kernel_rfl) (fun _ _ _ h=>h) hS ?_
  refine iL 14 (some 20) (.int .i64 (IntKind.i64.wrap ((q:Int) + 1))) (.int .i64 ((q:Int) + 1)) (by rw[w1]) (by kernel_rfl) (fun _ _=>by kernel_rfl) (fun _ _ _ h=>h) hS ?_
  refine aL [11] (by kernel_rfl) (by simp) ?_
  refine bI 11 (some 17) (.slice (some ⟨p.b,0,none⟩) m p.c) _ (by kernel_rfl) (iY 16 (by kernel_rfl) (by kernel_rfl) (pF cGd)) hS ?_ aV;refine bN 15 (some 21) 207 #[.slice (some ⟨p.b,0,none⟩) m p.c,.int .i64 q,.int .i64 ((q:Int) + 1)] (by kernel_rfl) (by kernel_rfl) t1 ?_
  rintro e' t ⟨rfl,R2,C2⟩
  have J:t.cell? ⟨g,0,none⟩=_:=(World.cell?_of_block (a:=⟨g,0,none⟩) (C2.same g (aJ cgd) ng)).trans cgd
  have cG2:t.cell? ⟨G,i,none⟩=_:=(World.cell?_of_block (a:=⟨G,i,none⟩) (C2.same _ (aJ cGd) nG)).trans cGd
  have fG2:t.frozen? ⟨G,i,none⟩=false:=(hR.drew.chg C2 nG).free i;refine⟨_,rfl,J,?_⟩;replace hS:=J;refine ai 16 (some 22) (.pointer (some ⟨G,i,none⟩)) (by kernel_rfl) (fun _ _=>ez (x:=9) (y:=10) (n:=n) (c:=C) (by kernel_rfl) hpp (by kernel_rfl) (by kernel_rfl) (rfl) (hin)) (fun _ _ _ h=>h) hS ?_
  refine aL [17] (by kernel_rfl) (by simp) ?_
  refine dq 17 (t.setCell ⟨G,i,none⟩ (.slice (some ⟨p.b,0,none⟩) (m - 1) p.c)) (by kernel_rfl) (kt 22 21 (by kernel_rfl) (by kernel_rfl) (by kernel_rfl) cG2 fG2) (bR H J) ?_ aV;refine bH (by kernel_rfl) ?_
  exact⟨(),by kernel_rfl,t,rfl,R2,C2⟩
 rintro - w' ⟨t,rfl,R2,C2⟩;simp only[jc,Act.put,List.setIfInBounds_toArray,List.set_cons_zero,List.set_cons_succ]
 have U:Chg (· = p.b) w t:=(Chg.of (F:=(· = p.b)) (bZ w)).trans C2 (fun _ _ h=>h);obtain⟨p',hp'⟩:∃ p':Pg,Hid (p'=⟨p.b,p.c,p.es.take q ++ p.es.drop (q + 1)⟩):=⟨_,rfl⟩
 have hlen:(p.es.take q ++ p.es.drop (q + 1)).length=m - 1:=by have:=R.out; simp; omega
 have hA':PgA t D p':=by
  rw[hp'.out];refine⟨?_,fun e he => ?_⟩
  ·show Rw t _ 2 p.b (p.es.take q ++ p.es.drop (q + 1)).length p.c _
   rw[hlen]; exact R2.to (BH p.es q)
  ·have he':e∈p.es:=by
    rcases List.mem_append.1 he with h | h
    ·exact List.mem_of_mem_take h
    ·exact List.mem_of_mem_drop h
   refine(T.1.dL e he').off fun b hb hk=>U.same b hb fun f => ?_
   subst f;obtain⟨cs,k⟩:=hk;obtain⟨ds,k'⟩:=T.1.row.kind;exact eD k k' (by decide) rfl
 have hv':p'.v=.slice (some ⟨p.b,0,none⟩) (m - 1) p.c:=by rw[hp'.out]; simp only[Pg.v]; rw[hlen]
 have hb':p'.b=p.b:=by rw[hp'.out]
 have he':p'.es=p.es.take q ++ p.es.drop (q + 1):=by rw[hp'.out]
 obtain⟨z,V⟩:=A.put (p':=p') (D':=D) hg hFg hFG hR hi U (.inl hb') hA' (fun _ _ h=>h);rw[hv',hb'] at z;rw[hv'] at V
 have hF3:∀ b,((F b/\b≠p.b)\/b=p.b)->F b:=fun b h=>h.elim (fun h=>h.1) (fun h=>by rw[h]; exact T.2)
 have J:t.cell? ⟨g,0,none⟩=_:=(World.cell?_of_block (a:=⟨g,0,none⟩) (U.same g (aJ cg) ng)).trans cg
 have cG2:t.cell? ⟨G,i,none⟩=_:=(World.cell?_of_block (a:=⟨G,i,none⟩) (U.same _ (aJ cG) nG)).trans cG
 have cg3:(t.setCell ⟨G,i,none⟩ (.slice (some ⟨p.b,0,none⟩) (m - 1) p.c)).cell? ⟨g,0,none⟩=some (.slice (some ⟨G,0,none⟩) n C):=bR H J
 have Z:(t.setCell ⟨G,i,none⟩ (.slice (some ⟨p.b,0,none⟩) (m - 1) p.c)).cell? ⟨G,i,none⟩=some (.slice (some ⟨p.b,0,none⟩) (m - 1) p.c):=World.cell?_setCell_same' _ _ _ (by rw[cG2]; rfl);have S:=(hg.chg U ng).off H (i:=i) (.slice (some ⟨p.b,0,none⟩) (m - 1) p.c);generalize (t.setCell ⟨G,i,none⟩ (.slice (some ⟨p.b,0,none⟩) (m - 1) p.c))=W3 at *;generalize hF3d:(fun x=>(F x/\x≠p.b)\/x=p.b)=F3 at z
 have d:∀ b,F3 b->F b:=fun b h=>hF3 b (by rw[<- hF3d] at h; exact h)
 have hi3:(L.set i p')[i]? = some p':=by rw[List.getElem?_set_self hil]
 have hE3:ens (L.set i p')=(ens L).set i (p.es.take q ++ p.es.drop (q + 1)):=by rw[pI,he']
 have hs3:∀ es∈ens (L.set i p'),es.length<=32:=fun es he=>by
  rw[hE3] at he;rcases List.mem_or_eq_of_mem_set he with h | h
  ·exact hs es h
  ·rw[h,hlen]; have:=R.out; omega
 have B:(L.set i p').length=n:=by rw[List.length_set]; exact u.out
 have hX:p.es.take q ++ p.es.drop (q + 1)=[]\/p.es.take q ++ p.es.drop (q + 1)≠[]:=Classical.em _
 have l:Hid (rmQ (ens L) i q=if p.es.take q ++ p.es.drop (q + 1)=[] then (ens L).take i ++ (ens L).drop (i + 1) else if jnb (ens (L.set i p')) i then jnQ (ens (L.set i p')) i else if 1<=i/\jnb (ens (L.set i p')) (i - 1) then jnQ (ens (L.set i p')) (i - 1) else ens (L.set i p')):=by
  show _=_
  unfold rmQ;rw[eN hi,hE3]
 rcases hX with hX | hX
 ·have hm1:m=1:=by rw[hX] at hlen; simp at hlen; have:=R.out; omega
  obtain⟨G2,D3,hg3,hFg3,hFG3,hR3⟩:=z.opn (by simp[hL]);obtain⟨rfl,rfl⟩:G2=G/\D3=C:=by
   have:=(hg3.eq S).1;simp at this;exact⟨this.1,this.2⟩
  have hR3':=hR3;rw[B] at hR3';have t4:=delP (i:=i) hR3' (by omega) (tf _)
  have w3:IntKind.i64.wrap ((i:Int) + 1)=(i:Int) + 1:=by rw[IntKind.wrap_i64]; have:=u.out; omega
  have cG3':W3.cell? ⟨G2,i,none⟩=some (.slice (some ⟨p.b,0,none⟩) 0 p.c):=by rw[hm1] at Z; exact Z
  have z1:(i:Int) < n:=by omega
  have N:((L.set i p').take i ++ (L.set i p').drop (i + 1)).Sublist (L.set i p'):=by
   have h:=List.Sublist.append (List.Sublist.refl ((L.set i p').take i)) (List.drop_sublist 1 ((L.set i p').drop i));rw[List.drop_drop,List.take_append_drop] at h;exact h
  have o:Hid (ens ((L.set i p').take i ++ (L.set i p').drop (i + 1))=rmQ (ens L) i q):=by
   show _=_
   rw[l.out,if_pos hX,List.take_set_of_le (Nat.le_refl _),List.drop_set_of_lt (by omega)];simp[ens,List.map_take,List.map_drop]
  have HX:Hid _:=hX;clear hX l Z hm1;go_wp2_with (go_at_call 208; refine t4.mono ?_; rintro e' Y ⟨rfl,R5,C5⟩; have cg5:Y.cell? ⟨g,0,none⟩=_:=(World.cell?_of_block (a:=⟨g,0,none⟩) (C5.same g (aJ cg3) H)).trans cg3; have fg5:Y.frozen? ⟨g,0,none⟩=false:=(S.chg C5 H).free 0);go_end0;obtain⟨A6,C6⟩:=jT (w:=W3) (w1:=Y) (F:=F3) (D:=D) (g:=g) (G:=G2) (G':=G2) (C':=D3) (n:=n - 1) (L':=(L.set i p').take i ++ (L.set i p').drop (i + 1))
   (fun p T=>z.b8 p (N.mem T)) (z.apart.sublist (N.map _)) z.kind S hFg3 hFG3 (fun e=>H e.symm) C5 (fun p T=>(z.b8 p (N.mem T)).1.eV hR3)
   (by simp; have:=u.out; omega) (by simpa[List.map_take,List.map_drop] using R5)
  refine⟨_,_,rfl,o.out,A6,fun b hb => ?_,V.trans C6 fun b _ h=>d b h⟩;rcases hb with⟨h,_⟩ | rfl
  ·exact .inl (d b h)
  ·exact .inl (d _ hFG3)
 ·have hm1:0 < m - 1:=by
   rw[<- hlen]; exact List.length_pos_iff.2 hX
  obtain⟨m1,hm2⟩:∃ m1,Hid (m - 1=m1):=⟨_,rfl⟩
  rw[hm2.out] at Z hm1
  have z0:¬ ((m1:Int)=0):=by omega
  have z1:(i:Int) < n:=by omega
  have w3:IntKind.i64.wrap ((i:Int) - 1)=(i:Int) - 1:=by rw[IntKind.wrap_i64]; omega
  have P:=l.out;rw[if_neg hX] at P
  have l:Hid _:=P;clear P
  have HX:Hid _:=hX;clear hX
  have hf3:∀ es∈ens (L.set i p'),es≠[]:=fun es he=>by
   rw[hE3] at he;rcases List.mem_or_eq_of_mem_set he with h | h
   ·exact hf es h
   ·rw[h]; exact HX.out
  have E:∀ (W:World) (j:Nat),bL W F3 D g (L.set i p')->jnb (ens (L.set i p')) j=true->Calls Tryz.prog 210 #[.pointer (some ⟨g,0,none⟩),.int .i64 j] W fun e' w'=>∃ F' L',e'=.returned (.tuple #[])/\ens L'=jnQ (ens (L.set i p')) j/\bL w' F' D g L'/\(∀ b,F' b->F3 b\/W.heap.size<=b)/\Chg F3 W w':=fun W j AW hj=>by
   unfold jnb at hj;simp only[Bool.and_eq_true,decide_eq_true_eq] at hj
   have hl:j + 1 < (L.set i p').length:=by have:=hj.1; simpa[ens] using this
   obtain⟨a,ha⟩:∃ a,(L.set i p')[j]? = some a:=⟨_,List.getElem?_eq_getElem (by omega)⟩
   obtain⟨c,hc⟩:∃ c,(L.set i p')[j + 1]? = some c:=⟨_,List.getElem?_eq_getElem hl⟩
   have ma:a.es∈ens (L.set i p'):=List.mem_map.2 ⟨a,List.mem_of_getElem? ha,rfl⟩
   have mc:c.es∈ens (L.set i p'):=List.mem_map.2 ⟨c,List.mem_of_getElem? hc,rfl⟩;have s1:=hs3 _ ma;have s2:=hs3 _ mc;exact Ag AW ha hc (by rw[B]; have:=u.out; omega) (List.length_pos_iff.2 (hf3 _ ma)) (by omega) (by omega)
  have I:=yq z (i:=i) (by omega) (by rw[B]; have:=u.out; omega) (fun es he=>by have:=hs3 es he; omega);by_cases Q:jnb (ens (L.set i p')) i=true
  ·have o:Hid (rmQ (ens L) i q=jnQ (ens (L.set i p')) i):=by show _=_; rw[l.out,if_pos Q]
   have t5:∀ W,Below W3.heap.size W3 W->_:=fun W s=>E W i (z.keep s) Q
   rw[Q] at I;clear E Q l;go_wp2_with (first
    | (go_at_call 209; refine I.mono ?_; rintro e' Y ⟨rfl,r⟩; have t6:=t5 Y r; clear t5 I)
    | (go_at_call 210; refine t6.mono ?_; rintro e' w6 ⟨F6,L6,rfl,hE6,A6,hF6,C6⟩))
   go_end0;refine⟨F6,L6,rfl,hE6.trans o.out.symm,A6,fun b hb => ?_,(V.trans (Chg.of (F:=F) r) (fun _ _ h=>h)).trans C6 fun b _ h=>d b h⟩;rcases hF6 b hb with h | h
   ·exact .inl (d b h)
   ·exact .inr (by have:=V.size; have:=r.size; omega)
  ·have O:jnb (ens (L.set i p')) i=false:=by simpa using Q
   by_cases hi0:i=0
   ·have o:Hid (rmQ (ens L) i q=ens (L.set i p')):=by show _=_; rw[l.out,if_neg Q,if_neg (by omega)]
    rw[O] at I
    have tn:∀ W:World,Calls Tryz.prog 209 #[.pointer (some ⟨g,0,none⟩),.int .i64 (-1)] W _:=fun W=>jn_neg
    have mk:True:=trivial;clear E Q l O;subst hi0;go_wp2_with (first
     | (go_at_call 209; clear mk; refine I.mono ?_; rintro e' Y ⟨rfl,r⟩; clear I)
     | (go_at_call 209; refine(tn _).mono ?_; rintro e' w6 ⟨rfl,K⟩))
    go_end0;have s:=aj r K
    first
     | exact⟨F3,_,rfl,o.out.symm,z.keep s,fun b hb=>.inl (d b hb),V.trans (Chg.of (F:=F) s) (fun _ _ h=>h)⟩
     | exact⟨rfl,F3,_,o.out.symm,z.keep s,fun b hb=>.inl (d b hb),V.trans (Chg.of (F:=F) s) (fun _ _ h=>h)⟩
   ·obtain⟨j,rfl⟩:∃ j,i=j + 1:=⟨i - 1,by omega⟩
    have tk:∀ W,Below W3.heap.size W3 W->Calls Tryz.prog 209 #[.pointer (some ⟨g,0,none⟩),.int .i64 j] W _:=fun W s=>yq (z.keep s) (i:=j) (by omega) (by rw[B]; have:=u.out; omega) (fun es he=>by have:=hs3 es he; omega)
    have e1:((j + 1:Nat):Int) - 1=(j:Int):=by omega
    have e2:(j:Int) + 1 - 1=(j:Int):=by omega
    rw[O] at I
    have mk:True:=trivial
    have mk2:True:=trivial;by_cases h3:jnb (ens (L.set (j + 1) p')) j=true
    ·have o:Hid (rmQ (ens L) (j + 1) q=jnQ (ens (L.set (j + 1) p')) j):=by show _=_; rw[l.out,if_neg Q,if_pos ⟨by omega,by simpa using h3⟩]; rfl
     have t5:∀ W,Below W3.heap.size W3 W->_:=fun W s=>E W j (z.keep s) h3
     rw[h3] at tk;clear E Q l O h3;go_wp2_with (first
      | (go_at_call 209; clear mk; refine I.mono ?_; rintro e' Y ⟨rfl,r⟩; have M:=tk Y r; clear I tk)
      | (go_at_call 209; refine M.mono ?_; rintro e' w6 ⟨rfl,K⟩; have s:=aj r K; have t6:=t5 w6 s; clear t5 M)
      | (go_at_call 210; refine t6.mono ?_; rintro e' w7 ⟨F6,L6,rfl,hE6,A6,hF6,C6⟩))
     go_end0;refine⟨F6,L6,rfl,hE6.trans o.out.symm,A6,fun b hb => ?_,(V.trans (Chg.of (F:=F) s) (fun _ _ h=>h)).trans C6 fun b _ h=>d b h⟩;rcases hF6 b hb with h | h
     ·exact .inl (d b h)
     ·exact .inr (by have:=V.size; have:=s.size; omega)
    ·have h3':jnb (ens (L.set (j + 1) p')) j=false:=by simpa using h3
     have o:Hid (rmQ (ens L) (j + 1) q=ens (L.set (j + 1) p')):=by show _=_; rw[l.out,if_neg Q,if_neg (fun h=>h3 (by simpa using h.2))]
     rw[h3'] at tk;clear E Q l O h3 h3';go_wp2_with (first
      | (go_at_call 209; clear mk; refine I.mono ?_; rintro e' Y ⟨rfl,r⟩; have M:=tk Y r; clear I tk)
      | (go_at_call 209; refine M.mono ?_; rintro e' w6 ⟨rfl,K⟩; have s:=aj r K; clear M))
     go_end0
     first
      | exact⟨F3,_,rfl,o.out.symm,z.keep s,fun b hb=>.inl (d b hb),V.trans (Chg.of (F:=F) s) (fun _ _ h=>h)⟩
      | exact⟨rfl,F3,_,o.out.symm,z.keep s,fun b hb=>.inl (d b hb),V.trans (Chg.of (F:=F) s) (fun _ _ h=>h)⟩
end Pg
end
section
namespace Pg
open Go.RowKit Go.Lib
theorem rZ {w:World} {F D:Nat->Prop} {g:Nat} {L:List Pg} {kv:Value} {k:List Int} (A:bL w F D g L) (O:Ord (ens L)) (hs:∀ es∈ens L,es.length<=32) (hn:L.length<=100000000) (h:By w kv k) :
  Calls Tryz.prog 122 #[.pointer (some ⟨g,0,none⟩),kv] w fun e w'=>e=.returned (.bool (has (ens L) k))/\∃ F' L',ens L'=gU (ens L) k/\bL w' F' D g L'/\(∀ b,F' b->F b\/w.heap.size<=b)/\Chg F w w':=by
 by_cases hL:L=[]
 ·subst hL;have t:=mT (v:=kv) A
  have e1:has (ens []) k=false:=rfl
  have e2:Hid (gU (ens []) k=ens []):=rfl;rw[e1];have n:=(show Hid _ from A)
  clear A O hs h;go_enter Tryz.func122,Tryz.ntmps122;go_wp2_with (go_at_call 146; refine t.mono ?_; rintro u s ⟨rfl,rfl⟩);go_ret;exact⟨rfl,F,[],e2.out.symm,n.out,fun b hb=>.inl hb,Chg.refl _ _⟩
 ·obtain⟨p,l,f⟩:=pJ hL k;have r:=List.mem_of_getElem? l;have C:=hs p.es (List.mem_map.2 ⟨p,r,rfl⟩);have t:=kZ A O h (by omega) l (by omega)
  have j:has (ens L) k=thr (kys p.es) k:=by
   unfold has;rw[f];have:(ens L).isEmpty=false:=by simp[ens,hL]
   simp[this]
  rw[j];by_cases d:thr (kys p.es) k=true
  ·obtain⟨e,he,B⟩:=ll d;have m:=(List.getElem?_eq_some_iff.1 he).1
   have o:Hid (gU (ens L) k=rmQ (ens L) (pgi (ens L) k) (plc (kys p.es) k)):=by
    show _=_
    unfold gU;rw[j,d,if_pos rfl,f]
   have y:∀ w',Below w.heap.size w w'->_:=fun w' a=>sC (A.keep a) l m hs O.full hn
   rw[d] at t ⊢;generalize pgi (ens L) k=i at *;generalize plc (kys p.es) k=q at *;clear A O hs h d j;go_enter Tryz.func122,Tryz.ntmps122;go_wp2_with (first
    | (go_at_call 146; refine t.mono ?_; rintro u s ⟨rfl,a⟩; have x:=y s a; clear t y)
    | (go_at_call 171; refine x.mono ?_; rintro u E ⟨F',L',rfl,z,hA,hF,hC⟩))
   go_ret;exact⟨rfl,F',L',z.trans o.out.symm,hA,fun b hb=>(hF b hb).imp id (fun h=>Nat.le_trans a.size h),(Chg.of (F:=F) a).trans hC (fun _ _ h=>h)⟩
  ·have c:thr (kys p.es) k=false:=by simpa using d
   have o:Hid (gU (ens L) k=ens L):=by
    show _=_
    unfold gU;rw[j,c,if_neg (by decide)]
   rw[c] at t ⊢;generalize pgi (ens L) k=i at *;generalize plc (kys p.es) k=q at *;have n:=(show Hid _ from A)
   clear A O hs h d c j;go_enter Tryz.func122,Tryz.ntmps122;go_wp2_with (go_at_call 146; refine t.mono ?_; rintro u s ⟨rfl,a⟩);go_ret;exact⟨rfl,F,L,o.out.symm,n.out.keep a,fun b hb=>.inl hb,Chg.of a⟩
theorem Ct {w:World}:Calls Tryz.prog 43 #[] w fun e w'=>∃ g,e=.returned (.pointer (some ⟨g,0,none⟩))/\g=w.heap.size/\bL w' (· = g) (fun _=>False) g []/\Below w.heap.size w w':=by
 go_enter Tryz.func43,Tryz.ntmps43;go_wp2;go_ret;refine⟨_,rfl,rfl,⟨⟨_,aC w [.slice none 0 0] 144,rfl,.inl ⟨rfl,rfl⟩⟩,fun p a=>by simp at a,by simp,fun b hb => ?_⟩,ae w _⟩;subst hb;exact⟨_,_,aC w [.slice none 0 0] 144,by decide⟩
end Pg
end
section
namespace Pg
open Go.RowKit Go.Lib
end Pg
end
section
namespace Pg
open Go.RowKit Go.Lib
section
variable {B l B' g n:Nat}{W W' w:World}{cs:List Value}{fn:FuncId}{tmps args lb:Array Value}{ps:Array Tmp}{assign body:Code}{I:Nat->World->Prop}{Ix:Code->Nat->World->Prop}{Ar:Nat->Array Value->Nat->World->Prop}{Rd:World->Prop}
structure Rec(B:Nat)(W W':World):Prop where
 os:W'.os=W.os
 tape:W'.tape=W.tape
 output:W'.output=W.output
 size:W.heap.size<=W'.heap.size
 same:∀ (k:Nat) (o:Obj),W.heap[k]? = some o->(k < B\/o.isCells=true)->W'.heap[k]? = some o
def St(B:Nat)(I:World->Prop):Prop:=∀ W W',I W->Rec B W W'->I W'
theorem Rec.of(h:Below W.heap.size W W'):Rec B W W':=⟨h.os,h.tape,h.output,h.size,fun k _ hk _=>(h.block k (lt_of_block hk)).trans hk⟩
theorem Rec.put{o:Obj}(h:W.heap[l]? = some o)(c:o.isCells=false)(f:B<=l)(d:Obj):Rec B W (W.putObj l d) :=
 ⟨rfl,rfl,rfl,by simp,fun k x b hx=>by
  have a:k≠l:=fun e=>by
   subst e;rw[h] at b
   cases b;rcases hx with hx | hx
   ·omega
   ·rw[c] at hx; cases hx
  exact(World.putObj_heap_other a).trans b⟩
theorem Rec.mono(h:Rec B W W')(hB:B'<=B):Rec B' W W':=⟨h.os,h.tape,h.output,h.size,fun k o hk ho=>h.same k o hk (ho.imp (fun h=>by omega) id)⟩
theorem Rec.blk(h:Rec B W W'){t:TypeId}(hb:Blk W g cs t):Blk W' g cs t:=⟨h.same g _ hb.blk (.inr rfl)⟩
theorem vF(hb:Below W.heap.size W W')(b:l < W.heap.size)(o:Obj):Below (W.putObj l o).heap.size (W.putObj l o) (W'.putObj l o):=by
 refine⟨hb.os,hb.tape,hb.output,by simpa using hb.size,fun k a => ?_⟩;simp at a;by_cases e:k=l
 ·subst e;have:=hb.size;rw[World.putObj_heap_same (by omega),World.putObj_heap_same b]
 ·rw[World.putObj_heap_other e,World.putObj_heap_other e]; exact hb.block k a
structure Cel(W W':World):Prop where
 size:W.heap.size<=W'.heap.size
 same:∀ (k:Nat) (o:Obj),W.heap[k]? = some o->o.isCells=true->W'.heap[k]? = some o
theorem Rec.cel(h:Rec B W W'):Cel W W':=⟨h.size,fun k o hk ho=>h.same k o hk (.inr ho)⟩
def Safe(Tp:TypeId->Prop)(o:Obj):Prop:=∀ cs t fz,o=.cells cs t fz->¬ Tp t
theorem wg{Tp:TypeId->Prop}{r:Loop}:Safe Tp (.loop r):=fun _ _ _ e=>by cases e
theorem mZ{Tp:TypeId->Prop}{d:Option (List Deferred)}:Safe Tp (.deferred d):=fun _ _ _ e=>by cases e
structure bj(Tp:TypeId->Prop)(B:Nat)(W W':World):Prop where
 size:W.heap.size<=W'.heap.size
 same:∀ (k:Nat) (o:Obj),B<=k->W.heap[k]? = some o->Safe Tp o->W'.heap[k]? = some o
theorem bj.of{Tp:TypeId->Prop}(h:Below W.heap.size W W'):bj Tp B W W':=⟨h.size,fun k _ _ hk _=>(h.block k (lt_of_block hk)).trans hk⟩
theorem bj.trans{Tp:TypeId->Prop}{W'':World}(h:bj Tp B W W')(h':bj Tp B W' W''):bj Tp B W W'':=⟨Nat.le_trans h.size h'.size,fun k o hB hk ho=>h'.same k o hB (h.same k o hB hk ho) ho⟩
theorem bj.mono{Tp:TypeId->Prop}(h:bj Tp B W W')(hB:B<=B'):bj Tp B' W W':=⟨h.size,fun k o hk h0 ho=>h.same k o (Nat.le_trans hB hk) h0 ho⟩
theorem bj.blk{Tp:TypeId->Prop}(h:bj Tp B W W'){t:TypeId}(hb:Blk W g cs t)(hg:B<=g)(ht:¬ Tp t):Blk W' g cs t:=⟨h.same g _ hg hb.blk (fun _ _ _ e=>by cases e; exact ht)⟩
def Itr(Tp:TypeId->Prop)(gf:Nat)(lb:Array Value)(N:Nat)(Ar:Nat->Array Value->Nat->World->Prop)(Rd:World->Prop):Prop :=
 ∀ (l:Nat) (J Jx:Nat->World->Prop) (W:World),(∀ i,St W.heap.size (J i))->(∀ i,St W.heap.size (Jx i))->(∀ i V,J i V->Rd V) ->
  (∀ i args V V',i < N->J i V->W.heap.size<=V.heap.size->Below V.heap.size V V'->Ar i args V.heap.size V'->YieldAt Fence.wide 0 Tryz.prog l args V' fun e V''=>bj Tp W.heap.size V' V''/\((e=.returned (.bool true)/\J (i + 1) V'')\/(e=.returned (.bool false)/\Jx (i + 1) V''))) ->
  J 0 W ->
  Calls Tryz.prog gf (#[.func (.yield l) #[] #[]] ++ lb) W fun e W'=>(∃ v,e=.returned v)/\W.heap.size<=W'.heap.size/\(J N W'\/∃ i,i < N/\Jx (i + 1) W')
def oB(Tp:TypeId->Prop)(B:Nat)(I:Nat->World->Prop)(Ix:Code->Nat->World->Prop)(i:Nat)(W:World):Exit->Act->World->Prop
 | .normal,_,W'=>bj Tp B W W'/\I i W'
 | .ret,_,W'=>bj Tp B W W'/\Ix .ret i W'
 | .exit id,_,W'=>bj Tp B W W'/\Ix (.exit id) i W'
 | .goto t,_,W'=>bj Tp B W W'/\Ix (.goto t) i W'
 | .panic _,_,_=>False
 | .outgrown,_,_=>False
def de(fn:FuncId)(tmps:Array Value)(ps:Array Tmp)(assign body:Code)(dd:Nat)(st:LoopState)(pe:Option Code):Loop:={ state:=st,pending:=pe,fn,tmps,params:=ps,assign,body,defers:=dd }
structure fW(Tp:TypeId->Prop)(B l:Nat)(W W':World):Prop where
 size:W.heap.size<=W'.heap.size
 same:∀ (k:Nat) (o:Obj),B<=k->k≠l->W.heap[k]? = some o->Safe Tp o->W'.heap[k]? = some o
theorem fW.from{Tp:TypeId->Prop}{B1:Nat}(h:fW Tp B l W W')(hB:B<=B1)(hl:l < B1):bj Tp B1 W W':=⟨h.size,fun k o hk h0 ho=>h.same k o (by omega) (by omega) h0 ho⟩
theorem iX{Tp:TypeId->Prop}{i:Nat}{g:Nat}{V:World}(C:∀ i args n V W,Ar i args n V->Cel V W->Ar i args n W)(T:∀ i,St B (I i))(J:∀ c i,St B (Ix c i))(s:B<=l)(hL:V.heap[l]? = some (.loop (de fn tmps ps assign body g .ready none)))(hi:I i V)(hb:Below V.heap.size V W)(Y:Ar i args V.heap.size W)(R:args.size=ps.size)(z:assign.wpIn (Fence.wide.inRound l) n Tryz.prog (Exit.then (fun a1 W1=>Below W.heap.size W W1/\∀ V2 W2,I i V2->Below V2.heap.size V2 W2->Ar i args V2.heap.size W2->(∀ b,b≠l->W2.heap[b]? = W1.heap[b]?)->W2.heap.size=W1.heap.size->V2.heap.size=V.heap.size->(∃ r,W2.heap[l]? = some (.loop r))->body.wpIn (Fence.wide.inRound l) n Tryz.prog (oB Tp B I Ix (i + 1) W2) a1 W2) (fun _ _ _=>False)) { tmps:=(ps.zip args).foldl (fun t (p,v)=>t.setIfInBounds p v) tmps,defers:=[] } W) :
  YieldAt Fence.wide 0 Tryz.prog l args W fun e W'=>fW Tp B l W W'/\((e=.returned (.bool true)/\I (i + 1) W'/\W'.heap[l]? = some (.loop (de fn tmps ps assign body g .ready none)))\/(e=.returned (.bool false)/\∃ c,Ix c (i + 1) W'/\W'.heap[l]? = some (.loop (de fn tmps ps assign body g .done (some c))))):=by
 have M:l < V.heap.size:=lt_of_block hL
 have E:W.heap[l]? = some (.loop (de fn tmps ps assign body g .ready none)):=(hb.block l M).trans hL;have hy:=run_yield (P:=Tryz.prog) (args:=args) E R
 have w:assign.wpIn (Fence.wide.inRound l) n Tryz.prog (Exit.then (fun a₁ Z=>∃ w₂,(Instr.beginRound l).run Tryz.prog Z=.ok () w₂/\body.wpIn (Fence.wide.inRound l) n Tryz.prog (roundPost Tryz.prog l fun e W'=>fW Tp B l W W'/\((e=.returned (.bool true)/\I (i + 1) W'/\W'.heap[l]? = some (.loop (de fn tmps ps assign body g .ready none)))\/(e=.returned (.bool false)/\∃ c,Ix c (i + 1) W'/\W'.heap[l]? = some (.loop (de fn tmps ps assign body g .done (some c)))))) a₁ w₂) (fun _ _ _=>False)) { tmps:=(ps.zip args).foldl (fun t (p,v)=>t.setIfInBounds p v) tmps,defers:=[] } W:=by
  refine wpIn_mono z ?_
  intro e a1 W1 h
  cases e with
  | normal =>
   obtain⟨x,D⟩:=h
   have H:W1.heap[l]? = some (.loop (de fn tmps ps assign body g .ready none)):=(x.block l (lt_of_block E)).trans E
   have A:l < W1.heap.size:=lt_of_block H;refine⟨_,run_beginRound H rfl,?_⟩
   have O:Below V.heap.size V W1:=aj hb x;have X:=D (V.putObj l (.loop { de fn tmps ps assign body g .ready none with state:=.busy })) (W1.putObj l (.loop { de fn tmps ps assign body g .ready none with state:=.busy }))
    (T i _ _ hi (Rec.put hL rfl s _)) (vF O M _) (by simpa using C i args _ _ _ (C i args _ _ _ Y (Rec.of (B:=0) x).cel) (Rec.put H rfl (Nat.zero_le _) _).cel)
    (fun b hb=>World.putObj_heap_other hb) (by simp) (by simp) ⟨_,World.putObj_heap_same A⟩
   have Q:(W1.putObj l (.loop { de fn tmps ps assign body g .ready none with state:=.busy })).heap[l]? = some (.loop { de fn tmps ps assign body g .ready none with state:=.busy }):=World.putObj_heap_same A;generalize hW2:W1.putObj l (.loop { de fn tmps ps assign body g .ready none with state:=.busy })=W2 at *
   have L:fW Tp B l W W2:=by
    rw[<- hW2];refine⟨by simpa using x.size,fun k _ S y N _ => ?_⟩;rw[World.putObj_heap_other y];exact(x.block k (lt_of_block N)).trans N
   have fin:∀ (jump:Option Code) (u:World),bj Tp B W2 u ->
     (Instr.endRound l jump).run Tryz.prog u=.ok (.bool jump.isNone) (u.putObj l (.loop (de fn tmps ps assign body g (if jump.isNone then .ready else .done) jump)))/\u.heap[l]? = some (.loop { de fn tmps ps assign body g .ready none with state:=.busy }) /\
     (u.putObj l (.loop (de fn tmps ps assign body g (if jump.isNone then .ready else .done) jump))).heap[l]? = some (.loop (de fn tmps ps assign body g (if jump.isNone then .ready else .done) jump)) /\
     fW Tp B l W (u.putObj l (.loop (de fn tmps ps assign body g (if jump.isNone then .ready else .done) jump))):=fun jump u d=>by
    have a:=d.same _ _ s Q wg;refine⟨run_endRound (P:=Tryz.prog) jump a,a,World.putObj_heap_same (lt_of_block a),⟨by simpa using Nat.le_trans L.size d.size,fun k o S y N U => ?_⟩⟩;rw[World.putObj_heap_other y];exact d.same k o S (L.same k o S y N U) U
   refine wpIn_mono X ?_
   intro e a3 u K
   cases e with
   | normal =>
    obtain⟨d,j⟩:=K;obtain⟨G,a,m,q⟩:=fin none u d;exact⟨_,_,G,q,.inl ⟨rfl,T _ _ _ j (Rec.put a rfl s _),m⟩⟩
   | ret =>
    obtain⟨d,j⟩:=K;obtain⟨G,a,m,q⟩:=fin (some .ret) u d;exact⟨_,_,G,q,.inr ⟨rfl,.ret,J _ _ _ _ j (Rec.put a rfl s _),m⟩⟩
   | exit id =>
    obtain⟨d,j⟩:=K;obtain⟨G,a,m,q⟩:=fin (some (.exit id)) u d;exact⟨_,_,G,q,.inr ⟨rfl,.exit id,J _ _ _ _ j (Rec.put a rfl s _),m⟩⟩
   | goto t =>
    obtain⟨d,j⟩:=K;obtain⟨G,a,m,q⟩:=fin (some (.goto t)) u d;exact⟨_,_,G,q,.inr ⟨rfl,.goto t,J _ _ _ _ j (Rec.put a rfl s _),m⟩⟩
   | panic ch=>exact K.elim
   | outgrown=>exact K.elim
  | ret=>exact h.elim
  | exit id=>exact h.elim
  | goto t=>exact h.elim
  | panic ch=>exact h.elim
  | outgrown=>exact h.elim
 exact⟨fn,_,assign,body,hy,by
  have:=roundIn_of_wpIn (F:=Fence.wide) (n:=n) (P:=Tryz.prog) (f:=fn) trivial w;exact⟨this.1,fun c cs _=>this.2 c cs (fun _ h=>by cases h)⟩⟩
def RoundW(Tp:TypeId->Prop)(w:World)(N n:Nat)(ps:Array Tmp)(assign body:Code)(tmps:Array Value)(Ar:Nat->Array Value->Nat->World->Prop)(I:Nat->World->Prop)(Ix:Code->Nat->World->Prop):Prop :=
 ∀ (l i:Nat) (args:Array Value) (V W:World),w.heap.size<=l->l < V.heap.size->(∃ r,V.heap[l]? = some (.loop r))->i < N->I i V->Below V.heap.size V W->Ar i args V.heap.size W ->
  assign.wpIn (Fence.wide.inRound l) n Tryz.prog (Exit.then (fun a1 W1=>Below W.heap.size W W1/\∀ V2 W2,I i V2->Below V2.heap.size V2 W2->Ar i args V2.heap.size W2->(∀ b,b≠l->W2.heap[b]? = W1.heap[b]?)->W2.heap.size=W1.heap.size->V2.heap.size=V.heap.size->(∃ r,W2.heap[l]? = some (.loop r))->body.wpIn (Fence.wide.inRound l) n Tryz.prog (oB Tp w.heap.size I Ix (i + 1) W2) a1 W2) (fun _ _ _=>False)) { tmps:=(ps.zip args).foldl (fun t (p,v)=>t.setIfInBounds p v) tmps,defers:=[] } W
theorem gR{Tp:TypeId->Prop}{q N:Nat}(U:Itr Tp q lb N Ar Rd){g:Operand}{Q:Exit->Act->World->Prop}{a:Act}(O:a.eval g=.func (.func q) #[] lb)(M:∀ args w,(callFunc q args).run Tryz.prog w=.ok (.enter q args) w)(t:∀ i args n V W,Ar i args n V->Cel V W->Ar i args n W)(J:∀ i args n V,Ar i args n V->args.size=ps.size)(I:Nat->World->Prop)(Ix:Code->Nat->World->Prop)(x:∀ i,St w.heap.size (I i))(m:∀ c i,St w.heap.size (Ix c i))(y:∀ i V,I i V->Rd V)(S:I 0 w)(f:RoundW Tp w N n ps assign body a.tmps Ar I Ix)(o:∀ D W,w.heap.size<=D->W.heap[D]? = some (.deferred (some []))->I N W->Q .normal { a with defers:={ target:=.collected D,args:=#[] } :: a.defers } W)(p:∀ D c i W,w.heap.size<=D->W.heap[D]? = some (.deferred (some []))->i < N->Ix c (i + 1) W->c.wpIn Fence.wide n Tryz.prog Q { a with defers:={ target:=.collected D,args:=#[] } :: a.defers } W) :
  (Code.rangeFunc g ps assign body).wpIn Fence.wide n Tryz.prog Q a w:=by
 refine wpIn_rangeFunc ?_
 intro fn _;obtain⟨d,b⟩:∃ d,(w.alloc (.deferred (some []))).alloc (.loop (de fn a.tmps ps assign body w.heap.size .ready none))=d:=⟨_,rfl⟩
 have H:Below w.heap.size w d:=by rw[<- b]; exact aj (ae w _) (ae _ _)
 have T:d.heap.size=w.heap.size + 1 + 1:=by rw[<- b]; simp
 have F:d.heap[w.heap.size + 1]? = some (.loop (de fn a.tmps ps assign body w.heap.size .ready none)):=by
  rw[<- b]; have:=World.alloc_heap_new (w.alloc (.deferred (some []))) (.loop (de fn a.tmps ps assign body w.heap.size .ready none)); rwa [World.size_alloc] at this
 have A:d.heap[w.heap.size]? = some (.deferred (some [])):=by
  rw[<- b]; exact(Below.heap_alloc _ _ _ (by simp)).trans (World.alloc_heap_new w _)
 refine⟨w.heap.size + 1,[{ target:=.collected w.heap.size,args:=#[] }],d,{ target:=.fn (.func q) lb,args:=#[.func (.yield (w.heap.size + 1)) #[] #[]] },d,q,
  #[.func (.yield (w.heap.size + 1)) #[] #[]] ++ lb,d,?_,?_,?_,?_,fun h=>(by cases h),?_⟩
 ·rw[<- b]; exact run_enterLoop_outer _ _ _ _ _
 ·simp only[resolve,O];simp[go_sem]
 ·intro f' _; trivial
 ·simp[invoke,go_sem,M]
 ·refine callsIn_wide.2 ?_
  refine(U (w.heap.size + 1)
   (fun i W=>I i W/\W.heap[w.heap.size + 1]? = some (.loop (de fn a.tmps ps assign body w.heap.size .ready none))/\W.heap[w.heap.size]? = some (.deferred (some [])))
   (fun i W=>∃ c,Ix c i W/\W.heap[w.heap.size + 1]? = some (.loop (de fn a.tmps ps assign body w.heap.size .done (some c)))/\W.heap[w.heap.size]? = some (.deferred (some [])))
   d (fun i X Y hx l=>⟨x i X Y hx.1 (l.mono (by omega)),l.same _ _ hx.2.1 (.inl (by omega)),l.same _ _ hx.2.2 (.inl (by omega))⟩)
   (fun i X Y hx l=>by obtain⟨c,z,C,G⟩:=hx; exact⟨c,m c i X Y z (l.mono (by omega)),l.same _ _ C (.inl (by omega)),l.same _ _ G (.inl (by omega))⟩)
   (fun i V hv=>y i V hv.1) ?_ ⟨x 0 _ _ S (Rec.of H),F,A⟩).mono ?_
  ·rintro i args V R k ⟨hi,j,r⟩ E hb K;refine(iX (B:=w.heap.size) t x m (by omega) j hi hb K (J _ _ _ _ K) (f _ i args V R (by omega) (lt_of_block j) ⟨_,j⟩ k hi hb K)).mono ?_
   rintro e L ⟨s,h⟩;have u:=s.same _ _ (Nat.le_refl _) (by omega) ((hb.block _ (lt_of_block r)).trans r) mZ;refine⟨s.from (by omega) (by omega),h.imp (fun h=>⟨h.1,h.2.1,h.2.2,u⟩) (fun h => ?_)⟩;obtain⟨z,c,C,G⟩:=h;exact⟨z,c,C,G,u⟩
  ·rintro e Z ⟨⟨v,rfl⟩,E,⟨hi,j,r⟩ | ⟨i,k,c,hi,j,r⟩⟩
   ·exact⟨none,_,run_endLoop (P:=Tryz.prog) j (by simp[de]),o _ _ (Nat.le_refl _) ((World.putObj_heap_other (by omega)).trans r) (x _ _ _ hi (Rec.put j rfl (by omega) _))⟩
   ·exact⟨some c,_,run_endLoop (P:=Tryz.prog) j (by simp[de]),p _ c i _ (Nat.le_refl _) ((World.putObj_heap_other (by omega)).trans r) k (m c _ _ _ hi (Rec.put j rfl (by omega) _))⟩
end
end Pg
end
section
namespace Pg
open Go.RowKit Go.Lib
section
variable {a b:Nat}{w:World}{v fv tv:Value}{t f:List Int}{D:Nat->Prop}{P:List (List En)}{F:Nat → Prop}{L:List Pg}
def cut{α:Type}(l:List α)(a b:Nat):List α:=(l.drop a).take (max a b - a)
theorem uE{α:Type}{l:List α}{j:Nat}{x:α}(h:(cut l a b)[j]? = some x):l[a + j]? = some x:=by
 unfold cut at h;rw[List.getElem?_take] at h;split at h
 ·rw[List.getElem?_drop] at h; exact h
 ·cases h
theorem u7{α:Type}{l:List α}(ha:a<=l.length)(hb:b<=l.length):(cut l a b).length=max a b - a:=by
 unfold cut;rw[List.length_take,List.length_drop]; omega
def eK(P:List (List En))(t:List Int):Nat:=if t=[] then P.length else min (pgi P t + 1) P.length
def sr(es:List En)(t:List Int):Nat:=if t=[] then es.length else plc (kys es) t
def wth(es:List En)(f t:List Int):List En:=cut es (plc (kys es) f) (sr es t)
def wlk(P:List (List En))(f t:List Int):List En:=(cut P (pgi P f) (eK P t)).flatMap fun es=>wth es f t
theorem ml(h:By w v t):Calls Tryz.prog 173 #[v] w fun e w'=>e=.returned (.bool (decide (t≠[])))/\w'=w:=by
 obtain⟨i,c,rfl,g,j,k,m,d⟩:=h.ex
 have f:(decide (t≠[]))=decide ((0:Int) < (t.length:Int)):=by
  cases t with
  | nil=>rfl
  | cons a l=>simp
 rw[f];clear h d
 have b:decide ((0:Int) < (t.length:Int))=decide (0 < t.length):=by congr 1; exact propext ⟨fun h=>by omega,fun h=>by omega⟩
 rw[b];go_enter Tryz.func173,Tryz.ntmps173;go_wp2;go_ret;exact⟨rfl,rfl⟩
structure SpA(w:World)(F:Nat->Prop)(v:Value)(Q:List Pg):Prop where
 ex:∃ ao c,v=.slice ao Q.length c/\Q.length<=c/\c<=9223372036854775807/\∀ j p,Q[j]? = some p->∃ b o,ao=some ⟨b,o,none⟩/\F b/\w.cell? ⟨b,o + j,none⟩=some p.v
structure ESl(w:World)(q:Nat)(v:Value)(es:List En):Prop where
 ex:∃ ao c,v=.slice ao es.length c/\es.length<=c/\c<=9223372036854775807/\∀ j e,es[j]? = some e->∃ o,ao=some ⟨q,o,none⟩/\w.cell? ⟨q,o + j * 2,none⟩=some e.kv/\w.cell? ⟨q,o + j * 2 + 1,none⟩=some e.vv
theorem tX{p:Pg}(A:PgA w D p)(S:Srt (kys p.es))(hf:By w fv f)(L:By w tv t)(hn:p.es.length<=1000000) :
  Calls Tryz.prog 126 #[p.v,fv,tv] w fun e w'=>∃ v,e=.returned v/\ESl w' p.b v (wth p.es f t)/\Below w.heap.size w w':=by
 have t1:=gI A S hf hn
 have q:∀ w',Below w.heap.size w w'->Calls Tryz.prog 173 #[tv] w' _:=fun w' h=>ml (L.keep h)
 have t2:∀ w',Below w.heap.size w w'->Calls Tryz.prog 174 #[p.v,tv] w' _:=fun w' h=>gI (A.keep h) S (L.keep h) hn
 have d:=A.row;have i:=d.le;simp only[maxLen] at i;have O:=i.1;have P:=i.2;have u:=oV (kys p.es) f;have F:=oV (kys p.es) t
 have r:(kys p.es).length=p.es.length:=by simp[kys]
 rw[r] at u F
 have g:∀ (B:Option Addr) (k c y:Nat) (w':World),sr p.es t=y->y<=p.es.length->Below w.heap.size w w'->k=max (plc (kys p.es) f) y - plc (kys p.es) f->k<=c->c<=9223372036854775807->(k=0\/B=some ⟨p.b,plc (kys p.es) f * 2,none⟩)->ESl w' p.b (.slice B k c) (wth p.es f t):=fun B k c y w' he hy h M K hc J=>by
  have H:(wth p.es f t).length=k:=by
   unfold wth; rw[he,u7 u hy,M]
  refine⟨B,c,by rw[H],by rw[H]; exact K,hc,fun j e N => ?_⟩;have G:=(List.getElem?_eq_some_iff.1 N).1;rw[H] at G
  have s:=uE (show (cut p.es (plc (kys p.es) f) (sr p.es t))[j]? = some e from N);have M:=(d.keep h).cell (pV s);have hv:=(d.keep h).cell (jY s);refine⟨plc (kys p.es) f * 2,J.resolve_left (by omega),?_,?_⟩
  ·rw[<- Nat.add_mul]; exact M
  ·rw[<- Nat.add_mul]; exact hv
 have g:Hid _:=g
 have l:Hid (sr p.es t=if t=[] then p.es.length else plc (kys p.es) t):=rfl;generalize hx:plc (kys p.es) f=x at *
 have W:Hid _:=hx;generalize hy:plc (kys p.es) t=y at *
 have V:Hid _:=hy;generalize thr (kys p.es) f=bx at *;generalize thr (kys p.es) t=R at *
 simp only[Pg.v] at t1 t2 ⊢;generalize hm:p.es.length=m at *
 have T:Hid _:=hm
 have z0:(0:Int)<=(x:Int):=by omega
 have z1:(x:Int)<=(m:Int):=by omega
 clear A S hf L d i r hx hy hm;by_cases o:t=[]
 ·have z:decide (t≠[])=false:=by simp[o]
  rw[z] at q
  have he:Hid (sr p.es t=m):=by show _=_; rw[l.out,if_pos o]
  clear o z t2 l;go_enter Tryz.func126,Tryz.ntmps126;go_wp2_with (first
   | (go_at_call 174; refine t1.mono ?_; rintro E C ⟨rfl,a⟩; have n:=q C a; clear t1 q)
   | (go_at_call 173; refine n.mono ?_; rintro E Q ⟨rfl,rfl⟩))
  all_goals (
   go_ret;exact⟨_,rfl,g.out _ _ _ m _ he.out (Nat.le_refl _) a (by omega) (by omega) (by omega) (by first | exact .inr rfl | exact .inl (by omega) | exact .inl rfl),a⟩)
 ·have z:decide (t≠[])=true:=by simp[o]
  rw[z] at q
  have he:Hid (sr p.es t=y):=by show _=_; rw[l.out,if_neg o]
  have mk:True:=trivial;clear o z l;go_enter Tryz.func126,Tryz.ntmps126;go_wp2_with (first
   | (go_at_call 174; clear mk; refine t1.mono ?_; rintro E C ⟨rfl,a⟩; have n:=q C a; have t21:=t2 C a; clear t1 q t2)
   | (go_at_call 173; refine n.mono ?_; rintro E Q ⟨rfl,rfl⟩)
   | (go_at_call 174; refine t21.mono ?_; rintro E U ⟨rfl,I⟩; have h:=aj a I))
  all_goals (
   go_ret;exact⟨_,rfl,g.out _ _ _ y _ he.out (by omega) h (by omega) (by omega) (by omega) (by first | exact .inr rfl | exact .inl (by omega) | exact .inl rfl),h⟩)
theorem zW(k:List Int):pgi P k<=P.length:=by
 have h1:=o5 (fks P) k;simp only[fks,List.length_map] at h1;unfold pgi fks;omega
theorem yK{D:Nat → Prop}{g:Nat}(A : bL w F D g L)(O : Ord (ens L))(hf : By w fv f)(ht : By w tv t)(hn : L.length ≤ 100000000) :
    Calls Tryz.prog 125 #[.pointer (some ⟨g, 0, none⟩), fv, tv] w fun e w' => ∃ v, e = .returned v ∧ SpA w' F v (cut L (pgi (ens L) f) (eK (ens L) t)) ∧ Below w.heap.size w w' := by
  have t1 := iQ A.drew O hf.drew (by omega)
  have B : ∀ w', Below w.heap.size w w' → Calls Tryz.prog 173 #[tv] w' _ := fun w' s => ml (ht.keep s)
  have t2 : ∀ w', Below w.heap.size w w' → Calls Tryz.prog 172 #[.pointer (some ⟨g, 0, none⟩), tv] w' _ := fun w' s => iQ (A.keep s) O (ht.keep s) (by omega)
  obtain⟨Q, c, hc, Z, hc2, N⟩:= A.rd
  have K : (ens L).length = L.length := by simp[ens]
  have T : pgi (ens L) f ≤ L.length := by rw[← K]; exact zW f
  have hl2 : pgi (ens L) t ≤ L.length := by rw[← K]; exact zW t
  have S : ∀ G, Q = some ⟨G, 0, none⟩ → F G := fun G e => by
    obtain⟨pv, hb, hg, ⟨rfl, rfl⟩ | ⟨G', C, rfl, hG, hR⟩⟩:= A.top
    · have := hb.cell (i := 0) rfl
      rw[hc] at this
      cases this
      cases e
    · have := hb.cell (i := 0) rfl
      rw[hc] at this
      cases this
      cases e;exact hG
  have l : ∀ (V : Option Addr) (k d y : Nat) (w' : World), eK (ens L) t = y → y ≤ L.length → Below w.heap.size w w' → k = max (pgi (ens L) f) y - pgi (ens L) f → k ≤ d → d ≤ 9223372036854775807 → (k = 0 ∨ ∀ b o, Q = some ⟨b, o, none⟩ → V = some ⟨b, o + pgi (ens L) f, none⟩) → SpA w' F (.slice V k d) (cut L (pgi (ens L) f) (eK (ens L) t)) := fun V k d y w' he hy s hk Y P X => by
    have hl : (cut L (pgi (ens L) f) (eK (ens L) t)).length = k := by rw[he, u7 T hy, hk]
    refine⟨V, d, by rw[hl], by rw[hl]; exact Y, P, fun j p hj => ?_⟩;have hjk := (List.getElem?_eq_some_iff.1 hj).1;rw[hl] at hjk
    have hj' := uE hj;obtain⟨G, rfl, cG⟩:= N _ p hj';exact⟨G, 0 + pgi (ens L) f, (X.resolve_left (by omega)) G 0 rfl, S G rfl, by
      rw[Nat.zero_add, s.cell (p := ⟨G, pgi (ens L) f + j, none⟩) (aJ cG)]; exact cG⟩
  have l : Hid _ := l
  have z : Hid (eK (ens L) t = if t = [] then L.length else min (pgi (ens L) t + 1) L.length) := by show _ = _; unfold eK; rw[K]
  have H := aJ hc
  have N : Hid _ := N
  have U : Hid (Q = none ∨ ∃ G, Q = some ⟨G, 0, none⟩) := by
    obtain⟨pv, hb, hg, ⟨rfl, rfl⟩ | ⟨G, C, rfl, hG, hR⟩⟩:= A.top
    · have := hb.cell (i := 0) rfl
      rw[hc] at this
      cases this;exact .inl rfl
    · have := hb.cell (i := 0) rfl
      rw[hc] at this
      cases this;exact .inr ⟨G, rfl⟩
  have J : Q = none → c = 0 := by
    intro e;obtain⟨pv, hb, hg, ⟨rfl, rfl⟩ | ⟨G, C, rfl, hG, hR⟩⟩:= A.top
    · have := hb.cell (i := 0) rfl
      rw[hc] at this
      cases this;rfl
    · have := hb.cell (i := 0) rfl
      rw[hc] at this
      cases this
      cases e
  generalize hx : pgi (ens L) f = x at *
  have HX : Hid _ := hx;generalize hy : pgi (ens L) t = y at *
  have HY : Hid _ := hy;obtain⟨n, hnn⟩ : ∃ n, Hid (L.length = n) := ⟨_, rfl⟩;rw[hnn.out] at hc Z T hl2 hn l z
  have E : w.drew.cell? ⟨g, 0, none⟩ = some (.slice Q n c) := hc
  have z0 : (0 : Int) ≤ (x : Int) := by omega
  have z1 : (x : Int) ≤ (n : Int) := by omega
  have zw : IntKind.i64.wrap ((y : Int) + 1) = (y : Int) + 1 := by rw[IntKind.wrap_i64]; omega
  have I := bZ w;have HN := U.out;clear A O hf ht hx hy K S;by_cases R : t = []
  · have P : decide (t ≠ []) = false := by simp[R]
    rw[P] at B
    have he : Hid (eK (ens L) t = n) := by show _ = _; rw[z.out, if_pos R]
    clear R P t2 z;rcases HN with rfl | ⟨G, rfl⟩
    · obtain rfl : c = 0 := J rfl
      obtain rfl : n = 0 := by omega
      obtain rfl : x = 0 := by omega
      go_enter Tryz.func125, Tryz.ntmps125;go_wp2;go_region_held3 (fun w' => w'.cell? ⟨g, 0, none⟩ = some (.slice none 0 0)) (assumption)
        (first
          | (go_at_call 172; refine t1.mono ?_; rintro M r ⟨rfl, h⟩; have m : r.cell? ⟨g, 0, none⟩ = _ := (h.cell (p := ⟨g, 0, none⟩) H).trans E; have a := aj I h))
      have q := B r a;clear t1 B;go_wp2_with (go_at_call 173; refine q.mono ?_; rintro M w2 ⟨rfl, rfl⟩)
      all_goals (
        go_ret;exact⟨_, rfl, l.out _ _ _ 0 _ he.out (by omega) a (by omega) (by omega) (by omega) (by first | exact .inl (by omega) | exact .inr (fun b o e => by cases e; simp)), a⟩)
    · clear J
      go_enter Tryz.func125, Tryz.ntmps125;go_wp2;go_region_held3 (fun w' => w'.cell? ⟨g, 0, none⟩ = some (.slice (some ⟨G, 0, none⟩) n c)) (assumption)
        (first
          | (go_at_call 172; refine t1.mono ?_; rintro M r ⟨rfl, h⟩; have m : r.cell? ⟨g, 0, none⟩ = _ := (h.cell (p := ⟨g, 0, none⟩) H).trans E; have a := aj I h))
      have q := B r a;clear t1 B;go_wp2_with (go_at_call 173; refine q.mono ?_; rintro M w2 ⟨rfl, rfl⟩)
      all_goals (
        go_ret;exact⟨_, rfl, l.out _ _ _ n _ he.out (by omega) a (by omega) (by omega) (by omega) (by first | exact .inl (by omega) | exact .inr (fun b o e => by cases e; simp)), a⟩)
  · have P : decide (t ≠ []) = true := by simp[R]
    rw[P] at B
    have he : Hid (eK (ens L) t = min (y + 1) n) := by show _ = _; rw[z.out, if_neg R]
    clear R P z;rcases HN with rfl | ⟨G, rfl⟩
    · obtain rfl : c = 0 := J rfl
      obtain rfl : n = 0 := by omega
      obtain rfl : x = 0 := by omega
      go_enter Tryz.func125, Tryz.ntmps125;go_wp2;go_region_held3 (fun w' => w'.cell? ⟨g, 0, none⟩ = some (.slice none 0 0)) (assumption)
        (first
          | (go_at_call 172; refine t1.mono ?_; rintro M r ⟨rfl, h⟩; have m : r.cell? ⟨g, 0, none⟩ = _ := (h.cell (p := ⟨g, 0, none⟩) H).trans E; have a := aj I h))
      have q := B r a;have t21 := t2 r a;clear t1 B t2;go_wp2_with (first
        | (go_at_call 173; refine q.mono ?_; rintro M w2 ⟨rfl, rfl⟩)
        | (go_at_call 172; refine t21.mono ?_; rintro M w3 ⟨rfl, u⟩; have W : w3.cell? ⟨g, 0, none⟩ = _ := (u.cell (p := ⟨g, 0, none⟩) (aJ m)).trans m; have s := aj a u))
      all_goals (
        go_ret;exact⟨_, rfl, l.out _ _ _ (min (y + 1) 0) _ he.out (by omega) s (by omega) (by omega) (by omega) (by first | exact .inl (by omega) | exact .inr (fun b o e => by cases e; simp)), s⟩)
    · clear J
      go_enter Tryz.func125, Tryz.ntmps125;go_wp2;go_region_held3 (fun w' => w'.cell? ⟨g, 0, none⟩ = some (.slice (some ⟨G, 0, none⟩) n c)) (assumption)
        (first
          | (go_at_call 172; refine t1.mono ?_; rintro M r ⟨rfl, h⟩; have m : r.cell? ⟨g, 0, none⟩ = _ := (h.cell (p := ⟨g, 0, none⟩) H).trans E; have a := aj I h))
      have q := B r a;have t21 := t2 r a;clear t1 B t2;go_wp2_with (first
        | (go_at_call 173; refine q.mono ?_; rintro M w2 ⟨rfl, rfl⟩)
        | (go_at_call 172; refine t21.mono ?_; rintro M w3 ⟨rfl, u⟩; have W : w3.cell? ⟨g, 0, none⟩ = _ := (u.cell (p := ⟨g, 0, none⟩) (aJ m)).trans m; have s := aj a u))
      all_goals (
        go_ret;exact⟨_, rfl, l.out _ _ _ (min (y + 1) n) _ he.out (by omega) s (by omega) (by omega) (by omega) (by first | exact .inl (by omega) | exact .inr (fun b o e => by cases e; simp)), s⟩)
end
end Pg
end
end Go.Proofs.YthfepflplbahkaaGreatDoor
