import Derived.Test.YtpoifdokmjhclaaGreatJya
import Derived.Test.YtpoifdokmjhclaaGreatJyc
import Derived.Lib.BytesEntry
import Derived.RangeFuncNested
import Derived.RangeFuncBound
set_option maxRecDepth 100000
set_option maxHeartbeats 8000000
namespace Go.Proofs.YtpoifdokmjhclaaGreat
section
namespace Pg
open Go.RowKit Go.Lib
section
variable {w w':World}{k b n c m:Nat}{xs ys:List Value}{F:Nat->Prop}{v:Value}
structure Rw(w:World)(E:TypeId)(k b n c:Nat)(xs:List Value):Prop where
 ex:∃ sp,Blk w b (xs ++ sp) E/\xs.length=n * k/\(xs ++ sp).length=c * k/\n<=c/\c<=maxLen
theorem Rw.lt{E:TypeId}(h:Rw w E k b n c xs):b < w.heap.size:=by
 obtain⟨sp,h,_⟩:=h.ex;exact h.lt
theorem Rw.same{E:TypeId}(h:Rw w E k b n c xs)(hb:w'.heap[b]?=w.heap[b]?):Rw w' E k b n c xs:=by
 obtain⟨sp,h,h'⟩:=h.ex;exact⟨sp,h.same hb,h'⟩
theorem Rw.keep{E:TypeId}(h:Rw w E k b n c xs)(hb:BW w w'):Rw w' E k b n c xs:=h.same (hb.block b h.lt)
theorem Rw.chg{E:TypeId}(h:Rw w E k b n c xs)(hb:Chg F w w')(hg:¬ F b):Rw w' E k b n c xs:=h.same (hb.same b h.lt hg)
theorem Rw.drew{E:TypeId}(h:Rw w E k b n c xs):Rw w.drew E k b n c xs:=h.same rfl
theorem Rw.len{E:TypeId}(h:Rw w E k b n c xs):xs.length=n * k:=by
 obtain⟨sp,h,h',_⟩:=h.ex;exact h'
theorem Rw.le{E:TypeId}(h:Rw w E k b n c xs):n<=c/\c<=maxLen:=by
 obtain⟨sp,h,_,_,h'⟩:=h.ex;exact h'
theorem Rw.cell{E:TypeId}(h:Rw w E k b n c xs){i:Nat}(hi:xs[i]?=some v):w.cell? ⟨b,i,none⟩=some v:=by
 obtain⟨sp,h,_⟩:=h.ex;exact h.cell (by rw[List.getElem?_append_left (List.getElem?_eq_some_iff.1 hi).1];exact hi)
theorem Rw.free{E:TypeId}(h:Rw w E k b n c xs)(i:Nat):w.frozen? ⟨b,i,none⟩=false:=by
 obtain⟨sp,h,_⟩:=h.ex;exact h.free i
theorem Rw.kind{E:TypeId}(h:Rw w E k b n c xs):∃ cs,Blk w b cs E:=by
 obtain⟨sp,h,_⟩:=h.ex;exact⟨_,h⟩
theorem Rw.set{E:TypeId}(h:Rw w E k b n c xs)(i:Nat)(hi:i < xs.length)(v:Value):Rw (w.setCell ⟨b,i,none⟩ v) E k b n c (xs.set i v):=by
 obtain⟨sp,h,e,a,d⟩:=h.ex;refine⟨sp,?_,by simpa using e,by simpa using a,d⟩;have:=h.setCell (i:=i) v;rwa [List.set_append_left _ _ hi] at this
theorem vw{E:TypeId}(h:Blk w b xs E)(hx:xs.length=n * k)(hn:n<=maxLen:=by decide):Rw w E k b n n xs:=⟨[],by simpa using h,hx,by simpa using hx,Nat.le_refl _,hn⟩
theorem Rw.front{E:TypeId}(h:Rw w E k b n c xs)(hm:m<=n):Rw w E k b m c (xs.take (m * k)):=by
 obtain⟨sp,h,f,a,e,d⟩:=h.ex
 have hk:m * k<=n * k:=Nat.mul_le_mul_right _ hm;refine⟨xs.drop (m * k) ++ sp,by rw[<- List.append_assoc,List.take_append_drop];exact h,by rw[List.length_take];omega,by rw[<- List.append_assoc,List.take_append_drop];exact a,by omega,d⟩
theorem Rw.more{E:TypeId}(h:Rw w E k b n c xs)(hm:n+m<=c):∃ s,s.length=m * k/\Rw w E k b (n+m) c (xs ++ s):=by
 obtain⟨sp,h,f,a,e,d⟩:=h.ex
 have g:n * k+m * k<=c * k:=by rw[<- Nat.add_mul];exact Nat.mul_le_mul_right _ hm
 rw[List.length_append] at a;refine⟨sp.take (m * k),by rw[List.length_take];omega,sp.drop (m * k),?_,?_,?_,hm,d⟩
 ·rw[List.append_assoc,List.take_append_drop];exact h
 ·rw[List.length_append,List.length_take,Nat.add_mul];omega
 rw[List.append_assoc,List.take_append_drop,List.length_append];exact a
theorem Rw.to{E:TypeId}(h:Rw w E k b n c xs)(e:xs=ys):Rw w E k b n c ys:=e▸h
end
section
variable {P:Program} {w:World} {T E:TypeId} {k bytes:Nat} {z:Value}
section
variable {b n c g:Nat}{xs:List Value}
structure Kd(P:Program)(T E:TypeId)(k bytes:Nat)(z:Value):Prop where
 und:P.underlying T=some (.slice E)
 inf:(P.info? E).map (λi=>(i.zero,i.size,i.bytes))=some (some z,k,bytes)
 zs:z.cells.size=k
 z1:∀ v∈z.cells,v.oneCell'=true
 k0:0 < k
theorem Kd.size(h:Kd P T E k bytes z):(P.info? E).map (·.size)=some k:=by
 obtain⟨i,hi,hz,hs,hb⟩:=info_parts h.inf;rw[hi];simp[hs]
theorem Kd.sizeOf(h:Kd P T E k bytes z)(w:World):(Go.sizeOf E).run P w=.ok k w:=by
 obtain⟨i,hi,hz,hs,hb⟩:=info_parts h.inf;simp[Go.sizeOf,typeInfo,hi,hs]
theorem Kd.zero(h:Kd P T E k bytes z)(w:World):(zeroValue E).run P w=.ok z w:=by
 obtain⟨i,hi,hz,hs,hb⟩:=info_parts h.inf;simp[zeroValue,typeInfo,hi,hz]
theorem l7(w:World)(E:TypeId)(zc:Array Value)(k n c:Nat)(xs:List Value)(a:zc.size=k)(hx:xs.length=n * k)(hn:n<=c)(hc:c<=maxLen) :
  Rw (w.drew.alloc (.cells (xs.toArray ++ Builtin.zeroCells zc (c - n)) E)) E k w.heap.size n c xs :=
 ⟨(Builtin.zeroCells zc (c - n)).toList,⟨by
  have:=(ay w.drew (xs ++ (Builtin.zeroCells zc (c - n)).toList) E).blk;rw[show (xs ++ (Builtin.zeroCells zc (c - n)).toList).toArray=xs.toArray ++ Builtin.zeroCells zc (c - n) by apply Array.ext';simp] at this ⊢
  exact this⟩,hx,by
  rw[List.length_append,hx,Array.length_toList,size_zeroCells,a,<- Nat.add_mul];congr 1;omega,hn,hc⟩
theorem dW(H:Kd P T E k bytes z)(ty:TypeId)(R:Rw w E k b n c xs)(a:Addr)(m cc:Nat)(news:List Value)(l:news.length=m * k)(f:∀ j u,news[j]?=some u→w.cell? (a.add j)=some u)(h1:∀ u ∈ news,u.oneCell'=true)(hbig:(n+m) * bytes≤140737488355328:=by omega)(hm:n+m≤140737488355328:=by omega) :
    ∃ b' c' w',(Builtin.append_ #[T,T] ty #[.slice (some ⟨b,0,none⟩) n c,.slice (some a) m cc]).run P w=.ok (.slice (some ⟨b',0,none⟩) (n+m) c') w'∧(b'=b∨b'=w.heap.size)∧Rw w' E k b' (n+m) c' (xs ++ news)∧Chg (·=b) w w':=by
  obtain⟨i,hi,s,x,hb⟩:= info_parts H.inf;obtain⟨sp,r,hx,hc,t,o⟩:= R.ex;subst x hb
  have p:n+m≤maxLen:=by simp only[maxLen];omega
  by_cases d:n+m≤c
  · have h:n * i.size+news.length≤(xs ++ sp).toArray.size:=by
      rw[List.size_toArray,hc,l,← Nat.add_mul];exact Nat.mul_le_mul_right _ d
    have q:=run_append_room (P:=P) w T ty E i H.und hi b n c (xs ++ sp).toArray r.blk a m cc news l f h1 d h;refine⟨b,c,_,q,.inl rfl,⟨sp.drop news.length,?_,by rw[List.length_append,hx,l,Nat.add_mul],?_,d,o⟩,(Chg.refl (·=b) w).row (g:=b) (.inl rfl) _⟩
    · have:=r.row (xs ++ news ++ sp.drop news.length)
      have e:(xs ++ sp).toArray.toList.take (n * i.size) ++ news ++ (xs ++ sp).toArray.toList.drop (n * i.size+news.length)=xs ++ news ++ sp.drop news.length:=by
        rw[show (xs ++ sp).toArray.toList=xs ++ sp from rfl,← hx,List.take_left,← List.drop_drop,List.drop_left]
      rw[e];exact this
    · have y : xs.length + sp.length = c * i.size := by rw[← List.length_append]; exact hc
      have A:n * i.size+m * i.size≤c * i.size:=by rw[← Nat.add_mul];exact Nat.mul_le_mul_right _ d
      rw[List.length_append,List.length_append,List.length_drop];omega
  · have holds : ∀ j u, xs[j]? = some u → w.cell? ((⟨b, 0, none⟩ : Addr).add j) = some u := λj u v => by rw[Addr.add_lit, Nat.zero_add]; exact R.cell v
    have q:=run_append_grow (P:=P) w T ty E i z H.und hi s ⟨b,0,none⟩ n c xs hx holds a m cc news l f (by omega) (by omega) (growslice_fits (by omega) hbig);refine⟨w.heap.size,_,_,q,.inr rfl,?_,(Chg.refl _ w).drew.alloc _⟩;have:=l7 w E z.cells i.size (n+m) (grownCap w (n+m) c E) (xs ++ news) H.zs (by rw[List.length_append,hx,l,Nat.add_mul]) (grownCap_ge w _ _ _) (grownCap_le_maxLen w _ _ _ p);simpa using this
theorem gN(H:Kd P T E k bytes z)(ty:TypeId)(a:Addr)(m cc:Nat)(news:List Value)(d:news.length=m * k)(c:∀ j u,news[j]?=some u→w.cell? (a.add j)=some u)(h0:0 < m:=by decide)(hbig:m * bytes≤140737488355328:=by decide)(hm:m≤140737488355328:=by decide) :
    ∃ c' w',(Builtin.append_ #[T,T] ty #[.slice none 0 0,.slice (some a) m cc]).run P w=.ok (.slice (some ⟨w.heap.size,0,none⟩) m c') w'∧Rw w' E k w.heap.size m c' news∧BW w w':=by
  obtain⟨i,hi,e,g,hb⟩:= info_parts H.inf;subst g hb;have f:=run_append_nil (P:=P) w T ty E i z H.und hi e a m cc news d c h0 (by omega) (by omega);refine⟨_,_,f,?_,?_⟩
  · exact l7 w E z.cells i.size m (grownCap w m 0 E) news H.zs d (grownCap_ge w _ _ _) (grownCap_le_maxLen w _ _ _ (by simp only[maxLen];omega))
  · exact(Below.refl _ w).trans ⟨rfl, rfl, rfl, by simp, λb hb => by
      have:=(aa w.drew (.cells (news.toArray ++ Builtin.zeroCells z.cells (grownCap w m 0 E - m)) E)).block b hb
      exact this⟩
theorem oY(H:Kd P T E k bytes z)(tn ty:TypeId)(hn:P.underlying tn=some (.int .i64))(R:Rw w E k b n c xs)(m:Nat)(h0:0 < m:=by omega)(hc:c < n+m:=by omega)(hbig:(n+m) * bytes≤140737488355328:=by omega)(hm:n+m≤140737488355328:=by omega) :
    ∃ c' w',(Builtin.append_ #[T,tn] ty #[.slice (some ⟨b,0,none⟩) n c,.int .i64 m]).run P w=.ok (.slice (some ⟨w.heap.size,0,none⟩) (n+m) c') w'∧Rw w' E k w.heap.size (n+m) c' (xs ++ (Builtin.zeroCells z.cells m).toList)∧BW w w':=by
  obtain⟨i,hi,a,g,hb⟩:= info_parts H.inf;have hx:=R.len;subst g hb
  have hold:(Builtin.firstCells i.size n (.slice (some ⟨b,0,none⟩) n c)).run P w.drew=.ok xs.toArray w.drew :=
    run_firstCells_some w.drew i.size n ⟨b,0,none⟩ n c xs hx (λj v d=>by rw[Addr.add_lit,Nat.zero_add];exact R.cell d)
  have e:m * i.bytes≤(n+m) * i.bytes:=Nat.mul_le_mul_right _ (by omega);have f:=run_append_grow_zeros w T tn ty E i z .i64 .i64 H.und hn hi a (some ⟨b,0,none⟩) n c xs hold m h0 H.k0 hc (by omega) (by omega) (growslice_fits hc hbig);refine⟨_,_,f,?_,?_⟩
  · have:=l7 w E z.cells i.size (n+m) (grownCap w (n+m) c E) (xs ++ (Builtin.zeroCells z.cells m).toList) H.zs (by rw[List.length_append,hx,Array.length_toList,size_zeroCells,H.zs,Nat.add_mul]) (grownCap_ge w _ _ _) (grownCap_le_maxLen w _ _ _ (by simp only[maxLen];omega))
    rw[show (xs ++ (Builtin.zeroCells z.cells m).toList).toArray=xs.toArray ++ Builtin.zeroCells z.cells m by apply Array.ext';simp] at this;exact this
  · exact⟨rfl,rfl,rfl,by simp,λb hb=>(aa w.drew (.cells (xs.toArray ++ Builtin.zeroCells z.cells m ++ Builtin.zeroCells z.cells (grownCap w (n+m) c E - (n+m))) E)).block b hb⟩
theorem oJ(H:Kd P T E k bytes z)(tn ty:TypeId)(hn:P.underlying tn=some (.int .i64))(m:Nat)(h0:0 < m)(hbig:m * bytes<=140737488355328)(hm:m<=140737488355328) :
  ∃ c' w',(Builtin.append_ #[T,tn] ty #[.slice none 0 0,.int .i64 m]).run P w=.ok (.slice (some ⟨w.heap.size,0,none⟩) m c') w'/\Rw w' E k w.heap.size m c' (Builtin.zeroCells z.cells m).toList/\BW w w':=by
 obtain⟨i,hi,a,d,hb⟩:=info_parts H.inf;subst d hb;have c:=run_append_nil_zeros w T tn ty E i z .i64 .i64 H.und hn hi a m h0 H.k0 (by omega) (by omega);refine⟨_,_,c,?_,?_⟩
 ·have:=l7 w E z.cells i.size m (grownCap w m 0 E) (Builtin.zeroCells z.cells m).toList H.zs (by rw[Array.length_toList,size_zeroCells,H.zs]) (grownCap_ge w _ _ _) (grownCap_le_maxLen w _ _ _ (by simp only[maxLen];omega));simpa using this
 exact⟨rfl,rfl,rfl,by simp,λb hb=>(aa w.drew (.cells (Builtin.zeroCells z.cells m ++ Builtin.zeroCells z.cells (grownCap w m 0 E - m)) E)).block b hb⟩
theorem eW(H:Kd P T E k bytes z)(ty:TypeId)(R:Rw w E k g n c xs)(o dLen dCap:Nat)(a:Addr)(sLen sCap:Nat)(cs:List Value)(m:Nat)(hm:Nat.min sLen dLen=m)(hn:cs.length=m * k)(d:∀ j v,cs[j]?=some v->w.cell? (a.add j)=some v)(b:o+cs.length<=xs.length)(h1:∀ v∈cs,v.oneCell'=true) :
  ∃ w',(Builtin.copy_ #[T,T] ty #[.slice (some ⟨g,o,none⟩) dLen dCap,.slice (some a) sLen sCap]).run P w=.ok (goInt m) w'/\Rw w' E k g n c (splice xs o cs)/\Chg (·=g) w w':=by
 obtain⟨sp,l,hx,hc,h,f⟩:=R.ex;have p:=yI (P:=P) w T T ty E k g o dLen dCap a sLen sCap (xs ++ sp) cs E H.und H.size l m hm hn d (by rw[List.length_append];omega) h1
 have e:splice (xs ++ sp) o cs=splice xs o cs ++ sp:=by
  rw[eJ,eJ,List.take_append_of_le_length (by omega),List.drop_append_of_le_length (by omega),List.append_assoc,List.append_assoc,List.append_assoc]
 have i:=length_splice xs o cs b;refine⟨_,p,⟨sp,by rw[e];exact l.row _,by rw[i];exact hx,by rw[List.length_append,i,<- List.length_append];exact hc,h,f⟩,(Chg.refl (·=g) w).row (g:=g) (.inl rfl) _⟩
theorem gw(H:Kd P T E k bytes z)(ty:TypeId)(R:Rw w E k b n c xs)(a:Addr)(m cc:Nat)(news:List Value)(o:news.length=m * k)(f:∀ j u,news[j]?=some u->w.cell? (a.add j)=some u)(h1:∀ u∈news,u.oneCell'=true)(d:n+m<=c) :
  ∃ w',(Builtin.append_ #[T,T] ty #[.slice (some ⟨b,0,none⟩) n c,.slice (some a) m cc]).run P w=.ok (.slice (some ⟨b,0,none⟩) (n+m) c) w'/\Rw w' E k b (n+m) c (xs ++ news)/\Chg (·=b) w w':=by
 obtain⟨i,hi,v,s,hb⟩:=info_parts H.inf;obtain⟨sp,p,hx,hc,q,l⟩:=R.ex;subst s hb
 have h:n * i.size+news.length<=(xs ++ sp).toArray.size:=by
  rw[List.size_toArray,hc,o,<- Nat.add_mul];exact Nat.mul_le_mul_right _ d
 have r:=run_append_room (P:=P) w T ty E i H.und hi b n c (xs ++ sp).toArray p.blk a m cc news o f h1 d h;refine⟨_,r,⟨sp.drop news.length,?_,by rw[List.length_append,hx,o,Nat.add_mul],?_,d,l⟩,(Chg.refl (·=b) w).row (g:=b) (.inl rfl) _⟩
 ·have:=p.row (xs ++ news ++ sp.drop news.length)
  have e:(xs ++ sp).toArray.toList.take (n * i.size) ++ news ++ (xs ++ sp).toArray.toList.drop (n * i.size+news.length)=xs ++ news ++ sp.drop news.length:=by
   rw[show (xs ++ sp).toArray.toList=xs ++ sp from rfl,<- hx,List.take_left,<- List.drop_drop,List.drop_left]
  rw[e];exact this
 have t:xs.length + sp.length=c * i.size:=by rw[<- List.length_append]; exact hc
 have x:n * i.size+m * i.size<=c * i.size:=by rw[<- Nat.add_mul];exact Nat.mul_le_mul_right _ d
 rw[List.length_append,List.length_append,List.length_drop];omega
theorem fA(H:Kd P T E k bytes z)(ty:TypeId)(R:Rw w E k g n c xs)(m cc:Nat)(hm:0 < m:=by omega)(a:n+m≤c:=by omega) :
    ∃ w',(Builtin.clear_ #[T] ty #[.slice (some ⟨g,n * k,none⟩) m cc]).run P w=.ok (.tuple #[]) w'∧Rw w' E k g n c xs∧Chg (·=g) w w':=by
  obtain⟨sp,f,hx,hc,d,b⟩:= R.ex
  have j:n * k+m * k≤c * k:=by rw[← Nat.add_mul];exact Nat.mul_le_mul_right _ a
  have i:=uF (P:=P) w T ty E z k g (n * k) m cc (xs ++ sp) E H.und H.zero H.zs H.z1 f hm H.k0 (by omega)
  have e:splice (xs ++ sp) (n * k) (Builtin.zeroCells z.cells m).toList=xs ++ ((Builtin.zeroCells z.cells m).toList ++ sp.drop (Builtin.zeroCells z.cells m).toList.length):=by
    rw[eJ,← hx,List.take_left,← List.drop_drop,List.drop_left,List.append_assoc]
  have h:((Builtin.zeroCells z.cells m).toList).length=m * k:=by rw[Array.length_toList,size_zeroCells,H.zs]
  refine⟨_,i,⟨_,by rw[e];exact f.row _,hx,?_,d,b⟩,(Chg.refl (·=g) w).row (g:=g) (.inl rfl) _⟩;rw[List.length_append] at hc ⊢;rw[List.length_append,List.length_drop,h];omega
end
end
theorem KE:Kd Tryz.prog 198 197 2 48 (.agg #[.slice none 0 0,.slice none 0 0]):=⟨by kernel_rfl,by kernel_rfl,rfl,by simp[Value.cells,Value.oneCell'],by decide⟩
theorem KP:Kd Tryz.prog 199 198 1 24 (.slice none 0 0):=⟨by kernel_rfl,by kernel_rfl,rfl,by simp[Value.cells,Value.oneCell'],by decide⟩
theorem ly:Tryz.prog.underlying 3=some (.int .i64):=by kernel_rfl
theorem mixed:Tryz.prog.follows .mixedOrders=true:=by kernel_rfl
section
variable {w:World} {b n c i vb:Nat} {xs:List Value} {e1 e2:Value}
theorem A8 (R:Rw w 197 2 b n c xs) (m:Blk w vb [e1,e2] 197) (hn:n<=1000000000) (g:∀ v∈[e1,e2],v.oneCell'=true) :
  Calls Tryz.prog 207 #[.slice (some ⟨b,0,none⟩) n c,.int .i64 n,.slice (some ⟨vb,0,none⟩) 1 1] w λe w'=>∃ b' c',e=.returned (.slice (some ⟨b',0,none⟩) (n+1) c')/\(b'=b\/w.heap.size<=b')/\Rw w' 197 2 b' (n+1) c' (xs ++ [e1,e2])/\Chg (·=b) w w':=by
 obtain⟨b',c',W,p,f,r,o⟩:=dW KE 198 R ⟨vb,0,none⟩ 1 1 [e1,e2] rfl (λj u q=>by rw[Addr.add_lit,Nat.zero_add];exact m.cell q) g;have d:=R.le;simp only[maxLen] at d;have l:=d.1;have i:=d.2;clear d R m g;go_enter Tryz.func207,Tryz.ntmps207;go_wp2_with (at_builtin;refine Lib.wpList_append_run _ rfl _ _ _ _ rfl _ _ rfl rfl _ _ p ?_)
 all_goals (
  go_ret
  exact⟨b',c',rfl,f.imp id (λe=>by omega),r,o⟩)
theorem zx (b:Blk w vb [e1,e2] 197) :
  Calls Tryz.prog 207 #[.slice none 0 0,.int .i64 0,.slice (some ⟨vb,0,none⟩) 1 1] w λe w'=>∃ c',e=.returned (.slice (some ⟨w.heap.size,0,none⟩) 1 c')/\Rw w' 197 2 w.heap.size 1 c' [e1,e2]/\BW w w':=by
 obtain⟨c',W,d,g,c⟩:=gN (w:=w) KE 198 ⟨vb,0,none⟩ 1 1 [e1,e2] rfl (λj u f=>by rw[Addr.add_lit,Nat.zero_add];exact b.cell f);clear b;go_enter Tryz.func207,Tryz.ntmps207;go_wp2_with (at_builtin;refine Lib.wpList_append_run _ rfl _ _ _ _ rfl _ _ rfl rfl _ _ d ?_);go_ret;exact⟨c',rfl,g,c⟩
theorem uj (R:Rw w 197 2 b n c xs) (p:Blk w vb [e1,e2] 197) (r:vb≠b) (hi:i < n) (g:n+1≤c) (h1:∀ v ∈ xs,v.oneCell'=true) (D:∀ v ∈ [e1,e2],v.oneCell'=true) :
    Calls Tryz.prog 207 #[.slice (some ⟨b,0,none⟩) n c,.int .i64 i,.slice (some ⟨vb,0,none⟩) 1 1] w λe w'=>e=.returned (.slice (some ⟨b,0,none⟩) (n+1) c)∧Rw w' 197 2 b (n+1) c (xs.take (i * 2) ++ [e1,e2] ++ xs.drop (i * 2))∧Chg (·=b) w w':=by
  have hx:=R.len;have d:=R.le;simp only[maxLen] at d;have I:=d.1;have F:=d.2
  have o:∃ cs,Blk w b cs 197∧cs.length=c * 2:=by
    obtain⟨sp,h,_,K,_⟩:= R.ex;exact⟨_,h,K⟩
  have y : ∀ (x z : Nat), (callFunc 252 #[.slice (some ⟨vb, 0, none⟩) 1 1, .slice (some ⟨b, (i + 1) * 2, none⟩) x z]).run Tryz.prog w = .ok (.value (.bool false)) w := λx z => by
    obtain⟨cs,h,N⟩:= o
    rw[run_callFunc_extern Tryz.func252 (by kernel_rfl) (by kernel_rfl) (by kernel_rfl) (e := Extern.SlicesOverlaps.overlaps #[198, 198] #[4]) (by kernel_rfl),
      Lib.run_overlaps_apart w 198 4 197 KE.und 2 KE.sizeOf ⟨vb,0,none⟩ ⟨b,(i+1) * 2,none⟩ 1 1 x z r 197 197 2 (c * 2) (by simp[World.shape?,p.blk]) (by simp[World.shape?,h.blk];simpa using N) (by omega) (p.free _) (p.free _)]
    rfl
  have l:(xs.drop (i * 2)).length=(n - i) * 2:=by rw[List.length_drop,hx];omega
  obtain⟨s,B,C⟩:= R.drew.more (m:=1) g;obtain⟨H,P,u,A⟩:= eW (w:=w.drew) KE 3 C ((i+1) * 2) (n - i) (c - (i+1)) ⟨b,i * 2,none⟩ (n+1 - i) (c - i) (xs.drop (i * 2)) (n - i) (by simp only[Nat.min_def];split <;> omega) l
    (λj v t => by
      rw[List.getElem?_drop] at t;rw[Addr.add_lit]
      exact R.cell (w:=w) (by simpa using t)) (by rw[l,C.len];omega) (λv hv=>h1 v (List.mem_of_mem_drop hv))
  have q:Blk H vb [e1,e2] 197:=p.drew.chg A r;obtain⟨Q,J,E,G⟩:= eW (w:=H) KE 3 u (i * 2) (n+1 - i) (c - i) ⟨vb,0,none⟩ 1 1 [e1,e2] 1 (by simp only[Nat.min_def];split <;> omega) rfl
    (λj v t=>by rw[Addr.add_lit,Nat.zero_add];exact q.cell t) (by rw[u.len];simp;omega) D
  have f:splice (splice (xs ++ s) ((i+1) * 2) (xs.drop (i * 2))) (i * 2) [e1,e2]=xs.take (i * 2) ++ [e1,e2] ++ xs.drop (i * 2):=by
    have h:=rO xs s [e1,e2] (i * 2) (by simp[B])
    have q0:s.drop ([e1,e2]:List Value).length=[]:=List.drop_of_length_le (by simp[B]);rw[q0,List.append_nil] at h;simpa[Nat.add_mul] using h
  have S:=E.to f
  have V:Chg (·=b) w Q:=((Chg.refl _ w).drew.trans A (λ_ _ h=>h)).trans G (λ_ _ h=>h)
  have M:¬ ((i:Int)=(n:Int)):=by omega
  have O:IntKind.i64.wrap ((i:Int)+1)=(i:Int)+1:=by rw[IntKind.wrap_i64];omega
  have X:(0:Int)≤(i:Int)+1:=by omega
  have T:i≤n:=by omega
  have L:((i:Int)+1).toNat=i+1:=by omega
  have U:¬ (c=i+1):=by omega
  have Y:(i:Int)≤(n:Int)+1:=by omega
  have W:¬ (c=i):=by omega
  clear d R o C u E A G f p q B l h1 D;have mixed:=mixed;go_enter Tryz.func207,Tryz.ntmps207;go_wp2_with (simp only[y]);go_region;go_wp2;go_ret;exact⟨rfl,S,V⟩
theorem yi (R:Rw w 197 2 b n c xs) (z:Blk w vb [e1,e2] 197) (hi:i < n) (A:c < n+1) (hn:n≤1000000000) (h1:∀ v ∈ xs,v.oneCell'=true) (D:∀ v ∈ [e1,e2],v.oneCell'=true) :
    Calls Tryz.prog 207 #[.slice (some ⟨b,0,none⟩) n c,.int .i64 i,.slice (some ⟨vb,0,none⟩) 1 1] w λe w'=>∃ c',e=.returned (.slice (some ⟨w.heap.size,0,none⟩) (n+1) c')∧Rw w' 197 2 w.heap.size (n+1) c' (xs.take (i * 2) ++ [e1,e2] ++ xs.drop (i * 2))∧BW w w':=by
  have hx:=R.len;have d:=R.le;simp only[maxLen] at d;have M:=d.1;have F:=d.2;have I:=R.lt;have L:=z.lt;obtain⟨c',B,r,q,p⟩:= oY KE 3 198 ly (R.front (m:=i) (by omega)) (n+1 - i);rw[show ((n+1 - i:Nat):Int)=(n:Int)+1 - (i:Int) by omega,show i+(n+1 - i)=n+1 by omega] at r;rw[show i+(n+1 - i)=n+1 by omega] at q;have f:=q.le;simp only[maxLen] at f;have E:=f.1;have K:=f.2
  have s:Blk B vb [e1,e2] 197:=z.keep p;obtain⟨o,P,x,u⟩:= eW (w:=B) KE 3 q (i * 2) (n+1 - i) (c' - i) ⟨vb,0,none⟩ 1 1 [e1,e2] 1 (by simp only[Nat.min_def];split <;> omega) rfl
    (λj v t=>by rw[Addr.add_lit,Nat.zero_add];exact s.cell t) (by rw[q.len];simp;omega) D
  have g:(xs.drop (i * 2)).length=(n - i) * 2:=by rw[List.length_drop,hx];omega
  have N:Rw o.drew 197 2 b n c xs:=((R.keep p).chg u (by show ¬ b=w.heap.size;omega)).drew;obtain⟨G,Y,J,O⟩:= eW (w:=o.drew) KE 3 x.drew ((i+1) * 2) (n - i) (c' - (i+1)) ⟨b,i * 2,none⟩ (n - i) (c - i) (xs.drop (i * 2)) (n - i) (by simp) g
    (λj v t => by
      rw[List.getElem?_drop] at t;rw[Addr.add_lit]
      exact N.cell (by simpa using t)) (by rw[g,x.len];omega) (λv hv=>h1 v (List.mem_of_mem_drop hv))
  have l:splice (splice (xs.take (i * 2) ++ (Builtin.zeroCells (.agg #[.slice none 0 0,.slice none 0 0]:Value).cells (n+1 - i)).toList) (i * 2) [e1,e2]) ((i+1) * 2) (xs.drop (i * 2))=xs.take (i * 2) ++ [e1,e2] ++ xs.drop (i * 2):=by
    have hA:(xs.take (i * 2)).length=i * 2:=by rw[List.length_take,hx];omega
    generalize hZ:(Builtin.zeroCells (.agg #[.slice none 0 0,.slice none 0 0]:Value).cells (n+1 - i)).toList=Z
    have C:Z.length=(n+1 - i) * 2:=by rw[← hZ,Array.length_toList,size_zeroCells];rfl
    have q1:xs.take (i * 2) ++ Z=xs.take (i * 2) ++ Z.take 2 ++ Z.drop 2:=by rw[List.append_assoc,List.take_append_drop]
    rw[q1,fB _ (Z.take 2) [e1,e2] _ _ hA (by rw[List.length_take];simp;omega)];have U:=fB (xs.take (i * 2) ++ [e1,e2]) (Z.drop 2) (xs.drop (i * 2)) [] ((i+1) * 2) (by rw[List.length_append,hA];simp <;> omega) (by rw[List.length_drop,C,g];omega);simpa using U
  have R4:=J.to l
  have y:BW w G:=by
    have k2:Below w.heap.size B o:=u.below (λb hb=>by omega) (p.size)
    have k3:Below w.heap.size o.drew G:=O.below (λb hb=>by omega) (by have:=p.size;have:=u.size;show w.heap.size≤o.heap.size;omega);exact(p.trans k2).trans ((⟨rfl,rfl,rfl,Nat.le_refl _,λ_ _=>rfl⟩:Below w.heap.size o o.drew).trans k3)
  have S:¬ ((i:Int)=(n:Int)):=by omega
  have T:IntKind.i64.wrap ((i:Int)+1)=(i:Int)+1:=by rw[IntKind.wrap_i64];omega
  have hb1:(0:Int)≤(i:Int)+1:=by omega
  have W:i≤n:=by omega
  have Q:((i:Int)+1).toNat=i+1:=by omega
  have X:¬ (c'=i+1):=by omega
  have H:i+1≤n+1:=by omega
  have hb3:(i:Int)≤(n:Int)+1:=by omega
  have hb4:¬ (c'=i):=by omega
  have V:¬ (c=i):=by omega
  clear d f R q x J N u O p l z s g h1 D;have mixed:=mixed;go_enter Tryz.func207,Tryz.ntmps207;go_wp2_with (at_builtin;refine Lib.wpList_append_run _ rfl _ _ _ _ rfl _ _ rfl rfl _ _ r ?_);go_region;go_wp2;go_ret;exact⟨c',rfl,R4,y⟩
theorem insE (R:Rw w 197 2 b n c xs) (j:Blk w vb [e1,e2] 197) (g:vb≠b) (hi:i<=n) (hn:n<=1000000000) (h1:∀ v∈xs,v.oneCell'=true) (f:∀ v∈[e1,e2],v.oneCell'=true) :
  CP 207 #[.slice (some ⟨b,0,none⟩) n c,.int .i64 i,.slice (some ⟨vb,0,none⟩) 1 1] w λe w'=>∃ b' c',e=.returned (.slice (some ⟨b',0,none⟩) (n+1) c')/\(b'=b\/w.heap.size<=b')/\Rw w' 197 2 b' (n+1) c' (xs.take (i * 2) ++ [e1,e2] ++ xs.drop (i * 2))/\Chg (·=b) w w':=by
 by_cases h:i=n
 ·subst h;refine(A8 R j hn f).mono ?_
  rintro e w' ⟨b',c',rfl,hb,d,a⟩;exact⟨b',c',rfl,hb,d.to (by rw[List.take_of_length_le (by rw[R.len];omega),List.drop_of_length_le (by rw[R.len];omega),List.append_nil]),a⟩
 by_cases k:n+1<=c
 ·refine(uj R j g (by omega) k h1 f).mono ?_
  rintro e w' ⟨rfl,d,a⟩;exact⟨b,c,rfl,.inl rfl,d,a⟩
 refine(yi R j (by omega) (by omega) hn h1 f).mono ?_
 rintro e w' ⟨c',rfl,d,a⟩;exact⟨_,c',rfl,.inr (Nat.le_refl _),d,Chg.of a⟩
end
section
variable {w:World} {b n c i vb:Nat} {xs:List Value} {e1:Value}
theorem Dq (R:Rw w 198 1 b n c xs) (m:Blk w vb [e1] 198) (hn:n<=1000000000) (g:∀ v∈[e1],v.oneCell'=true) :
  Calls Tryz.prog 255 #[.slice (some ⟨b,0,none⟩) n c,.int .i64 n,.slice (some ⟨vb,0,none⟩) 1 1] w λe w'=>∃ b' c',e=.returned (.slice (some ⟨b',0,none⟩) (n+1) c')/\(b'=b\/w.heap.size<=b')/\Rw w' 198 1 b' (n+1) c' (xs ++ [e1])/\Chg (·=b) w w':=by
 obtain⟨b',c',W,p,f,r,o⟩:=dW KP 199 R ⟨vb,0,none⟩ 1 1 [e1] rfl (λj u q=>by rw[Addr.add_lit,Nat.zero_add];exact m.cell q) g;have d:=R.le;simp only[maxLen] at d;have l:=d.1;have i:=d.2;clear d R m g;go_enter Tryz.func255,Tryz.ntmps255;go_wp2_with (at_builtin;refine Lib.wpList_append_run _ rfl _ _ _ _ rfl _ _ rfl rfl _ _ p ?_)
 all_goals (
  go_ret
  exact⟨b',c',rfl,f.imp id (λe=>by omega),r,o⟩)
theorem uE (R:Rw w 198 1 b n c xs) (p:Blk w vb [e1] 198) (r:vb≠b) (hi:i < n) (g:n+1≤c) (h1:∀ v ∈ xs,v.oneCell'=true) (D:∀ v ∈ [e1],v.oneCell'=true) :
    Calls Tryz.prog 255 #[.slice (some ⟨b,0,none⟩) n c,.int .i64 i,.slice (some ⟨vb,0,none⟩) 1 1] w λe w'=>e=.returned (.slice (some ⟨b,0,none⟩) (n+1) c)∧Rw w' 198 1 b (n+1) c (xs.take (i * 1) ++ [e1] ++ xs.drop (i * 1))∧Chg (·=b) w w':=by
  have hx:=R.len;have d:=R.le;simp only[maxLen] at d;have I:=d.1;have F:=d.2
  have o:∃ cs,Blk w b cs 198∧cs.length=c * 1:=by
    obtain⟨sp,h,_,K,_⟩:= R.ex;exact⟨_,h,K⟩
  have y : ∀ (x z : Nat), (callFunc 311 #[.slice (some ⟨vb, 0, none⟩) 1 1, .slice (some ⟨b, i + 1, none⟩) x z]).run Tryz.prog w = .ok (.value (.bool false)) w := λx z => by
    obtain⟨cs,h,N⟩:= o
    rw[run_callFunc_extern Tryz.func311 (by kernel_rfl) (by kernel_rfl) (by kernel_rfl) (e := Extern.SlicesOverlaps.overlaps #[199, 199] #[4]) (by kernel_rfl),
      Lib.run_overlaps_apart w 199 4 198 KP.und 1 KP.sizeOf ⟨vb,0,none⟩ ⟨b,i+1,none⟩ 1 1 x z r 198 198 1 (c * 1) (by simp[World.shape?,p.blk]) (by simp[World.shape?,h.blk];simpa using N) (by omega) (p.free _) (p.free _)]
    rfl
  have l:(xs.drop (i * 1)).length=(n - i) * 1:=by rw[List.length_drop,hx];omega
  obtain⟨s,B,C⟩:= R.drew.more (m:=1) g;obtain⟨H,P,u,A⟩:= eW (w:=w.drew) KP 3 C (i+1) (n - i) (c - (i+1)) ⟨b,i,none⟩ (n+1 - i) (c - i) (xs.drop (i * 1)) (n - i) (by simp only[Nat.min_def];split <;> omega) l
    (λj v t => by
      rw[List.getElem?_drop] at t;rw[Addr.add_lit]
      exact R.cell (w:=w) (by simpa using t)) (by rw[l,C.len];omega) (λv hv=>h1 v (List.mem_of_mem_drop hv))
  have q:Blk H vb [e1] 198:=p.drew.chg A r;obtain⟨Q,J,E,G⟩:= eW (w:=H) KP 3 u (i) (n+1 - i) (c - i) ⟨vb,0,none⟩ 1 1 [e1] 1 (by simp only[Nat.min_def];split <;> omega) rfl
    (λj v t=>by rw[Addr.add_lit,Nat.zero_add];exact q.cell t) (by rw[u.len];simp;omega) D
  have f:splice (splice (xs ++ s) (i+1) (xs.drop (i * 1))) (i) [e1]=xs.take (i * 1) ++ [e1] ++ xs.drop (i * 1):=by
    have h:=rO xs s [e1] (i * 1) (by simp[B])
    have q0:s.drop ([e1]:List Value).length=[]:=List.drop_of_length_le (by simp[B]);rw[q0,List.append_nil] at h;simpa[Nat.add_mul] using h
  have S:=E.to f
  have V:Chg (·=b) w Q:=((Chg.refl _ w).drew.trans A (λ_ _ h=>h)).trans G (λ_ _ h=>h)
  have M:¬ ((i:Int)=(n:Int)):=by omega
  have O:IntKind.i64.wrap ((i:Int)+1)=(i:Int)+1:=by rw[IntKind.wrap_i64];omega
  have X:(0:Int)≤(i:Int)+1:=by omega
  have T:i≤n:=by omega
  have L:((i:Int)+1).toNat=i+1:=by omega
  have U:¬ (c=i+1):=by omega
  have Y:(i:Int)≤(n:Int)+1:=by omega
  have W:¬ (c=i):=by omega
  clear d R o C u E A G f p q B l h1 D;have mixed:=mixed;go_enter Tryz.func255,Tryz.ntmps255;go_wp2_with (simp only[y]);go_region;go_wp2;go_ret;exact⟨rfl,S,V⟩
theorem xr (R:Rw w 198 1 b n c xs) (z:Blk w vb [e1] 198) (hi:i < n) (A:c < n+1) (hn:n≤1000000000) (h1:∀ v ∈ xs,v.oneCell'=true) (D:∀ v ∈ [e1],v.oneCell'=true) :
    Calls Tryz.prog 255 #[.slice (some ⟨b,0,none⟩) n c,.int .i64 i,.slice (some ⟨vb,0,none⟩) 1 1] w λe w'=>∃ c',e=.returned (.slice (some ⟨w.heap.size,0,none⟩) (n+1) c')∧Rw w' 198 1 w.heap.size (n+1) c' (xs.take (i * 1) ++ [e1] ++ xs.drop (i * 1))∧BW w w':=by
  have hx:=R.len;have d:=R.le;simp only[maxLen] at d;have M:=d.1;have F:=d.2;have I:=R.lt;have L:=z.lt;obtain⟨c',B,r,q,p⟩:= oY KP 3 199 ly (R.front (m:=i) (by omega)) (n+1 - i);rw[show ((n+1 - i:Nat):Int)=(n:Int)+1 - (i:Int) by omega,show i+(n+1 - i)=n+1 by omega] at r;rw[show i+(n+1 - i)=n+1 by omega] at q;have f:=q.le;simp only[maxLen] at f;have E:=f.1;have K:=f.2
  have s:Blk B vb [e1] 198:=z.keep p;obtain⟨o,P,x,u⟩:= eW (w:=B) KP 3 q (i) (n+1 - i) (c' - i) ⟨vb,0,none⟩ 1 1 [e1] 1 (by simp only[Nat.min_def];split <;> omega) rfl
    (λj v t=>by rw[Addr.add_lit,Nat.zero_add];exact s.cell t) (by rw[q.len];simp;omega) D
  have g:(xs.drop (i * 1)).length=(n - i) * 1:=by rw[List.length_drop,hx];omega
  have N:Rw o.drew 198 1 b n c xs:=((R.keep p).chg u (by show ¬ b=w.heap.size;omega)).drew;obtain⟨G,Y,J,O⟩:= eW (w:=o.drew) KP 3 x.drew (i+1) (n - i) (c' - (i+1)) ⟨b,i,none⟩ (n - i) (c - i) (xs.drop (i * 1)) (n - i) (by simp) g
    (λj v t => by
      rw[List.getElem?_drop] at t;rw[Addr.add_lit]
      exact N.cell (by simpa using t)) (by rw[g,x.len];omega) (λv hv=>h1 v (List.mem_of_mem_drop hv))
  have l:splice (splice (xs.take (i * 1) ++ (Builtin.zeroCells (.slice none 0 0:Value).cells (n+1 - i)).toList) (i) [e1]) (i+1) (xs.drop (i * 1))=xs.take (i * 1) ++ [e1] ++ xs.drop (i * 1):=by
    have hA:(xs.take (i * 1)).length=i:=by rw[List.length_take,hx];omega
    generalize hZ:(Builtin.zeroCells (.slice none 0 0:Value).cells (n+1 - i)).toList=Z
    have C:Z.length=(n+1 - i) * 1:=by rw[← hZ,Array.length_toList,size_zeroCells];rfl
    have q1:xs.take (i * 1) ++ Z=xs.take (i * 1) ++ Z.take 1 ++ Z.drop 1:=by rw[List.append_assoc,List.take_append_drop]
    rw[q1,fB _ (Z.take 1) [e1] _ _ hA (by rw[List.length_take];simp;omega)];have U:=fB (xs.take (i * 1) ++ [e1]) (Z.drop 1) (xs.drop (i * 1)) [] (i+1) (by rw[List.length_append,hA];simp <;> omega) (by rw[List.length_drop,C,g];omega);simpa using U
  have R4:=J.to l
  have y:BW w G:=by
    have k2:Below w.heap.size B o:=u.below (λb hb=>by omega) (p.size)
    have k3:Below w.heap.size o.drew G:=O.below (λb hb=>by omega) (by have:=p.size;have:=u.size;show w.heap.size≤o.heap.size;omega);exact(p.trans k2).trans ((⟨rfl,rfl,rfl,Nat.le_refl _,λ_ _=>rfl⟩:Below w.heap.size o o.drew).trans k3)
  have S:¬ ((i:Int)=(n:Int)):=by omega
  have T:IntKind.i64.wrap ((i:Int)+1)=(i:Int)+1:=by rw[IntKind.wrap_i64];omega
  have hb1:(0:Int)≤(i:Int)+1:=by omega
  have W:i≤n:=by omega
  have Q:((i:Int)+1).toNat=i+1:=by omega
  have X:¬ (c'=i+1):=by omega
  have H:i+1≤n+1:=by omega
  have hb3:(i:Int)≤(n:Int)+1:=by omega
  have hb4:¬ (c'=i):=by omega
  have V:¬ (c=i):=by omega
  clear d f R q x J N u O p l z s g h1 D;have mixed:=mixed;go_enter Tryz.func255,Tryz.ntmps255;go_wp2_with (at_builtin;refine Lib.wpList_append_run _ rfl _ _ _ _ rfl _ _ rfl rfl _ _ r ?_);go_region;go_wp2;go_ret;exact⟨c',rfl,R4,y⟩
theorem insP (R:Rw w 198 1 b n c xs) (j:Blk w vb [e1] 198) (g:vb≠b) (hi:i<=n) (hn:n<=1000000000) (h1:∀ v∈xs,v.oneCell'=true) (f:∀ v∈[e1],v.oneCell'=true) :
  CP 255 #[.slice (some ⟨b,0,none⟩) n c,.int .i64 i,.slice (some ⟨vb,0,none⟩) 1 1] w λe w'=>∃ b' c',e=.returned (.slice (some ⟨b',0,none⟩) (n+1) c')/\(b'=b\/w.heap.size<=b')/\Rw w' 198 1 b' (n+1) c' (xs.take (i * 1) ++ [e1] ++ xs.drop (i * 1))/\Chg (·=b) w w':=by
 by_cases h:i=n
 ·subst h;refine(Dq R j hn f).mono ?_
  rintro e w' ⟨b',c',rfl,hb,d,a⟩;exact⟨b',c',rfl,hb,d.to (by rw[List.take_of_length_le (by rw[R.len];omega),List.drop_of_length_le (by rw[R.len];omega),List.append_nil]),a⟩
 by_cases k:n+1<=c
 ·refine(uE R j g (by omega) k h1 f).mono ?_
  rintro e w' ⟨rfl,d,a⟩;exact⟨b,c,rfl,.inl rfl,d,a⟩
 refine(xr R j (by omega) (by omega) hn h1 f).mono ?_
 rintro e w' ⟨c',rfl,d,a⟩;exact⟨_,c',rfl,.inr (Nat.le_refl _),d,Chg.of a⟩
end
section
variable {w:World} {b n c i:Nat} {xs:List Value}
theorem zQ (R:Rw w 197 2 b n c xs) (hi:i < n) (l:c≠i+1) (h1:∀ v ∈ xs,v.oneCell'=true) :
    Calls Tryz.prog 258 #[.slice (some ⟨b,0,none⟩) n c,.int .i64 i,.int .i64 (i+1)] w λe w'=>e=.returned (.slice (some ⟨b,0,none⟩) (n - 1) c)∧Rw w' 197 2 b (n - 1) c (xs.take (i * 2) ++ xs.drop ((i+1) * 2))∧Chg (·=b) w w':=by
  have hx:=R.len;have d:=R.le;simp only[maxLen] at d;have x:=d.1;have s:=d.2
  have g:(xs.drop ((i+1) * 2)).length=(n - (i+1)) * 2:=by rw[List.length_drop,hx];omega
  obtain⟨M,f,p,y⟩:= gw KE 198 (R.drew.front (m:=i) (by omega)) ⟨b,(i+1) * 2,none⟩ (n - (i+1)) (c - (i+1)) (xs.drop ((i+1) * 2)) g
    (λj v t => by
      rw[List.getElem?_drop] at t;rw[Addr.add_lit]
      exact R.drew.cell (by simpa using t)) (λv hv=>h1 v (List.mem_of_mem_drop hv)) (by omega)
  rw[show i+(n - (i+1))=n - 1 by omega] at p;obtain⟨D,o,r,u⟩:= fA KE 0 p (n - (n - 1)) (c - (n - 1))
  have J:Chg (·=b) w D:=((Chg.refl _ w).drew.trans y (λ_ _ h=>h)).trans u (λ_ _ h=>h);obtain⟨q,hq⟩:∃ q,n=i+1+q:=⟨n - (i+1),by omega⟩;subst hq;rw[show i+1+q - (i+1)=q by omega] at f;rw[show i+1+q - 1=i+q by omega] at o r ⊢
  have C:¬ ((i:Int)=(i:Int)+1):=by omega
  have H:i≤i+1+q:=by omega
  have I:¬ (c=i+1):=l
  have L:(0:Int)≤(i:Int)+1:=by omega
  have G:i≤c:=by omega
  have A:((i:Int)+1).toNat=i+1:=by omega
  have B:¬ (c=i+q):=by omega
  have K:(i:Int)+1≤((i+1+q:Nat):Int):=by omega
  have E:i+1≤i+1+q:=by omega
  have z:(i:Int)+1≤(i:Int)+1+(q:Int):=by omega
  have F:((i+1+q:Nat):Int)≤(c:Int):=by omega
  clear d R p y u g h1;have mixed:=mixed;go_enter Tryz.func258,Tryz.ntmps258;go_wp2;go_region_law_o (refine gC rfl (.tmp 22) (.tmp 25) 198 198 rfl _ _ (by simp[Act.eval,Act.put]) (by simp[Act.eval,Act.put]) f ?_);go_wp2;go_ret;exact⟨rfl,r,J⟩
theorem yE (R:Rw w 197 2 b (i+1) (i+1) xs) :
  Calls Tryz.prog 258 #[.slice (some ⟨b,0,none⟩) (i+1) (i+1),.int .i64 i,.int .i64 (i+1)] w λe w'=>e=.returned (.slice (some ⟨b,0,none⟩) i (i+1))/\Rw w' 197 2 b i (i+1) (xs.take (i * 2))/\Chg (·=b) w w':=by
 have c:=R.le;simp only[maxLen] at c;have l:=c.2;obtain⟨A,d,f,n⟩:=gw KE 198 (R.drew.front (m:=i) (by omega)) ⟨b,0,none⟩ 0 0 [] (by simp) (λj v y=>by simp at y) (λv hv=>by simp at hv) (by omega);rw[Nat.add_zero] at f d;rw[List.append_nil] at f;obtain⟨u,o,p,g⟩:=fA KE 0 f 1 1
 have x:Chg (·=b) w u:=((Chg.refl _ w).drew.trans n (λ_ _ h=>h)).trans g (λ_ _ h=>h)
 have r:¬ ((i:Int)=(i:Int)+1):=by omega
 have s:i<=i+1:=by omega
 have z:(0:Int)<=(i:Int)+1:=by omega
 have q:((i:Int)+1).toNat=i+1:=by omega
 have e1:i+1 - i=1:=by omega
 have t:(i:Int)<=(i:Int)+1:=by omega
 clear c R f n g;have mixed:=mixed;go_enter Tryz.func258,Tryz.ntmps258;go_wp2;go_region_law_o (refine gC rfl (.tmp 22) (.tmp 25) 198 198 rfl _ _ (by simp[Act.eval,Act.put]) (by simp[Act.eval,Act.put]) d ?_);go_wp2;go_ret;exact⟨rfl,p,x⟩
theorem delE (R:Rw w 197 2 b n c xs) (hi:i < n) (h1:∀ v∈xs,v.oneCell'=true) :
  CP 258 #[.slice (some ⟨b,0,none⟩) n c,.int .i64 i,.int .i64 (i+1)] w λe w'=>e=.returned (.slice (some ⟨b,0,none⟩) (n - 1) c)/\Rw w' 197 2 b (n - 1) c (xs.take (i * 2) ++ xs.drop ((i+1) * 2))/\Chg (·=b) w w':=by
 by_cases h:c=i+1
 ·have f:=R.le;obtain rfl:n=i + 1:=by omega
  subst h;refine(yE R).mono ?_
  rintro e w' ⟨rfl,d,a⟩;exact⟨by simp,d.to (by rw[List.drop_of_length_le (by rw[R.len];omega),List.append_nil]),a⟩
 exact zQ R hi h h1
end
section
variable {w:World} {b n c i:Nat} {xs:List Value}
theorem Cp (R:Rw w 198 1 b n c xs) (hi:i < n) (o:c≠i+1) (h1:∀ v ∈ xs,v.oneCell'=true) :
    Calls Tryz.prog 259 #[.slice (some ⟨b,0,none⟩) n c,.int .i64 i,.int .i64 (i+1)] w λe w'=>e=.returned (.slice (some ⟨b,0,none⟩) (n - 1) c)∧Rw w' 198 1 b (n - 1) c (xs.take (i * 1) ++ xs.drop ((i+1) * 1))∧Chg (·=b) w w':=by
  have hx:=R.len;have d:=R.le;simp only[maxLen] at d;have x:=d.1;have s:=d.2
  have l:(xs.drop ((i+1) * 1)).length=(n - (i+1)) * 1:=by rw[List.length_drop,hx];omega
  obtain⟨M,g,p,y⟩:= gw KP 199 (R.drew.front (m:=i) (by omega)) ⟨b,i+1,none⟩ (n - (i+1)) (c - (i+1)) (xs.drop ((i+1) * 1)) l
    (λj v t => by
      rw[List.getElem?_drop] at t;rw[Addr.add_lit]
      exact R.drew.cell (by simpa using t)) (λv hv=>h1 v (List.mem_of_mem_drop hv)) (by omega)
  rw[show i+(n - (i+1))=n - 1 by omega] at p;obtain⟨D,f,r,u⟩:= fA KP 0 p (n - (n - 1)) (c - (n - 1))
  have J:Chg (·=b) w D:=((Chg.refl _ w).drew.trans y (λ_ _ h=>h)).trans u (λ_ _ h=>h);obtain⟨q,hq⟩:∃ q,n=i+1+q:=⟨n - (i+1),by omega⟩;subst hq;rw[show i+1+q - (i+1)=q by omega] at g;rw[show i+1+q - 1=i+q by omega] at f r ⊢;simp only[Nat.mul_one] at f
  have C:¬ ((i:Int)=(i:Int)+1):=by omega
  have H:i≤i+1+q:=by omega
  have I:¬ (c=i+1):=o
  have L:(0:Int)≤(i:Int)+1:=by omega
  have G:i≤c:=by omega
  have A:((i:Int)+1).toNat=i+1:=by omega
  have B:¬ (c=i+q):=by omega
  have K:(i:Int)+1≤((i+1+q:Nat):Int):=by omega
  have E:i+1≤i+1+q:=by omega
  have z:(i:Int)+1≤(i:Int)+1+(q:Int):=by omega
  have F:((i+1+q:Nat):Int)≤(c:Int):=by omega
  clear d R p y u l h1;have mixed:=mixed;go_enter Tryz.func259,Tryz.ntmps259;go_wp2;go_region_law_o (refine gC rfl (.tmp 22) (.tmp 25) 199 199 rfl _ _ (by simp[Act.eval,Act.put]) (by simp[Act.eval,Act.put]) g ?_);go_wp2;go_ret;exact⟨rfl,r,J⟩
theorem yU (R:Rw w 198 1 b (i+1) (i+1) xs) :
  Calls Tryz.prog 259 #[.slice (some ⟨b,0,none⟩) (i+1) (i+1),.int .i64 i,.int .i64 (i+1)] w λe w'=>e=.returned (.slice (some ⟨b,0,none⟩) i (i+1))/\Rw w' 198 1 b i (i+1) (xs.take (i * 1))/\Chg (·=b) w w':=by
 have c:=R.le;simp only[maxLen] at c;have n:=c.2;obtain⟨A,d,f,o⟩:=gw KP 199 (R.drew.front (m:=i) (by omega)) ⟨b,0,none⟩ 0 0 [] (by simp) (λj v y=>by simp at y) (λv hv=>by simp at hv) (by omega);rw[Nat.add_zero] at f d;rw[List.append_nil] at f;obtain⟨u,g,p,l⟩:=fA KP 0 f 1 1
 have x:Chg (·=b) w u:=((Chg.refl _ w).drew.trans o (λ_ _ h=>h)).trans l (λ_ _ h=>h);simp only[Nat.mul_one] at g
 have r:¬ ((i:Int)=(i:Int)+1):=by omega
 have s:i<=i+1:=by omega
 have z:(0:Int)<=(i:Int)+1:=by omega
 have q:((i:Int)+1).toNat=i+1:=by omega
 have e1:i+1 - i=1:=by omega
 have t:(i:Int)<=(i:Int)+1:=by omega
 clear c R f o l;have mixed:=mixed;go_enter Tryz.func259,Tryz.ntmps259;go_wp2;go_region_law_o (refine gC rfl (.tmp 22) (.tmp 25) 199 199 rfl _ _ (by simp[Act.eval,Act.put]) (by simp[Act.eval,Act.put]) d ?_);go_wp2;go_ret;exact⟨rfl,p,x⟩
theorem delP (R:Rw w 198 1 b n c xs) (hi:i < n) (h1:∀ v∈xs,v.oneCell'=true) :
  CP 259 #[.slice (some ⟨b,0,none⟩) n c,.int .i64 i,.int .i64 (i+1)] w λe w'=>e=.returned (.slice (some ⟨b,0,none⟩) (n - 1) c)/\Rw w' 198 1 b (n - 1) c (xs.take (i * 1) ++ xs.drop ((i+1) * 1))/\Chg (·=b) w w':=by
 by_cases h:c=i+1
 ·have f:=R.le;obtain rfl:n=i + 1:=by omega
  subst h;refine(yU R).mono ?_
  rintro e w' ⟨rfl,d,a⟩;exact⟨by simp,d.to (by rw[List.drop_of_length_le (by rw[R.len];omega),List.append_nil]),a⟩
 exact Cp R hi h h1
end
section
variable {w w':World}{v:Value}{l:List Int}{D D':Nat->Prop}{a:Addr}{n:Nat}{xs:List Value}
abbrev Oct(l:List Int):Prop:=∀ x∈l,0<=x/\x < 256
structure By(w:World)(v:Value)(l:List Int):Prop where
 ex:∃ ao c,v=.slice ao l.length c/\l.length<=c/\c<=9223372036854775807/\(ao=none->c=0)/\Oct l/\(l=[]\/∃ b o,ao=some ⟨b,o,none⟩/\b < w.heap.size/\∀ i x,l[i]?=some x->w.cell? ⟨b,o+i,none⟩=some (.int .u8 x))
theorem By.keep(h:By w v l)(hb:BW w w'):By w' v l:=by
 obtain⟨j,c,m,d,f,k,n,g⟩:=h.ex;refine⟨j,c,m,d,f,k,n,g.imp id ?_⟩;rintro⟨b,o,e,a,hc⟩;exact⟨b,o,e,Nat.lt_of_lt_of_le a hb.size,λi x hi=>by rw[hb.cell (p:=⟨b,o+i,none⟩) a];exact hc i x hi⟩
theorem By.drew(h:By w v l):By w.drew v l:=h.keep ⟨rfl,rfl,rfl,Nat.le_refl _,λ_ _=>rfl⟩
theorem By.oct(h:By w v l):Oct l:=by
 obtain⟨ao,c,h1,h2,h3,h4,h5,h6⟩:=h.ex;exact h5
theorem By.nil(w:World):By w (.slice none 0 0) []:=⟨none,0,rfl,by decide,by decide,λ_=>rfl,λ_ h=>by simp at h,.inl rfl⟩
structure OB(w:World)(D:Nat->Prop)(v:Value)(l:List Int):Prop where
 oct:Oct l
 ex:(v=.slice none 0 0/\l=[])\/∃ b c,v=.slice (some ⟨b,0,none⟩) l.length c/\D b/\Rw w 5 1 b l.length c (l.map (Value.int .u8))
theorem OB.by(h:OB w D v l):By w v l:=by
 rcases h.ex with⟨rfl,rfl⟩ | ⟨b,c,rfl,hd,hR⟩
 ·exact By.nil w
 have a:=hR.le;simp only[maxLen] at a;exact⟨_,c,rfl,by omega,by omega,(λe=>by cases e),h.oct,.inr ⟨b,0,rfl,hR.lt,λi x hi=>by rw[Nat.zero_add];exact hR.cell (by simp[hi])⟩⟩
theorem OB.mono(h:OB w D v l)(hD:∀ b,b < w.heap.size->D b->D' b):OB w D' v l:=by
 refine⟨h.oct,h.ex.imp id ?_⟩;rintro⟨b,c,e,hd,hR⟩;exact⟨b,c,e,hD b hR.lt hd,hR⟩
theorem OB.same(h:OB w D v l)(hD:∀ b,b < w.heap.size->D b->w'.heap[b]?=w.heap[b]?):OB w' D v l:=by
 refine⟨h.oct,h.ex.imp id ?_⟩;rintro⟨b,c,e,hd,hR⟩;exact⟨b,c,e,hd,hR.same (hD b hR.lt hd)⟩
theorem OB.keep(h:OB w D v l)(hb:BW w w'):OB w' D v l:=h.same λb hb' _=>hb.block b hb'
theorem OB.one(h:OB w D v l):v.oneCell'=true:=by
 rcases h.ex with⟨rfl,rfl⟩ | ⟨b,c,rfl,hd,hR⟩<;>rfl
def dm:List Int->List Int->Int
 | [],[]=>0
 | [],_ :: _=>-1
 | _ :: _,[]=>1
 | x :: a,y :: b=>if x < y then -1 else if y < x then 1 else dm a b
theorem GS{x y:Int}(hx:0<=x/\x < 256)(hy:0<=y/\y < 256):(UInt8.ofNat x.toNat < UInt8.ofNat y.toNat)<->x < y:=by
 rw[UInt8.lt_iff_toNat_lt,UInt8.toNat_ofNat_of_lt' (by show x.toNat < 256;omega),UInt8.toNat_ofNat_of_lt' (by show y.toNat < 256;omega)];omega
theorem kE:∀ (l l':List Int),Oct l->Oct l'->compareBytes (bytesOf l) (bytesOf l')=dm l l'
 | [],[],_,_=>rfl
 | [],_ :: _,_,_=>rfl
 | _ :: _,[],_,_=>rfl
 | x :: a,y :: b,h,h'=>by
  have ih:=kE a b (λz c=>h z (List.mem_cons_of_mem _ c)) (λz c=>h' z (List.mem_cons_of_mem _ c));have hx:=h x List.mem_cons_self;have hy:=h' y List.mem_cons_self
  show (if UInt8.ofNat x.toNat < UInt8.ofNat y.toNat then _ else if UInt8.ofNat y.toNat < UInt8.ofNat x.toNat then _ else compareBytes (bytesOf a) (bytesOf b))=_
  rw[dm];simp only[GS hx hy,GS hy hx,ih]
theorem lR{P:Program}(h:By w v l):(Extern.Bytes.bytesOf v).run P w=.ok ⟨(bytesOf l).toArray⟩ w:=by
 obtain⟨f,c,rfl,m,p,g,n,i⟩:=h.ex
 cases f with
 | none =>
  have:l=[]:=List.eq_nil_of_length_eq_zero (by have:=g rfl;omega);subst this;rfl
 | some a =>
  rcases i with rfl | ⟨b,o,e,d,hc⟩
  ·rfl
  cases e;have:=run_loadBytesX (P:=P) w l ⟨b,o,none⟩ .empty (λj x k=>by rw[Addr.add_lit];exact hc j x k)
  show (Extern.Bytes.loadBytes ⟨b,o,none⟩ l.length .empty).run P w=_
  rw[this];congr 1
  apply ByteArray.ext;simp
theorem lS{c:Value}{b:List Int}(h:By w v l)(d:By w c b) :
  Calls Tryz.prog 200 #[v,c] w λe w'=>e=.returned (.int .i64 (dm l b))/\w'=w:=by
 have f:(callFunc 250 #[v,c]).run Tryz.prog w=.ok (.value (.int .i64 (dm l b))) w:=by
  rw[run_callFunc_extern Tryz.func250 (by kernel_rfl) (by kernel_rfl) (by kernel_rfl) (e:=Extern.BytealgCompare.compare) (by kernel_rfl)];have:(Extern.BytealgCompare.compare #[v,c]).run Tryz.prog w=.ok (.int .i64 (dm l b)) w:=by
   change Sem.run Tryz.prog (do pure (goInt (Extern.BytealgCompare.cmp (<- Extern.Bytes.bytesOf v) (<- Extern.Bytes.bytesOf c)))) w=_
   simp only[Sem.run_bind,lR h,lR d,Sem.run_pure,Result.andThen];rw[cmp_eq,kE l b h.oct d.oct];rfl
  rw[this];rfl
 clear h d;generalize dm l b=x at *;go_enter Tryz.func200,Tryz.ntmps200;go_wp2_with (simp only[f]);go_ret;exact⟨rfl,rfl⟩
theorem KB:Kd Tryz.prog 29 5 1 1 (.int .u8 0):=⟨by kernel_rfl,by kernel_rfl,rfl,by simp[Value.cells,Value.oneCell'],by decide⟩
theorem mT(h:w.cell? a=some v)(o:Obj):(w.alloc o).cell? a=some v:=by
 have b:a.block < w.heap.size:=by
  unfold World.cell? at h
  cases hh:w.heap[a.block]? with
  | none=>simp[hh] at h
  | some ob=>exact lt_of_block hh
 rw[(aa w o).cell b];exact h
theorem map_u8(l:List Int):∀ v∈l.map (Value.int .u8),v.oneCell'=true:=by
 intro v hv;obtain⟨x,_,rfl⟩:=List.mem_map.1 hv;rfl
theorem cW(h:By w v l)(hbig:l.length<=1000000000) :
  Calls Tryz.prog 104 #[v] w λe w'=>∃ v',e=.returned v'/\OB w' (w.heap.size <= ·) v' l/\BW w w':=by
 have r:=h.oct;obtain⟨B,c,rfl,H,I,C,F,A⟩:=h.ex
 cases B with
 | none =>
  have D:l=[]:=List.eq_nil_of_length_eq_zero (by have:=C rfl;omega);subst D;have f:=fun(w:World) (a:Option Addr) (n c:Nat)=>Go.Lib.run_eql_slice_nil (P:=Tryz.prog) w 29 _ a n c 0 0 KB.und
  go_enter Tryz.func104,Tryz.ntmps104;go_wp2;go_ret;exact⟨_,rfl,⟨r,.inl ⟨rfl,rfl⟩⟩,Below.refl _ _⟩
 | some a =>
  have s:Rw (w.alloc (.cells #[] 5)) 5 1 w.heap.size 0 0 []:=vw (ay w [] _) rfl
  have d:∀ j u,(l.map (Value.int .u8))[j]? = some u->(w.alloc (.cells #[] 5)).cell? (a.add j)=some u:=λj u i=>by
   rcases A with rfl | ⟨b,o,e,E,hc⟩
   ·simp at i
   cases e;rw[List.getElem?_map] at i;obtain⟨x,hx,rfl⟩:=Option.map_eq_some_iff.1 i;exact mT (by rw[Addr.add_lit];exact hc j x hx) _
  obtain⟨m,y,W,z,g,q,t⟩:=dW KB 29 s a l.length c (l.map (Value.int .u8)) (by simp) d (map_u8 l);rw[Nat.zero_add] at z q
  have G:BW w W:=(aa w (.cells #[] 5)).trans (t.below (λb hb=>by omega) (aa w _).size)
  have p:w.heap.size<=m:=by rcases g with e | e;omega;rw[World.size_alloc] at e;omega
  have hF:OB W (w.heap.size <= ·) (.slice (some ⟨m,0,none⟩) l.length y) l:=⟨r,.inr ⟨m,y,rfl,p,q.to (by simp)⟩⟩
  clear s d A h q t F g;have f:=fun(w:World) (a:Option Addr) (n c:Nat)=>Go.Lib.run_eql_slice_nil (P:=Tryz.prog) w 29 _ a n c 0 0 KB.und
  go_enter Tryz.func104,Tryz.ntmps104;go_wp2_with (at_builtin;refine Lib.wpList_append_run _ rfl _ _ _ _ rfl _ _ rfl rfl _ _ z ?_);go_ret;exact⟨_,rfl,hF,G⟩
theorem AK{c:Nat}(hn:n<=1000000000)(hx:xs.length=n * 2)(hc:∀ j v,xs[j]?=some v->w.cell? (a.add j)=some v)(h1:∀ v∈xs,v.oneCell'=true) :
  Calls Tryz.prog 254 #[.slice (some a) n c] w λe w'=>∃ b' c',e=.returned (.slice (some ⟨b',0,none⟩) n c')/\w.heap.size<=b'/\Rw w' 197 2 b' n c' xs/\BW w w':=by
 have o:Rw (w.alloc (.cells #[] 197)) 197 2 w.heap.size 0 0 []:=vw (ay w [] _) rfl;obtain⟨b',c',W,m,d,g,i⟩:=dW KE 198 o a n c xs hx (λj v p=>mT (hc j v p) _) h1;rw[Nat.zero_add] at m g;rw[List.nil_append] at g
 have q:BW w W:=(aa w (.cells #[] 197)).trans (i.below (λb hb=>by omega) (aa w _).size)
 have f:w.heap.size<=b':=by rcases d with e | e;omega;rw[World.size_alloc] at e;omega
 clear o hc h1 i d;have l:=fun(w:World) (a:Option Addr) (n c:Nat)=>Go.Lib.run_eql_slice_nil (P:=Tryz.prog) w 198 _ a n c 0 0 KE.und
 go_enter Tryz.func254,Tryz.ntmps254;go_wp2_with (at_builtin;refine Lib.wpList_append_run _ rfl _ _ _ _ rfl _ _ rfl rfl _ _ m ?_);go_ret;exact⟨b',c',rfl,f,g,q⟩
theorem growE(h0:0 < n)(hn:n<=1000000000) :
  Calls Tryz.prog 354 #[.slice none 0 0,.int .i64 n] w λe w'=>∃ b' c',e=.returned (.slice (some ⟨b',0,none⟩) 0 c')/\w.heap.size<=b'/\Rw w' 197 2 b' 0 c' []/\BW w w':=by
 obtain⟨c',W,f,c,i⟩:=oJ (w:=w) KE 3 198 ly n h0 (by omega) (by omega)
 have b:Rw W 197 2 w.heap.size 0 c' []:=(c.front (m:=0) (by omega)).to (by simp)
 have g:¬ ((n:Int) < 0):=by omega
 have d:(0:Int) < n:=by omega
 clear c;go_enter Tryz.func354,Tryz.ntmps354;go_wp2_with (at_builtin;refine Lib.wpList_append_run _ rfl _ _ _ _ rfl _ _ rfl rfl _ _ f ?_);go_ret;exact⟨_,c',rfl,Nat.le_refl _,b,i⟩
end
theorem FG {w:World} {vb b1 f c1 G g c2:Nat} {xs ys:List Value} (s:Blk w vb [.slice (some ⟨b1,0,none⟩) f c1,.slice (some ⟨G,0,none⟩) g c2] 198)
  (I:Rw w 197 2 b1 f c1 xs) (H:Rw w 197 2 G g c2 ys) (h0:0 < f+g) (K:f<=1000000) (M:g<=1000000) (h1:∀ v∈xs,v.oneCell'=true) (J:∀ v∈ys,v.oneCell'=true) :
  Calls Tryz.prog 313 #[.slice (some ⟨vb,0,none⟩) 2 2] w λe w'=>∃ b' c',e=.returned (.slice (some ⟨b',0,none⟩) (f+g) c')/\w.heap.size<=b'/\Rw w' 197 2 b' (f+g) c' (xs ++ ys)/\BW w w':=by
 have F:=growE (w:=w) (n:=f+g) h0 (by omega);rw[show ((f+g:Nat):Int)=(f:Int)+(g:Int) by omega] at F;have q0:=s.cell (i:=0) rfl;have q1:=s.cell (i:=1) rfl;go_enter Tryz.func313,Tryz.ntmps313;go_wp2;go_loopw [3,11] (λts l wr=>wr=w/\((l=.int .i64 0/\ts=.int .i64 0)\/(l=.int .i64 1/\ts=.int .i64 f)\/(l=.int .i64 2/\ts=.int .i64 (f+g)))) (λ_ l _=>2 - (intOf l).toNat)
 case atStart=>exact⟨rfl,.inl ⟨rfl,rfl⟩⟩
 case round =>
  obtain⟨rfl,⟨rfl,rfl⟩ | ⟨rfl,rfl⟩ | ⟨rfl,rfl⟩⟩:=hrel
  ·have L:¬ ((f:Int) < 0):=by omega
   go_wp2;go_roundw
   case rel=>exact⟨trivial,.inr (.inl ⟨rfl,rfl⟩)⟩
   case measure=>simp[intOf]
  ·have L:¬ ((f:Int) + (g:Int) < 0):=by omega
   go_wp2;go_roundw
   case rel=>exact⟨trivial,.inr (.inr ⟨rfl,rfl⟩)⟩
   case measure=>simp[intOf]
  rename World=>W0
  go_wp2_with (go_at_call 354;refine F.mono ?_;rintro e N ⟨b,c,rfl,hb,o,B⟩);clear F
  have C:=(s.keep B).cell (i:=0) rfl
  have E:=(s.keep B).cell (i:=1) rfl;have y:=B;clear B q0 q1;go_loopw [6,27] (λts l z=>BW W0 z/\∃ b c,W0.heap.size<=b/\((l=.int .i64 0/\ts=.slice (some ⟨b,0,none⟩) 0 c/\Rw z 197 2 b 0 c [])\/(l=.int .i64 1/\ts=.slice (some ⟨b,0,none⟩) f c/\Rw z 197 2 b f c xs)\/(l=.int .i64 2/\ts=.slice (some ⟨b,0,none⟩) (f+g) c/\Rw z 197 2 b (f+g) c (xs ++ ys)))) (λ_ l _=>2 - (intOf l).toNat)
  case atStart=>exact⟨y,b,c,hb,.inl ⟨rfl,rfl,o⟩⟩
  case round =>
   clear o y hb C E;obtain⟨d,b,c,hb,⟨rfl,rfl,o⟩ | ⟨rfl,rfl,o⟩ | ⟨rfl,rfl,o⟩⟩:=hrel
   ·have q0:=(s.keep d).cell (i:=0) rfl;have S:=I.keep d;obtain⟨b',c',W,A,m,p,t⟩:=dW KE 198 o ⟨b1,0,none⟩ f c1 xs I.len (λj u D=>by rw[Addr.add_lit,Nat.zero_add];exact S.cell D) h1;rw[Nat.zero_add] at A p
    have q:BW W0 W:=d.trans (t.below (λx hx=>by omega) d.size)
    have r:W0.heap.size<=b':=by
     have:=d.size;rcases m with e | e<;>omega
    clear t m o S;go_wp2_with (at_builtin;refine Lib.wpList_append_run _ rfl _ _ _ _ rfl _ _ rfl rfl _ _ A ?_);go_roundw
    case rel=>exact⟨q,b',c',r,.inr (.inl ⟨rfl,rfl,p⟩)⟩
    case measure=>simp[intOf]
   ·have q1:=(s.keep d).cell (i:=1) rfl;have S:=H.keep d;obtain⟨b',c',W,A,m,p,t⟩:=dW KE 198 o ⟨G,0,none⟩ g c2 ys H.len (λj u D=>by rw[Addr.add_lit,Nat.zero_add];exact S.cell D) J
    have q:BW W0 W:=d.trans (t.below (λx hx=>by omega) d.size)
    have r:W0.heap.size<=b':=by
     have:=d.size;rcases m with e | e<;>omega
    clear t m o S;go_wp2_with (at_builtin;refine Lib.wpList_append_run _ rfl _ _ _ _ rfl _ _ rfl rfl _ _ A ?_);go_roundw
    case rel=>exact⟨q,b',c',r,.inr (.inr ⟨rfl,rfl,p⟩)⟩
    case measure=>simp[intOf]
   go_wp2;go_ret;exact⟨b,c,rfl,hb,o,d⟩
end Pg
end
section
namespace Pg
section
variable {a b k:List Int}{l:List (List Int)}
theorem jF:∀ (a b:List Int),dm a b=-1\/dm a b=0\/dm a b=1
 | [],[]=>.inr (.inl rfl)
 | [],_ :: _=>.inl rfl
 | _ :: _,[]=>.inr (.inr rfl)
 | x :: a,y :: b=>by
  rw[dm];split
  ·exact .inl rfl
  split
  ·exact .inr (.inr rfl)
  exact jF a b
theorem iG:∀ (a:List Int),dm a a=0
 | []=>rfl
 | x :: a=>by rw[dm,if_neg (by omega),if_neg (by omega)];exact iG a
theorem qk:∀ {a b:List Int},dm a b=0->a=b
 | [],[],_=>rfl
 | [],_ :: _,h=>by simp[dm] at h
 | _ :: _,[],h=>by simp[dm] at h
 | x :: a,y :: b,h=>by
  rw[dm] at h;split at h
  ·omega
  split at h
  ·omega
  rw[qk h,show x=y by omega]
theorem lJ:∀ (a b:List Int),dm b a=- dm a b
 | [],[]=>rfl
 | [],_ :: _=>rfl
 | _ :: _,[]=>rfl
 | x :: a,y :: b=>by
  rw[dm,dm];by_cases h1:x < y
  ·rw[if_neg (by omega),if_pos h1,if_pos h1];rfl
  by_cases h2:y < x
  ·rw[if_pos h2,if_neg h1,if_pos h2]
  rw[if_neg h2,if_neg h1,if_neg h1,if_neg h2];exact lJ a b
abbrev Lt(a b:List Int):Prop:=dm a b=-1
theorem Lt.trans:∀ {a b c:List Int},Lt a b->Lt b c->Lt a c
 | [],[],_,h,_=>by simp[Lt,dm] at h
 | [],_ :: _,[],_,h=>by simp[Lt,dm] at h
 | [],_ :: _,_ :: _,_,_=>rfl
 | _ :: _,[],_,h,_=>by simp[Lt,dm] at h
 | _ :: _,_ :: _,[],_,h=>by simp[Lt,dm] at h
 | x :: a,y :: b,z :: c,h,h'=>by
  simp only[Lt] at h h' ⊢;rw[dm] at h h' ⊢;by_cases h1:x < z
  ·rw[if_pos h1]
  rw[if_neg h1];split at h
  ·split at h'
   ·omega
   split at h'
   ·omega
   omega
  split at h
  ·omega
  split at h'
  ·omega
  split at h'
  ·omega
  rw[if_neg (by omega)];exact Lt.trans (a:=a) (b:=b) (c:=c) h h'
theorem lt_irrefl(a:List Int):¬ Lt a a:=by simp[Lt,iG]
theorem Lt.not(h:Lt a b):¬ Lt b a:=λh'=>lt_irrefl a (h.trans h')
theorem qy(a b:List Int):Lt a b\/a=b\/Lt b a:=by
 rcases jF a b with h | h | h
 ·exact .inl h
 ·exact .inr (.inl (qk h))
 exact .inr (.inr (by simp only[Lt];rw[lJ,h]))
theorem pQ(h:Lt a b):dm a b=-1:=h
theorem Fj(h:Lt b a):dm a b=1:=by rw[lJ,pQ h];rfl
theorem not_lt:¬ Lt a b<->a=b\/Lt b a:=by
 constructor
 ·intro h;rcases qy a b with k | k | k
  ·exact absurd k h
  ·exact .inl k
  exact .inr k
 rintro(h | h)
 ·subst h;exact lt_irrefl a
 exact h.not
theorem Lt.of_le{c:List Int}(h:Lt a b)(h':¬ Lt c b):Lt a c:=by
 rcases not_lt.1 h' with k | k
 ·subst k;exact h
 exact h.trans k
def plc:List (List Int)->List Int->Nat
 | [],_=>0
 | x :: l,k=>if Lt x k then plc l k+1 else 0
theorem qq:∀ (l:List (List Int)) (k:List Int),plc l k<=l.length
 | [],_=>Nat.le_refl _
 | x :: l,k=>by
  rw[plc];split
  ·have:=qq l k;simp;omega
  simp
theorem vf:∀ {l:List (List Int)} {k:List Int} {i:Nat},i<=l.length->(∀ j x,j < i->l[j]?=some x->Lt x k)->(∀ x,l[i]?=some x->¬ Lt x k)->plc l k=i
 | [],_,i,h,_,_=>by simp at h;subst h;rfl
 | x :: l,k,0,_,_,h3=>by rw[plc,if_neg (h3 x rfl)]
 | x :: l,k,i + 1,h1,h2,h3=>by
  rw[plc,if_pos (h2 0 x (by omega) rfl),vf (l:=l) (i:=i) (by simpa using h1) (λj y hj hy=>h2 (j+1) y (by omega) (by simpa using hy)) (λy hy=>h3 y (by simpa using hy))]
theorem BT:∀ {l:List (List Int)} {k:List Int} {j:Nat} {x:List Int},j < plc l k->l[j]?=some x->Lt x k
 | [],_,_,_,h,_=>by simp[plc] at h
 | y :: l,k,j,x,h,hx=>by
  rw[plc] at h;split at h
  ·cases j with
   | zero=>simp at hx;subst hx;assumption
   | succ j=>exact BT (l:=l) (j:=j) (by omega) (by simpa using hx)
  omega
theorem Du:∀ {l:List (List Int)} {k:List Int} {x:List Int},l[plc l k]?=some x->¬ Lt x k
 | [],_,_,h=>by simp at h
 | y :: l,k,x,h=>by
  rw[plc] at h;split at h
  ·exact Du (l:=l) (by simpa using h)
  simp at h;subst h;assumption
def Srt(l:List (List Int)):Prop:=l.Pairwise Lt
theorem Srt.get(h:Srt l){i j:Nat}{x y:List Int}(a:i < j)(hi:l[i]?=some x)(c:l[j]?=some y):Lt x y:=by
 obtain⟨d,rfl⟩:=List.getElem?_eq_some_iff.1 hi;obtain⟨b,rfl⟩:=List.getElem?_eq_some_iff.1 c;exact List.pairwise_iff_getElem.1 h i j d b a
def thr(l:List (List Int))(k:List Int):Bool:=decide (l[plc l k]?=some k)
theorem Eu(h:Srt l):thr l k=true<->k∈l:=by
 simp only[thr,decide_eq_true_eq];constructor
 ·intro e;exact List.mem_of_getElem? e
 intro e;obtain⟨j,a⟩:=List.getElem?_of_mem e;have:plc l k=j:=vf (by have:=(List.getElem?_eq_some_iff.1 a).1;omega) (λi x hi hx=>h.get hi hx a) (λx hx=>by rw[a] at hx;cases hx;exact lt_irrefl k);rw[this];exact a
end
end Pg
end
section
namespace Pg
open Go.RowKit Go.Lib
section
variable {w w':World}{D D':Nat->Prop}
structure En where
 kv:Value
 kl:List Int
 vv:Value
 vl:List Int
structure EnA(w:World)(D:Nat->Prop)(e:En):Prop where
 k:OB w D e.kv e.kl
 v:OB w D e.vv e.vl
theorem EnA.keep{e:En}(h:EnA w D e)(hb:BW w w'):EnA w' D e:=⟨h.k.keep hb,h.v.keep hb⟩
theorem EnA.mono{e:En}(h:EnA w D e)(hD:∀ b,b < w.heap.size->D b->D' b):EnA w D' e:=⟨h.k.mono hD,h.v.mono hD⟩
def flat:List En->List Value
 | []=>[]
 | e :: l=>e.kv :: e.vv :: flat l
theorem jY:∀ (l:List En),(flat l).length=l.length * 2
 | []=>rfl
 | e :: l=>by simp[flat,jY l];omega
theorem eZ:∀ (a b:List En),flat (a ++ b)=flat a ++ flat b
 | [],b=>rfl
 | e :: a,b=>by simp[flat,eZ a b]
theorem rB:∀ {l:List En} {i:Nat} {e:En},l[i]?=some e->(flat l)[i * 2]?=some e.kv
 | [],_,_,h=>by simp at h
 | x :: l,0,e,h=>by simp at h;subst h;rfl
 | x :: l,i + 1,e,h=>by
  rw[show (i+1) * 2=i * 2+1+1 by omega,flat,List.getElem?_cons_succ,List.getElem?_cons_succ];exact rB (l:=l) (by simpa using h)
theorem lx:∀ {l:List En} {i:Nat} {e:En},l[i]?=some e->(flat l)[i * 2+1]?=some e.vv
 | [],_,_,h=>by simp at h
 | x :: l,0,e,h=>by simp at h;subst h;rfl
 | x :: l,i + 1,e,h=>by
  rw[show (i+1) * 2+1=i * 2+1+1+1 by omega,flat,List.getElem?_cons_succ,List.getElem?_cons_succ];exact lx (l:=l) (by simpa using h)
theorem iN:∀ (l:List En) (i:Nat),(flat l).take (i * 2)=flat (l.take i)
 | [],i=>by simp[flat]
 | x :: l,0=>by simp[flat]
 | x :: l,i + 1=>by
  rw[show (i+1) * 2=i * 2+1+1 by omega,flat,List.take_succ_cons,List.take_succ_cons,iN l i,List.take_succ_cons,flat]
theorem iE:∀ (l:List En) (i:Nat),(flat l).drop (i * 2)=flat (l.drop i)
 | [],i=>by simp[flat]
 | x :: l,0=>by simp
 | x :: l,i + 1=>by
  rw[show (i+1) * 2=i * 2+1+1 by omega,flat,List.drop_succ_cons,List.drop_succ_cons,iE l i,List.drop_succ_cons]
theorem jI:∀ {l:List En},(∀ e∈l,EnA w D e)->∀ v∈flat l,v.oneCell'=true
 | [],_,v,h=>by simp[flat] at h
 | x :: l,h,v,hv=>by
  have hx:=h x List.mem_cons_self;rcases List.mem_cons.1 hv with rfl | hv
  ·exact hx.k.one
  rcases List.mem_cons.1 hv with rfl | hv
  ·exact hx.v.one
  exact jI (l:=l) (λe he=>h e (List.mem_cons_of_mem _ he)) v hv
theorem oc:∀ {l:List En} {i:Nat} {e:En} (u:Value) (ul:List Int),l[i]?=some e->(flat l).set (i * 2+1) u=flat (l.set i { e with vv:=u,vl:=ul })
 | [],_,_,_,_,h=>by simp at h
 | x :: l,0,e,u,ul,h=>by simp at h;subst h;simp[flat]
 | x :: l,i + 1,e,u,ul,h=>by
  rw[show (i+1) * 2+1=i * 2+1+1+1 by omega,flat,List.set_cons_succ,List.set_cons_succ,oc (l:=l) u ul (by simpa using h),List.set_cons_succ,flat]
def kys(l:List En):List (List Int):=l.map En.kl
structure Pg where
 b:Nat
 c:Nat
 es:List En
def Pg.v(p:Pg):Value:=.slice (some ⟨p.b,0,none⟩) p.es.length p.c
structure PgA(w:World)(D:Nat->Prop)(p:Pg):Prop where
 row:Rw w 197 2 p.b p.es.length p.c (flat p.es)
 fa:∀ e∈p.es,EnA w D e
theorem PgA.keep{p:Pg}(h:PgA w D p)(hb:BW w w'):PgA w' D p:=⟨h.row.keep hb,λe he=>(h.fa e he).keep hb⟩
theorem PgA.one{p:Pg}(h:PgA w D p):∀ v∈flat p.es,v.oneCell'=true:=jI h.fa
theorem cmpE{kv vv v:Value}{l b:List Int}(h:By w kv l)(c:By w v b) :
  Calls Tryz.prog 202 #[.agg #[kv,vv],v] w λe w'=>e=.returned (.int .i64 (dm l b))/\BW w w':=by
 have hb:=aa w (.cells #[kv,vv] 197);have d:=lS (h.keep hb) (c.keep hb);have B:=ay w [kv,vv] 197;have q0:=B.cell (i:=0) rfl;clear h c B;generalize dm l b=x at *;go_enter Tryz.func202,Tryz.ntmps202;go_wp2_with (go_at_call 200;refine d.mono ?_;rintro e f ⟨rfl,rfl⟩);go_ret;exact⟨rfl,hb⟩
end
section
variable {w:World}{D:Nat->Prop}{p:Pg}{v:Value}{k:List Int}
theorem bsE(A:PgA w D p)(S:Srt (kys p.es))(h:By w v k)(hn:p.es.length<=1000000) :
  Calls Tryz.prog 201 #[p.v,v,.func (.func 202) #[] #[]] w λe w'=>e=.returned (.tuple #[.int .i64 (plc (kys p.es) k),.bool (thr (kys p.es) k)])/\BW w w':=by
 obtain⟨b,c,es⟩:=p;simp only[Pg.v] at *;have r:=A.row.le;simp only[maxLen] at r;have t:=r.1;have K:=r.2;obtain⟨n,J⟩:∃ n,es.length=n:=⟨_,rfl⟩
 rw[J] at hn t ⊢;go_enter Tryz.func201,Tryz.ntmps201;go_wp2;go_loopw [9,10] (λI H wr=>∃ i j:Nat,I=.int .i64 i/\H=.int .i64 j/\i<=j/\j<=n/\Hid (∀ q x,q < i->(kys es)[q]?=some x->Lt x k)/\Hid (∀ q x,j<=q->(kys es)[q]?=some x->¬ Lt x k)/\BW w wr) (λI H _=>(intOf H).toNat - (intOf I).toNat)
 case atStart=>exact⟨0,n,rfl,rfl,Nat.zero_le _,Nat.le_refl _,λq x hq=>by omega,λq x hq hx=>by
  have:=(List.getElem?_eq_some_iff.1 hx).1;simp[kys] at this
  omega,Below.refl _ _⟩
 case round =>
  obtain⟨i,j,rfl,rfl,P,C,H1,L,g⟩:=hrel;by_cases O:i < j
  ·obtain⟨m,hm⟩:∃ m,m=(i+j) / 2:=⟨_,rfl⟩
   have W:i<=m:=by omega
   have R:m < j:=by omega
   obtain⟨e,he⟩:∃ e,es[m]?=some e:=⟨es[m],List.getElem?_eq_getElem (by omega)⟩
   have f:=A.keep g;have q0:=f.row.cell (rB he);have q1:=f.row.cell (lx he)
   have U:IntKind.i64.wrap ((i:Int)+(j:Int))=(i:Int)+(j:Int):=by rw[IntKind.wrap_i64];omega
   have Q:((i:Int)+(j:Int)) / 2 < n:=by omega
   have V:(0:Int)<=((i:Int)+(j:Int)) / 2:=by omega
   have T:IntKind.i64.wrap (((i:Int)+(j:Int)) / 2)=((i:Int)+(j:Int)) / 2:=by rw[IntKind.wrap_i64];omega
   have o:=cmpE (vv:=e.vv) ((f.fa e (List.mem_of_getElem? he)).k.by) (h.keep g)
   have hk:(kys es)[m]?=some e.kl:=by simp[kys,he]
   rw[hm] at q0 q1
   have u:Hid (m=(i+j) / 2):=hm;clear f hm;by_cases hc:Lt e.kl k
   ·rw[pQ hc] at o;go_wp2_with (go_at_call 202;refine o.mono ?_;rintro N M ⟨rfl,d⟩);go_roundw
    case rel=>exact⟨m + 1,j,by have:=u.out; congr 1; omega,rfl,by omega,C,λq x hq hx=>by
     by_cases l:q=m
     ·subst l;rw[hk] at hx;cases hx;exact hc
     exact S.get (by omega) hx hk |>.trans hc,L.out,ae g d⟩
    case measure=>have:=u.out;simp[intOf];omega
   have F:¬ (dm e.kl k < 0):=by
    rcases jF e.kl k with q | q | q
    ·exact absurd q hc
    ·rw[q];decide
    rw[q];decide
   generalize dm e.kl k=x at o F;go_wp2_with (go_at_call 202;refine o.mono ?_;rintro N M ⟨rfl,d⟩);go_roundw
   case rel=>exact⟨i,m,rfl,by have:=u.out; congr 1; omega,by omega,by omega,H1.out,λq x hq hx=>by
    by_cases l:q=m
    ·subst l;rw[hk] at hx;cases hx;exact hc
    intro E
    exact hc ((S.get (by omega) hk hx).trans E),ae g d⟩
   case measure=>have:=u.out;simp[intOf];omega
  have G:i=j:=by omega
  subst G
  have B:Hid (plc (kys es) k=i):=vf (by simp[kys];omega) (λq x hq hx=>H1.out q x hq hx) (λx hx=>L.out i x (Nat.le_refl _) hx)
  have f:=A.keep g;by_cases X:i < n
  ·obtain⟨e,he⟩:∃ e,es[i]?=some e:=⟨es[i],List.getElem?_eq_getElem (by omega)⟩
   have q0:=f.row.cell (rB he);have q1:=f.row.cell (lx he)
   have hk:(kys es)[i]?=some e.kl:=by simp[kys,he]
   have o:=cmpE (vv:=e.vv) ((f.fa e (List.mem_of_getElem? he)).k.by) (h.keep g)
   have y:Hid (thr (kys es) k=(dm e.kl k == 0)):=by
    show _=_
    unfold thr;rw[B.out,hk];by_cases q:e.kl=k
    ·subst q;simp[iG]
    have:dm e.kl k≠0:=λz=>q (qk z)
    simp[q,this]
   have s:(i:Int) < n:=by omega
   generalize dm e.kl k=x at o y;clear f;go_wp2_with (go_at_call 202;refine o.mono ?_;rintro N M ⟨rfl,d⟩)
   all_goals (
    go_ret2;refine⟨?_,ae g d⟩;rw[y.out,B.out]
    rfl)
  have y:Hid (thr (kys es) k=false):=by
   show _=_
   unfold thr;rw[B.out,List.getElem?_eq_none (by simp[kys];omega)];rfl
  have s:¬ ((i:Int) < n):=by omega
  go_wp2;go_ret2;refine⟨?_,g⟩;rw[y.out,B.out];rfl
theorem ib(A:PgA w D p)(S:Srt (kys p.es))(h:By w v k)(hn:p.es.length<=1000000) :
  Calls Tryz.prog 152 #[p.v,v] w λe w'=>e=.returned (.tuple #[.int .i64 (plc (kys p.es) k),.bool (thr (kys p.es) k)])/\BW w w':=by
 have t:=bsE A S h hn;generalize plc (kys p.es) k=x at *;generalize thr (kys p.es) k=y at *;simp only[Pg.v] at *;clear A S h;go_enter Tryz.func152,Tryz.ntmps152;go_wp2_with (go_at_call 201;refine t.mono ?_;rintro d c ⟨rfl,b⟩);go_ret2;exact⟨rfl,b⟩
end
section
variable {w w':World}{F D:Nat->Prop}{g b:Nat}{L:List Pg}{P:List (List En)}{es:List En}
structure bR(w:World)(F D:Nat->Prop)(g:Nat)(L:List Pg):Prop where
 top:∃ pv,Blk w g [pv] 201/\F g/\((pv=.slice none 0 0/\L=[])\/∃ G C,pv=.slice (some ⟨G,0,none⟩) L.length C/\F G/\Rw w 198 1 G L.length C (L.map Pg.v))
 cM:∀ p∈L,PgA w D p/\F p.b
 apart:(L.map Pg.b).Nodup
 kind:∀ b,F b->∃ cs t,Blk w b cs t/\t≠5
theorem bR.lt(h:bR w F D g L)(hb:F b):b < w.heap.size:=by
 obtain⟨cs,t,h,_⟩:=h.kind b hb;exact h.lt
theorem bR.same(h:bR w F D g L)(h1:∀ b,F b->w'.heap[b]?=w.heap[b]?)(n:∀ b,b < w.heap.size->D b->(∃ cs,Blk w b cs 5)->w'.heap[b]?=w.heap[b]?):bR w' F D g L:=by
 obtain⟨pv,hb,j,f⟩:=h.top
 have a:∀ {v:Value} {l:List Int},OB w D v l->OB w' D v l:=λh=>⟨h.oct,h.ex.imp id (by
  rintro⟨b,c,e,i,d⟩
  exact⟨b,c,e,i,d.same (n b d.lt i d.kind)⟩)⟩
 refine⟨⟨pv,hb.same (h1 g j),j,f.imp id ?_⟩,λp f=>?_,h.apart,λb hb=>?_⟩
 ·rintro⟨G,C,e,m,d⟩;exact⟨G,C,e,m,d.same (h1 G m)⟩
 ·obtain⟨hA,hF⟩:=h.cM p f;exact⟨⟨hA.row.same (h1 _ hF),λe he=>⟨a (hA.fa e he).k,a (hA.fa e he).v⟩⟩,hF⟩
 obtain⟨cs,t,hk,o⟩:=h.kind b hb;exact⟨cs,t,hk.same (h1 b hb),o⟩
theorem bR.keep(h:bR w F D g L)(hb:BW w w'):bR w' F D g L:=h.same (λb hF=>hb.block b (h.lt hF)) (λb hl _ _=>hb.block b hl)
theorem bR.drew(h:bR w F D g L):bR w.drew F D g L:=h.same (λ_ _=>rfl) (λ_ _ _ _=>rfl)
theorem bR.chg{F':Nat->Prop}(h:bR w F D g L)(hc:Chg F' w w')(h1:∀ b,F' b->¬ F b)(c:∀ b,F' b->∀ cs,¬ Blk w b cs 5):bR w' F D g L :=
 h.same (λb hF=>hc.same b (h.lt hF) λf=>h1 b f hF) (λb a _ hk=>hc.same b a λf=>by obtain⟨cs,k⟩:=hk;exact c b f cs k)
theorem bR.noU(h:bR w F D g L)(hb:F b)(cs:List Value):¬ Blk w b cs 5:=λk=>by
 obtain⟨cs',t,hk,ht⟩:=h.kind b hb;exact ht (hk.eq k).2
theorem bR.mono{D':Nat->Prop}(h:bR w F D g L)(c:∀ b,b < w.heap.size->D b->D' b):bR w F D' g L :=
 ⟨h.top,λp a=>⟨⟨(h.cM p a).1.row,λe he=>((h.cM p a).1.fa e he).mono c⟩,(h.cM p a).2⟩,h.apart,h.kind⟩
def ens(L:List Pg):List (List En):=L.map Pg.es
def fks(P:List (List En)):List (List Int):=P.map λes=>(kys es).headD []
def plq:List (List Int)->List Int->Nat
 | [],_=>0
 | x :: l,k=>if Lt k x then 0 else plq l k+1
theorem pJ:∀ (l:List (List Int)) (k:List Int),plq l k<=l.length
 | [],_=>Nat.le_refl _
 | x :: l,k=>by
  rw[plq];split
  ·simp
  have:=pJ l k;simp;omega
theorem zy:∀ {l:List (List Int)} {k:List Int} {i:Nat},i<=l.length->(∀ j x,j < i->l[j]?=some x->¬ Lt k x)->(∀ x,l[i]?=some x->Lt k x)->plq l k=i
 | [],_,i,h,_,_=>by simp at h;subst h;rfl
 | x :: l,k,0,_,_,h3=>by rw[plq,if_pos (h3 x rfl)]
 | x :: l,k,i + 1,h1,h2,h3=>by
  rw[plq,if_neg (h2 0 x (by omega) rfl),zy (l:=l) (i:=i) (by simpa using h1) (λj y hj hy=>h2 (j+1) y (by omega) (by simpa using hy)) (λy hy=>h3 y (by simpa using hy))]
theorem C0:∀ {l:List (List Int)} {k:List Int} {j:Nat} {x:List Int},j < plq l k->l[j]?=some x->¬ Lt k x
 | [],_,_,_,h,_=>by simp[plq] at h
 | y :: l,k,j,x,h,hx=>by
  rw[plq] at h;split at h
  ·omega
  cases j with
  | zero=>simp at hx;subst hx;assumption
  | succ j=>exact C0 (l:=l) (j:=j) (by omega) (by simpa using hx)
theorem Bp:∀ {l:List (List Int)} {k:List Int} {x:List Int},l[plq l k]?=some x->Lt k x
 | [],_,_,h=>by simp at h
 | y :: l,k,x,h=>by
  rw[plq] at h;split at h
  ·simp at h;subst h;assumption
  exact Bp (l:=l) (by simpa using h)
def pgi(P:List (List En))(k:List Int):Nat:=plq (fks P) k - 1
structure Ord(P:List (List En)):Prop where
 full:∀ es∈P,es≠[]
 ye:Srt (kys P.flatten)
theorem Ord.page(h:Ord P){i:Nat}(hi:P[i]?=some es):Srt (kys es):=by
 have hm:=List.mem_of_getElem? hi;have:(kys es).Sublist (kys P.flatten):=(List.sublist_flatten_of_mem hm).map _;exact h.ye.sublist this
theorem kJ(h:es≠[]):∃ e l,es=e :: l/\(kys es).headD []=e.kl:=by
 cases es with
 | nil=>exact absurd rfl h
 | cons e l=>exact⟨e,l,rfl,rfl⟩
theorem Ord.zi:∀ {P:List (List En)},Ord P->Srt (fks P)
 | [],_=>List.Pairwise.nil
 | es :: P,h=>by
  have h2:Ord P:=⟨λx hx=>h.full x (List.mem_cons_of_mem _ hx),by
   have:=h.ye;simp only[Srt,kys,List.flatten_cons,List.map_append,List.pairwise_append] at this
   exact this.2.1⟩
  refine List.Pairwise.cons (λx hx=>?_) (Ord.zi h2);obtain⟨fs,a,rfl⟩:=List.mem_map.1 hx;obtain⟨e,l,rfl,he⟩:=kJ (h.full es List.mem_cons_self);obtain⟨f,m,rfl,hf⟩:=kJ (h2.full fs a)
  show Lt e.kl f.kl
  have:=h.ye;simp only[Srt,kys,List.flatten_cons,List.map_append,List.pairwise_append] at this;exact this.2.2 e.kl (by simp) f.kl (List.mem_map.2 ⟨f,List.mem_flatten.2 ⟨_,a,List.mem_cons_self⟩,rfl⟩)
end
section
variable {L:List Pg}{i g:Nat}{p:Pg}{w:World}{F D:Nat->Prop}{v:Value}{k:List Int}{P:List (List En)}
theorem rF(h:L[i]?=some p):(ens L)[i]?=some p.es:=by simp[ens,h]
theorem E7(h:L[i]?=some p):(fks (ens L))[i]?=some ((kys p.es).headD []):=by simp[ens,fks,h]
theorem bR.head(A:bR w F D g L)(O:Ord (ens L))(h:L[i]?=some p):∃ kv,w.cell? ⟨p.b,0,none⟩=some kv/\By w kv ((kys p.es).headD []):=by
 have a:=List.mem_of_getElem? h
 have hm:p.es∈ens L:=List.mem_map.2 ⟨p,a,rfl⟩;obtain⟨e,l,he,hk⟩:=kJ (O.full _ hm);obtain⟨hA,_⟩:=A.cM p a;have q:=hA.row.cell (i:=0) (v:=e.kv) (by rw[he];rfl);exact⟨e.kv,q,by rw[hk];exact(hA.fa e (by rw[he];exact List.mem_cons_self)).k.by⟩
theorem bR.rd(A:bR w F D g L):∃ ao c,w.cell? ⟨g,0,none⟩=some (.slice ao L.length c)/\L.length<=c/\c<=9223372036854775807/\(∀ i p,L[i]?=some p->∃ G,ao=some ⟨G,0,none⟩/\w.cell? ⟨G,i,none⟩=some p.v):=by
 obtain⟨pv,hb,d,⟨rfl,rfl⟩ | ⟨G,C,rfl,e,a⟩⟩:=A.top
 ·exact⟨_,_,hb.cell (i:=0) rfl,by decide,by decide,λi p h=>by simp at h⟩
 have b:=a.le;simp only[maxLen] at b;exact⟨_,C,hb.cell (i:=0) rfl,by omega,by omega,λi p h=>⟨G,rfl,a.cell (by simp[h])⟩⟩
theorem jq(A:bR w F D g L)(O:Ord (ens L))(h:By w v k)(hn:L.length<=1000000000) :
  Calls Tryz.prog 151 #[.pointer (some ⟨g,0,none⟩),v] w λe w'=>e=.returned (.int .i64 (pgi (ens L) k))/\BW w w':=by
 obtain⟨R,c,hc,Q,hc2,M⟩:=A.rd;have l:=O.zi;obtain⟨s,r⟩:∃ s,Hid (fks (ens L)=s):=⟨_,rfl⟩
 rw[r.out] at l;obtain⟨n,t⟩:∃ n,Hid (L.length=n):=⟨_,rfl⟩
 rw[t.out] at hc Q hn
 have hkl:s.length=n:=by rw[<- r.out,<- t.out];simp[fks,ens]
 have P:BW w w.drew:=⟨rfl,rfl,rfl,Nat.le_refl _,λ_ _=>rfl⟩
 have hcd:w.drew.cell? ⟨g,0,none⟩=some (.slice R n c):=hc
 have d:∀ (i:Nat),i<=n->(∀ q x,q < i->s[q]? = some x->¬ Lt k x)->(∀ q x,i<=q->s[q]? = some x->Lt k x)->pgi (ens L) k=i - 1:=λi hi h1 h2=>by
  unfold pgi;rw[r.out,zy (i:=i) (by omega) (λj x hj hx=>h1 j x hj hx) (λx hx=>h2 i x (Nat.le_refl _) hx)]
 have d:Hid _:=d;have mixed:=mixed;go_enter Tryz.func151,Tryz.ntmps151;go_wp2;go_step3;go_wp2;go_region;go_wp2;go_step3;go_wp2;go_loopw [5,6] (λJ I wr=>∃ i j:Nat,J=.int .i64 i/\I=.int .i64 j/\i<=j/\j<=n/\Hid (∀ q x,q < i->s[q]?=some x->¬ Lt k x)/\Hid (∀ q x,j<=q->s[q]?=some x->Lt k x)/\BW w wr) (λJ I _=>(intOf I).toNat - (intOf J).toNat)
 case atStart=>exact⟨0,n,rfl,rfl,Nat.zero_le _,Nat.le_refl _,λq x hq=>by omega,λq x hq hx=>by
  have:=(List.getElem?_eq_some_iff.1 hx).1
  omega,P⟩
 case round =>
  obtain⟨i,j,rfl,rfl,hij,E,H1,T,o⟩:=hrel;by_cases hlt:i < j
  ·obtain⟨m,hm⟩:∃ m,m=i+(j - i) / 2:=⟨_,rfl⟩
   have hm1:i<=m:=by omega
   have hm2:m < j:=by omega
   obtain⟨p,C⟩:∃ p,L[m]?=some p:=⟨L[m]'(by have:=t.out;omega),List.getElem?_eq_getElem _⟩
   have X:=A.keep o
   have c0:wr.cell? ⟨g,0,none⟩=some (.slice R n c):=by
    rw[o.cell (p:=⟨g,0,none⟩) (by obtain⟨_,hb,_⟩:=A.top;exact hb.lt)];exact hc
   obtain⟨G,rfl,Y⟩:=M m p C
   have z:wr.cell? ⟨G,m,none⟩=some p.v:=by
    rw[o.cell (p:=⟨G,m,none⟩) (aC Y)];exact Y
   obtain⟨kv,cK,S⟩:=X.head O C
   have b:s[m]?=some ((kys p.es).headD []):=by rw[<- r.out];exact E7 C
   have hpe:0 < p.es.length:=by
    have:=O.full p.es (List.mem_map.2 ⟨p,List.mem_of_getElem? C,rfl⟩);exact List.length_pos_iff.2 this
   simp only[Pg.v] at z;rw[hm] at z;have u:=lS S (h.keep o);generalize (kys p.es).headD []=V at *
   have y:Hid (m=i+(j - i) / 2):=hm
   have hz0:(0:Int)<=(i:Int)+((j:Int) - (i:Int)) / 2:=by omega
   have hz1:(i:Int)+((j:Int) - (i:Int)) / 2 < n:=by omega
   have hz2:((i:Int)+((j:Int) - (i:Int)) / 2).toNat=i+(j - i) / 2:=by omega
   generalize p.es.length=pn at *;clear X hm S;rcases qy V k with hc | hc | hc
   ·rw[pQ hc] at u;go_wp2_with (go_at_call 200;refine u.mono ?_;rintro W U ⟨rfl,rfl⟩);go_roundw
    case rel=>exact⟨m + 1,j,by have:=y.out; congr 1; omega,rfl,by omega,E,λq x hq hx=>by
     by_cases f:q=m
     ·subst f;rw[b] at hx;cases hx;exact hc.not
     exact((l.get (by omega) hx b).trans hc).not,T.out,o⟩
    case measure=>have:=y.out;simp[intOf];omega
   ·have hF:=d.out (m + 1) (by omega) (λq x hq hx=>by
     subst hc;by_cases f:q=m
     ·subst f;rw[b] at hx;cases hx;exact lt_irrefl _
     exact(l.get (by omega) hx b).not) (λq x hq hx=>by subst hc;exact l.get (by omega) b hx)
    have B:Hid (pgi (ens L) k=m):=by show _=_;rw[hF];omega
    have HC:Hid (V=k):=hc;rw[hc,iG] at u
    have hx0:(i:Int)+((j:Int) - (i:Int)) / 2+1 - 1=(i:Int)+((j:Int) - (i:Int)) / 2:=by omega
    have N:¬ ((i:Int)+((j:Int) - (i:Int)) / 2 < 0):=by omega
    clear hF hc;go_wp2_with (go_at_call 200;refine u.mono ?_;rintro W U ⟨rfl,rfl⟩);simp only[Exit.noGoto_ret];go_ret;refine⟨?_,o⟩;rw[B.out];have:=y.out
    show Ending.returned (Value.int .i64 ((i:Int)+((j:Int) - (i:Int)) / 2))=_
    rw[show (i:Int)+((j:Int) - (i:Int)) / 2=(m:Int) by omega]
   rw[Fj hc] at u;go_wp2_with (go_at_call 200;refine u.mono ?_;rintro W U ⟨rfl,rfl⟩);go_roundw
   case rel=>exact⟨i,m,rfl,by have:=y.out; congr 1; omega,by omega,by omega,H1.out,λq x hq hx=>by
    by_cases f:q=m
    ·subst f;rw[b] at hx;cases hx;exact hc
    exact hc.trans (l.get (by omega) b hx),o⟩
   case measure=>have:=y.out;simp[intOf];omega
  have H:i=j:=by omega
  subst H
  have B:Hid (pgi (ens L) k=i - 1):=d.out i (by omega) H1.out T.out;by_cases K:i=0
  ·subst K;go_wp2
   try simp only[Exit.noGoto_ret]
   go_ret;refine⟨?_,o⟩;rw[B.out];rfl
  have N:¬ ((i:Int) - 1 < 0):=by omega
  have Z:(0:Int)<=(i:Int) - 1:=by omega
  go_wp2
  try simp only[Exit.noGoto_ret]
  go_ret;refine⟨?_,o⟩;rw[B.out]
  show Ending.returned (Value.int .i64 ((i:Int) - 1))=_
  rw[show (i:Int) - 1=((i - 1:Nat):Int) by omega]
theorem pgi_lt(h:P≠[])(k:List Int):pgi P k < P.length:=by
 have h1:=pJ (fks P) k
 have h2:0 < P.length:=List.length_pos_iff.2 h;simp only[fks,List.length_map] at h1;unfold pgi fks;omega
theorem og(A:bR w F D g []) :
  Calls Tryz.prog 103 #[.pointer (some ⟨g,0,none⟩),v] w λe w'=>e=.returned (.tuple #[.int .i64 0,.int .i64 0,.bool false])/\w'=w:=by
 obtain⟨i,c,hc,f,d,b⟩:=A.rd;simp only[List.length_nil] at hc;clear A b;go_enter Tryz.func103,Tryz.ntmps103;go_wp2;go_ret3;exact⟨rfl,rfl⟩
theorem mf{F D:Nat→Prop}(A:bR w F D g L)(O:Ord (ens L))(h:By w v k)(hp:L[pgi (ens L) k]?=some p)(hn:L.length≤1000000000:=by omega)(hs:p.es.length≤1000000:=by omega) :
    Calls Tryz.prog 103 #[.pointer (some ⟨g,0,none⟩),v] w λe w'=>e=.returned (.tuple #[.int .i64 (pgi (ens L) k),.int .i64 (plc (kys p.es) k),.bool (thr (kys p.es) k)])∧BW w w':=by
  have C:=jq A O h hn;have s:=(List.getElem?_eq_some_iff.1 hp).1;have f:=List.mem_of_getElem? hp
  have B : ∀ w', BW w w' → Calls Tryz.prog 152 #[p.v, v] w' λe o => e = .returned (.tuple #[.int .i64 (plc (kys p.es) k), .bool (thr (kys p.es) k)]) ∧ BW w' o := λw' hb =>
    ib ((A.cM p f).1.keep hb) (O.page (rF hp)) (h.keep hb) hs
  obtain⟨M,c,hc,z,K,j⟩:= A.rd;obtain⟨G,rfl,E⟩:= j _ p hp;have q:=aC hc;have l:=aC E;generalize pgi (ens L) k=i at *;generalize plc (kys p.es) k=x at *;generalize thr (kys p.es) k=y at *;obtain⟨n,u⟩:∃ n,L.length=n:=⟨_,rfl⟩;rw[u] at hc z s
  have H:¬ ((n:Int)=0):=by omega
  have I:(i:Int) < n:=by omega
  simp only[Pg.v] at *;clear A O h j hp f;go_enter Tryz.func103,Tryz.ntmps103;go_wp2_with (first | (go_at_call 151;refine C.mono ?_;rintro J r ⟨rfl,d⟩;have c1:r.cell? ⟨g,0,none⟩=some (.slice (some ⟨G,0,none⟩) n c):=(d.cell (p:=⟨g,0,none⟩) q).trans hc;have c2:r.cell? ⟨G,i,none⟩=some (.slice (some ⟨p.b,0,none⟩) p.es.length p.c):=(d.cell (p:=⟨G,i,none⟩) l).trans E;have m:=B r d;clear C B) | (go_at_call 152;refine m.mono ?_;rintro J N ⟨rfl,t⟩));go_ret3;exact⟨rfl,ae d t⟩
end
section
variable {w w1:World}{F D:Nat->Prop}{g G n c i j:Nat}{L L':List Pg}{cs ds xs:List Value}{p q:Pg}{c0:Value}
theorem bR.opn(A:bR w F D g L)(h:L≠[]):∃ G C,Blk w g [.slice (some ⟨G,0,none⟩) L.length C] 201/\F g/\F G/\Rw w 198 1 G L.length C (L.map Pg.v):=by
 obtain⟨pv,hb,b,⟨rfl,rfl⟩ | ⟨G,C,rfl,c,a⟩⟩:=A.top
 ·exact absurd rfl h
 exact⟨G,C,hb,b,c,a⟩
theorem eF{a b:Nat}{t u:TypeId}(h:Blk w a cs t)(h':Blk w b ds u)(ht:t≠u):a≠b:=λe=>by subst e;exact ht (h.eq h').2
theorem PgA.ff(h:PgA w D p)(hg:Blk w g cs 201):p.b≠g:=by
 obtain⟨ds,k⟩:=h.row.kind;exact eF k hg (by decide)
theorem PgA.fg(h:PgA w D p)(hG:Rw w 198 1 G n c xs):p.b≠G:=by
 obtain⟨ds,k⟩:=h.row.kind;obtain⟨es,k'⟩:=hG.kind;exact eF k k' (by decide)
theorem Rw.ff(hG:Rw w 198 1 G n c xs)(hg:Blk w g cs 201):G≠g:=by
 obtain⟨es,k'⟩:=hG.kind;exact eF k' hg (by decide)
theorem mG(h:(L.map Pg.b).Nodup)(hi:L[i]?=some p)(c:L[j]?=some q)(a:i < j):p.b≠q.b:=by
 obtain⟨l1,e1⟩:=List.getElem?_eq_some_iff.1 hi;obtain⟨d,e2⟩:=List.getElem?_eq_some_iff.1 c;have:=List.pairwise_iff_getElem.1 h i j (by simpa using l1) (by simpa using d) a;simpa[e1,e2] using this
theorem rS(h:(L.map Pg.b).Nodup)(hi:L[i]?=some p)(hj:L[j]?=some q)(hij:i≠j):p.b≠q.b:=by
 rcases Nat.lt_or_gt_of_ne hij with k | k
 ·exact mG h hi hj k
 exact(mG h hj hi k).symm
theorem Cw(h:∀ (i j:Nat) (p q:Pg),L[i]?=some p->L[j]?=some q->i < j->p.b≠q.b):(L.map Pg.b).Nodup:=by
 refine List.pairwise_iff_getElem.2 λi j e c a=>?_
 have l1:i < L.length:=by simpa using e
 have d:j < L.length:=by simpa using c
 simpa using h i j _ _ (List.getElem?_eq_getElem l1) (List.getElem?_eq_getElem d) a
theorem EnA.off{w':World}{e:En}(h:EnA w D e)(g:∀ b,b < w.heap.size->(∃ cs,Blk w b cs 5)->w'.heap[b]?=w.heap[b]?):EnA w' D e:=by
 have a:∀ {v:Value} {l:List Int},OB w D v l->OB w' D v l:=λh=>⟨h.oct,h.ex.imp id (by
  rintro⟨b,c,e,f,d⟩
  exact⟨b,c,e,f,d.same (g b d.lt d.kind)⟩)⟩
 exact⟨a h.k,a h.v⟩
theorem bR.put{D':Nat->Prop}{C:Nat}{p':Pg}(A:bR w F D g L)(J:Blk w g [.slice (some ⟨G,0,none⟩) L.length C] 201)(I:F g)(s:F G)(B:Rw w 198 1 G L.length C (L.map Pg.v))(hi:L[i]?=some p)(hC:Chg (·=p.b) w w1)(hb:p'.b=p.b\/w.heap.size<=p'.b)(hA:PgA w1 D' p')(U:∀ b,b < w.heap.size->D b->D' b) :
  bR (w1.setCell ⟨G,i,none⟩ p'.v) (λx=>(F x/\x≠p.b)\/x=p'.b) D' g (L.set i p')/\Chg F w (w1.setCell ⟨G,i,none⟩ p'.v):=by
 have h:=(List.getElem?_eq_some_iff.1 hi).1;have M:=A.cM p (List.mem_of_getElem? hi);have Q:=M.1.ff J;have R:=M.1.fg B;have T:=B.ff J
 have K:Blk w1 g _ _:=J.chg hC (λe=>Q e.symm);have l:=B.chg hC (λe=>R e.symm);have z:=l.set i (by simpa using h) p'.v
 have O:p'.b≠G:=hA.fg l
 have r:Chg F w (w1.setCell ⟨G,i,none⟩ p'.v):=(hC.mono (F':=F) (λb _ e=>by subst e;exact M.2)).cell (.inl s) _
 have H:∀ b,b < w.heap.size->(∃ cs,Blk w b cs 5)->(w1.setCell ⟨G,i,none⟩ p'.v).heap[b]? = w.heap[b]? := λb hb hk=>by
  obtain⟨cs,k⟩:=hk;exact r.same b hb λf=>A.noU f cs k
 have c:∀ b,b≠G->(w1.setCell ⟨G,i,none⟩ p'.v).heap[b]?=w1.heap[b]?:=λb hb=>Below.heap_setCell w1 _ _ b hb
 refine⟨⟨⟨_,K.off (λe=>T e.symm) _,.inl ⟨I,λe=>Q e.symm⟩,.inr ⟨G,C,?_,.inl ⟨s,λe=>R e.symm⟩,?_⟩⟩,λq hq=>?_,Cw λx y a b hx hy N=>?_,λb hb=>?_⟩,r⟩
 ·rw[List.length_set]
 ·rw[List.length_set];refine z.to ?_
  rw[List.map_set]
 ·obtain⟨j,m⟩:=List.getElem?_of_mem hq;rw[List.getElem?_set] at m;by_cases e:i=j
  ·subst e;rw[if_pos rfl,if_pos h] at m
   cases m;refine⟨⟨hA.row.same (c _ O),λe he=>(hA.fa e he).off λb _ hk=>?_⟩,.inr rfl⟩;obtain⟨cs,k⟩:=hk;obtain⟨P,E⟩:=l.kind;exact c b (eF k E (by decide))
  rw[if_neg e] at m;have d:=A.cM q (List.mem_of_getElem? m)
  have o:q.b≠p.b:=λn=>rS A.apart hi m e n.symm
  exact⟨⟨(d.1.row.chg hC o).same (c _ (d.1.fg B)),λe he=>((d.1.fa e he).mono U).off H⟩,.inl ⟨d.2,o⟩⟩
 ·have key:∀ (y:Nat) (b:Pg),y≠i->L[y]? = some b->p'.b≠b.b:=λy b hy u=>by
   rcases hb with e | e
   ·rw[e];exact rS A.apart hi u (λn=>hy n.symm)
   have:=(A.cM b (List.mem_of_getElem? u)).1.row.lt;omega
  rw[List.getElem?_set] at hx hy;by_cases e:i=x
  ·subst e;rw[if_pos rfl,if_pos h] at hx
   cases hx;rw[if_neg (by omega)] at hy;exact key y b (by omega) hy
  rw[if_neg e] at hx;by_cases n:i=y
  ·subst n;rw[if_pos rfl,if_pos h] at hy
   cases hy;exact(key x a (by omega) hx).symm
  rw[if_neg n] at hy;exact mG A.apart hx hy N
 by_cases e:b=p'.b
 ·subst e;obtain⟨cs,k⟩:=hA.row.kind;exact⟨cs,_,k.same (c _ O),by decide⟩
 obtain⟨hF,e2⟩:=hb.resolve_right e;obtain⟨cs,t,k,S⟩:=A.kind b hF;by_cases e1:b=G
 ·subst e1;obtain⟨P,E⟩:=z.kind;exact⟨P,_,E,by decide⟩
 exact⟨cs,t,(k.chg hC e2).same (c b e1),S⟩
theorem lH{G' C':Nat}(J:∀ p∈L',PgA w D p/\F p.b)(z:(L'.map Pg.b).Nodup)(hk:∀ b,F b->∃ cs t,Blk w b cs t/\t≠5)(H:Blk w g [c0] 201)(r:F g)(A:F G)(h:G≠g)(hC:Chg (·=G) w w1)(j:∀ p∈L',p.b≠G)(hn:L'.length=n)(E:Rw w1 198 1 G' n C' (L'.map Pg.v)) :
  bR (w1.setCell ⟨g,0,none⟩ (.slice (some ⟨G',0,none⟩) n C')) (λx=>(F x/\x≠G)\/x=G') D g L'/\Chg F w (w1.setCell ⟨g,0,none⟩ (.slice (some ⟨G',0,none⟩) n C')):=by
 subst hn
 have m:Blk w1 g [c0] 201:=H.chg hC (λe=>h e.symm);have o:=m.setCell (i:=0) (.slice (some ⟨G',0,none⟩) L'.length C')
 have d:G'≠g:=E.ff m
 have a:∀ b,b≠g->(w1.setCell ⟨g,0,none⟩ (.slice (some ⟨G',0,none⟩) L'.length C')).heap[b]?=w1.heap[b]?:=λb hb=>Below.heap_setCell w1 _ _ b hb
 have l:Chg F w (w1.setCell ⟨g,0,none⟩ (.slice (some ⟨G',0,none⟩) L'.length C')):=(hC.mono (F':=F) (λb _ e=>by subst e;exact A)).cell (.inl r) _
 have C:∀ b,b < w.heap.size->(∃ cs,Blk w b cs 5)->(w1.setCell ⟨g,0,none⟩ (.slice (some ⟨G',0,none⟩) L'.length C')).heap[b]? = w.heap[b]? := λb hb u=>by
  obtain⟨cs,k⟩:=u;exact l.same b hb λf=>by
   obtain⟨I,t,y,s⟩:=hk b f;exact s (y.eq k).2
 refine⟨⟨⟨_,o,.inl ⟨r,λe=>h e.symm⟩,.inr ⟨G',C',rfl,.inr rfl,E.same (a _ d)⟩⟩,λq hq=>?_,z,λb hb=>?_⟩,l⟩
 ·have c:=J q hq;exact⟨⟨(c.1.row.chg hC (j q hq)).same (a _ (c.1.ff H)),λe he=>(c.1.fa e he).off C⟩,.inl ⟨c.2,j q hq⟩⟩
 by_cases e:b=G'
 ·subst e;obtain⟨B,k⟩:=E.kind;exact⟨B,_,k.same (a _ d),by decide⟩
 obtain⟨hF,e2⟩:=hb.resolve_right e;obtain⟨B,t,k,s⟩:=hk b hF;by_cases e1:b=g
 ·subst e1;exact⟨_,_,o,by decide⟩
 exact⟨B,t,(k.chg hC e2).same (a b e1),s⟩
theorem uv(L:List Pg):∀ v∈L.map Pg.v,v.oneCell'=true:=λv hv=>by
 obtain⟨p,_,rfl⟩:=List.mem_map.1 hv;rfl
end
section
variable {ops:Array Oper} {Q:Exit->Act->World->Prop} {S:World->Prop} {fuel:Nat} {listed:Array Bool} {a:Act} {w:World}
def GI (ops:Array Oper) (listed:Array Bool) (a:Act) (i:Nat) (d:Option Tmp):Bool :=
 Region.noSelect ops && Region.free .any ops listed i && (Region.ready .any ops listed).contains i && decide (i < ops.size) && !Region.wanted (ops.getD i default) (yielded ops a.tmps) && decide ((ops.getD i default).dst=d)
theorem cC {i:Nat} (h:i < ops.size):ops[i]?=some (ops.getD i default):=by
 simp[Array.getD,h]
theorem i3 {α β γ:Type} {p:α->β->γ->Prop}:∀ c a w,p c a w->p c a w:=λ_ _ _ h=>h
theorem iT (i:Nat) (d:Option Tmp) (v b:Value) (hv:v=b) (hS:S w) (h:wpAnyH Tryz.prog .any ops Q S fuel (listed.setIfInBounds i true) (a.put d b) w) (hc:lY ops listed a i d=true:=by kernel_rfl) (hy:∀ w',S w'->(execOp a.eval (ops.getD i default)).run Tryz.prog w'=.ok (.value v) w':=by intro _ _;kernel_rfl) (hQ:∀ c a w,Q (.panic c) (a.put d b) w->Q (.panic c) a w:=by exact λ_ _ _ h=>h):wpAnyH Tryz.prog .any ops Q S (fuel+1) listed a w:=by
 subst hv;exact re i d v hc hy hQ hS h
theorem cQ (i:Nat) (d:Option Tmp) (hS:S w) (h:wpAnyH Tryz.prog .any ops Q S fuel (listed.setIfInBounds i true) (a.put d undef) w) (hc:GI ops listed a i d=true:=by kernel_rfl) (hQ:∀ c a w,Q (.panic c) (a.put d undef) w->Q (.panic c) a w:=by exact λ_ _ _ h=>h):wpAnyH Tryz.prog .any ops Q S (fuel+1) listed a w:=by
 simp only[GI,Bool.and_eq_true,decide_eq_true_eq,Bool.not_eq_true'] at hc;obtain⟨⟨⟨⟨⟨j,b⟩,e⟩,g⟩,k⟩,f⟩:=hc;subst f;exact wpAnyH_take (cC g) j b e hQ (.inr ⟨k,rfl⟩) hS h
end
def jt (a:Act):List (Option Tmp × Value)->Act
 | []=>a
 | p :: l=>jt (a.put p.1 p.2) l
section
variable {ops:Array Oper} {Q:Exit->Act->World->Prop} {S:World->Prop} {fuel:Nat} {listed:Array Bool} {a:Act} {w:World}
section
variable {K:Act->World->Prop}{rs:List Nat}{Qc:Ending->World->Prop}
theorem qx{X:Type}{id:Nat}{c:Exit->Act->World->Prop}(upd:X->List (Option Tmp × Value))(F:X->World->Prop)(S:World->Prop)(hm:Tryz.prog.follows .mixedOrders=true)(hS:S w.drew)(h1:wpAnyH Tryz.prog .any ops (Exit.then (λa' w'=>∃ x,a'=jt a (upd x)/\F x w') (λ_ _ _=>False)) S ops.size (Array.replicate ops.size false) a w.drew)(b:∀ x w',F x w'->K (jt a (upd x)) w'):(Code.region id ops true).wp Tryz.prog (Exit.then K c) a w :=
 Code.wp_mono (λe a' w' h=>by
  cases e<;>first
   | (obtain⟨x,rfl,hF⟩:=h;exact b x w' hF)
   | exact h.elim) (wp_region_held_drew (S:=S) hm hS λ_=>h1)
theorem aY:AllReadyH Tryz.prog .any ops Q S fuel listed a w []:=AllReadyH.nil
theorem wI(i:Nat)(d:Option Tmp)(f:FuncId)(args:Array Value)(b:CP f args w Qc)(hk:∀ e w',Qc e w'->∃ v,e=.returned v/\S w'/\wpAnyH Tryz.prog .any ops Q S fuel (listed.setIfInBounds i true) (a.put d v) w')(hs:AllReadyH Tryz.prog .any ops Q S fuel listed a w rs)(hc:je ops a i d=true:=by kernel_rfl)(hrun:(execOp a.eval (ops.getD i default)).run Tryz.prog w=.ok (.enter f args) w:=by kernel_rfl):AllReadyH Tryz.prog .any ops Q S fuel listed a w (i :: rs):=by
 simp only[je,Bool.and_eq_true,decide_eq_true_eq] at hc;obtain⟨⟨g,j⟩,k⟩:=hc;subst k;refine AllReadyH.cons (cC g) (λK h=>?_) hs;rw[if_pos j];unfold Oper.wp;rw[hrun];refine b.mono λe w' he=>?_
 obtain⟨v,rfl,c,hw⟩:=hk e w' he;exact h.out _ _ c λ_=>hw
end
end
section
variable {a:Act}{w:World}{x y k n c g off:Nat}{o:Oper}{v u:Value}{ao bo:Option Addr}
theorem eK{op:Oper}{T:TypeId}{b:Nat}(m:Tryz.prog.underlying T=some (.slice 198)){z:Int}(g:z=(k:Int))(hk:k < n)(ho:op.op=.indexAddr T (.tmp x) (.tmp y):=by kernel_rfl)(hx:a.eval (.tmp x)=.slice (some ⟨b,0,none⟩) n c:=by kernel_rfl)(hy:a.eval (.tmp y)=.int .i64 z:=by kernel_rfl):(execOp a.eval op).run Tryz.prog w=.ok (.value (.pointer (some ⟨b,k,none⟩))) w:=by
 subst g
 have o:(k:Int) < n:=by omega
 have l:¬ ((k:Int) < 0):=by omega
 obtain⟨i0,hi,d,f,j⟩:=info_parts (P:=Tryz.prog) (show (Tryz.prog.info? 198).map (λi=>(i.zero,i.size,i.bytes))=some (some (.slice none 0 0),1,24) by kernel_rfl);simp only[execOp,ho,hx,hy];go_simp
theorem gj{o:Nat}(c:w.cell? ⟨g,o,none⟩=some v):(loadVar 199 ⟨g,o,none⟩).run Tryz.prog w=.ok v w:=by go_simp
theorem pH{o:Nat}(c:w.cell? ⟨g,o,none⟩=some v):(loadVar 198 ⟨g,o,none⟩).run Tryz.prog w=.ok v w:=by go_simp
theorem ld_e(c:w.cell? ⟨g,0,none⟩=some v)(d:w.cell? ⟨g,1,none⟩=some u):(loadVar 197 ⟨g,0,none⟩).run Tryz.prog w=.ok (.agg #[v,u]) w:=by go_simp
theorem ji{T:TypeId}(k:Nat)(b:(loadVar T ⟨g,off,none⟩).run Tryz.prog w=.ok v w)(ho:o.op=.load T (.tmp k):=by kernel_rfl)(hp:a.eval (.tmp k)=.pointer (some ⟨g,off,none⟩):=by kernel_rfl):(execOp a.eval o).run Tryz.prog w=.ok (.value v) w:=by
 simp only[execOp,ho,hp];simp[Instr.loadAt,Instr.sureAddr,Result.andThen,b]
theorem lA(k q:Nat)(hc:w.cell? ⟨g,off,none⟩=some u)(hf:w.frozen? ⟨g,off,none⟩=false)(ho:o.op=.store 198 (.tmp k) (.tmp q):=by kernel_rfl)(hp:a.eval (.tmp k)=.pointer (some ⟨g,off,none⟩):=by kernel_rfl)(hq:a.eval (.tmp q)=.slice ao n c:=by kernel_rfl) :
    (execOp a.eval o).run Tryz.prog w=.ok .skip (w.setCell ⟨g,off,none⟩ (.slice ao n c)):=by
  simp only[execOp,ho,hp,hq];go_simp
theorem qY{kv vv:Value}(ho:o.op=.buildSlice 198 1 #[(0,.tmp k)]:=by kernel_rfl)(hk:a.eval (.tmp k)=.agg #[kv,vv]:=by kernel_rfl):(execOp a.eval o).run Tryz.prog w=.ok (.value (.slice (some ⟨w.heap.size,0,none⟩) 1 1)) (w.alloc (.cells #[kv,vv] 197)):=by
 have b:a.tmps[k]?.getD undef=.agg #[kv,vv]:=by simpa[Act.eval] using hk
 simp only[execOp,ho];go_simp
theorem DH{m d:Nat}(ho:o.op=.buildSlice 199 2 #[(0,.tmp x),(1,.tmp y)])(hx:a.eval (.tmp x)=.slice ao n c)(hy:a.eval (.tmp y)=.slice bo m d):(execOp a.eval o).run Tryz.prog w=.ok (.value (.slice (some ⟨w.heap.size,0,none⟩) 2 2)) (w.alloc (.cells #[.slice ao n c,.slice bo m d] 198)):=by
 have b:a.tmps[x]?.getD undef=.slice ao n c:=by simpa[Act.eval] using hx
 have f:a.tmps[y]?.getD undef=.slice bo m d:=by simpa[Act.eval] using hy
 simp only[execOp,ho];go_simp
end
section
variable {w:World}{D F:Nat→Prop}{p:Pg}{es:List En}{g G i j:Nat}{v u c0:Value}{L:List Pg}
theorem FK{D:Nat->Prop}(h:PgA w D p)(hs:∀ e∈es,e∈p.es):∀ e∈es,EnA w D e:=λe he=>h.fa e (hs e he)
theorem cT(w:World):BW w w.drew:=⟨rfl,rfl,rfl,Nat.le_refl _,λ_ _=>rfl⟩
theorem cD(h:g≠G)(hc:w.cell? ⟨g,j,none⟩=some u):(w.setCell ⟨G,i,none⟩ v).cell? ⟨g,j,none⟩=some u:=by
 rw[World.cell?_of_block (w:=w) (a:=⟨g,j,none⟩) (Below.heap_setCell w _ v g h)];exact hc
theorem F9{α:Type}(L:List α)(i:Nat)(a b:α)(h:i < L.length):(L.set i a).take (i+1) ++ [b] ++ (L.set i a).drop (i+1)=L.take i ++ [a,b] ++ L.drop (i+1):=by
 have e1:(L.set i a).take (i+1)=L.take i ++ [a]:=by
  rw[List.take_add_one,List.take_set_of_le (Nat.le_refl _),List.getElem?_set_self h];rfl
 rw[e1,List.drop_set_of_lt (by omega)];simp
theorem yS{d j z:World}{u:Nat→Prop}{n m C c c2 t I:Nat}{q1:Pg}(V:bR d u D g (L.set i q1))(s:∀ b,u b→F b∨w.heap.size≤b)(J:Chg F w d)(hgx:Blk d g [.slice (some ⟨G,0,none⟩) (L.set i q1).length C] 201)(S:Blk j g [c0] 201)(Q:u g)(A:u G)(H:Rw d 198 1 G (L.set i q1).length C ((L.set i q1).map Pg.v))(N:g≠G)(U:i < L.length)(R:q1.es=es.take 16)(E:(es.drop 16).length=m - 16)(hnn:L.length=n)(P:Below d.drew.heap.size d.drew j)(hb2:d.drew.heap.size≤c)(R3:Rw j 197 2 c (m - 16) c2 (flat (es.drop 16)))(E0:∀ e ∈ es,EnA d.drew D e)(T:t=G∨j.heap.size+1≤t)(R5:Rw z 198 1 t (n+1) I (((L.set i q1).map Pg.v).take (i+1) ++ [.slice (some ⟨c,0,none⟩) (m - 16) c2] ++ ((L.set i q1).map Pg.v).drop (i+1)))(B:Chg (·=G) (j.alloc (.cells #[.slice (some ⟨c,0,none⟩) (m - 16) c2] 198)) z) :
    ∃ F' p1 p2,Ending.returned (.tuple #[])=Ending.returned (.tuple #[])∧p1.es=es.take 16∧p2.es=es.drop 16∧bR (z.setCell ⟨g,0,none⟩ (.slice (some ⟨t,0,none⟩) (n+1) I)) F' D g (L.take i ++ [p1,p2] ++ L.drop (i+1))∧(∀ b,F' b→F b∨w.heap.size≤b)∧Chg F w (z.setCell ⟨g,0,none⟩ (.slice (some ⟨t,0,none⟩) (n+1) I)):=by
  obtain⟨r,o⟩:∃ r,r=j.alloc (.cells #[.slice (some ⟨c,0,none⟩) (m - 16) c2] 198):=⟨_,rfl⟩
  have M:BW d r:=by rw[o];exact ae (ae (cT d) P) (aa j _)
  have l:BW j r:=by rw[o];exact aa j _
  rw[← o] at B;have K:=V.keep M
  have q:PgA r D ⟨c,c2,es.drop 16⟩:= by
    refine⟨?_,λe he=>((E0 e (List.mem_of_mem_drop he)).keep P).keep l⟩
    show Rw r _ 2 c (es.drop 16).length c2 _
    rw[E];exact R3.keep l
  have Z:d.heap.size≤c:=hb2
  have O:(⟨c,c2,es.drop 16⟩:Pg).v=.slice (some ⟨c,0,none⟩) (m - 16) c2:=by simp only[Pg.v];rw[E]
  have y : ∀ p ∈ (L.set i q1).take (i + 1) ++ [(⟨c, c2, es.drop 16⟩ : Pg)] ++ (L.set i q1).drop (i + 1), p ∈ L.set i q1 ∨ p = ⟨c, c2, es.drop 16⟩:= λp f => by
    rcases List.mem_append.1 f with h | h
    · rcases List.mem_append.1 h with h | h
      · exact .inl (List.mem_of_mem_take h)
      · exact .inr (by simpa using h)
    · exact .inl (List.mem_of_mem_drop h)
  have hlen:((L.set i q1).take (i+1) ++ [(⟨c,c2,es.drop 16⟩:Pg)] ++ (L.set i q1).drop (i+1)).length=n+1:=by
    simp;omega
  have hold : ∀ p ∈ L.set i q1, p.b ≠ c := λp f => by
    have:=(V.cM p f).1.row.lt;omega
  obtain⟨A5,C6⟩:= lH (w:=r) (w1:=z) (F:=λx=>u x∨x=c) (D:=D) (g:=g) (G:=G) (G':=t) (C':=I) (n:=n+1) (L':=(L.set i q1).take (i+1) ++ [(⟨c,c2,es.drop 16⟩:Pg)] ++ (L.set i q1).drop (i+1))
    (λp f => by
      rcases y p f with h | rfl
      · exact⟨(K.cM p h).1,.inl (K.cM p h).2⟩
      · exact⟨q,.inr rfl⟩)
    (by
      have hn:=V.apart
      have e:(L.set i q1).map Pg.b=((L.set i q1).take (i+1)).map Pg.b ++ ((L.set i q1).drop (i+1)).map Pg.b:=by rw[← List.map_append,List.take_append_drop]
      rw[e] at hn
      have W : ∀ x ∈ ((L.set i q1).take (i + 1)).map Pg.b, x ≠ c := λx hx => by
        obtain⟨p,f,rfl⟩:= List.mem_map.1 hx;exact hold p (List.mem_of_mem_take f)
      have X : ∀ x ∈ ((L.set i q1).drop (i + 1)).map Pg.b, x ≠ c := λx hx => by
        obtain⟨p,f,rfl⟩:= List.mem_map.1 hx;exact hold p (List.mem_of_mem_drop f)
      simp only[List.map_append,List.map_cons,List.map_nil];rw[List.nodup_append] at hn;rw[List.append_assoc,List.nodup_append];refine⟨hn.1,?_,?_⟩
      · rw[List.singleton_append,List.nodup_cons]
        exact⟨λh=>X c h rfl,hn.2.1⟩
      · intro a Y b hb
        rcases List.mem_append.1 hb with hb | hb
        · simp at hb;subst hb;exact W a Y
        · exact hn.2.2 a Y b hb)
    (λb hb => by
      rcases hb with h | rfl
      · exact K.kind b h
      · obtain⟨ds,k⟩:= q.row.kind
        exact⟨ds,_,k,by decide⟩)
    (S.keep l) (.inl Q) (.inl A) (λe=>N e.symm) B
    (λp f => by
      rcases y p f with h | rfl
      · exact(K.cM p h).1.fg (H.keep M)
      · exact q.fg (H.keep M)) hlen
    (by simpa[List.map_take,List.map_drop,O] using R5)
  rw[F9 L i q1 _ U] at A5;refine⟨_,q1,⟨c,c2,es.drop 16⟩,rfl,R,rfl,A5,λb hb=>?_,(J.trans (Chg.of (F:=F) M) (λ_ _ h=>h)).trans C6 λb hb h=>?_⟩
  · rcases hb with⟨h | rfl, _⟩ | rfl
    · exact s b h
    · exact .inr (by have:=J.size;omega)
    · rcases T with rfl | h
      · exact s _ A
      · have X:=P.size
        have W:=J.size
        have:d.drew.heap.size=d.heap.size:=rfl;exact .inr (by omega)
  · rcases h with h | rfl
    · exact(s b h).resolve_right (by omega)
    · have:=J.size;omega
theorem Bc(h:j≠i)(hc:w.cell? ⟨G,j,none⟩=some u):(w.setCell ⟨G,i,none⟩ v).cell? ⟨G,j,none⟩=some u:=by
 have a:=aC hc;simp only[World.cell?,World.setCell,Array.getElem?_modify,if_true] at hc ⊢
 cases hh:w.heap[G]? with
 | none=>rw[hh] at hc;simp at hc
 | some ob =>
  rw[hh] at hc
  cases ob with
  | cells c e f =>
   simp at hc ⊢;rw[Array.getElem?_setIfInBounds,if_neg (by omega)];exact hc
  | _=>simp at hc
theorem ym(A:bR w F D g L)(hi:L[i]?=some p)(h1:17≤p.es.length)(h2:p.es.length≤1000)(hn:L.length≤100000000) :
    Calls Tryz.prog 208 #[.pointer (some ⟨g,0,none⟩),.int .i64 i] w λe w'=>∃ F' p1 p2,e=.returned (.tuple #[])∧p1.es=p.es.take 16∧p2.es=p.es.drop 16∧bR w' F' D g (L.take i ++ [p1,p2] ++ L.drop (i+1))∧(∀ b,F' b→F b∨w.heap.size≤b)∧Chg F w w':=by
  have ab:=(List.getElem?_eq_some_iff.1 hi).1
  have hL:L≠[]:=λe=>by subst e;simp at ab
  obtain⟨G,C,hg,hFg,hFG,P⟩:= A.opn hL;have N:=A.cM p (List.mem_of_getElem? hi);have cg:=hg.cell (i:=0) rfl;have cG:=P.cell (i:=i) (v:=p.v) (by simp[hi]);have hpc:=N.1.row.le;have hCC:=P.le;simp only[maxLen] at hpc hCC
  have O:w.drew.cell? ⟨g,0,none⟩=some (.slice (some ⟨G,0,none⟩) L.length C):=cg
  have t1 := AK (w := w.drew) (a := ⟨p.b, 0, none⟩) (n := 16) (c := p.c) (xs := flat (p.es.take 16)) (by decide) (by rw[jY, List.length_take]; omega) (λj v I => by
    rw[Addr.add_lit,Nat.zero_add]
    have:(flat p.es)[j]?=some v:=by
      rw[← iN,List.getElem?_take] at I;split at I
      · exact I
      · cases I
    exact N.1.row.drew.cell this) (jI (FK N.1 λe he=>List.mem_of_mem_take he))
  obtain⟨n,d⟩:∃ n,Hid (L.length=n):=⟨_,rfl⟩;obtain⟨m,s⟩:∃ m,Hid (p.es.length=m):=⟨_,rfl⟩;simp only[Pg.v] at cG;rw[d.out] at cg O;rw[s.out] at cG
  have z1:(i:Int) < n:=by have:=d.out;omega
  have z2:m≤p.c:=by have:=s.out;omega
  have z3:p.c≤9223372036854775807:=by omega
  have z4:17≤m:=by have:=s.out;omega
  have z5:16≤p.c:=by omega
  have z6:(16:Int)≤(p.c:Int):=by omega
  have o:g≠G:=λe=>P.ff hg e.symm
  have mixed:=mixed;go_enter Tryz.func208,Tryz.ntmps208;go_wp2;go_region_held3 (λw'=>w'.cell? ⟨g,0,none⟩=some (.slice (some ⟨G,0,none⟩) n C)) (first | assumption | exact cD o (by assumption))
    (first
    | (go_at_call 254;refine t1.mono ?_;rintro e' q ⟨b1,c1,rfl,ac,R1,u⟩;have cg1:q.cell? ⟨g,0,none⟩=some (.slice (some ⟨G,0,none⟩) n C):=(u.cell (p:=⟨g,0,none⟩) (aC O)).trans O;have cG1:q.cell? ⟨G,i,none⟩=some (.slice (some ⟨p.b,0,none⟩) m p.c):=(u.cell (p:=⟨G,i,none⟩) (aC (w:=w.drew) cG)).trans cG;have fG1:q.frozen? ⟨G,i,none⟩=false:=(P.drew.keep u).free i))
  obtain⟨q1,r⟩:∃ q1:Pg,Hid (q1=⟨b1,c1,p.es.take 16⟩):=⟨_,rfl⟩
  have B:(p.es.take 16).length=16:=by rw[List.length_take];omega
  have Y:q1.v=.slice (some ⟨b1,0,none⟩) 16 c1:=by rw[r.out];simp only[Pg.v];rw[B]
  have W:PgA q D q1:=by
    rw[r.out];refine⟨?_,λe he=>((N.1.fa e (List.mem_of_mem_take he)).keep (cT w)).keep u⟩
    show Rw q _ 2 b1 (p.es.take 16).length c1 _
    rw[B];exact R1
  obtain⟨A2,C2⟩:= A.put (p':=q1) (D':=D) hg hFg hFG P hi (Chg.of (ae (cT w) u)) (.inr (by rw[r.out];exact ac)) W (λ_ _ h=>h);rw[Y] at A2 C2
  have R0:Rw (q.setCell ⟨G,i,none⟩ (.slice (some ⟨b1,0,none⟩) 16 c1)) 197 2 p.b p.es.length p.c (flat p.es):=((N.1.row.keep (cT w)).keep u).same (Below.heap_setCell q _ _ _ (N.1.fg P))
  have E0 : ∀ e ∈ p.es, EnA (q.setCell ⟨G, i, none⟩ (.slice (some ⟨b1, 0, none⟩) 16 c1)) D e := λe he => (((N.1.fa e he).keep (cT w)).keep u).off λb hb hk => by
    obtain⟨cs,k⟩:= hk;obtain⟨ds,k'⟩:= (P.drew.keep u).kind;exact Below.heap_setCell q _ _ b (eF k k' (by decide))
  have hw1l:w.heap.size≤(q.setCell ⟨G,i,none⟩ (.slice (some ⟨b1,0,none⟩) 16 c1)).heap.size:=C2.size
  have X:q1.b=b1:=by rw[r.out]
  have R:q1.es=p.es.take 16:=by rw[r.out]
  have l:=(hg.drew.keep u).off o (i:=i) (.slice (some ⟨b1,0,none⟩) 16 c1)
  have hF2:∀ b,((F b∧b≠p.b)∨b=q1.b)→F b∨w.heap.size≤b:=λb h=>h.imp (λh=>h.1) (λh=>by rw[h,X];exact ac)
  generalize (q.setCell ⟨G,i,none⟩ (.slice (some ⟨b1,0,none⟩) 16 c1))=M at *;generalize hF2d:(λx=>(F x∧x≠p.b)∨x=q1.b)=F2 at A2;obtain⟨y,Q,Z,V,T,K⟩:= A2.opn (by simp[hL]);obtain⟨rfl,rfl⟩:y=G∧Q=C:=by
    have:=(Z.eq l).1;simp at this;exact⟨this.1,this.2⟩
  have S:∀ b,F2 b→F b∨w.heap.size≤b:=λb h=>hF2 b (by rw[← hF2d] at h;exact h)
  have cg2:M.cell? ⟨g,0,none⟩=some (.slice (some ⟨y,0,none⟩) n Q):=by
    have:=l.cell (i:=0) rfl;rwa [d.out] at this
  have z:M.drew.cell? ⟨g,0,none⟩=some (.slice (some ⟨y,0,none⟩) n Q):=cg2
  have U:(p.es.drop 16).length=m - 16:=by rw[List.length_drop,s.out]
  have t2 := AK (w := M.drew) (a := ⟨p.b, 32, none⟩) (n := m - 16) (c := p.c - 16) (xs := flat (p.es.drop 16)) (by have := s.out; omega) (by rw[jY, U]) (λj v I => by
    rw[Addr.add_lit]
    have:(flat p.es)[32+j]?=some v:=by
      rw[← iE,List.getElem?_drop] at I;exact I
    exact R0.drew.cell this) (jI (w:=M) (D:=D) (λe he=>E0 e (List.mem_of_mem_drop he)))
  have zz1:IntKind.i64.wrap ((i:Int)+1)=(i:Int)+1:=by rw[IntKind.wrap_i64];have:=d.out;omega
  have zz2:¬ (p.c=16):=by omega
  have zz3:(16:Int)≤m:=by omega
  have t3 : ∀ (f : World) (t c2 : Nat), Below M.drew.heap.size M.drew f → Calls Tryz.prog 255 #[.slice (some ⟨y, 0, none⟩) n Q, .int .i64 ((i : Int) + 1), .slice (some ⟨f.heap.size, 0, none⟩) 1 1] (f.alloc (.cells #[.slice (some ⟨t, 0, none⟩) (m - 16) c2] 198)) λe w' => ∃ b' c', e = .returned (.slice (some ⟨b', 0, none⟩) (n + 1) c') ∧ (b' = y ∨ f.heap.size + 1 ≤ b') ∧ Rw w' 198 1 b' (n + 1) c' (((L.set i q1).map Pg.v).take (i + 1) ++ [.slice (some ⟨t, 0, none⟩) (m - 16) c2] ++ ((L.set i q1).map Pg.v).drop (i + 1)) ∧ Chg (· = y) (f.alloc (.cells #[.slice (some ⟨t, 0, none⟩) (m - 16) c2] 198)) w' := λf t c2 H => by
    have hk:=(K.drew.keep H).keep (aa f (.cells #[.slice (some ⟨t,0,none⟩) (m - 16) c2] 198));rw[List.length_set,d.out] at hk
    have hGl:y < f.heap.size:=(K.drew.keep H).lt;have:=insP (i:=i+1) hk (ay f [.slice (some ⟨t,0,none⟩) (m - 16) c2] 198) (by omega) (by have:=d.out;omega) (by have:=d.out;omega) (uv _) (by simp[Value.oneCell']);rw[World.size_alloc] at this;simpa using this
  go_wp2
  go_region_with (first
    | (go_at_call 254;refine t2.mono ?_;rintro e' f ⟨t,c2,rfl,hb2,R3,H⟩;have cg3:f.cell? ⟨g,0,none⟩=some (.slice (some ⟨y,0,none⟩) n Q):=(H.cell (p:=⟨g,0,none⟩) (aC z)).trans z;have E:=mT cg3 (.cells #[.slice (some ⟨t,0,none⟩) (m - 16) c2] 198))
    | (go_at_call 255;refine(t3 f t c2 H).mono ?_;rintro e' w5 ⟨G5,C5,rfl,hb5,R5,J⟩;have cg5:w5.cell? ⟨g,0,none⟩=some (.slice (some ⟨y,0,none⟩) n Q):=(World.cell?_of_block (w:=f.alloc (.cells #[.slice (some ⟨t,0,none⟩) (m - 16) c2] 198)) (a:=⟨g,0,none⟩) (J.same g (aC E) o)).trans E;have fg5:w5.frozen? ⟨g,0,none⟩=false:=(((l.drew.keep H).keep (aa f _)).chg J o).free 0))
  all_goals go_wp2
  all_goals go_end0
  all_goals exact yS A2 S C2 Z (l.drew.keep H) V T K o ab R U d.out H hb2 R3 (λe he=>(E0 e he).keep (cT M)) hb5 R5 J
end
section
variable {L:List Pg}{i:Nat}{p:Pg}{w:World}{F D:Nat->Prop}
def sk(P:List (List En))(i q:Nat)(e:En):List (List En) :=
 let es:=(P.getD i []).take q ++ [e] ++ (P.getD i []).drop q
 if 32 < es.length then P.take i ++ [es.take 16,es.drop 16] ++ P.drop (i+1) else P.set i es
theorem pP(L:List Pg)(i:Nat)(p:Pg):ens (L.set i p)=(ens L).set i p.es:=by simp[ens,List.map_set]
theorem eX(h:L[i]?=some p):(ens L).getD i []=p.es:=by simp[ens,h]
theorem BV(es:List En)(q:Nat)(e:En):(flat es).take (q * 2) ++ [e.kv,e.vv] ++ (flat es).drop (q * 2)=flat (es.take q ++ [e] ++ es.drop q):=by
 rw[iN,iE,eZ,eZ];rfl
theorem uq{g q:Nat}{e:En}(A:bR w F D g L)(hi:L[i]?=some p)(hq:q<=p.es.length)(h2:p.es.length<=32)(hn:L.length<=100000000)(hE:EnA w D e) :
  Calls Tryz.prog 161 #[.pointer (some ⟨g,0,none⟩),.int .i64 i,.int .i64 q,.agg #[e.kv,e.vv]] w λe' w'=>∃ F' L',e'=.returned (.tuple #[])/\ens L'=sk (ens L) i q e/\bR w' F' D g L'/\(∀ b,F' b->F b\/w.heap.size<=b)/\Chg F w w':=by
 have hil:=(List.getElem?_eq_some_iff.1 hi).1
 have hL:L≠[]:=λe=>by subst e;simp at hil
 obtain⟨kv,kl,vv,vl⟩:=e;obtain⟨l,P⟩:∃ l,Hid (l=w.alloc (.cells #[kv,vv] 197)):=⟨_,rfl⟩
 have B0:BW w l:=by rw[P.out];exact aa w _
 have X0:Blk l w.heap.size [kv,vv] 197:=by rw[P.out];exact ay w [kv,vv] _
 have A0:=A.keep B0;obtain⟨G,C,hg,hFg,hFG,hR⟩:=A0.opn hL;have W:=A0.cM p (List.mem_of_getElem? hi);have cg:=hg.cell (i:=0) rfl;have cG:=hR.cell (i:=i) (v:=p.v) (by simp[hi]);have x0:=X0.cell (i:=0) rfl;have x1:=X0.cell (i:=1) rfl;have hpc:=W.1.row.le;have hCC:=hR.le;simp only[maxLen] at hpc hCC;obtain⟨n,Y⟩:∃ n,Hid (L.length=n):=⟨_,rfl⟩
 obtain⟨m,U⟩:∃ m,Hid (p.es.length=m):=⟨_,rfl⟩
 simp only[Pg.v] at cG;rw[Y.out] at cg;rw[U.out] at cG
 have z0:¬ ((n:Int)=0):=by have:=Y.out;omega
 have z1:(i:Int) < n:=by have:=Y.out;omega
 have cgd:l.drew.cell? ⟨g,0,none⟩=some (.slice (some ⟨G,0,none⟩) n C):=cg
 have x0d:l.drew.cell? ⟨w.heap.size,0,none⟩=some kv:=x0
 have x1d:l.drew.cell? ⟨w.heap.size,1,none⟩=some vv:=x1
 have cGd:l.drew.cell? ⟨G,i,none⟩=some (.slice (some ⟨p.b,0,none⟩) m p.c):=cG
 have hgG:g≠G:=λe=>hR.ff hg e.symm
 have T:w.heap.size≠G:=by have:=A.lt hFG;omega
 obtain⟨R,M⟩:∃ R,Hid (R=l.drew.alloc (.cells #[kv,vv] 197)):=⟨_,rfl⟩
 have J:BW l R:=by rw[M.out];exact ae (cT l) (aa l.drew _)
 have hs0:l.heap.size=w.heap.size+1:=by rw[P.out];simp
 have V1:Blk R l.heap.size [kv,vv] 197:=by rw[M.out];exact ay l.drew [kv,vv] _
 have t1:=insE (i:=q) (W.1.row.keep J) V1 (by have:=W.1.row.lt;omega) hq (by omega) W.1.one (by have:=hE.k.one;have:=hE.v.one;simp_all);rw[U.out] at t1
 have j:R.cell? ⟨g,0,none⟩=some (.slice (some ⟨G,0,none⟩) n C):=(J.cell (p:=⟨g,0,none⟩) (aC cg)).trans cg
 have u:R.cell? ⟨w.heap.size,0,none⟩=some kv:=(J.cell (p:=⟨w.heap.size,0,none⟩) (aC x0)).trans x0
 have z:R.cell? ⟨w.heap.size,1,none⟩=some vv:=(J.cell (p:=⟨w.heap.size,1,none⟩) (aC x1)).trans x1
 have r:R.cell? ⟨G,i,none⟩=some (.slice (some ⟨p.b,0,none⟩) m p.c):=(J.cell (p:=⟨G,i,none⟩) (aC cG)).trans cG
 have ng:g≠p.b:=λe=>W.1.ff hg e.symm
 have nG:G≠p.b:=λe=>W.1.fg hR e.symm
 have nx:w.heap.size≠p.b:=by have:=A.lt W.2;omega
 have mixed:=mixed
 have hin:i < n:=by have:=Y.out;omega
 go_enter Tryz.func161,Tryz.ntmps161;have cgw:=cg;rw[P.out] at cgw;go_wp2;rw[<- P.out];have V:=(show _/\_/\_ from⟨j,u,z⟩)
 have O:=r;rw[M.out] at V O t1
 have hpp:Tryz.prog.underlying 199=some (.slice 198):=by kernel_rfl
 refine qx (X:=Nat × Nat) (λx=>[(some 23,.pointer (some ⟨g,0,none⟩)),(some 24,.pointer (some ⟨g,0,none⟩)),(some 25,.pointer (some ⟨g,0,none⟩)),(some 26,.slice (some ⟨G,0,none⟩) n C),(some 27,.int .i64 i),(some 28,.pointer (some ⟨g,0,none⟩)),(some 29,.pointer (some ⟨g,0,none⟩)),(some 30,.pointer (some ⟨g,0,none⟩)),(some 31,.slice (some ⟨G,0,none⟩) n C),(some 32,.int .i64 i),(some 33,.pointer (some ⟨G,i,none⟩)),(some 34,.slice (some ⟨p.b,0,none⟩) m p.c),(some 35,.int .i64 q),(some 36,.agg #[kv,vv]),(some 37,.slice (some ⟨l.heap.size,0,none⟩) 1 1),(some 38,.slice (some ⟨x.1,0,none⟩) (m+1) x.2),(some 39,.pointer (some ⟨G,i,none⟩))]) (λx w'=>∃ d,w'=d.setCell ⟨G,i,none⟩ (.slice (some ⟨x.1,0,none⟩) (m+1) x.2)/\(x.1=p.b\/R.heap.size<=x.1)/\Rw d 197 2 x.1 (m+1) x.2 ((flat p.es).take (q * 2) ++ [kv,vv] ++ (flat p.es).drop (q * 2))/\Chg (·=p.b) R d) (λw'=>w'.cell? ⟨g,0,none⟩=some (.slice (some ⟨G,0,none⟩) n C)/\w'.cell? ⟨w.heap.size,0,none⟩=some kv/\w'.cell? ⟨w.heap.size,1,none⟩=some vv) (by kernel_rfl) ⟨cgd,x0d,x1d⟩ ?_ ?_
 ·have hS:=(show _/\_/\_ from⟨cgd,x0d,x1d⟩)
  refine aI 0 23 (.pointer (some ⟨g,0,none⟩)) hS ?_
  refine aI 1 24 (.pointer (some ⟨g,0,none⟩)) hS ?_
  refine aI 2 25 (.pointer (some ⟨g,0,none⟩)) hS ?_
  refine aV 3 (some 26) (.slice (some ⟨G,0,none⟩) n C) 199 25 (g) (0) (λw' h=>gj h.1) hS ?_
  refine aI 4 27 (.int .i64 i) hS ?_
  refine aI 5 28 (.pointer (some ⟨g,0,none⟩)) hS ?_
  refine aI 6 29 (.pointer (some ⟨g,0,none⟩)) hS ?_
  refine aI 7 30 (.pointer (some ⟨g,0,none⟩)) hS ?_
  refine aV 8 (some 31) (.slice (some ⟨G,0,none⟩) n C) 199 30 (g) (0) (λw' h=>gj h.1) hS ?_
  refine aI 9 32 (.int .i64 i) hS ?_
  refine aI 10 33 (.pointer (some ⟨G,i,none⟩)) hS ?_ (hy:=λ_ _=>eK (x:=31) (y:=32) (n:=n) (c:=C) hpp (rfl) (hin));refine aI 12 35 (.int .i64 q) hS ?_
  refine aV 13 (some 36) (.agg #[kv,vv]) 197 7 (w.heap.size) (0) (λw' h=>ld_e h.2.1 h.2.2) hS ?_
  refine aQ [11,14] ?_
  refine bU 11 (some 34) (.slice (some ⟨p.b,0,none⟩) m p.c) _ (ji 33 (pH cGd)) hS ?_ (bU 14 (some 37) (.slice (some ⟨l.heap.size,0,none⟩) 1 1) _ (qY (k:=36)) V ?_ aY)
  ·refine aQ [14] ?_
   refine bU 14 (some 37) (.slice (some ⟨l.heap.size,0,none⟩) 1 1) _ (qY (k:=36)) V ?_ aY;refine da 15 (some 38) 207 #[.slice (some ⟨p.b,0,none⟩) m p.c,.int .i64 q,.slice (some ⟨l.heap.size,0,none⟩) 1 1] t1 ?_
   rintro e' d ⟨B,c2,rfl,t,R2,o⟩;rw[<- M.out] at o t
   have s:d.cell? ⟨g,0,none⟩=_:=(World.cell?_of_block (a:=⟨g,0,none⟩) (o.same g (aC j) ng)).trans j
   have E:d.cell? ⟨w.heap.size,0,none⟩=_:=(World.cell?_of_block (a:=⟨w.heap.size,0,none⟩) (o.same _ (aC u) nx)).trans u
   have H:d.cell? ⟨w.heap.size,1,none⟩=_:=(World.cell?_of_block (a:=⟨w.heap.size,1,none⟩) (o.same _ (aC z) nx)).trans z
   have K:d.cell? ⟨G,i,none⟩=_:=(World.cell?_of_block (a:=⟨G,i,none⟩) (o.same _ (aC r) nG)).trans r
   have fG2:d.frozen? ⟨G,i,none⟩=false:=((hR.keep J).chg o nG).free i;refine⟨_,rfl,⟨s,E,H⟩,?_⟩;replace hS:=(show _/\_/\_ from⟨s,E,H⟩)
   refine aI 16 39 (.pointer (some ⟨G,i,none⟩)) hS ?_ (hy:=λ_ _=>eK (x:=26) (y:=27) (n:=n) (c:=C) hpp (rfl) (hin));refine aQ [17] ?_
   refine dy 17 (d.setCell ⟨G,i,none⟩ (.slice (some ⟨B,0,none⟩) (m+1) c2)) (lA 39 38 K fG2) ⟨cD hgG s,cD T E,cD T H⟩ ?_ aY;refine cn ?_
   exact⟨(B,c2),by kernel_rfl,d,rfl,t,R2,o⟩
  refine aQ [11] ?_
  refine bU 11 (some 34) (.slice (some ⟨p.b,0,none⟩) m p.c) _ (ji 33 (pH O)) V ?_ aY;refine da 15 (some 38) 207 #[.slice (some ⟨p.b,0,none⟩) m p.c,.int .i64 q,.slice (some ⟨l.heap.size,0,none⟩) 1 1] t1 ?_
  rintro e' d ⟨B,c2,rfl,t,R2,o⟩;rw[<- M.out] at o t
  have s:d.cell? ⟨g,0,none⟩=_:=(World.cell?_of_block (a:=⟨g,0,none⟩) (o.same g (aC j) ng)).trans j
  have E:d.cell? ⟨w.heap.size,0,none⟩=_:=(World.cell?_of_block (a:=⟨w.heap.size,0,none⟩) (o.same _ (aC u) nx)).trans u
  have H:d.cell? ⟨w.heap.size,1,none⟩=_:=(World.cell?_of_block (a:=⟨w.heap.size,1,none⟩) (o.same _ (aC z) nx)).trans z
  have K:d.cell? ⟨G,i,none⟩=_:=(World.cell?_of_block (a:=⟨G,i,none⟩) (o.same _ (aC r) nG)).trans r
  have fG2:d.frozen? ⟨G,i,none⟩=false:=((hR.keep J).chg o nG).free i;refine⟨_,rfl,⟨s,E,H⟩,?_⟩;replace hS:=(show _/\_/\_ from⟨s,E,H⟩)
  refine aI 16 39 (.pointer (some ⟨G,i,none⟩)) hS ?_ (hy:=λ_ _=>eK (x:=26) (y:=27) (n:=n) (c:=C) hpp (rfl) (hin));refine aQ [17] ?_
  refine dy 17 (d.setCell ⟨G,i,none⟩ (.slice (some ⟨B,0,none⟩) (m+1) c2)) (lA 39 38 K fG2) ⟨cD hgG s,cD T E,cD T H⟩ ?_ aY;refine cn ?_
  exact⟨(B,c2),by kernel_rfl,d,rfl,t,R2,o⟩
 rintro⟨B,c2⟩ w' ⟨d,rfl,t,R2,o⟩;dsimp only at t R2;simp only[jt,Act.put,List.setIfInBounds_toArray,List.set_cons_zero,List.set_cons_succ]
 have s:d.cell? ⟨g,0,none⟩=_:=(World.cell?_of_block (a:=⟨g,0,none⟩) (o.same g (aC j) ng)).trans j
 have K:d.cell? ⟨G,i,none⟩=_:=(World.cell?_of_block (a:=⟨G,i,none⟩) (o.same _ (by exact(hR.keep J).lt) nG)).trans r
 have C02:Chg (·=p.b) l d:=(Chg.of (F:=(·=p.b)) J).trans o (λ_ _ h=>h);obtain⟨p',S⟩:∃ p':Pg,Hid (p'=⟨B,c2,p.es.take q ++ [(⟨kv,kl,vv,vl⟩:En)] ++ p.es.drop q⟩):=⟨_,rfl⟩
 have hlen:(p.es.take q ++ [(⟨kv,kl,vv,vl⟩:En)] ++ p.es.drop q).length=m+1:=by have:=U.out;simp;omega
 have N:∀ e,EnA w D e->EnA d D e:=λe he=>((he.keep B0).keep J).off λb hb hk=>o.same b hb λf=>by
  subst f;obtain⟨cs,k⟩:=hk;obtain⟨ds,k'⟩:=(W.1.row.keep J).kind;exact eF k k' (by decide) rfl
 have hA':PgA d D p':=by
  rw[S.out];refine⟨?_,λe he=>?_⟩
  ·show Rw d _ 2 B (p.es.take q ++ [(⟨kv,kl,vv,vl⟩:En)] ++ p.es.drop q).length c2 _
   rw[hlen];exact R2.to (BV p.es q ⟨kv,kl,vv,vl⟩)
  rcases List.mem_append.1 he with h | h
  ·rcases List.mem_append.1 h with h | h
   ·exact N e ((A.cM p (List.mem_of_getElem? hi)).1.fa e (List.mem_of_mem_take h))
   simp at h;subst h;exact N _ hE
  exact N e ((A.cM p (List.mem_of_getElem? hi)).1.fa e (List.mem_of_mem_drop h))
 have hv':p'.v=.slice (some ⟨B,0,none⟩) (m+1) c2:=by rw[S.out];simp only[Pg.v];rw[hlen]
 have hb':p'.b=B:=by rw[S.out]
 have I:p'.es=p.es.take q ++ [⟨kv,kl,vv,vl⟩] ++ p.es.drop q:=by rw[S.out]
 obtain⟨A3,C3⟩:=A0.put (p':=p') (D':=D) hg hFg hFG hR hi C02 (by rw[hb'];exact t.imp id (λh=>Nat.le_trans J.size h)) hA' (λ_ _ h=>h);rw[hv',hb'] at A3;rw[hv'] at C3;have C03:=(Chg.of (F:=F) B0).trans C3 (λ_ _ h=>h)
 have hF3:∀ b,((F b/\b≠p.b)\/b=B)->F b\/w.heap.size<=b:=λb h=>by
  have h0:=B0.size;have h1:=J.size;rcases h with h | h
  ·exact .inl h.1
  subst h;rcases t with h | h
  ·rw[h];exact .inl W.2
  exact .inr (by omega)
 have cg3:(d.setCell ⟨G,i,none⟩ (.slice (some ⟨B,0,none⟩) (m+1) c2)).cell? ⟨g,0,none⟩=some (.slice (some ⟨G,0,none⟩) n C):=cD hgG s
 have cG3:(d.setCell ⟨G,i,none⟩ (.slice (some ⟨B,0,none⟩) (m+1) c2)).cell? ⟨G,i,none⟩=some (.slice (some ⟨B,0,none⟩) (m+1) c2):=World.cell?_setCell_same' _ _ _ (by rw[K];rfl);generalize (d.setCell ⟨G,i,none⟩ (.slice (some ⟨B,0,none⟩) (m+1) c2))=W3 at *;generalize hF3d:(λx=>(F x/\x≠p.b)\/x=B)=F3 at A3
 have Q:∀ b,F3 b->F b\/w.heap.size<=b:=λb h=>hF3 b (by rw[<- hF3d] at h;exact h)
 have hi3:(L.set i p')[i]?=some p':=by rw[List.getElem?_set_self hil]
 by_cases Z:32 < m+1
 ·have hbi:(32:Int) < (m:Int) + 1:=by omega
  have t5:=ym A3 hi3 (by rw[I,hlen];omega) (by rw[I,hlen];have:=U.out;omega) (by rw[List.length_set];exact hn);go_wp2_with (go_at_call 208;refine t5.mono ?_;rintro e' w6 ⟨F6,p1,p2,rfl,e1,e2,A6,hF6,C6⟩);go_end0;refine⟨F6,_,rfl,?_,A6,λb hb=>?_,C03.trans C6 λb hb h=>(Q b h).resolve_right (by omega)⟩
  ·unfold sk;rw[eX hi,<- I,if_pos (by rw[I,hlen];exact Z)];simp only[ens,List.map_append,List.map_take,List.map_drop,List.map_cons,List.map_nil,List.map_set,e1,e2];rw[List.take_set_of_le (Nat.le_refl _),List.drop_set_of_lt (by omega)]
  rcases hF6 b hb with h | h
  ·exact Q b h
  exact .inr (by have:=C03.size;omega)
 have hbi:¬ ((32:Int) < (m:Int) + 1):=by omega
 go_wp2;go_end0;refine⟨rfl,F3,_,?_,A3,Q,C03⟩;unfold sk;rw[eX hi,<- I,if_neg (by rw[I,hlen];exact Z),pP]
end
section
variable {w w1:World}{F D:Nat->Prop}{g:Nat}{pv:Value}
theorem Bq(A:bR w F D g [])(r:w.cell? ⟨g,0,none⟩=some pv)(o:BW w w1){vb:Nat}(V:Blk w1 vb [.slice none 0 0] 198) :
  ∃ b' c' w',(Builtin.append_ #[199,199] 199 #[pv,.slice (some ⟨vb,0,none⟩) 1 1]).run Tryz.prog w1=.ok (.slice (some ⟨b',0,none⟩) 1 c') w'/\(F b'\/w.heap.size<=b')/\Rw w' 198 1 b' 1 c' [.slice none 0 0]/\Chg F w1 w'/\b'≠g/\(∀ b cs,Blk w1 b cs 201\/Blk w1 b cs 197->Blk w' b cs 201\/Blk w' b cs 197)/\(Blk w g [pv] 201/\F g/\Blk w' g [pv] 201):=by
 obtain⟨v,hb,t,h⟩:=A.top;have e:=hb.cell (i:=0) rfl;rw[r] at e
 cases e;have a:=hb.keep o;rcases h with⟨rfl,_⟩ | ⟨G,C,rfl,hG,hR⟩
 ·obtain⟨c',W,q,f,c⟩:=gN (w:=w1) KP 199 ⟨vb,0,none⟩ 1 1 [.slice none 0 0] rfl (λj u p=>by rw[Addr.add_lit,Nat.zero_add];exact V.cell p);refine⟨_,c',W,q,.inr o.size,f,Chg.of c,?_,λb cs h=>h.imp (λk=>k.keep c) (λk=>k.keep c),hb,t,a.keep c⟩;have:=a.lt;omega
 have n:=hR.keep o;obtain⟨b',c',W,q,m,f,c⟩:=dW KP 199 n ⟨vb,0,none⟩ 1 1 [.slice none 0 0] rfl (λj u p=>by rw[Addr.add_lit,Nat.zero_add];exact V.cell p) (by simp[Value.oneCell']) (hbig:=by simp) (hm:=by simp)
 have d:∀ b cs,Blk w1 b cs 201\/Blk w1 b cs 197->b≠G:=λb cs h=>by
  obtain⟨x,s⟩:=n.kind;rcases h with k | k
  ·exact eF k s (by decide)
  exact eF k s (by decide)
 have l:=d g _ (.inl a);refine⟨b',c',W,q,?_,f,c.mono (λb _ e=>by subst e;exact hG),?_,λb cs h=>h.imp (λk=>k.chg c (d b cs h)) (λk=>k.chg c (d b cs h)),hb,t,a.chg c l⟩
 ·rcases m with h | h
  ·rw[h];exact .inl hG
  rw[h];exact .inr o.size
 rcases m with h | h
 ·rw[h];exact λe=>l e.symm
 have:=a.lt;omega
theorem rJ{e:En}(A:bR w F D g [])(hE:EnA w D e) :
  Calls Tryz.prog 161 #[.pointer (some ⟨g,0,none⟩),.int .i64 0,.int .i64 0,.agg #[e.kv,e.vv]] w λe' w'=>∃ F' L',e'=.returned (.tuple #[])/\ens L'=[[e]]/\bR w' F' D g L'/\(∀ b,F' b->F b\/w.heap.size<=b)/\Chg F w w':=by
 obtain⟨kv,kl,vv,vl⟩:=e;have B0:=aa w (.cells #[kv,vv] 197);have X0:=ay w [kv,vv] 197;obtain⟨ao,c,hc,hc1,hc2,hat⟩:=A.rd;simp only[List.length_nil] at hc hc1;have hgl:=aC hc;obtain⟨w1,z⟩:∃ w1,Hid (w1=(w.alloc (.cells #[kv,vv] 197)).alloc (.cells #[.slice none 0 0] 198)):=⟨_,rfl⟩
 have B1:BW w w1:=by rw[z.out];exact ae B0 (aa _ _)
 have V1:Blk w1 (w.heap.size+1) [.slice none 0 0] 198:=by
  have:=ay (w.alloc (.cells #[kv,vv] 197)) [.slice none 0 0] 198;rw[World.size_alloc] at this;rw[z.out];exact this
 have X1:Blk w1 w.heap.size [kv,vv] 197:=by rw[z.out];exact X0.keep (aa _ _)
 obtain⟨G,C,j,hr,hFG,R2,l,hGg,hkp,hgb,hFg,ab⟩:=Bq A hc B1 V1
 have X2:Blk j w.heap.size [kv,vv] 197:=X1.chg l (λf=>by have:=A.lt f;omega);have hg3:=ab.setCell (i:=0) (.slice (some ⟨G,0,none⟩) 1 C)
 have S:Rw (j.setCell ⟨g,0,none⟩ (.slice (some ⟨G,0,none⟩) 1 C)) 198 1 G 1 C [.slice none 0 0]:=R2.same (Below.heap_setCell j _ _ _ hGg)
 have X3:Blk (j.setCell ⟨g,0,none⟩ (.slice (some ⟨G,0,none⟩) 1 C)) w.heap.size [kv,vv] 197:=X2.off (by omega) _
 have ad:∀ e,EnA w D e->EnA (j.setCell ⟨g,0,none⟩ (.slice (some ⟨G,0,none⟩) 1 C)) D e:=λe he=>(he.keep B1).off λb hb hk=>by
  obtain⟨cs,k⟩:=hk
  have n1:b≠g:=eF k (hgb.keep B1) (by decide);rw[Below.heap_setCell j _ _ b n1];refine l.same b hb λf=>A.noU f cs ?_
  exact⟨by rw[<- B1.block b (A.lt f)];exact k.blk⟩
 have c2g:=ab.cell (i:=0) rfl;have f2g:=ab.free 0
 have hsz3:w.heap.size+1+1<=(j.setCell ⟨g,0,none⟩ (.slice (some ⟨G,0,none⟩) 1 C)).heap.size:=by
  have h1:=l.size
  have h2:w1.heap.size=w.heap.size+1+1:=by rw[z.out];simp
  have h3:(j.setCell ⟨g,0,none⟩ (.slice (some ⟨G,0,none⟩) 1 C)).heap.size=j.heap.size:=by simp[World.setCell]
  omega
 have C03:Chg F w (j.setCell ⟨g,0,none⟩ (.slice (some ⟨G,0,none⟩) 1 C)):=((Chg.of (F:=F) B1).trans l (λ_ _ h=>h)).cell (.inl hFg) _;have mixed:=mixed;obtain rfl:=z.out;clear z;go_enter Tryz.func161,Tryz.ntmps161;go_wp2_with (at_builtin;refine Lib.wpList_append_run _ rfl _ _ _ _ rfl _ _ rfl rfl _ _ hr ?_);generalize (j.setCell ⟨g,0,none⟩ (.slice (some ⟨G,0,none⟩) 1 C))=d at *
 have R:d.cell? ⟨g,0,none⟩=some (.slice (some ⟨G,0,none⟩) 1 C):=hg3.cell (i:=0) rfl;have U:=X3.cell (i:=0) rfl;have W:=X3.cell (i:=1) rfl;have V:=S.cell (i:=0) rfl;obtain⟨H,B⟩:∃ H,Hid (H=d.drew.alloc (.cells #[kv,vv] 197)):=⟨_,rfl⟩
 have T:BW d H:=by rw[B.out];exact ae (cT d) (aa d.drew _)
 have V4:Blk H d.heap.size [kv,vv] 197:=by rw[B.out];exact ay d.drew [kv,vv] _
 have hs4:H.heap.size=d.heap.size+1:=by rw[B.out];simp
 have t1:Calls Tryz.prog 207 #[.slice none 0 0,.int .i64 0,.slice (some ⟨d.heap.size,0,none⟩) 1 1] H λe w'=>∃ J c2,e=.returned (.slice (some ⟨J,0,none⟩) 1 c2)/\J=d.heap.size + 1/\Rw w' 197 2 J 1 c2 [kv,vv]/\BW H w':=(zx V4).mono (by
  rintro e w' ⟨c',rfl,h1,h2⟩
  exact⟨_,c',rfl,hs4,h1,h2⟩)
 have r:H.cell? ⟨g,0,none⟩=_:=(T.cell (p:=⟨g,0,none⟩) (aC R)).trans R
 have m:H.cell? ⟨w.heap.size,0,none⟩=_:=(T.cell (p:=⟨w.heap.size,0,none⟩) (aC U)).trans U
 have s:H.cell? ⟨w.heap.size,1,none⟩=_:=(T.cell (p:=⟨w.heap.size,1,none⟩) (aC W)).trans W
 have q:H.cell? ⟨G,0,none⟩=_:=(T.cell (p:=⟨G,0,none⟩) (aC V)).trans V
 have cgd:d.drew.cell? ⟨g,0,none⟩=_:=R
 have x0d:d.drew.cell? ⟨w.heap.size,0,none⟩=_:=U
 have x1d:d.drew.cell? ⟨w.heap.size,1,none⟩=_:=W
 have cGd:d.drew.cell? ⟨G,0,none⟩=_:=V
 have O:g≠G:=λe=>hGg e.symm
 have K:w.heap.size≠G:=λe=>by
  obtain⟨ds,k⟩:=S.kind;exact eF X3 k (by decide) e
 have ac:0 < 1:=by decide
 have M:=(show _/\_/\_ from⟨r,m,s⟩)
 have I:=q;rw[B.out] at M I t1
 have Z:Tryz.prog.underlying 199=some (.slice 198):=by kernel_rfl
 refine qx (X:=Nat × Nat) (λx=>[(some 23,.pointer (some ⟨g,0,none⟩)),(some 24,.pointer (some ⟨g,0,none⟩)),(some 25,.pointer (some ⟨g,0,none⟩)),(some 26,.slice (some ⟨G,0,none⟩) 1 C),(some 27,.int .i64 0),(some 28,.pointer (some ⟨g,0,none⟩)),(some 29,.pointer (some ⟨g,0,none⟩)),(some 30,.pointer (some ⟨g,0,none⟩)),(some 31,.slice (some ⟨G,0,none⟩) 1 C),(some 32,.int .i64 0),(some 33,.pointer (some ⟨G,0,none⟩)),(some 34,.slice none 0 0),(some 35,.int .i64 0),(some 36,.agg #[kv,vv]),(some 37,.slice (some ⟨d.heap.size,0,none⟩) 1 1),(some 38,.slice (some ⟨x.1,0,none⟩) 1 x.2),(some 39,.pointer (some ⟨G,0,none⟩))]) (λx w'=>∃ j,w'=j.setCell ⟨G,0,none⟩ (.slice (some ⟨x.1,0,none⟩) 1 x.2)/\x.1=d.heap.size+1/\Rw j 197 2 x.1 1 x.2 [kv,vv]/\BW H j) (λw'=>w'.cell? ⟨g,0,none⟩=some (.slice (some ⟨G,0,none⟩) 1 C)/\w'.cell? ⟨w.heap.size,0,none⟩=some kv/\w'.cell? ⟨w.heap.size,1,none⟩=some vv) (by kernel_rfl) ⟨cgd,x0d,x1d⟩ ?_ ?_
 ·have hS:=(show _/\_/\_ from⟨cgd,x0d,x1d⟩)
  refine aI 0 23 (.pointer (some ⟨g,0,none⟩)) hS ?_
  refine aI 1 24 (.pointer (some ⟨g,0,none⟩)) hS ?_
  refine aI 2 25 (.pointer (some ⟨g,0,none⟩)) hS ?_
  refine aV 3 (some 26) (.slice (some ⟨G,0,none⟩) 1 C) 199 25 (g) (0) (λw' h=>gj h.1) hS ?_
  refine aI 4 27 (.int .i64 0) hS ?_
  refine aI 5 28 (.pointer (some ⟨g,0,none⟩)) hS ?_
  refine aI 6 29 (.pointer (some ⟨g,0,none⟩)) hS ?_
  refine aI 7 30 (.pointer (some ⟨g,0,none⟩)) hS ?_
  refine aV 8 (some 31) (.slice (some ⟨G,0,none⟩) 1 C) 199 30 (g) (0) (λw' h=>gj h.1) hS ?_
  refine aI 9 32 (.int .i64 0) hS ?_
  refine aI 10 33 (.pointer (some ⟨G,0,none⟩)) hS ?_ (hy:=λ_ _=>eK (x:=31) (y:=32) (n:=1) (c:=C) Z (rfl) (ac));refine aI 12 35 (.int .i64 0) hS ?_
  refine aV 13 (some 36) (.agg #[kv,vv]) 197 7 (w.heap.size) (0) (λw' h=>ld_e h.2.1 h.2.2) hS ?_
  refine aQ [11,14] ?_
  refine bU 11 (some 34) (.slice none 0 0) _ (ji 33 (pH cGd)) hS ?_ (bU 14 (some 37) (.slice (some ⟨d.heap.size,0,none⟩) 1 1) _ (qY (k:=36)) M ?_ aY)
  ·refine aQ [14] ?_
   refine bU 14 (some 37) (.slice (some ⟨d.heap.size,0,none⟩) 1 1) _ (qY (k:=36)) M ?_ aY;refine da 15 (some 38) 207 #[.slice none 0 0,.int .i64 0,.slice (some ⟨d.heap.size,0,none⟩) 1 1] t1 ?_
   rintro e' j ⟨J,c2,rfl,E,R2,l⟩;rw[<- B.out] at l
   have u:j.cell? ⟨g,0,none⟩=_:=(l.cell (p:=⟨g,0,none⟩) (aC r)).trans r
   have t:j.cell? ⟨w.heap.size,0,none⟩=_:=(l.cell (p:=⟨w.heap.size,0,none⟩) (aC m)).trans m
   have v:j.cell? ⟨w.heap.size,1,none⟩=_:=(l.cell (p:=⟨w.heap.size,1,none⟩) (aC s)).trans s
   have P:j.cell? ⟨G,0,none⟩=_:=(l.cell (p:=⟨G,0,none⟩) (aC q)).trans q
   have Q:j.frozen? ⟨G,0,none⟩=false:=((S.keep T).keep l).free 0;refine⟨_,rfl,⟨u,t,v⟩,?_⟩;replace hS:=(show _/\_/\_ from⟨u,t,v⟩)
   refine aI 16 39 (.pointer (some ⟨G,0,none⟩)) hS ?_ (hy:=λ_ _=>eK (x:=26) (y:=27) (n:=1) (c:=C) Z (rfl) (ac));refine aQ [17] ?_
   refine dy 17 (j.setCell ⟨G,0,none⟩ (.slice (some ⟨J,0,none⟩) 1 c2)) (lA 39 38 P Q) ⟨cD O u,cD K t,cD K v⟩ ?_ aY;refine cn ?_
   exact⟨(J,c2),by kernel_rfl,j,rfl,E,R2,l⟩
  refine aQ [11] ?_
  refine bU 11 (some 34) (.slice none 0 0) _ (ji 33 (pH I)) M ?_ aY;refine da 15 (some 38) 207 #[.slice none 0 0,.int .i64 0,.slice (some ⟨d.heap.size,0,none⟩) 1 1] t1 ?_
  rintro e' j ⟨J,c2,rfl,E,R2,l⟩;rw[<- B.out] at l
  have u:j.cell? ⟨g,0,none⟩=_:=(l.cell (p:=⟨g,0,none⟩) (aC r)).trans r
  have t:j.cell? ⟨w.heap.size,0,none⟩=_:=(l.cell (p:=⟨w.heap.size,0,none⟩) (aC m)).trans m
  have v:j.cell? ⟨w.heap.size,1,none⟩=_:=(l.cell (p:=⟨w.heap.size,1,none⟩) (aC s)).trans s
  have P:j.cell? ⟨G,0,none⟩=_:=(l.cell (p:=⟨G,0,none⟩) (aC q)).trans q
  have Q:j.frozen? ⟨G,0,none⟩=false:=((S.keep T).keep l).free 0;refine⟨_,rfl,⟨u,t,v⟩,?_⟩;replace hS:=(show _/\_/\_ from⟨u,t,v⟩)
  refine aI 16 39 (.pointer (some ⟨G,0,none⟩)) hS ?_ (hy:=λ_ _=>eK (x:=26) (y:=27) (n:=1) (c:=C) Z (rfl) (ac));refine aQ [17] ?_
  refine dy 17 (j.setCell ⟨G,0,none⟩ (.slice (some ⟨J,0,none⟩) 1 c2)) (lA 39 38 P Q) ⟨cD O u,cD K t,cD K v⟩ ?_ aY;refine cn ?_
  exact⟨(J,c2),by kernel_rfl,j,rfl,E,R2,l⟩
 rintro⟨J,L⟩ w' ⟨N,rfl,E,R4,D4⟩;dsimp only at E R4;simp only[jt,Act.put,List.setIfInBounds_toArray,List.set_cons_zero,List.set_cons_succ]
 have o:BW d N:=ae T D4;subst E;have Y:=(hg3.keep o).off O (i:=0) (.slice (some ⟨d.heap.size+1,0,none⟩) 1 L);have R5:=(S.keep o).set 0 (by simp) (.slice (some ⟨d.heap.size+1,0,none⟩) 1 L)
 have hNG:d.heap.size+1≠G:=by have:=S.lt;omega
 have R6:Rw (N.setCell ⟨G,0,none⟩ (.slice (some ⟨d.heap.size+1,0,none⟩) 1 L)) 197 2 (d.heap.size+1) 1 L [kv,vv]:=R4.same (Below.heap_setCell N _ _ _ hNG)
 have E6:EnA (N.setCell ⟨G,0,none⟩ (.slice (some ⟨d.heap.size + 1,0,none⟩) 1 L)) D ⟨kv,kl,vv,vl⟩:=((ad _ hE).keep o).off λb hb hk=>by
  obtain⟨cs,k⟩:=hk;obtain⟨ds,k'⟩:=(S.keep o).kind;exact Below.heap_setCell N _ _ b (eF k k' (by decide))
 have C6:Chg F w (N.setCell ⟨G,0,none⟩ (.slice (some ⟨d.heap.size+1,0,none⟩) 1 L)):=(C03.trans (Chg.of (F:=F) o) (λ_ _ h=>h)).cell hFG _;have cg5:=Y.cell (i:=0) rfl;have cG5:=R5.cell (i:=0) rfl
 have hfin:bR (N.setCell ⟨G,0,none⟩ (.slice (some ⟨d.heap.size+1,0,none⟩) 1 L)) (λx=>x=g\/x=G\/x=d.heap.size+1) D g [⟨d.heap.size+1,L,[⟨kv,kl,vv,vl⟩]⟩]:=by
  refine⟨⟨_,Y,.inl rfl,.inr ⟨G,C,rfl,.inr (.inl rfl),R5⟩⟩,λp hp=>?_,by simp,λb hb=>?_⟩
  ·simp at hp;subst hp;exact⟨⟨R6,λe he=>by simp at he;subst he;exact E6⟩,.inr (.inr rfl)⟩
  rcases hb with rfl | rfl | rfl
  ·exact⟨_,_,Y,by decide⟩
  ·obtain⟨ds,k⟩:=R5.kind;exact⟨ds,_,k,by decide⟩
  obtain⟨ds,k⟩:=R6.kind;exact⟨ds,_,k,by decide⟩
 generalize (N.setCell ⟨G,0,none⟩ (.slice (some ⟨d.heap.size+1,0,none⟩) 1 L))=W6 at *;go_wp2;go_end0;refine⟨_,_,rfl,?_,hfin,λb hb=>?_,C6⟩
 ·rfl
 rcases hb with rfl | rfl | rfl
 ·exact .inl hFg
 ·exact hFG
 exact .inr (by omega)
end
section
variable {es:List En}{k ul:List Int}{L:List Pg}{w:World}{i g:Nat}{cs:List Value}{v u kv:Value}{F D:Nat->Prop}
def has(P:List (List En))(k:List Int):Bool:=!P.isEmpty && thr (kys (P.getD (pgi P k) [])) k
def got(P:List (List En))(k:List Int):List Int:=((P.getD (pgi P k) [])[plc (kys (P.getD (pgi P k) [])) k]?.map En.vl).getD []
def fG(P:List (List En))(e:En):List (List En) :=
 if P=[] then [[e]]
 else
  let i:=pgi P e.kl
  let es:=P.getD i []
  let q:=plc (kys es) e.kl
  if thr (kys es) e.kl then P.set i (es.modify q λx=>{ x with vv:=e.vv,vl:=e.vl }) else sk P i q e
theorem me(h:thr (kys es) k=true):∃ e,es[plc (kys es) k]?=some e/\e.kl=k:=by
 simp only[thr,decide_eq_true_eq,kys,List.getElem?_map] at h;obtain⟨e,he,hk⟩:=Option.map_eq_some_iff.1 h;exact⟨e,he,hk⟩
theorem uJ(h:L≠[]):ens L≠[]:=λe=>h (by simpa[ens] using e)
theorem pR(h:L≠[])(k:List Int):∃ p,L[pgi (ens L) k]?=some p/\(ens L).getD (pgi (ens L) k) []=p.es:=by
 have:=pgi_lt (uJ h) k;simp only[ens,List.length_map] at this;refine⟨L[pgi (ens L) k]'this,List.getElem?_eq_getElem _,?_⟩;exact eX (List.getElem?_eq_getElem _)
theorem Ao{G:Nat}{t:TypeId}(h:Blk w G cs t)(hi:cs[i]?=some v)(b:Nat):(w.setCell ⟨G,i,none⟩ v).heap[b]?=w.heap[b]?:=by
 by_cases e:b=G
 ·subst e;have c:=(h.setCell (i:=i) v).blk;rw[c,h.blk];have:cs.set i v=cs:=by
   obtain⟨a,rfl⟩:=List.getElem?_eq_some_iff.1 hi;exact List.set_getElem_self a
  rw[this]
 exact Below.heap_setCell w _ v b e
theorem bR.upd{w1:World}{q:Nat}{p:Pg}{e:En}(A:bR w F D g L)(hi:L[i]?=some p)(he:p.es[q]?=some e)(B:BW w w1)(hu:OB w1 (w.heap.size <= ·) u ul) :
  bR (w1.setCell ⟨p.b,q * 2+1,none⟩ u) F (λb=>D b\/w.heap.size<=b) g (L.set i ⟨p.b,p.c,p.es.set q { e with vv:=u,vl:=ul }⟩)/\Chg F w (w1.setCell ⟨p.b,q * 2+1,none⟩ u):=by
 have t:=(List.getElem?_eq_some_iff.1 hi).1
 have Q:L≠[]:=λe=>by subst e;simp at t
 obtain⟨G,C,U,z,H,I⟩:=A.opn Q;have n:=A.cM p (List.mem_of_getElem? hi);have E:=(List.getElem?_eq_some_iff.1 he).1
 have m:Chg (·=p.b) w (w1.setCell ⟨p.b,q * 2+1,none⟩ u):=(Chg.of (F:=(·=p.b)) B).cell (.inl rfl) _
 have a:∀ {v:Value} {l:List Int} {D':Nat->Prop},OB w1 D' v l->OB (w1.setCell ⟨p.b,q * 2 + 1,none⟩ u) D' v l:=λh=>⟨h.oct,h.ex.imp id (by
  rintro⟨b,c,e,S,o⟩;refine⟨b,c,e,S,o.same (Below.heap_setCell w1 _ _ b ?_)⟩;obtain⟨W,k⟩:=o.kind;obtain⟨P,R⟩:=(n.1.row.keep B).kind
  exact eF k R (by decide))⟩
 have s:Rw (w1.setCell ⟨p.b,q * 2+1,none⟩ u) 197 2 p.b p.es.length p.c (flat (p.es.set q { e with vv:=u,vl:=ul })) :=
  ((n.1.row.keep B).set (q * 2+1) (by rw[jY];omega) u).to (oc u ul he)
 have hA:PgA (w1.setCell ⟨p.b,q * 2+1,none⟩ u) (λb=>D b\/w.heap.size<=b) ⟨p.b,p.c,p.es.set q { e with vv:=u,vl:=ul }⟩:=by
  refine⟨by simpa using s,λV y=>?_⟩;obtain⟨j,r⟩:=List.getElem?_of_mem y;rw[List.getElem?_set] at r;by_cases N:q=j
  ·subst N;rw[if_pos rfl,if_pos E] at r
   cases r;have f:=n.1.fa e (List.mem_of_getElem? he);exact⟨(a (f.k.keep B)).mono (λ_ _ h=>.inl h),(a hu).mono (λ_ _ h=>.inr h)⟩
  rw[if_neg N] at r;have f:=n.1.fa V (List.mem_of_getElem? r);exact⟨(a (f.k.keep B)).mono (λ_ _ h=>.inl h),(a (f.v.keep B)).mono (λ_ _ h=>.inl h)⟩
 obtain⟨O,T⟩:=A.put (p':=⟨p.b,p.c,p.es.set q { e with vv:=u,vl:=ul }⟩) (D':=λb=>D b\/w.heap.size<=b) U z H I hi m (.inl rfl) hA (λ_ _ h=>.inl h)
 have hv:(⟨p.b,p.c,p.es.set q { e with vv:=u,vl:=ul }⟩:Pg).v=p.v:=by simp[Pg.v]
 rw[hv] at O T
 have K:Rw (w1.setCell ⟨p.b,q * 2+1,none⟩ u) 198 1 G L.length C (L.map Pg.v):=I.chg m (λe=>n.1.fg I e.symm)
 have d:∀ b,((w1.setCell ⟨p.b,q * 2 + 1,none⟩ u).setCell ⟨G,i,none⟩ p.v).heap[b]? = (w1.setCell ⟨p.b,q * 2 + 1,none⟩ u).heap[b]? := λb=>by
  obtain⟨sp,h,_⟩:=K.ex;exact Ao h (by rw[List.getElem?_append_left (by simpa using t)];simp[hi]) b
 have J:∀ x,((F x/\x≠p.b)\/x=p.b)<->F x:=λx=>⟨λh=>h.elim (λh=>h.1) (λh=>by subst h; exact n.2),λh=>by
  by_cases ex:x=p.b
  ·exact .inr ex
  exact .inl ⟨h,ex⟩⟩
 have M:=O.same (w':=w1.setCell ⟨p.b,q * 2+1,none⟩ u) (λb _=>(d b).symm) (λb _ _ _=>(d b).symm);rw[show (λx=>(F x/\x≠p.b)\/x=p.b)=F from funext λx=>propext (J x)] at M;exact⟨M,⟨m.os,m.tape,m.output,m.size,λb hb hf=>m.same b hb λe=>hf (by subst e;exact n.2)⟩⟩
theorem fR(A:bR w F D g L)(O:Ord (ens L))(hs:∀ es∈ens L,es.length<=1000)(hn:L.length<=100000000)(h:By w kv k)(hb:∀ p∈L,∀ e∈p.es,e.vl.length<=1000000000) :
  Calls Tryz.prog 71 #[.pointer (some ⟨g,0,none⟩),kv] w λe w'=>∃ v,e=.returned (.tuple #[v,.bool (has (ens L) k)])/\OB w' (w.heap.size <= ·) v (if has (ens L) k then got (ens L) k else [])/\BW w w':=by
 by_cases s:L=[]
 ·subst s;have t:=og (v:=kv) A
  have e1:has (ens []) k=false:=rfl;rw[e1];clear A O hs hb h;go_enter Tryz.func71,Tryz.ntmps71;go_wp2_with (go_at_call 103;refine t.mono ?_;rintro z l ⟨rfl,rfl⟩);go_ret2;exact⟨_,rfl,⟨λ_ h=>by simp at h,.inl ⟨rfl,rfl⟩⟩,Below.refl _ _⟩
 obtain⟨p,u,r⟩:=pR s k;have d:=List.mem_of_getElem? u;have t:=mf A O h u (hs:=by have:=hs p.es (List.mem_map.2 ⟨p,d,rfl⟩);omega);obtain⟨G,C,y,S,X,H⟩:=A.opn s;have U:=(List.getElem?_eq_some_iff.1 u).1
 have N:has (ens L) k=thr (kys p.es) k:=by
  unfold has;rw[r];have:(ens L).isEmpty=false:=by simp[ens,s]
  simp[this]
 have f:got (ens L) k=((p.es)[plc (kys p.es) k]?.map En.vl).getD []:=by unfold got;rw[r]
 rw[N];by_cases j:thr (kys p.es) k=true
 ·obtain⟨e,he,Q⟩:=me j;rw[he] at f;simp only[Option.map_some,Option.getD_some] at f;rw[j,if_pos rfl,f];rw[j] at t;have K:=y.cell (i:=0) rfl;have B:=H.cell (i:=pgi (ens L) k) (v:=p.v) (by simp[u]);have M:=(A.cM p d).1.fa e (List.mem_of_getElem? he);have I:=(A.cM p d).1.row.cell (lx he)
  have J:∀ w',BW w w'->Calls Tryz.prog 104 #[e.vv] w' _:=λw' c=>cW (M.v.keep c).by (hb p d e (List.mem_of_getElem? he))
  have T:=(List.getElem?_eq_some_iff.1 he).1;generalize pgi (ens L) k=i at *;generalize plc (kys p.es) k=q at *
  have z1:(i:Int) < L.length:=by omega
  have z2:(q:Int) < p.es.length:=by omega
  simp only[Pg.v] at B;generalize L.length=n at *;generalize p.es.length=m at *;clear A O hs hb h H y M j;go_enter Tryz.func71,Tryz.ntmps71;go_wp2_with (first | (go_at_call 103;refine t.mono ?_;rintro z l ⟨rfl,c⟩;have W:l.cell? ⟨g,0,none⟩=_:=(c.cell (p:=⟨g,0,none⟩) (aC K)).trans K;have Y:l.cell? ⟨G,i,none⟩=_:=(c.cell (p:=⟨G,i,none⟩) (aC B)).trans B;have P:l.cell? ⟨p.b,q * 2+1,none⟩=_:=(c.cell (p:=⟨p.b,q * 2+1,none⟩) (aC I)).trans I;have x:=J l c;clear t J) | (go_at_call 104;refine x.mono ?_;rintro z Z ⟨V,rfl,R,E⟩));go_ret2;exact⟨V,rfl,R.mono (λb _ hb=>Nat.le_trans c.size hb),ae c E⟩
 have o:thr (kys p.es) k=false:=by simpa using j
 rw[o] at t ⊢;generalize pgi (ens L) k=i at *;generalize plc (kys p.es) k=q at *;clear A O hs hb h H y j o N f;go_enter Tryz.func71,Tryz.ntmps71;go_wp2_with (go_at_call 103;refine t.mono ?_;rintro z l ⟨rfl,c⟩);go_ret2;exact⟨_,rfl,⟨λ_ h=>by simp at h,.inl ⟨rfl,rfl⟩⟩,c⟩
end
section
variable {es:List En}{q g:Nat}{w:World}{D F:Nat->Prop}{v l k:List Int}{L:List Pg}{kv vv:Value}
theorem yW{e:En}(h:es[q]?=some e)(f:En->En):es.modify q f=es.set q (f e):=by
 have a:=(List.getElem?_eq_some_iff.1 h).1;apply List.ext_getElem?;intro j;rw[List.getElem?_modify,List.getElem?_set];by_cases e:q=j
 ·subst e;rw[if_pos rfl,if_pos a,h];simp
 rw[if_neg e];simp[e]
theorem OB.shape{v:Value}(h:OB w D v l):∃ ao c,v=.slice ao l.length c:=by
 rcases h.ex with⟨rfl,rfl⟩ | ⟨b,c,rfl,_⟩
 ·exact⟨none,0,rfl⟩
 exact⟨_,c,rfl⟩
def SetR(w w':World)(F D:Nat->Prop)(g:Nat)(L:List Pg)(k v:List Int):Prop :=
 ∃ F' L' nk nv,ens L'=fG (ens L) ⟨nk,k,nv,v⟩/\bR w' F' (λb=>D b\/w.heap.size<=b) g L'/\(∀ b,F' b->F b\/w.heap.size<=b)/\Chg F w w'
theorem xJ{F D:Nat→Prop}{p:Pg}(A:bR w F D g L)(O:Ord (ens L))(hs:p.es.length≤1000)(hn:L.length≤100000000)(h:By w kv k)(hv:By w vv v)(N:v.length≤1000000000)(hL:L≠[])(hp:L[pgi (ens L) k]?=some p)(H:(ens L).getD (pgi (ens L) k) []=p.es)(ht:thr (kys p.es) k=true) :
    Calls Tryz.prog 126 #[.pointer (some ⟨g,0,none⟩),kv,vv] w λe w'=>e=.returned (.bool false)∧SetR w w' F D g L k v:=by
  have t:=mf A O h hp;obtain⟨G,C,T,Y,hFG,W⟩:= A.opn hL;obtain⟨e,he,hek⟩:= me ht;have M:=List.mem_of_getElem? hp;have aa:=(List.getElem?_eq_some_iff.1 hp).1;have hql:=(List.getElem?_eq_some_iff.1 he).1
  have hS : ∀ u, fG (ens L) ⟨e.kv, k, u, v⟩ = (ens L).set (pgi (ens L) k) (p.es.set (plc (kys p.es) k) { e with vv := u, vl := v }) := λu => by
    unfold fG;rw[if_neg (uJ hL)];simp only[H];rw[if_pos ht,yW he]
  have hS:Hid _:=hS;rw[ht] at t;have V:=T.cell (i:=0) rfl;have P:=W.cell (i:=pgi (ens L) k) (v:=p.v) (by simp[hp])
  have tC:∀ w',BW w w'→Calls Tryz.prog 104 #[vv] w' _:=λw' B=>cW (hv.keep B) N
  have d:=(A.cM p M).1;have U:=d.row.cell (lx he);have fv:=d.row.free (plc (kys p.es) k * 2+1)
  have n1:g≠p.b:=λe=>d.ff T e.symm
  have n2:G≠p.b:=λe=>d.fg W e.symm
  generalize x:pgi (ens L) k=i at *;generalize r:plc (kys p.es) k=q at *
  have x:Hid _:=x
  have r:Hid _:=r
  have z1:(i:Int) < L.length:=by omega
  have z2:(q:Int) < p.es.length:=by omega
  simp only[Pg.v] at P;generalize s:L.length=n at *;generalize z:p.es.length=m at *
  have s:Hid _:=s
  have z:Hid _:=z;clear ht H;have mixed:=mixed;go_enter Tryz.func126,Tryz.ntmps126;go_wp2_with (first | (go_at_call 103;refine t.mono ?_;rintro e' E ⟨rfl,B⟩))
  have y:E.drew.cell? ⟨g,0,none⟩=some (.slice (some ⟨G,0,none⟩) n C):=(B.cell (p:=⟨g,0,none⟩) (aC V)).trans V
  have I:E.drew.cell? ⟨G,i,none⟩=some (.slice (some ⟨p.b,0,none⟩) m p.c):=(B.cell (p:=⟨G,i,none⟩) (aC P)).trans P
  have f:BW w E.drew:=ae B (cT E);have J:=tC E.drew f;go_region_held3 (λw'=>w'.cell? ⟨g,0,none⟩=some (.slice (some ⟨G,0,none⟩) n C)∧w'.cell? ⟨G,i,none⟩=some (.slice (some ⟨p.b,0,none⟩) m p.c)) (first | exact⟨by assumption,by assumption⟩ | exact⟨cD n1 (by assumption),cD n2 (by assumption)⟩)
    (first
    | (go_at_call 104;refine J.mono ?_;rintro e' o ⟨v',rfl,S,l⟩;obtain⟨K,Q,rfl⟩:= S.shape;have cg2:o.cell? ⟨g,0,none⟩=_:=(l.cell (p:=⟨g,0,none⟩) (aC y)).trans y;have X:o.cell? ⟨G,i,none⟩=_:=(l.cell (p:=⟨G,i,none⟩) (aC I)).trans I;have j:=ae f l;have Z:o.cell? ⟨p.b,q * 2+1,none⟩=_:=(j.cell (p:=⟨p.b,q * 2+1,none⟩) (aC U)).trans U;have fv2:o.frozen? ⟨p.b,q * 2+1,none⟩=false:=(d.row.keep j).free _))
  all_goals (
    have R:OB o (w.heap.size≤·) (.slice K v.length Q) v:=S.mono (λb _ hb=>Nat.le_trans f.size hb);obtain⟨A2,C2⟩:= A.upd hp he j R;generalize (o.setCell ⟨p.b,q * 2+1,none⟩ (.slice K v.length Q))=W3 at *;go_wp2;go_ret
    exact⟨rfl,F,_,e.kv,.slice K v.length Q,by rw[hS.out,pP],A2,λb hb=>.inl hb,C2⟩)
theorem iP{i:Nat}(A:bR w F D g L)(h:By w kv k)(hv:By w vv v)(p:k.length<=1000000000)(r:v.length<=1000000000)(t:Calls Tryz.prog 103 #[.pointer (some ⟨g,0,none⟩),kv] w λe w'=>e=.returned (.tuple #[.int .i64 i,.int .i64 q,.bool false])/\BW w w')(z:∀ (w':World) (nk nv:Value),bR w' F (λb=>D b\/w.heap.size<=b) g L->EnA w' (λb=>D b\/w.heap.size<=b) ⟨nk,k,nv,v⟩->Calls Tryz.prog 161 #[.pointer (some ⟨g,0,none⟩),.int .i64 i,.int .i64 q,.agg #[nk,nv]] w' λe' w''=>∃ F' L',e'=.returned (.tuple #[])/\ens L'=fG (ens L) ⟨nk,k,nv,v⟩/\bR w'' F' (λb=>D b\/w.heap.size<=b) g L'/\(∀ b,F' b->F b\/w'.heap.size<=b)/\Chg F w' w'') :
  Calls Tryz.prog 126 #[.pointer (some ⟨g,0,none⟩),kv,vv] w λe w'=>e=.returned (.bool true)/\SetR w w' F D g L k v:=by
 have y:∀ w',BW w w'->Calls Tryz.prog 104 #[kv] w' _:=λw' f=>cW (h.keep f) p
 have x:∀ w',BW w w'->Calls Tryz.prog 104 #[vv] w' _:=λw' f=>cW (hv.keep f) r
 have mk:True:=trivial;clear h hv;go_enter Tryz.func126,Tryz.ntmps126
 go_wp2_with (first
  | (go_at_call 103;refine t.mono ?_;rintro e' B ⟨rfl,f⟩;have l:=y B f;clear t y)
  | (go_at_call 104;clear mk;refine l.mono ?_;rintro e' H ⟨nk,rfl,u,s⟩;have d:=ae f s;have j:=x H d;clear l x;obtain⟨K,N,rfl⟩:=u.shape)
  | (go_at_call 104;refine j.mono ?_;rintro e' E ⟨nv,rfl,m,n⟩;clear j;obtain⟨J,M,rfl⟩:=m.shape;have c:=ae d n;have o:=z E _ _ ((A.keep c).mono (λ_ _ h=>.inl h)) ⟨(u.keep n).mono (λb _ hb=>.inr (Nat.le_trans f.size hb)),m.mono (λb _ hb=>.inr (Nat.le_trans d.size hb))⟩)
  | (go_at_call 161;refine o.mono ?_;rintro e' I ⟨F',L',rfl,G,hA,hF,C⟩))
 go_ret;exact⟨rfl,F',L',_,_,G,hA,λb hb=>(hF b hb).imp id (λh=>Nat.le_trans c.size h),(Chg.of (F:=F) c).trans C (λ_ _ h=>h)⟩
theorem Ej(A:bR w F D g L)(O:Ord (ens L))(hs:∀ es∈ens L,es.length<=32)(hn:L.length<=100000000)(h:By w kv k)(hv:By w vv v)(j:k.length<=1000000000)(b:v.length<=1000000000) :
  CP 126 #[.pointer (some ⟨g,0,none⟩),kv,vv] w λe w'=>e=.returned (.bool (!has (ens L) k))/\SetR w w' F D g L k v:=by
 by_cases c:L=[]
 ·subst c;refine iP (i:=0) (q:=0) A h hv j b ((og A).mono ?_) (λw' nk C y o=>(rJ y o).mono ?_)
  ·rintro e w' ⟨rfl,rfl⟩;exact⟨rfl,Below.refl _ _⟩
  rintro e s ⟨x,n,rfl,z,hA,hF,u⟩;exact⟨x,n,rfl,z,hA,hF,u⟩
 obtain⟨p,l,a⟩:=pR c k;have r:=List.mem_of_getElem? l;have B:=hs p.es (List.mem_map.2 ⟨p,r,rfl⟩)
 have E:has (ens L) k=thr (kys p.es) k:=by
  unfold has;rw[a];have:(ens L).isEmpty=false:=by simp[ens,c]
  simp[this]
 rw[E];by_cases m:thr (kys p.es) k=true
 ·rw[m];exact xJ A O (by omega) hn h hv b c l a m
 have d:thr (kys p.es) k=false:=by simpa using m
 have t:=mf A O h l;rw[d] at t ⊢;have f:=qq (kys p.es) k;simp only[kys,List.length_map] at f;refine iP A h hv j b t (λw' nk C y o=>(uq y l (q:=plc (kys p.es) k) f B hn o).mono ?_);rintro e s ⟨x,n,rfl,z,hA,hF,u⟩;refine⟨x,n,rfl,?_,hA,hF,u⟩;rw[z];unfold fG;rw[if_neg (uJ c)];simp only[a];rw[if_neg (by rw[d];decide)]
end
section
variable {w:World}{v:Value}{F D:Nat→Prop}{L:List Pg}
def jnb(P:List (List En))(i:Nat):Bool:=decide (i+1 < P.length) && decide ((P.getD i []).length+(P.getD (i+1) []).length<=16)
def jnQ(P:List (List En))(i:Nat):List (List En):=P.take i ++ [P.getD i [] ++ P.getD (i+1) []] ++ P.drop (i+2)
theorem jn_neg:Calls Tryz.prog 260 #[v,.int .i64 (-1)] w λe w'=>e=.returned (.bool false)/\BW w w':=by
 have mixed:=mixed;go_enter Tryz.func260,Tryz.ntmps260;go_wp2;go_region;go_wp2;go_ret;exact⟨rfl,cT w⟩
theorem Bv{g i:Nat}(A:bR w F D g L)(hn:L.length≤100000000)(hs:∀ es ∈ ens L,es.length≤1000)(hi:i < L.length:=by omega) :
    Calls Tryz.prog 260 #[.pointer (some ⟨g,0,none⟩),.int .i64 i] w λe w'=>e=.returned (.bool (jnb (ens L) i))∧BW w w':=by
  have M:L≠[]:=λe=>by subst e;simp at hi
  obtain⟨G,C,B,N,P,t⟩:= A.opn M;have I:=B.cell (i:=0) rfl
  have q:(ens L).length=L.length:=by simp[ens]
  have mixed:=mixed
  have z:IntKind.i64.wrap ((i:Int)+1)=(i:Int)+1:=by rw[IntKind.wrap_i64];omega
  have K:(0:Int)≤(i:Int):=by omega
  by_cases s:i+1 < L.length
  · obtain⟨p,E⟩:∃ p,L[i]?=some p:=⟨L[i],List.getElem?_eq_getElem hi⟩
    obtain⟨d,l⟩:∃ d,L[i+1]?=some d:=⟨L[i+1],List.getElem?_eq_getElem s⟩;have J:=t.cell (i:=i) (v:=p.v) (by simp[E]);have m:=t.cell (i:=i+1) (v:=d.v) (by simp[l]);have s1:=hs p.es (List.mem_map.2 ⟨p,List.mem_of_getElem? E,rfl⟩);have s2:=hs d.es (List.mem_map.2 ⟨d,List.mem_of_getElem? l,rfl⟩)
    have u:Hid (jnb (ens L) i=decide ((p.es.length:Int)+(d.es.length:Int)≤16)):=by
      show _=_
      unfold jnb;rw[q,decide_eq_true s,eX E,eX l,Bool.true_and];congr 1
      exact propext ⟨λh=>by omega,λh=>by omega⟩
    simp only[Pg.v] at J m;generalize hln:L.length=n at *;generalize p.es.length=x at *;generalize d.es.length=y at *
    have z1:(i:Int)+1 < n:=by omega
    have z2:(i:Int) < n:=by omega
    have z3:((i:Int)+1).toNat=i+1:=by omega
    have Q:(0:Int)≤(i:Int)+1:=by omega
    have O:IntKind.i64.wrap ((x:Int)+(y:Int))=(x:Int)+(y:Int):=by rw[IntKind.wrap_i64];omega
    have f:w.drew.cell? ⟨g,0,none⟩=some (.slice (some ⟨G,0,none⟩) n C):=I
    have o:w.drew.cell? ⟨G,i,none⟩=some (.slice (some ⟨p.b,0,none⟩) x p.c):=J
    have j:w.drew.cell? ⟨G,i+1,none⟩=some (.slice (some ⟨d.b,0,none⟩) y d.c):=m;clear A hs t B hln;go_enter Tryz.func260,Tryz.ntmps260;go_wp2
    have r:Tryz.prog.underlying 199=some (.slice 198):=by kernel_rfl
    have H:i < n:=hi;refine cZ (S:=λw'=>w'.cell? ⟨g,0,none⟩=some (.slice (some ⟨G,0,none⟩) n C)∧w'.cell? ⟨G,i,none⟩=some (.slice (some ⟨p.b,0,none⟩) x p.c)∧w'.cell? ⟨G,i+1,none⟩=some (.slice (some ⟨d.b,0,none⟩) y d.c)) (by kernel_rfl) ⟨f,o,j⟩ ?_
    have hS:=(show _∧_∧_ from⟨f,o,j⟩);refine aI 0 5 (.int .i64 i) hS ?_
    refine iT 1 (some 6) (.bool (decide ((0:Int)≤(i:Int)))) (.bool true) (by rw[decide_eq_true K]) hS ?_
    refine aI 2 7 (.bool true) hS ?_
    refine aI 3 8 (.int .i64 i) hS ?_
    refine iT 4 (some 9) (.int .i64 (IntKind.i64.wrap ((i:Int)+1))) (.int .i64 ((i:Int)+1)) (by rw[z]) hS ?_
    refine aI 5 10 (.pointer (some ⟨g,0,none⟩)) hS ?_
    refine aI 6 11 (.pointer (some ⟨g,0,none⟩)) hS ?_
    refine aI 7 12 (.pointer (some ⟨g,0,none⟩)) hS ?_
    refine aV 8 (some 13) (.slice (some ⟨G,0,none⟩) n C) 199 12 (g) (0) (λw' h=>gj h.1) hS ?_
    refine aI 9 14 (.int .i64 n) hS ?_
    refine iT 10 (some 15) (.bool (decide ((i:Int)+1 < (n:Int)))) (.bool true) (by rw[decide_eq_true (by omega)]) hS ?_
    refine aI 11 16 (.bool true) hS ?_
    refine aI 12 17 (.bool true) hS ?_
    refine aI 13 18 (.pointer (some ⟨g,0,none⟩)) hS ?_
    refine aI 14 19 (.pointer (some ⟨g,0,none⟩)) hS ?_
    refine aI 15 20 (.pointer (some ⟨g,0,none⟩)) hS ?_
    refine aV 16 (some 21) (.slice (some ⟨G,0,none⟩) n C) 199 20 (g) (0) (λw' h=>gj h.1) hS ?_
    refine aI 17 22 (.int .i64 i) hS ?_
    refine aI 18 23 (.pointer (some ⟨G,i,none⟩)) hS ?_ (hy:=λ_ _=>eK (x:=21) (y:=22) (n:=n) (c:=C) r (rfl) (H));refine aV 19 (some 24) (.slice (some ⟨p.b,0,none⟩) x p.c) 198 23 (G) (i) (λw' h=>pH h.2.1) hS ?_
    refine aI 20 25 (.int .i64 x) hS ?_
    refine aI 21 26 (.pointer (some ⟨g,0,none⟩)) hS ?_
    refine aI 22 27 (.pointer (some ⟨g,0,none⟩)) hS ?_
    refine aI 23 28 (.pointer (some ⟨g,0,none⟩)) hS ?_
    refine aV 24 (some 29) (.slice (some ⟨G,0,none⟩) n C) 199 28 (g) (0) (λw' h=>gj h.1) hS ?_
    refine aI 25 30 (.int .i64 i) hS ?_
    refine iT 26 (some 31) (.int .i64 (IntKind.i64.wrap ((i:Int)+1))) (.int .i64 ((i:Int)+1)) (by rw[z]) hS ?_
    refine aI 27 32 (.pointer (some ⟨G,i+1,none⟩)) hS ?_ (hy:=λ_ _=>eK (x:=29) (y:=31) (n:=n) (c:=C) r (show ((i:Int)+1)=((i+1:Nat):Int) from by omega) (s));refine aV 28 (some 33) (.slice (some ⟨d.b,0,none⟩) y d.c) 198 32 (G) (i+1) (λw' h=>pH h.2.2) hS ?_
    refine aI 29 34 (.int .i64 y) hS ?_
    refine iT 30 (some 35) (.int .i64 (IntKind.i64.wrap ((x:Int)+(y:Int)))) (.int .i64 ((x:Int)+(y:Int))) (by rw[O]) hS ?_
    refine aI 31 36 (.bool (decide ((x:Int)+(y:Int)≤16))) hS ?_
    refine aI 32 37 (.bool (decide ((x:Int)+(y:Int)≤16))) hS ?_
    refine aI 33 4 (.bool (decide ((x:Int)+(y:Int)≤16))) hS ?_
    refine cn ?_
    simp only[Act.put,List.setIfInBounds_toArray,List.set_cons_zero,List.set_cons_succ];go_wp2;go_ret;exact⟨by rw[u.out];rfl,cT w⟩
  · have u:Hid (jnb (ens L) i=false):=by
      show _=_
      unfold jnb;rw[q,decide_eq_false s,Bool.false_and]
    generalize hln:L.length=n at *
    have z1:¬ ((i:Int)+1 < n):=by omega
    have f:w.drew.cell? ⟨g,0,none⟩=some (.slice (some ⟨G,0,none⟩) n C):=I;clear A hs t B hln;go_enter Tryz.func260,Tryz.ntmps260;go_wp2;refine cZ (S:=λw'=>w'.cell? ⟨g,0,none⟩=some (.slice (some ⟨G,0,none⟩) n C)) (by kernel_rfl) f ?_
    have hS:=f;refine aI 0 5 (.int .i64 i) hS ?_
    refine iT 1 (some 6) (.bool (decide ((0:Int)≤(i:Int)))) (.bool true) (by rw[decide_eq_true K]) hS ?_
    refine aI 2 7 (.bool true) hS ?_
    refine aI 3 8 (.int .i64 i) hS ?_
    refine iT 4 (some 9) (.int .i64 (IntKind.i64.wrap ((i:Int)+1))) (.int .i64 ((i:Int)+1)) (by rw[z]) hS ?_
    refine aI 5 10 (.pointer (some ⟨g,0,none⟩)) hS ?_
    refine aI 6 11 (.pointer (some ⟨g,0,none⟩)) hS ?_
    refine aI 7 12 (.pointer (some ⟨g,0,none⟩)) hS ?_
    refine aV 8 (some 13) (.slice (some ⟨G,0,none⟩) n C) 199 12 (g) (0) (λw' h=>gj h) hS ?_
    refine aI 9 14 (.int .i64 n) hS ?_
    refine iT 10 (some 15) (.bool (decide ((i:Int)+1 < (n:Int)))) (.bool false) (by rw[decide_eq_false (by omega)]) hS ?_
    refine aI 11 16 (.bool false) hS ?_
    refine aI 12 17 (.bool false) hS ?_
    refine cQ 13 (some 18) hS ?_
    refine cQ 14 (some 19) hS ?_
    refine cQ 15 (some 20) hS ?_
    refine cQ 16 (some 21) hS ?_
    refine cQ 17 (some 22) hS ?_
    refine cQ 18 (some 23) hS ?_
    refine cQ 19 (some 24) hS ?_
    refine cQ 20 (some 25) hS ?_
    refine cQ 21 (some 26) hS ?_
    refine cQ 22 (some 27) hS ?_
    refine cQ 23 (some 28) hS ?_
    refine cQ 24 (some 29) hS ?_
    refine cQ 25 (some 30) hS ?_
    refine cQ 26 (some 31) hS ?_
    refine cQ 27 (some 32) hS ?_
    refine cQ 28 (some 33) hS ?_
    refine cQ 29 (some 34) hS ?_
    refine cQ 30 (some 35) hS ?_
    refine cQ 31 (some 36) hS ?_
    refine aI 32 37 (.bool false) hS ?_
    refine aI 33 4 (.bool false) hS ?_
    refine cn ?_
    simp only[Act.put,List.setIfInBounds_toArray,List.set_cons_zero,List.set_cons_succ];go_wp2;go_ret;exact⟨by rw[u.out];rfl,cT w⟩
end
section
variable {L:List Pg}{i:Nat}{p p2:Pg}{w:World}{F D:Nat->Prop}
theorem ens_jn{q:Pg}(hp:L[i]?=some p)(b:L[i+1]?=some p2)(hq:q.es=p.es ++ p2.es):ens ((L.set i q).take (i+1) ++ (L.set i q).drop (i+2))=jnQ (ens L) i:=by
 have a:=(List.getElem?_eq_some_iff.1 hp).1;unfold jnQ;rw[eX hp,eX b,<- hq]
 have e1:(L.set i q).take (i+1)=L.take i ++ [q]:=by
  rw[List.take_add_one,List.take_set_of_le (Nat.le_refl _),List.getElem?_set_self a];rfl
 rw[e1,List.drop_set_of_lt (by omega)];simp[ens,List.map_take,List.map_drop]
theorem Ac{g:Nat}(A:bR w F D g L)(hp:L[i]?=some p)(O:L[i+1]?=some p2)(hn:L.length<=100000000)(h0:0 < p.es.length)(hs1:p.es.length<=1000)(hs2:p2.es.length<=1000) :
  Calls Tryz.prog 261 #[.pointer (some ⟨g,0,none⟩),.int .i64 i] w λe w'=>∃ F' L',e=.returned (.tuple #[])/\ens L'=jnQ (ens L) i/\bR w' F' D g L'/\(∀ b,F' b->F b\/w.heap.size<=b)/\Chg F w w':=by
 have hil:=(List.getElem?_eq_some_iff.1 hp).1;have hil2:=(List.getElem?_eq_some_iff.1 O).1
 have hL:L≠[]:=λe=>by subst e;simp at hil
 obtain⟨G,C,hg,hFg,hFG,hR⟩:=A.opn hL;have Y:=A.cM p (List.mem_of_getElem? hp);have r:=A.cM p2 (List.mem_of_getElem? O);have cg:=hg.cell (i:=0) rfl;have cG:=hR.cell (i:=i) (v:=p.v) (by simp[hp]);have t:=hR.cell (i:=i+1) (v:=p2.v) (by simp[O]);have hCC:=hR.le;simp only[maxLen] at hCC;obtain⟨n,d⟩:∃ n,Hid (L.length=n):=⟨_,rfl⟩
 obtain⟨x,u⟩:∃ m,Hid (p.es.length=m):=⟨_,rfl⟩
 obtain⟨y,P⟩:∃ m,Hid (p2.es.length=m):=⟨_,rfl⟩
 simp only[Pg.v] at cG t;rw[d.out] at cg;rw[u.out] at cG;rw[P.out] at t
 have z1:(i:Int) < n:=by have:=d.out;omega
 have z2:(i:Int)+1 < n:=by have:=d.out;omega
 have w1:IntKind.i64.wrap ((i:Int)+1)=(i:Int)+1:=by rw[IntKind.wrap_i64];have:=d.out;omega
 have z3:((i:Int)+1).toNat=i+1:=by omega
 have z4:(0:Int)<=(i:Int)+1:=by omega
 have cgd:w.drew.cell? ⟨g,0,none⟩=some (.slice (some ⟨G,0,none⟩) n C):=cg
 have cGd:w.drew.cell? ⟨G,i,none⟩=some (.slice (some ⟨p.b,0,none⟩) x p.c):=cG
 have T:w.drew.cell? ⟨G,i+1,none⟩=some (.slice (some ⟨p2.b,0,none⟩) y p2.c):=t
 have s:g≠G:=λe=>hR.ff hg e.symm
 obtain⟨Q,N⟩:∃ Q,Hid (Q=w.drew.alloc (.cells #[.slice (some ⟨p.b,0,none⟩) x p.c,.slice (some ⟨p2.b,0,none⟩) y p2.c] 198)):=⟨_,rfl⟩
 have K:BW w Q:=by rw[N.out];exact ae (cT w) (aa w.drew _)
 have V1:Blk Q w.heap.size [.slice (some ⟨p.b,0,none⟩) x p.c,.slice (some ⟨p2.b,0,none⟩) y p2.c] 198:=by rw[N.out];exact ay w.drew _ _
 have t1:=FG V1 ((u.out▸Y.1.row).keep K) ((P.out▸r.1.row).keep K) (by have:=u.out;omega) (by have:=u.out;omega) (by have:=P.out;omega) Y.1.one r.1.one
 have E:Q.cell? ⟨g,0,none⟩=_:=(K.cell (p:=⟨g,0,none⟩) (aC cg)).trans cg
 have R:Q.cell? ⟨G,i,none⟩=_:=(K.cell (p:=⟨G,i,none⟩) (aC cG)).trans cG
 have f:Q.cell? ⟨G,i+1,none⟩=_:=(K.cell (p:=⟨G,i+1,none⟩) (aC t)).trans t
 have hin:i < n:=by have:=d.out;omega
 have hin2:i+1 < n:=by have:=d.out;omega
 have hS1:=(show _/\_ from⟨E,f⟩)
 rw[N.out] at hS1 t1;go_enter Tryz.func261,Tryz.ntmps261;go_wp2
 have ab:Tryz.prog.underlying 199=some (.slice 198):=by kernel_rfl
 refine qx (X:=Nat × Nat) (λz=>[(some 4,.pointer (some ⟨g,0,none⟩)),(some 5,.pointer (some ⟨g,0,none⟩)),(some 6,.pointer (some ⟨g,0,none⟩)),(some 7,.slice (some ⟨G,0,none⟩) n C),(some 8,.int .i64 i),(some 9,.pointer (some ⟨g,0,none⟩)),(some 10,.pointer (some ⟨g,0,none⟩)),(some 11,.pointer (some ⟨g,0,none⟩)),(some 12,.slice (some ⟨G,0,none⟩) n C),(some 13,.int .i64 i),(some 14,.pointer (some ⟨G,i,none⟩)),(some 15,.slice (some ⟨p.b,0,none⟩) x p.c),(some 16,.pointer (some ⟨g,0,none⟩)),(some 17,.pointer (some ⟨g,0,none⟩)),(some 18,.pointer (some ⟨g,0,none⟩)),(some 19,.slice (some ⟨G,0,none⟩) n C),(some 20,.int .i64 i),(some 21,.int .i64 ((i:Int)+1)),(some 22,.pointer (some ⟨G,i+1,none⟩)),(some 23,.slice (some ⟨p2.b,0,none⟩) y p2.c),(some 24,.slice (some ⟨w.heap.size,0,none⟩) 2 2),(some 25,.slice (some ⟨z.1,0,none⟩) (x+y) z.2),(some 26,.pointer (some ⟨G,i,none⟩))]) (λz w'=>∃ j,w'=j.setCell ⟨G,i,none⟩ (.slice (some ⟨z.1,0,none⟩) (x+y) z.2)/\Q.heap.size<=z.1/\Rw j 197 2 z.1 (x+y) z.2 (flat p.es ++ flat p2.es)/\BW Q j) (λw'=>w'.cell? ⟨g,0,none⟩=some (.slice (some ⟨G,0,none⟩) n C)/\w'.cell? ⟨G,i+1,none⟩=some (.slice (some ⟨p2.b,0,none⟩) y p2.c)) (by kernel_rfl) ⟨cgd,T⟩ ?_ ?_
 ·have hS:=(show _/\_ from⟨cgd,T⟩)
  refine aI 0 4 (.pointer (some ⟨g,0,none⟩)) hS ?_
  refine aI 1 5 (.pointer (some ⟨g,0,none⟩)) hS ?_
  refine aI 2 6 (.pointer (some ⟨g,0,none⟩)) hS ?_
  refine aV 3 (some 7) (.slice (some ⟨G,0,none⟩) n C) 199 6 (g) (0) (λw' h=>gj h.1) hS ?_
  refine aI 4 8 (.int .i64 i) hS ?_
  refine aI 5 9 (.pointer (some ⟨g,0,none⟩)) hS ?_
  refine aI 6 10 (.pointer (some ⟨g,0,none⟩)) hS ?_
  refine aI 7 11 (.pointer (some ⟨g,0,none⟩)) hS ?_
  refine aV 8 (some 12) (.slice (some ⟨G,0,none⟩) n C) 199 11 (g) (0) (λw' h=>gj h.1) hS ?_
  refine aI 9 13 (.int .i64 i) hS ?_
  refine aI 10 14 (.pointer (some ⟨G,i,none⟩)) hS ?_ (hy:=λ_ _=>eK (x:=12) (y:=13) (n:=n) (c:=C) ab (rfl) (hin));refine aI 12 16 (.pointer (some ⟨g,0,none⟩)) hS ?_
  refine aI 13 17 (.pointer (some ⟨g,0,none⟩)) hS ?_
  refine aI 14 18 (.pointer (some ⟨g,0,none⟩)) hS ?_
  refine aV 15 (some 19) (.slice (some ⟨G,0,none⟩) n C) 199 18 (g) (0) (λw' h=>gj h.1) hS ?_
  refine aI 16 20 (.int .i64 i) hS ?_
  refine iT 17 (some 21) (.int .i64 (IntKind.i64.wrap ((i:Int)+1))) (.int .i64 ((i:Int)+1)) (by rw[w1]) hS ?_
  refine aI 18 22 (.pointer (some ⟨G,i+1,none⟩)) hS ?_ (hy:=λ_ _=>eK (x:=19) (y:=21) (n:=n) (c:=C) ab (show ((i:Int)+1)=((i+1:Nat):Int) from by omega) (hin2));refine aV 19 (some 23) (.slice (some ⟨p2.b,0,none⟩) y p2.c) 198 22 (G) (i+1) (λw' h=>pH h.2) hS ?_
  refine aQ [11] ?_
  refine bU 11 (some 15) (.slice (some ⟨p.b,0,none⟩) x p.c) _ (ji 14 (pH cGd)) hS ?_ aY;refine aQ [20] ?_
  refine bU 20 (some 24) (.slice (some ⟨w.heap.size,0,none⟩) 2 2) _ (DH (x:=15) (y:=23) (by kernel_rfl) (by kernel_rfl) (by kernel_rfl)) hS1 ?_ aY;refine da 21 (some 25) 313 #[.slice (some ⟨w.heap.size,0,none⟩) 2 2] t1 ?_
  rintro e' j ⟨J,c2,rfl,o,R2,U⟩;rw[<- N.out] at U o
  have Z:j.cell? ⟨g,0,none⟩=_:=(U.cell (p:=⟨g,0,none⟩) (aC E)).trans E
  have cGi2:j.cell? ⟨G,i,none⟩=_:=(U.cell (p:=⟨G,i,none⟩) (aC R)).trans R
  have B:j.cell? ⟨G,i+1,none⟩=_:=(U.cell (p:=⟨G,i+1,none⟩) (aC f)).trans f
  have fG2:j.frozen? ⟨G,i,none⟩=false:=((hR.keep K).keep U).free i;refine⟨_,rfl,⟨Z,B⟩,?_⟩;replace hS:=(show _/\_ from⟨Z,B⟩)
  refine aI 22 26 (.pointer (some ⟨G,i,none⟩)) hS ?_ (hy:=λ_ _=>eK (x:=7) (y:=8) (n:=n) (c:=C) ab (rfl) (hin));refine aQ [23] ?_
  refine dy 23 (j.setCell ⟨G,i,none⟩ (.slice (some ⟨J,0,none⟩) (x+y) c2)) (lA 26 25 cGi2 fG2) ⟨cD s Z,Bc (by omega) B⟩ ?_ aY;refine cn ?_
  exact⟨(J,c2),by kernel_rfl,j,rfl,o,R2,U⟩
 rintro⟨J,c2⟩ w' ⟨j,rfl,o,R2,U⟩;dsimp only at o R2;simp only[jt,Act.put,List.setIfInBounds_toArray,List.set_cons_zero,List.set_cons_succ]
 have M:BW w j:=ae K U;obtain⟨q,hq⟩:∃ q:Pg,Hid (q=⟨J,c2,p.es ++ p2.es⟩):=⟨_,rfl⟩
 have hlen:(p.es ++ p2.es).length=x+y:=by rw[List.length_append,u.out,P.out]
 have hA':PgA j D q:=by
  rw[hq.out];refine⟨?_,λe he=>?_⟩
  ·show Rw j _ 2 J (p.es ++ p2.es).length c2 _
   rw[hlen,eZ];exact R2
  rcases List.mem_append.1 he with h | h
  ·exact(Y.1.fa e h).keep M
  exact(r.1.fa e h).keep M
 have hv':q.v=.slice (some ⟨J,0,none⟩) (x+y) c2:=by rw[hq.out];simp only[Pg.v];rw[hlen]
 have hqb:q.b=J:=by rw[hq.out]
 have hqe:q.es=p.es ++ p2.es:=by rw[hq.out]
 obtain⟨W,C3⟩:=A.put (p':=q) (D':=D) hg hFg hFG hR hp (Chg.of M) (.inr (by rw[hqb];exact Nat.le_trans K.size o)) hA' (λ_ _ h=>h);rw[hv',hqb] at W;rw[hv'] at C3
 have hF3:∀ b,((F b/\b≠p.b)\/b=J)->F b\/w.heap.size<=b:=λb h=>h.imp (λh=>h.1) (λh=>by rw[h];exact Nat.le_trans K.size o)
 have l:=(hg.keep M).off s (i:=i) (.slice (some ⟨J,0,none⟩) (x+y) c2);generalize (j.setCell ⟨G,i,none⟩ (.slice (some ⟨J,0,none⟩) (x+y) c2))=W3 at *;generalize hF3d:(λx=>(F x/\x≠p.b)\/x=J)=F3 at W
 have I:∀ b,F3 b->F b\/w.heap.size<=b:=λb h=>hF3 b (by rw[<- hF3d] at h;exact h)
 obtain⟨G2,D3,hg3,hFg3,V,hR3⟩:=W.opn (by simp[hL]);obtain⟨rfl,rfl⟩:G2=G/\D3=C:=by
  have:=(hg3.eq l).1;simp at this;exact⟨this.1,this.2⟩
 have cg3:W3.cell? ⟨g,0,none⟩=some (.slice (some ⟨G2,0,none⟩) n D3):=by
  have:=l.cell (i:=0) rfl;rwa [d.out] at this
 have S:=hR3;rw[List.length_set,d.out] at S;have t4:=delP (i:=i+1) S (by have:=d.out;omega) (uv _);rw[show ((i+1:Nat):Int)=(i:Int)+1 by omega,show (i:Int)+1+1=(i:Int)+2 by omega] at t4
 have w2':IntKind.i64.wrap ((i:Int)+2)=(i:Int)+2:=by rw[IntKind.wrap_i64];have:=d.out;omega
 go_wp2_with (go_at_call 259;refine t4.mono ?_;rintro e' w5 ⟨rfl,R5,C5⟩;have cg5:w5.cell? ⟨g,0,none⟩=_:=(World.cell?_of_block (a:=⟨g,0,none⟩) (C5.same g (aC cg3) s)).trans cg3;have fg5:w5.frozen? ⟨g,0,none⟩=false:=(l.chg C5 s).free 0);go_end0
 have H:((L.set i q).take (i+1) ++ (L.set i q).drop (i+2)).Sublist (L.set i q):=by
  have h:=List.Sublist.append (List.Sublist.refl ((L.set i q).take (i+1))) (List.drop_sublist 1 ((L.set i q).drop (i+1)));rw[List.drop_drop,List.take_append_drop] at h;exact h
 obtain⟨A6,C6⟩:=lH (w:=W3) (w1:=w5) (F:=F3) (D:=D) (g:=g) (G:=G2) (G':=G2) (C':=D3) (n:=n - 1) (L':=(L.set i q).take (i+1) ++ (L.set i q).drop (i+2))
  (λp hp=>W.cM p (H.mem hp)) (W.apart.sublist (H.map _)) W.kind l hFg3 V (λe=>s e.symm) C5 (λp hp=>(W.cM p (H.mem hp)).1.fg hR3)
  (by simp;have:=d.out;omega) (by simpa[List.map_take,List.map_drop] using R5)
 refine⟨_,_,rfl,ens_jn hp O hqe,A6,λb hb=>?_,C3.trans C6 λb hb h=>(I b h).resolve_right (by omega)⟩;rcases hb with⟨h,_⟩ | rfl
 ·exact I b h
 exact I _ V
end
def rmQ (P:List (List En)) (i q:Nat):List (List En) :=
 let es:=(P.getD i []).take q ++ (P.getD i []).drop (q+1)
 if es=[] then P.take i ++ P.drop (i+1)
 else
  let P1:=P.set i es
  if jnb P1 i then jnQ P1 i else if 1<=i/\jnb P1 (i - 1) then jnQ P1 (i - 1) else P1
def ie (P:List (List En)) (k:List Int):List (List En) :=
 if has P k then rmQ P (pgi P k) (plc (kys (P.getD (pgi P k) [])) k) else P
theorem EC (es:List En) (q:Nat):(flat es).take (q * 2) ++ (flat es).drop ((q+1) * 2)=flat (es.take q ++ es.drop (q+1)):=by
 rw[iN,iE,eZ]
theorem vp {w:World} {F D:Nat->Prop} {g i q:Nat} {L:List Pg} {p:Pg} (A:bR w F D g L) (hi:L[i]?=some p) (hq:q < p.es.length) (hs:∀ es∈ens L,es.length<=32) (hf:∀ es∈ens L,es≠[]) (hn:L.length<=100000000) :
  Calls Tryz.prog 211 #[.pointer (some ⟨g,0,none⟩),.int .i64 i,.int .i64 q] w λe' w'=>∃ F' L',e'=.returned (.tuple #[])/\ens L'=rmQ (ens L) i q/\bR w' F' D g L'/\(∀ b,F' b->F b\/w.heap.size<=b)/\Chg F w w':=by
 have hil:=(List.getElem?_eq_some_iff.1 hi).1
 have hL:L≠[]:=λe=>by subst e;simp at hil
 obtain⟨G,C,hg,hFg,hFG,hR⟩:=A.opn hL;have U:=A.cM p (List.mem_of_getElem? hi);have h2:=hs p.es (List.mem_map.2 ⟨p,List.mem_of_getElem? hi,rfl⟩);have cg:=hg.cell (i:=0) rfl;have cG:=hR.cell (i:=i) (v:=p.v) (by simp[hi]);obtain⟨n,u⟩:∃ n,Hid (L.length=n):=⟨_,rfl⟩
 obtain⟨m,S⟩:∃ m,Hid (p.es.length=m):=⟨_,rfl⟩
 simp only[Pg.v] at cG;rw[u.out] at cg;rw[S.out] at cG
 have cgd:w.drew.cell? ⟨g,0,none⟩=some (.slice (some ⟨G,0,none⟩) n C):=cg
 have cGd:w.drew.cell? ⟨G,i,none⟩=some (.slice (some ⟨p.b,0,none⟩) m p.c):=cG
 have E:g≠G:=λe=>hR.ff hg e.symm
 have ng:g≠p.b:=λe=>U.1.ff hg e.symm
 have nG:G≠p.b:=λe=>U.1.fg hR e.symm
 have hin:i < n:=by have:=u.out;omega
 have w1:IntKind.i64.wrap ((q:Int)+1)=(q:Int)+1:=by rw[IntKind.wrap_i64];omega
 have t1:=delE (i:=q) U.1.row.drew hq U.1.one;rw[S.out] at t1;go_enter Tryz.func211,Tryz.ntmps211;go_wp2
 have hpp:Tryz.prog.underlying 199=some (.slice 198):=by kernel_rfl
 refine qx (X:=Unit) (λ_=>[(some 6,.pointer (some ⟨g,0,none⟩)),(some 7,.pointer (some ⟨g,0,none⟩)),(some 8,.pointer (some ⟨g,0,none⟩)),(some 9,.slice (some ⟨G,0,none⟩) n C),(some 10,.int .i64 i),(some 11,.pointer (some ⟨g,0,none⟩)),(some 12,.pointer (some ⟨g,0,none⟩)),(some 13,.pointer (some ⟨g,0,none⟩)),(some 14,.slice (some ⟨G,0,none⟩) n C),(some 15,.int .i64 i),(some 16,.pointer (some ⟨G,i,none⟩)),(some 17,.slice (some ⟨p.b,0,none⟩) m p.c),(some 18,.int .i64 q),(some 19,.int .i64 q),(some 20,.int .i64 ((q:Int)+1)),(some 21,.slice (some ⟨p.b,0,none⟩) (m - 1) p.c),(some 22,.pointer (some ⟨G,i,none⟩))]) (λ_ w'=>∃ t,w'=t.setCell ⟨G,i,none⟩ (.slice (some ⟨p.b,0,none⟩) (m - 1) p.c)/\Rw t 197 2 p.b (m - 1) p.c ((flat p.es).take (q * 2) ++ (flat p.es).drop ((q+1) * 2))/\Chg (·=p.b) w.drew t) (λw'=>w'.cell? ⟨g,0,none⟩=some (.slice (some ⟨G,0,none⟩) n C)) (by kernel_rfl) cgd ?_ ?_
 ·have hS:=cgd;refine aI 0 6 (.pointer (some ⟨g,0,none⟩)) hS ?_
  refine aI 1 7 (.pointer (some ⟨g,0,none⟩)) hS ?_
  refine aI 2 8 (.pointer (some ⟨g,0,none⟩)) hS ?_
  refine aV 3 (some 9) (.slice (some ⟨G,0,none⟩) n C) 199 8 (g) (0) (λw' h=>gj h) hS ?_
  refine aI 4 10 (.int .i64 i) hS ?_
  refine aI 5 11 (.pointer (some ⟨g,0,none⟩)) hS ?_
  refine aI 6 12 (.pointer (some ⟨g,0,none⟩)) hS ?_
  refine aI 7 13 (.pointer (some ⟨g,0,none⟩)) hS ?_
  refine aV 8 (some 14) (.slice (some ⟨G,0,none⟩) n C) 199 13 (g) (0) (λw' h=>gj h) hS ?_
  refine aI 9 15 (.int .i64 i) hS ?_
  refine aI 10 16 (.pointer (some ⟨G,i,none⟩)) hS ?_ (hy:=λ_ _=>eK (x:=14) (y:=15) (n:=n) (c:=C) hpp (rfl) (hin));refine aI 12 18 (.int .i64 q) hS ?_
  refine aI 13 19 (.int .i64 q) hS ?_
  refine iT 14 (some 20) (.int .i64 (IntKind.i64.wrap ((q:Int)+1))) (.int .i64 ((q:Int)+1)) (by rw[w1]) hS ?_
  refine aQ [11] ?_
  refine bU 11 (some 17) (.slice (some ⟨p.b,0,none⟩) m p.c) _ (ji 16 (pH cGd)) hS ?_ aY;refine da 15 (some 21) 258 #[.slice (some ⟨p.b,0,none⟩) m p.c,.int .i64 q,.int .i64 ((q:Int)+1)] t1 ?_
  rintro e' t ⟨rfl,R2,C2⟩
  have R:t.cell? ⟨g,0,none⟩=_:=(World.cell?_of_block (a:=⟨g,0,none⟩) (C2.same g (aC cgd) ng)).trans cgd
  have cG2:t.cell? ⟨G,i,none⟩=_:=(World.cell?_of_block (a:=⟨G,i,none⟩) (C2.same _ (aC cGd) nG)).trans cGd
  have fG2:t.frozen? ⟨G,i,none⟩=false:=(hR.drew.chg C2 nG).free i;refine⟨_,rfl,R,?_⟩;replace hS:=R;refine aI 16 22 (.pointer (some ⟨G,i,none⟩)) hS ?_ (hy:=λ_ _=>eK (x:=9) (y:=10) (n:=n) (c:=C) hpp (rfl) (hin));refine aQ [17] ?_
  refine dy 17 (t.setCell ⟨G,i,none⟩ (.slice (some ⟨p.b,0,none⟩) (m - 1) p.c)) (lA 22 21 cG2 fG2) (cD E R) ?_ aY;refine cn ?_
  exact⟨(),by kernel_rfl,t,rfl,R2,C2⟩
 rintro - w' ⟨t,rfl,R2,C2⟩;simp only[jt,Act.put,List.setIfInBounds_toArray,List.set_cons_zero,List.set_cons_succ]
 have M:Chg (·=p.b) w t:=(Chg.of (F:=(·=p.b)) (cT w)).trans C2 (λ_ _ h=>h);obtain⟨p',aa⟩:∃ p':Pg,Hid (p'=⟨p.b,p.c,p.es.take q ++ p.es.drop (q+1)⟩):=⟨_,rfl⟩
 have hlen:(p.es.take q ++ p.es.drop (q+1)).length=m - 1:=by have:=S.out;simp;omega
 have hA':PgA t D p':=by
  rw[aa.out];refine⟨?_,λe he=>?_⟩
  ·show Rw t _ 2 p.b (p.es.take q ++ p.es.drop (q+1)).length p.c _
   rw[hlen];exact R2.to (EC p.es q)
  have he':e∈p.es:=by
   rcases List.mem_append.1 he with h | h
   ·exact List.mem_of_mem_take h
   exact List.mem_of_mem_drop h
  refine(U.1.fa e he').off λb hb hk=>M.same b hb λf=>?_
  subst f;obtain⟨cs,k⟩:=hk;obtain⟨ds,k'⟩:=U.1.row.kind;exact eF k k' (by decide) rfl
 have hv':p'.v=.slice (some ⟨p.b,0,none⟩) (m - 1) p.c:=by rw[aa.out];simp only[Pg.v];rw[hlen]
 have hb':p'.b=p.b:=by rw[aa.out]
 have he':p'.es=p.es.take q ++ p.es.drop (q+1):=by rw[aa.out]
 obtain⟨z,V⟩:=A.put (p':=p') (D':=D) hg hFg hFG hR hi M (.inl hb') hA' (λ_ _ h=>h);rw[hv',hb'] at z;rw[hv'] at V
 have hF3:∀ b,((F b/\b≠p.b)\/b=p.b)->F b:=λb h=>h.elim (λh=>h.1) (λh=>by rw[h];exact U.2)
 have R:t.cell? ⟨g,0,none⟩=_:=(World.cell?_of_block (a:=⟨g,0,none⟩) (M.same g (aC cg) ng)).trans cg
 have cG2:t.cell? ⟨G,i,none⟩=_:=(World.cell?_of_block (a:=⟨G,i,none⟩) (M.same _ (aC cG) nG)).trans cG
 have cg3:(t.setCell ⟨G,i,none⟩ (.slice (some ⟨p.b,0,none⟩) (m - 1) p.c)).cell? ⟨g,0,none⟩=some (.slice (some ⟨G,0,none⟩) n C):=cD E R
 have ab:(t.setCell ⟨G,i,none⟩ (.slice (some ⟨p.b,0,none⟩) (m - 1) p.c)).cell? ⟨G,i,none⟩=some (.slice (some ⟨p.b,0,none⟩) (m - 1) p.c):=World.cell?_setCell_same' _ _ _ (by rw[cG2];rfl);have P:=(hg.chg M ng).off E (i:=i) (.slice (some ⟨p.b,0,none⟩) (m - 1) p.c);generalize (t.setCell ⟨G,i,none⟩ (.slice (some ⟨p.b,0,none⟩) (m - 1) p.c))=W3 at *;generalize hF3d:(λx=>(F x/\x≠p.b)\/x=p.b)=F3 at z
 have d:∀ b,F3 b->F b:=λb h=>hF3 b (by rw[<- hF3d] at h;exact h)
 have hi3:(L.set i p')[i]?=some p':=by rw[List.getElem?_set_self hil]
 have hE3:ens (L.set i p')=(ens L).set i (p.es.take q ++ p.es.drop (q+1)):=by rw[pP,he']
 have Z:∀ es∈ens (L.set i p'),es.length<=32:=λes he=>by
  rw[hE3] at he;rcases List.mem_or_eq_of_mem_set he with h | h
  ·exact hs es h
  rw[h,hlen];have:=S.out;omega
 have B:(L.set i p').length=n:=by rw[List.length_set];exact u.out
 have hX:p.es.take q ++ p.es.drop (q+1)=[]\/p.es.take q ++ p.es.drop (q+1)≠[]:=Classical.em _
 have l:Hid (rmQ (ens L) i q=if p.es.take q ++ p.es.drop (q+1)=[] then (ens L).take i ++ (ens L).drop (i+1) else if jnb (ens (L.set i p')) i then jnQ (ens (L.set i p')) i else if 1<=i/\jnb (ens (L.set i p')) (i - 1) then jnQ (ens (L.set i p')) (i - 1) else ens (L.set i p')):=by
  show _=_
  unfold rmQ;rw[eX hi,hE3]
 rcases hX with hX | hX
 ·have hm1:m=1:=by rw[hX] at hlen; simp at hlen; have:=S.out; omega
  obtain⟨G2,D3,hg3,hFg3,hFG3,hR3⟩:=z.opn (by simp[hL]);obtain⟨rfl,rfl⟩:G2=G/\D3=C:=by
   have:=(hg3.eq P).1;simp at this;exact⟨this.1,this.2⟩
  have hR3':=hR3;rw[B] at hR3';have t4:=delP (i:=i) hR3' (by omega) (uv _)
  have w3:IntKind.i64.wrap ((i:Int)+1)=(i:Int)+1:=by rw[IntKind.wrap_i64];have:=u.out;omega
  have cG3':W3.cell? ⟨G2,i,none⟩=some (.slice (some ⟨p.b,0,none⟩) 0 p.c):=by rw[hm1] at ab;exact ab
  have z1:(i:Int) < n:=by omega
  have N:((L.set i p').take i ++ (L.set i p').drop (i+1)).Sublist (L.set i p'):=by
   have h:=List.Sublist.append (List.Sublist.refl ((L.set i p').take i)) (List.drop_sublist 1 ((L.set i p').drop i));rw[List.drop_drop,List.take_append_drop] at h;exact h
  have o:Hid (ens ((L.set i p').take i ++ (L.set i p').drop (i+1))=rmQ (ens L) i q):=by
   show _=_
   rw[l.out,if_pos hX,List.take_set_of_le (Nat.le_refl _),List.drop_set_of_lt (by omega)];simp[ens,List.map_take,List.map_drop]
  have HX:Hid _:=hX;clear hX l ab hm1;go_wp2_with (go_at_call 259;refine t4.mono ?_;rintro e' Y ⟨rfl,R5,C5⟩;have cg5:Y.cell? ⟨g,0,none⟩=_:=(World.cell?_of_block (a:=⟨g,0,none⟩) (C5.same g (aC cg3) E)).trans cg3;have fg5:Y.frozen? ⟨g,0,none⟩=false:=(P.chg C5 E).free 0);go_end0;obtain⟨A6,C6⟩:=lH (w:=W3) (w1:=Y) (F:=F3) (D:=D) (g:=g) (G:=G2) (G':=G2) (C':=D3) (n:=n - 1) (L':=(L.set i p').take i ++ (L.set i p').drop (i+1))
   (λp U=>z.cM p (N.mem U)) (z.apart.sublist (N.map _)) z.kind P hFg3 hFG3 (λe=>E e.symm) C5 (λp U=>(z.cM p (N.mem U)).1.fg hR3)
   (by simp;have:=u.out;omega) (by simpa[List.map_take,List.map_drop] using R5)
  refine⟨_,_,rfl,o.out,A6,λb hb=>?_,V.trans C6 λb _ h=>d b h⟩;rcases hb with⟨h,_⟩ | rfl
  ·exact .inl (d b h)
  exact .inl (d _ hFG3)
 have hm1:0 < m - 1:=by
  rw[<- hlen];exact List.length_pos_iff.2 hX
 obtain⟨m1,hm2⟩:∃ m1,Hid (m - 1=m1):=⟨_,rfl⟩
 rw[hm2.out] at ab hm1
 have z0:¬ ((m1:Int)=0):=by omega
 have z1:(i:Int) < n:=by omega
 have w3:IntKind.i64.wrap ((i:Int) - 1)=(i:Int) - 1:=by rw[IntKind.wrap_i64];omega
 have J:=l.out;rw[if_neg hX] at J
 have l:Hid _:=J;clear J
 have HX:Hid _:=hX;clear hX
 have hf3:∀ es∈ens (L.set i p'),es≠[]:=λes he=>by
  rw[hE3] at he;rcases List.mem_or_eq_of_mem_set he with h | h
  ·exact hf es h
  rw[h];exact HX.out
 have H:∀ (W:World) (j:Nat),bR W F3 D g (L.set i p')->jnb (ens (L.set i p')) j=true->Calls Tryz.prog 261 #[.pointer (some ⟨g,0,none⟩),.int .i64 j] W λe' w'=>∃ F' L',e'=.returned (.tuple #[])/\ens L'=jnQ (ens (L.set i p')) j/\bR w' F' D g L'/\(∀ b,F' b->F3 b\/W.heap.size<=b)/\Chg F3 W w':=λW j AW hj=>by
  unfold jnb at hj;simp only[Bool.and_eq_true,decide_eq_true_eq] at hj
  have hl:j+1 < (L.set i p').length:=by have:=hj.1;simpa[ens] using this
  obtain⟨a,ha⟩:∃ a,(L.set i p')[j]?=some a:=⟨_,List.getElem?_eq_getElem (by omega)⟩
  obtain⟨c,hc⟩:∃ c,(L.set i p')[j+1]?=some c:=⟨_,List.getElem?_eq_getElem hl⟩
  have ma:a.es∈ens (L.set i p'):=List.mem_map.2 ⟨a,List.mem_of_getElem? ha,rfl⟩
  have mc:c.es∈ens (L.set i p'):=List.mem_map.2 ⟨c,List.mem_of_getElem? hc,rfl⟩;have s1:=Z _ ma;have s2:=Z _ mc;exact Ac AW ha hc (by rw[B];have:=u.out;omega) (List.length_pos_iff.2 (hf3 _ ma)) (by omega) (by omega)
 have Q:=Bv (i:=i) z (by rw[B];have:=u.out;omega) (λes he=>by have:=Z es he;omega);by_cases T:jnb (ens (L.set i p')) i=true
 ·have o:Hid (rmQ (ens L) i q=jnQ (ens (L.set i p')) i):=by show _=_; rw[l.out,if_pos T]
  have t5:∀ W,BW W3 W->_:=λW s=>H W i (z.keep s) T
  rw[T] at Q;clear H T l
  go_wp2_with (first
   | (go_at_call 260;refine Q.mono ?_;rintro e' Y ⟨rfl,r⟩;have t6:=t5 Y r;clear t5 Q)
   | (go_at_call 261;refine t6.mono ?_;rintro e' w6 ⟨F6,L6,rfl,hE6,A6,hF6,C6⟩))
  go_end0;refine⟨F6,L6,rfl,hE6.trans o.out.symm,A6,λb hb=>?_,(V.trans (Chg.of (F:=F) r) (λ_ _ h=>h)).trans C6 λb _ h=>d b h⟩;rcases hF6 b hb with h | h
  ·exact .inl (d b h)
  exact .inr (by have:=V.size;have:=r.size;omega)
 have O:jnb (ens (L.set i p')) i=false:=by simpa using T
 by_cases hi0:i=0
 ·have o:Hid (rmQ (ens L) i q=ens (L.set i p')):=by show _=_; rw[l.out,if_neg T,if_neg (by omega)]
  rw[O] at Q
  have tn:∀ W:World,Calls Tryz.prog 260 #[.pointer (some ⟨g,0,none⟩),.int .i64 (-1)] W _:=λW=>jn_neg
  have mk:True:=trivial;clear H T l O;subst hi0
  go_wp2_with (first
   | (go_at_call 260;clear mk;refine Q.mono ?_;rintro e' Y ⟨rfl,r⟩;clear Q)
   | (go_at_call 260;refine(tn _).mono ?_;rintro e' w6 ⟨rfl,K⟩))
  go_end0;have s:=ae r K
  first
   | exact⟨F3,_,rfl,o.out.symm,z.keep s,λb hb=>.inl (d b hb),V.trans (Chg.of (F:=F) s) (λ_ _ h=>h)⟩
   | exact⟨rfl,F3,_,o.out.symm,z.keep s,λb hb=>.inl (d b hb),V.trans (Chg.of (F:=F) s) (λ_ _ h=>h)⟩
 obtain⟨j,rfl⟩:∃ j,i=j+1:=⟨i - 1,by omega⟩
 have tk:∀ W,BW W3 W->Calls Tryz.prog 260 #[.pointer (some ⟨g,0,none⟩),.int .i64 j] W _:=λW s=>Bv (i:=j) (z.keep s) (by rw[B];have:=u.out;omega) (λes he=>by have:=Z es he;omega)
 have e1:((j+1:Nat):Int) - 1=(j:Int):=by omega
 have e2:(j:Int)+1 - 1=(j:Int):=by omega
 rw[O] at Q
 have mk:True:=trivial
 have mk2:True:=trivial;by_cases h3:jnb (ens (L.set (j+1) p')) j=true
 ·have o:Hid (rmQ (ens L) (j + 1) q=jnQ (ens (L.set (j + 1) p')) j):=by show _=_; rw[l.out,if_neg T,if_pos ⟨by omega,by simpa using h3⟩]; rfl
  have t5:∀ W,BW W3 W->_:=λW s=>H W j (z.keep s) h3
  rw[h3] at tk;clear H T l O h3
  go_wp2_with (first
   | (go_at_call 260;clear mk;refine Q.mono ?_;rintro e' Y ⟨rfl,r⟩;have I:=tk Y r;clear Q tk)
   | (go_at_call 260;refine I.mono ?_;rintro e' w6 ⟨rfl,K⟩;have s:=ae r K;have t6:=t5 w6 s;clear t5 I)
   | (go_at_call 261;refine t6.mono ?_;rintro e' w7 ⟨F6,L6,rfl,hE6,A6,hF6,C6⟩))
  go_end0;refine⟨F6,L6,rfl,hE6.trans o.out.symm,A6,λb hb=>?_,(V.trans (Chg.of (F:=F) s) (λ_ _ h=>h)).trans C6 λb _ h=>d b h⟩;rcases hF6 b hb with h | h
  ·exact .inl (d b h)
  exact .inr (by have:=V.size;have:=s.size;omega)
 have h3':jnb (ens (L.set (j + 1) p')) j=false:=by simpa using h3
 have o:Hid (rmQ (ens L) (j+1) q=ens (L.set (j+1) p')):=by show _=_;rw[l.out,if_neg T,if_neg (λh=>h3 (by simpa using h.2))]
 rw[h3'] at tk;clear H T l O h3 h3'
 go_wp2_with (first
  | (go_at_call 260;clear mk;refine Q.mono ?_;rintro e' Y ⟨rfl,r⟩;have I:=tk Y r;clear Q tk)
  | (go_at_call 260;refine I.mono ?_;rintro e' w6 ⟨rfl,K⟩;have s:=ae r K;clear I))
 go_end0
 first
  | exact⟨F3,_,rfl,o.out.symm,z.keep s,λb hb=>.inl (d b hb),V.trans (Chg.of (F:=F) s) (λ_ _ h=>h)⟩
  | exact⟨rfl,F3,_,o.out.symm,z.keep s,λb hb=>.inl (d b hb),V.trans (Chg.of (F:=F) s) (λ_ _ h=>h)⟩
theorem uQ {w:World} {F D:Nat->Prop} {g:Nat} {L:List Pg} {kv:Value} {k:List Int} (A:bR w F D g L) (O:Ord (ens L)) (hs:∀ es∈ens L,es.length<=32) (hn:L.length<=100000000) (h:By w kv k) :
  Calls Tryz.prog 171 #[.pointer (some ⟨g,0,none⟩),kv] w λe w'=>e=.returned (.bool (has (ens L) k))/\∃ F' L',ens L'=ie (ens L) k/\bR w' F' D g L'/\(∀ b,F' b->F b\/w.heap.size<=b)/\Chg F w w':=by
 by_cases o:L=[]
 ·subst o;have t:=og (v:=kv) A
  have e1:has (ens []) k=false:=rfl
  have e2:Hid (ie (ens []) k=ens []):=rfl;rw[e1];have n:=(show Hid _ from A)
  clear A O hs h;go_enter Tryz.func171,Tryz.ntmps171;go_wp2_with (go_at_call 103;refine t.mono ?_;rintro y u ⟨rfl,rfl⟩);go_ret;exact⟨rfl,F,[],e2.out.symm,n.out,λb hb=>.inl hb,Chg.refl _ _⟩
 obtain⟨p,z,j⟩:=pR o k;have r:=List.mem_of_getElem? z;have H:=hs p.es (List.mem_map.2 ⟨p,r,rfl⟩);have t:=mf A O h z
 have l:has (ens L) k=thr (kys p.es) k:=by
  unfold has;rw[j];have:(ens L).isEmpty=false:=by simp[ens,o]
  simp[this]
 rw[l];by_cases f:thr (kys p.es) k=true
 ·obtain⟨e,he,C⟩:=me f;have s:=(List.getElem?_eq_some_iff.1 he).1
  have m:Hid (ie (ens L) k=rmQ (ens L) (pgi (ens L) k) (plc (kys p.es) k)):=by
   show _=_
   unfold ie;rw[l,f,if_pos rfl,j]
  have B:∀ w',BW w w'->_:=λw' c=>vp (A.keep c) z s hs O.full hn
  rw[f] at t ⊢;generalize pgi (ens L) k=i at *;generalize plc (kys p.es) k=q at *;clear A O hs h f l;go_enter Tryz.func171,Tryz.ntmps171
  go_wp2_with (first
   | (go_at_call 103;refine t.mono ?_;rintro y u ⟨rfl,c⟩;have x:=B u c;clear t B)
   | (go_at_call 211;refine x.mono ?_;rintro y I ⟨F',L',rfl,G,hA,hF,E⟩))
  go_ret;exact⟨rfl,F',L',G.trans m.out.symm,hA,λb hb=>(hF b hb).imp id (λh=>Nat.le_trans c.size h),(Chg.of (F:=F) c).trans E (λ_ _ h=>h)⟩
 have d:thr (kys p.es) k=false:=by simpa using f
 have m:Hid (ie (ens L) k=ens L):=by
  show _=_
  unfold ie;rw[l,d,if_neg (by decide)]
 rw[d] at t ⊢;generalize pgi (ens L) k=i at *;generalize plc (kys p.es) k=q at *;have n:=(show Hid _ from A)
 clear A O hs h f d l;go_enter Tryz.func171,Tryz.ntmps171;go_wp2_with (go_at_call 103;refine t.mono ?_;rintro y u ⟨rfl,c⟩);go_ret;exact⟨rfl,F,L,m.out.symm,n.out.keep c,λb hb=>.inl hb,Chg.of c⟩
theorem DX {w:World}:Calls Tryz.prog 85 #[] w λe w'=>∃ g,e=.returned (.pointer (some ⟨g,0,none⟩))/\g=w.heap.size/\bR w' (· = g) (λ_=>False) g []/\BW w w':=by
 go_enter Tryz.func85,Tryz.ntmps85;go_wp2;go_ret;refine⟨_,rfl,rfl,⟨⟨_,ay w [.slice none 0 0] 201,rfl,.inl ⟨rfl,rfl⟩⟩,λp c=>by simp at c,by simp,λb hb=>?_⟩,aa w _⟩;subst hb;exact⟨_,_,ay w [.slice none 0 0] 201,by decide⟩
section
variable {B l B' g n:Nat}{W W' w:World}{cs:List Value}{fn:FuncId}{tmps args lb:Array Value}{ps:Array Tmp}{assign body:Code}{I:Nat→World→Prop}{Ix:Code→Nat→World→Prop}{Ar:Nat→Array Value→Nat→World→Prop}{Rd:World->Prop}
structure Rec(B:Nat)(W W':World):Prop where
 os:W'.os=W.os
 tape:W'.tape=W.tape
 output:W'.output=W.output
 size:W.heap.size<=W'.heap.size
 same:∀ (k:Nat) (o:Obj),W.heap[k]?=some o->(k < B\/o.isCells=true)->W'.heap[k]?=some o
def St(B:Nat)(I:World->Prop):Prop:=∀ W W',I W->Rec B W W'->I W'
theorem Rec.of(h:BW W W'):Rec B W W':=⟨h.os,h.tape,h.output,h.size,λk _ hk _=>(h.block k (lt_of_block hk)).trans hk⟩
theorem Rec.put{o:Obj}(h:W.heap[l]?=some o)(ho:o.isCells=false)(c:B<=l)(b:Obj):Rec B W (W.putObj l b) :=
 ⟨rfl,rfl,rfl,by simp,λk x hk hx=>by
  have a:k≠l:=λe=>by
   subst e;rw[h] at hk
   cases hk;rcases hx with hx | hx
   ·omega
   rw[ho] at hx;cases hx
  exact(World.putObj_heap_other a).trans hk⟩
theorem Rec.mono(h:Rec B W W')(hB:B'<=B):Rec B' W W':=⟨h.os,h.tape,h.output,h.size,λk o hk ho=>h.same k o hk (ho.imp (λh=>by omega) id)⟩
theorem Rec.blk(h:Rec B W W'){t:TypeId}(hb:Blk W g cs t):Blk W' g cs t:=⟨h.same g _ hb.blk (.inr rfl)⟩
theorem xu(hb:BW W W')(a:l < W.heap.size)(o:Obj):Below (W.putObj l o).heap.size (W.putObj l o) (W'.putObj l o):=by
 refine⟨hb.os,hb.tape,hb.output,by simpa using hb.size,λk hk=>?_⟩;simp at hk;by_cases e:k=l
 ·subst e;have:=hb.size;rw[World.putObj_heap_same (by omega),World.putObj_heap_same a]
 rw[World.putObj_heap_other e,World.putObj_heap_other e];exact hb.block k hk
structure Cel(W W':World):Prop where
 size:W.heap.size<=W'.heap.size
 same:∀ (k:Nat) (o:Obj),W.heap[k]?=some o->o.isCells=true->W'.heap[k]?=some o
theorem Rec.cel(h:Rec B W W'):Cel W W':=⟨h.size,λk o hk ho=>h.same k o hk (.inr ho)⟩
def Safe(Tp:TypeId->Prop)(o:Obj):Prop:=∀ cs t fz,o=.cells cs t fz->¬ Tp t
theorem xC{Tp:TypeId->Prop}{r:Loop}:Safe Tp (.loop r):=λ_ _ _ e=>by cases e
theorem mW{Tp:TypeId->Prop}{d:Option (List Deferred)}:Safe Tp (.deferred d):=λ_ _ _ e=>by cases e
structure bM(Tp:TypeId->Prop)(B:Nat)(W W':World):Prop where
 size:W.heap.size<=W'.heap.size
 same:∀ (k:Nat) (o:Obj),B<=k->W.heap[k]?=some o->Safe Tp o->W'.heap[k]?=some o
theorem bM.of{Tp:TypeId->Prop}(h:BW W W'):bM Tp B W W':=⟨h.size,λk _ _ hk _=>(h.block k (lt_of_block hk)).trans hk⟩
theorem bM.trans{Tp:TypeId->Prop}{W'':World}(h:bM Tp B W W')(h':bM Tp B W' W''):bM Tp B W W'':=⟨Nat.le_trans h.size h'.size,λk o hB hk ho=>h'.same k o hB (h.same k o hB hk ho) ho⟩
theorem bM.mono{Tp:TypeId->Prop}(h:bM Tp B W W')(hB:B<=B'):bM Tp B' W W':=⟨h.size,λk o hk h0 ho=>h.same k o (Nat.le_trans hB hk) h0 ho⟩
theorem bM.blk{Tp:TypeId->Prop}(h:bM Tp B W W'){t:TypeId}(hb:Blk W g cs t)(hg:B<=g)(ht:¬ Tp t):Blk W' g cs t:=⟨h.same g _ hg hb.blk (λ_ _ _ e=>by cases e;exact ht)⟩
def Itr(Tp:TypeId->Prop)(gf:Nat)(lb:Array Value)(N:Nat)(Ar:Nat->Array Value->Nat->World->Prop)(Rd:World->Prop):Prop :=
 ∀ (l:Nat) (J Jx:Nat->World->Prop) (W:World),(∀ i,St W.heap.size (J i))->(∀ i,St W.heap.size (Jx i))->(∀ i V,J i V->Rd V) ->
  (∀ i args V V',i < N->J i V->W.heap.size<=V.heap.size->BW V V'->Ar i args V.heap.size V'->YieldAt Fence.wide 0 Tryz.prog l args V' λe V''=>bM Tp W.heap.size V' V''/\((e=.returned (.bool true)/\J (i+1) V'')\/(e=.returned (.bool false)/\Jx (i+1) V''))) ->
  J 0 W ->
  Calls Tryz.prog gf (#[.func (.yield l) #[] #[]] ++ lb) W λe W'=>(∃ v,e=.returned v)/\W.heap.size<=W'.heap.size/\(J N W'\/∃ i,i < N/\Jx (i+1) W')
def px(Tp:TypeId->Prop)(B:Nat)(I:Nat->World->Prop)(Ix:Code->Nat->World->Prop)(i:Nat)(W:World):Exit->Act->World->Prop
 | .normal,_,W'=>bM Tp B W W'/\I i W'
 | .ret,_,W'=>bM Tp B W W'/\Ix .ret i W'
 | .exit id,_,W'=>bM Tp B W W'/\Ix (.exit id) i W'
 | .goto t,_,W'=>bM Tp B W W'/\Ix (.goto t) i W'
 | .panic _,_,_=>False
 | .outgrown,_,_=>False
def db(fn:FuncId)(tmps:Array Value)(ps:Array Tmp)(assign body:Code)(dd:Nat)(st:LoopState)(pe:Option Code):Loop:={ state:=st,pending:=pe,fn,tmps,params:=ps,assign,body,defers:=dd }
structure gk(Tp:TypeId->Prop)(B l:Nat)(W W':World):Prop where
 size:W.heap.size<=W'.heap.size
 same:∀ (k:Nat) (o:Obj),B<=k->k≠l->W.heap[k]?=some o->Safe Tp o->W'.heap[k]?=some o
theorem gk.from{Tp:TypeId->Prop}{B1:Nat}(h:gk Tp B l W W')(hB:B<=B1)(hl:l < B1):bM Tp B1 W W':=⟨h.size,λk o hk h0 ho=>h.same k o (by omega) (by omega) h0 ho⟩
theorem jr{Tp:TypeId→Prop}{i:Nat}{g:Nat}{V:World}(C:∀ i args n V W,Ar i args n V→Cel V W→Ar i args n W)(T:∀ i,St B (I i))(D:∀ c i,St B (Ix c i))(hL:V.heap[l]?=some (.loop (db fn tmps ps assign body g .ready none)))(hi:I i V)(hb:BW V W)(X:Ar i args V.heap.size W)(O:args.size=ps.size)(z:assign.wpIn (Fence.wide.inRound l) n Tryz.prog (Exit.then (λa1 W1=>BW W W1∧∀ V2 W2,I i V2→BW V2 W2→Ar i args V2.heap.size W2→(∀ b,b≠l→W2.heap[b]?=W1.heap[b]?)→W2.heap.size=W1.heap.size→V2.heap.size=V.heap.size→(∃ r,W2.heap[l]?=some (.loop r))→body.wpIn (Fence.wide.inRound l) n Tryz.prog (px Tp B I Ix (i+1) W2) a1 W2) (λ_ _ _=>False)) { tmps:=(ps.zip args).foldl (λt (p,v)=>t.setIfInBounds p v) tmps,defers:=[] } W)(s:B≤l:=by omega) :
    YieldAt Fence.wide 0 Tryz.prog l args W λe W'=>gk Tp B l W W'∧((e=.returned (.bool true)∧I (i+1) W'∧W'.heap[l]?=some (.loop (db fn tmps ps assign body g .ready none)))∨(e=.returned (.bool false)∧∃ c,Ix c (i+1) W'∧W'.heap[l]?=some (.loop (db fn tmps ps assign body g .done (some c))))):=by
  have M:l < V.heap.size:=lt_of_block hL
  have J:W.heap[l]?=some (.loop (db fn tmps ps assign body g .ready none)):=(hb.block l M).trans hL;have hy:=run_yield (P:=Tryz.prog) (args:=args) J O
  have x:assign.wpIn (Fence.wide.inRound l) n Tryz.prog (Exit.then (λZ U=>∃ w₂,(Instr.beginRound l).run Tryz.prog U=.ok () w₂∧body.wpIn (Fence.wide.inRound l) n Tryz.prog (roundPost Tryz.prog l λe W'=>gk Tp B l W W'∧((e=.returned (.bool true)∧I (i+1) W'∧W'.heap[l]?=some (.loop (db fn tmps ps assign body g .ready none)))∨(e=.returned (.bool false)∧∃ c,Ix c (i+1) W'∧W'.heap[l]?=some (.loop (db fn tmps ps assign body g .done (some c)))))) Z w₂) (λ_ _ _=>False)) { tmps:=(ps.zip args).foldl (λt (p,v)=>t.setIfInBounds p v) tmps,defers:=[] } W:=by
    refine wpIn_mono z ?_
    intro e a1 W1 h
    cases e with
    | normal =>
      obtain⟨w,E⟩:= h
      have G:W1.heap[l]?=some (.loop (db fn tmps ps assign body g .ready none)):=(w.block l (lt_of_block J)).trans J
      have A:l < W1.heap.size:=lt_of_block G;refine⟨_,run_beginRound G rfl,?_⟩
      have R:BW V W1:=ae hb w;have Y:=E (V.putObj l (.loop { db fn tmps ps assign body g .ready none with state:=.busy })) (W1.putObj l (.loop { db fn tmps ps assign body g .ready none with state:=.busy }))
        (T i _ _ hi (Rec.put hL rfl s _)) (xu R M _) (by simpa using C i args _ _ _ (C i args _ _ _ X (Rec.of (B:=0) w).cel) (Rec.put G rfl (Nat.zero_le _) _).cel)
        (λb hb=>World.putObj_heap_other hb) (by simp) (by simp) ⟨_,World.putObj_heap_same A⟩
      have Q:(W1.putObj l (.loop { db fn tmps ps assign body g .ready none with state:=.busy })).heap[l]?=some (.loop { db fn tmps ps assign body g .ready none with state:=.busy }):=World.putObj_heap_same A;generalize hW2:W1.putObj l (.loop { db fn tmps ps assign body g .ready none with state:=.busy })=W2 at *
      have L:gk Tp B l W W2:=by
        rw[← hW2];refine⟨by simpa using w.size,λk _ hk y N _=>?_⟩;rw[World.putObj_heap_other y];exact(w.block k (lt_of_block N)).trans N
      have fin:∀ (jump:Option Code) (u:World),bM Tp B W2 u →
          (Instr.endRound l jump).run Tryz.prog u=.ok (.bool jump.isNone) (u.putObj l (.loop (db fn tmps ps assign body g (if jump.isNone then .ready else .done) jump)))∧u.heap[l]?=some (.loop { db fn tmps ps assign body g .ready none with state:=.busy }) ∧
          (u.putObj l (.loop (db fn tmps ps assign body g (if jump.isNone then .ready else .done) jump))).heap[l]?=some (.loop (db fn tmps ps assign body g (if jump.isNone then .ready else .done) jump)) ∧
          gk Tp B l W (u.putObj l (.loop (db fn tmps ps assign body g (if jump.isNone then .ready else .done) jump))):=λjump u d=>by
        have a:=d.same _ _ s Q xC;refine⟨run_endRound (P:=Tryz.prog) jump a,a,World.putObj_heap_same (lt_of_block a),⟨by simpa using Nat.le_trans L.size d.size,λk o hk y N S=>?_⟩⟩;rw[World.putObj_heap_other y];exact d.same k o hk (L.same k o hk y N S) S
      refine wpIn_mono Y ?_
      intro e a3 u K
      cases e with
      | normal =>
        obtain⟨d,q⟩:= K;obtain⟨H,a,j,m⟩:= fin none u d;exact⟨_,_,H,m,.inl ⟨rfl,T _ _ _ q (Rec.put a rfl s _),j⟩⟩
      | ret =>
        obtain⟨d,q⟩:= K;obtain⟨H,a,j,m⟩:= fin (some .ret) u d;exact⟨_,_,H,m,.inr ⟨rfl,.ret,D _ _ _ _ q (Rec.put a rfl s _),j⟩⟩
      | exit id =>
        obtain⟨d,q⟩:= K;obtain⟨H,a,j,m⟩:= fin (some (.exit id)) u d;exact⟨_,_,H,m,.inr ⟨rfl,.exit id,D _ _ _ _ q (Rec.put a rfl s _),j⟩⟩
      | goto t =>
        obtain⟨d,q⟩:= K;obtain⟨H,a,j,m⟩:= fin (some (.goto t)) u d;exact⟨_,_,H,m,.inr ⟨rfl,.goto t,D _ _ _ _ q (Rec.put a rfl s _),j⟩⟩
      | panic ch=>exact K.elim
      | outgrown=>exact K.elim
    | ret=>exact h.elim
    | exit id=>exact h.elim
    | goto t=>exact h.elim
    | panic ch=>exact h.elim
    | outgrown=>exact h.elim
  exact⟨fn, _, assign, body, hy, by
    have:=roundIn_of_wpIn (F:=Fence.wide) (n:=n) (P:=Tryz.prog) (f:=fn) trivial x
    exact⟨this.1,λc cs _=>this.2 c cs (λ_ h=>by cases h)⟩⟩
def RoundW(Tp:TypeId->Prop)(w:World)(N n:Nat)(ps:Array Tmp)(assign body:Code)(tmps:Array Value)(Ar:Nat->Array Value->Nat->World->Prop)(I:Nat->World->Prop)(Ix:Code->Nat->World->Prop):Prop :=
 ∀ (l i:Nat) (args:Array Value) (V W:World),w.heap.size<=l->l < V.heap.size->(∃ r,V.heap[l]?=some (.loop r))->i < N->I i V->BW V W->Ar i args V.heap.size W ->
  assign.wpIn (Fence.wide.inRound l) n Tryz.prog (Exit.then (λa1 W1=>BW W W1/\∀ V2 W2,I i V2->BW V2 W2->Ar i args V2.heap.size W2->(∀ b,b≠l->W2.heap[b]?=W1.heap[b]?)->W2.heap.size=W1.heap.size->V2.heap.size=V.heap.size->(∃ r,W2.heap[l]?=some (.loop r))->body.wpIn (Fence.wide.inRound l) n Tryz.prog (px Tp w.heap.size I Ix (i+1) W2) a1 W2) (λ_ _ _=>False)) { tmps:=(ps.zip args).foldl (λt (p,v)=>t.setIfInBounds p v) tmps,defers:=[] } W
theorem kL{Tp:TypeId->Prop}{r N:Nat}{Ar:Nat->Array Value->Nat->World->Prop}(T:Itr Tp r lb N Ar Rd){g:Operand}{Q:Exit->Act->World->Prop}{a:Act}(S:a.eval g=.func (.func r) #[] lb)(M:∀ args w,(callFunc r args).run Tryz.prog w=.ok (.enter r args) w)(s:∀ i args n V W,Ar i args n V->Cel V W->Ar i args n W)(K:∀ i args n V,Ar i args n V->args.size=ps.size)(I:Nat->World->Prop)(Ix:Code->Nat->World->Prop)(x:∀ i,St w.heap.size (I i))(l:∀ c i,St w.heap.size (Ix c i))(G:∀ i V,I i V->Rd V)(h0:I 0 w)(j:RoundW Tp w N n ps assign body a.tmps Ar I Ix)(m:∀ D W,w.heap.size<=D->W.heap[D]?=some (.deferred (some []))->I N W->Q .normal { a with defers:={ target:=.collected D,args:=#[] } :: a.defers } W)(p:∀ D c i W,w.heap.size<=D->W.heap[D]?=some (.deferred (some []))->i < N->Ix c (i+1) W->c.wpIn Fence.wide n Tryz.prog Q { a with defers:={ target:=.collected D,args:=#[] } :: a.defers } W) :
  (Code.rangeFunc g ps assign body).wpIn Fence.wide n Tryz.prog Q a w:=by
 refine wpIn_rangeFunc ?_
 intro fn _;obtain⟨d,b⟩:∃ d,(w.alloc (.deferred (some []))).alloc (.loop (db fn a.tmps ps assign body w.heap.size .ready none))=d:=⟨_,rfl⟩
 have z:BW w d:=by rw[<- b];exact ae (aa w _) (aa _ _)
 have R:d.heap.size=w.heap.size+1+1:=by rw[<- b];simp
 have J:d.heap[w.heap.size+1]?=some (.loop (db fn a.tmps ps assign body w.heap.size .ready none)):=by
  rw[<- b];have:=World.alloc_heap_new (w.alloc (.deferred (some []))) (.loop (db fn a.tmps ps assign body w.heap.size .ready none));rwa [World.size_alloc] at this
 have F:d.heap[w.heap.size]?=some (.deferred (some [])):=by
  rw[<- b];exact(Below.heap_alloc _ _ _ (by simp)).trans (World.alloc_heap_new w _)
 refine⟨w.heap.size + 1,[{ target:=.collected w.heap.size,args:=#[] }],d,{ target:=.fn (.func r) lb,args:=#[.func (.yield (w.heap.size + 1)) #[] #[]] },d,r,
  #[.func (.yield (w.heap.size+1)) #[] #[]] ++ lb,d,?_,?_,?_,?_,λh=>(by cases h),?_⟩
 ·rw[<- b];exact run_enterLoop_outer _ _ _ _ _
 ·simp only[resolve,S];simp[go_sem]
 ·intro U _;trivial
 ·simp[invoke,go_sem,M]
 refine callsIn_wide.2 ?_
 refine(T (w.heap.size + 1)
  (λi W=>I i W/\W.heap[w.heap.size+1]?=some (.loop (db fn a.tmps ps assign body w.heap.size .ready none))/\W.heap[w.heap.size]?=some (.deferred (some [])))
  (λi W=>∃ c,Ix c i W/\W.heap[w.heap.size+1]?=some (.loop (db fn a.tmps ps assign body w.heap.size .done (some c)))/\W.heap[w.heap.size]?=some (.deferred (some [])))
  d (λi X Y hx o=>⟨x i X Y hx.1 (o.mono (by omega)),o.same _ _ hx.2.1 (.inl (by omega)),o.same _ _ hx.2.2 (.inl (by omega))⟩)
  (λi X Y hx o=>by obtain⟨c,H,y,C⟩:=hx;exact⟨c,l c i X Y H (o.mono (by omega)),o.same _ _ y (.inl (by omega)),o.same _ _ C (.inl (by omega))⟩)
  (λi V hv=>G i V hv.1) ?_ ⟨x 0 _ _ h0 (Rec.of z),J,F⟩).mono ?_
 ·rintro i args V O q ⟨hi,f,hk⟩ A hb E;refine(jr (B:=w.heap.size) s x l f hi hb E (K _ _ _ _ E) (j _ i args V O (by omega) (lt_of_block f) ⟨_,f⟩ q hi hb E)).mono ?_
  rintro e L ⟨t,h⟩;have u:=t.same _ _ (Nat.le_refl _) (by omega) ((hb.block _ (lt_of_block hk)).trans hk) mW;refine⟨t.from (by omega) (by omega),h.imp (λh=>⟨h.1,h.2.1,h.2.2,u⟩) (λh=>?_)⟩;obtain⟨H,c,y,C⟩:=h;exact⟨H,c,y,C,u⟩
 rintro e Z ⟨⟨v,rfl⟩,A,⟨hi,f,hk⟩ | ⟨i,q,c,hi,f,hk⟩⟩
 ·exact⟨none,_,run_endLoop (P:=Tryz.prog) f (by simp[db]),m _ _ (Nat.le_refl _) ((World.putObj_heap_other (by omega)).trans hk) (x _ _ _ hi (Rec.put f rfl (by omega) _))⟩
 exact⟨some c,_,run_endLoop (P:=Tryz.prog) f (by simp[db]),p _ c i _ (Nat.le_refl _) ((World.putObj_heap_other (by omega)).trans hk) q (l c _ _ _ hi (Rec.put f rfl (by omega) _))⟩
end
end Pg
end
end Go.Proofs.YtpoifdokmjhclaaGreat
