/- Several texts, joined: Pg0, PgR, PgI, PgD, PgC, PgE, PgT, PgM, PgS, PgP, PgQ, PgU, PgZ, PgV, PgW, PgWe, PgG, PgH, PgJ, PgK, PgL, PgN, PgO. -/
import Derived.Test.YtliajmpchofiiaaGreatChecked
import Derived.WalkKit
import Derived.WalkSpells
import Derived.WalkLawsBesides
import Derived.Lib.SliceRun
import Derived.Lib.AppendZerosOnto
import Derived.Lib.Overlaps
import Derived.Lib.Bytealg
import Derived.Lib.JoinLaws
import Derived.Laws.Externs
import Derived.Laws.CopyRow
import Derived.Laws.CopyOwn
import Derived.Laws.Tables
import Derived.Laws.NewBlocks
import Derived.Laws.IdiomCopy
import Derived.Deep.RegionHeld3
import Derived.Deep.RegionLaw
import Derived.Deep.QuietTactic
import Derived.BigQuiet
import Derived.WalkSmall
import Derived.Shelf.RegionOpenPlain
import Derived.OneCell
import Derived.Lib.BytesEntry
import Derived.WalkMore
import Derived.Deep.RegionWith
set_option maxRecDepth 100000
set_option maxHeartbeats 8000000
namespace Go.Proofs.YtliajmpchofiiaaGreat
section
namespace Pg
open Go.RowKit
section
variable {w w' w1:World}{g i B:Nat}{o:Oper}{v v':Value}{cs ds:List Value}{F F':Nat->Prop}{ops:Array Oper}{a:Act}{K:Act->World->Prop}{E:Prop}
theorem lt_of_block{o:Obj}(h:w.heap[g]? = some o):g < w.heap.size:=(Array.getElem?_eq_some_iff.1 h).1
theorem aA{b o:Nat}(h:w.cell? ⟨b,o,none⟩=some v):b < w.heap.size:=by
 unfold World.cell? at h
 cases hh:w.heap[b]? with
 | none=>simp[hh] at h
 | some ob=>exact lt_of_block hh
structure Blk(w:World)(g:Nat)(cs:List Value)(t:TypeId):Prop where
 blk:w.heap[g]? = some (.cells cs.toArray t (0,0))
theorem Blk.lt{t:TypeId}(h:Blk w g cs t):g < w.heap.size:=lt_of_block h.blk
theorem Blk.cell{t:TypeId}(h:Blk w g cs t)(hi:cs[i]? = some v):w.cell? ⟨g,i,none⟩=some v:=by
 simp only[World.cell?,h.blk];simpa using hi
theorem Blk.free{t:TypeId}(h:Blk w g cs t)(i:Nat):w.frozen? ⟨g,i,none⟩=false:=by
 simp[World.frozen?,h.blk]
theorem Blk.keep{t:TypeId}(h:Blk w g cs t)(hb:Below w.heap.size w w'):Blk w' g cs t:=⟨by rw[hb.block g h.lt]; exact h.blk⟩
theorem Blk.jM{t:TypeId}(h:Blk w g cs t)(hb:Below B w w')(hg:g < B):Blk w' g cs t:=⟨by rw[hb.block g hg]; exact h.blk⟩
theorem Blk.drew{t:TypeId}(h:Blk w g cs t):Blk w.drew g cs t:=⟨h.blk⟩
theorem au(w:World)(cs:List Value)(t:TypeId):Blk (w.alloc (.cells cs.toArray t)) w.heap.size cs t:=⟨by
 show (w.heap.push _)[w.heap.size]? = _
 rw[Array.getElem?_push_size]⟩
theorem Blk.row(ds:List Value){t:TypeId}(h:Blk w g cs t):Blk (w.setRow g ds.toArray) g ds t:=⟨by rw[setRow_heap w g _ _ _ _ h.blk]⟩
theorem Blk.same{t:TypeId}(h:Blk w g cs t)(hb:w'.heap[g]? = w.heap[g]?):Blk w' g cs t:=⟨by rw[hb]; exact h.blk⟩
theorem Blk.eq{t u:TypeId}(h:Blk w g cs t)(h':Blk w g ds u):cs=ds/\t=u:=by
 have:=h.blk.symm.trans h'.blk;simp at this;exact this
theorem Blk.setCell{t:TypeId}(h:Blk w g cs t)(v:Value):Blk (w.setCell ⟨g,i,none⟩ v) g (cs.set i v) t:=⟨by
 have:=h.blk;simp only[World.setCell,Array.getElem?_modify,if_true,this];simp⟩
theorem Blk.off{g':Nat}{t:TypeId}(h:Blk w g cs t)(hne:g≠g')(v:Value):Blk (w.setCell ⟨g',i,none⟩ v) g cs t:=⟨by rw[Below.heap_setCell w _ v g hne]; exact h.blk⟩
theorem aa(w:World)(o:Obj):Below w.heap.size w (w.alloc o):=(Below.refl _ _).alloc (Nat.le_refl _) _
theorem ai{wa:World}(b:Below w.heap.size w wa)(h:Below wa.heap.size wa w'):Below w.heap.size w w':=b.trans (h.mono b.size)
structure Chg(F:Nat->Prop)(w w':World):Prop where
 os:w'.os=w.os
 tape:w'.tape=w.tape
 output:w'.output=w.output
 size:w.heap.size<=w'.heap.size
 same:∀ b,b < w.heap.size->¬ F b->w'.heap[b]? = w.heap[b]?
theorem Chg.refl(F:Nat->Prop)(w:World):Chg F w w:=⟨rfl,rfl,rfl,Nat.le_refl _,fun _ _ _=>rfl⟩
theorem Chg.of(h:Below w.heap.size w w'):Chg F w w':=⟨h.os,h.tape,h.output,h.size,fun b hb _=>h.block b hb⟩
theorem Chg.nothing(h:Chg (fun _=>False) w w'):Below w.heap.size w w':=⟨h.os,h.tape,h.output,h.size,fun b hb=>h.same b hb id⟩
theorem Chg.below(h:Chg F w w')(hF:∀ b,F b->B<=b)(hB:B<=w.heap.size):Below B w w':=⟨h.os,h.tape,h.output,h.size,fun b hb=>h.same b (by omega) fun f=>by have:=hF b f; omega⟩
theorem Chg.trans{w2:World}(h:Chg F w w1)(h':Chg F' w1 w2)(hF:∀ b,b < w.heap.size->F' b->F b):Chg F w w2 :=
 ⟨h'.os.trans h.os,h'.tape.trans h.tape,h'.output.trans h.output,Nat.le_trans h.size h'.size,fun b hb hf=>(h'.same b (Nat.lt_of_lt_of_le hb h.size) fun f=>hf (hF b hb f)).trans (h.same b hb hf)⟩
theorem Chg.mono(h:Chg F w w1)(hF:∀ b,b < w.heap.size->F b->F' b):Chg F' w w1:=⟨h.os,h.tape,h.output,h.size,fun b hb hf=>h.same b hb fun f=>hf (hF b hb f)⟩
theorem Chg.drew(h:Chg F w w'):Chg F w w'.drew:=⟨h.os,h.tape,h.output,h.size,h.same⟩
theorem Chg.row(h:Chg F w w')(hg:F g\/w.heap.size<=g)(ds:Array Value):Chg F w (w'.setRow g ds) :=
 ⟨h.os,h.tape,h.output,by simpa[World.setRow] using h.size,fun b hb hf=>by
  have hne:b≠g:=fun e=>by subst e; rcases hg with f | f; exact hf f; omega
  exact(setRow_other w' g b ds hne).trans (h.same b hb hf)⟩
theorem Chg.cell(h:Chg F w w')(hg:F g\/w.heap.size<=g)(v:Value):Chg F w (w'.setCell ⟨g,i,none⟩ v) :=
 ⟨h.os,h.tape,h.output,by simpa[World.setCell] using h.size,fun b hb hf=>by
  have hne:b≠g:=fun e=>by subst e; rcases hg with f | f; exact hf f; omega
  exact(Below.heap_setCell w' _ v b hne).trans (h.same b hb hf)⟩
theorem Chg.alloc(h:Chg F w w')(o:Obj):Chg F w (w'.alloc o):=h.trans (Chg.of (F:=fun _=>False) (aa w' o)) (fun _ _ f=>f.elim)
theorem Blk.chg{t:TypeId}(h:Blk w g cs t)(hc:Chg F w w')(hg:¬ F g):Blk w' g cs t:=⟨by rw[hc.same g h.lt hg]; exact h.blk⟩
theorem dP{α:Type}(L:List α)(o:Nat)(cs:List α):splice L o cs=L.take o ++ cs ++ L.drop (o + cs.length):=by simp[splice]
theorem uE{P:Program}(w:World)(dT sT ty elem:TypeId)(k g o dLen dCap:Nat)(a:Addr)(sLen sCap:Nat)(L cs:List Value)(t:TypeId)(hu:P.underlying dT=some (.slice elem))(hs:(P.info? elem).map (·.size)=some k)(hg:Blk w g L t)(m:Nat)(hm:Nat.min sLen dLen=m)(hn:cs.length=m * k)(hsrc:∀ j v,cs[j]? = some v->w.cell? (a.add j)=some v)(hfit:o + cs.length<=L.length)(h1:∀ v∈cs,v.oneCell'=true) :
  (Builtin.copy_ #[dT,sT] ty #[.slice (some ⟨g,o,none⟩) dLen dCap,.slice (some a) sLen sCap]).run P w =
   .ok (goInt m) (w.setRow g (splice L o cs).toArray):=by
 have hl:=run_loadCells_list (P:=P) w a cs hsrc;have hst:=run_storeCells_at P g o t cs 0 L.toArray w hg.blk (by simpa using hfit) h1
 cases hq:P.info? elem with
 | none=>simp[hq] at hs
 | some i =>
  have hi:i.size=k:=by simpa[hq] using hs
  simp[Builtin.copy_,run_underlying hu,Builtin.lenOf,Builtin.firstCells,sizeOf,typeInfo,hq,hi,hm,<- hn,hl,hst,dP]
theorem rq{P:Program}(w:World)(T ty elem:TypeId)(z:Value)(k g o n c:Nat)(L:List Value)(t:TypeId)(hu:P.underlying T=some (.slice elem))(hv:∀ w,(zeroValue elem).run P w=.ok z w)(hz:z.cells.size=k)(h1:∀ v∈z.cells,v.oneCell'=true)(hg:Blk w g L t)(hn:0 < n)(hk:0 < k)(hfit:o + n * k<=L.length) :
  (Builtin.clear_ #[T] ty #[.slice (some ⟨g,o,none⟩) n c]).run P w=.ok (.tuple #[]) (w.setRow g (splice L o (Builtin.zeroCells z.cells n).toList).toArray):=by
 have hlen:(Builtin.zeroCells z.cells n).toList.length=n * k:=by simp[Builtin.zeroCells,hz]
 have hone:∀ v∈(Builtin.zeroCells z.cells n).toList,v.oneCell'=true:=by
  intro v hv;simp[Builtin.zeroCells] at hv;obtain⟨i,hi,rfl⟩:=hv;have:i % z.cells.size < z.cells.size:=Nat.mod_lt _ (by omega);rw[show z.cells[i % z.cells.size]! = z.cells[i % z.cells.size] from getElem!_pos z.cells _ this];exact h1 _ (Array.getElem_mem this)
 have hst:=run_storeCells_at P g o t (Builtin.zeroCells z.cells n).toList 0 L.toArray w hg.blk (by rw[hlen]; simpa using hfit) hone;obtain⟨m,rfl⟩:∃ m,n=m + 1:=⟨n - 1,by omega⟩
 simp only[Nat.add_zero] at hst;simp[Builtin.clear_,run_underlying hu,hv,hst,dP]
theorem eB{α:Type}(A B C D:List α)(k:Nat)(hk:A.length=k)(hB:B.length=C.length):splice (A ++ B ++ D) k C=A ++ C ++ D:=by
 subst hk
 have h1:(A ++ B ++ D).take A.length=A:=by rw[List.append_assoc,List.take_left]
 have h2:(A ++ B ++ D).drop (A.length + C.length)=D:=by
  rw[<- hB,<- List.length_append,List.drop_left]
 rw[dP,h1,h2]
theorem pZ{α:Type}(xs sp vs:List α)(i:Nat)(hi:i<=xs.length)(hc:vs.length<=sp.length) :
  splice (splice (xs ++ sp) (i + vs.length) (xs.drop i)) i vs=xs.take i ++ vs ++ xs.drop i ++ sp.drop vs.length:=by
 obtain⟨A,B,hA,rfl,rfl⟩:∃ A B,A.length=i/\xs=A ++ B/\i=A.length:=⟨xs.take i,xs.drop i,by simp; omega,by simp,by simp; omega⟩
 have e1:(A ++ B).drop A.length=B:=by simp
 have e2:(A ++ B).take A.length=A:=by simp
 rw[e1,e2]
 have h1:A ++ B ++ sp=(A ++ (B ++ sp).take vs.length) ++ ((B ++ sp).drop vs.length).take B.length ++ sp.drop vs.length:=by
  have h2:((B ++ sp).drop vs.length).take B.length ++ sp.drop vs.length=(B ++ sp).drop vs.length:=by
   have h3:sp.drop vs.length=((B ++ sp).drop vs.length).drop B.length:=by
    rw[List.drop_drop,Nat.add_comm,<- List.drop_drop]; simp
   rw[h3,List.take_append_drop]
  rw[List.append_assoc,List.append_assoc (A ++ _),h2,List.append_assoc,List.take_append_drop]
 rw[h1,eB (A ++ (B ++ sp).take vs.length) _ B _ (A.length + vs.length) (by simp; omega) (by simp; omega),List.append_assoc (A ++ _),eB A _ vs _ A.length rfl (by simp; omega),List.append_assoc (A ++ vs)]
theorem zA{P:Program}{Q:Exit->Act->World->Prop}(hg:o.guard=none)(hr:(execOp a.eval o).run P w=.ok (.value v) w')(hK:K (a.put o.dst v) w'):if Region.wanted o (yielded ops a.tmps)=true then Oper.wp P o a w K Q else E:=by
 rw[if_pos (by simp[Region.wanted,hg])];unfold Oper.wp;rw[hr];exact hK
theorem xY{P:Program}(d s:Operand)(t t':TypeId)(ho:o.op=.call { callee:=.builtin .append,args:=#[d,s],argTypes:=#[t,t'] })(v u:Value)(hd:a.eval d=v)(hs:a.eval s=u)(hr:(Builtin.append_ #[t,t'] o.type #[v,u]).run P w=.ok v' w'):(execOp a.eval o).run P w=.ok (.value v') w':=by
 simp only[execOp,ho,resolve,invoke,builtin,Sem.run_bind,Sem.run_pure,Result.andThen_ok,List.map_toArray,List.map_cons,List.map_nil,hd,hs,hr]
theorem iM{P:Program}{Q:Exit->Act->World->Prop}(hg:o.guard=none)(d s:Operand)(t t':TypeId)(ho:o.op=.call { callee:=.builtin .append,args:=#[d,s],argTypes:=#[t,t'] })(v u:Value)(hd:a.eval d=v)(hs:a.eval s=u)(hr:(Builtin.append_ #[t,t'] o.type #[v,u]).run P w=.ok v' w')(hK:K (a.put o.dst v') w'):if Region.wanted o (yielded ops a.tmps)=true then Oper.wp P o a w K Q else E:=zA hg (xY d s t t' ho v u hd hs hr) hK
end
end Pg
end
section
namespace Pg
open Go.RowKit Go.Lib
section
variable {w w':World}{k b n c m:Nat}{xs ys:List Value}{F:Nat->Prop}{v:Value}
structure Rw(w:World)(E:TypeId)(k b n c:Nat)(xs:List Value):Prop where
 ex:∃ sp,Blk w b (xs ++ sp) E/\xs.length=n * k/\(xs ++ sp).length=c * k/\n<=c/\c<=maxLen
theorem Rw.lt{E:TypeId}(h:Rw w E k b n c xs):b < w.heap.size:=by
 obtain⟨sp,h,_⟩:=h.ex; exact h.lt
theorem Rw.same{E:TypeId}(h:Rw w E k b n c xs)(hb:w'.heap[b]? = w.heap[b]?):Rw w' E k b n c xs:=by
 obtain⟨sp,h,h'⟩:=h.ex; exact⟨sp,h.same hb,h'⟩
theorem Rw.keep{E:TypeId}(h:Rw w E k b n c xs)(hb:Below w.heap.size w w'):Rw w' E k b n c xs:=h.same (hb.block b h.lt)
theorem Rw.chg{E:TypeId}(h:Rw w E k b n c xs)(hb:Chg F w w')(hg:¬ F b):Rw w' E k b n c xs:=h.same (hb.same b h.lt hg)
theorem Rw.drew{E:TypeId}(h:Rw w E k b n c xs):Rw w.drew E k b n c xs:=h.same rfl
theorem Rw.len{E:TypeId}(h:Rw w E k b n c xs):xs.length=n * k:=by
 obtain⟨sp,h,h',_⟩:=h.ex; exact h'
theorem Rw.le{E:TypeId}(h:Rw w E k b n c xs):n<=c/\c<=maxLen:=by
 obtain⟨sp,h,_,_,h'⟩:=h.ex; exact h'
theorem Rw.cell{E:TypeId}(h:Rw w E k b n c xs){i:Nat}(hi:xs[i]? = some v):w.cell? ⟨b,i,none⟩=some v:=by
 obtain⟨sp,h,_⟩:=h.ex;exact h.cell (by rw[List.getElem?_append_left (List.getElem?_eq_some_iff.1 hi).1]; exact hi)
theorem Rw.free{E:TypeId}(h:Rw w E k b n c xs)(i:Nat):w.frozen? ⟨b,i,none⟩=false:=by
 obtain⟨sp,h,_⟩:=h.ex; exact h.free i
theorem Rw.kind{E:TypeId}(h:Rw w E k b n c xs):∃ cs,Blk w b cs E:=by
 obtain⟨sp,h,_⟩:=h.ex; exact⟨_,h⟩
theorem Rw.set{E:TypeId}(h:Rw w E k b n c xs)(i:Nat)(hi:i < xs.length)(v:Value):Rw (w.setCell ⟨b,i,none⟩ v) E k b n c (xs.set i v):=by
 obtain⟨sp,h,h1,h2,h3⟩:=h.ex;refine⟨sp,?_,by simpa using h1,by simpa using h2,h3⟩;have:=h.setCell (i:=i) v;rwa [List.set_append_left _ _ hi] at this
theorem mQ{E:TypeId}(h:Blk w b xs E)(hx:xs.length=n * k)(hn:n<=maxLen):Rw w E k b n n xs:=⟨[],by simpa using h,hx,by simpa using hx,Nat.le_refl _,hn⟩
theorem Rw.front{E:TypeId}(h:Rw w E k b n c xs)(hm:m<=n):Rw w E k b m c (xs.take (m * k)):=by
 obtain⟨sp,h,h1,h2,h3,h4⟩:=h.ex
 have hk:m * k<=n * k:=Nat.mul_le_mul_right _ hm;refine⟨xs.drop (m * k) ++ sp,by rw[<- List.append_assoc,List.take_append_drop]; exact h,by rw[List.length_take]; omega,by rw[<- List.append_assoc,List.take_append_drop]; exact h2,by omega,h4⟩
theorem Rw.more{E:TypeId}(h:Rw w E k b n c xs)(hm:n + m<=c):∃ s,s.length=m * k/\Rw w E k b (n + m) c (xs ++ s):=by
 obtain⟨sp,h,h1,h2,h3,h4⟩:=h.ex
 have h5:n * k + m * k<=c * k:=by rw[<- Nat.add_mul]; exact Nat.mul_le_mul_right _ hm
 rw[List.length_append] at h2;refine⟨sp.take (m * k),by rw[List.length_take]; omega,sp.drop (m * k),?_,?_,?_,hm,h4⟩
 ·rw[List.append_assoc,List.take_append_drop]; exact h
 ·rw[List.length_append,List.length_take,Nat.add_mul]; omega
 ·rw[List.append_assoc,List.take_append_drop,List.length_append]; exact h2
theorem Rw.to{E:TypeId}(h:Rw w E k b n c xs)(e:xs=ys):Rw w E k b n c ys:=e▸h
end
section
variable {P:Program} {w:World} {T E:TypeId} {k bytes:Nat} {z:Value}
section
variable {b n c g:Nat}{xs:List Value}
structure Kd(P:Program)(T E:TypeId)(k bytes:Nat)(z:Value):Prop where
 und:P.underlying T=some (.slice E)
 inf:(P.info? E).map (fun i=>(i.zero,i.size,i.bytes))=some (some z,k,bytes)
 zs:z.cells.size=k
 z1:∀ v∈z.cells,v.oneCell'=true
 k0:0 < k
theorem Kd.size(h:Kd P T E k bytes z):(P.info? E).map (·.size)=some k:=by
 obtain⟨i,hi,hz,hs,hb⟩:=info_parts h.inf;rw[hi]; simp[hs]
theorem Kd.sizeOf(h:Kd P T E k bytes z)(w:World):(Go.sizeOf E).run P w=.ok k w:=by
 obtain⟨i,hi,hz,hs,hb⟩:=info_parts h.inf;simp[Go.sizeOf,typeInfo,hi,hs]
theorem Kd.zero(h:Kd P T E k bytes z)(w:World):(zeroValue E).run P w=.ok z w:=by
 obtain⟨i,hi,hz,hs,hb⟩:=info_parts h.inf;simp[zeroValue,typeInfo,hi,hz]
theorem jX(w:World)(E:TypeId)(zc:Array Value)(k n c:Nat)(xs:List Value)(hz:zc.size=k)(hx:xs.length=n * k)(hn:n<=c)(hc:c<=maxLen) :
  Rw (w.drew.alloc (.cells (xs.toArray ++ Builtin.zeroCells zc (c - n)) E)) E k w.heap.size n c xs :=
 ⟨(Builtin.zeroCells zc (c - n)).toList,⟨by
  have:=(au w.drew (xs ++ (Builtin.zeroCells zc (c - n)).toList) E).blk;rw[show (xs ++ (Builtin.zeroCells zc (c - n)).toList).toArray=xs.toArray ++ Builtin.zeroCells zc (c - n) by apply Array.ext'; simp] at this ⊢;exact this⟩,hx,by
  rw[List.length_append,hx,Array.length_toList,size_zeroCells,hz,<- Nat.add_mul]; congr 1; omega,hn,hc⟩
theorem cI(H:Kd P T E k bytes z)(ty:TypeId)(R:Rw w E k b n c xs)(a:Addr)(m cc:Nat)(news:List Value)(hl:news.length=m * k)(hnews:∀ j u,news[j]? = some u->w.cell? (a.add j)=some u)(h1:∀ u∈news,u.oneCell'=true)(hbig:(n + m) * bytes<=140737488355328)(hm:n + m<=140737488355328) :
  ∃ b' c' w',(Builtin.append_ #[T,T] ty #[.slice (some ⟨b,0,none⟩) n c,.slice (some a) m cc]).run P w=.ok (.slice (some ⟨b',0,none⟩) (n + m) c') w'/\(b'=b\/b'=w.heap.size)/\Rw w' E k b' (n + m) c' (xs ++ news)/\Chg (· = b) w w':=by
 obtain⟨i,hi,hz,hs,hb⟩:=info_parts H.inf;obtain⟨sp,hB,hx,hc,hnc,hcm⟩:=R.ex;subst hs hb
 have hmx:n + m<=maxLen:=by simp only[maxLen]; omega
 by_cases hroom:n + m<=c
 ·have hfit:n * i.size + news.length<=(xs ++ sp).toArray.size:=by
   rw[List.size_toArray,hc,hl,<- Nat.add_mul]; exact Nat.mul_le_mul_right _ hroom
  have hr:=run_append_room (P:=P) w T ty E i H.und hi b n c (xs ++ sp).toArray hB.blk a m cc news hl hnews h1 hroom hfit;refine⟨b,c,_,hr,.inl rfl,⟨sp.drop news.length,?_,by rw[List.length_append,hx,hl,Nat.add_mul],?_,hroom,hcm⟩,(Chg.refl (· = b) w).row (g:=b) (.inl rfl) _⟩
  ·have:=hB.row (xs ++ news ++ sp.drop news.length)
   have e:(xs ++ sp).toArray.toList.take (n * i.size) ++ news ++ (xs ++ sp).toArray.toList.drop (n * i.size + news.length)=xs ++ news ++ sp.drop news.length:=by
    rw[show (xs ++ sp).toArray.toList=xs ++ sp from rfl,<- hx,List.take_left,<- List.drop_drop,List.drop_left]
   rw[e]; exact this
  ·have h2:xs.length + sp.length=c * i.size:=by rw[<- List.length_append]; exact hc
   have h3:n * i.size + m * i.size<=c * i.size:=by rw[<- Nat.add_mul]; exact Nat.mul_le_mul_right _ hroom
   rw[List.length_append,List.length_append,List.length_drop]; omega
 ·have holds:∀ j u,xs[j]? = some u->w.cell? ((⟨b,0,none⟩:Addr).add j)=some u:=fun j u hj=>by rw[Addr.add_lit,Nat.zero_add]; exact R.cell hj
  have hr:=run_append_grow (P:=P) w T ty E i z H.und hi hz ⟨b,0,none⟩ n c xs hx holds a m cc news hl hnews (by omega) (by omega) (growslice_fits (by omega) hbig);refine⟨w.heap.size,_,_,hr,.inr rfl,?_,(Chg.refl _ w).drew.alloc _⟩;have:=jX w E z.cells i.size (n + m) (grownCap w (n + m) c E) (xs ++ news) H.zs (by rw[List.length_append,hx,hl,Nat.add_mul]) (grownCap_ge w _ _ _) (grownCap_le_maxLen w _ _ _ hmx);simpa using this
theorem dQ(H:Kd P T E k bytes z)(ty:TypeId)(a:Addr)(m cc:Nat)(news:List Value)(hl:news.length=m * k)(hnews:∀ j u,news[j]? = some u->w.cell? (a.add j)=some u)(h0:0 < m)(hbig:m * bytes<=140737488355328)(hm:m<=140737488355328) :
  ∃ c' w',(Builtin.append_ #[T,T] ty #[.slice none 0 0,.slice (some a) m cc]).run P w=.ok (.slice (some ⟨w.heap.size,0,none⟩) m c') w'/\Rw w' E k w.heap.size m c' news/\Below w.heap.size w w':=by
 obtain⟨i,hi,hz,hs,hb⟩:=info_parts H.inf;subst hs hb;have hr:=run_append_nil (P:=P) w T ty E i z H.und hi hz a m cc news hl hnews h0 (by omega) (by omega);refine⟨_,_,hr,?_,?_⟩
 ·exact jX w E z.cells i.size m (grownCap w m 0 E) news H.zs hl (grownCap_ge w _ _ _) (grownCap_le_maxLen w _ _ _ (by simp only[maxLen]; omega))
 ·exact(Below.refl _ w).trans ⟨rfl,rfl,rfl,by simp,fun b hb=>by
   have:=(aa w.drew (.cells (news.toArray ++ Builtin.zeroCells z.cells (grownCap w m 0 E - m)) E)).block b hb;exact this⟩
theorem mu(H:Kd P T E k bytes z)(tn ty:TypeId)(hn:P.underlying tn=some (.int .i64))(R:Rw w E k b n c xs)(m:Nat)(h0:0 < m)(hc:c < n + m)(hbig:(n + m) * bytes<=140737488355328)(hm:n + m<=140737488355328) :
  ∃ c' w',(Builtin.append_ #[T,tn] ty #[.slice (some ⟨b,0,none⟩) n c,.int .i64 m]).run P w=.ok (.slice (some ⟨w.heap.size,0,none⟩) (n + m) c') w'/\Rw w' E k w.heap.size (n + m) c' (xs ++ (Builtin.zeroCells z.cells m).toList)/\Below w.heap.size w w':=by
 obtain⟨i,hi,hz,hs,hb⟩:=info_parts H.inf;have hx:=R.len;subst hs hb
 have hold:(Builtin.firstCells i.size n (.slice (some ⟨b,0,none⟩) n c)).run P w.drew=.ok xs.toArray w.drew :=
  run_firstCells_some w.drew i.size n ⟨b,0,none⟩ n c xs hx (fun j v hj=>by rw[Addr.add_lit,Nat.zero_add]; exact R.cell hj)
 have hm':m * i.bytes<=(n + m) * i.bytes:=Nat.mul_le_mul_right _ (by omega);have hr:=run_append_grow_zeros w T tn ty E i z .i64 .i64 H.und hn hi hz (some ⟨b,0,none⟩) n c xs hold m h0 H.k0 hc (by omega) (by omega) (growslice_fits hc hbig);refine⟨_,_,hr,?_,?_⟩
 ·have:=jX w E z.cells i.size (n + m) (grownCap w (n + m) c E) (xs ++ (Builtin.zeroCells z.cells m).toList) H.zs (by rw[List.length_append,hx,Array.length_toList,size_zeroCells,H.zs,Nat.add_mul]) (grownCap_ge w _ _ _) (grownCap_le_maxLen w _ _ _ (by simp only[maxLen]; omega));rw[show (xs ++ (Builtin.zeroCells z.cells m).toList).toArray=xs.toArray ++ Builtin.zeroCells z.cells m by apply Array.ext'; simp] at this;exact this
 ·exact⟨rfl,rfl,rfl,by simp,fun b hb=>(aa w.drew (.cells (xs.toArray ++ Builtin.zeroCells z.cells m ++ Builtin.zeroCells z.cells (grownCap w (n + m) c E - (n + m))) E)).block b hb⟩
theorem lT(H:Kd P T E k bytes z)(tn ty:TypeId)(hn:P.underlying tn=some (.int .i64))(m:Nat)(h0:0 < m)(hbig:m * bytes<=140737488355328)(hm:m<=140737488355328) :
  ∃ c' w',(Builtin.append_ #[T,tn] ty #[.slice none 0 0,.int .i64 m]).run P w=.ok (.slice (some ⟨w.heap.size,0,none⟩) m c') w'/\Rw w' E k w.heap.size m c' (Builtin.zeroCells z.cells m).toList/\Below w.heap.size w w':=by
 obtain⟨i,hi,hz,hs,hb⟩:=info_parts H.inf;subst hs hb;have hr:=run_append_nil_zeros w T tn ty E i z .i64 .i64 H.und hn hi hz m h0 H.k0 (by omega) (by omega);refine⟨_,_,hr,?_,?_⟩
 ·have:=jX w E z.cells i.size m (grownCap w m 0 E) (Builtin.zeroCells z.cells m).toList H.zs (by rw[Array.length_toList,size_zeroCells,H.zs]) (grownCap_ge w _ _ _) (grownCap_le_maxLen w _ _ _ (by simp only[maxLen]; omega));simpa using this
 ·exact⟨rfl,rfl,rfl,by simp,fun b hb=>(aa w.drew (.cells (Builtin.zeroCells z.cells m ++ Builtin.zeroCells z.cells (grownCap w m 0 E - m)) E)).block b hb⟩
theorem ea(H:Kd P T E k bytes z)(ty:TypeId)(R:Rw w E k g n c xs)(o dLen dCap:Nat)(a:Addr)(sLen sCap:Nat)(cs:List Value)(m:Nat)(hm:Nat.min sLen dLen=m)(hn:cs.length=m * k)(hsrc:∀ j v,cs[j]? = some v->w.cell? (a.add j)=some v)(hfit:o + cs.length<=xs.length)(h1:∀ v∈cs,v.oneCell'=true) :
  ∃ w',(Builtin.copy_ #[T,T] ty #[.slice (some ⟨g,o,none⟩) dLen dCap,.slice (some a) sLen sCap]).run P w=.ok (goInt m) w'/\Rw w' E k g n c (splice xs o cs)/\Chg (· = g) w w':=by
 obtain⟨sp,hB,hx,hc,hnc,hcm⟩:=R.ex;have hr:=uE (P:=P) w T T ty E k g o dLen dCap a sLen sCap (xs ++ sp) cs E H.und H.size hB m hm hn hsrc (by rw[List.length_append]; omega) h1
 have e:splice (xs ++ sp) o cs=splice xs o cs ++ sp:=by
  rw[dP,dP,List.take_append_of_le_length (by omega),List.drop_append_of_le_length (by omega),List.append_assoc,List.append_assoc,List.append_assoc]
 have hl:=length_splice xs o cs hfit;refine⟨_,hr,⟨sp,by rw[e]; exact hB.row _,by rw[hl]; exact hx,by rw[List.length_append,hl,<- List.length_append]; exact hc,hnc,hcm⟩,(Chg.refl (· = g) w).row (g:=g) (.inl rfl) _⟩
theorem iB(H:Kd P T E k bytes z)(ty:TypeId)(R:Rw w E k b n c xs)(a:Addr)(m cc:Nat)(news:List Value)(hl:news.length=m * k)(hnews:∀ j u,news[j]? = some u->w.cell? (a.add j)=some u)(h1:∀ u∈news,u.oneCell'=true)(hroom:n + m<=c) :
  ∃ w',(Builtin.append_ #[T,T] ty #[.slice (some ⟨b,0,none⟩) n c,.slice (some a) m cc]).run P w=.ok (.slice (some ⟨b,0,none⟩) (n + m) c) w'/\Rw w' E k b (n + m) c (xs ++ news)/\Chg (· = b) w w':=by
 obtain⟨i,hi,hz,hs,hb⟩:=info_parts H.inf;obtain⟨sp,hB,hx,hc,hnc,hcm⟩:=R.ex;subst hs hb
 have hfit:n * i.size + news.length<=(xs ++ sp).toArray.size:=by
  rw[List.size_toArray,hc,hl,<- Nat.add_mul]; exact Nat.mul_le_mul_right _ hroom
 have hr:=run_append_room (P:=P) w T ty E i H.und hi b n c (xs ++ sp).toArray hB.blk a m cc news hl hnews h1 hroom hfit;refine⟨_,hr,⟨sp.drop news.length,?_,by rw[List.length_append,hx,hl,Nat.add_mul],?_,hroom,hcm⟩,(Chg.refl (· = b) w).row (g:=b) (.inl rfl) _⟩
 ·have:=hB.row (xs ++ news ++ sp.drop news.length)
  have e:(xs ++ sp).toArray.toList.take (n * i.size) ++ news ++ (xs ++ sp).toArray.toList.drop (n * i.size + news.length)=xs ++ news ++ sp.drop news.length:=by
   rw[show (xs ++ sp).toArray.toList=xs ++ sp from rfl,<- hx,List.take_left,<- List.drop_drop,List.drop_left]
  rw[e]; exact this
 ·have h2:xs.length + sp.length=c * i.size:=by rw[<- List.length_append]; exact hc
  have h3:n * i.size + m * i.size<=c * i.size:=by rw[<- Nat.add_mul]; exact Nat.mul_le_mul_right _ hroom
  rw[List.length_append,List.length_append,List.length_drop]; omega
theorem gz(H:Kd P T E k bytes z)(ty:TypeId)(R:Rw w E k g n c xs)(m cc:Nat)(hm:0 < m)(hroom:n + m<=c) :
  ∃ w',(Builtin.clear_ #[T] ty #[.slice (some ⟨g,n * k,none⟩) m cc]).run P w=.ok (.tuple #[]) w'/\Rw w' E k g n c xs/\Chg (· = g) w w':=by
 obtain⟨sp,hB,hx,hc,hnc,hcm⟩:=R.ex
 have h3:n * k + m * k<=c * k:=by rw[<- Nat.add_mul]; exact Nat.mul_le_mul_right _ hroom
 have hr:=rq (P:=P) w T ty E z k g (n * k) m cc (xs ++ sp) E H.und H.zero H.zs H.z1 hB hm H.k0 (by omega)
 have e:splice (xs ++ sp) (n * k) (Builtin.zeroCells z.cells m).toList=xs ++ ((Builtin.zeroCells z.cells m).toList ++ sp.drop (Builtin.zeroCells z.cells m).toList.length):=by
  rw[dP,<- hx,List.take_left,<- List.drop_drop,List.drop_left,List.append_assoc]
 have hl:((Builtin.zeroCells z.cells m).toList).length=m * k:=by rw[Array.length_toList,size_zeroCells,H.zs]
 refine⟨_,hr,⟨_,by rw[e]; exact hB.row _,hx,?_,hnc,hcm⟩,(Chg.refl (· = g) w).row (g:=g) (.inl rfl) _⟩;rw[List.length_append] at hc ⊢;rw[List.length_append,List.length_drop,hl];omega
end
end
end Pg
end
section
namespace Pg
open Go.RowKit Go.Lib
theorem KE:Kd Tryz.prog 220 223 2 48 (.agg #[.slice none 0 0,.slice none 0 0]):=⟨by kernel_rfl,by kernel_rfl,rfl,by simp[Value.cells,Value.oneCell'],by decide⟩
theorem KP:Kd Tryz.prog 170 220 1 24 (.slice none 0 0):=⟨by kernel_rfl,by kernel_rfl,rfl,by simp[Value.cells,Value.oneCell'],by decide⟩
theorem jy:Tryz.prog.underlying 3=some (.int .i64):=by kernel_rfl
theorem mixed:Tryz.prog.follows .mixedOrders=true:=by kernel_rfl
section
variable {w:World} {b n c i vb:Nat} {xs:List Value} {e1 e2:Value}
theorem wK (R:Rw w 223 2 b n c xs) (hV:Blk w vb [e1,e2] 223) (hn:n<=1000000000) (h2:∀ v∈[e1,e2],v.oneCell'=true) :
  Calls Tryz.prog 218 #[.slice (some ⟨b,0,none⟩) n c,.int .i64 n,.slice (some ⟨vb,0,none⟩) 1 1] w fun e w'=>∃ b' c',e=.returned (.slice (some ⟨b',0,none⟩) (n + 1) c')/\(b'=b\/w.heap.size<=b')/\Rw w' 223 2 b' (n + 1) c' (xs ++ [e1,e2])/\Chg (· = b) w w':=by
 obtain⟨b',c',W,hr,hb',hR,hC⟩:=cI KE 220 R ⟨vb,0,none⟩ 1 1 [e1,e2] rfl (fun j u hj=>by rw[Addr.add_lit,Nat.zero_add]; exact hV.cell hj) h2 (by omega) (by omega);have hcm:=R.le;simp only[maxLen] at hcm;have hcm1:=hcm.1;have hcm2:=hcm.2;clear hcm R hV h2;go_enter Tryz.func218,Tryz.ntmps218;go_wp2_with (at_builtin; refine Lib.wpList_append_run _ rfl _ _ _ _ rfl _ _ rfl rfl _ _ hr ?_)
 all_goals (
  go_ret;exact⟨b',c',rfl,hb'.imp id (fun e=>by omega),hR,hC⟩)
theorem vm (hV:Blk w vb [e1,e2] 223) :
  Calls Tryz.prog 218 #[.slice none 0 0,.int .i64 0,.slice (some ⟨vb,0,none⟩) 1 1] w fun e w'=>∃ c',e=.returned (.slice (some ⟨w.heap.size,0,none⟩) 1 c')/\Rw w' 223 2 w.heap.size 1 c' [e1,e2]/\Below w.heap.size w w':=by
 obtain⟨c',W,hr,hR,hC⟩:=dQ (w:=w) KE 220 ⟨vb,0,none⟩ 1 1 [e1,e2] rfl (fun j u hj=>by rw[Addr.add_lit,Nat.zero_add]; exact hV.cell hj) (by decide) (by decide) (by decide);clear hV;go_enter Tryz.func218,Tryz.ntmps218;go_wp2_with (at_builtin; refine Lib.wpList_append_run _ rfl _ _ _ _ rfl _ _ rfl rfl _ _ hr ?_);go_ret;exact⟨c',rfl,hR,hC⟩
theorem qY (R : Rw w 223 2 b n c xs) (hV : Blk w vb [e1, e2] 223) (hvb : vb ≠ b) (hi : i < n) (hroom : n + 1 ≤ c) (h1 : ∀ v ∈ xs, v.oneCell' = true) (h2 : ∀ v ∈ [e1, e2], v.oneCell' = true) :
    Calls Tryz.prog 218 #[.slice (some ⟨b, 0, none⟩) n c, .int .i64 i, .slice (some ⟨vb, 0, none⟩) 1 1] w fun e w' => e = .returned (.slice (some ⟨b, 0, none⟩) (n + 1) c) ∧ Rw w' 223 2 b (n + 1) c (xs.take (i * 2) ++ [e1, e2] ++ xs.drop (i * 2)) ∧ Chg (· = b) w w' := by
  have hx := R.len;have hcm := R.le;simp only[maxLen] at hcm;have hcm1 := hcm.1;have hcm2 := hcm.2
  have hcd : ∃ cs, Blk w b cs 223 ∧ cs.length = c * 2 := by
    obtain⟨sp, h, _, h', _⟩:= R.ex;exact⟨_, h, h'⟩
  have hov : ∀ (lb cb : Nat), (callFunc 265 #[.slice (some ⟨vb, 0, none⟩) 1 1, .slice (some ⟨b, (i + 1) * 2, none⟩) lb cb]).run Tryz.prog w = .ok (.value (.bool false)) w := fun lb cb => by
    obtain⟨cs, h, hl⟩:= hcd;rw[run_callFunc_extern Tryz.func265 (by kernel_rfl) (by kernel_rfl) (by kernel_rfl) (e := Extern.SlicesOverlaps.overlaps #[220, 220] #[4]) (by kernel_rfl),
      Lib.run_overlaps_apart w 220 4 223 KE.und 2 KE.sizeOf ⟨vb, 0, none⟩ ⟨b, (i + 1) * 2, none⟩ 1 1 lb cb hvb 223 223 2 (c * 2) (by simp[World.shape?, hV.blk]) (by simp[World.shape?, h.blk]; simpa using hl) (by omega) (hV.free _) (hV.free _)]
    rfl
  have hdl : (xs.drop (i * 2)).length = (n - i) * 2 := by rw[List.length_drop, hx]; omega
  obtain⟨s, hs, R'⟩:= R.drew.more (m := 1) hroom;obtain⟨W1, hr1, R1, C1⟩:= ea (w := w.drew) KE 3 R' ((i + 1) * 2) (n - i) (c - (i + 1)) ⟨b, i * 2, none⟩ (n + 1 - i) (c - i) (xs.drop (i * 2)) (n - i) (by simp only[Nat.min_def]; split <;> omega) hdl
    (fun j v hj => by
      rw[List.getElem?_drop] at hj;rw[Addr.add_lit];exact R.cell (w := w) (by simpa using hj)) (by rw[hdl, R'.len]; omega) (fun v hv => h1 v (List.mem_of_mem_drop hv))
  have hV1 : Blk W1 vb [e1, e2] 223 := hV.drew.chg C1 hvb;obtain⟨W2, hr2, R2, C2⟩:= ea (w := W1) KE 3 R1 (i * 2) (n + 1 - i) (c - i) ⟨vb, 0, none⟩ 1 1 [e1, e2] 1 (by simp only[Nat.min_def]; split <;> omega) rfl
    (fun j v hj => by rw[Addr.add_lit, Nat.zero_add]; exact hV1.cell hj) (by rw[R1.len]; simp; omega) h2
  have hfin : splice (splice (xs ++ s) ((i + 1) * 2) (xs.drop (i * 2))) (i * 2) [e1, e2] = xs.take (i * 2) ++ [e1, e2] ++ xs.drop (i * 2) := by
    have h := pZ xs s [e1, e2] (i * 2) (by omega) (by simp[hs])
    have q0 : s.drop ([e1, e2] : List Value).length = [] := List.drop_of_length_le (by simp[hs]);rw[q0, List.append_nil] at h;simpa[Nat.add_mul] using h
  have R3 := R2.to hfin
  have C3 : Chg (· = b) w W2 := ((Chg.refl _ w).drew.trans C1 (fun _ _ h => h)).trans C2 (fun _ _ h => h)
  have hz2 : ¬ ((i : Int) = (n : Int)) := by omega
  have hw1 : IntKind.i64.wrap ((i : Int) + 1) = (i : Int) + 1 := by rw[IntKind.wrap_i64]; omega
  have hb1 : (0 : Int) ≤ (i : Int) + 1 := by omega
  have hin : i ≤ n := by omega
  have htn : ((i : Int) + 1).toNat = i + 1 := by omega
  have hb2 : ¬ (c = i + 1) := by omega
  have hb3 : (i : Int) ≤ (n : Int) + 1 := by omega
  have hb4 : ¬ (c = i) := by omega
  clear hcm R hcd R' R1 R2 C1 C2 hfin hV hV1 hs hdl h1 h2;have mixed := mixed;go_enter Tryz.func218, Tryz.ntmps218;go_wp2_with (simp only[hov]);go_region;go_wp2;go_ret;exact⟨rfl, R3, C3⟩
theorem tf (R : Rw w 223 2 b n c xs) (hV : Blk w vb [e1, e2] 223) (hi : i < n) (hroom : c < n + 1) (hn : n ≤ 1000000000) (h1 : ∀ v ∈ xs, v.oneCell' = true) (h2 : ∀ v ∈ [e1, e2], v.oneCell' = true) :
    Calls Tryz.prog 218 #[.slice (some ⟨b, 0, none⟩) n c, .int .i64 i, .slice (some ⟨vb, 0, none⟩) 1 1] w fun e w' => ∃ c', e = .returned (.slice (some ⟨w.heap.size, 0, none⟩) (n + 1) c') ∧ Rw w' 223 2 w.heap.size (n + 1) c' (xs.take (i * 2) ++ [e1, e2] ++ xs.drop (i * 2)) ∧ Below w.heap.size w w' := by
  have hx := R.len;have hcm := R.le;simp only[maxLen] at hcm;have hcm1 := hcm.1;have hcm2 := hcm.2;have hblt := R.lt;have hvlt := hV.lt;obtain⟨c', W1, hr1, R1, B1⟩:= mu KE 3 220 jy (R.front (m := i) (by omega)) (n + 1 - i) (by omega) (by omega) (by omega) (by omega);rw[show ((n + 1 - i : Nat) : Int) = (n : Int) + 1 - (i : Int) by omega, show i + (n + 1 - i) = n + 1 by omega] at hr1;rw[show i + (n + 1 - i) = n + 1 by omega] at R1;have hcx := R1.le;simp only[maxLen] at hcx;have hcx1 := hcx.1;have hcx2 := hcx.2
  have hV1 : Blk W1 vb [e1, e2] 223 := hV.keep B1;obtain⟨W2, hr2, R2, C2⟩:= ea (w := W1) KE 3 R1 (i * 2) (n + 1 - i) (c' - i) ⟨vb, 0, none⟩ 1 1 [e1, e2] 1 (by simp only[Nat.min_def]; split <;> omega) rfl
    (fun j v hj => by rw[Addr.add_lit, Nat.zero_add]; exact hV1.cell hj) (by rw[R1.len]; simp; omega) h2
  have hdl : (xs.drop (i * 2)).length = (n - i) * 2 := by rw[List.length_drop, hx]; omega
  have Rb : Rw W2.drew 223 2 b n c xs := ((R.keep B1).chg C2 (by show ¬ b = w.heap.size; omega)).drew;obtain⟨W3, hr3, R3, C3⟩:= ea (w := W2.drew) KE 3 R2.drew ((i + 1) * 2) (n - i) (c' - (i + 1)) ⟨b, i * 2, none⟩ (n - i) (c - i) (xs.drop (i * 2)) (n - i) (by simp) hdl
    (fun j v hj => by
      rw[List.getElem?_drop] at hj;rw[Addr.add_lit];exact Rb.cell (by simpa using hj)) (by rw[hdl, R2.len]; omega) (fun v hv => h1 v (List.mem_of_mem_drop hv))
  have hfin : splice (splice (xs.take (i * 2) ++ (Builtin.zeroCells (.agg #[.slice none 0 0, .slice none 0 0] : Value).cells (n + 1 - i)).toList) (i * 2) [e1, e2]) ((i + 1) * 2) (xs.drop (i * 2)) = xs.take (i * 2) ++ [e1, e2] ++ xs.drop (i * 2) := by
    have hA : (xs.take (i * 2)).length = i * 2 := by rw[List.length_take, hx]; omega
    generalize hZ : (Builtin.zeroCells (.agg #[.slice none 0 0, .slice none 0 0] : Value).cells (n + 1 - i)).toList = Z
    have hZl : Z.length = (n + 1 - i) * 2 := by rw[← hZ, Array.length_toList, size_zeroCells]; rfl
    have q1 : xs.take (i * 2) ++ Z = xs.take (i * 2) ++ Z.take 2 ++ Z.drop 2 := by rw[List.append_assoc, List.take_append_drop]
    rw[q1, eB _ (Z.take 2) [e1, e2] _ _ hA (by rw[List.length_take]; simp; omega)];have q2 := eB (xs.take (i * 2) ++ [e1, e2]) (Z.drop 2) (xs.drop (i * 2)) [] ((i + 1) * 2) (by rw[List.length_append, hA]; simp <;> omega) (by rw[List.length_drop, hZl, hdl]; omega);simpa using q2
  have R4 := R3.to hfin
  have hBl : Below w.heap.size w W3 := by
    have k2 : Below w.heap.size W1 W2 := C2.below (fun b hb => by omega) (B1.size)
    have k3 : Below w.heap.size W2.drew W3 := C3.below (fun b hb => by omega) (by have := B1.size; have := C2.size; show w.heap.size ≤ W2.heap.size; omega);exact(B1.trans k2).trans ((⟨rfl, rfl, rfl, Nat.le_refl _, fun _ _ => rfl⟩ : Below w.heap.size W2 W2.drew).trans k3)
  have hz2 : ¬ ((i : Int) = (n : Int)) := by omega
  have hw1 : IntKind.i64.wrap ((i : Int) + 1) = (i : Int) + 1 := by rw[IntKind.wrap_i64]; omega
  have hb1 : (0 : Int) ≤ (i : Int) + 1 := by omega
  have hin : i ≤ n := by omega
  have htn : ((i : Int) + 1).toNat = i + 1 := by omega
  have hb2 : ¬ (c' = i + 1) := by omega
  have hb2' : i + 1 ≤ n + 1 := by omega
  have hb3 : (i : Int) ≤ (n : Int) + 1 := by omega
  have hb4 : ¬ (c' = i) := by omega
  have hb5 : ¬ (c = i) := by omega
  clear hcm hcx R R1 R2 R3 Rb C2 C3 B1 hfin hV hV1 hdl h1 h2;have mixed := mixed;go_enter Tryz.func218, Tryz.ntmps218;go_wp2_with (at_builtin; refine Lib.wpList_append_run _ rfl _ _ _ _ rfl _ _ rfl rfl _ _ hr1 ?_);go_region;go_wp2;go_ret;exact⟨c', rfl, R4, hBl⟩
theorem insE (R:Rw w 223 2 b n c xs) (hV:Blk w vb [e1,e2] 223) (hvb:vb≠b) (hi:i<=n) (hn:n<=1000000000) (h1:∀ v∈xs,v.oneCell'=true) (h2:∀ v∈[e1,e2],v.oneCell'=true) :
  Calls Tryz.prog 218 #[.slice (some ⟨b,0,none⟩) n c,.int .i64 i,.slice (some ⟨vb,0,none⟩) 1 1] w fun e w'=>∃ b' c',e=.returned (.slice (some ⟨b',0,none⟩) (n + 1) c')/\(b'=b\/w.heap.size<=b')/\Rw w' 223 2 b' (n + 1) c' (xs.take (i * 2) ++ [e1,e2] ++ xs.drop (i * 2))/\Chg (· = b) w w':=by
 by_cases h:i=n
 ·subst h;refine(wK R hV hn h2).mono ?_
  rintro e w' ⟨b',c',rfl,hb,hR,hC⟩;exact⟨b',c',rfl,hb,hR.to (by rw[List.take_of_length_le (by rw[R.len]; omega),List.drop_of_length_le (by rw[R.len]; omega),List.append_nil]),hC⟩
 ·by_cases hr:n + 1<=c
  ·refine(qY R hV hvb (by omega) hr h1 h2).mono ?_
   rintro e w' ⟨rfl,hR,hC⟩;exact⟨b,c,rfl,.inl rfl,hR,hC⟩
  ·refine(tf R hV (by omega) (by omega) hn h1 h2).mono ?_
   rintro e w' ⟨c',rfl,hR,hC⟩;exact⟨_,c',rfl,.inr (Nat.le_refl _),hR,Chg.of hC⟩
end
section
variable {w:World} {b n c i vb:Nat} {xs:List Value} {e1:Value}
theorem vY (R:Rw w 220 1 b n c xs) (hV:Blk w vb [e1] 220) (hn:n<=1000000000) (h2:∀ v∈[e1],v.oneCell'=true) :
  Calls Tryz.prog 267 #[.slice (some ⟨b,0,none⟩) n c,.int .i64 n,.slice (some ⟨vb,0,none⟩) 1 1] w fun e w'=>∃ b' c',e=.returned (.slice (some ⟨b',0,none⟩) (n + 1) c')/\(b'=b\/w.heap.size<=b')/\Rw w' 220 1 b' (n + 1) c' (xs ++ [e1])/\Chg (· = b) w w':=by
 obtain⟨b',c',W,hr,hb',hR,hC⟩:=cI KP 170 R ⟨vb,0,none⟩ 1 1 [e1] rfl (fun j u hj=>by rw[Addr.add_lit,Nat.zero_add]; exact hV.cell hj) h2 (by omega) (by omega);have hcm:=R.le;simp only[maxLen] at hcm;have hcm1:=hcm.1;have hcm2:=hcm.2;clear hcm R hV h2;go_enter Tryz.func267,Tryz.ntmps267;go_wp2_with (at_builtin; refine Lib.wpList_append_run _ rfl _ _ _ _ rfl _ _ rfl rfl _ _ hr ?_)
 all_goals (
  go_ret;exact⟨b',c',rfl,hb'.imp id (fun e=>by omega),hR,hC⟩)
theorem qB (R : Rw w 220 1 b n c xs) (hV : Blk w vb [e1] 220) (hvb : vb ≠ b) (hi : i < n) (hroom : n + 1 ≤ c) (h1 : ∀ v ∈ xs, v.oneCell' = true) (h2 : ∀ v ∈ [e1], v.oneCell' = true) :
    Calls Tryz.prog 267 #[.slice (some ⟨b, 0, none⟩) n c, .int .i64 i, .slice (some ⟨vb, 0, none⟩) 1 1] w fun e w' => e = .returned (.slice (some ⟨b, 0, none⟩) (n + 1) c) ∧ Rw w' 220 1 b (n + 1) c (xs.take (i * 1) ++ [e1] ++ xs.drop (i * 1)) ∧ Chg (· = b) w w' := by
  have hx := R.len;have hcm := R.le;simp only[maxLen] at hcm;have hcm1 := hcm.1;have hcm2 := hcm.2
  have hcd : ∃ cs, Blk w b cs 220 ∧ cs.length = c * 1 := by
    obtain⟨sp, h, _, h', _⟩:= R.ex;exact⟨_, h, h'⟩
  have hov : ∀ (lb cb : Nat), (callFunc 288 #[.slice (some ⟨vb, 0, none⟩) 1 1, .slice (some ⟨b, i + 1, none⟩) lb cb]).run Tryz.prog w = .ok (.value (.bool false)) w := fun lb cb => by
    obtain⟨cs, h, hl⟩:= hcd;rw[run_callFunc_extern Tryz.func288 (by kernel_rfl) (by kernel_rfl) (by kernel_rfl) (e := Extern.SlicesOverlaps.overlaps #[170, 170] #[4]) (by kernel_rfl),
      Lib.run_overlaps_apart w 170 4 220 KP.und 1 KP.sizeOf ⟨vb, 0, none⟩ ⟨b, i + 1, none⟩ 1 1 lb cb hvb 220 220 1 (c * 1) (by simp[World.shape?, hV.blk]) (by simp[World.shape?, h.blk]; simpa using hl) (by omega) (hV.free _) (hV.free _)]
    rfl
  have hdl : (xs.drop (i * 1)).length = (n - i) * 1 := by rw[List.length_drop, hx]; omega
  obtain⟨s, hs, R'⟩:= R.drew.more (m := 1) hroom;obtain⟨W1, hr1, R1, C1⟩:= ea (w := w.drew) KP 3 R' (i + 1) (n - i) (c - (i + 1)) ⟨b, i, none⟩ (n + 1 - i) (c - i) (xs.drop (i * 1)) (n - i) (by simp only[Nat.min_def]; split <;> omega) hdl
    (fun j v hj => by
      rw[List.getElem?_drop] at hj;rw[Addr.add_lit];exact R.cell (w := w) (by simpa using hj)) (by rw[hdl, R'.len]; omega) (fun v hv => h1 v (List.mem_of_mem_drop hv))
  have hV1 : Blk W1 vb [e1] 220 := hV.drew.chg C1 hvb;obtain⟨W2, hr2, R2, C2⟩:= ea (w := W1) KP 3 R1 (i) (n + 1 - i) (c - i) ⟨vb, 0, none⟩ 1 1 [e1] 1 (by simp only[Nat.min_def]; split <;> omega) rfl
    (fun j v hj => by rw[Addr.add_lit, Nat.zero_add]; exact hV1.cell hj) (by rw[R1.len]; simp; omega) h2
  have hfin : splice (splice (xs ++ s) (i + 1) (xs.drop (i * 1))) (i) [e1] = xs.take (i * 1) ++ [e1] ++ xs.drop (i * 1) := by
    have h := pZ xs s [e1] (i * 1) (by omega) (by simp[hs])
    have q0 : s.drop ([e1] : List Value).length = [] := List.drop_of_length_le (by simp[hs]);rw[q0, List.append_nil] at h;simpa[Nat.add_mul] using h
  have R3 := R2.to hfin
  have C3 : Chg (· = b) w W2 := ((Chg.refl _ w).drew.trans C1 (fun _ _ h => h)).trans C2 (fun _ _ h => h)
  have hz2 : ¬ ((i : Int) = (n : Int)) := by omega
  have hw1 : IntKind.i64.wrap ((i : Int) + 1) = (i : Int) + 1 := by rw[IntKind.wrap_i64]; omega
  have hb1 : (0 : Int) ≤ (i : Int) + 1 := by omega
  have hin : i ≤ n := by omega
  have htn : ((i : Int) + 1).toNat = i + 1 := by omega
  have hb2 : ¬ (c = i + 1) := by omega
  have hb3 : (i : Int) ≤ (n : Int) + 1 := by omega
  have hb4 : ¬ (c = i) := by omega
  clear hcm R hcd R' R1 R2 C1 C2 hfin hV hV1 hs hdl h1 h2;have mixed := mixed;go_enter Tryz.func267, Tryz.ntmps267;go_wp2_with (simp only[hov]);go_region;go_wp2;go_ret;exact⟨rfl, R3, C3⟩
theorem uQ (R : Rw w 220 1 b n c xs) (hV : Blk w vb [e1] 220) (hi : i < n) (hroom : c < n + 1) (hn : n ≤ 1000000000) (h1 : ∀ v ∈ xs, v.oneCell' = true) (h2 : ∀ v ∈ [e1], v.oneCell' = true) :
    Calls Tryz.prog 267 #[.slice (some ⟨b, 0, none⟩) n c, .int .i64 i, .slice (some ⟨vb, 0, none⟩) 1 1] w fun e w' => ∃ c', e = .returned (.slice (some ⟨w.heap.size, 0, none⟩) (n + 1) c') ∧ Rw w' 220 1 w.heap.size (n + 1) c' (xs.take (i * 1) ++ [e1] ++ xs.drop (i * 1)) ∧ Below w.heap.size w w' := by
  have hx := R.len;have hcm := R.le;simp only[maxLen] at hcm;have hcm1 := hcm.1;have hcm2 := hcm.2;have hblt := R.lt;have hvlt := hV.lt;obtain⟨c', W1, hr1, R1, B1⟩:= mu KP 3 170 jy (R.front (m := i) (by omega)) (n + 1 - i) (by omega) (by omega) (by omega) (by omega);rw[show ((n + 1 - i : Nat) : Int) = (n : Int) + 1 - (i : Int) by omega, show i + (n + 1 - i) = n + 1 by omega] at hr1;rw[show i + (n + 1 - i) = n + 1 by omega] at R1;have hcx := R1.le;simp only[maxLen] at hcx;have hcx1 := hcx.1;have hcx2 := hcx.2
  have hV1 : Blk W1 vb [e1] 220 := hV.keep B1;obtain⟨W2, hr2, R2, C2⟩:= ea (w := W1) KP 3 R1 (i) (n + 1 - i) (c' - i) ⟨vb, 0, none⟩ 1 1 [e1] 1 (by simp only[Nat.min_def]; split <;> omega) rfl
    (fun j v hj => by rw[Addr.add_lit, Nat.zero_add]; exact hV1.cell hj) (by rw[R1.len]; simp; omega) h2
  have hdl : (xs.drop (i * 1)).length = (n - i) * 1 := by rw[List.length_drop, hx]; omega
  have Rb : Rw W2.drew 220 1 b n c xs := ((R.keep B1).chg C2 (by show ¬ b = w.heap.size; omega)).drew;obtain⟨W3, hr3, R3, C3⟩:= ea (w := W2.drew) KP 3 R2.drew (i + 1) (n - i) (c' - (i + 1)) ⟨b, i, none⟩ (n - i) (c - i) (xs.drop (i * 1)) (n - i) (by simp) hdl
    (fun j v hj => by
      rw[List.getElem?_drop] at hj;rw[Addr.add_lit];exact Rb.cell (by simpa using hj)) (by rw[hdl, R2.len]; omega) (fun v hv => h1 v (List.mem_of_mem_drop hv))
  have hfin : splice (splice (xs.take (i * 1) ++ (Builtin.zeroCells (.slice none 0 0 : Value).cells (n + 1 - i)).toList) (i) [e1]) (i + 1) (xs.drop (i * 1)) = xs.take (i * 1) ++ [e1] ++ xs.drop (i * 1) := by
    have hA : (xs.take (i * 1)).length = i := by rw[List.length_take, hx]; omega
    generalize hZ : (Builtin.zeroCells (.slice none 0 0 : Value).cells (n + 1 - i)).toList = Z
    have hZl : Z.length = (n + 1 - i) * 1 := by rw[← hZ, Array.length_toList, size_zeroCells]; rfl
    have q1 : xs.take (i * 1) ++ Z = xs.take (i * 1) ++ Z.take 1 ++ Z.drop 1 := by rw[List.append_assoc, List.take_append_drop]
    rw[q1, eB _ (Z.take 1) [e1] _ _ hA (by rw[List.length_take]; simp; omega)];have q2 := eB (xs.take (i * 1) ++ [e1]) (Z.drop 1) (xs.drop (i * 1)) [] (i + 1) (by rw[List.length_append, hA]; simp <;> omega) (by rw[List.length_drop, hZl, hdl]; omega);simpa using q2
  have R4 := R3.to hfin
  have hBl : Below w.heap.size w W3 := by
    have k2 : Below w.heap.size W1 W2 := C2.below (fun b hb => by omega) (B1.size)
    have k3 : Below w.heap.size W2.drew W3 := C3.below (fun b hb => by omega) (by have := B1.size; have := C2.size; show w.heap.size ≤ W2.heap.size; omega);exact(B1.trans k2).trans ((⟨rfl, rfl, rfl, Nat.le_refl _, fun _ _ => rfl⟩ : Below w.heap.size W2 W2.drew).trans k3)
  have hz2 : ¬ ((i : Int) = (n : Int)) := by omega
  have hw1 : IntKind.i64.wrap ((i : Int) + 1) = (i : Int) + 1 := by rw[IntKind.wrap_i64]; omega
  have hb1 : (0 : Int) ≤ (i : Int) + 1 := by omega
  have hin : i ≤ n := by omega
  have htn : ((i : Int) + 1).toNat = i + 1 := by omega
  have hb2 : ¬ (c' = i + 1) := by omega
  have hb2' : i + 1 ≤ n + 1 := by omega
  have hb3 : (i : Int) ≤ (n : Int) + 1 := by omega
  have hb4 : ¬ (c' = i) := by omega
  have hb5 : ¬ (c = i) := by omega
  clear hcm hcx R R1 R2 R3 Rb C2 C3 B1 hfin hV hV1 hdl h1 h2;have mixed := mixed;go_enter Tryz.func267, Tryz.ntmps267;go_wp2_with (at_builtin; refine Lib.wpList_append_run _ rfl _ _ _ _ rfl _ _ rfl rfl _ _ hr1 ?_);go_region;go_wp2;go_ret;exact⟨c', rfl, R4, hBl⟩
theorem insP (R:Rw w 220 1 b n c xs) (hV:Blk w vb [e1] 220) (hvb:vb≠b) (hi:i<=n) (hn:n<=1000000000) (h1:∀ v∈xs,v.oneCell'=true) (h2:∀ v∈[e1],v.oneCell'=true) :
  Calls Tryz.prog 267 #[.slice (some ⟨b,0,none⟩) n c,.int .i64 i,.slice (some ⟨vb,0,none⟩) 1 1] w fun e w'=>∃ b' c',e=.returned (.slice (some ⟨b',0,none⟩) (n + 1) c')/\(b'=b\/w.heap.size<=b')/\Rw w' 220 1 b' (n + 1) c' (xs.take (i * 1) ++ [e1] ++ xs.drop (i * 1))/\Chg (· = b) w w':=by
 by_cases h:i=n
 ·subst h;refine(vY R hV hn h2).mono ?_
  rintro e w' ⟨b',c',rfl,hb,hR,hC⟩;exact⟨b',c',rfl,hb,hR.to (by rw[List.take_of_length_le (by rw[R.len]; omega),List.drop_of_length_le (by rw[R.len]; omega),List.append_nil]),hC⟩
 ·by_cases hr:n + 1<=c
  ·refine(qB R hV hvb (by omega) hr h1 h2).mono ?_
   rintro e w' ⟨rfl,hR,hC⟩;exact⟨b,c,rfl,.inl rfl,hR,hC⟩
  ·refine(uQ R hV (by omega) (by omega) hn h1 h2).mono ?_
   rintro e w' ⟨c',rfl,hR,hC⟩;exact⟨_,c',rfl,.inr (Nat.le_refl _),hR,Chg.of hC⟩
end
end Pg
end
section
namespace Pg
open Go.RowKit Go.Lib
section
variable {w:World} {b n c i:Nat} {xs:List Value}
theorem xi (R : Rw w 223 2 b n c xs) (hi : i < n) (hne : c ≠ i + 1) (h1 : ∀ v ∈ xs, v.oneCell' = true) :
    Calls Tryz.prog 276 #[.slice (some ⟨b, 0, none⟩) n c, .int .i64 i, .int .i64 (i + 1)] w fun e w' => e = .returned (.slice (some ⟨b, 0, none⟩) (n - 1) c) ∧ Rw w' 223 2 b (n - 1) c (xs.take (i * 2) ++ xs.drop ((i + 1) * 2)) ∧ Chg (· = b) w w' := by
  have hx := R.len;have hcm := R.le;simp only[maxLen] at hcm;have hcm1 := hcm.1;have hcm2 := hcm.2
  have hdl : (xs.drop ((i + 1) * 2)).length = (n - (i + 1)) * 2 := by rw[List.length_drop, hx]; omega
  obtain⟨W1, hr1, R1, C1⟩:= iB KE 220 (R.drew.front (m := i) (by omega)) ⟨b, (i + 1) * 2, none⟩ (n - (i + 1)) (c - (i + 1)) (xs.drop ((i + 1) * 2)) hdl
    (fun j v hj => by
      rw[List.getElem?_drop] at hj;rw[Addr.add_lit];exact R.drew.cell (by simpa using hj)) (fun v hv => h1 v (List.mem_of_mem_drop hv)) (by omega)
  rw[show i + (n - (i + 1)) = n - 1 by omega] at R1;obtain⟨W2, hr2, R2, C2⟩:= gz KE 0 R1 (n - (n - 1)) (c - (n - 1)) (by omega) (by omega)
  have C3 : Chg (· = b) w W2 := ((Chg.refl _ w).drew.trans C1 (fun _ _ h => h)).trans C2 (fun _ _ h => h);obtain⟨q, hq⟩ : ∃ q, n = i + 1 + q := ⟨n - (i + 1), by omega⟩;subst hq;rw[show i + 1 + q - (i + 1) = q by omega] at hr1;rw[show i + 1 + q - 1 = i + q by omega] at hr2 R2 ⊢
  have hz2 : ¬ ((i : Int) = (i : Int) + 1) := by omega
  have hin : i ≤ i + 1 + q := by omega
  have hb2 : ¬ (c = i + 1) := hne
  have hb1 : (0 : Int) ≤ (i : Int) + 1 := by omega
  have hic : i ≤ c := by omega
  have htn : ((i : Int) + 1).toNat = i + 1 := by omega
  have hb6 : ¬ (c = i + q) := by omega
  have hb7 : (i : Int) + 1 ≤ ((i + 1 + q : Nat) : Int) := by omega
  have hb8 : i + 1 ≤ i + 1 + q := by omega
  have hb7b : (i : Int) + 1 ≤ (i : Int) + 1 + (q : Int) := by omega
  have hb9 : ((i + 1 + q : Nat) : Int) ≤ (c : Int) := by omega
  clear hcm R R1 C1 C2 hdl h1;have mixed := mixed;go_enter Tryz.func276, Tryz.ntmps276;go_wp2;go_region_law_o (refine iM rfl (.tmp 22) (.tmp 25) 220 220 rfl _ _ (by simp[Act.eval, Act.put]) (by simp[Act.eval, Act.put]) hr1 ?_);go_wp2;go_ret;exact⟨rfl, R2, C3⟩
theorem tm (R:Rw w 223 2 b (i + 1) (i + 1) xs) :
  Calls Tryz.prog 276 #[.slice (some ⟨b,0,none⟩) (i + 1) (i + 1),.int .i64 i,.int .i64 (i + 1)] w fun e w'=>e=.returned (.slice (some ⟨b,0,none⟩) i (i + 1))/\Rw w' 223 2 b i (i + 1) (xs.take (i * 2))/\Chg (· = b) w w':=by
 have hcm:=R.le;simp only[maxLen] at hcm;have hcm2:=hcm.2;obtain⟨W1,hr1,R1,C1⟩:=iB KE 220 (R.drew.front (m:=i) (by omega)) ⟨b,0,none⟩ 0 0 [] (by simp) (fun j v hj=>by simp at hj) (fun v hv=>by simp at hv) (by omega);rw[Nat.add_zero] at R1 hr1;rw[List.append_nil] at R1;obtain⟨W2,hr2,R2,C2⟩:=gz KE 0 R1 1 1 (by omega) (by omega)
 have C3:Chg (· = b) w W2:=((Chg.refl _ w).drew.trans C1 (fun _ _ h=>h)).trans C2 (fun _ _ h=>h)
 have hz2:¬ ((i:Int)=(i:Int) + 1):=by omega
 have hin:i<=i + 1:=by omega
 have hb1:(0:Int)<=(i:Int) + 1:=by omega
 have htn:((i:Int) + 1).toNat=i + 1:=by omega
 have e1:i + 1 - i=1:=by omega
 have hii:(i:Int)<=(i:Int) + 1:=by omega
 clear hcm R R1 C1 C2;have mixed:=mixed;go_enter Tryz.func276,Tryz.ntmps276;go_wp2;go_region_law_o (refine iM rfl (.tmp 22) (.tmp 25) 220 220 rfl _ _ (by simp[Act.eval,Act.put]) (by simp[Act.eval,Act.put]) hr1 ?_);go_wp2;go_ret;exact⟨rfl,R2,C3⟩
theorem delE (R:Rw w 223 2 b n c xs) (hi:i < n) (h1:∀ v∈xs,v.oneCell'=true) :
  Calls Tryz.prog 276 #[.slice (some ⟨b,0,none⟩) n c,.int .i64 i,.int .i64 (i + 1)] w fun e w'=>e=.returned (.slice (some ⟨b,0,none⟩) (n - 1) c)/\Rw w' 223 2 b (n - 1) c (xs.take (i * 2) ++ xs.drop ((i + 1) * 2))/\Chg (· = b) w w':=by
 by_cases h:c=i + 1
 ·have hl:=R.le;obtain rfl:n=i + 1:=by omega
  subst h;refine(tm R).mono ?_
  rintro e w' ⟨rfl,hR,hC⟩;exact⟨by simp,hR.to (by rw[List.drop_of_length_le (by rw[R.len]; omega),List.append_nil]),hC⟩
 ·exact xi R hi h h1
end
section
variable {w:World} {b n c i:Nat} {xs:List Value}
theorem xR (R : Rw w 220 1 b n c xs) (hi : i < n) (hne : c ≠ i + 1) (h1 : ∀ v ∈ xs, v.oneCell' = true) :
    Calls Tryz.prog 277 #[.slice (some ⟨b, 0, none⟩) n c, .int .i64 i, .int .i64 (i + 1)] w fun e w' => e = .returned (.slice (some ⟨b, 0, none⟩) (n - 1) c) ∧ Rw w' 220 1 b (n - 1) c (xs.take (i * 1) ++ xs.drop ((i + 1) * 1)) ∧ Chg (· = b) w w' := by
  have hx := R.len;have hcm := R.le;simp only[maxLen] at hcm;have hcm1 := hcm.1;have hcm2 := hcm.2
  have hdl : (xs.drop ((i + 1) * 1)).length = (n - (i + 1)) * 1 := by rw[List.length_drop, hx]; omega
  obtain⟨W1, hr1, R1, C1⟩:= iB KP 170 (R.drew.front (m := i) (by omega)) ⟨b, i + 1, none⟩ (n - (i + 1)) (c - (i + 1)) (xs.drop ((i + 1) * 1)) hdl
    (fun j v hj => by
      rw[List.getElem?_drop] at hj;rw[Addr.add_lit];exact R.drew.cell (by simpa using hj)) (fun v hv => h1 v (List.mem_of_mem_drop hv)) (by omega)
  rw[show i + (n - (i + 1)) = n - 1 by omega] at R1;obtain⟨W2, hr2, R2, C2⟩:= gz KP 0 R1 (n - (n - 1)) (c - (n - 1)) (by omega) (by omega)
  have C3 : Chg (· = b) w W2 := ((Chg.refl _ w).drew.trans C1 (fun _ _ h => h)).trans C2 (fun _ _ h => h);obtain⟨q, hq⟩ : ∃ q, n = i + 1 + q := ⟨n - (i + 1), by omega⟩;subst hq;rw[show i + 1 + q - (i + 1) = q by omega] at hr1;rw[show i + 1 + q - 1 = i + q by omega] at hr2 R2 ⊢;simp only[Nat.mul_one] at hr2
  have hz2 : ¬ ((i : Int) = (i : Int) + 1) := by omega
  have hin : i ≤ i + 1 + q := by omega
  have hb2 : ¬ (c = i + 1) := hne
  have hb1 : (0 : Int) ≤ (i : Int) + 1 := by omega
  have hic : i ≤ c := by omega
  have htn : ((i : Int) + 1).toNat = i + 1 := by omega
  have hb6 : ¬ (c = i + q) := by omega
  have hb7 : (i : Int) + 1 ≤ ((i + 1 + q : Nat) : Int) := by omega
  have hb8 : i + 1 ≤ i + 1 + q := by omega
  have hb7b : (i : Int) + 1 ≤ (i : Int) + 1 + (q : Int) := by omega
  have hb9 : ((i + 1 + q : Nat) : Int) ≤ (c : Int) := by omega
  clear hcm R R1 C1 C2 hdl h1;have mixed := mixed;go_enter Tryz.func277, Tryz.ntmps277;go_wp2;go_region_law_o (refine iM rfl (.tmp 22) (.tmp 25) 170 170 rfl _ _ (by simp[Act.eval, Act.put]) (by simp[Act.eval, Act.put]) hr1 ?_);go_wp2;go_ret;exact⟨rfl, R2, C3⟩
theorem tU (R:Rw w 220 1 b (i + 1) (i + 1) xs) :
  Calls Tryz.prog 277 #[.slice (some ⟨b,0,none⟩) (i + 1) (i + 1),.int .i64 i,.int .i64 (i + 1)] w fun e w'=>e=.returned (.slice (some ⟨b,0,none⟩) i (i + 1))/\Rw w' 220 1 b i (i + 1) (xs.take (i * 1))/\Chg (· = b) w w':=by
 have hcm:=R.le;simp only[maxLen] at hcm;have hcm2:=hcm.2;obtain⟨W1,hr1,R1,C1⟩:=iB KP 170 (R.drew.front (m:=i) (by omega)) ⟨b,0,none⟩ 0 0 [] (by simp) (fun j v hj=>by simp at hj) (fun v hv=>by simp at hv) (by omega);rw[Nat.add_zero] at R1 hr1;rw[List.append_nil] at R1;obtain⟨W2,hr2,R2,C2⟩:=gz KP 0 R1 1 1 (by omega) (by omega)
 have C3:Chg (· = b) w W2:=((Chg.refl _ w).drew.trans C1 (fun _ _ h=>h)).trans C2 (fun _ _ h=>h);simp only[Nat.mul_one] at hr2
 have hz2:¬ ((i:Int)=(i:Int) + 1):=by omega
 have hin:i<=i + 1:=by omega
 have hb1:(0:Int)<=(i:Int) + 1:=by omega
 have htn:((i:Int) + 1).toNat=i + 1:=by omega
 have e1:i + 1 - i=1:=by omega
 have hii:(i:Int)<=(i:Int) + 1:=by omega
 clear hcm R R1 C1 C2;have mixed:=mixed;go_enter Tryz.func277,Tryz.ntmps277;go_wp2;go_region_law_o (refine iM rfl (.tmp 22) (.tmp 25) 170 170 rfl _ _ (by simp[Act.eval,Act.put]) (by simp[Act.eval,Act.put]) hr1 ?_);go_wp2;go_ret;exact⟨rfl,R2,C3⟩
theorem delP (R:Rw w 220 1 b n c xs) (hi:i < n) (h1:∀ v∈xs,v.oneCell'=true) :
  Calls Tryz.prog 277 #[.slice (some ⟨b,0,none⟩) n c,.int .i64 i,.int .i64 (i + 1)] w fun e w'=>e=.returned (.slice (some ⟨b,0,none⟩) (n - 1) c)/\Rw w' 220 1 b (n - 1) c (xs.take (i * 1) ++ xs.drop ((i + 1) * 1))/\Chg (· = b) w w':=by
 by_cases h:c=i + 1
 ·have hl:=R.le;obtain rfl:n=i + 1:=by omega
  subst h;refine(tU R).mono ?_
  rintro e w' ⟨rfl,hR,hC⟩;exact⟨by simp,hR.to (by rw[List.drop_of_length_le (by rw[R.len]; omega),List.append_nil]),hC⟩
 ·exact xR R hi h h1
end
end Pg
end
section
namespace Pg
open Go.RowKit Go.Lib
section
variable {w w':World}{v:Value}{l:List Int}{D D':Nat->Prop}{a:Addr}{n:Nat}{xs:List Value}
abbrev Oct(l:List Int):Prop:=∀ x∈l,0<=x/\x < 256
structure By(w:World)(v:Value)(l:List Int):Prop where
 ex:∃ ao c,v=.slice ao l.length c/\l.length<=c/\c<=9223372036854775807/\(ao=none->c=0)/\Oct l/\(l=[]\/∃ b o,ao=some ⟨b,o,none⟩/\b < w.heap.size/\∀ i x,l[i]? = some x->w.cell? ⟨b,o + i,none⟩=some (.int .u8 x))
theorem By.keep(h:By w v l)(hb:Below w.heap.size w w'):By w' v l:=by
 obtain⟨ao,c,h1,h2,h3,h4,h5,h6⟩:=h.ex;refine⟨ao,c,h1,h2,h3,h4,h5,h6.imp id ?_⟩;rintro⟨b,o,e,hlt,hc⟩;exact⟨b,o,e,Nat.lt_of_lt_of_le hlt hb.size,fun i x hi=>by rw[hb.cell (p:=⟨b,o + i,none⟩) hlt]; exact hc i x hi⟩
theorem By.drew(h:By w v l):By w.drew v l:=h.keep ⟨rfl,rfl,rfl,Nat.le_refl _,fun _ _=>rfl⟩
theorem By.oct(h:By w v l):Oct l:=by
 obtain⟨ao,c,h1,h2,h3,h4,h5,h6⟩:=h.ex; exact h5
theorem By.nil(w:World):By w (.slice none 0 0) []:=⟨none,0,rfl,by decide,by decide,fun _=>rfl,fun _ h=>by simp at h,.inl rfl⟩
structure OB(w:World)(D:Nat->Prop)(v:Value)(l:List Int):Prop where
 oct:Oct l
 ex:(v=.slice none 0 0/\l=[])\/∃ b c,v=.slice (some ⟨b,0,none⟩) l.length c/\D b/\Rw w 5 1 b l.length c (l.map (Value.int .u8))
theorem OB.by(h:OB w D v l):By w v l:=by
 rcases h.ex with⟨rfl,rfl⟩ | ⟨b,c,rfl,hd,hR⟩
 ·exact By.nil w
 ·have hl:=hR.le;simp only[maxLen] at hl;exact⟨_,c,rfl,by omega,by omega,(fun e=>by cases e),h.oct,.inr ⟨b,0,rfl,hR.lt,fun i x hi=>by rw[Nat.zero_add]; exact hR.cell (by simp[hi])⟩⟩
theorem OB.mono(h:OB w D v l)(hD:∀ b,b < w.heap.size->D b->D' b):OB w D' v l:=by
 refine⟨h.oct,h.ex.imp id ?_⟩;rintro⟨b,c,e,hd,hR⟩;exact⟨b,c,e,hD b hR.lt hd,hR⟩
theorem OB.same(h:OB w D v l)(hD:∀ b,b < w.heap.size->D b->w'.heap[b]? = w.heap[b]?):OB w' D v l:=by
 refine⟨h.oct,h.ex.imp id ?_⟩;rintro⟨b,c,e,hd,hR⟩;exact⟨b,c,e,hd,hR.same (hD b hR.lt hd)⟩
theorem OB.keep(h:OB w D v l)(hb:Below w.heap.size w w'):OB w' D v l:=h.same fun b hb' _=>hb.block b hb'
theorem OB.one(h:OB w D v l):v.oneCell'=true:=by
 rcases h.ex with⟨rfl,rfl⟩ | ⟨b,c,rfl,hd,hR⟩<;>rfl
def cA:List Int->List Int->Int
 | [],[]=>0
 | [],_ :: _ => -1
 | _ :: _,[]=>1
 | x :: a,y :: b=>if x < y then -1 else if y < x then 1 else cA a b
theorem Bc{x y:Int}(hx:0<=x/\x < 256)(hy:0<=y/\y < 256):(UInt8.ofNat x.toNat < UInt8.ofNat y.toNat)<->x < y:=by
 rw[UInt8.lt_iff_toNat_lt,UInt8.toNat_ofNat_of_lt' (by show x.toNat < 256; omega),UInt8.toNat_ofNat_of_lt' (by show y.toNat < 256; omega)];omega
theorem iN:∀ (l l':List Int),Oct l->Oct l'->compareBytes (bytesOf l) (bytesOf l')=cA l l'
 | [],[],_,_=>rfl
 | [],_ :: _,_,_=>rfl
 | _ :: _,[],_,_=>rfl
 | x :: a,y :: b,h,h'=>by
  have ih:=iN a b (fun z hz=>h z (List.mem_cons_of_mem _ hz)) (fun z hz=>h' z (List.mem_cons_of_mem _ hz));have hx:=h x List.mem_cons_self;have hy:=h' y List.mem_cons_self
  show (if UInt8.ofNat x.toNat < UInt8.ofNat y.toNat then _ else if UInt8.ofNat y.toNat < UInt8.ofNat x.toNat then _ else compareBytes (bytesOf a) (bytesOf b))=_
  rw[cA];simp only[Bc hx hy,Bc hy hx,ih]
theorem jI{P:Program}(h:By w v l):(Extern.Bytes.bytesOf v).run P w=.ok ⟨(bytesOf l).toArray⟩ w:=by
 obtain⟨ao,c,rfl,h2,h3,h4,h5,h6⟩:=h.ex
 cases ao with
 | none =>
  have:l=[]:=List.eq_nil_of_length_eq_zero (by have:=h4 rfl; omega);subst this;rfl
 | some a =>
  rcases h6 with rfl | ⟨b,o,e,hlt,hc⟩
  ·rfl
  ·cases e;have:=run_loadBytesX (P:=P) w l ⟨b,o,none⟩ .empty (fun j x hj=>by rw[Addr.add_lit]; exact hc j x hj)
   show (Extern.Bytes.loadBytes ⟨b,o,none⟩ l.length .empty).run P w=_
   rw[this];congr 1
   apply ByteArray.ext;simp
theorem jL{v':Value}{l':List Int}(h:By w v l)(h':By w v' l') :
  Calls Tryz.prog 262 #[v,v'] w fun e w'=>e=.returned (.int .i64 (cA l l'))/\w'=w:=by
 have hr:(callFunc 286 #[v,v']).run Tryz.prog w=.ok (.value (.int .i64 (cA l l'))) w:=by
  rw[run_callFunc_extern Tryz.func286 (by kernel_rfl) (by kernel_rfl) (by kernel_rfl) (e:=Extern.BytealgCompare.compare) (by kernel_rfl)];have:(Extern.BytealgCompare.compare #[v,v']).run Tryz.prog w=.ok (.int .i64 (cA l l')) w:=by
   change Sem.run Tryz.prog (do pure (goInt (Extern.BytealgCompare.cmp (<- Extern.Bytes.bytesOf v) (<- Extern.Bytes.bytesOf v')))) w=_
   simp only[Sem.run_bind,jI h,jI h',Sem.run_pure,Result.andThen];rw[cmp_eq,iN l l' h.oct h'.oct];rfl
  rw[this]; rfl
 clear h h';generalize cA l l'=x at *;go_enter Tryz.func262,Tryz.ntmps262;go_wp2_with (simp only[hr]);go_ret;exact⟨rfl,rfl⟩
theorem KB:Kd Tryz.prog 40 5 1 1 (.int .u8 0):=⟨by kernel_rfl,by kernel_rfl,rfl,by simp[Value.cells,Value.oneCell'],by decide⟩
theorem kZ(h:w.cell? a=some v)(o:Obj):(w.alloc o).cell? a=some v:=by
 have hlt:a.block < w.heap.size:=by
  unfold World.cell? at h
  cases hh:w.heap[a.block]? with
  | none=>simp[hh] at h
  | some ob=>exact lt_of_block hh
 rw[(aa w o).cell hlt]; exact h
theorem map_u8(l:List Int):∀ v∈l.map (Value.int .u8),v.oneCell'=true:=by
 intro v hv;obtain⟨x,_,rfl⟩:=List.mem_map.1 hv;rfl
theorem bZ(h:By w v l)(hbig:l.length<=1000000000) :
  Calls Tryz.prog 137 #[v] w fun e w'=>∃ v',e=.returned v'/\OB w' (w.heap.size <= ·) v' l/\Below w.heap.size w w':=by
 have ho:=h.oct;obtain⟨ao,c,rfl,h2,h3,h4,h5,h6⟩:=h.ex
 cases ao with
 | none =>
  have hl:l=[]:=List.eq_nil_of_length_eq_zero (by have:=h4 rfl; omega);subst hl;have hnil:=fun(w:World) (a:Option Addr) (n c:Nat)=>Go.Lib.run_eql_slice_nil (P:=Tryz.prog) w 40 _ a n c 0 0 KB.und
  go_enter Tryz.func137,Tryz.ntmps137;go_wp2;go_ret;exact⟨_,rfl,⟨ho,.inl ⟨rfl,rfl⟩⟩,Below.refl _ _⟩
 | some a =>
  have R0:Rw (w.alloc (.cells #[] 5)) 5 1 w.heap.size 0 0 []:=mQ (au w [] _) rfl (by decide)
  have hc0:∀ j u,(l.map (Value.int .u8))[j]? = some u->(w.alloc (.cells #[] 5)).cell? (a.add j)=some u:=fun j u hj=>by
   rcases h6 with rfl | ⟨b,o,e,hlt,hc⟩
   ·simp at hj
   ·cases e;rw[List.getElem?_map] at hj;obtain⟨x,hx,rfl⟩:=Option.map_eq_some_iff.1 hj;exact kZ (by rw[Addr.add_lit]; exact hc j x hx) _
  obtain⟨b',c',W,hr,hb',hR,hC⟩:=cI KB 40 R0 a l.length c (l.map (Value.int .u8)) (by simp) hc0 (map_u8 l) (by omega) (by omega);rw[Nat.zero_add] at hr hR
  have hB:Below w.heap.size w W:=(aa w (.cells #[] 5)).trans (hC.below (fun b hb=>by omega) (aa w _).size)
  have hb2:w.heap.size<=b':=by rcases hb' with e | e; omega; rw[World.size_alloc] at e; omega
  have hF:OB W (w.heap.size <= ·) (.slice (some ⟨b',0,none⟩) l.length c') l:=⟨ho,.inr ⟨b',c',rfl,hb2,hR.to (by simp)⟩⟩
  clear R0 hc0 h6 h hR hC h5 hb';have hnil:=fun(w:World) (a:Option Addr) (n c:Nat)=>Go.Lib.run_eql_slice_nil (P:=Tryz.prog) w 40 _ a n c 0 0 KB.und
  go_enter Tryz.func137,Tryz.ntmps137;go_wp2_with (at_builtin; refine Lib.wpList_append_run _ rfl _ _ _ _ rfl _ _ rfl rfl _ _ hr ?_);go_ret;exact⟨_,rfl,hF,hB⟩
theorem qR{c:Nat}(hn:n<=1000000000)(hx:xs.length=n * 2)(hc:∀ j v,xs[j]? = some v->w.cell? (a.add j)=some v)(h1:∀ v∈xs,v.oneCell'=true) :
  Calls Tryz.prog 147 #[.slice (some a) n c] w fun e w'=>∃ b' c',e=.returned (.slice (some ⟨b',0,none⟩) n c')/\w.heap.size<=b'/\Rw w' 223 2 b' n c' xs/\Below w.heap.size w w':=by
 have R0:Rw (w.alloc (.cells #[] 223)) 223 2 w.heap.size 0 0 []:=mQ (au w [] _) rfl (by decide);obtain⟨b',c',W,hr,hb',hR,hC⟩:=cI KE 220 R0 a n c xs hx (fun j v hj=>kZ (hc j v hj) _) h1 (by omega) (by omega);rw[Nat.zero_add] at hr hR;rw[List.nil_append] at hR
 have hB:Below w.heap.size w W:=(aa w (.cells #[] 223)).trans (hC.below (fun b hb=>by omega) (aa w _).size)
 have hb2:w.heap.size<=b':=by rcases hb' with e | e; omega; rw[World.size_alloc] at e; omega
 clear R0 hc h1 hC hb';have hnil:=fun(w:World) (a:Option Addr) (n c:Nat)=>Go.Lib.run_eql_slice_nil (P:=Tryz.prog) w 220 _ a n c 0 0 KE.und
 go_enter Tryz.func147,Tryz.ntmps147;go_wp2_with (at_builtin; refine Lib.wpList_append_run _ rfl _ _ _ _ rfl _ _ rfl rfl _ _ hr ?_);go_ret;exact⟨b',c',rfl,hb2,hR,hB⟩
theorem growE(h0:0 < n)(hn:n<=1000000000) :
  Calls Tryz.prog 301 #[.slice none 0 0,.int .i64 n] w fun e w'=>∃ b' c',e=.returned (.slice (some ⟨b',0,none⟩) 0 c')/\w.heap.size<=b'/\Rw w' 223 2 b' 0 c' []/\Below w.heap.size w w':=by
 obtain⟨c',W,hr,hR,hB⟩:=lT (w:=w) KE 3 220 jy n h0 (by omega) (by omega)
 have hR0:Rw W 223 2 w.heap.size 0 c' []:=(hR.front (m:=0) (by omega)).to (by simp)
 have hn0:¬ ((n:Int) < 0):=by omega
 have hn1:(0:Int) < n:=by omega
 clear hR;go_enter Tryz.func301,Tryz.ntmps301;go_wp2_with (at_builtin; refine Lib.wpList_append_run _ rfl _ _ _ _ rfl _ _ rfl rfl _ _ hr ?_);go_ret;exact⟨_,c',rfl,Nat.le_refl _,hR0,hB⟩
end
end Pg
end
section
namespace Pg
open Go.RowKit Go.Lib
theorem AA {w:World} {vb b1 n1 c1 b2 n2 c2:Nat} {xs ys:List Value} (hV:Blk w vb [.slice (some ⟨b1,0,none⟩) n1 c1,.slice (some ⟨b2,0,none⟩) n2 c2] 220)
  (R1:Rw w 223 2 b1 n1 c1 xs) (R2:Rw w 223 2 b2 n2 c2 ys) (h0:0 < n1 + n2) (hn1:n1<=1000000) (hn2:n2<=1000000) (h1:∀ v∈xs,v.oneCell'=true) (h2:∀ v∈ys,v.oneCell'=true) :
  Calls Tryz.prog 293 #[.slice (some ⟨vb,0,none⟩) 2 2] w fun e w'=>∃ b' c',e=.returned (.slice (some ⟨b',0,none⟩) (n1 + n2) c')/\w.heap.size<=b'/\Rw w' 223 2 b' (n1 + n2) c' (xs ++ ys)/\Below w.heap.size w w':=by
 have tG:=growE (w:=w) (n:=n1 + n2) h0 (by omega);rw[show ((n1 + n2:Nat):Int)=(n1:Int) + (n2:Int) by omega] at tG;have q0:=hV.cell (i:=0) rfl;have q1:=hV.cell (i:=1) rfl;go_enter Tryz.func293,Tryz.ntmps293;go_wp2;go_loopw [3,11] (fun ts ti wr=>wr=w/\((ti=.int .i64 0/\ts=.int .i64 0)\/(ti=.int .i64 1/\ts=.int .i64 n1)\/(ti=.int .i64 2/\ts=.int .i64 (n1 + n2)))) (fun _ ti _=>2 - (intOf ti).toNat)
 case atStart=>exact⟨rfl,.inl ⟨rfl,rfl⟩⟩
 case round =>
  obtain⟨rfl,⟨rfl,rfl⟩ | ⟨rfl,rfl⟩ | ⟨rfl,rfl⟩⟩:=hrel
  ·have hz:¬ ((n1:Int) < 0):=by omega
   go_wp2;go_roundw
   case rel=>exact⟨trivial,.inr (.inl ⟨rfl,rfl⟩)⟩
   case measure=>simp[intOf]
  ·have hz:¬ ((n1:Int) + (n2:Int) < 0):=by omega
   go_wp2;go_roundw
   case rel=>exact⟨trivial,.inr (.inr ⟨rfl,rfl⟩)⟩
   case measure=>simp[intOf]
  ·rename World=>W0
   go_wp2_with (go_at_call 301; refine tG.mono ?_; rintro e w1 ⟨b,c,rfl,hb,hR,hB⟩);clear tG
   have q0':=(hV.keep hB).cell (i:=0) rfl
   have q1':=(hV.keep hB).cell (i:=1) rfl;have hBB:=hB;clear hB q0 q1;go_loopw [6,27] (fun ts ti wv=>Below W0.heap.size W0 wv/\∃ b c,W0.heap.size<=b/\((ti=.int .i64 0/\ts=.slice (some ⟨b,0,none⟩) 0 c/\Rw wv 223 2 b 0 c [])\/(ti=.int .i64 1/\ts=.slice (some ⟨b,0,none⟩) n1 c/\Rw wv 223 2 b n1 c xs)\/(ti=.int .i64 2/\ts=.slice (some ⟨b,0,none⟩) (n1 + n2) c/\Rw wv 223 2 b (n1 + n2) c (xs ++ ys)))) (fun _ ti _=>2 - (intOf ti).toNat)
   case atStart=>exact⟨hBB,b,c,hb,.inl ⟨rfl,rfl,hR⟩⟩
   case round =>
    clear hR hBB hb q0' q1';obtain⟨hBl,b,c,hb,⟨rfl,rfl,hR⟩ | ⟨rfl,rfl,hR⟩ | ⟨rfl,rfl,hR⟩⟩:=hrel
    ·have q0:=(hV.keep hBl).cell (i:=0) rfl;have S:=R1.keep hBl;obtain⟨b',c',W,hr,hb',hR',hC⟩:=cI KE 220 hR ⟨b1,0,none⟩ n1 c1 xs R1.len (fun j u hj=>by rw[Addr.add_lit,Nat.zero_add]; exact S.cell hj) h1 (by omega) (by omega);rw[Nat.zero_add] at hr hR'
     have hB2:Below W0.heap.size W0 W:=hBl.trans (hC.below (fun x hx=>by omega) hBl.size)
     have hb2:W0.heap.size<=b':=by
      have:=hBl.size;rcases hb' with e | e<;>omega
     clear hC hb' hR S;go_wp2_with (at_builtin; refine Lib.wpList_append_run _ rfl _ _ _ _ rfl _ _ rfl rfl _ _ hr ?_);go_roundw
     case rel=>exact⟨hB2,b',c',hb2,.inr (.inl ⟨rfl,rfl,hR'⟩)⟩
     case measure=>simp[intOf]
    ·have q1:=(hV.keep hBl).cell (i:=1) rfl;have S:=R2.keep hBl;obtain⟨b',c',W,hr,hb',hR',hC⟩:=cI KE 220 hR ⟨b2,0,none⟩ n2 c2 ys R2.len (fun j u hj=>by rw[Addr.add_lit,Nat.zero_add]; exact S.cell hj) h2 (by omega) (by omega)
     have hB2:Below W0.heap.size W0 W:=hBl.trans (hC.below (fun x hx=>by omega) hBl.size)
     have hb2:W0.heap.size<=b':=by
      have:=hBl.size;rcases hb' with e | e<;>omega
     clear hC hb' hR S;go_wp2_with (at_builtin; refine Lib.wpList_append_run _ rfl _ _ _ _ rfl _ _ rfl rfl _ _ hr ?_);go_roundw
     case rel=>exact⟨hB2,b',c',hb2,.inr (.inr ⟨rfl,rfl,hR'⟩)⟩
     case measure=>simp[intOf]
    ·go_wp2;go_ret;exact⟨b,c,rfl,hb,hR,hBl⟩
end Pg
end
section
namespace Pg
section
variable {a b k:List Int}{l:List (List Int)}
theorem ib:∀ (a b:List Int),cA a b = -1\/cA a b=0\/cA a b=1
 | [],[]=>.inr (.inl rfl)
 | [],_ :: _=>.inl rfl
 | _ :: _,[]=>.inr (.inr rfl)
 | x :: a,y :: b=>by
  rw[cA];split
  ·exact .inl rfl
  ·split
   ·exact .inr (.inr rfl)
   ·exact ib a b
theorem gq:∀ (a:List Int),cA a a=0
 | []=>rfl
 | x :: a=>by rw[cA,if_neg (by omega),if_neg (by omega)]; exact gq a
theorem oT:∀ {a b:List Int},cA a b=0->a=b
 | [],[],_=>rfl
 | [],_ :: _,h=>by simp[cA] at h
 | _ :: _,[],h=>by simp[cA] at h
 | x :: a,y :: b,h=>by
  rw[cA] at h;split at h
  ·omega
  ·split at h
   ·omega
   ·rw[oT h,show x=y by omega]
theorem jt:∀ (a b:List Int),cA b a = - cA a b
 | [],[]=>rfl
 | [],_ :: _=>rfl
 | _ :: _,[]=>rfl
 | x :: a,y :: b=>by
  rw[cA,cA];by_cases h1:x < y
  ·rw[if_neg (by omega),if_pos h1,if_pos h1]; rfl
  ·by_cases h2:y < x
   ·rw[if_pos h2,if_neg h1,if_pos h2]
   ·rw[if_neg h2,if_neg h1,if_neg h1,if_neg h2]; exact jt a b
abbrev Lt(a b:List Int):Prop:=cA a b = -1
theorem Lt.trans:∀ {a b c:List Int},Lt a b->Lt b c->Lt a c
 | [],[],_,h,_=>by simp[Lt,cA] at h
 | [],_ :: _,[],_,h=>by simp[Lt,cA] at h
 | [],_ :: _,_ :: _,_,_=>rfl
 | _ :: _,[],_,h,_=>by simp[Lt,cA] at h
 | _ :: _,_ :: _,[],_,h=>by simp[Lt,cA] at h
 | x :: a,y :: b,z :: c,h,h'=>by
  simp only[Lt] at h h' ⊢;rw[cA] at h h' ⊢;by_cases h1:x < z
  ·rw[if_pos h1]
  ·rw[if_neg h1];split at h
   ·split at h'
    ·omega
    ·split at h'
     ·omega
     ·omega
   ·split at h
    ·omega
    ·split at h'
     ·omega
     ·split at h'
      ·omega
      ·rw[if_neg (by omega)]; exact Lt.trans (a:=a) (b:=b) (c:=c) h h'
theorem lt_irrefl(a:List Int):¬ Lt a a:=by simp[Lt,gq]
theorem Lt.not(h:Lt a b):¬ Lt b a:=fun h'=>lt_irrefl a (h.trans h')
theorem mL(a b:List Int):Lt a b\/a=b\/Lt b a:=by
 rcases ib a b with h | h | h
 ·exact .inl h
 ·exact .inr (.inl (oT h))
 ·exact .inr (.inr (by simp only[Lt]; rw[jt,h]))
theorem oL(h:Lt a b):cA a b = -1:=h
theorem zP(h:Lt b a):cA a b=1:=by rw[jt,oL h]; rfl
theorem not_lt:¬ Lt a b<->a=b\/Lt b a:=by
 constructor
 ·intro h;rcases mL a b with k | k | k
  ·exact absurd k h
  ·exact .inl k
  ·exact .inr k
 ·rintro(h | h)
  ·subst h; exact lt_irrefl a
  ·exact h.not
theorem Lt.of_le{c:List Int}(h:Lt a b)(h':¬ Lt c b):Lt a c:=by
 rcases not_lt.1 h' with k | k
 ·subst k; exact h
 ·exact h.trans k
def plc:List (List Int)->List Int->Nat
 | [],_=>0
 | x :: l,k=>if Lt x k then plc l k + 1 else 0
theorem n8:∀ (l:List (List Int)) (k:List Int),plc l k<=l.length
 | [],_=>Nat.le_refl _
 | x :: l,k=>by
  rw[plc];split
  ·have:=n8 l k; simp; omega
  ·simp
theorem rJ:∀ {l:List (List Int)} {k:List Int} {i:Nat},i<=l.length->(∀ j x,j < i->l[j]? = some x->Lt x k)->(∀ x,l[i]? = some x->¬ Lt x k)->plc l k=i
 | [],_,i,h,_,_=>by simp at h; subst h; rfl
 | x :: l,k,0,_,_,h3=>by rw[plc,if_neg (h3 x rfl)]
 | x :: l,k,i + 1,h1,h2,h3=>by
  rw[plc,if_pos (h2 0 x (by omega) rfl),rJ (l:=l) (i:=i) (by simpa using h1) (fun j y hj hy=>h2 (j + 1) y (by omega) (by simpa using hy)) (fun y hy=>h3 y (by simpa using hy))]
theorem wS:∀ {l:List (List Int)} {k:List Int} {j:Nat} {x:List Int},j < plc l k->l[j]? = some x->Lt x k
 | [],_,_,_,h,_=>by simp[plc] at h
 | y :: l,k,j,x,h,hx=>by
  rw[plc] at h;split at h
  ·cases j with
   | zero=>simp at hx; subst hx; assumption
   | succ j=>exact wS (l:=l) (j:=j) (by omega) (by simpa using hx)
  ·omega
theorem wZ:∀ {l:List (List Int)} {k:List Int} {x:List Int},l[plc l k]? = some x->¬ Lt x k
 | [],_,_,h=>by simp at h
 | y :: l,k,x,h=>by
  rw[plc] at h;split at h
  ·exact wZ (l:=l) (by simpa using h)
  ·simp at h; subst h; assumption
def Srt(l:List (List Int)):Prop:=l.Pairwise Lt
theorem Srt.get(h:Srt l){i j:Nat}{x y:List Int}(hij:i < j)(hi:l[i]? = some x)(hj:l[j]? = some y):Lt x y:=by
 obtain⟨h1,rfl⟩:=List.getElem?_eq_some_iff.1 hi;obtain⟨h2,rfl⟩:=List.getElem?_eq_some_iff.1 hj;exact List.pairwise_iff_getElem.1 h i j h1 h2 hij
def thr(l:List (List Int))(k:List Int):Bool:=decide (l[plc l k]? = some k)
theorem yI(h:Srt l):thr l k=true<->k∈l:=by
 simp only[thr,decide_eq_true_eq];constructor
 ·intro e; exact List.mem_of_getElem? e
 ·intro e;obtain⟨j,hj⟩:=List.getElem?_of_mem e;have:plc l k=j:=rJ (by have:=(List.getElem?_eq_some_iff.1 hj).1; omega) (fun i x hi hx=>h.get hi hx hj) (fun x hx=>by rw[hj] at hx; cases hx; exact lt_irrefl k);rw[this]; exact hj
end
end Pg
end
section
namespace Pg
open Go.RowKit Go.Lib
section
variable {w w':World}{D D':Nat->Prop}
structure En where
 kv:Value
 kl:List Int
 vv:Value
 vl:List Int
structure EnA(w:World)(D:Nat->Prop)(e:En):Prop where
 k:OB w D e.kv e.kl
 v:OB w D e.vv e.vl
theorem EnA.keep{e:En}(h:EnA w D e)(hb:Below w.heap.size w w'):EnA w' D e:=⟨h.k.keep hb,h.v.keep hb⟩
theorem EnA.mono{e:En}(h:EnA w D e)(hD:∀ b,b < w.heap.size->D b->D' b):EnA w D' e:=⟨h.k.mono hD,h.v.mono hD⟩
def flat:List En->List Value
 | []=>[]
 | e :: l=>e.kv :: e.vv :: flat l
theorem fQ:∀ (l:List En),(flat l).length=l.length * 2
 | []=>rfl
 | e :: l=>by simp[flat,fQ l]; omega
theorem dr:∀ (a b:List En),flat (a ++ b)=flat a ++ flat b
 | [],b=>rfl
 | e :: a,b=>by simp[flat,dr a b]
theorem oE:∀ {l:List En} {i:Nat} {e:En},l[i]? = some e->(flat l)[i * 2]? = some e.kv
 | [],_,_,h=>by simp at h
 | x :: l,0,e,h=>by simp at h; subst h; rfl
 | x :: l,i + 1,e,h=>by
  rw[show (i + 1) * 2=i * 2 + 1 + 1 by omega,flat,List.getElem?_cons_succ,List.getElem?_cons_succ];exact oE (l:=l) (by simpa using h)
theorem jB:∀ {l:List En} {i:Nat} {e:En},l[i]? = some e->(flat l)[i * 2 + 1]? = some e.vv
 | [],_,_,h=>by simp at h
 | x :: l,0,e,h=>by simp at h; subst h; rfl
 | x :: l,i + 1,e,h=>by
  rw[show (i + 1) * 2 + 1=i * 2 + 1 + 1 + 1 by omega,flat,List.getElem?_cons_succ,List.getElem?_cons_succ];exact jB (l:=l) (by simpa using h)
theorem gH:∀ (l:List En) (i:Nat),(flat l).take (i * 2)=flat (l.take i)
 | [],i=>by simp[flat]
 | x :: l,0=>by simp[flat]
 | x :: l,i + 1=>by
  rw[show (i + 1) * 2=i * 2 + 1 + 1 by omega,flat,List.take_succ_cons,List.take_succ_cons,gH l i,List.take_succ_cons,flat]
theorem gm:∀ (l:List En) (i:Nat),(flat l).drop (i * 2)=flat (l.drop i)
 | [],i=>by simp[flat]
 | x :: l,0=>by simp
 | x :: l,i + 1=>by
  rw[show (i + 1) * 2=i * 2 + 1 + 1 by omega,flat,List.drop_succ_cons,List.drop_succ_cons,gm l i,List.drop_succ_cons]
theorem iC:∀ {l:List En},(∀ e∈l,EnA w D e)->∀ v∈flat l,v.oneCell'=true
 | [],_,v,h=>by simp[flat] at h
 | x :: l,h,v,hv=>by
  have hx:=h x List.mem_cons_self;rcases List.mem_cons.1 hv with rfl | hv
  ·exact hx.k.one
  ·rcases List.mem_cons.1 hv with rfl | hv
   ·exact hx.v.one
   ·exact iC (l:=l) (fun e he=>h e (List.mem_cons_of_mem _ he)) v hv
theorem lp:∀ {l:List En} {i:Nat} {e:En} (u:Value) (ul:List Int),l[i]? = some e->(flat l).set (i * 2 + 1) u=flat (l.set i { e with vv:=u,vl:=ul })
 | [],_,_,_,_,h=>by simp at h
 | x :: l,0,e,u,ul,h=>by simp at h; subst h; simp[flat]
 | x :: l,i + 1,e,u,ul,h=>by
  rw[show (i + 1) * 2 + 1=i * 2 + 1 + 1 + 1 by omega,flat,List.set_cons_succ,List.set_cons_succ,lp (l:=l) u ul (by simpa using h),List.set_cons_succ,flat]
def kys(l:List En):List (List Int):=l.map En.kl
structure Pg where
 b:Nat
 c:Nat
 es:List En
def Pg.v(p:Pg):Value:=.slice (some ⟨p.b,0,none⟩) p.es.length p.c
structure PgA(w:World)(D:Nat->Prop)(p:Pg):Prop where
 row:Rw w 223 2 p.b p.es.length p.c (flat p.es)
 cQ:∀ e∈p.es,EnA w D e
theorem PgA.keep{p:Pg}(h:PgA w D p)(hb:Below w.heap.size w w'):PgA w' D p:=⟨h.row.keep hb,fun e he=>(h.cQ e he).keep hb⟩
theorem PgA.one{p:Pg}(h:PgA w D p):∀ v∈flat p.es,v.oneCell'=true:=iC h.cQ
theorem cmpE{kv vv v:Value}{l l':List Int}(h:By w kv l)(h':By w v l') :
  Calls Tryz.prog 264 #[.agg #[kv,vv],v] w fun e w'=>e=.returned (.int .i64 (cA l l'))/\Below w.heap.size w w':=by
 have hb:=aa w (.cells #[kv,vv] 223);have tC:=jL (h.keep hb) (h'.keep hb);have B:=au w [kv,vv] 223;have q0:=B.cell (i:=0) rfl;clear h h' B;generalize cA l l'=x at *;go_enter Tryz.func264,Tryz.ntmps264;go_wp2_with (go_at_call 262; refine tC.mono ?_; rintro e w1 ⟨rfl,rfl⟩);go_ret;exact⟨rfl,hb⟩
end
end Pg
end
section
namespace Pg
open Go.RowKit Go.Lib
section
variable {w:World}{D:Nat->Prop}{p:Pg}{v:Value}{k:List Int}
theorem bsE(A:PgA w D p)(S:Srt (kys p.es))(h:By w v k)(hn:p.es.length<=1000000) :
  Calls Tryz.prog 263 #[p.v,v,.func (.func 264) #[] #[]] w fun e w'=>e=.returned (.tuple #[.int .i64 (plc (kys p.es) k),.bool (thr (kys p.es) k)])/\Below w.heap.size w w':=by
 obtain⟨b,c,es⟩:=p;simp only[Pg.v] at *;have hcm:=A.row.le;simp only[maxLen] at hcm;have hcm1:=hcm.1;have hcm2:=hcm.2;obtain⟨n,hnn⟩:∃ n,es.length=n:=⟨_,rfl⟩
 rw[hnn] at hn hcm1 ⊢;go_enter Tryz.func263,Tryz.ntmps263;go_wp2;go_loopw [9,10] (fun ti tj wr=>∃ i j:Nat,ti=.int .i64 i/\tj=.int .i64 j/\i<=j/\j<=n/\Hid (∀ q x,q < i->(kys es)[q]? = some x->Lt x k)/\Hid (∀ q x,j<=q->(kys es)[q]? = some x->¬ Lt x k)/\Below w.heap.size w wr) (fun ti tj _=>(intOf tj).toNat - (intOf ti).toNat)
 case atStart=>exact⟨0,n,rfl,rfl,Nat.zero_le _,Nat.le_refl _,fun q x hq=>by omega,fun q x hq hx=>by
  have:=(List.getElem?_eq_some_iff.1 hx).1;simp[kys] at this;omega,Below.refl _ _⟩
 case round =>
  obtain⟨i,j,rfl,rfl,hij,hjn,H1,H2,hB⟩:=hrel;by_cases hlt:i < j
  ·obtain⟨m,hm⟩:∃ m,m=(i + j) / 2:=⟨_,rfl⟩
   have hm1:i<=m:=by omega
   have hm2:m < j:=by omega
   obtain⟨e,he⟩:∃ e,es[m]? = some e:=⟨es[m],List.getElem?_eq_getElem (by omega)⟩
   have A':=A.keep hB;have q0:=A'.row.cell (oE he);have q1:=A'.row.cell (jB he)
   have hw0:IntKind.i64.wrap ((i:Int) + (j:Int))=(i:Int) + (j:Int):=by rw[IntKind.wrap_i64]; omega
   have hm0:((i:Int) + (j:Int)) / 2 < n:=by omega
   have hm3:(0:Int)<=((i:Int) + (j:Int)) / 2:=by omega
   have hwm:IntKind.i64.wrap (((i:Int) + (j:Int)) / 2)=((i:Int) + (j:Int)) / 2:=by rw[IntKind.wrap_i64]; omega
   have tC:=cmpE (vv:=e.vv) ((A'.cQ e (List.mem_of_getElem? he)).k.by) (h.keep hB)
   have hk:(kys es)[m]? = some e.kl:=by simp[kys,he]
   rw[hm] at q0 q1
   have HM:Hid (m=(i + j) / 2):=hm;clear A' hm;by_cases hc:Lt e.kl k
   ·rw[oL hc] at tC;go_wp2_with (go_at_call 264; refine tC.mono ?_; rintro e' w1 ⟨rfl,hB1⟩);go_roundw
    case rel=>exact⟨m + 1,j,by have:=HM.out; congr 1; omega,rfl,by omega,hjn,fun q x hq hx=>by
     by_cases hqm:q=m
     ·subst hqm; rw[hk] at hx; cases hx; exact hc
     ·exact S.get (by omega) hx hk |>.trans hc,H2.out,ai hB hB1⟩
    case measure=>have:=HM.out; simp[intOf]; omega
   ·have hx0:¬ (cA e.kl k < 0):=by
     rcases ib e.kl k with q | q | q
     ·exact absurd q hc
     ·rw[q]; decide
     ·rw[q]; decide
    generalize cA e.kl k=x at tC hx0;go_wp2_with (go_at_call 264; refine tC.mono ?_; rintro e' w1 ⟨rfl,hB1⟩);go_roundw
    case rel=>exact⟨i,m,rfl,by have:=HM.out; congr 1; omega,by omega,by omega,H1.out,fun q x hq hx=>by
     by_cases hqm:q=m
     ·subst hqm; rw[hk] at hx; cases hx; exact hc
     ·intro hxk;exact hc ((S.get (by omega) hk hx).trans hxk),ai hB hB1⟩
    case measure=>have:=HM.out; simp[intOf]; omega
  ·have hie:i=j:=by omega
   subst hie
   have hp:Hid (plc (kys es) k=i):=rJ (by simp[kys]; omega) (fun q x hq hx=>H1.out q x hq hx) (fun x hx=>H2.out i x (Nat.le_refl _) hx)
   have A':=A.keep hB;by_cases hin:i < n
   ·obtain⟨e,he⟩:∃ e,es[i]? = some e:=⟨es[i],List.getElem?_eq_getElem (by omega)⟩
    have q0:=A'.row.cell (oE he);have q1:=A'.row.cell (jB he)
    have hk:(kys es)[i]? = some e.kl:=by simp[kys,he]
    have tC:=cmpE (vv:=e.vv) ((A'.cQ e (List.mem_of_getElem? he)).k.by) (h.keep hB)
    have hT:Hid (thr (kys es) k=(cA e.kl k == 0)):=by
     show _=_
     unfold thr;rw[hp.out,hk];by_cases q:e.kl=k
     ·subst q; simp[gq]
     ·have:cA e.kl k≠0:=fun z=>q (oT z)
      simp[q,this]
    have hin0:(i:Int) < n:=by omega
    generalize cA e.kl k=x at tC hT;clear A';go_wp2_with (go_at_call 264; refine tC.mono ?_; rintro e' w1 ⟨rfl,hB1⟩)
    all_goals (
     go_ret2;refine⟨?_,ai hB hB1⟩;rw[hT.out,hp.out];rfl)
   ·have hT:Hid (thr (kys es) k=false):=by
     show _=_
     unfold thr;rw[hp.out,List.getElem?_eq_none (by simp[kys]; omega)];rfl
    have hin0:¬ ((i:Int) < n):=by omega
    go_wp2;go_ret2;refine⟨?_,hB⟩;rw[hT.out,hp.out];rfl
theorem gj(A:PgA w D p)(S:Srt (kys p.es))(h:By w v k)(hn:p.es.length<=1000000) :
  Calls Tryz.prog 217 #[p.v,v] w fun e w'=>e=.returned (.tuple #[.int .i64 (plc (kys p.es) k),.bool (thr (kys p.es) k)])/\Below w.heap.size w w':=by
 have t:=bsE A S h hn;generalize plc (kys p.es) k=x at *;generalize thr (kys p.es) k=y at *;simp only[Pg.v] at *;clear A S h;go_enter Tryz.func217,Tryz.ntmps217;go_wp2_with (go_at_call 263; refine t.mono ?_; rintro e' w1 ⟨rfl,hB1⟩);go_ret2;exact⟨rfl,hB1⟩
end
end Pg
end
section
namespace Pg
open Go.RowKit Go.Lib
section
variable {w w':World}{F D:Nat->Prop}{g b:Nat}{L:List Pg}{P:List (List En)}{es:List En}
structure bj(w:World)(F D:Nat->Prop)(g:Nat)(L:List Pg):Prop where
 top:∃ pv,Blk w g [pv] 172/\F g/\((pv=.slice none 0 0/\L=[])\/∃ G C,pv=.slice (some ⟨G,0,none⟩) L.length C/\F G/\Rw w 220 1 G L.length C (L.map Pg.v))
 br:∀ p∈L,PgA w D p/\F p.b
 apart:(L.map Pg.b).Nodup
 kind:∀ b,F b->∃ cs t,Blk w b cs t/\t≠5
theorem bj.lt(h:bj w F D g L)(hb:F b):b < w.heap.size:=by
 obtain⟨cs,t,h,_⟩:=h.kind b hb;exact h.lt
theorem bj.same(h:bj w F D g L)(h1:∀ b,F b->w'.heap[b]? = w.heap[b]?)(h2:∀ b,b < w.heap.size->D b->(∃ cs,Blk w b cs 5)->w'.heap[b]? = w.heap[b]?):bj w' F D g L:=by
 obtain⟨pv,hb,hg,hp⟩:=h.top
 have hob:∀ {v:Value} {l:List Int},OB w D v l->OB w' D v l:=fun h=>⟨h.oct,h.ex.imp id (by
  rintro⟨b,c,e,hd,hR⟩;exact⟨b,c,e,hd,hR.same (h2 b hR.lt hd hR.kind)⟩)⟩
 refine⟨⟨pv,hb.same (h1 g hg),hg,hp.imp id ?_⟩,fun p hp => ?_,h.apart,fun b hb => ?_⟩
 ·rintro⟨G,C,e,hG,hR⟩;exact⟨G,C,e,hG,hR.same (h1 G hG)⟩
 ·obtain⟨hA,hF⟩:=h.br p hp;exact⟨⟨hA.row.same (h1 _ hF),fun e he=>⟨hob (hA.cQ e he).k,hob (hA.cQ e he).v⟩⟩,hF⟩
 ·obtain⟨cs,t,hk,ht⟩:=h.kind b hb;exact⟨cs,t,hk.same (h1 b hb),ht⟩
theorem bj.keep(h:bj w F D g L)(hb:Below w.heap.size w w'):bj w' F D g L:=h.same (fun b hF=>hb.block b (h.lt hF)) (fun b hl _ _=>hb.block b hl)
theorem bj.drew(h:bj w F D g L):bj w.drew F D g L:=h.same (fun _ _=>rfl) (fun _ _ _ _=>rfl)
theorem bj.chg{F':Nat->Prop}(h:bj w F D g L)(hc:Chg F' w w')(h1:∀ b,F' b->¬ F b)(h2:∀ b,F' b->∀ cs,¬ Blk w b cs 5):bj w' F D g L :=
 h.same (fun b hF=>hc.same b (h.lt hF) fun f=>h1 b f hF) (fun b hl _ hk=>hc.same b hl fun f=>by obtain⟨cs,k⟩:=hk; exact h2 b f cs k)
theorem bj.noU(h:bj w F D g L)(hb:F b)(cs:List Value):¬ Blk w b cs 5:=fun k=>by
 obtain⟨cs',t,hk,ht⟩:=h.kind b hb;exact ht (hk.eq k).2
theorem bj.mono{D':Nat->Prop}(h:bj w F D g L)(hD:∀ b,b < w.heap.size->D b->D' b):bj w F D' g L :=
 ⟨h.top,fun p hp=>⟨⟨(h.br p hp).1.row,fun e he=>((h.br p hp).1.cQ e he).mono hD⟩,(h.br p hp).2⟩,h.apart,h.kind⟩
def ens(L:List Pg):List (List En):=L.map Pg.es
def fks(P:List (List En)):List (List Int):=P.map fun es=>(kys es).headD []
def plq:List (List Int)->List Int->Nat
 | [],_=>0
 | x :: l,k=>if Lt k x then 0 else plq l k + 1
theorem nY:∀ (l:List (List Int)) (k:List Int),plq l k<=l.length
 | [],_=>Nat.le_refl _
 | x :: l,k=>by
  rw[plq];split
  ·simp
  ·have:=nY l k; simp; omega
theorem wq:∀ {l:List (List Int)} {k:List Int} {i:Nat},i<=l.length->(∀ j x,j < i->l[j]? = some x->¬ Lt k x)->(∀ x,l[i]? = some x->Lt k x)->plq l k=i
 | [],_,i,h,_,_=>by simp at h; subst h; rfl
 | x :: l,k,0,_,_,h3=>by rw[plq,if_pos (h3 x rfl)]
 | x :: l,k,i + 1,h1,h2,h3=>by
  rw[plq,if_neg (h2 0 x (by omega) rfl),wq (l:=l) (i:=i) (by simpa using h1) (fun j y hj hy=>h2 (j + 1) y (by omega) (by simpa using hy)) (fun y hy=>h3 y (by simpa using hy))]
theorem yt:∀ {l:List (List Int)} {k:List Int} {j:Nat} {x:List Int},j < plq l k->l[j]? = some x->¬ Lt k x
 | [],_,_,_,h,_=>by simp[plq] at h
 | y :: l,k,j,x,h,hx=>by
  rw[plq] at h;split at h
  ·omega
  ·cases j with
   | zero=>simp at hx; subst hx; assumption
   | succ j=>exact yt (l:=l) (j:=j) (by omega) (by simpa using hx)
theorem vf:∀ {l:List (List Int)} {k:List Int} {x:List Int},l[plq l k]? = some x->Lt k x
 | [],_,_,h=>by simp at h
 | y :: l,k,x,h=>by
  rw[plq] at h;split at h
  ·simp at h; subst h; assumption
  ·exact vf (l:=l) (by simpa using h)
def pgi(P:List (List En))(k:List Int):Nat:=plq (fks P) k - 1
structure Ord(P:List (List En)):Prop where
 full:∀ es∈P,es≠[]
 cF:Srt (kys P.flatten)
theorem Ord.page(h:Ord P){i:Nat}(hi:P[i]? = some es):Srt (kys es):=by
 have hm:=List.mem_of_getElem? hi;have:(kys es).Sublist (kys P.flatten):=(List.sublist_flatten_of_mem hm).map _;exact h.cF.sublist this
theorem jd(h:es≠[]):∃ e l,es=e :: l/\(kys es).headD []=e.kl:=by
 cases es with
 | nil=>exact absurd rfl h
 | cons e l=>exact⟨e,l,rfl,rfl⟩
theorem Ord.yD:∀ {P:List (List En)},Ord P->Srt (fks P)
 | [],_=>List.Pairwise.nil
 | es :: P,h=>by
  have h2:Ord P:=⟨fun x hx=>h.full x (List.mem_cons_of_mem _ hx),by
   have:=h.cF;simp only[Srt,kys,List.flatten_cons,List.map_append,List.pairwise_append] at this;exact this.2.1⟩
  refine List.Pairwise.cons (fun x hx => ?_) (Ord.yD h2);obtain⟨fs,hfs,rfl⟩:=List.mem_map.1 hx;obtain⟨e,l,rfl,he⟩:=jd (h.full es List.mem_cons_self);obtain⟨f,m,rfl,hf⟩:=jd (h2.full fs hfs)
  show Lt e.kl f.kl
  have:=h.cF;simp only[Srt,kys,List.flatten_cons,List.map_append,List.pairwise_append] at this;exact this.2.2 e.kl (by simp) f.kl (List.mem_map.2 ⟨f,List.mem_flatten.2 ⟨_,hfs,List.mem_cons_self⟩,rfl⟩)
end
end Pg
end
section
namespace Pg
open Go.RowKit Go.Lib
section
variable {L:List Pg}{i g:Nat}{p:Pg}{w:World}{F D:Nat->Prop}{v:Value}{k:List Int}{P:List (List En)}
theorem ke(h:L[i]? = some p):(ens L)[i]? = some p.es:=by simp[ens,h]
theorem zh(h:L[i]? = some p):(fks (ens L))[i]? = some ((kys p.es).headD []):=by simp[ens,fks,h]
theorem bj.head(A:bj w F D g L)(O:Ord (ens L))(h:L[i]? = some p):∃ kv,w.cell? ⟨p.b,0,none⟩=some kv/\By w kv ((kys p.es).headD []):=by
 have hp:=List.mem_of_getElem? h
 have hm:p.es∈ens L:=List.mem_map.2 ⟨p,hp,rfl⟩;obtain⟨e,l,he,hk⟩:=jd (O.full _ hm);obtain⟨hA,_⟩:=A.br p hp;have q:=hA.row.cell (i:=0) (v:=e.kv) (by rw[he]; rfl);exact⟨e.kv,q,by rw[hk]; exact(hA.cQ e (by rw[he]; exact List.mem_cons_self)).k.by⟩
theorem bj.rd(A:bj w F D g L):∃ ao c,w.cell? ⟨g,0,none⟩=some (.slice ao L.length c)/\L.length<=c/\c<=9223372036854775807/\(∀ i p,L[i]? = some p->∃ G,ao=some ⟨G,0,none⟩/\w.cell? ⟨G,i,none⟩=some p.v):=by
 obtain⟨pv,hb,hg,⟨rfl,rfl⟩ | ⟨G,C,rfl,hG,hR⟩⟩:=A.top
 ·exact⟨_,_,hb.cell (i:=0) rfl,by decide,by decide,fun i p h=>by simp at h⟩
 ·have hl:=hR.le;simp only[maxLen] at hl;exact⟨_,C,hb.cell (i:=0) rfl,by omega,by omega,fun i p h=>⟨G,rfl,hR.cell (by simp[h])⟩⟩
theorem ie(A:bj w F D g L)(O:Ord (ens L))(h:By w v k)(hn:L.length<=1000000000) :
  Calls Tryz.prog 216 #[.pointer (some ⟨g,0,none⟩),v] w fun e w'=>e=.returned (.int .i64 (pgi (ens L) k))/\Below w.heap.size w w':=by
 obtain⟨ao,c,hc,hc1,hc2,hat⟩:=A.rd;have hHs:=O.yD;obtain⟨ks,hks⟩:∃ ks,Hid (fks (ens L)=ks):=⟨_,rfl⟩
 rw[hks.out] at hHs;obtain⟨n,hnn⟩:∃ n,Hid (L.length=n):=⟨_,rfl⟩
 rw[hnn.out] at hc hc1 hn
 have hkl:ks.length=n:=by rw[<- hks.out,<- hnn.out]; simp[fks,ens]
 have hbe:Below w.heap.size w w.drew:=⟨rfl,rfl,rfl,Nat.le_refl _,fun _ _=>rfl⟩
 have hcd:w.drew.cell? ⟨g,0,none⟩=some (.slice ao n c):=hc
 have hfin:∀ (i:Nat),i<=n->(∀ q x,q < i->ks[q]? = some x->¬ Lt k x)->(∀ q x,i<=q->ks[q]? = some x->Lt k x)->pgi (ens L) k=i - 1:=fun i hi h1 h2=>by
  unfold pgi;rw[hks.out,wq (i:=i) (by omega) (fun j x hj hx=>h1 j x hj hx) (fun x hx=>h2 i x (Nat.le_refl _) hx)]
 have hfin:Hid _:=hfin;have mixed:=mixed;go_enter Tryz.func216,Tryz.ntmps216;go_wp2;go_step3;go_wp2;go_region;go_wp2;go_step3;go_wp2;go_loopw [5,6] (fun ti tj wr=>∃ i j:Nat,ti=.int .i64 i/\tj=.int .i64 j/\i<=j/\j<=n/\Hid (∀ q x,q < i->ks[q]? = some x->¬ Lt k x)/\Hid (∀ q x,j<=q->ks[q]? = some x->Lt k x)/\Below w.heap.size w wr) (fun ti tj _=>(intOf tj).toNat - (intOf ti).toNat)
 case atStart=>exact⟨0,n,rfl,rfl,Nat.zero_le _,Nat.le_refl _,fun q x hq=>by omega,fun q x hq hx=>by
  have:=(List.getElem?_eq_some_iff.1 hx).1;omega,hbe⟩
 case round =>
  obtain⟨i,j,rfl,rfl,hij,hjn,H1,H2,hB⟩:=hrel;by_cases hlt:i < j
  ·obtain⟨m,hm⟩:∃ m,m=i + (j - i) / 2:=⟨_,rfl⟩
   have hm1:i<=m:=by omega
   have hm2:m < j:=by omega
   obtain⟨p,hp⟩:∃ p,L[m]? = some p:=⟨L[m]'(by have:=hnn.out; omega),List.getElem?_eq_getElem _⟩
   have A':=A.keep hB
   have c0:wr.cell? ⟨g,0,none⟩=some (.slice ao n c):=by
    rw[hB.cell (p:=⟨g,0,none⟩) (by obtain⟨_,hb,_⟩:=A.top; exact hb.lt)]; exact hc
   obtain⟨G,rfl,cG⟩:=hat m p hp
   have cG':wr.cell? ⟨G,m,none⟩=some p.v:=by
    rw[hB.cell (p:=⟨G,m,none⟩) (aA cG)]; exact cG
   obtain⟨kv,cK,bK⟩:=A'.head O hp
   have hkm:ks[m]? = some ((kys p.es).headD []):=by rw[<- hks.out]; exact zh hp
   have hpe:0 < p.es.length:=by
    have:=O.full p.es (List.mem_map.2 ⟨p,List.mem_of_getElem? hp,rfl⟩);exact List.length_pos_iff.2 this
   simp only[Pg.v] at cG';rw[hm] at cG';have tC:=jL bK (h.keep hB);generalize (kys p.es).headD []=kp at *
   have HM:Hid (m=i + (j - i) / 2):=hm
   have hz0:(0:Int)<=(i:Int) + ((j:Int) - (i:Int)) / 2:=by omega
   have hz1:(i:Int) + ((j:Int) - (i:Int)) / 2 < n:=by omega
   have hz2:((i:Int) + ((j:Int) - (i:Int)) / 2).toNat=i + (j - i) / 2:=by omega
   generalize p.es.length=pn at *;clear A' hm bK;rcases mL kp k with hc | hc | hc
   ·rw[oL hc] at tC;go_wp2_with (go_at_call 262; refine tC.mono ?_; rintro e' w1 ⟨rfl,rfl⟩);go_roundw
    case rel=>exact⟨m + 1,j,by have:=HM.out; congr 1; omega,rfl,by omega,hjn,fun q x hq hx=>by
     by_cases hqm:q=m
     ·subst hqm; rw[hkm] at hx; cases hx; exact hc.not
     ·exact((hHs.get (by omega) hx hkm).trans hc).not,H2.out,hB⟩
    case measure=>have:=HM.out; simp[intOf]; omega
   ·have hF:=hfin.out (m + 1) (by omega) (fun q x hq hx=>by
     subst hc;by_cases hqm:q=m
     ·subst hqm; rw[hkm] at hx; cases hx; exact lt_irrefl _
     ·exact(hHs.get (by omega) hx hkm).not) (fun q x hq hx=>by subst hc; exact hHs.get (by omega) hkm hx)
    have HF:Hid (pgi (ens L) k=m):=by show _=_; rw[hF]; omega
    have HC:Hid (kp=k):=hc;rw[hc,gq] at tC
    have hx0:(i:Int) + ((j:Int) - (i:Int)) / 2 + 1 - 1=(i:Int) + ((j:Int) - (i:Int)) / 2:=by omega
    have hx1:¬ ((i:Int) + ((j:Int) - (i:Int)) / 2 < 0):=by omega
    clear hF hc;go_wp2_with (go_at_call 262; refine tC.mono ?_; rintro e' w1 ⟨rfl,rfl⟩);simp only[Exit.noGoto_ret];go_ret;refine⟨?_,hB⟩;rw[HF.out];have:=HM.out
    show Ending.returned (Value.int .i64 ((i:Int) + ((j:Int) - (i:Int)) / 2))=_
    rw[show (i:Int) + ((j:Int) - (i:Int)) / 2=(m:Int) by omega]
   ·rw[zP hc] at tC;go_wp2_with (go_at_call 262; refine tC.mono ?_; rintro e' w1 ⟨rfl,rfl⟩);go_roundw
    case rel=>exact⟨i,m,rfl,by have:=HM.out; congr 1; omega,by omega,by omega,H1.out,fun q x hq hx=>by
     by_cases hqm:q=m
     ·subst hqm; rw[hkm] at hx; cases hx; exact hc
     ·exact hc.trans (hHs.get (by omega) hkm hx),hB⟩
    case measure=>have:=HM.out; simp[intOf]; omega
  ·have hie:i=j:=by omega
   subst hie
   have HF:Hid (pgi (ens L) k=i - 1):=hfin.out i (by omega) H1.out H2.out;by_cases hi0:i=0
   ·subst hi0;go_wp2
    try simp only[Exit.noGoto_ret]
    go_ret;refine⟨?_,hB⟩;rw[HF.out];rfl
   ·have hx1:¬ ((i:Int) - 1 < 0):=by omega
    have hx2:(0:Int)<=(i:Int) - 1:=by omega
    go_wp2
    try simp only[Exit.noGoto_ret]
    go_ret;refine⟨?_,hB⟩;rw[HF.out]
    show Ending.returned (Value.int .i64 ((i:Int) - 1))=_
    rw[show (i:Int) - 1=((i - 1:Nat):Int) by omega]
theorem pgi_lt(h:P≠[])(k:List Int):pgi P k < P.length:=by
 have h1:=nY (fks P) k
 have h2:0 < P.length:=List.length_pos_iff.2 h;simp only[fks,List.length_map] at h1;unfold pgi fks;omega
theorem lB(A:bj w F D g []) :
  Calls Tryz.prog 157 #[.pointer (some ⟨g,0,none⟩),v] w fun e w'=>e=.returned (.tuple #[.int .i64 0,.int .i64 0,.bool false])/\w'=w:=by
 obtain⟨ao,c,hc,hc1,hc2,hat⟩:=A.rd;simp only[List.length_nil] at hc;clear A hat;go_enter Tryz.func157,Tryz.ntmps157;go_wp2;go_ret3;exact⟨rfl,rfl⟩
theorem jW(A:bj w F D g L)(O:Ord (ens L))(h:By w v k)(hn:L.length<=1000000000)(hp:L[pgi (ens L) k]? = some p)(hs:p.es.length<=1000000) :
  Calls Tryz.prog 157 #[.pointer (some ⟨g,0,none⟩),v] w fun e w'=>e=.returned (.tuple #[.int .i64 (pgi (ens L) k),.int .i64 (plc (kys p.es) k),.bool (thr (kys p.es) k)])/\Below w.heap.size w w':=by
 have tP:=ie A O h hn;have hlt:=(List.getElem?_eq_some_iff.1 hp).1;have hpm:=List.mem_of_getElem? hp
 have tF:∀ w',Below w.heap.size w w'->Calls Tryz.prog 217 #[p.v,v] w' fun e w''=>e=.returned (.tuple #[.int .i64 (plc (kys p.es) k),.bool (thr (kys p.es) k)])/\Below w'.heap.size w' w'':=fun w' hb =>
  gj ((A.br p hpm).1.keep hb) (O.page (ke hp)) (h.keep hb) hs
 obtain⟨ao,c,hc,hc1,hc2,hat⟩:=A.rd;obtain⟨G,rfl,cG⟩:=hat _ p hp;have hgl:=aA hc;have hGl:=aA cG;generalize pgi (ens L) k=i at *;generalize plc (kys p.es) k=x at *;generalize thr (kys p.es) k=y at *;obtain⟨n,hnn⟩:∃ n,L.length=n:=⟨_,rfl⟩
 rw[hnn] at hc hc1 hlt
 have hz0:¬ ((n:Int)=0):=by omega
 have hz1:(i:Int) < n:=by omega
 simp only[Pg.v] at *;clear A O h hat hp hpm;go_enter Tryz.func157,Tryz.ntmps157;go_wp2_with (first | (go_at_call 216; refine tP.mono ?_; rintro e' w1 ⟨rfl,hB1⟩; have c1:w1.cell? ⟨g,0,none⟩=some (.slice (some ⟨G,0,none⟩) n c):=(hB1.cell (p:=⟨g,0,none⟩) hgl).trans hc; have c2:w1.cell? ⟨G,i,none⟩=some (.slice (some ⟨p.b,0,none⟩) p.es.length p.c):=(hB1.cell (p:=⟨G,i,none⟩) hGl).trans cG; have tF1:=tF w1 hB1; clear tP tF) | (go_at_call 217; refine tF1.mono ?_; rintro e' w2 ⟨rfl,hB2⟩));go_ret3;exact⟨rfl,ai hB1 hB2⟩
end
end Pg
end
section
namespace Pg
open Go.RowKit Go.Lib
section
variable {w w1:World}{F D:Nat->Prop}{g G n c i j:Nat}{L L':List Pg}{cs ds xs:List Value}{p q:Pg}{c0:Value}
theorem bj.opn(A:bj w F D g L)(h:L≠[]):∃ G C,Blk w g [.slice (some ⟨G,0,none⟩) L.length C] 172/\F g/\F G/\Rw w 220 1 G L.length C (L.map Pg.v):=by
 obtain⟨pv,hb,hg,⟨rfl,rfl⟩ | ⟨G,C,rfl,hG,hR⟩⟩:=A.top
 ·exact absurd rfl h
 ·exact⟨G,C,hb,hg,hG,hR⟩
theorem dB{a b:Nat}{t u:TypeId}(h:Blk w a cs t)(h':Blk w b ds u)(ht:t≠u):a≠b:=fun e=>by subst e; exact ht (h.eq h').2
theorem PgA.et(h:PgA w D p)(hg:Blk w g cs 172):p.b≠g:=by
 obtain⟨ds,k⟩:=h.row.kind;exact dB k hg (by decide)
theorem PgA.ep(h:PgA w D p)(hG:Rw w 220 1 G n c xs):p.b≠G:=by
 obtain⟨ds,k⟩:=h.row.kind;obtain⟨es,k'⟩:=hG.kind;exact dB k k' (by decide)
theorem Rw.et(hG:Rw w 220 1 G n c xs)(hg:Blk w g cs 172):G≠g:=by
 obtain⟨es,k'⟩:=hG.kind;exact dB k' hg (by decide)
theorem lQ(h:(L.map Pg.b).Nodup)(hi:L[i]? = some p)(hj:L[j]? = some q)(hij:i < j):p.b≠q.b:=by
 obtain⟨l1,e1⟩:=List.getElem?_eq_some_iff.1 hi;obtain⟨l2,e2⟩:=List.getElem?_eq_some_iff.1 hj;have:=List.pairwise_iff_getElem.1 h i j (by simpa using l1) (by simpa using l2) hij;simpa[e1,e2] using this
theorem qo(h:(L.map Pg.b).Nodup)(hi:L[i]? = some p)(hj:L[j]? = some q)(hij:i≠j):p.b≠q.b:=by
 rcases Nat.lt_or_gt_of_ne hij with k | k
 ·exact lQ h hi hj k
 ·exact(lQ h hj hi k).symm
theorem wQ(h:∀ (i j:Nat) (p q:Pg),L[i]? = some p->L[j]? = some q->i < j->p.b≠q.b):(L.map Pg.b).Nodup:=by
 refine List.pairwise_iff_getElem.2 fun i j h1 h2 hij => ?_
 have l1:i < L.length:=by simpa using h1
 have l2:j < L.length:=by simpa using h2
 simpa using h i j _ _ (List.getElem?_eq_getElem l1) (List.getElem?_eq_getElem l2) hij
theorem EnA.off{w':World}{e:En}(h:EnA w D e)(h2:∀ b,b < w.heap.size->(∃ cs,Blk w b cs 5)->w'.heap[b]? = w.heap[b]?):EnA w' D e:=by
 have hob:∀ {v:Value} {l:List Int},OB w D v l->OB w' D v l:=fun h=>⟨h.oct,h.ex.imp id (by
  rintro⟨b,c,e,hd,hR⟩;exact⟨b,c,e,hd,hR.same (h2 b hR.lt hR.kind)⟩)⟩
 exact⟨hob h.k,hob h.v⟩
theorem bj.put{D':Nat->Prop}{C:Nat}{p':Pg}(A:bj w F D g L)(hg:Blk w g [.slice (some ⟨G,0,none⟩) L.length C] 172)(hFg:F g)(hFG:F G)(hR:Rw w 220 1 G L.length C (L.map Pg.v))(hi:L[i]? = some p)(hC:Chg (· = p.b) w w1)(hb:p'.b=p.b\/w.heap.size<=p'.b)(hA:PgA w1 D' p')(hD:∀ b,b < w.heap.size->D b->D' b) :
  bj (w1.setCell ⟨G,i,none⟩ p'.v) (fun x=>(F x/\x≠p.b)\/x=p'.b) D' g (L.set i p')/\Chg F w (w1.setCell ⟨G,i,none⟩ p'.v):=by
 have hil:=(List.getElem?_eq_some_iff.1 hi).1;have hp:=A.br p (List.mem_of_getElem? hi);have n1:=hp.1.et hg;have n2:=hp.1.ep hR;have n3:=hR.et hg
 have hg1:Blk w1 g _ _:=hg.chg hC (fun e=>n1 e.symm);have hR1:=hR.chg hC (fun e=>n2 e.symm);have hR2:=hR1.set i (by simpa using hil) p'.v
 have n4:p'.b≠G:=hA.ep hR1
 have hC2:Chg F w (w1.setCell ⟨G,i,none⟩ p'.v):=(hC.mono (F':=F) (fun b _ e=>by subst e; exact hp.2)).cell (.inl hFG) _
 have hu8:∀ b,b < w.heap.size->(∃ cs,Blk w b cs 5)->(w1.setCell ⟨G,i,none⟩ p'.v).heap[b]? = w.heap[b]? := fun b hb hk=>by
  obtain⟨cs,k⟩:=hk;exact hC2.same b hb fun f=>A.noU f cs k
 have hset:∀ b,b≠G->(w1.setCell ⟨G,i,none⟩ p'.v).heap[b]? = w1.heap[b]? := fun b hb=>Below.heap_setCell w1 _ _ b hb
 refine⟨⟨⟨_,hg1.off (fun e=>n3 e.symm) _,.inl ⟨hFg,fun e=>n1 e.symm⟩,.inr ⟨G,C,?_,.inl ⟨hFG,fun e=>n2 e.symm⟩,?_⟩⟩,fun q hq => ?_,wQ fun x y a b hx hy hxy => ?_,fun b hb => ?_⟩,hC2⟩
 ·rw[List.length_set]
 ·rw[List.length_set];refine hR2.to ?_
  rw[List.map_set]
 ·obtain⟨j,hj⟩:=List.getElem?_of_mem hq;rw[List.getElem?_set] at hj;by_cases e:i=j
  ·subst e;rw[if_pos rfl,if_pos hil] at hj
   cases hj;refine⟨⟨hA.row.same (hset _ n4),fun e he=>(hA.cQ e he).off fun b _ hk => ?_⟩,.inr rfl⟩;obtain⟨cs,k⟩:=hk;obtain⟨ds,k'⟩:=hR1.kind;exact hset b (dB k k' (by decide))
  ·rw[if_neg e] at hj;have hqm:=A.br q (List.mem_of_getElem? hj)
   have hne:q.b≠p.b:=fun e'=>qo A.apart hi hj e e'.symm
   exact⟨⟨(hqm.1.row.chg hC hne).same (hset _ (hqm.1.ep hR)),fun e he=>((hqm.1.cQ e he).mono hD).off hu8⟩,.inl ⟨hqm.2,hne⟩⟩
 ·have key:∀ (y:Nat) (b:Pg),y≠i->L[y]? = some b->p'.b≠b.b:=fun y b hy hb'=>by
   rcases hb with e | e
   ·rw[e]; exact qo A.apart hi hb' (fun e'=>hy e'.symm)
   ·have:=(A.br b (List.mem_of_getElem? hb')).1.row.lt;omega
  rw[List.getElem?_set] at hx hy;by_cases e:i=x
  ·subst e;rw[if_pos rfl,if_pos hil] at hx
   cases hx;rw[if_neg (by omega)] at hy;exact key y b (by omega) hy
  ·rw[if_neg e] at hx;by_cases e':i=y
   ·subst e';rw[if_pos rfl,if_pos hil] at hy
    cases hy;exact(key x a (by omega) hx).symm
   ·rw[if_neg e'] at hy;exact lQ A.apart hx hy hxy
 ·by_cases e:b=p'.b
  ·subst e;obtain⟨cs,k⟩:=hA.row.kind;exact⟨cs,_,k.same (hset _ n4),by decide⟩
  ·obtain⟨hF,e2⟩:=hb.resolve_right e;obtain⟨cs,t,k,ht⟩:=A.kind b hF;by_cases e1:b=G
   ·subst e1;obtain⟨ds,k'⟩:=hR2.kind;exact⟨ds,_,k',by decide⟩
   ·exact⟨cs,t,(k.chg hC e2).same (hset b e1),ht⟩
theorem jl{G' C':Nat}(hP:∀ p∈L',PgA w D p/\F p.b)(hap:(L'.map Pg.b).Nodup)(hk:∀ b,F b->∃ cs t,Blk w b cs t/\t≠5)(hg:Blk w g [c0] 172)(hFg:F g)(hFG:F G)(hgG:G≠g)(hC:Chg (· = G) w w1)(hnG:∀ p∈L',p.b≠G)(hn:L'.length=n)(hR:Rw w1 220 1 G' n C' (L'.map Pg.v)) :
  bj (w1.setCell ⟨g,0,none⟩ (.slice (some ⟨G',0,none⟩) n C')) (fun x=>(F x/\x≠G)\/x=G') D g L'/\Chg F w (w1.setCell ⟨g,0,none⟩ (.slice (some ⟨G',0,none⟩) n C')):=by
 subst hn
 have hg1:Blk w1 g [c0] 172:=hg.chg hC (fun e=>hgG e.symm);have hg2:=hg1.setCell (i:=0) (.slice (some ⟨G',0,none⟩) L'.length C')
 have hne:G'≠g:=hR.et hg1
 have hset:∀ b,b≠g->(w1.setCell ⟨g,0,none⟩ (.slice (some ⟨G',0,none⟩) L'.length C')).heap[b]? = w1.heap[b]? := fun b hb=>Below.heap_setCell w1 _ _ b hb
 have hC2:Chg F w (w1.setCell ⟨g,0,none⟩ (.slice (some ⟨G',0,none⟩) L'.length C')):=(hC.mono (F':=F) (fun b _ e=>by subst e; exact hFG)).cell (.inl hFg) _
 have hu8:∀ b,b < w.heap.size->(∃ cs,Blk w b cs 5)->(w1.setCell ⟨g,0,none⟩ (.slice (some ⟨G',0,none⟩) L'.length C')).heap[b]? = w.heap[b]? := fun b hb hkk=>by
  obtain⟨cs,k⟩:=hkk;exact hC2.same b hb fun f=>by
   obtain⟨cs',t,hk',ht⟩:=hk b f;exact ht (hk'.eq k).2
 refine⟨⟨⟨_,hg2,.inl ⟨hFg,fun e=>hgG e.symm⟩,.inr ⟨G',C',rfl,.inr rfl,hR.same (hset _ hne)⟩⟩,fun q hq => ?_,hap,fun b hb => ?_⟩,hC2⟩
 ·have hqm:=hP q hq;exact⟨⟨(hqm.1.row.chg hC (hnG q hq)).same (hset _ (hqm.1.et hg)),fun e he=>(hqm.1.cQ e he).off hu8⟩,.inl ⟨hqm.2,hnG q hq⟩⟩
 ·by_cases e:b=G'
  ·subst e;obtain⟨ds,k⟩:=hR.kind;exact⟨ds,_,k.same (hset _ hne),by decide⟩
  ·obtain⟨hF,e2⟩:=hb.resolve_right e;obtain⟨ds,t,k,ht⟩:=hk b hF;by_cases e1:b=g
   ·subst e1;exact⟨_,_,hg2,by decide⟩
   ·exact⟨ds,t,(k.chg hC e2).same (hset b e1),ht⟩
theorem qW(L:List Pg):∀ v∈L.map Pg.v,v.oneCell'=true:=fun v hv=>by
 obtain⟨p,_,rfl⟩:=List.mem_map.1 hv;rfl
end
end Pg
end
section
namespace Pg
open Go.RowKit Go.Lib
section
variable {ops:Array Oper} {Q:Exit->Act->World->Prop} {S:World->Prop} {fuel:Nat} {listed:Array Bool} {a:Act} {w:World}
section
variable {Qc:Ending->World->Prop}
def fW(ops:Array Oper)(listed:Array Bool)(a:Act)(i:Nat)(d:Option Tmp):Bool :=
 Region.noSelect ops && Region.free .any ops listed i && (Region.ready .any ops listed).contains i && decide (i < ops.size) && Region.wanted (ops.getD i default) (yielded ops a.tmps) && decide ((ops.getD i default).dst=d)
def Be(ops:Array Oper)(listed:Array Bool)(a:Act)(i:Nat)(d:Option Tmp):Bool :=
 Region.noSelect ops && Region.free .any ops listed i && (Region.ready .any ops listed).contains i && decide (i < ops.size) && !Region.wanted (ops.getD i default) (yielded ops a.tmps) && decide ((ops.getD i default).dst=d)
def fF(ops:Array Oper)(listed:Array Bool)(a:Act)(i:Nat)(d:Option Tmp):Bool :=
 decide (Region.ready .any ops listed=[i]) && decide (i < ops.size) && Region.wanted (ops.getD i default) (yielded ops a.tmps) && decide ((ops.getD i default).dst=d)
theorem bB{i:Nat}(h:i < ops.size):ops[i]? = some (ops.getD i default):=by
 simp[Array.getD,h]
theorem ae(i:Nat)(d:Option Tmp)(v:Value)(hc:fW ops listed a i d=true)(hy:∀ w',S w'->(execOp a.eval (ops.getD i default)).run Tryz.prog w'=.ok (.value v) w')(hQ:∀ c a w,Q (.panic c) (a.put d v) w->Q (.panic c) a w)(hS:S w)(h:wpAnyH Tryz.prog .any ops Q S fuel (listed.setIfInBounds i true) (a.put d v) w):wpAnyH Tryz.prog .any ops Q S (fuel + 1) listed a w:=by
 simp only[fW,Bool.and_eq_true,decide_eq_true_eq] at hc;obtain⟨⟨⟨⟨⟨h1,h2⟩,h3⟩,h4⟩,h5⟩,h6⟩:=hc;subst h6;exact wpAnyH_take (bB h4) h1 h2 h3 hQ (.inl ⟨h5,hy⟩) hS h
theorem gU(i:Nat)(d:Option Tmp)(v v':Value)(hv:v=v')(hc:fW ops listed a i d=true)(hy:∀ w',S w'->(execOp a.eval (ops.getD i default)).run Tryz.prog w'=.ok (.value v) w')(hQ:∀ c a w,Q (.panic c) (a.put d v') w->Q (.panic c) a w)(hS:S w)(h:wpAnyH Tryz.prog .any ops Q S fuel (listed.setIfInBounds i true) (a.put d v') w):wpAnyH Tryz.prog .any ops Q S (fuel + 1) listed a w:=by
 subst hv;exact ae i d v hc hy hQ hS h
theorem bV(i:Nat)(d:Option Tmp)(hc:Be ops listed a i d=true)(hQ:∀ c a w,Q (.panic c) (a.put d undef) w->Q (.panic c) a w)(hS:S w)(h:wpAnyH Tryz.prog .any ops Q S fuel (listed.setIfInBounds i true) (a.put d undef) w):wpAnyH Tryz.prog .any ops Q S (fuel + 1) listed a w:=by
 simp only[Be,Bool.and_eq_true,decide_eq_true_eq,Bool.not_eq_true'] at hc;obtain⟨⟨⟨⟨⟨h1,h2⟩,h3⟩,h4⟩,h5⟩,h6⟩:=hc;subst h6;exact wpAnyH_take (bB h4) h1 h2 h3 hQ (.inr ⟨h5,rfl⟩) hS h
theorem aB(i:Nat)(d:Option Tmp)(v:Value)(T:TypeId)(k g o:Nat)(hc:fW ops listed a i d=true)(ho:(ops.getD i default).op=.load T (.tmp k))(hp:a.eval (.tmp k)=.pointer (some ⟨g,o,none⟩))(hl:∀ w',S w'->(loadVar T ⟨g,o,none⟩).run Tryz.prog w'=.ok v w')(hQ:∀ c a w,Q (.panic c) (a.put d v) w->Q (.panic c) a w)(hS:S w)(h:wpAnyH Tryz.prog .any ops Q S fuel (listed.setIfInBounds i true) (a.put d v) w):wpAnyH Tryz.prog .any ops Q S (fuel + 1) listed a w :=
 ae i d v hc (fun w' hS'=>by
  have:=hl w' hS';simp only[execOp,ho,hp];simp[Instr.loadAt,Instr.sureAddr,Result.andThen,this]) hQ hS h
theorem aM(i:Nat)(d:Option Tmp)(f:FuncId)(args:Array Value)(hc:fF ops listed a i d=true)(hrun:(execOp a.eval (ops.getD i default)).run Tryz.prog w=.ok (.enter f args) w)(hcall:Calls Tryz.prog f args w Qc)(hk:∀ e w',Qc e w'->∃ v,e=.returned v/\S w'/\wpAnyH Tryz.prog .any ops Q S fuel (listed.setIfInBounds i true) (a.put d v) w') :
  wpAnyH Tryz.prog .any ops Q S (fuel + 1) listed a w:=by
 simp only[fF,Bool.and_eq_true,decide_eq_true_eq] at hc;obtain⟨⟨⟨h3,h4⟩,h5⟩,h6⟩:=hc;subst h6;refine wpAnyH_all h3 (by simp) fun j hj => ?_
 obtain rfl:j=i:=by simpa using hj
 refine wpOp_step (bB h4) fun K hK => ?_
 rw[if_pos h5];unfold Oper.wp;rw[hrun];refine hcall.mono fun e w' he => ?_
 obtain⟨v,rfl,hS',hw⟩:=hk e w' he;exact hK _ _ ⟨hS',hw⟩
theorem aP(hr:Region.ready .any ops listed=[])(h:Q .normal a w):wpAnyH Tryz.prog .any ops Q S fuel listed a w:=wpAnyH_done hr h fuel
theorem aU{id:Nat}(hm:Tryz.prog.follows .mixedOrders=true)(hS:S w.drew)(h:wpAnyH Tryz.prog .any ops Q S ops.size (Array.replicate ops.size false) a w.drew):(Code.region id ops true).wp Tryz.prog Q a w :=
 wp_region_held_drew hm hS fun _=>h
end
end
def gW (a:Act):List (Option Tmp × Value)->Act
 | []=>a
 | p :: l=>gW (a.put p.1 p.2) l
section
variable {ops:Array Oper} {Q:Exit->Act->World->Prop} {S:World->Prop} {fuel:Nat} {listed:Array Bool} {a:Act} {w:World}
section
variable {K:Act->World->Prop}{rs:List Nat}{Qc:Ending->World->Prop}
theorem nq{X:Type}{id:Nat}{Q':Exit->Act->World->Prop}(upd:X->List (Option Tmp × Value))(F:X->World->Prop)(S:World->Prop)(hm:Tryz.prog.follows .mixedOrders=true)(hS:S w.drew)(h1:wpAnyH Tryz.prog .any ops (Exit.then (fun a' w'=>∃ x,a'=gW a (upd x)/\F x w') (fun _ _ _=>False)) S ops.size (Array.replicate ops.size false) a w.drew)(h2:∀ x w',F x w'->K (gW a (upd x)) w'):(Code.region id ops true).wp Tryz.prog (Exit.then K Q') a w :=
 Code.wp_mono (fun e a' w' h=>by
  cases e<;>first
   | (obtain⟨x,rfl,hF⟩:=h; exact h2 x w' hF)
   | exact h.elim) (wp_region_held_drew (S:=S) hm hS fun _=>h1)
def ew(ops:Array Oper)(a:Act)(i:Nat)(d:Option Tmp):Bool :=
 decide (i < ops.size) && Region.wanted (ops.getD i default) (yielded ops a.tmps) && decide ((ops.getD i default).dst=d)
theorem aC(rs:List Nat)(hr:Region.ready .any ops listed=rs)(hne:rs≠[])(h:AllReadyH Tryz.prog .any ops Q S fuel listed a w rs):wpAnyH Tryz.prog .any ops Q S (fuel + 1) listed a w:=wpAnyH_ready hr hne h
theorem aL:AllReadyH Tryz.prog .any ops Q S fuel listed a w []:=AllReadyH.nil
theorem sr(i:Nat)(d:Option Tmp)(f:FuncId)(args:Array Value)(hc:ew ops a i d=true)(hrun:(execOp a.eval (ops.getD i default)).run Tryz.prog w=.ok (.enter f args) w)(hcall:Calls Tryz.prog f args w Qc)(hk:∀ e w',Qc e w'->∃ v,e=.returned v/\S w'/\wpAnyH Tryz.prog .any ops Q S fuel (listed.setIfInBounds i true) (a.put d v) w')(hs:AllReadyH Tryz.prog .any ops Q S fuel listed a w rs):AllReadyH Tryz.prog .any ops Q S fuel listed a w (i :: rs):=by
 simp only[ew,Bool.and_eq_true,decide_eq_true_eq] at hc;obtain⟨⟨h4,h5⟩,h6⟩:=hc;subst h6;refine AllReadyH.cons (bB h4) (fun K hK => ?_) hs;rw[if_pos h5];unfold Oper.wp;rw[hrun];refine hcall.mono fun e w' he => ?_
 obtain⟨v,rfl,hS',hw⟩:=hk e w' he;exact hK.out _ _ hS' fun _=>hw
theorem aZ(i:Nat)(d:Option Tmp)(v:Value)(w1:World)(hc:ew ops a i d=true)(hrun:(execOp a.eval (ops.getD i default)).run Tryz.prog w=.ok (.value v) w1)(hS1:S w1)(h:wpAnyH Tryz.prog .any ops Q S fuel (listed.setIfInBounds i true) (a.put d v) w1)(hs:AllReadyH Tryz.prog .any ops Q S fuel listed a w rs):AllReadyH Tryz.prog .any ops Q S fuel listed a w (i :: rs):=by
 simp only[ew,Bool.and_eq_true,decide_eq_true_eq] at hc;obtain⟨⟨h4,h5⟩,h6⟩:=hc;subst h6;refine AllReadyH.cons (bB h4) (fun K hK => ?_) hs;rw[if_pos h5];unfold Oper.wp;rw[hrun]
 show K (a.put (ops.getD i default).dst v) w1
 exact hK.out _ _ hS1 fun _=>h
theorem cJ(i:Nat)(w1:World)(hc:ew ops a i none=true)(hrun:(execOp a.eval (ops.getD i default)).run Tryz.prog w=.ok .skip w1)(hS1:S w1)(h:wpAnyH Tryz.prog .any ops Q S fuel (listed.setIfInBounds i true) (a.put none undef) w1)(hs:AllReadyH Tryz.prog .any ops Q S fuel listed a w rs):AllReadyH Tryz.prog .any ops Q S fuel listed a w (i :: rs):=by
 simp only[ew,Bool.and_eq_true,decide_eq_true_eq] at hc;obtain⟨⟨h4,h5⟩,h6⟩:=hc;refine AllReadyH.cons (bB h4) (fun K hK => ?_) hs;rw[if_pos h5];unfold Oper.wp;rw[hrun]
 show K (a.put (ops.getD i default).dst undef) w1
 rw[h6];exact hK.out _ _ hS1 fun _=>h
end
end
section
variable {a:Act}{w:World}{x y k n c g off:Nat}{o:Oper}{v u:Value}{ao bo:Option Addr}
theorem b8{op:Oper}{T:TypeId}{b:Nat}(ho:op.op=.indexAddr T (.tmp x) (.tmp y))(hT:Tryz.prog.underlying T=some (.slice 220))(hx:a.eval (.tmp x)=.slice (some ⟨b,0,none⟩) n c){z:Int}(hy:a.eval (.tmp y)=.int .i64 z)(hz:z=(k:Int))(hk:k < n):(execOp a.eval op).run Tryz.prog w=.ok (.value (.pointer (some ⟨b,k,none⟩))) w:=by
 subst hz
 have h1:(k:Int) < n:=by omega
 have h2:¬ ((k:Int) < 0):=by omega
 obtain⟨i0,hi,hz0,hs0,hb0⟩:=info_parts (P:=Tryz.prog) (show (Tryz.prog.info? 220).map (fun i=>(i.zero,i.size,i.bytes))=some (some (.slice none 0 0),1,24) by kernel_rfl);simp only[execOp,ho,hx,hy];go_simp
theorem fj{o:Nat}(c:w.cell? ⟨g,o,none⟩=some v):(loadVar 170 ⟨g,o,none⟩).run Tryz.prog w=.ok v w:=by go_simp
theorem nM{o:Nat}(c:w.cell? ⟨g,o,none⟩=some v):(loadVar 220 ⟨g,o,none⟩).run Tryz.prog w=.ok v w:=by go_simp
theorem ld_e(c:w.cell? ⟨g,0,none⟩=some v)(d:w.cell? ⟨g,1,none⟩=some u):(loadVar 223 ⟨g,0,none⟩).run Tryz.prog w=.ok (.agg #[v,u]) w:=by go_simp
theorem ix{T:TypeId}(k:Nat)(ho:o.op=.load T (.tmp k))(hp:a.eval (.tmp k)=.pointer (some ⟨g,off,none⟩))(hl:(loadVar T ⟨g,off,none⟩).run Tryz.prog w=.ok v w):(execOp a.eval o).run Tryz.prog w=.ok (.value v) w:=by
 simp only[execOp,ho,hp];simp[Instr.loadAt,Instr.sureAddr,Result.andThen,hl]
theorem jg(k q:Nat)(ho:o.op=.store 220 (.tmp k) (.tmp q))(hp:a.eval (.tmp k)=.pointer (some ⟨g,off,none⟩))(hq:a.eval (.tmp q)=.slice ao n c)(hc:w.cell? ⟨g,off,none⟩=some u)(hf:w.frozen? ⟨g,off,none⟩=false) :
  (execOp a.eval o).run Tryz.prog w=.ok .skip (w.setCell ⟨g,off,none⟩ (.slice ao n c)):=by
 simp only[execOp,ho,hp,hq];go_simp
theorem oq{kv vv:Value}(ho:o.op=.buildSlice 220 1 #[(0,.tmp k)])(hk:a.eval (.tmp k)=.agg #[kv,vv]):(execOp a.eval o).run Tryz.prog w=.ok (.value (.slice (some ⟨w.heap.size,0,none⟩) 1 1)) (w.alloc (.cells #[kv,vv] 223)):=by
 have hk':a.tmps[k]?.getD undef=.agg #[kv,vv]:=by simpa[Act.eval] using hk
 simp only[execOp,ho];go_simp
theorem Az{m d:Nat}(ho:o.op=.buildSlice 170 2 #[(0,.tmp x),(1,.tmp y)])(hx:a.eval (.tmp x)=.slice ao n c)(hy:a.eval (.tmp y)=.slice bo m d):(execOp a.eval o).run Tryz.prog w=.ok (.value (.slice (some ⟨w.heap.size,0,none⟩) 2 2)) (w.alloc (.cells #[.slice ao n c,.slice bo m d] 220)):=by
 have hx':a.tmps[x]?.getD undef=.slice ao n c:=by simpa[Act.eval] using hx
 have hy':a.tmps[y]?.getD undef=.slice bo m d:=by simpa[Act.eval] using hy
 simp only[execOp,ho];go_simp
end
end Pg
end
section
namespace Pg
open Go.RowKit Go.Lib
section
variable {w:World}{D F:Nat → Prop}{p:Pg}{es:List En}{g G i j:Nat}{v u c0:Value}{L:List Pg}
theorem yS{D:Nat->Prop}(h:PgA w D p)(hs:∀ e∈es,e∈p.es):∀ e∈es,EnA w D e:=fun e he=>h.cQ e (hs e he)
theorem bH(w:World):Below w.heap.size w w.drew:=⟨rfl,rfl,rfl,Nat.le_refl _,fun _ _=>rfl⟩
theorem bR(h:g≠G)(hc:w.cell? ⟨g,j,none⟩=some u):(w.setCell ⟨G,i,none⟩ v).cell? ⟨g,j,none⟩=some u:=by
 rw[World.cell?_of_block (w:=w) (a:=⟨g,j,none⟩) (Below.heap_setCell w _ v g h)]; exact hc
theorem AP{α:Type}(L:List α)(i:Nat)(a b:α)(h:i < L.length):(L.set i a).take (i + 1) ++ [b] ++ (L.set i a).drop (i + 1)=L.take i ++ [a,b] ++ L.drop (i + 1):=by
 have e1:(L.set i a).take (i + 1)=L.take i ++ [a]:=by
  rw[List.take_add_one,List.take_set_of_le (Nat.le_refl _),List.getElem?_set_self h]; rfl
 rw[e1,List.drop_set_of_lt (by omega)];simp
theorem uJ{W2 w3 w5:World}{F2:Nat → Prop}{n m C b2 c2 G5 C5:Nat}{q1:Pg}(A2 : bj W2 F2 D g (L.set i q1))(hF2 : ∀ b, F2 b → F b ∨ w.heap.size ≤ b)(C2 : Chg F w W2)(hgx : Blk W2 g [.slice (some ⟨G, 0, none⟩) (L.set i q1).length C] 172)(hg3 : Blk w3 g [c0] 172)(hFg : F2 g)(hFG : F2 G)(hR2 : Rw W2 220 1 G (L.set i q1).length C ((L.set i q1).map Pg.v))(hgG : g ≠ G)(hil : i < L.length)(hq1 : q1.es = es.take 16)(hdl : (es.drop 16).length = m - 16)(hnn : L.length = n)(B3 : Below W2.drew.heap.size W2.drew w3)(hb2 : W2.drew.heap.size ≤ b2)(R3 : Rw w3 223 2 b2 (m - 16) c2 (flat (es.drop 16)))(E0 : ∀ e ∈ es, EnA W2.drew D e)(hb5 : G5 = G ∨ w3.heap.size + 1 ≤ G5)(R5 : Rw w5 220 1 G5 (n + 1) C5 (((L.set i q1).map Pg.v).take (i + 1) ++ [.slice (some ⟨b2, 0, none⟩) (m - 16) c2] ++ ((L.set i q1).map Pg.v).drop (i + 1)))(C5' : Chg (· = G) (w3.alloc (.cells #[.slice (some ⟨b2, 0, none⟩) (m - 16) c2] 220)) w5) :
    ∃ F' p1 p2, Ending.returned (.tuple #[]) = Ending.returned (.tuple #[]) ∧ p1.es = es.take 16 ∧ p2.es = es.drop 16 ∧ bj (w5.setCell ⟨g, 0, none⟩ (.slice (some ⟨G5, 0, none⟩) (n + 1) C5)) F' D g (L.take i ++ [p1, p2] ++ L.drop (i + 1)) ∧ (∀ b, F' b → F b ∨ w.heap.size ≤ b) ∧ Chg F w (w5.setCell ⟨g, 0, none⟩ (.slice (some ⟨G5, 0, none⟩) (n + 1) C5)) := by
  obtain⟨W4, hW4⟩ : ∃ W4, W4 = w3.alloc (.cells #[.slice (some ⟨b2, 0, none⟩) (m - 16) c2] 220) := ⟨_, rfl⟩
  have B4 : Below W2.heap.size W2 W4 := by rw[hW4]; exact ai (ai (bH W2) B3) (aa w3 _)
  have B34 : Below w3.heap.size w3 W4 := by rw[hW4]; exact aa w3 _
  rw[← hW4] at C5';have A4 := A2.keep B4
  have hP2 : PgA W4 D ⟨b2, c2, es.drop 16⟩:= by
    refine⟨?_, fun e he => ((E0 e (List.mem_of_mem_drop he)).keep B3).keep B34⟩
    show Rw W4 _ 2 b2 (es.drop 16).length c2 _
    rw[hdl]; exact R3.keep B34
  have hb2' : W2.heap.size ≤ b2 := hb2
  have hv2 : (⟨b2, c2, es.drop 16⟩ : Pg).v = .slice (some ⟨b2, 0, none⟩) (m - 16) c2 := by simp only[Pg.v]; rw[hdl]
  have hL' : ∀ p ∈ (L.set i q1).take (i + 1) ++ [(⟨b2, c2, es.drop 16⟩ : Pg)] ++ (L.set i q1).drop (i + 1), p ∈ L.set i q1 ∨ p = ⟨b2, c2, es.drop 16⟩:= fun p hp => by
    rcases List.mem_append.1 hp with h | h
    · rcases List.mem_append.1 h with h | h
      · exact .inl (List.mem_of_mem_take h)
      · exact .inr (by simpa using h)
    · exact .inl (List.mem_of_mem_drop h)
  have hlen : ((L.set i q1).take (i + 1) ++ [(⟨b2, c2, es.drop 16⟩ : Pg)] ++ (L.set i q1).drop (i + 1)).length = n + 1 := by
    simp; omega
  have hold : ∀ p ∈ L.set i q1, p.b ≠ b2 := fun p hp => by
    have := (A2.br p hp).1.row.lt;omega
  obtain⟨A5, C6⟩:= jl (w := W4) (w1 := w5) (F := fun x => F2 x ∨ x = b2) (D := D) (g := g) (G := G) (G' := G5) (C' := C5) (n := n + 1) (L' := (L.set i q1).take (i + 1) ++ [(⟨b2, c2, es.drop 16⟩ : Pg)] ++ (L.set i q1).drop (i + 1))
    (fun p hp => by
      rcases hL' p hp with h | rfl
      · exact⟨(A4.br p h).1, .inl (A4.br p h).2⟩
      · exact⟨hP2, .inr rfl⟩)
    (by
      have hn := A2.apart
      have e : (L.set i q1).map Pg.b = ((L.set i q1).take (i + 1)).map Pg.b ++ ((L.set i q1).drop (i + 1)).map Pg.b := by rw[← List.map_append, List.take_append_drop]
      rw[e] at hn
      have h2 : ∀ x ∈ ((L.set i q1).take (i + 1)).map Pg.b, x ≠ b2 := fun x hx => by
        obtain⟨p, hp, rfl⟩:= List.mem_map.1 hx;exact hold p (List.mem_of_mem_take hp)
      have h3 : ∀ x ∈ ((L.set i q1).drop (i + 1)).map Pg.b, x ≠ b2 := fun x hx => by
        obtain⟨p, hp, rfl⟩:= List.mem_map.1 hx;exact hold p (List.mem_of_mem_drop hp)
      simp only[List.map_append, List.map_cons, List.map_nil];rw[List.nodup_append] at hn;rw[List.append_assoc, List.nodup_append];refine⟨hn.1, ?_, ?_⟩
      · rw[List.singleton_append, List.nodup_cons]
        exact⟨fun h => h3 b2 h rfl, hn.2.1⟩
      · intro a ha b hb
        rcases List.mem_append.1 hb with hb | hb
        · simp at hb; subst hb; exact h2 a ha
        · exact hn.2.2 a ha b hb)
    (fun b hb => by
      rcases hb with h | rfl
      · exact A4.kind b h
      · obtain⟨ds, k⟩:= hP2.row.kind
        exact⟨ds, _, k, by decide⟩)
    (hg3.keep B34) (.inl hFg) (.inl hFG) (fun e => hgG e.symm) C5'
    (fun p hp => by
      rcases hL' p hp with h | rfl
      · exact(A4.br p h).1.ep (hR2.keep B4)
      · exact hP2.ep (hR2.keep B4)) hlen
    (by simpa[List.map_take, List.map_drop, hv2] using R5)
  rw[AP L i q1 _ hil] at A5;refine⟨_, q1, ⟨b2, c2, es.drop 16⟩, rfl, hq1, rfl, A5, fun b hb => ?_, (C2.trans (Chg.of (F := F) B4) (fun _ _ h => h)).trans C6 fun b hb h => ?_⟩
  · rcases hb with⟨h | rfl, _⟩ | rfl
    · exact hF2 b h
    · exact .inr (by have := C2.size; omega)
    · rcases hb5 with rfl | h
      · exact hF2 _ hFG
      · have h3 := B3.size
        have h2 := C2.size
        have : W2.drew.heap.size = W2.heap.size := rfl;exact .inr (by omega)
  · rcases h with h | rfl
    · exact(hF2 b h).resolve_right (by omega)
    · have := C2.size; omega
theorem wN(h:j≠i)(hc:w.cell? ⟨G,j,none⟩=some u):(w.setCell ⟨G,i,none⟩ v).cell? ⟨G,j,none⟩=some u:=by
 have hlt:=aA hc;simp only[World.cell?,World.setCell,Array.getElem?_modify,if_true] at hc ⊢
 cases hh:w.heap[G]? with
 | none=>rw[hh] at hc; simp at hc
 | some ob =>
  rw[hh] at hc
  cases ob with
  | cells c e f =>
   simp at hc ⊢;rw[Array.getElem?_setIfInBounds,if_neg (by omega)]; exact hc
  | _=>simp at hc
theorem uF(A : bj w F D g L)(hi : L[i]? = some p)(h1 : 17 ≤ p.es.length)(h2 : p.es.length ≤ 1000)(hn : L.length ≤ 100000000) :
    Calls Tryz.prog 219 #[.pointer (some ⟨g, 0, none⟩), .int .i64 i] w fun e w' => ∃ F' p1 p2, e = .returned (.tuple #[]) ∧ p1.es = p.es.take 16 ∧ p2.es = p.es.drop 16 ∧ bj w' F' D g (L.take i ++ [p1, p2] ++ L.drop (i + 1)) ∧ (∀ b, F' b → F b ∨ w.heap.size ≤ b) ∧ Chg F w w' := by
  have hil := (List.getElem?_eq_some_iff.1 hi).1
  have hL : L ≠ [] := fun e => by subst e; simp at hil
  obtain⟨G, C, hg, hFg, hFG, hR⟩:= A.opn hL;have hp := A.br p (List.mem_of_getElem? hi);have cg := hg.cell (i := 0) rfl;have cG := hR.cell (i := i) (v := p.v) (by simp[hi]);have hpc := hp.1.row.le;have hCC := hR.le;simp only[maxLen] at hpc hCC
  have cgd : w.drew.cell? ⟨g, 0, none⟩ = some (.slice (some ⟨G, 0, none⟩) L.length C) := cg;have t1 := qR (w := w.drew) (a := ⟨p.b, 0, none⟩) (n := 16) (c := p.c) (xs := flat (p.es.take 16)) (by decide) (by rw[fQ, List.length_take]; omega) (fun j v hj => by
    rw[Addr.add_lit, Nat.zero_add]
    have : (flat p.es)[j]? = some v := by
      rw[← gH, List.getElem?_take] at hj;split at hj
      · exact hj
      · cases hj
    exact hp.1.row.drew.cell this) (iC (yS hp.1 fun e he => List.mem_of_mem_take he))
  obtain⟨n, hnn⟩ : ∃ n, Hid (L.length = n) := ⟨_, rfl⟩;obtain⟨m, hmm⟩ : ∃ m, Hid (p.es.length = m) := ⟨_, rfl⟩;simp only[Pg.v] at cG;rw[hnn.out] at cg cgd;rw[hmm.out] at cG
  have z1 : (i : Int) < n := by have := hnn.out; omega
  have z2 : m ≤ p.c := by have := hmm.out; omega
  have z3 : p.c ≤ 9223372036854775807 := by omega
  have z4 : 17 ≤ m := by have := hmm.out; omega
  have z5 : 16 ≤ p.c := by omega
  have z6 : (16 : Int) ≤ (p.c : Int) := by omega
  have hgG : g ≠ G := fun e => hR.et hg e.symm
  have mixed := mixed;go_enter Tryz.func219, Tryz.ntmps219;go_wp2;go_region_held3 (fun w' => w'.cell? ⟨g, 0, none⟩ = some (.slice (some ⟨G, 0, none⟩) n C)) (first | assumption | exact bR hgG (by assumption))
    (first
    | (go_at_call 147; refine t1.mono ?_; rintro e' w1 ⟨b1, c1, rfl, hb1, R1, B1⟩; have cg1 : w1.cell? ⟨g, 0, none⟩ = some (.slice (some ⟨G, 0, none⟩) n C) := (B1.cell (p := ⟨g, 0, none⟩) (aA cgd)).trans cgd; have cG1 : w1.cell? ⟨G, i, none⟩ = some (.slice (some ⟨p.b, 0, none⟩) m p.c) := (B1.cell (p := ⟨G, i, none⟩) (aA (w := w.drew) cG)).trans cG; have fG1 : w1.frozen? ⟨G, i, none⟩ = false := (hR.drew.keep B1).free i))
  obtain⟨q1, hq1⟩ : ∃ q1 : Pg, Hid (q1 = ⟨b1, c1, p.es.take 16⟩) := ⟨_, rfl⟩
  have hq1l : (p.es.take 16).length = 16 := by rw[List.length_take]; omega
  have hq1v : q1.v = .slice (some ⟨b1, 0, none⟩) 16 c1 := by rw[hq1.out]; simp only[Pg.v]; rw[hq1l]
  have hPA1 : PgA w1 D q1 := by
    rw[hq1.out];refine⟨?_, fun e he => ((hp.1.cQ e (List.mem_of_mem_take he)).keep (bH w)).keep B1⟩
    show Rw w1 _ 2 b1 (p.es.take 16).length c1 _
    rw[hq1l]; exact R1
  obtain⟨A2, C2⟩:= A.put (p' := q1) (D' := D) hg hFg hFG hR hi (Chg.of (ai (bH w) B1)) (.inr (by rw[hq1.out]; exact hb1)) hPA1 (fun _ _ h => h);rw[hq1v] at A2 C2
  have R0 : Rw (w1.setCell ⟨G, i, none⟩ (.slice (some ⟨b1, 0, none⟩) 16 c1)) 223 2 p.b p.es.length p.c (flat p.es) := ((hp.1.row.keep (bH w)).keep B1).same (Below.heap_setCell w1 _ _ _ (hp.1.ep hR))
  have E0 : ∀ e ∈ p.es, EnA (w1.setCell ⟨G, i, none⟩ (.slice (some ⟨b1, 0, none⟩) 16 c1)) D e := fun e he => (((hp.1.cQ e he).keep (bH w)).keep B1).off fun b hb hk => by
    obtain⟨cs, k⟩:= hk;obtain⟨ds, k'⟩:= (hR.drew.keep B1).kind;exact Below.heap_setCell w1 _ _ b (dB k k' (by decide))
  have hw1l : w.heap.size ≤ (w1.setCell ⟨G, i, none⟩ (.slice (some ⟨b1, 0, none⟩) 16 c1)).heap.size := C2.size
  have hb1q : q1.b = b1 := by rw[hq1.out]
  have hq1e : q1.es = p.es.take 16 := by rw[hq1.out]
  have hgb2 := (hg.drew.keep B1).off hgG (i := i) (.slice (some ⟨b1, 0, none⟩) 16 c1)
  have hF2 : ∀ b, ((F b ∧ b ≠ p.b) ∨ b = q1.b) → F b ∨ w.heap.size ≤ b := fun b h => h.imp (fun h => h.1) (fun h => by rw[h, hb1q]; exact hb1)
  generalize (w1.setCell ⟨G, i, none⟩ (.slice (some ⟨b1, 0, none⟩) 16 c1)) = W2 at *;generalize hF2d : (fun x => (F x ∧ x ≠ p.b) ∨ x = q1.b) = F2 at A2;obtain⟨G2, D2, hg2, hFg2, hFG2, hR2⟩:= A2.opn (by simp[hL]);obtain⟨rfl, rfl⟩ : G2 = G ∧ D2 = C := by
    have := (hg2.eq hgb2).1;simp at this;exact⟨this.1, this.2⟩
  have hF2' : ∀ b, F2 b → F b ∨ w.heap.size ≤ b := fun b h => hF2 b (by rw[← hF2d] at h; exact h)
  have cg2 : W2.cell? ⟨g, 0, none⟩ = some (.slice (some ⟨G2, 0, none⟩) n D2) := by
    have := hgb2.cell (i := 0) rfl;rwa [hnn.out] at this
  have cg2d : W2.drew.cell? ⟨g, 0, none⟩ = some (.slice (some ⟨G2, 0, none⟩) n D2) := cg2
  have hdl : (p.es.drop 16).length = m - 16 := by rw[List.length_drop, hmm.out]
  have t2 := qR (w := W2.drew) (a := ⟨p.b, 32, none⟩) (n := m - 16) (c := p.c - 16) (xs := flat (p.es.drop 16)) (by have := hmm.out; omega) (by rw[fQ, hdl]) (fun j v hj => by
    rw[Addr.add_lit]
    have : (flat p.es)[32 + j]? = some v := by
      rw[← gm, List.getElem?_drop] at hj;exact hj
    exact R0.drew.cell this) (iC (w := W2) (D := D) (fun e he => E0 e (List.mem_of_mem_drop he)))
  have zz1 : IntKind.i64.wrap ((i : Int) + 1) = (i : Int) + 1 := by rw[IntKind.wrap_i64]; have := hnn.out; omega
  have zz2 : ¬ (p.c = 16) := by omega
  have zz3 : (16 : Int) ≤ m := by omega
  have t3 : ∀ (w3 : World) (b2 c2 : Nat), Below W2.drew.heap.size W2.drew w3 → Calls Tryz.prog 267 #[.slice (some ⟨G2, 0, none⟩) n D2, .int .i64 ((i : Int) + 1), .slice (some ⟨w3.heap.size, 0, none⟩) 1 1] (w3.alloc (.cells #[.slice (some ⟨b2, 0, none⟩) (m - 16) c2] 220)) fun e w' => ∃ b' c', e = .returned (.slice (some ⟨b', 0, none⟩) (n + 1) c') ∧ (b' = G2 ∨ w3.heap.size + 1 ≤ b') ∧ Rw w' 220 1 b' (n + 1) c' (((L.set i q1).map Pg.v).take (i + 1) ++ [.slice (some ⟨b2, 0, none⟩) (m - 16) c2] ++ ((L.set i q1).map Pg.v).drop (i + 1)) ∧ Chg (· = G2) (w3.alloc (.cells #[.slice (some ⟨b2, 0, none⟩) (m - 16) c2] 220)) w' := fun w3 b2 c2 B3 => by
    have hk := (hR2.drew.keep B3).keep (aa w3 (.cells #[.slice (some ⟨b2, 0, none⟩) (m - 16) c2] 220));rw[List.length_set, hnn.out] at hk
    have hGl : G2 < w3.heap.size := (hR2.drew.keep B3).lt;have := insP (i := i + 1) hk (au w3 [.slice (some ⟨b2, 0, none⟩) (m - 16) c2] 220) (by omega) (by have := hnn.out; omega) (by have := hnn.out; omega) (qW _) (by simp[Value.oneCell']);rw[World.size_alloc] at this;simpa using this
  go_wp2;go_region_with (first
    | (go_at_call 147; refine t2.mono ?_; rintro e' w3 ⟨b2, c2, rfl, hb2, R3, B3⟩; have cg3 : w3.cell? ⟨g, 0, none⟩ = some (.slice (some ⟨G2, 0, none⟩) n D2) := (B3.cell (p := ⟨g, 0, none⟩) (aA cg2d)).trans cg2d; have cg3' := kZ cg3 (.cells #[.slice (some ⟨b2, 0, none⟩) (m - 16) c2] 220))
    | (go_at_call 267; refine(t3 w3 b2 c2 B3).mono ?_; rintro e' w5 ⟨G5, C5, rfl, hb5, R5, C5'⟩; have cg5 : w5.cell? ⟨g, 0, none⟩ = some (.slice (some ⟨G2, 0, none⟩) n D2) := (World.cell?_of_block (w := w3.alloc (.cells #[.slice (some ⟨b2, 0, none⟩) (m - 16) c2] 220)) (a := ⟨g, 0, none⟩) (C5'.same g (aA cg3') hgG)).trans cg3'; have fg5 : w5.frozen? ⟨g, 0, none⟩ = false := (((hgb2.drew.keep B3).keep (aa w3 _)).chg C5' hgG).free 0))
  all_goals go_wp2
  all_goals go_end0
  all_goals exact uJ A2 hF2' C2 hg2 (hgb2.drew.keep B3) hFg2 hFG2 hR2 hgG hil hq1e hdl hnn.out B3 hb2 R3 (fun e he => (E0 e he).keep (bH W2)) hb5 R5 C5'
end
end Pg
end
section
namespace Pg
open Go.RowKit Go.Lib
section
variable {L:List Pg}{i:Nat}{p:Pg}{w:World}{F D:Nat->Prop}
def pw(P:List (List En))(i q:Nat)(e:En):List (List En) :=
 let es:=(P.getD i []).take q ++ [e] ++ (P.getD i []).drop q
 if 32 < es.length then P.take i ++ [es.take 16,es.drop 16] ++ P.drop (i + 1) else P.set i es
theorem m9(L:List Pg)(i:Nat)(p:Pg):ens (L.set i p)=(ens L).set i p.es:=by simp[ens,List.map_set]
theorem eh(h:L[i]? = some p):(ens L).getD i []=p.es:=by simp[ens,h]
theorem xD(es:List En)(q:Nat)(e:En):(flat es).take (q * 2) ++ [e.kv,e.vv] ++ (flat es).drop (q * 2)=flat (es.take q ++ [e] ++ es.drop q):=by
 rw[gH,gm,dr,dr]; rfl
theorem qs{g q:Nat}{e:En}(A:bj w F D g L)(hi:L[i]? = some p)(hq:q<=p.es.length)(h2:p.es.length<=32)(hn:L.length<=100000000)(hE:EnA w D e) :
  Calls Tryz.prog 158 #[.pointer (some ⟨g,0,none⟩),.int .i64 i,.int .i64 q,.agg #[e.kv,e.vv]] w fun e' w'=>∃ F' L',e'=.returned (.tuple #[])/\ens L'=pw (ens L) i q e/\bj w' F' D g L'/\(∀ b,F' b->F b\/w.heap.size<=b)/\Chg F w w':=by
 have hil:=(List.getElem?_eq_some_iff.1 hi).1
 have hL:L≠[]:=fun e=>by subst e; simp at hil
 obtain⟨kv,kl,vv,vl⟩:=e;obtain⟨w0,hw0⟩:∃ w0,Hid (w0=w.alloc (.cells #[kv,vv] 223)):=⟨_,rfl⟩
 have B0:Below w.heap.size w w0:=by rw[hw0.out]; exact aa w _
 have X0:Blk w0 w.heap.size [kv,vv] 223:=by rw[hw0.out]; exact au w [kv,vv] _
 have A0:=A.keep B0;obtain⟨G,C,hg,hFg,hFG,hR⟩:=A0.opn hL;have hp:=A0.br p (List.mem_of_getElem? hi);have cg:=hg.cell (i:=0) rfl;have cG:=hR.cell (i:=i) (v:=p.v) (by simp[hi]);have x0:=X0.cell (i:=0) rfl;have x1:=X0.cell (i:=1) rfl;have hpc:=hp.1.row.le;have hCC:=hR.le;simp only[maxLen] at hpc hCC;obtain⟨n,hnn⟩:∃ n,Hid (L.length=n):=⟨_,rfl⟩
 obtain⟨m,hmm⟩:∃ m,Hid (p.es.length=m):=⟨_,rfl⟩
 simp only[Pg.v] at cG;rw[hnn.out] at cg;rw[hmm.out] at cG
 have z0:¬ ((n:Int)=0):=by have:=hnn.out; omega
 have z1:(i:Int) < n:=by have:=hnn.out; omega
 have cgd:w0.drew.cell? ⟨g,0,none⟩=some (.slice (some ⟨G,0,none⟩) n C):=cg
 have x0d:w0.drew.cell? ⟨w.heap.size,0,none⟩=some kv:=x0
 have x1d:w0.drew.cell? ⟨w.heap.size,1,none⟩=some vv:=x1
 have cGd:w0.drew.cell? ⟨G,i,none⟩=some (.slice (some ⟨p.b,0,none⟩) m p.c):=cG
 have hgG:g≠G:=fun e=>hR.et hg e.symm
 have hxG:w.heap.size≠G:=by have:=A.lt hFG; omega
 obtain⟨w1,hw1⟩:∃ w1,Hid (w1=w0.drew.alloc (.cells #[kv,vv] 223)):=⟨_,rfl⟩
 have B1:Below w0.heap.size w0 w1:=by rw[hw1.out]; exact ai (bH w0) (aa w0.drew _)
 have hs0:w0.heap.size=w.heap.size + 1:=by rw[hw0.out]; simp
 have V1:Blk w1 w0.heap.size [kv,vv] 223:=by rw[hw1.out]; exact au w0.drew [kv,vv] _
 have t1:=insE (i:=q) (hp.1.row.keep B1) V1 (by have:=hp.1.row.lt; omega) hq (by omega) hp.1.one (by have:=hE.k.one; have:=hE.v.one; simp_all);rw[hmm.out] at t1
 have hcg1:w1.cell? ⟨g,0,none⟩=some (.slice (some ⟨G,0,none⟩) n C):=(B1.cell (p:=⟨g,0,none⟩) (aA cg)).trans cg
 have hx01:w1.cell? ⟨w.heap.size,0,none⟩=some kv:=(B1.cell (p:=⟨w.heap.size,0,none⟩) (aA x0)).trans x0
 have hx11:w1.cell? ⟨w.heap.size,1,none⟩=some vv:=(B1.cell (p:=⟨w.heap.size,1,none⟩) (aA x1)).trans x1
 have hcG1:w1.cell? ⟨G,i,none⟩=some (.slice (some ⟨p.b,0,none⟩) m p.c):=(B1.cell (p:=⟨G,i,none⟩) (aA cG)).trans cG
 have ng:g≠p.b:=fun e=>hp.1.et hg e.symm
 have nG:G≠p.b:=fun e=>hp.1.ep hR e.symm
 have nx:w.heap.size≠p.b:=by have:=A.lt hp.2; omega
 have mixed:=mixed
 have hin:i < n:=by have:=hnn.out; omega
 go_enter Tryz.func158,Tryz.ntmps158;have cgw:=cg;rw[hw0.out] at cgw;go_wp2;rw[<- hw0.out];have hS1:=(show _/\_/\_ from⟨hcg1,hx01,hx11⟩)
 have hcG1':=hcG1;rw[hw1.out] at hS1 hcG1' t1
 have hpp:Tryz.prog.underlying 170=some (.slice 220):=by kernel_rfl
 refine nq (X:=Nat × Nat) (fun x=>[(some 23,.pointer (some ⟨g,0,none⟩)),(some 24,.pointer (some ⟨g,0,none⟩)),(some 25,.pointer (some ⟨g,0,none⟩)),(some 26,.slice (some ⟨G,0,none⟩) n C),(some 27,.int .i64 i),(some 28,.pointer (some ⟨g,0,none⟩)),(some 29,.pointer (some ⟨g,0,none⟩)),(some 30,.pointer (some ⟨g,0,none⟩)),(some 31,.slice (some ⟨G,0,none⟩) n C),(some 32,.int .i64 i),(some 33,.pointer (some ⟨G,i,none⟩)),(some 34,.slice (some ⟨p.b,0,none⟩) m p.c),(some 35,.int .i64 q),(some 36,.agg #[kv,vv]),(some 37,.slice (some ⟨w0.heap.size,0,none⟩) 1 1),(some 38,.slice (some ⟨x.1,0,none⟩) (m + 1) x.2),(some 39,.pointer (some ⟨G,i,none⟩))]) (fun x w'=>∃ w2,w'=w2.setCell ⟨G,i,none⟩ (.slice (some ⟨x.1,0,none⟩) (m + 1) x.2)/\(x.1=p.b\/w1.heap.size<=x.1)/\Rw w2 223 2 x.1 (m + 1) x.2 ((flat p.es).take (q * 2) ++ [kv,vv] ++ (flat p.es).drop (q * 2))/\Chg (· = p.b) w1 w2) (fun w'=>w'.cell? ⟨g,0,none⟩=some (.slice (some ⟨G,0,none⟩) n C)/\w'.cell? ⟨w.heap.size,0,none⟩=some kv/\w'.cell? ⟨w.heap.size,1,none⟩=some vv) (by kernel_rfl) ⟨cgd,x0d,x1d⟩ ?_ ?_
 ·have hS:=(show _/\_/\_ from⟨cgd,x0d,x1d⟩)
  refine ae 0 (some 23) (.pointer (some ⟨g,0,none⟩)) (by kernel_rfl) (fun _ _=>by kernel_rfl) (fun _ _ _ h=>h) hS ?_
  refine ae 1 (some 24) (.pointer (some ⟨g,0,none⟩)) (by kernel_rfl) (fun _ _=>by kernel_rfl) (fun _ _ _ h=>h) hS ?_
  refine ae 2 (some 25) (.pointer (some ⟨g,0,none⟩)) (by kernel_rfl) (fun _ _=>by kernel_rfl) (fun _ _ _ h=>h) hS ?_
  refine aB 3 (some 26) (.slice (some ⟨G,0,none⟩) n C) 170 25 (g) (0) (by kernel_rfl) (by kernel_rfl) (by kernel_rfl) (fun w' h=>fj h.1) (fun _ _ _ h=>h) hS ?_
  refine ae 4 (some 27) (.int .i64 i) (by kernel_rfl) (fun _ _=>by kernel_rfl) (fun _ _ _ h=>h) hS ?_
  refine ae 5 (some 28) (.pointer (some ⟨g,0,none⟩)) (by kernel_rfl) (fun _ _=>by kernel_rfl) (fun _ _ _ h=>h) hS ?_
  refine ae 6 (some 29) (.pointer (some ⟨g,0,none⟩)) (by kernel_rfl) (fun _ _=>by kernel_rfl) (fun _ _ _ h=>h) hS ?_
  refine ae 7 (some 30) (.pointer (some ⟨g,0,none⟩)) (by kernel_rfl) (fun _ _=>by kernel_rfl) (fun _ _ _ h=>h) hS ?_
  refine aB 8 (some 31) (.slice (some ⟨G,0,none⟩) n C) 170 30 (g) (0) (by kernel_rfl) (by kernel_rfl) (by kernel_rfl) (fun w' h=>fj h.1) (fun _ _ _ h=>h) hS ?_
  refine ae 9 (some 32) (.int .i64 i) (by kernel_rfl) (fun _ _=>by kernel_rfl) (fun _ _ _ h=>h) hS ?_
  refine ae 10 (some 33) (.pointer (some ⟨G,i,none⟩)) (by kernel_rfl) (fun _ _=>b8 (x:=31) (y:=32) (n:=n) (c:=C) (by kernel_rfl) hpp (by kernel_rfl) (by kernel_rfl) (rfl) (hin)) (fun _ _ _ h=>h) hS ?_
  refine ae 12 (some 35) (.int .i64 q) (by kernel_rfl) (fun _ _=>by kernel_rfl) (fun _ _ _ h=>h) hS ?_
  refine aB 13 (some 36) (.agg #[kv,vv]) 223 7 (w.heap.size) (0) (by kernel_rfl) (by kernel_rfl) (by kernel_rfl) (fun w' h=>ld_e h.2.1 h.2.2) (fun _ _ _ h=>h) hS ?_
  refine aC [11,14] (by kernel_rfl) (by simp) ?_
  refine aZ 11 (some 34) (.slice (some ⟨p.b,0,none⟩) m p.c) _ (by kernel_rfl) (ix 33 (by kernel_rfl) (by kernel_rfl) (nM cGd)) hS ?_ (aZ 14 (some 37) (.slice (some ⟨w0.heap.size,0,none⟩) 1 1) _ (by kernel_rfl) (oq (k:=36) (by kernel_rfl) (by kernel_rfl)) hS1 ?_ aL)
  ·refine aC [14] (by kernel_rfl) (by simp) ?_
   refine aZ 14 (some 37) (.slice (some ⟨w0.heap.size,0,none⟩) 1 1) _ (by kernel_rfl) (oq (k:=36) (by kernel_rfl) (by kernel_rfl)) hS1 ?_ aL;refine aM 15 (some 38) 218 #[.slice (some ⟨p.b,0,none⟩) m p.c,.int .i64 q,.slice (some ⟨w0.heap.size,0,none⟩) 1 1] (by kernel_rfl) (by kernel_rfl) t1 ?_
   rintro e' w2 ⟨b2,c2,rfl,hb2,R2,C2⟩;rw[<- hw1.out] at C2 hb2
   have cg2:w2.cell? ⟨g,0,none⟩=_:=(World.cell?_of_block (a:=⟨g,0,none⟩) (C2.same g (aA hcg1) ng)).trans hcg1
   have x02:w2.cell? ⟨w.heap.size,0,none⟩=_:=(World.cell?_of_block (a:=⟨w.heap.size,0,none⟩) (C2.same _ (aA hx01) nx)).trans hx01
   have x12:w2.cell? ⟨w.heap.size,1,none⟩=_:=(World.cell?_of_block (a:=⟨w.heap.size,1,none⟩) (C2.same _ (aA hx11) nx)).trans hx11
   have cG2:w2.cell? ⟨G,i,none⟩=_:=(World.cell?_of_block (a:=⟨G,i,none⟩) (C2.same _ (aA hcG1) nG)).trans hcG1
   have fG2:w2.frozen? ⟨G,i,none⟩=false:=((hR.keep B1).chg C2 nG).free i;refine⟨_,rfl,⟨cg2,x02,x12⟩,?_⟩;replace hS:=(show _/\_/\_ from⟨cg2,x02,x12⟩)
   refine ae 16 (some 39) (.pointer (some ⟨G,i,none⟩)) (by kernel_rfl) (fun _ _=>b8 (x:=26) (y:=27) (n:=n) (c:=C) (by kernel_rfl) hpp (by kernel_rfl) (by kernel_rfl) (rfl) (hin)) (fun _ _ _ h=>h) hS ?_
   refine aC [17] (by kernel_rfl) (by simp) ?_
   refine cJ 17 (w2.setCell ⟨G,i,none⟩ (.slice (some ⟨b2,0,none⟩) (m + 1) c2)) (by kernel_rfl) (jg 39 38 (by kernel_rfl) (by kernel_rfl) (by kernel_rfl) cG2 fG2) ⟨bR hgG cg2,bR hxG x02,bR hxG x12⟩ ?_ aL;refine aP (by kernel_rfl) ?_
   exact⟨(b2,c2),by kernel_rfl,w2,rfl,hb2,R2,C2⟩
  ·refine aC [11] (by kernel_rfl) (by simp) ?_
   refine aZ 11 (some 34) (.slice (some ⟨p.b,0,none⟩) m p.c) _ (by kernel_rfl) (ix 33 (by kernel_rfl) (by kernel_rfl) (nM hcG1')) hS1 ?_ aL;refine aM 15 (some 38) 218 #[.slice (some ⟨p.b,0,none⟩) m p.c,.int .i64 q,.slice (some ⟨w0.heap.size,0,none⟩) 1 1] (by kernel_rfl) (by kernel_rfl) t1 ?_
   rintro e' w2 ⟨b2,c2,rfl,hb2,R2,C2⟩;rw[<- hw1.out] at C2 hb2
   have cg2:w2.cell? ⟨g,0,none⟩=_:=(World.cell?_of_block (a:=⟨g,0,none⟩) (C2.same g (aA hcg1) ng)).trans hcg1
   have x02:w2.cell? ⟨w.heap.size,0,none⟩=_:=(World.cell?_of_block (a:=⟨w.heap.size,0,none⟩) (C2.same _ (aA hx01) nx)).trans hx01
   have x12:w2.cell? ⟨w.heap.size,1,none⟩=_:=(World.cell?_of_block (a:=⟨w.heap.size,1,none⟩) (C2.same _ (aA hx11) nx)).trans hx11
   have cG2:w2.cell? ⟨G,i,none⟩=_:=(World.cell?_of_block (a:=⟨G,i,none⟩) (C2.same _ (aA hcG1) nG)).trans hcG1
   have fG2:w2.frozen? ⟨G,i,none⟩=false:=((hR.keep B1).chg C2 nG).free i;refine⟨_,rfl,⟨cg2,x02,x12⟩,?_⟩;replace hS:=(show _/\_/\_ from⟨cg2,x02,x12⟩)
   refine ae 16 (some 39) (.pointer (some ⟨G,i,none⟩)) (by kernel_rfl) (fun _ _=>b8 (x:=26) (y:=27) (n:=n) (c:=C) (by kernel_rfl) hpp (by kernel_rfl) (by kernel_rfl) (rfl) (hin)) (fun _ _ _ h=>h) hS ?_
   refine aC [17] (by kernel_rfl) (by simp) ?_
   refine cJ 17 (w2.setCell ⟨G,i,none⟩ (.slice (some ⟨b2,0,none⟩) (m + 1) c2)) (by kernel_rfl) (jg 39 38 (by kernel_rfl) (by kernel_rfl) (by kernel_rfl) cG2 fG2) ⟨bR hgG cg2,bR hxG x02,bR hxG x12⟩ ?_ aL;refine aP (by kernel_rfl) ?_
   exact⟨(b2,c2),by kernel_rfl,w2,rfl,hb2,R2,C2⟩
 rintro⟨b2,c2⟩ w' ⟨w2,rfl,hb2,R2,C2⟩;dsimp only at hb2 R2;simp only[gW,Act.put,List.setIfInBounds_toArray,List.set_cons_zero,List.set_cons_succ]
 have cg2:w2.cell? ⟨g,0,none⟩=_:=(World.cell?_of_block (a:=⟨g,0,none⟩) (C2.same g (aA hcg1) ng)).trans hcg1
 have cG2:w2.cell? ⟨G,i,none⟩=_:=(World.cell?_of_block (a:=⟨G,i,none⟩) (C2.same _ (by exact(hR.keep B1).lt) nG)).trans hcG1
 have C02:Chg (· = p.b) w0 w2:=(Chg.of (F:=(· = p.b)) B1).trans C2 (fun _ _ h=>h);obtain⟨p',hp'⟩:∃ p':Pg,Hid (p'=⟨b2,c2,p.es.take q ++ [(⟨kv,kl,vv,vl⟩:En)] ++ p.es.drop q⟩):=⟨_,rfl⟩
 have hlen:(p.es.take q ++ [(⟨kv,kl,vv,vl⟩:En)] ++ p.es.drop q).length=m + 1:=by have:=hmm.out; simp; omega
 have hoff:∀ e,EnA w D e->EnA w2 D e:=fun e he=>((he.keep B0).keep B1).off fun b hb hk=>C2.same b hb fun f=>by
  subst f;obtain⟨cs,k⟩:=hk;obtain⟨ds,k'⟩:=(hp.1.row.keep B1).kind;exact dB k k' (by decide) rfl
 have hA':PgA w2 D p':=by
  rw[hp'.out];refine⟨?_,fun e he => ?_⟩
  ·show Rw w2 _ 2 b2 (p.es.take q ++ [(⟨kv,kl,vv,vl⟩:En)] ++ p.es.drop q).length c2 _
   rw[hlen]; exact R2.to (xD p.es q ⟨kv,kl,vv,vl⟩)
  ·rcases List.mem_append.1 he with h | h
   ·rcases List.mem_append.1 h with h | h
    ·exact hoff e ((A.br p (List.mem_of_getElem? hi)).1.cQ e (List.mem_of_mem_take h))
    ·simp at h; subst h; exact hoff _ hE
   ·exact hoff e ((A.br p (List.mem_of_getElem? hi)).1.cQ e (List.mem_of_mem_drop h))
 have hv':p'.v=.slice (some ⟨b2,0,none⟩) (m + 1) c2:=by rw[hp'.out]; simp only[Pg.v]; rw[hlen]
 have hb':p'.b=b2:=by rw[hp'.out]
 have he':p'.es=p.es.take q ++ [⟨kv,kl,vv,vl⟩] ++ p.es.drop q:=by rw[hp'.out]
 obtain⟨A3,C3⟩:=A0.put (p':=p') (D':=D) hg hFg hFG hR hi C02 (by rw[hb']; exact hb2.imp id (fun h=>Nat.le_trans B1.size h)) hA' (fun _ _ h=>h);rw[hv',hb'] at A3;rw[hv'] at C3;have C03:=(Chg.of (F:=F) B0).trans C3 (fun _ _ h=>h)
 have hF3:∀ b,((F b/\b≠p.b)\/b=b2)->F b\/w.heap.size<=b:=fun b h=>by
  have h0:=B0.size;have h1:=B1.size;rcases h with h | h
  ·exact .inl h.1
  ·subst h;rcases hb2 with h | h
   ·rw[h]; exact .inl hp.2
   ·exact .inr (by omega)
 have cg3:(w2.setCell ⟨G,i,none⟩ (.slice (some ⟨b2,0,none⟩) (m + 1) c2)).cell? ⟨g,0,none⟩=some (.slice (some ⟨G,0,none⟩) n C):=bR hgG cg2
 have cG3:(w2.setCell ⟨G,i,none⟩ (.slice (some ⟨b2,0,none⟩) (m + 1) c2)).cell? ⟨G,i,none⟩=some (.slice (some ⟨b2,0,none⟩) (m + 1) c2):=World.cell?_setCell_same' _ _ _ (by rw[cG2]; rfl);generalize (w2.setCell ⟨G,i,none⟩ (.slice (some ⟨b2,0,none⟩) (m + 1) c2))=W3 at *;generalize hF3d:(fun x=>(F x/\x≠p.b)\/x=b2)=F3 at A3
 have hF3':∀ b,F3 b->F b\/w.heap.size<=b:=fun b h=>hF3 b (by rw[<- hF3d] at h; exact h)
 have hi3:(L.set i p')[i]? = some p':=by rw[List.getElem?_set_self hil]
 by_cases hbig:32 < m + 1
 ·have hbi:(32:Int) < (m:Int) + 1:=by omega
  have t5:=uF A3 hi3 (by rw[he',hlen]; omega) (by rw[he',hlen]; have:=hmm.out; omega) (by rw[List.length_set]; exact hn);go_wp2_with (go_at_call 219; refine t5.mono ?_; rintro e' w6 ⟨F6,p1,p2,rfl,e1,e2,A6,hF6,C6⟩);go_end0;refine⟨F6,_,rfl,?_,A6,fun b hb => ?_,C03.trans C6 fun b hb h=>(hF3' b h).resolve_right (by omega)⟩
  ·unfold pw;rw[eh hi,<- he',if_pos (by rw[he',hlen]; exact hbig)];simp only[ens,List.map_append,List.map_take,List.map_drop,List.map_cons,List.map_nil,List.map_set,e1,e2];rw[List.take_set_of_le (Nat.le_refl _),List.drop_set_of_lt (by omega)]
  ·rcases hF6 b hb with h | h
   ·exact hF3' b h
   ·exact .inr (by have:=C03.size; omega)
 ·have hbi:¬ ((32:Int) < (m:Int) + 1):=by omega
  go_wp2;go_end0;refine⟨rfl,F3,_,?_,A3,hF3',C03⟩;unfold pw;rw[eh hi,<- he',if_neg (by rw[he',hlen]; exact hbig),m9]
end
end Pg
end
section
namespace Pg
open Go.RowKit Go.Lib
section
variable {w w1:World}{F D:Nat->Prop}{g:Nat}{pv:Value}
theorem xM(A:bj w F D g [])(hpv:w.cell? ⟨g,0,none⟩=some pv)(B1:Below w.heap.size w w1){vb:Nat}(V:Blk w1 vb [.slice none 0 0] 220) :
  ∃ b' c' w',(Builtin.append_ #[170,170] 170 #[pv,.slice (some ⟨vb,0,none⟩) 1 1]).run Tryz.prog w1=.ok (.slice (some ⟨b',0,none⟩) 1 c') w'/\(F b'\/w.heap.size<=b')/\Rw w' 220 1 b' 1 c' [.slice none 0 0]/\Chg F w1 w'/\b'≠g/\(∀ b cs,Blk w1 b cs 172\/Blk w1 b cs 223->Blk w' b cs 172\/Blk w' b cs 223)/\(Blk w g [pv] 172/\F g/\Blk w' g [pv] 172):=by
 obtain⟨pv',hb,hg,h⟩:=A.top;have e:=hb.cell (i:=0) rfl;rw[hpv] at e
 cases e;have hb1:=hb.keep B1;rcases h with⟨rfl,_⟩ | ⟨G,C,rfl,hG,hR⟩
 ·obtain⟨c',W,hr,hR',hC⟩:=dQ (w:=w1) KP 170 ⟨vb,0,none⟩ 1 1 [.slice none 0 0] rfl (fun j u hj=>by rw[Addr.add_lit,Nat.zero_add]; exact V.cell hj) (by decide) (by decide) (by decide);refine⟨_,c',W,hr,.inr B1.size,hR',Chg.of hC,?_,fun b cs h=>h.imp (fun k=>k.keep hC) (fun k=>k.keep hC),hb,hg,hb1.keep hC⟩;have:=hb1.lt;omega
 ·have hR1:=hR.keep B1;obtain⟨b',c',W,hr,hb',hR',hC⟩:=cI KP 170 hR1 ⟨vb,0,none⟩ 1 1 [.slice none 0 0] rfl (fun j u hj=>by rw[Addr.add_lit,Nat.zero_add]; exact V.cell hj) (by simp[Value.oneCell']) (by simp) (by simp)
  have hnG:∀ b cs,Blk w1 b cs 172\/Blk w1 b cs 223->b≠G:=fun b cs h=>by
   obtain⟨ds,k'⟩:=hR1.kind;rcases h with k | k
   ·exact dB k k' (by decide)
   ·exact dB k k' (by decide)
  have hgG:=hnG g _ (.inl hb1);refine⟨b',c',W,hr,?_,hR',hC.mono (fun b _ e=>by subst e; exact hG),?_,fun b cs h=>h.imp (fun k=>k.chg hC (hnG b cs h)) (fun k=>k.chg hC (hnG b cs h)),hb,hg,hb1.chg hC hgG⟩
  ·rcases hb' with h | h
   ·rw[h]; exact .inl hG
   ·rw[h]; exact .inr B1.size
  ·rcases hb' with h | h
   ·rw[h]; exact fun e=>hgG e.symm
   ·have:=hb1.lt; omega
theorem mT{e:En}(A:bj w F D g [])(hE:EnA w D e) :
  Calls Tryz.prog 158 #[.pointer (some ⟨g,0,none⟩),.int .i64 0,.int .i64 0,.agg #[e.kv,e.vv]] w fun e' w'=>∃ F' L',e'=.returned (.tuple #[])/\ens L'=[[e]]/\bj w' F' D g L'/\(∀ b,F' b->F b\/w.heap.size<=b)/\Chg F w w':=by
 obtain⟨kv,kl,vv,vl⟩:=e;have B0:=aa w (.cells #[kv,vv] 223);have X0:=au w [kv,vv] 223;obtain⟨ao,c,hc,hc1,hc2,hat⟩:=A.rd;simp only[List.length_nil] at hc hc1;have hgl:=aA hc;obtain⟨w1,hw1⟩:∃ w1,Hid (w1=(w.alloc (.cells #[kv,vv] 223)).alloc (.cells #[.slice none 0 0] 220)):=⟨_,rfl⟩
 have B1:Below w.heap.size w w1:=by rw[hw1.out]; exact ai B0 (aa _ _)
 have V1:Blk w1 (w.heap.size + 1) [.slice none 0 0] 220:=by
  have:=au (w.alloc (.cells #[kv,vv] 223)) [.slice none 0 0] 220;rw[World.size_alloc] at this;rw[hw1.out]; exact this
 have X1:Blk w1 w.heap.size [kv,vv] 223:=by rw[hw1.out]; exact X0.keep (aa _ _)
 obtain⟨G,C,w2,hr,hFG,R2,C2,hGg,hkp,hgb,hFg,hg2⟩:=xM A hc B1 V1
 have X2:Blk w2 w.heap.size [kv,vv] 223:=X1.chg C2 (fun f=>by have:=A.lt f; omega);have hg3:=hg2.setCell (i:=0) (.slice (some ⟨G,0,none⟩) 1 C)
 have R3:Rw (w2.setCell ⟨g,0,none⟩ (.slice (some ⟨G,0,none⟩) 1 C)) 220 1 G 1 C [.slice none 0 0]:=R2.same (Below.heap_setCell w2 _ _ _ hGg)
 have X3:Blk (w2.setCell ⟨g,0,none⟩ (.slice (some ⟨G,0,none⟩) 1 C)) w.heap.size [kv,vv] 223:=X2.off (by omega) _
 have hoff3:∀ e,EnA w D e->EnA (w2.setCell ⟨g,0,none⟩ (.slice (some ⟨G,0,none⟩) 1 C)) D e:=fun e he=>(he.keep B1).off fun b hb hk=>by
  obtain⟨cs,k⟩:=hk
  have n1:b≠g:=dB k (hgb.keep B1) (by decide);rw[Below.heap_setCell w2 _ _ b n1];refine C2.same b hb fun f=>A.noU f cs ?_
  exact⟨by rw[<- B1.block b (A.lt f)]; exact k.blk⟩
 have c2g:=hg2.cell (i:=0) rfl;have f2g:=hg2.free 0
 have hsz3:w.heap.size + 1 + 1<=(w2.setCell ⟨g,0,none⟩ (.slice (some ⟨G,0,none⟩) 1 C)).heap.size:=by
  have h1:=C2.size
  have h2:w1.heap.size=w.heap.size + 1 + 1:=by rw[hw1.out]; simp
  have h3:(w2.setCell ⟨g,0,none⟩ (.slice (some ⟨G,0,none⟩) 1 C)).heap.size=w2.heap.size:=by simp[World.setCell]
  omega
 have C03:Chg F w (w2.setCell ⟨g,0,none⟩ (.slice (some ⟨G,0,none⟩) 1 C)):=((Chg.of (F:=F) B1).trans C2 (fun _ _ h=>h)).cell (.inl hFg) _;have mixed:=mixed;obtain rfl:=hw1.out;clear hw1;go_enter Tryz.func158,Tryz.ntmps158;go_wp2_with (at_builtin; refine Lib.wpList_append_run _ rfl _ _ _ _ rfl _ _ rfl rfl _ _ hr ?_);generalize (w2.setCell ⟨g,0,none⟩ (.slice (some ⟨G,0,none⟩) 1 C))=W3 at *
 have cg3:W3.cell? ⟨g,0,none⟩=some (.slice (some ⟨G,0,none⟩) 1 C):=hg3.cell (i:=0) rfl;have x03:=X3.cell (i:=0) rfl;have x13:=X3.cell (i:=1) rfl;have cG3:=R3.cell (i:=0) rfl;obtain⟨W4,hW4⟩:∃ W4,Hid (W4=W3.drew.alloc (.cells #[kv,vv] 223)):=⟨_,rfl⟩
 have B4:Below W3.heap.size W3 W4:=by rw[hW4.out]; exact ai (bH W3) (aa W3.drew _)
 have V4:Blk W4 W3.heap.size [kv,vv] 223:=by rw[hW4.out]; exact au W3.drew [kv,vv] _
 have hs4:W4.heap.size=W3.heap.size + 1:=by rw[hW4.out]; simp
 have t1:Calls Tryz.prog 218 #[.slice none 0 0,.int .i64 0,.slice (some ⟨W3.heap.size,0,none⟩) 1 1] W4 fun e w'=>∃ b2 c2,e=.returned (.slice (some ⟨b2,0,none⟩) 1 c2)/\b2=W3.heap.size + 1/\Rw w' 223 2 b2 1 c2 [kv,vv]/\Below W4.heap.size W4 w':=(vm V4).mono (by
  rintro e w' ⟨c',rfl,h1,h2⟩;exact⟨_,c',rfl,hs4,h1,h2⟩)
 have hcg1:W4.cell? ⟨g,0,none⟩=_:=(B4.cell (p:=⟨g,0,none⟩) (aA cg3)).trans cg3
 have hx01:W4.cell? ⟨w.heap.size,0,none⟩=_:=(B4.cell (p:=⟨w.heap.size,0,none⟩) (aA x03)).trans x03
 have hx11:W4.cell? ⟨w.heap.size,1,none⟩=_:=(B4.cell (p:=⟨w.heap.size,1,none⟩) (aA x13)).trans x13
 have hcG1:W4.cell? ⟨G,0,none⟩=_:=(B4.cell (p:=⟨G,0,none⟩) (aA cG3)).trans cG3
 have cgd:W3.drew.cell? ⟨g,0,none⟩=_:=cg3
 have x0d:W3.drew.cell? ⟨w.heap.size,0,none⟩=_:=x03
 have x1d:W3.drew.cell? ⟨w.heap.size,1,none⟩=_:=x13
 have cGd:W3.drew.cell? ⟨G,0,none⟩=_:=cG3
 have hgG:g≠G:=fun e=>hGg e.symm
 have hxG:w.heap.size≠G:=fun e=>by
  obtain⟨ds,k⟩:=R3.kind;exact dB X3 k (by decide) e
 have hin:0 < 1:=by decide
 have hS1:=(show _/\_/\_ from⟨hcg1,hx01,hx11⟩)
 have hcG1':=hcG1;rw[hW4.out] at hS1 hcG1' t1
 have hpp:Tryz.prog.underlying 170=some (.slice 220):=by kernel_rfl
 refine nq (X:=Nat × Nat) (fun x=>[(some 23,.pointer (some ⟨g,0,none⟩)),(some 24,.pointer (some ⟨g,0,none⟩)),(some 25,.pointer (some ⟨g,0,none⟩)),(some 26,.slice (some ⟨G,0,none⟩) 1 C),(some 27,.int .i64 0),(some 28,.pointer (some ⟨g,0,none⟩)),(some 29,.pointer (some ⟨g,0,none⟩)),(some 30,.pointer (some ⟨g,0,none⟩)),(some 31,.slice (some ⟨G,0,none⟩) 1 C),(some 32,.int .i64 0),(some 33,.pointer (some ⟨G,0,none⟩)),(some 34,.slice none 0 0),(some 35,.int .i64 0),(some 36,.agg #[kv,vv]),(some 37,.slice (some ⟨W3.heap.size,0,none⟩) 1 1),(some 38,.slice (some ⟨x.1,0,none⟩) 1 x.2),(some 39,.pointer (some ⟨G,0,none⟩))]) (fun x w'=>∃ w2,w'=w2.setCell ⟨G,0,none⟩ (.slice (some ⟨x.1,0,none⟩) 1 x.2)/\x.1=W3.heap.size + 1/\Rw w2 223 2 x.1 1 x.2 [kv,vv]/\Below W4.heap.size W4 w2) (fun w'=>w'.cell? ⟨g,0,none⟩=some (.slice (some ⟨G,0,none⟩) 1 C)/\w'.cell? ⟨w.heap.size,0,none⟩=some kv/\w'.cell? ⟨w.heap.size,1,none⟩=some vv) (by kernel_rfl) ⟨cgd,x0d,x1d⟩ ?_ ?_
 ·have hS:=(show _/\_/\_ from⟨cgd,x0d,x1d⟩)
  refine ae 0 (some 23) (.pointer (some ⟨g,0,none⟩)) (by kernel_rfl) (fun _ _=>by kernel_rfl) (fun _ _ _ h=>h) hS ?_
  refine ae 1 (some 24) (.pointer (some ⟨g,0,none⟩)) (by kernel_rfl) (fun _ _=>by kernel_rfl) (fun _ _ _ h=>h) hS ?_
  refine ae 2 (some 25) (.pointer (some ⟨g,0,none⟩)) (by kernel_rfl) (fun _ _=>by kernel_rfl) (fun _ _ _ h=>h) hS ?_
  refine aB 3 (some 26) (.slice (some ⟨G,0,none⟩) 1 C) 170 25 (g) (0) (by kernel_rfl) (by kernel_rfl) (by kernel_rfl) (fun w' h=>fj h.1) (fun _ _ _ h=>h) hS ?_
  refine ae 4 (some 27) (.int .i64 0) (by kernel_rfl) (fun _ _=>by kernel_rfl) (fun _ _ _ h=>h) hS ?_
  refine ae 5 (some 28) (.pointer (some ⟨g,0,none⟩)) (by kernel_rfl) (fun _ _=>by kernel_rfl) (fun _ _ _ h=>h) hS ?_
  refine ae 6 (some 29) (.pointer (some ⟨g,0,none⟩)) (by kernel_rfl) (fun _ _=>by kernel_rfl) (fun _ _ _ h=>h) hS ?_
  refine ae 7 (some 30) (.pointer (some ⟨g,0,none⟩)) (by kernel_rfl) (fun _ _=>by kernel_rfl) (fun _ _ _ h=>h) hS ?_
  refine aB 8 (some 31) (.slice (some ⟨G,0,none⟩) 1 C) 170 30 (g) (0) (by kernel_rfl) (by kernel_rfl) (by kernel_rfl) (fun w' h=>fj h.1) (fun _ _ _ h=>h) hS ?_
  refine ae 9 (some 32) (.int .i64 0) (by kernel_rfl) (fun _ _=>by kernel_rfl) (fun _ _ _ h=>h) hS ?_
  refine ae 10 (some 33) (.pointer (some ⟨G,0,none⟩)) (by kernel_rfl) (fun _ _=>b8 (x:=31) (y:=32) (n:=1) (c:=C) (by kernel_rfl) hpp (by kernel_rfl) (by kernel_rfl) (rfl) (hin)) (fun _ _ _ h=>h) hS ?_
  refine ae 12 (some 35) (.int .i64 0) (by kernel_rfl) (fun _ _=>by kernel_rfl) (fun _ _ _ h=>h) hS ?_
  refine aB 13 (some 36) (.agg #[kv,vv]) 223 7 (w.heap.size) (0) (by kernel_rfl) (by kernel_rfl) (by kernel_rfl) (fun w' h=>ld_e h.2.1 h.2.2) (fun _ _ _ h=>h) hS ?_
  refine aC [11,14] (by kernel_rfl) (by simp) ?_
  refine aZ 11 (some 34) (.slice none 0 0) _ (by kernel_rfl) (ix 33 (by kernel_rfl) (by kernel_rfl) (nM cGd)) hS ?_ (aZ 14 (some 37) (.slice (some ⟨W3.heap.size,0,none⟩) 1 1) _ (by kernel_rfl) (oq (k:=36) (by kernel_rfl) (by kernel_rfl)) hS1 ?_ aL)
  ·refine aC [14] (by kernel_rfl) (by simp) ?_
   refine aZ 14 (some 37) (.slice (some ⟨W3.heap.size,0,none⟩) 1 1) _ (by kernel_rfl) (oq (k:=36) (by kernel_rfl) (by kernel_rfl)) hS1 ?_ aL;refine aM 15 (some 38) 218 #[.slice none 0 0,.int .i64 0,.slice (some ⟨W3.heap.size,0,none⟩) 1 1] (by kernel_rfl) (by kernel_rfl) t1 ?_
   rintro e' w2 ⟨b2,c2,rfl,hb2,R2,C2⟩;rw[<- hW4.out] at C2
   have cg2:w2.cell? ⟨g,0,none⟩=_:=(C2.cell (p:=⟨g,0,none⟩) (aA hcg1)).trans hcg1
   have x02:w2.cell? ⟨w.heap.size,0,none⟩=_:=(C2.cell (p:=⟨w.heap.size,0,none⟩) (aA hx01)).trans hx01
   have x12:w2.cell? ⟨w.heap.size,1,none⟩=_:=(C2.cell (p:=⟨w.heap.size,1,none⟩) (aA hx11)).trans hx11
   have cG2:w2.cell? ⟨G,0,none⟩=_:=(C2.cell (p:=⟨G,0,none⟩) (aA hcG1)).trans hcG1
   have fG2:w2.frozen? ⟨G,0,none⟩=false:=((R3.keep B4).keep C2).free 0;refine⟨_,rfl,⟨cg2,x02,x12⟩,?_⟩;replace hS:=(show _/\_/\_ from⟨cg2,x02,x12⟩)
   refine ae 16 (some 39) (.pointer (some ⟨G,0,none⟩)) (by kernel_rfl) (fun _ _=>b8 (x:=26) (y:=27) (n:=1) (c:=C) (by kernel_rfl) hpp (by kernel_rfl) (by kernel_rfl) (rfl) (hin)) (fun _ _ _ h=>h) hS ?_
   refine aC [17] (by kernel_rfl) (by simp) ?_
   refine cJ 17 (w2.setCell ⟨G,0,none⟩ (.slice (some ⟨b2,0,none⟩) 1 c2)) (by kernel_rfl) (jg 39 38 (by kernel_rfl) (by kernel_rfl) (by kernel_rfl) cG2 fG2) ⟨bR hgG cg2,bR hxG x02,bR hxG x12⟩ ?_ aL;refine aP (by kernel_rfl) ?_
   exact⟨(b2,c2),by kernel_rfl,w2,rfl,hb2,R2,C2⟩
  ·refine aC [11] (by kernel_rfl) (by simp) ?_
   refine aZ 11 (some 34) (.slice none 0 0) _ (by kernel_rfl) (ix 33 (by kernel_rfl) (by kernel_rfl) (nM hcG1')) hS1 ?_ aL;refine aM 15 (some 38) 218 #[.slice none 0 0,.int .i64 0,.slice (some ⟨W3.heap.size,0,none⟩) 1 1] (by kernel_rfl) (by kernel_rfl) t1 ?_
   rintro e' w2 ⟨b2,c2,rfl,hb2,R2,C2⟩;rw[<- hW4.out] at C2
   have cg2:w2.cell? ⟨g,0,none⟩=_:=(C2.cell (p:=⟨g,0,none⟩) (aA hcg1)).trans hcg1
   have x02:w2.cell? ⟨w.heap.size,0,none⟩=_:=(C2.cell (p:=⟨w.heap.size,0,none⟩) (aA hx01)).trans hx01
   have x12:w2.cell? ⟨w.heap.size,1,none⟩=_:=(C2.cell (p:=⟨w.heap.size,1,none⟩) (aA hx11)).trans hx11
   have cG2:w2.cell? ⟨G,0,none⟩=_:=(C2.cell (p:=⟨G,0,none⟩) (aA hcG1)).trans hcG1
   have fG2:w2.frozen? ⟨G,0,none⟩=false:=((R3.keep B4).keep C2).free 0;refine⟨_,rfl,⟨cg2,x02,x12⟩,?_⟩;replace hS:=(show _/\_/\_ from⟨cg2,x02,x12⟩)
   refine ae 16 (some 39) (.pointer (some ⟨G,0,none⟩)) (by kernel_rfl) (fun _ _=>b8 (x:=26) (y:=27) (n:=1) (c:=C) (by kernel_rfl) hpp (by kernel_rfl) (by kernel_rfl) (rfl) (hin)) (fun _ _ _ h=>h) hS ?_
   refine aC [17] (by kernel_rfl) (by simp) ?_
   refine cJ 17 (w2.setCell ⟨G,0,none⟩ (.slice (some ⟨b2,0,none⟩) 1 c2)) (by kernel_rfl) (jg 39 38 (by kernel_rfl) (by kernel_rfl) (by kernel_rfl) cG2 fG2) ⟨bR hgG cg2,bR hxG x02,bR hxG x12⟩ ?_ aL;refine aP (by kernel_rfl) ?_
   exact⟨(b2,c2),by kernel_rfl,w2,rfl,hb2,R2,C2⟩
 rintro⟨b2,c4⟩ w' ⟨w4,rfl,hb2,R4,D4⟩;dsimp only at hb2 R4;simp only[gW,Act.put,List.setIfInBounds_toArray,List.set_cons_zero,List.set_cons_succ]
 have hB34:Below W3.heap.size W3 w4:=ai B4 D4;subst hb2;have hg4:=(hg3.keep hB34).off hgG (i:=0) (.slice (some ⟨W3.heap.size + 1,0,none⟩) 1 c4);have R5:=(R3.keep hB34).set 0 (by simp) (.slice (some ⟨W3.heap.size + 1,0,none⟩) 1 c4)
 have hNG:W3.heap.size + 1≠G:=by have:=R3.lt; omega
 have R6:Rw (w4.setCell ⟨G,0,none⟩ (.slice (some ⟨W3.heap.size + 1,0,none⟩) 1 c4)) 223 2 (W3.heap.size + 1) 1 c4 [kv,vv]:=R4.same (Below.heap_setCell w4 _ _ _ hNG)
 have E6:EnA (w4.setCell ⟨G,0,none⟩ (.slice (some ⟨W3.heap.size + 1,0,none⟩) 1 c4)) D ⟨kv,kl,vv,vl⟩:=((hoff3 _ hE).keep hB34).off fun b hb hk=>by
  obtain⟨cs,k⟩:=hk;obtain⟨ds,k'⟩:=(R3.keep hB34).kind;exact Below.heap_setCell w4 _ _ b (dB k k' (by decide))
 have C6:Chg F w (w4.setCell ⟨G,0,none⟩ (.slice (some ⟨W3.heap.size + 1,0,none⟩) 1 c4)):=(C03.trans (Chg.of (F:=F) hB34) (fun _ _ h=>h)).cell hFG _;have cg5:=hg4.cell (i:=0) rfl;have cG5:=R5.cell (i:=0) rfl
 have hfin:bj (w4.setCell ⟨G,0,none⟩ (.slice (some ⟨W3.heap.size + 1,0,none⟩) 1 c4)) (fun x=>x=g\/x=G\/x=W3.heap.size + 1) D g [⟨W3.heap.size + 1,c4,[⟨kv,kl,vv,vl⟩]⟩]:=by
  refine⟨⟨_,hg4,.inl rfl,.inr ⟨G,C,rfl,.inr (.inl rfl),R5⟩⟩,fun p hp => ?_,by simp,fun b hb => ?_⟩
  ·simp at hp;subst hp;exact⟨⟨R6,fun e he=>by simp at he; subst he; exact E6⟩,.inr (.inr rfl)⟩
  ·rcases hb with rfl | rfl | rfl
   ·exact⟨_,_,hg4,by decide⟩
   ·obtain⟨ds,k⟩:=R5.kind;exact⟨ds,_,k,by decide⟩
   ·obtain⟨ds,k⟩:=R6.kind;exact⟨ds,_,k,by decide⟩
 generalize (w4.setCell ⟨G,0,none⟩ (.slice (some ⟨W3.heap.size + 1,0,none⟩) 1 c4))=W6 at *;go_wp2;go_end0;refine⟨_,_,rfl,?_,hfin,fun b hb => ?_,C6⟩
 ·rfl
 ·rcases hb with rfl | rfl | rfl
  ·exact .inl hFg
  ·exact hFG
  ·exact .inr (by omega)
end
end Pg
end
section
namespace Pg
open Go.RowKit Go.Lib
section
variable {es:List En}{k ul:List Int}{L:List Pg}{w:World}{i g:Nat}{cs:List Value}{v u kv:Value}{F D:Nat->Prop}
def has(P:List (List En))(k:List Int):Bool := !P.isEmpty && thr (kys (P.getD (pgi P k) [])) k
def got(P:List (List En))(k:List Int):List Int:=((P.getD (pgi P k) [])[plc (kys (P.getD (pgi P k) [])) k]?.map En.vl).getD []
def eH(P:List (List En))(e:En):List (List En) :=
 if P=[] then [[e]]
 else
  let i:=pgi P e.kl
  let es:=P.getD i []
  let q:=plc (kys es) e.kl
  if thr (kys es) e.kl then P.set i (es.modify q fun x=>{ x with vv:=e.vv,vl:=e.vl }) else pw P i q e
theorem j7(h:thr (kys es) k=true):∃ e,es[plc (kys es) k]? = some e/\e.kl=k:=by
 simp only[thr,decide_eq_true_eq,kys,List.getElem?_map] at h;obtain⟨e,he,hk⟩:=Option.map_eq_some_iff.1 h;exact⟨e,he,hk⟩
theorem qZ(h:L≠[]):ens L≠[]:=fun e=>h (by simpa[ens] using e)
theorem mP(h:L≠[])(k:List Int):∃ p,L[pgi (ens L) k]? = some p/\(ens L).getD (pgi (ens L) k) []=p.es:=by
 have:=pgi_lt (qZ h) k;simp only[ens,List.length_map] at this;refine⟨L[pgi (ens L) k]'this,List.getElem?_eq_getElem _,?_⟩;exact eh (List.getElem?_eq_getElem _)
theorem vK{G:Nat}{t:TypeId}(h:Blk w G cs t)(hi:cs[i]? = some v)(b:Nat):(w.setCell ⟨G,i,none⟩ v).heap[b]? = w.heap[b]? := by
 by_cases e:b=G
 ·subst e;have h1:=(h.setCell (i:=i) v).blk;rw[h1,h.blk];have:cs.set i v=cs:=by
   obtain⟨hl,rfl⟩:=List.getElem?_eq_some_iff.1 hi;exact List.set_getElem_self hl
  rw[this]
 ·exact Below.heap_setCell w _ v b e
theorem bj.upd{w1:World}{q:Nat}{p:Pg}{e:En}(A:bj w F D g L)(hi:L[i]? = some p)(he:p.es[q]? = some e)(B:Below w.heap.size w w1)(hu:OB w1 (w.heap.size <= ·) u ul) :
  bj (w1.setCell ⟨p.b,q * 2 + 1,none⟩ u) F (fun b=>D b\/w.heap.size<=b) g (L.set i ⟨p.b,p.c,p.es.set q { e with vv:=u,vl:=ul }⟩)/\Chg F w (w1.setCell ⟨p.b,q * 2 + 1,none⟩ u):=by
 have hil:=(List.getElem?_eq_some_iff.1 hi).1
 have hL:L≠[]:=fun e=>by subst e; simp at hil
 obtain⟨G,C,hg,hFg,hFG,hR⟩:=A.opn hL;have hp:=A.br p (List.mem_of_getElem? hi);have hql:=(List.getElem?_eq_some_iff.1 he).1
 have hC:Chg (· = p.b) w (w1.setCell ⟨p.b,q * 2 + 1,none⟩ u):=(Chg.of (F:=(· = p.b)) B).cell (.inl rfl) _
 have hoff:∀ {v:Value} {l:List Int} {D':Nat->Prop},OB w1 D' v l->OB (w1.setCell ⟨p.b,q * 2 + 1,none⟩ u) D' v l:=fun h=>⟨h.oct,h.ex.imp id (by
  rintro⟨b,c,e,hd,hR'⟩;refine⟨b,c,e,hd,hR'.same (Below.heap_setCell w1 _ _ b ?_)⟩;obtain⟨ds,k⟩:=hR'.kind;obtain⟨ds',k'⟩:=(hp.1.row.keep B).kind;exact dB k k' (by decide))⟩
 have hrow:Rw (w1.setCell ⟨p.b,q * 2 + 1,none⟩ u) 223 2 p.b p.es.length p.c (flat (p.es.set q { e with vv:=u,vl:=ul })) :=
  ((hp.1.row.keep B).set (q * 2 + 1) (by rw[fQ]; omega) u).to (lp u ul he)
 have hA:PgA (w1.setCell ⟨p.b,q * 2 + 1,none⟩ u) (fun b=>D b\/w.heap.size<=b) ⟨p.b,p.c,p.es.set q { e with vv:=u,vl:=ul }⟩:=by
  refine⟨by simpa using hrow,fun e' he' => ?_⟩;obtain⟨j,hj⟩:=List.getElem?_of_mem he';rw[List.getElem?_set] at hj;by_cases ej:q=j
  ·subst ej;rw[if_pos rfl,if_pos hql] at hj
   cases hj;have he0:=hp.1.cQ e (List.mem_of_getElem? he);exact⟨(hoff (he0.k.keep B)).mono (fun _ _ h=>.inl h),(hoff hu).mono (fun _ _ h=>.inr h)⟩
  ·rw[if_neg ej] at hj;have he0:=hp.1.cQ e' (List.mem_of_getElem? hj);exact⟨(hoff (he0.k.keep B)).mono (fun _ _ h=>.inl h),(hoff (he0.v.keep B)).mono (fun _ _ h=>.inl h)⟩
 obtain⟨A2,C2⟩:=A.put (p':=⟨p.b,p.c,p.es.set q { e with vv:=u,vl:=ul }⟩) (D':=fun b=>D b\/w.heap.size<=b) hg hFg hFG hR hi hC (.inl rfl) hA (fun _ _ h=>.inl h)
 have hv:(⟨p.b,p.c,p.es.set q { e with vv:=u,vl:=ul }⟩:Pg).v=p.v:=by simp[Pg.v]
 rw[hv] at A2 C2
 have hRG:Rw (w1.setCell ⟨p.b,q * 2 + 1,none⟩ u) 220 1 G L.length C (L.map Pg.v):=hR.chg hC (fun e=>hp.1.ep hR e.symm)
 have hsame:∀ b,((w1.setCell ⟨p.b,q * 2 + 1,none⟩ u).setCell ⟨G,i,none⟩ p.v).heap[b]? = (w1.setCell ⟨p.b,q * 2 + 1,none⟩ u).heap[b]? := fun b=>by
  obtain⟨sp,h,_⟩:=hRG.ex;exact vK h (by rw[List.getElem?_append_left (by simpa using hil)]; simp[hi]) b
 have hFF:∀ x,((F x/\x≠p.b)\/x=p.b)<->F x:=fun x=>⟨fun h=>h.elim (fun h=>h.1) (fun h=>by subst h; exact hp.2),fun h=>by
  by_cases ex:x=p.b
  ·exact .inr ex
  ·exact .inl ⟨h,ex⟩⟩
 have A3:=A2.same (w':=w1.setCell ⟨p.b,q * 2 + 1,none⟩ u) (fun b _=>(hsame b).symm) (fun b _ _ _=>(hsame b).symm);rw[show (fun x=>(F x/\x≠p.b)\/x=p.b)=F from funext fun x=>propext (hFF x)] at A3;exact⟨A3,⟨hC.os,hC.tape,hC.output,hC.size,fun b hb hf=>hC.same b hb fun e=>hf (by subst e; exact hp.2)⟩⟩
theorem zd(A:bj w F D g L)(O:Ord (ens L))(hs:∀ es∈ens L,es.length<=1000)(hn:L.length<=100000000)(h:By w kv k)(hb:∀ p∈L,∀ e∈p.es,e.vl.length<=1000000000) :
  Calls Tryz.prog 144 #[.pointer (some ⟨g,0,none⟩),kv] w fun e w'=>∃ v,e=.returned (.tuple #[v,.bool (has (ens L) k)])/\OB w' (w.heap.size <= ·) v (if has (ens L) k then got (ens L) k else [])/\Below w.heap.size w w':=by
 by_cases hL:L=[]
 ·subst hL;have t:=lB (v:=kv) A
  have e1:has (ens []) k=false:=rfl;rw[e1];clear A O hs hb h;go_enter Tryz.func144,Tryz.ntmps144;go_wp2_with (go_at_call 157; refine t.mono ?_; rintro e' w1 ⟨rfl,rfl⟩);go_ret2;exact⟨_,rfl,⟨fun _ h=>by simp at h,.inl ⟨rfl,rfl⟩⟩,Below.refl _ _⟩
 ·obtain⟨p,hp,hpe⟩:=mP hL k;have hpm:=List.mem_of_getElem? hp;have t:=jW A O h (by omega) hp (by have:=hs p.es (List.mem_map.2 ⟨p,hpm,rfl⟩); omega);obtain⟨G,C,hg,hFg,hFG,hR⟩:=A.opn hL;have hlt:=(List.getElem?_eq_some_iff.1 hp).1
  have hh:has (ens L) k=thr (kys p.es) k:=by
   unfold has;rw[hpe];have:(ens L).isEmpty=false:=by simp[ens,hL]
   simp[this]
  have hg':got (ens L) k=((p.es)[plc (kys p.es) k]?.map En.vl).getD []:=by unfold got; rw[hpe]
  rw[hh];by_cases ht:thr (kys p.es) k=true
  ·obtain⟨e,he,hek⟩:=j7 ht;rw[he] at hg';simp only[Option.map_some,Option.getD_some] at hg';rw[ht,if_pos rfl,hg'];rw[ht] at t;have cg:=hg.cell (i:=0) rfl;have cG:=hR.cell (i:=pgi (ens L) k) (v:=p.v) (by simp[hp]);have hE:=(A.br p hpm).1.cQ e (List.mem_of_getElem? he);have cv:=(A.br p hpm).1.row.cell (jB he)
   have tC:∀ w',Below w.heap.size w w'->Calls Tryz.prog 137 #[e.vv] w' _:=fun w' hB=>bZ (hE.v.keep hB).by (hb p hpm e (List.mem_of_getElem? he))
   have hql:=(List.getElem?_eq_some_iff.1 he).1;generalize pgi (ens L) k=i at *;generalize plc (kys p.es) k=q at *
   have z1:(i:Int) < L.length:=by omega
   have z2:(q:Int) < p.es.length:=by omega
   simp only[Pg.v] at cG;generalize L.length=n at *;generalize p.es.length=m at *;clear A O hs hb h hR hg hE ht;go_enter Tryz.func144,Tryz.ntmps144;go_wp2_with (first | (go_at_call 157; refine t.mono ?_; rintro e' w1 ⟨rfl,hB⟩; have cg1:w1.cell? ⟨g,0,none⟩=_:=(hB.cell (p:=⟨g,0,none⟩) (aA cg)).trans cg; have cG1:w1.cell? ⟨G,i,none⟩=_:=(hB.cell (p:=⟨G,i,none⟩) (aA cG)).trans cG; have cv1:w1.cell? ⟨p.b,q * 2 + 1,none⟩=_:=(hB.cell (p:=⟨p.b,q * 2 + 1,none⟩) (aA cv)).trans cv; have tC1:=tC w1 hB; clear t tC) | (go_at_call 137; refine tC1.mono ?_; rintro e' w2 ⟨v',rfl,hO,hB2⟩));go_ret2;exact⟨v',rfl,hO.mono (fun b _ hb=>Nat.le_trans hB.size hb),ai hB hB2⟩
  ·have ht':thr (kys p.es) k=false:=by simpa using ht
   rw[ht'] at t ⊢;generalize pgi (ens L) k=i at *;generalize plc (kys p.es) k=q at *;clear A O hs hb h hR hg ht ht' hh hg';go_enter Tryz.func144,Tryz.ntmps144;go_wp2_with (go_at_call 157; refine t.mono ?_; rintro e' w1 ⟨rfl,hB⟩);go_ret2;exact⟨_,rfl,⟨fun _ h=>by simp at h,.inl ⟨rfl,rfl⟩⟩,hB⟩
end
end Pg
end
section
namespace Pg
open Go.RowKit Go.Lib
section
variable {es:List En}{q g:Nat}{w:World}{D F:Nat->Prop}{v l k:List Int}{L:List Pg}{kv vv:Value}
theorem th{e:En}(h:es[q]? = some e)(f:En->En):es.modify q f=es.set q (f e):=by
 have hl:=(List.getElem?_eq_some_iff.1 h).1;apply List.ext_getElem?;intro j;rw[List.getElem?_modify,List.getElem?_set];by_cases e:q=j
 ·subst e; rw[if_pos rfl,if_pos hl,h]; simp
 ·rw[if_neg e]; simp[e]
theorem OB.shape{v:Value}(h:OB w D v l):∃ ao c,v=.slice ao l.length c:=by
 rcases h.ex with⟨rfl,rfl⟩ | ⟨b,c,rfl,_⟩
 ·exact⟨none,0,rfl⟩
 ·exact⟨_,c,rfl⟩
def SetR(w w':World)(F D:Nat->Prop)(g:Nat)(L:List Pg)(k v:List Int):Prop :=
 ∃ F' L' nk nv,ens L'=eH (ens L) ⟨nk,k,nv,v⟩/\bj w' F' (fun b=>D b\/w.heap.size<=b) g L'/\(∀ b,F' b->F b\/w.heap.size<=b)/\Chg F w w'
theorem uM{F D:Nat → Prop}{p:Pg}(A : bj w F D g L)(O : Ord (ens L))(hs : p.es.length ≤ 1000)(hn : L.length ≤ 100000000)(h : By w kv k)(hv : By w vv v)(hvl : v.length ≤ 1000000000)(hL : L ≠ [])(hp : L[pgi (ens L) k]? = some p)(hpe : (ens L).getD (pgi (ens L) k) [] = p.es)(ht : thr (kys p.es) k = true) :
    Calls Tryz.prog 107 #[.pointer (some ⟨g, 0, none⟩), kv, vv] w fun e w' => e = .returned (.bool false) ∧ SetR w w' F D g L k v := by
  have t := jW A O h (by omega) hp (by omega);obtain⟨G, C, hg, hFg, hFG, hR⟩:= A.opn hL;obtain⟨e, he, hek⟩:= j7 ht;have hpm := List.mem_of_getElem? hp;have hlt := (List.getElem?_eq_some_iff.1 hp).1;have hql := (List.getElem?_eq_some_iff.1 he).1
  have hS : ∀ u, eH (ens L) ⟨e.kv, k, u, v⟩ = (ens L).set (pgi (ens L) k) (p.es.set (plc (kys p.es) k) { e with vv := u, vl := v }) := fun u => by
    unfold eH;rw[if_neg (qZ hL)];simp only[hpe];rw[if_pos ht, th he]
  have hS : Hid _ := hS;rw[ht] at t;have cg := hg.cell (i := 0) rfl;have cG := hR.cell (i := pgi (ens L) k) (v := p.v) (by simp[hp])
  have tC : ∀ w', Below w.heap.size w w' → Calls Tryz.prog 137 #[vv] w' _ := fun w' hB => bZ (hv.keep hB) hvl
  have hPA := (A.br p hpm).1;have cv := hPA.row.cell (jB he);have fv := hPA.row.free (plc (kys p.es) k * 2 + 1)
  have n1 : g ≠ p.b := fun e => hPA.et hg e.symm
  have n2 : G ≠ p.b := fun e => hPA.ep hR e.symm
  generalize hgi : pgi (ens L) k = i at *;generalize hgq : plc (kys p.es) k = q at *
  have hgi : Hid _ := hgi
  have hgq : Hid _ := hgq
  have z1 : (i : Int) < L.length := by omega
  have z2 : (q : Int) < p.es.length := by omega
  simp only[Pg.v] at cG;generalize hln : L.length = n at *;generalize hlm : p.es.length = m at *
  have hln : Hid _ := hln
  have hlm : Hid _ := hlm;clear ht hpe;have mixed := mixed;go_enter Tryz.func107, Tryz.ntmps107;go_wp2_with (first | (go_at_call 157; refine t.mono ?_; rintro e' w1 ⟨rfl, hB⟩))
  have cg1 : w1.drew.cell? ⟨g, 0, none⟩ = some (.slice (some ⟨G, 0, none⟩) n C) := (hB.cell (p := ⟨g, 0, none⟩) (aA cg)).trans cg
  have cG1 : w1.drew.cell? ⟨G, i, none⟩ = some (.slice (some ⟨p.b, 0, none⟩) m p.c) := (hB.cell (p := ⟨G, i, none⟩) (aA cG)).trans cG
  have hB1 : Below w.heap.size w w1.drew := ai hB (bH w1);have tC1 := tC w1.drew hB1;go_region_held3 (fun w' => w'.cell? ⟨g, 0, none⟩ = some (.slice (some ⟨G, 0, none⟩) n C) ∧ w'.cell? ⟨G, i, none⟩ = some (.slice (some ⟨p.b, 0, none⟩) m p.c)) (first | exact⟨by assumption, by assumption⟩ | exact⟨bR n1 (by assumption), bR n2 (by assumption)⟩)
    (first
    | (go_at_call 137; refine tC1.mono ?_; rintro e' w2 ⟨v', rfl, hO, hB2⟩; obtain⟨aq, cq, rfl⟩:= hO.shape; have cg2 : w2.cell? ⟨g, 0, none⟩ = _ := (hB2.cell (p := ⟨g, 0, none⟩) (aA cg1)).trans cg1; have cG2 : w2.cell? ⟨G, i, none⟩ = _ := (hB2.cell (p := ⟨G, i, none⟩) (aA cG1)).trans cG1; have hB3 := ai hB1 hB2; have cv2 : w2.cell? ⟨p.b, q * 2 + 1, none⟩ = _ := (hB3.cell (p := ⟨p.b, q * 2 + 1, none⟩) (aA cv)).trans cv; have fv2 : w2.frozen? ⟨p.b, q * 2 + 1, none⟩ = false := (hPA.row.keep hB3).free _))
  all_goals (
    have hO' : OB w2 (w.heap.size ≤ ·) (.slice aq v.length cq) v := hO.mono (fun b _ hb => Nat.le_trans hB1.size hb);obtain⟨A2, C2⟩:= A.upd hp he hB3 hO';generalize (w2.setCell ⟨p.b, q * 2 + 1, none⟩ (.slice aq v.length cq)) = W3 at *;go_wp2;go_ret;exact⟨rfl, F, _, e.kv, .slice aq v.length cq, by rw[hS.out, m9], A2, fun b hb => .inl hb, C2⟩)
theorem gJ{i:Nat}(A:bj w F D g L)(h:By w kv k)(hv:By w vv v)(hkl:k.length<=1000000000)(hvl:v.length<=1000000000)(t:Calls Tryz.prog 157 #[.pointer (some ⟨g,0,none⟩),kv] w fun e w'=>e=.returned (.tuple #[.int .i64 i,.int .i64 q,.bool false])/\Below w.heap.size w w')(tI:∀ (w':World) (nk nv:Value),bj w' F (fun b=>D b\/w.heap.size<=b) g L->EnA w' (fun b=>D b\/w.heap.size<=b) ⟨nk,k,nv,v⟩->Calls Tryz.prog 158 #[.pointer (some ⟨g,0,none⟩),.int .i64 i,.int .i64 q,.agg #[nk,nv]] w' fun e' w''=>∃ F' L',e'=.returned (.tuple #[])/\ens L'=eH (ens L) ⟨nk,k,nv,v⟩/\bj w'' F' (fun b=>D b\/w.heap.size<=b) g L'/\(∀ b,F' b->F b\/w'.heap.size<=b)/\Chg F w' w'') :
  Calls Tryz.prog 107 #[.pointer (some ⟨g,0,none⟩),kv,vv] w fun e w'=>e=.returned (.bool true)/\SetR w w' F D g L k v:=by
 have tC:∀ w',Below w.heap.size w w'->Calls Tryz.prog 137 #[kv] w' _:=fun w' hB=>bZ (h.keep hB) hkl
 have tV:∀ w',Below w.heap.size w w'->Calls Tryz.prog 137 #[vv] w' _:=fun w' hB=>bZ (hv.keep hB) hvl
 have mk:True:=trivial;clear h hv;go_enter Tryz.func107,Tryz.ntmps107;go_wp2_with (first
  | (go_at_call 157; refine t.mono ?_; rintro e' w1 ⟨rfl,hB⟩; have tC1:=tC w1 hB; clear t tC)
  | (go_at_call 137; clear mk; refine tC1.mono ?_; rintro e' w2 ⟨nk,rfl,hO,hB2⟩; have hBB:=ai hB hB2; have tV1:=tV w2 hBB; clear tC1 tV; obtain⟨aq,cq,rfl⟩:=hO.shape)
  | (go_at_call 137; refine tV1.mono ?_; rintro e' w3 ⟨nv,rfl,hO3,hB3⟩; clear tV1; obtain⟨ar,cr,rfl⟩:=hO3.shape; have hB0:=ai hBB hB3; have tI1:=tI w3 _ _ ((A.keep hB0).mono (fun _ _ h=>.inl h)) ⟨(hO.keep hB3).mono (fun b _ hb=>.inr (Nat.le_trans hB.size hb)),hO3.mono (fun b _ hb=>.inr (Nat.le_trans hBB.size hb))⟩)
  | (go_at_call 158; refine tI1.mono ?_; rintro e' w4 ⟨F',L',rfl,hE,hA,hF,hC⟩))
 go_ret;exact⟨rfl,F',L',_,_,hE,hA,fun b hb=>(hF b hb).imp id (fun h=>Nat.le_trans hB0.size h),(Chg.of (F:=F) hB0).trans hC (fun _ _ h=>h)⟩
theorem zH(A:bj w F D g L)(O:Ord (ens L))(hs:∀ es∈ens L,es.length<=32)(hn:L.length<=100000000)(h:By w kv k)(hv:By w vv v)(hkl:k.length<=1000000000)(hvl:v.length<=1000000000) :
  Calls Tryz.prog 107 #[.pointer (some ⟨g,0,none⟩),kv,vv] w fun e w'=>e=.returned (.bool (!has (ens L) k))/\SetR w w' F D g L k v:=by
 by_cases hL:L=[]
 ·subst hL;refine gJ (i:=0) (q:=0) A h hv hkl hvl ((lB A).mono ?_) (fun w' nk nv A' E'=>(mT A' E').mono ?_)
  ·rintro e w' ⟨rfl,rfl⟩; exact⟨rfl,Below.refl _ _⟩
  ·rintro e w'' ⟨F',L',rfl,hE,hA,hF,hC⟩;exact⟨F',L',rfl,hE,hA,hF,hC⟩
 ·obtain⟨p,hp,hpe⟩:=mP hL k;have hpm:=List.mem_of_getElem? hp;have hps:=hs p.es (List.mem_map.2 ⟨p,hpm,rfl⟩)
  have hh:has (ens L) k=thr (kys p.es) k:=by
   unfold has;rw[hpe];have:(ens L).isEmpty=false:=by simp[ens,hL]
   simp[this]
  rw[hh];by_cases ht:thr (kys p.es) k=true
  ·rw[ht];exact uM A O (by omega) hn h hv hvl hL hp hpe ht
  ·have ht':thr (kys p.es) k=false:=by simpa using ht
   have t:=jW A O h (by omega) hp (by omega);rw[ht'] at t ⊢;have hql:=n8 (kys p.es) k;simp only[kys,List.length_map] at hql;refine gJ A h hv hkl hvl t (fun w' nk nv A' E'=>(qs A' hp (q:=plc (kys p.es) k) hql hps hn E').mono ?_);rintro e w'' ⟨F',L',rfl,hE,hA,hF,hC⟩;refine⟨F',L',rfl,?_,hA,hF,hC⟩;rw[hE];unfold eH;rw[if_neg (qZ hL)];simp only[hpe];rw[if_neg (by rw[ht']; decide)]
end
end Pg
end
section
namespace Pg
open Go.RowKit Go.Lib
section
variable {w:World}{v:Value}{F D:Nat->Prop}{L:List Pg}
def jnb(P:List (List En))(i:Nat):Bool:=decide (i + 1 < P.length) && decide ((P.getD i []).length + (P.getD (i + 1) []).length<=16)
def jnQ(P:List (List En))(i:Nat):List (List En):=P.take i ++ [P.getD i [] ++ P.getD (i + 1) []] ++ P.drop (i + 2)
theorem jn_neg:Calls Tryz.prog 278 #[v,.int .i64 (-1)] w fun e w'=>e=.returned (.bool false)/\Below w.heap.size w w':=by
 have mixed:=mixed;go_enter Tryz.func278,Tryz.ntmps278;go_wp2;go_region;go_wp2;go_ret;exact⟨rfl,bH w⟩
theorem wo{g i:Nat}(A:bj w F D g L)(hi:i < L.length)(hn:L.length<=100000000)(hs:∀ es∈ens L,es.length<=1000) :
  Calls Tryz.prog 278 #[.pointer (some ⟨g,0,none⟩),.int .i64 i] w fun e w'=>e=.returned (.bool (jnb (ens L) i))/\Below w.heap.size w w':=by
 have hL:L≠[]:=fun e=>by subst e; simp at hi
 obtain⟨G,C,hg,hFg,hFG,hR⟩:=A.opn hL;have cg:=hg.cell (i:=0) rfl
 have hel:(ens L).length=L.length:=by simp[ens]
 have mixed:=mixed
 have w1:IntKind.i64.wrap ((i:Int) + 1)=(i:Int) + 1:=by rw[IntKind.wrap_i64]; omega
 have p0:(0:Int)<=(i:Int):=by omega
 by_cases h1:i + 1 < L.length
 ·obtain⟨p,hp⟩:∃ p,L[i]? = some p:=⟨L[i],List.getElem?_eq_getElem hi⟩
  obtain⟨p2,hp2⟩:∃ p2,L[i + 1]? = some p2:=⟨L[i + 1],List.getElem?_eq_getElem h1⟩
  have cG:=hR.cell (i:=i) (v:=p.v) (by simp[hp]);have cG2:=hR.cell (i:=i + 1) (v:=p2.v) (by simp[hp2]);have s1:=hs p.es (List.mem_map.2 ⟨p,List.mem_of_getElem? hp,rfl⟩);have s2:=hs p2.es (List.mem_map.2 ⟨p2,List.mem_of_getElem? hp2,rfl⟩)
  have hj:Hid (jnb (ens L) i=decide ((p.es.length:Int) + (p2.es.length:Int)<=16)):=by
   show _=_
   unfold jnb;rw[hel,decide_eq_true h1,eh hp,eh hp2,Bool.true_and];congr 1
   exact propext ⟨fun h=>by omega,fun h=>by omega⟩
  simp only[Pg.v] at cG cG2;generalize hln:L.length=n at *;generalize p.es.length=x at *;generalize p2.es.length=y at *
  have z1:(i:Int) + 1 < n:=by omega
  have z2:(i:Int) < n:=by omega
  have z3:((i:Int) + 1).toNat=i + 1:=by omega
  have z4:(0:Int)<=(i:Int) + 1:=by omega
  have z5:IntKind.i64.wrap ((x:Int) + (y:Int))=(x:Int) + (y:Int):=by rw[IntKind.wrap_i64]; omega
  have cgd:w.drew.cell? ⟨g,0,none⟩=some (.slice (some ⟨G,0,none⟩) n C):=cg
  have cGd:w.drew.cell? ⟨G,i,none⟩=some (.slice (some ⟨p.b,0,none⟩) x p.c):=cG
  have cG2d:w.drew.cell? ⟨G,i + 1,none⟩=some (.slice (some ⟨p2.b,0,none⟩) y p2.c):=cG2;clear A hs hR hg hln;go_enter Tryz.func278,Tryz.ntmps278;go_wp2
  have hpp:Tryz.prog.underlying 170=some (.slice 220):=by kernel_rfl
  have hin:i < n:=hi;refine aU (S:=fun w'=>w'.cell? ⟨g,0,none⟩=some (.slice (some ⟨G,0,none⟩) n C)/\w'.cell? ⟨G,i,none⟩=some (.slice (some ⟨p.b,0,none⟩) x p.c)/\w'.cell? ⟨G,i + 1,none⟩=some (.slice (some ⟨p2.b,0,none⟩) y p2.c)) (by kernel_rfl) ⟨cgd,cGd,cG2d⟩ ?_
  have hS:=(show _/\_/\_ from⟨cgd,cGd,cG2d⟩)
  refine ae 0 (some 5) (.int .i64 i) (by kernel_rfl) (fun _ _=>by kernel_rfl) (fun _ _ _ h=>h) hS ?_
  refine gU 1 (some 6) (.bool (decide ((0:Int)<=(i:Int)))) (.bool true) (by rw[decide_eq_true p0]) (by kernel_rfl) (fun _ _=>by kernel_rfl) (fun _ _ _ h=>h) hS ?_
  refine ae 2 (some 7) (.bool true) (by kernel_rfl) (fun _ _=>by kernel_rfl) (fun _ _ _ h=>h) hS ?_
  refine ae 3 (some 8) (.int .i64 i) (by kernel_rfl) (fun _ _=>by kernel_rfl) (fun _ _ _ h=>h) hS ?_
  refine gU 4 (some 9) (.int .i64 (IntKind.i64.wrap ((i:Int) + 1))) (.int .i64 ((i:Int) + 1)) (by rw[w1]) (by kernel_rfl) (fun _ _=>by kernel_rfl) (fun _ _ _ h=>h) hS ?_
  refine ae 5 (some 10) (.pointer (some ⟨g,0,none⟩)) (by kernel_rfl) (fun _ _=>by kernel_rfl) (fun _ _ _ h=>h) hS ?_
  refine ae 6 (some 11) (.pointer (some ⟨g,0,none⟩)) (by kernel_rfl) (fun _ _=>by kernel_rfl) (fun _ _ _ h=>h) hS ?_
  refine ae 7 (some 12) (.pointer (some ⟨g,0,none⟩)) (by kernel_rfl) (fun _ _=>by kernel_rfl) (fun _ _ _ h=>h) hS ?_
  refine aB 8 (some 13) (.slice (some ⟨G,0,none⟩) n C) 170 12 (g) (0) (by kernel_rfl) (by kernel_rfl) (by kernel_rfl) (fun w' h=>fj h.1) (fun _ _ _ h=>h) hS ?_
  refine ae 9 (some 14) (.int .i64 n) (by kernel_rfl) (fun _ _=>by kernel_rfl) (fun _ _ _ h=>h) hS ?_
  refine gU 10 (some 15) (.bool (decide ((i:Int) + 1 < (n:Int)))) (.bool true) (by rw[decide_eq_true (by omega)]) (by kernel_rfl) (fun _ _=>by kernel_rfl) (fun _ _ _ h=>h) hS ?_
  refine ae 11 (some 16) (.bool true) (by kernel_rfl) (fun _ _=>by kernel_rfl) (fun _ _ _ h=>h) hS ?_
  refine ae 12 (some 17) (.bool true) (by kernel_rfl) (fun _ _=>by kernel_rfl) (fun _ _ _ h=>h) hS ?_
  refine ae 13 (some 18) (.pointer (some ⟨g,0,none⟩)) (by kernel_rfl) (fun _ _=>by kernel_rfl) (fun _ _ _ h=>h) hS ?_
  refine ae 14 (some 19) (.pointer (some ⟨g,0,none⟩)) (by kernel_rfl) (fun _ _=>by kernel_rfl) (fun _ _ _ h=>h) hS ?_
  refine ae 15 (some 20) (.pointer (some ⟨g,0,none⟩)) (by kernel_rfl) (fun _ _=>by kernel_rfl) (fun _ _ _ h=>h) hS ?_
  refine aB 16 (some 21) (.slice (some ⟨G,0,none⟩) n C) 170 20 (g) (0) (by kernel_rfl) (by kernel_rfl) (by kernel_rfl) (fun w' h=>fj h.1) (fun _ _ _ h=>h) hS ?_
  refine ae 17 (some 22) (.int .i64 i) (by kernel_rfl) (fun _ _=>by kernel_rfl) (fun _ _ _ h=>h) hS ?_
  refine ae 18 (some 23) (.pointer (some ⟨G,i,none⟩)) (by kernel_rfl) (fun _ _=>b8 (x:=21) (y:=22) (n:=n) (c:=C) (by kernel_rfl) hpp (by kernel_rfl) (by kernel_rfl) (rfl) (hin)) (fun _ _ _ h=>h) hS ?_
  refine aB 19 (some 24) (.slice (some ⟨p.b,0,none⟩) x p.c) 220 23 (G) (i) (by kernel_rfl) (by kernel_rfl) (by kernel_rfl) (fun w' h=>nM h.2.1) (fun _ _ _ h=>h) hS ?_
  refine ae 20 (some 25) (.int .i64 x) (by kernel_rfl) (fun _ _=>by kernel_rfl) (fun _ _ _ h=>h) hS ?_
  refine ae 21 (some 26) (.pointer (some ⟨g,0,none⟩)) (by kernel_rfl) (fun _ _=>by kernel_rfl) (fun _ _ _ h=>h) hS ?_
  refine ae 22 (some 27) (.pointer (some ⟨g,0,none⟩)) (by kernel_rfl) (fun _ _=>by kernel_rfl) (fun _ _ _ h=>h) hS ?_
  refine ae 23 (some 28) (.pointer (some ⟨g,0,none⟩)) (by kernel_rfl) (fun _ _=>by kernel_rfl) (fun _ _ _ h=>h) hS ?_
  refine aB 24 (some 29) (.slice (some ⟨G,0,none⟩) n C) 170 28 (g) (0) (by kernel_rfl) (by kernel_rfl) (by kernel_rfl) (fun w' h=>fj h.1) (fun _ _ _ h=>h) hS ?_
  refine ae 25 (some 30) (.int .i64 i) (by kernel_rfl) (fun _ _=>by kernel_rfl) (fun _ _ _ h=>h) hS ?_
  refine gU 26 (some 31) (.int .i64 (IntKind.i64.wrap ((i:Int) + 1))) (.int .i64 ((i:Int) + 1)) (by rw[w1]) (by kernel_rfl) (fun _ _=>by kernel_rfl) (fun _ _ _ h=>h) hS ?_
  refine ae 27 (some 32) (.pointer (some ⟨G,i + 1,none⟩)) (by kernel_rfl) (fun _ _=>b8 (x:=29) (y:=31) (n:=n) (c:=C) (by kernel_rfl) hpp (by kernel_rfl) (by kernel_rfl) (show ((i:Int) + 1)=((i + 1:Nat):Int) from by omega) (h1)) (fun _ _ _ h=>h) hS ?_
  refine aB 28 (some 33) (.slice (some ⟨p2.b,0,none⟩) y p2.c) 220 32 (G) (i + 1) (by kernel_rfl) (by kernel_rfl) (by kernel_rfl) (fun w' h=>nM h.2.2) (fun _ _ _ h=>h) hS ?_
  refine ae 29 (some 34) (.int .i64 y) (by kernel_rfl) (fun _ _=>by kernel_rfl) (fun _ _ _ h=>h) hS ?_
  refine gU 30 (some 35) (.int .i64 (IntKind.i64.wrap ((x:Int) + (y:Int)))) (.int .i64 ((x:Int) + (y:Int))) (by rw[z5]) (by kernel_rfl) (fun _ _=>by kernel_rfl) (fun _ _ _ h=>h) hS ?_
  refine ae 31 (some 36) (.bool (decide ((x:Int) + (y:Int)<=16))) (by kernel_rfl) (fun _ _=>by kernel_rfl) (fun _ _ _ h=>h) hS ?_
  refine ae 32 (some 37) (.bool (decide ((x:Int) + (y:Int)<=16))) (by kernel_rfl) (fun _ _=>by kernel_rfl) (fun _ _ _ h=>h) hS ?_
  refine ae 33 (some 4) (.bool (decide ((x:Int) + (y:Int)<=16))) (by kernel_rfl) (fun _ _=>by kernel_rfl) (fun _ _ _ h=>h) hS ?_
  refine aP (by kernel_rfl) ?_
  simp only[Act.put,List.setIfInBounds_toArray,List.set_cons_zero,List.set_cons_succ];go_wp2;go_ret;exact⟨by rw[hj.out]; rfl,bH w⟩
 ·have hj:Hid (jnb (ens L) i=false):=by
   show _=_
   unfold jnb;rw[hel,decide_eq_false h1,Bool.false_and]
  generalize hln:L.length=n at *
  have z1:¬ ((i:Int) + 1 < n):=by omega
  have cgd:w.drew.cell? ⟨g,0,none⟩=some (.slice (some ⟨G,0,none⟩) n C):=cg;clear A hs hR hg hln;go_enter Tryz.func278,Tryz.ntmps278;go_wp2;refine aU (S:=fun w'=>w'.cell? ⟨g,0,none⟩=some (.slice (some ⟨G,0,none⟩) n C)) (by kernel_rfl) cgd ?_
  have hS:=cgd;refine ae 0 (some 5) (.int .i64 i) (by kernel_rfl) (fun _ _=>by kernel_rfl) (fun _ _ _ h=>h) hS ?_
  refine gU 1 (some 6) (.bool (decide ((0:Int)<=(i:Int)))) (.bool true) (by rw[decide_eq_true p0]) (by kernel_rfl) (fun _ _=>by kernel_rfl) (fun _ _ _ h=>h) hS ?_
  refine ae 2 (some 7) (.bool true) (by kernel_rfl) (fun _ _=>by kernel_rfl) (fun _ _ _ h=>h) hS ?_
  refine ae 3 (some 8) (.int .i64 i) (by kernel_rfl) (fun _ _=>by kernel_rfl) (fun _ _ _ h=>h) hS ?_
  refine gU 4 (some 9) (.int .i64 (IntKind.i64.wrap ((i:Int) + 1))) (.int .i64 ((i:Int) + 1)) (by rw[w1]) (by kernel_rfl) (fun _ _=>by kernel_rfl) (fun _ _ _ h=>h) hS ?_
  refine ae 5 (some 10) (.pointer (some ⟨g,0,none⟩)) (by kernel_rfl) (fun _ _=>by kernel_rfl) (fun _ _ _ h=>h) hS ?_
  refine ae 6 (some 11) (.pointer (some ⟨g,0,none⟩)) (by kernel_rfl) (fun _ _=>by kernel_rfl) (fun _ _ _ h=>h) hS ?_
  refine ae 7 (some 12) (.pointer (some ⟨g,0,none⟩)) (by kernel_rfl) (fun _ _=>by kernel_rfl) (fun _ _ _ h=>h) hS ?_
  refine aB 8 (some 13) (.slice (some ⟨G,0,none⟩) n C) 170 12 (g) (0) (by kernel_rfl) (by kernel_rfl) (by kernel_rfl) (fun w' h=>fj h) (fun _ _ _ h=>h) hS ?_
  refine ae 9 (some 14) (.int .i64 n) (by kernel_rfl) (fun _ _=>by kernel_rfl) (fun _ _ _ h=>h) hS ?_
  refine gU 10 (some 15) (.bool (decide ((i:Int) + 1 < (n:Int)))) (.bool false) (by rw[decide_eq_false (by omega)]) (by kernel_rfl) (fun _ _=>by kernel_rfl) (fun _ _ _ h=>h) hS ?_
  refine ae 11 (some 16) (.bool false) (by kernel_rfl) (fun _ _=>by kernel_rfl) (fun _ _ _ h=>h) hS ?_
  refine ae 12 (some 17) (.bool false) (by kernel_rfl) (fun _ _=>by kernel_rfl) (fun _ _ _ h=>h) hS ?_
  refine bV 13 (some 18) (by kernel_rfl) (fun _ _ _ h=>h) hS ?_
  refine bV 14 (some 19) (by kernel_rfl) (fun _ _ _ h=>h) hS ?_
  refine bV 15 (some 20) (by kernel_rfl) (fun _ _ _ h=>h) hS ?_
  refine bV 16 (some 21) (by kernel_rfl) (fun _ _ _ h=>h) hS ?_
  refine bV 17 (some 22) (by kernel_rfl) (fun _ _ _ h=>h) hS ?_
  refine bV 18 (some 23) (by kernel_rfl) (fun _ _ _ h=>h) hS ?_
  refine bV 19 (some 24) (by kernel_rfl) (fun _ _ _ h=>h) hS ?_
  refine bV 20 (some 25) (by kernel_rfl) (fun _ _ _ h=>h) hS ?_
  refine bV 21 (some 26) (by kernel_rfl) (fun _ _ _ h=>h) hS ?_
  refine bV 22 (some 27) (by kernel_rfl) (fun _ _ _ h=>h) hS ?_
  refine bV 23 (some 28) (by kernel_rfl) (fun _ _ _ h=>h) hS ?_
  refine bV 24 (some 29) (by kernel_rfl) (fun _ _ _ h=>h) hS ?_
  refine bV 25 (some 30) (by kernel_rfl) (fun _ _ _ h=>h) hS ?_
  refine bV 26 (some 31) (by kernel_rfl) (fun _ _ _ h=>h) hS ?_
  refine bV 27 (some 32) (by kernel_rfl) (fun _ _ _ h=>h) hS ?_
  refine bV 28 (some 33) (by kernel_rfl) (fun _ _ _ h=>h) hS ?_
  refine bV 29 (some 34) (by kernel_rfl) (fun _ _ _ h=>h) hS ?_
  refine bV 30 (some 35) (by kernel_rfl) (fun _ _ _ h=>h) hS ?_
  refine bV 31 (some 36) (by kernel_rfl) (fun _ _ _ h=>h) hS ?_
  refine ae 32 (some 37) (.bool false) (by kernel_rfl) (fun _ _=>by kernel_rfl) (fun _ _ _ h=>h) hS ?_
  refine ae 33 (some 4) (.bool false) (by kernel_rfl) (fun _ _=>by kernel_rfl) (fun _ _ _ h=>h) hS ?_
  refine aP (by kernel_rfl) ?_
  simp only[Act.put,List.setIfInBounds_toArray,List.set_cons_zero,List.set_cons_succ];go_wp2;go_ret;exact⟨by rw[hj.out]; rfl,bH w⟩
end
end Pg
end
section
namespace Pg
open Go.RowKit Go.Lib
section
variable {L:List Pg}{i:Nat}{p p2:Pg}{w:World}{F D:Nat->Prop}
theorem ens_jn{q:Pg}(hp:L[i]? = some p)(hp2:L[i + 1]? = some p2)(hq:q.es=p.es ++ p2.es):ens ((L.set i q).take (i + 1) ++ (L.set i q).drop (i + 2))=jnQ (ens L) i:=by
 have hil:=(List.getElem?_eq_some_iff.1 hp).1;unfold jnQ;rw[eh hp,eh hp2,<- hq]
 have e1:(L.set i q).take (i + 1)=L.take i ++ [q]:=by
  rw[List.take_add_one,List.take_set_of_le (Nat.le_refl _),List.getElem?_set_self hil]; rfl
 rw[e1,List.drop_set_of_lt (by omega)];simp[ens,List.map_take,List.map_drop]
theorem xp{g:Nat}(A:bj w F D g L)(hp:L[i]? = some p)(hp2:L[i + 1]? = some p2)(hn:L.length<=100000000)(h0:0 < p.es.length)(hs1:p.es.length<=1000)(hs2:p2.es.length<=1000) :
  Calls Tryz.prog 279 #[.pointer (some ⟨g,0,none⟩),.int .i64 i] w fun e w'=>∃ F' L',e=.returned (.tuple #[])/\ens L'=jnQ (ens L) i/\bj w' F' D g L'/\(∀ b,F' b->F b\/w.heap.size<=b)/\Chg F w w':=by
 have hil:=(List.getElem?_eq_some_iff.1 hp).1;have hil2:=(List.getElem?_eq_some_iff.1 hp2).1
 have hL:L≠[]:=fun e=>by subst e; simp at hil
 obtain⟨G,C,hg,hFg,hFG,hR⟩:=A.opn hL;have hpA:=A.br p (List.mem_of_getElem? hp);have hpA2:=A.br p2 (List.mem_of_getElem? hp2);have cg:=hg.cell (i:=0) rfl;have cG:=hR.cell (i:=i) (v:=p.v) (by simp[hp]);have cG2:=hR.cell (i:=i + 1) (v:=p2.v) (by simp[hp2]);have hCC:=hR.le;simp only[maxLen] at hCC;obtain⟨n,hnn⟩:∃ n,Hid (L.length=n):=⟨_,rfl⟩
 obtain⟨x,hxx⟩:∃ m,Hid (p.es.length=m):=⟨_,rfl⟩
 obtain⟨y,hyy⟩:∃ m,Hid (p2.es.length=m):=⟨_,rfl⟩
 simp only[Pg.v] at cG cG2;rw[hnn.out] at cg;rw[hxx.out] at cG;rw[hyy.out] at cG2
 have z1:(i:Int) < n:=by have:=hnn.out; omega
 have z2:(i:Int) + 1 < n:=by have:=hnn.out; omega
 have w1:IntKind.i64.wrap ((i:Int) + 1)=(i:Int) + 1:=by rw[IntKind.wrap_i64]; have:=hnn.out; omega
 have z3:((i:Int) + 1).toNat=i + 1:=by omega
 have z4:(0:Int)<=(i:Int) + 1:=by omega
 have cgd:w.drew.cell? ⟨g,0,none⟩=some (.slice (some ⟨G,0,none⟩) n C):=cg
 have cGd:w.drew.cell? ⟨G,i,none⟩=some (.slice (some ⟨p.b,0,none⟩) x p.c):=cG
 have cG2d:w.drew.cell? ⟨G,i + 1,none⟩=some (.slice (some ⟨p2.b,0,none⟩) y p2.c):=cG2
 have hgG:g≠G:=fun e=>hR.et hg e.symm
 obtain⟨W1,hW1⟩:∃ W1,Hid (W1=w.drew.alloc (.cells #[.slice (some ⟨p.b,0,none⟩) x p.c,.slice (some ⟨p2.b,0,none⟩) y p2.c] 220)):=⟨_,rfl⟩
 have B1:Below w.heap.size w W1:=by rw[hW1.out]; exact ai (bH w) (aa w.drew _)
 have V1:Blk W1 w.heap.size [.slice (some ⟨p.b,0,none⟩) x p.c,.slice (some ⟨p2.b,0,none⟩) y p2.c] 220:=by rw[hW1.out]; exact au w.drew _ _
 have t1:=AA V1 ((hxx.out▸hpA.1.row).keep B1) ((hyy.out▸hpA2.1.row).keep B1) (by have:=hxx.out; omega) (by have:=hxx.out; omega) (by have:=hyy.out; omega) hpA.1.one hpA2.1.one
 have hcg1:W1.cell? ⟨g,0,none⟩=_:=(B1.cell (p:=⟨g,0,none⟩) (aA cg)).trans cg
 have hcG1:W1.cell? ⟨G,i,none⟩=_:=(B1.cell (p:=⟨G,i,none⟩) (aA cG)).trans cG
 have hcG21:W1.cell? ⟨G,i + 1,none⟩=_:=(B1.cell (p:=⟨G,i + 1,none⟩) (aA cG2)).trans cG2
 have hin:i < n:=by have:=hnn.out; omega
 have hin2:i + 1 < n:=by have:=hnn.out; omega
 have hS1:=(show _/\_ from⟨hcg1,hcG21⟩)
 rw[hW1.out] at hS1 t1;go_enter Tryz.func279,Tryz.ntmps279;go_wp2
 have hpp:Tryz.prog.underlying 170=some (.slice 220):=by kernel_rfl
 refine nq (X:=Nat × Nat) (fun z=>[(some 4,.pointer (some ⟨g,0,none⟩)),(some 5,.pointer (some ⟨g,0,none⟩)),(some 6,.pointer (some ⟨g,0,none⟩)),(some 7,.slice (some ⟨G,0,none⟩) n C),(some 8,.int .i64 i),(some 9,.pointer (some ⟨g,0,none⟩)),(some 10,.pointer (some ⟨g,0,none⟩)),(some 11,.pointer (some ⟨g,0,none⟩)),(some 12,.slice (some ⟨G,0,none⟩) n C),(some 13,.int .i64 i),(some 14,.pointer (some ⟨G,i,none⟩)),(some 15,.slice (some ⟨p.b,0,none⟩) x p.c),(some 16,.pointer (some ⟨g,0,none⟩)),(some 17,.pointer (some ⟨g,0,none⟩)),(some 18,.pointer (some ⟨g,0,none⟩)),(some 19,.slice (some ⟨G,0,none⟩) n C),(some 20,.int .i64 i),(some 21,.int .i64 ((i:Int) + 1)),(some 22,.pointer (some ⟨G,i + 1,none⟩)),(some 23,.slice (some ⟨p2.b,0,none⟩) y p2.c),(some 24,.slice (some ⟨w.heap.size,0,none⟩) 2 2),(some 25,.slice (some ⟨z.1,0,none⟩) (x + y) z.2),(some 26,.pointer (some ⟨G,i,none⟩))]) (fun z w'=>∃ w2,w'=w2.setCell ⟨G,i,none⟩ (.slice (some ⟨z.1,0,none⟩) (x + y) z.2)/\W1.heap.size<=z.1/\Rw w2 223 2 z.1 (x + y) z.2 (flat p.es ++ flat p2.es)/\Below W1.heap.size W1 w2) (fun w'=>w'.cell? ⟨g,0,none⟩=some (.slice (some ⟨G,0,none⟩) n C)/\w'.cell? ⟨G,i + 1,none⟩=some (.slice (some ⟨p2.b,0,none⟩) y p2.c)) (by kernel_rfl) ⟨cgd,cG2d⟩ ?_ ?_
 ·have hS:=(show _/\_ from⟨cgd,cG2d⟩)
  refine ae 0 (some 4) (.pointer (some ⟨g,0,none⟩)) (by kernel_rfl) (fun _ _=>by kernel_rfl) (fun _ _ _ h=>h) hS ?_
  refine ae 1 (some 5) (.pointer (some ⟨g,0,none⟩)) (by kernel_rfl) (fun _ _=>by kernel_rfl) (fun _ _ _ h=>h) hS ?_
  refine ae 2 (some 6) (.pointer (some ⟨g,0,none⟩)) (by kernel_rfl) (fun _ _=>by kernel_rfl) (fun _ _ _ h=>h) hS ?_
  refine aB 3 (some 7) (.slice (some ⟨G,0,none⟩) n C) 170 6 (g) (0) (by kernel_rfl) (by kernel_rfl) (by kernel_rfl) (fun w' h=>fj h.1) (fun _ _ _ h=>h) hS ?_
  refine ae 4 (some 8) (.int .i64 i) (by kernel_rfl) (fun _ _=>by kernel_rfl) (fun _ _ _ h=>h) hS ?_
  refine ae 5 (some 9) (.pointer (some ⟨g,0,none⟩)) (by kernel_rfl) (fun _ _=>by kernel_rfl) (fun _ _ _ h=>h) hS ?_
  refine ae 6 (some 10) (.pointer (some ⟨g,0,none⟩)) (by kernel_rfl) (fun _ _=>by kernel_rfl) (fun _ _ _ h=>h) hS ?_
  refine ae 7 (some 11) (.pointer (some ⟨g,0,none⟩)) (by kernel_rfl) (fun _ _=>by kernel_rfl) (fun _ _ _ h=>h) hS ?_
  refine aB 8 (some 12) (.slice (some ⟨G,0,none⟩) n C) 170 11 (g) (0) (by kernel_rfl) (by kernel_rfl) (by kernel_rfl) (fun w' h=>fj h.1) (fun _ _ _ h=>h) hS ?_
  refine ae 9 (some 13) (.int .i64 i) (by kernel_rfl) (fun _ _=>by kernel_rfl) (fun _ _ _ h=>h) hS ?_
  refine ae 10 (some 14) (.pointer (some ⟨G,i,none⟩)) (by kernel_rfl) (fun _ _=>b8 (x:=12) (y:=13) (n:=n) (c:=C) (by kernel_rfl) hpp (by kernel_rfl) (by kernel_rfl) (rfl) (hin)) (fun _ _ _ h=>h) hS ?_
  refine ae 12 (some 16) (.pointer (some ⟨g,0,none⟩)) (by kernel_rfl) (fun _ _=>by kernel_rfl) (fun _ _ _ h=>h) hS ?_
  refine ae 13 (some 17) (.pointer (some ⟨g,0,none⟩)) (by kernel_rfl) (fun _ _=>by kernel_rfl) (fun _ _ _ h=>h) hS ?_
  refine ae 14 (some 18) (.pointer (some ⟨g,0,none⟩)) (by kernel_rfl) (fun _ _=>by kernel_rfl) (fun _ _ _ h=>h) hS ?_
  refine aB 15 (some 19) (.slice (some ⟨G,0,none⟩) n C) 170 18 (g) (0) (by kernel_rfl) (by kernel_rfl) (by kernel_rfl) (fun w' h=>fj h.1) (fun _ _ _ h=>h) hS ?_
  refine ae 16 (some 20) (.int .i64 i) (by kernel_rfl) (fun _ _=>by kernel_rfl) (fun _ _ _ h=>h) hS ?_
  refine gU 17 (some 21) (.int .i64 (IntKind.i64.wrap ((i:Int) + 1))) (.int .i64 ((i:Int) + 1)) (by rw[w1]) (by kernel_rfl) (fun _ _=>by kernel_rfl) (fun _ _ _ h=>h) hS ?_
  refine ae 18 (some 22) (.pointer (some ⟨G,i + 1,none⟩)) (by kernel_rfl) (fun _ _=>b8 (x:=19) (y:=21) (n:=n) (c:=C) (by kernel_rfl) hpp (by kernel_rfl) (by kernel_rfl) (show ((i:Int) + 1)=((i + 1:Nat):Int) from by omega) (hin2)) (fun _ _ _ h=>h) hS ?_
  refine aB 19 (some 23) (.slice (some ⟨p2.b,0,none⟩) y p2.c) 220 22 (G) (i + 1) (by kernel_rfl) (by kernel_rfl) (by kernel_rfl) (fun w' h=>nM h.2) (fun _ _ _ h=>h) hS ?_
  refine aC [11] (by kernel_rfl) (by simp) ?_
  refine aZ 11 (some 15) (.slice (some ⟨p.b,0,none⟩) x p.c) _ (by kernel_rfl) (ix 14 (by kernel_rfl) (by kernel_rfl) (nM cGd)) hS ?_ aL;refine aC [20] (by kernel_rfl) (by simp) ?_
  refine aZ 20 (some 24) (.slice (some ⟨w.heap.size,0,none⟩) 2 2) _ (by kernel_rfl) (Az (x:=15) (y:=23) (by kernel_rfl) (by kernel_rfl) (by kernel_rfl)) hS1 ?_ aL;refine aM 21 (some 25) 293 #[.slice (some ⟨w.heap.size,0,none⟩) 2 2] (by kernel_rfl) (by kernel_rfl) t1 ?_
  rintro e' w2 ⟨b2,c2,rfl,hb2,R2,D2⟩;rw[<- hW1.out] at D2 hb2
  have cg2:w2.cell? ⟨g,0,none⟩=_:=(D2.cell (p:=⟨g,0,none⟩) (aA hcg1)).trans hcg1
  have cGi2:w2.cell? ⟨G,i,none⟩=_:=(D2.cell (p:=⟨G,i,none⟩) (aA hcG1)).trans hcG1
  have cGj2:w2.cell? ⟨G,i + 1,none⟩=_:=(D2.cell (p:=⟨G,i + 1,none⟩) (aA hcG21)).trans hcG21
  have fG2:w2.frozen? ⟨G,i,none⟩=false:=((hR.keep B1).keep D2).free i;refine⟨_,rfl,⟨cg2,cGj2⟩,?_⟩;replace hS:=(show _/\_ from⟨cg2,cGj2⟩)
  refine ae 22 (some 26) (.pointer (some ⟨G,i,none⟩)) (by kernel_rfl) (fun _ _=>b8 (x:=7) (y:=8) (n:=n) (c:=C) (by kernel_rfl) hpp (by kernel_rfl) (by kernel_rfl) (rfl) (hin)) (fun _ _ _ h=>h) hS ?_
  refine aC [23] (by kernel_rfl) (by simp) ?_
  refine cJ 23 (w2.setCell ⟨G,i,none⟩ (.slice (some ⟨b2,0,none⟩) (x + y) c2)) (by kernel_rfl) (jg 26 25 (by kernel_rfl) (by kernel_rfl) (by kernel_rfl) cGi2 fG2) ⟨bR hgG cg2,wN (by omega) cGj2⟩ ?_ aL;refine aP (by kernel_rfl) ?_
  exact⟨(b2,c2),by kernel_rfl,w2,rfl,hb2,R2,D2⟩
 rintro⟨b2,c2⟩ w' ⟨w2,rfl,hb2,R2,D2⟩;dsimp only at hb2 R2;simp only[gW,Act.put,List.setIfInBounds_toArray,List.set_cons_zero,List.set_cons_succ]
 have hB2:Below w.heap.size w w2:=ai B1 D2;obtain⟨q,hq⟩:∃ q:Pg,Hid (q=⟨b2,c2,p.es ++ p2.es⟩):=⟨_,rfl⟩
 have hlen:(p.es ++ p2.es).length=x + y:=by rw[List.length_append,hxx.out,hyy.out]
 have hA':PgA w2 D q:=by
  rw[hq.out];refine⟨?_,fun e he => ?_⟩
  ·show Rw w2 _ 2 b2 (p.es ++ p2.es).length c2 _
   rw[hlen,dr]; exact R2
  ·rcases List.mem_append.1 he with h | h
   ·exact(hpA.1.cQ e h).keep hB2
   ·exact(hpA2.1.cQ e h).keep hB2
 have hv':q.v=.slice (some ⟨b2,0,none⟩) (x + y) c2:=by rw[hq.out]; simp only[Pg.v]; rw[hlen]
 have hqb:q.b=b2:=by rw[hq.out]
 have hqe:q.es=p.es ++ p2.es:=by rw[hq.out]
 obtain⟨A3,C3⟩:=A.put (p':=q) (D':=D) hg hFg hFG hR hp (Chg.of hB2) (.inr (by rw[hqb]; exact Nat.le_trans B1.size hb2)) hA' (fun _ _ h=>h);rw[hv',hqb] at A3;rw[hv'] at C3
 have hF3:∀ b,((F b/\b≠p.b)\/b=b2)->F b\/w.heap.size<=b:=fun b h=>h.imp (fun h=>h.1) (fun h=>by rw[h]; exact Nat.le_trans B1.size hb2)
 have hgb3:=(hg.keep hB2).off hgG (i:=i) (.slice (some ⟨b2,0,none⟩) (x + y) c2);generalize (w2.setCell ⟨G,i,none⟩ (.slice (some ⟨b2,0,none⟩) (x + y) c2))=W3 at *;generalize hF3d:(fun x=>(F x/\x≠p.b)\/x=b2)=F3 at A3
 have hF3':∀ b,F3 b->F b\/w.heap.size<=b:=fun b h=>hF3 b (by rw[<- hF3d] at h; exact h)
 obtain⟨G2,D3,hg3,hFg3,hFG3,hR3⟩:=A3.opn (by simp[hL]);obtain⟨rfl,rfl⟩:G2=G/\D3=C:=by
  have:=(hg3.eq hgb3).1;simp at this;exact⟨this.1,this.2⟩
 have cg3:W3.cell? ⟨g,0,none⟩=some (.slice (some ⟨G2,0,none⟩) n D3):=by
  have:=hgb3.cell (i:=0) rfl;rwa [hnn.out] at this
 have hR3':=hR3;rw[List.length_set,hnn.out] at hR3';have t4:=delP (i:=i + 1) hR3' (by have:=hnn.out; omega) (qW _);rw[show ((i + 1:Nat):Int)=(i:Int) + 1 by omega,show (i:Int) + 1 + 1=(i:Int) + 2 by omega] at t4
 have w2':IntKind.i64.wrap ((i:Int) + 2)=(i:Int) + 2:=by rw[IntKind.wrap_i64]; have:=hnn.out; omega
 go_wp2_with (go_at_call 277; refine t4.mono ?_; rintro e' w5 ⟨rfl,R5,C5⟩; have cg5:w5.cell? ⟨g,0,none⟩=_:=(World.cell?_of_block (a:=⟨g,0,none⟩) (C5.same g (aA cg3) hgG)).trans cg3; have fg5:w5.frozen? ⟨g,0,none⟩=false:=(hgb3.chg C5 hgG).free 0);go_end0
 have hsub:((L.set i q).take (i + 1) ++ (L.set i q).drop (i + 2)).Sublist (L.set i q):=by
  have h:=List.Sublist.append (List.Sublist.refl ((L.set i q).take (i + 1))) (List.drop_sublist 1 ((L.set i q).drop (i + 1)));rw[List.drop_drop,List.take_append_drop] at h;exact h
 obtain⟨A6,C6⟩:=jl (w:=W3) (w1:=w5) (F:=F3) (D:=D) (g:=g) (G:=G2) (G':=G2) (C':=D3) (n:=n - 1) (L':=(L.set i q).take (i + 1) ++ (L.set i q).drop (i + 2))
  (fun p hp=>A3.br p (hsub.mem hp)) (A3.apart.sublist (hsub.map _)) A3.kind hgb3 hFg3 hFG3 (fun e=>hgG e.symm) C5 (fun p hp=>(A3.br p (hsub.mem hp)).1.ep hR3)
  (by simp; have:=hnn.out; omega) (by simpa[List.map_take,List.map_drop] using R5)
 refine⟨_,_,rfl,ens_jn hp hp2 hqe,A6,fun b hb => ?_,C3.trans C6 fun b hb h=>(hF3' b h).resolve_right (by omega)⟩;rcases hb with⟨h,_⟩ | rfl
 ·exact hF3' b h
 ·exact hF3' _ hFG3
end
end Pg
end
section
namespace Pg
open Go.RowKit Go.Lib
def rmQ (P:List (List En)) (i q:Nat):List (List En) :=
 let es:=(P.getD i []).take q ++ (P.getD i []).drop (q + 1)
 if es=[] then P.take i ++ P.drop (i + 1)
 else
  let P1:=P.set i es
  if jnb P1 i then jnQ P1 i else if 1<=i/\jnb P1 (i - 1) then jnQ P1 (i - 1) else P1
def fU (P:List (List En)) (k:List Int):List (List En) :=
 if has P k then rmQ P (pgi P k) (plc (kys (P.getD (pgi P k) [])) k) else P
theorem y8 (es:List En) (q:Nat):(flat es).take (q * 2) ++ (flat es).drop ((q + 1) * 2)=flat (es.take q ++ es.drop (q + 1)):=by
 rw[gH,gm,dr]
theorem ry {w:World} {F D:Nat->Prop} {g i q:Nat} {L:List Pg} {p:Pg} (A:bj w F D g L) (hi:L[i]? = some p) (hq:q < p.es.length) (hs:∀ es∈ens L,es.length<=32) (hf:∀ es∈ens L,es≠[]) (hn:L.length<=100000000) :
  Calls Tryz.prog 246 #[.pointer (some ⟨g,0,none⟩),.int .i64 i,.int .i64 q] w fun e' w'=>∃ F' L',e'=.returned (.tuple #[])/\ens L'=rmQ (ens L) i q/\bj w' F' D g L'/\(∀ b,F' b->F b\/w.heap.size<=b)/\Chg F w w':=by
 have hil:=(List.getElem?_eq_some_iff.1 hi).1
 have hL:L≠[]:=fun e=>by subst e; simp at hil
 obtain⟨G,C,hg,hFg,hFG,hR⟩:=A.opn hL;have hp:=A.br p (List.mem_of_getElem? hi);have h2:=hs p.es (List.mem_map.2 ⟨p,List.mem_of_getElem? hi,rfl⟩);have cg:=hg.cell (i:=0) rfl;have cG:=hR.cell (i:=i) (v:=p.v) (by simp[hi]);obtain⟨n,hnn⟩:∃ n,Hid (L.length=n):=⟨_,rfl⟩
 obtain⟨m,hmm⟩:∃ m,Hid (p.es.length=m):=⟨_,rfl⟩
 simp only[Pg.v] at cG;rw[hnn.out] at cg;rw[hmm.out] at cG
 have cgd:w.drew.cell? ⟨g,0,none⟩=some (.slice (some ⟨G,0,none⟩) n C):=cg
 have cGd:w.drew.cell? ⟨G,i,none⟩=some (.slice (some ⟨p.b,0,none⟩) m p.c):=cG
 have hgG:g≠G:=fun e=>hR.et hg e.symm
 have ng:g≠p.b:=fun e=>hp.1.et hg e.symm
 have nG:G≠p.b:=fun e=>hp.1.ep hR e.symm
 have hin:i < n:=by have:=hnn.out; omega
 have w1:IntKind.i64.wrap ((q:Int) + 1)=(q:Int) + 1:=by rw[IntKind.wrap_i64]; omega
 have t1:=delE (i:=q) hp.1.row.drew hq hp.1.one;rw[hmm.out] at t1;go_enter Tryz.func246,Tryz.ntmps246;go_wp2
 have hpp:Tryz.prog.underlying 170=some (.slice 220):=by kernel_rfl
 refine nq (X:=Unit) (fun _=>[(some 6,.pointer (some ⟨g,0,none⟩)),(some 7,.pointer (some ⟨g,0,none⟩)),(some 8,.pointer (some ⟨g,0,none⟩)),(some 9,.slice (some ⟨G,0,none⟩) n C),(some 10,.int .i64 i),(some 11,.pointer (some ⟨g,0,none⟩)),(some 12,.pointer (some ⟨g,0,none⟩)),(some 13,.pointer (some ⟨g,0,none⟩)),(some 14,.slice (some ⟨G,0,none⟩) n C),(some 15,.int .i64 i),(some 16,.pointer (some ⟨G,i,none⟩)),(some 17,.slice (some ⟨p.b,0,none⟩) m p.c),(some 18,.int .i64 q),(some 19,.int .i64 q),(some 20,.int .i64 ((q:Int) + 1)),(some 21,.slice (some ⟨p.b,0,none⟩) (m - 1) p.c),(some 22,.pointer (some ⟨G,i,none⟩))]) (fun _ w'=>∃ w2,w'=w2.setCell ⟨G,i,none⟩ (.slice (some ⟨p.b,0,none⟩) (m - 1) p.c)/\Rw w2 223 2 p.b (m - 1) p.c ((flat p.es).take (q * 2) ++ (flat p.es).drop ((q + 1) * 2))/\Chg (· = p.b) w.drew w2) (fun w'=>w'.cell? ⟨g,0,none⟩=some (.slice (some ⟨G,0,none⟩) n C)) (by kernel_rfl) cgd ?_ ?_
 ·have hS:=cgd;refine ae 0 (some 6) (.pointer (some ⟨g,0,none⟩)) (by kernel_rfl) (fun _ _=>by kernel_rfl) (fun _ _ _ h=>h) hS ?_
  refine ae 1 (some 7) (.pointer (some ⟨g,0,none⟩)) (by kernel_rfl) (fun _ _=>by kernel_rfl) (fun _ _ _ h=>h) hS ?_
  refine ae 2 (some 8) (.pointer (some ⟨g,0,none⟩)) (by kernel_rfl) (fun _ _=>by kernel_rfl) (fun _ _ _ h=>h) hS ?_
  refine aB 3 (some 9) (.slice (some ⟨G,0,none⟩) n C) 170 8 (g) (0) (by kernel_rfl) (by kernel_rfl) (by kernel_rfl) (fun w' h=>fj h) (fun _ _ _ h=>h) hS ?_
  refine ae 4 (some 10) (.int .i64 i) (by kernel_rfl) (fun _ _=>by kernel_rfl) (fun _ _ _ h=>h) hS ?_
  refine ae 5 (some 11) (.pointer (some ⟨g,0,none⟩)) (by kernel_rfl) (fun _ _=>by kernel_rfl) (fun _ _ _ h=>h) hS ?_
  refine ae 6 (some 12) (.pointer (some ⟨g,0,none⟩)) (by kernel_rfl) (fun _ _=>by kernel_rfl) (fun _ _ _ h=>h) hS ?_
  refine ae 7 (some 13) (.pointer (some ⟨g,0,none⟩)) (by kernel_rfl) (fun _ _=>by kernel_rfl) (fun _ _ _ h=>h) hS ?_
  refine aB 8 (some 14) (.slice (some ⟨G,0,none⟩) n C) 170 13 (g) (0) (by kernel_rfl) (by kernel_rfl) (by kernel_rfl) (fun w' h=>fj h) (fun _ _ _ h=>h) hS ?_
  refine ae 9 (some 15) (.int .i64 i) (by kernel_rfl) (fun _ _=>by kernel_rfl) (fun _ _ _ h=>h) hS ?_
  refine ae 10 (some 16) (.pointer (some ⟨G,i,none⟩)) (by kernel_rfl) (fun _ _=>b8 (x:=14) (y:=15) (n:=n) (c:=C) (by kernel_rfl) hpp (by kernel_rfl) (by kernel_rfl) (rfl) (hin)) (fun _ _ _ h=>h) hS ?_
  refine ae 12 (some 18) (.int .i64 q) (by kernel_rfl) (fun _ _=>by kernel_rfl) (fun _ _ _ h=>h) hS ?_
  refine ae 13 (some 19) (.int .i64 q) (by kernel_rfl) (fun _ _=>by kernel_rfl) (fun _ _ _ h=>h) hS ?_
  refine gU 14 (some 20) (.int .i64 (IntKind.i64.wrap ((q:Int) + 1))) (.int .i64 ((q:Int) + 1)) (by rw[w1]) (by kernel_rfl) (fun _ _=>by kernel_rfl) (fun _ _ _ h=>h) hS ?_
  refine aC [11] (by kernel_rfl) (by simp) ?_
  refine aZ 11 (some 17) (.slice (some ⟨p.b,0,none⟩) m p.c) _ (by kernel_rfl) (ix 16 (by kernel_rfl) (by kernel_rfl) (nM cGd)) hS ?_ aL;refine aM 15 (some 21) 276 #[.slice (some ⟨p.b,0,none⟩) m p.c,.int .i64 q,.int .i64 ((q:Int) + 1)] (by kernel_rfl) (by kernel_rfl) t1 ?_
  rintro e' w2 ⟨rfl,R2,C2⟩
  have cg2:w2.cell? ⟨g,0,none⟩=_:=(World.cell?_of_block (a:=⟨g,0,none⟩) (C2.same g (aA cgd) ng)).trans cgd
  have cG2:w2.cell? ⟨G,i,none⟩=_:=(World.cell?_of_block (a:=⟨G,i,none⟩) (C2.same _ (aA cGd) nG)).trans cGd
  have fG2:w2.frozen? ⟨G,i,none⟩=false:=(hR.drew.chg C2 nG).free i;refine⟨_,rfl,cg2,?_⟩;replace hS:=cg2;refine ae 16 (some 22) (.pointer (some ⟨G,i,none⟩)) (by kernel_rfl) (fun _ _=>b8 (x:=9) (y:=10) (n:=n) (c:=C) (by kernel_rfl) hpp (by kernel_rfl) (by kernel_rfl) (rfl) (hin)) (fun _ _ _ h=>h) hS ?_
  refine aC [17] (by kernel_rfl) (by simp) ?_
  refine cJ 17 (w2.setCell ⟨G,i,none⟩ (.slice (some ⟨p.b,0,none⟩) (m - 1) p.c)) (by kernel_rfl) (jg 22 21 (by kernel_rfl) (by kernel_rfl) (by kernel_rfl) cG2 fG2) (bR hgG cg2) ?_ aL;refine aP (by kernel_rfl) ?_
  exact⟨(),by kernel_rfl,w2,rfl,R2,C2⟩
 rintro - w' ⟨w2,rfl,R2,C2⟩;simp only[gW,Act.put,List.setIfInBounds_toArray,List.set_cons_zero,List.set_cons_succ]
 have C02:Chg (· = p.b) w w2:=(Chg.of (F:=(· = p.b)) (bH w)).trans C2 (fun _ _ h=>h);obtain⟨p',hp'⟩:∃ p':Pg,Hid (p'=⟨p.b,p.c,p.es.take q ++ p.es.drop (q + 1)⟩):=⟨_,rfl⟩
 have hlen:(p.es.take q ++ p.es.drop (q + 1)).length=m - 1:=by have:=hmm.out; simp; omega
 have hA':PgA w2 D p':=by
  rw[hp'.out];refine⟨?_,fun e he => ?_⟩
  ·show Rw w2 _ 2 p.b (p.es.take q ++ p.es.drop (q + 1)).length p.c _
   rw[hlen]; exact R2.to (y8 p.es q)
  ·have he':e∈p.es:=by
    rcases List.mem_append.1 he with h | h
    ·exact List.mem_of_mem_take h
    ·exact List.mem_of_mem_drop h
   refine(hp.1.cQ e he').off fun b hb hk=>C02.same b hb fun f => ?_
   subst f;obtain⟨cs,k⟩:=hk;obtain⟨ds,k'⟩:=hp.1.row.kind;exact dB k k' (by decide) rfl
 have hv':p'.v=.slice (some ⟨p.b,0,none⟩) (m - 1) p.c:=by rw[hp'.out]; simp only[Pg.v]; rw[hlen]
 have hb':p'.b=p.b:=by rw[hp'.out]
 have he':p'.es=p.es.take q ++ p.es.drop (q + 1):=by rw[hp'.out]
 obtain⟨A3,C3⟩:=A.put (p':=p') (D':=D) hg hFg hFG hR hi C02 (.inl hb') hA' (fun _ _ h=>h);rw[hv',hb'] at A3;rw[hv'] at C3
 have hF3:∀ b,((F b/\b≠p.b)\/b=p.b)->F b:=fun b h=>h.elim (fun h=>h.1) (fun h=>by rw[h]; exact hp.2)
 have cg2:w2.cell? ⟨g,0,none⟩=_:=(World.cell?_of_block (a:=⟨g,0,none⟩) (C02.same g (aA cg) ng)).trans cg
 have cG2:w2.cell? ⟨G,i,none⟩=_:=(World.cell?_of_block (a:=⟨G,i,none⟩) (C02.same _ (aA cG) nG)).trans cG
 have cg3:(w2.setCell ⟨G,i,none⟩ (.slice (some ⟨p.b,0,none⟩) (m - 1) p.c)).cell? ⟨g,0,none⟩=some (.slice (some ⟨G,0,none⟩) n C):=bR hgG cg2
 have cG3:(w2.setCell ⟨G,i,none⟩ (.slice (some ⟨p.b,0,none⟩) (m - 1) p.c)).cell? ⟨G,i,none⟩=some (.slice (some ⟨p.b,0,none⟩) (m - 1) p.c):=World.cell?_setCell_same' _ _ _ (by rw[cG2]; rfl);have hgb3:=(hg.chg C02 ng).off hgG (i:=i) (.slice (some ⟨p.b,0,none⟩) (m - 1) p.c);generalize (w2.setCell ⟨G,i,none⟩ (.slice (some ⟨p.b,0,none⟩) (m - 1) p.c))=W3 at *;generalize hF3d:(fun x=>(F x/\x≠p.b)\/x=p.b)=F3 at A3
 have hF3':∀ b,F3 b->F b:=fun b h=>hF3 b (by rw[<- hF3d] at h; exact h)
 have hi3:(L.set i p')[i]? = some p':=by rw[List.getElem?_set_self hil]
 have hE3:ens (L.set i p')=(ens L).set i (p.es.take q ++ p.es.drop (q + 1)):=by rw[m9,he']
 have hs3:∀ es∈ens (L.set i p'),es.length<=32:=fun es he=>by
  rw[hE3] at he;rcases List.mem_or_eq_of_mem_set he with h | h
  ·exact hs es h
  ·rw[h,hlen]; have:=hmm.out; omega
 have hln3:(L.set i p').length=n:=by rw[List.length_set]; exact hnn.out
 have hX:p.es.take q ++ p.es.drop (q + 1)=[]\/p.es.take q ++ p.es.drop (q + 1)≠[]:=Classical.em _
 have hRm:Hid (rmQ (ens L) i q=if p.es.take q ++ p.es.drop (q + 1)=[] then (ens L).take i ++ (ens L).drop (i + 1) else if jnb (ens (L.set i p')) i then jnQ (ens (L.set i p')) i else if 1<=i/\jnb (ens (L.set i p')) (i - 1) then jnQ (ens (L.set i p')) (i - 1) else ens (L.set i p')):=by
  show _=_
  unfold rmQ;rw[eh hi,hE3]
 rcases hX with hX | hX
 ·have hm1:m=1:=by rw[hX] at hlen; simp at hlen; have:=hmm.out; omega
  obtain⟨G2,D3,hg3,hFg3,hFG3,hR3⟩:=A3.opn (by simp[hL]);obtain⟨rfl,rfl⟩:G2=G/\D3=C:=by
   have:=(hg3.eq hgb3).1;simp at this;exact⟨this.1,this.2⟩
  have hR3':=hR3;rw[hln3] at hR3';have t4:=delP (i:=i) hR3' (by omega) (qW _)
  have w3:IntKind.i64.wrap ((i:Int) + 1)=(i:Int) + 1:=by rw[IntKind.wrap_i64]; have:=hnn.out; omega
  have cG3':W3.cell? ⟨G2,i,none⟩=some (.slice (some ⟨p.b,0,none⟩) 0 p.c):=by rw[hm1] at cG3; exact cG3
  have z1:(i:Int) < n:=by omega
  have hsub:((L.set i p').take i ++ (L.set i p').drop (i + 1)).Sublist (L.set i p'):=by
   have h:=List.Sublist.append (List.Sublist.refl ((L.set i p').take i)) (List.drop_sublist 1 ((L.set i p').drop i));rw[List.drop_drop,List.take_append_drop] at h;exact h
  have hEq:Hid (ens ((L.set i p').take i ++ (L.set i p').drop (i + 1))=rmQ (ens L) i q):=by
   show _=_
   rw[hRm.out,if_pos hX,List.take_set_of_le (Nat.le_refl _),List.drop_set_of_lt (by omega)];simp[ens,List.map_take,List.map_drop]
  have HX:Hid _:=hX;clear hX hRm cG3 hm1;go_wp2_with (go_at_call 277; refine t4.mono ?_; rintro e' w5 ⟨rfl,R5,C5⟩; have cg5:w5.cell? ⟨g,0,none⟩=_:=(World.cell?_of_block (a:=⟨g,0,none⟩) (C5.same g (aA cg3) hgG)).trans cg3; have fg5:w5.frozen? ⟨g,0,none⟩=false:=(hgb3.chg C5 hgG).free 0);go_end0;obtain⟨A6,C6⟩:=jl (w:=W3) (w1:=w5) (F:=F3) (D:=D) (g:=g) (G:=G2) (G':=G2) (C':=D3) (n:=n - 1) (L':=(L.set i p').take i ++ (L.set i p').drop (i + 1))
   (fun p hp=>A3.br p (hsub.mem hp)) (A3.apart.sublist (hsub.map _)) A3.kind hgb3 hFg3 hFG3 (fun e=>hgG e.symm) C5 (fun p hp=>(A3.br p (hsub.mem hp)).1.ep hR3)
   (by simp; have:=hnn.out; omega) (by simpa[List.map_take,List.map_drop] using R5)
  refine⟨_,_,rfl,hEq.out,A6,fun b hb => ?_,C3.trans C6 fun b _ h=>hF3' b h⟩;rcases hb with⟨h,_⟩ | rfl
  ·exact .inl (hF3' b h)
  ·exact .inl (hF3' _ hFG3)
 ·have hm1:0 < m - 1:=by
   rw[<- hlen]; exact List.length_pos_iff.2 hX
  obtain⟨m1,hm2⟩:∃ m1,Hid (m - 1=m1):=⟨_,rfl⟩
  rw[hm2.out] at cG3 hm1
  have z0:¬ ((m1:Int)=0):=by omega
  have z1:(i:Int) < n:=by omega
  have w3:IntKind.i64.wrap ((i:Int) - 1)=(i:Int) - 1:=by rw[IntKind.wrap_i64]; omega
  have hRm2:=hRm.out;rw[if_neg hX] at hRm2
  have hRm:Hid _:=hRm2;clear hRm2
  have HX:Hid _:=hX;clear hX
  have hf3:∀ es∈ens (L.set i p'),es≠[]:=fun es he=>by
   rw[hE3] at he;rcases List.mem_or_eq_of_mem_set he with h | h
   ·exact hf es h
   ·rw[h]; exact HX.out
  have hjn:∀ (W:World) (j:Nat),bj W F3 D g (L.set i p')->jnb (ens (L.set i p')) j=true->Calls Tryz.prog 279 #[.pointer (some ⟨g,0,none⟩),.int .i64 j] W fun e' w'=>∃ F' L',e'=.returned (.tuple #[])/\ens L'=jnQ (ens (L.set i p')) j/\bj w' F' D g L'/\(∀ b,F' b->F3 b\/W.heap.size<=b)/\Chg F3 W w':=fun W j AW hj=>by
   unfold jnb at hj;simp only[Bool.and_eq_true,decide_eq_true_eq] at hj
   have hl:j + 1 < (L.set i p').length:=by have:=hj.1; simpa[ens] using this
   obtain⟨a,ha⟩:∃ a,(L.set i p')[j]? = some a:=⟨_,List.getElem?_eq_getElem (by omega)⟩
   obtain⟨c,hc⟩:∃ c,(L.set i p')[j + 1]? = some c:=⟨_,List.getElem?_eq_getElem hl⟩
   have ma:a.es∈ens (L.set i p'):=List.mem_map.2 ⟨a,List.mem_of_getElem? ha,rfl⟩
   have mc:c.es∈ens (L.set i p'):=List.mem_map.2 ⟨c,List.mem_of_getElem? hc,rfl⟩;have s1:=hs3 _ ma;have s2:=hs3 _ mc;exact xp AW ha hc (by rw[hln3]; have:=hnn.out; omega) (List.length_pos_iff.2 (hf3 _ ma)) (by omega) (by omega)
  have tj:=wo A3 (i:=i) (by omega) (by rw[hln3]; have:=hnn.out; omega) (fun es he=>by have:=hs3 es he; omega);by_cases h1:jnb (ens (L.set i p')) i=true
  ·have hEq:Hid (rmQ (ens L) i q=jnQ (ens (L.set i p')) i):=by show _=_; rw[hRm.out,if_pos h1]
   have t5:∀ W,Below W3.heap.size W3 W->_:=fun W hB=>hjn W i (A3.keep hB) h1
   rw[h1] at tj;clear hjn h1 hRm;go_wp2_with (first
    | (go_at_call 278; refine tj.mono ?_; rintro e' w5 ⟨rfl,hB5⟩; have t6:=t5 w5 hB5; clear t5 tj)
    | (go_at_call 279; refine t6.mono ?_; rintro e' w6 ⟨F6,L6,rfl,hE6,A6,hF6,C6⟩))
   go_end0;refine⟨F6,L6,rfl,hE6.trans hEq.out.symm,A6,fun b hb => ?_,(C3.trans (Chg.of (F:=F) hB5) (fun _ _ h=>h)).trans C6 fun b _ h=>hF3' b h⟩;rcases hF6 b hb with h | h
   ·exact .inl (hF3' b h)
   ·exact .inr (by have:=C3.size; have:=hB5.size; omega)
  ·have h1':jnb (ens (L.set i p')) i=false:=by simpa using h1
   by_cases hi0:i=0
   ·have hEq:Hid (rmQ (ens L) i q=ens (L.set i p')):=by show _=_; rw[hRm.out,if_neg h1,if_neg (by omega)]
    rw[h1'] at tj
    have tn:∀ W:World,Calls Tryz.prog 278 #[.pointer (some ⟨g,0,none⟩),.int .i64 (-1)] W _:=fun W=>jn_neg
    have mk:True:=trivial;clear hjn h1 hRm h1';subst hi0;go_wp2_with (first
     | (go_at_call 278; clear mk; refine tj.mono ?_; rintro e' w5 ⟨rfl,hB5⟩; clear tj)
     | (go_at_call 278; refine(tn _).mono ?_; rintro e' w6 ⟨rfl,hB6⟩))
    go_end0;have hB:=ai hB5 hB6
    first
     | exact⟨F3,_,rfl,hEq.out.symm,A3.keep hB,fun b hb=>.inl (hF3' b hb),C3.trans (Chg.of (F:=F) hB) (fun _ _ h=>h)⟩
     | exact⟨rfl,F3,_,hEq.out.symm,A3.keep hB,fun b hb=>.inl (hF3' b hb),C3.trans (Chg.of (F:=F) hB) (fun _ _ h=>h)⟩
   ·obtain⟨j,rfl⟩:∃ j,i=j + 1:=⟨i - 1,by omega⟩
    have tk:∀ W,Below W3.heap.size W3 W->Calls Tryz.prog 278 #[.pointer (some ⟨g,0,none⟩),.int .i64 j] W _:=fun W hB=>wo (A3.keep hB) (i:=j) (by omega) (by rw[hln3]; have:=hnn.out; omega) (fun es he=>by have:=hs3 es he; omega)
    have e1:((j + 1:Nat):Int) - 1=(j:Int):=by omega
    have e2:(j:Int) + 1 - 1=(j:Int):=by omega
    rw[h1'] at tj
    have mk:True:=trivial
    have mk2:True:=trivial;by_cases h3:jnb (ens (L.set (j + 1) p')) j=true
    ·have hEq:Hid (rmQ (ens L) (j + 1) q=jnQ (ens (L.set (j + 1) p')) j):=by show _=_; rw[hRm.out,if_neg h1,if_pos ⟨by omega,by simpa using h3⟩]; rfl
     have t5:∀ W,Below W3.heap.size W3 W->_:=fun W hB=>hjn W j (A3.keep hB) h3
     rw[h3] at tk;clear hjn h1 hRm h1' h3;go_wp2_with (first
      | (go_at_call 278; clear mk; refine tj.mono ?_; rintro e' w5 ⟨rfl,hB5⟩; have tk1:=tk w5 hB5; clear tj tk)
      | (go_at_call 278; refine tk1.mono ?_; rintro e' w6 ⟨rfl,hB6⟩; have hB:=ai hB5 hB6; have t6:=t5 w6 hB; clear t5 tk1)
      | (go_at_call 279; refine t6.mono ?_; rintro e' w7 ⟨F6,L6,rfl,hE6,A6,hF6,C6⟩))
     go_end0;refine⟨F6,L6,rfl,hE6.trans hEq.out.symm,A6,fun b hb => ?_,(C3.trans (Chg.of (F:=F) hB) (fun _ _ h=>h)).trans C6 fun b _ h=>hF3' b h⟩;rcases hF6 b hb with h | h
     ·exact .inl (hF3' b h)
     ·exact .inr (by have:=C3.size; have:=hB.size; omega)
    ·have h3':jnb (ens (L.set (j + 1) p')) j=false:=by simpa using h3
     have hEq:Hid (rmQ (ens L) (j + 1) q=ens (L.set (j + 1) p')):=by show _=_; rw[hRm.out,if_neg h1,if_neg (fun h=>h3 (by simpa using h.2))]
     rw[h3'] at tk;clear hjn h1 hRm h1' h3 h3';go_wp2_with (first
      | (go_at_call 278; clear mk; refine tj.mono ?_; rintro e' w5 ⟨rfl,hB5⟩; have tk1:=tk w5 hB5; clear tj tk)
      | (go_at_call 278; refine tk1.mono ?_; rintro e' w6 ⟨rfl,hB6⟩; have hB:=ai hB5 hB6; clear tk1))
     go_end0
     first
      | exact⟨F3,_,rfl,hEq.out.symm,A3.keep hB,fun b hb=>.inl (hF3' b hb),C3.trans (Chg.of (F:=F) hB) (fun _ _ h=>h)⟩
      | exact⟨rfl,F3,_,hEq.out.symm,A3.keep hB,fun b hb=>.inl (hF3' b hb),C3.trans (Chg.of (F:=F) hB) (fun _ _ h=>h)⟩
end Pg
end
section
namespace Pg
open Go.RowKit Go.Lib
section
variable {w:World}{F D:Nat->Prop}{L:List Pg}{kv zc z:Value}{k:List Int}
theorem qJ{g:Nat}(A:bj w F D g L)(O:Ord (ens L))(hs:∀ es∈ens L,es.length<=32)(hn:L.length<=100000000)(h:By w kv k) :
  Calls Tryz.prog 182 #[.pointer (some ⟨g,0,none⟩),kv] w fun e w'=>e=.returned (.bool (has (ens L) k))/\∃ F' L',ens L'=fU (ens L) k/\bj w' F' D g L'/\(∀ b,F' b->F b\/w.heap.size<=b)/\Chg F w w':=by
 by_cases hL:L=[]
 ·subst hL;have t:=lB (v:=kv) A
  have e1:has (ens []) k=false:=rfl
  have e2:Hid (fU (ens []) k=ens []):=rfl;rw[e1];have HA:=(show Hid _ from A)
  clear A O hs h;go_enter Tryz.func182,Tryz.ntmps182;go_wp2_with (go_at_call 157; refine t.mono ?_; rintro e' w1 ⟨rfl,rfl⟩);go_ret;exact⟨rfl,F,[],e2.out.symm,HA.out,fun b hb=>.inl hb,Chg.refl _ _⟩
 ·obtain⟨p,hp,hpe⟩:=mP hL k;have hpm:=List.mem_of_getElem? hp;have hps:=hs p.es (List.mem_map.2 ⟨p,hpm,rfl⟩);have t:=jW A O h (by omega) hp (by omega)
  have hh:has (ens L) k=thr (kys p.es) k:=by
   unfold has;rw[hpe];have:(ens L).isEmpty=false:=by simp[ens,hL]
   simp[this]
  rw[hh];by_cases ht:thr (kys p.es) k=true
  ·obtain⟨e,he,hek⟩:=j7 ht;have hql:=(List.getElem?_eq_some_iff.1 he).1
   have hD:Hid (fU (ens L) k=rmQ (ens L) (pgi (ens L) k) (plc (kys p.es) k)):=by
    show _=_
    unfold fU;rw[hh,ht,if_pos rfl,hpe]
   have tR:∀ w',Below w.heap.size w w'->_:=fun w' hB=>ry (A.keep hB) hp hql hs O.full hn
   rw[ht] at t ⊢;generalize pgi (ens L) k=i at *;generalize plc (kys p.es) k=q at *;clear A O hs h ht hh;go_enter Tryz.func182,Tryz.ntmps182;go_wp2_with (first
    | (go_at_call 157; refine t.mono ?_; rintro e' w1 ⟨rfl,hB⟩; have tR1:=tR w1 hB; clear t tR)
    | (go_at_call 246; refine tR1.mono ?_; rintro e' w2 ⟨F',L',rfl,hE,hA,hF,hC⟩))
   go_ret;exact⟨rfl,F',L',hE.trans hD.out.symm,hA,fun b hb=>(hF b hb).imp id (fun h=>Nat.le_trans hB.size h),(Chg.of (F:=F) hB).trans hC (fun _ _ h=>h)⟩
  ·have ht':thr (kys p.es) k=false:=by simpa using ht
   have hD:Hid (fU (ens L) k=ens L):=by
    show _=_
    unfold fU;rw[hh,ht',if_neg (by decide)]
   rw[ht'] at t ⊢;generalize pgi (ens L) k=i at *;generalize plc (kys p.es) k=q at *;have HA:=(show Hid _ from A)
   clear A O hs h ht ht' hh;go_enter Tryz.func182,Tryz.ntmps182;go_wp2_with (go_at_call 157; refine t.mono ?_; rintro e' w1 ⟨rfl,hB⟩);go_ret;exact⟨rfl,F,L,hD.out.symm,HA.out.keep hB,fun b hb=>.inl hb,Chg.of hB⟩
theorem ze:Calls Tryz.prog 48 #[] w fun e w'=>∃ g,e=.returned (.pointer (some ⟨g,0,none⟩))/\g=w.heap.size/\bj w' (· = g) (fun _=>False) g []/\Below w.heap.size w w':=by
 go_enter Tryz.func48,Tryz.ntmps48;go_wp2;go_ret;refine⟨_,rfl,rfl,⟨⟨_,au w [.slice none 0 0] 172,rfl,.inl ⟨rfl,rfl⟩⟩,fun p hp=>by simp at hp,by simp,fun b hb => ?_⟩,aa w _⟩;subst hb;exact⟨_,_,au w [.slice none 0 0] 172,by decide⟩
theorem vU(n:Nat)(hz:zc.cells=#[zc]):madeCells zc.cells n=(List.replicate n zc).toArray:=by
 apply Array.ext
 ·simp[size_madeCells,hz]
 ·intro j h1 h2;simp[madeCells,hz,Nat.mod_one]
theorem yg{P:Program}{T E:TypeId}{bytes:Nat}(H:Kd P T E 1 bytes z)(hz:z.cells=#[z])(n:Nat)(hn:n<=1000000000)(hb:bytes<=1000) :
  ∃ w',(Instr.makeSlice T (.int .i64 n) (.int .i64 n)).run P w=.ok (.slice (some ⟨w.heap.size,0,none⟩) n n) w'/\Rw w' E 1 w.heap.size n n (List.replicate n z)/\Below w.heap.size w w':=by
 obtain⟨i,hi,hz0,hs,hb0⟩:=info_parts H.inf
 have hnb:n * i.bytes<=1000000000 * 1000:=Nat.mul_le_mul hn (by rw[hb0]; exact hb);have hrun:=run_make (P:=P) w T E i z H.und hi hz0 .i64 .i64 (n:Int) (n:Int) (by omega) (by omega) (by
  rw[Int.mul_comm];have:(n:Int) * (i.bytes:Int)=((n * i.bytes:Nat):Int):=by rw[Int.natCast_mul]
  omega) (by omega)
 refine⟨_,by simpa using hrun,?_,aa w _⟩;rw[hs,Nat.mul_one,vU n hz];exact mQ (au w (List.replicate n z) E) (by simp) (by simp only[maxLen]; omega)
end
end Pg
end
section
namespace Pg
open Go.RowKit Go.Lib
section
variable {w:World}{D F:Nat->Prop}{L:List Pg}
structure CpA(w:World)(B:Nat)(D:Nat->Prop)(b n:Nat)(L Q:List Pg):Prop where
 row:Rw w 220 1 b n n (Q.map Pg.v ++ List.replicate (n - Q.length) (.slice none 0 0))
 br:∀ p∈Q,PgA w D p/\B<=p.b
 apart:(Q.map Pg.b).Nodup
 same:ens Q=(ens L).take Q.length
theorem CpA.below{w':World}{B:Nat}{b n:Nat}{Q:List Pg}(h:CpA w B D b n L Q)(hb:Below w.heap.size w w'):CpA w' B D b n L Q:=⟨h.row.keep hb,fun p hp=>⟨(h.br p hp).1.keep hb,(h.br p hp).2⟩,h.apart,h.same⟩
theorem vM{g:Nat}(A:bj w F D g L)(hs:∀ es∈ens L,es.length<=32)(hn:L.length<=100000000) :
  Calls Tryz.prog 90 #[.pointer (some ⟨g,0,none⟩)] w fun e w'=>∃ g' F' L',e=.returned (.pointer (some ⟨g',0,none⟩))/\ens L'=ens L/\bj w' F' D g' L'/\(∀ b,F' b->w.heap.size<=b)/\Below w.heap.size w w':=by
 obtain⟨ao,c,hc,hc1,hc2,hat⟩:=A.rd;obtain⟨n,hnn⟩:∃ n,Hid (L.length=n):=⟨_,rfl⟩
 rw[hnn.out] at hc hc1 hn;have hgl:=aA hc;obtain⟨W1,hr1,R1,B1⟩:=yg (w:=w) KP rfl n (by omega) (by decide)
 have c1:W1.cell? ⟨g,0,none⟩=_:=(B1.cell (p:=⟨g,0,none⟩) hgl).trans hc;go_enter Tryz.func90,Tryz.ntmps90;go_wp2;go_loopw [17] (fun ti wr=>∃ k:Nat,k<=n/\ti=.int .i64 k/\Below w.heap.size w wr/\∃ Q,Q.length=k/\CpA wr (w.heap.size + 1) D w.heap.size n L Q) (fun ti _=>n - (intOf ti).toNat)
 case atStart=>exact⟨0,Nat.zero_le _,rfl,B1,[],rfl,R1.to (by simp),fun p hp=>by simp at hp,by simp,by simp[ens]⟩
 case round =>
  clear R1 B1 c1;obtain⟨k,hk,rfl,hB,Q,hQ,hCp⟩:=hrel;by_cases hlt:k < n
  ·obtain⟨p,hp⟩:∃ p,L[k]? = some p:=⟨L[k]'(by have:=hnn.out; omega),List.getElem?_eq_getElem _⟩
   obtain⟨G,rfl,cG⟩:=hat k p hp
   have cG1:wr.cell? ⟨G,k,none⟩=_:=(hB.cell (p:=⟨G,k,none⟩) (aA cG)).trans cG;simp only[Pg.v] at cG1
   have z1:(k:Int) < n:=by omega
   have hpm:=List.mem_of_getElem? hp;have hpA:=(A.br p hpm).1.keep hB;have hps:=hs p.es (List.mem_map.2 ⟨p,hpm,rfl⟩);have tC:=qR (w:=wr) (a:=⟨p.b,0,none⟩) (n:=p.es.length) (c:=p.c) (xs:=flat p.es) (by omega) (fQ _) (fun j v hj=>by rw[Addr.add_lit,Nat.zero_add]; exact hpA.row.cell hj) hpA.one
   have hQl:(Q.map Pg.v).length=k:=by simp[hQ]
   have hqk:(Q.map Pg.v ++ List.replicate (n - Q.length) (Value.slice none 0 0))[k]? = some (.slice none 0 0):=by rw[List.getElem?_append_right (Nat.le_of_eq hQl),hQl,Nat.sub_self,List.getElem?_replicate,if_pos (by omega)]
   have HC:Hid _:=hCp
   have hwl:w.heap.size < wr.heap.size:=hCp.row.lt
   have hPA:Hid _:=hpA;clear hCp hpA;go_wp2_with (go_at_call 147; refine tC.mono ?_; rintro e' w2 ⟨b2,c2,rfl,hb2,R2,D2⟩; have q2:w2.cell? ⟨w.heap.size,k,none⟩=some (.slice none 0 0):=(HC.out.row.keep D2).cell hqk; have f2:=(HC.out.row.keep D2).free k);have hC2:=HC.out.below D2;have hR3:=(hC2.row.set k (by simp; omega) (.slice (some ⟨b2,0,none⟩) p.es.length c2)).to (ys:=(Q ++ [(⟨b2,c2,p.es⟩:Pg)]).map Pg.v ++ List.replicate (n - (Q ++ [(⟨b2,c2,p.es⟩:Pg)]).length) (.slice none 0 0)) (by
    rw[List.set_append_right _ _ (Nat.le_of_eq hQl),hQl,Nat.sub_self,show n - Q.length=(n - (k + 1)) + 1 by omega,List.replicate_succ,List.set_cons_zero];simp[Pg.v,hQ])
   have hset:∀ b,b≠w.heap.size->(w2.setCell ⟨w.heap.size,k,none⟩ (.slice (some ⟨b2,0,none⟩) p.es.length c2)).heap[b]? = w2.heap[b]? := fun b hb=>Below.heap_setCell w2 _ _ b hb
   have hEn:∀ e,EnA w2 D e->EnA (w2.setCell ⟨w.heap.size,k,none⟩ (.slice (some ⟨b2,0,none⟩) p.es.length c2)) D e:=fun e he=>he.off fun b _ hk=>by
    obtain⟨cs,kk⟩:=hk;obtain⟨ds,k'⟩:=hC2.row.kind;exact hset b (dB kk k' (by decide))
   have hP3:PgA (w2.setCell ⟨w.heap.size,k,none⟩ (.slice (some ⟨b2,0,none⟩) p.es.length c2)) D ⟨b2,c2,p.es⟩:=⟨R2.same (hset _ (by omega)),fun e he=>hEn e ((hPA.out.cQ e he).keep D2)⟩
   have hCp3:CpA (w2.setCell ⟨w.heap.size,k,none⟩ (.slice (some ⟨b2,0,none⟩) p.es.length c2)) (w.heap.size + 1) D w.heap.size n L (Q ++ [⟨b2,c2,p.es⟩]):=by
    refine⟨hR3,fun q hq => ?_,?_,?_⟩
    ·rcases List.mem_append.1 hq with h | h
     ·obtain⟨h1,h2⟩:=hC2.br q h;exact⟨⟨h1.row.same (hset _ (by omega)),fun e he=>hEn e (h1.cQ e he)⟩,h2⟩
     ·simp at h; subst h; exact⟨hP3,by show w.heap.size + 1<=b2; omega⟩
    ·rw[List.map_append,List.nodup_append];refine⟨HC.out.apart,by simp,fun a ha b hb => ?_⟩;simp at hb;subst hb;obtain⟨q,hq,rfl⟩:=List.mem_map.1 ha;have:=(HC.out.br q hq).1.row.lt;omega
    ·have h0:=HC.out.same;rw[List.length_append,hQ,List.length_singleton,List.take_add_one,ke hp];rw[hQ] at h0;rw[<- h0];simp[ens]
   have hB3:Below w.heap.size w (w2.setCell ⟨w.heap.size,k,none⟩ (.slice (some ⟨b2,0,none⟩) p.es.length c2)):=(ai hB D2).setCell (p:=⟨w.heap.size,k,none⟩) (Nat.le_refl _) _;go_roundw
   case rel=>exact⟨k + 1,by omega,by go_num,hB3,_,by simp[hQ],hCp3⟩
   case measure=>simp[intOf]; omega
  ·have hkn:k=n:=by omega
   have z1:¬ ((k:Int) < n):=by omega
   have HC:Hid _:=hCp
   have HK:Hid _:=hkn;clear hCp hkn;go_wp2;go_ret;have e0:=HK.out
   have hl:Q.length=n:=by omega
   have hb4:=aa wr (.cells #[.slice (some ⟨w.heap.size,0,none⟩) n n] 172);have hCp:=HC.out.below hb4;have N4:=au wr [.slice (some ⟨w.heap.size,0,none⟩) n n] 172;have hrow:=hCp.row.to (ys:=Q.map Pg.v) (by rw[hl,Nat.sub_self]; simp);refine⟨wr.heap.size,rfl,fun x=>x=wr.heap.size\/x=w.heap.size\/x∈Q.map Pg.b,Q,?_,⟨⟨_,N4,.inl rfl,.inr ⟨w.heap.size,n,by rw[hl],.inr (.inl rfl),by rw[hl]; exact hrow⟩⟩,fun p hp=>⟨(hCp.br p hp).1,.inr (.inr (List.mem_map.2 ⟨p,hp,rfl⟩))⟩,hCp.apart,fun b hb => ?_⟩,fun b hb => ?_,hB.trans (hb4.mono hB.size)⟩
   ·rw[hCp.same,List.take_of_length_le (by rw[hl]; have:=hnn.out; simp[ens]; omega)]
   ·rcases hb with rfl | rfl | h
    ·exact⟨_,_,N4,by decide⟩
    ·obtain⟨ds,kk⟩:=hrow.kind;exact⟨ds,_,kk,by decide⟩
    ·obtain⟨p,hp,rfl⟩:=List.mem_map.1 h;obtain⟨ds,kk⟩:=(hCp.br p hp).1.row.kind;exact⟨ds,_,kk,by decide⟩
   ·rcases hb with rfl | rfl | h
    ·exact hB.size
    ·exact Nat.le_refl _
    ·obtain⟨p,hp,rfl⟩:=List.mem_map.1 h;have:=(hCp.br p hp).2;omega
end
end Pg
end
end Go.Proofs.YtliajmpchofiiaaGreat
