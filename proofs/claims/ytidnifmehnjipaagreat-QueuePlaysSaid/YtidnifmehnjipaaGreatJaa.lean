import Derived.Test.YtidnifmehnjipaaGreatChecked
import Derived.WalkKit
import Derived.WalkSpells
import Derived.WalkLawsBesides
import Derived.Lib.SliceRun
import Derived.Lib.AppendZerosOnto
import Derived.Lib.Overlaps
import Derived.Lib.Bytealg
import Derived.Lib.JoinLaws
import Derived.Laws.Externs
import Derived.Laws.CopyRow
import Derived.Laws.CopyOwn
import Derived.Laws.Tables
import Derived.Laws.NewBlocks
import Derived.Laws.IdiomCopy
import Derived.Deep.RegionHeld3
import Derived.Deep.RegionLaw
import Derived.Deep.QuietTactic
import Derived.BigQuiet
import Derived.WalkSmall
import Derived.Shelf.RegionOpenPlain
import Derived.OneCell
set_option maxRecDepth 100000
set_option maxHeartbeats 8000000
namespace Go.Proofs.YtidnifmehnjipaaGreat
namespace Pg
open Go.RowKit
section
variable {w w' w1:World}{g i B:Nat}{o:Oper}{v v':Value}{cs ds:List Value}{F F':Nat->Prop}{ops:Array Oper}{a:Act}{K:Act->World->Prop}{E:Prop}
theorem lt_of_block{o:Obj}(h:w.heap[g]?=some o):g < w.heap.size:=(Array.getElem?_eq_some_iff.1 h).1
theorem aH{b o:Nat}(h:w.cell? ⟨b,o,none⟩=some v):b < w.heap.size:=by
 unfold World.cell? at h
 cases hh:w.heap[b]? with
 | none=>simp[hh] at h
 | some ob=>exact lt_of_block hh
structure Blk(w:World)(g:Nat)(cs:List Value)(t:TypeId):Prop where
 blk:w.heap[g]?=some (.cells cs.toArray t (0,0))
theorem Blk.lt{t:TypeId}(h:Blk w g cs t):g < w.heap.size:=lt_of_block h.blk
theorem Blk.cell{t:TypeId}(h:Blk w g cs t)(hi:cs[i]?=some v):w.cell? ⟨g,i,none⟩=some v:=by
 simp only[World.cell?,h.blk];simpa using hi
theorem Blk.free{t:TypeId}(h:Blk w g cs t)(i:Nat):w.frozen? ⟨g,i,none⟩=false:=by
 simp[World.frozen?,h.blk]
theorem Blk.keep{t:TypeId}(h:Blk w g cs t)(hb:Below w.heap.size w w'):Blk w' g cs t:=⟨by rw[hb.block g h.lt];exact h.blk⟩
theorem Blk.eV{t:TypeId}(h:Blk w g cs t)(hb:Below B w w')(hg:g < B):Blk w' g cs t:=⟨by rw[hb.block g hg];exact h.blk⟩
theorem Blk.drew{t:TypeId}(h:Blk w g cs t):Blk w.drew g cs t:=⟨h.blk⟩
theorem aj(w:World)(cs:List Value)(t:TypeId):Blk (w.alloc (.cells cs.toArray t)) w.heap.size cs t:=⟨by
 show (w.heap.push _)[w.heap.size]?=_
 rw[Array.getElem?_push_size]⟩
theorem Blk.row(ds:List Value){t:TypeId}(h:Blk w g cs t):Blk (w.setRow g ds.toArray) g ds t:=⟨by rw[setRow_heap w g _ _ _ _ h.blk]⟩
theorem Blk.same{t:TypeId}(h:Blk w g cs t)(hb:w'.heap[g]?=w.heap[g]?):Blk w' g cs t:=⟨by rw[hb];exact h.blk⟩
theorem Blk.eq{t u:TypeId}(h:Blk w g cs t)(h':Blk w g ds u):cs=ds/\t=u:=by
 have:=h.blk.symm.trans h'.blk;simp at this;exact this
theorem Blk.setCell{t:TypeId}(h:Blk w g cs t)(v:Value):Blk (w.setCell ⟨g,i,none⟩ v) g (cs.set i v) t:=⟨by
 have:=h.blk;simp only[World.setCell,Array.getElem?_modify,if_true,this]
 simp⟩
theorem Blk.off{g':Nat}{t:TypeId}(h:Blk w g cs t)(hne:g≠g')(v:Value):Blk (w.setCell ⟨g',i,none⟩ v) g cs t:=⟨by rw[Below.heap_setCell w _ v g hne];exact h.blk⟩
theorem af(w:World)(o:Obj):Below w.heap.size w (w.alloc o):=(Below.refl _ _).alloc (Nat.le_refl _) _
theorem ai{wa:World}(b:Below w.heap.size w wa)(h:Below wa.heap.size wa w'):Below w.heap.size w w':=b.trans (h.mono b.size)
structure Chg(F:Nat->Prop)(w w':World):Prop where
 os:w'.os=w.os
 tape:w'.tape=w.tape
 output:w'.output=w.output
 size:w.heap.size<=w'.heap.size
 same:∀ b,b < w.heap.size->¬ F b->w'.heap[b]?=w.heap[b]?
theorem Chg.refl(F:Nat->Prop)(w:World):Chg F w w:=⟨rfl,rfl,rfl,Nat.le_refl _,fun _ _ _=>rfl⟩
theorem Chg.of(h:Below w.heap.size w w'):Chg F w w':=⟨h.os,h.tape,h.output,h.size,fun b hb _=>h.block b hb⟩
theorem Chg.nothing(h:Chg (fun _=>False) w w'):Below w.heap.size w w':=⟨h.os,h.tape,h.output,h.size,fun b hb=>h.same b hb id⟩
theorem Chg.below(h:Chg F w w')(hF:∀ b,F b->B<=b)(hB:B<=w.heap.size):Below B w w':=⟨h.os,h.tape,h.output,h.size,fun b hb=>h.same b (by omega) fun f=>by have:=hF b f;omega⟩
theorem Chg.trans{c:World}(h:Chg F w w1)(a:Chg F' w1 c)(hF:∀ b,b < w.heap.size->F' b->F b):Chg F w c :=
 ⟨a.os.trans h.os,a.tape.trans h.tape,a.output.trans h.output,Nat.le_trans h.size a.size,fun b hb hf=>(a.same b (Nat.lt_of_lt_of_le hb h.size) fun f=>hf (hF b hb f)).trans (h.same b hb hf)⟩
theorem Chg.mono(h:Chg F w w1)(hF:∀ b,b < w.heap.size->F b->F' b):Chg F' w w1:=⟨h.os,h.tape,h.output,h.size,fun b hb hf=>h.same b hb fun f=>hf (hF b hb f)⟩
theorem Chg.drew(h:Chg F w w'):Chg F w w'.drew:=⟨h.os,h.tape,h.output,h.size,h.same⟩
theorem Chg.row(h:Chg F w w')(c:F g\/w.heap.size<=g)(ds:Array Value):Chg F w (w'.setRow g ds) :=
 ⟨h.os,h.tape,h.output,by simpa[World.setRow] using h.size,fun b hb hf=>by
  have a:b≠g:=fun e=>by subst e;rcases c with f | f;exact hf f;omega
  exact(setRow_other w' g b ds a).trans (h.same b hb hf)⟩
theorem Chg.cell(h:Chg F w w')(c:F g\/w.heap.size<=g)(v:Value):Chg F w (w'.setCell ⟨g,i,none⟩ v) :=
 ⟨h.os,h.tape,h.output,by simpa[World.setCell] using h.size,fun b hb hf=>by
  have a:b≠g:=fun e=>by subst e;rcases c with f | f;exact hf f;omega
  exact(Below.heap_setCell w' _ v b a).trans (h.same b hb hf)⟩
theorem Chg.alloc(h:Chg F w w')(o:Obj):Chg F w (w'.alloc o):=h.trans (Chg.of (F:=fun _=>False) (af w' o)) (fun _ _ f=>f.elim)
theorem Blk.chg{t:TypeId}(h:Blk w g cs t)(hc:Chg F w w')(hg:¬ F g):Blk w' g cs t:=⟨by rw[hc.same g h.lt hg];exact h.blk⟩
theorem ep{α:Type}(L:List α)(o:Nat)(cs:List α):splice L o cs=L.take o ++ cs ++ L.drop (o+cs.length):=by simp[splice]
theorem yg{P:Program}(w:World)(f n ty elem:TypeId)(k g o dLen dCap:Nat)(a:Addr)(sLen sCap:Nat)(L cs:List Value)(t:TypeId)(hu:P.underlying f=some (.slice elem))(e:(P.info? elem).map (·.size)=some k)(h:Blk w g L t)(m:Nat)(hm:Nat.min sLen dLen=m)(hn:cs.length=m * k)(c:∀ j v,cs[j]?=some v->w.cell? (a.add j)=some v)(b:o+cs.length<=L.length)(l:∀ v∈cs,v.oneCell'=true) :
  (Builtin.copy_ #[f,n] ty #[.slice (some ⟨g,o,none⟩) dLen dCap,.slice (some a) sLen sCap]).run P w =
   .ok (goInt m) (w.setRow g (splice L o cs).toArray):=by
 have p:=run_loadCells_list (P:=P) w a cs c;have d:=run_storeCells_at P g o t cs 0 L.toArray w h.blk (by simpa using b) l
 cases hq:P.info? elem with
 | none=>simp[hq] at e
 | some i =>
  have hi:i.size=k:=by simpa[hq] using e
  simp[Builtin.copy_,run_underlying hu,Builtin.lenOf,Builtin.firstCells,sizeOf,typeInfo,hq,hi,hm,<- hn,p,d,ep]
theorem tB{P:Program}(w:World)(T ty elem:TypeId)(z:Value)(k g o n c:Nat)(L:List Value)(t:TypeId)(hu:P.underlying T=some (.slice elem))(e:∀ w,(zeroValue elem).run P w=.ok z w)(j:z.cells.size=k)(h:∀ v∈z.cells,v.oneCell'=true)(f:Blk w g L t)(hn:0 < n)(l:0 < k)(b:o+n * k<=L.length) :
  (Builtin.clear_ #[T] ty #[.slice (some ⟨g,o,none⟩) n c]).run P w=.ok (.tuple #[]) (w.setRow g (splice L o (Builtin.zeroCells z.cells n).toList).toArray):=by
 have hlen:(Builtin.zeroCells z.cells n).toList.length=n * k:=by simp[Builtin.zeroCells,j]
 have d:∀ v∈(Builtin.zeroCells z.cells n).toList,v.oneCell'=true:=by
  intro v e;simp[Builtin.zeroCells] at e;obtain⟨i,hi,rfl⟩:=e;have:i % z.cells.size < z.cells.size:=Nat.mod_lt _ (by omega);rw[show z.cells[i % z.cells.size]! = z.cells[i % z.cells.size] from getElem!_pos z.cells _ this];exact h _ (Array.getElem_mem this)
 have a:=run_storeCells_at P g o t (Builtin.zeroCells z.cells n).toList 0 L.toArray w f.blk (by rw[hlen];simpa using b) d;obtain⟨m,rfl⟩:∃ m,n=m+1:=⟨n - 1,by omega⟩
 simp only[Nat.add_zero] at a;simp[Builtin.clear_,run_underlying hu,e,a,ep]
theorem eR{α:Type}(A B C D:List α)(k:Nat)(b:A.length=k)(d:B.length=C.length):splice (A ++ B ++ D) k C=A ++ C ++ D:=by
 subst b
 have c:(A ++ B ++ D).take A.length=A:=by rw[List.append_assoc,List.take_left]
 have a:(A ++ B ++ D).drop (A.length+C.length)=D:=by
  rw[<- d,<- List.length_append,List.drop_left]
 rw[ep,c,a]
theorem ry{α:Type}(xs sp a:List α)(i:Nat)(hi:i<=xs.length)(hc:a.length<=sp.length) :
  splice (splice (xs ++ sp) (i+a.length) (xs.drop i)) i a=xs.take i ++ a ++ xs.drop i ++ sp.drop a.length:=by
 obtain⟨A,B,hA,rfl,rfl⟩:∃ A B,A.length=i/\xs=A ++ B/\i=A.length:=⟨xs.take i,xs.drop i,by simp;omega,by simp,by simp;omega⟩
 have e1:(A ++ B).drop A.length=B:=by simp
 have e2:(A ++ B).take A.length=A:=by simp
 rw[e1,e2]
 have d:A ++ B ++ sp=(A ++ (B ++ sp).take a.length) ++ ((B ++ sp).drop a.length).take B.length ++ sp.drop a.length:=by
  have b:((B ++ sp).drop a.length).take B.length ++ sp.drop a.length=(B ++ sp).drop a.length:=by
   have c:sp.drop a.length=((B ++ sp).drop a.length).drop B.length:=by
    rw[List.drop_drop,Nat.add_comm,<- List.drop_drop];simp
   rw[c,List.take_append_drop]
  rw[List.append_assoc,List.append_assoc (A ++ _),b,List.append_assoc,List.take_append_drop]
 rw[d,eR (A ++ (B ++ sp).take a.length) _ B _ (A.length+a.length) (by simp;omega) (by simp;omega),List.append_assoc (A ++ _),eR A _ a _ A.length rfl (by simp;omega),List.append_assoc (A ++ a)]
theorem Ee{P:Program}{Q:Exit->Act->World->Prop}(d:o.guard=none)(b:(execOp a.eval o).run P w=.ok (.value v) w')(c:K (a.put o.dst v) w'):if Region.wanted o (yielded ops a.tmps)=true then Oper.wp P o a w K Q else E:=by
 rw[if_pos (by simp[Region.wanted,d])];unfold Oper.wp;rw[b];exact c
theorem AY{P:Program}(d s:Operand)(t b:TypeId)(e:o.op=.call { callee:=.builtin .append,args:=#[d,s],argTypes:=#[t,b] })(v u:Value)(c:a.eval d=v)(g:a.eval s=u)(f:(Builtin.append_ #[t,b] o.type #[v,u]).run P w=.ok v' w'):(execOp a.eval o).run P w=.ok (.value v') w':=by
 simp only[execOp,e,resolve,invoke,builtin,Sem.run_bind,Sem.run_pure,Result.andThen_ok,List.map_toArray,List.map_cons,List.map_nil,c,g,f]
theorem jY{P:Program}{Q:Exit->Act->World->Prop}(h:o.guard=none)(d s:Operand)(t b:TypeId)(e:o.op=.call { callee:=.builtin .append,args:=#[d,s],argTypes:=#[t,b] })(v u:Value)(c:a.eval d=v)(g:a.eval s=u)(f:(Builtin.append_ #[t,b] o.type #[v,u]).run P w=.ok v' w')(i:K (a.put o.dst v') w'):if Region.wanted o (yielded ops a.tmps)=true then Oper.wp P o a w K Q else E:=Ee h (AY d s t b e v u c g f) i
end
end Pg
end Go.Proofs.YtidnifmehnjipaaGreat
