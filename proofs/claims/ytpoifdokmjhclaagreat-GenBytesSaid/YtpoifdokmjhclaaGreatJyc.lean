import Derived.Test.YtpoifdokmjhclaaGreatJ00
import Derived.WalkSpells
import Derived.WalkLawsBesides
import Derived.Lib.AppendZerosOnto
import Derived.Lib.Overlaps
import Derived.Lib.Bytealg
import Derived.Lib.JoinLaws
import Derived.Laws.CopyOwn
import Derived.Deep.RegionHeld3
import Derived.BigQuiet
import Derived.Shelf.RegionOpenPlain
set_option maxRecDepth 100000
set_option maxHeartbeats 8000000
namespace Go.Proofs.YtpoifdokmjhclaaGreat
namespace Pg
open Go.RowKit
section
variable {w w' w1:World}{g i B:Nat}{o:Oper}{v v':Value}{cs ds:List Value}{F F':Nat->Prop}{ops:Array Oper}{a:Act}{K:Act->World->Prop}{E:Prop}
theorem lt_of_block{o:Obj}(h:w.heap[g]?=some o):g < w.heap.size:=(Array.getElem?_eq_some_iff.1 h).1
theorem aC{b o:Nat}(h:w.cell? ⟨b,o,none⟩=some v):b < w.heap.size:=by
 unfold World.cell? at h
 cases hh:w.heap[b]? with
 | none=>simp[hh] at h
 | some ob=>exact lt_of_block hh
structure Blk(w:World)(g:Nat)(cs:List Value)(t:TypeId):Prop where
 blk:w.heap[g]?=some (.cells cs.toArray t (0,0))
theorem Blk.lt{t:TypeId}(h:Blk w g cs t):g < w.heap.size:=lt_of_block h.blk
theorem Blk.cell{t:TypeId}(h:Blk w g cs t)(hi:cs[i]?=some v):w.cell? ⟨g,i,none⟩=some v:=by
 simp only[World.cell?,h.blk];simpa using hi
theorem Blk.free{t:TypeId}(h:Blk w g cs t)(i:Nat):w.frozen? ⟨g,i,none⟩=false:=by
 simp[World.frozen?,h.blk]
theorem Blk.keep{t:TypeId}(h:Blk w g cs t)(hb:BW w w'):Blk w' g cs t:=⟨by rw[hb.block g h.lt];exact h.blk⟩
theorem Blk.nA{t:TypeId}(h:Blk w g cs t)(hb:Below B w w')(hg:g < B):Blk w' g cs t:=⟨by rw[hb.block g hg];exact h.blk⟩
theorem Blk.drew{t:TypeId}(h:Blk w g cs t):Blk w.drew g cs t:=⟨h.blk⟩
theorem ay(w:World)(cs:List Value)(t:TypeId):Blk (w.alloc (.cells cs.toArray t)) w.heap.size cs t:=⟨by
 show (w.heap.push _)[w.heap.size]?=_
 rw[Array.getElem?_push_size]⟩
theorem Blk.row(ds:List Value){t:TypeId}(h:Blk w g cs t):Blk (w.setRow g ds.toArray) g ds t:=⟨by rw[setRow_heap w g _ _ _ _ h.blk]⟩
theorem Blk.same{t:TypeId}(h:Blk w g cs t)(hb:w'.heap[g]?=w.heap[g]?):Blk w' g cs t:=⟨by rw[hb];exact h.blk⟩
theorem Blk.eq{t u:TypeId}(h:Blk w g cs t)(h':Blk w g ds u):cs=ds/\t=u:=by
 have:=h.blk.symm.trans h'.blk;simp at this;exact this
theorem Blk.setCell{t:TypeId}(h:Blk w g cs t)(v:Value):Blk (w.setCell ⟨g,i,none⟩ v) g (cs.set i v) t:=⟨by
 have:=h.blk;simp only[World.setCell,Array.getElem?_modify,if_true,this]
 simp⟩
theorem Blk.off{g':Nat}{t:TypeId}(h:Blk w g cs t)(hne:g≠g')(v:Value):Blk (w.setCell ⟨g',i,none⟩ v) g cs t:=⟨by rw[Below.heap_setCell w _ v g hne];exact h.blk⟩
theorem aa(w:World)(o:Obj):BW w (w.alloc o):=(Below.refl _ _).alloc (Nat.le_refl _) _
theorem ae{wa:World}(b:BW w wa)(h:BW wa w'):BW w w':=b.trans (h.mono b.size)
structure Chg(F:Nat->Prop)(w w':World):Prop where
 os:w'.os=w.os
 tape:w'.tape=w.tape
 output:w'.output=w.output
 size:w.heap.size<=w'.heap.size
 same:∀ b,b < w.heap.size->¬ F b->w'.heap[b]?=w.heap[b]?
theorem Chg.refl(F:Nat->Prop)(w:World):Chg F w w:=⟨rfl,rfl,rfl,Nat.le_refl _,λ_ _ _=>rfl⟩
theorem Chg.of(h:BW w w'):Chg F w w':=⟨h.os,h.tape,h.output,h.size,λb hb _=>h.block b hb⟩
theorem Chg.nothing(h:Chg (λ_=>False) w w'):BW w w':=⟨h.os,h.tape,h.output,h.size,λb hb=>h.same b hb id⟩
theorem Chg.below(h:Chg F w w')(hF:∀ b,F b->B<=b)(hB:B<=w.heap.size):Below B w w':=⟨h.os,h.tape,h.output,h.size,λb hb=>h.same b (by omega) λf=>by have:=hF b f;omega⟩
theorem Chg.trans{c:World}(h:Chg F w w1)(a:Chg F' w1 c)(hF:∀ b,b < w.heap.size->F' b->F b):Chg F w c :=
 ⟨a.os.trans h.os,a.tape.trans h.tape,a.output.trans h.output,Nat.le_trans h.size a.size,λb hb hf=>(a.same b (Nat.lt_of_lt_of_le hb h.size) λf=>hf (hF b hb f)).trans (h.same b hb hf)⟩
theorem Chg.mono(h:Chg F w w1)(hF:∀ b,b < w.heap.size->F b->F' b):Chg F' w w1:=⟨h.os,h.tape,h.output,h.size,λb hb hf=>h.same b hb λf=>hf (hF b hb f)⟩
theorem Chg.drew(h:Chg F w w'):Chg F w w'.drew:=⟨h.os,h.tape,h.output,h.size,h.same⟩
theorem Chg.row(h:Chg F w w')(c:F g\/w.heap.size<=g)(ds:Array Value):Chg F w (w'.setRow g ds) :=
 ⟨h.os,h.tape,h.output,by simpa[World.setRow] using h.size,λb hb hf=>by
  have a:b≠g:=λe=>by subst e;rcases c with f | f;exact hf f;omega
  exact(setRow_other w' g b ds a).trans (h.same b hb hf)⟩
theorem Chg.cell(h:Chg F w w')(c:F g\/w.heap.size<=g)(v:Value):Chg F w (w'.setCell ⟨g,i,none⟩ v) :=
 ⟨h.os,h.tape,h.output,by simpa[World.setCell] using h.size,λb hb hf=>by
  have a:b≠g:=λe=>by subst e;rcases c with f | f;exact hf f;omega
  exact(Below.heap_setCell w' _ v b a).trans (h.same b hb hf)⟩
theorem Chg.alloc(h:Chg F w w')(o:Obj):Chg F w (w'.alloc o):=h.trans (Chg.of (F:=λ_=>False) (aa w' o)) (λ_ _ f=>f.elim)
theorem Blk.chg{t:TypeId}(h:Blk w g cs t)(hc:Chg F w w')(hg:¬ F g):Blk w' g cs t:=⟨by rw[hc.same g h.lt hg];exact h.blk⟩
theorem eJ{α:Type}(L:List α)(o:Nat)(cs:List α):splice L o cs=L.take o ++ cs ++ L.drop (o+cs.length):=by simp[splice]
theorem yI{P:Program}(w:World)(e h ty elem:TypeId)(k g o dLen dCap:Nat)(a:Addr)(sLen sCap:Nat)(L cs:List Value)(t:TypeId)(hu:P.underlying e=some (.slice elem))(hs:(P.info? elem).map (·.size)=some k)(f:Blk w g L t)(m:Nat)(hm:Nat.min sLen dLen=m)(hn:cs.length=m * k)(c:∀ j v,cs[j]?=some v->w.cell? (a.add j)=some v)(b:o+cs.length<=L.length)(h1:∀ v∈cs,v.oneCell'=true) :
  (Builtin.copy_ #[e,h] ty #[.slice (some ⟨g,o,none⟩) dLen dCap,.slice (some a) sLen sCap]).run P w =
   .ok (goInt m) (w.setRow g (splice L o cs).toArray):=by
 have l:=run_loadCells_list (P:=P) w a cs c;have d:=run_storeCells_at P g o t cs 0 L.toArray w f.blk (by simpa using b) h1
 cases hq:P.info? elem with
 | none=>simp[hq] at hs
 | some i =>
  have hi:i.size=k:=by simpa[hq] using hs
  simp[Builtin.copy_,run_underlying hu,Builtin.lenOf,Builtin.firstCells,sizeOf,typeInfo,hq,hi,hm,<- hn,l,d,eJ]
theorem uF{P:Program}(w:World)(T ty elem:TypeId)(z:Value)(k g o n c:Nat)(L:List Value)(t:TypeId)(hu:P.underlying T=some (.slice elem))(hv:∀ w,(zeroValue elem).run P w=.ok z w)(f:z.cells.size=k)(h1:∀ v∈z.cells,v.oneCell'=true)(e:Blk w g L t)(hn:0 < n)(hk:0 < k)(b:o+n * k<=L.length) :
  (Builtin.clear_ #[T] ty #[.slice (some ⟨g,o,none⟩) n c]).run P w=.ok (.tuple #[]) (w.setRow g (splice L o (Builtin.zeroCells z.cells n).toList).toArray):=by
 have hlen:(Builtin.zeroCells z.cells n).toList.length=n * k:=by simp[Builtin.zeroCells,f]
 have d:∀ v∈(Builtin.zeroCells z.cells n).toList,v.oneCell'=true:=by
  intro v hv;simp[Builtin.zeroCells] at hv;obtain⟨i,hi,rfl⟩:=hv;have:i % z.cells.size < z.cells.size:=Nat.mod_lt _ (by omega);rw[show z.cells[i % z.cells.size]! = z.cells[i % z.cells.size] from getElem!_pos z.cells _ this];exact h1 _ (Array.getElem_mem this)
 have a:=run_storeCells_at P g o t (Builtin.zeroCells z.cells n).toList 0 L.toArray w e.blk (by rw[hlen];simpa using b) d;obtain⟨m,rfl⟩:∃ m,n=m+1:=⟨n - 1,by omega⟩
 simp only[Nat.add_zero] at a;simp[Builtin.clear_,run_underlying hu,hv,a,eJ]
theorem fB{α:Type}(A B C D:List α)(k:Nat)(hk:A.length=k)(c:B.length=C.length):splice (A ++ B ++ D) k C=A ++ C ++ D:=by
 subst hk
 have b:(A ++ B ++ D).take A.length=A:=by rw[List.append_assoc,List.take_left]
 have a:(A ++ B ++ D).drop (A.length+C.length)=D:=by
  rw[<- c,<- List.length_append,List.drop_left]
 rw[eJ,b,a]
theorem rO{α:Type}(xs sp vs:List α)(i:Nat)(hc:vs.length≤sp.length)(hi:i≤xs.length:=by omega) :
    splice (splice (xs ++ sp) (i+vs.length) (xs.drop i)) i vs=xs.take i ++ vs ++ xs.drop i ++ sp.drop vs.length:=by
  obtain⟨A,B,hA,rfl,rfl⟩:∃ A B,A.length=i∧xs=A ++ B∧i=A.length:=⟨xs.take i,xs.drop i,by simp;omega,by simp,by simp;omega⟩
  have e1:(A ++ B).drop A.length=B:=by simp
  have e2:(A ++ B).take A.length=A:=by simp
  rw[e1,e2]
  have c:A ++ B ++ sp=(A ++ (B ++ sp).take vs.length) ++ ((B ++ sp).drop vs.length).take B.length ++ sp.drop vs.length:=by
    have a:((B ++ sp).drop vs.length).take B.length ++ sp.drop vs.length=(B ++ sp).drop vs.length:=by
      have b:sp.drop vs.length=((B ++ sp).drop vs.length).drop B.length:=by
        rw[List.drop_drop,Nat.add_comm,← List.drop_drop];simp
      rw[b,List.take_append_drop]
    rw[List.append_assoc,List.append_assoc (A ++ _),a,List.append_assoc,List.take_append_drop]
  rw[c,fB (A ++ (B ++ sp).take vs.length) _ B _ (A.length+vs.length) (by simp;omega) (by simp;omega),List.append_assoc (A ++ _),fB A _ vs _ A.length rfl (by simp;omega),List.append_assoc (A ++ vs)]
theorem FE{P:Program}{Q:Exit->Act->World->Prop}(c:o.guard=none)(hr:(execOp a.eval o).run P w=.ok (.value v) w')(b:K (a.put o.dst v) w'):if Region.wanted o (yielded ops a.tmps)=true then Oper.wp P o a w K Q else E:=by
 rw[if_pos (by simp[Region.wanted,c])];unfold Oper.wp;rw[hr];exact b
theorem Cb{P:Program}(d s:Operand)(t b:TypeId)(ho:o.op=.call { callee:=.builtin .append,args:=#[d,s],argTypes:=#[t,b] })(v u:Value)(c:a.eval d=v)(hs:a.eval s=u)(hr:(Builtin.append_ #[t,b] o.type #[v,u]).run P w=.ok v' w'):(execOp a.eval o).run P w=.ok (.value v') w':=by
 simp only[execOp,ho,resolve,invoke,builtin,Sem.run_bind,Sem.run_pure,Result.andThen_ok,List.map_toArray,List.map_cons,List.map_nil,c,hs,hr]
theorem gC{P:Program}{Q:Exit->Act->World->Prop}(e:o.guard=none)(d s:Operand)(t b:TypeId)(ho:o.op=.call { callee:=.builtin .append,args:=#[d,s],argTypes:=#[t,b] })(v u:Value)(c:a.eval d=v)(hs:a.eval s=u)(hr:(Builtin.append_ #[t,b] o.type #[v,u]).run P w=.ok v' w')(f:K (a.put o.dst v') w'):if Region.wanted o (yielded ops a.tmps)=true then Oper.wp P o a w K Q else E:=FE e (Cb d s t b ho v u c hs hr) f
end
end Pg
end Go.Proofs.YtpoifdokmjhclaaGreat
