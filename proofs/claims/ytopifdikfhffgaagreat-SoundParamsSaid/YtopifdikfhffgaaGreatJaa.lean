/- Several texts, joined: Pg0. -/
import Derived.Test.YtopifdikfhffgaaGreatChecked
import Derived.WalkKit
import Derived.WalkSpells
import Derived.WalkLawsBesides
import Derived.Lib.SliceRun
import Derived.Lib.AppendZerosOnto
import Derived.Lib.Overlaps
import Derived.Lib.Bytealg
import Derived.Lib.JoinLaws
import Derived.Laws.Externs
import Derived.Laws.CopyRow
import Derived.Laws.CopyOwn
import Derived.Laws.Tables
import Derived.Laws.NewBlocks
import Derived.Laws.IdiomCopy
import Derived.Deep.RegionHeld3
import Derived.Deep.RegionLaw
import Derived.Deep.QuietTactic
import Derived.BigQuiet
import Derived.WalkSmall
import Derived.Shelf.RegionOpenPlain
import Derived.OneCell
set_option maxRecDepth 100000
set_option maxHeartbeats 8000000
namespace Go.Proofs.YtopifdikfhffgaaGreat
namespace Pg
open Go.RowKit
theorem lt_of_block {w:World} {g:Nat} {o:Obj} (h:w.heap[g]? = some o):g < w.heap.size:=(Array.getElem?_eq_some_iff.1 h).1
theorem cell_lt {w:World} {b o:Nat} {v:Value} (h:w.cell? ⟨b,o,none⟩=some v):b < w.heap.size:=by
 unfold World.cell? at h
 cases hh:w.heap[b]? with
 | none=>simp [hh] at h
 | some ob=>exact lt_of_block hh
structure Blk (w:World) (g:Nat) (cs:List Value) (t:TypeId):Prop where
 blk:w.heap[g]? = some (.cells cs.toArray t (0,0))
theorem Blk.lt {w:World} {g:Nat} {cs:List Value} {t:TypeId} (h:Blk w g cs t):g < w.heap.size:=lt_of_block h.blk
theorem Blk.cell {w:World} {g:Nat} {cs:List Value} {t:TypeId} (h:Blk w g cs t) {i:Nat} {v:Value} (hi:cs[i]? = some v):w.cell? ⟨g,i,none⟩=some v:=by
 simp only [World.cell?,h.blk]
 simpa using hi
theorem Blk.free {w:World} {g:Nat} {cs:List Value} {t:TypeId} (h:Blk w g cs t) (i:Nat):w.frozen? ⟨g,i,none⟩=false:=by
 simp [World.frozen?,h.blk]
theorem Blk.keep {w w':World} {g:Nat} {cs:List Value} {t:TypeId} (h:Blk w g cs t) (hb:Below w.heap.size w w'):Blk w' g cs t:=⟨by rw [hb.block g h.lt]; exact h.blk⟩
theorem Blk.keepB {B:Nat} {w w':World} {g:Nat} {cs:List Value} {t:TypeId} (h:Blk w g cs t) (hb:Below B w w') (hg:g < B):Blk w' g cs t:=⟨by rw [hb.block g hg]; exact h.blk⟩
theorem Blk.drew {w:World} {g:Nat} {cs:List Value} {t:TypeId} (h:Blk w g cs t):Blk w.drew g cs t:=⟨h.blk⟩
theorem blk_new (w:World) (cs:List Value) (t:TypeId):Blk (w.alloc (.cells cs.toArray t)) w.heap.size cs t:=⟨by
 show (w.heap.push _)[w.heap.size]? = _
 rw [Array.getElem?_push_size]⟩
theorem Blk.row {w:World} {g:Nat} {cs:List Value} (ds:List Value) {t:TypeId} (h:Blk w g cs t):Blk (w.setRow g ds.toArray) g ds t:=⟨by rw [setRow_heap w g _ _ _ _ h.blk]⟩
theorem Blk.same {w w':World} {g:Nat} {cs:List Value} {t:TypeId} (h:Blk w g cs t) (hb:w'.heap[g]? = w.heap[g]?):Blk w' g cs t:=⟨by rw [hb]; exact h.blk⟩
theorem Blk.eq {w:World} {g:Nat} {cs ds:List Value} {t u:TypeId} (h:Blk w g cs t) (h':Blk w g ds u):cs=ds/\t=u:=by
 have:=h.blk.symm.trans h'.blk
 simp at this
 exact this
theorem Blk.setCell {w:World} {g:Nat} {cs:List Value} {t:TypeId} (h:Blk w g cs t) {i:Nat} (v:Value):Blk (w.setCell ⟨g,i,none⟩ v) g (cs.set i v) t:=⟨by
 have:=h.blk
 simp only [World.setCell,Array.getElem?_modify,if_true,this]
 simp⟩
theorem Blk.off {w:World} {g g':Nat} {cs:List Value} {t:TypeId} (h:Blk w g cs t) (hne:g≠g') {i:Nat} (v:Value):Blk (w.setCell ⟨g',i,none⟩ v) g cs t:=⟨by rw [Below.heap_setCell w _ v g hne]; exact h.blk⟩
theorem below_alloc (w:World) (o:Obj):Below w.heap.size w (w.alloc o):=(Below.refl _ _).alloc (Nat.le_refl _) _
theorem joinB {w wa w':World} (b:Below w.heap.size w wa) (h:Below wa.heap.size wa w'):Below w.heap.size w w':=b.trans (h.mono b.size)
structure Chg (F:Nat->Prop) (w w':World):Prop where
 os:w'.os=w.os
 tape:w'.tape=w.tape
 output:w'.output=w.output
 size:w.heap.size<=w'.heap.size
 same:∀ b,b < w.heap.size->¬ F b->w'.heap[b]? = w.heap[b]?
theorem Chg.refl (F:Nat->Prop) (w:World):Chg F w w:=⟨rfl,rfl,rfl,Nat.le_refl _,fun _ _ _=>rfl⟩
theorem Chg.of {F:Nat->Prop} {w w':World} (h:Below w.heap.size w w'):Chg F w w':=⟨h.os,h.tape,h.output,h.size,fun b hb _=>h.block b hb⟩
theorem Chg.below {F:Nat->Prop} {B:Nat} {w w':World} (h:Chg F w w') (hF:∀ b,F b->B<=b) (hB:B<=w.heap.size):Below B w w':=⟨h.os,h.tape,h.output,h.size,fun b hb=>h.same b (by omega) fun f=>by have:=hF b f; omega⟩
theorem Chg.trans {F F':Nat->Prop} {w w1 w2:World} (h:Chg F w w1) (h':Chg F' w1 w2) (hF:∀ b,b < w.heap.size->F' b->F b):Chg F w w2 :=
 ⟨h'.os.trans h.os,h'.tape.trans h.tape,h'.output.trans h.output,Nat.le_trans h.size h'.size,fun b hb hf=>(h'.same b (Nat.lt_of_lt_of_le hb h.size) fun f=>hf (hF b hb f)).trans (h.same b hb hf)⟩
theorem Chg.mono {F F':Nat->Prop} {w w1:World} (h:Chg F w w1) (hF:∀ b,b < w.heap.size->F b->F' b):Chg F' w w1:=⟨h.os,h.tape,h.output,h.size,fun b hb hf=>h.same b hb fun f=>hf (hF b hb f)⟩
theorem Chg.drew {F:Nat->Prop} {w w':World} (h:Chg F w w'):Chg F w w'.drew:=⟨h.os,h.tape,h.output,h.size,h.same⟩
theorem Chg.row {F:Nat->Prop} {w w':World} (h:Chg F w w') {g:Nat} (hg:F g\/w.heap.size<=g) (ds:Array Value):Chg F w (w'.setRow g ds) :=
 ⟨h.os,h.tape,h.output,by simpa [World.setRow] using h.size,fun b hb hf=>by
  have hne:b≠g:=fun e=>by subst e; rcases hg with f | f; exact hf f; omega
  exact (setRow_other w' g b ds hne).trans (h.same b hb hf)⟩
theorem Chg.cell {F:Nat->Prop} {w w':World} (h:Chg F w w') {g i:Nat} (hg:F g\/w.heap.size<=g) (v:Value):Chg F w (w'.setCell ⟨g,i,none⟩ v) :=
 ⟨h.os,h.tape,h.output,by simpa [World.setCell] using h.size,fun b hb hf=>by
  have hne:b≠g:=fun e=>by subst e; rcases hg with f | f; exact hf f; omega
  exact (Below.heap_setCell w' _ v b hne).trans (h.same b hb hf)⟩
theorem Chg.alloc {F:Nat->Prop} {w w':World} (h:Chg F w w') (o:Obj):Chg F w (w'.alloc o):=h.trans (Chg.of (F:=fun _=>False) (below_alloc w' o)) (fun _ _ f=>f.elim)
theorem Blk.chg {F:Nat->Prop} {w w':World} {g:Nat} {cs:List Value} {t:TypeId} (h:Blk w g cs t) (hc:Chg F w w') (hg:¬ F g):Blk w' g cs t:=⟨by rw [hc.same g h.lt hg]; exact h.blk⟩
theorem splice_def {α:Type} (L:List α) (o:Nat) (cs:List α):splice L o cs=L.take o ++ cs ++ L.drop (o + cs.length):=by simp [splice]
theorem run_copyK {P:Program} (w:World) (dT sT ty elem:TypeId) (k g o dLen dCap:Nat) (a:Addr) (sLen sCap:Nat) (L cs:List Value) (t:TypeId)
  (hu:P.underlying dT=some (.slice elem)) (hs:(P.info? elem).map (·.size)=some k)
  (hg:Blk w g L t) (m:Nat) (hm:Nat.min sLen dLen=m) (hn:cs.length=m * k)
  (hsrc:∀ j v,cs[j]? = some v->w.cell? (a.add j)=some v) (hfit:o + cs.length<=L.length) (h1:∀ v∈cs,v.oneCell'=true) :
  (Builtin.copy_ #[dT,sT] ty #[.slice (some ⟨g,o,none⟩) dLen dCap,.slice (some a) sLen sCap]).run P w =
   .ok (goInt m) (w.setRow g (splice L o cs).toArray):=by
 have hl:=run_loadCells_list (P:=P) w a cs hsrc
 have hst:=run_storeCells_at P g o t cs 0 L.toArray w hg.blk (by simpa using hfit) h1
 cases hq:P.info? elem with
 | none=>simp [hq] at hs
 | some i =>
  have hi:i.size=k:=by simpa [hq] using hs
  simp [Builtin.copy_,run_underlying hu,Builtin.lenOf,Builtin.firstCells,sizeOf,typeInfo,hq,hi,hm,<- hn,hl,hst,splice_def]
theorem splice_at {α:Type} (A B C D:List α) (k:Nat) (hk:A.length=k) (hB:B.length=C.length):splice (A ++ B ++ D) k C=A ++ C ++ D:=by
 subst hk
 have h1:(A ++ B ++ D).take A.length=A:=by rw [List.append_assoc,List.take_left]
 have h2:(A ++ B ++ D).drop (A.length + C.length)=D:=by
  rw [<- hB,<- List.length_append,List.drop_left]
 rw [splice_def,h1,h2]
theorem shift_eq {α:Type} (xs sp vs:List α) (i:Nat) (hi:i<=xs.length) (hc:vs.length<=sp.length) :
  splice (splice (xs ++ sp) (i + vs.length) (xs.drop i)) i vs=xs.take i ++ vs ++ xs.drop i ++ sp.drop vs.length:=by
 obtain ⟨A,B,hA,rfl,rfl⟩:∃ A B,A.length=i/\xs=A ++ B/\i=A.length:=⟨xs.take i,xs.drop i,by simp; omega,by simp,by simp; omega⟩
 have e1:(A ++ B).drop A.length=B:=by simp
 have e2:(A ++ B).take A.length=A:=by simp
 rw [e1,e2]
 have h1:A ++ B ++ sp=(A ++ (B ++ sp).take vs.length) ++ ((B ++ sp).drop vs.length).take B.length ++ sp.drop vs.length:=by
  have h2:((B ++ sp).drop vs.length).take B.length ++ sp.drop vs.length=(B ++ sp).drop vs.length:=by
   have h3:sp.drop vs.length=((B ++ sp).drop vs.length).drop B.length:=by
    rw [List.drop_drop,Nat.add_comm,<- List.drop_drop]; simp
   rw [h3,List.take_append_drop]
  rw [List.append_assoc,List.append_assoc (A ++ _),h2,List.append_assoc,List.take_append_drop]
 rw [h1,splice_at (A ++ (B ++ sp).take vs.length) _ B _ (A.length + vs.length) (by simp; omega) (by simp; omega),List.append_assoc (A ++ _),splice_at A _ vs _ A.length rfl (by simp; omega),List.append_assoc (A ++ vs)]
end Pg
end Go.Proofs.YtopifdikfhffgaaGreat
