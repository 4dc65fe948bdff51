/- Several texts, joined: GlC, LgC. -/
import Derived.Test.YtlbndpkdkdgggaaGreatDoorJri
import Derived.Test.YtlbndpkdkdgggaaGreatDoorJrh
set_option maxRecDepth 100000
set_option maxHeartbeats 8000000
namespace Go.Proofs.YtlbndpkdkdgggaaGreatDoor
section
namespace Gl
open Go.RowKit Go.Lib Pg
abbrev pg (g:Nat):Value:=.pointer (some ⟨g,0,none⟩)
abbrev iU (x:Int):Value:=.int .u64 x
abbrev iI (x:Int):Value:=.int .i64 x
abbrev bT:Value:=.bool true
abbrev bF:Value:=.bool false
abbrev zS:Value:=.slice none 0 0
abbrev pq (g o:Nat):Value:=.pointer (some ⟨g,o,none⟩)
abbrev sg (n g:Nat):Value:=.slice (some ⟨g,0,none⟩) n n
def rowT (P:Program) (T:TypeId) (n:Nat):Bool:=(match P.underlying T with | some d=>d.isRow | none=>false) && ((P.info? T).map (·.size) == some n)
theorem l1 {P:Program} {w:World} {g:Nat} {cs:List Value} {t T:TypeId} {v:Value} (X:Blk w g cs t) (o:Nat) (hv:cs[o]? = some v:=by rfl) (ha:∀ w,(isAgg T).run P w=.ok false w:=by exact fun _=>by kernel_rfl):(loadVar T ⟨g,o,none⟩).run P w=.ok v w:=by
 have h:=X.cell hv
 simp [loadVar,ha,h]
theorem lr {P:Program} {w:World} {g:Nat} {cs vs:List Value} {t T:TypeId} (X:Blk w g cs t) (o:Nat) (hr:(cs.drop o).take vs.length=vs:=by rfl) (hc:rowT P T vs.length=true:=by kernel_rfl):(loadVar T ⟨g,o,none⟩).run P w=.ok (.agg vs.toArray) w:=by
 simp only [rowT,Bool.and_eq_true,beq_iff_eq] at hc
 obtain ⟨h1,h2⟩:=hc
 cases hu:P.underlying T with
 | none=>rw [hu] at h1; cases h1
 | some d =>
  rw [hu] at h1
  refine run_loadVar_mid w g o T vs d (fun j v hv => ?_) hu h1 h2
  refine X.cell ?_
  rw [<- hr] at hv
  rw [List.getElem?_take] at hv
  split at hv
  ·rw [List.getElem?_drop] at hv; exact hv
  ·cases hv
def spl (cs:List Value) (o:Nat) (vs:List Value):List Value:=cs.take o ++ vs ++ cs.drop (o + vs.length)
theorem setCells_heap (b:Nat):∀ (vs:List Value) (o:Nat) (w:World) (k:Nat),k≠b->(w.setCells b o vs).heap[k]? = w.heap[k]?
 | [],_,_,_,_=>rfl
 | v :: r,o,w,k,h=>by
  rw [World.setCells,setCells_heap b r (o + 1) _ k h,Below.heap_setCell w ⟨b,o,none⟩ v k h]
theorem setCells_size (b:Nat):∀ (vs:List Value) (o:Nat) (w:World),(w.setCells b o vs).heap.size=w.heap.size
 | [],_,_=>rfl
 | v :: r,o,w=>by rw [World.setCells,setCells_size b r (o + 1)]; simp [World.setCell]
theorem setCells_rest (b:Nat):∀ (vs:List Value) (o:Nat) (w:World),(w.setCells b o vs).os=w.os/\(w.setCells b o vs).tape=w.tape/\(w.setCells b o vs).output=w.output
 | [],_,_=>⟨rfl,rfl,rfl⟩
 | v :: r,o,w=>by rw [World.setCells]; exact setCells_rest b r (o + 1) _
theorem blk_setCells {t:TypeId} {g:Nat}:∀ (vs:List Value) (o:Nat) (cs:List Value) (w:World),Blk w g cs t->o + vs.length<=cs.length->Blk (w.setCells g o vs) g (spl cs o vs) t
 | [],o,cs,w,X,_=>by simpa [World.setCells,spl] using X
 | v :: r,o,cs,w,X,h=>by
  rw [World.setCells]
  have h':o + 1 + r.length<=(cs.set o v).length:=by simp at h ⊢; omega
  have:=blk_setCells r (o + 1) (cs.set o v) _ (X.setCell (i:=o) v) h'
  have e:spl (cs.set o v) (o + 1) r=spl cs o (v :: r):=by
   simp only [List.length_cons] at h
   unfold spl
   rw [List.drop_set_of_lt (by omega),List.take_set,List.take_add_one,List.set_append]
   have hl:(cs.take o).length=o:=by rw [List.length_take]; omega
   rw [hl,if_neg (by omega),Nat.sub_self]
   obtain ⟨y,hy⟩:∃ y,cs[o]? = some y:=⟨_,List.getElem?_eq_getElem (by omega)⟩
   rw [hy]
   simp
   omega
  rw [e] at this
  exact this
theorem run_st {P:Program} {w:World} {g o:Nat} {cs:List Value} {t T:TypeId} {x:Value} {vs:List Value} (X:Blk w g cs t) (hx:x.cells.toList=vs) (hi:((P.info? T).map (·.size) == some vs.length)=true) (h1:vs.all (·.oneCell')=true) (hb:o + vs.length<=cs.length):(storeVar T ⟨g,o,none⟩ x).run P w=.ok () (w.setCells g o vs):=by
 have:=run_storeCells_cells (P:=P) g o vs 0 w (fun j hj=>by
   have:=X.cell (i:=o + j) (List.getElem?_eq_getElem (by omega))
   simpa using (by rw [this]; rfl:(w.cell? ⟨g,o + j,none⟩).isSome=true)) (fun j _=>by simpa using X.free (o + j))
  (fun v hv=>List.all_eq_true.1 h1 v hv)
 cases hq:P.info? T with
 | none=>rw [hq] at hi; cases hi
 | some i =>
  rw [hq] at hi
  have hs:i.size=vs.length:=by simpa using hi
  have hz:x.cells.size=i.size:=by rw [hs,<- hx]; simp
  simp only [Nat.add_zero] at this
  simp [storeVar,sizeOf,typeInfo,hq,hz,hx,this]
section
variable {P:Program} {n:Nat} {ds:List Deferred} {ops:Array Oper} {rest:List Oper} {o o1 o2:Oper} {l:Fr} {w w1:World} {Q Q':Exit->Act->World->Prop} {K:Act->World->Prop} {S:World->Prop} {Z:Nat->Bool} {fuel:Nat} {L:List Nat}
theorem run_sto {ρ:Operand->Value} {g off:Nat} {cs vs:List Value} {t:TypeId} {x:Value} (X:Blk w g cs t) (hst:∃ T p q,o.op=.store T p q/\ρ p=.pointer (some ⟨g,off,none⟩)/\ρ q=x/\((P.info? T).map (·.size) == some vs.length)=true) (hx:x.cells.toList=vs) (h1:vs.all (·.oneCell')=true) (hb:Nat.ble (off + vs.length) cs.length=true):(execOp ρ o).run P w=.ok .skip (w.setCells g off vs):=by
 obtain ⟨T,p,q,h,hp,hq,hi⟩:=hst
 simp only [execOp,h,hp,hq,Instr.storeAt,Instr.sureAddr,Sem.run_bind,Sem.run_pure,Result.andThen_ok,run_st X hx hi h1 (Nat.le_of_ble_eq_true hb)]
theorem chg_setCells (g off:Nat) (vs:List Value):Chg (· = g) w (w.setCells g off vs):=⟨(setCells_rest g vs off w).1,(setCells_rest g vs off w).2.1,(setCells_rest g vs off w).2.2,by rw [setCells_size]; exact Nat.le_refl _,fun b _ hb=>setCells_heap g vs off w b hb⟩
theorem run_ld1 {ρ:Operand->Value} {g off:Nat} {v:Value} {cs:List Value} {t:TypeId} (X:Blk w g cs t) (hv:cs[off]? = some v) (ho:∃ T p,o.op=.load T p/\ρ p=.pointer (some ⟨g,off,none⟩)/\∀ w,(isAgg T).run P w=.ok false w):(execOp ρ o).run P w=.ok (.value v) w:=by
 obtain ⟨T,p,h,hp,ha⟩:=ho
 have:=l1 (P:=P) (T:=T) X off hv ha
 simp only [execOp,h,hp]
 simp [Instr.loadAt,Instr.sureAddr,Result.andThen,this]
theorem run_ldr {ρ:Operand->Value} {g off:Nat} {cs vs:List Value} {t:TypeId} (X:Blk w g cs t) (hr:(cs.drop off).take vs.length=vs) (ho:∃ T p,o.op=.load T p/\ρ p=.pointer (some ⟨g,off,none⟩)/\rowT P T vs.length=true):(execOp ρ o).run P w=.ok (.value (.agg vs.toArray)) w:=by
 obtain ⟨T,p,h,hp,ha⟩:=ho
 have:=lr (P:=P) (T:=T) X off hr ha
 simp only [execOp,h,hp]
 simp [Instr.loadAt,Instr.sureAddr,Result.andThen,this]
theorem tl (d:Nat) (v:Value) {g:Nat} {cs:List Value} {t:TypeId} (X:Blk w g cs t) (off:Nat) (h:GL P n ds ops Q rest ((d,v) :: l) w) (hv:cs[off]? = some v:=by rfl) (ho:∃ T p,o.op=.load T p/\evL l p=.pointer (some ⟨g,off,none⟩)/\∀ w,(isAgg T).run P w=.ok false w:=by exact ⟨_,_,rfl,by kernel_rfl,fun _=>by kernel_rfl⟩) (hg:gd ops l o=some true:=by kernel_rfl) (hc:chk n l o (some d)=true:=by kernel_rfl):GL P n ds ops Q (o :: rest) l w:=gl_val (some d) v hg hc (run_ld1 X hv ho) h
theorem tlr (d:Nat) (vs:List Value) {g:Nat} {cs:List Value} {t:TypeId} (X:Blk w g cs t) (off:Nat) (h:GL P n ds ops Q rest ((d,.agg vs.toArray) :: l) w) (hr:(cs.drop off).take vs.length=vs:=by rfl) (ho:∃ T p,o.op=.load T p/\evL l p=.pointer (some ⟨g,off,none⟩)/\rowT P T vs.length=true:=by exact ⟨_,_,rfl,by kernel_rfl,by kernel_rfl⟩) (hg:gd ops l o=some true:=by kernel_rfl) (hc:chk n l o (some d)=true:=by kernel_rfl):GL P n ds ops Q (o :: rest) l w:=gl_val (some d) _ hg hc (run_ldr X hr ho) h
theorem zl (i d:Nat) (v:Value) {g:Nat} {cs:List Value} {t:TypeId} (X:∀ w',S w'->Blk w' g cs t) (off:Nat) (h:GZ P n ds ops Q S Z fuel (i :: L) ((d,v) :: l) w) (hv:cs[off]? = some v:=by rfl) (ho:∃ T p,(ops.getD i default).op=.load T p/\evL l p=.pointer (some ⟨g,off,none⟩)/\∀ w,(isAgg T).run P w=.ok false w:=by exact ⟨_,_,rfl,by kernel_rfl,fun _=>by kernel_rfl⟩) (hz:lateWait ops Z i=true:=by kernel_rfl) (hc:zchk n l ops L i (some d)=true:=by kernel_rfl) (hg:gd ops l (ops.getD i default)=some true:=by kernel_rfl) (hQ:∀ c a w,Q (.panic c) (a.put (some d) v) w->Q (.panic c) a w:=by exact fun _ _ _ h=>h):GZ P n ds ops Q S Z (fuel + 1) L l w:=gz_take i (some d) v (fun w' hS'=>run_ld1 (X w' hS') hv ho) hz hc hg hQ h
theorem zlr (i d:Nat) (vs:List Value) {g:Nat} {cs:List Value} {t:TypeId} (X:∀ w',S w'->Blk w' g cs t) (off:Nat) (h:GZ P n ds ops Q S Z fuel (i :: L) ((d,.agg vs.toArray) :: l) w) (hr:(cs.drop off).take vs.length=vs:=by rfl) (ho:∃ T p,(ops.getD i default).op=.load T p/\evL l p=.pointer (some ⟨g,off,none⟩)/\rowT P T vs.length=true:=by exact ⟨_,_,rfl,by kernel_rfl,by kernel_rfl⟩) (hz:lateWait ops Z i=true:=by kernel_rfl) (hc:zchk n l ops L i (some d)=true:=by kernel_rfl) (hg:gd ops l (ops.getD i default)=some true:=by kernel_rfl) (hQ:∀ c a w,Q (.panic c) (a.put (some d) (.agg vs.toArray)) w->Q (.panic c) a w:=by exact fun _ _ _ h=>h):GZ P n ds ops Q S Z (fuel + 1) L l w:=gz_take i (some d) _ (fun w' hS'=>run_ldr (X w' hS') hr ho) hz hc hg hQ h
theorem ta (d:Nat) (vs:List Value) (T:TypeId) (mk:Nat->Value) (h:∀ w1 g,Blk w1 g vs T->w.heap.size<=g->Below w.heap.size w w1->GL P n ds ops Q rest ((d,mk g) :: l) w1) (hg:gd ops l o=some true:=by kernel_rfl) (hc:chk n l o (some d)=true:=by kernel_rfl) (hrun:(execOp (evL l) o).run P w=.ok (.value (mk w.heap.size)) (w.alloc (.cells vs.toArray T)):=by kernel_rfl):GL P n ds ops Q (o :: rest) l w :=
 gl_val (some d) _ hg hc hrun (h _ _ (blk_new w vs T) (Nat.le_refl _) (below_alloc w _))
theorem ts {g:Nat} {cs:List Value} {t:TypeId} (X:Blk w g cs t) (off:Nat) (x:Value) (vs cs':List Value) (h:∀ w1,Blk w1 g cs' t->Chg (· = g) w w1->GL P n ds ops Q rest l w1) (hx:x.cells.toList=vs:=by rfl) (h1:vs.all (·.oneCell')=true:=by rfl) (hb:Nat.ble (off + vs.length) cs.length=true:=by rfl) (he:spl cs off vs=cs':=by rfl) (hst:∃ T p q,o.op=.store T p q/\evL l p=.pointer (some ⟨g,off,none⟩)/\evL l q=x/\((P.info? T).map (·.size) == some vs.length)=true:=by exact ⟨_,_,_,rfl,by kernel_rfl,by kernel_rfl,by kernel_rfl⟩) (hg:gd ops l o=some true:=by kernel_rfl) (hc:chk n l o none=true:=by kernel_rfl):GL P n ds ops Q (o :: rest) l w:=by
 refine gl_void hg hc (run_sto X hst hx h1 hb) (h _ ?_ (chg_setCells g off vs))
 rw [<- he]
 exact blk_setCells vs off cs w X (Nat.le_of_ble_eq_true hb)
theorem za (i d:Nat) (vs:List Value) (T:TypeId) (mk:Nat->Value) (h:∀ w1 g,Blk w1 g vs T->w.heap.size<=g->Below w.heap.size w w1->S w1/\GZ P n ds ops Q S Z fuel (i :: L) ((d,mk g) :: l) w1) (hr:readyL ops L=[i]:=by kernel_rfl) (hg:gd ops l (ops.getD i default)=some true:=by kernel_rfl) (hc:achk n l ops i (some d)=true:=by kernel_rfl) (hrun:(execOp (evL l) (ops.getD i default)).run P w=.ok (.value (mk w.heap.size)) (w.alloc (.cells vs.toArray T)):=by kernel_rfl):GZ P n ds ops Q S Z (fuel + 1) L l w:=by
 have H:=h _ _ (blk_new w vs T) (Nat.le_refl _) (below_alloc w _)
 exact zw i d _ _ hrun H.1 H.2 hr hc hg
theorem zaa {rs:List Nat} (i d:Nat) (vs:List Value) (T:TypeId) (mk:Nat->Value) (h:∀ w1 g,Blk w1 g vs T->w.heap.size<=g->Below w.heap.size w w1->S w1/\GZ P n ds ops Q S Z fuel (i :: L) ((d,mk g) :: l) w1) (hs:GA P n ds ops Q S Z fuel L l w rs) (hg:gd ops l (ops.getD i default)=some true:=by kernel_rfl) (hc:achk n l ops i (some d)=true:=by kernel_rfl) (hrun:(execOp (evL l) (ops.getD i default)).run P w=.ok (.value (mk w.heap.size)) (w.alloc (.cells vs.toArray T)):=by kernel_rfl):GA P n ds ops Q S Z fuel L l w (i :: rs):=by
 have H:=h _ _ (blk_new w vs T) (Nat.le_refl _) (below_alloc w _)
 exact ga_val i (some d) _ _ hrun H.1 H.2 hs hc hg
theorem zs (i:Nat) {g:Nat} {cs:List Value} {t:TypeId} (X:Blk w g cs t) (off:Nat) (x:Value) (vs cs':List Value) (h:∀ w1,Blk w1 g cs' t->Chg (· = g) w w1->S w1/\GZ P n ds ops Q S Z fuel (i :: L) l w1) (hx:x.cells.toList=vs:=by rfl) (h1:vs.all (·.oneCell')=true:=by rfl) (hb:Nat.ble (off + vs.length) cs.length=true:=by rfl) (he:spl cs off vs=cs':=by rfl) (hst:∃ T p q,(ops.getD i default).op=.store T p q/\evL l p=.pointer (some ⟨g,off,none⟩)/\evL l q=x/\((P.info? T).map (·.size) == some vs.length)=true:=by exact ⟨_,_,_,rfl,by kernel_rfl,by kernel_rfl,by kernel_rfl⟩) (hr:readyL ops L=[i]:=by kernel_rfl) (hg:gd ops l (ops.getD i default)=some true:=by kernel_rfl) (hc:achk n l ops i none=true:=by kernel_rfl):GZ P n ds ops Q S Z (fuel + 1) L l w:=by
 have Y:=blk_setCells vs off cs w X (Nat.le_of_ble_eq_true hb)
 rw [he] at Y
 have H:=h _ Y (chg_setCells g off vs)
 exact zv i _ (run_sto X hst hx h1 hb) H.1 H.2 hr hc hg
theorem ys (i:Nat) {g:Nat} {cs:List Value} {t:TypeId} (X:Blk w g cs t) (off:Nat) (x:Value) (vs cs':List Value) (h:∀ w1,Blk w1 g cs' t->Chg (· = g) w w1->GY P n ds ops Q S Z fuel (i :: L) l w1) (hx:x.cells.toList=vs:=by rfl) (h1:vs.all (·.oneCell')=true:=by rfl) (hb:Nat.ble (off + vs.length) cs.length=true:=by rfl) (he:spl cs off vs=cs':=by rfl) (hst:∃ T p q,(ops.getD i default).op=.store T p q/\evL l p=.pointer (some ⟨g,off,none⟩)/\evL l q=x/\((P.info? T).map (·.size) == some vs.length)=true:=by exact ⟨_,_,_,rfl,by kernel_rfl,by kernel_rfl,by kernel_rfl⟩) (hr:readyL ops L=[i]:=by kernel_rfl) (hg:gd ops l (ops.getD i default)=some true:=by kernel_rfl) (hc:achk n l ops i none=true:=by kernel_rfl) (hZ:Z i=true:=by rfl):GY P n ds ops Q S Z (fuel + 1) L l w:=by
 have Y:=blk_setCells vs off cs w X (Nat.le_of_ble_eq_true hb)
 rw [he] at Y
 exact yv i _ (run_sto X hst hx h1 hb) (h _ Y (chg_setCells g off vs)) hr hc hg hZ
end
theorem wi {z:Int} (h : -9223372036854775808<=z/\z < 9223372036854775808):Value.int .i64 (IntKind.i64.wrap z)=.int .i64 z:=by rw [IntKind.wrap_i64]; congr 1; omega
theorem congr_v {P:Program} {ρ:Operand->Value} {o:Oper} {w:World} {v v':Value} (e:v=v') (h:(execOp ρ o).run P w=.ok (.value v) w):(execOp ρ o).run P w=.ok (.value v') w:=e▸h
def slT (P:Program) (T:TypeId) (sz:Nat):Bool:=match P.underlying T with
 | some (.slice e)=>(P.info? e).map (·.size) == some sz
 | _=>false
theorem run_ixs {P:Program} {ρ:Operand->Value} {o:Oper} {w:World} (sz b off n c k:Nat) (hk:k < n) (ho:∃ T x y,o.op=.indexAddr T x y/\slT P T sz=true/\ρ x=.slice (some ⟨b,off,none⟩) n c/\ρ y=.int .i64 (k:Int):=by exact ⟨_,_,_,rfl,by kernel_rfl,by kernel_rfl,by kernel_rfl⟩):(execOp ρ o).run P w=.ok (.value (.pointer (some ⟨b,off + k * sz,none⟩))) w:=by
 obtain ⟨T,x,y,h1,h2,h5,h6⟩:=ho
 have h7:(k:Int) < n:=by omega
 have h8:¬ ((k:Int) < 0):=by omega
 unfold slT at h2
 cases hu:P.underlying T with
 | none=>rw [hu] at h2; cases h2
 | some d =>
  rw [hu] at h2
  cases d with
  | slice e =>
   simp only [beq_iff_eq] at h2
   cases hi:P.info? e with
   | none=>rw [hi] at h2; cases h2
   | some i =>
    rw [hi] at h2
    simp at h2
    simp only [execOp,h1,h5,h6]
    go_simp
    simp [sizeOf,typeInfo,hi,h2]
  | _=>cases h2
theorem belowC {w0 w w1:World} {g:Nat} (B:Below w0.heap.size w0 w) (C:Chg (· = g) w w1) (h:w0.heap.size<=g):Below w0.heap.size w0 w1:=B.trans (C.below (fun b e=>by have e':b=g:=e; omega) B.size)
end Gl
end
section
namespace Lg
open Go.RowKit Go.Lib Lim Pg Gl
def pos (x:Int):Int:=if x < 0 then 0 else x
theorem pos_rng {x:Int} (h:x<=9223372036854775807):0<=pos x/\pos x < 18446744073709551616:=by unfold pos; split<;>omega
theorem run_pos {ρ:Operand->Value} {w:World} {o:Oper} {x:Int} (ho:∃ p r,o.op=.call { callee:=.builtin .max,args:=#[p,r],argTypes:=#[3,3] }/\ρ p=.int .i64 x/\ρ r=.int .i64 0:=by exact ⟨_,_,rfl,by kernel_rfl,by kernel_rfl⟩):(execOp ρ o).run Tryz.prog w=.ok (.value (.int .i64 (pos x))) w:=by
 obtain ⟨p,r,h,h1,h2⟩:=ho
 unfold execOp pos
 simp only [h,resolve,invoke,builtin,Sem.run_bind,Sem.run_pure,Result.andThen_ok,List.map_toArray,List.map_cons,List.map_nil,h1,h2]
 simp [Builtin.max_,Builtin.max2]
theorem run_iu {ρ:Operand->Value} {w:World} {o:Oper} {k:Int} (hk:0<=k/\k < 18446744073709551616) (ho:∃ u,o.op=.convert 3 31 u/\ρ u=.int .i64 k:=by exact ⟨_,rfl,by kernel_rfl⟩):(execOp ρ o).run Tryz.prog w=.ok (.value (.int .u64 k)) w:=by
 obtain ⟨u,h,h1⟩:=ho
 simp only [execOp,h,h1]
 go_simp
 rw [IntKind.wrap_u64,Int.emod_eq_of_lt hk.1 hk.2]
theorem sgr_pos {a b:Rat}:0 < sgr a b<->b < a:=by
 unfold sgr; split
 ·rename_i h; constructor<;>intro k
  ·omega
  ·exact absurd h (Rat.not_lt.2 (Rat.le_of_lt k))
 ·split
  ·rename_i h; exact ⟨fun _=>h,fun _=>by omega⟩
  ·rename_i h; exact ⟨fun k=>by omega,fun k=>absurd k h⟩
theorem sgr_le {a b:Rat}:sgr a b<=0<->a<=b:=by
 rw [<- Rat.not_lt,<- sgr_pos]; omega
abbrev paid (u x:Int):Rat:=((u * U36 + x:Int):Rat) / ((U36:Int):Rat)
abbrev room (p k:Int):Rat:=((pos p * (pos k + 3):Int):Rat) / ((10 ^ 18:Int):Rat)
def fitV (r:Rat) (u x p k:Int):Bool:=decide (paid u x<=r) && decide (r<=paid u x + room p k)
theorem nat_lt {w:World} {a:Option Addr} {n c m:Nat} {x:Int} (h:NatA w a n c x) (hn:n<=m):x < 2 ^ (64 * m):=by
 obtain ⟨b,o,l,h1,h2,h3,h4,h5⟩:=h.ex
 have e:=val_lt h3
 have e2:=pow_mono (show l.length<=m by omega)
 rw [show (2:Int) ^ (64 * m)=(18446744073709551616:Int) ^ m by rw [Int.pow_mul]; rfl]
 omega
theorem ft_paid {u x:Int} (h0:0<=u) (h1:u < 18446744073709551616) (h2:0<=x) (h3:x < 2 ^ (64 * 60)):Ft (paid u x) (64 * 62):=by
 have e:(18446744073709551616:Int) * U36 + 2 ^ (64 * 60) < 2 ^ (64 * 62):=by decide +kernel
 have e2:=Int.mul_le_mul_of_nonneg_right (show u<=18446744073709551616 by omega) (show 0<=U36 by decide)
 have e3:=Int.mul_nonneg h0 (show 0<=U36 by decide)
 exact ft_of (by decide) (by omega) rfl (by omega) (by decide +kernel)
theorem ft_room {p k:Int} (h1:p<=9223372036854775807) (h2:k<=9223372036854775807):Ft (room p k) 130:=by
 have a:=pos_rng h1
 have b:=pos_rng h2
 have e:=pw_lt a.1 (show pos p < 2 ^ 64 by omega) (show pos k + 3 < 2 ^ 65 by omega)
 have e2:=Int.mul_nonneg a.1 (show 0<=pos k + 3 by omega)
 exact ft_of (by decide) e2 rfl (by omega) (by decide +kernel)
theorem paid_nn {u x:Int} (h0:0<=u) (h2:0<=x):0<=paid u x:=by
 have e3:=Int.mul_nonneg h0 (show 0<=U36 by decide)
 exact fr_nn (by omega) (by decide)
theorem room_nn {p k:Int} (h1:p<=9223372036854775807) (h2:k<=9223372036854775807):0<=room p k:=by
 have a:=pos_rng h1
 have b:=pos_rng h2
 exact fr_nn (Int.mul_nonneg a.1 (by omega)) (by decide)
theorem fit_n {r:Rat} {u x p k:Int} (h:(0:Int) < sgr (paid u x) r):fitV r u x p k=false:=by
 unfold fitV; rw [decide_eq_false (Rat.not_le.2 (sgr_pos.1 h))]; rfl
theorem fit_y {r:Rat} {u x p k:Int} (h:¬ (0:Int) < sgr (paid u x) r) (h':sgr r (paid u x + room p k)<=(0:Int)):fitV r u x p k=true:=by
 unfold fitV; rw [decide_eq_true (Rat.not_lt.1 fun h1=>h (sgr_pos.2 h1)),decide_eq_true (sgr_le.1 h')]; rfl
theorem fit_z {r:Rat} {u x p k:Int} (h':¬ sgr r (paid u x + room p k)<=(0:Int)):fitV r u x p k=false:=by
 unfold fitV; rw [decide_eq_false (fun h1=>h' (sgr_le.2 h1)),Bool.and_false]
theorem frac_any {w:World} {n d:Int} (hn:0<=n/\n < 18446744073709551616) (hd:0<=d/\d < 18446744073709551616) (hz:d≠0) :
  Calls Tryz.prog 42 #[.int .u64 n,.int .u64 d] w fun e w'=>∃ a k d_ a' k' d',e=.returned (.agg #[.slice a k d_,.slice a' k' d'])/\RQ w' a k d_ a' k' d' ((n:Rat) / (d:Rat))/\Below w.heap.size w w':=by
 have BB:=Below.refl w.heap.size w
 refine gc_enter (n:=16) Tryz.func42 rfl ?_
 refine gc_seq (gc_reg (ta 4 [zS,zS] 40 (pg) ?_))
 intro v1 g2 Xg2 hg2 B
 replace BB:=joinB BB B
 refine gl_nil (ge_then (gc_seq (gc_reg (t 8 (iU n) (tc 9 38 #[iU n] (nOf (x:=n) (hn).1 (hn).2) ?_)))))
 rintro _ v4 ⟨an3,kn3,dn3,rfl,Nn3,ln3,B⟩
 refine ⟨_,rfl,?_⟩
 replace BB:=joinB BB B
 replace Xg2:=Xg2.keep B
 refine t 10 (iU d) (tc 11 38 #[iU d] (nOf (x:=d) (hd).1 (hd).2) ?_)
 rintro _ v6 ⟨an5,kn5,dn5,rfl,Nn5,ln5,B⟩
 refine ⟨_,rfl,?_⟩
 replace BB:=joinB BB B
 replace Xg2:=Xg2.keep B
 replace Nn3:=Nn3.keep B
 refine tc 12 41 #[.slice an3 kn3 dn3,.slice an5 kn5 dn5] (pOf (B:=64) Nn3.a Nn5.a (by omega) (by omega) (by omega) (by omega)) ?_
 rintro _ v8 ⟨aq7,kq7,dq7,bq7,lq7,eq7,rfl,Qq7,B⟩
 refine ⟨_,rfl,?_⟩
 replace BB:=joinB BB B
 replace Xg2:=Xg2.keep B
 replace Nn3:=Nn3.keep B
 replace Nn5:=Nn5.keep B
 refine t 7 (.tuple #[.agg #[.slice aq7 kq7 dq7,.slice bq7 lq7 eq7],iI 0]) (t 13 (.agg #[.slice aq7 kq7 dq7,.slice bq7 lq7 eq7]) (t 14 (iI 0) ?_))
 have lXg2:=Xg2.lt
 refine ta 5 [zS,zS] 40 (pg) ?_
 intro v9 g10 Xg10 hg10 B
 replace BB:=joinB BB B
 replace Xg2:=Xg2.keep B
 replace Nn3:=Nn3.keep B
 replace Nn5:=Nn5.keep B
 replace Qq7:=Qq7.keep B
 refine ts Xg10 0 (.agg #[.slice aq7 kq7 dq7,.slice bq7 lq7 eq7]) [.slice aq7 kq7 dq7,.slice bq7 lq7 eq7] [.slice aq7 kq7 dq7,.slice bq7 lq7 eq7] ?_
 intro v11 Y C
 replace BB:=belowC BB C (by omega)
 replace Xg2:=Xg2.chg C (show g2≠g10 by omega)
 replace Nn3:=NatO.cg Nn3 Xg10 C (by rfl)
 replace Nn5:=NatO.cg Nn5 Xg10 C (by rfl)
 replace Qq7:=Qq7.cg Xg10 C (by rfl)
 have Xg10:=Y
 refine t 6 (iI 0) (gl_nil (ge_then (gc_fr [(4,pg g2),(5,pg g10)] (gc_seq (gc_reg (tlr 15 [.slice aq7 kq7 dq7,.slice bq7 lq7 eq7] Xg10 0 (ts Xg2 0 (.agg #[.slice aq7 kq7 dq7,.slice bq7 lq7 eq7]) [.slice aq7 kq7 dq7,.slice bq7 lq7 eq7] [.slice aq7 kq7 dq7,.slice bq7 lq7 eq7] ?_)))))))
 intro v12 Y C
 replace BB:=belowC BB C (by omega)
 replace Nn3:=NatO.cg Nn3 Xg2 C (by rfl)
 replace Nn5:=NatO.cg Nn5 Xg2 C (by rfl)
 replace Qq7:=Qq7.cg Xg2 C (by rfl)
 replace Xg10:=Xg10.chg C (show g10≠g2 by omega)
 have Xg2:=Y
 refine gl_nil (ge_then (gc_ret (ge_ret (.agg #[.slice aq7 kq7 dq7,.slice bq7 lq7 eq7]) (rsc 4 (T:=40) (by kernel_rfl) (by kernel_rfl) (lr Xg2 0)) ?_)))
 exact ⟨aq7,kq7,dq7,bq7,lq7,eq7,rfl,Qq7,BB⟩
end Lg
end
end Go.Proofs.YtlbndpkdkdgggaaGreatDoor
