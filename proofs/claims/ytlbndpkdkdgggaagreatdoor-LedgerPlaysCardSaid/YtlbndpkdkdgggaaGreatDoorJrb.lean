/- Several texts, joined: RegA. -/
import Derived.Test.YtlbndpkdkdgggaaGreatDoorJra
import Derived.Laws.Tables
set_option maxRecDepth 100000
set_option maxHeartbeats 8000000
namespace Go.Proofs.YtlbndpkdkdgggaaGreatDoor
open Go.RowKit Lim
structure Box (w:World) (g:Nat) (cs:List Value) (t:TypeId):Prop where
 blk:w.heap[g]? = some (.cells cs.toArray t (0,0))
theorem Box.lt {w:World} {g:Nat} {cs:List Value} {t:TypeId} (h:Box w g cs t):g < w.heap.size:=lt_of_block h.blk
theorem Box.keep {w w':World} {g:Nat} {cs:List Value} {t:TypeId} (h:Box w g cs t) (hb:Below w.heap.size w w'):Box w' g cs t:=⟨by rw [hb.block g h.lt]; exact h.blk⟩
theorem Box.drew {w:World} {g:Nat} {cs:List Value} {t:TypeId} (h:Box w g cs t):Box w.drew g cs t:=⟨h.blk⟩
theorem box_new (w:World) (cs:List Value) (t:TypeId):Box (w.alloc (.cells cs.toArray t)) w.heap.size cs t:=⟨by
 show (w.heap.push _)[w.heap.size]? = _
 rw [Array.getElem?_push_size]⟩
theorem Box.slot {w:World} {g:Nat} {v:Value} {t:TypeId} (h:Box w g [v] t):Slot w g v t:=⟨h.blk⟩
theorem Box.row {w:World} {g:Nat} {cs ds:List Value} {t:TypeId} (h:Box w g cs t):Box (w.setRow g ds.toArray) g ds t:=⟨by rw [setRow_heap w g _ _ _ _ h.blk]⟩
theorem below_row {B g:Nat} {w w':World} (h:Below B w w') (hB:B<=g) (ds:Array Value):Below B w (w'.setRow g ds) :=
 h.trans ⟨rfl,rfl,rfl,by simp [World.setRow],fun k hk=>setRow_other w' g k ds (by omega)⟩
theorem At.blk {w w':World} {ao:Option Addr} {b o g:Nat} {l:List Int} (k:At w ao b o l) {cs:List Value} {t:TypeId} (s:Box w g cs t) (hv:∀ v∈cs,∀ x,v≠.int .u64 x) (hw:∀ k,k≠g->w'.heap[k]? = w.heap[k]?):At w' ao b o l :=
 ⟨k.loc,fun i hi=>by
  have hc:=k.cell i hi
  by_cases e:b=g
  ·subst e
   simp only [World.cell?,s.blk] at hc
   have h1:cs.toArray[o + i]? = some (.int .u64 (nth l i)):=by simpa using hc
   rw [List.getElem?_toArray] at h1
   exact absurd rfl (hv _ (List.mem_of_getElem? h1) _)
  ·rw [World.cell?_of_block (w:=w) (hw b e)]; exact hc⟩
theorem set2_other (w:World) (g:Nat) (u v:Value) (k:Nat) (hk:k≠g):((w.setCell ⟨g,0,none⟩ u).setCell ⟨g,1,none⟩ v).heap[k]? = w.heap[k]? := by
 rw [Below.heap_setCell _ _ v k hk,Below.heap_setCell _ _ u k hk]
theorem Box.put2 {w:World} {g:Nat} {a b:Value} {t:TypeId} (h:Box w g [a,b] t) (u v:Value):Box ((w.setCell ⟨g,0,none⟩ u).setCell ⟨g,1,none⟩ v) g [u,v] t:=⟨by
 have:=h.blk
 simp only [World.setCell,Array.getElem?_modify,if_true,this]
 simp⟩
theorem below_put2 {B g:Nat} {w w':World} (h:Below B w w') (hB:B<=g) (u v:Value):Below B w ((w'.setCell ⟨g,0,none⟩ u).setCell ⟨g,1,none⟩ v):=(h.setCell (p:=⟨g,0,none⟩) hB u).setCell (p:=⟨g,1,none⟩) hB v
theorem no_ints2 (a b:Option Addr) (n c m d:Nat):∀ v∈[Value.slice a n c,Value.slice b m d],∀ x,v≠.int .u64 x:=fun v hv x e=>by
 rcases List.mem_cons.1 hv with h | h
 ·subst h; cases e
 ·rw [List.mem_singleton] at h; subst h; cases e
theorem NatO.put2 {w:World} {ao:Option Addr} {n c g:Nat} {x:Int} (h:NatO w ao n c x) {a b:Option Addr} {i j m d:Nat} {t:TypeId} (s:Box w g [.slice a i j,.slice b m d] t) (u v:Value):NatO ((w.setCell ⟨g,0,none⟩ u).setCell ⟨g,1,none⟩ v) ao n c x:=by
 obtain ⟨b,o,l,h1,h2,h3,h4⟩:=h.ex
 exact ⟨b,o,l,h1,h2,h3,h4.blk s (no_ints2 _ _ _ _ _ _) (fun k hk=>set2_other w g u v k hk)⟩
theorem NatA.put2 {w:World} {ao:Option Addr} {n c g:Nat} {x:Int} (h:NatA w ao n c x) {a b:Option Addr} {i j m d:Nat} {t:TypeId} (s:Box w g [.slice a i j,.slice b m d] t) (u v:Value):NatA ((w.setCell ⟨g,0,none⟩ u).setCell ⟨g,1,none⟩ v) ao n c x:=by
 obtain ⟨b,o,l,h1,h2,h3,h4,h5⟩:=h.ex
 exact ⟨b,o,l,h1,h2,h3,h4.blk s (no_ints2 _ _ _ _ _ _) (fun k hk=>set2_other w g u v k hk),h5⟩
theorem NatO.blk {w w':World} {ao:Option Addr} {n c g:Nat} {x:Int} (h:NatO w ao n c x) {cs:List Value} {t:TypeId} (s:Box w g cs t) (hv:∀ v∈cs,∀ x,v≠.int .u64 x) (hw:∀ k,k≠g->w'.heap[k]? = w.heap[k]?):NatO w' ao n c x:=by
 obtain ⟨b,o,l,h1,h2,h3,h4⟩:=h.ex
 exact ⟨b,o,l,h1,h2,h3,h4.blk s hv hw⟩
theorem NatA.blk {w w':World} {ao:Option Addr} {n c g:Nat} {x:Int} (h:NatA w ao n c x) {cs:List Value} {t:TypeId} (s:Box w g cs t) (hv:∀ v∈cs,∀ x,v≠.int .u64 x) (hw:∀ k,k≠g->w'.heap[k]? = w.heap[k]?):NatA w' ao n c x:=by
 obtain ⟨b,o,l,h1,h2,h3,h4,h5⟩:=h.ex
 exact ⟨b,o,l,h1,h2,h3,h4.blk s hv hw,h5⟩
theorem Box.off {w w':World} {g g':Nat} {cs:List Value} {t:TypeId} (h:Box w g cs t) (hne:g≠g') (hw:∀ k,k≠g'->w'.heap[k]? = w.heap[k]?):Box w' g cs t:=⟨by rw [hw g hne]; exact h.blk⟩
def putAll (a:Act):List (Option Tmp × Value)->Act
 | []=>a
 | p :: l=>putAll (a.put p.1 p.2) l
section
variable {ops:Array Oper} {Q:Exit->Act->World->Prop} {S:World->Prop} {fuel:Nat} {listed:Array Bool} {a:Act} {w:World}
theorem rg_mid {X:Type} {id:Nat} {K:Act->World->Prop} {Q':Exit->Act->World->Prop} (upd:X->List (Option Tmp × Value)) (F:X->World->Prop) (S:World->Prop) (hm:Tryz.prog.follows .mixedOrders=true) (hS:S w.drew)
  (h1:wpAnyH Tryz.prog .any ops (Exit.then (fun a' w'=>∃ x,a'=putAll a (upd x)/\F x w') (fun _ _ _=>False)) S ops.size (Array.replicate ops.size false) a w.drew)
  (h2:∀ x w',F x w'->K (putAll a (upd x)) w'):(Code.region id ops true).wp Tryz.prog (Exit.then K Q') a w :=
 Code.wp_mono (fun e a' w' h=>by
  cases e<;>first
   | (obtain ⟨x,rfl,hF⟩:=h; exact h2 x w' hF)
   | exact h.elim) (wp_region_held_drew (S:=S) hm hS fun _=>h1)
def rgWant (ops:Array Oper) (a:Act) (i:Nat) (d:Option Tmp):Bool :=
 decide (i < ops.size) && Region.wanted (ops.getD i default) (yielded ops a.tmps) && decide ((ops.getD i default).dst=d)
theorem rg_ready (rs:List Nat) (hr:Region.ready .any ops listed=rs) (hne:rs≠[]) (h:AllReadyH Tryz.prog .any ops Q S fuel listed a w rs):wpAnyH Tryz.prog .any ops Q S (fuel + 1) listed a w:=wpAnyH_ready hr hne h
theorem ar_nil:AllReadyH Tryz.prog .any ops Q S fuel listed a w []:=AllReadyH.nil
theorem ar_call {rs:List Nat} (i:Nat) (d:Option Tmp) (f:FuncId) (args:Array Value) {Qc:Ending->World->Prop} (hc:rgWant ops a i d=true) (hrun:(execOp a.eval (ops.getD i default)).run Tryz.prog w=.ok (.enter f args) w)
  (hcall:Calls Tryz.prog f args w Qc) (hk:∀ e w',Qc e w'->∃ v,e=.returned v/\S w'/\wpAnyH Tryz.prog .any ops Q S fuel (listed.setIfInBounds i true) (a.put d v) w')
  (hs:AllReadyH Tryz.prog .any ops Q S fuel listed a w rs):AllReadyH Tryz.prog .any ops Q S fuel listed a w (i :: rs):=by
 simp only [rgWant,Bool.and_eq_true,decide_eq_true_eq] at hc
 obtain ⟨⟨h4,h5⟩,h6⟩:=hc
 subst h6
 refine AllReadyH.cons (at_getD h4) (fun K hK => ?_) hs
 rw [if_pos h5]
 unfold Oper.wp
 rw [hrun]
 refine hcall.mono fun e w' he => ?_
 obtain ⟨v,rfl,hS',hw⟩:=hk e w' he
 exact hK.out _ _ hS' fun _=>hw
theorem ar_val {rs:List Nat} (i:Nat) (d:Option Tmp) (v:Value) (w1:World) (hc:rgWant ops a i d=true) (hrun:(execOp a.eval (ops.getD i default)).run Tryz.prog w=.ok (.value v) w1)
  (hS1:S w1) (h:wpAnyH Tryz.prog .any ops Q S fuel (listed.setIfInBounds i true) (a.put d v) w1)
  (hs:AllReadyH Tryz.prog .any ops Q S fuel listed a w rs):AllReadyH Tryz.prog .any ops Q S fuel listed a w (i :: rs):=by
 simp only [rgWant,Bool.and_eq_true,decide_eq_true_eq] at hc
 obtain ⟨⟨h4,h5⟩,h6⟩:=hc
 subst h6
 refine AllReadyH.cons (at_getD h4) (fun K hK => ?_) hs
 rw [if_pos h5]
 unfold Oper.wp
 rw [hrun]
 show K (a.put (ops.getD i default).dst v) w1
 exact hK.out _ _ hS1 fun _=>h
theorem ar_void {rs:List Nat} (i:Nat) (w1:World) (hc:rgWant ops a i none=true) (hrun:(execOp a.eval (ops.getD i default)).run Tryz.prog w=.ok .skip w1)
  (hS1:S w1) (h:wpAnyH Tryz.prog .any ops Q S fuel (listed.setIfInBounds i true) (a.put none undef) w1)
  (hs:AllReadyH Tryz.prog .any ops Q S fuel listed a w rs):AllReadyH Tryz.prog .any ops Q S fuel listed a w (i :: rs):=by
 simp only [rgWant,Bool.and_eq_true,decide_eq_true_eq] at hc
 obtain ⟨⟨h4,h5⟩,h6⟩:=hc
 refine AllReadyH.cons (at_getD h4) (fun K hK => ?_) hs
 rw [if_pos h5]
 unfold Oper.wp
 rw [hrun]
 show K (a.put (ops.getD i default).dst undef) w1
 rw [h6]
 exact hK.out _ _ hS1 fun _=>h
theorem run_put {o:Oper} {T t:TypeId} {p q g:Nat} {cs ds:List Value} (ho:o.op=.store T (.tmp p) (.tmp q)) (hp:a.eval (.tmp p)=.pointer (some ⟨g,0,none⟩)) (hq:a.eval (.tmp q)=.agg ds.toArray)
  (hb:Box w g cs t) (hi:(Tryz.prog.info? T).map (·.size)=some ds.toArray.size) (hl:cs.length=ds.length) (h1:ds.toArray.all (·.oneCell')=true) :
  (execOp a.eval o).run Tryz.prog w=.ok .skip (w.setRow g ds.toArray):=by
 have:=run_storeVar_row (P:=Tryz.prog) w g t T cs.toArray ds.toArray hb.blk hi (by simp [hl]) h1
 simp only [execOp,ho,hp,hq]
 simp [Instr.storeAt,Instr.sureAddr,Result.andThen,this]
theorem ar_alloc {rs:List Nat} (i:Nat) (d:Option Tmp) (T:TypeId) (cs:List Value) (hc:rgWant ops a i d=true) (hrun:(execOp a.eval (ops.getD i default)).run Tryz.prog w=.ok (.value (.pointer (some ⟨w.heap.size,0,none⟩))) (w.alloc (.cells cs.toArray T)))
  (hk:∀ V,Box V w.heap.size cs T->Below w.heap.size w V->S V/\wpAnyH Tryz.prog .any ops Q S fuel (listed.setIfInBounds i true) (a.put d (.pointer (some ⟨w.heap.size,0,none⟩))) V)
  (hs:AllReadyH Tryz.prog .any ops Q S fuel listed a w rs):AllReadyH Tryz.prog .any ops Q S fuel listed a w (i :: rs):=by
 obtain ⟨h1,h2⟩:=hk _ (box_new w cs T) (below_alloc w _)
 exact ar_val i d _ _ hc hrun h1 h2 hs
theorem ar_store {rs:List Nat} (i:Nat) (T t:TypeId) (p q g:Nat) (cs ds:List Value) (hc:rgWant ops a i none=true) (ho:(ops.getD i default).op=.store T (.tmp p) (.tmp q)) (hp:a.eval (.tmp p)=.pointer (some ⟨g,0,none⟩)) (hq:a.eval (.tmp q)=.agg ds.toArray)
  (hb:Box w g cs t) (hi:(Tryz.prog.info? T).map (·.size)=some ds.toArray.size) (hl:cs.length=ds.length) (h1:ds.toArray.all (·.oneCell')=true)
  (hk:∀ V,Box V g ds t->(∀ k,k≠g->V.heap[k]? = w.heap[k]?)->Below g w V->S V/\wpAnyH Tryz.prog .any ops Q S fuel (listed.setIfInBounds i true) (a.put none undef) V)
  (hs:AllReadyH Tryz.prog .any ops Q S fuel listed a w rs):AllReadyH Tryz.prog .any ops Q S fuel listed a w (i :: rs):=by
 have hrun:=run_put (a:=a) (w:=w) ho hp hq hb hi hl h1
 obtain ⟨e1,e2⟩:=hk (w.setRow g ds.toArray) hb.row (fun k hk=>setRow_other w g k _ hk) (below_row (Below.refl _ _) (Nat.le_refl _) _)
 exact ar_void i _ hc hrun e1 e2 hs
end
end Go.Proofs.YtlbndpkdkdgggaaGreatDoor
