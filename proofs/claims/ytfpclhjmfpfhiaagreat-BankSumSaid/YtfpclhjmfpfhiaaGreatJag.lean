/- Several texts, joined: KyX, Reg, RegA. -/
import Derived.Test.YtfpclhjmfpfhiaaGreatJaf
import Derived.Test.YtfpclhjmfpfhiaaGreatJnb
import Derived.Deep.RegionHeld3
import Derived.Laws.Tables
namespace Go.Proofs.YtfpclhjmfpfhiaaGreat
namespace Ky
open Go.RowKit Go.Lib Pg
attribute [local go_sem] Oper.semAt_some
theorem eight (l:List Int) (h:l.length=8):∃ a b c d e f g i,l=[a,b,c,d,e,f,g,i]:=by
 match l,h with
 | [a,b,c,d,e,f,g,i],_=>exact ⟨a,b,c,d,e,f,g,i,rfl⟩
theorem mk_eq {k a b n m0 m1:Int} (hf:frm k=(n,m0,m1)):mk k a b=[m0] ++ (if 8 < n then be 8 (tn k a) else []) ++ (if m1=0 then [] else [m1]) ++ (if 16 < n then be 8 b else []):=by
 unfold mk mkb
 rw [hf]
theorem mkE_eq {k a b n m0 m1:Int} (hf:frm k=(n,m0,m1)) (hn:n≠0):mkE k a b=false<->(n<=8->a=0)/\(n<=16->b=0):=by
 unfold mkE
 rw [hf]
 simp [hn]
 constructor
 ·rintro ⟨h1,h2⟩
  constructor
  ·intro h
   by_cases e:a=0
   ·exact e
   ·have:=h1 e; omega
  ·intro h
   by_cases e:b=0
   ·exact e
   ·have:=h2 e; omega
 ·rintro ⟨h1,h2⟩
  constructor
  ·intro e
   by_cases h:n<=8
   ·exact absurd (h1 h) e
   ·omega
  ·intro e
   by_cases h:n<=16
   ·exact absurd (h2 h) e
   ·omega
theorem frm_form:∀ k:Nat,k < 18->0 < k->((frm k).1=1/\(frm k).2.2=0)\/((frm k).1=9/\(frm k).2.2=0)\/((frm k).1=10/\(frm k).2.2≠0)\/((frm k).1=17/\(frm k).2.2=0)\/((frm k).1=18/\(frm k).2.2≠0):=by decide +kernel
theorem tn_tn {k a:Int}:tn k (tn k a)=a:=by
 unfold tn
 split<;>omega
theorem tn_range {k a:Int} (h:0<=a/\a < 18446744073709551616):0<=tn k a/\tn k a < 256 ^ 8:=by
 rw [show (256:Int) ^ 8=18446744073709551616 by decide]
 unfold tn
 split<;>omega
theorem bv8 {a:Int} (h:0<=a/\a < 18446744073709551616):bv (be 8 a)=a:=bv_be 8 h.1 (by rw [show (256:Int) ^ 8=18446744073709551616 by decide]; exact h.2)
theorem bv8t {k a:Int} (h:0<=a/\a < 18446744073709551616):tn k (bv (be 8 (tn k a)))=a:=by
 rw [bv_be 8 (tn_range h).1 (tn_range h).2,tn_tn]
theorem mk_back {k : Nat} (hk : k < 18) (h0 : 0 < k) {a b : Int} (ha : 0 ≤ a ∧ a < 18446744073709551616) (hb : 0 ≤ b ∧ b < 18446744073709551616) (hE : mkE k a b = false) :
    frm k = fIn (mk k a b) ∧ rdA k (mk k a b) = a ∧ rdB (mk k a b) = b := by
  obtain ⟨⟨n, m0, m1⟩, hf⟩ : ∃ f, frm k = f := ⟨_, rfl⟩
  have hF := frm_form k hk h0
  rw [hf] at hF
  simp only at hF
  have e1 := bv8t (k := k) ha
  have e2 := bv8 hb
  obtain ⟨x0, x1, x2, x3, x4, x5, x6, x7, hx⟩ := eight (be 8 (tn k a)) (be_length _ _)
  obtain ⟨y0, y1, y2, y3, y4, y5, y6, y7, hy⟩ := eight (be 8 b) (be_length _ _)
  rw [hx] at e1
  rw [hy] at e2
  rcases hF with ⟨rfl, rfl⟩ | ⟨rfl, rfl⟩ | ⟨rfl, h1⟩ | ⟨rfl, rfl⟩ | ⟨rfl, h1⟩ <;>
    (obtain ⟨hA, hB⟩ := (mkE_eq hf (by decide)).1 hE
     rw [mk_eq hf, hf, hx, hy]
     simp_all [fIn, rdA, rdB])
theorem mk_inj {k o:Nat} (hk:k < 18) (h0:0 < k) (ho:o < 18) (o0:0 < o) {a b c d:Int} (ha:0<=a/\a < 18446744073709551616) (hb:0<=b/\b < 18446744073709551616) (hc:0<=c/\c < 18446744073709551616) (hd:0<=d/\d < 18446744073709551616) (hE:mkE k a b=false) (hE2:mkE o c d=false) (h:mk k a b=mk o c d):k=o/\a=c/\b=d:=by
 obtain ⟨f1,a1,b1⟩:=mk_back hk h0 ha hb hE
 obtain ⟨f2,a2,b2⟩:=mk_back ho o0 hc hd hE2
 have e:k=o:=frm_inj k hk o ho (by rw [f1,f2,h])
 subst e
 rw [h] at a1 b1
 exact ⟨rfl,by rw [<- a1,a2],by rw [<- b1,b2]⟩
theorem mk_len (k a b:Int):(mk k a b).length<=18:=by
 unfold mk
 rw [List.length_append]
 have:=mkb_len (frm k) (tn k a)
 split
 ·rw [be_length]; omega
 ·simp; omega
end Ky
end Go.Proofs.YtfpclhjmfpfhiaaGreat
namespace Go.Proofs.YtfpclhjmfpfhiaaGreat
open Go.RowKit Lim
section
variable {ops:Array Oper} {Q:Exit->Act->World->Prop} {S:World->Prop} {fuel:Nat} {listed:Array Bool} {a:Act} {w:World}
def rgChk (ops:Array Oper) (listed:Array Bool) (a:Act) (i:Nat) (d:Option Tmp):Bool :=
 Region.noSelect ops && Region.free .any ops listed i && (Region.ready .any ops listed).contains i && decide (i < ops.size) && Region.wanted (ops.getD i default) (yielded ops a.tmps) && decide ((ops.getD i default).dst=d)
def rgNot (ops:Array Oper) (listed:Array Bool) (a:Act) (i:Nat) (d:Option Tmp):Bool :=
 Region.noSelect ops && Region.free .any ops listed i && (Region.ready .any ops listed).contains i && decide (i < ops.size) && !Region.wanted (ops.getD i default) (yielded ops a.tmps) && decide ((ops.getD i default).dst=d)
def rgLone (ops:Array Oper) (listed:Array Bool) (a:Act) (i:Nat) (d:Option Tmp):Bool :=
 decide (Region.ready .any ops listed=[i]) && decide (i < ops.size) && Region.wanted (ops.getD i default) (yielded ops a.tmps) && decide ((ops.getD i default).dst=d)
theorem at_getD {i:Nat} (h:i < ops.size):ops[i]? = some (ops.getD i default):=by
 simp [Array.getD,h]
theorem rg_take (i:Nat) (d:Option Tmp) (v:Value) (hc:rgChk ops listed a i d=true) (hy:∀ w',S w'->(execOp a.eval (ops.getD i default)).run Tryz.prog w'=.ok (.value v) w')
  (hQ:∀ c a w,Q (.panic c) (a.put d v) w->Q (.panic c) a w) (hS:S w)
  (h:wpAnyH Tryz.prog .any ops Q S fuel (listed.setIfInBounds i true) (a.put d v) w):wpAnyH Tryz.prog .any ops Q S (fuel + 1) listed a w:=by
 simp only [rgChk,Bool.and_eq_true,decide_eq_true_eq] at hc
 obtain ⟨⟨⟨⟨⟨h1,h2⟩,h3⟩,h4⟩,h5⟩,h6⟩:=hc
 subst h6
 exact wpAnyH_take (at_getD h4) h1 h2 h3 hQ (.inl ⟨h5,hy⟩) hS h
theorem rg_eq (i:Nat) (d:Option Tmp) (v v':Value) (hv:v=v') (hc:rgChk ops listed a i d=true) (hy:∀ w',S w'->(execOp a.eval (ops.getD i default)).run Tryz.prog w'=.ok (.value v) w')
  (hQ:∀ c a w,Q (.panic c) (a.put d v') w->Q (.panic c) a w) (hS:S w)
  (h:wpAnyH Tryz.prog .any ops Q S fuel (listed.setIfInBounds i true) (a.put d v') w):wpAnyH Tryz.prog .any ops Q S (fuel + 1) listed a w:=by
 subst hv
 exact rg_take i d v hc hy hQ hS h
theorem rg_skip (i:Nat) (d:Option Tmp) (hc:rgNot ops listed a i d=true) (hQ:∀ c a w,Q (.panic c) (a.put d undef) w->Q (.panic c) a w) (hS:S w)
  (h:wpAnyH Tryz.prog .any ops Q S fuel (listed.setIfInBounds i true) (a.put d undef) w):wpAnyH Tryz.prog .any ops Q S (fuel + 1) listed a w:=by
 simp only [rgNot,Bool.and_eq_true,decide_eq_true_eq,Bool.not_eq_true'] at hc
 obtain ⟨⟨⟨⟨⟨h1,h2⟩,h3⟩,h4⟩,h5⟩,h6⟩:=hc
 subst h6
 exact wpAnyH_take (at_getD h4) h1 h2 h3 hQ (.inr ⟨h5,rfl⟩) hS h
theorem rg_load (i:Nat) (d:Option Tmp) (v:Value) (T:TypeId) (k g o:Nat) (hc:rgChk ops listed a i d=true) (ho:(ops.getD i default).op=.load T (.tmp k)) (hp:a.eval (.tmp k)=.pointer (some ⟨g,o,none⟩))
  (hl:∀ w',S w'->(loadVar T ⟨g,o,none⟩).run Tryz.prog w'=.ok v w')
  (hQ:∀ c a w,Q (.panic c) (a.put d v) w->Q (.panic c) a w) (hS:S w)
  (h:wpAnyH Tryz.prog .any ops Q S fuel (listed.setIfInBounds i true) (a.put d v) w):wpAnyH Tryz.prog .any ops Q S (fuel + 1) listed a w :=
 rg_take i d v hc (fun w' hS'=>by
  have:=hl w' hS'
  simp only [execOp,ho,hp]
  simp [Instr.loadAt,Instr.sureAddr,Result.andThen,this]) hQ hS h
theorem rg_call (i:Nat) (d:Option Tmp) (f:FuncId) (args:Array Value) {Qc:Ending->World->Prop} (hc:rgLone ops listed a i d=true) (hrun:(execOp a.eval (ops.getD i default)).run Tryz.prog w=.ok (.enter f args) w)
  (hcall:Calls Tryz.prog f args w Qc) (hk:∀ e w',Qc e w'->∃ v,e=.returned v/\S w'/\wpAnyH Tryz.prog .any ops Q S fuel (listed.setIfInBounds i true) (a.put d v) w') :
  wpAnyH Tryz.prog .any ops Q S (fuel + 1) listed a w:=by
 simp only [rgLone,Bool.and_eq_true,decide_eq_true_eq] at hc
 obtain ⟨⟨⟨h3,h4⟩,h5⟩,h6⟩:=hc
 subst h6
 refine wpAnyH_all h3 (by simp) fun j hj => ?_
 obtain rfl:j=i:=by simpa using hj
 refine wpOp_step (at_getD h4) fun K hK => ?_
 rw [if_pos h5]
 unfold Oper.wp
 rw [hrun]
 refine hcall.mono fun e w' he => ?_
 obtain ⟨v,rfl,hS',hw⟩:=hk e w' he
 exact hK _ _ ⟨hS',hw⟩
theorem rg_done (hr:Region.ready .any ops listed=[]) (h:Q .normal a w):wpAnyH Tryz.prog .any ops Q S fuel listed a w:=wpAnyH_done hr h fuel
theorem rg_start {id:Nat} (hm:Tryz.prog.follows .mixedOrders=true) (hS:S w.drew) (h:wpAnyH Tryz.prog .any ops Q S ops.size (Array.replicate ops.size false) a w.drew):(Code.region id ops true).wp Tryz.prog Q a w :=
 wp_region_held_drew hm hS fun _=>h
end
end Go.Proofs.YtfpclhjmfpfhiaaGreat
namespace Go.Proofs.YtfpclhjmfpfhiaaGreat
open Go.RowKit Lim
structure Box (w:World) (g:Nat) (cs:List Value) (t:TypeId):Prop where
 blk:w.heap[g]? = some (.cells cs.toArray t (0,0))
theorem Box.lt {w:World} {g:Nat} {cs:List Value} {t:TypeId} (h:Box w g cs t):g < w.heap.size:=lt_of_block h.blk
theorem Box.keep {w w':World} {g:Nat} {cs:List Value} {t:TypeId} (h:Box w g cs t) (hb:Below w.heap.size w w'):Box w' g cs t:=⟨by rw [hb.block g h.lt]; exact h.blk⟩
theorem Box.drew {w:World} {g:Nat} {cs:List Value} {t:TypeId} (h:Box w g cs t):Box w.drew g cs t:=⟨h.blk⟩
theorem box_new (w:World) (cs:List Value) (t:TypeId):Box (w.alloc (.cells cs.toArray t)) w.heap.size cs t:=⟨by
 show (w.heap.push _)[w.heap.size]? = _
 rw [Array.getElem?_push_size]⟩
theorem Slot.box {w:World} {g:Nat} {v:Value} {t:TypeId} (h:Slot w g v t):Box w g [v] t:=⟨h.blk⟩
theorem Box.row {w:World} {g:Nat} {cs ds:List Value} {t:TypeId} (h:Box w g cs t):Box (w.setRow g ds.toArray) g ds t:=⟨by rw [setRow_heap w g _ _ _ _ h.blk]⟩
theorem Box.other {w:World} {g g':Nat} {cs:List Value} {t:TypeId} (h:Box w g cs t) (hne:g≠g') (ds:Array Value):Box (w.setRow g' ds) g cs t:=⟨by rw [setRow_other w g' g ds hne]; exact h.blk⟩
theorem below_row {B g:Nat} {w w':World} (h:Below B w w') (hB:B<=g) (ds:Array Value):Below B w (w'.setRow g ds) :=
 h.trans ⟨rfl,rfl,rfl,by simp [World.setRow],fun k hk=>setRow_other w' g k ds (by omega)⟩
theorem At.row {w:World} {ao:Option Addr} {b o g:Nat} {l:List Int} (k:At w ao b o l) {cs:List Value} {t:TypeId} (s:Box w g cs t) (hv:∀ v∈cs,∀ x,v≠.int .u64 x) (ds:Array Value):At (w.setRow g ds) ao b o l :=
 ⟨k.loc,fun i hi=>by
  have hc:=k.cell i hi
  by_cases e:b=g
  ·subst e
   simp only [World.cell?,s.blk] at hc
   have h1:cs.toArray[o + i]? = some (.int .u64 (nth l i)):=by simpa using hc
   rw [List.getElem?_toArray] at h1
   exact absurd rfl (hv _ (List.mem_of_getElem? h1) _)
  ·rw [World.cell?_of_block (w:=w) (setRow_other w g b ds e)]; exact hc⟩
theorem NatO.row {w:World} {ao:Option Addr} {n c g:Nat} {x:Int} (h:NatO w ao n c x) {cs:List Value} {t:TypeId} (s:Box w g cs t) (hv:∀ v∈cs,∀ x,v≠.int .u64 x) (ds:Array Value):NatO (w.setRow g ds) ao n c x:=by
 obtain ⟨b,o,l,h1,h2,h3,h4⟩:=h.ex
 exact ⟨b,o,l,h1,h2,h3,h4.row s hv ds⟩
theorem NatA.row {w:World} {ao:Option Addr} {n c g:Nat} {x:Int} (h:NatA w ao n c x) {cs:List Value} {t:TypeId} (s:Box w g cs t) (hv:∀ v∈cs,∀ x,v≠.int .u64 x) (ds:Array Value):NatA (w.setRow g ds) ao n c x:=by
 obtain ⟨b,o,l,h1,h2,h3,h4,h5⟩:=h.ex
 exact ⟨b,o,l,h1,h2,h3,h4.row s hv ds,h5⟩
theorem At.blk {w w':World} {ao:Option Addr} {b o g:Nat} {l:List Int} (k:At w ao b o l) {cs:List Value} {t:TypeId} (s:Box w g cs t) (hv:∀ v∈cs,∀ x,v≠.int .u64 x) (hw:∀ k,k≠g->w'.heap[k]? = w.heap[k]?):At w' ao b o l :=
 ⟨k.loc,fun i hi=>by
  have hc:=k.cell i hi
  by_cases e:b=g
  ·subst e
   simp only [World.cell?,s.blk] at hc
   have h1:cs.toArray[o + i]? = some (.int .u64 (nth l i)):=by simpa using hc
   rw [List.getElem?_toArray] at h1
   exact absurd rfl (hv _ (List.mem_of_getElem? h1) _)
  ·rw [World.cell?_of_block (w:=w) (hw b e)]; exact hc⟩
theorem NatO.blk {w w':World} {ao:Option Addr} {n c g:Nat} {x:Int} (h:NatO w ao n c x) {cs:List Value} {t:TypeId} (s:Box w g cs t) (hv:∀ v∈cs,∀ x,v≠.int .u64 x) (hw:∀ k,k≠g->w'.heap[k]? = w.heap[k]?):NatO w' ao n c x:=by
 obtain ⟨b,o,l,h1,h2,h3,h4⟩:=h.ex
 exact ⟨b,o,l,h1,h2,h3,h4.blk s hv hw⟩
theorem NatA.blk {w w':World} {ao:Option Addr} {n c g:Nat} {x:Int} (h:NatA w ao n c x) {cs:List Value} {t:TypeId} (s:Box w g cs t) (hv:∀ v∈cs,∀ x,v≠.int .u64 x) (hw:∀ k,k≠g->w'.heap[k]? = w.heap[k]?):NatA w' ao n c x:=by
 obtain ⟨b,o,l,h1,h2,h3,h4,h5⟩:=h.ex
 exact ⟨b,o,l,h1,h2,h3,h4.blk s hv hw,h5⟩
theorem Box.off {w w':World} {g g':Nat} {cs:List Value} {t:TypeId} (h:Box w g cs t) (hne:g≠g') (hw:∀ k,k≠g'->w'.heap[k]? = w.heap[k]?):Box w' g cs t:=⟨by rw [hw g hne]; exact h.blk⟩
def putAll (a:Act):List (Option Tmp × Value)->Act
 | []=>a
 | p :: l=>putAll (a.put p.1 p.2) l
section
variable {ops:Array Oper} {Q:Exit->Act->World->Prop} {S:World->Prop} {fuel:Nat} {listed:Array Bool} {a:Act} {w:World}
theorem rg_mid {X:Type} {id:Nat} {K:Act->World->Prop} {Q':Exit->Act->World->Prop} (upd:X->List (Option Tmp × Value)) (F:X->World->Prop) (S:World->Prop) (hm:Tryz.prog.follows .mixedOrders=true) (hS:S w.drew)
  (h1:wpAnyH Tryz.prog .any ops (Exit.then (fun a' w'=>∃ x,a'=putAll a (upd x)/\F x w') (fun _ _ _=>False)) S ops.size (Array.replicate ops.size false) a w.drew)
  (h2:∀ x w',F x w'->K (putAll a (upd x)) w'):(Code.region id ops true).wp Tryz.prog (Exit.then K Q') a w :=
 Code.wp_mono (fun e a' w' h=>by
  cases e<;>first
   | (obtain ⟨x,rfl,hF⟩:=h; exact h2 x w' hF)
   | exact h.elim) (wp_region_held_drew (S:=S) hm hS fun _=>h1)
def rgWant (ops:Array Oper) (a:Act) (i:Nat) (d:Option Tmp):Bool :=
 decide (i < ops.size) && Region.wanted (ops.getD i default) (yielded ops a.tmps) && decide ((ops.getD i default).dst=d)
theorem rg_ready (rs:List Nat) (hr:Region.ready .any ops listed=rs) (hne:rs≠[]) (h:AllReadyH Tryz.prog .any ops Q S fuel listed a w rs):wpAnyH Tryz.prog .any ops Q S (fuel + 1) listed a w:=wpAnyH_ready hr hne h
theorem ar_nil:AllReadyH Tryz.prog .any ops Q S fuel listed a w []:=AllReadyH.nil
theorem ar_call {rs:List Nat} (i:Nat) (d:Option Tmp) (f:FuncId) (args:Array Value) {Qc:Ending->World->Prop} (hc:rgWant ops a i d=true) (hrun:(execOp a.eval (ops.getD i default)).run Tryz.prog w=.ok (.enter f args) w)
  (hcall:Calls Tryz.prog f args w Qc) (hk:∀ e w',Qc e w'->∃ v,e=.returned v/\S w'/\wpAnyH Tryz.prog .any ops Q S fuel (listed.setIfInBounds i true) (a.put d v) w')
  (hs:AllReadyH Tryz.prog .any ops Q S fuel listed a w rs):AllReadyH Tryz.prog .any ops Q S fuel listed a w (i :: rs):=by
 simp only [rgWant,Bool.and_eq_true,decide_eq_true_eq] at hc
 obtain ⟨⟨h4,h5⟩,h6⟩:=hc
 subst h6
 refine AllReadyH.cons (at_getD h4) (fun K hK => ?_) hs
 rw [if_pos h5]
 unfold Oper.wp
 rw [hrun]
 refine hcall.mono fun e w' he => ?_
 obtain ⟨v,rfl,hS',hw⟩:=hk e w' he
 exact hK.out _ _ hS' fun _=>hw
theorem ar_val {rs:List Nat} (i:Nat) (d:Option Tmp) (v:Value) (w1:World) (hc:rgWant ops a i d=true) (hrun:(execOp a.eval (ops.getD i default)).run Tryz.prog w=.ok (.value v) w1)
  (hS1:S w1) (h:wpAnyH Tryz.prog .any ops Q S fuel (listed.setIfInBounds i true) (a.put d v) w1)
  (hs:AllReadyH Tryz.prog .any ops Q S fuel listed a w rs):AllReadyH Tryz.prog .any ops Q S fuel listed a w (i :: rs):=by
 simp only [rgWant,Bool.and_eq_true,decide_eq_true_eq] at hc
 obtain ⟨⟨h4,h5⟩,h6⟩:=hc
 subst h6
 refine AllReadyH.cons (at_getD h4) (fun K hK => ?_) hs
 rw [if_pos h5]
 unfold Oper.wp
 rw [hrun]
 show K (a.put (ops.getD i default).dst v) w1
 exact hK.out _ _ hS1 fun _=>h
theorem ar_void {rs:List Nat} (i:Nat) (w1:World) (hc:rgWant ops a i none=true) (hrun:(execOp a.eval (ops.getD i default)).run Tryz.prog w=.ok .skip w1)
  (hS1:S w1) (h:wpAnyH Tryz.prog .any ops Q S fuel (listed.setIfInBounds i true) (a.put none undef) w1)
  (hs:AllReadyH Tryz.prog .any ops Q S fuel listed a w rs):AllReadyH Tryz.prog .any ops Q S fuel listed a w (i :: rs):=by
 simp only [rgWant,Bool.and_eq_true,decide_eq_true_eq] at hc
 obtain ⟨⟨h4,h5⟩,h6⟩:=hc
 refine AllReadyH.cons (at_getD h4) (fun K hK => ?_) hs
 rw [if_pos h5]
 unfold Oper.wp
 rw [hrun]
 show K (a.put (ops.getD i default).dst undef) w1
 rw [h6]
 exact hK.out _ _ hS1 fun _=>h
theorem ar_alloc {rs:List Nat} (i:Nat) (d:Option Tmp) (T:TypeId) (cs:List Value) (hc:rgWant ops a i d=true) (hrun:(execOp a.eval (ops.getD i default)).run Tryz.prog w=.ok (.value (.pointer (some ⟨w.heap.size,0,none⟩))) (w.alloc (.cells cs.toArray T)))
  (hk:∀ V,Box V w.heap.size cs T->Below w.heap.size w V->S V/\wpAnyH Tryz.prog .any ops Q S fuel (listed.setIfInBounds i true) (a.put d (.pointer (some ⟨w.heap.size,0,none⟩))) V)
  (hs:AllReadyH Tryz.prog .any ops Q S fuel listed a w rs):AllReadyH Tryz.prog .any ops Q S fuel listed a w (i :: rs):=by
 obtain ⟨h1,h2⟩:=hk _ (box_new w cs T) (below_alloc w _)
 exact ar_val i d _ _ hc hrun h1 h2 hs
end
end Go.Proofs.YtfpclhjmfpfhiaaGreat
