/- Several texts, joined: RcG, RcH, RcI, EncF, EncG, EncI, RcJ, RcK, RcL, EncJ, EncK, RefB2, EncL, EncP, EncQ, EncR, EncS, RcO, RcM, RcN, EncM, RcT. -/
import Derived.Test.YtcpnipcgedfgdaaGreatJai
import Derived.Lib.SlBytesConst
import Derived.Test.YtcpnipcgedfgdaaGreatJaa
set_option maxRecDepth 100000
set_option maxHeartbeats 8000000
namespace Go.Proofs.YtcpnipcgedfgdaaGreat
section
namespace Rc
open Go.RowKit Go.Lib Pg
attribute [local go_sem] Oper.semAt_some
abbrev RSt:=Int × List Int × (Nat->Int)
def pBoolI (l:List Int):Int ⊕ Int × Nat:=match pBool l with
 | .inl e=>.inl e
 | .inr p=>.inr ((if p.1 then 1 else 0),p.2)
def p1:Nat->List Int->Int ⊕ Int × Nat
 | 0,l=>pFix 8 l
 | 1,l=>pBoolI l
 | _,l=>pNat l
theorem pBoolI_E (l:List Int) (err:Int):rdE (pBoolI l) err=rdE (pBool l) err:=by
 unfold rdE pBoolI
 cases pBool l<;>rfl
theorem pBoolI_L (l m:List Int) (err:Int):rdL (pBoolI l) err m=rdL (pBool l) err m:=by
 unfold rdL pBoolI
 cases pBool l<;>rfl
theorem pBoolI_V (l:List Int) (err:Int):rdV 0 (pBoolI l) err=if rdV false (pBool l) err then 1 else 0:=by
 unfold rdV pBoolI
 by_cases h:err=0
 ·rw [if_pos h,if_pos h]
  cases pBool l<;>rfl
 ·rw [if_neg h,if_neg h]
  rfl
def rnx (k o:Nat) (s:RSt):RSt:=(rdE (p1 k s.2.1) s.1,rdL (p1 k s.2.1) s.1 s.2.1,fun i=>if i=o then rdV 0 (p1 k s.2.1) s.1 else s.2.2 i)
def FldR (w:World) (B:Nat) (kd:Nat->Nat) (cs:List Value) (xs:Nat->Int):Prop:=∀ o,(kd o=0->cs[o]? = some (.int .u64 (xs o)))/\(kd o=1->∃ b:Bool,cs[o]? = some (.bool b)/\xs o=if b then 1 else 0)/\(kd o=2->∃ ao n c,cs[o]? = some (.slice ao n c)/\NatW w B ao n c (xs o)/\n<=255)
theorem FldR.off {w w':World} {B:Nat} {kd:Nat->Nat} {cs:List Value} {xs:Nat->Int} (h:FldR w B kd cs xs) (hs:w.heap.size<=w'.heap.size) (hw:∀ b,B<=b->b < w.heap.size->w'.heap[b]? = w.heap[b]?):FldR w' B kd cs xs:=fun o=>⟨(h o).1,(h o).2.1,fun hk=>by
 obtain ⟨ao,n,c,h1,h2,h3⟩:=(h o).2.2 hk
 exact ⟨ao,n,c,h1,h2.off hs hw,h3⟩⟩
structure RI (w0:World) (B g b vb rb:Nat) (kd:Nat->Nat) (len:Nat) (T vt:TypeId) (s:RSt) (w:World):Prop where
 rd:RdA w g b s.1 s.2.1
 var:Blk w vb [.pointer (some ⟨g,0,none⟩)] vt
 rc:∃ cs,cs.length=len/\Blk w rb cs T/\FldR w B kd cs s.2.2
 bel:Below w0.heap.size w0 w
 s1:rb≠g
 s2:vb≠g
 s3:vb≠rb
 s4:b≠rb
 g1:g < B
 r1:rb < B
 g0:w0.heap.size<=g
 r0:w0.heap.size<=rb
theorem but_set (w:World) (g o:Nat) (v:Value):But g w (w.setCell ⟨g,o,none⟩ v):=by
 have h:=(Chg.refl (fun x=>x=g) w).cell (g:=g) (i:=o) (.inl rfl) v
 exact ⟨h.os,h.tape,h.output,h.size,fun b hb hne=>h.same b hb hne⟩
theorem RI.step {w0 w w1:World} {B g b vb rb len o k:Nat} {kd:Nat->Nat} {T vt:TypeId} {s:RSt} {e1:Int} {l1:List Int} {v:Value} {x:Int} (h:RI w0 B g b vb rb kd len T vt s w) (ho:kd o=k) (hl:o < len) (X:RdA w1 g b e1 l1) (hB:But g w w1) (hv:(k=0/\v=.int .u64 x)\/(k=1/\∃ t:Bool,v=.bool t/\x=if t then 1 else 0)\/(k=2/\∃ ao n c,v=.slice ao n c/\NatW w1 B ao n c x/\n<=255)) :
  RI w0 B g b vb rb kd len T vt (e1,l1,fun i=>if i=o then x else s.2.2 i) (w1.setCell ⟨rb,o,none⟩ v)/\Chg (fun y=>y=g\/y=rb) w (w1.setCell ⟨rb,o,none⟩ v):=by
 have hS:=but_set w1 rb o v
 have h1:=h.s1
 have h3:=h.g1
 have h4:=h.r1
 have hc1:Chg (· = g) w w1:=But.chg hB
 have hc2:Chg (· = rb) w1 (w1.setCell ⟨rb,o,none⟩ v):=But.chg hS
 obtain ⟨cs,hcl,hcb,hF⟩:=h.rc
 have b1:Below w0.heap.size w0 w1:=hB.below h.bel h.g0 (Nat.le_refl _)
 have off1:∀ y,B<=y->y < w.heap.size->w1.heap[y]? = w.heap[y]? := fun y hy hy2=>hB.block y hy2 (by omega)
 have off2:∀ y,B<=y->y < w1.heap.size->(w1.setCell ⟨rb,o,none⟩ v).heap[y]? = w1.heap[y]? := fun y hy hy2=>hS.block y hy2 (by omega)
 refine ⟨⟨X.offW (fun e=>h1 e.symm) h.s4 hS,(h.var.chg hc1 h.s2).chg hc2 h.s3,⟨cs.set o v,by rw [List.length_set]; exact hcl,(hcb.chg hc1 h1).setCell (i:=o) v,?_⟩,hS.below b1 h.r0 (Nat.le_refl _),h.s1,h.s2,h.s3,h.s4,h.g1,h.r1,h.g0,h.r0⟩,(hc1.mono (fun _ _ e=>.inl e)).trans hc2 (fun _ _ e=>.inr e)⟩
 have hF1:=hF.off hB.size off1
 intro i
 by_cases hi:i=o
 ·subst hi
  have hget:(cs.set i v)[i]? = some v:=by rw [List.getElem?_set_self (by omega)]
  rw [hget]
  simp only [if_true]
  refine ⟨fun hk => ?_,fun hk => ?_,fun hk => ?_⟩
  ·rcases hv with ⟨_,e⟩ | ⟨e,_⟩ | ⟨e,_⟩
   ·rw [e]
   ·omega
   ·omega
  ·rcases hv with ⟨e,_⟩ | ⟨_,t,e,e2⟩ | ⟨e,_⟩
   ·omega
   ·exact ⟨t,by rw [e],e2⟩
   ·omega
  ·rcases hv with ⟨e,_⟩ | ⟨e,_⟩ | ⟨_,ao,n,c,e,e2,e3⟩
   ·omega
   ·omega
   ·exact ⟨ao,n,c,by rw [e],e2.off hS.size off2,e3⟩
 ·have hget:(cs.set o v)[i]? = cs[i]? := by rw [List.getElem?_set_ne (fun e=>hi e.symm)]
  simp only [if_neg hi]
  rw [hget]
  exact (hF1.off hS.size off2) i
theorem rn_Chain {w:World} {g b vb rb o:Nat} {err:Int} {l:List Int} {cs:List Value} {T vt:TypeId} {old:Value} (X:RdA w g b err l) (V:Blk w vb [.pointer (some ⟨g,0,none⟩)] vt) (R:Blk w rb cs T) (hr:rb≠g) (ho:cs[o]? = some old) (hold:∃ y,old=.int .u64 y) :
  Calls Tryz.prog 289 #[.pointer (some ⟨rb,o,none⟩),.pointer (some ⟨vb,0,none⟩)] w fun e w'=>e=.returned (.tuple #[])/\∃ w1,w'=w1.setCell ⟨rb,o,none⟩ (.int .u64 (rdV 0 (p1 0 l) err))/\RdA w1 g b (rdE (p1 0 l) err) (rdL (p1 0 l) err l)/\But g w w1:=by
 obtain ⟨y,rfl⟩:=hold
 have t:=rdU64 X
 show Calls Tryz.prog _ _ w fun e w'=>e=.returned (.tuple #[])/\∃ w1,w'=w1.setCell ⟨rb,o,none⟩ (.int .u64 (rdV 0 (pFix 8 l) err))/\RdA w1 g b (rdE (pFix 8 l) err) (rdL (pFix 8 l) err l)/\But g w w1
 generalize rdV 0 (pFix 8 l) err=Y at *
 generalize rdE (pFix 8 l) err=E at *
 generalize rdL (pFix 8 l) err l=Rl at *
 have cv:=V.cell (i:=0) rfl
 have HR:=hid3 R
 have HNE:=hid3 hr
 have HO:=hid3 ho
 clear X V R ho hr
 go_enter Tryz.func289,Tryz.ntmps289
 go_wp2_with (go_at_call 212; refine t.mono ?_; rintro e' w1 ⟨rfl,X1,B1⟩; clear t; have R1:=HR.out.chg (But.chg B1) HNE.out; have cr:=R1.cell HO.out; have fr:=R1.free o; clear R1; replace X1:=hid3 X1)
 go_end0
 exact ⟨rfl,w1,rfl,X1.out,B1⟩
theorem rt_Chain {w:World} {g b vb rb o:Nat} {err:Int} {l:List Int} {cs:List Value} {T vt:TypeId} {old:Value} (X:RdA w g b err l) (V:Blk w vb [.pointer (some ⟨g,0,none⟩)] vt) (R:Blk w rb cs T) (hr:rb≠g) (ho:cs[o]? = some old) (hold:∃ y,old=.bool y) :
  Calls Tryz.prog 290 #[.pointer (some ⟨rb,o,none⟩),.pointer (some ⟨vb,0,none⟩)] w fun e w'=>e=.returned (.tuple #[])/\∃ w1,w'=w1.setCell ⟨rb,o,none⟩ (.bool (rdV false (pBool l) err))/\RdA w1 g b (rdE (p1 1 l) err) (rdL (p1 1 l) err l)/\But g w w1:=by
 obtain ⟨y,rfl⟩:=hold
 have t:=rdBool X
 show Calls Tryz.prog _ _ w fun e w'=>e=.returned (.tuple #[])/\∃ w1,w'=w1.setCell ⟨rb,o,none⟩ (.bool (rdV false (pBool l) err))/\RdA w1 g b (rdE (pBoolI l) err) (rdL (pBoolI l) err l)/\But g w w1
 rw [pBoolI_E,pBoolI_L]
 generalize rdV false (pBool l) err=Y at *
 generalize rdE (pBool l) err=E at *
 generalize rdL (pBool l) err l=Rl at *
 have cv:=V.cell (i:=0) rfl
 have HR:=hid3 R
 have HNE:=hid3 hr
 have HO:=hid3 ho
 clear X V R ho hr
 go_enter Tryz.func290,Tryz.ntmps290
 go_wp2_with (go_at_call 214; refine t.mono ?_; rintro e' w1 ⟨rfl,X1,B1⟩; clear t; have R1:=HR.out.chg (But.chg B1) HNE.out; have cr:=R1.cell HO.out; have fr:=R1.free o; clear R1; replace X1:=hid3 X1)
 go_end0
 exact ⟨rfl,w1,rfl,X1.out,B1⟩
theorem rd_Chain {w:World} {g b vb rb o:Nat} {err:Int} {l:List Int} {cs:List Value} {T vt:TypeId} {old:Value} (X:RdA w g b err l) (V:Blk w vb [.pointer (some ⟨g,0,none⟩)] vt) (R:Blk w rb cs T) (hr:rb≠g) (ho:cs[o]? = some old) (hold:∃ a n c,old=.slice a n c) :
  Calls Tryz.prog 291 #[.pointer (some ⟨rb,o,none⟩),.pointer (some ⟨vb,0,none⟩)] w fun e w'=>e=.returned (.tuple #[])/\∃ w1 ao n c,w'=w1.setCell ⟨rb,o,none⟩ (.slice ao n c)/\NatW w1 w.heap.size ao n c (rdV 0 (p1 2 l) err)/\n<=255/\RdA w1 g b (rdE (p1 2 l) err) (rdL (p1 2 l) err l)/\But g w w1:=by
 obtain ⟨oa,on,oc,rfl⟩:=hold
 have t:=rdDecW X
 show Calls Tryz.prog _ _ w fun e w'=>e=.returned (.tuple #[])/\∃ w1 ao n c,w'=w1.setCell ⟨rb,o,none⟩ (.slice ao n c)/\NatW w1 w.heap.size ao n c (rdV 0 (pNat l) err)/\n<=255/\RdA w1 g b (rdE (pNat l) err) (rdL (pNat l) err l)/\But g w w1
 generalize rdV 0 (pNat l) err=Y at *
 generalize rdE (pNat l) err=E at *
 generalize rdL (pNat l) err l=Rl at *
 have cv:=V.cell (i:=0) rfl
 have HR:=hid3 R
 have HNE:=hid3 hr
 have HO:=hid3 ho
 clear X V R ho hr
 go_enter Tryz.func291,Tryz.ntmps291
 go_wp2_with (go_at_call 216; refine t.mono ?_; rintro e' w1 ⟨a1,n1,d1,rfl,N1,hn1,X1,B1⟩; clear t; have R1:=HR.out.chg (But.chg B1) HNE.out; have cr:=R1.cell HO.out; have fr:=R1.free o; clear R1; replace X1:=hid3 X1)
 go_end0
 exact ⟨rfl,w1,a1,n1,d1,rfl,N1,hn1,X1.out,B1⟩
theorem kl_Chain {o k:Nat} (h:kd_Chain o=k) (hk:k≠9):o < 2:=by
 by_cases ho:o < 2
 ·exact ho
 ·exfalso
  have:kd_Chain o=9:=by
   unfold kd_Chain
   rw [List.getD_eq_getElem?_getD,List.getElem?_eq_none (by simp; omega)]
   rfl
  omega
theorem rhc_Chain {w0:World} {B g b vb rb:Nat} {T vt:TypeId}:HC RSt (fun s w=>RI w0 B g b vb rb kd_Chain 2 T vt s w/\B<=w.heap.size) (fun y=>y=g\/y=rb) rb 289 290 291 (.pointer (some ⟨vb,0,none⟩)) rnx kd_Chain (fun _=>True) where
 oks:=fun _ _ _ _=>trivial
 keep:=fun s w w' h Bl=>by
  obtain ⟨h,hB⟩:=h
  obtain ⟨cs,h1,h2,h3⟩:=h.rc
  exact ⟨⟨h.rd.keep Bl,h.var.keep Bl,⟨cs,h1,h2.keep Bl,h3.off Bl.size (fun y _ hy=>Bl.block y hy)⟩,h.bel.trans (Bl.mono h.bel.size),h.s1,h.s2,h.s3,h.s4,h.g1,h.r1,h.g0,h.r0⟩,Nat.le_trans hB Bl.size⟩
 old:=fun s w y h e=>by
  have:=h.1.g1
  have:=h.1.r1
  have:=h.2
  rcases e with e | e<;>omega
 e1:=fun _ _=>by kernel_rfl
 e2:=fun _ _=>by kernel_rfl
 e3:=fun _ _=>by kernel_rfl
 u:=fun s w o h _ hk=>by
  obtain ⟨h,hB⟩:=h
  obtain ⟨cs,h1,h2,h3⟩:=h.rc
  refine (rn_Chain h.rd h.var h2 h.s1 ((h3 o).1 hk) ⟨_,rfl⟩).mono ?_
  rintro e w' ⟨rfl,w1,rfl,X,Bu⟩
  obtain ⟨r1,r2⟩:=h.step hk (kl_Chain hk (by decide)) X Bu (.inl ⟨rfl,rfl⟩)
  exact ⟨rfl,⟨r1,Nat.le_trans hB r2.size⟩,r2⟩
 t:=fun s w o h _ hk=>by
  obtain ⟨h,hB⟩:=h
  obtain ⟨cs,h1,h2,h3⟩:=h.rc
  obtain ⟨t,ht,_⟩:=(h3 o).2.1 hk
  refine (rt_Chain h.rd h.var h2 h.s1 ht ⟨_,rfl⟩).mono ?_
  rintro e w' ⟨rfl,w1,rfl,X,Bu⟩
  obtain ⟨r1,r2⟩:=h.step hk (kl_Chain hk (by decide)) X Bu (x:=rdV 0 (p1 1 s.2.1) s.1) (.inr (.inl ⟨rfl,_,rfl,pBoolI_V _ _⟩))
  exact ⟨rfl,⟨r1,Nat.le_trans hB r2.size⟩,r2⟩
 d:=fun s w o h _ hk=>by
  obtain ⟨h,hB⟩:=h
  obtain ⟨cs,h1,h2,h3⟩:=h.rc
  obtain ⟨ao,n,c,ht,_⟩:=(h3 o).2.2 hk
  refine (rd_Chain h.rd h.var h2 h.s1 ht ⟨_,_,_,rfl⟩).mono ?_
  rintro e w' ⟨rfl,w1,a1,n1,c1,rfl,hN,hn,X,Bu⟩
  obtain ⟨r1,r2⟩:=h.step hk (kl_Chain hk (by decide)) X Bu (x:=rdV 0 (p1 2 s.2.1) s.1) (.inr (.inr ⟨rfl,_,_,_,rfl,hN.low hB,hn⟩))
  exact ⟨rfl,⟨r1,Nat.le_trans hB r2.size⟩,r2⟩
theorem kl_Pool {o k:Nat} (h:kd_Pool o=k) (hk:k≠9):o < 1:=by
 by_cases ho:o < 1
 ·exact ho
 ·exfalso
  have:kd_Pool o=9:=by
   unfold kd_Pool
   rw [List.getD_eq_getElem?_getD,List.getElem?_eq_none (by simp; omega)]
   rfl
  omega
theorem rn_Unbonding {w:World} {g b vb rb o:Nat} {err:Int} {l:List Int} {cs:List Value} {T vt:TypeId} {old:Value} (X:RdA w g b err l) (V:Blk w vb [.pointer (some ⟨g,0,none⟩)] vt) (R:Blk w rb cs T) (hr:rb≠g) (ho:cs[o]? = some old) (hold:∃ y,old=.int .u64 y) :
  Calls Tryz.prog 249 #[.pointer (some ⟨rb,o,none⟩),.pointer (some ⟨vb,0,none⟩)] w fun e w'=>e=.returned (.tuple #[])/\∃ w1,w'=w1.setCell ⟨rb,o,none⟩ (.int .u64 (rdV 0 (p1 0 l) err))/\RdA w1 g b (rdE (p1 0 l) err) (rdL (p1 0 l) err l)/\But g w w1:=by
 obtain ⟨y,rfl⟩:=hold
 have t:=rdU64 X
 show Calls Tryz.prog _ _ w fun e w'=>e=.returned (.tuple #[])/\∃ w1,w'=w1.setCell ⟨rb,o,none⟩ (.int .u64 (rdV 0 (pFix 8 l) err))/\RdA w1 g b (rdE (pFix 8 l) err) (rdL (pFix 8 l) err l)/\But g w w1
 generalize rdV 0 (pFix 8 l) err=Y at *
 generalize rdE (pFix 8 l) err=E at *
 generalize rdL (pFix 8 l) err l=Rl at *
 have cv:=V.cell (i:=0) rfl
 have HR:=hid3 R
 have HNE:=hid3 hr
 have HO:=hid3 ho
 clear X V R ho hr
 go_enter Tryz.func249,Tryz.ntmps249
 go_wp2_with (go_at_call 212; refine t.mono ?_; rintro e' w1 ⟨rfl,X1,B1⟩; clear t; have R1:=HR.out.chg (But.chg B1) HNE.out; have cr:=R1.cell HO.out; have fr:=R1.free o; clear R1; replace X1:=hid3 X1)
 go_end0
 exact ⟨rfl,w1,rfl,X1.out,B1⟩
theorem rt_Unbonding {w:World} {g b vb rb o:Nat} {err:Int} {l:List Int} {cs:List Value} {T vt:TypeId} {old:Value} (X:RdA w g b err l) (V:Blk w vb [.pointer (some ⟨g,0,none⟩)] vt) (R:Blk w rb cs T) (hr:rb≠g) (ho:cs[o]? = some old) (hold:∃ y,old=.bool y) :
  Calls Tryz.prog 250 #[.pointer (some ⟨rb,o,none⟩),.pointer (some ⟨vb,0,none⟩)] w fun e w'=>e=.returned (.tuple #[])/\∃ w1,w'=w1.setCell ⟨rb,o,none⟩ (.bool (rdV false (pBool l) err))/\RdA w1 g b (rdE (p1 1 l) err) (rdL (p1 1 l) err l)/\But g w w1:=by
 obtain ⟨y,rfl⟩:=hold
 have t:=rdBool X
 show Calls Tryz.prog _ _ w fun e w'=>e=.returned (.tuple #[])/\∃ w1,w'=w1.setCell ⟨rb,o,none⟩ (.bool (rdV false (pBool l) err))/\RdA w1 g b (rdE (pBoolI l) err) (rdL (pBoolI l) err l)/\But g w w1
 rw [pBoolI_E,pBoolI_L]
 generalize rdV false (pBool l) err=Y at *
 generalize rdE (pBool l) err=E at *
 generalize rdL (pBool l) err l=Rl at *
 have cv:=V.cell (i:=0) rfl
 have HR:=hid3 R
 have HNE:=hid3 hr
 have HO:=hid3 ho
 clear X V R ho hr
 go_enter Tryz.func250,Tryz.ntmps250
 go_wp2_with (go_at_call 214; refine t.mono ?_; rintro e' w1 ⟨rfl,X1,B1⟩; clear t; have R1:=HR.out.chg (But.chg B1) HNE.out; have cr:=R1.cell HO.out; have fr:=R1.free o; clear R1; replace X1:=hid3 X1)
 go_end0
 exact ⟨rfl,w1,rfl,X1.out,B1⟩
theorem rd_Unbonding {w:World} {g b vb rb o:Nat} {err:Int} {l:List Int} {cs:List Value} {T vt:TypeId} {old:Value} (X:RdA w g b err l) (V:Blk w vb [.pointer (some ⟨g,0,none⟩)] vt) (R:Blk w rb cs T) (hr:rb≠g) (ho:cs[o]? = some old) (hold:∃ a n c,old=.slice a n c) :
  Calls Tryz.prog 251 #[.pointer (some ⟨rb,o,none⟩),.pointer (some ⟨vb,0,none⟩)] w fun e w'=>e=.returned (.tuple #[])/\∃ w1 ao n c,w'=w1.setCell ⟨rb,o,none⟩ (.slice ao n c)/\NatW w1 w.heap.size ao n c (rdV 0 (p1 2 l) err)/\n<=255/\RdA w1 g b (rdE (p1 2 l) err) (rdL (p1 2 l) err l)/\But g w w1:=by
 obtain ⟨oa,on,oc,rfl⟩:=hold
 have t:=rdDecW X
 show Calls Tryz.prog _ _ w fun e w'=>e=.returned (.tuple #[])/\∃ w1 ao n c,w'=w1.setCell ⟨rb,o,none⟩ (.slice ao n c)/\NatW w1 w.heap.size ao n c (rdV 0 (pNat l) err)/\n<=255/\RdA w1 g b (rdE (pNat l) err) (rdL (pNat l) err l)/\But g w w1
 generalize rdV 0 (pNat l) err=Y at *
 generalize rdE (pNat l) err=E at *
 generalize rdL (pNat l) err l=Rl at *
 have cv:=V.cell (i:=0) rfl
 have HR:=hid3 R
 have HNE:=hid3 hr
 have HO:=hid3 ho
 clear X V R ho hr
 go_enter Tryz.func251,Tryz.ntmps251
 go_wp2_with (go_at_call 216; refine t.mono ?_; rintro e' w1 ⟨a1,n1,d1,rfl,N1,hn1,X1,B1⟩; clear t; have R1:=HR.out.chg (But.chg B1) HNE.out; have cr:=R1.cell HO.out; have fr:=R1.free o; clear R1; replace X1:=hid3 X1)
 go_end0
 exact ⟨rfl,w1,a1,n1,d1,rfl,N1,hn1,X1.out,B1⟩
theorem kl_Unbonding {o k:Nat} (h:kd_Unbonding o=k) (hk:k≠9):o < 6:=by
 by_cases ho:o < 6
 ·exact ho
 ·exfalso
  have:kd_Unbonding o=9:=by
   unfold kd_Unbonding
   rw [List.getD_eq_getElem?_getD,List.getElem?_eq_none (by simp; omega)]
   rfl
  omega
theorem rhc_Unbonding {w0:World} {B g b vb rb:Nat} {T vt:TypeId}:HC RSt (fun s w=>RI w0 B g b vb rb kd_Unbonding 6 T vt s w/\B<=w.heap.size) (fun y=>y=g\/y=rb) rb 249 250 251 (.pointer (some ⟨vb,0,none⟩)) rnx kd_Unbonding (fun _=>True) where
 oks:=fun _ _ _ _=>trivial
 keep:=fun s w w' h Bl=>by
  obtain ⟨h,hB⟩:=h
  obtain ⟨cs,h1,h2,h3⟩:=h.rc
  exact ⟨⟨h.rd.keep Bl,h.var.keep Bl,⟨cs,h1,h2.keep Bl,h3.off Bl.size (fun y _ hy=>Bl.block y hy)⟩,h.bel.trans (Bl.mono h.bel.size),h.s1,h.s2,h.s3,h.s4,h.g1,h.r1,h.g0,h.r0⟩,Nat.le_trans hB Bl.size⟩
 old:=fun s w y h e=>by
  have:=h.1.g1
  have:=h.1.r1
  have:=h.2
  rcases e with e | e<;>omega
 e1:=fun _ _=>by kernel_rfl
 e2:=fun _ _=>by kernel_rfl
 e3:=fun _ _=>by kernel_rfl
 u:=fun s w o h _ hk=>by
  obtain ⟨h,hB⟩:=h
  obtain ⟨cs,h1,h2,h3⟩:=h.rc
  refine (rn_Unbonding h.rd h.var h2 h.s1 ((h3 o).1 hk) ⟨_,rfl⟩).mono ?_
  rintro e w' ⟨rfl,w1,rfl,X,Bu⟩
  obtain ⟨r1,r2⟩:=h.step hk (kl_Unbonding hk (by decide)) X Bu (.inl ⟨rfl,rfl⟩)
  exact ⟨rfl,⟨r1,Nat.le_trans hB r2.size⟩,r2⟩
 t:=fun s w o h _ hk=>by
  obtain ⟨h,hB⟩:=h
  obtain ⟨cs,h1,h2,h3⟩:=h.rc
  obtain ⟨t,ht,_⟩:=(h3 o).2.1 hk
  refine (rt_Unbonding h.rd h.var h2 h.s1 ht ⟨_,rfl⟩).mono ?_
  rintro e w' ⟨rfl,w1,rfl,X,Bu⟩
  obtain ⟨r1,r2⟩:=h.step hk (kl_Unbonding hk (by decide)) X Bu (x:=rdV 0 (p1 1 s.2.1) s.1) (.inr (.inl ⟨rfl,_,rfl,pBoolI_V _ _⟩))
  exact ⟨rfl,⟨r1,Nat.le_trans hB r2.size⟩,r2⟩
 d:=fun s w o h _ hk=>by
  obtain ⟨h,hB⟩:=h
  obtain ⟨cs,h1,h2,h3⟩:=h.rc
  obtain ⟨ao,n,c,ht,_⟩:=(h3 o).2.2 hk
  refine (rd_Unbonding h.rd h.var h2 h.s1 ht ⟨_,_,_,rfl⟩).mono ?_
  rintro e w' ⟨rfl,w1,a1,n1,c1,rfl,hN,hn,X,Bu⟩
  obtain ⟨r1,r2⟩:=h.step hk (kl_Unbonding hk (by decide)) X Bu (x:=rdV 0 (p1 2 s.2.1) s.1) (.inr (.inr ⟨rfl,_,_,_,rfl,hN.low hB,hn⟩))
  exact ⟨rfl,⟨r1,Nat.le_trans hB r2.size⟩,r2⟩
theorem rn_Move {w:World} {g b vb rb o:Nat} {err:Int} {l:List Int} {cs:List Value} {T vt:TypeId} {old:Value} (X:RdA w g b err l) (V:Blk w vb [.pointer (some ⟨g,0,none⟩)] vt) (R:Blk w rb cs T) (hr:rb≠g) (ho:cs[o]? = some old) (hold:∃ y,old=.int .u64 y) :
  Calls Tryz.prog 257 #[.pointer (some ⟨rb,o,none⟩),.pointer (some ⟨vb,0,none⟩)] w fun e w'=>e=.returned (.tuple #[])/\∃ w1,w'=w1.setCell ⟨rb,o,none⟩ (.int .u64 (rdV 0 (p1 0 l) err))/\RdA w1 g b (rdE (p1 0 l) err) (rdL (p1 0 l) err l)/\But g w w1:=by
 obtain ⟨y,rfl⟩:=hold
 have t:=rdU64 X
 show Calls Tryz.prog _ _ w fun e w'=>e=.returned (.tuple #[])/\∃ w1,w'=w1.setCell ⟨rb,o,none⟩ (.int .u64 (rdV 0 (pFix 8 l) err))/\RdA w1 g b (rdE (pFix 8 l) err) (rdL (pFix 8 l) err l)/\But g w w1
 generalize rdV 0 (pFix 8 l) err=Y at *
 generalize rdE (pFix 8 l) err=E at *
 generalize rdL (pFix 8 l) err l=Rl at *
 have cv:=V.cell (i:=0) rfl
 have HR:=hid3 R
 have HNE:=hid3 hr
 have HO:=hid3 ho
 clear X V R ho hr
 go_enter Tryz.func257,Tryz.ntmps257
 go_wp2_with (go_at_call 212; refine t.mono ?_; rintro e' w1 ⟨rfl,X1,B1⟩; clear t; have R1:=HR.out.chg (But.chg B1) HNE.out; have cr:=R1.cell HO.out; have fr:=R1.free o; clear R1; replace X1:=hid3 X1)
 go_end0
 exact ⟨rfl,w1,rfl,X1.out,B1⟩
theorem rt_Move {w:World} {g b vb rb o:Nat} {err:Int} {l:List Int} {cs:List Value} {T vt:TypeId} {old:Value} (X:RdA w g b err l) (V:Blk w vb [.pointer (some ⟨g,0,none⟩)] vt) (R:Blk w rb cs T) (hr:rb≠g) (ho:cs[o]? = some old) (hold:∃ y,old=.bool y) :
  Calls Tryz.prog 258 #[.pointer (some ⟨rb,o,none⟩),.pointer (some ⟨vb,0,none⟩)] w fun e w'=>e=.returned (.tuple #[])/\∃ w1,w'=w1.setCell ⟨rb,o,none⟩ (.bool (rdV false (pBool l) err))/\RdA w1 g b (rdE (p1 1 l) err) (rdL (p1 1 l) err l)/\But g w w1:=by
 obtain ⟨y,rfl⟩:=hold
 have t:=rdBool X
 show Calls Tryz.prog _ _ w fun e w'=>e=.returned (.tuple #[])/\∃ w1,w'=w1.setCell ⟨rb,o,none⟩ (.bool (rdV false (pBool l) err))/\RdA w1 g b (rdE (pBoolI l) err) (rdL (pBoolI l) err l)/\But g w w1
 rw [pBoolI_E,pBoolI_L]
 generalize rdV false (pBool l) err=Y at *
 generalize rdE (pBool l) err=E at *
 generalize rdL (pBool l) err l=Rl at *
 have cv:=V.cell (i:=0) rfl
 have HR:=hid3 R
 have HNE:=hid3 hr
 have HO:=hid3 ho
 clear X V R ho hr
 go_enter Tryz.func258,Tryz.ntmps258
 go_wp2_with (go_at_call 214; refine t.mono ?_; rintro e' w1 ⟨rfl,X1,B1⟩; clear t; have R1:=HR.out.chg (But.chg B1) HNE.out; have cr:=R1.cell HO.out; have fr:=R1.free o; clear R1; replace X1:=hid3 X1)
 go_end0
 exact ⟨rfl,w1,rfl,X1.out,B1⟩
theorem rd_Move {w:World} {g b vb rb o:Nat} {err:Int} {l:List Int} {cs:List Value} {T vt:TypeId} {old:Value} (X:RdA w g b err l) (V:Blk w vb [.pointer (some ⟨g,0,none⟩)] vt) (R:Blk w rb cs T) (hr:rb≠g) (ho:cs[o]? = some old) (hold:∃ a n c,old=.slice a n c) :
  Calls Tryz.prog 259 #[.pointer (some ⟨rb,o,none⟩),.pointer (some ⟨vb,0,none⟩)] w fun e w'=>e=.returned (.tuple #[])/\∃ w1 ao n c,w'=w1.setCell ⟨rb,o,none⟩ (.slice ao n c)/\NatW w1 w.heap.size ao n c (rdV 0 (p1 2 l) err)/\n<=255/\RdA w1 g b (rdE (p1 2 l) err) (rdL (p1 2 l) err l)/\But g w w1:=by
 obtain ⟨oa,on,oc,rfl⟩:=hold
 have t:=rdDecW X
 show Calls Tryz.prog _ _ w fun e w'=>e=.returned (.tuple #[])/\∃ w1 ao n c,w'=w1.setCell ⟨rb,o,none⟩ (.slice ao n c)/\NatW w1 w.heap.size ao n c (rdV 0 (pNat l) err)/\n<=255/\RdA w1 g b (rdE (pNat l) err) (rdL (pNat l) err l)/\But g w w1
 generalize rdV 0 (pNat l) err=Y at *
 generalize rdE (pNat l) err=E at *
 generalize rdL (pNat l) err l=Rl at *
 have cv:=V.cell (i:=0) rfl
 have HR:=hid3 R
 have HNE:=hid3 hr
 have HO:=hid3 ho
 clear X V R ho hr
 go_enter Tryz.func259,Tryz.ntmps259
 go_wp2_with (go_at_call 216; refine t.mono ?_; rintro e' w1 ⟨a1,n1,d1,rfl,N1,hn1,X1,B1⟩; clear t; have R1:=HR.out.chg (But.chg B1) HNE.out; have cr:=R1.cell HO.out; have fr:=R1.free o; clear R1; replace X1:=hid3 X1)
 go_end0
 exact ⟨rfl,w1,a1,n1,d1,rfl,N1,hn1,X1.out,B1⟩
theorem kl_Move {o k:Nat} (h:kd_Move o=k) (hk:k≠9):o < 7:=by
 by_cases ho:o < 7
 ·exact ho
 ·exfalso
  have:kd_Move o=9:=by
   unfold kd_Move
   rw [List.getD_eq_getElem?_getD,List.getElem?_eq_none (by simp; omega)]
   rfl
  omega
theorem rhc_Move {w0:World} {B g b vb rb:Nat} {T vt:TypeId}:HC RSt (fun s w=>RI w0 B g b vb rb kd_Move 7 T vt s w/\B<=w.heap.size) (fun y=>y=g\/y=rb) rb 257 258 259 (.pointer (some ⟨vb,0,none⟩)) rnx kd_Move (fun _=>True) where
 oks:=fun _ _ _ _=>trivial
 keep:=fun s w w' h Bl=>by
  obtain ⟨h,hB⟩:=h
  obtain ⟨cs,h1,h2,h3⟩:=h.rc
  exact ⟨⟨h.rd.keep Bl,h.var.keep Bl,⟨cs,h1,h2.keep Bl,h3.off Bl.size (fun y _ hy=>Bl.block y hy)⟩,h.bel.trans (Bl.mono h.bel.size),h.s1,h.s2,h.s3,h.s4,h.g1,h.r1,h.g0,h.r0⟩,Nat.le_trans hB Bl.size⟩
 old:=fun s w y h e=>by
  have:=h.1.g1
  have:=h.1.r1
  have:=h.2
  rcases e with e | e<;>omega
 e1:=fun _ _=>by kernel_rfl
 e2:=fun _ _=>by kernel_rfl
 e3:=fun _ _=>by kernel_rfl
 u:=fun s w o h _ hk=>by
  obtain ⟨h,hB⟩:=h
  obtain ⟨cs,h1,h2,h3⟩:=h.rc
  refine (rn_Move h.rd h.var h2 h.s1 ((h3 o).1 hk) ⟨_,rfl⟩).mono ?_
  rintro e w' ⟨rfl,w1,rfl,X,Bu⟩
  obtain ⟨r1,r2⟩:=h.step hk (kl_Move hk (by decide)) X Bu (.inl ⟨rfl,rfl⟩)
  exact ⟨rfl,⟨r1,Nat.le_trans hB r2.size⟩,r2⟩
 t:=fun s w o h _ hk=>by
  obtain ⟨h,hB⟩:=h
  obtain ⟨cs,h1,h2,h3⟩:=h.rc
  obtain ⟨t,ht,_⟩:=(h3 o).2.1 hk
  refine (rt_Move h.rd h.var h2 h.s1 ht ⟨_,rfl⟩).mono ?_
  rintro e w' ⟨rfl,w1,rfl,X,Bu⟩
  obtain ⟨r1,r2⟩:=h.step hk (kl_Move hk (by decide)) X Bu (x:=rdV 0 (p1 1 s.2.1) s.1) (.inr (.inl ⟨rfl,_,rfl,pBoolI_V _ _⟩))
  exact ⟨rfl,⟨r1,Nat.le_trans hB r2.size⟩,r2⟩
 d:=fun s w o h _ hk=>by
  obtain ⟨h,hB⟩:=h
  obtain ⟨cs,h1,h2,h3⟩:=h.rc
  obtain ⟨ao,n,c,ht,_⟩:=(h3 o).2.2 hk
  refine (rd_Move h.rd h.var h2 h.s1 ht ⟨_,_,_,rfl⟩).mono ?_
  rintro e w' ⟨rfl,w1,a1,n1,c1,rfl,hN,hn,X,Bu⟩
  obtain ⟨r1,r2⟩:=h.step hk (kl_Move hk (by decide)) X Bu (x:=rdV 0 (p1 2 s.2.1) s.1) (.inr (.inr ⟨rfl,_,_,_,rfl,hN.low hB,hn⟩))
  exact ⟨rfl,⟨r1,Nat.le_trans hB r2.size⟩,r2⟩
theorem rn_Number {w:World} {g b vb rb o:Nat} {err:Int} {l:List Int} {cs:List Value} {T vt:TypeId} {old:Value} (X:RdA w g b err l) (V:Blk w vb [.pointer (some ⟨g,0,none⟩)] vt) (R:Blk w rb cs T) (hr:rb≠g) (ho:cs[o]? = some old) (hold:∃ y,old=.int .u64 y) :
  Calls Tryz.prog 211 #[.pointer (some ⟨rb,o,none⟩),.pointer (some ⟨vb,0,none⟩)] w fun e w'=>e=.returned (.tuple #[])/\∃ w1,w'=w1.setCell ⟨rb,o,none⟩ (.int .u64 (rdV 0 (p1 0 l) err))/\RdA w1 g b (rdE (p1 0 l) err) (rdL (p1 0 l) err l)/\But g w w1:=by
 obtain ⟨y,rfl⟩:=hold
 have t:=rdU64 X
 show Calls Tryz.prog _ _ w fun e w'=>e=.returned (.tuple #[])/\∃ w1,w'=w1.setCell ⟨rb,o,none⟩ (.int .u64 (rdV 0 (pFix 8 l) err))/\RdA w1 g b (rdE (pFix 8 l) err) (rdL (pFix 8 l) err l)/\But g w w1
 generalize rdV 0 (pFix 8 l) err=Y at *
 generalize rdE (pFix 8 l) err=E at *
 generalize rdL (pFix 8 l) err l=Rl at *
 have cv:=V.cell (i:=0) rfl
 have HR:=hid3 R
 have HNE:=hid3 hr
 have HO:=hid3 ho
 clear X V R ho hr
 go_enter Tryz.func211,Tryz.ntmps211
 go_wp2_with (go_at_call 212; refine t.mono ?_; rintro e' w1 ⟨rfl,X1,B1⟩; clear t; have R1:=HR.out.chg (But.chg B1) HNE.out; have cr:=R1.cell HO.out; have fr:=R1.free o; clear R1; replace X1:=hid3 X1)
 go_end0
 exact ⟨rfl,w1,rfl,X1.out,B1⟩
theorem rt_Number {w:World} {g b vb rb o:Nat} {err:Int} {l:List Int} {cs:List Value} {T vt:TypeId} {old:Value} (X:RdA w g b err l) (V:Blk w vb [.pointer (some ⟨g,0,none⟩)] vt) (R:Blk w rb cs T) (hr:rb≠g) (ho:cs[o]? = some old) (hold:∃ y,old=.bool y) :
  Calls Tryz.prog 213 #[.pointer (some ⟨rb,o,none⟩),.pointer (some ⟨vb,0,none⟩)] w fun e w'=>e=.returned (.tuple #[])/\∃ w1,w'=w1.setCell ⟨rb,o,none⟩ (.bool (rdV false (pBool l) err))/\RdA w1 g b (rdE (p1 1 l) err) (rdL (p1 1 l) err l)/\But g w w1:=by
 obtain ⟨y,rfl⟩:=hold
 have t:=rdBool X
 show Calls Tryz.prog _ _ w fun e w'=>e=.returned (.tuple #[])/\∃ w1,w'=w1.setCell ⟨rb,o,none⟩ (.bool (rdV false (pBool l) err))/\RdA w1 g b (rdE (pBoolI l) err) (rdL (pBoolI l) err l)/\But g w w1
 rw [pBoolI_E,pBoolI_L]
 generalize rdV false (pBool l) err=Y at *
 generalize rdE (pBool l) err=E at *
 generalize rdL (pBool l) err l=Rl at *
 have cv:=V.cell (i:=0) rfl
 have HR:=hid3 R
 have HNE:=hid3 hr
 have HO:=hid3 ho
 clear X V R ho hr
 go_enter Tryz.func213,Tryz.ntmps213
 go_wp2_with (go_at_call 214; refine t.mono ?_; rintro e' w1 ⟨rfl,X1,B1⟩; clear t; have R1:=HR.out.chg (But.chg B1) HNE.out; have cr:=R1.cell HO.out; have fr:=R1.free o; clear R1; replace X1:=hid3 X1)
 go_end0
 exact ⟨rfl,w1,rfl,X1.out,B1⟩
theorem rd_Number {w:World} {g b vb rb o:Nat} {err:Int} {l:List Int} {cs:List Value} {T vt:TypeId} {old:Value} (X:RdA w g b err l) (V:Blk w vb [.pointer (some ⟨g,0,none⟩)] vt) (R:Blk w rb cs T) (hr:rb≠g) (ho:cs[o]? = some old) (hold:∃ a n c,old=.slice a n c) :
  Calls Tryz.prog 215 #[.pointer (some ⟨rb,o,none⟩),.pointer (some ⟨vb,0,none⟩)] w fun e w'=>e=.returned (.tuple #[])/\∃ w1 ao n c,w'=w1.setCell ⟨rb,o,none⟩ (.slice ao n c)/\NatW w1 w.heap.size ao n c (rdV 0 (p1 2 l) err)/\n<=255/\RdA w1 g b (rdE (p1 2 l) err) (rdL (p1 2 l) err l)/\But g w w1:=by
 obtain ⟨oa,on,oc,rfl⟩:=hold
 have t:=rdDecW X
 show Calls Tryz.prog _ _ w fun e w'=>e=.returned (.tuple #[])/\∃ w1 ao n c,w'=w1.setCell ⟨rb,o,none⟩ (.slice ao n c)/\NatW w1 w.heap.size ao n c (rdV 0 (pNat l) err)/\n<=255/\RdA w1 g b (rdE (pNat l) err) (rdL (pNat l) err l)/\But g w w1
 generalize rdV 0 (pNat l) err=Y at *
 generalize rdE (pNat l) err=E at *
 generalize rdL (pNat l) err l=Rl at *
 have cv:=V.cell (i:=0) rfl
 have HR:=hid3 R
 have HNE:=hid3 hr
 have HO:=hid3 ho
 clear X V R ho hr
 go_enter Tryz.func215,Tryz.ntmps215
 go_wp2_with (go_at_call 216; refine t.mono ?_; rintro e' w1 ⟨a1,n1,d1,rfl,N1,hn1,X1,B1⟩; clear t; have R1:=HR.out.chg (But.chg B1) HNE.out; have cr:=R1.cell HO.out; have fr:=R1.free o; clear R1; replace X1:=hid3 X1)
 go_end0
 exact ⟨rfl,w1,a1,n1,d1,rfl,N1,hn1,X1.out,B1⟩
theorem kl_Number {o k:Nat} (h:kd_Number o=k) (hk:k≠9):o < 1:=by
 by_cases ho:o < 1
 ·exact ho
 ·exfalso
  have:kd_Number o=9:=by
   unfold kd_Number
   rw [List.getD_eq_getElem?_getD,List.getElem?_eq_none (by simp; omega)]
   rfl
  omega
theorem rhc_Number {w0:World} {B g b vb rb:Nat} {T vt:TypeId}:HC RSt (fun s w=>RI w0 B g b vb rb kd_Number 1 T vt s w/\B<=w.heap.size) (fun y=>y=g\/y=rb) rb 211 213 215 (.pointer (some ⟨vb,0,none⟩)) rnx kd_Number (fun _=>True) where
 oks:=fun _ _ _ _=>trivial
 keep:=fun s w w' h Bl=>by
  obtain ⟨h,hB⟩:=h
  obtain ⟨cs,h1,h2,h3⟩:=h.rc
  exact ⟨⟨h.rd.keep Bl,h.var.keep Bl,⟨cs,h1,h2.keep Bl,h3.off Bl.size (fun y _ hy=>Bl.block y hy)⟩,h.bel.trans (Bl.mono h.bel.size),h.s1,h.s2,h.s3,h.s4,h.g1,h.r1,h.g0,h.r0⟩,Nat.le_trans hB Bl.size⟩
 old:=fun s w y h e=>by
  have:=h.1.g1
  have:=h.1.r1
  have:=h.2
  rcases e with e | e<;>omega
 e1:=fun _ _=>by kernel_rfl
 e2:=fun _ _=>by kernel_rfl
 e3:=fun _ _=>by kernel_rfl
 u:=fun s w o h _ hk=>by
  obtain ⟨h,hB⟩:=h
  obtain ⟨cs,h1,h2,h3⟩:=h.rc
  refine (rn_Number h.rd h.var h2 h.s1 ((h3 o).1 hk) ⟨_,rfl⟩).mono ?_
  rintro e w' ⟨rfl,w1,rfl,X,Bu⟩
  obtain ⟨r1,r2⟩:=h.step hk (kl_Number hk (by decide)) X Bu (.inl ⟨rfl,rfl⟩)
  exact ⟨rfl,⟨r1,Nat.le_trans hB r2.size⟩,r2⟩
 t:=fun s w o h _ hk=>by
  obtain ⟨h,hB⟩:=h
  obtain ⟨cs,h1,h2,h3⟩:=h.rc
  obtain ⟨t,ht,_⟩:=(h3 o).2.1 hk
  refine (rt_Number h.rd h.var h2 h.s1 ht ⟨_,rfl⟩).mono ?_
  rintro e w' ⟨rfl,w1,rfl,X,Bu⟩
  obtain ⟨r1,r2⟩:=h.step hk (kl_Number hk (by decide)) X Bu (x:=rdV 0 (p1 1 s.2.1) s.1) (.inr (.inl ⟨rfl,_,rfl,pBoolI_V _ _⟩))
  exact ⟨rfl,⟨r1,Nat.le_trans hB r2.size⟩,r2⟩
 d:=fun s w o h _ hk=>by
  obtain ⟨h,hB⟩:=h
  obtain ⟨cs,h1,h2,h3⟩:=h.rc
  obtain ⟨ao,n,c,ht,_⟩:=(h3 o).2.2 hk
  refine (rd_Number h.rd h.var h2 h.s1 ht ⟨_,_,_,rfl⟩).mono ?_
  rintro e w' ⟨rfl,w1,a1,n1,c1,rfl,hN,hn,X,Bu⟩
  obtain ⟨r1,r2⟩:=h.step hk (kl_Number hk (by decide)) X Bu (x:=rdV 0 (p1 2 s.2.1) s.1) (.inr (.inr ⟨rfl,_,_,_,rfl,hN.low hB,hn⟩))
  exact ⟨rfl,⟨r1,Nat.le_trans hB r2.size⟩,r2⟩
end Rc
end
section
namespace Rc
open Go.RowKit Go.Lib Pg
attribute [local go_sem] Oper.semAt_some
theorem rdL_len {α:Type} (p:Int ⊕ α × Nat) (err:Int) (l:List Int):(rdL p err l).length<=l.length:=by
 unfold rdL
 split
 ·cases p
  ·exact Nat.le_refl _
  ·simp
 ·exact Nat.le_refl _
theorem thr_len (ks:List (Nat × Nat)):∀ s:RSt,(thr rnx ks s).2.1.length<=s.2.1.length:=by
 induction ks with
 | nil=>intro s; exact Nat.le_refl _
 | cons p ks ih =>
  intro s
  have e:thr rnx (p :: ks) s=thr rnx ks (rnx p.1 p.2 s):=rfl
  rw [e]
  exact Nat.le_trans (ih _) (rdL_len _ _ _)
structure FinR (w:World) (kd:Nat->Nat) (len:Nat) (mk:List Value->Value) (s:RSt) (e:Ending) (w':World):Prop where
 ex:∃ cs xs r,e=.returned (.tuple #[mk cs,.int .i64 r])/\cs.length=len/\FldR w' w.heap.size kd cs xs/\(endE s.1 s.2.1=0->r=0/\xs=s.2.2)/\(endE s.1 s.2.1≠0->r=80/\xs=fun _=>0)
 bel:Below w.heap.size w w'
theorem FldR.low {w:World} {B B':Nat} {kd:Nat->Nat} {cs:List Value} {xs:Nat->Int} (h:FldR w B kd cs xs) (hB:B'<=B):FldR w B' kd cs xs:=fun o=>⟨(h o).1,(h o).2.1,fun hk=>by
 obtain ⟨ao,n,c,h1,h2,h3⟩:=(h o).2.2 hk
 exact ⟨ao,n,c,h1,h2.low hB,h3⟩⟩
theorem ret_rc {fn:Func} {p u:Tmp} {T:TypeId} (h:fn.results=#[.cell p T,.tmp u]) {tmps:Array Value} {w:World} {g:Nat} {v x:Value} (hp:tmps.getD p undef=.pointer (some ⟨g,0,none⟩)) (hu:tmps.getD u undef=x) (hl:(loadVar T ⟨g,0,none⟩).run Tryz.prog w=.ok v w):(results fn tmps).run Tryz.prog w=.ok (.tuple #[v,x]) w:=by
 have hp':tmps[p]?.getD undef=.pointer (some ⟨g,0,none⟩):=by simpa using hp
 have hu':tmps[u]?.getD undef=x:=by simpa using hu
 simp [results,h,hp',hu',asAddr,hl]
def mkA (cs:List Value):Value:=.agg cs.toArray
def mkO (cs:List Value):Value:=cs.headD undef
theorem ld_Chain {w:World} {g:Nat} {y0 y1:Value} (c0:w.cell? ⟨g,0,none⟩=some y0) (c1:w.cell? ⟨g,1,none⟩=some y1):(loadVar 61 ⟨g,0,none⟩).run Tryz.prog w=.ok (.agg #[y0,y1]) w:=by go_simp
theorem read_Chain {w : World} {bb n c : Nat} {ao : Option Addr} {l : List Int} (A : ByA w bb ao n c l) (hn : n ≤ 1000000000) (hl : l.length = n) :
    Calls Tryz.prog 242 #[.slice ao n c, .func (.func 134) #[] #[]] w (FinR w kd_Chain 2 mkA (thr rnx [(0, 0), (0, 1)] (0, l, fun _ => (0 : Int)))) := by
  have b1 := below_alloc w (.cells #[.int .u64 0, .int .u64 0] 61)
  have b2 := below_alloc (w.alloc (.cells #[.int .u64 0, .int .u64 0] 61)) (.cells #[.int .u64 0, .int .u64 0] 61)
  have b3 := below_alloc ((w.alloc (.cells #[.int .u64 0, .int .u64 0] 61)).alloc (.cells #[.int .u64 0, .int .u64 0] 61)) (.cells #[.int .u64 0, .int .u64 0] 61)
  have z1 := size_al w (.cells #[.int .u64 0, .int .u64 0] 61)
  have z2 := size_al (w.alloc (.cells #[.int .u64 0, .int .u64 0] 61)) (.cells #[.int .u64 0, .int .u64 0] 61)
  have z3 := size_al ((w.alloc (.cells #[.int .u64 0, .int .u64 0] 61)).alloc (.cells #[.int .u64 0, .int .u64 0] 61)) (.cells #[.int .u64 0, .int .u64 0] 61)
  have y1 := ((blk_new w [.int .u64 0, .int .u64 0] 61).keep b2).keep b3
  have y2 := (blk_new (w.alloc (.cells #[.int .u64 0, .int .u64 0] 61)) [.int .u64 0, .int .u64 0] 61).keep b3
  have y3 := blk_new ((w.alloc (.cells #[.int .u64 0, .int .u64 0] 61)).alloc (.cells #[.int .u64 0, .int .u64 0] 61)) [.int .u64 0, .int .u64 0] 61
  rw [z2, z1] at y3
  rw [z1] at y2
  rw [z2, z1] at z3
  obtain ⟨W3, hW3⟩ : ∃ W3, Hid ((((w.alloc (.cells #[.int .u64 0, .int .u64 0] 61)).alloc (.cells #[.int .u64 0, .int .u64 0] 61)).alloc (.cells #[.int .u64 0, .int .u64 0] 61)) = W3) := ⟨_, rfl⟩
  have BB := joinB (joinB b1 b2) b3
  rw [hW3.out] at BB y1 y2 y3 z3
  have HN := hid3 (rdNew (A.keep BB) (by omega))
  have Y1 := hid3 y1
  have Y2 := hid3 y2
  have Y3 := hid3 y3
  have Z3 := hid3 z3
  have HBB := hid3 BB
  have HL := hid3 hl
  clear b1 b2 b3 z1 z2 z3 y1 y2 y3 BB A hl
  obtain ⟨st, hst⟩ : ∃ st, Hid (thr rnx [(0, 0), (0, 1)] (0, l, fun _ => (0 : Int)) = st) := ⟨_, rfl⟩
  have hsl : st.2.1.length ≤ n := by have h := thr_len [(0, 0), (0, 1)] (0, l, fun _ => (0 : Int)); rw [hst.out] at h; rw [HL.out] at h; exact h
  rw [hst.out]
  go_enter Tryz.func242, Tryz.ntmps242
  go_wp2_with fail
  rw [hW3.out]
  refine HN.out.mono ?_
  rintro e' w4 ⟨g, b', rfl, hg, hb', X4, B4⟩
  have b5 := below_alloc w4 (.cells #[.pointer (some ⟨g, 0, none⟩)] 302)
  have v5 := blk_new w4 [.pointer (some ⟨g, 0, none⟩)] 302
  have z5 := size_al w4 (.cells #[.pointer (some ⟨g, 0, none⟩)] 302)
  obtain ⟨W5, hW5⟩ : ∃ W5, Hid (w4.alloc (.cells #[.pointer (some ⟨g, 0, none⟩)] 302) = W5) := ⟨_, rfl⟩
  rw [hW5.out] at b5 v5 z5
  have hgl := X4.lt
  have hz3 := Z3.out
  have hz4 := B4.size
  have F0 : FldR W5 W5.heap.size kd_Chain [.int .u64 0, .int .u64 0] (fun _ => 0) := fun o => match o with
    | 0 => ⟨fun _ => rfl, fun h => absurd h (by decide), fun h => absurd h (by decide)⟩
    | 1 => ⟨fun _ => rfl, fun h => absurd h (by decide), fun h => absurd h (by decide)⟩
    | k + 2 => ⟨fun h => absurd h (by simp [kd_Chain]), fun h => absurd h (by simp [kd_Chain]), fun h => absurd h (by simp [kd_Chain])⟩
  have U := ofChain_any (rhc_Chain (w0 := w) (B := W5.heap.size) (g := g) (b := b') (vb := w4.heap.size) (rb := w.heap.size + 1) (T := 61) (vt := 302)) (s := (0, l, fun _ => (0 : Int))) (w := W5) ⟨⟨X4.keep b5, v5, ⟨_, rfl, (Y2.out.keep B4).keep b5, F0⟩, joinB (joinB HBB.out B4) b5, by omega, by omega, by omega, by omega, by omega, by omega, by omega, by omega⟩, Nat.le_refl _⟩ (by simp [kd_Chain]) trivial
  rw [hst.out] at U
  have HU := hid3 U
  have P1 := hid3 ((Y1.out.keep B4).keep b5)
  have P3 := hid3 ((Y3.out.keep B4).keep b5)
  have HS := hid3 (show w.heap.size ≠ g ∧ w.heap.size + 1 + 1 ≠ g ∧ w.heap.size + 1 + 1 ≠ w.heap.size + 1 ∧ w.heap.size ≠ w.heap.size + 1 ∧ w.heap.size ≤ W5.heap.size ∧ w.heap.size ≤ g from ⟨by omega, by omega, by omega, by omega, by omega, by omega⟩)
  clear U b5 v5 z5 hgl hz3 hz4 F0 X4 B4 hg hb' HN Y1 Y2 Y3
  go_wp2_with fail
  rw [hW5.out]
  refine HU.out.mono ?_
  rintro e' w6 ⟨rfl, ⟨I6, hB6⟩, C6⟩
  have c6 := I6.var.cell (i := 0) rfl
  go_wp2_with fail
  refine (rdEnd I6.rd (by omega)).mono ?_
  rintro e' w7 ⟨rfl, X7, B7⟩
  obtain ⟨cs6, hl6, R6, F6⟩ := I6.rc
  obtain ⟨XS, hXS⟩ : ∃ XS, Hid (st.2.2 = XS) := ⟨_, rfl⟩
  rw [hXS.out] at F6
  have hF6 := hid3 F6
  have q0 := (F6 0).1 rfl
  have q1 := (F6 1).1 rfl
  have ecs : cs6 = [.int .u64 (XS 0), .int .u64 (XS 1)] := by
    apply List.ext_getElem?
    intro i
    match i with
    | 0 => rw [q0]; rfl
    | 1 => rw [q1]; rfl
    | k + 2 => rw [List.getElem?_eq_none (by omega), List.getElem?_eq_none (by simp)]
  subst ecs
  have C7 := But.chg B7
  have K1 := (P1.out.chg C6 (fun h => h.elim HS.out.1 HS.out.2.2.2.1)).chg C7 HS.out.1
  have K3 := (P3.out.chg C6 (fun h => h.elim HS.out.2.1 HS.out.2.2.1)).chg C7 HS.out.2.1
  have K2 := R6.chg C7 I6.s1
  have BF := hid3 (B7.below I6.bel HS.out.2.2.2.2.2 (Nat.le_refl _))
  have hF7 := hid3 ((hF6.out.off (w' := w7) B7.size (fun y hy hy2 => B7.block y hy2 (by have := I6.g1; omega))))
  have hBw := hid3 (show w.heap.size < W5.heap.size ∧ w.heap.size < w7.heap.size from ⟨by have := I6.r1; omega, K1.lt⟩)
  have u0 := K1.cell (i := 0) rfl
  have f0 := K1.free 0
  have v0 := K2.cell (i := 0) rfl
  have o0 := K3.cell (i := 0) rfl
  have u1 := K1.cell (i := 1) rfl
  have f1 := K1.free 1
  have v1 := K2.cell (i := 1) rfl
  have o1 := K3.cell (i := 1) rfl
  have KFblk := hid3 (show Blk ((w7.setCell ⟨w.heap.size, 0, none⟩ (.int .u64 (XS 0))).setCell ⟨w.heap.size, 1, none⟩ (.int .u64 (XS 1))) w.heap.size [.int .u64 (XS 0), .int .u64 (XS 1)] 61 from ((K1.setCell (i := 0) (.int .u64 (XS 0))).setCell (i := 1) (.int .u64 (XS 1))))
  have KFchg := hid3 (show Chg (fun x => x = w.heap.size) w7 ((w7.setCell ⟨w.heap.size, 0, none⟩ (.int .u64 (XS 0))).setCell ⟨w.heap.size, 1, none⟩ (.int .u64 (XS 1))) from (((Chg.refl (fun x => x = w.heap.size) w7).cell (g := w.heap.size) (i := 0) (.inl rfl) (.int .u64 (XS 0))).cell (g := w.heap.size) (i := 1) (.inl rfl) (.int .u64 (XS 1))))
  have KFbel := hid3 (show Below w.heap.size w ((w7.setCell ⟨w.heap.size, 0, none⟩ (.int .u64 (XS 0))).setCell ⟨w.heap.size, 1, none⟩ (.int .u64 (XS 1))) from ((BF.out.setCell (p := ⟨w.heap.size, 0, none⟩) (Nat.le_refl _) (.int .u64 (XS 0))).setCell (p := ⟨w.heap.size, 1, none⟩) (Nat.le_refl _) (.int .u64 (XS 1))))
  have KZblk := hid3 (show Blk ((w7.setCell ⟨w.heap.size, 0, none⟩ (.int .u64 0)).setCell ⟨w.heap.size, 1, none⟩ (.int .u64 0)) w.heap.size [.int .u64 0, .int .u64 0] 61 from ((K1.setCell (i := 0) (.int .u64 0)).setCell (i := 1) (.int .u64 0)))
  have KZchg := hid3 (show Chg (fun x => x = w.heap.size) w7 ((w7.setCell ⟨w.heap.size, 0, none⟩ (.int .u64 0)).setCell ⟨w.heap.size, 1, none⟩ (.int .u64 0)) from (((Chg.refl (fun x => x = w.heap.size) w7).cell (g := w.heap.size) (i := 0) (.inl rfl) (.int .u64 0)).cell (g := w.heap.size) (i := 1) (.inl rfl) (.int .u64 0)))
  have KZbel := hid3 (show Below w.heap.size w ((w7.setCell ⟨w.heap.size, 0, none⟩ (.int .u64 0)).setCell ⟨w.heap.size, 1, none⟩ (.int .u64 0)) from ((BF.out.setCell (p := ⟨w.heap.size, 0, none⟩) (Nat.le_refl _) (.int .u64 0)).setCell (p := ⟨w.heap.size, 1, none⟩) (Nat.le_refl _) (.int .u64 0)))
  clear K1 K2 K3 I6 C6 C7 B7 X7 R6 hl6 F6 c6 HU P1 P3 q0 q1
  obtain ⟨E0, hE0⟩ : ∃ E0, Hid (endE st.1 st.2.1 = E0) := ⟨_, rfl⟩
  rw [hE0.out]
  by_cases hE : E0 = 0
  · subst hE
    go_wp2
    refine bodyPost_ret (ret_rc rfl rfl rfl (ld_Chain (KFblk.out.cell (i := 0) rfl) (KFblk.out.cell (i := 1) rfl))) rfl ?_
    exact ⟨⟨[.int .u64 (XS 0), .int .u64 (XS 1)], XS, 0, rfl, rfl, (hF7.out.off KFchg.out.size (fun y hy _ => KFchg.out.same y (by assumption) (fun e => by have e' : y = w.heap.size := e; have := hBw.out; omega))).low (by have := hBw.out; omega), fun _ => ⟨rfl, hXS.out.symm⟩, fun h => absurd hE0.out h⟩, KFbel.out⟩
  · have hE1 : ¬ (E0 = 0) := hE
    go_wp2
    refine bodyPost_ret (ret_rc rfl rfl rfl (ld_Chain (KZblk.out.cell (i := 0) rfl) (KZblk.out.cell (i := 1) rfl))) rfl ?_
    exact ⟨⟨[.int .u64 0, .int .u64 0], fun _ => 0, 80, rfl, rfl, (fun o => match o with | 0 => ⟨fun _ => rfl, fun h => absurd h (by decide), fun h => absurd h (by decide)⟩ | 1 => ⟨fun _ => rfl, fun h => absurd h (by decide), fun h => absurd h (by decide)⟩ | k + 2 => ⟨fun h => absurd h (by simp [kd_Chain]), fun h => absurd h (by simp [kd_Chain]), fun h => absurd h (by simp [kd_Chain])⟩), fun h => absurd (hE0.out.symm.trans h) hE1, fun _ => ⟨rfl, rfl⟩⟩, KZbel.out⟩
theorem ld_Unbonding {w:World} {g:Nat} {y0 y1 y2 y3 y4 y5:Value} (c0:w.cell? ⟨g,0,none⟩=some y0) (c1:w.cell? ⟨g,1,none⟩=some y1) (c2:w.cell? ⟨g,2,none⟩=some y2) (c3:w.cell? ⟨g,3,none⟩=some y3) (c4:w.cell? ⟨g,4,none⟩=some y4) (c5:w.cell? ⟨g,5,none⟩=some y5):(loadVar 63 ⟨g,0,none⟩).run Tryz.prog w=.ok (.agg #[y0,y1,y2,y3,y4,y5]) w:=by go_simp
theorem read_Unbonding {w : World} {bb n c : Nat} {ao : Option Addr} {l : List Int} (A : ByA w bb ao n c l) (hn : n ≤ 1000000000) (hl : l.length = n) :
    Calls Tryz.prog 200 #[.slice ao n c, .func (.func 199) #[] #[]] w (FinR w kd_Unbonding 6 mkA (thr rnx [(0, 0), (0, 1), (0, 2), (0, 3), (0, 4), (0, 5)] (0, l, fun _ => (0 : Int)))) := by
  have b1 := below_alloc w (.cells #[.int .u64 0, .int .u64 0, .int .u64 0, .int .u64 0, .int .u64 0, .int .u64 0] 63)
  have b2 := below_alloc (w.alloc (.cells #[.int .u64 0, .int .u64 0, .int .u64 0, .int .u64 0, .int .u64 0, .int .u64 0] 63)) (.cells #[.int .u64 0, .int .u64 0, .int .u64 0, .int .u64 0, .int .u64 0, .int .u64 0] 63)
  have b3 := below_alloc ((w.alloc (.cells #[.int .u64 0, .int .u64 0, .int .u64 0, .int .u64 0, .int .u64 0, .int .u64 0] 63)).alloc (.cells #[.int .u64 0, .int .u64 0, .int .u64 0, .int .u64 0, .int .u64 0, .int .u64 0] 63)) (.cells #[.int .u64 0, .int .u64 0, .int .u64 0, .int .u64 0, .int .u64 0, .int .u64 0] 63)
  have z1 := size_al w (.cells #[.int .u64 0, .int .u64 0, .int .u64 0, .int .u64 0, .int .u64 0, .int .u64 0] 63)
  have z2 := size_al (w.alloc (.cells #[.int .u64 0, .int .u64 0, .int .u64 0, .int .u64 0, .int .u64 0, .int .u64 0] 63)) (.cells #[.int .u64 0, .int .u64 0, .int .u64 0, .int .u64 0, .int .u64 0, .int .u64 0] 63)
  have z3 := size_al ((w.alloc (.cells #[.int .u64 0, .int .u64 0, .int .u64 0, .int .u64 0, .int .u64 0, .int .u64 0] 63)).alloc (.cells #[.int .u64 0, .int .u64 0, .int .u64 0, .int .u64 0, .int .u64 0, .int .u64 0] 63)) (.cells #[.int .u64 0, .int .u64 0, .int .u64 0, .int .u64 0, .int .u64 0, .int .u64 0] 63)
  have y1 := ((blk_new w [.int .u64 0, .int .u64 0, .int .u64 0, .int .u64 0, .int .u64 0, .int .u64 0] 63).keep b2).keep b3
  have y2 := (blk_new (w.alloc (.cells #[.int .u64 0, .int .u64 0, .int .u64 0, .int .u64 0, .int .u64 0, .int .u64 0] 63)) [.int .u64 0, .int .u64 0, .int .u64 0, .int .u64 0, .int .u64 0, .int .u64 0] 63).keep b3
  have y3 := blk_new ((w.alloc (.cells #[.int .u64 0, .int .u64 0, .int .u64 0, .int .u64 0, .int .u64 0, .int .u64 0] 63)).alloc (.cells #[.int .u64 0, .int .u64 0, .int .u64 0, .int .u64 0, .int .u64 0, .int .u64 0] 63)) [.int .u64 0, .int .u64 0, .int .u64 0, .int .u64 0, .int .u64 0, .int .u64 0] 63
  rw [z2, z1] at y3
  rw [z1] at y2
  rw [z2, z1] at z3
  obtain ⟨W3, hW3⟩ : ∃ W3, Hid ((((w.alloc (.cells #[.int .u64 0, .int .u64 0, .int .u64 0, .int .u64 0, .int .u64 0, .int .u64 0] 63)).alloc (.cells #[.int .u64 0, .int .u64 0, .int .u64 0, .int .u64 0, .int .u64 0, .int .u64 0] 63)).alloc (.cells #[.int .u64 0, .int .u64 0, .int .u64 0, .int .u64 0, .int .u64 0, .int .u64 0] 63)) = W3) := ⟨_, rfl⟩
  have BB := joinB (joinB b1 b2) b3
  rw [hW3.out] at BB y1 y2 y3 z3
  have HN := hid3 (rdNew (A.keep BB) (by omega))
  have Y1 := hid3 y1
  have Y2 := hid3 y2
  have Y3 := hid3 y3
  have Z3 := hid3 z3
  have HBB := hid3 BB
  have HL := hid3 hl
  clear b1 b2 b3 z1 z2 z3 y1 y2 y3 BB A hl
  obtain ⟨st, hst⟩ : ∃ st, Hid (thr rnx [(0, 0), (0, 1), (0, 2), (0, 3), (0, 4), (0, 5)] (0, l, fun _ => (0 : Int)) = st) := ⟨_, rfl⟩
  have hsl : st.2.1.length ≤ n := by have h := thr_len [(0, 0), (0, 1), (0, 2), (0, 3), (0, 4), (0, 5)] (0, l, fun _ => (0 : Int)); rw [hst.out] at h; rw [HL.out] at h; exact h
  rw [hst.out]
  go_enter Tryz.func200, Tryz.ntmps200
  go_wp2_with fail
  rw [hW3.out]
  refine HN.out.mono ?_
  rintro e' w4 ⟨g, b', rfl, hg, hb', X4, B4⟩
  have b5 := below_alloc w4 (.cells #[.pointer (some ⟨g, 0, none⟩)] 302)
  have v5 := blk_new w4 [.pointer (some ⟨g, 0, none⟩)] 302
  have z5 := size_al w4 (.cells #[.pointer (some ⟨g, 0, none⟩)] 302)
  obtain ⟨W5, hW5⟩ : ∃ W5, Hid (w4.alloc (.cells #[.pointer (some ⟨g, 0, none⟩)] 302) = W5) := ⟨_, rfl⟩
  rw [hW5.out] at b5 v5 z5
  have hgl := X4.lt
  have hz3 := Z3.out
  have hz4 := B4.size
  have F0 : FldR W5 W5.heap.size kd_Unbonding [.int .u64 0, .int .u64 0, .int .u64 0, .int .u64 0, .int .u64 0, .int .u64 0] (fun _ => 0) := fun o => match o with
    | 0 => ⟨fun _ => rfl, fun h => absurd h (by decide), fun h => absurd h (by decide)⟩
    | 1 => ⟨fun _ => rfl, fun h => absurd h (by decide), fun h => absurd h (by decide)⟩
    | 2 => ⟨fun _ => rfl, fun h => absurd h (by decide), fun h => absurd h (by decide)⟩
    | 3 => ⟨fun _ => rfl, fun h => absurd h (by decide), fun h => absurd h (by decide)⟩
    | 4 => ⟨fun _ => rfl, fun h => absurd h (by decide), fun h => absurd h (by decide)⟩
    | 5 => ⟨fun _ => rfl, fun h => absurd h (by decide), fun h => absurd h (by decide)⟩
    | k + 6 => ⟨fun h => absurd h (by simp [kd_Unbonding]), fun h => absurd h (by simp [kd_Unbonding]), fun h => absurd h (by simp [kd_Unbonding])⟩
  have U := ofUnbonding_any (rhc_Unbonding (w0 := w) (B := W5.heap.size) (g := g) (b := b') (vb := w4.heap.size) (rb := w.heap.size + 1) (T := 63) (vt := 302)) (s := (0, l, fun _ => (0 : Int))) (w := W5) ⟨⟨X4.keep b5, v5, ⟨_, rfl, (Y2.out.keep B4).keep b5, F0⟩, joinB (joinB HBB.out B4) b5, by omega, by omega, by omega, by omega, by omega, by omega, by omega, by omega⟩, Nat.le_refl _⟩ (by simp [kd_Unbonding]) trivial
  rw [hst.out] at U
  have HU := hid3 U
  have P1 := hid3 ((Y1.out.keep B4).keep b5)
  have P3 := hid3 ((Y3.out.keep B4).keep b5)
  have HS := hid3 (show w.heap.size ≠ g ∧ w.heap.size + 1 + 1 ≠ g ∧ w.heap.size + 1 + 1 ≠ w.heap.size + 1 ∧ w.heap.size ≠ w.heap.size + 1 ∧ w.heap.size ≤ W5.heap.size ∧ w.heap.size ≤ g from ⟨by omega, by omega, by omega, by omega, by omega, by omega⟩)
  clear U b5 v5 z5 hgl hz3 hz4 F0 X4 B4 hg hb' HN Y1 Y2 Y3
  go_wp2_with fail
  rw [hW5.out]
  refine HU.out.mono ?_
  rintro e' w6 ⟨rfl, ⟨I6, hB6⟩, C6⟩
  have c6 := I6.var.cell (i := 0) rfl
  go_wp2_with fail
  refine (rdEnd I6.rd (by omega)).mono ?_
  rintro e' w7 ⟨rfl, X7, B7⟩
  obtain ⟨cs6, hl6, R6, F6⟩ := I6.rc
  obtain ⟨XS, hXS⟩ : ∃ XS, Hid (st.2.2 = XS) := ⟨_, rfl⟩
  rw [hXS.out] at F6
  have hF6 := hid3 F6
  have q0 := (F6 0).1 rfl
  have q1 := (F6 1).1 rfl
  have q2 := (F6 2).1 rfl
  have q3 := (F6 3).1 rfl
  have q4 := (F6 4).1 rfl
  have q5 := (F6 5).1 rfl
  have ecs : cs6 = [.int .u64 (XS 0), .int .u64 (XS 1), .int .u64 (XS 2), .int .u64 (XS 3), .int .u64 (XS 4), .int .u64 (XS 5)] := by
    apply List.ext_getElem?
    intro i
    match i with
    | 0 => rw [q0]; rfl
    | 1 => rw [q1]; rfl
    | 2 => rw [q2]; rfl
    | 3 => rw [q3]; rfl
    | 4 => rw [q4]; rfl
    | 5 => rw [q5]; rfl
    | k + 6 => rw [List.getElem?_eq_none (by omega), List.getElem?_eq_none (by simp)]
  subst ecs
  have C7 := But.chg B7
  have K1 := (P1.out.chg C6 (fun h => h.elim HS.out.1 HS.out.2.2.2.1)).chg C7 HS.out.1
  have K3 := (P3.out.chg C6 (fun h => h.elim HS.out.2.1 HS.out.2.2.1)).chg C7 HS.out.2.1
  have K2 := R6.chg C7 I6.s1
  have BF := hid3 (B7.below I6.bel HS.out.2.2.2.2.2 (Nat.le_refl _))
  have hF7 := hid3 ((hF6.out.off (w' := w7) B7.size (fun y hy hy2 => B7.block y hy2 (by have := I6.g1; omega))))
  have hBw := hid3 (show w.heap.size < W5.heap.size ∧ w.heap.size < w7.heap.size from ⟨by have := I6.r1; omega, K1.lt⟩)
  have u0 := K1.cell (i := 0) rfl
  have f0 := K1.free 0
  have v0 := K2.cell (i := 0) rfl
  have o0 := K3.cell (i := 0) rfl
  have u1 := K1.cell (i := 1) rfl
  have f1 := K1.free 1
  have v1 := K2.cell (i := 1) rfl
  have o1 := K3.cell (i := 1) rfl
  have u2 := K1.cell (i := 2) rfl
  have f2 := K1.free 2
  have v2 := K2.cell (i := 2) rfl
  have o2 := K3.cell (i := 2) rfl
  have u3 := K1.cell (i := 3) rfl
  have f3 := K1.free 3
  have v3 := K2.cell (i := 3) rfl
  have o3 := K3.cell (i := 3) rfl
  have u4 := K1.cell (i := 4) rfl
  have f4 := K1.free 4
  have v4 := K2.cell (i := 4) rfl
  have o4 := K3.cell (i := 4) rfl
  have u5 := K1.cell (i := 5) rfl
  have f5 := K1.free 5
  have v5 := K2.cell (i := 5) rfl
  have o5 := K3.cell (i := 5) rfl
  have KFblk := hid3 (show Blk ((((((w7.setCell ⟨w.heap.size, 0, none⟩ (.int .u64 (XS 0))).setCell ⟨w.heap.size, 1, none⟩ (.int .u64 (XS 1))).setCell ⟨w.heap.size, 2, none⟩ (.int .u64 (XS 2))).setCell ⟨w.heap.size, 3, none⟩ (.int .u64 (XS 3))).setCell ⟨w.heap.size, 4, none⟩ (.int .u64 (XS 4))).setCell ⟨w.heap.size, 5, none⟩ (.int .u64 (XS 5))) w.heap.size [.int .u64 (XS 0), .int .u64 (XS 1), .int .u64 (XS 2), .int .u64 (XS 3), .int .u64 (XS 4), .int .u64 (XS 5)] 63 from ((((((K1.setCell (i := 0) (.int .u64 (XS 0))).setCell (i := 1) (.int .u64 (XS 1))).setCell (i := 2) (.int .u64 (XS 2))).setCell (i := 3) (.int .u64 (XS 3))).setCell (i := 4) (.int .u64 (XS 4))).setCell (i := 5) (.int .u64 (XS 5))))
  have KFchg := hid3 (show Chg (fun x => x = w.heap.size) w7 ((((((w7.setCell ⟨w.heap.size, 0, none⟩ (.int .u64 (XS 0))).setCell ⟨w.heap.size, 1, none⟩ (.int .u64 (XS 1))).setCell ⟨w.heap.size, 2, none⟩ (.int .u64 (XS 2))).setCell ⟨w.heap.size, 3, none⟩ (.int .u64 (XS 3))).setCell ⟨w.heap.size, 4, none⟩ (.int .u64 (XS 4))).setCell ⟨w.heap.size, 5, none⟩ (.int .u64 (XS 5))) from (((((((Chg.refl (fun x => x = w.heap.size) w7).cell (g := w.heap.size) (i := 0) (.inl rfl) (.int .u64 (XS 0))).cell (g := w.heap.size) (i := 1) (.inl rfl) (.int .u64 (XS 1))).cell (g := w.heap.size) (i := 2) (.inl rfl) (.int .u64 (XS 2))).cell (g := w.heap.size) (i := 3) (.inl rfl) (.int .u64 (XS 3))).cell (g := w.heap.size) (i := 4) (.inl rfl) (.int .u64 (XS 4))).cell (g := w.heap.size) (i := 5) (.inl rfl) (.int .u64 (XS 5))))
  have KFbel := hid3 (show Below w.heap.size w ((((((w7.setCell ⟨w.heap.size, 0, none⟩ (.int .u64 (XS 0))).setCell ⟨w.heap.size, 1, none⟩ (.int .u64 (XS 1))).setCell ⟨w.heap.size, 2, none⟩ (.int .u64 (XS 2))).setCell ⟨w.heap.size, 3, none⟩ (.int .u64 (XS 3))).setCell ⟨w.heap.size, 4, none⟩ (.int .u64 (XS 4))).setCell ⟨w.heap.size, 5, none⟩ (.int .u64 (XS 5))) from ((((((BF.out.setCell (p := ⟨w.heap.size, 0, none⟩) (Nat.le_refl _) (.int .u64 (XS 0))).setCell (p := ⟨w.heap.size, 1, none⟩) (Nat.le_refl _) (.int .u64 (XS 1))).setCell (p := ⟨w.heap.size, 2, none⟩) (Nat.le_refl _) (.int .u64 (XS 2))).setCell (p := ⟨w.heap.size, 3, none⟩) (Nat.le_refl _) (.int .u64 (XS 3))).setCell (p := ⟨w.heap.size, 4, none⟩) (Nat.le_refl _) (.int .u64 (XS 4))).setCell (p := ⟨w.heap.size, 5, none⟩) (Nat.le_refl _) (.int .u64 (XS 5))))
  have KZblk := hid3 (show Blk ((((((w7.setCell ⟨w.heap.size, 0, none⟩ (.int .u64 0)).setCell ⟨w.heap.size, 1, none⟩ (.int .u64 0)).setCell ⟨w.heap.size, 2, none⟩ (.int .u64 0)).setCell ⟨w.heap.size, 3, none⟩ (.int .u64 0)).setCell ⟨w.heap.size, 4, none⟩ (.int .u64 0)).setCell ⟨w.heap.size, 5, none⟩ (.int .u64 0)) w.heap.size [.int .u64 0, .int .u64 0, .int .u64 0, .int .u64 0, .int .u64 0, .int .u64 0] 63 from ((((((K1.setCell (i := 0) (.int .u64 0)).setCell (i := 1) (.int .u64 0)).setCell (i := 2) (.int .u64 0)).setCell (i := 3) (.int .u64 0)).setCell (i := 4) (.int .u64 0)).setCell (i := 5) (.int .u64 0)))
  have KZchg := hid3 (show Chg (fun x => x = w.heap.size) w7 ((((((w7.setCell ⟨w.heap.size, 0, none⟩ (.int .u64 0)).setCell ⟨w.heap.size, 1, none⟩ (.int .u64 0)).setCell ⟨w.heap.size, 2, none⟩ (.int .u64 0)).setCell ⟨w.heap.size, 3, none⟩ (.int .u64 0)).setCell ⟨w.heap.size, 4, none⟩ (.int .u64 0)).setCell ⟨w.heap.size, 5, none⟩ (.int .u64 0)) from (((((((Chg.refl (fun x => x = w.heap.size) w7).cell (g := w.heap.size) (i := 0) (.inl rfl) (.int .u64 0)).cell (g := w.heap.size) (i := 1) (.inl rfl) (.int .u64 0)).cell (g := w.heap.size) (i := 2) (.inl rfl) (.int .u64 0)).cell (g := w.heap.size) (i := 3) (.inl rfl) (.int .u64 0)).cell (g := w.heap.size) (i := 4) (.inl rfl) (.int .u64 0)).cell (g := w.heap.size) (i := 5) (.inl rfl) (.int .u64 0)))
  have KZbel := hid3 (show Below w.heap.size w ((((((w7.setCell ⟨w.heap.size, 0, none⟩ (.int .u64 0)).setCell ⟨w.heap.size, 1, none⟩ (.int .u64 0)).setCell ⟨w.heap.size, 2, none⟩ (.int .u64 0)).setCell ⟨w.heap.size, 3, none⟩ (.int .u64 0)).setCell ⟨w.heap.size, 4, none⟩ (.int .u64 0)).setCell ⟨w.heap.size, 5, none⟩ (.int .u64 0)) from ((((((BF.out.setCell (p := ⟨w.heap.size, 0, none⟩) (Nat.le_refl _) (.int .u64 0)).setCell (p := ⟨w.heap.size, 1, none⟩) (Nat.le_refl _) (.int .u64 0)).setCell (p := ⟨w.heap.size, 2, none⟩) (Nat.le_refl _) (.int .u64 0)).setCell (p := ⟨w.heap.size, 3, none⟩) (Nat.le_refl _) (.int .u64 0)).setCell (p := ⟨w.heap.size, 4, none⟩) (Nat.le_refl _) (.int .u64 0)).setCell (p := ⟨w.heap.size, 5, none⟩) (Nat.le_refl _) (.int .u64 0)))
  clear K1 K2 K3 I6 C6 C7 B7 X7 R6 hl6 F6 c6 HU P1 P3 q0 q1 q2 q3 q4 q5
  obtain ⟨E0, hE0⟩ : ∃ E0, Hid (endE st.1 st.2.1 = E0) := ⟨_, rfl⟩
  rw [hE0.out]
  by_cases hE : E0 = 0
  · subst hE
    go_wp2
    refine bodyPost_ret (ret_rc rfl rfl rfl (ld_Unbonding (KFblk.out.cell (i := 0) rfl) (KFblk.out.cell (i := 1) rfl) (KFblk.out.cell (i := 2) rfl) (KFblk.out.cell (i := 3) rfl) (KFblk.out.cell (i := 4) rfl) (KFblk.out.cell (i := 5) rfl))) rfl ?_
    exact ⟨⟨[.int .u64 (XS 0), .int .u64 (XS 1), .int .u64 (XS 2), .int .u64 (XS 3), .int .u64 (XS 4), .int .u64 (XS 5)], XS, 0, rfl, rfl, (hF7.out.off KFchg.out.size (fun y hy _ => KFchg.out.same y (by assumption) (fun e => by have e' : y = w.heap.size := e; have := hBw.out; omega))).low (by have := hBw.out; omega), fun _ => ⟨rfl, hXS.out.symm⟩, fun h => absurd hE0.out h⟩, KFbel.out⟩
  · have hE1 : ¬ (E0 = 0) := hE
    go_wp2
    refine bodyPost_ret (ret_rc rfl rfl rfl (ld_Unbonding (KZblk.out.cell (i := 0) rfl) (KZblk.out.cell (i := 1) rfl) (KZblk.out.cell (i := 2) rfl) (KZblk.out.cell (i := 3) rfl) (KZblk.out.cell (i := 4) rfl) (KZblk.out.cell (i := 5) rfl))) rfl ?_
    exact ⟨⟨[.int .u64 0, .int .u64 0, .int .u64 0, .int .u64 0, .int .u64 0, .int .u64 0], fun _ => 0, 80, rfl, rfl, (fun o => match o with | 0 => ⟨fun _ => rfl, fun h => absurd h (by decide), fun h => absurd h (by decide)⟩ | 1 => ⟨fun _ => rfl, fun h => absurd h (by decide), fun h => absurd h (by decide)⟩ | 2 => ⟨fun _ => rfl, fun h => absurd h (by decide), fun h => absurd h (by decide)⟩ | 3 => ⟨fun _ => rfl, fun h => absurd h (by decide), fun h => absurd h (by decide)⟩ | 4 => ⟨fun _ => rfl, fun h => absurd h (by decide), fun h => absurd h (by decide)⟩ | 5 => ⟨fun _ => rfl, fun h => absurd h (by decide), fun h => absurd h (by decide)⟩ | k + 6 => ⟨fun h => absurd h (by simp [kd_Unbonding]), fun h => absurd h (by simp [kd_Unbonding]), fun h => absurd h (by simp [kd_Unbonding])⟩), fun h => absurd (hE0.out.symm.trans h) hE1, fun _ => ⟨rfl, rfl⟩⟩, KZbel.out⟩
theorem ld_Move {w:World} {g:Nat} {y0 y1 y2 y3 y4 y5 y6:Value} (c0:w.cell? ⟨g,0,none⟩=some y0) (c1:w.cell? ⟨g,1,none⟩=some y1) (c2:w.cell? ⟨g,2,none⟩=some y2) (c3:w.cell? ⟨g,3,none⟩=some y3) (c4:w.cell? ⟨g,4,none⟩=some y4) (c5:w.cell? ⟨g,5,none⟩=some y5) (c6:w.cell? ⟨g,6,none⟩=some y6):(loadVar 68 ⟨g,0,none⟩).run Tryz.prog w=.ok (.agg #[y0,y1,y2,y3,y4,y5,y6]) w:=by go_simp
theorem read_Move {w : World} {bb n c : Nat} {ao : Option Addr} {l : List Int} (A : ByA w bb ao n c l) (hn : n ≤ 1000000000) (hl : l.length = n) :
    Calls Tryz.prog 204 #[.slice ao n c, .func (.func 203) #[] #[]] w (FinR w kd_Move 7 mkA (thr rnx [(0, 0), (0, 1), (0, 2), (0, 3), (0, 4), (0, 5), (2, 6)] (0, l, fun _ => (0 : Int)))) := by
  have b1 := below_alloc w (.cells #[.int .u64 0, .int .u64 0, .int .u64 0, .int .u64 0, .int .u64 0, .int .u64 0, .slice none 0 0] 68)
  have b2 := below_alloc (w.alloc (.cells #[.int .u64 0, .int .u64 0, .int .u64 0, .int .u64 0, .int .u64 0, .int .u64 0, .slice none 0 0] 68)) (.cells #[.int .u64 0, .int .u64 0, .int .u64 0, .int .u64 0, .int .u64 0, .int .u64 0, .slice none 0 0] 68)
  have b3 := below_alloc ((w.alloc (.cells #[.int .u64 0, .int .u64 0, .int .u64 0, .int .u64 0, .int .u64 0, .int .u64 0, .slice none 0 0] 68)).alloc (.cells #[.int .u64 0, .int .u64 0, .int .u64 0, .int .u64 0, .int .u64 0, .int .u64 0, .slice none 0 0] 68)) (.cells #[.int .u64 0, .int .u64 0, .int .u64 0, .int .u64 0, .int .u64 0, .int .u64 0, .slice none 0 0] 68)
  have z1 := size_al w (.cells #[.int .u64 0, .int .u64 0, .int .u64 0, .int .u64 0, .int .u64 0, .int .u64 0, .slice none 0 0] 68)
  have z2 := size_al (w.alloc (.cells #[.int .u64 0, .int .u64 0, .int .u64 0, .int .u64 0, .int .u64 0, .int .u64 0, .slice none 0 0] 68)) (.cells #[.int .u64 0, .int .u64 0, .int .u64 0, .int .u64 0, .int .u64 0, .int .u64 0, .slice none 0 0] 68)
  have z3 := size_al ((w.alloc (.cells #[.int .u64 0, .int .u64 0, .int .u64 0, .int .u64 0, .int .u64 0, .int .u64 0, .slice none 0 0] 68)).alloc (.cells #[.int .u64 0, .int .u64 0, .int .u64 0, .int .u64 0, .int .u64 0, .int .u64 0, .slice none 0 0] 68)) (.cells #[.int .u64 0, .int .u64 0, .int .u64 0, .int .u64 0, .int .u64 0, .int .u64 0, .slice none 0 0] 68)
  have y1 := ((blk_new w [.int .u64 0, .int .u64 0, .int .u64 0, .int .u64 0, .int .u64 0, .int .u64 0, .slice none 0 0] 68).keep b2).keep b3
  have y2 := (blk_new (w.alloc (.cells #[.int .u64 0, .int .u64 0, .int .u64 0, .int .u64 0, .int .u64 0, .int .u64 0, .slice none 0 0] 68)) [.int .u64 0, .int .u64 0, .int .u64 0, .int .u64 0, .int .u64 0, .int .u64 0, .slice none 0 0] 68).keep b3
  have y3 := blk_new ((w.alloc (.cells #[.int .u64 0, .int .u64 0, .int .u64 0, .int .u64 0, .int .u64 0, .int .u64 0, .slice none 0 0] 68)).alloc (.cells #[.int .u64 0, .int .u64 0, .int .u64 0, .int .u64 0, .int .u64 0, .int .u64 0, .slice none 0 0] 68)) [.int .u64 0, .int .u64 0, .int .u64 0, .int .u64 0, .int .u64 0, .int .u64 0, .slice none 0 0] 68
  rw [z2, z1] at y3
  rw [z1] at y2
  rw [z2, z1] at z3
  obtain ⟨W3, hW3⟩ : ∃ W3, Hid ((((w.alloc (.cells #[.int .u64 0, .int .u64 0, .int .u64 0, .int .u64 0, .int .u64 0, .int .u64 0, .slice none 0 0] 68)).alloc (.cells #[.int .u64 0, .int .u64 0, .int .u64 0, .int .u64 0, .int .u64 0, .int .u64 0, .slice none 0 0] 68)).alloc (.cells #[.int .u64 0, .int .u64 0, .int .u64 0, .int .u64 0, .int .u64 0, .int .u64 0, .slice none 0 0] 68)) = W3) := ⟨_, rfl⟩
  have BB := joinB (joinB b1 b2) b3
  rw [hW3.out] at BB y1 y2 y3 z3
  have HN := hid3 (rdNew (A.keep BB) (by omega))
  have Y1 := hid3 y1
  have Y2 := hid3 y2
  have Y3 := hid3 y3
  have Z3 := hid3 z3
  have HBB := hid3 BB
  have HL := hid3 hl
  clear b1 b2 b3 z1 z2 z3 y1 y2 y3 BB A hl
  obtain ⟨st, hst⟩ : ∃ st, Hid (thr rnx [(0, 0), (0, 1), (0, 2), (0, 3), (0, 4), (0, 5), (2, 6)] (0, l, fun _ => (0 : Int)) = st) := ⟨_, rfl⟩
  have hsl : st.2.1.length ≤ n := by have h := thr_len [(0, 0), (0, 1), (0, 2), (0, 3), (0, 4), (0, 5), (2, 6)] (0, l, fun _ => (0 : Int)); rw [hst.out] at h; rw [HL.out] at h; exact h
  rw [hst.out]
  go_enter Tryz.func204, Tryz.ntmps204
  go_wp2_with fail
  rw [hW3.out]
  refine HN.out.mono ?_
  rintro e' w4 ⟨g, b', rfl, hg, hb', X4, B4⟩
  have b5 := below_alloc w4 (.cells #[.pointer (some ⟨g, 0, none⟩)] 302)
  have v5 := blk_new w4 [.pointer (some ⟨g, 0, none⟩)] 302
  have z5 := size_al w4 (.cells #[.pointer (some ⟨g, 0, none⟩)] 302)
  obtain ⟨W5, hW5⟩ : ∃ W5, Hid (w4.alloc (.cells #[.pointer (some ⟨g, 0, none⟩)] 302) = W5) := ⟨_, rfl⟩
  rw [hW5.out] at b5 v5 z5
  have hgl := X4.lt
  have hz3 := Z3.out
  have hz4 := B4.size
  have F0 : FldR W5 W5.heap.size kd_Move [.int .u64 0, .int .u64 0, .int .u64 0, .int .u64 0, .int .u64 0, .int .u64 0, .slice none 0 0] (fun _ => 0) := fun o => match o with
    | 0 => ⟨fun _ => rfl, fun h => absurd h (by decide), fun h => absurd h (by decide)⟩
    | 1 => ⟨fun _ => rfl, fun h => absurd h (by decide), fun h => absurd h (by decide)⟩
    | 2 => ⟨fun _ => rfl, fun h => absurd h (by decide), fun h => absurd h (by decide)⟩
    | 3 => ⟨fun _ => rfl, fun h => absurd h (by decide), fun h => absurd h (by decide)⟩
    | 4 => ⟨fun _ => rfl, fun h => absurd h (by decide), fun h => absurd h (by decide)⟩
    | 5 => ⟨fun _ => rfl, fun h => absurd h (by decide), fun h => absurd h (by decide)⟩
    | 6 => ⟨fun h => absurd h (by decide), fun h => absurd h (by decide), fun _ => ⟨none, 0, 0, rfl, natW_nil _ _, by decide⟩⟩
    | k + 7 => ⟨fun h => absurd h (by simp [kd_Move]), fun h => absurd h (by simp [kd_Move]), fun h => absurd h (by simp [kd_Move])⟩
  have U := ofMove_any (rhc_Move (w0 := w) (B := W5.heap.size) (g := g) (b := b') (vb := w4.heap.size) (rb := w.heap.size + 1) (T := 68) (vt := 302)) (s := (0, l, fun _ => (0 : Int))) (w := W5) ⟨⟨X4.keep b5, v5, ⟨_, rfl, (Y2.out.keep B4).keep b5, F0⟩, joinB (joinB HBB.out B4) b5, by omega, by omega, by omega, by omega, by omega, by omega, by omega, by omega⟩, Nat.le_refl _⟩ (by simp [kd_Move]) trivial
  rw [hst.out] at U
  have HU := hid3 U
  have P1 := hid3 ((Y1.out.keep B4).keep b5)
  have P3 := hid3 ((Y3.out.keep B4).keep b5)
  have HS := hid3 (show w.heap.size ≠ g ∧ w.heap.size + 1 + 1 ≠ g ∧ w.heap.size + 1 + 1 ≠ w.heap.size + 1 ∧ w.heap.size ≠ w.heap.size + 1 ∧ w.heap.size ≤ W5.heap.size ∧ w.heap.size ≤ g from ⟨by omega, by omega, by omega, by omega, by omega, by omega⟩)
  clear U b5 v5 z5 hgl hz3 hz4 F0 X4 B4 hg hb' HN Y1 Y2 Y3
  go_wp2_with fail
  rw [hW5.out]
  refine HU.out.mono ?_
  rintro e' w6 ⟨rfl, ⟨I6, hB6⟩, C6⟩
  have c6 := I6.var.cell (i := 0) rfl
  go_wp2_with fail
  refine (rdEnd I6.rd (by omega)).mono ?_
  rintro e' w7 ⟨rfl, X7, B7⟩
  obtain ⟨cs6, hl6, R6, F6⟩ := I6.rc
  obtain ⟨XS, hXS⟩ : ∃ XS, Hid (st.2.2 = XS) := ⟨_, rfl⟩
  rw [hXS.out] at F6
  have hF6 := hid3 F6
  have q0 := (F6 0).1 rfl
  have q1 := (F6 1).1 rfl
  have q2 := (F6 2).1 rfl
  have q3 := (F6 3).1 rfl
  have q4 := (F6 4).1 rfl
  have q5 := (F6 5).1 rfl
  obtain ⟨a6, n6, d6, q6, -, -⟩ := (F6 6).2.2 rfl
  have ecs : cs6 = [.int .u64 (XS 0), .int .u64 (XS 1), .int .u64 (XS 2), .int .u64 (XS 3), .int .u64 (XS 4), .int .u64 (XS 5), .slice a6 n6 d6] := by
    apply List.ext_getElem?
    intro i
    match i with
    | 0 => rw [q0]; rfl
    | 1 => rw [q1]; rfl
    | 2 => rw [q2]; rfl
    | 3 => rw [q3]; rfl
    | 4 => rw [q4]; rfl
    | 5 => rw [q5]; rfl
    | 6 => rw [q6]; rfl
    | k + 7 => rw [List.getElem?_eq_none (by omega), List.getElem?_eq_none (by simp)]
  subst ecs
  have C7 := But.chg B7
  have K1 := (P1.out.chg C6 (fun h => h.elim HS.out.1 HS.out.2.2.2.1)).chg C7 HS.out.1
  have K3 := (P3.out.chg C6 (fun h => h.elim HS.out.2.1 HS.out.2.2.1)).chg C7 HS.out.2.1
  have K2 := R6.chg C7 I6.s1
  have BF := hid3 (B7.below I6.bel HS.out.2.2.2.2.2 (Nat.le_refl _))
  have hF7 := hid3 ((hF6.out.off (w' := w7) B7.size (fun y hy hy2 => B7.block y hy2 (by have := I6.g1; omega))))
  have hBw := hid3 (show w.heap.size < W5.heap.size ∧ w.heap.size < w7.heap.size from ⟨by have := I6.r1; omega, K1.lt⟩)
  have u0 := K1.cell (i := 0) rfl
  have f0 := K1.free 0
  have v0 := K2.cell (i := 0) rfl
  have o0 := K3.cell (i := 0) rfl
  have u1 := K1.cell (i := 1) rfl
  have f1 := K1.free 1
  have v1 := K2.cell (i := 1) rfl
  have o1 := K3.cell (i := 1) rfl
  have u2 := K1.cell (i := 2) rfl
  have f2 := K1.free 2
  have v2 := K2.cell (i := 2) rfl
  have o2 := K3.cell (i := 2) rfl
  have u3 := K1.cell (i := 3) rfl
  have f3 := K1.free 3
  have v3 := K2.cell (i := 3) rfl
  have o3 := K3.cell (i := 3) rfl
  have u4 := K1.cell (i := 4) rfl
  have f4 := K1.free 4
  have v4 := K2.cell (i := 4) rfl
  have o4 := K3.cell (i := 4) rfl
  have u5 := K1.cell (i := 5) rfl
  have f5 := K1.free 5
  have v5 := K2.cell (i := 5) rfl
  have o5 := K3.cell (i := 5) rfl
  have u6 := K1.cell (i := 6) rfl
  have f6 := K1.free 6
  have v6 := K2.cell (i := 6) rfl
  have o6 := K3.cell (i := 6) rfl
  have KFblk := hid3 (show Blk (((((((w7.setCell ⟨w.heap.size, 0, none⟩ (.int .u64 (XS 0))).setCell ⟨w.heap.size, 1, none⟩ (.int .u64 (XS 1))).setCell ⟨w.heap.size, 2, none⟩ (.int .u64 (XS 2))).setCell ⟨w.heap.size, 3, none⟩ (.int .u64 (XS 3))).setCell ⟨w.heap.size, 4, none⟩ (.int .u64 (XS 4))).setCell ⟨w.heap.size, 5, none⟩ (.int .u64 (XS 5))).setCell ⟨w.heap.size, 6, none⟩ (.slice a6 n6 d6)) w.heap.size [.int .u64 (XS 0), .int .u64 (XS 1), .int .u64 (XS 2), .int .u64 (XS 3), .int .u64 (XS 4), .int .u64 (XS 5), .slice a6 n6 d6] 68 from (((((((K1.setCell (i := 0) (.int .u64 (XS 0))).setCell (i := 1) (.int .u64 (XS 1))).setCell (i := 2) (.int .u64 (XS 2))).setCell (i := 3) (.int .u64 (XS 3))).setCell (i := 4) (.int .u64 (XS 4))).setCell (i := 5) (.int .u64 (XS 5))).setCell (i := 6) (.slice a6 n6 d6)))
  have KFchg := hid3 (show Chg (fun x => x = w.heap.size) w7 (((((((w7.setCell ⟨w.heap.size, 0, none⟩ (.int .u64 (XS 0))).setCell ⟨w.heap.size, 1, none⟩ (.int .u64 (XS 1))).setCell ⟨w.heap.size, 2, none⟩ (.int .u64 (XS 2))).setCell ⟨w.heap.size, 3, none⟩ (.int .u64 (XS 3))).setCell ⟨w.heap.size, 4, none⟩ (.int .u64 (XS 4))).setCell ⟨w.heap.size, 5, none⟩ (.int .u64 (XS 5))).setCell ⟨w.heap.size, 6, none⟩ (.slice a6 n6 d6)) from ((((((((Chg.refl (fun x => x = w.heap.size) w7).cell (g := w.heap.size) (i := 0) (.inl rfl) (.int .u64 (XS 0))).cell (g := w.heap.size) (i := 1) (.inl rfl) (.int .u64 (XS 1))).cell (g := w.heap.size) (i := 2) (.inl rfl) (.int .u64 (XS 2))).cell (g := w.heap.size) (i := 3) (.inl rfl) (.int .u64 (XS 3))).cell (g := w.heap.size) (i := 4) (.inl rfl) (.int .u64 (XS 4))).cell (g := w.heap.size) (i := 5) (.inl rfl) (.int .u64 (XS 5))).cell (g := w.heap.size) (i := 6) (.inl rfl) (.slice a6 n6 d6)))
  have KFbel := hid3 (show Below w.heap.size w (((((((w7.setCell ⟨w.heap.size, 0, none⟩ (.int .u64 (XS 0))).setCell ⟨w.heap.size, 1, none⟩ (.int .u64 (XS 1))).setCell ⟨w.heap.size, 2, none⟩ (.int .u64 (XS 2))).setCell ⟨w.heap.size, 3, none⟩ (.int .u64 (XS 3))).setCell ⟨w.heap.size, 4, none⟩ (.int .u64 (XS 4))).setCell ⟨w.heap.size, 5, none⟩ (.int .u64 (XS 5))).setCell ⟨w.heap.size, 6, none⟩ (.slice a6 n6 d6)) from (((((((BF.out.setCell (p := ⟨w.heap.size, 0, none⟩) (Nat.le_refl _) (.int .u64 (XS 0))).setCell (p := ⟨w.heap.size, 1, none⟩) (Nat.le_refl _) (.int .u64 (XS 1))).setCell (p := ⟨w.heap.size, 2, none⟩) (Nat.le_refl _) (.int .u64 (XS 2))).setCell (p := ⟨w.heap.size, 3, none⟩) (Nat.le_refl _) (.int .u64 (XS 3))).setCell (p := ⟨w.heap.size, 4, none⟩) (Nat.le_refl _) (.int .u64 (XS 4))).setCell (p := ⟨w.heap.size, 5, none⟩) (Nat.le_refl _) (.int .u64 (XS 5))).setCell (p := ⟨w.heap.size, 6, none⟩) (Nat.le_refl _) (.slice a6 n6 d6)))
  have KZblk := hid3 (show Blk (((((((w7.setCell ⟨w.heap.size, 0, none⟩ (.int .u64 0)).setCell ⟨w.heap.size, 1, none⟩ (.int .u64 0)).setCell ⟨w.heap.size, 2, none⟩ (.int .u64 0)).setCell ⟨w.heap.size, 3, none⟩ (.int .u64 0)).setCell ⟨w.heap.size, 4, none⟩ (.int .u64 0)).setCell ⟨w.heap.size, 5, none⟩ (.int .u64 0)).setCell ⟨w.heap.size, 6, none⟩ (.slice none 0 0)) w.heap.size [.int .u64 0, .int .u64 0, .int .u64 0, .int .u64 0, .int .u64 0, .int .u64 0, .slice none 0 0] 68 from (((((((K1.setCell (i := 0) (.int .u64 0)).setCell (i := 1) (.int .u64 0)).setCell (i := 2) (.int .u64 0)).setCell (i := 3) (.int .u64 0)).setCell (i := 4) (.int .u64 0)).setCell (i := 5) (.int .u64 0)).setCell (i := 6) (.slice none 0 0)))
  have KZchg := hid3 (show Chg (fun x => x = w.heap.size) w7 (((((((w7.setCell ⟨w.heap.size, 0, none⟩ (.int .u64 0)).setCell ⟨w.heap.size, 1, none⟩ (.int .u64 0)).setCell ⟨w.heap.size, 2, none⟩ (.int .u64 0)).setCell ⟨w.heap.size, 3, none⟩ (.int .u64 0)).setCell ⟨w.heap.size, 4, none⟩ (.int .u64 0)).setCell ⟨w.heap.size, 5, none⟩ (.int .u64 0)).setCell ⟨w.heap.size, 6, none⟩ (.slice none 0 0)) from ((((((((Chg.refl (fun x => x = w.heap.size) w7).cell (g := w.heap.size) (i := 0) (.inl rfl) (.int .u64 0)).cell (g := w.heap.size) (i := 1) (.inl rfl) (.int .u64 0)).cell (g := w.heap.size) (i := 2) (.inl rfl) (.int .u64 0)).cell (g := w.heap.size) (i := 3) (.inl rfl) (.int .u64 0)).cell (g := w.heap.size) (i := 4) (.inl rfl) (.int .u64 0)).cell (g := w.heap.size) (i := 5) (.inl rfl) (.int .u64 0)).cell (g := w.heap.size) (i := 6) (.inl rfl) (.slice none 0 0)))
  have KZbel := hid3 (show Below w.heap.size w (((((((w7.setCell ⟨w.heap.size, 0, none⟩ (.int .u64 0)).setCell ⟨w.heap.size, 1, none⟩ (.int .u64 0)).setCell ⟨w.heap.size, 2, none⟩ (.int .u64 0)).setCell ⟨w.heap.size, 3, none⟩ (.int .u64 0)).setCell ⟨w.heap.size, 4, none⟩ (.int .u64 0)).setCell ⟨w.heap.size, 5, none⟩ (.int .u64 0)).setCell ⟨w.heap.size, 6, none⟩ (.slice none 0 0)) from (((((((BF.out.setCell (p := ⟨w.heap.size, 0, none⟩) (Nat.le_refl _) (.int .u64 0)).setCell (p := ⟨w.heap.size, 1, none⟩) (Nat.le_refl _) (.int .u64 0)).setCell (p := ⟨w.heap.size, 2, none⟩) (Nat.le_refl _) (.int .u64 0)).setCell (p := ⟨w.heap.size, 3, none⟩) (Nat.le_refl _) (.int .u64 0)).setCell (p := ⟨w.heap.size, 4, none⟩) (Nat.le_refl _) (.int .u64 0)).setCell (p := ⟨w.heap.size, 5, none⟩) (Nat.le_refl _) (.int .u64 0)).setCell (p := ⟨w.heap.size, 6, none⟩) (Nat.le_refl _) (.slice none 0 0)))
  clear K1 K2 K3 I6 C6 C7 B7 X7 R6 hl6 F6 c6 HU P1 P3 q0 q1 q2 q3 q4 q5 q6
  obtain ⟨E0, hE0⟩ : ∃ E0, Hid (endE st.1 st.2.1 = E0) := ⟨_, rfl⟩
  rw [hE0.out]
  by_cases hE : E0 = 0
  · subst hE
    go_wp2
    refine bodyPost_ret (ret_rc rfl rfl rfl (ld_Move (KFblk.out.cell (i := 0) rfl) (KFblk.out.cell (i := 1) rfl) (KFblk.out.cell (i := 2) rfl) (KFblk.out.cell (i := 3) rfl) (KFblk.out.cell (i := 4) rfl) (KFblk.out.cell (i := 5) rfl) (KFblk.out.cell (i := 6) rfl))) rfl ?_
    exact ⟨⟨[.int .u64 (XS 0), .int .u64 (XS 1), .int .u64 (XS 2), .int .u64 (XS 3), .int .u64 (XS 4), .int .u64 (XS 5), .slice a6 n6 d6], XS, 0, rfl, rfl, (hF7.out.off KFchg.out.size (fun y hy _ => KFchg.out.same y (by assumption) (fun e => by have e' : y = w.heap.size := e; have := hBw.out; omega))).low (by have := hBw.out; omega), fun _ => ⟨rfl, hXS.out.symm⟩, fun h => absurd hE0.out h⟩, KFbel.out⟩
  · have hE1 : ¬ (E0 = 0) := hE
    go_wp2
    refine bodyPost_ret (ret_rc rfl rfl rfl (ld_Move (KZblk.out.cell (i := 0) rfl) (KZblk.out.cell (i := 1) rfl) (KZblk.out.cell (i := 2) rfl) (KZblk.out.cell (i := 3) rfl) (KZblk.out.cell (i := 4) rfl) (KZblk.out.cell (i := 5) rfl) (KZblk.out.cell (i := 6) rfl))) rfl ?_
    exact ⟨⟨[.int .u64 0, .int .u64 0, .int .u64 0, .int .u64 0, .int .u64 0, .int .u64 0, .slice none 0 0], fun _ => 0, 80, rfl, rfl, (fun o => match o with | 0 => ⟨fun _ => rfl, fun h => absurd h (by decide), fun h => absurd h (by decide)⟩ | 1 => ⟨fun _ => rfl, fun h => absurd h (by decide), fun h => absurd h (by decide)⟩ | 2 => ⟨fun _ => rfl, fun h => absurd h (by decide), fun h => absurd h (by decide)⟩ | 3 => ⟨fun _ => rfl, fun h => absurd h (by decide), fun h => absurd h (by decide)⟩ | 4 => ⟨fun _ => rfl, fun h => absurd h (by decide), fun h => absurd h (by decide)⟩ | 5 => ⟨fun _ => rfl, fun h => absurd h (by decide), fun h => absurd h (by decide)⟩ | 6 => ⟨fun h => absurd h (by decide), fun h => absurd h (by decide), fun _ => ⟨none, 0, 0, rfl, natW_nil _ _, by decide⟩⟩ | k + 7 => ⟨fun h => absurd h (by simp [kd_Move]), fun h => absurd h (by simp [kd_Move]), fun h => absurd h (by simp [kd_Move])⟩), fun h => absurd (hE0.out.symm.trans h) hE1, fun _ => ⟨rfl, rfl⟩⟩, KZbel.out⟩
end Rc
end
section
namespace Rc
open Go.RowKit Go.Lib Pg
attribute [local go_sem] Oper.semAt_some
theorem read_Number {w : World} {bb n c : Nat} {ao : Option Addr} {l : List Int} (A : ByA w bb ao n c l) (hn : n ≤ 1000000000) (hl : l.length = n) :
    Calls Tryz.prog 163 #[.slice ao n c, .func (.func 164) #[] #[]] w (FinR w kd_Number 1 mkO (thr rnx [(0, 0)] (0, l, fun _ => (0 : Int)))) := by
  have b1 := below_alloc w (.cells #[.int .u64 0] 31)
  have z1 := size_al w (.cells #[.int .u64 0] 31)
  have y1 := blk_new w [.int .u64 0] 31
  obtain ⟨W3, hW3⟩ : ∃ W3, Hid (w.alloc (.cells #[.int .u64 0] 31) = W3) := ⟨_, rfl⟩
  rw [hW3.out] at b1 y1 z1
  have HN := hid3 (rdNew (A.keep b1) (by omega))
  have Y2 := hid3 y1
  have Z3 := hid3 z1
  have HBB := hid3 b1
  have HL := hid3 hl
  clear b1 z1 y1 A hl
  obtain ⟨st, hst⟩ : ∃ st, Hid (thr rnx [(0, 0)] (0, l, fun _ => (0 : Int)) = st) := ⟨_, rfl⟩
  have hsl : st.2.1.length ≤ n := by have h := thr_len [(0, 0)] (0, l, fun _ => (0 : Int)); rw [hst.out] at h; rw [HL.out] at h; exact h
  rw [hst.out]
  go_enter Tryz.func163, Tryz.ntmps163
  go_wp2_with fail
  rw [hW3.out]
  refine HN.out.mono ?_
  rintro e' w4 ⟨g, b', rfl, hg, hb', X4, B4⟩
  have b5 := below_alloc w4 (.cells #[.pointer (some ⟨g, 0, none⟩)] 302)
  have v5 := blk_new w4 [.pointer (some ⟨g, 0, none⟩)] 302
  have z5 := size_al w4 (.cells #[.pointer (some ⟨g, 0, none⟩)] 302)
  obtain ⟨W5, hW5⟩ : ∃ W5, Hid (w4.alloc (.cells #[.pointer (some ⟨g, 0, none⟩)] 302) = W5) := ⟨_, rfl⟩
  rw [hW5.out] at b5 v5 z5
  have hgl := X4.lt
  have hz3 := Z3.out
  have hz4 := B4.size
  have F0 : FldR W5 W5.heap.size kd_Number [.int .u64 0] (fun _ => 0) := fun o => match o with
    | 0 => ⟨fun _ => rfl, fun h => absurd h (by decide), fun h => absurd h (by decide)⟩
    | k + 1 => ⟨fun h => absurd h (by simp [kd_Number]), fun h => absurd h (by simp [kd_Number]), fun h => absurd h (by simp [kd_Number])⟩
  have U := ofNumber_any (rhc_Number (w0 := w) (B := W5.heap.size) (g := g) (b := b') (vb := w4.heap.size) (rb := w.heap.size) (T := 31) (vt := 302)) (s := (0, l, fun _ => (0 : Int))) (w := W5) ⟨⟨X4.keep b5, v5, ⟨_, rfl, (Y2.out.keep B4).keep b5, F0⟩, joinB (joinB HBB.out B4) b5, by omega, by omega, by omega, by omega, by omega, by omega, by omega, by omega⟩, Nat.le_refl _⟩ (by simp [kd_Number]) trivial
  rw [hst.out] at U
  have HU := hid3 U
  have HS := hid3 (show w.heap.size ≤ W5.heap.size ∧ w.heap.size ≤ g from ⟨by omega, by omega⟩)
  clear U b5 v5 z5 hgl hz3 hz4 F0 X4 B4 hg hb' HN Y2
  go_wp2_with fail
  rw [hW5.out]
  refine HU.out.mono ?_
  rintro e' w6 ⟨rfl, ⟨I6, hB6⟩, C6⟩
  have c6 := I6.var.cell (i := 0) rfl
  go_wp2_with fail
  refine (rdEnd I6.rd (by omega)).mono ?_
  rintro e' w7 ⟨rfl, X7, B7⟩
  obtain ⟨cs6, hl6, R6, F6⟩ := I6.rc
  obtain ⟨XS, hXS⟩ : ∃ XS, Hid (st.2.2 = XS) := ⟨_, rfl⟩
  rw [hXS.out] at F6
  have hF6 := hid3 F6
  have q0 := (F6 0).1 rfl
  have ecs : cs6 = [.int .u64 (XS 0)] := by
    apply List.ext_getElem?
    intro i
    match i with
    | 0 => rw [q0]; rfl
    | k + 1 => rw [List.getElem?_eq_none (by omega), List.getElem?_eq_none (by simp)]
  subst ecs
  have C7 := But.chg B7
  have K2 := R6.chg C7 I6.s1
  have BF := hid3 (B7.below I6.bel HS.out.2 (Nat.le_refl _))
  have hF7 := hid3 ((hF6.out.off (w' := w7) B7.size (fun y hy hy2 => B7.block y hy2 (by have := I6.g1; omega))))
  have v0 := K2.cell (i := 0) rfl
  clear K2 I6 C6 C7 B7 X7 R6 hl6 F6 c6 HU q0
  obtain ⟨E0, hE0⟩ : ∃ E0, Hid (endE st.1 st.2.1 = E0) := ⟨_, rfl⟩
  rw [hE0.out]
  by_cases hE : E0 = 0
  · subst hE
    go_wp2
    go_ret2
    exact ⟨⟨[.int .u64 (XS 0)], XS, 0, rfl, rfl, hF7.out.low HS.out.1, fun _ => ⟨rfl, hXS.out.symm⟩, fun h => absurd hE0.out h⟩, BF.out⟩
  · have hE1 : ¬ (E0 = 0) := hE
    go_wp2
    go_ret2
    exact ⟨⟨[.int .u64 0], fun _ => 0, 80, rfl, rfl, (fun o => match o with | 0 => ⟨fun _ => rfl, fun h => absurd h (by decide), fun h => absurd h (by decide)⟩ | k + 1 => ⟨fun h => absurd h (by simp [kd_Number]), fun h => absurd h (by simp [kd_Number]), fun h => absurd h (by simp [kd_Number])⟩), fun h => absurd (hE0.out.symm.trans h) hE1, fun _ => ⟨rfl, rfl⟩⟩, BF.out⟩
theorem PutChain_any {w:World} {x0:Int} {x1:Int} :
  Calls Tryz.prog 72 #[.agg #[.int .u64 x0,.int .u64 x1]] w fun e w'=>∃ b n,e=.returned (.slice (some ⟨b,0,none⟩) n n)/\n=(thr (pnx (fun o=>([x0,x1]:List Int).getD o 0)) [(0,0),(0,1)] []).length/\Box w' b ((thr (pnx (fun o=>([x0,x1]:List Int).getD o 0)) [(0,0),(0,1)] []).map (Value.int .u8)) 5/\w.heap.size<=b/\Below w.heap.size w w':=by
 have b1:=below_alloc w (.cells #[.int .u64 x0,.int .u64 x1] 61)
 have U:=put_Chain (x0:=x0) (x1:=x1) (w:=w.alloc (.cells #[.int .u64 x0,.int .u64 x1] 61))
 have HB:=hid3 b1
 generalize thr (pnx (fun o=>([x0,x1]:List Int).getD o 0)) [(0,0),(0,1)] []=M at *
 have HU:=hid3 U
 clear U
 go_enter Tryz.func72,Tryz.ntmps72
 go_wp2_with fail
 refine HU.out.mono ?_
 rintro e' w1 ⟨b,n,rfl,hn,X,hb,B⟩
 have FF:=hid3 (show n=M.length/\Box w1 b (M.map (Value.int .u8)) 5/\w.heap.size<=b/\Below w.heap.size w w1 from ⟨hn,X,Nat.le_trans HB.out.size hb,joinB HB.out B⟩)
 clear hn X hb B HU HB
 go_wp2
 go_ret
 exact ⟨b,n,rfl,FF.out⟩
theorem Chain_any {w:World} {bb n c:Nat} {ao:Option Addr} {l:List Int} (A:ByA w bb ao n c l) (hn:n<=1000000000) (hl:l.length=n) :
  Calls Tryz.prog 196 #[.slice ao n c] w (FinR w kd_Chain 2 mkA (thr rnx [(0,0),(0,1)] (0,l,fun _=>(0:Int)))):=by
 have b1:=below_alloc w (.cells #[.int .u64 0,.int .u64 0] 61)
 have y1:=blk_new w [.int .u64 0,.int .u64 0] 61
 have z1:=size_al w (.cells #[.int .u64 0,.int .u64 0] 61)
 have U:=read_Chain (A.keep b1) hn hl
 generalize thr rnx [(0,0),(0,1)] (0,l,fun _=>(0:Int))=st at *
 obtain ⟨W1,hW1⟩:∃ W1,Hid (w.alloc (.cells #[.int .u64 0,.int .u64 0] 61)=W1):=⟨_,rfl⟩
 rw [hW1.out] at b1 y1 z1 U
 have HU:=hid3 U
 have HB:=hid3 b1
 have HY:=hid3 y1
 have HZ:=hid3 z1
 clear A hl b1 y1 z1 U
 go_enter Tryz.func196,Tryz.ntmps196
 go_wp2_with fail
 rw [hW1.out]
 refine HU.out.mono ?_
 rintro e' w1 ⟨⟨cs,xs,r,rfl,h1,h2,h3,h4⟩,B⟩
 have q0:=(h2 0).1 rfl
 have q1:=(h2 1).1 rfl
 have ecs:cs=[.int .u64 (xs 0),.int .u64 (xs 1)]:=by
  apply List.ext_getElem?
  intro i
  match i with
  | 0=>rw [q0]; rfl
  | 1=>rw [q1]; rfl
  | k + 2=>rw [List.getElem?_eq_none (by omega),List.getElem?_eq_none (by simp)]
 subst ecs
 have K1:=HY.out.keep B
 have BF:=joinB HB.out B
 have u0:=K1.cell (i:=0) rfl
 have f0:=K1.free 0
 have u1:=K1.cell (i:=1) rfl
 have f1:=K1.free 1
 have KB:=hid3 (show Blk ((w1.setCell ⟨w.heap.size,0,none⟩ (.int .u64 (xs 0))).setCell ⟨w.heap.size,1,none⟩ (.int .u64 (xs 1))) w.heap.size [.int .u64 (xs 0),.int .u64 (xs 1)] 61 from ((K1.setCell (i:=0) (.int .u64 (xs 0))).setCell (i:=1) (.int .u64 (xs 1))))
 have KC:=hid3 (show Chg (fun x=>x=w.heap.size) w1 ((w1.setCell ⟨w.heap.size,0,none⟩ (.int .u64 (xs 0))).setCell ⟨w.heap.size,1,none⟩ (.int .u64 (xs 1))) from (((Chg.refl (fun x=>x=w.heap.size) w1).cell (g:=w.heap.size) (i:=0) (.inl rfl) (.int .u64 (xs 0))).cell (g:=w.heap.size) (i:=1) (.inl rfl) (.int .u64 (xs 1))))
 have FF:=hid3 (show FinR w kd_Chain 2 mkA st (.returned (.tuple #[.agg #[.int .u64 (xs 0),.int .u64 (xs 1)],.int .i64 r])) ((w1.setCell ⟨w.heap.size,0,none⟩ (.int .u64 (xs 0))).setCell ⟨w.heap.size,1,none⟩ (.int .u64 (xs 1))) from ⟨⟨[.int .u64 (xs 0),.int .u64 (xs 1)],xs,r,rfl,rfl,(h2.off KC.out.size (fun y hy hy2=>KC.out.same y hy2 (fun e=>by have e':y=w.heap.size:=e; have:=HZ.out; omega))).low HB.out.size,h3,h4⟩,((BF.setCell (p:=⟨w.heap.size,0,none⟩) (Nat.le_refl _) (.int .u64 (xs 0))).setCell (p:=⟨w.heap.size,1,none⟩) (Nat.le_refl _) (.int .u64 (xs 1)))⟩)
 clear h1 h2 h3 h4 B K1 BF HU KC HY HB q0 q1
 simp only [mkA]
 go_wp2
 refine bodyPost_ret (ret_rc rfl rfl rfl (ld_Chain (KB.out.cell (i:=0) rfl) (KB.out.cell (i:=1) rfl))) rfl ?_
 exact FF.out
theorem PutUnbonding_any {w:World} {x0:Int} {x1:Int} {x2:Int} {x3:Int} {x4:Int} {x5:Int} :
  Calls Tryz.prog 142 #[.agg #[.int .u64 x0,.int .u64 x1,.int .u64 x2,.int .u64 x3,.int .u64 x4,.int .u64 x5]] w fun e w'=>∃ b n,e=.returned (.slice (some ⟨b,0,none⟩) n n)/\n=(thr (pnx (fun o=>([x0,x1,x2,x3,x4,x5]:List Int).getD o 0)) [(0,0),(0,1),(0,2),(0,3),(0,4),(0,5)] []).length/\Box w' b ((thr (pnx (fun o=>([x0,x1,x2,x3,x4,x5]:List Int).getD o 0)) [(0,0),(0,1),(0,2),(0,3),(0,4),(0,5)] []).map (Value.int .u8)) 5/\w.heap.size<=b/\Below w.heap.size w w':=by
 have b1:=below_alloc w (.cells #[.int .u64 x0,.int .u64 x1,.int .u64 x2,.int .u64 x3,.int .u64 x4,.int .u64 x5] 63)
 have U:=put_Unbonding (x0:=x0) (x1:=x1) (x2:=x2) (x3:=x3) (x4:=x4) (x5:=x5) (w:=w.alloc (.cells #[.int .u64 x0,.int .u64 x1,.int .u64 x2,.int .u64 x3,.int .u64 x4,.int .u64 x5] 63))
 have HB:=hid3 b1
 generalize thr (pnx (fun o=>([x0,x1,x2,x3,x4,x5]:List Int).getD o 0)) [(0,0),(0,1),(0,2),(0,3),(0,4),(0,5)] []=M at *
 have HU:=hid3 U
 clear U
 go_enter Tryz.func142,Tryz.ntmps142
 go_wp2_with fail
 refine HU.out.mono ?_
 rintro e' w1 ⟨b,n,rfl,hn,X,hb,B⟩
 have FF:=hid3 (show n=M.length/\Box w1 b (M.map (Value.int .u8)) 5/\w.heap.size<=b/\Below w.heap.size w w1 from ⟨hn,X,Nat.le_trans HB.out.size hb,joinB HB.out B⟩)
 clear hn X hb B HU HB
 go_wp2
 go_ret
 exact ⟨b,n,rfl,FF.out⟩
theorem Unbonding_any {w:World} {bb n c:Nat} {ao:Option Addr} {l:List Int} (A:ByA w bb ao n c l) (hn:n<=1000000000) (hl:l.length=n) :
  Calls Tryz.prog 143 #[.slice ao n c] w (FinR w kd_Unbonding 6 mkA (thr rnx [(0,0),(0,1),(0,2),(0,3),(0,4),(0,5)] (0,l,fun _=>(0:Int)))):=by
 have b1:=below_alloc w (.cells #[.int .u64 0,.int .u64 0,.int .u64 0,.int .u64 0,.int .u64 0,.int .u64 0] 63)
 have y1:=blk_new w [.int .u64 0,.int .u64 0,.int .u64 0,.int .u64 0,.int .u64 0,.int .u64 0] 63
 have z1:=size_al w (.cells #[.int .u64 0,.int .u64 0,.int .u64 0,.int .u64 0,.int .u64 0,.int .u64 0] 63)
 have U:=read_Unbonding (A.keep b1) hn hl
 generalize thr rnx [(0,0),(0,1),(0,2),(0,3),(0,4),(0,5)] (0,l,fun _=>(0:Int))=st at *
 obtain ⟨W1,hW1⟩:∃ W1,Hid (w.alloc (.cells #[.int .u64 0,.int .u64 0,.int .u64 0,.int .u64 0,.int .u64 0,.int .u64 0] 63)=W1):=⟨_,rfl⟩
 rw [hW1.out] at b1 y1 z1 U
 have HU:=hid3 U
 have HB:=hid3 b1
 have HY:=hid3 y1
 have HZ:=hid3 z1
 clear A hl b1 y1 z1 U
 go_enter Tryz.func143,Tryz.ntmps143
 go_wp2_with fail
 rw [hW1.out]
 refine HU.out.mono ?_
 rintro e' w1 ⟨⟨cs,xs,r,rfl,h1,h2,h3,h4⟩,B⟩
 have q0:=(h2 0).1 rfl
 have q1:=(h2 1).1 rfl
 have q2:=(h2 2).1 rfl
 have q3:=(h2 3).1 rfl
 have q4:=(h2 4).1 rfl
 have q5:=(h2 5).1 rfl
 have ecs:cs=[.int .u64 (xs 0),.int .u64 (xs 1),.int .u64 (xs 2),.int .u64 (xs 3),.int .u64 (xs 4),.int .u64 (xs 5)]:=by
  apply List.ext_getElem?
  intro i
  match i with
  | 0=>rw [q0]; rfl
  | 1=>rw [q1]; rfl
  | 2=>rw [q2]; rfl
  | 3=>rw [q3]; rfl
  | 4=>rw [q4]; rfl
  | 5=>rw [q5]; rfl
  | k + 6=>rw [List.getElem?_eq_none (by omega),List.getElem?_eq_none (by simp)]
 subst ecs
 have K1:=HY.out.keep B
 have BF:=joinB HB.out B
 have u0:=K1.cell (i:=0) rfl
 have f0:=K1.free 0
 have u1:=K1.cell (i:=1) rfl
 have f1:=K1.free 1
 have u2:=K1.cell (i:=2) rfl
 have f2:=K1.free 2
 have u3:=K1.cell (i:=3) rfl
 have f3:=K1.free 3
 have u4:=K1.cell (i:=4) rfl
 have f4:=K1.free 4
 have u5:=K1.cell (i:=5) rfl
 have f5:=K1.free 5
 have KB:=hid3 (show Blk ((((((w1.setCell ⟨w.heap.size,0,none⟩ (.int .u64 (xs 0))).setCell ⟨w.heap.size,1,none⟩ (.int .u64 (xs 1))).setCell ⟨w.heap.size,2,none⟩ (.int .u64 (xs 2))).setCell ⟨w.heap.size,3,none⟩ (.int .u64 (xs 3))).setCell ⟨w.heap.size,4,none⟩ (.int .u64 (xs 4))).setCell ⟨w.heap.size,5,none⟩ (.int .u64 (xs 5))) w.heap.size [.int .u64 (xs 0),.int .u64 (xs 1),.int .u64 (xs 2),.int .u64 (xs 3),.int .u64 (xs 4),.int .u64 (xs 5)] 63 from ((((((K1.setCell (i:=0) (.int .u64 (xs 0))).setCell (i:=1) (.int .u64 (xs 1))).setCell (i:=2) (.int .u64 (xs 2))).setCell (i:=3) (.int .u64 (xs 3))).setCell (i:=4) (.int .u64 (xs 4))).setCell (i:=5) (.int .u64 (xs 5))))
 have KC:=hid3 (show Chg (fun x=>x=w.heap.size) w1 ((((((w1.setCell ⟨w.heap.size,0,none⟩ (.int .u64 (xs 0))).setCell ⟨w.heap.size,1,none⟩ (.int .u64 (xs 1))).setCell ⟨w.heap.size,2,none⟩ (.int .u64 (xs 2))).setCell ⟨w.heap.size,3,none⟩ (.int .u64 (xs 3))).setCell ⟨w.heap.size,4,none⟩ (.int .u64 (xs 4))).setCell ⟨w.heap.size,5,none⟩ (.int .u64 (xs 5))) from (((((((Chg.refl (fun x=>x=w.heap.size) w1).cell (g:=w.heap.size) (i:=0) (.inl rfl) (.int .u64 (xs 0))).cell (g:=w.heap.size) (i:=1) (.inl rfl) (.int .u64 (xs 1))).cell (g:=w.heap.size) (i:=2) (.inl rfl) (.int .u64 (xs 2))).cell (g:=w.heap.size) (i:=3) (.inl rfl) (.int .u64 (xs 3))).cell (g:=w.heap.size) (i:=4) (.inl rfl) (.int .u64 (xs 4))).cell (g:=w.heap.size) (i:=5) (.inl rfl) (.int .u64 (xs 5))))
 have FF:=hid3 (show FinR w kd_Unbonding 6 mkA st (.returned (.tuple #[.agg #[.int .u64 (xs 0),.int .u64 (xs 1),.int .u64 (xs 2),.int .u64 (xs 3),.int .u64 (xs 4),.int .u64 (xs 5)],.int .i64 r])) ((((((w1.setCell ⟨w.heap.size,0,none⟩ (.int .u64 (xs 0))).setCell ⟨w.heap.size,1,none⟩ (.int .u64 (xs 1))).setCell ⟨w.heap.size,2,none⟩ (.int .u64 (xs 2))).setCell ⟨w.heap.size,3,none⟩ (.int .u64 (xs 3))).setCell ⟨w.heap.size,4,none⟩ (.int .u64 (xs 4))).setCell ⟨w.heap.size,5,none⟩ (.int .u64 (xs 5))) from ⟨⟨[.int .u64 (xs 0),.int .u64 (xs 1),.int .u64 (xs 2),.int .u64 (xs 3),.int .u64 (xs 4),.int .u64 (xs 5)],xs,r,rfl,rfl,(h2.off KC.out.size (fun y hy hy2=>KC.out.same y hy2 (fun e=>by have e':y=w.heap.size:=e; have:=HZ.out; omega))).low HB.out.size,h3,h4⟩,((((((BF.setCell (p:=⟨w.heap.size,0,none⟩) (Nat.le_refl _) (.int .u64 (xs 0))).setCell (p:=⟨w.heap.size,1,none⟩) (Nat.le_refl _) (.int .u64 (xs 1))).setCell (p:=⟨w.heap.size,2,none⟩) (Nat.le_refl _) (.int .u64 (xs 2))).setCell (p:=⟨w.heap.size,3,none⟩) (Nat.le_refl _) (.int .u64 (xs 3))).setCell (p:=⟨w.heap.size,4,none⟩) (Nat.le_refl _) (.int .u64 (xs 4))).setCell (p:=⟨w.heap.size,5,none⟩) (Nat.le_refl _) (.int .u64 (xs 5)))⟩)
 clear h1 h2 h3 h4 B K1 BF HU KC HY HB q0 q1 q2 q3 q4 q5
 simp only [mkA]
 go_wp2
 refine bodyPost_ret (ret_rc rfl rfl rfl (ld_Unbonding (KB.out.cell (i:=0) rfl) (KB.out.cell (i:=1) rfl) (KB.out.cell (i:=2) rfl) (KB.out.cell (i:=3) rfl) (KB.out.cell (i:=4) rfl) (KB.out.cell (i:=5) rfl))) rfl ?_
 exact FF.out
theorem PutMove_any {w:World} {x0:Int} {x1:Int} {x2:Int} {x3:Int} {x4:Int} {x5:Int} {a6:Option Addr} {n6 c6:Nat} {x6:Int} (h6:NatA w a6 n6 c6 x6) (m6:n6<=1000000) :
  Calls Tryz.prog 148 #[.agg #[.int .u64 x0,.int .u64 x1,.int .u64 x2,.int .u64 x3,.int .u64 x4,.int .u64 x5,.slice a6 n6 c6]] w fun e w'=>∃ b n,e=.returned (.slice (some ⟨b,0,none⟩) n n)/\n=(thr (pnx (fun o=>([x0,x1,x2,x3,x4,x5,x6]:List Int).getD o 0)) [(0,0),(0,1),(0,2),(0,3),(0,4),(0,5),(2,6)] []).length/\Box w' b ((thr (pnx (fun o=>([x0,x1,x2,x3,x4,x5,x6]:List Int).getD o 0)) [(0,0),(0,1),(0,2),(0,3),(0,4),(0,5),(2,6)] []).map (Value.int .u8)) 5/\w.heap.size<=b/\Below w.heap.size w w':=by
 have b1:=below_alloc w (.cells #[.int .u64 x0,.int .u64 x1,.int .u64 x2,.int .u64 x3,.int .u64 x4,.int .u64 x5,.slice a6 n6 c6] 68)
 have U:=put_Move (h6.keep b1) m6 (x0:=x0) (x1:=x1) (x2:=x2) (x3:=x3) (x4:=x4) (x5:=x5) (w:=w.alloc (.cells #[.int .u64 x0,.int .u64 x1,.int .u64 x2,.int .u64 x3,.int .u64 x4,.int .u64 x5,.slice a6 n6 c6] 68))
 have HB:=hid3 b1
 generalize thr (pnx (fun o=>([x0,x1,x2,x3,x4,x5,x6]:List Int).getD o 0)) [(0,0),(0,1),(0,2),(0,3),(0,4),(0,5),(2,6)] []=M at *
 have HU:=hid3 U
 clear U
 go_enter Tryz.func148,Tryz.ntmps148
 go_wp2_with fail
 refine HU.out.mono ?_
 rintro e' w1 ⟨b,n,rfl,hn,X,hb,B⟩
 have FF:=hid3 (show n=M.length/\Box w1 b (M.map (Value.int .u8)) 5/\w.heap.size<=b/\Below w.heap.size w w1 from ⟨hn,X,Nat.le_trans HB.out.size hb,joinB HB.out B⟩)
 clear hn X hb B HU HB
 go_wp2
 go_ret
 exact ⟨b,n,rfl,FF.out⟩
theorem Move_any {w:World} {bb n c:Nat} {ao:Option Addr} {l:List Int} (A:ByA w bb ao n c l) (hn:n<=1000000000) (hl:l.length=n) :
  Calls Tryz.prog 149 #[.slice ao n c] w (FinR w kd_Move 7 mkA (thr rnx [(0,0),(0,1),(0,2),(0,3),(0,4),(0,5),(2,6)] (0,l,fun _=>(0:Int)))):=by
 have b1:=below_alloc w (.cells #[.int .u64 0,.int .u64 0,.int .u64 0,.int .u64 0,.int .u64 0,.int .u64 0,.slice none 0 0] 68)
 have y1:=blk_new w [.int .u64 0,.int .u64 0,.int .u64 0,.int .u64 0,.int .u64 0,.int .u64 0,.slice none 0 0] 68
 have z1:=size_al w (.cells #[.int .u64 0,.int .u64 0,.int .u64 0,.int .u64 0,.int .u64 0,.int .u64 0,.slice none 0 0] 68)
 have U:=read_Move (A.keep b1) hn hl
 generalize thr rnx [(0,0),(0,1),(0,2),(0,3),(0,4),(0,5),(2,6)] (0,l,fun _=>(0:Int))=st at *
 obtain ⟨W1,hW1⟩:∃ W1,Hid (w.alloc (.cells #[.int .u64 0,.int .u64 0,.int .u64 0,.int .u64 0,.int .u64 0,.int .u64 0,.slice none 0 0] 68)=W1):=⟨_,rfl⟩
 rw [hW1.out] at b1 y1 z1 U
 have HU:=hid3 U
 have HB:=hid3 b1
 have HY:=hid3 y1
 have HZ:=hid3 z1
 clear A hl b1 y1 z1 U
 go_enter Tryz.func149,Tryz.ntmps149
 go_wp2_with fail
 rw [hW1.out]
 refine HU.out.mono ?_
 rintro e' w1 ⟨⟨cs,xs,r,rfl,h1,h2,h3,h4⟩,B⟩
 have q0:=(h2 0).1 rfl
 have q1:=(h2 1).1 rfl
 have q2:=(h2 2).1 rfl
 have q3:=(h2 3).1 rfl
 have q4:=(h2 4).1 rfl
 have q5:=(h2 5).1 rfl
 obtain ⟨a6,n6,d6,q6,-,-⟩:=(h2 6).2.2 rfl
 have ecs:cs=[.int .u64 (xs 0),.int .u64 (xs 1),.int .u64 (xs 2),.int .u64 (xs 3),.int .u64 (xs 4),.int .u64 (xs 5),.slice a6 n6 d6]:=by
  apply List.ext_getElem?
  intro i
  match i with
  | 0=>rw [q0]; rfl
  | 1=>rw [q1]; rfl
  | 2=>rw [q2]; rfl
  | 3=>rw [q3]; rfl
  | 4=>rw [q4]; rfl
  | 5=>rw [q5]; rfl
  | 6=>rw [q6]; rfl
  | k + 7=>rw [List.getElem?_eq_none (by omega),List.getElem?_eq_none (by simp)]
 subst ecs
 have K1:=HY.out.keep B
 have BF:=joinB HB.out B
 have u0:=K1.cell (i:=0) rfl
 have f0:=K1.free 0
 have u1:=K1.cell (i:=1) rfl
 have f1:=K1.free 1
 have u2:=K1.cell (i:=2) rfl
 have f2:=K1.free 2
 have u3:=K1.cell (i:=3) rfl
 have f3:=K1.free 3
 have u4:=K1.cell (i:=4) rfl
 have f4:=K1.free 4
 have u5:=K1.cell (i:=5) rfl
 have f5:=K1.free 5
 have u6:=K1.cell (i:=6) rfl
 have f6:=K1.free 6
 have KB:=hid3 (show Blk (((((((w1.setCell ⟨w.heap.size,0,none⟩ (.int .u64 (xs 0))).setCell ⟨w.heap.size,1,none⟩ (.int .u64 (xs 1))).setCell ⟨w.heap.size,2,none⟩ (.int .u64 (xs 2))).setCell ⟨w.heap.size,3,none⟩ (.int .u64 (xs 3))).setCell ⟨w.heap.size,4,none⟩ (.int .u64 (xs 4))).setCell ⟨w.heap.size,5,none⟩ (.int .u64 (xs 5))).setCell ⟨w.heap.size,6,none⟩ (.slice a6 n6 d6)) w.heap.size [.int .u64 (xs 0),.int .u64 (xs 1),.int .u64 (xs 2),.int .u64 (xs 3),.int .u64 (xs 4),.int .u64 (xs 5),.slice a6 n6 d6] 68 from (((((((K1.setCell (i:=0) (.int .u64 (xs 0))).setCell (i:=1) (.int .u64 (xs 1))).setCell (i:=2) (.int .u64 (xs 2))).setCell (i:=3) (.int .u64 (xs 3))).setCell (i:=4) (.int .u64 (xs 4))).setCell (i:=5) (.int .u64 (xs 5))).setCell (i:=6) (.slice a6 n6 d6)))
 have KC:=hid3 (show Chg (fun x=>x=w.heap.size) w1 (((((((w1.setCell ⟨w.heap.size,0,none⟩ (.int .u64 (xs 0))).setCell ⟨w.heap.size,1,none⟩ (.int .u64 (xs 1))).setCell ⟨w.heap.size,2,none⟩ (.int .u64 (xs 2))).setCell ⟨w.heap.size,3,none⟩ (.int .u64 (xs 3))).setCell ⟨w.heap.size,4,none⟩ (.int .u64 (xs 4))).setCell ⟨w.heap.size,5,none⟩ (.int .u64 (xs 5))).setCell ⟨w.heap.size,6,none⟩ (.slice a6 n6 d6)) from ((((((((Chg.refl (fun x=>x=w.heap.size) w1).cell (g:=w.heap.size) (i:=0) (.inl rfl) (.int .u64 (xs 0))).cell (g:=w.heap.size) (i:=1) (.inl rfl) (.int .u64 (xs 1))).cell (g:=w.heap.size) (i:=2) (.inl rfl) (.int .u64 (xs 2))).cell (g:=w.heap.size) (i:=3) (.inl rfl) (.int .u64 (xs 3))).cell (g:=w.heap.size) (i:=4) (.inl rfl) (.int .u64 (xs 4))).cell (g:=w.heap.size) (i:=5) (.inl rfl) (.int .u64 (xs 5))).cell (g:=w.heap.size) (i:=6) (.inl rfl) (.slice a6 n6 d6)))
 have FF:=hid3 (show FinR w kd_Move 7 mkA st (.returned (.tuple #[.agg #[.int .u64 (xs 0),.int .u64 (xs 1),.int .u64 (xs 2),.int .u64 (xs 3),.int .u64 (xs 4),.int .u64 (xs 5),.slice a6 n6 d6],.int .i64 r])) (((((((w1.setCell ⟨w.heap.size,0,none⟩ (.int .u64 (xs 0))).setCell ⟨w.heap.size,1,none⟩ (.int .u64 (xs 1))).setCell ⟨w.heap.size,2,none⟩ (.int .u64 (xs 2))).setCell ⟨w.heap.size,3,none⟩ (.int .u64 (xs 3))).setCell ⟨w.heap.size,4,none⟩ (.int .u64 (xs 4))).setCell ⟨w.heap.size,5,none⟩ (.int .u64 (xs 5))).setCell ⟨w.heap.size,6,none⟩ (.slice a6 n6 d6)) from ⟨⟨[.int .u64 (xs 0),.int .u64 (xs 1),.int .u64 (xs 2),.int .u64 (xs 3),.int .u64 (xs 4),.int .u64 (xs 5),.slice a6 n6 d6],xs,r,rfl,rfl,(h2.off KC.out.size (fun y hy hy2=>KC.out.same y hy2 (fun e=>by have e':y=w.heap.size:=e; have:=HZ.out; omega))).low HB.out.size,h3,h4⟩,(((((((BF.setCell (p:=⟨w.heap.size,0,none⟩) (Nat.le_refl _) (.int .u64 (xs 0))).setCell (p:=⟨w.heap.size,1,none⟩) (Nat.le_refl _) (.int .u64 (xs 1))).setCell (p:=⟨w.heap.size,2,none⟩) (Nat.le_refl _) (.int .u64 (xs 2))).setCell (p:=⟨w.heap.size,3,none⟩) (Nat.le_refl _) (.int .u64 (xs 3))).setCell (p:=⟨w.heap.size,4,none⟩) (Nat.le_refl _) (.int .u64 (xs 4))).setCell (p:=⟨w.heap.size,5,none⟩) (Nat.le_refl _) (.int .u64 (xs 5))).setCell (p:=⟨w.heap.size,6,none⟩) (Nat.le_refl _) (.slice a6 n6 d6))⟩)
 clear h1 h2 h3 h4 B K1 BF HU KC HY HB q0 q1 q2 q3 q4 q5 q6
 simp only [mkA]
 go_wp2
 refine bodyPost_ret (ret_rc rfl rfl rfl (ld_Move (KB.out.cell (i:=0) rfl) (KB.out.cell (i:=1) rfl) (KB.out.cell (i:=2) rfl) (KB.out.cell (i:=3) rfl) (KB.out.cell (i:=4) rfl) (KB.out.cell (i:=5) rfl) (KB.out.cell (i:=6) rfl))) rfl ?_
 exact FF.out
theorem PutNumber_any {w:World} {x0:Int} :
  Calls Tryz.prog 140 #[.int .u64 x0] w fun e w'=>∃ b n,e=.returned (.slice (some ⟨b,0,none⟩) n n)/\n=(thr (pnx (fun o=>([x0]:List Int).getD o 0)) [(0,0)] []).length/\Box w' b ((thr (pnx (fun o=>([x0]:List Int).getD o 0)) [(0,0)] []).map (Value.int .u8)) 5/\w.heap.size<=b/\Below w.heap.size w w':=by
 have U:=put_Number (x0:=x0) (w:=w)
 have HB:=hid3 (Below.refl w.heap.size w)
 generalize thr (pnx (fun o=>([x0]:List Int).getD o 0)) [(0,0)] []=M at *
 have HU:=hid3 U
 clear U
 go_enter Tryz.func140,Tryz.ntmps140
 go_wp2_with fail
 refine HU.out.mono ?_
 rintro e' w1 ⟨b,n,rfl,hn,X,hb,B⟩
 have FF:=hid3 (show n=M.length/\Box w1 b (M.map (Value.int .u8)) 5/\w.heap.size<=b/\Below w.heap.size w w1 from ⟨hn,X,Nat.le_trans HB.out.size hb,joinB HB.out B⟩)
 clear hn X hb B HU HB
 go_wp2
 go_ret
 exact ⟨b,n,rfl,FF.out⟩
theorem Number_any {w:World} {bb n c:Nat} {ao:Option Addr} {l:List Int} (A:ByA w bb ao n c l) (hn:n<=1000000000) (hl:l.length=n) :
  Calls Tryz.prog 107 #[.slice ao n c] w (FinR w kd_Number 1 mkO (thr rnx [(0,0)] (0,l,fun _=>(0:Int)))):=by
 have U:=read_Number A hn hl
 generalize thr rnx [(0,0)] (0,l,fun _=>(0:Int))=st at *
 clear A hl
 go_enter Tryz.func107,Tryz.ntmps107
 go_wp2_with fail
 refine U.mono ?_
 rintro e' w1 ⟨⟨cs,xs,r,rfl,h1,h2,h3,h4⟩,B⟩
 have q0:=(h2 0).1 rfl
 have ecs:cs=[.int .u64 (xs 0)]:=by
  apply List.ext_getElem?
  intro i
  match i with
  | 0=>rw [q0]; rfl
  | k + 1=>rw [List.getElem?_eq_none (by omega),List.getElem?_eq_none (by simp)]
 subst ecs
 have FF:=hid3 (show FinR w kd_Number 1 mkO st (.returned (.tuple #[.int .u64 (xs 0),.int .i64 r])) w1 from ⟨⟨[.int .u64 (xs 0)],xs,r,rfl,rfl,h2,h3,h4⟩,B⟩)
 clear h1 h2 h3 h4 B q0 U
 simp only [mkO,List.headD_cons]
 go_wp2
 go_ret2
 exact FF.out
end Rc
end
section
open Go.RowKit Lim
end
section
open Go.RowKit Lim
structure Stp where
 what:Int
 num:Int
 na:Option Addr
 nn:Nat
 nc:Nat
 V:Int
 ba:Option Addr
 bn:Nat
 bc:Nat
 bb:Nat
 bl:List Int
 most:Int
end
section
open Go.RowKit Lim
end
section
namespace Rc
open Go.RowKit Go.Lib Pg Lim
theorem cntd_len (m:Nat) (l:List Int):(cntd m l).length=m + l.length:=by
 unfold cntd
 rw [List.length_append,be_length]
theorem take_app {l r:List Int} {m:Nat} (h:l.length=m):(l ++ r).take m=l/\(l ++ r).drop m=r:=by
 subst h
 exact ⟨List.take_left,List.drop_left⟩
theorem back_fix (m:Nat) {x:Int} (hx:0<=x) (r:List Int):pFix m (be m x ++ r)=.inr (x % 256 ^ m,m)/\(be m x ++ r).drop m=r:=by
 have h:=take_app (r:=r) (be_length m x)
 refine ⟨?_,h.2⟩
 unfold pFix
 rw [if_pos (by rw [List.length_append,be_length]; omega),h.1,be_val m hx]
theorem cnt_app {m:Nat} {l r:List Int} (hl:(l.length:Int) < 256 ^ m):cntOf m (cntd m l ++ r)=l.length:=by
 unfold cntOf cntd
 rw [List.append_assoc,(take_app (be_length m _)).1,be_val m (by omega),Int.emod_eq_of_lt (by omega) hl]
 rfl
theorem cnt_drop (m:Nat) (l r:List Int):(cntd m l ++ r).drop m=l ++ r:=by
 unfold cntd
 rw [List.append_assoc,(take_app (be_length m _)).2]
theorem back_nat {V:Int} (hV:0<=V) (hl:(natB V).length < 256) (r:List Int):pNat (cntd 1 (natB V) ++ r)=.inr (V,1 + (natB V).length)/\(cntd 1 (natB V) ++ r).drop (1 + (natB V).length)=r:=by
 have hc:cntOf 1 (cntd 1 (natB V) ++ r)=(natB V).length:=cnt_app (by simpa using (by omega:((natB V).length:Int) < 256))
 have hd:=cnt_drop 1 (natB V) r
 have hB:=natB_is hV
 refine ⟨?_,?_⟩
 ·unfold pNat
  rw [if_pos (by rw [List.length_append,cntd_len]; omega),hc,if_pos (by rw [List.length_append,cntd_len]; omega),hd,if_neg,(take_app rfl).1,hB.2.2]
  rintro ⟨h0,h1⟩
  have hne:natB V≠[]:=fun e=>by rw [e] at h0; simp at h0
  refine hB.2.1 hne ?_
  rw [<- h1]
  cases hh:natB V with
  | nil=>exact absurd hh hne
  | cons x t=>rfl
 ·rw [<- List.drop_drop,hd,(take_app rfl).2]
theorem back_bool (x:Bool) (r:List Int):pBool (be 1 (if x then 1 else 0) ++ r)=.inr (x,1)/\(be 1 (if x then 1 else 0) ++ r).drop 1=r:=by
 cases x
 ·exact ⟨rfl,rfl⟩
 ·exact ⟨rfl,rfl⟩
theorem thr_cons {σ:Type} (nx:Nat->Nat->σ->σ) (p:Nat × Nat) (ks:List (Nat × Nat)) (s:σ):thr nx (p :: ks) s=thr nx ks (nx p.1 p.2 s):=rfl
def rng:Nat->Int->Prop
 | 0,x=>0<=x/\x < 18446744073709551616
 | 1,x=>x=0\/x=1
 | _,x=>0<=x
def fitk:Nat->Int->Int
 | 0,x=>x
 | 1,x=>x
 | _,x=>fit x
theorem back1 (k:Nat) {x:Int} (hx:rng k x) (r:List Int):∃ m,p1 k (enc1 k x ++ r)=.inr (fitk k x,m)/\(enc1 k x ++ r).drop m=r:=by
 match k,hx with
 | 0,hx =>
  obtain ⟨h1,h2⟩:=back_fix 8 hx.1 r
  refine ⟨8,?_,h2⟩
  show pFix 8 (be 8 x ++ r)=_
  rw [h1,Int.emod_eq_of_lt hx.1 (by have:=hx.2; simpa using this)]
  rfl
 | 1,hx =>
  have key:∀ t:Bool,∃ m,pBoolI (be 1 (if t then 1 else 0) ++ r)=.inr ((if t then 1 else 0),m)/\(be 1 (if t then 1 else 0) ++ r).drop m=r:=fun t=>by
   obtain ⟨h1,h2⟩:=back_bool t r
   refine ⟨1,?_,h2⟩
   unfold pBoolI
   rw [h1]
  rcases hx with rfl | rfl
  ·exact key false
  ·exact key true
 | k + 2,hx =>
  have hV:0<=fit x:=by
   unfold fit
   split
   ·exact hx
   ·decide
  obtain ⟨h1,h2⟩:=back_nat hV (fit_len x) r
  exact ⟨_,h1,h2⟩
theorem thr_back (xv:Nat->Int) (ks:List (Nat × Nat)):∀ (r:List Int) (xs:Nat->Int),(ks.map Prod.snd).Nodup->(∀ p∈ks,rng p.1 (xv p.2))->∃ ys,thr rnx ks (0,thr (pnx xv) ks [] ++ r,xs)=(0,r,ys)/\(∀ p∈ks,ys p.2=fitk p.1 (xv p.2))/\∀ o,o ∉ ks.map Prod.snd->ys o=xs o:=by
 have hL:∀ (ks:List (Nat × Nat)) (L:List Int),thr (pnx xv) ks L=L ++ thr (pnx xv) ks []:=by
  intro ks
  induction ks with
  | nil=>intro L; simp [thr]
  | cons p ks ih =>
   intro L
   rw [thr_cons,thr_cons,ih (pnx xv p.1 p.2 L),ih (pnx xv p.1 p.2 [])]
   simp [pnx,List.append_assoc]
 induction ks with
 | nil=>exact fun r xs _ _=>⟨xs,rfl,(fun p hp=>by cases hp),fun _ _=>rfl⟩
 | cons p ks ih =>
  intro r xs hnd hr
  rw [List.map_cons,List.nodup_cons] at hnd
  obtain ⟨m,h1,h2⟩:=back1 p.1 (hr p List.mem_cons_self) (thr (pnx xv) ks [] ++ r)
  have el:thr (pnx xv) (p :: ks) [] ++ r=enc1 p.1 (xv p.2) ++ (thr (pnx xv) ks [] ++ r):=by
   rw [thr_cons,hL]
   simp [pnx,List.append_assoc]
  rw [el,thr_cons]
  have es:rnx p.1 p.2 (0,enc1 p.1 (xv p.2) ++ (thr (pnx xv) ks [] ++ r),xs)=(0,thr (pnx xv) ks [] ++ r,fun i=>if i=p.2 then fitk p.1 (xv p.2) else xs i):=by
   show (rdE (p1 p.1 _) 0,rdL (p1 p.1 _) 0 _,fun i=>if i=p.2 then rdV 0 (p1 p.1 _) 0 else xs i)=_
   rw [h1]
   show (_,List.drop m _,_)=_
   rw [h2]
   rfl
  rw [es]
  obtain ⟨ys,e1,e2,e3⟩:=ih r _ hnd.2 (fun q hq=>hr q (List.mem_cons_of_mem _ hq))
  refine ⟨ys,e1,fun q hq => ?_,fun o ho => ?_⟩
  ·rcases List.mem_cons.1 hq with rfl | hq
   ·rw [e3 _ hnd.1]
    show (if q.2=q.2 then _ else _)=_
    rw [if_pos rfl]
   ·exact e2 q hq
  ·rw [List.map_cons,List.mem_cons,not_or] at ho
   rw [e3 o ho.2]
   show (if o=p.2 then _ else _)=_
   rw [if_neg ho.1]
end Rc
end
section
namespace Rc
open Go.RowKit Go.Lib Pg
attribute [local go_sem] Oper.semAt_some
theorem enc1_oct (k:Nat) (x:Int):Octets (enc1 k x):=by
 unfold enc1
 split
 ·exact be_oct _ _
 ·exact be_oct _ _
 ·intro y hy
  rcases List.mem_append.1 hy with h | h
  ·exact be_oct _ _ y h
  ·exact natB_oct _ y h
theorem thr_oct (xs:Nat->Int) (ks:List (Nat × Nat)):∀ L,Octets L->Octets (thr (pnx xs) ks L):=by
 induction ks with
 | nil=>exact fun _ h=>h
 | cons p ks ih =>
  intro L h
  rw [thr_cons]
  refine ih _ ?_
  intro y hy
  rcases List.mem_append.1 hy with h1 | h1
  ·exact h y h1
  ·exact enc1_oct _ _ y h1
end Rc
end
section
namespace Rc
open Go.RowKit Go.Lib Pg
attribute [local go_sem] Oper.semAt_some
end Rc
end
section
open Go.RowKit Lim
def stB (s:Stp):Option (List Int) :=
 if s.what=0 then some (be 1 (s.num % 256))
 else if s.what=1 then some (be 4 (s.num % 4294967296))
 else if s.what=2 then some (be 8 s.num)
 else if s.what=3 then some (be 1 (if s.num % 2 == 1 then 1 else 0))
 else if s.what=4\/s.what=5 then (if (natB s.V).length < 256 then some (cntd 1 (natB s.V)) else none)
 else if s.what=6 then some (cntd 4 s.bl)
 else some []
def stO (s:Stp) (o:Option (List Int)):Option (List Int):=o.bind fun L=>(stB s).map (L ++ ·)
def laid (ss:List Stp):Option (List Int):=ss.foldl (fun o s=>stO s o) (some [])
end
section
open Go.RowKit Lim
end
section
open Go.RowKit Lim
end
section
open Go.RowKit Lim
end
section
open Go.RowKit Lim
end
section
open Go.RowKit Lim
end
section
open Go.RowKit Lim
end
section
open Go.RowKit Lim
end
section
namespace Rc
open Go.RowKit Go.Lib Pg Lim
attribute [local go_sem] Oper.semAt_some
end Rc
end
section
namespace Rc
open Go.RowKit Go.Lib Pg Lim
attribute [local go_sem] Oper.semAt_some
end Rc
end
section
namespace Rc
open Go.RowKit Go.Lib Pg Lim
end Rc
end
section
open Go.RowKit Lim
end
section
namespace Rc
open Go.RowKit Go.Lib Pg Lim
attribute [local go_sem] Oper.semAt_some
end Rc
end
end Go.Proofs.YtcpnipcgedfgdaaGreat
