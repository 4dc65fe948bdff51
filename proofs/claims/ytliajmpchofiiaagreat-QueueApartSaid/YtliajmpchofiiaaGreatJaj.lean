/- Several texts, joined: RcG, RcH, RcI, EncF, EncG, EncI, RcJ, RcK, RcL, EncJ, EncK, RefB2, EncL, EncP, EncQ, EncR, EncS, RcO, RcM, RcN, EncM, RcT. -/
import Derived.Test.YtliajmpchofiiaaGreatJai
import Derived.Lib.SlBytesConst
import Derived.Test.YtliajmpchofiiaaGreatJaa
set_option maxRecDepth 100000
set_option maxHeartbeats 8000000
namespace Go.Proofs.YtliajmpchofiiaaGreat
section
namespace Rc
open Go.RowKit Go.Lib Pg
section
variable {w w0:World}{B g b vb rb o k:Nat}{kd:Nat->Nat}{cs:List Value}{xs:Nat->Int}{l1 l:List Int}{v old:Value}{err:Int}
attribute [local go_sem] Oper.semAt_some
abbrev RSt:=Int × List Int × (Nat->Int)
def cH(l:List Int):Int ⊕ Int × Nat:=match aQ l with
 | .inl e=>.inl e
 | .inr p=>.inr ((if p.1 then 1 else 0),p.2)
def p1:Nat->List Int->Int ⊕ Int × Nat
 | 0,l=>bO 8 l
 | 1,l=>cH l
 | _,l=>bd l
theorem fR(l:List Int)(err:Int):rdE (cH l) err=rdE (aQ l) err:=by
 unfold rdE cH
 cases aQ l<;>rfl
theorem fP(l m:List Int)(err:Int):rdL (cH l) err m=rdL (aQ l) err m:=by
 unfold rdL cH
 cases aQ l<;>rfl
theorem fZ(l:List Int)(err:Int):rdV 0 (cH l) err=if rdV false (aQ l) err then 1 else 0:=by
 unfold rdV cH;by_cases h:err=0
 ·rw[if_pos h,if_pos h]
  cases aQ l<;>rfl
 ·rw[if_neg h,if_neg h];rfl
def rnx(k o:Nat)(s:RSt):RSt:=(rdE (p1 k s.2.1) s.1,rdL (p1 k s.2.1) s.1 s.2.1,fun i=>if i=o then rdV 0 (p1 k s.2.1) s.1 else s.2.2 i)
def jT(w:World)(B:Nat)(kd:Nat->Nat)(cs:List Value)(xs:Nat->Int):Prop:=∀ o,(kd o=0->cs[o]? = some (.int .u64 (xs o)))/\(kd o=1->∃ b:Bool,cs[o]? = some (.bool b)/\xs o=if b then 1 else 0)/\(kd o=2->∃ ao n c,cs[o]? = some (.slice ao n c)/\dx w B ao n c (xs o)/\n<=255)
theorem jT.off{w':World}(h:jT w B kd cs xs)(hs:w.heap.size<=w'.heap.size)(hw:∀ b,B<=b->b < w.heap.size->w'.heap[b]? = w.heap[b]?):jT w' B kd cs xs:=fun o=>⟨(h o).1,(h o).2.1,fun hk=>by
 obtain⟨ao,n,c,h1,h2,h3⟩:=(h o).2.2 hk;exact⟨ao,n,c,h1,h2.off hs hw,h3⟩⟩
structure RI(w0:World)(B g b vb rb:Nat)(kd:Nat->Nat)(len:Nat)(T vt:TypeId)(s:RSt)(w:World):Prop where
 rd:RdA w g b s.1 s.2.1
 var:Blk w vb [.pointer (some ⟨g,0,none⟩)] vt
 rc:∃ cs,cs.length=len/\Blk w rb cs T/\jT w B kd cs s.2.2
 bel:Below w0.heap.size w0 w
 s1:rb≠g
 s2:vb≠g
 s3:vb≠rb
 s4:b≠rb
 g1:g < B
 r1:rb < B
 g0:w0.heap.size<=g
 r0:w0.heap.size<=rb
theorem zY(w:World)(g o:Nat)(v:Value):But g w (w.setCell ⟨g,o,none⟩ v):=by
 have h:=(Chg.refl (fun x=>x=g) w).cell (g:=g) (i:=o) (.inl rfl) v;exact⟨h.os,h.tape,h.output,h.size,fun b hb hne=>h.same b hb hne⟩
theorem RI.step{w1:World}{len:Nat}{T vt:TypeId}{s:RSt}{e1:Int}{x:Int}(h:RI w0 B g b vb rb kd len T vt s w)(ho:kd o=k)(hl:o < len)(X:RdA w1 g b e1 l1)(hB:But g w w1)(hv:(k=0/\v=.int .u64 x)\/(k=1/\∃ t:Bool,v=.bool t/\x=if t then 1 else 0)\/(k=2/\∃ ao n c,v=.slice ao n c/\dx w1 B ao n c x/\n<=255)) :
  RI w0 B g b vb rb kd len T vt (e1,l1,fun i=>if i=o then x else s.2.2 i) (w1.setCell ⟨rb,o,none⟩ v)/\Chg (fun y=>y=g\/y=rb) w (w1.setCell ⟨rb,o,none⟩ v):=by
 have hS:=zY w1 rb o v;have h1:=h.s1;have h3:=h.g1;have h4:=h.r1
 have hc1:Chg (· = g) w w1:=But.chg hB
 have hc2:Chg (· = rb) w1 (w1.setCell ⟨rb,o,none⟩ v):=But.chg hS;obtain⟨cs,hcl,hcb,hF⟩:=h.rc
 have b1:Below w0.heap.size w0 w1:=hB.below h.bel h.g0 (Nat.le_refl _)
 have off1:∀ y,B<=y->y < w.heap.size->w1.heap[y]? = w.heap[y]? := fun y hy hy2=>hB.block y hy2 (by omega)
 have off2:∀ y,B<=y->y < w1.heap.size->(w1.setCell ⟨rb,o,none⟩ v).heap[y]? = w1.heap[y]? := fun y hy hy2=>hS.block y hy2 (by omega)
 refine⟨⟨X.offW (fun e=>h1 e.symm) h.s4 hS,(h.var.chg hc1 h.s2).chg hc2 h.s3,⟨cs.set o v,by rw[List.length_set]; exact hcl,(hcb.chg hc1 h1).setCell (i:=o) v,?_⟩,hS.below b1 h.r0 (Nat.le_refl _),h.s1,h.s2,h.s3,h.s4,h.g1,h.r1,h.g0,h.r0⟩,(hc1.mono (fun _ _ e=>.inl e)).trans hc2 (fun _ _ e=>.inr e)⟩;have hF1:=hF.off hB.size off1;intro i;by_cases hi:i=o
 ·subst hi
  have hget:(cs.set i v)[i]? = some v:=by rw[List.getElem?_set_self (by omega)]
  rw[hget];simp only[if_true];refine⟨fun hk => ?_,fun hk => ?_,fun hk => ?_⟩
  ·rcases hv with⟨_,e⟩ | ⟨e,_⟩ | ⟨e,_⟩
   ·rw[e]
   ·omega
   ·omega
  ·rcases hv with⟨e,_⟩ | ⟨_,t,e,e2⟩ | ⟨e,_⟩
   ·omega
   ·exact⟨t,by rw[e],e2⟩
   ·omega
  ·rcases hv with⟨e,_⟩ | ⟨e,_⟩ | ⟨_,ao,n,c,e,e2,e3⟩
   ·omega
   ·omega
   ·exact⟨ao,n,c,by rw[e],e2.off hS.size off2,e3⟩
 ·have hget:(cs.set o v)[i]? = cs[i]? := by rw[List.getElem?_set_ne (fun e=>hi e.symm)]
  simp only[if_neg hi];rw[hget];exact(hF1.off hS.size off2) i
theorem vg{T vt:TypeId}(X:RdA w g b err l)(V:Blk w vb [.pointer (some ⟨g,0,none⟩)] vt)(R:Blk w rb cs T)(hr:rb≠g)(ho:cs[o]? = some old)(hold:∃ y,old=.int .u64 y) :
  Calls Tryz.prog 271 #[.pointer (some ⟨rb,o,none⟩),.pointer (some ⟨vb,0,none⟩)] w fun e w'=>e=.returned (.tuple #[])/\∃ w1,w'=w1.setCell ⟨rb,o,none⟩ (.int .u64 (rdV 0 (p1 0 l) err))/\RdA w1 g b (rdE (p1 0 l) err) (rdL (p1 0 l) err l)/\But g w w1:=by
 obtain⟨y,rfl⟩:=hold;have t:=sD X
 show Calls Tryz.prog _ _ w fun e w'=>e=.returned (.tuple #[])/\∃ w1,w'=w1.setCell ⟨rb,o,none⟩ (.int .u64 (rdV 0 (bO 8 l) err))/\RdA w1 g b (rdE (bO 8 l) err) (rdL (bO 8 l) err l)/\But g w w1
 generalize rdV 0 (bO 8 l) err=Y at *;generalize rdE (bO 8 l) err=E at *;generalize rdL (bO 8 l) err l=Rl at *;have cv:=V.cell (i:=0) rfl;have HR:=aj R;have HNE:=aj hr;have HO:=aj ho;clear X V R ho hr;go_enter Tryz.func271,Tryz.ntmps271;go_wp2_with (go_at_call 196; refine t.mono ?_; rintro e' w1 ⟨rfl,X1,B1⟩; clear t; have R1:=HR.out.chg (But.chg B1) HNE.out; have cr:=R1.cell HO.out; have fr:=R1.free o; clear R1; replace X1:=aj X1);go_end0;exact⟨rfl,w1,rfl,X1.out,B1⟩
theorem xT{T vt:TypeId}(X:RdA w g b err l)(V:Blk w vb [.pointer (some ⟨g,0,none⟩)] vt)(R:Blk w rb cs T)(hr:rb≠g)(ho:cs[o]? = some old)(hold:∃ y,old=.bool y) :
  Calls Tryz.prog 272 #[.pointer (some ⟨rb,o,none⟩),.pointer (some ⟨vb,0,none⟩)] w fun e w'=>e=.returned (.tuple #[])/\∃ w1,w'=w1.setCell ⟨rb,o,none⟩ (.bool (rdV false (aQ l) err))/\RdA w1 g b (rdE (p1 1 l) err) (rdL (p1 1 l) err l)/\But g w w1:=by
 obtain⟨y,rfl⟩:=hold;have t:=rdBool X
 show Calls Tryz.prog _ _ w fun e w'=>e=.returned (.tuple #[])/\∃ w1,w'=w1.setCell ⟨rb,o,none⟩ (.bool (rdV false (aQ l) err))/\RdA w1 g b (rdE (cH l) err) (rdL (cH l) err l)/\But g w w1
 rw[fR,fP];generalize rdV false (aQ l) err=Y at *;generalize rdE (aQ l) err=E at *;generalize rdL (aQ l) err l=Rl at *;have cv:=V.cell (i:=0) rfl;have HR:=aj R;have HNE:=aj hr;have HO:=aj ho;clear X V R ho hr;go_enter Tryz.func272,Tryz.ntmps272;go_wp2_with (go_at_call 198; refine t.mono ?_; rintro e' w1 ⟨rfl,X1,B1⟩; clear t; have R1:=HR.out.chg (But.chg B1) HNE.out; have cr:=R1.cell HO.out; have fr:=R1.free o; clear R1; replace X1:=aj X1);go_end0;exact⟨rfl,w1,rfl,X1.out,B1⟩
theorem wH{T vt:TypeId}(X:RdA w g b err l)(V:Blk w vb [.pointer (some ⟨g,0,none⟩)] vt)(R:Blk w rb cs T)(hr:rb≠g)(ho:cs[o]? = some old)(hold:∃ a n c,old=.slice a n c) :
  Calls Tryz.prog 273 #[.pointer (some ⟨rb,o,none⟩),.pointer (some ⟨vb,0,none⟩)] w fun e w'=>e=.returned (.tuple #[])/\∃ w1 ao n c,w'=w1.setCell ⟨rb,o,none⟩ (.slice ao n c)/\dx w1 w.heap.size ao n c (rdV 0 (p1 2 l) err)/\n<=255/\RdA w1 g b (rdE (p1 2 l) err) (rdL (p1 2 l) err l)/\But g w w1:=by
 obtain⟨oa,on,oc,rfl⟩:=hold;have t:=nN X
 show Calls Tryz.prog _ _ w fun e w'=>e=.returned (.tuple #[])/\∃ w1 ao n c,w'=w1.setCell ⟨rb,o,none⟩ (.slice ao n c)/\dx w1 w.heap.size ao n c (rdV 0 (bd l) err)/\n<=255/\RdA w1 g b (rdE (bd l) err) (rdL (bd l) err l)/\But g w w1
 generalize rdV 0 (bd l) err=Y at *;generalize rdE (bd l) err=E at *;generalize rdL (bd l) err l=Rl at *;have cv:=V.cell (i:=0) rfl;have HR:=aj R;have HNE:=aj hr;have HO:=aj ho;clear X V R ho hr;go_enter Tryz.func273,Tryz.ntmps273;go_wp2_with (go_at_call 200; refine t.mono ?_; rintro e' w1 ⟨a1,n1,d1,rfl,N1,hn1,X1,B1⟩; clear t; have R1:=HR.out.chg (But.chg B1) HNE.out; have cr:=R1.cell HO.out; have fr:=R1.free o; clear R1; replace X1:=aj X1);go_end0;exact⟨rfl,w1,a1,n1,d1,rfl,N1,hn1,X1.out,B1⟩
theorem kX(h:aY o=k)(hk:k≠9):o < 2:=by
 by_cases ho:o < 2
 ·exact ho
 ·exfalso;have:aY o=9:=by
   unfold aY;rw[List.getD_eq_getElem?_getD,List.getElem?_eq_none (by simp; omega)];rfl
  omega
theorem tJ{T vt:TypeId}:HC RSt (fun s w=>RI w0 B g b vb rb aY 2 T vt s w/\B<=w.heap.size) (fun y=>y=g\/y=rb) rb 271 272 273 (.pointer (some ⟨vb,0,none⟩)) rnx aY (fun _=>True) where
 oks:=fun _ _ _ _=>trivial
 keep:=fun s w w' h Bl=>by
  obtain⟨h,hB⟩:=h;obtain⟨cs,h1,h2,h3⟩:=h.rc;exact⟨⟨h.rd.keep Bl,h.var.keep Bl,⟨cs,h1,h2.keep Bl,h3.off Bl.size (fun y _ hy=>Bl.block y hy)⟩,h.bel.trans (Bl.mono h.bel.size),h.s1,h.s2,h.s3,h.s4,h.g1,h.r1,h.g0,h.r0⟩,Nat.le_trans hB Bl.size⟩
 old:=fun s w y h e=>by
  have:=h.1.g1;have:=h.1.r1;have:=h.2;rcases e with e | e<;>omega
 e1:=fun _ _=>by kernel_rfl
 e2:=fun _ _=>by kernel_rfl
 e3:=fun _ _=>by kernel_rfl
 u:=fun s w o h _ hk=>by
  obtain⟨h,hB⟩:=h;obtain⟨cs,h1,h2,h3⟩:=h.rc;refine(vg h.rd h.var h2 h.s1 ((h3 o).1 hk) ⟨_,rfl⟩).mono ?_
  rintro e w' ⟨rfl,w1,rfl,X,Bu⟩;obtain⟨r1,r2⟩:=h.step hk (kX hk (by decide)) X Bu (.inl ⟨rfl,rfl⟩);exact⟨rfl,⟨r1,Nat.le_trans hB r2.size⟩,r2⟩
 t:=fun s w o h _ hk=>by
  obtain⟨h,hB⟩:=h;obtain⟨cs,h1,h2,h3⟩:=h.rc;obtain⟨t,ht,_⟩:=(h3 o).2.1 hk;refine(xT h.rd h.var h2 h.s1 ht ⟨_,rfl⟩).mono ?_
  rintro e w' ⟨rfl,w1,rfl,X,Bu⟩;obtain⟨r1,r2⟩:=h.step hk (kX hk (by decide)) X Bu (x:=rdV 0 (p1 1 s.2.1) s.1) (.inr (.inl ⟨rfl,_,rfl,fZ _ _⟩));exact⟨rfl,⟨r1,Nat.le_trans hB r2.size⟩,r2⟩
 d:=fun s w o h _ hk=>by
  obtain⟨h,hB⟩:=h;obtain⟨cs,h1,h2,h3⟩:=h.rc;obtain⟨ao,n,c,ht,_⟩:=(h3 o).2.2 hk;refine(wH h.rd h.var h2 h.s1 ht ⟨_,_,_,rfl⟩).mono ?_
  rintro e w' ⟨rfl,w1,a1,n1,c1,rfl,hN,hn,X,Bu⟩;obtain⟨r1,r2⟩:=h.step hk (kX hk (by decide)) X Bu (x:=rdV 0 (p1 2 s.2.1) s.1) (.inr (.inr ⟨rfl,_,_,_,rfl,hN.low hB,hn⟩));exact⟨rfl,⟨r1,Nat.le_trans hB r2.size⟩,r2⟩
theorem kl_Pool(h:eP o=k)(hk:k≠9):o < 1:=by
 by_cases ho:o < 1
 ·exact ho
 ·exfalso;have:eP o=9:=by
   unfold eP;rw[List.getD_eq_getElem?_getD,List.getElem?_eq_none (by simp; omega)];rfl
  omega
theorem oS{T vt:TypeId}(X:RdA w g b err l)(V:Blk w vb [.pointer (some ⟨g,0,none⟩)] vt)(R:Blk w rb cs T)(hr:rb≠g)(ho:cs[o]? = some old)(hold:∃ y,old=.int .u64 y) :
  Calls Tryz.prog 231 #[.pointer (some ⟨rb,o,none⟩),.pointer (some ⟨vb,0,none⟩)] w fun e w'=>e=.returned (.tuple #[])/\∃ w1,w'=w1.setCell ⟨rb,o,none⟩ (.int .u64 (rdV 0 (p1 0 l) err))/\RdA w1 g b (rdE (p1 0 l) err) (rdL (p1 0 l) err l)/\But g w w1:=by
 obtain⟨y,rfl⟩:=hold;have t:=sD X
 show Calls Tryz.prog _ _ w fun e w'=>e=.returned (.tuple #[])/\∃ w1,w'=w1.setCell ⟨rb,o,none⟩ (.int .u64 (rdV 0 (bO 8 l) err))/\RdA w1 g b (rdE (bO 8 l) err) (rdL (bO 8 l) err l)/\But g w w1
 generalize rdV 0 (bO 8 l) err=Y at *;generalize rdE (bO 8 l) err=E at *;generalize rdL (bO 8 l) err l=Rl at *;have cv:=V.cell (i:=0) rfl;have HR:=aj R;have HNE:=aj hr;have HO:=aj ho;clear X V R ho hr;go_enter Tryz.func231,Tryz.ntmps231;go_wp2_with (go_at_call 196; refine t.mono ?_; rintro e' w1 ⟨rfl,X1,B1⟩; clear t; have R1:=HR.out.chg (But.chg B1) HNE.out; have cr:=R1.cell HO.out; have fr:=R1.free o; clear R1; replace X1:=aj X1);go_end0;exact⟨rfl,w1,rfl,X1.out,B1⟩
theorem mY{T vt:TypeId}(X:RdA w g b err l)(V:Blk w vb [.pointer (some ⟨g,0,none⟩)] vt)(R:Blk w rb cs T)(hr:rb≠g)(ho:cs[o]? = some old)(hold:∃ y,old=.bool y) :
  Calls Tryz.prog 232 #[.pointer (some ⟨rb,o,none⟩),.pointer (some ⟨vb,0,none⟩)] w fun e w'=>e=.returned (.tuple #[])/\∃ w1,w'=w1.setCell ⟨rb,o,none⟩ (.bool (rdV false (aQ l) err))/\RdA w1 g b (rdE (p1 1 l) err) (rdL (p1 1 l) err l)/\But g w w1:=by
 obtain⟨y,rfl⟩:=hold;have t:=rdBool X
 show Calls Tryz.prog _ _ w fun e w'=>e=.returned (.tuple #[])/\∃ w1,w'=w1.setCell ⟨rb,o,none⟩ (.bool (rdV false (aQ l) err))/\RdA w1 g b (rdE (cH l) err) (rdL (cH l) err l)/\But g w w1
 rw[fR,fP];generalize rdV false (aQ l) err=Y at *;generalize rdE (aQ l) err=E at *;generalize rdL (aQ l) err l=Rl at *;have cv:=V.cell (i:=0) rfl;have HR:=aj R;have HNE:=aj hr;have HO:=aj ho;clear X V R ho hr;go_enter Tryz.func232,Tryz.ntmps232;go_wp2_with (go_at_call 198; refine t.mono ?_; rintro e' w1 ⟨rfl,X1,B1⟩; clear t; have R1:=HR.out.chg (But.chg B1) HNE.out; have cr:=R1.cell HO.out; have fr:=R1.free o; clear R1; replace X1:=aj X1);go_end0;exact⟨rfl,w1,rfl,X1.out,B1⟩
theorem oy{T vt:TypeId}(X:RdA w g b err l)(V:Blk w vb [.pointer (some ⟨g,0,none⟩)] vt)(R:Blk w rb cs T)(hr:rb≠g)(ho:cs[o]? = some old)(hold:∃ a n c,old=.slice a n c) :
  Calls Tryz.prog 233 #[.pointer (some ⟨rb,o,none⟩),.pointer (some ⟨vb,0,none⟩)] w fun e w'=>e=.returned (.tuple #[])/\∃ w1 ao n c,w'=w1.setCell ⟨rb,o,none⟩ (.slice ao n c)/\dx w1 w.heap.size ao n c (rdV 0 (p1 2 l) err)/\n<=255/\RdA w1 g b (rdE (p1 2 l) err) (rdL (p1 2 l) err l)/\But g w w1:=by
 obtain⟨oa,on,oc,rfl⟩:=hold;have t:=nN X
 show Calls Tryz.prog _ _ w fun e w'=>e=.returned (.tuple #[])/\∃ w1 ao n c,w'=w1.setCell ⟨rb,o,none⟩ (.slice ao n c)/\dx w1 w.heap.size ao n c (rdV 0 (bd l) err)/\n<=255/\RdA w1 g b (rdE (bd l) err) (rdL (bd l) err l)/\But g w w1
 generalize rdV 0 (bd l) err=Y at *;generalize rdE (bd l) err=E at *;generalize rdL (bd l) err l=Rl at *;have cv:=V.cell (i:=0) rfl;have HR:=aj R;have HNE:=aj hr;have HO:=aj ho;clear X V R ho hr;go_enter Tryz.func233,Tryz.ntmps233;go_wp2_with (go_at_call 200; refine t.mono ?_; rintro e' w1 ⟨a1,n1,d1,rfl,N1,hn1,X1,B1⟩; clear t; have R1:=HR.out.chg (But.chg B1) HNE.out; have cr:=R1.cell HO.out; have fr:=R1.free o; clear R1; replace X1:=aj X1);go_end0;exact⟨rfl,w1,a1,n1,d1,rfl,N1,hn1,X1.out,B1⟩
theorem fB(h:aF o=k)(hk:k≠9):o < 6:=by
 by_cases ho:o < 6
 ·exact ho
 ·exfalso;have:aF o=9:=by
   unfold aF;rw[List.getD_eq_getElem?_getD,List.getElem?_eq_none (by simp; omega)];rfl
  omega
theorem l4{T vt:TypeId}:HC RSt (fun s w=>RI w0 B g b vb rb aF 6 T vt s w/\B<=w.heap.size) (fun y=>y=g\/y=rb) rb 231 232 233 (.pointer (some ⟨vb,0,none⟩)) rnx aF (fun _=>True) where
 oks:=fun _ _ _ _=>trivial
 keep:=fun s w w' h Bl=>by
  obtain⟨h,hB⟩:=h;obtain⟨cs,h1,h2,h3⟩:=h.rc;exact⟨⟨h.rd.keep Bl,h.var.keep Bl,⟨cs,h1,h2.keep Bl,h3.off Bl.size (fun y _ hy=>Bl.block y hy)⟩,h.bel.trans (Bl.mono h.bel.size),h.s1,h.s2,h.s3,h.s4,h.g1,h.r1,h.g0,h.r0⟩,Nat.le_trans hB Bl.size⟩
 old:=fun s w y h e=>by
  have:=h.1.g1;have:=h.1.r1;have:=h.2;rcases e with e | e<;>omega
 e1:=fun _ _=>by kernel_rfl
 e2:=fun _ _=>by kernel_rfl
 e3:=fun _ _=>by kernel_rfl
 u:=fun s w o h _ hk=>by
  obtain⟨h,hB⟩:=h;obtain⟨cs,h1,h2,h3⟩:=h.rc;refine(oS h.rd h.var h2 h.s1 ((h3 o).1 hk) ⟨_,rfl⟩).mono ?_
  rintro e w' ⟨rfl,w1,rfl,X,Bu⟩;obtain⟨r1,r2⟩:=h.step hk (fB hk (by decide)) X Bu (.inl ⟨rfl,rfl⟩);exact⟨rfl,⟨r1,Nat.le_trans hB r2.size⟩,r2⟩
 t:=fun s w o h _ hk=>by
  obtain⟨h,hB⟩:=h;obtain⟨cs,h1,h2,h3⟩:=h.rc;obtain⟨t,ht,_⟩:=(h3 o).2.1 hk;refine(mY h.rd h.var h2 h.s1 ht ⟨_,rfl⟩).mono ?_
  rintro e w' ⟨rfl,w1,rfl,X,Bu⟩;obtain⟨r1,r2⟩:=h.step hk (fB hk (by decide)) X Bu (x:=rdV 0 (p1 1 s.2.1) s.1) (.inr (.inl ⟨rfl,_,rfl,fZ _ _⟩));exact⟨rfl,⟨r1,Nat.le_trans hB r2.size⟩,r2⟩
 d:=fun s w o h _ hk=>by
  obtain⟨h,hB⟩:=h;obtain⟨cs,h1,h2,h3⟩:=h.rc;obtain⟨ao,n,c,ht,_⟩:=(h3 o).2.2 hk;refine(oy h.rd h.var h2 h.s1 ht ⟨_,_,_,rfl⟩).mono ?_
  rintro e w' ⟨rfl,w1,a1,n1,c1,rfl,hN,hn,X,Bu⟩;obtain⟨r1,r2⟩:=h.step hk (fB hk (by decide)) X Bu (x:=rdV 0 (p1 2 s.2.1) s.1) (.inr (.inr ⟨rfl,_,_,_,rfl,hN.low hB,hn⟩));exact⟨rfl,⟨r1,Nat.le_trans hB r2.size⟩,r2⟩
theorem zf{T vt:TypeId}(X:RdA w g b err l)(V:Blk w vb [.pointer (some ⟨g,0,none⟩)] vt)(R:Blk w rb cs T)(hr:rb≠g)(ho:cs[o]? = some old)(hold:∃ y,old=.int .u64 y) :
  Calls Tryz.prog 240 #[.pointer (some ⟨rb,o,none⟩),.pointer (some ⟨vb,0,none⟩)] w fun e w'=>e=.returned (.tuple #[])/\∃ w1,w'=w1.setCell ⟨rb,o,none⟩ (.int .u64 (rdV 0 (p1 0 l) err))/\RdA w1 g b (rdE (p1 0 l) err) (rdL (p1 0 l) err l)/\But g w w1:=by
 obtain⟨y,rfl⟩:=hold;have t:=sD X
 show Calls Tryz.prog _ _ w fun e w'=>e=.returned (.tuple #[])/\∃ w1,w'=w1.setCell ⟨rb,o,none⟩ (.int .u64 (rdV 0 (bO 8 l) err))/\RdA w1 g b (rdE (bO 8 l) err) (rdL (bO 8 l) err l)/\But g w w1
 generalize rdV 0 (bO 8 l) err=Y at *;generalize rdE (bO 8 l) err=E at *;generalize rdL (bO 8 l) err l=Rl at *;have cv:=V.cell (i:=0) rfl;have HR:=aj R;have HNE:=aj hr;have HO:=aj ho;clear X V R ho hr;go_enter Tryz.func240,Tryz.ntmps240;go_wp2_with (go_at_call 196; refine t.mono ?_; rintro e' w1 ⟨rfl,X1,B1⟩; clear t; have R1:=HR.out.chg (But.chg B1) HNE.out; have cr:=R1.cell HO.out; have fr:=R1.free o; clear R1; replace X1:=aj X1);go_end0;exact⟨rfl,w1,rfl,X1.out,B1⟩
theorem y9{T vt:TypeId}(X:RdA w g b err l)(V:Blk w vb [.pointer (some ⟨g,0,none⟩)] vt)(R:Blk w rb cs T)(hr:rb≠g)(ho:cs[o]? = some old)(hold:∃ y,old=.bool y) :
  Calls Tryz.prog 241 #[.pointer (some ⟨rb,o,none⟩),.pointer (some ⟨vb,0,none⟩)] w fun e w'=>e=.returned (.tuple #[])/\∃ w1,w'=w1.setCell ⟨rb,o,none⟩ (.bool (rdV false (aQ l) err))/\RdA w1 g b (rdE (p1 1 l) err) (rdL (p1 1 l) err l)/\But g w w1:=by
 obtain⟨y,rfl⟩:=hold;have t:=rdBool X
 show Calls Tryz.prog _ _ w fun e w'=>e=.returned (.tuple #[])/\∃ w1,w'=w1.setCell ⟨rb,o,none⟩ (.bool (rdV false (aQ l) err))/\RdA w1 g b (rdE (cH l) err) (rdL (cH l) err l)/\But g w w1
 rw[fR,fP];generalize rdV false (aQ l) err=Y at *;generalize rdE (aQ l) err=E at *;generalize rdL (aQ l) err l=Rl at *;have cv:=V.cell (i:=0) rfl;have HR:=aj R;have HNE:=aj hr;have HO:=aj ho;clear X V R ho hr;go_enter Tryz.func241,Tryz.ntmps241;go_wp2_with (go_at_call 198; refine t.mono ?_; rintro e' w1 ⟨rfl,X1,B1⟩; clear t; have R1:=HR.out.chg (But.chg B1) HNE.out; have cr:=R1.cell HO.out; have fr:=R1.free o; clear R1; replace X1:=aj X1);go_end0;exact⟨rfl,w1,rfl,X1.out,B1⟩
theorem Ao{T vt:TypeId}(X:RdA w g b err l)(V:Blk w vb [.pointer (some ⟨g,0,none⟩)] vt)(R:Blk w rb cs T)(hr:rb≠g)(ho:cs[o]? = some old)(hold:∃ a n c,old=.slice a n c) :
  Calls Tryz.prog 242 #[.pointer (some ⟨rb,o,none⟩),.pointer (some ⟨vb,0,none⟩)] w fun e w'=>e=.returned (.tuple #[])/\∃ w1 ao n c,w'=w1.setCell ⟨rb,o,none⟩ (.slice ao n c)/\dx w1 w.heap.size ao n c (rdV 0 (p1 2 l) err)/\n<=255/\RdA w1 g b (rdE (p1 2 l) err) (rdL (p1 2 l) err l)/\But g w w1:=by
 obtain⟨oa,on,oc,rfl⟩:=hold;have t:=nN X
 show Calls Tryz.prog _ _ w fun e w'=>e=.returned (.tuple #[])/\∃ w1 ao n c,w'=w1.setCell ⟨rb,o,none⟩ (.slice ao n c)/\dx w1 w.heap.size ao n c (rdV 0 (bd l) err)/\n<=255/\RdA w1 g b (rdE (bd l) err) (rdL (bd l) err l)/\But g w w1
 generalize rdV 0 (bd l) err=Y at *;generalize rdE (bd l) err=E at *;generalize rdL (bd l) err l=Rl at *;have cv:=V.cell (i:=0) rfl;have HR:=aj R;have HNE:=aj hr;have HO:=aj ho;clear X V R ho hr;go_enter Tryz.func242,Tryz.ntmps242;go_wp2_with (go_at_call 200; refine t.mono ?_; rintro e' w1 ⟨a1,n1,d1,rfl,N1,hn1,X1,B1⟩; clear t; have R1:=HR.out.chg (But.chg B1) HNE.out; have cr:=R1.cell HO.out; have fr:=R1.free o; clear R1; replace X1:=aj X1);go_end0;exact⟨rfl,w1,a1,n1,d1,rfl,N1,hn1,X1.out,B1⟩
theorem mN(h:bN o=k)(hk:k≠9):o < 7:=by
 by_cases ho:o < 7
 ·exact ho
 ·exfalso;have:bN o=9:=by
   unfold bN;rw[List.getD_eq_getElem?_getD,List.getElem?_eq_none (by simp; omega)];rfl
  omega
theorem yv{T vt:TypeId}:HC RSt (fun s w=>RI w0 B g b vb rb bN 7 T vt s w/\B<=w.heap.size) (fun y=>y=g\/y=rb) rb 240 241 242 (.pointer (some ⟨vb,0,none⟩)) rnx bN (fun _=>True) where
 oks:=fun _ _ _ _=>trivial
 keep:=fun s w w' h Bl=>by
  obtain⟨h,hB⟩:=h;obtain⟨cs,h1,h2,h3⟩:=h.rc;exact⟨⟨h.rd.keep Bl,h.var.keep Bl,⟨cs,h1,h2.keep Bl,h3.off Bl.size (fun y _ hy=>Bl.block y hy)⟩,h.bel.trans (Bl.mono h.bel.size),h.s1,h.s2,h.s3,h.s4,h.g1,h.r1,h.g0,h.r0⟩,Nat.le_trans hB Bl.size⟩
 old:=fun s w y h e=>by
  have:=h.1.g1;have:=h.1.r1;have:=h.2;rcases e with e | e<;>omega
 e1:=fun _ _=>by kernel_rfl
 e2:=fun _ _=>by kernel_rfl
 e3:=fun _ _=>by kernel_rfl
 u:=fun s w o h _ hk=>by
  obtain⟨h,hB⟩:=h;obtain⟨cs,h1,h2,h3⟩:=h.rc;refine(zf h.rd h.var h2 h.s1 ((h3 o).1 hk) ⟨_,rfl⟩).mono ?_
  rintro e w' ⟨rfl,w1,rfl,X,Bu⟩;obtain⟨r1,r2⟩:=h.step hk (mN hk (by decide)) X Bu (.inl ⟨rfl,rfl⟩);exact⟨rfl,⟨r1,Nat.le_trans hB r2.size⟩,r2⟩
 t:=fun s w o h _ hk=>by
  obtain⟨h,hB⟩:=h;obtain⟨cs,h1,h2,h3⟩:=h.rc;obtain⟨t,ht,_⟩:=(h3 o).2.1 hk;refine(y9 h.rd h.var h2 h.s1 ht ⟨_,rfl⟩).mono ?_
  rintro e w' ⟨rfl,w1,rfl,X,Bu⟩;obtain⟨r1,r2⟩:=h.step hk (mN hk (by decide)) X Bu (x:=rdV 0 (p1 1 s.2.1) s.1) (.inr (.inl ⟨rfl,_,rfl,fZ _ _⟩));exact⟨rfl,⟨r1,Nat.le_trans hB r2.size⟩,r2⟩
 d:=fun s w o h _ hk=>by
  obtain⟨h,hB⟩:=h;obtain⟨cs,h1,h2,h3⟩:=h.rc;obtain⟨ao,n,c,ht,_⟩:=(h3 o).2.2 hk;refine(Ao h.rd h.var h2 h.s1 ht ⟨_,_,_,rfl⟩).mono ?_
  rintro e w' ⟨rfl,w1,a1,n1,c1,rfl,hN,hn,X,Bu⟩;obtain⟨r1,r2⟩:=h.step hk (mN hk (by decide)) X Bu (x:=rdV 0 (p1 2 s.2.1) s.1) (.inr (.inr ⟨rfl,_,_,_,rfl,hN.low hB,hn⟩));exact⟨rfl,⟨r1,Nat.le_trans hB r2.size⟩,r2⟩
theorem tE{T vt:TypeId}(X:RdA w g b err l)(V:Blk w vb [.pointer (some ⟨g,0,none⟩)] vt)(R:Blk w rb cs T)(hr:rb≠g)(ho:cs[o]? = some old)(hold:∃ y,old=.int .u64 y) :
  Calls Tryz.prog 195 #[.pointer (some ⟨rb,o,none⟩),.pointer (some ⟨vb,0,none⟩)] w fun e w'=>e=.returned (.tuple #[])/\∃ w1,w'=w1.setCell ⟨rb,o,none⟩ (.int .u64 (rdV 0 (p1 0 l) err))/\RdA w1 g b (rdE (p1 0 l) err) (rdL (p1 0 l) err l)/\But g w w1:=by
 obtain⟨y,rfl⟩:=hold;have t:=sD X
 show Calls Tryz.prog _ _ w fun e w'=>e=.returned (.tuple #[])/\∃ w1,w'=w1.setCell ⟨rb,o,none⟩ (.int .u64 (rdV 0 (bO 8 l) err))/\RdA w1 g b (rdE (bO 8 l) err) (rdL (bO 8 l) err l)/\But g w w1
 generalize rdV 0 (bO 8 l) err=Y at *;generalize rdE (bO 8 l) err=E at *;generalize rdL (bO 8 l) err l=Rl at *;have cv:=V.cell (i:=0) rfl;have HR:=aj R;have HNE:=aj hr;have HO:=aj ho;clear X V R ho hr;go_enter Tryz.func195,Tryz.ntmps195;go_wp2_with (go_at_call 196; refine t.mono ?_; rintro e' w1 ⟨rfl,X1,B1⟩; clear t; have R1:=HR.out.chg (But.chg B1) HNE.out; have cr:=R1.cell HO.out; have fr:=R1.free o; clear R1; replace X1:=aj X1);go_end0;exact⟨rfl,w1,rfl,X1.out,B1⟩
theorem s5{T vt:TypeId}(X:RdA w g b err l)(V:Blk w vb [.pointer (some ⟨g,0,none⟩)] vt)(R:Blk w rb cs T)(hr:rb≠g)(ho:cs[o]? = some old)(hold:∃ y,old=.bool y) :
  Calls Tryz.prog 197 #[.pointer (some ⟨rb,o,none⟩),.pointer (some ⟨vb,0,none⟩)] w fun e w'=>e=.returned (.tuple #[])/\∃ w1,w'=w1.setCell ⟨rb,o,none⟩ (.bool (rdV false (aQ l) err))/\RdA w1 g b (rdE (p1 1 l) err) (rdL (p1 1 l) err l)/\But g w w1:=by
 obtain⟨y,rfl⟩:=hold;have t:=rdBool X
 show Calls Tryz.prog _ _ w fun e w'=>e=.returned (.tuple #[])/\∃ w1,w'=w1.setCell ⟨rb,o,none⟩ (.bool (rdV false (aQ l) err))/\RdA w1 g b (rdE (cH l) err) (rdL (cH l) err l)/\But g w w1
 rw[fR,fP];generalize rdV false (aQ l) err=Y at *;generalize rdE (aQ l) err=E at *;generalize rdL (aQ l) err l=Rl at *;have cv:=V.cell (i:=0) rfl;have HR:=aj R;have HNE:=aj hr;have HO:=aj ho;clear X V R ho hr;go_enter Tryz.func197,Tryz.ntmps197;go_wp2_with (go_at_call 198; refine t.mono ?_; rintro e' w1 ⟨rfl,X1,B1⟩; clear t; have R1:=HR.out.chg (But.chg B1) HNE.out; have cr:=R1.cell HO.out; have fr:=R1.free o; clear R1; replace X1:=aj X1);go_end0;exact⟨rfl,w1,rfl,X1.out,B1⟩
theorem uI{T vt:TypeId}(X:RdA w g b err l)(V:Blk w vb [.pointer (some ⟨g,0,none⟩)] vt)(R:Blk w rb cs T)(hr:rb≠g)(ho:cs[o]? = some old)(hold:∃ a n c,old=.slice a n c) :
  Calls Tryz.prog 199 #[.pointer (some ⟨rb,o,none⟩),.pointer (some ⟨vb,0,none⟩)] w fun e w'=>e=.returned (.tuple #[])/\∃ w1 ao n c,w'=w1.setCell ⟨rb,o,none⟩ (.slice ao n c)/\dx w1 w.heap.size ao n c (rdV 0 (p1 2 l) err)/\n<=255/\RdA w1 g b (rdE (p1 2 l) err) (rdL (p1 2 l) err l)/\But g w w1:=by
 obtain⟨oa,on,oc,rfl⟩:=hold;have t:=nN X
 show Calls Tryz.prog _ _ w fun e w'=>e=.returned (.tuple #[])/\∃ w1 ao n c,w'=w1.setCell ⟨rb,o,none⟩ (.slice ao n c)/\dx w1 w.heap.size ao n c (rdV 0 (bd l) err)/\n<=255/\RdA w1 g b (rdE (bd l) err) (rdL (bd l) err l)/\But g w w1
 generalize rdV 0 (bd l) err=Y at *;generalize rdE (bd l) err=E at *;generalize rdL (bd l) err l=Rl at *;have cv:=V.cell (i:=0) rfl;have HR:=aj R;have HNE:=aj hr;have HO:=aj ho;clear X V R ho hr;go_enter Tryz.func199,Tryz.ntmps199;go_wp2_with (go_at_call 200; refine t.mono ?_; rintro e' w1 ⟨a1,n1,d1,rfl,N1,hn1,X1,B1⟩; clear t; have R1:=HR.out.chg (But.chg B1) HNE.out; have cr:=R1.cell HO.out; have fr:=R1.free o; clear R1; replace X1:=aj X1);go_end0;exact⟨rfl,w1,a1,n1,d1,rfl,N1,hn1,X1.out,B1⟩
theorem js(h:aR o=k)(hk:k≠9):o < 1:=by
 by_cases ho:o < 1
 ·exact ho
 ·exfalso;have:aR o=9:=by
   unfold aR;rw[List.getD_eq_getElem?_getD,List.getElem?_eq_none (by simp; omega)];rfl
  omega
theorem qC{T vt:TypeId}:HC RSt (fun s w=>RI w0 B g b vb rb aR 1 T vt s w/\B<=w.heap.size) (fun y=>y=g\/y=rb) rb 195 197 199 (.pointer (some ⟨vb,0,none⟩)) rnx aR (fun _=>True) where
 oks:=fun _ _ _ _=>trivial
 keep:=fun s w w' h Bl=>by
  obtain⟨h,hB⟩:=h;obtain⟨cs,h1,h2,h3⟩:=h.rc;exact⟨⟨h.rd.keep Bl,h.var.keep Bl,⟨cs,h1,h2.keep Bl,h3.off Bl.size (fun y _ hy=>Bl.block y hy)⟩,h.bel.trans (Bl.mono h.bel.size),h.s1,h.s2,h.s3,h.s4,h.g1,h.r1,h.g0,h.r0⟩,Nat.le_trans hB Bl.size⟩
 old:=fun s w y h e=>by
  have:=h.1.g1;have:=h.1.r1;have:=h.2;rcases e with e | e<;>omega
 e1:=fun _ _=>by kernel_rfl
 e2:=fun _ _=>by kernel_rfl
 e3:=fun _ _=>by kernel_rfl
 u:=fun s w o h _ hk=>by
  obtain⟨h,hB⟩:=h;obtain⟨cs,h1,h2,h3⟩:=h.rc;refine(tE h.rd h.var h2 h.s1 ((h3 o).1 hk) ⟨_,rfl⟩).mono ?_
  rintro e w' ⟨rfl,w1,rfl,X,Bu⟩;obtain⟨r1,r2⟩:=h.step hk (js hk (by decide)) X Bu (.inl ⟨rfl,rfl⟩);exact⟨rfl,⟨r1,Nat.le_trans hB r2.size⟩,r2⟩
 t:=fun s w o h _ hk=>by
  obtain⟨h,hB⟩:=h;obtain⟨cs,h1,h2,h3⟩:=h.rc;obtain⟨t,ht,_⟩:=(h3 o).2.1 hk;refine(s5 h.rd h.var h2 h.s1 ht ⟨_,rfl⟩).mono ?_
  rintro e w' ⟨rfl,w1,rfl,X,Bu⟩;obtain⟨r1,r2⟩:=h.step hk (js hk (by decide)) X Bu (x:=rdV 0 (p1 1 s.2.1) s.1) (.inr (.inl ⟨rfl,_,rfl,fZ _ _⟩));exact⟨rfl,⟨r1,Nat.le_trans hB r2.size⟩,r2⟩
 d:=fun s w o h _ hk=>by
  obtain⟨h,hB⟩:=h;obtain⟨cs,h1,h2,h3⟩:=h.rc;obtain⟨ao,n,c,ht,_⟩:=(h3 o).2.2 hk;refine(uI h.rd h.var h2 h.s1 ht ⟨_,_,_,rfl⟩).mono ?_
  rintro e w' ⟨rfl,w1,a1,n1,c1,rfl,hN,hn,X,Bu⟩;obtain⟨r1,r2⟩:=h.step hk (js hk (by decide)) X Bu (x:=rdV 0 (p1 2 s.2.1) s.1) (.inr (.inr ⟨rfl,_,_,_,rfl,hN.low hB,hn⟩));exact⟨rfl,⟨r1,Nat.le_trans hB r2.size⟩,r2⟩
end
end Rc
end
section
namespace Rc
open Go.RowKit Go.Lib Pg
section
variable {w:World}{kd:Nat->Nat}{cs:List Value}{xs:Nat->Int}{tmps:Array Value}{g bb n c:Nat}{y0 y1 y2 y3 y4 y5:Value}{ao:Option Addr}{l:List Int}
attribute [local go_sem] Oper.semAt_some
theorem zR{α:Type}(p:Int ⊕ α × Nat)(err:Int)(l:List Int):(rdL p err l).length<=l.length:=by
 unfold rdL;split
 ·cases p
  ·exact Nat.le_refl _
  ·simp
 ·exact Nat.le_refl _
theorem j3(ks:List (Nat × Nat)):∀ s:RSt,(thr rnx ks s).2.1.length<=s.2.1.length:=by
 induction ks with
 | nil=>intro s; exact Nat.le_refl _
 | cons p ks ih =>
  intro s
  have e:thr rnx (p :: ks) s=thr rnx ks (rnx p.1 p.2 s):=rfl;rw[e];exact Nat.le_trans (ih _) (zR _ _ _)
structure fN(w:World)(kd:Nat->Nat)(len:Nat)(mk:List Value->Value)(s:RSt)(e:Ending)(w':World):Prop where
 ex:∃ cs xs r,e=.returned (.tuple #[mk cs,.int .i64 r])/\cs.length=len/\jT w' w.heap.size kd cs xs/\(eM s.1 s.2.1=0->r=0/\xs=s.2.2)/\(eM s.1 s.2.1≠0->r=80/\xs=fun _=>0)
 bel:Below w.heap.size w w'
theorem jT.low{B B':Nat}(h:jT w B kd cs xs)(hB:B'<=B):jT w B' kd cs xs:=fun o=>⟨(h o).1,(h o).2.1,fun hk=>by
 obtain⟨ao,n,c,h1,h2,h3⟩:=(h o).2.2 hk;exact⟨ao,n,c,h1,h2.low hB,h3⟩⟩
theorem fA{fn:Func}{p u:Tmp}{T:TypeId}(h:fn.results=#[.cell p T,.tmp u]){v x:Value}(hp:tmps.getD p undef=.pointer (some ⟨g,0,none⟩))(hu:tmps.getD u undef=x)(hl:(loadVar T ⟨g,0,none⟩).run Tryz.prog w=.ok v w):(results fn tmps).run Tryz.prog w=.ok (.tuple #[v,x]) w:=by
 have hp':tmps[p]?.getD undef=.pointer (some ⟨g,0,none⟩):=by simpa using hp
 have hu':tmps[u]?.getD undef=x:=by simpa using hu
 simp[results,h,hp',hu',asAddr,hl]
def mkA(cs:List Value):Value:=.agg cs.toArray
def mkO(cs:List Value):Value:=cs.headD undef
theorem kt(c0:w.cell? ⟨g,0,none⟩=some y0)(c1:w.cell? ⟨g,1,none⟩=some y1):(loadVar 44 ⟨g,0,none⟩).run Tryz.prog w=.ok (.agg #[y0,y1]) w:=by go_simp
theorem rE(A : ByA w bb ao n c l)(hn : n ≤ 1000000000)(hl : l.length = n) :
    Calls Tryz.prog 224 #[.slice ao n c, .func (.func 109) #[] #[]] w (fN w aY 2 mkA (thr rnx [(0, 0), (0, 1)] (0, l, fun _ => (0 : Int)))) := by
  have b1 := aa w (.cells #[.int .u64 0, .int .u64 0] 44);have b2 := aa (w.alloc (.cells #[.int .u64 0, .int .u64 0] 44)) (.cells #[.int .u64 0, .int .u64 0] 44);have b3 := aa ((w.alloc (.cells #[.int .u64 0, .int .u64 0] 44)).alloc (.cells #[.int .u64 0, .int .u64 0] 44)) (.cells #[.int .u64 0, .int .u64 0] 44);have z1 := bC w (.cells #[.int .u64 0, .int .u64 0] 44);have z2 := bC (w.alloc (.cells #[.int .u64 0, .int .u64 0] 44)) (.cells #[.int .u64 0, .int .u64 0] 44);have z3 := bC ((w.alloc (.cells #[.int .u64 0, .int .u64 0] 44)).alloc (.cells #[.int .u64 0, .int .u64 0] 44)) (.cells #[.int .u64 0, .int .u64 0] 44);have y1 := ((au w [.int .u64 0, .int .u64 0] 44).keep b2).keep b3;have y2 := (au (w.alloc (.cells #[.int .u64 0, .int .u64 0] 44)) [.int .u64 0, .int .u64 0] 44).keep b3;have y3 := au ((w.alloc (.cells #[.int .u64 0, .int .u64 0] 44)).alloc (.cells #[.int .u64 0, .int .u64 0] 44)) [.int .u64 0, .int .u64 0] 44;rw[z2, z1] at y3;rw[z1] at y2;rw[z2, z1] at z3;obtain⟨W3, hW3⟩ : ∃ W3, Hid ((((w.alloc (.cells #[.int .u64 0, .int .u64 0] 44)).alloc (.cells #[.int .u64 0, .int .u64 0] 44)).alloc (.cells #[.int .u64 0, .int .u64 0] 44)) = W3) := ⟨_, rfl⟩;have BB := ai (ai b1 b2) b3;rw[hW3.out] at BB y1 y2 y3 z3;have HN := aj (sq (A.keep BB) (by omega));have Y1 := aj y1;have Y2 := aj y2;have Y3 := aj y3;have Z3 := aj z3;have HBB := aj BB;have HL := aj hl;clear b1 b2 b3 z1 z2 z3 y1 y2 y3 BB A hl;obtain⟨st, hst⟩ : ∃ st, Hid (thr rnx [(0, 0), (0, 1)] (0, l, fun _ => (0 : Int)) = st) := ⟨_, rfl⟩
  have hsl : st.2.1.length ≤ n := by have h := j3 [(0, 0), (0, 1)] (0, l, fun _ => (0 : Int)); rw[hst.out] at h; rw[HL.out] at h; exact h
  rw[hst.out];go_enter Tryz.func224, Tryz.ntmps224;go_wp2_with fail;rw[hW3.out];refine HN.out.mono ?_
  rintro e' w4 ⟨g, b', rfl, hg, hb', X4, B4⟩;have b5 := aa w4 (.cells #[.pointer (some ⟨g, 0, none⟩)] 286);have v5 := au w4 [.pointer (some ⟨g, 0, none⟩)] 286;have z5 := bC w4 (.cells #[.pointer (some ⟨g, 0, none⟩)] 286);obtain⟨W5, hW5⟩ : ∃ W5, Hid (w4.alloc (.cells #[.pointer (some ⟨g, 0, none⟩)] 286) = W5) := ⟨_, rfl⟩;rw[hW5.out] at b5 v5 z5;have hgl := X4.lt;have hz3 := Z3.out;have hz4 := B4.size
  have F0 : jT W5 W5.heap.size aY [.int .u64 0, .int .u64 0] (fun _ => 0) := fun o => match o with
    | 0 => ⟨fun _ => rfl, fun h => absurd h (by decide), fun h => absurd h (by decide)⟩
    | 1 => ⟨fun _ => rfl, fun h => absurd h (by decide), fun h => absurd h (by decide)⟩
    | k + 2 => ⟨fun h => absurd h (by simp[aY]), fun h => absurd h (by simp[aY]), fun h => absurd h (by simp[aY])⟩
  have U := jN (tJ (w0 := w) (B := W5.heap.size) (g := g) (b := b') (vb := w4.heap.size) (rb := w.heap.size + 1) (T := 44) (vt := 286)) (s := (0, l, fun _ => (0 : Int))) (w := W5) ⟨⟨X4.keep b5, v5, ⟨_, rfl, (Y2.out.keep B4).keep b5, F0⟩, ai (ai HBB.out B4) b5, by omega, by omega, by omega, by omega, by omega, by omega, by omega, by omega⟩, Nat.le_refl _⟩ (by simp[aY]) trivial;rw[hst.out] at U;have HU := aj U;have P1 := aj ((Y1.out.keep B4).keep b5);have P3 := aj ((Y3.out.keep B4).keep b5);have HS := aj (show w.heap.size ≠ g ∧ w.heap.size + 1 + 1 ≠ g ∧ w.heap.size + 1 + 1 ≠ w.heap.size + 1 ∧ w.heap.size ≠ w.heap.size + 1 ∧ w.heap.size ≤ W5.heap.size ∧ w.heap.size ≤ g from⟨by omega, by omega, by omega, by omega, by omega, by omega⟩);clear U b5 v5 z5 hgl hz3 hz4 F0 X4 B4 hg hb' HN Y1 Y2 Y3;go_wp2_with fail;rw[hW5.out];refine HU.out.mono ?_
  rintro e' w6 ⟨rfl, ⟨I6, hB6⟩, C6⟩;have c6 := I6.var.cell (i := 0) rfl;go_wp2_with fail;refine(sU I6.rd (by omega)).mono ?_
  rintro e' w7 ⟨rfl, X7, B7⟩;obtain⟨cs6, hl6, R6, F6⟩:= I6.rc;obtain⟨XS, hXS⟩ : ∃ XS, Hid (st.2.2 = XS) := ⟨_, rfl⟩;rw[hXS.out] at F6;have hF6 := aj F6;have q0 := (F6 0).1 rfl;have q1 := (F6 1).1 rfl
  have ecs : cs6 = [.int .u64 (XS 0), .int .u64 (XS 1)] := by
    apply List.ext_getElem?;intro i
    match i with
    | 0 => rw[q0]; rfl
    | 1 => rw[q1]; rfl
    | k + 2 => rw[List.getElem?_eq_none (by omega), List.getElem?_eq_none (by simp)]
  subst ecs;have C7 := But.chg B7;have K1 := (P1.out.chg C6 (fun h => h.elim HS.out.1 HS.out.2.2.2.1)).chg C7 HS.out.1;have K3 := (P3.out.chg C6 (fun h => h.elim HS.out.2.1 HS.out.2.2.1)).chg C7 HS.out.2.1;have K2 := R6.chg C7 I6.s1;have BF := aj (B7.below I6.bel HS.out.2.2.2.2.2 (Nat.le_refl _));have hF7 := aj ((hF6.out.off (w' := w7) B7.size (fun y hy hy2 => B7.block y hy2 (by have := I6.g1; omega))));have hBw := aj (show w.heap.size < W5.heap.size ∧ w.heap.size < w7.heap.size from⟨by have := I6.r1; omega, K1.lt⟩);have u0 := K1.cell (i := 0) rfl;have f0 := K1.free 0;have v0 := K2.cell (i := 0) rfl;have o0 := K3.cell (i := 0) rfl;have u1 := K1.cell (i := 1) rfl;have f1 := K1.free 1;have v1 := K2.cell (i := 1) rfl;have o1 := K3.cell (i := 1) rfl;have KFblk := aj (show Blk ((w7.setCell ⟨w.heap.size, 0, none⟩ (.int .u64 (XS 0))).setCell ⟨w.heap.size, 1, none⟩ (.int .u64 (XS 1))) w.heap.size [.int .u64 (XS 0), .int .u64 (XS 1)] 44 from((K1.setCell (i := 0) (.int .u64 (XS 0))).setCell (i := 1) (.int .u64 (XS 1))));have KFchg := aj (show Chg (fun x => x = w.heap.size) w7 ((w7.setCell ⟨w.heap.size, 0, none⟩ (.int .u64 (XS 0))).setCell ⟨w.heap.size, 1, none⟩ (.int .u64 (XS 1))) from(((Chg.refl (fun x => x = w.heap.size) w7).cell (g := w.heap.size) (i := 0) (.inl rfl) (.int .u64 (XS 0))).cell (g := w.heap.size) (i := 1) (.inl rfl) (.int .u64 (XS 1))));have KFbel := aj (show Below w.heap.size w ((w7.setCell ⟨w.heap.size, 0, none⟩ (.int .u64 (XS 0))).setCell ⟨w.heap.size, 1, none⟩ (.int .u64 (XS 1))) from((BF.out.setCell (p := ⟨w.heap.size, 0, none⟩) (Nat.le_refl _) (.int .u64 (XS 0))).setCell (p := ⟨w.heap.size, 1, none⟩) (Nat.le_refl _) (.int .u64 (XS 1))));have KZblk := aj (show Blk ((w7.setCell ⟨w.heap.size, 0, none⟩ (.int .u64 0)).setCell ⟨w.heap.size, 1, none⟩ (.int .u64 0)) w.heap.size [.int .u64 0, .int .u64 0] 44 from((K1.setCell (i := 0) (.int .u64 0)).setCell (i := 1) (.int .u64 0)));have KZchg := aj (show Chg (fun x => x = w.heap.size) w7 ((w7.setCell ⟨w.heap.size, 0, none⟩ (.int .u64 0)).setCell ⟨w.heap.size, 1, none⟩ (.int .u64 0)) from(((Chg.refl (fun x => x = w.heap.size) w7).cell (g := w.heap.size) (i := 0) (.inl rfl) (.int .u64 0)).cell (g := w.heap.size) (i := 1) (.inl rfl) (.int .u64 0)));have KZbel := aj (show Below w.heap.size w ((w7.setCell ⟨w.heap.size, 0, none⟩ (.int .u64 0)).setCell ⟨w.heap.size, 1, none⟩ (.int .u64 0)) from((BF.out.setCell (p := ⟨w.heap.size, 0, none⟩) (Nat.le_refl _) (.int .u64 0)).setCell (p := ⟨w.heap.size, 1, none⟩) (Nat.le_refl _) (.int .u64 0)));clear K1 K2 K3 I6 C6 C7 B7 X7 R6 hl6 F6 c6 HU P1 P3 q0 q1;obtain⟨E0, hE0⟩ : ∃ E0, Hid (eM st.1 st.2.1 = E0) := ⟨_, rfl⟩;rw[hE0.out];by_cases hE : E0 = 0
  · subst hE
    go_wp2;refine bodyPost_ret (fA rfl rfl rfl (kt (KFblk.out.cell (i := 0) rfl) (KFblk.out.cell (i := 1) rfl))) rfl ?_
    exact⟨⟨[.int .u64 (XS 0), .int .u64 (XS 1)], XS, 0, rfl, rfl, (hF7.out.off KFchg.out.size (fun y hy _ => KFchg.out.same y (by assumption) (fun e => by have e' : y = w.heap.size := e; have := hBw.out; omega))).low (by have := hBw.out; omega), fun _ => ⟨rfl, hXS.out.symm⟩, fun h => absurd hE0.out h⟩, KFbel.out⟩
  · have hE1 : ¬ (E0 = 0) := hE
    go_wp2;refine bodyPost_ret (fA rfl rfl rfl (kt (KZblk.out.cell (i := 0) rfl) (KZblk.out.cell (i := 1) rfl))) rfl ?_
    exact⟨⟨[.int .u64 0, .int .u64 0], fun _ => 0, 80, rfl, rfl, (fun o => match o with | 0 => ⟨fun _ => rfl, fun h => absurd h (by decide), fun h => absurd h (by decide)⟩ | 1 => ⟨fun _ => rfl, fun h => absurd h (by decide), fun h => absurd h (by decide)⟩ | k + 2 => ⟨fun h => absurd h (by simp[aY]), fun h => absurd h (by simp[aY]), fun h => absurd h (by simp[aY])⟩), fun h => absurd (hE0.out.symm.trans h) hE1, fun _ => ⟨rfl, rfl⟩⟩, KZbel.out⟩
theorem fG(c0:w.cell? ⟨g,0,none⟩=some y0)(c1:w.cell? ⟨g,1,none⟩=some y1)(c2:w.cell? ⟨g,2,none⟩=some y2)(c3:w.cell? ⟨g,3,none⟩=some y3)(c4:w.cell? ⟨g,4,none⟩=some y4)(c5:w.cell? ⟨g,5,none⟩=some y5):(loadVar 46 ⟨g,0,none⟩).run Tryz.prog w=.ok (.agg #[y0,y1,y2,y3,y4,y5]) w:=by go_simp
theorem kD(A : ByA w bb ao n c l)(hn : n ≤ 1000000000)(hl : l.length = n) :
    Calls Tryz.prog 172 #[.slice ao n c, .func (.func 171) #[] #[]] w (fN w aF 6 mkA (thr rnx [(0, 0), (0, 1), (0, 2), (0, 3), (0, 4), (0, 5)] (0, l, fun _ => (0 : Int)))) := by
  have b1 := aa w (.cells #[.int .u64 0, .int .u64 0, .int .u64 0, .int .u64 0, .int .u64 0, .int .u64 0] 46);have b2 := aa (w.alloc (.cells #[.int .u64 0, .int .u64 0, .int .u64 0, .int .u64 0, .int .u64 0, .int .u64 0] 46)) (.cells #[.int .u64 0, .int .u64 0, .int .u64 0, .int .u64 0, .int .u64 0, .int .u64 0] 46);have b3 := aa ((w.alloc (.cells #[.int .u64 0, .int .u64 0, .int .u64 0, .int .u64 0, .int .u64 0, .int .u64 0] 46)).alloc (.cells #[.int .u64 0, .int .u64 0, .int .u64 0, .int .u64 0, .int .u64 0, .int .u64 0] 46)) (.cells #[.int .u64 0, .int .u64 0, .int .u64 0, .int .u64 0, .int .u64 0, .int .u64 0] 46);have z1 := bC w (.cells #[.int .u64 0, .int .u64 0, .int .u64 0, .int .u64 0, .int .u64 0, .int .u64 0] 46);have z2 := bC (w.alloc (.cells #[.int .u64 0, .int .u64 0, .int .u64 0, .int .u64 0, .int .u64 0, .int .u64 0] 46)) (.cells #[.int .u64 0, .int .u64 0, .int .u64 0, .int .u64 0, .int .u64 0, .int .u64 0] 46);have z3 := bC ((w.alloc (.cells #[.int .u64 0, .int .u64 0, .int .u64 0, .int .u64 0, .int .u64 0, .int .u64 0] 46)).alloc (.cells #[.int .u64 0, .int .u64 0, .int .u64 0, .int .u64 0, .int .u64 0, .int .u64 0] 46)) (.cells #[.int .u64 0, .int .u64 0, .int .u64 0, .int .u64 0, .int .u64 0, .int .u64 0] 46);have y1 := ((au w [.int .u64 0, .int .u64 0, .int .u64 0, .int .u64 0, .int .u64 0, .int .u64 0] 46).keep b2).keep b3;have y2 := (au (w.alloc (.cells #[.int .u64 0, .int .u64 0, .int .u64 0, .int .u64 0, .int .u64 0, .int .u64 0] 46)) [.int .u64 0, .int .u64 0, .int .u64 0, .int .u64 0, .int .u64 0, .int .u64 0] 46).keep b3;have y3 := au ((w.alloc (.cells #[.int .u64 0, .int .u64 0, .int .u64 0, .int .u64 0, .int .u64 0, .int .u64 0] 46)).alloc (.cells #[.int .u64 0, .int .u64 0, .int .u64 0, .int .u64 0, .int .u64 0, .int .u64 0] 46)) [.int .u64 0, .int .u64 0, .int .u64 0, .int .u64 0, .int .u64 0, .int .u64 0] 46;rw[z2, z1] at y3;rw[z1] at y2;rw[z2, z1] at z3;obtain⟨W3, hW3⟩ : ∃ W3, Hid ((((w.alloc (.cells #[.int .u64 0, .int .u64 0, .int .u64 0, .int .u64 0, .int .u64 0, .int .u64 0] 46)).alloc (.cells #[.int .u64 0, .int .u64 0, .int .u64 0, .int .u64 0, .int .u64 0, .int .u64 0] 46)).alloc (.cells #[.int .u64 0, .int .u64 0, .int .u64 0, .int .u64 0, .int .u64 0, .int .u64 0] 46)) = W3) := ⟨_, rfl⟩;have BB := ai (ai b1 b2) b3;rw[hW3.out] at BB y1 y2 y3 z3;have HN := aj (sq (A.keep BB) (by omega));have Y1 := aj y1;have Y2 := aj y2;have Y3 := aj y3;have Z3 := aj z3;have HBB := aj BB;have HL := aj hl;clear b1 b2 b3 z1 z2 z3 y1 y2 y3 BB A hl;obtain⟨st, hst⟩ : ∃ st, Hid (thr rnx [(0, 0), (0, 1), (0, 2), (0, 3), (0, 4), (0, 5)] (0, l, fun _ => (0 : Int)) = st) := ⟨_, rfl⟩
  have hsl : st.2.1.length ≤ n := by have h := j3 [(0, 0), (0, 1), (0, 2), (0, 3), (0, 4), (0, 5)] (0, l, fun _ => (0 : Int)); rw[hst.out] at h; rw[HL.out] at h; exact h
  rw[hst.out];go_enter Tryz.func172, Tryz.ntmps172;go_wp2_with fail;rw[hW3.out];refine HN.out.mono ?_
  rintro e' w4 ⟨g, b', rfl, hg, hb', X4, B4⟩;have b5 := aa w4 (.cells #[.pointer (some ⟨g, 0, none⟩)] 286);have v5 := au w4 [.pointer (some ⟨g, 0, none⟩)] 286;have z5 := bC w4 (.cells #[.pointer (some ⟨g, 0, none⟩)] 286);obtain⟨W5, hW5⟩ : ∃ W5, Hid (w4.alloc (.cells #[.pointer (some ⟨g, 0, none⟩)] 286) = W5) := ⟨_, rfl⟩;rw[hW5.out] at b5 v5 z5;have hgl := X4.lt;have hz3 := Z3.out;have hz4 := B4.size
  have F0 : jT W5 W5.heap.size aF [.int .u64 0, .int .u64 0, .int .u64 0, .int .u64 0, .int .u64 0, .int .u64 0] (fun _ => 0) := fun o => match o with
    | 0 => ⟨fun _ => rfl, fun h => absurd h (by decide), fun h => absurd h (by decide)⟩
    | 1 => ⟨fun _ => rfl, fun h => absurd h (by decide), fun h => absurd h (by decide)⟩
    | 2 => ⟨fun _ => rfl, fun h => absurd h (by decide), fun h => absurd h (by decide)⟩
    | 3 => ⟨fun _ => rfl, fun h => absurd h (by decide), fun h => absurd h (by decide)⟩
    | 4 => ⟨fun _ => rfl, fun h => absurd h (by decide), fun h => absurd h (by decide)⟩
    | 5 => ⟨fun _ => rfl, fun h => absurd h (by decide), fun h => absurd h (by decide)⟩
    | k + 6 => ⟨fun h => absurd h (by simp[aF]), fun h => absurd h (by simp[aF]), fun h => absurd h (by simp[aF])⟩
  have U := fK (l4 (w0 := w) (B := W5.heap.size) (g := g) (b := b') (vb := w4.heap.size) (rb := w.heap.size + 1) (T := 46) (vt := 286)) (s := (0, l, fun _ => (0 : Int))) (w := W5) ⟨⟨X4.keep b5, v5, ⟨_, rfl, (Y2.out.keep B4).keep b5, F0⟩, ai (ai HBB.out B4) b5, by omega, by omega, by omega, by omega, by omega, by omega, by omega, by omega⟩, Nat.le_refl _⟩ (by simp[aF]) trivial;rw[hst.out] at U;have HU := aj U;have P1 := aj ((Y1.out.keep B4).keep b5);have P3 := aj ((Y3.out.keep B4).keep b5);have HS := aj (show w.heap.size ≠ g ∧ w.heap.size + 1 + 1 ≠ g ∧ w.heap.size + 1 + 1 ≠ w.heap.size + 1 ∧ w.heap.size ≠ w.heap.size + 1 ∧ w.heap.size ≤ W5.heap.size ∧ w.heap.size ≤ g from⟨by omega, by omega, by omega, by omega, by omega, by omega⟩);clear U b5 v5 z5 hgl hz3 hz4 F0 X4 B4 hg hb' HN Y1 Y2 Y3;go_wp2_with fail;rw[hW5.out];refine HU.out.mono ?_
  rintro e' w6 ⟨rfl, ⟨I6, hB6⟩, C6⟩;have c6 := I6.var.cell (i := 0) rfl;go_wp2_with fail;refine(sU I6.rd (by omega)).mono ?_
  rintro e' w7 ⟨rfl, X7, B7⟩;obtain⟨cs6, hl6, R6, F6⟩:= I6.rc;obtain⟨XS, hXS⟩ : ∃ XS, Hid (st.2.2 = XS) := ⟨_, rfl⟩;rw[hXS.out] at F6;have hF6 := aj F6;have q0 := (F6 0).1 rfl;have q1 := (F6 1).1 rfl;have q2 := (F6 2).1 rfl;have q3 := (F6 3).1 rfl;have q4 := (F6 4).1 rfl;have q5 := (F6 5).1 rfl
  have ecs : cs6 = [.int .u64 (XS 0), .int .u64 (XS 1), .int .u64 (XS 2), .int .u64 (XS 3), .int .u64 (XS 4), .int .u64 (XS 5)] := by
    apply List.ext_getElem?;intro i
    match i with
    | 0 => rw[q0]; rfl
    | 1 => rw[q1]; rfl
    | 2 => rw[q2]; rfl
    | 3 => rw[q3]; rfl
    | 4 => rw[q4]; rfl
    | 5 => rw[q5]; rfl
    | k + 6 => rw[List.getElem?_eq_none (by omega), List.getElem?_eq_none (by simp)]
  subst ecs;have C7 := But.chg B7;have K1 := (P1.out.chg C6 (fun h => h.elim HS.out.1 HS.out.2.2.2.1)).chg C7 HS.out.1;have K3 := (P3.out.chg C6 (fun h => h.elim HS.out.2.1 HS.out.2.2.1)).chg C7 HS.out.2.1;have K2 := R6.chg C7 I6.s1;have BF := aj (B7.below I6.bel HS.out.2.2.2.2.2 (Nat.le_refl _));have hF7 := aj ((hF6.out.off (w' := w7) B7.size (fun y hy hy2 => B7.block y hy2 (by have := I6.g1; omega))));have hBw := aj (show w.heap.size < W5.heap.size ∧ w.heap.size < w7.heap.size from⟨by have := I6.r1; omega, K1.lt⟩);have u0 := K1.cell (i := 0) rfl;have f0 := K1.free 0;have v0 := K2.cell (i := 0) rfl;have o0 := K3.cell (i := 0) rfl;have u1 := K1.cell (i := 1) rfl;have f1 := K1.free 1;have v1 := K2.cell (i := 1) rfl;have o1 := K3.cell (i := 1) rfl;have u2 := K1.cell (i := 2) rfl;have f2 := K1.free 2;have v2 := K2.cell (i := 2) rfl;have o2 := K3.cell (i := 2) rfl;have u3 := K1.cell (i := 3) rfl;have f3 := K1.free 3;have v3 := K2.cell (i := 3) rfl;have o3 := K3.cell (i := 3) rfl;have u4 := K1.cell (i := 4) rfl;have f4 := K1.free 4;have v4 := K2.cell (i := 4) rfl;have o4 := K3.cell (i := 4) rfl;have u5 := K1.cell (i := 5) rfl;have f5 := K1.free 5;have v5 := K2.cell (i := 5) rfl;have o5 := K3.cell (i := 5) rfl;have KFblk := aj (show Blk ((((((w7.setCell ⟨w.heap.size, 0, none⟩ (.int .u64 (XS 0))).setCell ⟨w.heap.size, 1, none⟩ (.int .u64 (XS 1))).setCell ⟨w.heap.size, 2, none⟩ (.int .u64 (XS 2))).setCell ⟨w.heap.size, 3, none⟩ (.int .u64 (XS 3))).setCell ⟨w.heap.size, 4, none⟩ (.int .u64 (XS 4))).setCell ⟨w.heap.size, 5, none⟩ (.int .u64 (XS 5))) w.heap.size [.int .u64 (XS 0), .int .u64 (XS 1), .int .u64 (XS 2), .int .u64 (XS 3), .int .u64 (XS 4), .int .u64 (XS 5)] 46 from((((((K1.setCell (i := 0) (.int .u64 (XS 0))).setCell (i := 1) (.int .u64 (XS 1))).setCell (i := 2) (.int .u64 (XS 2))).setCell (i := 3) (.int .u64 (XS 3))).setCell (i := 4) (.int .u64 (XS 4))).setCell (i := 5) (.int .u64 (XS 5))));have KFchg := aj (show Chg (fun x => x = w.heap.size) w7 ((((((w7.setCell ⟨w.heap.size, 0, none⟩ (.int .u64 (XS 0))).setCell ⟨w.heap.size, 1, none⟩ (.int .u64 (XS 1))).setCell ⟨w.heap.size, 2, none⟩ (.int .u64 (XS 2))).setCell ⟨w.heap.size, 3, none⟩ (.int .u64 (XS 3))).setCell ⟨w.heap.size, 4, none⟩ (.int .u64 (XS 4))).setCell ⟨w.heap.size, 5, none⟩ (.int .u64 (XS 5))) from(((((((Chg.refl (fun x => x = w.heap.size) w7).cell (g := w.heap.size) (i := 0) (.inl rfl) (.int .u64 (XS 0))).cell (g := w.heap.size) (i := 1) (.inl rfl) (.int .u64 (XS 1))).cell (g := w.heap.size) (i := 2) (.inl rfl) (.int .u64 (XS 2))).cell (g := w.heap.size) (i := 3) (.inl rfl) (.int .u64 (XS 3))).cell (g := w.heap.size) (i := 4) (.inl rfl) (.int .u64 (XS 4))).cell (g := w.heap.size) (i := 5) (.inl rfl) (.int .u64 (XS 5))));have KFbel := aj (show Below w.heap.size w ((((((w7.setCell ⟨w.heap.size, 0, none⟩ (.int .u64 (XS 0))).setCell ⟨w.heap.size, 1, none⟩ (.int .u64 (XS 1))).setCell ⟨w.heap.size, 2, none⟩ (.int .u64 (XS 2))).setCell ⟨w.heap.size, 3, none⟩ (.int .u64 (XS 3))).setCell ⟨w.heap.size, 4, none⟩ (.int .u64 (XS 4))).setCell ⟨w.heap.size, 5, none⟩ (.int .u64 (XS 5))) from((((((BF.out.setCell (p := ⟨w.heap.size, 0, none⟩) (Nat.le_refl _) (.int .u64 (XS 0))).setCell (p := ⟨w.heap.size, 1, none⟩) (Nat.le_refl _) (.int .u64 (XS 1))).setCell (p := ⟨w.heap.size, 2, none⟩) (Nat.le_refl _) (.int .u64 (XS 2))).setCell (p := ⟨w.heap.size, 3, none⟩) (Nat.le_refl _) (.int .u64 (XS 3))).setCell (p := ⟨w.heap.size, 4, none⟩) (Nat.le_refl _) (.int .u64 (XS 4))).setCell (p := ⟨w.heap.size, 5, none⟩) (Nat.le_refl _) (.int .u64 (XS 5))));have KZblk := aj (show Blk ((((((w7.setCell ⟨w.heap.size, 0, none⟩ (.int .u64 0)).setCell ⟨w.heap.size, 1, none⟩ (.int .u64 0)).setCell ⟨w.heap.size, 2, none⟩ (.int .u64 0)).setCell ⟨w.heap.size, 3, none⟩ (.int .u64 0)).setCell ⟨w.heap.size, 4, none⟩ (.int .u64 0)).setCell ⟨w.heap.size, 5, none⟩ (.int .u64 0)) w.heap.size [.int .u64 0, .int .u64 0, .int .u64 0, .int .u64 0, .int .u64 0, .int .u64 0] 46 from((((((K1.setCell (i := 0) (.int .u64 0)).setCell (i := 1) (.int .u64 0)).setCell (i := 2) (.int .u64 0)).setCell (i := 3) (.int .u64 0)).setCell (i := 4) (.int .u64 0)).setCell (i := 5) (.int .u64 0)))
  have KZchg := aj (show Chg (fun x => x = w.heap.size) w7 ((((((w7.setCell ⟨w.heap.size, 0, none⟩ (.int .u64 0)).setCell ⟨w.heap.size, 1, none⟩ (.int .u64 0)).setCell ⟨w.heap.size, 2, none⟩ (.int .u64 0)).setCell ⟨w.heap.size, 3, none⟩ (.int .u64 0)).setCell ⟨w.heap.size, 4, none⟩ (.int .u64 0)).setCell ⟨w.heap.size, 5, none⟩ (.int .u64 0)) from(((((((Chg.refl (fun x => x = w.heap.size) w7).cell (g := w.heap.size) (i := 0) (.inl rfl) (.int .u64 0)).cell (g := w.heap.size) (i := 1) (.inl rfl) (.int .u64 0)).cell (g := w.heap.size) (i := 2) (.inl rfl) (.int .u64 0)).cell (g := w.heap.size) (i := 3) (.inl rfl) (.int .u64 0)).cell (g := w.heap.size) (i := 4) (.inl rfl) (.int .u64 0)).cell (g := w.heap.size) (i := 5) (.inl rfl) (.int .u64 0)));have KZbel := aj (show Below w.heap.size w ((((((w7.setCell ⟨w.heap.size, 0, none⟩ (.int .u64 0)).setCell ⟨w.heap.size, 1, none⟩ (.int .u64 0)).setCell ⟨w.heap.size, 2, none⟩ (.int .u64 0)).setCell ⟨w.heap.size, 3, none⟩ (.int .u64 0)).setCell ⟨w.heap.size, 4, none⟩ (.int .u64 0)).setCell ⟨w.heap.size, 5, none⟩ (.int .u64 0)) from((((((BF.out.setCell (p := ⟨w.heap.size, 0, none⟩) (Nat.le_refl _) (.int .u64 0)).setCell (p := ⟨w.heap.size, 1, none⟩) (Nat.le_refl _) (.int .u64 0)).setCell (p := ⟨w.heap.size, 2, none⟩) (Nat.le_refl _) (.int .u64 0)).setCell (p := ⟨w.heap.size, 3, none⟩) (Nat.le_refl _) (.int .u64 0)).setCell (p := ⟨w.heap.size, 4, none⟩) (Nat.le_refl _) (.int .u64 0)).setCell (p := ⟨w.heap.size, 5, none⟩) (Nat.le_refl _) (.int .u64 0)));clear K1 K2 K3 I6 C6 C7 B7 X7 R6 hl6 F6 c6 HU P1 P3 q0 q1 q2 q3 q4 q5;obtain⟨E0, hE0⟩ : ∃ E0, Hid (eM st.1 st.2.1 = E0) := ⟨_, rfl⟩;rw[hE0.out];by_cases hE : E0 = 0
  · subst hE
    go_wp2;refine bodyPost_ret (fA rfl rfl rfl (fG (KFblk.out.cell (i := 0) rfl) (KFblk.out.cell (i := 1) rfl) (KFblk.out.cell (i := 2) rfl) (KFblk.out.cell (i := 3) rfl) (KFblk.out.cell (i := 4) rfl) (KFblk.out.cell (i := 5) rfl))) rfl ?_
    exact⟨⟨[.int .u64 (XS 0), .int .u64 (XS 1), .int .u64 (XS 2), .int .u64 (XS 3), .int .u64 (XS 4), .int .u64 (XS 5)], XS, 0, rfl, rfl, (hF7.out.off KFchg.out.size (fun y hy _ => KFchg.out.same y (by assumption) (fun e => by have e' : y = w.heap.size := e; have := hBw.out; omega))).low (by have := hBw.out; omega), fun _ => ⟨rfl, hXS.out.symm⟩, fun h => absurd hE0.out h⟩, KFbel.out⟩
  · have hE1 : ¬ (E0 = 0) := hE
    go_wp2;refine bodyPost_ret (fA rfl rfl rfl (fG (KZblk.out.cell (i := 0) rfl) (KZblk.out.cell (i := 1) rfl) (KZblk.out.cell (i := 2) rfl) (KZblk.out.cell (i := 3) rfl) (KZblk.out.cell (i := 4) rfl) (KZblk.out.cell (i := 5) rfl))) rfl ?_
    exact⟨⟨[.int .u64 0, .int .u64 0, .int .u64 0, .int .u64 0, .int .u64 0, .int .u64 0], fun _ => 0, 80, rfl, rfl, (fun o => match o with | 0 => ⟨fun _ => rfl, fun h => absurd h (by decide), fun h => absurd h (by decide)⟩ | 1 => ⟨fun _ => rfl, fun h => absurd h (by decide), fun h => absurd h (by decide)⟩ | 2 => ⟨fun _ => rfl, fun h => absurd h (by decide), fun h => absurd h (by decide)⟩ | 3 => ⟨fun _ => rfl, fun h => absurd h (by decide), fun h => absurd h (by decide)⟩ | 4 => ⟨fun _ => rfl, fun h => absurd h (by decide), fun h => absurd h (by decide)⟩ | 5 => ⟨fun _ => rfl, fun h => absurd h (by decide), fun h => absurd h (by decide)⟩ | k + 6 => ⟨fun h => absurd h (by simp[aF]), fun h => absurd h (by simp[aF]), fun h => absurd h (by simp[aF])⟩), fun h => absurd (hE0.out.symm.trans h) hE1, fun _ => ⟨rfl, rfl⟩⟩, KZbel.out⟩
theorem mK{y6:Value}(c0:w.cell? ⟨g,0,none⟩=some y0)(c1:w.cell? ⟨g,1,none⟩=some y1)(c2:w.cell? ⟨g,2,none⟩=some y2)(c3:w.cell? ⟨g,3,none⟩=some y3)(c4:w.cell? ⟨g,4,none⟩=some y4)(c5:w.cell? ⟨g,5,none⟩=some y5)(c6:w.cell? ⟨g,6,none⟩=some y6):(loadVar 51 ⟨g,0,none⟩).run Tryz.prog w=.ok (.agg #[y0,y1,y2,y3,y4,y5,y6]) w:=by go_simp
theorem uS(A : ByA w bb ao n c l)(hn : n ≤ 1000000000)(hl : l.length = n) :
    Calls Tryz.prog 177 #[.slice ao n c, .func (.func 176) #[] #[]] w (fN w bN 7 mkA (thr rnx [(0, 0), (0, 1), (0, 2), (0, 3), (0, 4), (0, 5), (2, 6)] (0, l, fun _ => (0 : Int)))) := by
  have b1 := aa w (.cells #[.int .u64 0, .int .u64 0, .int .u64 0, .int .u64 0, .int .u64 0, .int .u64 0, .slice none 0 0] 51);have b2 := aa (w.alloc (.cells #[.int .u64 0, .int .u64 0, .int .u64 0, .int .u64 0, .int .u64 0, .int .u64 0, .slice none 0 0] 51)) (.cells #[.int .u64 0, .int .u64 0, .int .u64 0, .int .u64 0, .int .u64 0, .int .u64 0, .slice none 0 0] 51);have b3 := aa ((w.alloc (.cells #[.int .u64 0, .int .u64 0, .int .u64 0, .int .u64 0, .int .u64 0, .int .u64 0, .slice none 0 0] 51)).alloc (.cells #[.int .u64 0, .int .u64 0, .int .u64 0, .int .u64 0, .int .u64 0, .int .u64 0, .slice none 0 0] 51)) (.cells #[.int .u64 0, .int .u64 0, .int .u64 0, .int .u64 0, .int .u64 0, .int .u64 0, .slice none 0 0] 51);have z1 := bC w (.cells #[.int .u64 0, .int .u64 0, .int .u64 0, .int .u64 0, .int .u64 0, .int .u64 0, .slice none 0 0] 51);have z2 := bC (w.alloc (.cells #[.int .u64 0, .int .u64 0, .int .u64 0, .int .u64 0, .int .u64 0, .int .u64 0, .slice none 0 0] 51)) (.cells #[.int .u64 0, .int .u64 0, .int .u64 0, .int .u64 0, .int .u64 0, .int .u64 0, .slice none 0 0] 51);have z3 := bC ((w.alloc (.cells #[.int .u64 0, .int .u64 0, .int .u64 0, .int .u64 0, .int .u64 0, .int .u64 0, .slice none 0 0] 51)).alloc (.cells #[.int .u64 0, .int .u64 0, .int .u64 0, .int .u64 0, .int .u64 0, .int .u64 0, .slice none 0 0] 51)) (.cells #[.int .u64 0, .int .u64 0, .int .u64 0, .int .u64 0, .int .u64 0, .int .u64 0, .slice none 0 0] 51);have y1 := ((au w [.int .u64 0, .int .u64 0, .int .u64 0, .int .u64 0, .int .u64 0, .int .u64 0, .slice none 0 0] 51).keep b2).keep b3;have y2 := (au (w.alloc (.cells #[.int .u64 0, .int .u64 0, .int .u64 0, .int .u64 0, .int .u64 0, .int .u64 0, .slice none 0 0] 51)) [.int .u64 0, .int .u64 0, .int .u64 0, .int .u64 0, .int .u64 0, .int .u64 0, .slice none 0 0] 51).keep b3;have y3 := au ((w.alloc (.cells #[.int .u64 0, .int .u64 0, .int .u64 0, .int .u64 0, .int .u64 0, .int .u64 0, .slice none 0 0] 51)).alloc (.cells #[.int .u64 0, .int .u64 0, .int .u64 0, .int .u64 0, .int .u64 0, .int .u64 0, .slice none 0 0] 51)) [.int .u64 0, .int .u64 0, .int .u64 0, .int .u64 0, .int .u64 0, .int .u64 0, .slice none 0 0] 51;rw[z2, z1] at y3;rw[z1] at y2;rw[z2, z1] at z3;obtain⟨W3, hW3⟩ : ∃ W3, Hid ((((w.alloc (.cells #[.int .u64 0, .int .u64 0, .int .u64 0, .int .u64 0, .int .u64 0, .int .u64 0, .slice none 0 0] 51)).alloc (.cells #[.int .u64 0, .int .u64 0, .int .u64 0, .int .u64 0, .int .u64 0, .int .u64 0, .slice none 0 0] 51)).alloc (.cells #[.int .u64 0, .int .u64 0, .int .u64 0, .int .u64 0, .int .u64 0, .int .u64 0, .slice none 0 0] 51)) = W3) := ⟨_, rfl⟩;have BB := ai (ai b1 b2) b3;rw[hW3.out] at BB y1 y2 y3 z3;have HN := aj (sq (A.keep BB) (by omega));have Y1 := aj y1;have Y2 := aj y2;have Y3 := aj y3;have Z3 := aj z3;have HBB := aj BB;have HL := aj hl;clear b1 b2 b3 z1 z2 z3 y1 y2 y3 BB A hl;obtain⟨st, hst⟩ : ∃ st, Hid (thr rnx [(0, 0), (0, 1), (0, 2), (0, 3), (0, 4), (0, 5), (2, 6)] (0, l, fun _ => (0 : Int)) = st) := ⟨_, rfl⟩
  have hsl : st.2.1.length ≤ n := by have h := j3 [(0, 0), (0, 1), (0, 2), (0, 3), (0, 4), (0, 5), (2, 6)] (0, l, fun _ => (0 : Int)); rw[hst.out] at h; rw[HL.out] at h; exact h
  rw[hst.out];go_enter Tryz.func177, Tryz.ntmps177;go_wp2_with fail;rw[hW3.out];refine HN.out.mono ?_
  rintro e' w4 ⟨g, b', rfl, hg, hb', X4, B4⟩;have b5 := aa w4 (.cells #[.pointer (some ⟨g, 0, none⟩)] 286);have v5 := au w4 [.pointer (some ⟨g, 0, none⟩)] 286;have z5 := bC w4 (.cells #[.pointer (some ⟨g, 0, none⟩)] 286);obtain⟨W5, hW5⟩ : ∃ W5, Hid (w4.alloc (.cells #[.pointer (some ⟨g, 0, none⟩)] 286) = W5) := ⟨_, rfl⟩;rw[hW5.out] at b5 v5 z5;have hgl := X4.lt;have hz3 := Z3.out;have hz4 := B4.size
  have F0 : jT W5 W5.heap.size bN [.int .u64 0, .int .u64 0, .int .u64 0, .int .u64 0, .int .u64 0, .int .u64 0, .slice none 0 0] (fun _ => 0) := fun o => match o with
    | 0 => ⟨fun _ => rfl, fun h => absurd h (by decide), fun h => absurd h (by decide)⟩
    | 1 => ⟨fun _ => rfl, fun h => absurd h (by decide), fun h => absurd h (by decide)⟩
    | 2 => ⟨fun _ => rfl, fun h => absurd h (by decide), fun h => absurd h (by decide)⟩
    | 3 => ⟨fun _ => rfl, fun h => absurd h (by decide), fun h => absurd h (by decide)⟩
    | 4 => ⟨fun _ => rfl, fun h => absurd h (by decide), fun h => absurd h (by decide)⟩
    | 5 => ⟨fun _ => rfl, fun h => absurd h (by decide), fun h => absurd h (by decide)⟩
    | 6 => ⟨fun h => absurd h (by decide), fun h => absurd h (by decide), fun _ => ⟨none, 0, 0, rfl, lR _ _, by decide⟩⟩
    | k + 7 => ⟨fun h => absurd h (by simp[bN]), fun h => absurd h (by simp[bN]), fun h => absurd h (by simp[bN])⟩
  have U := lG (yv (w0 := w) (B := W5.heap.size) (g := g) (b := b') (vb := w4.heap.size) (rb := w.heap.size + 1) (T := 51) (vt := 286)) (s := (0, l, fun _ => (0 : Int))) (w := W5) ⟨⟨X4.keep b5, v5, ⟨_, rfl, (Y2.out.keep B4).keep b5, F0⟩, ai (ai HBB.out B4) b5, by omega, by omega, by omega, by omega, by omega, by omega, by omega, by omega⟩, Nat.le_refl _⟩ (by simp[bN]) trivial;rw[hst.out] at U;have HU := aj U;have P1 := aj ((Y1.out.keep B4).keep b5);have P3 := aj ((Y3.out.keep B4).keep b5);have HS := aj (show w.heap.size ≠ g ∧ w.heap.size + 1 + 1 ≠ g ∧ w.heap.size + 1 + 1 ≠ w.heap.size + 1 ∧ w.heap.size ≠ w.heap.size + 1 ∧ w.heap.size ≤ W5.heap.size ∧ w.heap.size ≤ g from⟨by omega, by omega, by omega, by omega, by omega, by omega⟩);clear U b5 v5 z5 hgl hz3 hz4 F0 X4 B4 hg hb' HN Y1 Y2 Y3;go_wp2_with fail;rw[hW5.out];refine HU.out.mono ?_
  rintro e' w6 ⟨rfl, ⟨I6, hB6⟩, C6⟩;have c6 := I6.var.cell (i := 0) rfl;go_wp2_with fail;refine(sU I6.rd (by omega)).mono ?_
  rintro e' w7 ⟨rfl, X7, B7⟩;obtain⟨cs6, hl6, R6, F6⟩:= I6.rc;obtain⟨XS, hXS⟩ : ∃ XS, Hid (st.2.2 = XS) := ⟨_, rfl⟩;rw[hXS.out] at F6;have hF6 := aj F6;have q0 := (F6 0).1 rfl;have q1 := (F6 1).1 rfl;have q2 := (F6 2).1 rfl;have q3 := (F6 3).1 rfl;have q4 := (F6 4).1 rfl;have q5 := (F6 5).1 rfl;obtain⟨a6, n6, d6, q6, -, -⟩:= (F6 6).2.2 rfl
  have ecs : cs6 = [.int .u64 (XS 0), .int .u64 (XS 1), .int .u64 (XS 2), .int .u64 (XS 3), .int .u64 (XS 4), .int .u64 (XS 5), .slice a6 n6 d6] := by
    apply List.ext_getElem?;intro i
    match i with
    | 0 => rw[q0]; rfl
    | 1 => rw[q1]; rfl
    | 2 => rw[q2]; rfl
    | 3 => rw[q3]; rfl
    | 4 => rw[q4]; rfl
    | 5 => rw[q5]; rfl
    | 6 => rw[q6]; rfl
    | k + 7 => rw[List.getElem?_eq_none (by omega), List.getElem?_eq_none (by simp)]
  subst ecs;have C7 := But.chg B7;have K1 := (P1.out.chg C6 (fun h => h.elim HS.out.1 HS.out.2.2.2.1)).chg C7 HS.out.1;have K3 := (P3.out.chg C6 (fun h => h.elim HS.out.2.1 HS.out.2.2.1)).chg C7 HS.out.2.1;have K2 := R6.chg C7 I6.s1;have BF := aj (B7.below I6.bel HS.out.2.2.2.2.2 (Nat.le_refl _));have hF7 := aj ((hF6.out.off (w' := w7) B7.size (fun y hy hy2 => B7.block y hy2 (by have := I6.g1; omega))));have hBw := aj (show w.heap.size < W5.heap.size ∧ w.heap.size < w7.heap.size from⟨by have := I6.r1; omega, K1.lt⟩);have u0 := K1.cell (i := 0) rfl;have f0 := K1.free 0;have v0 := K2.cell (i := 0) rfl;have o0 := K3.cell (i := 0) rfl;have u1 := K1.cell (i := 1) rfl;have f1 := K1.free 1;have v1 := K2.cell (i := 1) rfl;have o1 := K3.cell (i := 1) rfl;have u2 := K1.cell (i := 2) rfl;have f2 := K1.free 2;have v2 := K2.cell (i := 2) rfl;have o2 := K3.cell (i := 2) rfl;have u3 := K1.cell (i := 3) rfl;have f3 := K1.free 3;have v3 := K2.cell (i := 3) rfl;have o3 := K3.cell (i := 3) rfl;have u4 := K1.cell (i := 4) rfl;have f4 := K1.free 4;have v4 := K2.cell (i := 4) rfl;have o4 := K3.cell (i := 4) rfl;have u5 := K1.cell (i := 5) rfl;have f5 := K1.free 5;have v5 := K2.cell (i := 5) rfl;have o5 := K3.cell (i := 5) rfl;have u6 := K1.cell (i := 6) rfl;have f6 := K1.free 6;have v6 := K2.cell (i := 6) rfl;have o6 := K3.cell (i := 6) rfl;have KFblk := aj (show Blk (((((((w7.setCell ⟨w.heap.size, 0, none⟩ (.int .u64 (XS 0))).setCell ⟨w.heap.size, 1, none⟩ (.int .u64 (XS 1))).setCell ⟨w.heap.size, 2, none⟩ (.int .u64 (XS 2))).setCell ⟨w.heap.size, 3, none⟩ (.int .u64 (XS 3))).setCell ⟨w.heap.size, 4, none⟩ (.int .u64 (XS 4))).setCell ⟨w.heap.size, 5, none⟩ (.int .u64 (XS 5))).setCell ⟨w.heap.size, 6, none⟩ (.slice a6 n6 d6)) w.heap.size [.int .u64 (XS 0), .int .u64 (XS 1), .int .u64 (XS 2), .int .u64 (XS 3), .int .u64 (XS 4), .int .u64 (XS 5), .slice a6 n6 d6] 51 from(((((((K1.setCell (i := 0) (.int .u64 (XS 0))).setCell (i := 1) (.int .u64 (XS 1))).setCell (i := 2) (.int .u64 (XS 2))).setCell (i := 3) (.int .u64 (XS 3))).setCell (i := 4) (.int .u64 (XS 4))).setCell (i := 5) (.int .u64 (XS 5))).setCell (i := 6) (.slice a6 n6 d6)));have KFchg := aj (show Chg (fun x => x = w.heap.size) w7 (((((((w7.setCell ⟨w.heap.size, 0, none⟩ (.int .u64 (XS 0))).setCell ⟨w.heap.size, 1, none⟩ (.int .u64 (XS 1))).setCell ⟨w.heap.size, 2, none⟩ (.int .u64 (XS 2))).setCell ⟨w.heap.size, 3, none⟩ (.int .u64 (XS 3))).setCell ⟨w.heap.size, 4, none⟩ (.int .u64 (XS 4))).setCell ⟨w.heap.size, 5, none⟩ (.int .u64 (XS 5))).setCell ⟨w.heap.size, 6, none⟩ (.slice a6 n6 d6)) from((((((((Chg.refl (fun x => x = w.heap.size) w7).cell (g := w.heap.size) (i := 0) (.inl rfl) (.int .u64 (XS 0))).cell (g := w.heap.size) (i := 1) (.inl rfl) (.int .u64 (XS 1))).cell (g := w.heap.size) (i := 2) (.inl rfl) (.int .u64 (XS 2))).cell (g := w.heap.size) (i := 3) (.inl rfl) (.int .u64 (XS 3))).cell (g := w.heap.size) (i := 4) (.inl rfl) (.int .u64 (XS 4))).cell (g := w.heap.size) (i := 5) (.inl rfl) (.int .u64 (XS 5))).cell (g := w.heap.size) (i := 6) (.inl rfl) (.slice a6 n6 d6)));have KFbel := aj (show Below w.heap.size w (((((((w7.setCell ⟨w.heap.size, 0, none⟩ (.int .u64 (XS 0))).setCell ⟨w.heap.size, 1, none⟩ (.int .u64 (XS 1))).setCell ⟨w.heap.size, 2, none⟩ (.int .u64 (XS 2))).setCell ⟨w.heap.size, 3, none⟩ (.int .u64 (XS 3))).setCell ⟨w.heap.size, 4, none⟩ (.int .u64 (XS 4))).setCell ⟨w.heap.size, 5, none⟩ (.int .u64 (XS 5))).setCell ⟨w.heap.size, 6, none⟩ (.slice a6 n6 d6)) from(((((((BF.out.setCell (p := ⟨w.heap.size, 0, none⟩) (Nat.le_refl _) (.int .u64 (XS 0))).setCell (p := ⟨w.heap.size, 1, none⟩) (Nat.le_refl _) (.int .u64 (XS 1))).setCell (p := ⟨w.heap.size, 2, none⟩) (Nat.le_refl _) (.int .u64 (XS 2))).setCell (p := ⟨w.heap.size, 3, none⟩) (Nat.le_refl _) (.int .u64 (XS 3))).setCell (p := ⟨w.heap.size, 4, none⟩) (Nat.le_refl _) (.int .u64 (XS 4))).setCell (p := ⟨w.heap.size, 5, none⟩) (Nat.le_refl _) (.int .u64 (XS 5))).setCell (p := ⟨w.heap.size, 6, none⟩) (Nat.le_refl _) (.slice a6 n6 d6)))
  have KZblk := aj (show Blk (((((((w7.setCell ⟨w.heap.size, 0, none⟩ (.int .u64 0)).setCell ⟨w.heap.size, 1, none⟩ (.int .u64 0)).setCell ⟨w.heap.size, 2, none⟩ (.int .u64 0)).setCell ⟨w.heap.size, 3, none⟩ (.int .u64 0)).setCell ⟨w.heap.size, 4, none⟩ (.int .u64 0)).setCell ⟨w.heap.size, 5, none⟩ (.int .u64 0)).setCell ⟨w.heap.size, 6, none⟩ (.slice none 0 0)) w.heap.size [.int .u64 0, .int .u64 0, .int .u64 0, .int .u64 0, .int .u64 0, .int .u64 0, .slice none 0 0] 51 from(((((((K1.setCell (i := 0) (.int .u64 0)).setCell (i := 1) (.int .u64 0)).setCell (i := 2) (.int .u64 0)).setCell (i := 3) (.int .u64 0)).setCell (i := 4) (.int .u64 0)).setCell (i := 5) (.int .u64 0)).setCell (i := 6) (.slice none 0 0)));have KZchg := aj (show Chg (fun x => x = w.heap.size) w7 (((((((w7.setCell ⟨w.heap.size, 0, none⟩ (.int .u64 0)).setCell ⟨w.heap.size, 1, none⟩ (.int .u64 0)).setCell ⟨w.heap.size, 2, none⟩ (.int .u64 0)).setCell ⟨w.heap.size, 3, none⟩ (.int .u64 0)).setCell ⟨w.heap.size, 4, none⟩ (.int .u64 0)).setCell ⟨w.heap.size, 5, none⟩ (.int .u64 0)).setCell ⟨w.heap.size, 6, none⟩ (.slice none 0 0)) from((((((((Chg.refl (fun x => x = w.heap.size) w7).cell (g := w.heap.size) (i := 0) (.inl rfl) (.int .u64 0)).cell (g := w.heap.size) (i := 1) (.inl rfl) (.int .u64 0)).cell (g := w.heap.size) (i := 2) (.inl rfl) (.int .u64 0)).cell (g := w.heap.size) (i := 3) (.inl rfl) (.int .u64 0)).cell (g := w.heap.size) (i := 4) (.inl rfl) (.int .u64 0)).cell (g := w.heap.size) (i := 5) (.inl rfl) (.int .u64 0)).cell (g := w.heap.size) (i := 6) (.inl rfl) (.slice none 0 0)));have KZbel := aj (show Below w.heap.size w (((((((w7.setCell ⟨w.heap.size, 0, none⟩ (.int .u64 0)).setCell ⟨w.heap.size, 1, none⟩ (.int .u64 0)).setCell ⟨w.heap.size, 2, none⟩ (.int .u64 0)).setCell ⟨w.heap.size, 3, none⟩ (.int .u64 0)).setCell ⟨w.heap.size, 4, none⟩ (.int .u64 0)).setCell ⟨w.heap.size, 5, none⟩ (.int .u64 0)).setCell ⟨w.heap.size, 6, none⟩ (.slice none 0 0)) from(((((((BF.out.setCell (p := ⟨w.heap.size, 0, none⟩) (Nat.le_refl _) (.int .u64 0)).setCell (p := ⟨w.heap.size, 1, none⟩) (Nat.le_refl _) (.int .u64 0)).setCell (p := ⟨w.heap.size, 2, none⟩) (Nat.le_refl _) (.int .u64 0)).setCell (p := ⟨w.heap.size, 3, none⟩) (Nat.le_refl _) (.int .u64 0)).setCell (p := ⟨w.heap.size, 4, none⟩) (Nat.le_refl _) (.int .u64 0)).setCell (p := ⟨w.heap.size, 5, none⟩) (Nat.le_refl _) (.int .u64 0)).setCell (p := ⟨w.heap.size, 6, none⟩) (Nat.le_refl _) (.slice none 0 0)));clear K1 K2 K3 I6 C6 C7 B7 X7 R6 hl6 F6 c6 HU P1 P3 q0 q1 q2 q3 q4 q5 q6;obtain⟨E0, hE0⟩ : ∃ E0, Hid (eM st.1 st.2.1 = E0) := ⟨_, rfl⟩;rw[hE0.out];by_cases hE : E0 = 0
  · subst hE
    go_wp2;refine bodyPost_ret (fA rfl rfl rfl (mK (KFblk.out.cell (i := 0) rfl) (KFblk.out.cell (i := 1) rfl) (KFblk.out.cell (i := 2) rfl) (KFblk.out.cell (i := 3) rfl) (KFblk.out.cell (i := 4) rfl) (KFblk.out.cell (i := 5) rfl) (KFblk.out.cell (i := 6) rfl))) rfl ?_
    exact⟨⟨[.int .u64 (XS 0), .int .u64 (XS 1), .int .u64 (XS 2), .int .u64 (XS 3), .int .u64 (XS 4), .int .u64 (XS 5), .slice a6 n6 d6], XS, 0, rfl, rfl, (hF7.out.off KFchg.out.size (fun y hy _ => KFchg.out.same y (by assumption) (fun e => by have e' : y = w.heap.size := e; have := hBw.out; omega))).low (by have := hBw.out; omega), fun _ => ⟨rfl, hXS.out.symm⟩, fun h => absurd hE0.out h⟩, KFbel.out⟩
  · have hE1 : ¬ (E0 = 0) := hE
    go_wp2;refine bodyPost_ret (fA rfl rfl rfl (mK (KZblk.out.cell (i := 0) rfl) (KZblk.out.cell (i := 1) rfl) (KZblk.out.cell (i := 2) rfl) (KZblk.out.cell (i := 3) rfl) (KZblk.out.cell (i := 4) rfl) (KZblk.out.cell (i := 5) rfl) (KZblk.out.cell (i := 6) rfl))) rfl ?_
    exact⟨⟨[.int .u64 0, .int .u64 0, .int .u64 0, .int .u64 0, .int .u64 0, .int .u64 0, .slice none 0 0], fun _ => 0, 80, rfl, rfl, (fun o => match o with | 0 => ⟨fun _ => rfl, fun h => absurd h (by decide), fun h => absurd h (by decide)⟩ | 1 => ⟨fun _ => rfl, fun h => absurd h (by decide), fun h => absurd h (by decide)⟩ | 2 => ⟨fun _ => rfl, fun h => absurd h (by decide), fun h => absurd h (by decide)⟩ | 3 => ⟨fun _ => rfl, fun h => absurd h (by decide), fun h => absurd h (by decide)⟩ | 4 => ⟨fun _ => rfl, fun h => absurd h (by decide), fun h => absurd h (by decide)⟩ | 5 => ⟨fun _ => rfl, fun h => absurd h (by decide), fun h => absurd h (by decide)⟩ | 6 => ⟨fun h => absurd h (by decide), fun h => absurd h (by decide), fun _ => ⟨none, 0, 0, rfl, lR _ _, by decide⟩⟩ | k + 7 => ⟨fun h => absurd h (by simp[bN]), fun h => absurd h (by simp[bN]), fun h => absurd h (by simp[bN])⟩), fun h => absurd (hE0.out.symm.trans h) hE1, fun _ => ⟨rfl, rfl⟩⟩, KZbel.out⟩
end
end Rc
end
section
namespace Rc
open Go.RowKit Go.Lib Pg
section
variable {w:World}{bb n c:Nat}{ao a6:Option Addr}{l:List Int}{x0 x1 x2 x3 x4 x5:Int}
attribute [local go_sem] Oper.semAt_some
theorem qm(A : ByA w bb ao n c l)(hn : n ≤ 1000000000)(hl : l.length = n) :
    Calls Tryz.prog 145 #[.slice ao n c, .func (.func 146) #[] #[]] w (fN w aR 1 mkO (thr rnx [(0, 0)] (0, l, fun _ => (0 : Int)))) := by
  have b1 := aa w (.cells #[.int .u64 0] 27);have z1 := bC w (.cells #[.int .u64 0] 27);have y1 := au w [.int .u64 0] 27;obtain⟨W3, hW3⟩ : ∃ W3, Hid (w.alloc (.cells #[.int .u64 0] 27) = W3) := ⟨_, rfl⟩;rw[hW3.out] at b1 y1 z1;have HN := aj (sq (A.keep b1) (by omega));have Y2 := aj y1;have Z3 := aj z1;have HBB := aj b1;have HL := aj hl;clear b1 z1 y1 A hl;obtain⟨st, hst⟩ : ∃ st, Hid (thr rnx [(0, 0)] (0, l, fun _ => (0 : Int)) = st) := ⟨_, rfl⟩
  have hsl : st.2.1.length ≤ n := by have h := j3 [(0, 0)] (0, l, fun _ => (0 : Int)); rw[hst.out] at h; rw[HL.out] at h; exact h
  rw[hst.out];go_enter Tryz.func145, Tryz.ntmps145;go_wp2_with fail;rw[hW3.out];refine HN.out.mono ?_
  rintro e' w4 ⟨g, b', rfl, hg, hb', X4, B4⟩;have b5 := aa w4 (.cells #[.pointer (some ⟨g, 0, none⟩)] 286);have v5 := au w4 [.pointer (some ⟨g, 0, none⟩)] 286;have z5 := bC w4 (.cells #[.pointer (some ⟨g, 0, none⟩)] 286);obtain⟨W5, hW5⟩ : ∃ W5, Hid (w4.alloc (.cells #[.pointer (some ⟨g, 0, none⟩)] 286) = W5) := ⟨_, rfl⟩;rw[hW5.out] at b5 v5 z5;have hgl := X4.lt;have hz3 := Z3.out;have hz4 := B4.size
  have F0 : jT W5 W5.heap.size aR [.int .u64 0] (fun _ => 0) := fun o => match o with
    | 0 => ⟨fun _ => rfl, fun h => absurd h (by decide), fun h => absurd h (by decide)⟩
    | k + 1 => ⟨fun h => absurd h (by simp[aR]), fun h => absurd h (by simp[aR]), fun h => absurd h (by simp[aR])⟩
  have U := iO (qC (w0 := w) (B := W5.heap.size) (g := g) (b := b') (vb := w4.heap.size) (rb := w.heap.size) (T := 27) (vt := 286)) (s := (0, l, fun _ => (0 : Int))) (w := W5) ⟨⟨X4.keep b5, v5, ⟨_, rfl, (Y2.out.keep B4).keep b5, F0⟩, ai (ai HBB.out B4) b5, by omega, by omega, by omega, by omega, by omega, by omega, by omega, by omega⟩, Nat.le_refl _⟩ (by simp[aR]) trivial;rw[hst.out] at U;have HU := aj U;have HS := aj (show w.heap.size ≤ W5.heap.size ∧ w.heap.size ≤ g from⟨by omega, by omega⟩);clear U b5 v5 z5 hgl hz3 hz4 F0 X4 B4 hg hb' HN Y2;go_wp2_with fail;rw[hW5.out];refine HU.out.mono ?_
  rintro e' w6 ⟨rfl, ⟨I6, hB6⟩, C6⟩;have c6 := I6.var.cell (i := 0) rfl;go_wp2_with fail;refine(sU I6.rd (by omega)).mono ?_
  rintro e' w7 ⟨rfl, X7, B7⟩;obtain⟨cs6, hl6, R6, F6⟩:= I6.rc;obtain⟨XS, hXS⟩ : ∃ XS, Hid (st.2.2 = XS) := ⟨_, rfl⟩;rw[hXS.out] at F6;have hF6 := aj F6;have q0 := (F6 0).1 rfl
  have ecs : cs6 = [.int .u64 (XS 0)] := by
    apply List.ext_getElem?;intro i
    match i with
    | 0 => rw[q0]; rfl
    | k + 1 => rw[List.getElem?_eq_none (by omega), List.getElem?_eq_none (by simp)]
  subst ecs;have C7 := But.chg B7;have K2 := R6.chg C7 I6.s1;have BF := aj (B7.below I6.bel HS.out.2 (Nat.le_refl _));have hF7 := aj ((hF6.out.off (w' := w7) B7.size (fun y hy hy2 => B7.block y hy2 (by have := I6.g1; omega))));have v0 := K2.cell (i := 0) rfl;clear K2 I6 C6 C7 B7 X7 R6 hl6 F6 c6 HU q0;obtain⟨E0, hE0⟩ : ∃ E0, Hid (eM st.1 st.2.1 = E0) := ⟨_, rfl⟩;rw[hE0.out];by_cases hE : E0 = 0
  · subst hE
    go_wp2;go_ret2;exact⟨⟨[.int .u64 (XS 0)], XS, 0, rfl, rfl, hF7.out.low HS.out.1, fun _ => ⟨rfl, hXS.out.symm⟩, fun h => absurd hE0.out h⟩, BF.out⟩
  · have hE1 : ¬ (E0 = 0) := hE
    go_wp2;go_ret2;exact⟨⟨[.int .u64 0], fun _ => 0, 80, rfl, rfl, (fun o => match o with | 0 => ⟨fun _ => rfl, fun h => absurd h (by decide), fun h => absurd h (by decide)⟩ | k + 1 => ⟨fun h => absurd h (by simp[aR]), fun h => absurd h (by simp[aR]), fun h => absurd h (by simp[aR])⟩), fun h => absurd (hE0.out.symm.trans h) hE1, fun _ => ⟨rfl, rfl⟩⟩, BF.out⟩
theorem nS :
  Calls Tryz.prog 51 #[.agg #[.int .u64 x0,.int .u64 x1]] w fun e w'=>∃ b n,e=.returned (.slice (some ⟨b,0,none⟩) n n)/\n=(thr (pnx (fun o=>([x0,x1]:List Int).getD o 0)) [(0,0),(0,1)] []).length/\Box w' b ((thr (pnx (fun o=>([x0,x1]:List Int).getD o 0)) [(0,0),(0,1)] []).map (Value.int .u8)) 5/\w.heap.size<=b/\Below w.heap.size w w':=by
 have b1:=aa w (.cells #[.int .u64 x0,.int .u64 x1] 44);have U:=uO (x0:=x0) (x1:=x1) (w:=w.alloc (.cells #[.int .u64 x0,.int .u64 x1] 44));have HB:=aj b1;generalize thr (pnx (fun o=>([x0,x1]:List Int).getD o 0)) [(0,0),(0,1)] []=M at *;have HU:=aj U;clear U;go_enter Tryz.func51,Tryz.ntmps51;go_wp2_with fail;refine HU.out.mono ?_
 rintro e' w1 ⟨b,n,rfl,hn,X,hb,B⟩;have FF:=aj (show n=M.length/\Box w1 b (M.map (Value.int .u8)) 5/\w.heap.size<=b/\Below w.heap.size w w1 from⟨hn,X,Nat.le_trans HB.out.size hb,ai HB.out B⟩);clear hn X hb B HU HB;go_wp2;go_ret;exact⟨b,n,rfl,FF.out⟩
theorem tD(A:ByA w bb ao n c l)(hn:n<=1000000000)(hl:l.length=n) :
  Calls Tryz.prog 168 #[.slice ao n c] w (fN w aY 2 mkA (thr rnx [(0,0),(0,1)] (0,l,fun _=>(0:Int)))):=by
 have b1:=aa w (.cells #[.int .u64 0,.int .u64 0] 44);have y1:=au w [.int .u64 0,.int .u64 0] 44;have z1:=bC w (.cells #[.int .u64 0,.int .u64 0] 44);have U:=rE (A.keep b1) hn hl;generalize thr rnx [(0,0),(0,1)] (0,l,fun _=>(0:Int))=st at *;obtain⟨W1,hW1⟩:∃ W1,Hid (w.alloc (.cells #[.int .u64 0,.int .u64 0] 44)=W1):=⟨_,rfl⟩
 rw[hW1.out] at b1 y1 z1 U;have HU:=aj U;have HB:=aj b1;have HY:=aj y1;have HZ:=aj z1;clear A hl b1 y1 z1 U;go_enter Tryz.func168,Tryz.ntmps168;go_wp2_with fail;rw[hW1.out];refine HU.out.mono ?_
 rintro e' w1 ⟨⟨cs,xs,r,rfl,h1,h2,h3,h4⟩,B⟩;have q0:=(h2 0).1 rfl;have q1:=(h2 1).1 rfl
 have ecs:cs=[.int .u64 (xs 0),.int .u64 (xs 1)]:=by
  apply List.ext_getElem?;intro i
  match i with
  | 0=>rw[q0]; rfl
  | 1=>rw[q1]; rfl
  | k + 2=>rw[List.getElem?_eq_none (by omega),List.getElem?_eq_none (by simp)]
 subst ecs;have K1:=HY.out.keep B;have BF:=ai HB.out B;have u0:=K1.cell (i:=0) rfl;have f0:=K1.free 0;have u1:=K1.cell (i:=1) rfl;have f1:=K1.free 1;have KB:=aj (show Blk ((w1.setCell ⟨w.heap.size,0,none⟩ (.int .u64 (xs 0))).setCell ⟨w.heap.size,1,none⟩ (.int .u64 (xs 1))) w.heap.size [.int .u64 (xs 0),.int .u64 (xs 1)] 44 from((K1.setCell (i:=0) (.int .u64 (xs 0))).setCell (i:=1) (.int .u64 (xs 1))));have KC:=aj (show Chg (fun x=>x=w.heap.size) w1 ((w1.setCell ⟨w.heap.size,0,none⟩ (.int .u64 (xs 0))).setCell ⟨w.heap.size,1,none⟩ (.int .u64 (xs 1))) from(((Chg.refl (fun x=>x=w.heap.size) w1).cell (g:=w.heap.size) (i:=0) (.inl rfl) (.int .u64 (xs 0))).cell (g:=w.heap.size) (i:=1) (.inl rfl) (.int .u64 (xs 1))));have FF:=aj (show fN w aY 2 mkA st (.returned (.tuple #[.agg #[.int .u64 (xs 0),.int .u64 (xs 1)],.int .i64 r])) ((w1.setCell ⟨w.heap.size,0,none⟩ (.int .u64 (xs 0))).setCell ⟨w.heap.size,1,none⟩ (.int .u64 (xs 1))) from⟨⟨[.int .u64 (xs 0),.int .u64 (xs 1)],xs,r,rfl,rfl,(h2.off KC.out.size (fun y hy hy2=>KC.out.same y hy2 (fun e=>by have e':y=w.heap.size:=e; have:=HZ.out; omega))).low HB.out.size,h3,h4⟩,((BF.setCell (p:=⟨w.heap.size,0,none⟩) (Nat.le_refl _) (.int .u64 (xs 0))).setCell (p:=⟨w.heap.size,1,none⟩) (Nat.le_refl _) (.int .u64 (xs 1)))⟩);clear h1 h2 h3 h4 B K1 BF HU KC HY HB q0 q1;simp only[mkA];go_wp2;refine bodyPost_ret (fA rfl rfl rfl (kt (KB.out.cell (i:=0) rfl) (KB.out.cell (i:=1) rfl))) rfl ?_
 exact FF.out
theorem jj :
  Calls Tryz.prog 118 #[.agg #[.int .u64 x0,.int .u64 x1,.int .u64 x2,.int .u64 x3,.int .u64 x4,.int .u64 x5]] w fun e w'=>∃ b n,e=.returned (.slice (some ⟨b,0,none⟩) n n)/\n=(thr (pnx (fun o=>([x0,x1,x2,x3,x4,x5]:List Int).getD o 0)) [(0,0),(0,1),(0,2),(0,3),(0,4),(0,5)] []).length/\Box w' b ((thr (pnx (fun o=>([x0,x1,x2,x3,x4,x5]:List Int).getD o 0)) [(0,0),(0,1),(0,2),(0,3),(0,4),(0,5)] []).map (Value.int .u8)) 5/\w.heap.size<=b/\Below w.heap.size w w':=by
 have b1:=aa w (.cells #[.int .u64 x0,.int .u64 x1,.int .u64 x2,.int .u64 x3,.int .u64 x4,.int .u64 x5] 46);have U:=l3 (x0:=x0) (x1:=x1) (x2:=x2) (x3:=x3) (x4:=x4) (x5:=x5) (w:=w.alloc (.cells #[.int .u64 x0,.int .u64 x1,.int .u64 x2,.int .u64 x3,.int .u64 x4,.int .u64 x5] 46));have HB:=aj b1;generalize thr (pnx (fun o=>([x0,x1,x2,x3,x4,x5]:List Int).getD o 0)) [(0,0),(0,1),(0,2),(0,3),(0,4),(0,5)] []=M at *;have HU:=aj U;clear U;go_enter Tryz.func118,Tryz.ntmps118;go_wp2_with fail;refine HU.out.mono ?_
 rintro e' w1 ⟨b,n,rfl,hn,X,hb,B⟩;have FF:=aj (show n=M.length/\Box w1 b (M.map (Value.int .u8)) 5/\w.heap.size<=b/\Below w.heap.size w w1 from⟨hn,X,Nat.le_trans HB.out.size hb,ai HB.out B⟩);clear hn X hb B HU HB;go_wp2;go_ret;exact⟨b,n,rfl,FF.out⟩
theorem lV(A:ByA w bb ao n c l)(hn:n<=1000000000)(hl:l.length=n) :
  Calls Tryz.prog 119 #[.slice ao n c] w (fN w aF 6 mkA (thr rnx [(0,0),(0,1),(0,2),(0,3),(0,4),(0,5)] (0,l,fun _=>(0:Int)))):=by
 have b1:=aa w (.cells #[.int .u64 0,.int .u64 0,.int .u64 0,.int .u64 0,.int .u64 0,.int .u64 0] 46);have y1:=au w [.int .u64 0,.int .u64 0,.int .u64 0,.int .u64 0,.int .u64 0,.int .u64 0] 46;have z1:=bC w (.cells #[.int .u64 0,.int .u64 0,.int .u64 0,.int .u64 0,.int .u64 0,.int .u64 0] 46);have U:=kD (A.keep b1) hn hl;generalize thr rnx [(0,0),(0,1),(0,2),(0,3),(0,4),(0,5)] (0,l,fun _=>(0:Int))=st at *;obtain⟨W1,hW1⟩:∃ W1,Hid (w.alloc (.cells #[.int .u64 0,.int .u64 0,.int .u64 0,.int .u64 0,.int .u64 0,.int .u64 0] 46)=W1):=⟨_,rfl⟩
 rw[hW1.out] at b1 y1 z1 U;have HU:=aj U;have HB:=aj b1;have HY:=aj y1;have HZ:=aj z1;clear A hl b1 y1 z1 U;go_enter Tryz.func119,Tryz.ntmps119;go_wp2_with fail;rw[hW1.out];refine HU.out.mono ?_
 rintro e' w1 ⟨⟨cs,xs,r,rfl,h1,h2,h3,h4⟩,B⟩;have q0:=(h2 0).1 rfl;have q1:=(h2 1).1 rfl;have q2:=(h2 2).1 rfl;have q3:=(h2 3).1 rfl;have q4:=(h2 4).1 rfl;have q5:=(h2 5).1 rfl
 have ecs:cs=[.int .u64 (xs 0),.int .u64 (xs 1),.int .u64 (xs 2),.int .u64 (xs 3),.int .u64 (xs 4),.int .u64 (xs 5)]:=by
  apply List.ext_getElem?;intro i
  match i with
  | 0=>rw[q0]; rfl
  | 1=>rw[q1]; rfl
  | 2=>rw[q2]; rfl
  | 3=>rw[q3]; rfl
  | 4=>rw[q4]; rfl
  | 5=>rw[q5]; rfl
  | k + 6=>rw[List.getElem?_eq_none (by omega),List.getElem?_eq_none (by simp)]
 subst ecs;have K1:=HY.out.keep B;have BF:=ai HB.out B;have u0:=K1.cell (i:=0) rfl;have f0:=K1.free 0;have u1:=K1.cell (i:=1) rfl;have f1:=K1.free 1;have u2:=K1.cell (i:=2) rfl;have f2:=K1.free 2;have u3:=K1.cell (i:=3) rfl;have f3:=K1.free 3;have u4:=K1.cell (i:=4) rfl;have f4:=K1.free 4;have u5:=K1.cell (i:=5) rfl;have f5:=K1.free 5;have KB:=aj (show Blk ((((((w1.setCell ⟨w.heap.size,0,none⟩ (.int .u64 (xs 0))).setCell ⟨w.heap.size,1,none⟩ (.int .u64 (xs 1))).setCell ⟨w.heap.size,2,none⟩ (.int .u64 (xs 2))).setCell ⟨w.heap.size,3,none⟩ (.int .u64 (xs 3))).setCell ⟨w.heap.size,4,none⟩ (.int .u64 (xs 4))).setCell ⟨w.heap.size,5,none⟩ (.int .u64 (xs 5))) w.heap.size [.int .u64 (xs 0),.int .u64 (xs 1),.int .u64 (xs 2),.int .u64 (xs 3),.int .u64 (xs 4),.int .u64 (xs 5)] 46 from((((((K1.setCell (i:=0) (.int .u64 (xs 0))).setCell (i:=1) (.int .u64 (xs 1))).setCell (i:=2) (.int .u64 (xs 2))).setCell (i:=3) (.int .u64 (xs 3))).setCell (i:=4) (.int .u64 (xs 4))).setCell (i:=5) (.int .u64 (xs 5))));have KC:=aj (show Chg (fun x=>x=w.heap.size) w1 ((((((w1.setCell ⟨w.heap.size,0,none⟩ (.int .u64 (xs 0))).setCell ⟨w.heap.size,1,none⟩ (.int .u64 (xs 1))).setCell ⟨w.heap.size,2,none⟩ (.int .u64 (xs 2))).setCell ⟨w.heap.size,3,none⟩ (.int .u64 (xs 3))).setCell ⟨w.heap.size,4,none⟩ (.int .u64 (xs 4))).setCell ⟨w.heap.size,5,none⟩ (.int .u64 (xs 5))) from(((((((Chg.refl (fun x=>x=w.heap.size) w1).cell (g:=w.heap.size) (i:=0) (.inl rfl) (.int .u64 (xs 0))).cell (g:=w.heap.size) (i:=1) (.inl rfl) (.int .u64 (xs 1))).cell (g:=w.heap.size) (i:=2) (.inl rfl) (.int .u64 (xs 2))).cell (g:=w.heap.size) (i:=3) (.inl rfl) (.int .u64 (xs 3))).cell (g:=w.heap.size) (i:=4) (.inl rfl) (.int .u64 (xs 4))).cell (g:=w.heap.size) (i:=5) (.inl rfl) (.int .u64 (xs 5))));have FF:=aj (show fN w aF 6 mkA st (.returned (.tuple #[.agg #[.int .u64 (xs 0),.int .u64 (xs 1),.int .u64 (xs 2),.int .u64 (xs 3),.int .u64 (xs 4),.int .u64 (xs 5)],.int .i64 r])) ((((((w1.setCell ⟨w.heap.size,0,none⟩ (.int .u64 (xs 0))).setCell ⟨w.heap.size,1,none⟩ (.int .u64 (xs 1))).setCell ⟨w.heap.size,2,none⟩ (.int .u64 (xs 2))).setCell ⟨w.heap.size,3,none⟩ (.int .u64 (xs 3))).setCell ⟨w.heap.size,4,none⟩ (.int .u64 (xs 4))).setCell ⟨w.heap.size,5,none⟩ (.int .u64 (xs 5))) from⟨⟨[.int .u64 (xs 0),.int .u64 (xs 1),.int .u64 (xs 2),.int .u64 (xs 3),.int .u64 (xs 4),.int .u64 (xs 5)],xs,r,rfl,rfl,(h2.off KC.out.size (fun y hy hy2=>KC.out.same y hy2 (fun e=>by have e':y=w.heap.size:=e; have:=HZ.out; omega))).low HB.out.size,h3,h4⟩,((((((BF.setCell (p:=⟨w.heap.size,0,none⟩) (Nat.le_refl _) (.int .u64 (xs 0))).setCell (p:=⟨w.heap.size,1,none⟩) (Nat.le_refl _) (.int .u64 (xs 1))).setCell (p:=⟨w.heap.size,2,none⟩) (Nat.le_refl _) (.int .u64 (xs 2))).setCell (p:=⟨w.heap.size,3,none⟩) (Nat.le_refl _) (.int .u64 (xs 3))).setCell (p:=⟨w.heap.size,4,none⟩) (Nat.le_refl _) (.int .u64 (xs 4))).setCell (p:=⟨w.heap.size,5,none⟩) (Nat.le_refl _) (.int .u64 (xs 5)))⟩);clear h1 h2 h3 h4 B K1 BF HU KC HY HB q0 q1 q2 q3 q4 q5;simp only[mkA];go_wp2;refine bodyPost_ret (fA rfl rfl rfl (fG (KB.out.cell (i:=0) rfl) (KB.out.cell (i:=1) rfl) (KB.out.cell (i:=2) rfl) (KB.out.cell (i:=3) rfl) (KB.out.cell (i:=4) rfl) (KB.out.cell (i:=5) rfl))) rfl ?_
 exact FF.out
theorem o7{n6 c6:Nat}{x6:Int}(h6:fg w a6 n6 c6 x6)(m6:n6<=1000000) :
  Calls Tryz.prog 124 #[.agg #[.int .u64 x0,.int .u64 x1,.int .u64 x2,.int .u64 x3,.int .u64 x4,.int .u64 x5,.slice a6 n6 c6]] w fun e w'=>∃ b n,e=.returned (.slice (some ⟨b,0,none⟩) n n)/\n=(thr (pnx (fun o=>([x0,x1,x2,x3,x4,x5,x6]:List Int).getD o 0)) [(0,0),(0,1),(0,2),(0,3),(0,4),(0,5),(2,6)] []).length/\Box w' b ((thr (pnx (fun o=>([x0,x1,x2,x3,x4,x5,x6]:List Int).getD o 0)) [(0,0),(0,1),(0,2),(0,3),(0,4),(0,5),(2,6)] []).map (Value.int .u8)) 5/\w.heap.size<=b/\Below w.heap.size w w':=by
 have b1:=aa w (.cells #[.int .u64 x0,.int .u64 x1,.int .u64 x2,.int .u64 x3,.int .u64 x4,.int .u64 x5,.slice a6 n6 c6] 51);have U:=yA (h6.keep b1) m6 (x0:=x0) (x1:=x1) (x2:=x2) (x3:=x3) (x4:=x4) (x5:=x5) (w:=w.alloc (.cells #[.int .u64 x0,.int .u64 x1,.int .u64 x2,.int .u64 x3,.int .u64 x4,.int .u64 x5,.slice a6 n6 c6] 51));have HB:=aj b1;generalize thr (pnx (fun o=>([x0,x1,x2,x3,x4,x5,x6]:List Int).getD o 0)) [(0,0),(0,1),(0,2),(0,3),(0,4),(0,5),(2,6)] []=M at *;have HU:=aj U;clear U;go_enter Tryz.func124,Tryz.ntmps124;go_wp2_with fail;refine HU.out.mono ?_
 rintro e' w1 ⟨b,n,rfl,hn,X,hb,B⟩;have FF:=aj (show n=M.length/\Box w1 b (M.map (Value.int .u8)) 5/\w.heap.size<=b/\Below w.heap.size w w1 from⟨hn,X,Nat.le_trans HB.out.size hb,ai HB.out B⟩);clear hn X hb B HU HB;go_wp2;go_ret;exact⟨b,n,rfl,FF.out⟩
theorem vW(A:ByA w bb ao n c l)(hn:n<=1000000000)(hl:l.length=n) :
  Calls Tryz.prog 125 #[.slice ao n c] w (fN w bN 7 mkA (thr rnx [(0,0),(0,1),(0,2),(0,3),(0,4),(0,5),(2,6)] (0,l,fun _=>(0:Int)))):=by
 have b1:=aa w (.cells #[.int .u64 0,.int .u64 0,.int .u64 0,.int .u64 0,.int .u64 0,.int .u64 0,.slice none 0 0] 51);have y1:=au w [.int .u64 0,.int .u64 0,.int .u64 0,.int .u64 0,.int .u64 0,.int .u64 0,.slice none 0 0] 51;have z1:=bC w (.cells #[.int .u64 0,.int .u64 0,.int .u64 0,.int .u64 0,.int .u64 0,.int .u64 0,.slice none 0 0] 51);have U:=uS (A.keep b1) hn hl;generalize thr rnx [(0,0),(0,1),(0,2),(0,3),(0,4),(0,5),(2,6)] (0,l,fun _=>(0:Int))=st at *;obtain⟨W1,hW1⟩:∃ W1,Hid (w.alloc (.cells #[.int .u64 0,.int .u64 0,.int .u64 0,.int .u64 0,.int .u64 0,.int .u64 0,.slice none 0 0] 51)=W1):=⟨_,rfl⟩
 rw[hW1.out] at b1 y1 z1 U;have HU:=aj U;have HB:=aj b1;have HY:=aj y1;have HZ:=aj z1;clear A hl b1 y1 z1 U;go_enter Tryz.func125,Tryz.ntmps125;go_wp2_with fail;rw[hW1.out];refine HU.out.mono ?_
 rintro e' w1 ⟨⟨cs,xs,r,rfl,h1,h2,h3,h4⟩,B⟩;have q0:=(h2 0).1 rfl;have q1:=(h2 1).1 rfl;have q2:=(h2 2).1 rfl;have q3:=(h2 3).1 rfl;have q4:=(h2 4).1 rfl;have q5:=(h2 5).1 rfl;obtain⟨a6,n6,d6,q6,-,-⟩:=(h2 6).2.2 rfl
 have ecs:cs=[.int .u64 (xs 0),.int .u64 (xs 1),.int .u64 (xs 2),.int .u64 (xs 3),.int .u64 (xs 4),.int .u64 (xs 5),.slice a6 n6 d6]:=by
  apply List.ext_getElem?;intro i
  match i with
  | 0=>rw[q0]; rfl
  | 1=>rw[q1]; rfl
  | 2=>rw[q2]; rfl
  | 3=>rw[q3]; rfl
  | 4=>rw[q4]; rfl
  | 5=>rw[q5]; rfl
  | 6=>rw[q6]; rfl
  | k + 7=>rw[List.getElem?_eq_none (by omega),List.getElem?_eq_none (by simp)]
 subst ecs;have K1:=HY.out.keep B;have BF:=ai HB.out B;have u0:=K1.cell (i:=0) rfl;have f0:=K1.free 0;have u1:=K1.cell (i:=1) rfl;have f1:=K1.free 1;have u2:=K1.cell (i:=2) rfl;have f2:=K1.free 2;have u3:=K1.cell (i:=3) rfl;have f3:=K1.free 3;have u4:=K1.cell (i:=4) rfl;have f4:=K1.free 4;have u5:=K1.cell (i:=5) rfl;have f5:=K1.free 5;have u6:=K1.cell (i:=6) rfl;have f6:=K1.free 6;have KB:=aj (show Blk (((((((w1.setCell ⟨w.heap.size,0,none⟩ (.int .u64 (xs 0))).setCell ⟨w.heap.size,1,none⟩ (.int .u64 (xs 1))).setCell ⟨w.heap.size,2,none⟩ (.int .u64 (xs 2))).setCell ⟨w.heap.size,3,none⟩ (.int .u64 (xs 3))).setCell ⟨w.heap.size,4,none⟩ (.int .u64 (xs 4))).setCell ⟨w.heap.size,5,none⟩ (.int .u64 (xs 5))).setCell ⟨w.heap.size,6,none⟩ (.slice a6 n6 d6)) w.heap.size [.int .u64 (xs 0),.int .u64 (xs 1),.int .u64 (xs 2),.int .u64 (xs 3),.int .u64 (xs 4),.int .u64 (xs 5),.slice a6 n6 d6] 51 from(((((((K1.setCell (i:=0) (.int .u64 (xs 0))).setCell (i:=1) (.int .u64 (xs 1))).setCell (i:=2) (.int .u64 (xs 2))).setCell (i:=3) (.int .u64 (xs 3))).setCell (i:=4) (.int .u64 (xs 4))).setCell (i:=5) (.int .u64 (xs 5))).setCell (i:=6) (.slice a6 n6 d6)));have KC:=aj (show Chg (fun x=>x=w.heap.size) w1 (((((((w1.setCell ⟨w.heap.size,0,none⟩ (.int .u64 (xs 0))).setCell ⟨w.heap.size,1,none⟩ (.int .u64 (xs 1))).setCell ⟨w.heap.size,2,none⟩ (.int .u64 (xs 2))).setCell ⟨w.heap.size,3,none⟩ (.int .u64 (xs 3))).setCell ⟨w.heap.size,4,none⟩ (.int .u64 (xs 4))).setCell ⟨w.heap.size,5,none⟩ (.int .u64 (xs 5))).setCell ⟨w.heap.size,6,none⟩ (.slice a6 n6 d6)) from((((((((Chg.refl (fun x=>x=w.heap.size) w1).cell (g:=w.heap.size) (i:=0) (.inl rfl) (.int .u64 (xs 0))).cell (g:=w.heap.size) (i:=1) (.inl rfl) (.int .u64 (xs 1))).cell (g:=w.heap.size) (i:=2) (.inl rfl) (.int .u64 (xs 2))).cell (g:=w.heap.size) (i:=3) (.inl rfl) (.int .u64 (xs 3))).cell (g:=w.heap.size) (i:=4) (.inl rfl) (.int .u64 (xs 4))).cell (g:=w.heap.size) (i:=5) (.inl rfl) (.int .u64 (xs 5))).cell (g:=w.heap.size) (i:=6) (.inl rfl) (.slice a6 n6 d6)));have FF:=aj (show fN w bN 7 mkA st (.returned (.tuple #[.agg #[.int .u64 (xs 0),.int .u64 (xs 1),.int .u64 (xs 2),.int .u64 (xs 3),.int .u64 (xs 4),.int .u64 (xs 5),.slice a6 n6 d6],.int .i64 r])) (((((((w1.setCell ⟨w.heap.size,0,none⟩ (.int .u64 (xs 0))).setCell ⟨w.heap.size,1,none⟩ (.int .u64 (xs 1))).setCell ⟨w.heap.size,2,none⟩ (.int .u64 (xs 2))).setCell ⟨w.heap.size,3,none⟩ (.int .u64 (xs 3))).setCell ⟨w.heap.size,4,none⟩ (.int .u64 (xs 4))).setCell ⟨w.heap.size,5,none⟩ (.int .u64 (xs 5))).setCell ⟨w.heap.size,6,none⟩ (.slice a6 n6 d6)) from⟨⟨[.int .u64 (xs 0),.int .u64 (xs 1),.int .u64 (xs 2),.int .u64 (xs 3),.int .u64 (xs 4),.int .u64 (xs 5),.slice a6 n6 d6],xs,r,rfl,rfl,(h2.off KC.out.size (fun y hy hy2=>KC.out.same y hy2 (fun e=>by have e':y=w.heap.size:=e; have:=HZ.out; omega))).low HB.out.size,h3,h4⟩,(((((((BF.setCell (p:=⟨w.heap.size,0,none⟩) (Nat.le_refl _) (.int .u64 (xs 0))).setCell (p:=⟨w.heap.size,1,none⟩) (Nat.le_refl _) (.int .u64 (xs 1))).setCell (p:=⟨w.heap.size,2,none⟩) (Nat.le_refl _) (.int .u64 (xs 2))).setCell (p:=⟨w.heap.size,3,none⟩) (Nat.le_refl _) (.int .u64 (xs 3))).setCell (p:=⟨w.heap.size,4,none⟩) (Nat.le_refl _) (.int .u64 (xs 4))).setCell (p:=⟨w.heap.size,5,none⟩) (Nat.le_refl _) (.int .u64 (xs 5))).setCell (p:=⟨w.heap.size,6,none⟩) (Nat.le_refl _) (.slice a6 n6 d6))⟩);clear h1 h2 h3 h4 B K1 BF HU KC HY HB q0 q1 q2 q3 q4 q5 q6;simp only[mkA];go_wp2;refine bodyPost_ret (fA rfl rfl rfl (mK (KB.out.cell (i:=0) rfl) (KB.out.cell (i:=1) rfl) (KB.out.cell (i:=2) rfl) (KB.out.cell (i:=3) rfl) (KB.out.cell (i:=4) rfl) (KB.out.cell (i:=5) rfl) (KB.out.cell (i:=6) rfl))) rfl ?_
 exact FF.out
theorem lZ :
  Calls Tryz.prog 116 #[.int .u64 x0] w fun e w'=>∃ b n,e=.returned (.slice (some ⟨b,0,none⟩) n n)/\n=(thr (pnx (fun o=>([x0]:List Int).getD o 0)) [(0,0)] []).length/\Box w' b ((thr (pnx (fun o=>([x0]:List Int).getD o 0)) [(0,0)] []).map (Value.int .u8)) 5/\w.heap.size<=b/\Below w.heap.size w w':=by
 have U:=qx (x0:=x0) (w:=w);have HB:=aj (Below.refl w.heap.size w);generalize thr (pnx (fun o=>([x0]:List Int).getD o 0)) [(0,0)] []=M at *;have HU:=aj U;clear U;go_enter Tryz.func116,Tryz.ntmps116;go_wp2_with fail;refine HU.out.mono ?_
 rintro e' w1 ⟨b,n,rfl,hn,X,hb,B⟩;have FF:=aj (show n=M.length/\Box w1 b (M.map (Value.int .u8)) 5/\w.heap.size<=b/\Below w.heap.size w w1 from⟨hn,X,Nat.le_trans HB.out.size hb,ai HB.out B⟩);clear hn X hb B HU HB;go_wp2;go_ret;exact⟨b,n,rfl,FF.out⟩
theorem qq(A:ByA w bb ao n c l)(hn:n<=1000000000)(hl:l.length=n) :
  Calls Tryz.prog 89 #[.slice ao n c] w (fN w aR 1 mkO (thr rnx [(0,0)] (0,l,fun _=>(0:Int)))):=by
 have U:=qm A hn hl;generalize thr rnx [(0,0)] (0,l,fun _=>(0:Int))=st at *;clear A hl;go_enter Tryz.func89,Tryz.ntmps89;go_wp2_with fail;refine U.mono ?_
 rintro e' w1 ⟨⟨cs,xs,r,rfl,h1,h2,h3,h4⟩,B⟩;have q0:=(h2 0).1 rfl
 have ecs:cs=[.int .u64 (xs 0)]:=by
  apply List.ext_getElem?;intro i
  match i with
  | 0=>rw[q0]; rfl
  | k + 1=>rw[List.getElem?_eq_none (by omega),List.getElem?_eq_none (by simp)]
 subst ecs;have FF:=aj (show fN w aR 1 mkO st (.returned (.tuple #[.int .u64 (xs 0),.int .i64 r])) w1 from⟨⟨[.int .u64 (xs 0)],xs,r,rfl,rfl,h2,h3,h4⟩,B⟩);clear h1 h2 h3 h4 B q0 U;simp only[mkO,List.headD_cons];go_wp2;go_ret2;exact FF.out
end
end Rc
end
section
open Go.RowKit Lim
end
section
open Go.RowKit Lim
structure Stp where
 what:Int
 num:Int
 na:Option Addr
 nn:Nat
 nc:Nat
 V:Int
 ba:Option Addr
 bn:Nat
 bc:Nat
 bb:Nat
 bl:List Int
 most:Int
end
section
open Go.RowKit Lim
section
variable {l L:List Int}{m:Nat}
theorem be_bval(h:aW l):be l.length (bL l)=l:=by
 refine pN (dk _ _) h (aJ _ _) ?_
 have hb:=bF h;rw[rv _ hb.1,Int.emod_eq_of_lt hb.1 hb.2]
theorem iP(h:aW l)(hm:m<=l.length):be m (bL (l.take m))=l.take m:=by
 have:=be_bval (l:=l.take m) (fun x hx=>h x (List.mem_of_mem_take hx));rwa [List.length_take,Nat.min_eq_left hm] at this
def One(err':Int)(L L':List Int)(laid:List Int->Prop):Prop:=(err'≠0/\L'=L)\/(err'=0/\∃ k,k<=L.length/\laid (L.take k)/\L'=L.drop k)
theorem AB(h:aW L)(m:Nat):One (rdE (bO m L) 0) L (rdL (bO m L) 0 L) (fun t=>be m (rdV 0 (bO m L) 0)=t):=by
 by_cases hm:m<=L.length
 ·have e:bO m L=.inr (bL (L.take m),m):=by unfold bO; rw[if_pos hm]
  rw[e];exact .inr ⟨rfl,m,hm,iP h hm,rfl⟩
 ·have e:bO m L=.inl 40:=by unfold bO; rw[if_neg hm]
  rw[e];exact .inl ⟨by decide,rfl⟩
theorem xy(h:aW L):One (rdE (aQ L) 0) L (rdL (aQ L) 0 L) (fun t=>be 1 (if rdV false (aQ L) 0 then 1 else 0)=t):=by
 by_cases hm:1<=L.length
 ·by_cases hx:1 < bL (L.take 1)
  ·have e:aQ L=.inl 41:=by unfold aQ; rw[if_pos hm,if_pos hx]
   rw[e];exact .inl ⟨by decide,rfl⟩
  ·have e:aQ L=.inr (bL (L.take 1) == 1,1):=by unfold aQ; rw[if_pos hm,if_neg hx]
   rw[e];refine .inr ⟨rfl,1,hm,?_,rfl⟩;have hbt:=iP h hm;have h0:=(bF (l:=L.take 1) (fun x hx=>h x (List.mem_of_mem_take hx))).1
   show be 1 (if (bL (L.take 1) == 1)=true then 1 else 0)=L.take 1
   generalize L.take 1=M at *;by_cases h1:bL M=1
   ·rw[h1] at hbt ⊢;exact hbt
   ·rw[show bL M=0 by omega] at hbt ⊢;exact hbt
 ·have e:aQ L=.inl 40:=by unfold aQ; rw[if_neg hm]
  rw[e];exact .inl ⟨by decide,rfl⟩
theorem o9(h:aW L):((bT m L:Nat):Int)=bL (L.take m):=by
 unfold bT;rw[Int.toNat_of_nonneg (bF (fun x hx=>h x (List.mem_of_mem_take hx))).1]
theorem zi(h:aW L)(hm:m<=L.length)(hc:m + bT m L<=L.length):eJ m ((L.drop m).take (bT m L))=L.take (m + bT m L):=by
 unfold eJ
 have e:(((L.drop m).take (bT m L)).length:Int)=bL (L.take m):=by
  rw[List.length_take,List.length_drop,Nat.min_eq_left (by omega)];exact o9 h
 rw[e,iP h hm,List.take_add]
theorem zy(h:aW L):One (rdE (bd L) 0) L (rdL (bd L) 0 L) (fun t=>eK (rdV 0 (bd L) 0) 0=0/\∀ K,fk (rdV 0 (bd L) 0) 0 K=K ++ t):=by
 by_cases hm:1<=L.length
 ·by_cases hc:1 + bT 1 L<=L.length
  ·by_cases hz:0 < bT 1 L/\nth (L.drop 1) 0=0
   ·have e:bd L=.inl 41:=by unfold bd; rw[if_pos hm,if_pos hc,if_pos hz]
    rw[e];exact .inl ⟨by decide,rfl⟩
   ·have e:bd L=.inr (bL ((L.drop 1).take (bT 1 L)),1 + bT 1 L):=by unfold bd; rw[if_pos hm,if_pos hc,if_neg hz]
    have hcl:=zi h hm hc
    have hlt:((bT 1 L:Nat):Int) < 256:=by
     have:=(bF (l:=L.take 1) (fun x hx=>h x (List.mem_of_mem_take hx))).2;rw[List.length_take,Nat.min_eq_left hm] at this;rw[o9 h];simpa using this
    have hoct:aW ((L.drop 1).take (bT 1 L)):=fun x hx=>h x (List.mem_of_mem_drop (List.mem_of_mem_take hx))
    have hlen:((L.drop 1).take (bT 1 L)).length=bT 1 L:=by rw[List.length_take,List.length_drop]; omega
    have hB:dp (bL ((L.drop 1).take (bT 1 L)))=(L.drop 1).take (bT 1 L):=jP (bF hoct).1 ⟨hoct,fun hne=>by
     have hpos:0 < bT 1 L:=by
      rcases Nat.eq_zero_or_pos (bT 1 L) with h0 | h0
      ·exact absurd (by rw[h0]; simp) hne
      ·exact h0
     rw[dX hpos];exact fun h0=>hz ⟨hpos,h0⟩,rfl⟩
    rw[e];refine .inr ⟨rfl,_,hc,?_,rfl⟩
    show eK (bL ((L.drop 1).take (bT 1 L))) 0=0/\∀ K,fk (bL ((L.drop 1).take (bT 1 L))) 0 K=K ++ L.take (1 + bT 1 L)
    unfold eK fk;rw[hB,if_pos (by omega)];refine⟨rfl,fun K => ?_⟩;rw[if_pos (by omega),hcl];rfl
  ·have e:bd L=.inl 40:=by unfold bd; rw[if_pos hm,if_neg hc]
   rw[e];exact .inl ⟨by decide,rfl⟩
 ·have e:bd L=.inl 40:=by unfold bd; rw[if_neg hm]
  rw[e];exact .inl ⟨by decide,rfl⟩
end
end
section
namespace Rc
open Go.RowKit Go.Lib Pg Lim
section
variable {l r:List Int}{m:Nat}{x:Int}
theorem oU(m:Nat)(l:List Int):(eJ m l).length=m + l.length:=by
 unfold eJ;rw[List.length_append,aJ]
theorem gi(h:l.length=m):(l ++ r).take m=l/\(l ++ r).drop m=r:=by
 subst h;exact⟨List.take_left,List.drop_left⟩
theorem wF(m:Nat)(hx:0<=x)(r:List Int):bO m (be m x ++ r)=.inr (x % 256 ^ m,m)/\(be m x ++ r).drop m=r:=by
 have h:=gi (r:=r) (aJ m x);refine⟨?_,h.2⟩;unfold bO;rw[if_pos (by rw[List.length_append,aJ]; omega),h.1,rv m hx]
theorem nP(hl:(l.length:Int) < 256 ^ m):bT m (eJ m l ++ r)=l.length:=by
 unfold bT eJ;rw[List.append_assoc,(gi (aJ m _)).1,rv m (by omega),Int.emod_eq_of_lt (by omega) hl];rfl
theorem vF(m:Nat)(l r:List Int):(eJ m l ++ r).drop m=l ++ r:=by
 unfold eJ;rw[List.append_assoc,(gi (aJ m _)).2]
theorem wC{V:Int}(hV:0<=V)(hl:(dp V).length < 256)(r:List Int):bd (eJ 1 (dp V) ++ r)=.inr (V,1 + (dp V).length)/\(eJ 1 (dp V) ++ r).drop (1 + (dp V).length)=r:=by
 have hc:bT 1 (eJ 1 (dp V) ++ r)=(dp V).length:=nP (by simpa using (by omega:((dp V).length:Int) < 256));have hd:=vF 1 (dp V) r;have hB:=nQ hV;refine⟨?_,?_⟩
 ·unfold bd;rw[if_pos (by rw[List.length_append,oU]; omega),hc,if_pos (by rw[List.length_append,oU]; omega),hd,if_neg,(gi rfl).1,hB.2.2];rintro⟨h0,h1⟩
  have hne:dp V≠[]:=fun e=>by rw[e] at h0; simp at h0
  refine hB.2.1 hne ?_
  rw[<- h1]
  cases hh:dp V with
  | nil=>exact absurd hh hne
  | cons x t=>rfl
 ·rw[<- List.drop_drop,hd,(gi rfl).2]
theorem uy(x:Bool)(r:List Int):aQ (be 1 (if x then 1 else 0) ++ r)=.inr (x,1)/\(be 1 (if x then 1 else 0) ++ r).drop 1=r:=by
 cases x
 ·exact⟨rfl,rfl⟩
 ·exact⟨rfl,rfl⟩
theorem one1(h:aW l)(k:Nat)(he:rdE (p1 k l) 0=0):dM k (rdV 0 (p1 k l) 0) ++ rdL (p1 k l) 0 l=l/\∃ m,rdL (p1 k l) 0 l=l.drop m:=by
 match k with
 | 0 =>
  rcases AB h 8 with⟨h1,_⟩ | ⟨_,m,h2,h3,h4⟩
  ·exact absurd he h1
  ·show be 8 (rdV 0 (bO 8 l) 0) ++ rdL (bO 8 l) 0 l=l/\∃ m,rdL (bO 8 l) 0 l=l.drop m
   rw[h3,h4];exact⟨List.take_append_drop m l,m,rfl⟩
 | 1 =>
  have he':rdE (aQ l) 0=0:=by rw[<- fR]; exact he
  rcases xy h with⟨h1,_⟩ | ⟨_,m,h2,h3,h4⟩
  ·exact absurd he' h1
  ·show be 1 (rdV 0 (cH l) 0) ++ rdL (cH l) 0 l=l/\∃ m,rdL (cH l) 0 l=l.drop m
   rw[fZ,fP,h3,h4];exact⟨List.take_append_drop m l,m,rfl⟩
 | k + 2 =>
  rcases zy h with⟨h1,_⟩ | ⟨_,m,h2,⟨h3,h5⟩,h4⟩
  ·exact absurd he h1
  ·show eJ 1 (dp (fit (rdV 0 (bd l) 0))) ++ rdL (bd l) 0 l=l/\∃ m,rdL (bd l) 0 l=l.drop m
   have hf:(dp (rdV 0 (bd l) 0)).length < 256:=by
    unfold eK at h3;split at h3
    ·assumption
    ·exact absurd h3 (by decide)
   have e:=h5 [];unfold fk wrote at e;rw[if_pos hf,if_pos rfl] at e;unfold fit;rw[if_pos hf];simp only[List.nil_append] at e;rw[e,h4];exact⟨List.take_append_drop m l,m,rfl⟩
theorem dg{σ:Type}(nx:Nat->Nat->σ->σ)(p:Nat × Nat)(ks:List (Nat × Nat))(s:σ):thr nx (p :: ks) s=thr nx ks (nx p.1 p.2 s):=rfl
theorem yY(ks:List (Nat × Nat)):∀ s:RSt,s.1≠0->(thr rnx ks s).1=s.1:=by
 induction ks with
 | nil=>intro s _; rfl
 | cons p ks ih =>
  intro s hs
  have e:(rnx p.1 p.2 s).1=s.1:=ox hs;rw[dg,ih _ (by rw[e]; exact hs),e]
theorem uR(ks:List (Nat × Nat))(o:Nat):∀ s:RSt,o ∉ ks.map Prod.snd->(thr rnx ks s).2.2 o=s.2.2 o:=by
 induction ks with
 | nil=>intro s _; rfl
 | cons p ks ih =>
  intro s ho;rw[List.map_cons,List.mem_cons,not_or] at ho;rw[dg,ih _ ho.2]
  show (if o=p.2 then _ else _)=_
  rw[if_neg ho.1]
theorem qj(h:aW l)(m:Nat):aW (l.drop m):=fun x hx=>h x (List.mem_of_mem_drop hx)
theorem AH(ks:List (Nat × Nat)):∀ (l:List Int) (xs:Nat->Int),aW l->(ks.map Prod.snd).Nodup->(thr rnx ks (0,l,xs)).1=0->∀ L,thr (pnx (thr rnx ks (0,l,xs)).2.2) ks L ++ (thr rnx ks (0,l,xs)).2.1=L ++ l:=by
 induction ks with
 | nil=>intro l xs _ _ _ L; rfl
 | cons p ks ih =>
  intro l xs ho hnd he L;rw[List.map_cons,List.nodup_cons] at hnd;rw[dg] at he
  have e1:rdE (p1 p.1 l) 0=0:=by
   by_cases hz:rdE (p1 p.1 l) 0=0
   ·exact hz
   ·exact absurd ((yY ks (rnx p.1 p.2 (0,l,xs)) hz).symm.trans he) hz
  obtain⟨h1,m,h2⟩:=one1 ho p.1 e1
  have es:rnx p.1 p.2 (0,l,xs)=(0,rdL (p1 p.1 l) 0 l,fun i=>if i=p.2 then rdV 0 (p1 p.1 l) 0 else xs i):=by
   show (rdE (p1 p.1 l) 0,_,_)=_
   rw[e1]
  have e0:thr rnx (p :: ks) (0,l,xs)=thr rnx ks (0,rdL (p1 p.1 l) 0 l,fun i=>if i=p.2 then rdV 0 (p1 p.1 l) 0 else xs i):=by rw[dg,es]
  rw[es] at he;rw[e0]
  have ih':=ih _ _ (by rw[h2]; exact qj ho m) hnd.2 he;rw[dg,ih']
  have ev:(thr rnx ks (0,rdL (p1 p.1 l) 0 l,fun i=>if i=p.2 then rdV 0 (p1 p.1 l) 0 else xs i)).2.2 p.2=rdV 0 (p1 p.1 l) 0:=by
   rw[uR ks p.2 _ hnd.1]
   show (if p.2=p.2 then _ else _)=_
   rw[if_pos rfl]
  show (L ++ dM p.1 _) ++ _=L ++ l
  rw[ev,List.append_assoc,h1]
def rng:Nat->Int->Prop
 | 0,x=>0<=x/\x < 18446744073709551616
 | 1,x=>x=0\/x=1
 | _,x=>0<=x
def fitk:Nat->Int->Int
 | 0,x=>x
 | 1,x=>x
 | _,x=>fit x
theorem back1(k:Nat)(hx:rng k x)(r:List Int):∃ m,p1 k (dM k x ++ r)=.inr (fitk k x,m)/\(dM k x ++ r).drop m=r:=by
 match k,hx with
 | 0,hx =>
  obtain⟨h1,h2⟩:=wF 8 hx.1 r;refine⟨8,?_,h2⟩
  show bO 8 (be 8 x ++ r)=_
  rw[h1,Int.emod_eq_of_lt hx.1 (by have:=hx.2; simpa using this)];rfl
 | 1,hx =>
  have key:∀ t:Bool,∃ m,cH (be 1 (if t then 1 else 0) ++ r)=.inr ((if t then 1 else 0),m)/\(be 1 (if t then 1 else 0) ++ r).drop m=r:=fun t=>by
   obtain⟨h1,h2⟩:=uy t r;refine⟨1,?_,h2⟩;unfold cH;rw[h1]
  rcases hx with rfl | rfl
  ·exact key false
  ·exact key true
 | k + 2,hx =>
  have hV:0<=fit x:=by
   unfold fit;split
   ·exact hx
   ·decide
  obtain⟨h1,h2⟩:=wC hV (dU x) r;exact⟨_,h1,h2⟩
theorem iL(xv:Nat->Int)(ks:List (Nat × Nat)):∀ (r:List Int) (xs:Nat->Int),(ks.map Prod.snd).Nodup->(∀ p∈ks,rng p.1 (xv p.2))->∃ ys,thr rnx ks (0,thr (pnx xv) ks [] ++ r,xs)=(0,r,ys)/\(∀ p∈ks,ys p.2=fitk p.1 (xv p.2))/\∀ o,o ∉ ks.map Prod.snd->ys o=xs o:=by
 have hL:∀ (ks:List (Nat × Nat)) (L:List Int),thr (pnx xv) ks L=L ++ thr (pnx xv) ks []:=by
  intro ks
  induction ks with
  | nil=>intro L; simp[thr]
  | cons p ks ih =>
   intro L;rw[dg,dg,ih (pnx xv p.1 p.2 L),ih (pnx xv p.1 p.2 [])];simp[pnx,List.append_assoc]
 induction ks with
 | nil=>exact fun r xs _ _=>⟨xs,rfl,(fun p hp=>by cases hp),fun _ _=>rfl⟩
 | cons p ks ih =>
  intro r xs hnd hr;rw[List.map_cons,List.nodup_cons] at hnd;obtain⟨m,h1,h2⟩:=back1 p.1 (hr p List.mem_cons_self) (thr (pnx xv) ks [] ++ r)
  have el:thr (pnx xv) (p :: ks) [] ++ r=dM p.1 (xv p.2) ++ (thr (pnx xv) ks [] ++ r):=by
   rw[dg,hL];simp[pnx,List.append_assoc]
  rw[el,dg]
  have es:rnx p.1 p.2 (0,dM p.1 (xv p.2) ++ (thr (pnx xv) ks [] ++ r),xs)=(0,thr (pnx xv) ks [] ++ r,fun i=>if i=p.2 then fitk p.1 (xv p.2) else xs i):=by
   show (rdE (p1 p.1 _) 0,rdL (p1 p.1 _) 0 _,fun i=>if i=p.2 then rdV 0 (p1 p.1 _) 0 else xs i)=_
   rw[h1]
   show (_,List.drop m _,_)=_
   rw[h2];rfl
  rw[es];obtain⟨ys,e1,e2,e3⟩:=ih r _ hnd.2 (fun q hq=>hr q (List.mem_cons_of_mem _ hq));refine⟨ys,e1,fun q hq => ?_,fun o ho => ?_⟩
  ·rcases List.mem_cons.1 hq with rfl | hq
   ·rw[e3 _ hnd.1]
    show (if q.2=q.2 then _ else _)=_
    rw[if_pos rfl]
   ·exact e2 q hq
  ·rw[List.map_cons,List.mem_cons,not_or] at ho;rw[e3 o ho.2]
   show (if o=p.2 then _ else _)=_
   rw[if_neg ho.1]
end
end Rc
end
section
namespace Rc
open Go.RowKit Go.Lib Pg
attribute [local go_sem] Oper.semAt_some
theorem vR (k:Nat) (x:Int):aW (dM k x):=by
 unfold dM;split
 ·exact dk _ _
 ·exact dk _ _
 ·intro y hy;rcases List.mem_append.1 hy with h | h
  ·exact dk _ _ y h
  ·exact xe _ y h
theorem j9 (xs:Nat->Int) (ks:List (Nat × Nat)):∀ L,aW L->aW (thr (pnx xs) ks L):=by
 induction ks with
 | nil=>exact fun _ h=>h
 | cons p ks ih =>
  intro L h;rw[dg];refine ih _ ?_
  intro y hy;rcases List.mem_append.1 hy with h1 | h1
  ·exact h y h1
  ·exact vR _ _ y h1
end Rc
end
section
namespace Rc
open Go.RowKit Go.Lib Pg
attribute [local go_sem] Oper.semAt_some
end Rc
end
section
open Go.RowKit Lim
def stB (s:Stp):Option (List Int) :=
 if s.what=0 then some (be 1 (s.num % 256))
 else if s.what=1 then some (be 4 (s.num % 4294967296))
 else if s.what=2 then some (be 8 s.num)
 else if s.what=3 then some (be 1 (if s.num % 2 == 1 then 1 else 0))
 else if s.what=4\/s.what=5 then (if (dp s.V).length < 256 then some (eJ 1 (dp s.V)) else none)
 else if s.what=6 then some (eJ 4 s.bl)
 else some []
def stO (s:Stp) (o:Option (List Int)):Option (List Int):=o.bind fun L=>(stB s).map (L ++ ·)
def laid (ss:List Stp):Option (List Int):=ss.foldl (fun o s=>stO s o) (some [])
end
section
open Go.RowKit Lim
end
section
open Go.RowKit Lim
end
section
open Go.RowKit Lim
end
section
open Go.RowKit Lim
end
section
open Go.RowKit Lim
end
section
open Go.RowKit Lim
end
section
open Go.RowKit Lim
end
section
namespace Rc
open Go.RowKit Go.Lib Pg Lim
attribute [local go_sem] Oper.semAt_some
end Rc
end
section
namespace Rc
open Go.RowKit Go.Lib Pg Lim
attribute [local go_sem] Oper.semAt_some
end Rc
end
section
namespace Rc
open Go.RowKit Go.Lib Pg Lim
theorem uD {err:Int} {l:List Int} (h:eM err l=0):err=0/\l=[]:=by
 unfold eM at h;split at h
 ·rename_i he;split at h
  ·rename_i hl;exact⟨he,List.eq_nil_of_length_eq_zero hl⟩
  ·exact absurd h (by decide)
 ·exact absurd h (by assumption)
theorem ones (ks:List (Nat × Nat)) (l:List Int) (ho:aW l) (hnd:(ks.map Prod.snd).Nodup) (h:eM (thr rnx ks (0,l,fun _=>0)).1 (thr rnx ks (0,l,fun _=>0)).2.1=0):thr (pnx (thr rnx ks (0,l,fun _=>0)).2.2) ks []=l:=by
 obtain⟨h1,h2⟩:=uD h;have:=AH ks l (fun _=>0) ho hnd h1 [];rw[h2,List.append_nil,List.nil_append] at this;exact this
end Rc
end
section
open Go.RowKit Lim
end
section
namespace Rc
open Go.RowKit Go.Lib Pg Lim
attribute [local go_sem] Oper.semAt_some
end Rc
end
end Go.Proofs.YtliajmpchofiiaaGreat
