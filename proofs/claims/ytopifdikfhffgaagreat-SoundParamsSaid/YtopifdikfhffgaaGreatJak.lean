/- Several texts, joined: RcF, RcG, RcH, RcI, EncF, EncG. -/
import Derived.Test.YtopifdikfhffgaaGreatJaj
import Derived.Lib.SlBytesConst
set_option maxRecDepth 100000
set_option maxHeartbeats 8000000
namespace Go.Proofs.YtopifdikfhffgaaGreat
section
namespace Rc
open Go.RowKit Go.Lib Pg Lim
attribute [local go_sem] Oper.semAt_some
structure NatW (w:World) (B:Nat) (ao:Option Addr) (n c:Nat) (x:Int):Prop where
 ex:∃ b o l,l.length=n/\n<=c/\IsN l x/\At w ao b o l/\B<=b
theorem NatW.o {w:World} {B n c:Nat} {ao:Option Addr} {x:Int} (h:NatW w B ao n c x):NatO w ao n c x:=by
 obtain ⟨b,o,l,h1,h2,h3,h4,_⟩:=h.ex
 exact ⟨b,o,l,h1,h2,h3,h4⟩
theorem natW_nil (w:World) (B:Nat):NatW w B none 0 0 0:=⟨B,0,[],rfl,Nat.le_refl _,isN_nil,⟨.inl rfl,fun i hi=>by simp at hi⟩,Nat.le_refl _⟩
theorem NatW.low {w:World} {B B' n c:Nat} {ao:Option Addr} {x:Int} (h:NatW w B ao n c x) (hB:B'<=B):NatW w B' ao n c x:=by
 obtain ⟨b,o,l,h1,h2,h3,h4,h5⟩:=h.ex
 exact ⟨b,o,l,h1,h2,h3,h4,Nat.le_trans hB h5⟩
theorem NatW.off {w w':World} {B n c:Nat} {ao:Option Addr} {x:Int} (h:NatW w B ao n c x) (_hs:w.heap.size<=w'.heap.size) (hw:∀ b,B<=b->b < w.heap.size->w'.heap[b]? = w.heap[b]?):NatW w' B ao n c x:=by
 obtain ⟨b,o,l,h1,h2,h3,h4,h5⟩:=h.ex
 refine ⟨b,o,l,h1,h2,h3,⟨h4.loc,fun i hi => ?_⟩,h5⟩
 have hc:=h4.cell i hi
 rw [World.cell?_of_block (w:=w) (hw b h5 (cell_lt hc))]
 exact hc
theorem newV_w {w w':World} {v:Value} {r:List Int} {x:Int} {B:Nat} (h:NewV w w' v r) (hI:IsN r x) (hB:B<=w.heap.size):∃ a c,v=.slice a r.length c/\NatW w' B a r.length c x:=by
 obtain ⟨ao,b,o,c,e,h1,h2,h3,h4⟩:=h.is
 exact ⟨ao,c,e,b,o,r,rfl,h1,hI,h3,Nat.le_trans hB h2⟩
theorem raNaturalW {w:World} {g b:Nat} {l:List Int} (h:RdA w g b 0 l) :
  Calls Tryz.prog 343 #[.pointer (some ⟨g,0,none⟩)] w fun e w'=>∃ v,e=.returned (.tuple #[v,.int .i64 (rdE (pNat l) 0)])/\∃ l1,RdA w' g b 0 l1/\But g w w'/\∀ x k,pNat l=.inr (x,k)->l1=l.drop k/\∃ ao n c,v=.slice ao n c/\NatW w' w.heap.size ao n c x/\n<=255:=by
 have hcn:=cntOf_eq (m:=1) h
 by_cases hl:1<=l.length
 ·have t:=raNum (m:=1) h hl (by decide)
  have hN:=cntOf_lt h hl
  rw [show (256:Int) ^ 1=256 by decide] at hN
  rw [<- hcn] at t
  have HO:=(show Hid _ from h.oct)
  by_cases hs:1 + cntOf 1 l<=l.length
  ·by_cases hz:0 < cntOf 1 l/\nth (l.drop 1) 0=0
   ·have hp:pNat l=.inl 41:=by unfold pNat; rw [if_pos hl,if_pos hs,if_pos hz]
    have HR:Hid (rdE (pNat l) 0=41):=by show _=_; rw [hp]; rfl
    have HP:=(show Hid _ from hp)
    have HZ:=(show Hid _ from hz)
    clear hp h hz hcn
    generalize cntOf 1 l=N at *
    go_enter Tryz.func343,Tryz.ntmps343
    go_wp2_with fail
    refine t.mono ?_
    rintro e w1 ⟨rfl,h1,h2⟩
    have t2:=raTake (m:=N) h1 (by rw [List.length_drop]; omega)
    clear t
    go_wp2_with fail
    refine t2.mono ?_
    rintro e w2 ⟨ao,rfl,hA,h3,h4⟩
    obtain ⟨o,k1,k2,k3,k4,k5⟩:=hA.ex
    have t3:=from_no ao N N b o _ w2 k1 HZ.out.1 k5 (by rw [nth_take HZ.out.1]; exact HZ.out.2)
    clear t2 k1 k2 k3 k4 k5 hA
    go_wp2_with fail
    refine t3.mono ?_
    rintro e w3 ⟨rfl,rfl⟩
    clear t3
    go_wp2
    go_ret2
    exact ⟨_,by rw [HR.out]; rfl,_,h3,h2.trans h4,fun x k e=>by rw [HP.out] at e; cases e⟩
   ·have hp:pNat l=.inr (bval ((l.drop 1).take (cntOf 1 l)),1 + cntOf 1 l):=by unfold pNat; rw [if_pos hl,if_pos hs,if_neg hz]
    have HR:Hid (rdE (pNat l) 0=0):=by show _=_; rw [hp]; rfl
    have HP:=(show Hid _ from hp)
    have HZ:=(show Hid _ from hz)
    clear hp h hz hcn
    generalize cntOf 1 l=N at *
    go_enter Tryz.func343,Tryz.ntmps343
    go_wp2_with fail
    refine t.mono ?_
    rintro e w1 ⟨rfl,h1,h2⟩
    have t2:=raTake (m:=N) h1 (by rw [List.length_drop]; omega)
    clear t
    go_wp2_with fail
    refine t2.mono ?_
    rintro e w2 ⟨ao,rfl,hA,h3,h4⟩
    obtain ⟨o,k1,k2,k3,k4,k5⟩:=hA.ex
    have t3:=from_yes ao N N b o _ w2 k1 (by omega) k4 k5 (fun hpos e0=>HZ.out ⟨hpos,by rw [nth_take hpos] at e0; exact e0⟩)
    clear t2 k1 k2 k3 k4 k5 hA
    go_wp2_with fail
    refine t3.mono ?_
    rintro e w3 ⟨v,r,rfl,k1,k2,k3,k4⟩
    obtain ⟨a',c',rfl,hO⟩:=newV_w k1 k2 (show w.heap.size<=w2.heap.size from (h2.trans h4).size)
    have HOO:=(show Hid _ from hO)
    have HK:=(show Hid _ from k4)
    clear t3 k1 k2 k4 hO
    go_wp2
    go_ret2
    exact ⟨_,by rw [HR.out]; rfl,_,h3.keep HK.out,(h2.trans h4).trans (But.of HK.out),fun x k e=>by
     rw [HP.out] at e
     cases e
     exact ⟨by rw [List.drop_drop],_,_,_,rfl,HOO.out,by omega⟩⟩
  ·have hp:pNat l=.inl 40:=by unfold pNat; rw [if_pos hl,if_neg hs]
   have HR:Hid (rdE (pNat l) 0=40):=by show _=_; rw [hp]; rfl
   have HP:=(show Hid _ from hp)
   clear hp h hcn
   generalize cntOf 1 l=N at *
   go_enter Tryz.func343,Tryz.ntmps343
   go_wp2_with fail
   refine t.mono ?_
   rintro e w1 ⟨rfl,h1,h2⟩
   have t2:=raTakeS (m:=N) h1 (by rw [List.length_drop]; omega)
   clear t hs
   go_wp2_with fail
   refine t2.mono ?_
   rintro e w2 ⟨rfl,rfl⟩
   clear t2
   go_wp2
   go_ret2
   exact ⟨_,by rw [HR.out]; rfl,_,h1,h2,fun x k e=>by rw [HP.out] at e; cases e⟩
 ·have t:=raNumS (m:=1) h (by omega)
  have hp:pNat l=.inl 40:=by unfold pNat; rw [if_neg hl]
  have HR:Hid (rdE (pNat l) 0=40):=by show _=_; rw [hp]; rfl
  have HP:=(show Hid _ from hp)
  have HH:=(show Hid _ from h)
  clear hp h hl hcn
  go_enter Tryz.func343,Tryz.ntmps343
  go_wp2_with fail
  refine t.mono ?_
  rintro e w1 ⟨rfl,rfl⟩
  clear t
  go_wp2
  go_ret2
  exact ⟨_,by rw [HR.out]; rfl,_,HH.out,But.refl _ _,fun x k e=>by rw [HP.out] at e; cases e⟩
theorem rdNatW {w:World} {g b:Nat} {err:Int} {l:List Int} (h:RdA w g b err l) :
  Calls Tryz.prog 314 #[.pointer (some ⟨g,0,none⟩)] w fun e w'=>∃ ao n c,e=.returned (.slice ao n c)/\NatW w' w.heap.size ao n c (rdV 0 (pNat l) err)/\n<=255/\RdA w' g b (rdE (pNat l) err) (rdL (pNat l) err l)/\But g w w':=by
 have t:=enNa (z:=(0:Int)) (p:=pNat l) (V:=fun x v w'=>∃ ao n c,v=.slice ao n c/\NatW w' w.heap.size ao n c x/\n<=255) h (fun _=>pNat_ne) (fun w'=>⟨none,0,0,rfl,natW_nil w' w.heap.size,by decide⟩) (fun e=>by subst e; exact raNaturalW h)
 clear h
 generalize rdV 0 (pNat l) err=V at *
 generalize rdE (pNat l) err=E at *
 generalize rdL (pNat l) err l=R at *
 go_enter Tryz.func314,Tryz.ntmps314
 go_wp2_with fail
 refine t.mono ?_
 rintro e w1 ⟨v,rfl,⟨ao,n,c,rfl,k3,k4⟩,k1,k2⟩
 clear t
 go_wp2
 go_ret
 exact ⟨ao,n,c,rfl,k3,k4,k1,k2⟩
theorem rdDecW {w:World} {g b:Nat} {err:Int} {l:List Int} (h:RdA w g b err l) :
  Calls Tryz.prog 238 #[.pointer (some ⟨g,0,none⟩)] w fun e w'=>∃ ao n c,e=.returned (.agg #[.slice ao n c])/\NatW w' w.heap.size ao n c (rdV 0 (pNat l) err)/\n<=255/\RdA w' g b (rdE (pNat l) err) (rdL (pNat l) err l)/\But g w w':=by
 have HB:=(show Hid _ from below_alloc w (.cells #[.slice none 0 0] 107))
 have S0:=slot_new w (.slice none 0 0) 107
 have hg:w.heap.size≠g:=by have:=h.lt; omega
 have HG:=(show Hid _ from hg)
 have t:=rdNatW (h.keep HB.out)
 clear h hg
 generalize rdV 0 (pNat l) err=V at *
 generalize rdE (pNat l) err=E at *
 generalize rdL (pNat l) err l=R at *
 go_enter Tryz.func238,Tryz.ntmps238
 go_wp2_with fail
 refine t.mono ?_
 rintro e w1 ⟨ao,n,c,rfl,k3,k4,k1,k2⟩
 have S1:=S0.but k2 HG.out
 have c1:=S1.cell
 have f1:=S1.free
 have S2:=S1.put (.slice ao n c)
 have HO:=(show Hid (NatW (w1.setCell ⟨w.heap.size,0,none⟩ (.slice ao n c)) w.heap.size ao n c V) from (k3.off (w':=w1.setCell ⟨w.heap.size,0,none⟩ (.slice ao n c)) (by rw [size_set]; exact Nat.le_refl _) (fun b hb _=>Below.heap_setCell _ _ _ b (by have:=size_al w (.cells #[.slice none 0 0] 107); show b≠w.heap.size; omega))).low HB.out.size)
 have HR:=(show Hid _ from k1.put (u:=.slice ao n c) S1 HG.out (fun x e=>by cases e))
 have HW:=(show Hid _ from ((But.of (g:=g) HB.out).trans k2).put (Nat.le_refl _) (.slice ao n c))
 clear t S0 S1 k1 k2 k3 HB HG
 go_wp2
 refine bodyPost_ret (ret_dec rfl rfl S2) rfl ?_
 exact ⟨ao,n,c,rfl,HO.out,k4,HR.out,HW.out⟩
end Rc
end
section
namespace Rc
open Go.RowKit Go.Lib Pg
attribute [local go_sem] Oper.semAt_some
abbrev RSt:=Int × List Int × (Nat->Int)
def pBoolI (l:List Int):Int ⊕ Int × Nat:=match pBool l with
 | .inl e=>.inl e
 | .inr p=>.inr ((if p.1 then 1 else 0),p.2)
def p1:Nat->List Int->Int ⊕ Int × Nat
 | 0,l=>pFix 8 l
 | 1,l=>pBoolI l
 | _,l=>pNat l
theorem pBoolI_E (l:List Int) (err:Int):rdE (pBoolI l) err=rdE (pBool l) err:=by
 unfold rdE pBoolI
 cases pBool l<;>rfl
theorem pBoolI_L (l m:List Int) (err:Int):rdL (pBoolI l) err m=rdL (pBool l) err m:=by
 unfold rdL pBoolI
 cases pBool l<;>rfl
theorem pBoolI_V (l:List Int) (err:Int):rdV 0 (pBoolI l) err=if rdV false (pBool l) err then 1 else 0:=by
 unfold rdV pBoolI
 by_cases h:err=0
 ·rw [if_pos h,if_pos h]
  cases pBool l<;>rfl
 ·rw [if_neg h,if_neg h]
  rfl
def rnx (k o:Nat) (s:RSt):RSt:=(rdE (p1 k s.2.1) s.1,rdL (p1 k s.2.1) s.1 s.2.1,fun i=>if i=o then rdV 0 (p1 k s.2.1) s.1 else s.2.2 i)
def FldR (w:World) (B:Nat) (kd:Nat->Nat) (cs:List Value) (xs:Nat->Int):Prop:=∀ o,(kd o=0->cs[o]? = some (.int .u64 (xs o)))/\(kd o=1->∃ b:Bool,cs[o]? = some (.bool b)/\xs o=if b then 1 else 0)/\(kd o=2->∃ ao n c,cs[o]? = some (.slice ao n c)/\NatW w B ao n c (xs o)/\n<=255)
theorem FldR.off {w w':World} {B:Nat} {kd:Nat->Nat} {cs:List Value} {xs:Nat->Int} (h:FldR w B kd cs xs) (hs:w.heap.size<=w'.heap.size) (hw:∀ b,B<=b->b < w.heap.size->w'.heap[b]? = w.heap[b]?):FldR w' B kd cs xs:=fun o=>⟨(h o).1,(h o).2.1,fun hk=>by
 obtain ⟨ao,n,c,h1,h2,h3⟩:=(h o).2.2 hk
 exact ⟨ao,n,c,h1,h2.off hs hw,h3⟩⟩
structure RI (w0:World) (B g b vb rb:Nat) (kd:Nat->Nat) (len:Nat) (T vt:TypeId) (s:RSt) (w:World):Prop where
 rd:RdA w g b s.1 s.2.1
 var:Blk w vb [.pointer (some ⟨g,0,none⟩)] vt
 rc:∃ cs,cs.length=len/\Blk w rb cs T/\FldR w B kd cs s.2.2
 bel:Below w0.heap.size w0 w
 s1:rb≠g
 s2:vb≠g
 s3:vb≠rb
 s4:b≠rb
 g1:g < B
 r1:rb < B
 g0:w0.heap.size<=g
 r0:w0.heap.size<=rb
theorem but_set (w:World) (g o:Nat) (v:Value):But g w (w.setCell ⟨g,o,none⟩ v):=by
 have h:=(Chg.refl (fun x=>x=g) w).cell (g:=g) (i:=o) (.inl rfl) v
 exact ⟨h.os,h.tape,h.output,h.size,fun b hb hne=>h.same b hb hne⟩
theorem RI.step {w0 w w1:World} {B g b vb rb len o k:Nat} {kd:Nat->Nat} {T vt:TypeId} {s:RSt} {e1:Int} {l1:List Int} {v:Value} {x:Int} (h:RI w0 B g b vb rb kd len T vt s w) (ho:kd o=k) (hl:o < len) (X:RdA w1 g b e1 l1) (hB:But g w w1) (hv:(k=0/\v=.int .u64 x)\/(k=1/\∃ t:Bool,v=.bool t/\x=if t then 1 else 0)\/(k=2/\∃ ao n c,v=.slice ao n c/\NatW w1 B ao n c x/\n<=255)) :
  RI w0 B g b vb rb kd len T vt (e1,l1,fun i=>if i=o then x else s.2.2 i) (w1.setCell ⟨rb,o,none⟩ v)/\Chg (fun y=>y=g\/y=rb) w (w1.setCell ⟨rb,o,none⟩ v):=by
 have hS:=but_set w1 rb o v
 have h1:=h.s1
 have h3:=h.g1
 have h4:=h.r1
 have hc1:Chg (· = g) w w1:=But.chg hB
 have hc2:Chg (· = rb) w1 (w1.setCell ⟨rb,o,none⟩ v):=But.chg hS
 obtain ⟨cs,hcl,hcb,hF⟩:=h.rc
 have b1:Below w0.heap.size w0 w1:=hB.below h.bel h.g0 (Nat.le_refl _)
 have off1:∀ y,B<=y->y < w.heap.size->w1.heap[y]? = w.heap[y]? := fun y hy hy2=>hB.block y hy2 (by omega)
 have off2:∀ y,B<=y->y < w1.heap.size->(w1.setCell ⟨rb,o,none⟩ v).heap[y]? = w1.heap[y]? := fun y hy hy2=>hS.block y hy2 (by omega)
 refine ⟨⟨X.offW (fun e=>h1 e.symm) h.s4 hS,(h.var.chg hc1 h.s2).chg hc2 h.s3,⟨cs.set o v,by rw [List.length_set]; exact hcl,(hcb.chg hc1 h1).setCell (i:=o) v,?_⟩,hS.below b1 h.r0 (Nat.le_refl _),h.s1,h.s2,h.s3,h.s4,h.g1,h.r1,h.g0,h.r0⟩,(hc1.mono (fun _ _ e=>.inl e)).trans hc2 (fun _ _ e=>.inr e)⟩
 have hF1:=hF.off hB.size off1
 intro i
 by_cases hi:i=o
 ·subst hi
  have hget:(cs.set i v)[i]? = some v:=by rw [List.getElem?_set_self (by omega)]
  rw [hget]
  simp only [if_true]
  refine ⟨fun hk => ?_,fun hk => ?_,fun hk => ?_⟩
  ·rcases hv with ⟨_,e⟩ | ⟨e,_⟩ | ⟨e,_⟩
   ·rw [e]
   ·omega
   ·omega
  ·rcases hv with ⟨e,_⟩ | ⟨_,t,e,e2⟩ | ⟨e,_⟩
   ·omega
   ·exact ⟨t,by rw [e],e2⟩
   ·omega
  ·rcases hv with ⟨e,_⟩ | ⟨e,_⟩ | ⟨_,ao,n,c,e,e2,e3⟩
   ·omega
   ·omega
   ·exact ⟨ao,n,c,by rw [e],e2.off hS.size off2,e3⟩
 ·have hget:(cs.set o v)[i]? = cs[i]? := by rw [List.getElem?_set_ne (fun e=>hi e.symm)]
  simp only [if_neg hi]
  rw [hget]
  exact (hF1.off hS.size off2) i
theorem rn_Params {w:World} {g b vb rb o:Nat} {err:Int} {l:List Int} {cs:List Value} {T vt:TypeId} {old:Value} (X:RdA w g b err l) (V:Blk w vb [.pointer (some ⟨g,0,none⟩)] vt) (R:Blk w rb cs T) (hr:rb≠g) (ho:cs[o]? = some old) (hold:∃ y,old=.int .u64 y) :
  Calls Tryz.prog 285 #[.pointer (some ⟨rb,o,none⟩),.pointer (some ⟨vb,0,none⟩)] w fun e w'=>e=.returned (.tuple #[])/\∃ w1,w'=w1.setCell ⟨rb,o,none⟩ (.int .u64 (rdV 0 (p1 0 l) err))/\RdA w1 g b (rdE (p1 0 l) err) (rdL (p1 0 l) err l)/\But g w w1:=by
 obtain ⟨y,rfl⟩:=hold
 have t:=rdU64 X
 show Calls Tryz.prog _ _ w fun e w'=>e=.returned (.tuple #[])/\∃ w1,w'=w1.setCell ⟨rb,o,none⟩ (.int .u64 (rdV 0 (pFix 8 l) err))/\RdA w1 g b (rdE (pFix 8 l) err) (rdL (pFix 8 l) err l)/\But g w w1
 generalize rdV 0 (pFix 8 l) err=Y at *
 generalize rdE (pFix 8 l) err=E at *
 generalize rdL (pFix 8 l) err l=Rl at *
 have cv:=V.cell (i:=0) rfl
 have HR:=hid3 R
 have HNE:=hid3 hr
 have HO:=hid3 ho
 clear X V R ho hr
 go_enter Tryz.func285,Tryz.ntmps285
 go_wp2_with (go_at_call 234; refine t.mono ?_; rintro e' w1 ⟨rfl,X1,B1⟩; clear t; have R1:=HR.out.chg (But.chg B1) HNE.out; have cr:=R1.cell HO.out; have fr:=R1.free o; clear R1; replace X1:=hid3 X1)
 go_end0
 exact ⟨rfl,w1,rfl,X1.out,B1⟩
theorem rt_Params {w:World} {g b vb rb o:Nat} {err:Int} {l:List Int} {cs:List Value} {T vt:TypeId} {old:Value} (X:RdA w g b err l) (V:Blk w vb [.pointer (some ⟨g,0,none⟩)] vt) (R:Blk w rb cs T) (hr:rb≠g) (ho:cs[o]? = some old) (hold:∃ y,old=.bool y) :
  Calls Tryz.prog 286 #[.pointer (some ⟨rb,o,none⟩),.pointer (some ⟨vb,0,none⟩)] w fun e w'=>e=.returned (.tuple #[])/\∃ w1,w'=w1.setCell ⟨rb,o,none⟩ (.bool (rdV false (pBool l) err))/\RdA w1 g b (rdE (p1 1 l) err) (rdL (p1 1 l) err l)/\But g w w1:=by
 obtain ⟨y,rfl⟩:=hold
 have t:=rdBool X
 show Calls Tryz.prog _ _ w fun e w'=>e=.returned (.tuple #[])/\∃ w1,w'=w1.setCell ⟨rb,o,none⟩ (.bool (rdV false (pBool l) err))/\RdA w1 g b (rdE (pBoolI l) err) (rdL (pBoolI l) err l)/\But g w w1
 rw [pBoolI_E,pBoolI_L]
 generalize rdV false (pBool l) err=Y at *
 generalize rdE (pBool l) err=E at *
 generalize rdL (pBool l) err l=Rl at *
 have cv:=V.cell (i:=0) rfl
 have HR:=hid3 R
 have HNE:=hid3 hr
 have HO:=hid3 ho
 clear X V R ho hr
 go_enter Tryz.func286,Tryz.ntmps286
 go_wp2_with (go_at_call 236; refine t.mono ?_; rintro e' w1 ⟨rfl,X1,B1⟩; clear t; have R1:=HR.out.chg (But.chg B1) HNE.out; have cr:=R1.cell HO.out; have fr:=R1.free o; clear R1; replace X1:=hid3 X1)
 go_end0
 exact ⟨rfl,w1,rfl,X1.out,B1⟩
theorem rd_Params {w:World} {g b vb rb o:Nat} {err:Int} {l:List Int} {cs:List Value} {T vt:TypeId} {old:Value} (X:RdA w g b err l) (V:Blk w vb [.pointer (some ⟨g,0,none⟩)] vt) (R:Blk w rb cs T) (hr:rb≠g) (ho:cs[o]? = some old) (hold:∃ a n c,old=.slice a n c) :
  Calls Tryz.prog 287 #[.pointer (some ⟨rb,o,none⟩),.pointer (some ⟨vb,0,none⟩)] w fun e w'=>e=.returned (.tuple #[])/\∃ w1 ao n c,w'=w1.setCell ⟨rb,o,none⟩ (.slice ao n c)/\NatW w1 w.heap.size ao n c (rdV 0 (p1 2 l) err)/\n<=255/\RdA w1 g b (rdE (p1 2 l) err) (rdL (p1 2 l) err l)/\But g w w1:=by
 obtain ⟨oa,on,oc,rfl⟩:=hold
 have t:=rdDecW X
 show Calls Tryz.prog _ _ w fun e w'=>e=.returned (.tuple #[])/\∃ w1 ao n c,w'=w1.setCell ⟨rb,o,none⟩ (.slice ao n c)/\NatW w1 w.heap.size ao n c (rdV 0 (pNat l) err)/\n<=255/\RdA w1 g b (rdE (pNat l) err) (rdL (pNat l) err l)/\But g w w1
 generalize rdV 0 (pNat l) err=Y at *
 generalize rdE (pNat l) err=E at *
 generalize rdL (pNat l) err l=Rl at *
 have cv:=V.cell (i:=0) rfl
 have HR:=hid3 R
 have HNE:=hid3 hr
 have HO:=hid3 ho
 clear X V R ho hr
 go_enter Tryz.func287,Tryz.ntmps287
 go_wp2_with (go_at_call 238; refine t.mono ?_; rintro e' w1 ⟨a1,n1,d1,rfl,N1,hn1,X1,B1⟩; clear t; have R1:=HR.out.chg (But.chg B1) HNE.out; have cr:=R1.cell HO.out; have fr:=R1.free o; clear R1; replace X1:=hid3 X1)
 go_end0
 exact ⟨rfl,w1,a1,n1,d1,rfl,N1,hn1,X1.out,B1⟩
theorem kl_Params {o k:Nat} (h:kd_Params o=k) (hk:k≠9):o < 10:=by
 by_cases ho:o < 10
 ·exact ho
 ·exfalso
  have:kd_Params o=9:=by
   unfold kd_Params
   rw [List.getD_eq_getElem?_getD,List.getElem?_eq_none (by simp; omega)]
   rfl
  omega
theorem rhc_Params {w0:World} {B g b vb rb:Nat} {T vt:TypeId}:HC RSt (fun s w=>RI w0 B g b vb rb kd_Params 10 T vt s w/\B<=w.heap.size) (fun y=>y=g\/y=rb) rb 285 286 287 (.pointer (some ⟨vb,0,none⟩)) rnx kd_Params (fun _=>True) where
 oks:=fun _ _ _ _=>trivial
 keep:=fun s w w' h Bl=>by
  obtain ⟨h,hB⟩:=h
  obtain ⟨cs,h1,h2,h3⟩:=h.rc
  exact ⟨⟨h.rd.keep Bl,h.var.keep Bl,⟨cs,h1,h2.keep Bl,h3.off Bl.size (fun y _ hy=>Bl.block y hy)⟩,h.bel.trans (Bl.mono h.bel.size),h.s1,h.s2,h.s3,h.s4,h.g1,h.r1,h.g0,h.r0⟩,Nat.le_trans hB Bl.size⟩
 old:=fun s w y h e=>by
  have:=h.1.g1
  have:=h.1.r1
  have:=h.2
  rcases e with e | e<;>omega
 e1:=fun _ _=>by kernel_rfl
 e2:=fun _ _=>by kernel_rfl
 e3:=fun _ _=>by kernel_rfl
 u:=fun s w o h _ hk=>by
  obtain ⟨h,hB⟩:=h
  obtain ⟨cs,h1,h2,h3⟩:=h.rc
  refine (rn_Params h.rd h.var h2 h.s1 ((h3 o).1 hk) ⟨_,rfl⟩).mono ?_
  rintro e w' ⟨rfl,w1,rfl,X,Bu⟩
  obtain ⟨r1,r2⟩:=h.step hk (kl_Params hk (by decide)) X Bu (.inl ⟨rfl,rfl⟩)
  exact ⟨rfl,⟨r1,Nat.le_trans hB r2.size⟩,r2⟩
 t:=fun s w o h _ hk=>by
  obtain ⟨h,hB⟩:=h
  obtain ⟨cs,h1,h2,h3⟩:=h.rc
  obtain ⟨t,ht,_⟩:=(h3 o).2.1 hk
  refine (rt_Params h.rd h.var h2 h.s1 ht ⟨_,rfl⟩).mono ?_
  rintro e w' ⟨rfl,w1,rfl,X,Bu⟩
  obtain ⟨r1,r2⟩:=h.step hk (kl_Params hk (by decide)) X Bu (x:=rdV 0 (p1 1 s.2.1) s.1) (.inr (.inl ⟨rfl,_,rfl,pBoolI_V _ _⟩))
  exact ⟨rfl,⟨r1,Nat.le_trans hB r2.size⟩,r2⟩
 d:=fun s w o h _ hk=>by
  obtain ⟨h,hB⟩:=h
  obtain ⟨cs,h1,h2,h3⟩:=h.rc
  obtain ⟨ao,n,c,ht,_⟩:=(h3 o).2.2 hk
  refine (rd_Params h.rd h.var h2 h.s1 ht ⟨_,_,_,rfl⟩).mono ?_
  rintro e w' ⟨rfl,w1,a1,n1,c1,rfl,hN,hn,X,Bu⟩
  obtain ⟨r1,r2⟩:=h.step hk (kl_Params hk (by decide)) X Bu (x:=rdV 0 (p1 2 s.2.1) s.1) (.inr (.inr ⟨rfl,_,_,_,rfl,hN.low hB,hn⟩))
  exact ⟨rfl,⟨r1,Nat.le_trans hB r2.size⟩,r2⟩
theorem rn_Chain {w:World} {g b vb rb o:Nat} {err:Int} {l:List Int} {cs:List Value} {T vt:TypeId} {old:Value} (X:RdA w g b err l) (V:Blk w vb [.pointer (some ⟨g,0,none⟩)] vt) (R:Blk w rb cs T) (hr:rb≠g) (ho:cs[o]? = some old) (hold:∃ y,old=.int .u64 y) :
  Calls Tryz.prog 288 #[.pointer (some ⟨rb,o,none⟩),.pointer (some ⟨vb,0,none⟩)] w fun e w'=>e=.returned (.tuple #[])/\∃ w1,w'=w1.setCell ⟨rb,o,none⟩ (.int .u64 (rdV 0 (p1 0 l) err))/\RdA w1 g b (rdE (p1 0 l) err) (rdL (p1 0 l) err l)/\But g w w1:=by
 obtain ⟨y,rfl⟩:=hold
 have t:=rdU64 X
 show Calls Tryz.prog _ _ w fun e w'=>e=.returned (.tuple #[])/\∃ w1,w'=w1.setCell ⟨rb,o,none⟩ (.int .u64 (rdV 0 (pFix 8 l) err))/\RdA w1 g b (rdE (pFix 8 l) err) (rdL (pFix 8 l) err l)/\But g w w1
 generalize rdV 0 (pFix 8 l) err=Y at *
 generalize rdE (pFix 8 l) err=E at *
 generalize rdL (pFix 8 l) err l=Rl at *
 have cv:=V.cell (i:=0) rfl
 have HR:=hid3 R
 have HNE:=hid3 hr
 have HO:=hid3 ho
 clear X V R ho hr
 go_enter Tryz.func288,Tryz.ntmps288
 go_wp2_with (go_at_call 234; refine t.mono ?_; rintro e' w1 ⟨rfl,X1,B1⟩; clear t; have R1:=HR.out.chg (But.chg B1) HNE.out; have cr:=R1.cell HO.out; have fr:=R1.free o; clear R1; replace X1:=hid3 X1)
 go_end0
 exact ⟨rfl,w1,rfl,X1.out,B1⟩
theorem rt_Chain {w:World} {g b vb rb o:Nat} {err:Int} {l:List Int} {cs:List Value} {T vt:TypeId} {old:Value} (X:RdA w g b err l) (V:Blk w vb [.pointer (some ⟨g,0,none⟩)] vt) (R:Blk w rb cs T) (hr:rb≠g) (ho:cs[o]? = some old) (hold:∃ y,old=.bool y) :
  Calls Tryz.prog 289 #[.pointer (some ⟨rb,o,none⟩),.pointer (some ⟨vb,0,none⟩)] w fun e w'=>e=.returned (.tuple #[])/\∃ w1,w'=w1.setCell ⟨rb,o,none⟩ (.bool (rdV false (pBool l) err))/\RdA w1 g b (rdE (p1 1 l) err) (rdL (p1 1 l) err l)/\But g w w1:=by
 obtain ⟨y,rfl⟩:=hold
 have t:=rdBool X
 show Calls Tryz.prog _ _ w fun e w'=>e=.returned (.tuple #[])/\∃ w1,w'=w1.setCell ⟨rb,o,none⟩ (.bool (rdV false (pBool l) err))/\RdA w1 g b (rdE (pBoolI l) err) (rdL (pBoolI l) err l)/\But g w w1
 rw [pBoolI_E,pBoolI_L]
 generalize rdV false (pBool l) err=Y at *
 generalize rdE (pBool l) err=E at *
 generalize rdL (pBool l) err l=Rl at *
 have cv:=V.cell (i:=0) rfl
 have HR:=hid3 R
 have HNE:=hid3 hr
 have HO:=hid3 ho
 clear X V R ho hr
 go_enter Tryz.func289,Tryz.ntmps289
 go_wp2_with (go_at_call 236; refine t.mono ?_; rintro e' w1 ⟨rfl,X1,B1⟩; clear t; have R1:=HR.out.chg (But.chg B1) HNE.out; have cr:=R1.cell HO.out; have fr:=R1.free o; clear R1; replace X1:=hid3 X1)
 go_end0
 exact ⟨rfl,w1,rfl,X1.out,B1⟩
theorem rd_Chain {w:World} {g b vb rb o:Nat} {err:Int} {l:List Int} {cs:List Value} {T vt:TypeId} {old:Value} (X:RdA w g b err l) (V:Blk w vb [.pointer (some ⟨g,0,none⟩)] vt) (R:Blk w rb cs T) (hr:rb≠g) (ho:cs[o]? = some old) (hold:∃ a n c,old=.slice a n c) :
  Calls Tryz.prog 290 #[.pointer (some ⟨rb,o,none⟩),.pointer (some ⟨vb,0,none⟩)] w fun e w'=>e=.returned (.tuple #[])/\∃ w1 ao n c,w'=w1.setCell ⟨rb,o,none⟩ (.slice ao n c)/\NatW w1 w.heap.size ao n c (rdV 0 (p1 2 l) err)/\n<=255/\RdA w1 g b (rdE (p1 2 l) err) (rdL (p1 2 l) err l)/\But g w w1:=by
 obtain ⟨oa,on,oc,rfl⟩:=hold
 have t:=rdDecW X
 show Calls Tryz.prog _ _ w fun e w'=>e=.returned (.tuple #[])/\∃ w1 ao n c,w'=w1.setCell ⟨rb,o,none⟩ (.slice ao n c)/\NatW w1 w.heap.size ao n c (rdV 0 (pNat l) err)/\n<=255/\RdA w1 g b (rdE (pNat l) err) (rdL (pNat l) err l)/\But g w w1
 generalize rdV 0 (pNat l) err=Y at *
 generalize rdE (pNat l) err=E at *
 generalize rdL (pNat l) err l=Rl at *
 have cv:=V.cell (i:=0) rfl
 have HR:=hid3 R
 have HNE:=hid3 hr
 have HO:=hid3 ho
 clear X V R ho hr
 go_enter Tryz.func290,Tryz.ntmps290
 go_wp2_with (go_at_call 238; refine t.mono ?_; rintro e' w1 ⟨a1,n1,d1,rfl,N1,hn1,X1,B1⟩; clear t; have R1:=HR.out.chg (But.chg B1) HNE.out; have cr:=R1.cell HO.out; have fr:=R1.free o; clear R1; replace X1:=hid3 X1)
 go_end0
 exact ⟨rfl,w1,a1,n1,d1,rfl,N1,hn1,X1.out,B1⟩
theorem kl_Chain {o k:Nat} (h:kd_Chain o=k) (hk:k≠9):o < 2:=by
 by_cases ho:o < 2
 ·exact ho
 ·exfalso
  have:kd_Chain o=9:=by
   unfold kd_Chain
   rw [List.getD_eq_getElem?_getD,List.getElem?_eq_none (by simp; omega)]
   rfl
  omega
theorem rhc_Chain {w0:World} {B g b vb rb:Nat} {T vt:TypeId}:HC RSt (fun s w=>RI w0 B g b vb rb kd_Chain 2 T vt s w/\B<=w.heap.size) (fun y=>y=g\/y=rb) rb 288 289 290 (.pointer (some ⟨vb,0,none⟩)) rnx kd_Chain (fun _=>True) where
 oks:=fun _ _ _ _=>trivial
 keep:=fun s w w' h Bl=>by
  obtain ⟨h,hB⟩:=h
  obtain ⟨cs,h1,h2,h3⟩:=h.rc
  exact ⟨⟨h.rd.keep Bl,h.var.keep Bl,⟨cs,h1,h2.keep Bl,h3.off Bl.size (fun y _ hy=>Bl.block y hy)⟩,h.bel.trans (Bl.mono h.bel.size),h.s1,h.s2,h.s3,h.s4,h.g1,h.r1,h.g0,h.r0⟩,Nat.le_trans hB Bl.size⟩
 old:=fun s w y h e=>by
  have:=h.1.g1
  have:=h.1.r1
  have:=h.2
  rcases e with e | e<;>omega
 e1:=fun _ _=>by kernel_rfl
 e2:=fun _ _=>by kernel_rfl
 e3:=fun _ _=>by kernel_rfl
 u:=fun s w o h _ hk=>by
  obtain ⟨h,hB⟩:=h
  obtain ⟨cs,h1,h2,h3⟩:=h.rc
  refine (rn_Chain h.rd h.var h2 h.s1 ((h3 o).1 hk) ⟨_,rfl⟩).mono ?_
  rintro e w' ⟨rfl,w1,rfl,X,Bu⟩
  obtain ⟨r1,r2⟩:=h.step hk (kl_Chain hk (by decide)) X Bu (.inl ⟨rfl,rfl⟩)
  exact ⟨rfl,⟨r1,Nat.le_trans hB r2.size⟩,r2⟩
 t:=fun s w o h _ hk=>by
  obtain ⟨h,hB⟩:=h
  obtain ⟨cs,h1,h2,h3⟩:=h.rc
  obtain ⟨t,ht,_⟩:=(h3 o).2.1 hk
  refine (rt_Chain h.rd h.var h2 h.s1 ht ⟨_,rfl⟩).mono ?_
  rintro e w' ⟨rfl,w1,rfl,X,Bu⟩
  obtain ⟨r1,r2⟩:=h.step hk (kl_Chain hk (by decide)) X Bu (x:=rdV 0 (p1 1 s.2.1) s.1) (.inr (.inl ⟨rfl,_,rfl,pBoolI_V _ _⟩))
  exact ⟨rfl,⟨r1,Nat.le_trans hB r2.size⟩,r2⟩
 d:=fun s w o h _ hk=>by
  obtain ⟨h,hB⟩:=h
  obtain ⟨cs,h1,h2,h3⟩:=h.rc
  obtain ⟨ao,n,c,ht,_⟩:=(h3 o).2.2 hk
  refine (rd_Chain h.rd h.var h2 h.s1 ht ⟨_,_,_,rfl⟩).mono ?_
  rintro e w' ⟨rfl,w1,a1,n1,c1,rfl,hN,hn,X,Bu⟩
  obtain ⟨r1,r2⟩:=h.step hk (kl_Chain hk (by decide)) X Bu (x:=rdV 0 (p1 2 s.2.1) s.1) (.inr (.inr ⟨rfl,_,_,_,rfl,hN.low hB,hn⟩))
  exact ⟨rfl,⟨r1,Nat.le_trans hB r2.size⟩,r2⟩
theorem rn_Pool {w:World} {g b vb rb o:Nat} {err:Int} {l:List Int} {cs:List Value} {T vt:TypeId} {old:Value} (X:RdA w g b err l) (V:Blk w vb [.pointer (some ⟨g,0,none⟩)] vt) (R:Blk w rb cs T) (hr:rb≠g) (ho:cs[o]? = some old) (hold:∃ y,old=.int .u64 y) :
  Calls Tryz.prog 269 #[.pointer (some ⟨rb,o,none⟩),.pointer (some ⟨vb,0,none⟩)] w fun e w'=>e=.returned (.tuple #[])/\∃ w1,w'=w1.setCell ⟨rb,o,none⟩ (.int .u64 (rdV 0 (p1 0 l) err))/\RdA w1 g b (rdE (p1 0 l) err) (rdL (p1 0 l) err l)/\But g w w1:=by
 obtain ⟨y,rfl⟩:=hold
 have t:=rdU64 X
 show Calls Tryz.prog _ _ w fun e w'=>e=.returned (.tuple #[])/\∃ w1,w'=w1.setCell ⟨rb,o,none⟩ (.int .u64 (rdV 0 (pFix 8 l) err))/\RdA w1 g b (rdE (pFix 8 l) err) (rdL (pFix 8 l) err l)/\But g w w1
 generalize rdV 0 (pFix 8 l) err=Y at *
 generalize rdE (pFix 8 l) err=E at *
 generalize rdL (pFix 8 l) err l=Rl at *
 have cv:=V.cell (i:=0) rfl
 have HR:=hid3 R
 have HNE:=hid3 hr
 have HO:=hid3 ho
 clear X V R ho hr
 go_enter Tryz.func269,Tryz.ntmps269
 go_wp2_with (go_at_call 234; refine t.mono ?_; rintro e' w1 ⟨rfl,X1,B1⟩; clear t; have R1:=HR.out.chg (But.chg B1) HNE.out; have cr:=R1.cell HO.out; have fr:=R1.free o; clear R1; replace X1:=hid3 X1)
 go_end0
 exact ⟨rfl,w1,rfl,X1.out,B1⟩
theorem rt_Pool {w:World} {g b vb rb o:Nat} {err:Int} {l:List Int} {cs:List Value} {T vt:TypeId} {old:Value} (X:RdA w g b err l) (V:Blk w vb [.pointer (some ⟨g,0,none⟩)] vt) (R:Blk w rb cs T) (hr:rb≠g) (ho:cs[o]? = some old) (hold:∃ y,old=.bool y) :
  Calls Tryz.prog 270 #[.pointer (some ⟨rb,o,none⟩),.pointer (some ⟨vb,0,none⟩)] w fun e w'=>e=.returned (.tuple #[])/\∃ w1,w'=w1.setCell ⟨rb,o,none⟩ (.bool (rdV false (pBool l) err))/\RdA w1 g b (rdE (p1 1 l) err) (rdL (p1 1 l) err l)/\But g w w1:=by
 obtain ⟨y,rfl⟩:=hold
 have t:=rdBool X
 show Calls Tryz.prog _ _ w fun e w'=>e=.returned (.tuple #[])/\∃ w1,w'=w1.setCell ⟨rb,o,none⟩ (.bool (rdV false (pBool l) err))/\RdA w1 g b (rdE (pBoolI l) err) (rdL (pBoolI l) err l)/\But g w w1
 rw [pBoolI_E,pBoolI_L]
 generalize rdV false (pBool l) err=Y at *
 generalize rdE (pBool l) err=E at *
 generalize rdL (pBool l) err l=Rl at *
 have cv:=V.cell (i:=0) rfl
 have HR:=hid3 R
 have HNE:=hid3 hr
 have HO:=hid3 ho
 clear X V R ho hr
 go_enter Tryz.func270,Tryz.ntmps270
 go_wp2_with (go_at_call 236; refine t.mono ?_; rintro e' w1 ⟨rfl,X1,B1⟩; clear t; have R1:=HR.out.chg (But.chg B1) HNE.out; have cr:=R1.cell HO.out; have fr:=R1.free o; clear R1; replace X1:=hid3 X1)
 go_end0
 exact ⟨rfl,w1,rfl,X1.out,B1⟩
theorem rd_Pool {w:World} {g b vb rb o:Nat} {err:Int} {l:List Int} {cs:List Value} {T vt:TypeId} {old:Value} (X:RdA w g b err l) (V:Blk w vb [.pointer (some ⟨g,0,none⟩)] vt) (R:Blk w rb cs T) (hr:rb≠g) (ho:cs[o]? = some old) (hold:∃ a n c,old=.slice a n c) :
  Calls Tryz.prog 271 #[.pointer (some ⟨rb,o,none⟩),.pointer (some ⟨vb,0,none⟩)] w fun e w'=>e=.returned (.tuple #[])/\∃ w1 ao n c,w'=w1.setCell ⟨rb,o,none⟩ (.slice ao n c)/\NatW w1 w.heap.size ao n c (rdV 0 (p1 2 l) err)/\n<=255/\RdA w1 g b (rdE (p1 2 l) err) (rdL (p1 2 l) err l)/\But g w w1:=by
 obtain ⟨oa,on,oc,rfl⟩:=hold
 have t:=rdDecW X
 show Calls Tryz.prog _ _ w fun e w'=>e=.returned (.tuple #[])/\∃ w1 ao n c,w'=w1.setCell ⟨rb,o,none⟩ (.slice ao n c)/\NatW w1 w.heap.size ao n c (rdV 0 (pNat l) err)/\n<=255/\RdA w1 g b (rdE (pNat l) err) (rdL (pNat l) err l)/\But g w w1
 generalize rdV 0 (pNat l) err=Y at *
 generalize rdE (pNat l) err=E at *
 generalize rdL (pNat l) err l=Rl at *
 have cv:=V.cell (i:=0) rfl
 have HR:=hid3 R
 have HNE:=hid3 hr
 have HO:=hid3 ho
 clear X V R ho hr
 go_enter Tryz.func271,Tryz.ntmps271
 go_wp2_with (go_at_call 238; refine t.mono ?_; rintro e' w1 ⟨a1,n1,d1,rfl,N1,hn1,X1,B1⟩; clear t; have R1:=HR.out.chg (But.chg B1) HNE.out; have cr:=R1.cell HO.out; have fr:=R1.free o; clear R1; replace X1:=hid3 X1)
 go_end0
 exact ⟨rfl,w1,a1,n1,d1,rfl,N1,hn1,X1.out,B1⟩
theorem kl_Pool {o k:Nat} (h:kd_Pool o=k) (hk:k≠9):o < 1:=by
 by_cases ho:o < 1
 ·exact ho
 ·exfalso
  have:kd_Pool o=9:=by
   unfold kd_Pool
   rw [List.getD_eq_getElem?_getD,List.getElem?_eq_none (by simp; omega)]
   rfl
  omega
theorem rhc_Pool {w0:World} {B g b vb rb:Nat} {T vt:TypeId}:HC RSt (fun s w=>RI w0 B g b vb rb kd_Pool 1 T vt s w/\B<=w.heap.size) (fun y=>y=g\/y=rb) rb 269 270 271 (.pointer (some ⟨vb,0,none⟩)) rnx kd_Pool (fun _=>True) where
 oks:=fun _ _ _ _=>trivial
 keep:=fun s w w' h Bl=>by
  obtain ⟨h,hB⟩:=h
  obtain ⟨cs,h1,h2,h3⟩:=h.rc
  exact ⟨⟨h.rd.keep Bl,h.var.keep Bl,⟨cs,h1,h2.keep Bl,h3.off Bl.size (fun y _ hy=>Bl.block y hy)⟩,h.bel.trans (Bl.mono h.bel.size),h.s1,h.s2,h.s3,h.s4,h.g1,h.r1,h.g0,h.r0⟩,Nat.le_trans hB Bl.size⟩
 old:=fun s w y h e=>by
  have:=h.1.g1
  have:=h.1.r1
  have:=h.2
  rcases e with e | e<;>omega
 e1:=fun _ _=>by kernel_rfl
 e2:=fun _ _=>by kernel_rfl
 e3:=fun _ _=>by kernel_rfl
 u:=fun s w o h _ hk=>by
  obtain ⟨h,hB⟩:=h
  obtain ⟨cs,h1,h2,h3⟩:=h.rc
  refine (rn_Pool h.rd h.var h2 h.s1 ((h3 o).1 hk) ⟨_,rfl⟩).mono ?_
  rintro e w' ⟨rfl,w1,rfl,X,Bu⟩
  obtain ⟨r1,r2⟩:=h.step hk (kl_Pool hk (by decide)) X Bu (.inl ⟨rfl,rfl⟩)
  exact ⟨rfl,⟨r1,Nat.le_trans hB r2.size⟩,r2⟩
 t:=fun s w o h _ hk=>by
  obtain ⟨h,hB⟩:=h
  obtain ⟨cs,h1,h2,h3⟩:=h.rc
  obtain ⟨t,ht,_⟩:=(h3 o).2.1 hk
  refine (rt_Pool h.rd h.var h2 h.s1 ht ⟨_,rfl⟩).mono ?_
  rintro e w' ⟨rfl,w1,rfl,X,Bu⟩
  obtain ⟨r1,r2⟩:=h.step hk (kl_Pool hk (by decide)) X Bu (x:=rdV 0 (p1 1 s.2.1) s.1) (.inr (.inl ⟨rfl,_,rfl,pBoolI_V _ _⟩))
  exact ⟨rfl,⟨r1,Nat.le_trans hB r2.size⟩,r2⟩
 d:=fun s w o h _ hk=>by
  obtain ⟨h,hB⟩:=h
  obtain ⟨cs,h1,h2,h3⟩:=h.rc
  obtain ⟨ao,n,c,ht,_⟩:=(h3 o).2.2 hk
  refine (rd_Pool h.rd h.var h2 h.s1 ht ⟨_,_,_,rfl⟩).mono ?_
  rintro e w' ⟨rfl,w1,a1,n1,c1,rfl,hN,hn,X,Bu⟩
  obtain ⟨r1,r2⟩:=h.step hk (kl_Pool hk (by decide)) X Bu (x:=rdV 0 (p1 2 s.2.1) s.1) (.inr (.inr ⟨rfl,_,_,_,rfl,hN.low hB,hn⟩))
  exact ⟨rfl,⟨r1,Nat.le_trans hB r2.size⟩,r2⟩
theorem rn_Account {w:World} {g b vb rb o:Nat} {err:Int} {l:List Int} {cs:List Value} {T vt:TypeId} {old:Value} (X:RdA w g b err l) (V:Blk w vb [.pointer (some ⟨g,0,none⟩)] vt) (R:Blk w rb cs T) (hr:rb≠g) (ho:cs[o]? = some old) (hold:∃ y,old=.int .u64 y) :
  Calls Tryz.prog 233 #[.pointer (some ⟨rb,o,none⟩),.pointer (some ⟨vb,0,none⟩)] w fun e w'=>e=.returned (.tuple #[])/\∃ w1,w'=w1.setCell ⟨rb,o,none⟩ (.int .u64 (rdV 0 (p1 0 l) err))/\RdA w1 g b (rdE (p1 0 l) err) (rdL (p1 0 l) err l)/\But g w w1:=by
 obtain ⟨y,rfl⟩:=hold
 have t:=rdU64 X
 show Calls Tryz.prog _ _ w fun e w'=>e=.returned (.tuple #[])/\∃ w1,w'=w1.setCell ⟨rb,o,none⟩ (.int .u64 (rdV 0 (pFix 8 l) err))/\RdA w1 g b (rdE (pFix 8 l) err) (rdL (pFix 8 l) err l)/\But g w w1
 generalize rdV 0 (pFix 8 l) err=Y at *
 generalize rdE (pFix 8 l) err=E at *
 generalize rdL (pFix 8 l) err l=Rl at *
 have cv:=V.cell (i:=0) rfl
 have HR:=hid3 R
 have HNE:=hid3 hr
 have HO:=hid3 ho
 clear X V R ho hr
 go_enter Tryz.func233,Tryz.ntmps233
 go_wp2_with (go_at_call 234; refine t.mono ?_; rintro e' w1 ⟨rfl,X1,B1⟩; clear t; have R1:=HR.out.chg (But.chg B1) HNE.out; have cr:=R1.cell HO.out; have fr:=R1.free o; clear R1; replace X1:=hid3 X1)
 go_end0
 exact ⟨rfl,w1,rfl,X1.out,B1⟩
theorem rt_Account {w:World} {g b vb rb o:Nat} {err:Int} {l:List Int} {cs:List Value} {T vt:TypeId} {old:Value} (X:RdA w g b err l) (V:Blk w vb [.pointer (some ⟨g,0,none⟩)] vt) (R:Blk w rb cs T) (hr:rb≠g) (ho:cs[o]? = some old) (hold:∃ y,old=.bool y) :
  Calls Tryz.prog 235 #[.pointer (some ⟨rb,o,none⟩),.pointer (some ⟨vb,0,none⟩)] w fun e w'=>e=.returned (.tuple #[])/\∃ w1,w'=w1.setCell ⟨rb,o,none⟩ (.bool (rdV false (pBool l) err))/\RdA w1 g b (rdE (p1 1 l) err) (rdL (p1 1 l) err l)/\But g w w1:=by
 obtain ⟨y,rfl⟩:=hold
 have t:=rdBool X
 show Calls Tryz.prog _ _ w fun e w'=>e=.returned (.tuple #[])/\∃ w1,w'=w1.setCell ⟨rb,o,none⟩ (.bool (rdV false (pBool l) err))/\RdA w1 g b (rdE (pBoolI l) err) (rdL (pBoolI l) err l)/\But g w w1
 rw [pBoolI_E,pBoolI_L]
 generalize rdV false (pBool l) err=Y at *
 generalize rdE (pBool l) err=E at *
 generalize rdL (pBool l) err l=Rl at *
 have cv:=V.cell (i:=0) rfl
 have HR:=hid3 R
 have HNE:=hid3 hr
 have HO:=hid3 ho
 clear X V R ho hr
 go_enter Tryz.func235,Tryz.ntmps235
 go_wp2_with (go_at_call 236; refine t.mono ?_; rintro e' w1 ⟨rfl,X1,B1⟩; clear t; have R1:=HR.out.chg (But.chg B1) HNE.out; have cr:=R1.cell HO.out; have fr:=R1.free o; clear R1; replace X1:=hid3 X1)
 go_end0
 exact ⟨rfl,w1,rfl,X1.out,B1⟩
theorem rd_Account {w:World} {g b vb rb o:Nat} {err:Int} {l:List Int} {cs:List Value} {T vt:TypeId} {old:Value} (X:RdA w g b err l) (V:Blk w vb [.pointer (some ⟨g,0,none⟩)] vt) (R:Blk w rb cs T) (hr:rb≠g) (ho:cs[o]? = some old) (hold:∃ a n c,old=.slice a n c) :
  Calls Tryz.prog 237 #[.pointer (some ⟨rb,o,none⟩),.pointer (some ⟨vb,0,none⟩)] w fun e w'=>e=.returned (.tuple #[])/\∃ w1 ao n c,w'=w1.setCell ⟨rb,o,none⟩ (.slice ao n c)/\NatW w1 w.heap.size ao n c (rdV 0 (p1 2 l) err)/\n<=255/\RdA w1 g b (rdE (p1 2 l) err) (rdL (p1 2 l) err l)/\But g w w1:=by
 obtain ⟨oa,on,oc,rfl⟩:=hold
 have t:=rdDecW X
 show Calls Tryz.prog _ _ w fun e w'=>e=.returned (.tuple #[])/\∃ w1 ao n c,w'=w1.setCell ⟨rb,o,none⟩ (.slice ao n c)/\NatW w1 w.heap.size ao n c (rdV 0 (pNat l) err)/\n<=255/\RdA w1 g b (rdE (pNat l) err) (rdL (pNat l) err l)/\But g w w1
 generalize rdV 0 (pNat l) err=Y at *
 generalize rdE (pNat l) err=E at *
 generalize rdL (pNat l) err l=Rl at *
 have cv:=V.cell (i:=0) rfl
 have HR:=hid3 R
 have HNE:=hid3 hr
 have HO:=hid3 ho
 clear X V R ho hr
 go_enter Tryz.func237,Tryz.ntmps237
 go_wp2_with (go_at_call 238; refine t.mono ?_; rintro e' w1 ⟨a1,n1,d1,rfl,N1,hn1,X1,B1⟩; clear t; have R1:=HR.out.chg (But.chg B1) HNE.out; have cr:=R1.cell HO.out; have fr:=R1.free o; clear R1; replace X1:=hid3 X1)
 go_end0
 exact ⟨rfl,w1,a1,n1,d1,rfl,N1,hn1,X1.out,B1⟩
theorem kl_Account {o k:Nat} (h:kd_Account o=k) (hk:k≠9):o < 2:=by
 by_cases ho:o < 2
 ·exact ho
 ·exfalso
  have:kd_Account o=9:=by
   unfold kd_Account
   rw [List.getD_eq_getElem?_getD,List.getElem?_eq_none (by simp; omega)]
   rfl
  omega
theorem rhc_Account {w0:World} {B g b vb rb:Nat} {T vt:TypeId}:HC RSt (fun s w=>RI w0 B g b vb rb kd_Account 2 T vt s w/\B<=w.heap.size) (fun y=>y=g\/y=rb) rb 233 235 237 (.pointer (some ⟨vb,0,none⟩)) rnx kd_Account (fun _=>True) where
 oks:=fun _ _ _ _=>trivial
 keep:=fun s w w' h Bl=>by
  obtain ⟨h,hB⟩:=h
  obtain ⟨cs,h1,h2,h3⟩:=h.rc
  exact ⟨⟨h.rd.keep Bl,h.var.keep Bl,⟨cs,h1,h2.keep Bl,h3.off Bl.size (fun y _ hy=>Bl.block y hy)⟩,h.bel.trans (Bl.mono h.bel.size),h.s1,h.s2,h.s3,h.s4,h.g1,h.r1,h.g0,h.r0⟩,Nat.le_trans hB Bl.size⟩
 old:=fun s w y h e=>by
  have:=h.1.g1
  have:=h.1.r1
  have:=h.2
  rcases e with e | e<;>omega
 e1:=fun _ _=>by kernel_rfl
 e2:=fun _ _=>by kernel_rfl
 e3:=fun _ _=>by kernel_rfl
 u:=fun s w o h _ hk=>by
  obtain ⟨h,hB⟩:=h
  obtain ⟨cs,h1,h2,h3⟩:=h.rc
  refine (rn_Account h.rd h.var h2 h.s1 ((h3 o).1 hk) ⟨_,rfl⟩).mono ?_
  rintro e w' ⟨rfl,w1,rfl,X,Bu⟩
  obtain ⟨r1,r2⟩:=h.step hk (kl_Account hk (by decide)) X Bu (.inl ⟨rfl,rfl⟩)
  exact ⟨rfl,⟨r1,Nat.le_trans hB r2.size⟩,r2⟩
 t:=fun s w o h _ hk=>by
  obtain ⟨h,hB⟩:=h
  obtain ⟨cs,h1,h2,h3⟩:=h.rc
  obtain ⟨t,ht,_⟩:=(h3 o).2.1 hk
  refine (rt_Account h.rd h.var h2 h.s1 ht ⟨_,rfl⟩).mono ?_
  rintro e w' ⟨rfl,w1,rfl,X,Bu⟩
  obtain ⟨r1,r2⟩:=h.step hk (kl_Account hk (by decide)) X Bu (x:=rdV 0 (p1 1 s.2.1) s.1) (.inr (.inl ⟨rfl,_,rfl,pBoolI_V _ _⟩))
  exact ⟨rfl,⟨r1,Nat.le_trans hB r2.size⟩,r2⟩
 d:=fun s w o h _ hk=>by
  obtain ⟨h,hB⟩:=h
  obtain ⟨cs,h1,h2,h3⟩:=h.rc
  obtain ⟨ao,n,c,ht,_⟩:=(h3 o).2.2 hk
  refine (rd_Account h.rd h.var h2 h.s1 ht ⟨_,_,_,rfl⟩).mono ?_
  rintro e w' ⟨rfl,w1,a1,n1,c1,rfl,hN,hn,X,Bu⟩
  obtain ⟨r1,r2⟩:=h.step hk (kl_Account hk (by decide)) X Bu (x:=rdV 0 (p1 2 s.2.1) s.1) (.inr (.inr ⟨rfl,_,_,_,rfl,hN.low hB,hn⟩))
  exact ⟨rfl,⟨r1,Nat.le_trans hB r2.size⟩,r2⟩
theorem rn_Number {w:World} {g b vb rb o:Nat} {err:Int} {l:List Int} {cs:List Value} {T vt:TypeId} {old:Value} (X:RdA w g b err l) (V:Blk w vb [.pointer (some ⟨g,0,none⟩)] vt) (R:Blk w rb cs T) (hr:rb≠g) (ho:cs[o]? = some old) (hold:∃ y,old=.int .u64 y) :
  Calls Tryz.prog 300 #[.pointer (some ⟨rb,o,none⟩),.pointer (some ⟨vb,0,none⟩)] w fun e w'=>e=.returned (.tuple #[])/\∃ w1,w'=w1.setCell ⟨rb,o,none⟩ (.int .u64 (rdV 0 (p1 0 l) err))/\RdA w1 g b (rdE (p1 0 l) err) (rdL (p1 0 l) err l)/\But g w w1:=by
 obtain ⟨y,rfl⟩:=hold
 have t:=rdU64 X
 show Calls Tryz.prog _ _ w fun e w'=>e=.returned (.tuple #[])/\∃ w1,w'=w1.setCell ⟨rb,o,none⟩ (.int .u64 (rdV 0 (pFix 8 l) err))/\RdA w1 g b (rdE (pFix 8 l) err) (rdL (pFix 8 l) err l)/\But g w w1
 generalize rdV 0 (pFix 8 l) err=Y at *
 generalize rdE (pFix 8 l) err=E at *
 generalize rdL (pFix 8 l) err l=Rl at *
 have cv:=V.cell (i:=0) rfl
 have HR:=hid3 R
 have HNE:=hid3 hr
 have HO:=hid3 ho
 clear X V R ho hr
 go_enter Tryz.func300,Tryz.ntmps300
 go_wp2_with (go_at_call 234; refine t.mono ?_; rintro e' w1 ⟨rfl,X1,B1⟩; clear t; have R1:=HR.out.chg (But.chg B1) HNE.out; have cr:=R1.cell HO.out; have fr:=R1.free o; clear R1; replace X1:=hid3 X1)
 go_end0
 exact ⟨rfl,w1,rfl,X1.out,B1⟩
theorem rt_Number {w:World} {g b vb rb o:Nat} {err:Int} {l:List Int} {cs:List Value} {T vt:TypeId} {old:Value} (X:RdA w g b err l) (V:Blk w vb [.pointer (some ⟨g,0,none⟩)] vt) (R:Blk w rb cs T) (hr:rb≠g) (ho:cs[o]? = some old) (hold:∃ y,old=.bool y) :
  Calls Tryz.prog 301 #[.pointer (some ⟨rb,o,none⟩),.pointer (some ⟨vb,0,none⟩)] w fun e w'=>e=.returned (.tuple #[])/\∃ w1,w'=w1.setCell ⟨rb,o,none⟩ (.bool (rdV false (pBool l) err))/\RdA w1 g b (rdE (p1 1 l) err) (rdL (p1 1 l) err l)/\But g w w1:=by
 obtain ⟨y,rfl⟩:=hold
 have t:=rdBool X
 show Calls Tryz.prog _ _ w fun e w'=>e=.returned (.tuple #[])/\∃ w1,w'=w1.setCell ⟨rb,o,none⟩ (.bool (rdV false (pBool l) err))/\RdA w1 g b (rdE (pBoolI l) err) (rdL (pBoolI l) err l)/\But g w w1
 rw [pBoolI_E,pBoolI_L]
 generalize rdV false (pBool l) err=Y at *
 generalize rdE (pBool l) err=E at *
 generalize rdL (pBool l) err l=Rl at *
 have cv:=V.cell (i:=0) rfl
 have HR:=hid3 R
 have HNE:=hid3 hr
 have HO:=hid3 ho
 clear X V R ho hr
 go_enter Tryz.func301,Tryz.ntmps301
 go_wp2_with (go_at_call 236; refine t.mono ?_; rintro e' w1 ⟨rfl,X1,B1⟩; clear t; have R1:=HR.out.chg (But.chg B1) HNE.out; have cr:=R1.cell HO.out; have fr:=R1.free o; clear R1; replace X1:=hid3 X1)
 go_end0
 exact ⟨rfl,w1,rfl,X1.out,B1⟩
theorem rd_Number {w:World} {g b vb rb o:Nat} {err:Int} {l:List Int} {cs:List Value} {T vt:TypeId} {old:Value} (X:RdA w g b err l) (V:Blk w vb [.pointer (some ⟨g,0,none⟩)] vt) (R:Blk w rb cs T) (hr:rb≠g) (ho:cs[o]? = some old) (hold:∃ a n c,old=.slice a n c) :
  Calls Tryz.prog 302 #[.pointer (some ⟨rb,o,none⟩),.pointer (some ⟨vb,0,none⟩)] w fun e w'=>e=.returned (.tuple #[])/\∃ w1 ao n c,w'=w1.setCell ⟨rb,o,none⟩ (.slice ao n c)/\NatW w1 w.heap.size ao n c (rdV 0 (p1 2 l) err)/\n<=255/\RdA w1 g b (rdE (p1 2 l) err) (rdL (p1 2 l) err l)/\But g w w1:=by
 obtain ⟨oa,on,oc,rfl⟩:=hold
 have t:=rdDecW X
 show Calls Tryz.prog _ _ w fun e w'=>e=.returned (.tuple #[])/\∃ w1 ao n c,w'=w1.setCell ⟨rb,o,none⟩ (.slice ao n c)/\NatW w1 w.heap.size ao n c (rdV 0 (pNat l) err)/\n<=255/\RdA w1 g b (rdE (pNat l) err) (rdL (pNat l) err l)/\But g w w1
 generalize rdV 0 (pNat l) err=Y at *
 generalize rdE (pNat l) err=E at *
 generalize rdL (pNat l) err l=Rl at *
 have cv:=V.cell (i:=0) rfl
 have HR:=hid3 R
 have HNE:=hid3 hr
 have HO:=hid3 ho
 clear X V R ho hr
 go_enter Tryz.func302,Tryz.ntmps302
 go_wp2_with (go_at_call 238; refine t.mono ?_; rintro e' w1 ⟨a1,n1,d1,rfl,N1,hn1,X1,B1⟩; clear t; have R1:=HR.out.chg (But.chg B1) HNE.out; have cr:=R1.cell HO.out; have fr:=R1.free o; clear R1; replace X1:=hid3 X1)
 go_end0
 exact ⟨rfl,w1,a1,n1,d1,rfl,N1,hn1,X1.out,B1⟩
theorem kl_Number {o k:Nat} (h:kd_Number o=k) (hk:k≠9):o < 1:=by
 by_cases ho:o < 1
 ·exact ho
 ·exfalso
  have:kd_Number o=9:=by
   unfold kd_Number
   rw [List.getD_eq_getElem?_getD,List.getElem?_eq_none (by simp; omega)]
   rfl
  omega
theorem rhc_Number {w0:World} {B g b vb rb:Nat} {T vt:TypeId}:HC RSt (fun s w=>RI w0 B g b vb rb kd_Number 1 T vt s w/\B<=w.heap.size) (fun y=>y=g\/y=rb) rb 300 301 302 (.pointer (some ⟨vb,0,none⟩)) rnx kd_Number (fun _=>True) where
 oks:=fun _ _ _ _=>trivial
 keep:=fun s w w' h Bl=>by
  obtain ⟨h,hB⟩:=h
  obtain ⟨cs,h1,h2,h3⟩:=h.rc
  exact ⟨⟨h.rd.keep Bl,h.var.keep Bl,⟨cs,h1,h2.keep Bl,h3.off Bl.size (fun y _ hy=>Bl.block y hy)⟩,h.bel.trans (Bl.mono h.bel.size),h.s1,h.s2,h.s3,h.s4,h.g1,h.r1,h.g0,h.r0⟩,Nat.le_trans hB Bl.size⟩
 old:=fun s w y h e=>by
  have:=h.1.g1
  have:=h.1.r1
  have:=h.2
  rcases e with e | e<;>omega
 e1:=fun _ _=>by kernel_rfl
 e2:=fun _ _=>by kernel_rfl
 e3:=fun _ _=>by kernel_rfl
 u:=fun s w o h _ hk=>by
  obtain ⟨h,hB⟩:=h
  obtain ⟨cs,h1,h2,h3⟩:=h.rc
  refine (rn_Number h.rd h.var h2 h.s1 ((h3 o).1 hk) ⟨_,rfl⟩).mono ?_
  rintro e w' ⟨rfl,w1,rfl,X,Bu⟩
  obtain ⟨r1,r2⟩:=h.step hk (kl_Number hk (by decide)) X Bu (.inl ⟨rfl,rfl⟩)
  exact ⟨rfl,⟨r1,Nat.le_trans hB r2.size⟩,r2⟩
 t:=fun s w o h _ hk=>by
  obtain ⟨h,hB⟩:=h
  obtain ⟨cs,h1,h2,h3⟩:=h.rc
  obtain ⟨t,ht,_⟩:=(h3 o).2.1 hk
  refine (rt_Number h.rd h.var h2 h.s1 ht ⟨_,rfl⟩).mono ?_
  rintro e w' ⟨rfl,w1,rfl,X,Bu⟩
  obtain ⟨r1,r2⟩:=h.step hk (kl_Number hk (by decide)) X Bu (x:=rdV 0 (p1 1 s.2.1) s.1) (.inr (.inl ⟨rfl,_,rfl,pBoolI_V _ _⟩))
  exact ⟨rfl,⟨r1,Nat.le_trans hB r2.size⟩,r2⟩
 d:=fun s w o h _ hk=>by
  obtain ⟨h,hB⟩:=h
  obtain ⟨cs,h1,h2,h3⟩:=h.rc
  obtain ⟨ao,n,c,ht,_⟩:=(h3 o).2.2 hk
  refine (rd_Number h.rd h.var h2 h.s1 ht ⟨_,_,_,rfl⟩).mono ?_
  rintro e w' ⟨rfl,w1,a1,n1,c1,rfl,hN,hn,X,Bu⟩
  obtain ⟨r1,r2⟩:=h.step hk (kl_Number hk (by decide)) X Bu (x:=rdV 0 (p1 2 s.2.1) s.1) (.inr (.inr ⟨rfl,_,_,_,rfl,hN.low hB,hn⟩))
  exact ⟨rfl,⟨r1,Nat.le_trans hB r2.size⟩,r2⟩
end Rc
end
section
namespace Rc
open Go.RowKit Go.Lib Pg
attribute [local go_sem] Oper.semAt_some
theorem rdL_len {α:Type} (p:Int ⊕ α × Nat) (err:Int) (l:List Int):(rdL p err l).length<=l.length:=by
 unfold rdL
 split
 ·cases p
  ·exact Nat.le_refl _
  ·simp
 ·exact Nat.le_refl _
theorem thr_len (ks:List (Nat × Nat)):∀ s:RSt,(thr rnx ks s).2.1.length<=s.2.1.length:=by
 induction ks with
 | nil=>intro s; exact Nat.le_refl _
 | cons p ks ih =>
  intro s
  have e:thr rnx (p :: ks) s=thr rnx ks (rnx p.1 p.2 s):=rfl
  rw [e]
  exact Nat.le_trans (ih _) (rdL_len _ _ _)
structure FinR (w:World) (kd:Nat->Nat) (len:Nat) (mk:List Value->Value) (s:RSt) (e:Ending) (w':World):Prop where
 ex:∃ cs xs r,e=.returned (.tuple #[mk cs,.int .i64 r])/\cs.length=len/\FldR w' w.heap.size kd cs xs/\(endE s.1 s.2.1=0->r=0/\xs=s.2.2)/\(endE s.1 s.2.1≠0->r=80/\xs=fun _=>0)
 bel:Below w.heap.size w w'
theorem FldR.low {w:World} {B B':Nat} {kd:Nat->Nat} {cs:List Value} {xs:Nat->Int} (h:FldR w B kd cs xs) (hB:B'<=B):FldR w B' kd cs xs:=fun o=>⟨(h o).1,(h o).2.1,fun hk=>by
 obtain ⟨ao,n,c,h1,h2,h3⟩:=(h o).2.2 hk
 exact ⟨ao,n,c,h1,h2.low hB,h3⟩⟩
theorem ret_rc {fn:Func} {p u:Tmp} {T:TypeId} (h:fn.results=#[.cell p T,.tmp u]) {tmps:Array Value} {w:World} {g:Nat} {v x:Value} (hp:tmps.getD p undef=.pointer (some ⟨g,0,none⟩)) (hu:tmps.getD u undef=x) (hl:(loadVar T ⟨g,0,none⟩).run Tryz.prog w=.ok v w):(results fn tmps).run Tryz.prog w=.ok (.tuple #[v,x]) w:=by
 have hp':tmps[p]?.getD undef=.pointer (some ⟨g,0,none⟩):=by simpa using hp
 have hu':tmps[u]?.getD undef=x:=by simpa using hu
 simp [results,h,hp',hu',asAddr,hl]
def mkA (cs:List Value):Value:=.agg cs.toArray
def mkO (cs:List Value):Value:=cs.headD undef
theorem ld_Params {w:World} {g:Nat} {y0 y1 y2 y3 y4 y5 y6 y7 y8 y9:Value} (c0:w.cell? ⟨g,0,none⟩=some y0) (c1:w.cell? ⟨g,1,none⟩=some y1) (c2:w.cell? ⟨g,2,none⟩=some y2) (c3:w.cell? ⟨g,3,none⟩=some y3) (c4:w.cell? ⟨g,4,none⟩=some y4) (c5:w.cell? ⟨g,5,none⟩=some y5) (c6:w.cell? ⟨g,6,none⟩=some y6) (c7:w.cell? ⟨g,7,none⟩=some y7) (c8:w.cell? ⟨g,8,none⟩=some y8) (c9:w.cell? ⟨g,9,none⟩=some y9):(loadVar 24 ⟨g,0,none⟩).run Tryz.prog w=.ok (.agg #[y0,y1,y2,y3,y4,y5,y6,y7,y8,y9]) w:=by go_simp
theorem read_Params {w : World} {bb n c : Nat} {ao : Option Addr} {l : List Int} (A : ByA w bb ao n c l) (hn : n ≤ 1000000000) (hl : l.length = n) :
    Calls Tryz.prog 206 #[.slice ao n c, .func (.func 31) #[] #[]] w (FinR w kd_Params 10 mkA (thr rnx [(0, 0), (0, 1), (0, 2), (0, 3), (0, 4), (0, 5), (0, 6), (0, 7), (0, 8), (0, 9)] (0, l, fun _ => (0 : Int)))) := by
  have b1 := below_alloc w (.cells #[.int .u64 0, .int .u64 0, .int .u64 0, .int .u64 0, .int .u64 0, .int .u64 0, .int .u64 0, .int .u64 0, .int .u64 0, .int .u64 0] 24)
  have b2 := below_alloc (w.alloc (.cells #[.int .u64 0, .int .u64 0, .int .u64 0, .int .u64 0, .int .u64 0, .int .u64 0, .int .u64 0, .int .u64 0, .int .u64 0, .int .u64 0] 24)) (.cells #[.int .u64 0, .int .u64 0, .int .u64 0, .int .u64 0, .int .u64 0, .int .u64 0, .int .u64 0, .int .u64 0, .int .u64 0, .int .u64 0] 24)
  have b3 := below_alloc ((w.alloc (.cells #[.int .u64 0, .int .u64 0, .int .u64 0, .int .u64 0, .int .u64 0, .int .u64 0, .int .u64 0, .int .u64 0, .int .u64 0, .int .u64 0] 24)).alloc (.cells #[.int .u64 0, .int .u64 0, .int .u64 0, .int .u64 0, .int .u64 0, .int .u64 0, .int .u64 0, .int .u64 0, .int .u64 0, .int .u64 0] 24)) (.cells #[.int .u64 0, .int .u64 0, .int .u64 0, .int .u64 0, .int .u64 0, .int .u64 0, .int .u64 0, .int .u64 0, .int .u64 0, .int .u64 0] 24)
  have z1 := size_al w (.cells #[.int .u64 0, .int .u64 0, .int .u64 0, .int .u64 0, .int .u64 0, .int .u64 0, .int .u64 0, .int .u64 0, .int .u64 0, .int .u64 0] 24)
  have z2 := size_al (w.alloc (.cells #[.int .u64 0, .int .u64 0, .int .u64 0, .int .u64 0, .int .u64 0, .int .u64 0, .int .u64 0, .int .u64 0, .int .u64 0, .int .u64 0] 24)) (.cells #[.int .u64 0, .int .u64 0, .int .u64 0, .int .u64 0, .int .u64 0, .int .u64 0, .int .u64 0, .int .u64 0, .int .u64 0, .int .u64 0] 24)
  have z3 := size_al ((w.alloc (.cells #[.int .u64 0, .int .u64 0, .int .u64 0, .int .u64 0, .int .u64 0, .int .u64 0, .int .u64 0, .int .u64 0, .int .u64 0, .int .u64 0] 24)).alloc (.cells #[.int .u64 0, .int .u64 0, .int .u64 0, .int .u64 0, .int .u64 0, .int .u64 0, .int .u64 0, .int .u64 0, .int .u64 0, .int .u64 0] 24)) (.cells #[.int .u64 0, .int .u64 0, .int .u64 0, .int .u64 0, .int .u64 0, .int .u64 0, .int .u64 0, .int .u64 0, .int .u64 0, .int .u64 0] 24)
  have y1 := ((blk_new w [.int .u64 0, .int .u64 0, .int .u64 0, .int .u64 0, .int .u64 0, .int .u64 0, .int .u64 0, .int .u64 0, .int .u64 0, .int .u64 0] 24).keep b2).keep b3
  have y2 := (blk_new (w.alloc (.cells #[.int .u64 0, .int .u64 0, .int .u64 0, .int .u64 0, .int .u64 0, .int .u64 0, .int .u64 0, .int .u64 0, .int .u64 0, .int .u64 0] 24)) [.int .u64 0, .int .u64 0, .int .u64 0, .int .u64 0, .int .u64 0, .int .u64 0, .int .u64 0, .int .u64 0, .int .u64 0, .int .u64 0] 24).keep b3
  have y3 := blk_new ((w.alloc (.cells #[.int .u64 0, .int .u64 0, .int .u64 0, .int .u64 0, .int .u64 0, .int .u64 0, .int .u64 0, .int .u64 0, .int .u64 0, .int .u64 0] 24)).alloc (.cells #[.int .u64 0, .int .u64 0, .int .u64 0, .int .u64 0, .int .u64 0, .int .u64 0, .int .u64 0, .int .u64 0, .int .u64 0, .int .u64 0] 24)) [.int .u64 0, .int .u64 0, .int .u64 0, .int .u64 0, .int .u64 0, .int .u64 0, .int .u64 0, .int .u64 0, .int .u64 0, .int .u64 0] 24
  rw [z2, z1] at y3
  rw [z1] at y2
  rw [z2, z1] at z3
  obtain ⟨W3, hW3⟩ : ∃ W3, Hid ((((w.alloc (.cells #[.int .u64 0, .int .u64 0, .int .u64 0, .int .u64 0, .int .u64 0, .int .u64 0, .int .u64 0, .int .u64 0, .int .u64 0, .int .u64 0] 24)).alloc (.cells #[.int .u64 0, .int .u64 0, .int .u64 0, .int .u64 0, .int .u64 0, .int .u64 0, .int .u64 0, .int .u64 0, .int .u64 0, .int .u64 0] 24)).alloc (.cells #[.int .u64 0, .int .u64 0, .int .u64 0, .int .u64 0, .int .u64 0, .int .u64 0, .int .u64 0, .int .u64 0, .int .u64 0, .int .u64 0] 24)) = W3) := ⟨_, rfl⟩
  have BB := joinB (joinB b1 b2) b3
  rw [hW3.out] at BB y1 y2 y3 z3
  have HN := hid3 (rdNew (A.keep BB) (by omega))
  have Y1 := hid3 y1
  have Y2 := hid3 y2
  have Y3 := hid3 y3
  have Z3 := hid3 z3
  have HBB := hid3 BB
  have HL := hid3 hl
  clear b1 b2 b3 z1 z2 z3 y1 y2 y3 BB A hl
  obtain ⟨st, hst⟩ : ∃ st, Hid (thr rnx [(0, 0), (0, 1), (0, 2), (0, 3), (0, 4), (0, 5), (0, 6), (0, 7), (0, 8), (0, 9)] (0, l, fun _ => (0 : Int)) = st) := ⟨_, rfl⟩
  have hsl : st.2.1.length ≤ n := by have h := thr_len [(0, 0), (0, 1), (0, 2), (0, 3), (0, 4), (0, 5), (0, 6), (0, 7), (0, 8), (0, 9)] (0, l, fun _ => (0 : Int)); rw [hst.out] at h; rw [HL.out] at h; exact h
  rw [hst.out]
  go_enter Tryz.func206, Tryz.ntmps206
  go_wp2_with fail
  rw [hW3.out]
  refine HN.out.mono ?_
  rintro e' w4 ⟨g, b', rfl, hg, hb', X4, B4⟩
  have b5 := below_alloc w4 (.cells #[.pointer (some ⟨g, 0, none⟩)] 337)
  have v5 := blk_new w4 [.pointer (some ⟨g, 0, none⟩)] 337
  have z5 := size_al w4 (.cells #[.pointer (some ⟨g, 0, none⟩)] 337)
  obtain ⟨W5, hW5⟩ : ∃ W5, Hid (w4.alloc (.cells #[.pointer (some ⟨g, 0, none⟩)] 337) = W5) := ⟨_, rfl⟩
  rw [hW5.out] at b5 v5 z5
  have hgl := X4.lt
  have hz3 := Z3.out
  have hz4 := B4.size
  have F0 : FldR W5 W5.heap.size kd_Params [.int .u64 0, .int .u64 0, .int .u64 0, .int .u64 0, .int .u64 0, .int .u64 0, .int .u64 0, .int .u64 0, .int .u64 0, .int .u64 0] (fun _ => 0) := fun o => match o with
    | 0 => ⟨fun _ => rfl, fun h => absurd h (by decide), fun h => absurd h (by decide)⟩
    | 1 => ⟨fun _ => rfl, fun h => absurd h (by decide), fun h => absurd h (by decide)⟩
    | 2 => ⟨fun _ => rfl, fun h => absurd h (by decide), fun h => absurd h (by decide)⟩
    | 3 => ⟨fun _ => rfl, fun h => absurd h (by decide), fun h => absurd h (by decide)⟩
    | 4 => ⟨fun _ => rfl, fun h => absurd h (by decide), fun h => absurd h (by decide)⟩
    | 5 => ⟨fun _ => rfl, fun h => absurd h (by decide), fun h => absurd h (by decide)⟩
    | 6 => ⟨fun _ => rfl, fun h => absurd h (by decide), fun h => absurd h (by decide)⟩
    | 7 => ⟨fun _ => rfl, fun h => absurd h (by decide), fun h => absurd h (by decide)⟩
    | 8 => ⟨fun _ => rfl, fun h => absurd h (by decide), fun h => absurd h (by decide)⟩
    | 9 => ⟨fun _ => rfl, fun h => absurd h (by decide), fun h => absurd h (by decide)⟩
    | k + 10 => ⟨fun h => absurd h (by simp [kd_Params]), fun h => absurd h (by simp [kd_Params]), fun h => absurd h (by simp [kd_Params])⟩
  have U := ofParams_any (rhc_Params (w0 := w) (B := W5.heap.size) (g := g) (b := b') (vb := w4.heap.size) (rb := w.heap.size + 1) (T := 24) (vt := 337)) (s := (0, l, fun _ => (0 : Int))) (w := W5) ⟨⟨X4.keep b5, v5, ⟨_, rfl, (Y2.out.keep B4).keep b5, F0⟩, joinB (joinB HBB.out B4) b5, by omega, by omega, by omega, by omega, by omega, by omega, by omega, by omega⟩, Nat.le_refl _⟩ (by simp [kd_Params]) trivial
  rw [hst.out] at U
  have HU := hid3 U
  have P1 := hid3 ((Y1.out.keep B4).keep b5)
  have P3 := hid3 ((Y3.out.keep B4).keep b5)
  have HS := hid3 (show w.heap.size ≠ g ∧ w.heap.size + 1 + 1 ≠ g ∧ w.heap.size + 1 + 1 ≠ w.heap.size + 1 ∧ w.heap.size ≠ w.heap.size + 1 ∧ w.heap.size ≤ W5.heap.size ∧ w.heap.size ≤ g from ⟨by omega, by omega, by omega, by omega, by omega, by omega⟩)
  clear U b5 v5 z5 hgl hz3 hz4 F0 X4 B4 hg hb' HN Y1 Y2 Y3
  go_wp2_with fail
  rw [hW5.out]
  refine HU.out.mono ?_
  rintro e' w6 ⟨rfl, ⟨I6, hB6⟩, C6⟩
  have c6 := I6.var.cell (i := 0) rfl
  go_wp2_with fail
  refine (rdEnd I6.rd (by omega)).mono ?_
  rintro e' w7 ⟨rfl, X7, B7⟩
  obtain ⟨cs6, hl6, R6, F6⟩ := I6.rc
  obtain ⟨XS, hXS⟩ : ∃ XS, Hid (st.2.2 = XS) := ⟨_, rfl⟩
  rw [hXS.out] at F6
  have hF6 := hid3 F6
  have q0 := (F6 0).1 rfl
  have q1 := (F6 1).1 rfl
  have q2 := (F6 2).1 rfl
  have q3 := (F6 3).1 rfl
  have q4 := (F6 4).1 rfl
  have q5 := (F6 5).1 rfl
  have q6 := (F6 6).1 rfl
  have q7 := (F6 7).1 rfl
  have q8 := (F6 8).1 rfl
  have q9 := (F6 9).1 rfl
  have ecs : cs6 = [.int .u64 (XS 0), .int .u64 (XS 1), .int .u64 (XS 2), .int .u64 (XS 3), .int .u64 (XS 4), .int .u64 (XS 5), .int .u64 (XS 6), .int .u64 (XS 7), .int .u64 (XS 8), .int .u64 (XS 9)] := by
    apply List.ext_getElem?
    intro i
    match i with
    | 0 => rw [q0]; rfl
    | 1 => rw [q1]; rfl
    | 2 => rw [q2]; rfl
    | 3 => rw [q3]; rfl
    | 4 => rw [q4]; rfl
    | 5 => rw [q5]; rfl
    | 6 => rw [q6]; rfl
    | 7 => rw [q7]; rfl
    | 8 => rw [q8]; rfl
    | 9 => rw [q9]; rfl
    | k + 10 => rw [List.getElem?_eq_none (by omega), List.getElem?_eq_none (by simp)]
  subst ecs
  have C7 := But.chg B7
  have K1 := (P1.out.chg C6 (fun h => h.elim HS.out.1 HS.out.2.2.2.1)).chg C7 HS.out.1
  have K3 := (P3.out.chg C6 (fun h => h.elim HS.out.2.1 HS.out.2.2.1)).chg C7 HS.out.2.1
  have K2 := R6.chg C7 I6.s1
  have BF := hid3 (B7.below I6.bel HS.out.2.2.2.2.2 (Nat.le_refl _))
  have hF7 := hid3 ((hF6.out.off (w' := w7) B7.size (fun y hy hy2 => B7.block y hy2 (by have := I6.g1; omega))))
  have hBw := hid3 (show w.heap.size < W5.heap.size ∧ w.heap.size < w7.heap.size from ⟨by have := I6.r1; omega, K1.lt⟩)
  have u0 := K1.cell (i := 0) rfl
  have f0 := K1.free 0
  have v0 := K2.cell (i := 0) rfl
  have o0 := K3.cell (i := 0) rfl
  have u1 := K1.cell (i := 1) rfl
  have f1 := K1.free 1
  have v1 := K2.cell (i := 1) rfl
  have o1 := K3.cell (i := 1) rfl
  have u2 := K1.cell (i := 2) rfl
  have f2 := K1.free 2
  have v2 := K2.cell (i := 2) rfl
  have o2 := K3.cell (i := 2) rfl
  have u3 := K1.cell (i := 3) rfl
  have f3 := K1.free 3
  have v3 := K2.cell (i := 3) rfl
  have o3 := K3.cell (i := 3) rfl
  have u4 := K1.cell (i := 4) rfl
  have f4 := K1.free 4
  have v4 := K2.cell (i := 4) rfl
  have o4 := K3.cell (i := 4) rfl
  have u5 := K1.cell (i := 5) rfl
  have f5 := K1.free 5
  have v5 := K2.cell (i := 5) rfl
  have o5 := K3.cell (i := 5) rfl
  have u6 := K1.cell (i := 6) rfl
  have f6 := K1.free 6
  have v6 := K2.cell (i := 6) rfl
  have o6 := K3.cell (i := 6) rfl
  have u7 := K1.cell (i := 7) rfl
  have f7 := K1.free 7
  have v7 := K2.cell (i := 7) rfl
  have o7 := K3.cell (i := 7) rfl
  have u8 := K1.cell (i := 8) rfl
  have f8 := K1.free 8
  have v8 := K2.cell (i := 8) rfl
  have o8 := K3.cell (i := 8) rfl
  have u9 := K1.cell (i := 9) rfl
  have f9 := K1.free 9
  have v9 := K2.cell (i := 9) rfl
  have o9 := K3.cell (i := 9) rfl
  have KFblk := hid3 (show Blk ((((((((((w7.setCell ⟨w.heap.size, 0, none⟩ (.int .u64 (XS 0))).setCell ⟨w.heap.size, 1, none⟩ (.int .u64 (XS 1))).setCell ⟨w.heap.size, 2, none⟩ (.int .u64 (XS 2))).setCell ⟨w.heap.size, 3, none⟩ (.int .u64 (XS 3))).setCell ⟨w.heap.size, 4, none⟩ (.int .u64 (XS 4))).setCell ⟨w.heap.size, 5, none⟩ (.int .u64 (XS 5))).setCell ⟨w.heap.size, 6, none⟩ (.int .u64 (XS 6))).setCell ⟨w.heap.size, 7, none⟩ (.int .u64 (XS 7))).setCell ⟨w.heap.size, 8, none⟩ (.int .u64 (XS 8))).setCell ⟨w.heap.size, 9, none⟩ (.int .u64 (XS 9))) w.heap.size [.int .u64 (XS 0), .int .u64 (XS 1), .int .u64 (XS 2), .int .u64 (XS 3), .int .u64 (XS 4), .int .u64 (XS 5), .int .u64 (XS 6), .int .u64 (XS 7), .int .u64 (XS 8), .int .u64 (XS 9)] 24 from ((((((((((K1.setCell (i := 0) (.int .u64 (XS 0))).setCell (i := 1) (.int .u64 (XS 1))).setCell (i := 2) (.int .u64 (XS 2))).setCell (i := 3) (.int .u64 (XS 3))).setCell (i := 4) (.int .u64 (XS 4))).setCell (i := 5) (.int .u64 (XS 5))).setCell (i := 6) (.int .u64 (XS 6))).setCell (i := 7) (.int .u64 (XS 7))).setCell (i := 8) (.int .u64 (XS 8))).setCell (i := 9) (.int .u64 (XS 9))))
  have KFchg := hid3 (show Chg (fun x => x = w.heap.size) w7 ((((((((((w7.setCell ⟨w.heap.size, 0, none⟩ (.int .u64 (XS 0))).setCell ⟨w.heap.size, 1, none⟩ (.int .u64 (XS 1))).setCell ⟨w.heap.size, 2, none⟩ (.int .u64 (XS 2))).setCell ⟨w.heap.size, 3, none⟩ (.int .u64 (XS 3))).setCell ⟨w.heap.size, 4, none⟩ (.int .u64 (XS 4))).setCell ⟨w.heap.size, 5, none⟩ (.int .u64 (XS 5))).setCell ⟨w.heap.size, 6, none⟩ (.int .u64 (XS 6))).setCell ⟨w.heap.size, 7, none⟩ (.int .u64 (XS 7))).setCell ⟨w.heap.size, 8, none⟩ (.int .u64 (XS 8))).setCell ⟨w.heap.size, 9, none⟩ (.int .u64 (XS 9))) from (((((((((((Chg.refl (fun x => x = w.heap.size) w7).cell (g := w.heap.size) (i := 0) (.inl rfl) (.int .u64 (XS 0))).cell (g := w.heap.size) (i := 1) (.inl rfl) (.int .u64 (XS 1))).cell (g := w.heap.size) (i := 2) (.inl rfl) (.int .u64 (XS 2))).cell (g := w.heap.size) (i := 3) (.inl rfl) (.int .u64 (XS 3))).cell (g := w.heap.size) (i := 4) (.inl rfl) (.int .u64 (XS 4))).cell (g := w.heap.size) (i := 5) (.inl rfl) (.int .u64 (XS 5))).cell (g := w.heap.size) (i := 6) (.inl rfl) (.int .u64 (XS 6))).cell (g := w.heap.size) (i := 7) (.inl rfl) (.int .u64 (XS 7))).cell (g := w.heap.size) (i := 8) (.inl rfl) (.int .u64 (XS 8))).cell (g := w.heap.size) (i := 9) (.inl rfl) (.int .u64 (XS 9))))
  have KFbel := hid3 (show Below w.heap.size w ((((((((((w7.setCell ⟨w.heap.size, 0, none⟩ (.int .u64 (XS 0))).setCell ⟨w.heap.size, 1, none⟩ (.int .u64 (XS 1))).setCell ⟨w.heap.size, 2, none⟩ (.int .u64 (XS 2))).setCell ⟨w.heap.size, 3, none⟩ (.int .u64 (XS 3))).setCell ⟨w.heap.size, 4, none⟩ (.int .u64 (XS 4))).setCell ⟨w.heap.size, 5, none⟩ (.int .u64 (XS 5))).setCell ⟨w.heap.size, 6, none⟩ (.int .u64 (XS 6))).setCell ⟨w.heap.size, 7, none⟩ (.int .u64 (XS 7))).setCell ⟨w.heap.size, 8, none⟩ (.int .u64 (XS 8))).setCell ⟨w.heap.size, 9, none⟩ (.int .u64 (XS 9))) from ((((((((((BF.out.setCell (p := ⟨w.heap.size, 0, none⟩) (Nat.le_refl _) (.int .u64 (XS 0))).setCell (p := ⟨w.heap.size, 1, none⟩) (Nat.le_refl _) (.int .u64 (XS 1))).setCell (p := ⟨w.heap.size, 2, none⟩) (Nat.le_refl _) (.int .u64 (XS 2))).setCell (p := ⟨w.heap.size, 3, none⟩) (Nat.le_refl _) (.int .u64 (XS 3))).setCell (p := ⟨w.heap.size, 4, none⟩) (Nat.le_refl _) (.int .u64 (XS 4))).setCell (p := ⟨w.heap.size, 5, none⟩) (Nat.le_refl _) (.int .u64 (XS 5))).setCell (p := ⟨w.heap.size, 6, none⟩) (Nat.le_refl _) (.int .u64 (XS 6))).setCell (p := ⟨w.heap.size, 7, none⟩) (Nat.le_refl _) (.int .u64 (XS 7))).setCell (p := ⟨w.heap.size, 8, none⟩) (Nat.le_refl _) (.int .u64 (XS 8))).setCell (p := ⟨w.heap.size, 9, none⟩) (Nat.le_refl _) (.int .u64 (XS 9))))
  have KZblk := hid3 (show Blk ((((((((((w7.setCell ⟨w.heap.size, 0, none⟩ (.int .u64 0)).setCell ⟨w.heap.size, 1, none⟩ (.int .u64 0)).setCell ⟨w.heap.size, 2, none⟩ (.int .u64 0)).setCell ⟨w.heap.size, 3, none⟩ (.int .u64 0)).setCell ⟨w.heap.size, 4, none⟩ (.int .u64 0)).setCell ⟨w.heap.size, 5, none⟩ (.int .u64 0)).setCell ⟨w.heap.size, 6, none⟩ (.int .u64 0)).setCell ⟨w.heap.size, 7, none⟩ (.int .u64 0)).setCell ⟨w.heap.size, 8, none⟩ (.int .u64 0)).setCell ⟨w.heap.size, 9, none⟩ (.int .u64 0)) w.heap.size [.int .u64 0, .int .u64 0, .int .u64 0, .int .u64 0, .int .u64 0, .int .u64 0, .int .u64 0, .int .u64 0, .int .u64 0, .int .u64 0] 24 from ((((((((((K1.setCell (i := 0) (.int .u64 0)).setCell (i := 1) (.int .u64 0)).setCell (i := 2) (.int .u64 0)).setCell (i := 3) (.int .u64 0)).setCell (i := 4) (.int .u64 0)).setCell (i := 5) (.int .u64 0)).setCell (i := 6) (.int .u64 0)).setCell (i := 7) (.int .u64 0)).setCell (i := 8) (.int .u64 0)).setCell (i := 9) (.int .u64 0)))
  have KZchg := hid3 (show Chg (fun x => x = w.heap.size) w7 ((((((((((w7.setCell ⟨w.heap.size, 0, none⟩ (.int .u64 0)).setCell ⟨w.heap.size, 1, none⟩ (.int .u64 0)).setCell ⟨w.heap.size, 2, none⟩ (.int .u64 0)).setCell ⟨w.heap.size, 3, none⟩ (.int .u64 0)).setCell ⟨w.heap.size, 4, none⟩ (.int .u64 0)).setCell ⟨w.heap.size, 5, none⟩ (.int .u64 0)).setCell ⟨w.heap.size, 6, none⟩ (.int .u64 0)).setCell ⟨w.heap.size, 7, none⟩ (.int .u64 0)).setCell ⟨w.heap.size, 8, none⟩ (.int .u64 0)).setCell ⟨w.heap.size, 9, none⟩ (.int .u64 0)) from (((((((((((Chg.refl (fun x => x = w.heap.size) w7).cell (g := w.heap.size) (i := 0) (.inl rfl) (.int .u64 0)).cell (g := w.heap.size) (i := 1) (.inl rfl) (.int .u64 0)).cell (g := w.heap.size) (i := 2) (.inl rfl) (.int .u64 0)).cell (g := w.heap.size) (i := 3) (.inl rfl) (.int .u64 0)).cell (g := w.heap.size) (i := 4) (.inl rfl) (.int .u64 0)).cell (g := w.heap.size) (i := 5) (.inl rfl) (.int .u64 0)).cell (g := w.heap.size) (i := 6) (.inl rfl) (.int .u64 0)).cell (g := w.heap.size) (i := 7) (.inl rfl) (.int .u64 0)).cell (g := w.heap.size) (i := 8) (.inl rfl) (.int .u64 0)).cell (g := w.heap.size) (i := 9) (.inl rfl) (.int .u64 0)))
  have KZbel := hid3 (show Below w.heap.size w ((((((((((w7.setCell ⟨w.heap.size, 0, none⟩ (.int .u64 0)).setCell ⟨w.heap.size, 1, none⟩ (.int .u64 0)).setCell ⟨w.heap.size, 2, none⟩ (.int .u64 0)).setCell ⟨w.heap.size, 3, none⟩ (.int .u64 0)).setCell ⟨w.heap.size, 4, none⟩ (.int .u64 0)).setCell ⟨w.heap.size, 5, none⟩ (.int .u64 0)).setCell ⟨w.heap.size, 6, none⟩ (.int .u64 0)).setCell ⟨w.heap.size, 7, none⟩ (.int .u64 0)).setCell ⟨w.heap.size, 8, none⟩ (.int .u64 0)).setCell ⟨w.heap.size, 9, none⟩ (.int .u64 0)) from ((((((((((BF.out.setCell (p := ⟨w.heap.size, 0, none⟩) (Nat.le_refl _) (.int .u64 0)).setCell (p := ⟨w.heap.size, 1, none⟩) (Nat.le_refl _) (.int .u64 0)).setCell (p := ⟨w.heap.size, 2, none⟩) (Nat.le_refl _) (.int .u64 0)).setCell (p := ⟨w.heap.size, 3, none⟩) (Nat.le_refl _) (.int .u64 0)).setCell (p := ⟨w.heap.size, 4, none⟩) (Nat.le_refl _) (.int .u64 0)).setCell (p := ⟨w.heap.size, 5, none⟩) (Nat.le_refl _) (.int .u64 0)).setCell (p := ⟨w.heap.size, 6, none⟩) (Nat.le_refl _) (.int .u64 0)).setCell (p := ⟨w.heap.size, 7, none⟩) (Nat.le_refl _) (.int .u64 0)).setCell (p := ⟨w.heap.size, 8, none⟩) (Nat.le_refl _) (.int .u64 0)).setCell (p := ⟨w.heap.size, 9, none⟩) (Nat.le_refl _) (.int .u64 0)))
  clear K1 K2 K3 I6 C6 C7 B7 X7 R6 hl6 F6 c6 HU P1 P3 q0 q1 q2 q3 q4 q5 q6 q7 q8 q9
  obtain ⟨E0, hE0⟩ : ∃ E0, Hid (endE st.1 st.2.1 = E0) := ⟨_, rfl⟩
  rw [hE0.out]
  by_cases hE : E0 = 0
  · subst hE
    go_wp2
    refine bodyPost_ret (ret_rc rfl rfl rfl (ld_Params (KFblk.out.cell (i := 0) rfl) (KFblk.out.cell (i := 1) rfl) (KFblk.out.cell (i := 2) rfl) (KFblk.out.cell (i := 3) rfl) (KFblk.out.cell (i := 4) rfl) (KFblk.out.cell (i := 5) rfl) (KFblk.out.cell (i := 6) rfl) (KFblk.out.cell (i := 7) rfl) (KFblk.out.cell (i := 8) rfl) (KFblk.out.cell (i := 9) rfl))) rfl ?_
    exact ⟨⟨[.int .u64 (XS 0), .int .u64 (XS 1), .int .u64 (XS 2), .int .u64 (XS 3), .int .u64 (XS 4), .int .u64 (XS 5), .int .u64 (XS 6), .int .u64 (XS 7), .int .u64 (XS 8), .int .u64 (XS 9)], XS, 0, rfl, rfl, (hF7.out.off KFchg.out.size (fun y hy _ => KFchg.out.same y (by assumption) (fun e => by have e' : y = w.heap.size := e; have := hBw.out; omega))).low (by have := hBw.out; omega), fun _ => ⟨rfl, hXS.out.symm⟩, fun h => absurd hE0.out h⟩, KFbel.out⟩
  · have hE1 : ¬ (E0 = 0) := hE
    go_wp2
    refine bodyPost_ret (ret_rc rfl rfl rfl (ld_Params (KZblk.out.cell (i := 0) rfl) (KZblk.out.cell (i := 1) rfl) (KZblk.out.cell (i := 2) rfl) (KZblk.out.cell (i := 3) rfl) (KZblk.out.cell (i := 4) rfl) (KZblk.out.cell (i := 5) rfl) (KZblk.out.cell (i := 6) rfl) (KZblk.out.cell (i := 7) rfl) (KZblk.out.cell (i := 8) rfl) (KZblk.out.cell (i := 9) rfl))) rfl ?_
    exact ⟨⟨[.int .u64 0, .int .u64 0, .int .u64 0, .int .u64 0, .int .u64 0, .int .u64 0, .int .u64 0, .int .u64 0, .int .u64 0, .int .u64 0], fun _ => 0, 80, rfl, rfl, (fun o => match o with | 0 => ⟨fun _ => rfl, fun h => absurd h (by decide), fun h => absurd h (by decide)⟩ | 1 => ⟨fun _ => rfl, fun h => absurd h (by decide), fun h => absurd h (by decide)⟩ | 2 => ⟨fun _ => rfl, fun h => absurd h (by decide), fun h => absurd h (by decide)⟩ | 3 => ⟨fun _ => rfl, fun h => absurd h (by decide), fun h => absurd h (by decide)⟩ | 4 => ⟨fun _ => rfl, fun h => absurd h (by decide), fun h => absurd h (by decide)⟩ | 5 => ⟨fun _ => rfl, fun h => absurd h (by decide), fun h => absurd h (by decide)⟩ | 6 => ⟨fun _ => rfl, fun h => absurd h (by decide), fun h => absurd h (by decide)⟩ | 7 => ⟨fun _ => rfl, fun h => absurd h (by decide), fun h => absurd h (by decide)⟩ | 8 => ⟨fun _ => rfl, fun h => absurd h (by decide), fun h => absurd h (by decide)⟩ | 9 => ⟨fun _ => rfl, fun h => absurd h (by decide), fun h => absurd h (by decide)⟩ | k + 10 => ⟨fun h => absurd h (by simp [kd_Params]), fun h => absurd h (by simp [kd_Params]), fun h => absurd h (by simp [kd_Params])⟩), fun h => absurd (hE0.out.symm.trans h) hE1, fun _ => ⟨rfl, rfl⟩⟩, KZbel.out⟩
theorem ld_Chain {w:World} {g:Nat} {y0 y1:Value} (c0:w.cell? ⟨g,0,none⟩=some y0) (c1:w.cell? ⟨g,1,none⟩=some y1):(loadVar 44 ⟨g,0,none⟩).run Tryz.prog w=.ok (.agg #[y0,y1]) w:=by go_simp
theorem read_Chain {w : World} {bb n c : Nat} {ao : Option Addr} {l : List Int} (A : ByA w bb ao n c l) (hn : n ≤ 1000000000) (hl : l.length = n) :
    Calls Tryz.prog 208 #[.slice ao n c, .func (.func 33) #[] #[]] w (FinR w kd_Chain 2 mkA (thr rnx [(0, 0), (0, 1)] (0, l, fun _ => (0 : Int)))) := by
  have b1 := below_alloc w (.cells #[.int .u64 0, .int .u64 0] 44)
  have b2 := below_alloc (w.alloc (.cells #[.int .u64 0, .int .u64 0] 44)) (.cells #[.int .u64 0, .int .u64 0] 44)
  have b3 := below_alloc ((w.alloc (.cells #[.int .u64 0, .int .u64 0] 44)).alloc (.cells #[.int .u64 0, .int .u64 0] 44)) (.cells #[.int .u64 0, .int .u64 0] 44)
  have z1 := size_al w (.cells #[.int .u64 0, .int .u64 0] 44)
  have z2 := size_al (w.alloc (.cells #[.int .u64 0, .int .u64 0] 44)) (.cells #[.int .u64 0, .int .u64 0] 44)
  have z3 := size_al ((w.alloc (.cells #[.int .u64 0, .int .u64 0] 44)).alloc (.cells #[.int .u64 0, .int .u64 0] 44)) (.cells #[.int .u64 0, .int .u64 0] 44)
  have y1 := ((blk_new w [.int .u64 0, .int .u64 0] 44).keep b2).keep b3
  have y2 := (blk_new (w.alloc (.cells #[.int .u64 0, .int .u64 0] 44)) [.int .u64 0, .int .u64 0] 44).keep b3
  have y3 := blk_new ((w.alloc (.cells #[.int .u64 0, .int .u64 0] 44)).alloc (.cells #[.int .u64 0, .int .u64 0] 44)) [.int .u64 0, .int .u64 0] 44
  rw [z2, z1] at y3
  rw [z1] at y2
  rw [z2, z1] at z3
  obtain ⟨W3, hW3⟩ : ∃ W3, Hid ((((w.alloc (.cells #[.int .u64 0, .int .u64 0] 44)).alloc (.cells #[.int .u64 0, .int .u64 0] 44)).alloc (.cells #[.int .u64 0, .int .u64 0] 44)) = W3) := ⟨_, rfl⟩
  have BB := joinB (joinB b1 b2) b3
  rw [hW3.out] at BB y1 y2 y3 z3
  have HN := hid3 (rdNew (A.keep BB) (by omega))
  have Y1 := hid3 y1
  have Y2 := hid3 y2
  have Y3 := hid3 y3
  have Z3 := hid3 z3
  have HBB := hid3 BB
  have HL := hid3 hl
  clear b1 b2 b3 z1 z2 z3 y1 y2 y3 BB A hl
  obtain ⟨st, hst⟩ : ∃ st, Hid (thr rnx [(0, 0), (0, 1)] (0, l, fun _ => (0 : Int)) = st) := ⟨_, rfl⟩
  have hsl : st.2.1.length ≤ n := by have h := thr_len [(0, 0), (0, 1)] (0, l, fun _ => (0 : Int)); rw [hst.out] at h; rw [HL.out] at h; exact h
  rw [hst.out]
  go_enter Tryz.func208, Tryz.ntmps208
  go_wp2_with fail
  rw [hW3.out]
  refine HN.out.mono ?_
  rintro e' w4 ⟨g, b', rfl, hg, hb', X4, B4⟩
  have b5 := below_alloc w4 (.cells #[.pointer (some ⟨g, 0, none⟩)] 337)
  have v5 := blk_new w4 [.pointer (some ⟨g, 0, none⟩)] 337
  have z5 := size_al w4 (.cells #[.pointer (some ⟨g, 0, none⟩)] 337)
  obtain ⟨W5, hW5⟩ : ∃ W5, Hid (w4.alloc (.cells #[.pointer (some ⟨g, 0, none⟩)] 337) = W5) := ⟨_, rfl⟩
  rw [hW5.out] at b5 v5 z5
  have hgl := X4.lt
  have hz3 := Z3.out
  have hz4 := B4.size
  have F0 : FldR W5 W5.heap.size kd_Chain [.int .u64 0, .int .u64 0] (fun _ => 0) := fun o => match o with
    | 0 => ⟨fun _ => rfl, fun h => absurd h (by decide), fun h => absurd h (by decide)⟩
    | 1 => ⟨fun _ => rfl, fun h => absurd h (by decide), fun h => absurd h (by decide)⟩
    | k + 2 => ⟨fun h => absurd h (by simp [kd_Chain]), fun h => absurd h (by simp [kd_Chain]), fun h => absurd h (by simp [kd_Chain])⟩
  have U := ofChain_any (rhc_Chain (w0 := w) (B := W5.heap.size) (g := g) (b := b') (vb := w4.heap.size) (rb := w.heap.size + 1) (T := 44) (vt := 337)) (s := (0, l, fun _ => (0 : Int))) (w := W5) ⟨⟨X4.keep b5, v5, ⟨_, rfl, (Y2.out.keep B4).keep b5, F0⟩, joinB (joinB HBB.out B4) b5, by omega, by omega, by omega, by omega, by omega, by omega, by omega, by omega⟩, Nat.le_refl _⟩ (by simp [kd_Chain]) trivial
  rw [hst.out] at U
  have HU := hid3 U
  have P1 := hid3 ((Y1.out.keep B4).keep b5)
  have P3 := hid3 ((Y3.out.keep B4).keep b5)
  have HS := hid3 (show w.heap.size ≠ g ∧ w.heap.size + 1 + 1 ≠ g ∧ w.heap.size + 1 + 1 ≠ w.heap.size + 1 ∧ w.heap.size ≠ w.heap.size + 1 ∧ w.heap.size ≤ W5.heap.size ∧ w.heap.size ≤ g from ⟨by omega, by omega, by omega, by omega, by omega, by omega⟩)
  clear U b5 v5 z5 hgl hz3 hz4 F0 X4 B4 hg hb' HN Y1 Y2 Y3
  go_wp2_with fail
  rw [hW5.out]
  refine HU.out.mono ?_
  rintro e' w6 ⟨rfl, ⟨I6, hB6⟩, C6⟩
  have c6 := I6.var.cell (i := 0) rfl
  go_wp2_with fail
  refine (rdEnd I6.rd (by omega)).mono ?_
  rintro e' w7 ⟨rfl, X7, B7⟩
  obtain ⟨cs6, hl6, R6, F6⟩ := I6.rc
  obtain ⟨XS, hXS⟩ : ∃ XS, Hid (st.2.2 = XS) := ⟨_, rfl⟩
  rw [hXS.out] at F6
  have hF6 := hid3 F6
  have q0 := (F6 0).1 rfl
  have q1 := (F6 1).1 rfl
  have ecs : cs6 = [.int .u64 (XS 0), .int .u64 (XS 1)] := by
    apply List.ext_getElem?
    intro i
    match i with
    | 0 => rw [q0]; rfl
    | 1 => rw [q1]; rfl
    | k + 2 => rw [List.getElem?_eq_none (by omega), List.getElem?_eq_none (by simp)]
  subst ecs
  have C7 := But.chg B7
  have K1 := (P1.out.chg C6 (fun h => h.elim HS.out.1 HS.out.2.2.2.1)).chg C7 HS.out.1
  have K3 := (P3.out.chg C6 (fun h => h.elim HS.out.2.1 HS.out.2.2.1)).chg C7 HS.out.2.1
  have K2 := R6.chg C7 I6.s1
  have BF := hid3 (B7.below I6.bel HS.out.2.2.2.2.2 (Nat.le_refl _))
  have hF7 := hid3 ((hF6.out.off (w' := w7) B7.size (fun y hy hy2 => B7.block y hy2 (by have := I6.g1; omega))))
  have hBw := hid3 (show w.heap.size < W5.heap.size ∧ w.heap.size < w7.heap.size from ⟨by have := I6.r1; omega, K1.lt⟩)
  have u0 := K1.cell (i := 0) rfl
  have f0 := K1.free 0
  have v0 := K2.cell (i := 0) rfl
  have o0 := K3.cell (i := 0) rfl
  have u1 := K1.cell (i := 1) rfl
  have f1 := K1.free 1
  have v1 := K2.cell (i := 1) rfl
  have o1 := K3.cell (i := 1) rfl
  have KFblk := hid3 (show Blk ((w7.setCell ⟨w.heap.size, 0, none⟩ (.int .u64 (XS 0))).setCell ⟨w.heap.size, 1, none⟩ (.int .u64 (XS 1))) w.heap.size [.int .u64 (XS 0), .int .u64 (XS 1)] 44 from ((K1.setCell (i := 0) (.int .u64 (XS 0))).setCell (i := 1) (.int .u64 (XS 1))))
  have KFchg := hid3 (show Chg (fun x => x = w.heap.size) w7 ((w7.setCell ⟨w.heap.size, 0, none⟩ (.int .u64 (XS 0))).setCell ⟨w.heap.size, 1, none⟩ (.int .u64 (XS 1))) from (((Chg.refl (fun x => x = w.heap.size) w7).cell (g := w.heap.size) (i := 0) (.inl rfl) (.int .u64 (XS 0))).cell (g := w.heap.size) (i := 1) (.inl rfl) (.int .u64 (XS 1))))
  have KFbel := hid3 (show Below w.heap.size w ((w7.setCell ⟨w.heap.size, 0, none⟩ (.int .u64 (XS 0))).setCell ⟨w.heap.size, 1, none⟩ (.int .u64 (XS 1))) from ((BF.out.setCell (p := ⟨w.heap.size, 0, none⟩) (Nat.le_refl _) (.int .u64 (XS 0))).setCell (p := ⟨w.heap.size, 1, none⟩) (Nat.le_refl _) (.int .u64 (XS 1))))
  have KZblk := hid3 (show Blk ((w7.setCell ⟨w.heap.size, 0, none⟩ (.int .u64 0)).setCell ⟨w.heap.size, 1, none⟩ (.int .u64 0)) w.heap.size [.int .u64 0, .int .u64 0] 44 from ((K1.setCell (i := 0) (.int .u64 0)).setCell (i := 1) (.int .u64 0)))
  have KZchg := hid3 (show Chg (fun x => x = w.heap.size) w7 ((w7.setCell ⟨w.heap.size, 0, none⟩ (.int .u64 0)).setCell ⟨w.heap.size, 1, none⟩ (.int .u64 0)) from (((Chg.refl (fun x => x = w.heap.size) w7).cell (g := w.heap.size) (i := 0) (.inl rfl) (.int .u64 0)).cell (g := w.heap.size) (i := 1) (.inl rfl) (.int .u64 0)))
  have KZbel := hid3 (show Below w.heap.size w ((w7.setCell ⟨w.heap.size, 0, none⟩ (.int .u64 0)).setCell ⟨w.heap.size, 1, none⟩ (.int .u64 0)) from ((BF.out.setCell (p := ⟨w.heap.size, 0, none⟩) (Nat.le_refl _) (.int .u64 0)).setCell (p := ⟨w.heap.size, 1, none⟩) (Nat.le_refl _) (.int .u64 0)))
  clear K1 K2 K3 I6 C6 C7 B7 X7 R6 hl6 F6 c6 HU P1 P3 q0 q1
  obtain ⟨E0, hE0⟩ : ∃ E0, Hid (endE st.1 st.2.1 = E0) := ⟨_, rfl⟩
  rw [hE0.out]
  by_cases hE : E0 = 0
  · subst hE
    go_wp2
    refine bodyPost_ret (ret_rc rfl rfl rfl (ld_Chain (KFblk.out.cell (i := 0) rfl) (KFblk.out.cell (i := 1) rfl))) rfl ?_
    exact ⟨⟨[.int .u64 (XS 0), .int .u64 (XS 1)], XS, 0, rfl, rfl, (hF7.out.off KFchg.out.size (fun y hy _ => KFchg.out.same y (by assumption) (fun e => by have e' : y = w.heap.size := e; have := hBw.out; omega))).low (by have := hBw.out; omega), fun _ => ⟨rfl, hXS.out.symm⟩, fun h => absurd hE0.out h⟩, KFbel.out⟩
  · have hE1 : ¬ (E0 = 0) := hE
    go_wp2
    refine bodyPost_ret (ret_rc rfl rfl rfl (ld_Chain (KZblk.out.cell (i := 0) rfl) (KZblk.out.cell (i := 1) rfl))) rfl ?_
    exact ⟨⟨[.int .u64 0, .int .u64 0], fun _ => 0, 80, rfl, rfl, (fun o => match o with | 0 => ⟨fun _ => rfl, fun h => absurd h (by decide), fun h => absurd h (by decide)⟩ | 1 => ⟨fun _ => rfl, fun h => absurd h (by decide), fun h => absurd h (by decide)⟩ | k + 2 => ⟨fun h => absurd h (by simp [kd_Chain]), fun h => absurd h (by simp [kd_Chain]), fun h => absurd h (by simp [kd_Chain])⟩), fun h => absurd (hE0.out.symm.trans h) hE1, fun _ => ⟨rfl, rfl⟩⟩, KZbel.out⟩
theorem ld_Pool {w:World} {g:Nat} {y0:Value} (c0:w.cell? ⟨g,0,none⟩=some y0):(loadVar 107 ⟨g,0,none⟩).run Tryz.prog w=.ok (.agg #[y0]) w:=by go_simp
theorem read_Pool {w : World} {bb n c : Nat} {ao : Option Addr} {l : List Int} (A : ByA w bb ao n c l) (hn : n ≤ 1000000000) (hl : l.length = n) :
    Calls Tryz.prog 188 #[.slice ao n c, .func (.func 189) #[] #[]] w (FinR w kd_Pool 1 mkA (thr rnx [(2, 0)] (0, l, fun _ => (0 : Int)))) := by
  have b1 := below_alloc w (.cells #[.slice none 0 0] 107)
  have b2 := below_alloc (w.alloc (.cells #[.slice none 0 0] 107)) (.cells #[.slice none 0 0] 107)
  have b3 := below_alloc ((w.alloc (.cells #[.slice none 0 0] 107)).alloc (.cells #[.slice none 0 0] 107)) (.cells #[.slice none 0 0] 107)
  have z1 := size_al w (.cells #[.slice none 0 0] 107)
  have z2 := size_al (w.alloc (.cells #[.slice none 0 0] 107)) (.cells #[.slice none 0 0] 107)
  have z3 := size_al ((w.alloc (.cells #[.slice none 0 0] 107)).alloc (.cells #[.slice none 0 0] 107)) (.cells #[.slice none 0 0] 107)
  have y1 := ((blk_new w [.slice none 0 0] 107).keep b2).keep b3
  have y2 := (blk_new (w.alloc (.cells #[.slice none 0 0] 107)) [.slice none 0 0] 107).keep b3
  have y3 := blk_new ((w.alloc (.cells #[.slice none 0 0] 107)).alloc (.cells #[.slice none 0 0] 107)) [.slice none 0 0] 107
  rw [z2, z1] at y3
  rw [z1] at y2
  rw [z2, z1] at z3
  obtain ⟨W3, hW3⟩ : ∃ W3, Hid ((((w.alloc (.cells #[.slice none 0 0] 107)).alloc (.cells #[.slice none 0 0] 107)).alloc (.cells #[.slice none 0 0] 107)) = W3) := ⟨_, rfl⟩
  have BB := joinB (joinB b1 b2) b3
  rw [hW3.out] at BB y1 y2 y3 z3
  have HN := hid3 (rdNew (A.keep BB) (by omega))
  have Y1 := hid3 y1
  have Y2 := hid3 y2
  have Y3 := hid3 y3
  have Z3 := hid3 z3
  have HBB := hid3 BB
  have HL := hid3 hl
  clear b1 b2 b3 z1 z2 z3 y1 y2 y3 BB A hl
  obtain ⟨st, hst⟩ : ∃ st, Hid (thr rnx [(2, 0)] (0, l, fun _ => (0 : Int)) = st) := ⟨_, rfl⟩
  have hsl : st.2.1.length ≤ n := by have h := thr_len [(2, 0)] (0, l, fun _ => (0 : Int)); rw [hst.out] at h; rw [HL.out] at h; exact h
  rw [hst.out]
  go_enter Tryz.func188, Tryz.ntmps188
  go_wp2_with fail
  rw [hW3.out]
  refine HN.out.mono ?_
  rintro e' w4 ⟨g, b', rfl, hg, hb', X4, B4⟩
  have b5 := below_alloc w4 (.cells #[.pointer (some ⟨g, 0, none⟩)] 337)
  have v5 := blk_new w4 [.pointer (some ⟨g, 0, none⟩)] 337
  have z5 := size_al w4 (.cells #[.pointer (some ⟨g, 0, none⟩)] 337)
  obtain ⟨W5, hW5⟩ : ∃ W5, Hid (w4.alloc (.cells #[.pointer (some ⟨g, 0, none⟩)] 337) = W5) := ⟨_, rfl⟩
  rw [hW5.out] at b5 v5 z5
  have hgl := X4.lt
  have hz3 := Z3.out
  have hz4 := B4.size
  have F0 : FldR W5 W5.heap.size kd_Pool [.slice none 0 0] (fun _ => 0) := fun o => match o with
    | 0 => ⟨fun h => absurd h (by decide), fun h => absurd h (by decide), fun _ => ⟨none, 0, 0, rfl, natW_nil _ _, by decide⟩⟩
    | k + 1 => ⟨fun h => absurd h (by simp [kd_Pool]), fun h => absurd h (by simp [kd_Pool]), fun h => absurd h (by simp [kd_Pool])⟩
  have U := ofPool_any (rhc_Pool (w0 := w) (B := W5.heap.size) (g := g) (b := b') (vb := w4.heap.size) (rb := w.heap.size + 1) (T := 107) (vt := 337)) (s := (0, l, fun _ => (0 : Int))) (w := W5) ⟨⟨X4.keep b5, v5, ⟨_, rfl, (Y2.out.keep B4).keep b5, F0⟩, joinB (joinB HBB.out B4) b5, by omega, by omega, by omega, by omega, by omega, by omega, by omega, by omega⟩, Nat.le_refl _⟩ (by simp [kd_Pool]) trivial
  rw [hst.out] at U
  have HU := hid3 U
  have P1 := hid3 ((Y1.out.keep B4).keep b5)
  have P3 := hid3 ((Y3.out.keep B4).keep b5)
  have HS := hid3 (show w.heap.size ≠ g ∧ w.heap.size + 1 + 1 ≠ g ∧ w.heap.size + 1 + 1 ≠ w.heap.size + 1 ∧ w.heap.size ≠ w.heap.size + 1 ∧ w.heap.size ≤ W5.heap.size ∧ w.heap.size ≤ g from ⟨by omega, by omega, by omega, by omega, by omega, by omega⟩)
  clear U b5 v5 z5 hgl hz3 hz4 F0 X4 B4 hg hb' HN Y1 Y2 Y3
  go_wp2_with fail
  rw [hW5.out]
  refine HU.out.mono ?_
  rintro e' w6 ⟨rfl, ⟨I6, hB6⟩, C6⟩
  have c6 := I6.var.cell (i := 0) rfl
  go_wp2_with fail
  refine (rdEnd I6.rd (by omega)).mono ?_
  rintro e' w7 ⟨rfl, X7, B7⟩
  obtain ⟨cs6, hl6, R6, F6⟩ := I6.rc
  obtain ⟨XS, hXS⟩ : ∃ XS, Hid (st.2.2 = XS) := ⟨_, rfl⟩
  rw [hXS.out] at F6
  have hF6 := hid3 F6
  obtain ⟨a0, n0, d0, q0, -, -⟩ := (F6 0).2.2 rfl
  have ecs : cs6 = [.slice a0 n0 d0] := by
    apply List.ext_getElem?
    intro i
    match i with
    | 0 => rw [q0]; rfl
    | k + 1 => rw [List.getElem?_eq_none (by omega), List.getElem?_eq_none (by simp)]
  subst ecs
  have C7 := But.chg B7
  have K1 := (P1.out.chg C6 (fun h => h.elim HS.out.1 HS.out.2.2.2.1)).chg C7 HS.out.1
  have K3 := (P3.out.chg C6 (fun h => h.elim HS.out.2.1 HS.out.2.2.1)).chg C7 HS.out.2.1
  have K2 := R6.chg C7 I6.s1
  have BF := hid3 (B7.below I6.bel HS.out.2.2.2.2.2 (Nat.le_refl _))
  have hF7 := hid3 ((hF6.out.off (w' := w7) B7.size (fun y hy hy2 => B7.block y hy2 (by have := I6.g1; omega))))
  have hBw := hid3 (show w.heap.size < W5.heap.size ∧ w.heap.size < w7.heap.size from ⟨by have := I6.r1; omega, K1.lt⟩)
  have u0 := K1.cell (i := 0) rfl
  have f0 := K1.free 0
  have v0 := K2.cell (i := 0) rfl
  have o0 := K3.cell (i := 0) rfl
  have KFblk := hid3 (show Blk (w7.setCell ⟨w.heap.size, 0, none⟩ (.slice a0 n0 d0)) w.heap.size [.slice a0 n0 d0] 107 from (K1.setCell (i := 0) (.slice a0 n0 d0)))
  have KFchg := hid3 (show Chg (fun x => x = w.heap.size) w7 (w7.setCell ⟨w.heap.size, 0, none⟩ (.slice a0 n0 d0)) from ((Chg.refl (fun x => x = w.heap.size) w7).cell (g := w.heap.size) (i := 0) (.inl rfl) (.slice a0 n0 d0)))
  have KFbel := hid3 (show Below w.heap.size w (w7.setCell ⟨w.heap.size, 0, none⟩ (.slice a0 n0 d0)) from (BF.out.setCell (p := ⟨w.heap.size, 0, none⟩) (Nat.le_refl _) (.slice a0 n0 d0)))
  have KZblk := hid3 (show Blk (w7.setCell ⟨w.heap.size, 0, none⟩ (.slice none 0 0)) w.heap.size [.slice none 0 0] 107 from (K1.setCell (i := 0) (.slice none 0 0)))
  have KZchg := hid3 (show Chg (fun x => x = w.heap.size) w7 (w7.setCell ⟨w.heap.size, 0, none⟩ (.slice none 0 0)) from ((Chg.refl (fun x => x = w.heap.size) w7).cell (g := w.heap.size) (i := 0) (.inl rfl) (.slice none 0 0)))
  have KZbel := hid3 (show Below w.heap.size w (w7.setCell ⟨w.heap.size, 0, none⟩ (.slice none 0 0)) from (BF.out.setCell (p := ⟨w.heap.size, 0, none⟩) (Nat.le_refl _) (.slice none 0 0)))
  clear K1 K2 K3 I6 C6 C7 B7 X7 R6 hl6 F6 c6 HU P1 P3 q0
  obtain ⟨E0, hE0⟩ : ∃ E0, Hid (endE st.1 st.2.1 = E0) := ⟨_, rfl⟩
  rw [hE0.out]
  by_cases hE : E0 = 0
  · subst hE
    go_wp2
    refine bodyPost_ret (ret_rc rfl rfl rfl (ld_Pool (KFblk.out.cell (i := 0) rfl))) rfl ?_
    exact ⟨⟨[.slice a0 n0 d0], XS, 0, rfl, rfl, (hF7.out.off KFchg.out.size (fun y hy _ => KFchg.out.same y (by assumption) (fun e => by have e' : y = w.heap.size := e; have := hBw.out; omega))).low (by have := hBw.out; omega), fun _ => ⟨rfl, hXS.out.symm⟩, fun h => absurd hE0.out h⟩, KFbel.out⟩
  · have hE1 : ¬ (E0 = 0) := hE
    go_wp2
    refine bodyPost_ret (ret_rc rfl rfl rfl (ld_Pool (KZblk.out.cell (i := 0) rfl))) rfl ?_
    exact ⟨⟨[.slice none 0 0], fun _ => 0, 80, rfl, rfl, (fun o => match o with | 0 => ⟨fun h => absurd h (by decide), fun h => absurd h (by decide), fun _ => ⟨none, 0, 0, rfl, natW_nil _ _, by decide⟩⟩ | k + 1 => ⟨fun h => absurd h (by simp [kd_Pool]), fun h => absurd h (by simp [kd_Pool]), fun h => absurd h (by simp [kd_Pool])⟩), fun h => absurd (hE0.out.symm.trans h) hE1, fun _ => ⟨rfl, rfl⟩⟩, KZbel.out⟩
theorem ld_Account {w:World} {g:Nat} {y0 y1:Value} (c0:w.cell? ⟨g,0,none⟩=some y0) (c1:w.cell? ⟨g,1,none⟩=some y1):(loadVar 39 ⟨g,0,none⟩).run Tryz.prog w=.ok (.agg #[y0,y1]) w:=by go_simp
theorem read_Account {w : World} {bb n c : Nat} {ao : Option Addr} {l : List Int} (A : ByA w bb ao n c l) (hn : n ≤ 1000000000) (hl : l.length = n) :
    Calls Tryz.prog 152 #[.slice ao n c, .func (.func 29) #[] #[]] w (FinR w kd_Account 2 mkA (thr rnx [(0, 0), (0, 1)] (0, l, fun _ => (0 : Int)))) := by
  have b1 := below_alloc w (.cells #[.int .u64 0, .int .u64 0] 39)
  have b2 := below_alloc (w.alloc (.cells #[.int .u64 0, .int .u64 0] 39)) (.cells #[.int .u64 0, .int .u64 0] 39)
  have b3 := below_alloc ((w.alloc (.cells #[.int .u64 0, .int .u64 0] 39)).alloc (.cells #[.int .u64 0, .int .u64 0] 39)) (.cells #[.int .u64 0, .int .u64 0] 39)
  have z1 := size_al w (.cells #[.int .u64 0, .int .u64 0] 39)
  have z2 := size_al (w.alloc (.cells #[.int .u64 0, .int .u64 0] 39)) (.cells #[.int .u64 0, .int .u64 0] 39)
  have z3 := size_al ((w.alloc (.cells #[.int .u64 0, .int .u64 0] 39)).alloc (.cells #[.int .u64 0, .int .u64 0] 39)) (.cells #[.int .u64 0, .int .u64 0] 39)
  have y1 := ((blk_new w [.int .u64 0, .int .u64 0] 39).keep b2).keep b3
  have y2 := (blk_new (w.alloc (.cells #[.int .u64 0, .int .u64 0] 39)) [.int .u64 0, .int .u64 0] 39).keep b3
  have y3 := blk_new ((w.alloc (.cells #[.int .u64 0, .int .u64 0] 39)).alloc (.cells #[.int .u64 0, .int .u64 0] 39)) [.int .u64 0, .int .u64 0] 39
  rw [z2, z1] at y3
  rw [z1] at y2
  rw [z2, z1] at z3
  obtain ⟨W3, hW3⟩ : ∃ W3, Hid ((((w.alloc (.cells #[.int .u64 0, .int .u64 0] 39)).alloc (.cells #[.int .u64 0, .int .u64 0] 39)).alloc (.cells #[.int .u64 0, .int .u64 0] 39)) = W3) := ⟨_, rfl⟩
  have BB := joinB (joinB b1 b2) b3
  rw [hW3.out] at BB y1 y2 y3 z3
  have HN := hid3 (rdNew (A.keep BB) (by omega))
  have Y1 := hid3 y1
  have Y2 := hid3 y2
  have Y3 := hid3 y3
  have Z3 := hid3 z3
  have HBB := hid3 BB
  have HL := hid3 hl
  clear b1 b2 b3 z1 z2 z3 y1 y2 y3 BB A hl
  obtain ⟨st, hst⟩ : ∃ st, Hid (thr rnx [(0, 0), (0, 1)] (0, l, fun _ => (0 : Int)) = st) := ⟨_, rfl⟩
  have hsl : st.2.1.length ≤ n := by have h := thr_len [(0, 0), (0, 1)] (0, l, fun _ => (0 : Int)); rw [hst.out] at h; rw [HL.out] at h; exact h
  rw [hst.out]
  go_enter Tryz.func152, Tryz.ntmps152
  go_wp2_with fail
  rw [hW3.out]
  refine HN.out.mono ?_
  rintro e' w4 ⟨g, b', rfl, hg, hb', X4, B4⟩
  have b5 := below_alloc w4 (.cells #[.pointer (some ⟨g, 0, none⟩)] 337)
  have v5 := blk_new w4 [.pointer (some ⟨g, 0, none⟩)] 337
  have z5 := size_al w4 (.cells #[.pointer (some ⟨g, 0, none⟩)] 337)
  obtain ⟨W5, hW5⟩ : ∃ W5, Hid (w4.alloc (.cells #[.pointer (some ⟨g, 0, none⟩)] 337) = W5) := ⟨_, rfl⟩
  rw [hW5.out] at b5 v5 z5
  have hgl := X4.lt
  have hz3 := Z3.out
  have hz4 := B4.size
  have F0 : FldR W5 W5.heap.size kd_Account [.int .u64 0, .int .u64 0] (fun _ => 0) := fun o => match o with
    | 0 => ⟨fun _ => rfl, fun h => absurd h (by decide), fun h => absurd h (by decide)⟩
    | 1 => ⟨fun _ => rfl, fun h => absurd h (by decide), fun h => absurd h (by decide)⟩
    | k + 2 => ⟨fun h => absurd h (by simp [kd_Account]), fun h => absurd h (by simp [kd_Account]), fun h => absurd h (by simp [kd_Account])⟩
  have U := ofAccount_any (rhc_Account (w0 := w) (B := W5.heap.size) (g := g) (b := b') (vb := w4.heap.size) (rb := w.heap.size + 1) (T := 39) (vt := 337)) (s := (0, l, fun _ => (0 : Int))) (w := W5) ⟨⟨X4.keep b5, v5, ⟨_, rfl, (Y2.out.keep B4).keep b5, F0⟩, joinB (joinB HBB.out B4) b5, by omega, by omega, by omega, by omega, by omega, by omega, by omega, by omega⟩, Nat.le_refl _⟩ (by simp [kd_Account]) trivial
  rw [hst.out] at U
  have HU := hid3 U
  have P1 := hid3 ((Y1.out.keep B4).keep b5)
  have P3 := hid3 ((Y3.out.keep B4).keep b5)
  have HS := hid3 (show w.heap.size ≠ g ∧ w.heap.size + 1 + 1 ≠ g ∧ w.heap.size + 1 + 1 ≠ w.heap.size + 1 ∧ w.heap.size ≠ w.heap.size + 1 ∧ w.heap.size ≤ W5.heap.size ∧ w.heap.size ≤ g from ⟨by omega, by omega, by omega, by omega, by omega, by omega⟩)
  clear U b5 v5 z5 hgl hz3 hz4 F0 X4 B4 hg hb' HN Y1 Y2 Y3
  go_wp2_with fail
  rw [hW5.out]
  refine HU.out.mono ?_
  rintro e' w6 ⟨rfl, ⟨I6, hB6⟩, C6⟩
  have c6 := I6.var.cell (i := 0) rfl
  go_wp2_with fail
  refine (rdEnd I6.rd (by omega)).mono ?_
  rintro e' w7 ⟨rfl, X7, B7⟩
  obtain ⟨cs6, hl6, R6, F6⟩ := I6.rc
  obtain ⟨XS, hXS⟩ : ∃ XS, Hid (st.2.2 = XS) := ⟨_, rfl⟩
  rw [hXS.out] at F6
  have hF6 := hid3 F6
  have q0 := (F6 0).1 rfl
  have q1 := (F6 1).1 rfl
  have ecs : cs6 = [.int .u64 (XS 0), .int .u64 (XS 1)] := by
    apply List.ext_getElem?
    intro i
    match i with
    | 0 => rw [q0]; rfl
    | 1 => rw [q1]; rfl
    | k + 2 => rw [List.getElem?_eq_none (by omega), List.getElem?_eq_none (by simp)]
  subst ecs
  have C7 := But.chg B7
  have K1 := (P1.out.chg C6 (fun h => h.elim HS.out.1 HS.out.2.2.2.1)).chg C7 HS.out.1
  have K3 := (P3.out.chg C6 (fun h => h.elim HS.out.2.1 HS.out.2.2.1)).chg C7 HS.out.2.1
  have K2 := R6.chg C7 I6.s1
  have BF := hid3 (B7.below I6.bel HS.out.2.2.2.2.2 (Nat.le_refl _))
  have hF7 := hid3 ((hF6.out.off (w' := w7) B7.size (fun y hy hy2 => B7.block y hy2 (by have := I6.g1; omega))))
  have hBw := hid3 (show w.heap.size < W5.heap.size ∧ w.heap.size < w7.heap.size from ⟨by have := I6.r1; omega, K1.lt⟩)
  have u0 := K1.cell (i := 0) rfl
  have f0 := K1.free 0
  have v0 := K2.cell (i := 0) rfl
  have o0 := K3.cell (i := 0) rfl
  have u1 := K1.cell (i := 1) rfl
  have f1 := K1.free 1
  have v1 := K2.cell (i := 1) rfl
  have o1 := K3.cell (i := 1) rfl
  have KFblk := hid3 (show Blk ((w7.setCell ⟨w.heap.size, 0, none⟩ (.int .u64 (XS 0))).setCell ⟨w.heap.size, 1, none⟩ (.int .u64 (XS 1))) w.heap.size [.int .u64 (XS 0), .int .u64 (XS 1)] 39 from ((K1.setCell (i := 0) (.int .u64 (XS 0))).setCell (i := 1) (.int .u64 (XS 1))))
  have KFchg := hid3 (show Chg (fun x => x = w.heap.size) w7 ((w7.setCell ⟨w.heap.size, 0, none⟩ (.int .u64 (XS 0))).setCell ⟨w.heap.size, 1, none⟩ (.int .u64 (XS 1))) from (((Chg.refl (fun x => x = w.heap.size) w7).cell (g := w.heap.size) (i := 0) (.inl rfl) (.int .u64 (XS 0))).cell (g := w.heap.size) (i := 1) (.inl rfl) (.int .u64 (XS 1))))
  have KFbel := hid3 (show Below w.heap.size w ((w7.setCell ⟨w.heap.size, 0, none⟩ (.int .u64 (XS 0))).setCell ⟨w.heap.size, 1, none⟩ (.int .u64 (XS 1))) from ((BF.out.setCell (p := ⟨w.heap.size, 0, none⟩) (Nat.le_refl _) (.int .u64 (XS 0))).setCell (p := ⟨w.heap.size, 1, none⟩) (Nat.le_refl _) (.int .u64 (XS 1))))
  have KZblk := hid3 (show Blk ((w7.setCell ⟨w.heap.size, 0, none⟩ (.int .u64 0)).setCell ⟨w.heap.size, 1, none⟩ (.int .u64 0)) w.heap.size [.int .u64 0, .int .u64 0] 39 from ((K1.setCell (i := 0) (.int .u64 0)).setCell (i := 1) (.int .u64 0)))
  have KZchg := hid3 (show Chg (fun x => x = w.heap.size) w7 ((w7.setCell ⟨w.heap.size, 0, none⟩ (.int .u64 0)).setCell ⟨w.heap.size, 1, none⟩ (.int .u64 0)) from (((Chg.refl (fun x => x = w.heap.size) w7).cell (g := w.heap.size) (i := 0) (.inl rfl) (.int .u64 0)).cell (g := w.heap.size) (i := 1) (.inl rfl) (.int .u64 0)))
  have KZbel := hid3 (show Below w.heap.size w ((w7.setCell ⟨w.heap.size, 0, none⟩ (.int .u64 0)).setCell ⟨w.heap.size, 1, none⟩ (.int .u64 0)) from ((BF.out.setCell (p := ⟨w.heap.size, 0, none⟩) (Nat.le_refl _) (.int .u64 0)).setCell (p := ⟨w.heap.size, 1, none⟩) (Nat.le_refl _) (.int .u64 0)))
  clear K1 K2 K3 I6 C6 C7 B7 X7 R6 hl6 F6 c6 HU P1 P3 q0 q1
  obtain ⟨E0, hE0⟩ : ∃ E0, Hid (endE st.1 st.2.1 = E0) := ⟨_, rfl⟩
  rw [hE0.out]
  by_cases hE : E0 = 0
  · subst hE
    go_wp2
    refine bodyPost_ret (ret_rc rfl rfl rfl (ld_Account (KFblk.out.cell (i := 0) rfl) (KFblk.out.cell (i := 1) rfl))) rfl ?_
    exact ⟨⟨[.int .u64 (XS 0), .int .u64 (XS 1)], XS, 0, rfl, rfl, (hF7.out.off KFchg.out.size (fun y hy _ => KFchg.out.same y (by assumption) (fun e => by have e' : y = w.heap.size := e; have := hBw.out; omega))).low (by have := hBw.out; omega), fun _ => ⟨rfl, hXS.out.symm⟩, fun h => absurd hE0.out h⟩, KFbel.out⟩
  · have hE1 : ¬ (E0 = 0) := hE
    go_wp2
    refine bodyPost_ret (ret_rc rfl rfl rfl (ld_Account (KZblk.out.cell (i := 0) rfl) (KZblk.out.cell (i := 1) rfl))) rfl ?_
    exact ⟨⟨[.int .u64 0, .int .u64 0], fun _ => 0, 80, rfl, rfl, (fun o => match o with | 0 => ⟨fun _ => rfl, fun h => absurd h (by decide), fun h => absurd h (by decide)⟩ | 1 => ⟨fun _ => rfl, fun h => absurd h (by decide), fun h => absurd h (by decide)⟩ | k + 2 => ⟨fun h => absurd h (by simp [kd_Account]), fun h => absurd h (by simp [kd_Account]), fun h => absurd h (by simp [kd_Account])⟩), fun h => absurd (hE0.out.symm.trans h) hE1, fun _ => ⟨rfl, rfl⟩⟩, KZbel.out⟩
end Rc
end
section
namespace Rc
open Go.RowKit Go.Lib Pg
attribute [local go_sem] Oper.semAt_some
theorem read_Number {w : World} {bb n c : Nat} {ao : Option Addr} {l : List Int} (A : ByA w bb ao n c l) (hn : n ≤ 1000000000) (hl : l.length = n) :
    Calls Tryz.prog 221 #[.slice ao n c, .func (.func 222) #[] #[]] w (FinR w kd_Number 1 mkO (thr rnx [(0, 0)] (0, l, fun _ => (0 : Int)))) := by
  have b1 := below_alloc w (.cells #[.int .u64 0] 22)
  have z1 := size_al w (.cells #[.int .u64 0] 22)
  have y1 := blk_new w [.int .u64 0] 22
  obtain ⟨W3, hW3⟩ : ∃ W3, Hid (w.alloc (.cells #[.int .u64 0] 22) = W3) := ⟨_, rfl⟩
  rw [hW3.out] at b1 y1 z1
  have HN := hid3 (rdNew (A.keep b1) (by omega))
  have Y2 := hid3 y1
  have Z3 := hid3 z1
  have HBB := hid3 b1
  have HL := hid3 hl
  clear b1 z1 y1 A hl
  obtain ⟨st, hst⟩ : ∃ st, Hid (thr rnx [(0, 0)] (0, l, fun _ => (0 : Int)) = st) := ⟨_, rfl⟩
  have hsl : st.2.1.length ≤ n := by have h := thr_len [(0, 0)] (0, l, fun _ => (0 : Int)); rw [hst.out] at h; rw [HL.out] at h; exact h
  rw [hst.out]
  go_enter Tryz.func221, Tryz.ntmps221
  go_wp2_with fail
  rw [hW3.out]
  refine HN.out.mono ?_
  rintro e' w4 ⟨g, b', rfl, hg, hb', X4, B4⟩
  have b5 := below_alloc w4 (.cells #[.pointer (some ⟨g, 0, none⟩)] 337)
  have v5 := blk_new w4 [.pointer (some ⟨g, 0, none⟩)] 337
  have z5 := size_al w4 (.cells #[.pointer (some ⟨g, 0, none⟩)] 337)
  obtain ⟨W5, hW5⟩ : ∃ W5, Hid (w4.alloc (.cells #[.pointer (some ⟨g, 0, none⟩)] 337) = W5) := ⟨_, rfl⟩
  rw [hW5.out] at b5 v5 z5
  have hgl := X4.lt
  have hz3 := Z3.out
  have hz4 := B4.size
  have F0 : FldR W5 W5.heap.size kd_Number [.int .u64 0] (fun _ => 0) := fun o => match o with
    | 0 => ⟨fun _ => rfl, fun h => absurd h (by decide), fun h => absurd h (by decide)⟩
    | k + 1 => ⟨fun h => absurd h (by simp [kd_Number]), fun h => absurd h (by simp [kd_Number]), fun h => absurd h (by simp [kd_Number])⟩
  have U := ofNumber_any (rhc_Number (w0 := w) (B := W5.heap.size) (g := g) (b := b') (vb := w4.heap.size) (rb := w.heap.size) (T := 22) (vt := 337)) (s := (0, l, fun _ => (0 : Int))) (w := W5) ⟨⟨X4.keep b5, v5, ⟨_, rfl, (Y2.out.keep B4).keep b5, F0⟩, joinB (joinB HBB.out B4) b5, by omega, by omega, by omega, by omega, by omega, by omega, by omega, by omega⟩, Nat.le_refl _⟩ (by simp [kd_Number]) trivial
  rw [hst.out] at U
  have HU := hid3 U
  have HS := hid3 (show w.heap.size ≤ W5.heap.size ∧ w.heap.size ≤ g from ⟨by omega, by omega⟩)
  clear U b5 v5 z5 hgl hz3 hz4 F0 X4 B4 hg hb' HN Y2
  go_wp2_with fail
  rw [hW5.out]
  refine HU.out.mono ?_
  rintro e' w6 ⟨rfl, ⟨I6, hB6⟩, C6⟩
  have c6 := I6.var.cell (i := 0) rfl
  go_wp2_with fail
  refine (rdEnd I6.rd (by omega)).mono ?_
  rintro e' w7 ⟨rfl, X7, B7⟩
  obtain ⟨cs6, hl6, R6, F6⟩ := I6.rc
  obtain ⟨XS, hXS⟩ : ∃ XS, Hid (st.2.2 = XS) := ⟨_, rfl⟩
  rw [hXS.out] at F6
  have hF6 := hid3 F6
  have q0 := (F6 0).1 rfl
  have ecs : cs6 = [.int .u64 (XS 0)] := by
    apply List.ext_getElem?
    intro i
    match i with
    | 0 => rw [q0]; rfl
    | k + 1 => rw [List.getElem?_eq_none (by omega), List.getElem?_eq_none (by simp)]
  subst ecs
  have C7 := But.chg B7
  have K2 := R6.chg C7 I6.s1
  have BF := hid3 (B7.below I6.bel HS.out.2 (Nat.le_refl _))
  have hF7 := hid3 ((hF6.out.off (w' := w7) B7.size (fun y hy hy2 => B7.block y hy2 (by have := I6.g1; omega))))
  have v0 := K2.cell (i := 0) rfl
  clear K2 I6 C6 C7 B7 X7 R6 hl6 F6 c6 HU q0
  obtain ⟨E0, hE0⟩ : ∃ E0, Hid (endE st.1 st.2.1 = E0) := ⟨_, rfl⟩
  rw [hE0.out]
  by_cases hE : E0 = 0
  · subst hE
    go_wp2
    go_ret2
    exact ⟨⟨[.int .u64 (XS 0)], XS, 0, rfl, rfl, hF7.out.low HS.out.1, fun _ => ⟨rfl, hXS.out.symm⟩, fun h => absurd hE0.out h⟩, BF.out⟩
  · have hE1 : ¬ (E0 = 0) := hE
    go_wp2
    go_ret2
    exact ⟨⟨[.int .u64 0], fun _ => 0, 80, rfl, rfl, (fun o => match o with | 0 => ⟨fun _ => rfl, fun h => absurd h (by decide), fun h => absurd h (by decide)⟩ | k + 1 => ⟨fun h => absurd h (by simp [kd_Number]), fun h => absurd h (by simp [kd_Number]), fun h => absurd h (by simp [kd_Number])⟩), fun h => absurd (hE0.out.symm.trans h) hE1, fun _ => ⟨rfl, rfl⟩⟩, BF.out⟩
theorem PutParams_any {w:World} {x0:Int} {x1:Int} {x2:Int} {x3:Int} {x4:Int} {x5:Int} {x6:Int} {x7:Int} {x8:Int} {x9:Int} :
  Calls Tryz.prog 14 #[.agg #[.int .u64 x0,.int .u64 x1,.int .u64 x2,.int .u64 x3,.int .u64 x4,.int .u64 x5,.int .u64 x6,.int .u64 x7,.int .u64 x8,.int .u64 x9]] w fun e w'=>∃ b n,e=.returned (.slice (some ⟨b,0,none⟩) n n)/\n=(thr (pnx (fun o=>([x0,x1,x2,x3,x4,x5,x6,x7,x8,x9]:List Int).getD o 0)) [(0,0),(0,1),(0,2),(0,3),(0,4),(0,5),(0,6),(0,7),(0,8),(0,9)] []).length/\Box w' b ((thr (pnx (fun o=>([x0,x1,x2,x3,x4,x5,x6,x7,x8,x9]:List Int).getD o 0)) [(0,0),(0,1),(0,2),(0,3),(0,4),(0,5),(0,6),(0,7),(0,8),(0,9)] []).map (Value.int .u8)) 5/\w.heap.size<=b/\Below w.heap.size w w':=by
 have b1:=below_alloc w (.cells #[.int .u64 x0,.int .u64 x1,.int .u64 x2,.int .u64 x3,.int .u64 x4,.int .u64 x5,.int .u64 x6,.int .u64 x7,.int .u64 x8,.int .u64 x9] 24)
 have U:=put_Params (x0:=x0) (x1:=x1) (x2:=x2) (x3:=x3) (x4:=x4) (x5:=x5) (x6:=x6) (x7:=x7) (x8:=x8) (x9:=x9) (w:=w.alloc (.cells #[.int .u64 x0,.int .u64 x1,.int .u64 x2,.int .u64 x3,.int .u64 x4,.int .u64 x5,.int .u64 x6,.int .u64 x7,.int .u64 x8,.int .u64 x9] 24))
 have HB:=hid3 b1
 generalize thr (pnx (fun o=>([x0,x1,x2,x3,x4,x5,x6,x7,x8,x9]:List Int).getD o 0)) [(0,0),(0,1),(0,2),(0,3),(0,4),(0,5),(0,6),(0,7),(0,8),(0,9)] []=M at *
 have HU:=hid3 U
 clear U
 go_enter Tryz.func14,Tryz.ntmps14
 go_wp2_with fail
 refine HU.out.mono ?_
 rintro e' w1 ⟨b,n,rfl,hn,X,hb,B⟩
 have FF:=hid3 (show n=M.length/\Box w1 b (M.map (Value.int .u8)) 5/\w.heap.size<=b/\Below w.heap.size w w1 from ⟨hn,X,Nat.le_trans HB.out.size hb,joinB HB.out B⟩)
 clear hn X hb B HU HB
 go_wp2
 go_ret
 exact ⟨b,n,rfl,FF.out⟩
theorem Params_any {w:World} {bb n c:Nat} {ao:Option Addr} {l:List Int} (A:ByA w bb ao n c l) (hn:n<=1000000000) (hl:l.length=n) :
  Calls Tryz.prog 124 #[.slice ao n c] w (FinR w kd_Params 10 mkA (thr rnx [(0,0),(0,1),(0,2),(0,3),(0,4),(0,5),(0,6),(0,7),(0,8),(0,9)] (0,l,fun _=>(0:Int)))):=by
 have b1:=below_alloc w (.cells #[.int .u64 0,.int .u64 0,.int .u64 0,.int .u64 0,.int .u64 0,.int .u64 0,.int .u64 0,.int .u64 0,.int .u64 0,.int .u64 0] 24)
 have y1:=blk_new w [.int .u64 0,.int .u64 0,.int .u64 0,.int .u64 0,.int .u64 0,.int .u64 0,.int .u64 0,.int .u64 0,.int .u64 0,.int .u64 0] 24
 have z1:=size_al w (.cells #[.int .u64 0,.int .u64 0,.int .u64 0,.int .u64 0,.int .u64 0,.int .u64 0,.int .u64 0,.int .u64 0,.int .u64 0,.int .u64 0] 24)
 have U:=read_Params (A.keep b1) hn hl
 generalize thr rnx [(0,0),(0,1),(0,2),(0,3),(0,4),(0,5),(0,6),(0,7),(0,8),(0,9)] (0,l,fun _=>(0:Int))=st at *
 obtain ⟨W1,hW1⟩:∃ W1,Hid (w.alloc (.cells #[.int .u64 0,.int .u64 0,.int .u64 0,.int .u64 0,.int .u64 0,.int .u64 0,.int .u64 0,.int .u64 0,.int .u64 0,.int .u64 0] 24)=W1):=⟨_,rfl⟩
 rw [hW1.out] at b1 y1 z1 U
 have HU:=hid3 U
 have HB:=hid3 b1
 have HY:=hid3 y1
 have HZ:=hid3 z1
 clear A hl b1 y1 z1 U
 go_enter Tryz.func124,Tryz.ntmps124
 go_wp2_with fail
 rw [hW1.out]
 refine HU.out.mono ?_
 rintro e' w1 ⟨⟨cs,xs,r,rfl,h1,h2,h3,h4⟩,B⟩
 have q0:=(h2 0).1 rfl
 have q1:=(h2 1).1 rfl
 have q2:=(h2 2).1 rfl
 have q3:=(h2 3).1 rfl
 have q4:=(h2 4).1 rfl
 have q5:=(h2 5).1 rfl
 have q6:=(h2 6).1 rfl
 have q7:=(h2 7).1 rfl
 have q8:=(h2 8).1 rfl
 have q9:=(h2 9).1 rfl
 have ecs:cs=[.int .u64 (xs 0),.int .u64 (xs 1),.int .u64 (xs 2),.int .u64 (xs 3),.int .u64 (xs 4),.int .u64 (xs 5),.int .u64 (xs 6),.int .u64 (xs 7),.int .u64 (xs 8),.int .u64 (xs 9)]:=by
  apply List.ext_getElem?
  intro i
  match i with
  | 0=>rw [q0]; rfl
  | 1=>rw [q1]; rfl
  | 2=>rw [q2]; rfl
  | 3=>rw [q3]; rfl
  | 4=>rw [q4]; rfl
  | 5=>rw [q5]; rfl
  | 6=>rw [q6]; rfl
  | 7=>rw [q7]; rfl
  | 8=>rw [q8]; rfl
  | 9=>rw [q9]; rfl
  | k + 10=>rw [List.getElem?_eq_none (by omega),List.getElem?_eq_none (by simp)]
 subst ecs
 have K1:=HY.out.keep B
 have BF:=joinB HB.out B
 have u0:=K1.cell (i:=0) rfl
 have f0:=K1.free 0
 have u1:=K1.cell (i:=1) rfl
 have f1:=K1.free 1
 have u2:=K1.cell (i:=2) rfl
 have f2:=K1.free 2
 have u3:=K1.cell (i:=3) rfl
 have f3:=K1.free 3
 have u4:=K1.cell (i:=4) rfl
 have f4:=K1.free 4
 have u5:=K1.cell (i:=5) rfl
 have f5:=K1.free 5
 have u6:=K1.cell (i:=6) rfl
 have f6:=K1.free 6
 have u7:=K1.cell (i:=7) rfl
 have f7:=K1.free 7
 have u8:=K1.cell (i:=8) rfl
 have f8:=K1.free 8
 have u9:=K1.cell (i:=9) rfl
 have f9:=K1.free 9
 have KB:=hid3 (show Blk ((((((((((w1.setCell ⟨w.heap.size,0,none⟩ (.int .u64 (xs 0))).setCell ⟨w.heap.size,1,none⟩ (.int .u64 (xs 1))).setCell ⟨w.heap.size,2,none⟩ (.int .u64 (xs 2))).setCell ⟨w.heap.size,3,none⟩ (.int .u64 (xs 3))).setCell ⟨w.heap.size,4,none⟩ (.int .u64 (xs 4))).setCell ⟨w.heap.size,5,none⟩ (.int .u64 (xs 5))).setCell ⟨w.heap.size,6,none⟩ (.int .u64 (xs 6))).setCell ⟨w.heap.size,7,none⟩ (.int .u64 (xs 7))).setCell ⟨w.heap.size,8,none⟩ (.int .u64 (xs 8))).setCell ⟨w.heap.size,9,none⟩ (.int .u64 (xs 9))) w.heap.size [.int .u64 (xs 0),.int .u64 (xs 1),.int .u64 (xs 2),.int .u64 (xs 3),.int .u64 (xs 4),.int .u64 (xs 5),.int .u64 (xs 6),.int .u64 (xs 7),.int .u64 (xs 8),.int .u64 (xs 9)] 24 from ((((((((((K1.setCell (i:=0) (.int .u64 (xs 0))).setCell (i:=1) (.int .u64 (xs 1))).setCell (i:=2) (.int .u64 (xs 2))).setCell (i:=3) (.int .u64 (xs 3))).setCell (i:=4) (.int .u64 (xs 4))).setCell (i:=5) (.int .u64 (xs 5))).setCell (i:=6) (.int .u64 (xs 6))).setCell (i:=7) (.int .u64 (xs 7))).setCell (i:=8) (.int .u64 (xs 8))).setCell (i:=9) (.int .u64 (xs 9))))
 have KC:=hid3 (show Chg (fun x=>x=w.heap.size) w1 ((((((((((w1.setCell ⟨w.heap.size,0,none⟩ (.int .u64 (xs 0))).setCell ⟨w.heap.size,1,none⟩ (.int .u64 (xs 1))).setCell ⟨w.heap.size,2,none⟩ (.int .u64 (xs 2))).setCell ⟨w.heap.size,3,none⟩ (.int .u64 (xs 3))).setCell ⟨w.heap.size,4,none⟩ (.int .u64 (xs 4))).setCell ⟨w.heap.size,5,none⟩ (.int .u64 (xs 5))).setCell ⟨w.heap.size,6,none⟩ (.int .u64 (xs 6))).setCell ⟨w.heap.size,7,none⟩ (.int .u64 (xs 7))).setCell ⟨w.heap.size,8,none⟩ (.int .u64 (xs 8))).setCell ⟨w.heap.size,9,none⟩ (.int .u64 (xs 9))) from (((((((((((Chg.refl (fun x=>x=w.heap.size) w1).cell (g:=w.heap.size) (i:=0) (.inl rfl) (.int .u64 (xs 0))).cell (g:=w.heap.size) (i:=1) (.inl rfl) (.int .u64 (xs 1))).cell (g:=w.heap.size) (i:=2) (.inl rfl) (.int .u64 (xs 2))).cell (g:=w.heap.size) (i:=3) (.inl rfl) (.int .u64 (xs 3))).cell (g:=w.heap.size) (i:=4) (.inl rfl) (.int .u64 (xs 4))).cell (g:=w.heap.size) (i:=5) (.inl rfl) (.int .u64 (xs 5))).cell (g:=w.heap.size) (i:=6) (.inl rfl) (.int .u64 (xs 6))).cell (g:=w.heap.size) (i:=7) (.inl rfl) (.int .u64 (xs 7))).cell (g:=w.heap.size) (i:=8) (.inl rfl) (.int .u64 (xs 8))).cell (g:=w.heap.size) (i:=9) (.inl rfl) (.int .u64 (xs 9))))
 have FF:=hid3 (show FinR w kd_Params 10 mkA st (.returned (.tuple #[.agg #[.int .u64 (xs 0),.int .u64 (xs 1),.int .u64 (xs 2),.int .u64 (xs 3),.int .u64 (xs 4),.int .u64 (xs 5),.int .u64 (xs 6),.int .u64 (xs 7),.int .u64 (xs 8),.int .u64 (xs 9)],.int .i64 r])) ((((((((((w1.setCell ⟨w.heap.size,0,none⟩ (.int .u64 (xs 0))).setCell ⟨w.heap.size,1,none⟩ (.int .u64 (xs 1))).setCell ⟨w.heap.size,2,none⟩ (.int .u64 (xs 2))).setCell ⟨w.heap.size,3,none⟩ (.int .u64 (xs 3))).setCell ⟨w.heap.size,4,none⟩ (.int .u64 (xs 4))).setCell ⟨w.heap.size,5,none⟩ (.int .u64 (xs 5))).setCell ⟨w.heap.size,6,none⟩ (.int .u64 (xs 6))).setCell ⟨w.heap.size,7,none⟩ (.int .u64 (xs 7))).setCell ⟨w.heap.size,8,none⟩ (.int .u64 (xs 8))).setCell ⟨w.heap.size,9,none⟩ (.int .u64 (xs 9))) from ⟨⟨[.int .u64 (xs 0),.int .u64 (xs 1),.int .u64 (xs 2),.int .u64 (xs 3),.int .u64 (xs 4),.int .u64 (xs 5),.int .u64 (xs 6),.int .u64 (xs 7),.int .u64 (xs 8),.int .u64 (xs 9)],xs,r,rfl,rfl,(h2.off KC.out.size (fun y hy hy2=>KC.out.same y hy2 (fun e=>by have e':y=w.heap.size:=e; have:=HZ.out; omega))).low HB.out.size,h3,h4⟩,((((((((((BF.setCell (p:=⟨w.heap.size,0,none⟩) (Nat.le_refl _) (.int .u64 (xs 0))).setCell (p:=⟨w.heap.size,1,none⟩) (Nat.le_refl _) (.int .u64 (xs 1))).setCell (p:=⟨w.heap.size,2,none⟩) (Nat.le_refl _) (.int .u64 (xs 2))).setCell (p:=⟨w.heap.size,3,none⟩) (Nat.le_refl _) (.int .u64 (xs 3))).setCell (p:=⟨w.heap.size,4,none⟩) (Nat.le_refl _) (.int .u64 (xs 4))).setCell (p:=⟨w.heap.size,5,none⟩) (Nat.le_refl _) (.int .u64 (xs 5))).setCell (p:=⟨w.heap.size,6,none⟩) (Nat.le_refl _) (.int .u64 (xs 6))).setCell (p:=⟨w.heap.size,7,none⟩) (Nat.le_refl _) (.int .u64 (xs 7))).setCell (p:=⟨w.heap.size,8,none⟩) (Nat.le_refl _) (.int .u64 (xs 8))).setCell (p:=⟨w.heap.size,9,none⟩) (Nat.le_refl _) (.int .u64 (xs 9)))⟩)
 clear h1 h2 h3 h4 B K1 BF HU KC HY HB q0 q1 q2 q3 q4 q5 q6 q7 q8 q9
 simp only [mkA]
 go_wp2
 refine bodyPost_ret (ret_rc rfl rfl rfl (ld_Params (KB.out.cell (i:=0) rfl) (KB.out.cell (i:=1) rfl) (KB.out.cell (i:=2) rfl) (KB.out.cell (i:=3) rfl) (KB.out.cell (i:=4) rfl) (KB.out.cell (i:=5) rfl) (KB.out.cell (i:=6) rfl) (KB.out.cell (i:=7) rfl) (KB.out.cell (i:=8) rfl) (KB.out.cell (i:=9) rfl))) rfl ?_
 exact FF.out
theorem PutChain_any {w:World} {x0:Int} {x1:Int} :
  Calls Tryz.prog 15 #[.agg #[.int .u64 x0,.int .u64 x1]] w fun e w'=>∃ b n,e=.returned (.slice (some ⟨b,0,none⟩) n n)/\n=(thr (pnx (fun o=>([x0,x1]:List Int).getD o 0)) [(0,0),(0,1)] []).length/\Box w' b ((thr (pnx (fun o=>([x0,x1]:List Int).getD o 0)) [(0,0),(0,1)] []).map (Value.int .u8)) 5/\w.heap.size<=b/\Below w.heap.size w w':=by
 have b1:=below_alloc w (.cells #[.int .u64 x0,.int .u64 x1] 44)
 have U:=put_Chain (x0:=x0) (x1:=x1) (w:=w.alloc (.cells #[.int .u64 x0,.int .u64 x1] 44))
 have HB:=hid3 b1
 generalize thr (pnx (fun o=>([x0,x1]:List Int).getD o 0)) [(0,0),(0,1)] []=M at *
 have HU:=hid3 U
 clear U
 go_enter Tryz.func15,Tryz.ntmps15
 go_wp2_with fail
 refine HU.out.mono ?_
 rintro e' w1 ⟨b,n,rfl,hn,X,hb,B⟩
 have FF:=hid3 (show n=M.length/\Box w1 b (M.map (Value.int .u8)) 5/\w.heap.size<=b/\Below w.heap.size w w1 from ⟨hn,X,Nat.le_trans HB.out.size hb,joinB HB.out B⟩)
 clear hn X hb B HU HB
 go_wp2
 go_ret
 exact ⟨b,n,rfl,FF.out⟩
theorem Chain_any {w:World} {bb n c:Nat} {ao:Option Addr} {l:List Int} (A:ByA w bb ao n c l) (hn:n<=1000000000) (hl:l.length=n) :
  Calls Tryz.prog 126 #[.slice ao n c] w (FinR w kd_Chain 2 mkA (thr rnx [(0,0),(0,1)] (0,l,fun _=>(0:Int)))):=by
 have b1:=below_alloc w (.cells #[.int .u64 0,.int .u64 0] 44)
 have y1:=blk_new w [.int .u64 0,.int .u64 0] 44
 have z1:=size_al w (.cells #[.int .u64 0,.int .u64 0] 44)
 have U:=read_Chain (A.keep b1) hn hl
 generalize thr rnx [(0,0),(0,1)] (0,l,fun _=>(0:Int))=st at *
 obtain ⟨W1,hW1⟩:∃ W1,Hid (w.alloc (.cells #[.int .u64 0,.int .u64 0] 44)=W1):=⟨_,rfl⟩
 rw [hW1.out] at b1 y1 z1 U
 have HU:=hid3 U
 have HB:=hid3 b1
 have HY:=hid3 y1
 have HZ:=hid3 z1
 clear A hl b1 y1 z1 U
 go_enter Tryz.func126,Tryz.ntmps126
 go_wp2_with fail
 rw [hW1.out]
 refine HU.out.mono ?_
 rintro e' w1 ⟨⟨cs,xs,r,rfl,h1,h2,h3,h4⟩,B⟩
 have q0:=(h2 0).1 rfl
 have q1:=(h2 1).1 rfl
 have ecs:cs=[.int .u64 (xs 0),.int .u64 (xs 1)]:=by
  apply List.ext_getElem?
  intro i
  match i with
  | 0=>rw [q0]; rfl
  | 1=>rw [q1]; rfl
  | k + 2=>rw [List.getElem?_eq_none (by omega),List.getElem?_eq_none (by simp)]
 subst ecs
 have K1:=HY.out.keep B
 have BF:=joinB HB.out B
 have u0:=K1.cell (i:=0) rfl
 have f0:=K1.free 0
 have u1:=K1.cell (i:=1) rfl
 have f1:=K1.free 1
 have KB:=hid3 (show Blk ((w1.setCell ⟨w.heap.size,0,none⟩ (.int .u64 (xs 0))).setCell ⟨w.heap.size,1,none⟩ (.int .u64 (xs 1))) w.heap.size [.int .u64 (xs 0),.int .u64 (xs 1)] 44 from ((K1.setCell (i:=0) (.int .u64 (xs 0))).setCell (i:=1) (.int .u64 (xs 1))))
 have KC:=hid3 (show Chg (fun x=>x=w.heap.size) w1 ((w1.setCell ⟨w.heap.size,0,none⟩ (.int .u64 (xs 0))).setCell ⟨w.heap.size,1,none⟩ (.int .u64 (xs 1))) from (((Chg.refl (fun x=>x=w.heap.size) w1).cell (g:=w.heap.size) (i:=0) (.inl rfl) (.int .u64 (xs 0))).cell (g:=w.heap.size) (i:=1) (.inl rfl) (.int .u64 (xs 1))))
 have FF:=hid3 (show FinR w kd_Chain 2 mkA st (.returned (.tuple #[.agg #[.int .u64 (xs 0),.int .u64 (xs 1)],.int .i64 r])) ((w1.setCell ⟨w.heap.size,0,none⟩ (.int .u64 (xs 0))).setCell ⟨w.heap.size,1,none⟩ (.int .u64 (xs 1))) from ⟨⟨[.int .u64 (xs 0),.int .u64 (xs 1)],xs,r,rfl,rfl,(h2.off KC.out.size (fun y hy hy2=>KC.out.same y hy2 (fun e=>by have e':y=w.heap.size:=e; have:=HZ.out; omega))).low HB.out.size,h3,h4⟩,((BF.setCell (p:=⟨w.heap.size,0,none⟩) (Nat.le_refl _) (.int .u64 (xs 0))).setCell (p:=⟨w.heap.size,1,none⟩) (Nat.le_refl _) (.int .u64 (xs 1)))⟩)
 clear h1 h2 h3 h4 B K1 BF HU KC HY HB q0 q1
 simp only [mkA]
 go_wp2
 refine bodyPost_ret (ret_rc rfl rfl rfl (ld_Chain (KB.out.cell (i:=0) rfl) (KB.out.cell (i:=1) rfl))) rfl ?_
 exact FF.out
theorem Pool_any {w:World} {bb n c:Nat} {ao:Option Addr} {l:List Int} (A:ByA w bb ao n c l) (hn:n<=1000000000) (hl:l.length=n) :
  Calls Tryz.prog 102 #[.slice ao n c] w (FinR w kd_Pool 1 mkA (thr rnx [(2,0)] (0,l,fun _=>(0:Int)))):=by
 have b1:=below_alloc w (.cells #[.slice none 0 0] 107)
 have y1:=blk_new w [.slice none 0 0] 107
 have z1:=size_al w (.cells #[.slice none 0 0] 107)
 have U:=read_Pool (A.keep b1) hn hl
 generalize thr rnx [(2,0)] (0,l,fun _=>(0:Int))=st at *
 obtain ⟨W1,hW1⟩:∃ W1,Hid (w.alloc (.cells #[.slice none 0 0] 107)=W1):=⟨_,rfl⟩
 rw [hW1.out] at b1 y1 z1 U
 have HU:=hid3 U
 have HB:=hid3 b1
 have HY:=hid3 y1
 have HZ:=hid3 z1
 clear A hl b1 y1 z1 U
 go_enter Tryz.func102,Tryz.ntmps102
 go_wp2_with fail
 rw [hW1.out]
 refine HU.out.mono ?_
 rintro e' w1 ⟨⟨cs,xs,r,rfl,h1,h2,h3,h4⟩,B⟩
 obtain ⟨a0,n0,d0,q0,-,-⟩:=(h2 0).2.2 rfl
 have ecs:cs=[.slice a0 n0 d0]:=by
  apply List.ext_getElem?
  intro i
  match i with
  | 0=>rw [q0]; rfl
  | k + 1=>rw [List.getElem?_eq_none (by omega),List.getElem?_eq_none (by simp)]
 subst ecs
 have K1:=HY.out.keep B
 have BF:=joinB HB.out B
 have u0:=K1.cell (i:=0) rfl
 have f0:=K1.free 0
 have KB:=hid3 (show Blk (w1.setCell ⟨w.heap.size,0,none⟩ (.slice a0 n0 d0)) w.heap.size [.slice a0 n0 d0] 107 from (K1.setCell (i:=0) (.slice a0 n0 d0)))
 have KC:=hid3 (show Chg (fun x=>x=w.heap.size) w1 (w1.setCell ⟨w.heap.size,0,none⟩ (.slice a0 n0 d0)) from ((Chg.refl (fun x=>x=w.heap.size) w1).cell (g:=w.heap.size) (i:=0) (.inl rfl) (.slice a0 n0 d0)))
 have FF:=hid3 (show FinR w kd_Pool 1 mkA st (.returned (.tuple #[.agg #[.slice a0 n0 d0],.int .i64 r])) (w1.setCell ⟨w.heap.size,0,none⟩ (.slice a0 n0 d0)) from ⟨⟨[.slice a0 n0 d0],xs,r,rfl,rfl,(h2.off KC.out.size (fun y hy hy2=>KC.out.same y hy2 (fun e=>by have e':y=w.heap.size:=e; have:=HZ.out; omega))).low HB.out.size,h3,h4⟩,(BF.setCell (p:=⟨w.heap.size,0,none⟩) (Nat.le_refl _) (.slice a0 n0 d0))⟩)
 clear h1 h2 h3 h4 B K1 BF HU KC HY HB q0
 simp only [mkA]
 go_wp2
 refine bodyPost_ret (ret_rc rfl rfl rfl (ld_Pool (KB.out.cell (i:=0) rfl))) rfl ?_
 exact FF.out
theorem PutAccount_any {w:World} {x0:Int} {x1:Int} :
  Calls Tryz.prog 12 #[.agg #[.int .u64 x0,.int .u64 x1]] w fun e w'=>∃ b n,e=.returned (.slice (some ⟨b,0,none⟩) n n)/\n=(thr (pnx (fun o=>([x0,x1]:List Int).getD o 0)) [(0,0),(0,1)] []).length/\Box w' b ((thr (pnx (fun o=>([x0,x1]:List Int).getD o 0)) [(0,0),(0,1)] []).map (Value.int .u8)) 5/\w.heap.size<=b/\Below w.heap.size w w':=by
 have b1:=below_alloc w (.cells #[.int .u64 x0,.int .u64 x1] 39)
 have U:=put_Account (x0:=x0) (x1:=x1) (w:=w.alloc (.cells #[.int .u64 x0,.int .u64 x1] 39))
 have HB:=hid3 b1
 generalize thr (pnx (fun o=>([x0,x1]:List Int).getD o 0)) [(0,0),(0,1)] []=M at *
 have HU:=hid3 U
 clear U
 go_enter Tryz.func12,Tryz.ntmps12
 go_wp2_with fail
 refine HU.out.mono ?_
 rintro e' w1 ⟨b,n,rfl,hn,X,hb,B⟩
 have FF:=hid3 (show n=M.length/\Box w1 b (M.map (Value.int .u8)) 5/\w.heap.size<=b/\Below w.heap.size w w1 from ⟨hn,X,Nat.le_trans HB.out.size hb,joinB HB.out B⟩)
 clear hn X hb B HU HB
 go_wp2
 go_ret
 exact ⟨b,n,rfl,FF.out⟩
theorem Account_any {w:World} {bb n c:Nat} {ao:Option Addr} {l:List Int} (A:ByA w bb ao n c l) (hn:n<=1000000000) (hl:l.length=n) :
  Calls Tryz.prog 76 #[.slice ao n c] w (FinR w kd_Account 2 mkA (thr rnx [(0,0),(0,1)] (0,l,fun _=>(0:Int)))):=by
 have b1:=below_alloc w (.cells #[.int .u64 0,.int .u64 0] 39)
 have y1:=blk_new w [.int .u64 0,.int .u64 0] 39
 have z1:=size_al w (.cells #[.int .u64 0,.int .u64 0] 39)
 have U:=read_Account (A.keep b1) hn hl
 generalize thr rnx [(0,0),(0,1)] (0,l,fun _=>(0:Int))=st at *
 obtain ⟨W1,hW1⟩:∃ W1,Hid (w.alloc (.cells #[.int .u64 0,.int .u64 0] 39)=W1):=⟨_,rfl⟩
 rw [hW1.out] at b1 y1 z1 U
 have HU:=hid3 U
 have HB:=hid3 b1
 have HY:=hid3 y1
 have HZ:=hid3 z1
 clear A hl b1 y1 z1 U
 go_enter Tryz.func76,Tryz.ntmps76
 go_wp2_with fail
 rw [hW1.out]
 refine HU.out.mono ?_
 rintro e' w1 ⟨⟨cs,xs,r,rfl,h1,h2,h3,h4⟩,B⟩
 have q0:=(h2 0).1 rfl
 have q1:=(h2 1).1 rfl
 have ecs:cs=[.int .u64 (xs 0),.int .u64 (xs 1)]:=by
  apply List.ext_getElem?
  intro i
  match i with
  | 0=>rw [q0]; rfl
  | 1=>rw [q1]; rfl
  | k + 2=>rw [List.getElem?_eq_none (by omega),List.getElem?_eq_none (by simp)]
 subst ecs
 have K1:=HY.out.keep B
 have BF:=joinB HB.out B
 have u0:=K1.cell (i:=0) rfl
 have f0:=K1.free 0
 have u1:=K1.cell (i:=1) rfl
 have f1:=K1.free 1
 have KB:=hid3 (show Blk ((w1.setCell ⟨w.heap.size,0,none⟩ (.int .u64 (xs 0))).setCell ⟨w.heap.size,1,none⟩ (.int .u64 (xs 1))) w.heap.size [.int .u64 (xs 0),.int .u64 (xs 1)] 39 from ((K1.setCell (i:=0) (.int .u64 (xs 0))).setCell (i:=1) (.int .u64 (xs 1))))
 have KC:=hid3 (show Chg (fun x=>x=w.heap.size) w1 ((w1.setCell ⟨w.heap.size,0,none⟩ (.int .u64 (xs 0))).setCell ⟨w.heap.size,1,none⟩ (.int .u64 (xs 1))) from (((Chg.refl (fun x=>x=w.heap.size) w1).cell (g:=w.heap.size) (i:=0) (.inl rfl) (.int .u64 (xs 0))).cell (g:=w.heap.size) (i:=1) (.inl rfl) (.int .u64 (xs 1))))
 have FF:=hid3 (show FinR w kd_Account 2 mkA st (.returned (.tuple #[.agg #[.int .u64 (xs 0),.int .u64 (xs 1)],.int .i64 r])) ((w1.setCell ⟨w.heap.size,0,none⟩ (.int .u64 (xs 0))).setCell ⟨w.heap.size,1,none⟩ (.int .u64 (xs 1))) from ⟨⟨[.int .u64 (xs 0),.int .u64 (xs 1)],xs,r,rfl,rfl,(h2.off KC.out.size (fun y hy hy2=>KC.out.same y hy2 (fun e=>by have e':y=w.heap.size:=e; have:=HZ.out; omega))).low HB.out.size,h3,h4⟩,((BF.setCell (p:=⟨w.heap.size,0,none⟩) (Nat.le_refl _) (.int .u64 (xs 0))).setCell (p:=⟨w.heap.size,1,none⟩) (Nat.le_refl _) (.int .u64 (xs 1)))⟩)
 clear h1 h2 h3 h4 B K1 BF HU KC HY HB q0 q1
 simp only [mkA]
 go_wp2
 refine bodyPost_ret (ret_rc rfl rfl rfl (ld_Account (KB.out.cell (i:=0) rfl) (KB.out.cell (i:=1) rfl))) rfl ?_
 exact FF.out
end Rc
end
section
open Go.RowKit Lim
end
section
open Go.RowKit Lim
structure Stp where
 what:Int
 num:Int
 na:Option Addr
 nn:Nat
 nc:Nat
 V:Int
 ba:Option Addr
 bn:Nat
 bc:Nat
 bb:Nat
 bl:List Int
 most:Int
end
end Go.Proofs.YtopifdikfhffgaaGreat
