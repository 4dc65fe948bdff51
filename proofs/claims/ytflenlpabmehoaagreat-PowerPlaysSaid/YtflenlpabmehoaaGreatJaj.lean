/- Several texts, joined: RcG, RcH, RcI, EncF, EncG, EncI, RcJ, RcK, RcL, EncJ, EncK, RefB2, EncL, EncP, EncQ, EncR, EncS, RcO, RcM, RcN, EncM, RcT. -/
import Derived.Test.YtflenlpabmehoaaGreatJai
import Derived.Lib.SlBytesConst
import Derived.Test.YtflenlpabmehoaaGreatJaa
namespace Go.Proofs.YtflenlpabmehoaaGreat
namespace Rc
open Go.RowKit Go.Lib Pg
attribute [local go_sem] Oper.semAt_some
abbrev RSt:=Int × List Int × (Nat->Int)
def pBoolI (l:List Int):Int ⊕ Int × Nat:=match pBool l with
 | .inl e=>.inl e
 | .inr p=>.inr ((if p.1 then 1 else 0),p.2)
def p1:Nat->List Int->Int ⊕ Int × Nat
 | 0,l=>pFix 8 l
 | 1,l=>pBoolI l
 | _,l=>pNat l
theorem pBoolI_E (l:List Int) (err:Int):rdE (pBoolI l) err=rdE (pBool l) err:=by
 unfold rdE pBoolI
 cases pBool l<;>rfl
theorem pBoolI_L (l m:List Int) (err:Int):rdL (pBoolI l) err m=rdL (pBool l) err m:=by
 unfold rdL pBoolI
 cases pBool l<;>rfl
theorem pBoolI_V (l:List Int) (err:Int):rdV 0 (pBoolI l) err=if rdV false (pBool l) err then 1 else 0:=by
 unfold rdV pBoolI
 by_cases h:err=0
 ·rw [if_pos h,if_pos h]
  cases pBool l<;>rfl
 ·rw [if_neg h,if_neg h]
  rfl
def rnx (k o:Nat) (s:RSt):RSt:=(rdE (p1 k s.2.1) s.1,rdL (p1 k s.2.1) s.1 s.2.1,fun i=>if i=o then rdV 0 (p1 k s.2.1) s.1 else s.2.2 i)
def FldR (w:World) (B:Nat) (kd:Nat->Nat) (cs:List Value) (xs:Nat->Int):Prop:=∀ o,(kd o=0->cs[o]? = some (.int .u64 (xs o)))/\(kd o=1->∃ b:Bool,cs[o]? = some (.bool b)/\xs o=if b then 1 else 0)/\(kd o=2->∃ ao n c,cs[o]? = some (.slice ao n c)/\NatW w B ao n c (xs o)/\n<=255)
theorem FldR.off {w w':World} {B:Nat} {kd:Nat->Nat} {cs:List Value} {xs:Nat->Int} (h:FldR w B kd cs xs) (hs:w.heap.size<=w'.heap.size) (hw:∀ b,B<=b->b < w.heap.size->w'.heap[b]? = w.heap[b]?):FldR w' B kd cs xs:=fun o=>⟨(h o).1,(h o).2.1,fun hk=>by
 obtain ⟨ao,n,c,h1,h2,h3⟩:=(h o).2.2 hk
 exact ⟨ao,n,c,h1,h2.off hs hw,h3⟩⟩
structure RI (w0:World) (B g b vb rb:Nat) (kd:Nat->Nat) (len:Nat) (T vt:TypeId) (s:RSt) (w:World):Prop where
 rd:RdA w g b s.1 s.2.1
 var:Blk w vb [.pointer (some ⟨g,0,none⟩)] vt
 rc:∃ cs,cs.length=len/\Blk w rb cs T/\FldR w B kd cs s.2.2
 bel:Below w0.heap.size w0 w
 s1:rb≠g
 s2:vb≠g
 s3:vb≠rb
 s4:b≠rb
 g1:g < B
 r1:rb < B
 g0:w0.heap.size<=g
 r0:w0.heap.size<=rb
theorem but_set (w:World) (g o:Nat) (v:Value):But g w (w.setCell ⟨g,o,none⟩ v):=by
 have h:=(Chg.refl (fun x=>x=g) w).cell (g:=g) (i:=o) (.inl rfl) v
 exact ⟨h.os,h.tape,h.output,h.size,fun b hb hne=>h.same b hb hne⟩
theorem RI.step {w0 w w1:World} {B g b vb rb len o k:Nat} {kd:Nat->Nat} {T vt:TypeId} {s:RSt} {e1:Int} {l1:List Int} {v:Value} {x:Int} (h:RI w0 B g b vb rb kd len T vt s w) (ho:kd o=k) (hl:o < len) (X:RdA w1 g b e1 l1) (hB:But g w w1) (hv:(k=0/\v=.int .u64 x)\/(k=1/\∃ t:Bool,v=.bool t/\x=if t then 1 else 0)\/(k=2/\∃ ao n c,v=.slice ao n c/\NatW w1 B ao n c x/\n<=255)) :
  RI w0 B g b vb rb kd len T vt (e1,l1,fun i=>if i=o then x else s.2.2 i) (w1.setCell ⟨rb,o,none⟩ v)/\Chg (fun y=>y=g\/y=rb) w (w1.setCell ⟨rb,o,none⟩ v):=by
 have hS:=but_set w1 rb o v
 have h1:=h.s1
 have h3:=h.g1
 have h4:=h.r1
 have hc1:Chg (· = g) w w1:=But.chg hB
 have hc2:Chg (· = rb) w1 (w1.setCell ⟨rb,o,none⟩ v):=But.chg hS
 obtain ⟨cs,hcl,hcb,hF⟩:=h.rc
 have b1:Below w0.heap.size w0 w1:=hB.below h.bel h.g0 (Nat.le_refl _)
 have off1:∀ y,B<=y->y < w.heap.size->w1.heap[y]? = w.heap[y]? := fun y hy hy2=>hB.block y hy2 (by omega)
 have off2:∀ y,B<=y->y < w1.heap.size->(w1.setCell ⟨rb,o,none⟩ v).heap[y]? = w1.heap[y]? := fun y hy hy2=>hS.block y hy2 (by omega)
 refine ⟨⟨X.offW (fun e=>h1 e.symm) h.s4 hS,(h.var.chg hc1 h.s2).chg hc2 h.s3,⟨cs.set o v,by rw [List.length_set]; exact hcl,(hcb.chg hc1 h1).setCell (i:=o) v,?_⟩,hS.below b1 h.r0 (Nat.le_refl _),h.s1,h.s2,h.s3,h.s4,h.g1,h.r1,h.g0,h.r0⟩,(hc1.mono (fun _ _ e=>.inl e)).trans hc2 (fun _ _ e=>.inr e)⟩
 have hF1:=hF.off hB.size off1
 intro i
 by_cases hi:i=o
 ·subst hi
  have hget:(cs.set i v)[i]? = some v:=by rw [List.getElem?_set_self (by omega)]
  rw [hget]
  simp only [if_true]
  refine ⟨fun hk => ?_,fun hk => ?_,fun hk => ?_⟩
  ·rcases hv with ⟨_,e⟩ | ⟨e,_⟩ | ⟨e,_⟩
   ·rw [e]
   ·omega
   ·omega
  ·rcases hv with ⟨e,_⟩ | ⟨_,t,e,e2⟩ | ⟨e,_⟩
   ·omega
   ·exact ⟨t,by rw [e],e2⟩
   ·omega
  ·rcases hv with ⟨e,_⟩ | ⟨e,_⟩ | ⟨_,ao,n,c,e,e2,e3⟩
   ·omega
   ·omega
   ·exact ⟨ao,n,c,by rw [e],e2.off hS.size off2,e3⟩
 ·have hget:(cs.set o v)[i]? = cs[i]? := by rw [List.getElem?_set_ne (fun e=>hi e.symm)]
  simp only [if_neg hi]
  rw [hget]
  exact (hF1.off hS.size off2) i
end Rc
end Go.Proofs.YtflenlpabmehoaaGreat
namespace Go.Proofs.YtflenlpabmehoaaGreat
namespace Rc
open Go.RowKit Go.Lib Pg
attribute [local go_sem] Oper.semAt_some
theorem FldR.low {w:World} {B B':Nat} {kd:Nat->Nat} {cs:List Value} {xs:Nat->Int} (h:FldR w B kd cs xs) (hB:B'<=B):FldR w B' kd cs xs:=fun o=>⟨(h o).1,(h o).2.1,fun hk=>by
 obtain ⟨ao,n,c,h1,h2,h3⟩:=(h o).2.2 hk
 exact ⟨ao,n,c,h1,h2.low hB,h3⟩⟩
end Rc
end Go.Proofs.YtflenlpabmehoaaGreat
namespace Go.Proofs.YtflenlpabmehoaaGreat
namespace Rc
open Go.RowKit Go.Lib Pg
attribute [local go_sem] Oper.semAt_some
end Rc
end Go.Proofs.YtflenlpabmehoaaGreat
namespace Go.Proofs.YtflenlpabmehoaaGreat
open Go.RowKit Lim
theorem lit2 (w:World) (a b:Int) (h:Octets [a,b]):ByA (w.alloc (.cells #[.int .u8 a,.int .u8 b] 5 (2,3))) w.heap.size (some ⟨w.heap.size,0,none⟩) 2 2 [a,b]:=⟨0,rfl,Nat.le_refl _,⟨by decide,fun e=>by cases e⟩,h,.inr rfl,fun i hi=>by
 have hb:(w.alloc (.cells #[.int .u8 a,.int .u8 b] 5 (2,3))).heap[w.heap.size]? = some (.cells #[.int .u8 a,.int .u8 b] 5 (2,3)):=by
  show (w.heap.push _)[w.heap.size]? = _
  simp
 simp only [World.cell?,hb]
 match i,hi with
 | 0,_=>rfl
 | 1,_=>rfl⟩
end Go.Proofs.YtflenlpabmehoaaGreat
namespace Go.Proofs.YtflenlpabmehoaaGreat
open Go.RowKit Lim
structure Stp where
 what:Int
 num:Int
 na:Option Addr
 nn:Nat
 nc:Nat
 V:Int
 ba:Option Addr
 bn:Nat
 bc:Nat
 bb:Nat
 bl:List Int
 most:Int
structure StpA (w:World) (s:Stp):Prop where
 w1 : -9223372036854775808<=s.what
 w2:s.what<=9223372036854775807
 n1:0<=s.num
 n2:s.num<=18446744073709551615
 nat:NatA w s.na s.nn s.nc s.V
 nlt:s.nn<=1099511627776 * 16
 byt:ByA w s.bb s.ba s.bn s.bc s.bl
 blt:s.bn<=1099511627776 * 128
 m1 : -9223372036854775808<=s.most
 m2:s.most<=9223372036854775807
theorem StpA.keep {w w':World} {s:Stp} (h:StpA w s) (hb:Below w.heap.size w w'):StpA w' s:=⟨h.w1,h.w2,h.n1,h.n2,h.nat.keep hb,h.nlt,h.byt.keep hb,h.blt,h.m1,h.m2⟩
structure StpC (w:World) (b o:Nat) (s:Stp):Prop where
 c0:w.cell? ⟨b,o,none⟩=some (.int .i64 s.what)
 c1:w.cell? ⟨b,o + 1,none⟩=some (.int .u64 s.num)
 c2:w.cell? ⟨b,o + 2,none⟩=some (.slice s.na s.nn s.nc)
 c3:w.cell? ⟨b,o + 3,none⟩=some (.slice s.ba s.bn s.bc)
 c4:w.cell? ⟨b,o + 4,none⟩=some (.int .i64 s.most)
theorem StpC.keep {w w':World} {b o:Nat} {s:Stp} (h:StpC w b o s) (hb:Below w.heap.size w w'):StpC w' b o s:=by
 have k:∀ {q:Nat} {v:Value},w.cell? ⟨b,q,none⟩=some v->w'.cell? ⟨b,q,none⟩=some v:=fun {q v} hc=>by
  have hlt:=cell_lt hc
  rw [World.cell?_of_block (w:=w) (hb.block b hlt)]
  exact hc
 exact ⟨k h.c0,k h.c1,k h.c2,k h.c3,k h.c4⟩
structure StepsA (w:World) (ao:Option Addr) (n:Nat) (ss:List Stp):Prop where
 len:ss.length=n
 le:n<=9223372036854775807
 get:∀ i s,ss[i]? = some s->∃ b o,ao=some ⟨b,o,none⟩/\StpC w b (o + i * 5) s/\StpA w s
theorem StepsA.keep {w w':World} {ao:Option Addr} {n:Nat} {ss:List Stp} (h:StepsA w ao n ss) (hb:Below w.heap.size w w'):StepsA w' ao n ss :=
 ⟨h.len,h.le,fun i s hs=>by
  obtain ⟨b,o,h1,h2,h3⟩:=h.get i s hs
  exact ⟨b,o,h1,h2.keep hb,h3.keep hb⟩⟩
theorem StepsA.at {w:World} {ao:Option Addr} {n:Nat} {ss:List Stp} (h:StepsA w ao n ss) {i:Nat} (hi:i < n):∃ s b o,ss[i]? = some s/\ao=some ⟨b,o,none⟩/\StpC w b (o + i * 5) s/\StpA w s:=by
 have hl:=h.len
 have e:ss[i]? = some ss[i]:=List.getElem?_eq_getElem (by omega)
 obtain ⟨b,o,h1,h2,h3⟩:=h.get i _ e
 exact ⟨_,b,o,e,h1,h2,h3⟩
end Go.Proofs.YtflenlpabmehoaaGreat
namespace Go.Proofs.YtflenlpabmehoaaGreat
open Go.RowKit Lim
theorem be_bval {l:List Int} (h:Octets l):be l.length (bval l)=l:=by
 refine bval_inj (be_oct _ _) h (be_length _ _) ?_
 have hb:=bval_bound h
 rw [be_val _ hb.1,Int.emod_eq_of_lt hb.1 hb.2]
theorem be_take {l:List Int} (h:Octets l) {m:Nat} (hm:m<=l.length):be m (bval (l.take m))=l.take m:=by
 have:=be_bval (l:=l.take m) (fun x hx=>h x (List.mem_of_mem_take hx))
 rwa [List.length_take,Nat.min_eq_left hm] at this
def One (err':Int) (L L':List Int) (laid:List Int->Prop):Prop:=(err'≠0/\L'=L)\/(err'=0/\∃ k,k<=L.length/\laid (L.take k)/\L'=L.drop k)
theorem one_fix {L:List Int} (h:Octets L) (m:Nat):One (rdE (pFix m L) 0) L (rdL (pFix m L) 0 L) (fun t=>be m (rdV 0 (pFix m L) 0)=t):=by
 by_cases hm:m<=L.length
 ·have e:pFix m L=.inr (bval (L.take m),m):=by unfold pFix; rw [if_pos hm]
  rw [e]
  exact .inr ⟨rfl,m,hm,be_take h hm,rfl⟩
 ·have e:pFix m L=.inl 40:=by unfold pFix; rw [if_neg hm]
  rw [e]
  exact .inl ⟨by decide,rfl⟩
theorem one_bool {L:List Int} (h:Octets L):One (rdE (pBool L) 0) L (rdL (pBool L) 0 L) (fun t=>be 1 (if rdV false (pBool L) 0 then 1 else 0)=t):=by
 by_cases hm:1<=L.length
 ·by_cases hx:1 < bval (L.take 1)
  ·have e:pBool L=.inl 41:=by unfold pBool; rw [if_pos hm,if_pos hx]
   rw [e]
   exact .inl ⟨by decide,rfl⟩
  ·have e:pBool L=.inr (bval (L.take 1) == 1,1):=by unfold pBool; rw [if_pos hm,if_neg hx]
   rw [e]
   refine .inr ⟨rfl,1,hm,?_,rfl⟩
   have hbt:=be_take h hm
   have h0:=(bval_bound (l:=L.take 1) (fun x hx=>h x (List.mem_of_mem_take hx))).1
   show be 1 (if (bval (L.take 1) == 1)=true then 1 else 0)=L.take 1
   generalize L.take 1=M at *
   by_cases h1:bval M=1
   ·rw [h1] at hbt ⊢
    exact hbt
   ·rw [show bval M=0 by omega] at hbt ⊢
    exact hbt
 ·have e:pBool L=.inl 40:=by unfold pBool; rw [if_neg hm]
  rw [e]
  exact .inl ⟨by decide,rfl⟩
theorem cntOf_nn {m:Nat} {L:List Int} (h:Octets L):((cntOf m L:Nat):Int)=bval (L.take m):=by
 unfold cntOf
 rw [Int.toNat_of_nonneg (bval_bound (fun x hx=>h x (List.mem_of_mem_take hx))).1]
theorem cnt_lay {m:Nat} {L:List Int} (h:Octets L) (hm:m<=L.length) (hc:m + cntOf m L<=L.length):cntd m ((L.drop m).take (cntOf m L))=L.take (m + cntOf m L):=by
 unfold cntd
 have e:(((L.drop m).take (cntOf m L)).length:Int)=bval (L.take m):=by
  rw [List.length_take,List.length_drop,Nat.min_eq_left (by omega)]
  exact cntOf_nn h
 rw [e,be_take h hm,List.take_add]
theorem one_nat {L:List Int} (h:Octets L):One (rdE (pNat L) 0) L (rdL (pNat L) 0 L) (fun t=>natE (rdV 0 (pNat L) 0) 0=0/\∀ K,natL (rdV 0 (pNat L) 0) 0 K=K ++ t):=by
 by_cases hm:1<=L.length
 ·by_cases hc:1 + cntOf 1 L<=L.length
  ·by_cases hz:0 < cntOf 1 L/\nth (L.drop 1) 0=0
   ·have e:pNat L=.inl 41:=by unfold pNat; rw [if_pos hm,if_pos hc,if_pos hz]
    rw [e]
    exact .inl ⟨by decide,rfl⟩
   ·have e:pNat L=.inr (bval ((L.drop 1).take (cntOf 1 L)),1 + cntOf 1 L):=by unfold pNat; rw [if_pos hm,if_pos hc,if_neg hz]
    have hcl:=cnt_lay h hm hc
    have hlt:((cntOf 1 L:Nat):Int) < 256:=by
     have:=(bval_bound (l:=L.take 1) (fun x hx=>h x (List.mem_of_mem_take hx))).2
     rw [List.length_take,Nat.min_eq_left hm] at this
     rw [cntOf_nn h]
     simpa using this
    have hoct:Octets ((L.drop 1).take (cntOf 1 L)):=fun x hx=>h x (List.mem_of_mem_drop (List.mem_of_mem_take hx))
    have hlen:((L.drop 1).take (cntOf 1 L)).length=cntOf 1 L:=by rw [List.length_take,List.length_drop]; omega
    have hB:natB (bval ((L.drop 1).take (cntOf 1 L)))=(L.drop 1).take (cntOf 1 L):=natB_unique (bval_bound hoct).1 ⟨hoct,fun hne=>by
     have hpos:0 < cntOf 1 L:=by
      rcases Nat.eq_zero_or_pos (cntOf 1 L) with h0 | h0
      ·exact absurd (by rw [h0]; simp) hne
      ·exact h0
     rw [nth_take hpos]
     exact fun h0=>hz ⟨hpos,h0⟩,rfl⟩
    rw [e]
    refine .inr ⟨rfl,_,hc,?_,rfl⟩
    show natE (bval ((L.drop 1).take (cntOf 1 L))) 0=0/\∀ K,natL (bval ((L.drop 1).take (cntOf 1 L))) 0 K=K ++ L.take (1 + cntOf 1 L)
    unfold natE natL
    rw [hB,if_pos (by omega)]
    refine ⟨rfl,fun K => ?_⟩
    rw [if_pos (by omega),hcl]
    rfl
  ·have e:pNat L=.inl 40:=by unfold pNat; rw [if_pos hm,if_neg hc]
   rw [e]
   exact .inl ⟨by decide,rfl⟩
 ·have e:pNat L=.inl 40:=by unfold pNat; rw [if_neg hm]
  rw [e]
  exact .inl ⟨by decide,rfl⟩
end Go.Proofs.YtflenlpabmehoaaGreat
namespace Go.Proofs.YtflenlpabmehoaaGreat
namespace Rc
open Go.RowKit Go.Lib Pg Lim
theorem cntd_len (m:Nat) (l:List Int):(cntd m l).length=m + l.length:=by
 unfold cntd
 rw [List.length_append,be_length]
theorem one1 {l:List Int} (h:Octets l) (k:Nat) (he:rdE (p1 k l) 0=0):enc1 k (rdV 0 (p1 k l) 0) ++ rdL (p1 k l) 0 l=l/\∃ m,rdL (p1 k l) 0 l=l.drop m:=by
 match k with
 | 0 =>
  rcases one_fix h 8 with ⟨h1,_⟩ | ⟨_,m,h2,h3,h4⟩
  ·exact absurd he h1
  ·show be 8 (rdV 0 (pFix 8 l) 0) ++ rdL (pFix 8 l) 0 l=l/\∃ m,rdL (pFix 8 l) 0 l=l.drop m
   rw [h3,h4]
   exact ⟨List.take_append_drop m l,m,rfl⟩
 | 1 =>
  have he':rdE (pBool l) 0=0:=by rw [<- pBoolI_E]; exact he
  rcases one_bool h with ⟨h1,_⟩ | ⟨_,m,h2,h3,h4⟩
  ·exact absurd he' h1
  ·show be 1 (rdV 0 (pBoolI l) 0) ++ rdL (pBoolI l) 0 l=l/\∃ m,rdL (pBoolI l) 0 l=l.drop m
   rw [pBoolI_V,pBoolI_L,h3,h4]
   exact ⟨List.take_append_drop m l,m,rfl⟩
 | k + 2 =>
  rcases one_nat h with ⟨h1,_⟩ | ⟨_,m,h2,⟨h3,h5⟩,h4⟩
  ·exact absurd he h1
  ·show cntd 1 (natB (fit (rdV 0 (pNat l) 0))) ++ rdL (pNat l) 0 l=l/\∃ m,rdL (pNat l) 0 l=l.drop m
   have hf:(natB (rdV 0 (pNat l) 0)).length < 256:=by
    unfold natE at h3
    split at h3
    ·assumption
    ·exact absurd h3 (by decide)
   have e:=h5 []
   unfold natL wrote at e
   rw [if_pos hf,if_pos rfl] at e
   unfold fit
   rw [if_pos hf]
   simp only [List.nil_append] at e
   rw [e,h4]
   exact ⟨List.take_append_drop m l,m,rfl⟩
theorem thr_cons {σ:Type} (nx:Nat->Nat->σ->σ) (p:Nat × Nat) (ks:List (Nat × Nat)) (s:σ):thr nx (p :: ks) s=thr nx ks (nx p.1 p.2 s):=rfl
theorem thr_bad (ks:List (Nat × Nat)):∀ s:RSt,s.1≠0->(thr rnx ks s).1=s.1:=by
 induction ks with
 | nil=>intro s _; rfl
 | cons p ks ih =>
  intro s hs
  have e:(rnx p.1 p.2 s).1=s.1:=rdE_bad hs
  rw [thr_cons,ih _ (by rw [e]; exact hs),e]
theorem thr_place (ks:List (Nat × Nat)) (o:Nat):∀ s:RSt,o ∉ ks.map Prod.snd->(thr rnx ks s).2.2 o=s.2.2 o:=by
 induction ks with
 | nil=>intro s _; rfl
 | cons p ks ih =>
  intro s ho
  rw [List.map_cons,List.mem_cons,not_or] at ho
  rw [thr_cons,ih _ ho.2]
  show (if o=p.2 then _ else _)=_
  rw [if_neg ho.1]
theorem octets_drop {l:List Int} (h:Octets l) (m:Nat):Octets (l.drop m):=fun x hx=>h x (List.mem_of_mem_drop hx)
theorem thr_one (ks:List (Nat × Nat)):∀ (l:List Int) (xs:Nat->Int),Octets l->(ks.map Prod.snd).Nodup->(thr rnx ks (0,l,xs)).1=0->∀ L,thr (pnx (thr rnx ks (0,l,xs)).2.2) ks L ++ (thr rnx ks (0,l,xs)).2.1=L ++ l:=by
 induction ks with
 | nil=>intro l xs _ _ _ L; rfl
 | cons p ks ih =>
  intro l xs ho hnd he L
  rw [List.map_cons,List.nodup_cons] at hnd
  rw [thr_cons] at he
  have e1:rdE (p1 p.1 l) 0=0:=by
   by_cases hz:rdE (p1 p.1 l) 0=0
   ·exact hz
   ·exact absurd ((thr_bad ks (rnx p.1 p.2 (0,l,xs)) hz).symm.trans he) hz
  obtain ⟨h1,m,h2⟩:=one1 ho p.1 e1
  have es:rnx p.1 p.2 (0,l,xs)=(0,rdL (p1 p.1 l) 0 l,fun i=>if i=p.2 then rdV 0 (p1 p.1 l) 0 else xs i):=by
   show (rdE (p1 p.1 l) 0,_,_)=_
   rw [e1]
  have e0:thr rnx (p :: ks) (0,l,xs)=thr rnx ks (0,rdL (p1 p.1 l) 0 l,fun i=>if i=p.2 then rdV 0 (p1 p.1 l) 0 else xs i):=by rw [thr_cons,es]
  rw [es] at he
  rw [e0]
  have ih':=ih _ _ (by rw [h2]; exact octets_drop ho m) hnd.2 he
  rw [thr_cons,ih']
  have ev:(thr rnx ks (0,rdL (p1 p.1 l) 0 l,fun i=>if i=p.2 then rdV 0 (p1 p.1 l) 0 else xs i)).2.2 p.2=rdV 0 (p1 p.1 l) 0:=by
   rw [thr_place ks p.2 _ hnd.1]
   show (if p.2=p.2 then _ else _)=_
   rw [if_pos rfl]
  show (L ++ enc1 p.1 _) ++ _=L ++ l
  rw [ev,List.append_assoc,h1]
def rng:Nat->Int->Prop
 | 0,x=>0<=x/\x < 18446744073709551616
 | 1,x=>x=0\/x=1
 | _,x=>0<=x
end Rc
end Go.Proofs.YtflenlpabmehoaaGreat
namespace Go.Proofs.YtflenlpabmehoaaGreat
namespace Rc
open Go.RowKit Go.Lib Pg
attribute [local go_sem] Oper.semAt_some
end Rc
end Go.Proofs.YtflenlpabmehoaaGreat
namespace Go.Proofs.YtflenlpabmehoaaGreat
namespace Rc
open Go.RowKit Go.Lib Pg
attribute [local go_sem] Oper.semAt_some
end Rc
end Go.Proofs.YtflenlpabmehoaaGreat
namespace Go.Proofs.YtflenlpabmehoaaGreat
open Go.RowKit Lim
def stB (s:Stp):Option (List Int) :=
 if s.what=0 then some (be 1 (s.num % 256))
 else if s.what=1 then some (be 4 (s.num % 4294967296))
 else if s.what=2 then some (be 8 s.num)
 else if s.what=3 then some (be 1 (if s.num % 2 == 1 then 1 else 0))
 else if s.what=4\/s.what=5 then (if (natB s.V).length < 256 then some (cntd 1 (natB s.V)) else none)
 else if s.what=6 then some (cntd 4 s.bl)
 else some []
def stO (s:Stp) (o:Option (List Int)):Option (List Int):=o.bind fun L=>(stB s).map (L ++ ·)
def laid (ss:List Stp):Option (List Int):=ss.foldl (fun o s=>stO s o) (some [])
structure WrO (w:World) (g:Nat) (o:Option (List Int)) (N:Nat):Prop where
 ex:∃ err L,WrA w g err L/\L.length<=N/\(∀ M,o=some M->err=0/\L=M)/\(o=none->err=42)
theorem WrO.lt {w:World} {g:Nat} {o:Option (List Int)} {N:Nat} (h:WrO w g o N):g < w.heap.size:=by
 obtain ⟨_,_,X,_⟩:=h.ex
 exact X.lt
theorem WrO.keep {w w':World} {g:Nat} {o:Option (List Int)} {N:Nat} (h:WrO w g o N) (hb:Below w.heap.size w w'):WrO w' g o N:=by
 obtain ⟨e,L,X,h1⟩:=h.ex
 exact ⟨e,L,X.keep hb,h1⟩
theorem WrO.off {w w':World} {g g':Nat} {o o':Option (List Int)} {N N':Nat} (h:WrO w g o N) (h':WrO w g' o' N') (hne:g≠g') (hb:But g' w w'):WrO w' g o N:=by
 obtain ⟨e,L,X,h1⟩:=h.ex
 obtain ⟨_,_,X',_⟩:=h'.ex
 exact ⟨e,L,X.off X' hne hb,h1⟩
theorem WrO.some {w:World} {g:Nat} {o:Option (List Int)} {N:Nat} (h:WrO w g o N) {L:List Int} (e:o=.some L):WrA w g 0 L/\L.length<=N:=by
 obtain ⟨err,M,X,h1,h2,_⟩:=h.ex
 obtain ⟨rfl,rfl⟩:=h2 L e
 exact ⟨X,h1⟩
theorem WrO.none {w:World} {g:Nat} {o:Option (List Int)} {N:Nat} (h:WrO w g o N) (e:o=.none):∃ L,WrA w g 42 L:=by
 obtain ⟨err,M,X,h1,_,h3⟩:=h.ex
 obtain rfl:=h3 e
 exact ⟨M,X⟩
theorem cntd_len (m:Nat) (l:List Int):(cntd m l).length=m + l.length:=by
 unfold cntd
 rw [List.length_append,be_length]
theorem WrO.lay {w':World} {g:Nat} {o:Option (List Int)} {N K:Nat} {err:Int} {L l:List Int} {s:Stp} (hs:stB s=.some l) (hK:l.length<=K) (h1:L.length<=N) (h2:∀ M,o=.some M->err=0/\L=M) (h3:o=.none->err=42) (X:WrA w' g err (wrote err L l)):WrO w' g (stO s o) (N + K):=by
 refine ⟨err,_,X,?_,fun M e => ?_,fun e => ?_⟩
 ·have:=wrote_len err L l
  omega
 ·cases o with
  | none=>cases e
  | some M' =>
   obtain ⟨rfl,rfl⟩:=h2 M' rfl
   unfold stO at e
   rw [hs] at e
   cases e
   exact ⟨rfl,rfl⟩
 ·cases o with
  | none=>exact h3 rfl
  | some M' =>
   unfold stO at e
   rw [hs] at e
   cases e
theorem natE_two {V err:Int} (h:(natB V).length < 256) (L:List Int):natE V err=err/\natL V err L=wrote err L (cntd 1 (natB V)):=by
 unfold natE natL
 rw [if_pos h,if_pos h]
 exact ⟨rfl,rfl⟩
theorem WrO.nat {w':World} {g:Nat} {o:Option (List Int)} {N K:Nat} {err:Int} {L:List Int} {s:Stp} (hw:s.what=4\/s.what=5) (hK:256<=K) (h1:L.length<=N) (h2:∀ M,o=.some M->err=0/\L=M) (h3:o=.none->err=42) (X:WrA w' g (natE s.V err) (natL s.V err L)):WrO w' g (stO s o) (N + K):=by
 have e:stB s=if (natB s.V).length < 256 then .some (cntd 1 (natB s.V)) else .none:=by
  unfold stB
  rcases hw with h | h<;>simp [h]
 by_cases hl:(natB s.V).length < 256
 ·rw [if_pos hl] at e
  rw [(natE_two hl L).1,(natE_two hl L).2] at X
  exact WrO.lay e (by rw [cntd_len]; omega) h1 h2 h3 X
 ·rw [if_neg hl] at e
  unfold natE natL at X
  rw [if_neg hl,if_neg hl] at X
  refine ⟨_,_,X,by omega,fun M hM => ?_,fun _ => ?_⟩
  ·unfold stO at hM
   rw [e] at hM
   cases o<;>cases hM
  ·unfold long
   cases o with
   | none=>rw [h3 rfl]; rfl
   | some M=>rw [(h2 M rfl).1]; rfl
end Go.Proofs.YtflenlpabmehoaaGreat
namespace Go.Proofs.YtflenlpabmehoaaGreat
open Go.RowKit Lim
theorem ld_u64 {w:World} {g o:Nat} {x:Int} (hc:w.cell? ⟨g,o,none⟩=some (.int .u64 x)):(loadVar 31 ⟨g,o,none⟩).run Tryz.prog w=.ok (.int .u64 x) w:=by go_simp
end Go.Proofs.YtflenlpabmehoaaGreat
namespace Go.Proofs.YtflenlpabmehoaaGreat
open Go.RowKit Lim
theorem MineB.shape {w:World} {B:Nat} {v:Value} {l:List Int} (h:MineB w B v l):∃ ao c,v=.slice ao l.length c:=by
 rcases h.2 with ⟨rfl,h0⟩ | ⟨g,cap,cur,rfl,_⟩
 ·exact ⟨none,0,by rw [h0]⟩
 ·exact ⟨_,_,rfl⟩
theorem IsB.zero {l:List Int} {V:Int} (h:IsB l V) (hl:l=[]):IsB l (256 * V + 0):=by
 subst hl
 have:=h.2.2
 simp [bval] at this
 subst this
 exact ⟨h.1,h.2.1,rfl⟩
end Go.Proofs.YtflenlpabmehoaaGreat
namespace Go.Proofs.YtflenlpabmehoaaGreat
open Go.RowKit Lim
structure Byt (B:Nat) (w w':World):Prop where
 os:w'.os=w.os
 tape:w'.tape=w.tape
 output:w'.output=w.output
 size:w.heap.size<=w'.heap.size
 low:∀ k:Nat,k < B->k < w.heap.size->w'.heap[k]? = w.heap[k]?
 typ:∀ (k:Nat) (c:Array Value) (t:TypeId) (f:Nat × Nat),w.heap[k]? = some (Obj.cells c t f)->t≠5->w'.heap[k]? = w.heap[k]?
theorem Byt.of {B:Nat} {w w':World} (h:Below w.heap.size w w'):Byt B w w':=⟨h.os,h.tape,h.output,h.size,fun k _ hk=>h.block k hk,fun k _ _ _ hc _=>h.block k (lt_of_block hc)⟩
theorem Byt.trans {B:Nat} {w w1 w2:World} (h:Byt B w w1) (h':Byt B w1 w2):Byt B w w2:=⟨h'.os.trans h.os,h'.tape.trans h.tape,h'.output.trans h.output,Nat.le_trans h.size h'.size,
 fun k hk hs=>(h'.low k hk (Nat.lt_of_lt_of_le hs h.size)).trans (h.low k hk hs),fun k c t f hc ht=>(h'.typ k c t f (by rw [h.typ k c t f hc ht]; exact hc) ht).trans (h.typ k c t f hc ht)⟩
theorem Byt.grown {B n:Nat} {w w':World} {v:Value} {xs:List Value} (ho:w.ownsRow B 5 1 v n xs) (h:w.grownBy w' v.ownBlock):Byt B w w':=by
 refine ⟨h.os,h.tape,h.output,h.size,fun k hk hs=>h.block k hs fun e => ?_,fun k c t f hc ht=>h.block k (lt_of_block hc) fun e => ?_⟩
 ·have:=(ho.lt k e.symm).1
  omega
 ·rcases ho.2 with ⟨rfl,_⟩ | ⟨g,cap,cur,rfl,_,hh,_⟩
  ·cases e
  ·simp [Value.ownBlock] at e
   subst e
   rw [hh] at hc
   cases hc
   exact ht rfl
theorem Byt.below {B A:Nat} {w0 w w':World} (h:Byt B w w') (b:Below A w0 w) (hA:A<=B) (hs:A<=w0.heap.size):Below A w0 w' :=
 ⟨h.os.trans b.os,h.tape.trans b.tape,h.output.trans b.output,Nat.le_trans b.size h.size,fun k hk=>(h.low k (by omega) (Nat.lt_of_lt_of_le (Nat.lt_of_lt_of_le hk hs) b.size)).trans (b.block k hk)⟩
theorem Pc.byt {B:Nat} {w w':World} {p:Option Addr} {ps:List Int} (h:Pc w p ps) (b:Byt B w w'):Pc w' p ps:=by
 induction h using Pc.ind with
 | nil=>exact .nil
 | cons hb hl _ ih=>exact .cons ⟨by rw [b.typ _ _ _ _ hb.blk (by decide)]; exact hb.blk⟩ hl ih
theorem WrO.byt {B:Nat} {w w':World} {g:Nat} {o:Option (List Int)} {N:Nat} (h:WrO w g o N) (b:Byt B w w'):WrO w' g o N:=by
 obtain ⟨e,L,X,h1⟩:=h.ex
 obtain ⟨p,ps,lat,u,X',P,hu,hL⟩:=X.ex
 exact ⟨e,L,⟨p,ps,lat,u,⟨X'.len,by rw [b.typ _ _ _ _ X'.blk (by decide)]; exact X'.blk⟩,P.byt b,hu,hL⟩,h1⟩
theorem RdA.byt {B:Nat} {w w':World} {g bb:Nat} {err:Int} {L:List Int} (h:RdA w g bb err L) (hb:L=[]\/bb < B) (b:Byt B w w'):RdA w' g bb err L:=by
 obtain ⟨ao,n,c,X,A⟩:=h.ex
 obtain ⟨o,h1,h2,h3,h4,h5⟩:=A.ex
 refine ⟨ao,n,c,⟨by rw [b.typ _ _ _ _ X.blk (by decide)]; exact X.blk⟩,o,h1,h2,h3,h4,h5.loc,fun i hi => ?_⟩
 have hc:=h5.cell i hi
 rcases hb with e | e
 ·subst e; simp at hi
 ·rw [World.cell?_of_block (w:=w) (b.low bb e (cell_lt hc))]
  exact hc
structure ByR (w:World) (g n:Nat):Prop where
 ex:∃ cur,w.heap[g]? = some (.cells cur 5 (0,0))/\n<=cur.size/\∀ i,i < n->∃ x,cur[i]? = some (.int .u8 x)
theorem ByR.cell {w:World} {g n i:Nat} (h:ByR w g n) (hi:i < n):∃ x,w.cell? ⟨g,i,none⟩=some (.int .u8 x)/\w.frozen? ⟨g,i,none⟩=false:=by
 obtain ⟨cur,h1,h2,h3⟩:=h.ex
 obtain ⟨x,hx⟩:=h3 i hi
 exact ⟨x,by simp [World.cell?,h1,hx],by simp [World.frozen?,h1]⟩
theorem ByR.set {w:World} {g n i:Nat} (h:ByR w g n) (y:Int):ByR (w.setCell ⟨g,i,none⟩ (.int .u8 y)) g n:=by
 obtain ⟨cur,h1,h2,h3⟩:=h.ex
 refine ⟨cur.setIfInBounds i (.int .u8 y),?_,by simpa using h2,fun j hj => ?_⟩
 ·simp only [World.setCell,Array.getElem?_modify,if_true,h1]
  simp
 ·by_cases e:i=j
  ·subst e
   exact ⟨y,by rw [Array.getElem?_setIfInBounds]; simp; omega⟩
  ·obtain ⟨x,hx⟩:=h3 j hj
   exact ⟨x,by rw [Array.getElem?_setIfInBounds,if_neg e]; exact hx⟩
set_option maxHeartbeats 2000000 in
set_option maxRecDepth 100000 in
theorem put_any {w:World} {B n:Nat} {x:Int} {v:Value} {L:List Int} (hM:MineB w B v L) (hB:B<=w.heap.size) (hn:n<=8) (hL:L.length<=1099511627776) :
  Calls Tryz.prog 133 #[v,.int .i64 n,.int .u64 x] w fun e w'=>∃ v',e=.returned v'/\MineB w' B v' (L ++ be n x)/\Byt B w w':=by
 obtain ⟨i0,hi,hz0,hz1,hz2⟩:=info_parts info_u8
 have HI:Hid (Tryz.prog.info? 5=some i0/\i0.zero=some (.int .u8 0)/\i0.size=1/\i0.bytes=1):=⟨hi,hz0,hz1,hz2⟩
 have HM:=(show Hid _ from hM)
 have HBS:=(show Hid _ from hB)
 have hn':(n:Int)<=8:=by omega
 clear hi hz0 hz1 hz2 hM hB
 go_enter Tryz.func133,Tryz.ntmps133
 go_wp2_with fail
 go_loopw [0,7] (fun tv ti wr=>∃ j:Nat,j<=n/\ti=.int .i64 ((n:Int) - 1 - j)/\MineB wr B tv (L ++ (be n x).take j)/\Byt B w wr) (fun _ ti _=>(intOf ti + 1).toNat)
 case atStart=>exact ⟨0,Nat.zero_le _,by simp,by rw [List.take_zero,List.append_nil]; exact HM.out,Byt.of (Below.refl _ _)⟩
 case round =>
  obtain ⟨j,hj,rfl,hMj,hBj⟩:=hrel
  by_cases hlt:j < n
  ·obtain ⟨h,hh⟩:∃ h:Nat,(n:Int) - 1 - j=h:=⟨n - 1 - j,by omega⟩
   have hh':n - 1 - j=h:=by omega
   have hh8:h < 8:=by omega
   have HD:Hid ((be n x).take (j + 1)=(be n x).take j ++ [x / 2 ^ (8 * h) % 256]):=by
    have e1:(256:Int) ^ h=2 ^ (8 * h):=by rw [Int.pow_mul]; rfl
    show _=_
    rw [take_succ_nth (by rw [be_length]; exact hlt),be_nth n x j hlt,hh',e1]
   obtain ⟨M,hMd⟩:∃ M,M=L ++ (be n x).take j:=⟨_,rfl⟩
   rw [<- hMd] at hMj
   obtain ⟨q,hq⟩:∃ q,M.length=q:=⟨_,rfl⟩
   have hqL:q<=1099511627776 + 8:=by
    have:M.length=L.length + ((be n x).take j).length:=by rw [hMd,List.length_append]
    rw [List.length_take,be_length] at this
    omega
   have HMD:=(show Hid _ from hMd)
   have HQ:=(show Hid _ from hq)
   obtain ⟨az,cz,rfl⟩:=hMj.shape
   have hal:=below_alloc wr (.cells #[.int .u8 (x / 2 ^ (8 * h) % 256)] 5)
   have hown:(wr.alloc (.cells #[.int .u8 (x / 2 ^ (8 * h) % 256)] 5)).ownsRow B 5 1 (.slice az M.length cz) M.length (M.map (Value.int .u8)):=mineB_keep hMj hal
   rw [hq] at hown ⊢
   have HBJ:=(show Hid _ from hBj.trans (Byt.of hal))
   have HSZ:Hid (B<=(wr.alloc (.cells #[.int .u8 (x / 2 ^ (8 * h) % 256)] 5)).heap.size):=Nat.le_trans HBS.out (Nat.le_trans hBj.size hal.size)
   have hsrc:∀ q u,[Value.int .u8 (x / 2 ^ (8 * h) % 256)][q]? = some u->(wr.alloc (.cells #[.int .u8 (x / 2 ^ (8 * h) % 256)] 5)).cell? ((⟨wr.heap.size,0,none⟩:Addr).add q)=some u:=fun q u hu=>by
    match q,hu with
    | 0,hu =>
     cases hu
     have hb:=(box_new wr [Value.int .u8 (x / 2 ^ (8 * h) % 256)] 5).blk
     simp only [World.cell?,Addr.add,if_true,hb]
     rfl
    | q + 1,hu=>simp at hu
   clear hMj hBj hal hh' hq hMd
   rw [hh]
   go_wp2_with (at_builtin; refine wpList_append_own _ rfl _ _ 57 rfl B 5 i0 (.int .u8 0) 1 1 under_bytes HI.out.1 HI.out.2.1 HI.out.2.2.1 HI.out.2.2.2 rfl (by decide) _ _ _ rfl hown ⟨wr.heap.size,0,none⟩ 1 1 [Value.int .u8 (x / 2 ^ (8 * h) % 256)] rfl rfl ?c1 ?c2 ?c3 ?c4 ?c5 ?_)
   case c1=>exact hsrc
   case c2=>intro u hu; rw [List.mem_singleton] at hu; subst hu; rfl
   case c3=>unfold maxLen; omega
   case c4=>omega
   case c5=>exact HSZ.out
   intro v' w2 hown' hgrow _
   have HBY:=(show Hid _ from HBJ.out.trans (Byt.grown hown hgrow))
   have HM2:Hid (MineB w2 B v' (L ++ (be n x).take (j + 1))):=by
    show w2.ownsRow _ _ _ _ _ _
    have e:(L ++ (be n x).take (j + 1))=M ++ [x / 2 ^ (8 * h) % 256]:=by rw [HD.out,HMD.out,List.append_assoc]
    rw [e,List.length_append,HQ.out,List.map_append]
    exact hown'
   clear hown hown' hgrow hsrc
   go_wp2
   exact ⟨⟨j + 1,by omega,by go_num,HM2.out,HBY.out⟩,by simp [intOf]⟩
  ·obtain rfl:j=n:=by omega
   have HM2:Hid (MineB wr B u0 (L ++ be j x)):=by
    have:=hMj
    rw [List.take_of_length_le (by rw [be_length]; exact Nat.le_refl _)] at this
    exact this
   have HBY:=(show Hid _ from hBj)
   have e1:(j:Int) - 1 - j = -1:=by omega
   rw [e1]
   clear hMj hBj
   go_wp2
   go_ret
   exact ⟨_,rfl,HM2.out,HBY.out⟩
end Go.Proofs.YtflenlpabmehoaaGreat
namespace Go.Proofs.YtflenlpabmehoaaGreat
open Go.RowKit Lim
structure RfA (w:World) (g b:Nat) (err:Int) (l:List Int):Prop where
 ex:∃ ao n c,Box w g [.slice ao n c,.int .i64 err] 194/\ByA w b ao n c l
theorem RfA.keep {w w':World} {g b:Nat} {err:Int} {l:List Int} (h:RfA w g b err l) (hb:Below w.heap.size w w'):RfA w' g b err l:=by
 obtain ⟨ao,n,c,h1,h2⟩:=h.ex
 exact ⟨ao,n,c,h1.keep hb,h2.keep hb⟩
theorem no_u8f (err:Int) (ao:Option Addr) (n c:Nat):∀ v∈[Value.slice ao n c,Value.int .i64 err],∀ x,v≠.int .u8 x:=fun v hv x e=>by
 rcases List.mem_cons.1 hv with h | h
 ·subst h; cases e
 ·rw [List.mem_singleton] at h; subst h; cases e
theorem RfA.lt {w:World} {g b:Nat} {err:Int} {l:List Int} (h:RfA w g b err l):g < w.heap.size:=by
 obtain ⟨_,_,_,X,_⟩:=h.ex
 exact X.lt
theorem RfA.oct {w:World} {g b:Nat} {err:Int} {l:List Int} (h:RfA w g b err l):Octets l:=by
 obtain ⟨_,_,_,_,A⟩:=h.ex
 obtain ⟨o,_,_,_,h4,_⟩:=A.ex
 exact h4
theorem RfA.len {w:World} {g b:Nat} {err:Int} {l:List Int} (h:RfA w g b err l):l.length<=9223372036854775807:=by
 obtain ⟨_,_,_,_,A⟩:=h.ex
 obtain ⟨o,_,_,⟨_,_⟩,_,_⟩:=A.ex
 omega
theorem but_set (w:World) (g k:Nat) (v:Value):But g w (w.setCell ⟨g,k,none⟩ v):=⟨rfl,rfl,rfl,by rw [size_set]; exact Nat.le_refl _,fun _ _ h2=>Below.heap_setCell _ _ _ _ h2⟩
end Go.Proofs.YtflenlpabmehoaaGreat
namespace Go.Proofs.YtflenlpabmehoaaGreat
open Go.RowKit Lim
end Go.Proofs.YtflenlpabmehoaaGreat
namespace Go.Proofs.YtflenlpabmehoaaGreat
open Go.RowKit Lim
theorem RfA.err {w:World} {g b n c:Nat} {ao:Option Addr} {l:List Int} (e:Int) (X:Box w g [.slice ao n c,.int .i64 0] 194) (A:ByA w b ao n c l) :
  RfA (w.drew.setCell ⟨g,1,none⟩ (.int .i64 e)) g b e l/\But g w (w.drew.setCell ⟨g,1,none⟩ (.int .i64 e)):=by
 have hd:Below w.heap.size w w.drew:=(Below.refl _ _).drew
 have H:But g w.drew (w.drew.setCell ⟨g,1,none⟩ (.int .i64 e)):=but_set _ _ _ _
 exact ⟨⟨_,_,_,box_put1 X.drew _,(A.keep hd).but X.drew (no_u8f _ _ _ _) H⟩,(But.of hd).trans H⟩
end Go.Proofs.YtflenlpabmehoaaGreat
namespace Go.Proofs.YtflenlpabmehoaaGreat
open Go.RowKit Lim
theorem RfA.put {w:World} {g b G:Nat} {err:Int} {l:List Int} (h:RfA w g b err l) {v u:Value} {t:TypeId} (s:Slot w G v t) (hG:G≠g) (hv:∀ x,v≠.int .u8 x):RfA (w.setCell ⟨G,0,none⟩ u) g b err l:=by
 obtain ⟨ao,n,c,X,A⟩:=h.ex
 refine ⟨ao,n,c,⟨?_⟩,A.box s.bx (fun v' hv'=>by rw [List.mem_singleton] at hv'; subst hv'; exact hv) fun k hk=>Below.heap_setCell _ _ _ k hk⟩
 rw [Below.heap_setCell _ _ _ g hG.symm]
 exact X.blk
end Go.Proofs.YtflenlpabmehoaaGreat
namespace Go.Proofs.YtflenlpabmehoaaGreat
namespace Rc
open Go.RowKit Go.Lib Pg Lim
attribute [local go_sem] Oper.semAt_some
end Rc
end Go.Proofs.YtflenlpabmehoaaGreat
namespace Go.Proofs.YtflenlpabmehoaaGreat
namespace Rc
open Go.RowKit Go.Lib Pg Lim
attribute [local go_sem] Oper.semAt_some
end Rc
end Go.Proofs.YtflenlpabmehoaaGreat
namespace Go.Proofs.YtflenlpabmehoaaGreat
namespace Rc
open Go.RowKit Go.Lib Pg Lim
theorem endE_zero {err:Int} {l:List Int} (h:endE err l=0):err=0/\l=[]:=by
 unfold endE at h
 split at h
 ·rename_i he
  split at h
  ·rename_i hl
   exact ⟨he,List.eq_nil_of_length_eq_zero hl⟩
  ·exact absurd h (by decide)
 ·exact absurd h (by assumption)
theorem ones (ks:List (Nat × Nat)) (l:List Int) (ho:Octets l) (hnd:(ks.map Prod.snd).Nodup) (h:endE (thr rnx ks (0,l,fun _=>0)).1 (thr rnx ks (0,l,fun _=>0)).2.1=0):thr (pnx (thr rnx ks (0,l,fun _=>0)).2.2) ks []=l:=by
 obtain ⟨h1,h2⟩:=endE_zero h
 have:=thr_one ks l (fun _=>0) ho hnd h1 []
 rw [h2,List.append_nil,List.nil_append] at this
 exact this
end Rc
end Go.Proofs.YtflenlpabmehoaaGreat
namespace Go.Proofs.YtflenlpabmehoaaGreat
open Go.RowKit Lim
theorem AtB.byt {B:Nat} {w w':World} {ao:Option Addr} {b o:Nat} {l:List Int} (h:AtB w ao b o l) (hb:l=[]\/b < B) (k:Byt B w w'):AtB w' ao b o l :=
 ⟨h.loc,fun i hi=>by
  have hc:=h.cell i hi
  rcases hb with e | e
  ·subst e; simp at hi
  ·rw [World.cell?_of_block (w:=w) (k.low b e (cell_lt hc))]
   exact hc⟩
end Go.Proofs.YtflenlpabmehoaaGreat
namespace Go.Proofs.YtflenlpabmehoaaGreat
namespace Rc
open Go.RowKit Go.Lib Pg Lim
attribute [local go_sem] Oper.semAt_some
theorem Blk.byt {B:Nat} {w w':World} {g:Nat} {cs:List Value} {t:TypeId} (h:Blk w g cs t) (b:Byt B w w') (ht:t≠5):Blk w' g cs t:=⟨by rw [b.typ g _ t _ h.blk ht]; exact h.blk⟩
end Rc
end Go.Proofs.YtflenlpabmehoaaGreat
